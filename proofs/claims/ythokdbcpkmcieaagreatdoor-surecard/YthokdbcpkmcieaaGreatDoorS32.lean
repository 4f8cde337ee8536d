/- EarO4 BrdW1 BrdW2 -/
import Derived.Test.YthokdbcpkmcieaaGreatDoorS31
import Derived.Test.YthokdbcpkmcieaaGreatDoorS28
import Derived.WalkSpells
import Derived.WalkLawsBesides
import Derived.OwnWalk
import Derived.BigGuard
import Derived.BigCall
import Derived.Laws.Rows
set_option maxRecDepth 200000
set_option maxHeartbeats 8000000
namespace Go.Proofs.YthokdbcpkmcieaaGreatDoor
open Go Go.RowKit
theorem EarO.reset {w:World}{eb o:Nat}{s:EarS}(h:EarO w eb o s):EarO ((w.setCell ⟨eb,o,none⟩ (.int .i64 1)).setCell ⟨eb,o+83,none⟩ (.int .i64 0)) eb o ⟨1,[]⟩:=by
 have h83:(w.setCell ⟨eb,o,none⟩ (.int .i64 1)).cell? ⟨eb,o+83,none⟩=some (.int .i64 (s.ks.length:Int)):=by
  rw [World.cell?_setCell_other _ _ _ _ (by simp)];exact h.c83
 refine ⟨?_,World.cell?_setCell_same _ _ _ h83,fun i hi=>?_,fun i hi=>by simp at hi,fun j=>by simp [h.fz j],by simpa [World.setCell] using h.lt,⟨(by decide:1≤2),by simp⟩⟩
 ·rw [World.cell?_setCell_other _ _ _ _ (by simp)];exact World.cell?_setCell_same _ _ _ h.c0
 ·rw [World.cell?_setCell_other _ _ _ _ (by simp <;> omega),World.cell?_setCell_other _ _ _ _ (by simp)];exact h.cb i hi
theorem hear_stepO {w w1 wn:World}{eb o:Nat}{st:EarS}{out:List (List UInt8)}{v v':Value}{ob:Obj}(hE:EarO w1 eb o st)(hR:w1.drew.ownsRow w.heap.size 9 1 v out.length (strs out))(hG:Within w w1 eb o 84){t':List UInt8}
  (hown:wn.ownsRow w.heap.size 9 1 v' (out.length+1) (strs out ++ [.string (txt t')])) (hgr:(w1.drew.alloc ob).grownBy wn v.ownBlock) (hlt:eb<w.heap.size) :
  EarO wn eb o st∧wn.ownsRow w.heap.size 9 1 v' (out.length+1) (strs out ++ [.string (txt t')])∧Within w wn eb o 84:=by
 have hz:=hG.grown.size
 have hz2:w1.heap.size+1≤wn.heap.size:=by have:=hgr.size;simpa using this
 have key:∀ k,k<w.heap.size→wn.heap[k]?=w1.heap[k]?:=fun k hk=>by
  rw [hgr.block k (by simp;omega) (fun e=>by have:=(hR.lt k e.symm).1;omega),Below.heap_alloc _ _ _ (by show k<w1.heap.size;omega)]
  rfl
 refine ⟨hE.kept (key eb hlt) (by omega),hown,?_⟩
 exact ⟨⟨hgr.os.trans hG.grown.os,hgr.tape.trans hG.grown.tape,hgr.output.trans hG.grown.output,by omega,fun k hk hne=>(key k hk).trans (hG.grown.block k hk hne)⟩,fun j hj=>(World.cell?_of_block (a:=⟨eb,j,none⟩) (key eb hlt)).trans (hG.cells j hj),fun j=>(World.frozen?_of_block (a:=⟨eb,j,none⟩) (key eb hlt)).trans (hG.fz j)⟩
theorem hear_o (eb o:Nat)(s:EarS)(bs:ByteArray)(w:World)(h:EarO w eb o s)(hbs:bs.size≤4000000000000) :
  Calls Tryz.prog 183 #[.pointer (some ⟨eb,o,none⟩),.string bs] w fun e w'=>∃ v,e=.returned v∧EarO w' eb o (Z0r s bs.data.toList).1∧w'.ownsRow w.heap.size 9 1 v (Z0r s bs.data.toList).2.length (strs (Z0r s bs.data.toList).2)∧Within w w' eb o 84:=by
 obtain ⟨i0,hi,hz0,hz1,hz2⟩:=Z26 Tryz.infoStr
 have hltw:=h.lt
 have hlen:bs.data.toList.length=bs.size:=by rw [Array.length_toList];rfl
 go_enter Tryz.func183,Tryz.ntmps183
 go_wp2_with fail
 go_loopw [5,9] (fun v i wr=>∃ k:Nat,k≤bs.size∧i=.int .i64 k∧EarO wr eb o (Z0r s (bs.data.toList.take k)).1∧wr.ownsRow w.heap.size 9 1 v (Z0r s (bs.data.toList.take k)).2.length (strs (Z0r s (bs.data.toList.take k)).2)∧Within w wr eb o 84) (fun _ i _=>bs.size-(intOf i).toNat)
 case atStart=>exact ⟨0,Nat.zero_le _,rfl,h,World.ownsRow_nil _ _ _ _,Within.refl _ _ _ _⟩
 case round =>
  obtain ⟨k,hk,rfl,hE,hR,hG⟩:=hrel
  by_cases hlt:k<bs.size
  ·have hN:Z0r s (bs.data.toList.take (k+1))=Z0P (Z0r s (bs.data.toList.take k)) bs[k]:=by
    rw [Z4D _ k (by omega),Z41,Z0M bs k hlt]
   have hcn:=Z2i s (bs.data.toList.take k)
   rw [List.length_take] at hcn
   obtain ⟨p,hp⟩:∃ p,Z0r s (bs.data.toList.take k)=p:=⟨_,rfl⟩
   rw [hp] at hE hR hN hcn
   obtain ⟨st,out⟩:=p
   simp only at hE hR hcn
   obtain ⟨b,hb⟩:∃ b,bs[k]=b:=⟨_,rfl⟩
   rw [hb] at hN
   obtain ⟨va,vm,vc,rfl⟩:=Z0z hR
   clear hp h
   by_cases h6:b=126
   ·subst h6
    have HI:=Z0a (fun w' (he:EarO w' eb o st)=>isWhole_o eb o st w' he)
    have HG:=Z0a hG
    by_cases hw:Z06 st=true
    ·have hN2:Z0P (st,out) 126=(⟨1,[]⟩,out ++ [st.ks.take (st.ks.length-2)]):=by unfold Z0P;rw [if_pos rfl];simp only;rw [if_pos hw]
     have HN:=Z0a (hN.trans hN2)
     have hge:3≤st.ks.length:=by
      unfold Z06 hasC at hw
      simp only [Bool.and_eq_true,decide_eq_true_eq] at hw
      exact hw.2.1
     obtain ⟨n,hn⟩:∃ n,st.ks.length=n+2:=⟨st.ks.length-2,by omega⟩
     have hle:=hE.ok.len
     obtain ⟨t,ht⟩:∃ t,st.ks.take (st.ks.length-2)=t:=⟨_,rfl⟩
     have htl:t.length=n:=by rw [←ht,List.length_take];omega
     have htb:BytesAt wr eb (o+1) t:=by rw [←ht];exact hE.ck.take _
     have HE:=Z0a hE
     clear hN hN2 hE hG
     go_wp2_with fail
     refine (HI.out _ HE.out).mono ?_
     rintro e w1 ⟨rfl,m,rfl⟩
     obtain ⟨w1,hw1⟩:∃ w1,wr.drewN m=w1:=⟨_,rfl⟩
     have e1:w1.heap=wr.heap:=by rw [←hw1];rfl
     have hE1:EarO w1 eb o st:=HE.out.kept (by rw [e1]) (by rw [e1];exact Nat.le_refl _)
     have hR1:w1.drew.ownsRow w.heap.size 9 1 (.slice va vm vc) out.length (strs out):=Z1k hR (fun j _=>by show w1.heap[j]?=_;rw [e1])
     have hG1:Within w w1 eb o 84:=by rw [←hw1];exact HG.out.drewN m
     have htb1:BytesAt w1.drew eb (o+1) t:=htb.kept (by show w1.heap[eb]?=_;rw [e1])
     rw [hw1]
     clear hw1 HE HG hR
     have c83:=hE1.c83
     rw [hn] at c83
     have f0:=hE1.fz o
     have f83:=hE1.fz (o+83)
     have hcv:(convert 32 9 (.slice (some ⟨eb,o+1,none⟩) n 82)).run Tryz.prog w1.drew=.ok (.string (txt t)) w1.drew:=by
      have:=run_convert_bytes_back (P:=Tryz.prog) w1.drew 32 9 5 ⟨eb,o+1,none⟩ 82 t Tryz.underlying32 Tryz.underlying5 Tryz.underlying9 (fun j hj=>by
       have hc:=htb1 j hj
       rw [List.getD_eq_getElem?_getD,List.getElem?_eq_getElem hj] at hc
       have ha:(⟨eb,o+1,none⟩:Addr).add j=⟨eb,o+1+j,none⟩:=by unfold Addr.add;split <;> simp_all
       rw [ha]
       exact hc)
      rw [htl] at this
      exact this
     have hno:(n:Int)≤82:=by omega
     have hwr:IntKind.i64.wrap (n:Int)=(n:Int):=by rw [IntKind.wrap_i64];omega
     have HE1:=Z0a hE1
     have HR1:=Z0a hR1
     have HG1:=Z0a hG1
     have hel:=hE1.lt
     have HT:=Z0a ht
     have hbase:w.heap.size≤w1.heap.size:=hG1.grown.size
     clear hE1 hR1 hG1 htb htb1 ht e1
     rw [hw]
     go_wp2_with fail
     go_region_law (refine Z1s rfl (.tmp 23) (.tmp 34) 22 rfl w.heap.size 9 i0 _ 1 16 Tryz.underlying22 hi hz0 hz1 hz2 rfl (by decide) (.slice va vm vc) out.length (strs out) (by simp [Act.eval]) (by exact HR1.out.alloc _) ⟨w1.heap.size,0,none⟩ 1 1 [.string (txt t)] (by simp [Act.eval]) rfl (cell_one_new _ _ _) (by intro u hu;simp at hu;subst hu;rfl) (by unfold maxLen;omega) (by omega) (by simp;omega) ?_;intro v' wn hown hgr hloc;obtain ⟨va',vn',vc',rfl⟩:=Z0z hown)
     all_goals
      have hst:=hear_stepO HE1.out HR1.out HG1.out hown hgr (by omega)
      have HS:=Z0a hst
      have fn0:=hst.1.fz o
      have fn83:=hst.1.fz (o+83)
      have cn0:=hst.1.c0
      have cn83:=hst.1.c83
      have hnl:=hst.1.lt
      clear hst hown hgr hloc c83 f0 f83
      go_wp2
      go_roundw
      case rel =>
       refine ⟨k+1,by omega,by go_num,?_,?_,?_⟩
       ·rw [HN.out];exact HS.out.1.reset
       ·rw [HN.out,HT.out]
        simp only [List.length_append,List.length_cons,List.length_nil,strs,List.map_append,List.map_cons,List.map_nil]
        exact Z1k HS.out.2.1 (fun j hj=>Z3K _ _ _ (by have:=(HS.out.2.1.lt j hj).1;omega))
       ·exact HS.out.2.2.trans ((Within.set _ _ _ _ _ _ (by omega) (by omega)).trans (Within.set _ _ _ _ _ _ (by omega) (by omega)))
      case measure=>simp [intOf];omega
    ·have hwf:Z06 st=false:=by simpa using hw
     have hN2:Z0P (st,out) 126=(⟨1,[]⟩,out):=by unfold Z0P;rw [if_pos rfl];simp only;rw [if_neg hw]
     have HN:=Z0a (hN.trans hN2)
     have HE:=Z0a hE
     clear hN hN2 hE hG
     go_wp2_with fail
     refine (HI.out _ HE.out).mono ?_
     rintro e w1 ⟨rfl,m,rfl⟩
     obtain ⟨w1,hw1⟩:∃ w1,wr.drewN m=w1:=⟨_,rfl⟩
     have e1:w1.heap=wr.heap:=by rw [←hw1];rfl
     have hE1:EarO w1 eb o st:=HE.out.kept (by rw [e1]) (by rw [e1];exact Nat.le_refl _)
     have hR1:w1.ownsRow w.heap.size 9 1 (.slice va vm vc) out.length (strs out):=Z1k hR (fun j _=>by rw [e1])
     have hG1:Within w w1 eb o 84:=by rw [←hw1];exact HG.out.drewN m
     rw [hw1]
     clear hw1 HE HG hR
     have c83:=hE1.c83
     have c0:=hE1.c0
     have f0:=hE1.fz o
     have f83:=hE1.fz (o+83)
     have hel:=hE1.lt
     have HE1:=Z0a hE1
     have HR1:=Z0a hR1
     have HG1:=Z0a hG1
     clear hE1 hR1 hG1 e1
     rw [hwf]
     go_wp2
     go_roundw
     case rel =>
      refine ⟨k+1,by omega,by go_num,?_,?_,?_⟩
      ·rw [HN.out];exact HE1.out.reset
      ·rw [HN.out]
       exact Z1k HR1.out (fun j hj=>Z3K _ _ _ (by have:=(HR1.out.lt j hj).1;omega))
      ·exact HG1.out.trans ((Within.set _ _ _ _ _ _ (by omega) (by omega)).trans (Within.set _ _ _ _ _ _ (by omega) (by omega)))
     case measure=>simp [intOf];omega
   ·have hb6:((b.toNat:Int) != 126)=true:=by
     have:¬ b.toNat=126:=fun e=>h6 (UInt8.toNat_inj.1 e)
     simp;omega
    have hN2:Z0P (st,out) b=(Z1A st b,out):=by unfold Z0P;rw [if_neg h6]
    have HN:=Z0a (hN.trans hN2)
    have HE:=Z0a hE
    have HR:=Z0a hR
    have HG:=Z0a hG
    clear hN hN2 hE hR hG
    go_wp2_with fail
    refine (take_o eb o st b _ HE.out).mono ?_
    rintro e w1 ⟨rfl,hE1,hg1⟩
    go_wp2
    go_roundw
    case rel =>
     refine ⟨k+1,by omega,by go_num,?_,?_,HG.out.trans hg1⟩
     ·rw [HN.out];exact hE1
     ·rw [HN.out]
      exact Z1k HR.out (fun j hj=>hg1.grown.block j (HR.out.lt j hj).2 (by have:=(HR.out.lt j hj).1;simp;omega))
    case measure=>simp [intOf];omega
  ·have hkk:k=bs.size:=by omega
   rw [hkk,← hlen,List.take_length] at hE hR
   have HQ:=Z0a (And.intro hE (And.intro hR hG))
   obtain ⟨va,vm,vc,rfl⟩:=Z0z hR
   clear hE hR hG
   go_wp2
   go_ret
   exact ⟨_,rfl,HQ.out.1,HQ.out.2.1,HQ.out.2.2⟩
theorem and_u8 (a b:Nat)(ha:a<256)(hb:b<256):bits .and .u8 (a:Int) (b:Int)=((a &&& b:Nat):Int):=by
 have hx:a &&& b<2 ^ 8:=Nat.and_lt_two_pow _ (by omega)
 have h1:(BitVec.ofInt 8 (a:Int)).toNat=a:=by
  rw [BitVec.ofInt_natCast,BitVec.toNat_ofNat];exact Nat.mod_eq_of_lt (by omega)
 have h2:(BitVec.ofInt 8 (b:Int)).toNat=b:=by
  rw [BitVec.ofInt_natCast,BitVec.toNat_ofNat];exact Nat.mod_eq_of_lt (by omega)
 show IntKind.u8.wrap ((BitVec.ofInt 8 (a:Int) &&& BitVec.ofInt 8 (b:Int)).toNat:Int)=_
 rw [BitVec.toNat_and,h1,h2,IntKind.wrap_u8]
 omega
theorem and_b (a b:UInt8):bits .and .u8 (a.toNat:Int) (b.toNat:Int)=((a &&& b).toNat:Int):=by
 rw [UInt8.toNat_and];exact and_u8 _ _ a.toNat_lt b.toNat_lt
theorem xor_b (a b:UInt8):bits .xor .u8 (a.toNat:Int) (b.toNat:Int)=((a ^^^ b).toNat:Int):=by
 rw [UInt8.toNat_xor];exact xor_u8 _ _ a.toNat_lt b.toNat_lt
structure StoAt (w:World) (bb:Nat) (p:Pow) (mem:List UInt8):Prop where
 c1:w.cell? ⟨bb,1,none⟩=some (.bool p.cut)
 c2:w.cell? ⟨bb,2,none⟩=some (.int .i64 (p.left:Int))
 c3:w.cell? ⟨bb,3,none⟩=some (.int .u8 (p.mask.toNat:Int))
 cm:BytesAt w bb 4 mem
 len:mem.length=1264
 pl:p.left≤9223372036854775807
 fz:∀ j,w.frozen? ⟨bb,j,none⟩=false
 lt:bb<w.heap.size
theorem StoAt.same {w w':World}{bb:Nat}{p:Pow}{mem:List UInt8}(h:StoAt w bb p mem)(e:∀ j,1≤j→j<1268→w'.cell? ⟨bb,j,none⟩=w.cell? ⟨bb,j,none⟩)(hf:∀ j,w'.frozen? ⟨bb,j,none⟩=w.frozen? ⟨bb,j,none⟩)(hz:w.heap.size≤w'.heap.size):StoAt w' bb p mem :=
 ⟨(e _ (by omega) (by omega)).trans h.c1,(e _ (by omega) (by omega)).trans h.c2,(e _ (by omega) (by omega)).trans h.c3,
  fun i hi=>by have:=h.len;exact (e _ (by omega) (by omega)).trans (h.cm i hi),h.len,h.pl,fun j=>(hf j).trans (h.fz j),Nat.lt_of_lt_of_le h.lt hz⟩
theorem StoAt.kept {w w':World}{bb:Nat}{p:Pow}{mem:List UInt8}(h:StoAt w bb p mem)(e:w'.heap[bb]?=w.heap[bb]?)(hz:w.heap.size≤w'.heap.size):StoAt w' bb p mem :=
 h.same (fun j _ _=>World.cell?_of_block (a:=⟨bb,j,none⟩) e) (fun j=>World.frozen?_of_block (a:=⟨bb,j,none⟩) e) hz
theorem StoAt.below {w w':World}{bb:Nat}{p:Pow}{mem:List UInt8}(h:StoAt w bb p mem)(hb:Below w.heap.size w w'):StoAt w' bb p mem:=h.kept (hb.block bb h.lt) hb.size
theorem StoAt.setByte {w:World}{bb:Nat}{p:Pow}{mem:List UInt8}(h:StoAt w bb p mem)(i:Nat)(hi:i<1264)(x:UInt8):StoAt (w.setCell ⟨bb,4+i,none⟩ (.int .u8 (x.toNat:Int))) bb p (mem.set i x):=by
 have hl:=h.len
 have ho:∀ j,j≠4+i→(w.setCell ⟨bb,4+i,none⟩ (.int .u8 (x.toNat:Int))).cell? ⟨bb,j,none⟩=w.cell? ⟨bb,j,none⟩:=fun j hj=>World.cell?_setCell_other _ _ _ _ (by simp <;> omega)
 refine ⟨(ho 1 (by omega)).trans h.c1,(ho 2 (by omega)).trans h.c2,(ho 3 (by omega)).trans h.c3,fun k hk=>?_,by simp [hl],h.pl,fun j=>by simp [h.fz j],by simpa [World.setCell] using h.lt⟩
 simp only [List.length_set] at hk
 by_cases e:k=i
 ·subst e
  rw [World.cell?_setCell_same _ _ _ (h.cm k hk)]
  simp [List.getD_eq_getElem?_getD,hk]
 ·rw [ho (4+k) (by omega),h.cm k hk]
  simp only [List.getD_eq_getElem?_getD]
  rw [List.getElem?_set_ne (fun e'=>e e'.symm)]
theorem StoAt.setLeft {w:World}{bb:Nat}{p:Pow}{mem:List UInt8}(h:StoAt w bb p mem)(n:Nat)(hn:n≤9223372036854775807):StoAt (w.setCell ⟨bb,2,none⟩ (.int .i64 (n:Int))) bb ⟨p.cut,n,p.mask⟩ mem:=by
 have ho:∀ j,j≠2→(w.setCell ⟨bb,2,none⟩ (.int .i64 (n:Int))).cell? ⟨bb,j,none⟩=w.cell? ⟨bb,j,none⟩:=fun j hj=>World.cell?_setCell_other _ _ _ _ (by simp <;> omega)
 exact ⟨(ho 1 (by omega)).trans h.c1,World.cell?_setCell_same _ _ _ h.c2,(ho 3 (by omega)).trans h.c3,fun k hk=>(ho (4+k) (by omega)).trans (h.cm k hk),h.len,hn,fun j=>by simp [h.fz j],by simpa [World.setCell] using h.lt⟩
def failE:Ending:=.panicked [{ v:=.iface 275 (.agg #[]),recovered:=false }]
def endS (ok:Bool):Ending:=if ok=true then .returned (.tuple #[]) else failE
theorem Z3F {e:Ending}(h:e=endS false):e=.panicked [{ v:=.iface 275 (.agg #[]),recovered:=false }]:=h
theorem Z2G {e:Ending}(h:e=endS true):e=.returned (.tuple #[]):=h
def Z56 (w:World) (bb:Nat) (r:Pow × List UInt8 × Bool) (e:Ending) (w':World):Prop:=e=endS r.2.2∧StoAt w' bb r.1 r.2.1∧Within w w' bb 1 1267
theorem Z7g (bb:Nat)(p:Pow)(mem:List UInt8)(i:Nat)(x:UInt8)(w:World)(h:StoAt w bb p mem)(hi:i<1264) :
  Calls Tryz.prog 320 #[.pointer (some ⟨bb,1,none⟩),.pointer (some ⟨bb,4+i,none⟩),.int .u8 (x.toNat:Int)] w (Z56 w bb ((Z0l p (mem.getD i 0) x).1,mem.set i (Z0l p (mem.getD i 0) x).2.1,(Z0l p (mem.getD i 0) x).2.2)):=by
 have c1:=h.c1
 have c2:=h.c2
 have c3:=h.c3
 have ci:=h.cm i (by rw [h.len];exact hi)
 have f1:=h.fz 1
 have f2:=h.fz 2
 have fi:=h.fz (4+i)
 obtain ⟨c,hc⟩:∃ c,mem.getD i 0=c:=⟨_,rfl⟩
 rw [hc] at ci ⊢
 by_cases hcut:p.cut=false
 ·have e:Z0l p c x=(p,x,true):=by unfold Z0l;rw [if_pos hcut]
  rw [e]
  rw [hcut] at c1
  have HR:=Z0a (h.setByte i hi x)
  clear h e
  go_enter Tryz.func320,Tryz.ntmps320
  go_wp2
  refine bodyPost_ret (results_none rfl _ _ _) rfl ?_
  exact ⟨rfl,HR.out,Within.set _ _ _ _ _ _ (by omega) (by omega)⟩
 ·have hct:p.cut=true:=by simpa using hcut
  rw [hct] at c1
  by_cases h0:p.left=0
  ·have e:Z0l p c x=(p,mixF c x p.mask,false):=by unfold Z0l mixF;rw [if_neg hcut,if_pos h0]
   rw [e]
   have hz:((p.left:Int) == 0)=true:=by simp;omega
   obtain ⟨y,hy⟩:∃ y,(c ^^^ x).toNat=y:=⟨_,rfl⟩
   obtain ⟨z,hz2⟩:∃ z,((c ^^^ x) &&& p.mask).toNat=z:=⟨_,rfl⟩
   obtain ⟨u,hu⟩:∃ u,(mixF c x p.mask).toNat=u:=⟨_,rfl⟩
   have hx1:bits .xor .u8 (c.toNat:Int) (x.toNat:Int)=(y:Int):=by rw [←hy];exact xor_b c x
   have hx2:bits .and .u8 (y:Int) (p.mask.toNat:Int)=(z:Int):=by rw [←hy,← hz2];exact and_b (c ^^^ x) p.mask
   have hx3:bits .xor .u8 (c.toNat:Int) (z:Int)=(u:Int):=by rw [←hu,← hz2];exact xor_b c ((c ^^^ x) &&& p.mask)
   have HR:=Z0a (h.setByte i hi (mixF c x p.mask))
   rw [hu] at HR
   clear h e hc hy hz2 hu
   go_enter Tryz.func320,Tryz.ntmps320
   go_wp2
   go_region
   all_goals
    go_wp2
    exact ⟨rfl,rfl,HR.out.kept rfl (Nat.le_refl _),(Within.set _ _ _ _ _ _ (by omega) (by omega)).drew⟩
  ·have e:Z0l p c x=(⟨p.cut,p.left-1,p.mask⟩,x,true):=by unfold Z0l;rw [if_neg hcut,if_neg h0]
   obtain ⟨k,hk⟩:∃ k,p.left=k+1:=⟨p.left-1,by omega⟩
   rw [e,hk,show k+1-1=k by omega]
   have hpl:=h.pl
   have hz:((p.left:Int) == 0)=false:=by simp;omega
   have HR:=Z0a ((h.setLeft k (by omega)).setByte i hi x)
   have c2':w.cell? ⟨bb,2,none⟩=some (.int .i64 ((k:Int)+1)):=by rw [c2,hk];simp
   have hz':(((k:Int)+1) == 0)=false:=by simp;omega
   clear h e c2 hz hc
   go_enter Tryz.func320,Tryz.ntmps320
   go_wp2
   go_end0
   exact ⟨rfl,HR.out,(Within.set _ _ _ _ _ _ (by omega) (by omega)).trans (Within.set _ _ _ _ _ _ (by omega) (by omega))⟩
theorem erase_any (bb:Nat)(p:Pow)(mem:List UInt8)(i:Nat)(w:World)(h:StoAt w bb p mem)(hi:i<1264) :
  Calls Tryz.prog 305 #[.pointer (some ⟨bb,1,none⟩),.pointer (some ⟨bb,4+i,none⟩)] w (Z56 w bb ((Z0l p (mem.getD i 0) 255).1,mem.set i (Z0l p (mem.getD i 0) 255).2.1,(Z0l p (mem.getD i 0) 255).2.2)):=by
 have HC:=Z0a (Z7g bb p mem i 255 w h hi)
 obtain ⟨r,hr⟩:∃ r,((Z0l p (mem.getD i 0) 255).1,mem.set i (Z0l p (mem.getD i 0) 255).2.1,(Z0l p (mem.getD i 0) 255).2.2)=r:=⟨_,rfl⟩
 rw [hr] at HC ⊢
 clear hr h
 obtain ⟨p',m',ok⟩:=r
 go_enter Tryz.func305,Tryz.ntmps305
 go_wp2_with fail
 refine HC.out.mono ?_
 rintro e w1 ⟨he,h1,h2⟩
 have HQ:=Z0a (And.intro h1 h2)
 clear h1 h2 HC
 cases ok
 ·obtain rfl:=Z3F he
  go_wp2
  exact ⟨rfl,rfl,HQ.out.1,HQ.out.2⟩
 ·obtain rfl:=Z2G he
  go_wp2
  go_end0
  exact ⟨rfl,HQ.out.1,HQ.out.2⟩
theorem burn_any (bb:Nat)(p:Pow)(mem:List UInt8)(i:Nat)(x:UInt8)(w:World)(h:StoAt w bb p mem)(hi:i<1264) :
  Calls Tryz.prog 306 #[.pointer (some ⟨bb,1,none⟩),.pointer (some ⟨bb,4+i,none⟩),.int .u8 (x.toNat:Int)] w (Z56 w bb ((Z0l p (mem.getD i 0) (mem.getD i 0 &&& x)).1,mem.set i (Z0l p (mem.getD i 0) (mem.getD i 0 &&& x)).2.1,(Z0l p (mem.getD i 0) (mem.getD i 0 &&& x)).2.2)):=by
 have HC:=Z0a (Z7g bb p mem i (mem.getD i 0 &&& x) w h hi)
 have ci:=h.cm i (by rw [h.len];exact hi)
 obtain ⟨r,hr⟩:∃ r,((Z0l p (mem.getD i 0) (mem.getD i 0 &&& x)).1,mem.set i (Z0l p (mem.getD i 0) (mem.getD i 0 &&& x)).2.1,(Z0l p (mem.getD i 0) (mem.getD i 0 &&& x)).2.2)=r:=⟨_,rfl⟩
 rw [hr] at HC ⊢
 have ha:=and_b (mem.getD i 0) x
 obtain ⟨c,hc⟩:∃ c,(mem.getD i 0).toNat=c:=⟨_,rfl⟩
 obtain ⟨y,hy⟩:∃ y,(mem.getD i 0 &&& x).toNat=y:=⟨_,rfl⟩
 rw [hc] at ci ha
 rw [hy] at HC ha
 clear hr h hc hy
 obtain ⟨p',m',ok⟩:=r
 go_enter Tryz.func306,Tryz.ntmps306
 go_wp2_with fail
 refine HC.out.mono ?_
 rintro e w1 ⟨he,h1,h2⟩
 have HQ:=Z0a (And.intro h1 h2)
 clear h1 h2 HC
 cases ok
 ·obtain rfl:=Z3F he
  go_wp2
  exact ⟨rfl,rfl,HQ.out.1,HQ.out.2⟩
 ·obtain rfl:=Z2G he
  go_wp2
  go_end0
  exact ⟨rfl,HQ.out.1,HQ.out.2⟩
theorem Tryz.infoRec:(Tryz.prog.info? 139).map (·.size)=some 4:=by kernel_rfl
def recV (r:List UInt8):Value:=.agg #[.int .u8 ((r.getD 0 0).toNat:Int),.int .u8 ((r.getD 1 0).toNat:Int),.int .u8 ((r.getD 2 0).toNat:Int),.int .u8 ((r.getD 3 0).toNat:Int)]
theorem Z3L (w:World):Calls Tryz.prog 177 #[] w fun e w'=>e=.returned (.agg #[.int .u8 255,.int .u8 255,.int .u8 255,.int .u8 255])∧w'=w.alloc (.cells #[.int .u8 255,.int .u8 255,.int .u8 255,.int .u8 255] 139):=by
 go_enter Tryz.func177,Tryz.ntmps177
 go_wp2
 refine bodyPost_ret (results_cell_row rfl _ _ w.heap.size 139 #[.int .u8 255,.int .u8 255,.int .u8 255,.int .u8 255] (0,0) _ rfl (heap_alloc_new w _) Tryz.underlying139 rfl Tryz.infoRec) rfl ?_
 exact ⟨rfl,rfl⟩
theorem bytes_two (w:World)(a b:UInt8)(t:TypeId):BytesAt (w.alloc (.cells #[.int .u8 (a.toNat:Int),.int .u8 (b.toNat:Int)] t)) w.heap.size 0 [a,b]:=by
 have hc:∀ j,(w.alloc (.cells #[.int .u8 (a.toNat:Int),.int .u8 (b.toNat:Int)] t)).cell? ⟨w.heap.size,j,none⟩=#[Value.int .u8 (a.toNat:Int),.int .u8 (b.toNat:Int)][j]?:=fun j=>World.cell?_alloc_mark w _ t (0,0) j
 intro i hi
 rw [Nat.zero_add,hc]
 have:i=0∨i=1:=by simp at hi;omega
 rcases this with rfl | rfl <;> rfl
theorem Z68 (sb:Nat)(n:UInt8)(m:List UInt8)(w:World) :
  Calls Tryz.prog 230 #[.pointer (some ⟨sb,4,none⟩),.int .u8 (n.toNat:Int),.int .u8 1] w fun e w'=>e=.returned (recV (recF m n 1))∧Below w.heap.size w w':=by
 obtain ⟨c,hc⟩:∃ c,crcN [n,1]=c:=⟨_,rfl⟩
 have hcl:c<65536:=by rw [←hc];exact Z6y _
 have hr:recV (recF m n 1)=.agg #[.int .u8 (n.toNat:Int),.int .u8 1,.int .u8 ((c:Int)/256),.int .u8 ((c:Int)%256)]:=by
  have h1:(UInt8.ofNat (c/256)).toNat=c/256:=by rw [UInt8.toNat_ofNat'];omega
  have h2:(UInt8.ofNat (c%256)).toNat=c%256:=by rw [UInt8.toNat_ofNat'];omega
  show Value.agg #[.int .u8 (n.toNat:Int),.int .u8 1,.int .u8 ((UInt8.ofNat (crcN [n,1]/256)).toNat:Int),.int .u8 ((UInt8.ofNat (crcN [n,1]%256)).toNat:Int)]=_
  rw [hc,h1,h2]
  simp
 rw [hr]
 have HC:=Z0a (fun w' (hw:BytesAt w' (w.heap.size+1) 0 [n,1])=>Z4z (w.heap.size+1) 0 2 [n,1] w' (by simp) hw)
 have HB:=Z0a (bytes_two (w.alloc (.cells #[.int .u8 0,.int .u8 0,.int .u8 0,.int .u8 0] 139)) n 1 5)
 rw [World.alloc_size] at HB
 rw [hc] at HC
 clear hr hc
 go_enter Tryz.func230,Tryz.ntmps230
 go_wp2_with fail
 refine (HC.out _ HB.out).mono ?_
 rintro e w1 ⟨rfl,rfl⟩
 go_wp2
 refine bodyPost_ret (results_cell_row rfl _ _ w.heap.size 139 _ (0,0) _ rfl (heap_alloc2_old w _ _) Tryz.underlying139 rfl Tryz.infoRec) rfl ?_
 exact ⟨rfl,((Below.refl _ _).alloc (Nat.le_refl _) _).alloc (by simp) _⟩
theorem StoAt.page {w:World}{bb:Nat}{p:Pow}{mem:List UInt8}(h:StoAt w bb p mem)(n:Nat)(hn:n<16):BytesAt w bb (4+n*64) (Z0v mem n):=by
 have hl:=h.len
 intro i hi
 have hw:=Z10 mem (64*n) 64 i
 have hlen:(Z0v mem n).length=64:=Z3f mem (64*n) 64 (by omega)
 rw [hlen] at hi
 rw [if_pos hi] at hw
 have:=h.cm (64*n+i) (by omega)
 rw [show 4+n*64+i=4+(64*n+i) by omega,this]
 simp only [List.getD_eq_getElem?_getD]
 rw [Z3O,hw]
theorem Z2x {mem:List UInt8}(hl:mem.length=1264)(n:Nat)(hn:n<16):(Z0v mem n).length=64:=Z3f mem (64*n) 64 (by omega)
theorem bytes_cells {w:World}{g off:Nat}{l:List UInt8}(h:BytesAt w g off l):∀ j u,(Z0c l)[j]?=some u→w.cell? ((⟨g,off,none⟩:Addr).add j)=some u:=by
 intro j u hj
 obtain ⟨h1,rfl⟩:=Z5F l j u hj
 rw [Addr.add_lit]
 exact h j h1
theorem Z3H (l:List UInt8):∀ u∈Z0c l,u.oneCell'=true:=by
 intro u hu
 obtain ⟨m,_,rfl⟩:=List.mem_map.1 hu
 rfl
theorem own_two (w:World)(base:Nat)(hb:base≤w.heap.size)(x y:UInt8):(w.alloc (.cells #[.int .u8 (x.toNat:Int),.int .u8 (y.toNat:Int)] 5)).ownsRow base 5 1 (.slice (some ⟨w.heap.size,0,none⟩) 2 2) 2 (Z0c [x,y]) :=
 ⟨rfl,.inr ⟨w.heap.size,2,_,rfl,hb,heap_alloc_new w _,by decide,by decide,rfl,rfl⟩⟩
theorem Z7d (bb:Nat)(p:Pow)(mem:List UInt8)(n:UInt8)(w:World)(h:StoAt w bb p mem)(hn:n<16) :
  Calls Tryz.prog 230 #[.pointer (some ⟨bb,4,none⟩),.int .u8 (n.toNat:Int),.int .u8 2] w fun e w'=>e=.returned (recV (recF mem n 2))∧Below w.heap.size w w':=by
 obtain ⟨i0,hi,hz0,hz1,hz2⟩:=Z26 Tryz.infoU8E
 have hnn:=u16 hn
 have hpl:=Z2x h.len n.toNat hnn
 have hlt:=h.lt
 have hpg:=h.page n.toNat hnn
 obtain ⟨pg,hpe⟩:∃ pg,Z0v mem n.toNat=pg:=⟨_,rfl⟩
 have hof:ofRec mem n 2=[n,2]++pg:=by unfold ofRec;rw [if_pos rfl,hpe]
 rw [hpe] at hpl hpg
 obtain ⟨c,hc⟩:∃ c,crcN ([n,2]++pg)=c:=⟨_,rfl⟩
 have hcl:c<65536:=by rw [←hc];exact Z6y _
 have hr:recV (recF mem n 2)=.agg #[.int .u8 (n.toNat:Int),.int .u8 2,.int .u8 ((c:Int)/256),.int .u8 ((c:Int)%256)]:=by
  have h1:(UInt8.ofNat (c/256)).toNat=c/256:=by rw [UInt8.toNat_ofNat'];omega
  have h2:(UInt8.ofNat (c%256)).toNat=c%256:=by rw [UInt8.toNat_ofNat'];omega
  show Value.agg #[.int .u8 (n.toNat:Int),.int .u8 2,.int .u8 ((UInt8.ofNat (crcN (ofRec mem n 2)/256)).toNat:Int),.int .u8 ((UInt8.ofNat (crcN (ofRec mem n 2)%256)).toNat:Int)]=_
  rw [hof,hc,h1,h2]
  simp
 rw [hr]
 have HO:=Z0a (own_two (w.alloc (.cells #[.int .u8 0,.int .u8 0,.int .u8 0,.int .u8 0] 139)) (w.heap.size+1) (by simp) n 2)
 rw [World.alloc_size] at HO
 have hBh:((w.alloc (.cells #[.int .u8 0,.int .u8 0,.int .u8 0,.int .u8 0] 139)).alloc (.cells #[.int .u8 (n.toNat:Int),.int .u8 2] 5)).heap[w.heap.size]?=some (.cells #[.int .u8 0,.int .u8 0,.int .u8 0,.int .u8 0] 139):=heap_alloc2_old w _ _
 have hBw:Below w.heap.size w ((w.alloc (.cells #[.int .u8 0,.int .u8 0,.int .u8 0,.int .u8 0] 139)).alloc (.cells #[.int .u8 (n.toNat:Int),.int .u8 2] 5)):=((Below.refl _ _).alloc (Nat.le_refl _) _).alloc (by simp) _
 have HP:=Z0a (hpg.kept (w':=(w.alloc (.cells #[.int .u8 0,.int .u8 0,.int .u8 0,.int .u8 0] 139)).alloc (.cells #[.int .u8 (n.toNat:Int),.int .u8 2] 5)) (hBw.block bb hlt))
 have HW:=Z0a (And.intro hBh hBw)
 have hni:(n.toNat:Int)<16:=by omega
 have HCC:=Z0a hc
 have HL:=Z0a hpl
 clear hr hpg hof hBh hBw h hc hpe hpl
 go_enter Tryz.func230,Tryz.ntmps230
 go_wp2_with (at_builtin;refine wpList_append_own_at _ rfl _ _ 32 rfl (w.heap.size+1) 5 i0 _ 1 1 Tryz.underlying32 hi hz0 hz1 hz2 rfl (by decide) _ 2 _ rfl HO.out ⟨bb,4+n.toNat*64,none⟩ 64 64 (Z0c pg) rfl (by rw [Z0y];exact HL.out) (bytes_cells HP.out) (Z3H pg) (by unfold maxLen;omega) (by omega) (by simp) ?_;intro v' wn hown hgr _ hloc;obtain ⟨g,cap,rfl,hg1,hg2⟩:=Z2F hown (by omega))
 have hbt:BytesAt wn g 0 ([n,2]++pg):=Z6d (n:=66) (cap:=cap) (base:=w.heap.size+1) (by rw [Z1u];exact hown)
 have HK:=Z0a (Z4z g 0 cap ([n,2]++pg) wn (by simp [HL.out]) hbt)
 rw [HCC.out,show ([n,2]++pg).length=66 by simp [HL.out]] at HK
 replace hgr:World.grownBy ((w.alloc (.cells #[.int .u8 0,.int .u8 0,.int .u8 0,.int .u8 0] 139)).alloc (.cells #[.int .u8 (n.toNat:Int),.int .u8 2] 5)) wn (some (w.heap.size+1)):=hgr
 have hq:wn.heap[w.heap.size]?=some (.cells #[.int .u8 0,.int .u8 0,.int .u8 0,.int .u8 0] 139):=(hgr.block w.heap.size (by simp;omega) (by simp)).trans HW.out.1
 have hbl:Below w.heap.size w wn:=by
  have hb:=HW.out.2
  refine ⟨hgr.os.trans hb.os,hgr.tape.trans hb.tape,hgr.output.trans hb.output,Nat.le_trans hb.size hgr.size,fun k hk=>?_⟩
  rw [hgr.block k (by simp;omega) (by simp;omega),hb.block k hk]
 have HQ:=Z0a (And.intro hq hbl)
 have d0:wn.cell? ⟨w.heap.size,0,none⟩=some (.int .u8 0):=cell_of_row _ _ 0 _ _ (0,0) hq
 have d1:wn.cell? ⟨w.heap.size,1,none⟩=some (.int .u8 0):=cell_of_row _ _ 1 _ _ (0,0) hq
 have d2:wn.cell? ⟨w.heap.size,2,none⟩=some (.int .u8 0):=cell_of_row _ _ 2 _ _ (0,0) hq
 have d3:wn.cell? ⟨w.heap.size,3,none⟩=some (.int .u8 0):=cell_of_row _ _ 3 _ _ (0,0) hq
 have e0:=frozen_of_row wn w.heap.size 0 _ _ hq
 have e1:=frozen_of_row wn w.heap.size 1 _ _ hq
 have e2:=frozen_of_row wn w.heap.size 2 _ _ hq
 have e3:=frozen_of_row wn w.heap.size 3 _ _ hq
 clear hown hgr hloc hq hbl hbt
 refine HK.out.mono ?_
 rintro e w1 ⟨rfl,rfl⟩
 go_wp2
 refine bodyPost_ret (results_cell_row rfl _ _ w.heap.size 139 _ (0,0) _ rfl (heap_setCell_same _ _ _ _ _ _ (heap_setCell_same _ _ _ _ _ _ (heap_setCell_same _ _ _ _ _ _ (heap_setCell_same _ _ _ _ _ _ HQ.out.1)))) Tryz.underlying139 rfl Tryz.infoRec) rfl ?_
 exact ⟨rfl,(((HQ.out.2.setCell (p:=⟨w.heap.size,0,none⟩) (Nat.le_refl _) _).setCell (p:=⟨w.heap.size,1,none⟩) (Nat.le_refl _) _).setCell (p:=⟨w.heap.size,2,none⟩) (Nat.le_refl _) _).setCell (p:=⟨w.heap.size,3,none⟩) (Nat.le_refl _) _⟩
end Go.Proofs.YthokdbcpkmcieaaGreatDoor
