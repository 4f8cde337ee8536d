/- AsmK AsmL AsmM -/
import Derived.Test.YthokdbcpkmcieaaGreatDoorS23
import Derived.Defers
import Derived.Recover
set_option maxRecDepth 200000
set_option maxHeartbeats 8000000
namespace Go.Proofs.YthokdbcpkmcieaaGreatDoor
open Go Go.RowKit Go.Shelf Go.WideMaps Go.Maps
theorem Tryz.infoSt:(Tryz.prog.info? 130).map (fun i=>(i.zero,i.size,i.bytes))=some (some (.agg Zst),9,120):=by kernel_rfl
structure RA (w wr:World) (m:AMem) (b:Bk) (pb B ln:Nat) (mm:Int) (ls:List ByteArray) (sv:Value) (qs:List (St × Value × Value)) (a:Asm):Prop where
 asm:AsmAt wr m a
 psr:Psr wr m b pb
 sts:Sts wr m pb B sv qs
 chg:ChgM w wr m
 row:wr.heap[ln]?=some (.cells (ls.map Value.string).toArray 9 (0,0))
 mm:wr.cell? ⟨0,0,none⟩=some (.int .i64 mm)
 le:B≤wr.heap.size
structure RAt (w:World) (m:AMem) (b:Bk) (pb B ln:Nat):Prop where
 free:BkFree m b pb
 mlt:m.ab<w.heap.size∧m.ik<w.heap.size∧m.lk<w.heap.size∧m.sk<w.heap.size∧m.nb<w.heap.size
 lt:w.heap.size<pb∧pb<ln∧ln<B
 zero:Z19 m 0
theorem RAt.up {w:World}{m:AMem}{b:Bk}{pb B ln:Nat}(h:RAt w m b pb B ln){j:Nat}(hj:w.heap.size≤j):Z19 m j:=by
 have:=h.mlt
 exact ⟨by omega,by omega,by omega,by omega,by omega⟩
theorem RA.step {w wr w3 W4 w5 wn:World}{m:AMem}{b:Bk}{pb B ln:Nat}{mm:Int}{ls:List ByteArray}{sv sv':Value}{qs:List (St × Value × Value)}{a a':Asm}{st:St}{v kv:Value}{o:Obj}(h:RA w wr m b pb B ln mm ls sv qs a)(ht:RAt w m b pb B ln)
  (hg3:wr.grownBy w3 (some pb)) (hv3:VAt w3 wr.heap.size v st.x.vals) (hp3:P0 w3 pb b) (hk3:w3.ownsRow 0 111 1 kv st.x.ins.kinds.length (Z0m st.x.ins.kinds)) (hkp:∀ j,kv.ownBlock=some j→j<pb)
  (hb4:Below w3.heap.size w3 W4) (hc5:ChgM W4 w5 m) (ha5:AsmAt w5 m a') (hgn:(w5.alloc o).grownBy wn sv.ownBlock) (hown:wn.ownsRow B 130 9 sv' (qs.length+1) (stsC qs++stC st v kv)) (hloc:sv'.ownBlock=sv.ownBlock∨sv'.ownBlock=some (w5.alloc o).heap.size) :
  RA w wn m b pb B ln mm ls sv' (qs ++ [(st,v,kv)]) a':=by
 have z3:=hg3.size
 have z4:=hb4.size
 have z5:=hc5.size
 have zn:=hgn.size
 simp at zn
 have hle:=h.le
 have hlt:=ht.lt
 have hm:=ht.mlt
 have hsB:∀ g,sv.ownBlock=some g→B≤g∧g<wr.heap.size:=fun g hg=>h.sts.row.lt g hg
 have key2:∀ j,j<w3.heap.size→Z19 m j→(∀ g,sv.ownBlock=some g→j≠g)→wn.heap[j]?=w3.heap[j]?:=fun j hj hf hs=>by
  rw [hgn.block j (by simp;omega) (fun e=>hs j e.symm rfl),Below.heap_alloc _ _ _ (by omega),hc5.free (by omega) hf,hb4.block j hj]
 have key1:∀ j,j<wr.heap.size→j≠pb→Z19 m j→(∀ g,sv.ownBlock=some g→j≠g)→wn.heap[j]?=wr.heap[j]?:=fun j hj hp hf hs=>(key2 j (by omega) hf hs).trans (hg3.block j hj (fun e=>hp (Option.some.inj e)))
 have hA3:AsmAt w3 m a:=h.asm.kept (fun k hk=>hg3.block k (by rcases hk with rfl | rfl | rfl | rfl | rfl <;> omega) (fun e=>by have e2:=Option.some.inj e;rcases hk with rfl | rfl | rfl | rfl | rfl <;> omega))
 have hP3:Psr w3 m b pb:=⟨hp3,h.psr.book.at3 (hg3.block _ h.psr.book.lts.1 (fun e=>by have e2:=Option.some.inj e;have:=ht.free.lt;omega)) (hg3.block _ h.psr.book.lts.2.1 (fun e=>by have e2:=Option.some.inj e;have:=ht.free.lt;omega)) (hg3.block _ h.psr.book.lts.2.2 (fun e=>by have e2:=Option.some.inj e;have:=ht.free.lt;omega)),h.psr.ins.kept (fun j h1 h2 _=>hg3.block j h1 (fun e=>by have e2:=Option.some.inj e;omega)) ht.free.lt.2.2.2 ht.free.i⟩
 refine ⟨?_,?_,⟨?_,?_⟩,?_,?_,?_,by omega⟩
 ·refine ha5.kept (fun k hk=>?_)
  have hkw:k<w.heap.size:=by rcases hk with rfl | rfl | rfl | rfl | rfl <;> omega
  rw [hgn.block k (by simp;omega) (fun e=>by have:=(hsB k e.symm).1;omega),Below.heap_alloc _ _ _ (by omega)]
 ·exact hP3.kept (by omega) (fun j h1 h2 h3=>key2 j h1 h3 (fun g hg e=>by have:=(hsB g hg).1;omega)) ht.free
 ·have e1:stsC (qs ++ [(st,v,kv)])=stsC qs++stC st v kv:=by
   unfold stsC
   rw [List.flatMap_append]
   simp
  rw [List.length_append,e1]
  exact hown
 ·intro q hq
  have hs':∀ g,sv'.ownBlock=some g→sv.ownBlock=some g∨wr.heap.size≤g:=fun g hg=>by
   rcases hloc with e | e
   ·exact .inl (e ▸ hg)
   ·rw [e] at hg
    have e2:=Option.some.inj hg
    simp at e2
    exact .inr (by omega)
  rcases List.mem_append.1 hq with hq | hq
  ·exact (h.sts.each q hq).kept (by omega) (by omega) ⟨by omega,by omega,by omega,by omega,by omega⟩ key1 (fun g hg=>(hsB g hg).1) hs'
  ·rw [List.mem_singleton.1 hq]
   refine ⟨⟨wr.heap.size,w3.heap.size,hle,by omega,⟨w3,rfl,hv3,fun k k1 k2=>key2 k k2 (ht.up (by omega)) (fun g hg e=>by have:=(hsB g hg).2;omega)⟩,fun g hg=>?_⟩,hv3.slice,⟨?_,fun hn=>?_⟩,fun hn j hj=>⟨hkp j hj,Z7o hA3 hk3 hn j hj⟩⟩
   ·rcases hloc with e | e
    ·have:=hsB g (e ▸ hg)
     omega
    ·rw [e] at hg
     have e2:=Option.some.inj hg
     simp at e2
     omega
   ·obtain ⟨a9,c9,e9⟩:=Z0A hk3
    exact ⟨a9,c9,e9⟩
   ·have hj9:∀ j,kv.ownBlock=some j→wn.heap[j]?=w3.heap[j]?:=fun j hj=>key2 j (hk3.lt j hj).2 (Z7o hA3 hk3 hn j hj) (fun g hg e=>by have:=(hsB g hg).1;have:=hkp j hj;omega)
    exact Z1l hk3 hj9
 ·have c3:ChgM w w3 m:=⟨hg3.os.trans h.chg.os,hg3.tape.trans h.chg.tape,hg3.output.trans h.chg.output,Nat.le_trans h.chg.size z3,fun k k0 k1 k2 k3 k4 k5=>(hg3.block k (by have:=h.chg.size;omega) (fun e=>by have e2:=Option.some.inj e;omega)).trans (h.chg.block k k0 k1 k2 k3 k4 k5)⟩
  have c5:=(c3.trans (ChgM.below m hb4)).trans hc5
  exact ⟨hgn.os.trans c5.os,hgn.tape.trans c5.tape,hgn.output.trans c5.output,by have:=c5.size;omega,fun k k0 k1 k2 k3 k4 k5=>by
   rw [hgn.block k (by have:=c5.size;simp;omega) (fun e=>by have:=(hsB k e.symm).1;omega),Below.heap_alloc _ _ _ (by have:=c5.size;omega)]
   exact c5.block k k0 k1 k2 k3 k4 k5⟩
 ·have hl:ln<wr.heap.size:=by omega
  exact (key1 ln hl (by omega) (ht.up (by omega)) (fun g hg e=>by have:=(hsB g hg).1;omega)).trans h.row
 ·have h0:0<wr.heap.size:=by omega
  exact (World.cell?_of_block (a:=⟨0,0,none⟩) (key1 0 h0 (by omega) ht.zero (fun g hg e=>by have:=(hsB g hg).1;omega))).trans h.mm
def ReadEnd (w:World) (m:AMem) (o:Except (Int × Nat) (List St × Asm)) (e:Ending) (w':World):Prop :=
 ChgM w w' m∧match o with
  | .error q=>e=.panicked (fltC q.1 (q.2:Int))
  | .ok r=>∃ (sa:Option Addr) (sn sc:Nat) (qs:List (St × Value × Value)) (pb B:Nat),e=.returned (.slice sa sn sc)∧AsmAt w' m r.2∧qs.map Prod.fst=r.1∧Sts w' m pb B (.slice sa sn sc) qs∧pb<B∧w.heap.size≤B
theorem rdTo_none {ls:List ByteArray}{a0:Asm}{j:Nat}{r:List St × Asm}(h:rdTo ls a0 j=.ok r)(hp:Z1d (ls.getD j ⟨#[]⟩)=none):rdTo ls a0 (j+1)=.error (2,j+1):=by
 simp only [rdTo,h,hp]
theorem rdTo_bad {ls:List ByteArray}{a0:Asm}{j:Nat}{r:List St × Asm}{q:ByteArray × Stm}{k:Int}(h:rdTo ls a0 j=.ok r)(hp:Z1d (ls.getD j ⟨#[]⟩)=some q)(hs:Z0o r.2 q.1 q.2=.error k):rdTo ls a0 (j+1)=.error (k,j+1):=by
 simp only [rdTo,h,hp,hs]
theorem rdTo_next {ls:List ByteArray}{a0 a':Asm}{j:Nat}{r:List St × Asm}{q:ByteArray × Stm}(h:rdTo ls a0 j=.ok r)(hp:Z1d (ls.getD j ⟨#[]⟩)=some q)(hs:Z0o r.2 q.1 q.2=.ok a'):rdTo ls a0 (j+1)=.ok (r.1 ++ [⟨j+1,r.2.pl,q.1,q.2⟩],a'):=by
 simp only [rdTo,h,hp,hs]
theorem Z3P {ls:List ByteArray}{a0:Asm}{j:Nat}{e:Int × Nat}(h:rdTo ls a0 j=.error e)(hj:j≤ls.length):rdTo ls a0 ls.length=.error e:=by
 have:=rdTo_err (ls.length-j) j h
 rw [show j+(ls.length-j)=ls.length by omega] at this
 exact this
theorem readAll_any (w:World)(m:AMem)(a0:Asm)(src:ByteArray)(mm:Int)(cs:Array Value)(h:AsmAt w m a0)(hm:m.Ok)(hok:a0.Ok)(hab:w.heap[m.ab]?=some (.cells cs 121 (0,0)))(hs:src.size≤2000)(hmm:w.cell? ⟨0,0,none⟩=some (.int .i64 mm))(h0:Z19 m 0) :
  Calls Tryz.prog 64 #[.pointer (some ⟨m.ab,0,none⟩),.string src] w (ReadEnd w m (rdTo (Z1h src) a0 (Z1h src).length)):=by
 obtain ⟨i0,hi,hz0,hz1,hz2⟩:=info_parts Tryz.infoSt
 have hsz:0<w.heap.size:=by have:=h.st.lt;omega
 obtain ⟨LS,hLS⟩:∃ LS,Z1h src=LS:=⟨_,rfl⟩
 obtain ⟨N,hN⟩:∃ N,LS.length=N:=⟨_,rfl⟩
 have hN1:Lib.countB src ⟨#[10]⟩ + 1=N:=by rw [←hN,← hLS,Z67]
 have hNle:N≤2001:=by
  rw [←hN,← hLS]
  have:=Z5D src
  omega
 have hLsz:∀ t∈LS,t.size≤2000:=fun t ht=>by
  rw [←hLS] at ht
  exact Nat.le_trans (Z59 ht) hs
 rw [hLS,hN]
 obtain ⟨R,hR⟩:∃ R,rdTo LS a0 N=R:=⟨_,rfl⟩
 rw [hR]
 have HR:=Z0a hR
 have HLS:=Z0a (And.intro hLsz hN)
 have HMM:=Z0a hmm
 have HNP:=Z0a (Z7Y mm w hmm hsz)
 have HSP:Hid (∀ w1:World,w1.cell? ⟨0,0,none⟩=some (.int .i64 mm)→Calls Tryz.prog 101 #[.string src,.string ⟨#[10]⟩] w1 fun e w'=>e=.returned (.slice (some ⟨w1.heap.size,0,none⟩) N N)∧w'=w1.alloc (.cells (LS.map Value.string).toArray 9)):=fun w1 h1=>by
  have h2:=Tryz.strings_Split src ⟨#[10]⟩ mm w1 (by omega) h1 (by decide)
  rw [hN1,show Lib.splitB ⟨#[10]⟩ 0 (Lib.countB src ⟨#[10]⟩) src=LS from hLS] at h2
  exact h2
 have HH:=Z0a (And.intro h (And.intro hm (And.intro hok (And.intro hab h0))))
 have hNi:(N:Int)≤2001:=by omega
 clear hR hLsz hN1 hLS hN h hm hok hab h0 hmm hs
 go_enter Tryz.func64,Tryz.ntmps64
 go_wp2_with (first | (go_at_call 104;refine HNP.out.mono ?_;rintro e w1 ⟨pb,rfl,b,⟨hp0,hbk,hin⟩,hlt,hgt,hb1⟩;have hm1:w1.cell? ⟨0,0,none⟩=some (.int .i64 mm):=(World.cell?_of_block (a:=⟨0,0,none⟩) (hb1.block 0 hsz)).trans HMM.out;have HSQ:=Z0a (HSP.out w1 hm1);have HP1:=Z0a (And.intro hp0 (And.intro hbk (And.intro hin (And.intro hlt (And.intro hgt (And.intro hb1 hm1))))));clear hp0 hbk hin hlt hgt hb1 hm1) | (go_at_call 101;refine HSQ.out.mono ?_;rintro e w2 ⟨rfl,hw2⟩;have HW2:=Z0a hw2;clear hw2))
 have HRA:Hid (RAt w m b pb (w1.heap.size+1) w1.heap.size∧RA w w2 m b pb (w1.heap.size+1) w1.heap.size mm LS (.slice none 0 0) [] a0):=by
  obtain ⟨hp0,hbk,hin,hlt,hgt,hb1,hm1⟩:=HP1.out
  have hw2:=HW2.out
  obtain ⟨h,hm,hok,hab,h0⟩:=HH.out
  have hA1:=h.below hb1
  have hb2:Below w1.heap.size w1 w2:=by rw [hw2];exact (Below.refl _ _).alloc (Nat.le_refl _) _
  have hz2:w2.heap.size=w1.heap.size+1:=by rw [hw2];simp
  have hml:m.ab<w.heap.size∧m.ik<w.heap.size∧m.lk<w.heap.size∧m.sk<w.heap.size∧m.nb<w.heap.size:=⟨h.st.lt,h.bytes.lt,h.laid.lt,h.starts.lt,h.nlt⟩
  have up:∀ j,w.heap.size≤j→Z19 m j:=fun j hj=>⟨by omega,by omega,by omega,by omega,by omega⟩
  have hpl:=hp0.lt
  have hfree:BkFree m b pb:=⟨up _ (by omega),up _ (by omega),up _ (by omega),up _ (by omega),up _ (by omega),⟨hlt.1,hlt.2.1,hlt.2.2.1,hlt.2.2.2⟩⟩
  have hP1:Psr w1 m b pb:=⟨hp0,hbk,InsAt2.of hin (fun j cur f hj=>kind_free hA1 ((hb1.block _ h.st.lt).trans hab) hj)⟩
  have hb12:=hb1.trans (hb2.mono hb1.size)
  refine ⟨⟨hfree,hml,⟨by omega,hpl,Nat.lt_succ_self _⟩,h0⟩,⟨h.below hb12,hP1.kept hb2.size (fun j h1 _ _=>hb2.block j h1) hfree,⟨World.ownsRow_nil _ _ _ _,fun q hq=>by cases hq⟩,ChgM.below _ hb12,by rw [hw2];exact heap_alloc_new w1 _,(World.cell?_of_block (a:=⟨0,0,none⟩) (hb2.block 0 (by have:=hb1.size;omega))).trans hm1,by omega⟩⟩
 obtain ⟨B,hB⟩:∃ B,w1.heap.size+1=B:=⟨_,rfl⟩
 obtain ⟨ln,hln⟩:∃ ln,w1.heap.size=ln:=⟨_,rfl⟩
 rw [hB,hln] at HRA
 rw [hln]
 have HT:=Z0a HRA.out.1
 clear HW2 hB hln HP1 HSQ HSP HNP HMM
 go_wp2_with fail
 go_loopw [5,14] (fun s5 i wr=>∃ (j:Nat) (sa:Option Addr) (sn sc:Nat) (qs:List (St × Value × Value)) (a:Asm),j≤N∧i=.int .i64 j∧s5=.slice sa sn sc∧rdTo LS a0 j=.ok (qs.map Prod.fst,a)∧RA w wr m b pb B ln mm LS (.slice sa sn sc) qs a) (fun _ i _=>N-(intOf i).toNat)
 case atStart=>exact ⟨0,none,0,0,[],a0,Nat.zero_le _,rfl,rfl,rfl,HRA.out.2⟩
 case round =>
  obtain ⟨j,sa,sn,sc,qs,a,hj,rfl,rfl,hrd,hra⟩:=hrel
  have HRD:=Z0a hrd
  have HA:=Z0a hra
  by_cases hlt:j<N
  ·have hji:(j:Int)<(N:Int):=by omega
   have hjl:j<LS.length:=by rw [HLS.out.2];exact hlt
   have hgd:LS.getD j ⟨#[]⟩=LS[j]:=by
    rw [List.getD_eq_getElem?_getD,List.getElem?_eq_getElem hjl]
    rfl
   obtain ⟨t,ht⟩:∃ t,LS[j]=t:=⟨_,rfl⟩
   rw [ht] at hgd
   have htz:t.size≤2000:=HLS.out.1 t (by rw [←ht];exact List.getElem_mem hjl)
   have cj:wr.cell? ⟨ln,j,none⟩=some (.string t):=by
    rw [cell_of_row _ _ _ _ _ (0,0) hra.row]
    simp [List.getElem?_eq_getElem hjl,ht]
   have hrt:=HT.out
   have hlnl:ln<wr.heap.size:=by have:=hra.le;have:=hrt.lt;omega
   have HPA:=Z0a (parse_any wr pb b t ((j:Int)+1) mm hra.psr.p0 hra.psr.book hra.psr.ins.ins hrt.free.lt.1 hrt.free.lt.2.1 hrt.free.lt.2.2.1 hrt.free.lt.2.2.2 (by omega) hra.mm (by have:=hrt.lt;omega))
   have HGD:=Z0a hgd
   clear hrd hra ht hgd hjl
   cases hP:Z1d t with
   | none =>
    rw [hP] at HPA
    have eR:R=.error (2,j+1):=by
     rw [←HR.out,← HLS.out.2]
     exact Z3P (rdTo_none HRD.out (by rw [HGD.out];exact hP)) (by rw [HLS.out.2];omega)
    subst eR
    have HP2:Hid (Calls Tryz.prog 105 #[.pointer (some ⟨pb,0,none⟩),.string t,.int .i64 ((j:Int)+1)] wr fun e w'=>e=.panicked (fltC 2 ((j:Int)+1))∧wr.grownBy w' (some pb)):=HPA.out
    clear HPA hP
    go_wp2_with (first | (go_at_call 105;refine HP2.out.mono ?_;rintro e w3 ⟨rfl,hg3⟩))
    refine ⟨rfl,?_,by simp⟩
    have hc:=HA.out.chg
    exact ⟨hg3.os.trans hc.os,hg3.tape.trans hc.tape,hg3.output.trans hc.output,Nat.le_trans hc.size hg3.size,fun k k0 k1 k2 k3 k4 k5=>(hg3.block k (by have:=hc.size;omega) (fun e=>by have e2:=Option.some.inj e;have:=HT.out.lt;omega)).trans (hc.block k k0 k1 k2 k3 k4 k5)⟩
   | some q =>
    obtain ⟨lb,x⟩:=q
    rw [hP] at HPA
    have HPQ:=Z0a hP
    have HP2:Hid (Calls Tryz.prog 105 #[.pointer (some ⟨pb,0,none⟩),.string t,.int .i64 ((j:Int)+1)] wr fun e w'=>∃ (va:Option Addr) (vn vc:Nat) (ka:Option Addr) (kn kc:Nat),e=.returned (.agg #[.int .i64 ((j:Int)+1),.int .i64 0,.string lb,.int .i64 (x.task:Int),.string x.name,.slice va vn vc,.int .u8 (x.ins.code:Int),.slice ka kn kc,.int .i64 (x.ins.size:Int)])∧VAt w' wr.heap.size (.slice va vn vc) x.vals∧w'.ownsRow 0 111 1 (.slice ka kn kc) x.ins.kinds.length (Z0m x.ins.kinds)∧(∀ j,(Value.slice ka kn kc).ownBlock=some j→j<pb)∧P0 w' pb b∧wr.grownBy w' (some pb)):=HPA.out.mono fun e w' hh=>by
     obtain ⟨v,kv,h1,h2,h3,h4,h5,h6⟩:=hh
     obtain ⟨va,vn,vc,rfl⟩:=h2.slice
     obtain ⟨ka,kn,kc,rfl⟩:=Z0E h3
     exact ⟨va,vn,vc,ka,kn,kc,h1,h2,h3,h4,h5,h6⟩
    clear HPA hP
    have hokj:=rdTo_ok HH.out.2.2.1 HLS.out.1 j _ (by rw [HLS.out.2];omega) HRD.out
    have hqj:qs.length=j:=by have:=hokj.2.1;simpa using this
    have HQJ:=Z0a hqj
    have haok:a.Ok:=hokj.1
    have HAOK:=Z0a haok
    have hstm:StmOk lb x:=(parseL_ok HPQ.out).ok (by omega)
    have HSTM:=Z0a hstm
    clear hokj hqj haok hstm
    have hml:=HT.out.mlt
    have hwr:w.heap.size≤wr.heap.size:=HA.out.chg.size
    have HML:=Z0a (And.intro hml hwr)
    have A3:Hid (∀ w3:World,wr.grownBy w3 (some pb)→AsmAt w3 m a∧m.ab<w3.heap.size):=fun w3 hg3=>⟨HA.out.asm.kept (fun k hk=>hg3.block k (by rcases hk with rfl | rfl | rfl | rfl | rfl <;> omega) (fun e=>by have e2:=Option.some.inj e;have:=HT.out.lt;rcases hk with rfl | rfl | rfl | rfl | rfl <;> omega)),by have:=hg3.size;omega⟩
    clear hml hwr
    go_upto_region 8 with (first | (go_at_call 105;refine HP2.out.mono ?_;rintro e w3 ⟨va,vn,vc,ka,kn,kc,rfl,hv3,hk3,hkp,hp3,hg3⟩;have a4:=(A3.out w3 hg3).1.st.c4;have habl:=(A3.out w3 hg3).2;have H3:=Z0a (And.intro hv3 (And.intro hk3 (And.intro hkp (And.intro hp3 hg3))));clear hv3 hk3 hkp hp3 hg3))
    obtain ⟨W4,hW4,hB4,hz4,hSS⟩:=Z1y w3 ((j:Int)+1) (a.pl:Int) lb (x.task:Int) x.name (.slice va vn vc) (x.ins.code:Int) (.slice ka kn kc) (x.ins.size:Int)
    rw [hW4]
    obtain ⟨s0,s1,s2,s3,s4,s5,s6,s7,s8,sf,sl⟩:=id hSS
    have hpre:Z4y W4 m a wr.heap.size lb x (.slice va vn vc):=⟨(A3.out w3 H3.out.2.2.2.2).1.below hB4,HH.out.2.1,HAOK.out,H3.out.1.below hB4,by have:=HML.out;omega,HSTM.out⟩
    have HSE:=Z0a (settle_any W4 m a wr.heap.size lb x va vn vc ka kn kc ((j:Int)+1) hpre)
    have HB4:=Z0a (And.intro hB4 hSS)
    clear hB4 hSS hpre hW4 sf a4
    cases hS:Z0o a lb x with
    | error k =>
     rw [hS] at HSE
     have eR:R=.error (k,j+1):=by
      rw [←HR.out,← HLS.out.2]
      exact Z3P (rdTo_bad HRD.out (by rw [HGD.out];exact HPQ.out) hS) (by rw [HLS.out.2];omega)
     subst eR
     have HS2:Hid (Calls Tryz.prog 106 #[.pointer (some ⟨m.ab,0,none⟩),.agg #[.int .i64 ((j:Int)+1),.int .i64 (a.pl:Int),.string lb,.int .i64 (x.task:Int),.string x.name,.slice va vn vc,.int .u8 (x.ins.code:Int),.slice ka kn kc,.int .i64 (x.ins.size:Int)]] W4 fun e w'=>e=.panicked (fltC k ((j:Int)+1))∧ChgM W4 w' m):=HSE.out.mono fun e w' hh=>⟨hh.2,hh.1⟩
     clear HSE hS
     go_wp2_with (first | (go_at_call 106;refine HS2.out.mono ?_;rintro e w5 ⟨rfl,hc5⟩))
     refine ⟨rfl,?_,by simp⟩
     have hc:=HA.out.chg
     have hg3:=H3.out.2.2.2.2
     have c3:ChgM w w3 m:=⟨hg3.os.trans hc.os,hg3.tape.trans hc.tape,hg3.output.trans hc.output,Nat.le_trans hc.size hg3.size,fun k k0 k1 k2 k3 k4 k5=>(hg3.block k (by have:=hc.size;omega) (fun e=>by have e2:=Option.some.inj e;have:=HT.out.lt;omega)).trans (hc.block k k0 k1 k2 k3 k4 k5)⟩
     exact (c3.trans (ChgM.below m HB4.out.1)).trans hc5
    | ok a' =>
     rw [hS] at HSE
     have HNX:Hid (rdTo LS a0 (j+1)=.ok (qs.map Prod.fst ++ [⟨j+1,a.pl,lb,x⟩],a')):=rdTo_next (q:=(lb,x)) HRD.out (by rw [HGD.out];exact HPQ.out) hS
     have HS2:Hid (Calls Tryz.prog 106 #[.pointer (some ⟨m.ab,0,none⟩),.agg #[.int .i64 ((j:Int)+1),.int .i64 (a.pl:Int),.string lb,.int .i64 (x.task:Int),.string x.name,.slice va vn vc,.int .u8 (x.ins.code:Int),.slice ka kn kc,.int .i64 (x.ins.size:Int)]] W4 fun e w'=>e=.returned (.tuple #[])∧ChgM W4 w' m∧AsmAt w' m a'):=HSE.out.mono fun e w' hh=>⟨hh.2.1,hh.1,hh.2.2⟩
     have HS5:Hid (∀ w5:World,ChgM W4 w5 m→SS w5 w3.heap.size ((j:Int)+1) (a.pl:Int) lb (x.task:Int) x.name (.slice va vn vc) (x.ins.code:Int) (.slice ka kn kc) (x.ins.size:Int)∧w5.ownsRow B 130 9 (.slice sa sn sc) qs.length (stsC qs)∧B≤w5.heap.size):=fun w5 hc5=>by
      have hg3:=H3.out.2.2.2.2
      have z3:=hg3.size
      have hmw:=HML.out
      refine ⟨HB4.out.2.grown (hc5.free HB4.out.2.lt (HT.out.up (by omega))) hc5.size,Z1l HA.out.sts.row (fun g hg=>?_),?_⟩
      ·have hgl:=HA.out.sts.row.lt g hg
       have hlt3:=HT.out.lt
       rw [hc5.free (by omega) (HT.out.up (by omega)),HB4.out.1.block g (by omega)]
       exact hg3.block g hgl.2 (fun e=>by have e2:=Option.some.inj e;omega)
      ·have:=HA.out.le
       have:=hc5.size
       omega
     clear HSE hS
     go_wp2_with (first | (go_at_call 106;refine HS2.out.mono ?_;rintro e w5 ⟨rfl,hc5,ha5⟩;obtain ⟨⟨q0,q1,q2,q3,q4,q5,q6,q7,q8,qf,ql⟩,hr5,hB5⟩:=HS5.out w5 hc5;have HR5:=Z0a hr5;have HC5:=Z0a (And.intro hc5 ha5);clear hr5 hc5 ha5 qf) | (at_builtin;refine wpList_append_own_at _ rfl _ _ 122 rfl B 130 i0 _ 9 120 Tryz.underlying122 hi hz0 hz1 hz2 rfl (by decide) _ _ _ rfl (HR5.out.alloc _) ⟨w5.heap.size,0,none⟩ 1 1 [.int .i64 ((j:Int)+1),.int .i64 (a.pl:Int),.string lb,.int .i64 (x.task:Int),.string x.name,.slice va vn vc,.int .u8 (x.ins.code:Int),.slice ka kn kc,.int .i64 (x.ins.size:Int)] rfl rfl (Z04 _ [.int .i64 ((j:Int)+1),.int .i64 (a.pl:Int),.string lb,.int .i64 (x.task:Int),.string x.name,.slice va vn vc,.int .u8 (x.ins.code:Int),.slice ka kn kc,.int .i64 (x.ins.size:Int)] _) (by intro u hu;simp at hu;rcases hu with rfl | rfl | rfl | rfl | rfl | rfl | rfl | rfl | rfl <;> rfl) (by have:=HQJ.out;unfold maxLen;omega) (by have:=HQJ.out;omega) (by simp;omega) ?_;intro v' wn hown hgr _ hloc;obtain ⟨xa',xn',xc',ev⟩:=Z16 hown;subst ev;have HWN:=Z0a (And.intro hown (And.intro hgr hloc));clear hown hgr hloc))
     go_wp2_with fail
     go_roundw
     case rel =>
      refine ⟨j+1,xa',xn',xc',qs ++ [(⟨j+1,a.pl,lb,x⟩,.slice va vn vc,.slice ka kn kc)],a',by omega,by go_num,rfl,by rw [List.map_append];exact HNX.out,?_⟩
      have hw:=HWN.out
      exact HA.out.step HT.out H3.out.2.2.2.2 H3.out.1 H3.out.2.2.2.1 H3.out.2.1 H3.out.2.2.1 HB4.out.1 HC5.out.1 HC5.out.2 hw.2.1 hw.1 hw.2.2
     case measure=>simp [intOf];omega
  ·have hji:¬ (j:Int)<(N:Int):=by omega
   have hjN:j=N:=by omega
   have eR:R=.ok (qs.map Prod.fst,a):=by
    rw [←HR.out,← hjN]
    exact hrd
   subst eR
   clear hrd hra
   go_wp2
   go_ret
   exact ⟨HA.out.chg,sa,sn,sc,qs,pb,B,rfl,HA.out.asm,rfl,HA.out.sts,by have:=HT.out.lt;omega,by have:=HT.out.lt;omega⟩
theorem catchA_idle (p0 f0 r0:Nat)(w:World) :
  CallsD Tryz.prog 62 #[.pointer (some ⟨p0,0,none⟩),.pointer (some ⟨f0,0,none⟩),.pointer (some ⟨r0,0,none⟩)] .returning w fun e u' w'=>e=.returned (.tuple #[])∧u'=.returning∧w'=w:=by
 refine callsD_of_wpS Tryz.func62 rfl fun c₀ cs hu=>?_
 simp only [Tryz.ntmps62,List.size_toArray,List.length_cons,List.length_nil,Nat.reduceAdd,Nat.reduceSub,Array.replicate_succ,Array.replicate_zero,List.push_toArray,List.append_toArray,List.nil_append,List.cons_append]
 apply wpS_seq
 apply wpS_region
 simp [wpOpsS,go_sem,recoverD,hu,Exit.thenS]
 refine wpS_of_wp ?_
 go_wp2_with fail
 cases c₀
 simp_all [bodyPostS,results,Tryz.results62]
structure Res (w:World) (c2 c3 c4:Nat) (i0 i1 i2:Value) (k l:Int):Prop where
 a0:w.cell? ⟨c2,0,none⟩=some i0
 a1:w.cell? ⟨c2,1,none⟩=some i1
 a2:w.cell? ⟨c2,2,none⟩=some i2
 b:w.cell? ⟨c3,0,none⟩=some (.int .i64 k)
 c:w.cell? ⟨c4,0,none⟩=some (.int .i64 l)
 fa:∀ j,w.frozen? ⟨c2,j,none⟩=false
 fb:w.frozen? ⟨c3,0,none⟩=false
 fc:w.frozen? ⟨c4,0,none⟩=false
 lt:c2<w.heap.size∧c3<w.heap.size∧c4<w.heap.size
theorem Z5h (c2 c3 c4:Nat)(i0 i1 i2:Value)(x y k l:Int)(w:World)(h:Res w c2 c3 c4 i0 i1 i2 x y)(hd:c2≠c3∧c2≠c4∧c3≠c4) :
  CallsD Tryz.prog 62 #[.pointer (some ⟨c2,0,none⟩),.pointer (some ⟨c3,0,none⟩),.pointer (some ⟨c4,0,none⟩)] (.panicking [{ v:=.iface 117 (.agg #[.int .i64 k,.int .i64 l]),recovered:=false }]) w fun e u' w'=>e=.returned (.tuple #[])∧u'=.panicking [{ v:=.iface 117 (.agg #[.int .i64 k,.int .i64 l]),recovered:=true }]∧Res w' c2 c3 c4 (.slice none 0 0) (.slice none 0 0) (.slice none 0 0) k l∧w'.os=w.os∧w'.tape=w.tape∧w'.output=w.output∧w.heap.size≤w'.heap.size∧∀ j,j<w.heap.size→j≠c2→j≠c3→j≠c4→w'.heap[j]?=w.heap[j]?:=by
 obtain ⟨a0,a1,a2,b0,d0,fa,fb,fc,hlt⟩:=id h
 have f0:=fa 0
 have f1:=fa 1
 have f2:=fa 2
 have HH:=Z0a h
 have hta:∀ W:World,(Instr.typeAssert (.iface 117 (.agg #[.int .i64 k,.int .i64 l])) 20 117 true).run Tryz.prog W=.ok (.tuple #[.agg #[.int .i64 k,.int .i64 l],.bool true]) W:=fun W=>by rfl
 obtain ⟨l2,l3,l4⟩:=hlt
 obtain ⟨n1,n2,n3⟩:=hd
 refine callsD_of_wpS Tryz.func62 rfl fun c₀ cs hu=>?_
 simp only [Tryz.ntmps62,List.size_toArray,List.length_cons,List.length_nil,Nat.reduceAdd,Nat.reduceSub,Array.replicate_succ,Array.replicate_zero,List.push_toArray,List.append_toArray,List.nil_append,List.cons_append]
 apply wpS_seq
 apply wpS_region
 simp [wpOpsS,go_sem,recoverD,hu,Exit.thenS]
 refine wpS_of_wp ?_
 obtain ⟨W1,hW1⟩:∃ W1,w.alloc (.cells #[.int .i64 k,.int .i64 l] 117)=W1:=⟨_,rfl⟩
 have hB1:Below w.heap.size w W1:=by rw [←hW1];exact (Below.refl _ _).alloc (Nat.le_refl _) _
 have hz1:W1.heap.size=w.heap.size+1:=by rw [←hW1];simp
 have hh:=heap_alloc_new w (.cells #[.int .i64 k,.int .i64 l] 117)
 rw [hW1] at hh
 have v0:W1.cell? ⟨w.heap.size,0,none⟩=some (.int .i64 k):=by rw [cell_of_row _ _ _ _ _ (0,0) hh];rfl
 have v1:W1.cell? ⟨w.heap.size,1,none⟩=some (.int .i64 l):=by rw [cell_of_row _ _ _ _ _ (0,0) hh];rfl
 have oc:∀ c j,c<w.heap.size→W1.cell? ⟨c,j,none⟩=w.cell? ⟨c,j,none⟩:=fun c j hc=>World.cell?_of_block (a:=⟨c,j,none⟩) (hB1.block c hc)
 have of:∀ c j,c<w.heap.size→W1.frozen? ⟨c,j,none⟩=w.frozen? ⟨c,j,none⟩:=fun c j hc=>World.frozen?_of_block (a:=⟨c,j,none⟩) (hB1.block c hc)
 have e0:=(oc c2 0 l2).trans a0
 have e1:=(oc c2 1 l2).trans a1
 have e2:=(oc c2 2 l2).trans a2
 have e3:=(oc c3 0 l3).trans b0
 have e4:=(oc c4 0 l4).trans d0
 have g0:=(of c2 0 l2).trans f0
 have g1:=(of c2 1 l2).trans f1
 have g2:=(of c2 2 l2).trans f2
 have g3:=(of c3 0 l3).trans fb
 have g4:=(of c4 0 l4).trans fc
 have m2:¬ w.heap.size=c2:=by omega
 have m3:¬ w.heap.size=c3:=by omega
 have m4:¬ w.heap.size=c4:=by omega
 have m2':¬ c2=w.heap.size:=by omega
 have m3':¬ c3=w.heap.size:=by omega
 have m4':¬ c4=w.heap.size:=by omega
 have n1':¬ c3=c2:=fun e=>n1 e.symm
 have n2':¬ c4=c2:=fun e=>n2 e.symm
 have n3':¬ c4=c3:=fun e=>n3 e.symm
 have HQ:Hid (∀ X,X=((((W1.setCell ⟨c2,0,none⟩ (.slice none 0 0)).setCell ⟨c2,1,none⟩ (.slice none 0 0)).setCell ⟨c2,2,none⟩ (.slice none 0 0)).setCell ⟨c3,0,none⟩ (.int .i64 k)).setCell ⟨c4,0,none⟩ (.int .i64 l)→Res X.drew c2 c3 c4 (.slice none 0 0) (.slice none 0 0) (.slice none 0 0) k l∧X.drew.os=w.os∧X.drew.tape=w.tape∧X.drew.output=w.output∧w.heap.size≤X.drew.heap.size∧∀ j,j<w.heap.size→j≠c2→j≠c3→j≠c4→X.drew.heap[j]?=w.heap[j]?):=fun X hX=>by
  subst hX
  refine ⟨⟨?_,?_,?_,?_,?_,fun j=>?_,?_,?_,?_⟩,hB1.os,hB1.tape,hB1.output,?_,fun j hj h2 h3 h4=>?_⟩
  ·simp [go_sem,e0]
  ·simp [go_sem,e1]
  ·simp [go_sem,e2]
  ·simp [go_sem,e3]
  ·simp [go_sem,e4]
  ·have:=HH.out.fa j
   simp [go_sem,of c2 j l2,this]
  ·simp [go_sem,g3]
  ·simp [go_sem,g4]
  ·simp [World.setCell,World.drew]
   omega
  ·simp [World.setCell,World.drew]
   omega
  ·show (((((W1.setCell ⟨c2,0,none⟩ (.slice none 0 0)).setCell ⟨c2,1,none⟩ (.slice none 0 0)).setCell ⟨c2,2,none⟩ (.slice none 0 0)).setCell ⟨c3,0,none⟩ (.int .i64 k)).setCell ⟨c4,0,none⟩ (.int .i64 l)).heap[j]?=_
   rw [heap_setCell_other _ ⟨c4,0,none⟩ j _ h4,heap_setCell_other _ ⟨c3,0,none⟩ j _ h3,heap_setCell_other _ ⟨c2,2,none⟩ j _ h2,heap_setCell_other _ ⟨c2,1,none⟩ j _ h2,heap_setCell_other _ ⟨c2,0,none⟩ j _ h2]
   exact hB1.block j hj
 clear fa h oc of hB1 hh a0 a1 a2 b0 d0 f0 f1 f2 fb fc
 go_wp2_with fail
 go_region
 all_goals
  go_wp2_with fail
  exact ⟨rfl,_,rfl,_,results_none rfl _ _ _,rfl,rfl,HQ.out _ rfl⟩
def asm0:Asm:=⟨fun _=>none,0,0,bF,bF,b255⟩
theorem asm0_ok:asm0.Ok:=⟨Nat.zero_le _,Nat.zero_le _,fun l z h=>by cases h⟩
def Z0Z (a:Asm) (sts:List St):Nat→Except (Int × Nat) Asm
 | 0=>.ok a
 | j+1=>match Z0Z a sts j with
  | .error e=>.error e
  | .ok b=>match sts[j]? with
   | none=>.ok b
   | some st=>match Z6z b st.pl st.x with
    | .error k=>.error (k,st.line)
    | .ok c=>.ok c
def asmF (src:ByteArray):Except (Int × Nat) Asm :=
 if 2000<src.size then .error (1,0)
 else match rdTo (Z1h src) asm0 (Z1h src).length with
  | .error e=>.error e
  | .ok r=>Z0Z r.2 r.1 r.1.length
theorem Z5H {a:Asm}{sts:List St}{e:Int × Nat}:∀ (n j:Nat),Z0Z a sts j=.error e→Z0Z a sts (j+n)=.error e
 | 0,j,h=>h
 | n+1,j,h=>by
  have ih:=Z5H n j h
  show Z0Z a sts (j+n+1)=_
  simp only [Z0Z,ih]
theorem Z4k {a:Asm}{sts:List St}{j:Nat}{e:Int × Nat}(h:Z0Z a sts j=.error e)(hj:j≤sts.length):Z0Z a sts sts.length=.error e:=by
 have:=Z5H (sts.length-j) j h
 rw [show j+(sts.length-j)=sts.length by omega] at this
 exact this
theorem fillF_nm {a b:Asm}{p:Nat}{x:Stm}(h:Z6z a p x=.ok b):b.nm=a.nm:=by
 unfold Z6z at h
 split at h
 ·cases h
  rfl
 ·split at h
  ·cases h
  ·split at h
   ·cases h
   ·cases h
    rfl
theorem Sts.kept {w w':World}{m:AMem}{pb B:Nat}{sv:Value}{qs:List (St × Value × Value)}(h:Sts w m pb B sv qs)(hz:w.heap.size≤w'.heap.size)(hp:pb<B)(hB:m.ab<B∧m.ik<B∧m.lk<B∧m.sk<B∧m.nb<B)(hk:∀ j,j<w.heap.size→Z19 m j→w'.heap[j]?=w.heap[j]?):Sts w' m pb B sv qs:=by
 have hs:∀ g,sv.ownBlock=some g→B≤g∧g<w.heap.size:=fun g hg=>h.row.lt g hg
 refine ⟨Z1l h.row (fun g hg=>hk g (hs g hg).2 ?_),fun q hq=>(h.each q hq).kept hz hp hB (fun j h1 _ h3 _=>hk j h1 h3) (fun g hg=>(hs g hg).1) (fun g hg=>.inl hg)⟩
 have:=hs g hg
 exact ⟨by omega,by omega,by omega,by omega,by omega⟩
theorem stsC_at {qs:List (St × Value × Value)}{j:Nat}{q:St × Value × Value}(h:qs[j]?=some q)(i:Nat)(hi:i<9):(stsC qs)[j*9+i]?=(stC q.1 q.2.1 q.2.2)[i]?:=by
 induction qs generalizing j with
 | nil=>simp at h
 | cons q0 qs ih =>
  have e:stsC (q0 :: qs)=stC q0.1 q0.2.1 q0.2.2++stsC qs:=rfl
  have hl:(stC q0.1 q0.2.1 q0.2.2).length=9:=rfl
  rw [e]
  cases j with
  | zero =>
   simp at h
   subst h
   rw [List.getElem?_append_left (by omega)]
   simp
  | succ j =>
   rw [List.getElem?_append_right (by omega),hl,show (j+1)*9+i-9=j*9+i by omega]
   exact ih (by simpa using h)
end Go.Proofs.YthokdbcpkmcieaaGreatDoor
