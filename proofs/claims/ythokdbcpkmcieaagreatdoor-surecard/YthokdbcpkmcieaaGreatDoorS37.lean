/- BrdB ShelfB BrdD BrdV BrdE BrdF -/
import Derived.Test.YthokdbcpkmcieaaGreatDoorS36
import Derived.Lib.FrozenHead
import Derived.Lib.FrozenHead2
import Derived.Lib.OthersKept
import Derived.Lib.Builder
import Derived.Shelf.Strings.BuilderX
import Derived.Laws.Externs
import Derived.Shelf.Strings.BuilderK
import Derived.Test.YthokdbcpkmcieaaGreatDoorProg
import Derived.Defers
import Derived.Recover
import Derived.Test.YthokdbcpkmcieaaGreatDoorS28
set_option maxRecDepth 200000
set_option maxHeartbeats 8000000
namespace Go.Proofs.YthokdbcpkmcieaaGreatDoor
open Go Go.RowKit
theorem Tryz.infoBld:(Tryz.prog.info? 238).map (·.size)=some 2:=by kernel_rfl
theorem Tryz.liesBld:liesAt Tryz.prog Tryz.prog.depth 238 (2/Tryz.prog.cellsOf 238) 0 238 1=true:=by kernel_rfl
theorem Z6Y (b:Nat)(w:World)(h0:w.cell? ⟨b,0,none⟩=some (.pointer (some ⟨b,0,none⟩))) :
  Calls Tryz.prog 197 #[.pointer (some ⟨b,0,none⟩)] w fun e w'=>e=.returned (.tuple #[])∧w'=w:=by
 obtain ⟨j,hj,_⟩:=Option.map_eq_some_iff.1 Tryz.infoBld
 go_enter Tryz.func197,Tryz.ntmps197
 go_wp2
 rw [Lib.run_neq_ptr_same w _ Tryz.underlying236 hj]
 go_wp2
 go_end0
 exact ⟨rfl,rfl⟩
theorem Z50 (b:Nat)(w:World)(h0:w.cell? ⟨b,0,none⟩=some (.pointer none))(hsh:w.shape? b=some (238,2))(hfz:w.frozen? ⟨b,0,none⟩=false) :
  Calls Tryz.prog 197 #[.pointer (some ⟨b,0,none⟩)] w fun e w'=>e=.returned (.tuple #[])∧w'=w.setCell ⟨b,0,none⟩ (.pointer (some ⟨b,0,none⟩)):=by
 obtain ⟨j,hj,hjs⟩:=Option.map_eq_some_iff.1 Tryz.infoBld
 go_enter Tryz.func197,Tryz.ntmps197
 go_wp2
 rw [Lib.run_to_unsafe w ⟨b,0,none⟩ Tryz.underlying236 Tryz.underlying320 hj (by rw [hjs];decide) hsh (Nat.zero_lt_succ 1)]
 simp only [Result.andThen]
 rw [Oper.upon_value]
 go_wp2
 rw [run_callFunc_extern Tryz.func240 (by kernel_rfl) (by kernel_rfl) (by kernel_rfl) (e:=Extern.AbiNoEscape.same) (by kernel_rfl)]
 rw [Lib.run_noEscape]
 simp only [Result.andThen]
 rw [Oper.upon_value]
 go_wp2
 rw [Lib.run_from_unsafe w ⟨b,0,none⟩ Tryz.underlying320 Tryz.underlying236 hj hsh Tryz.liesBld]
 simp only [Result.andThen]
 rw [Oper.upon_value]
 go_wp2
 go_end0
 exact ⟨rfl,rfl⟩
theorem Z8j (B b:Nat)(bs:List Value)(w:World)(h:Lib.IsBuilderF 238 5 B b bs w) :
  Calls Tryz.prog 197 #[.pointer (some ⟨b,0,none⟩)] w fun e w'=>e=.returned (.tuple #[])∧(Lib.BuilderAtF 238 5 B b (.pointer (some ⟨b,0,none⟩)) bs w'∧Below B w w'∧Lib.OthersKept 5 (some b) w w'):=by
 rcases h with h | h
 ·refine (Z50 b w h.cell0 h.shape h.frozen0).mono ?_
  rintro e w' ⟨rfl,rfl⟩
  exact ⟨rfl,h.used _,(Below.refl B w).setCell (p:=⟨b,0,none⟩) h.1 _,(Lib.OthersKept.refl _ _ w).setCell ⟨b,0,none⟩ rfl _⟩
 ·refine (Z6Y b w h.cell0).mono ?_
  rintro e w' ⟨rfl,rfl⟩
  exact ⟨rfl,h,Below.refl B _,Lib.OthersKept.refl _ _ _⟩
theorem Z5V (B b:Nat)(bs:List Value)(s:ByteArray)(w:World)(h:Lib.IsBuilderF 238 5 B b bs w)(hlen:bs.length+s.size≤140737488355328)(hBw:B≤w.heap.size) :
  Calls Tryz.prog 159 #[.pointer (some ⟨b,0,none⟩),.string s] w fun e w'=>e=.returned (.tuple #[.int .i64 s.size,.nilIface])∧(Lib.BuilderAtF 238 5 B b (.pointer (some ⟨b,0,none⟩)) (bs++Lib.strCells s) w'∧Below B w w'∧Lib.OthersKept 5 (some b) w w'):=by
 obtain ⟨i0,hi,hz0,hz1,hz2⟩:=Z26 Tryz.infoU8E
 go_enter Tryz.func159,Tryz.ntmps159
 go_wp2_with (go_at_call 197;refine (Z8j B b bs _ h).mono ?_)
 rintro e w1 ⟨rfl,h1,hb1,hk1⟩
 obtain ⟨hB,v,hbk,hown,hne⟩:=h1
 have c0:w1.cell? ⟨b,0,none⟩=some (.pointer (some ⟨b,0,none⟩)):=by rw [Lib.cell_of_heap hbk];rfl
 have c1:w1.cell? ⟨b,1,none⟩=some v:=by rw [Lib.cell_of_heap hbk];rfl
 go_wp2_with (at_builtin;refine Lib.wpList_append_own_stringF _ rfl _ _ 32 9 rfl B 5 i0 Tryz.underlying32 Tryz.underlying9 hi hz0 hz1 hz2 _ _ _ rfl hown s rfl ?c3 ?c4 ?c5 ?_)
 case c3=>unfold maxLen;omega
 case c4=>omega
 case c5=>have:=hb1.size;omega
 intro v' w2 hown' hgrow _
 have hlt:b<w1.heap.size:=by
  rcases Nat.lt_or_ge b w1.heap.size with h' | h'
  ·exact h'
  ·simp [Array.getElem?_eq_none h'] at hbk
 have hb2:w2.heap[b]?=some (.cells #[.pointer (some ⟨b,0,none⟩),v] 238 (0,0)):=by
  rw [hgrow.block b hlt (fun e=>hne e.symm)]
  exact hbk
 have d0:w2.cell? ⟨b,0,none⟩=some (.pointer (some ⟨b,0,none⟩)):=by rw [Lib.cell_of_heap hb2];rfl
 have d1:w2.cell? ⟨b,1,none⟩=some v:=by rw [Lib.cell_of_heap hb2];rfl
 have f1:w2.frozen? ⟨b,1,none⟩=false:=Lib.frozen_of_heap hb2 1
 obtain ⟨ao,n',cap,rfl⟩:∃ ao n' cap,v'=.slice ao n' cap:=by
  rcases hown'.2 with ⟨hv,_⟩ | ⟨g,cap,cur,fz,hv,_⟩
  ·exact ⟨_,_,_,hv⟩
  ·exact ⟨_,_,_,hv⟩
 go_wp2
 go_ret2
 refine ⟨rfl,?_,?_,(hk1.grown hgrow (Lib.ownsRowF_kind hown)).setCell ⟨b,1,none⟩ rfl _⟩
 ·exact Lib.BuilderAtF.put (T:=238) (e:=5) hB hb2 (bs':=bs++Lib.strCells s) (by simpa [Lib.strCells_length] using hown') (by decide)
 ·exact (hb1.grown hgrow (by have:=hb1.size;omega) (fun k hk=>(hown.lt k hk).1)).setCell (p:=⟨b,1,none⟩) hB _
end Go.Proofs.YthokdbcpkmcieaaGreatDoor
namespace Go.Proofs
open Go.Shelf
def Tryz.lays169_ren:Go.Shelf.Ren:=⟨fun | 169=>160 | n=>n,fun | 70=>236 | 9=>9 | 0=>0 | 72=>238 | 37=>32 | 127=>287 | 3=>3 | 5=>5 | n=>n,fun | n=>n⟩
theorem Tryz.lays169:Go.Proofs.Lays.n169 Tryz.prog Tryz.lays169_ren:={
 mixed:=by kernel_rfl
 f169:=Tryz.func160.trans (congrArg some (by kernel_rfl))
 t0:=Tryz.underlying0
 a0:=Tryz.isAgg0
 z0:=Tryz.sizeOf0
 v0:=Tryz.zeroValue0
 t3:=Tryz.underlying3
 a3:=Tryz.isAgg3
 z3:=Tryz.sizeOf3
 v3:=Tryz.zeroValue3
 t9:=Tryz.underlying9
 a9:=Tryz.isAgg9
 z9:=Tryz.sizeOf9
 v9:=Tryz.zeroValue9
 t37:=Tryz.underlying32
 a37:=Tryz.isAgg32
 z37:=Tryz.sizeOf32
 v37:=Tryz.zeroValue32
 t70:=Tryz.underlying236
 a70:=Tryz.isAgg236
 z70:=Tryz.sizeOf236
 v70:=Tryz.zeroValue236
 t72:=Tryz.underlying238
 a72:=Tryz.isAgg238
 z72:=Tryz.sizeOf238
 v72:=Tryz.zeroValue238
 t127:=Tryz.underlying287
 a127:=Tryz.isAgg287
 z127:=Tryz.sizeOf287
 v127:=Tryz.zeroValue287 }
theorem Tryz.Builder_Extra_169:Builder.Extra Tryz.prog Tryz.lays169_ren:={
 sizeBuilder:=by kernel_rfl
 liesBuilder:=by kernel_rfl
 t5:=Tryz.underlying5
 a5:=Tryz.isAgg5
 z5:=Tryz.sizeOf5
 v5:=Tryz.zeroValue5
 infoByte:=by kernel_rfl
 cellsByte:=by kernel_rfl
 sizeByte:=by kernel_rfl
 neB5:=by decide }
open Go.RowKit in
theorem Tryz.Builder_String_any_k (B b:Nat)(l:List UInt8)(w:World)(h:Lib.IsBuilderF 238 5 B b (Lib.byteCells l) w)(hBw:B≤w.heap.size) :
  Calls Tryz.prog 160 #[.pointer (some ⟨b,0,none⟩)] w fun e w'=>e=.returned (.string ⟨l.toArray⟩)∧(Lib.IsBuilderF 238 5 B b (Lib.byteCells l) w'∧Below B w w'∧Lib.OthersKept 5 (some b) w w'):=Any.Builder_String_any_k Tryz.lays169 Tryz.Builder_Extra_169 B b l w h hBw
end Go.Proofs
namespace Go.Proofs.YthokdbcpkmcieaaGreatDoor
open Go Go.RowKit
theorem catch_idle (p0 f0 r0:Nat)(w:World) :
  CallsD Tryz.prog 185 #[.pointer (some ⟨p0,0,none⟩),.pointer (some ⟨f0,0,none⟩),.pointer (some ⟨r0,0,none⟩)] .returning w fun e u' w'=>e=.returned (.tuple #[])∧u'=.returning∧w'=w:=by
 refine callsD_of_wpS Tryz.func185 rfl fun c₀ cs hu=>?_
 simp only [Tryz.ntmps185,List.size_toArray,List.length_cons,List.length_nil,Nat.reduceAdd,Nat.reduceSub,Array.replicate_succ,Array.replicate_zero,List.push_toArray,List.append_toArray,List.nil_append,List.cons_append]
 apply wpS_seq
 apply wpS_region
 simp [wpOpsS,go_sem,recoverD,hu,Exit.thenS]
 refine wpS_of_wp ?_
 go_wp2_with fail
 cases c₀
 simp_all [bodyPostS,results,Tryz.results185]
theorem Z2k {T e:TypeId}{B b:Nat}{bs:List Value}{w w':World}{row:Option Nat}(h:Lib.IsBuilderF T e B b bs w)(hg:w.grownBy w' row)(hr:∀ r,row=some r→r<B):Lib.IsBuilderF T e B b bs w':=by
 have key:∀ p,Lib.BuilderAtF T e B b p bs w→Lib.BuilderAtF T e B b p bs w':=by
  rintro p ⟨hB,v,hb,hown,hne⟩
  refine ⟨hB,v,?_,hown.kept hg ?_,hne⟩
  ·rw [hg.block b (Array.getElem?_eq_some_iff.1 hb).1 (fun e=>by have:=hr b e.symm;omega)];exact hb
  ·cases ho:v.ownBlock with
   | none=>exact .inl rfl
   | some g=>exact .inr (fun e=>by have h1:=(hown.lt g ho).1;have h2:=hr g e.symm;omega)
 exact h.elim (fun x=>.inl (key _ x)) (fun x=>.inr (key _ x))
theorem catch_fail (bb p0 f0 r0:Nat)(b:Brd)(out:List UInt8)(w:World)(hb:BrdAt w bb b)(hP:w.heap[p0]?=some (.cells #[.pointer (some ⟨bb,0,none⟩)] 214))(hR:w.heap[r0]?=some (.cells #[.string ⟨#[]⟩] 9))
  (hF:Lib.IsBuilderF 238 5 f0 f0 (Lib.byteCells out) w) (h1:bb<p0) (h2:p0<r0) (h3:r0<f0) :
  CallsD Tryz.prog 185 #[.pointer (some ⟨p0,0,none⟩),.pointer (some ⟨f0,0,none⟩),.pointer (some ⟨r0,0,none⟩)] (.panicking [{ v:=.iface 275 (.agg #[]),recovered:=false }]) w fun e u' w'=>e=.returned (.tuple #[])∧u'=.panicking [{ v:=.iface 275 (.agg #[]),recovered:=true }]∧BrdAt w' bb ⟨false,pow0,b.mem,ear0,Z5Q⟩∧w'.cell? ⟨r0,0,none⟩=some (.string (txt out))∧w.heap.size≤w'.heap.size∧w'.os=w.os∧w'.tape=w.tape∧w'.output=w.output∧∀ k,k<p0→k≠bb→w'.heap[k]?=w.heap[k]?:=by
 have cP:w.cell? ⟨p0,0,none⟩=some (.pointer (some ⟨bb,0,none⟩)):=cell_of_row _ _ 0 _ _ (0,0) hP
 have hlP:=(Array.getElem?_eq_some_iff.1 hP).1
 have hlR:=(Array.getElem?_eq_some_iff.1 hR).1
 have hta:∀ W:World,(Instr.typeAssert (.iface 275 (.agg #[])) 20 275 true).run Tryz.prog W=.ok (.tuple #[.agg #[],.bool true]) W:=fun W=>by kernel_rfl
 refine callsD_of_wpS Tryz.func185 rfl fun c₀ cs hu=>?_
 simp only [Tryz.ntmps185,List.size_toArray,List.length_cons,List.length_nil,Nat.reduceAdd,Nat.reduceSub,Array.replicate_succ,Array.replicate_zero,List.push_toArray,List.append_toArray,List.nil_append,List.cons_append]
 apply wpS_seq
 apply wpS_region
 simp [wpOpsS,go_sem,recoverD,hu,Exit.thenS]
 refine wpS_of_wp ?_
 go_wp2_with fail
 refine (begin_any bb b false _ (hb.below ((Below.refl _ _).alloc (Nat.le_refl _) _))).mono ?_
 rintro e w1 ⟨rfl,hb1,hg1⟩
 have hz1:w.heap.size+1≤w1.heap.size:=by have:=hg1.size;simpa using this
 have hk1:∀ k,k<w.heap.size→k≠bb→w1.heap[k]?=w.heap[k]?:=fun k hk hne=>by
  rw [hg1.block k (by simp;omega) (by simp;omega),Below.heap_alloc _ _ _ hk]
 have hF1:=Z2k (hF.alloc (.cells #[] 275)) hg1 (fun r e=>by cases e;omega)
 have hlF:f0<w.heap.size:=by
  rcases hF with h | h
  ·obtain ⟨_,v,hbk,_⟩:=h;exact (Array.getElem?_eq_some_iff.1 hbk).1
  ·obtain ⟨_,v,hbk,_⟩:=h;exact (Array.getElem?_eq_some_iff.1 hbk).1
 go_wp2_with fail
 refine (Tryz.Builder_String_any_k f0 f0 out w1 hF1 (by omega)).mono ?_
 rintro e w2 ⟨rfl,_,hb2,_⟩
 have hR2:w2.heap[r0]?=some (.cells #[.string ⟨#[]⟩] 9):=by rw [hb2.block r0 h3,hk1 r0 hlR (by omega)];exact hR
 have cR:w2.cell? ⟨r0,0,none⟩=some (.string ⟨#[]⟩):=cell_of_row _ _ 0 _ _ (0,0) hR2
 have fR:=frozen_of_row w2 r0 0 _ _ hR2
 have HQ:Hid (BrdAt (w2.setCell ⟨r0,0,none⟩ (.string (txt out))) bb ⟨false,pow0,b.mem,ear0,Z5Q⟩∧(w2.setCell ⟨r0,0,none⟩ (.string (txt out))).cell? ⟨r0,0,none⟩=some (.string (txt out))∧w.heap.size≤(w2.setCell ⟨r0,0,none⟩ (.string (txt out))).heap.size∧(w2.setCell ⟨r0,0,none⟩ (.string (txt out))).os=w.os∧(w2.setCell ⟨r0,0,none⟩ (.string (txt out))).tape=w.tape∧(w2.setCell ⟨r0,0,none⟩ (.string (txt out))).output=w.output∧∀ k,k<p0→k≠bb→(w2.setCell ⟨r0,0,none⟩ (.string (txt out))).heap[k]?=w.heap[k]?):=by
  have hbo:(w2.setCell ⟨r0,0,none⟩ (.string (txt out))).heap[bb]?=w1.heap[bb]?:=by
   rw [Below.heap_setCell _ _ _ _ (by simp;omega),hb2.block bb (by omega)]
  have hsz2:w1.heap.size≤(w2.setCell ⟨r0,0,none⟩ (.string (txt out))).heap.size:=by have:=hb2.size;simpa [World.setCell] using this
  refine ⟨hb1.kept hbo hsz2,World.cell?_setCell_same _ _ _ cR,by omega,?_,?_,?_,fun k hk hne=>?_⟩
  ·exact (hb2.os.trans hg1.os)
  ·exact (hb2.tape.trans hg1.tape)
  ·exact (hb2.output.trans hg1.output)
  ·rw [Below.heap_setCell _ _ _ _ (by simp;omega),hb2.block k (by omega),hk1 k (by omega) hne]
 clear hb1 hg1 hk1 hF1 hb2 hR2 hb hF hP hR
 have htx:(⟨out.toArray⟩:ByteArray)=txt out:=rfl
 rw [htx]
 go_wp2
 exact ⟨rfl,_,rfl,_,results_none rfl _ _ _,rfl,rfl,HQ.out⟩
end Go.Proofs.YthokdbcpkmcieaaGreatDoor
namespace Go.Proofs.YthokdbcpkmcieaaGreatDoor
structure TOk (m:List UInt8) (t:Talk):Prop where
 used:∃ k,Used m k
 ses:t.ses<65536
 al:t.ans.length≤200
theorem Z5E (l:List UInt8):(Z0g l).length≤2*l.length+6:=by
 have:=Z5u (l++chkB l)
 have hc:(l++chkB l).length=l.length+2:=by simp [chkB]
 rw [hc] at this
 simp [Z0g]
 omega
theorem Z8l {p:Pow}{m bs:List UInt8}{k:Nat}{n:UInt8}(hu:Used m k)(hk:k+2≤60)(hn:n<16)(hb:bs.length=64):∃ k',Used (Z0L p m n bs).2.1 k':=by
 by_cases hp:Z1o p 136
 ·rw [Z3V hu hk hn hb hp]
  exact ⟨_,(burntM_is hu hk hn hb).1⟩
 ·obtain ⟨p',m',e,hl⟩:=Z3T (p:=p) hu hk hn hb hp
  rw [e]
  obtain ⟨k',h1,_⟩:=hl.used
  exact ⟨k',h1⟩
theorem doF_ok {p:Pow}{m rest:List UInt8}{a:UInt8}(hu:∃ k,Used m k)(h2:a=2→rest.length=65):(∃ k,Used (doF p m a rest).1.2.1 k)∧(doF p m a rest).2.length≤65:=by
 obtain ⟨k,hu⟩:=hu
 unfold doF
 split
 ·rename_i ha
  split
  ·rename_i h
   have hr:=Z7x hu
   have hle:=hu.le
   exact ⟨Z8l hu (by omega) h.1 (by rw [List.length_drop,h2 ha]),by simp⟩
  ·exact ⟨⟨k,hu⟩,by simp⟩
 ·split
  ·refine ⟨⟨k,hu⟩,?_⟩
   simp only
   split
   ·rename_i h
    have hl:=hu.len
    have hlt:=u16 h.1
    have:(Z0v m (rest.getD 0 0).toNat).length=64:=Z3f m (64*(rest.getD 0 0).toNat) 64 (by omega)
    simp only [List.length_cons]
    omega
   ·simp
  ·split
   ·exact ⟨⟨k,hu⟩,by simp⟩
   ·exact ⟨⟨k,hu⟩,by simp⟩
theorem sesOf_lt (q:List UInt8):Z0V q<65536:=by
 unfold Z0V
 have:=(q.getD 0 0).toNat_lt
 have:=(q.getD 1 0).toNat_lt
 omega
theorem askOk_two {q:List UInt8}(hk:Z15 q=true)(h:q.getD 3 0=2):q.length=69:=by
 unfold Z15 at hk
 rw [h] at hk
 split at hk
 ·cases hk
 ·rw [if_neg (by decide),if_pos rfl] at hk
  simpa using hk
theorem answerF_ok {p:Pow}{m:List UInt8}{t:Talk}{q:List UInt8}(h:TOk m t):TOk (Z0f p m t q).2.1 (Z0f p m t q).2.2.1∧(Z0f p m t q).2.2.2.1.length≤200:=by
 unfold Z0f
 split
 ·exact ⟨h,by simp⟩
 ·rename_i hk
  have hk':Z15 q=true:=by simpa using hk
  split
  ·exact ⟨h,by simp⟩
  ·split
   ·exact ⟨h,h.al⟩
   ·split
    ·exact ⟨h,by simp⟩
    ·have hd:=doF_ok (p:=p) (a:=q.getD 3 0) (rest:=q.drop 4) h.used (fun e=>by rw [List.length_drop,askOk_two hk' e])
     have hfl:=Z5E (q.take 3++(doF p m (q.getD 3 0) (q.drop 4)).2)
     have ht3:(q.take 3).length≤3:=by rw [List.length_take];exact Nat.min_le_left _ _
     rw [List.length_append] at hfl
     simp only
     split
     ·refine ⟨⟨hd.1,?_,by simp only;omega⟩,by simp only;omega⟩
      simp only
      split
      ·exact sesOf_lt q
      ·exact h.ses
     ·refine ⟨⟨hd.1,?_,h.al⟩,by simp⟩
      simp only
      split
      ·exact sesOf_lt q
      ·exact h.ses
def stepA (p:Pow) (m:List UInt8) (t:Talk) (q out:List UInt8):Pow × List UInt8 × Talk × List UInt8 × Bool :=
 if (Z0f p m t q).2.2.2.2=true then ((Z0f p m t q).1,(Z0f p m t q).2.1,(Z0f p m t q).2.2.1,out++(Z0f p m t q).2.2.2.1,true)
 else ((Z0f p m t q).1,(Z0f p m t q).2.1,(Z0f p m t q).2.2.1,out,false)
theorem Z2u:∀ (a b:List (List UInt8)) (p:Pow) (m:List UInt8) (t:Talk) (out:List UInt8) (p':Pow) (m':List UInt8) (t':Talk) (o':List UInt8),Z0J p m t a out=(p',m',t',o',true)→Z0J p m t (a++b) out=Z0J p' m' t' b o'
 | [],b,p,m,t,out,p',m',t',o',h=>by
  simp only [Z0J,Prod.mk.injEq] at h
  obtain ⟨rfl,rfl,rfl,rfl,_⟩:=h
  rfl
 | q :: a,b,p,m,t,out,p',m',t',o',h=>by
  rw [Z0J] at h
  rw [List.cons_append,Z0J]
  split at h
  ·rename_i hok
   rw [if_pos hok]
   exact Z2u a b _ _ _ _ p' m' t' o' h
  ·simp at h
theorem answers_more {p p':Pow}{m m':List UInt8}{t t':Talk}{o':List UInt8}{qs:List (List UInt8)}{j:Nat}(hj:j<qs.length)(h:Z0J p m t (qs.take j) []=(p',m',t',o',true)) :
  Z0J p m t (qs.take (j+1)) []=stepA p' m' t' (qs.getD j []) o'∧((Z0f p' m' t' (qs.getD j [])).2.2.2.2=false→Z0J p m t qs []=stepA p' m' t' (qs.getD j []) o'):=by
 have e:qs.take (j+1)=qs.take j ++ [qs.getD j []]:=by
  rw [List.take_add_one,List.getElem?_eq_getElem hj,List.getD_eq_getElem?_getD,List.getElem?_eq_getElem hj]
  rfl
 have e2:qs=qs.take j++(qs.getD j [] :: qs.drop (j+1)):=by
  have h1:qs=qs.take (j+1)++qs.drop (j+1):=(List.take_append_drop _ _).symm
  rw [e,List.append_assoc] at h1
  exact h1
 constructor
 ·rw [e,Z2u _ _ _ _ _ _ _ _ _ _ h,Z0J]
  unfold stepA
  split <;> rfl
 ·intro hf
  have h3:Z0J p m t qs []=Z0J p' m' t' (qs.getD j [] :: qs.drop (j+1)) o':=by
   have:=Z2u (qs.take j) (qs.getD j [] :: qs.drop (j+1)) p m t [] p' m' t' o' h
   rw [←e2] at this
   exact this
  rw [h3,Z0J]
  unfold stepA
  rw [if_neg (by rw [hf];simp),if_neg (by rw [hf];simp)]
end Go.Proofs.YthokdbcpkmcieaaGreatDoor
namespace Go.Proofs.YthokdbcpkmcieaaGreatDoor
open Go Go.RowKit
theorem Z8k {tmps:Array Value}{r0:Nat}{v:Value}{w:World}(ht:tmps.getD 4 undef=.pointer (some ⟨r0,0,none⟩))(hc:w.cell? ⟨r0,0,none⟩=some v):(results Tryz.f122 tmps).run Tryz.prog w=.ok v w:=by
 have ht':tmps[4]?.getD undef=.pointer (some ⟨r0,0,none⟩):=by simpa using ht
 simp [results,Tryz.results122,go_sem,ht',hc]
theorem hear_off (bb:Nat)(b:Brd)(bs:ByteArray)(w:World)(h:BrdAt w bb b)(ho:b.on=false) :
  Calls Tryz.prog 122 #[.pointer (some ⟨bb,0,none⟩),.string bs] w fun e w'=>e=.returned (.string (txt []))∧BrdAt w' bb b∧w.grownBy w' (some bb):=by
 have c0:=h.c0
 rw [ho] at c0
 have hlt:=h.sto.lt
 have HH:=Z0a h
 clear h
 go_enter_defers Tryz.func122,Tryz.ntmps122
 go_wp2
 have hB:Below w.heap.size w ((w.alloc (.cells #[.pointer (some ⟨bb,0,none⟩)] 214)).alloc (.cells #[.string ⟨#[]⟩] 9)):=((Below.refl _ _).alloc (Nat.le_refl _) _).alloc (by simp) _
 refine ⟨_,Z8k (r0:=w.heap.size+1) (v:=.string ⟨#[]⟩) rfl ?_,rfl,HH.out.below hB,⟨hB.os,hB.tape,hB.output,hB.size,fun k hk _=>hB.block k hk⟩⟩
 have:=heap_alloc_new (w.alloc (.cells #[.pointer (some ⟨bb,0,none⟩)] 214)) (.cells #[.string ⟨#[]⟩] 9)
 rw [World.alloc_size] at this
 exact cell_of_row _ _ 0 _ _ (0,0) this
theorem hear_msgs:∀ (l:List UInt8) (p:EarS × List (List UInt8)),Z6h p.1→(∀ q∈p.2,q.length≤80)→∀ q∈(l.foldl Z0P p).2,q.length≤80
 | [],p,_,h=>h
 | x :: l,p,ho,h=>by
  refine hear_msgs l (Z0P p x) (hearB_ok ho x) ?_
  unfold Z0P
  split
  ·simp only
   split
   ·intro q hq
    rcases List.mem_append.1 hq with h1 | h1
    ·exact h q h1
    ·have h2:q=p.1.ks.take (p.1.ks.length-2):=by simpa using h1
     rw [h2,List.length_take]
     have:=ho.len
     omega
   ·exact h
  ·exact h
theorem Z7b {s:EarS}(h:Z6h s)(l:List UInt8):∀ q∈(Z0r s l).2,q.length≤80:=hear_msgs l (s,[]) h (fun q hq=>by simp at hq)
structure HInv (w wr:World) (bb:Nat) (p:Pow) (m:List UInt8) (t:Talk) (o:List UInt8) (e:EarS) (v:Value) (qs:List (List UInt8)):Prop where
 c0:wr.cell? ⟨bb,0,none⟩=some (.bool true)
 sto:StoAt wr bb p m
 ear:EarO wr bb 1268 e
 talk:TalkAt wr bb t
 ok:TOk m t
 bP:wr.heap[w.heap.size]?=some (.cells #[.pointer (some ⟨bb,0,none⟩)] 214)
 bR:wr.heap[w.heap.size+1]?=some (.cells #[.string ⟨#[]⟩] 9)
 bF:Lib.IsBuilderF 238 5 (w.heap.size+1+1) (w.heap.size+1+1) (Lib.byteCells o) wr
 row:wr.ownsRow (w.heap.size+3) 9 1 v qs.length (strs qs)
 gr:w.grownBy wr (some bb)
theorem HInv.brd {w wr:World}{bb:Nat}{p:Pow}{m:List UInt8}{t:Talk}{o:List UInt8}{e:EarS}{v:Value}{qs:List (List UInt8)}(h:HInv w wr bb p m t o e v qs):BrdAt wr bb ⟨true,p,m,e,t⟩:=⟨h.c0,h.sto,h.ear,h.talk,h.ok.used,h.ok.ses,h.ok.al⟩
theorem HInv.bFlt {w wr:World}{bb:Nat}{p:Pow}{m:List UInt8}{t:Talk}{o:List UInt8}{e:EarS}{v:Value}{qs:List (List UInt8)}(h:HInv w wr bb p m t o e v qs):w.heap.size+1+1<wr.heap.size:=by
 rcases h.bF with h | h
 ·obtain ⟨_,v,hbk,_⟩:=h;exact (Array.getElem?_eq_some_iff.1 hbk).1
 ·obtain ⟨_,v,hbk,_⟩:=h;exact (Array.getElem?_eq_some_iff.1 hbk).1
theorem HInv.answered {w wr w2:World}{bb:Nat}{p p2:Pow}{m m2:List UInt8}{t t2:Talk}{o:List UInt8}{e:EarS}{v:Value}{qs:List (List UInt8)}(h:HInv w wr bb p m t o e v qs)(hbb:bb<w.heap.size)(hs:StoAt w2 bb p2 m2)(ht:TalkAt w2 bb t2)(hk:KeptE wr w2 bb)(hok:TOk m2 t2):HInv w w2 bb p2 m2 t2 o e v qs:=by
 have hl:=h.bFlt
 refine ⟨(hk.cells 0 (.inl rfl)).trans h.c0,hs,h.ear.same (fun j h1 h2=>hk.cells j (.inr ⟨h1,by omega⟩)) hk.fz hk.grown.size,ht,hok,?_,?_,Z2k h.bF hk.grown (fun r e=>by cases e;omega),?_,h.gr.trans hk.grown⟩
 ·rw [hk.grown.block _ (by omega) (by simp;omega)];exact h.bP
 ·rw [hk.grown.block _ (by omega) (by simp;omega)];exact h.bR
 ·exact Z1k h.row (fun j hj=>hk.grown.block j (h.row.lt j hj).2 (by have:=(h.row.lt j hj).1;simp;omega))
theorem HInv.written {w w2 w3:World}{bb:Nat}{p:Pow}{m:List UInt8}{t:Talk}{o x:List UInt8}{e:EarS}{v:Value}{qs:List (List UInt8)}(h:HInv w w2 bb p m t o e v qs)(hbb:bb<w.heap.size)
  (hF:Lib.IsBuilderF 238 5 (w.heap.size+1+1) (w.heap.size+1+1) (Lib.byteCells (o++x)) w3) (hb:Below (w.heap.size+1+1) w2 w3) (hk:Lib.OthersKept 5 (some (w.heap.size+1+1)) w2 w3):HInv w w3 bb p m t (o++x) e v qs:=by
 have hl:=h.bFlt
 have hbo:=hb.block bb (by omega)
 refine ⟨(World.cell?_of_block (a:=⟨bb,0,none⟩) hbo).trans h.c0,h.sto.kept hbo hb.size,h.ear.kept hbo hb.size,h.talk.kept hbo,h.ok,(hb.block _ (by omega)).trans h.bP,(hb.block _ (by omega)).trans h.bR,hF,?_,?_⟩
 ·refine Z1k h.row (fun j hj=>?_)
  obtain ⟨_,⟨hv,_⟩ | ⟨g,cap,cur,hv,hg,h3,h4⟩⟩:=h.row
  ·rw [hv] at hj;simp [Value.ownBlock] at hj
  ·rw [hv] at hj
   have:g=j:=by simpa [Value.ownBlock] using hj
   subst this
   rw [h3]
   exact hk g _ h3 (by simp;omega) (fun c fz he=>by cases he)
 ·have hg:=h.gr
  refine ⟨hb.os.trans hg.os,hb.tape.trans hg.tape,hb.output.trans hg.output,Nat.le_trans hg.size hb.size,fun k hk' hne=>?_⟩
  rw [hb.block k (by omega),hg.block k hk' hne]
theorem bhear_yes {b:Brd}{l:List UInt8}{p:Pow}{m:List UInt8}{t:Talk}{o:List UInt8}(ho:b.on=true)(h:Z0J b.pow b.mem b.talk (Z0r b.ear l).2 []=(p,m,t,o,true)):Z0N b l=(⟨true,p,m,(Z0r b.ear l).1,t⟩,o):=by
 unfold Z0N
 rw [if_neg (by rw [ho];simp)]
 simp only [h,if_true]
theorem bhear_no {b:Brd}{l:List UInt8}{p:Pow}{m:List UInt8}{t:Talk}{o:List UInt8}(ho:b.on=true)(h:Z0J b.pow b.mem b.talk (Z0r b.ear l).2 []=(p,m,t,o,false)):Z0N b l=(⟨false,pow0,m,ear0,Z5Q⟩,o):=by
 unfold Z0N
 rw [if_neg (by rw [ho];simp)]
 simp only [h]
 simp
theorem hear_on (bb:Nat)(b:Brd)(bs:ByteArray)(w:World)(h:BrdAt w bb b)(ho:b.on=true)(hbs:bs.size≤4000000) :
  Calls Tryz.prog 122 #[.pointer (some ⟨bb,0,none⟩),.string bs] w fun e w'=>e=.returned (.string (txt (Z0N b bs.data.toList).2))∧BrdAt w' bb (Z0N b bs.data.toList).1∧w.grownBy w' (some bb):=by
 have hmf:∀ (fn:Fn) (first cap:Array Value) (w:World),(Instr.makeFunc fn first cap).run Tryz.prog w=.ok (.func fn first cap) w:=fun _ _ _ _=>rfl
 have c0:=h.c0
 rw [ho] at c0
 have hlt:=h.sto.lt
 have hlen:bs.data.toList.length=bs.size:=by rw [Array.length_toList];rfl
 have hcnt:=Z2i b.ear bs.data.toList
 have hmsg:=Z7b h.ear.ok bs.data.toList
 have HE:=Z0a (fun w' (h':EarO w' bb 1268 b.ear)=>hear_o bb 1268 b.ear bs w' h' (Nat.le_trans hbs (by decide)))
 have HY:=Z0a (fun p m t o=>bhear_yes (b:=b) (l:=bs.data.toList) (p:=p) (m:=m) (t:=t) (o:=o) ho)
 have HN:=Z0a (fun p m t o=>bhear_no (b:=b) (l:=bs.data.toList) (p:=p) (m:=m) (t:=t) (o:=o) ho)
 obtain ⟨R,hR⟩:∃ R,Z0N b bs.data.toList=R:=⟨_,rfl⟩
 rw [hR] at HY HN ⊢
 obtain ⟨X,he⟩:∃ X,Z0r b.ear bs.data.toList=X:=⟨_,rfl⟩
 rw [he] at HE HY HN hcnt hmsg
 obtain ⟨ea,qs⟩:=X
 simp only at HE HY HN hcnt hmsg
 have HH:=Z0a h
 clear h hR he
 go_enter_defers Tryz.func122,Tryz.ntmps122
 go_wp2_with fail
 obtain ⟨W3,hW3⟩:∃ W3,((w.alloc (.cells #[.pointer (some ⟨bb,0,none⟩)] 214)).alloc (.cells #[.string ⟨#[]⟩] 9)).alloc (.cells #[.pointer none,.slice none 0 0] 238)=W3:=⟨_,rfl⟩
 have hz3:W3.heap.size=w.heap.size+3:=by rw [←hW3];simp
 have hB3:Below w.heap.size w W3:=by rw [←hW3];exact (((Below.refl _ _).alloc (Nat.le_refl _) _).alloc (by simp) _).alloc (by simp;omega) _
 have hP3:W3.heap[w.heap.size]?=some (.cells #[.pointer (some ⟨bb,0,none⟩)] 214):=by
  rw [←hW3,Below.heap_alloc _ _ _ (by simp;omega),Below.heap_alloc _ _ _ (by simp)];exact heap_alloc_new _ _
 have hR3:W3.heap[w.heap.size+1]?=some (.cells #[.string ⟨#[]⟩] 9):=by
  rw [←hW3,Below.heap_alloc _ _ _ (by simp)]
  have:=heap_alloc_new (w.alloc (.cells #[.pointer (some ⟨bb,0,none⟩)] 214)) (.cells #[.string ⟨#[]⟩] 9)
  rwa [World.alloc_size] at this
 have hF3:Lib.IsBuilderF 238 5 (w.heap.size+1+1) (w.heap.size+1+1) (Lib.byteCells []) W3:=by
  have:=Lib.IsBuilderF.of (Lib.fresh_isBuilder 238 5 ((w.alloc (.cells #[.pointer (some ⟨bb,0,none⟩)] 214)).alloc (.cells #[.string ⟨#[]⟩] 9)))
  rw [World.alloc_size,World.alloc_size,hW3] at this
  exact this
 have hb3:BrdAt W3 bb b:=HH.out.below hB3
 rw [hW3]
 refine (HE.out W3 hb3.ear).mono ?_
 rintro e w1 ⟨v,rfl,hE1,hV1,hG1⟩
 rw [hz3] at hV1
 have hI:HInv w w1 bb b.pow b.mem b.talk [] ea v qs:=by
  have hbo:∀ k,k<W3.heap.size→k≠bb→w1.heap[k]?=W3.heap[k]?:=fun k hk hne=>hG1.grown.block k hk (by simp;omega)
  refine ⟨?_,hb3.sto.same (fun j h1 h2=>hG1.cells j (by omega)) hG1.fz hG1.grown.size,hE1,hb3.talk.same (fun j h1 h2=>hG1.cells j (by omega)) hG1.fz,⟨hb3.used,hb3.ses,hb3.al⟩,(hbo _ (by omega) (by omega)).trans hP3,(hbo _ (by omega) (by omega)).trans hR3,Z2k hF3 hG1.grown (fun r e=>by cases e;omega),hV1,?_⟩
  ·rw [hG1.cells 0 (by omega),hb3.c0,ho]
  ·exact World.grownBy.trans ⟨hB3.os,hB3.tape,hB3.output,hB3.size,fun k hk _=>hB3.block k hk⟩ hG1.grown
 obtain ⟨va,vm,vc,rfl⟩:=Z0z hV1
 have hvm:vm=qs.length:=by
  obtain ⟨_,⟨hv,h0⟩ | ⟨g,cap,cur,hv,_⟩⟩:=hV1
  ·cases hv;exact h0.symm
  ·cases hv;rfl
 subst hvm
 have HI:=Z0a hI
 clear hI hE1 hV1 hG1 hb3 hF3 hR3 hP3 hB3 hz3 hW3 HE HH c0
 go_wp2_with fail
 go_loopw [21] (fun i wr=>∃ j:Nat,j≤qs.length∧i=.int .i64 j∧∃ p' m' t' o',Z0J b.pow b.mem b.talk (qs.take j) []=(p',m',t',o',true)∧o'.length≤200*j∧HInv w wr bb p' m' t' o' ea (.slice va qs.length vc) qs) (fun i _=>qs.length-(intOf i).toNat)
 case atStart=>exact ⟨0,Nat.zero_le _,rfl,_,_,_,_,rfl,by simp,HI.out⟩
 case round =>
  obtain ⟨j,hj,rfl,p',m',t',o',hA,hol,hI⟩:=hrel
  clear HI
  by_cases hlt2:j<qs.length
  ·obtain ⟨g,cap,hv,hg1,hg2⟩:=Z2F hI.row (by omega)
   cases hv
   have cq:wr.cell? ⟨g,j,none⟩=some (.string (txt (qs.getD j []))):=by
    have h1:(strs qs)[j]?=some (.string (txt (qs.getD j []))):=by
     unfold strs
     rw [List.getElem?_map,List.getElem?_eq_getElem hlt2,List.getD_eq_getElem?_getD,List.getElem?_eq_getElem hlt2]
     rfl
    have:=hI.row.cells (g:=g) rfl j _ h1
    rwa [Addr.add_lit,Nat.zero_add] at this
   have hql:(qs.getD j []).length≤80:=by
    rw [List.getD_eq_getElem?_getD,List.getElem?_eq_getElem hlt2]
    exact hmsg _ (List.getElem_mem _)
   obtain ⟨hm1,hm2⟩:=answers_more hlt2 hA
   obtain ⟨q,hq⟩:∃ q,qs.getD j []=q:=⟨_,rfl⟩
   rw [hq] at cq hql hm1 hm2
   have htq:(txt q).data.toList=q:=by simp [txt]
   obtain ⟨ku,hku⟩:=hI.ok.used
   have HA:=Z0a (answer_any bb p' m' t' (txt q) ku wr hI.sto hku hI.talk hI.ok.ses (by rw [Z0k];omega))
   rw [htq] at HA
   have hkk:=answerF_ok (p:=p') (q:=q) hI.ok
   obtain ⟨r,hr⟩:∃ r,Z0f p' m' t' q=r:=⟨_,rfl⟩
   unfold stepA at hm1 hm2
   rw [hr] at HA hm1 hm2 hkk
   obtain ⟨p2,m2,t2,o2,ok⟩:=r
   simp only at hm1 hm2 hkk
   have hji:(j:Int)<(qs.length:Int):=by omega
   have cP:wr.cell? ⟨w.heap.size,0,none⟩=some (.pointer (some ⟨bb,0,none⟩)):=cell_of_row _ _ 0 _ _ (0,0) hI.bP
   have HII:=Z0a (And.intro hI (And.intro hm1 (And.intro hm2 hkk)))
   clear hI hA hm1 hm2 hkk hr hku htq hq
   go_wp2_with fail
   refine HA.out.mono ?_
   rintro e w2 ⟨hend,hs2,ht2,hk2⟩
   have HI2:=Z0a (HII.out.1.answered hlt hs2 ht2 hk2 HII.out.2.2.2.1)
   clear hs2 ht2 hk2
   cases ok with
   | false =>
    obtain rfl:=endT_no hend
    go_wp2_with fail
    refine leaves_cons (f:=185) (args:=#[.pointer (some ⟨w.heap.size,0,none⟩),.pointer (some ⟨w.heap.size+1+1,0,none⟩),.pointer (some ⟨w.heap.size+1,0,none⟩)]) (by simp) (by simp [go_sem]) ?_
    refine (catch_fail bb w.heap.size (w.heap.size+1+1) (w.heap.size+1) _ o' w2 HI2.out.brd HI2.out.bP HI2.out.bR HI2.out.bF (by omega) (by omega) (by omega)).mono ?_
    rintro e u' w4 ⟨rfl,rfl,h1,h2,h3,h4,h5,h6,h7⟩
    have hfin:=HN.out p2 m2 t2 o' (HII.out.2.2.1 (by first | rfl | trivial))
    refine ⟨_,Z8k (r0:=w.heap.size+1) rfl h2,by rw [hfin],by rw [hfin];exact h1,?_⟩
    have hg:=HI2.out.gr
    refine ⟨h4.trans hg.os,h5.trans hg.tape,h6.trans hg.output,Nat.le_trans hg.size h3,fun k hk hne=>?_⟩
    rw [h7 k hk (fun e=>hne (by rw [e])),hg.block k hk hne]
   | true =>
    obtain rfl:=Z4E hend
    have hsz:=HI2.out.bFlt
    go_wp2_with fail
    refine (Z5V (w.heap.size+1+1) (w.heap.size+1+1) (Lib.byteCells o') (txt o2) w2 HI2.out.bF (by rw [Lib.byteCells_length,Z0k];have:=HII.out.2.2.2.2;omega) (by omega)).mono ?_
    rintro e w3 ⟨rfl,hF3,hb3,hk3⟩
    have HI3:=Z0a (HI2.out.written (x:=o2) hlt (by rw [Lib.byteCells_append];exact .inr hF3) hb3 hk3)
    clear hF3 hb3 hk3
    go_wp2
    go_roundw
    case rel =>
     refine ⟨j+1,by omega,by go_num,p2,m2,t2,o'++o2,?_,?_,HI3.out⟩
     ·have:=HII.out.2.1
      simpa using this
     ·rw [List.length_append]
      have:=HII.out.2.2.2.2
      omega
    case measure=>simp [intOf];omega
  ·have hjl:j=qs.length:=by omega
   rw [hjl,List.take_length] at hA
   have hfin:=HY.out p' m' t' o' hA
   have hsz:=hI.bFlt
   have hjn:¬ (j:Int)<(qs.length:Int):=by omega
   have HII:=Z0a hI
   clear hI hA
   go_wp2_with fail
   refine (Tryz.Builder_String_any_k (w.heap.size+1+1) (w.heap.size+1+1) o' wr HII.out.bF (by omega)).mono ?_
   rintro e w4 ⟨rfl,_,hb4,_⟩
   have hR4:w4.heap[w.heap.size+1]?=some (.cells #[.string ⟨#[]⟩] 9):=(hb4.block _ (by omega)).trans HII.out.bR
   have cR:w4.cell? ⟨w.heap.size+1,0,none⟩=some (.string ⟨#[]⟩):=cell_of_row _ _ 0 _ _ (0,0) hR4
   have fR:=frozen_of_row w4 (w.heap.size+1) 0 _ _ hR4
   have htx:(⟨o'.toArray⟩:ByteArray)=txt o':=rfl
   rw [htx]
   have HB4:=Z0a hb4
   clear hb4 hR4
   go_wp2_with fail
   refine leaves_cons (f:=185) (args:=#[.pointer (some ⟨w.heap.size,0,none⟩),.pointer (some ⟨w.heap.size+1+1,0,none⟩),.pointer (some ⟨w.heap.size+1,0,none⟩)]) (by simp) (by simp [go_sem]) ?_
   refine (catch_idle w.heap.size (w.heap.size+1+1) (w.heap.size+1) _).mono ?_
   rintro e u' w5 ⟨rfl,rfl,rfl⟩
   refine ⟨_,Z8k (r0:=w.heap.size+1) rfl (World.cell?_setCell_same _ _ _ cR),by rw [hfin],?_,?_⟩
   ·rw [hfin]
    exact HII.out.brd.kept (by rw [Below.heap_setCell _ _ _ _ (by simp;omega),HB4.out.block bb (by omega)]) (by have:=HB4.out.size;simpa [World.setCell] using this)
   ·have hg:=HII.out.gr
    have hb:=HB4.out
    refine ⟨hb.os.trans hg.os,hb.tape.trans hg.tape,hb.output.trans hg.output,by have h1:=hb.size;have h2:=hg.size;simp [World.setCell];omega,fun k hk hne=>?_⟩
    rw [Below.heap_setCell _ _ _ _ (by simp;omega),hb.block k (by omega),hg.block k hk hne]
end Go.Proofs.YthokdbcpkmcieaaGreatDoor
