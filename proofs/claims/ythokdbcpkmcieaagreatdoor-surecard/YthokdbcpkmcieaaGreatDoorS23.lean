/- AsmH AsmI AsmJ -/
import Derived.Test.YthokdbcpkmcieaaGreatDoorS22
import Derived.Test.YthokdbcpkmcieaaGreatDoorS20
import Derived.Deep.OwnRows
import Derived.Laws.OwnMore
import Derived.BigRegion
import Derived.Deep.DeepCutAuto
import Derived.Test.YthokdbcpkmcieaaGreatDoorS15
set_option maxRecDepth 200000
set_option maxHeartbeats 8000000
namespace Go.Proofs.YthokdbcpkmcieaaGreatDoor
open Go Go.RowKit Go.Shelf Go.WideMaps Go.Maps
def unkn (nm:List UInt8→Option Int) (s:ByteArray):Bool:=!(nm s.data.toList).isSome
def Z6z (a:Asm) (p:Nat) (x:Stm):Except Int Asm :=
 if Z1I x.task x.vals.length x.ins.size=0 then .ok a
 else if (Z1f x.vals).any (unkn a.nm)=true then .error 3
 else match bytS a.nm p x with
  | none=>.error 6
  | some bs=>.ok { a with bytes:=putAt a.bytes p bs }
structure FilPre (w:World) (m:AMem) (a:Asm) (base:Nat) (x:Stm) (v kd:Value) (p:Nat):Prop where
 pre:FillPre w m a base x v p
 mok:m.Ok
 ins:x.task=6→InsPre w x kd
 fit:p+Z1I x.task x.vals.length x.ins.size≤1024
 size:x.ins.size≤100
theorem usedS_size {es:List (List Trm)}(h:∀ e∈es,∀ t∈e,t.name.size≤1000000∧0≤t.num):∀ s∈Z1f es,s.size≤1000000:=fun s hs=>by
 unfold Z1f Z3k at hs
 obtain ⟨e,he,h1⟩:=List.mem_flatMap.1 hs
 obtain ⟨t,ht,rfl⟩:=List.mem_map.1 h1
 exact (h e he t (List.mem_filter.1 ht).1).1
theorem sizeS_task {tk vn sz:Nat}(h:¬ Z1I tk vn sz=0):tk=2∨tk=3∨tk=6:=by
 unfold Z1I at h
 split at h
 ·exact .inl (by assumption)
 ·split at h
  ·exact .inr (.inl (by assumption))
  ·split at h
   ·exact .inr (.inr (by assumption))
   ·exact absurd rfl h
theorem fill_any (w:World)(m:AMem)(a:Asm)(base:Nat)(x:Stm)(va:Option Addr)(vn vc:Nat)(p:Nat)(l0:Int)(lb:ByteArray)(ka:Option Addr)(kn kc:Nat)(h:FilPre w m a base x (.slice va vn vc) (.slice ka kn kc) p) :
  Calls Tryz.prog 65 #[.pointer (some ⟨m.ab,0,none⟩),.agg #[.int .i64 l0,.int .i64 (p:Int),.string lb,.int .i64 (x.task:Int),.string x.name,.slice va vn vc,.int .u8 (x.ins.code:Int),.slice ka kn kc,.int .i64 (x.ins.size:Int)]] w (Z4m w m l0 (Z6z a p x)):=by
 obtain ⟨R,hR⟩:∃ R,Z6z a p x=R:=⟨_,rfl⟩
 rw [hR]
 unfold Z6z at hR
 have hvn:vn=x.vals.length:=by
  obtain ⟨vs,h1,_⟩:=h.pre.vals
  exact Z01 h1 rfl
 obtain ⟨W,hW,hBW,hWz,hSS⟩:=Z1y w l0 (p:Int) lb (x.task:Int) x.name (.slice va vn vc) (x.ins.code:Int) (.slice ka kn kc) (x.ins.size:Int)
 have HZ0:=Z7l W l0 (p:Int) lb x.task x.name va vn vc (x.ins.code:Int) ka kn kc x.ins.size (by rw [hvn];exact h.pre.len)
 obtain ⟨SZ,hSZ⟩:∃ SZ,Z1I x.task x.vals.length x.ins.size=SZ:=⟨_,rfl⟩
 rw [hSZ] at hR
 rw [hvn,hSZ,← hvn] at HZ0
 have HZ:=Z0a HZ0
 have HSS:Hid (∀ w',Below W.heap.size W w'→SS w' w.heap.size l0 (p:Int) lb (x.task:Int) x.name (.slice va vn vc) (x.ins.code:Int) (.slice ka kn kc) (x.ins.size:Int)):=fun w' hb=>hSS.grown (hb.block _ hSS.lt) hb.size
 have HB:=Z0a hBW
 have HP:=Z0a h
 have HSZ:=Z0a hSZ
 have HPW:Hid (∀ w',Below W.heap.size W w'→FillPre w' m a base x (.slice va vn vc) p):=fun w' hb=>(h.pre.below hBW).below hb
 have HU:Hid (∀ w',Below W.heap.size W w'→Calls Tryz.prog 108 #[.agg #[.int .i64 l0,.int .i64 (p:Int),.string lb,.int .i64 (x.task:Int),.string x.name,.slice va vn vc,.int .u8 (x.ins.code:Int),.slice ka kn kc,.int .i64 (x.ins.size:Int)]] w' fun e w2=>∃ v,e=.returned v∧w2.ownsRow w'.heap.size 9 1 v (Z1f x.vals).length (strV (Z1f x.vals))∧Below w'.heap.size w' w2):=fun w' hb=>used_any w' base x.vals l0 (p:Int) lb (x.task:Int) x.name va vn vc (x.ins.code:Int) ka kn kc (x.ins.size:Int) ((h.pre.vals.below hBW).below hb) h.pre.len h.pre.cnt
 have t0:=hSS.c0
 have t1:=hSS.c1
 have t2:=hSS.c2
 have t3:=hSS.c3
 have t4:=hSS.c4
 have t5:=hSS.c5
 have t6:=hSS.c6
 have t7:=hSS.c7
 have t8:=hSS.c8
 clear h hBW hSS HZ0 hvn hSZ
 by_cases hz:SZ=0
 ·rw [if_pos hz] at hR
  subst hz hR
  go_enter Tryz.func65,Tryz.ntmps65
  go_wp2_with (first | (go_at_call 107;refine HZ.out.mono ?_;rintro e w1 ⟨rfl,hb1⟩))
  refine bodyPost_ret (results_none rfl _ _ _) rfl ?_
  have hb:=HB.out.trans (hb1.mono HB.out.size)
  exact ⟨ChgM.below _ hb,rfl,HP.out.pre.at_.below hb⟩
 ·rw [if_neg hz] at hR
  have hzi:¬ (SZ:Int)=0:=by omega
  have HR:=Z0a hR
  have HZN:=Z0a hz
  clear hR hz
  go_enter Tryz.func65,Tryz.ntmps65
  go_wp2_with (first | (go_at_call 107;refine HZ.out.mono ?_;rintro e w1 ⟨rfl,hb1⟩;have p0:=(HSS.out _ hb1).c0;have p1:=(HSS.out _ hb1).c1;have p2:=(HSS.out _ hb1).c2;have p3:=(HSS.out _ hb1).c3;have p4:=(HSS.out _ hb1).c4;have p5:=(HSS.out _ hb1).c5;have p6:=(HSS.out _ hb1).c6;have p7:=(HSS.out _ hb1).c7;have p8:=(HSS.out _ hb1).c8;have HB1:=Z0a hb1;clear hb1) | (go_at_call 108;refine (HU.out w1 HB1.out).mono ?_;rintro e w2 ⟨v2,rfl,hr2,hb2⟩;obtain ⟨x2,y2,z2,ev2⟩:=Z0E hr2;have HY2:=Z0a (Z01 hr2 ev2);subst ev2;have HR2:=Z0a hr2;have HB2:=Z0a (HB1.out.trans (hb2.mono HB1.out.size));clear hr2 hb2))
  have hs2:=HSS.out w2 HB2.out
  have r0:=hs2.c0
  have r1:=hs2.c1
  have r2:=hs2.c2
  have r3:=hs2.c3
  have r4:=hs2.c4
  have r5:=hs2.c5
  have r6:=hs2.c6
  have r7:=hs2.c7
  have r8:=hs2.c8
  have sl:=hs2.lt
  obtain ⟨U,hU⟩:∃ U,Z1f x.vals=U:=⟨_,rfl⟩
  have hyl:(y2:Int)≤4000000:=by
   have h1:=Z6v x.vals
   have h2:=HP.out.pre.cnt
   have h3:=HY2.out
   omega
  have HKU:Hid (∀ s,s∈U→Calls Tryz.prog 109 #[.pointer (some ⟨m.ab,0,none⟩),.string s] w2 fun e w'=>e=.returned (.bool (a.nm s.data.toList).isSome)∧w'=w2):=fun s hx=>Z6O w2 m.ab _ _ _ m.nb _ _ _ s (HPW.out w2 HB2.out).at_.st (usedS_size HP.out.pre.trms s (by rw [hU];exact hx))
  rw [hU] at HR2 HY2 HR
  have HUU:=Z0a hU
  clear hU hs2 t0 t1 t2 t3 t4 t5 t6 t7 t8 p0 p1 p2 p3 p4 p5 p6 p7 p8 HU HZ
  go_loopw [12] (fun i wr=>∃ j:Nat,j≤y2∧i=.int .i64 j∧(U.take j).any (unkn a.nm)=false∧wr=w2) (fun i _=>y2-(intOf i).toNat)
  case atStart=>exact ⟨0,Nat.zero_le _,rfl,rfl,rfl⟩
  case round =>
   obtain ⟨j,hj,rfl,hno,hw3⟩:=hrel
   subst hw3
   have HNO:=Z0a hno
   clear hno
   by_cases hlt:j<y2
   ·have hji:(j:Int)<(y2:Int):=by omega
    have hjl:j<U.length:=by rw [←HY2.out];exact hlt
    obtain ⟨g,hg,cj⟩:=Z12 HR2.out (by omega) (Z54 U j hjl)
    subst hg
    obtain ⟨y,hy⟩:∃ y,U[j]=y:=⟨_,rfl⟩
    rw [hy] at cj
    have HX:=Z0a hy
    have HKY:=Z0a (HKU.out y (by rw [←hy];exact List.getElem_mem hjl))
    clear hy
    cases hk:(a.nm y.data.toList).isSome with
    | false =>
     rw [hk] at HKY
     have eR:R=.error 3:=by
      rw [←HR.out,if_pos]
      rw [List.any_eq_true]
      exact ⟨y,by rw [←HX.out];exact List.getElem_mem hjl,by unfold unkn;rw [hk];rfl⟩
     subst eR
     clear hk
     go_wp2_with (first | (go_at_call 109;refine HKY.out.mono ?_;rintro e w4 ⟨rfl,rfl⟩))
     exact ⟨rfl,ChgM.below _ (HB.out.trans (HB2.out.mono HB.out.size)),rfl⟩
    | true =>
     rw [hk] at HKY
     have HK:=Z0a hk
     clear hk
     go_wp2_with (first | (go_at_call 109;refine HKY.out.mono ?_;rintro e w4 ⟨rfl,rfl⟩))
     go_roundw
     case rel=>exact ⟨j+1,by omega,by go_num,Z1g hjl HNO.out (by rw [HX.out];unfold unkn;rw [HK.out];rfl),by first | rfl | trivial⟩
     case measure=>simp [intOf];omega
   ·have hji:¬ (j:Int)<(y2:Int):=by omega
    have hall:U.any (unkn a.nm)=false:=by
     have:=HNO.out
     rw [List.take_of_length_le (by rw [←HY2.out];omega)] at this
     exact this
    have hR2:=HR.out
    rw [if_neg (by simp [hall])] at hR2
    have HR3:=Z0a hR2
    have ht:=sizeS_task (by rw [HSZ.out];exact HZN.out:¬ Z1I x.task x.vals.length x.ins.size=0)
    have hpre:=HPW.out wr HB2.out
    have hBY:Calls Tryz.prog 110 #[.pointer (some ⟨m.ab,0,none⟩),.agg #[.int .i64 l0,.int .i64 (p:Int),.string lb,.int .i64 (x.task:Int),.string x.name,.slice va vn vc,.int .u8 (x.ins.code:Int),.slice ka kn kc,.int .i64 (x.ins.size:Int)]] wr.drew (DEnd wr.drew l0 (bytS a.nm p x)):=by
     rcases ht with h2 | h3 | h6
     ·exact Z7w wr.drew m a base x va vn vc p l0 lb x.name _ ka kn kc _ (hpre.below (Below.refl _ _).drew) (.inl h2)
     ·exact Z7w wr.drew m a base x va vn vc p l0 lb x.name _ ka kn kc _ (hpre.below (Below.refl _ _).drew) (.inr h3)
     ·have hI:=HP.out.ins h6
      exact bytes_ins wr.drew m a base x va vn vc p l0 lb x.name ka kn kc (hpre.below (Below.refl _ _).drew) ⟨hI.ins,(hI.kinds.below HB.out).below (w':=wr.drew) ⟨HB2.out.os,HB2.out.tape,HB2.out.output,HB2.out.size,HB2.out.block⟩⟩ h6
    have HT:=Z0a ht
    have a0:wr.cell? ⟨m.ab,0,none⟩=some (.slice (some ⟨m.ik,0,none⟩) 1024 m.c0):=hpre.at_.st.c0
    have habl:=hpre.at_.st.lt
    have hBw:Below w.heap.size w wr:=HB.out.trans (HB2.out.mono HB.out.size)
    have HBW2:=Z0a hBw
    have HPR:=Z0a hpre
    have hfit:=HP.out.fit
    rw [HSZ.out] at hfit
    have hzn:=HZN.out
    have hp1:p<1024:=by omega
    have hpi:(p:Int)<1024:=by omega
    have hpi4:(p:Int)≤1024:=by omega
    have hc0i:(1024:Int)≤(m.c0:Int):=by have:=HP.out.mok.h0;omega
    have hc0j:(m.c0:Int)≤9223372036854775807:=by have:=HP.out.mok.h0.2;unfold maxLen at this;omega
    have hcp:¬ m.c0=p:=by have:=HP.out.mok.h0;omega
    have hpc:(p:Int)≤(m.c0:Int):=by omega
    have HFI:=Z0a (And.intro hfit hzn)
    have HBYY:=Z0a hBY
    cases hO:bytS a.nm p x with
    | none =>
     rw [hO] at HBYY HR3
     have eR:R=.error 6:=HR3.out.symm
     subst eR
     have hent:∀ args w,(callFunc 110 args).run Tryz.prog w=.ok (.enter 110 args) w:=enters_of Tryz.func110 (by kernel_rfl) rfl
     clear hall hR2 ht hpre hBY hBw hfit hzn hO hlt hj HNO HR HKU HPW
     go_wp2_with fail
     go_region_law (first | (refine Z2V HF ?_) | (refine Z4p 110 #[.pointer (some ⟨m.ab,0,none⟩),.agg #[.int .i64 l0,.int .i64 (p:Int),.string lb,.int .i64 (x.task:Int),.string x.name,.slice va vn vc,.int .u8 (x.ins.code:Int),.slice ka kn kc,.int .i64 (x.ins.size:Int)]] rfl (by simp [go_sem,hent]) _ HBYY.out (fun e w' hh=>⟨fltC 6 l0,hh.2,rfl,((ChgM.below m HBW2.out).trans (ChgM.below m (Below.trans (Below.refl _ _).drew hh.1))),rfl⟩) ?_;intro HF))
     all_goals exact HF.out.elim
    | some bs =>
     rw [hO] at HBYY HR3
     have eR:R=.ok { a with bytes:=putAt a.bytes p bs }:=HR3.out.symm
     subst eR
     have hbl:=bytS_len hO HT.out (fun h6=>(HP.out.ins h6).ins)
     rw [HSZ.out] at hbl
     have HB2Y:Hid (Calls Tryz.prog 110 #[.pointer (some ⟨m.ab,0,none⟩),.agg #[.int .i64 l0,.int .i64 (p:Int),.string lb,.int .i64 (x.task:Int),.string x.name,.slice va vn vc,.int .u8 (x.ins.code:Int),.slice ka kn kc,.int .i64 (x.ins.size:Int)]] wr.drew fun e w5=>∃ (ya:Option Addr) (yn yc:Nat),e=.returned (.slice ya yn yc)∧Below wr.heap.size wr w5∧∃ v w6,(Builtin.copy_ #[32,32] 3 #[.slice (some ⟨m.ik,p,none⟩) (1024-p) (m.c0-p),.slice ya yn yc]).run Tryz.prog w5=.ok v w6∧YRow w6 m.ik (putAt a.bytes p bs)∧OnlyB w5 w6 m.ik):=HBYY.out.mono fun e w5 hh=>by
      obtain ⟨h1,v,h2,h3⟩:=hh
      obtain ⟨ya,yn,yc,rfl⟩:=Z16 h3
      have hB5:Below wr.heap.size wr w5:=⟨h1.os,h1.tape,h1.output,h1.size,h1.block⟩
      have hf:=HFI.out
      exact ⟨ya,yn,yc,h2,hB5,copy_run w5 _ m.ik p (m.c0-p) a.bytes _ ya yn yc bs (HPR.out.at_.below hB5).bytes h3 hbl.2 (by omega) (by omega)⟩
     have HSX:Hid (∀ w':World,w'.heap[m.ab]?=wr.heap[m.ab]?→w'.heap[w.heap.size]?=wr.heap[w.heap.size]?→w'.cell? ⟨m.ab,0,none⟩=some (.slice (some ⟨m.ik,0,none⟩) 1024 m.c0)∧w'.cell? ⟨w.heap.size,0,none⟩=some (.int .i64 l0)∧w'.cell? ⟨w.heap.size,1,none⟩=some (.int .i64 (p:Int))∧w'.cell? ⟨w.heap.size,2,none⟩=some (.string lb)∧w'.cell? ⟨w.heap.size,3,none⟩=some (.int .i64 (x.task:Int))∧w'.cell? ⟨w.heap.size,4,none⟩=some (.string x.name)∧w'.cell? ⟨w.heap.size,5,none⟩=some (.slice va vn vc)∧w'.cell? ⟨w.heap.size,6,none⟩=some (.int .u8 (x.ins.code:Int))∧w'.cell? ⟨w.heap.size,7,none⟩=some (.slice ka kn kc)∧w'.cell? ⟨w.heap.size,8,none⟩=some (.int .i64 (x.ins.size:Int))):=fun w' k1 k2=>by
      have hc:∀ j,w'.cell? ⟨w.heap.size,j,none⟩=wr.cell? ⟨w.heap.size,j,none⟩:=fun j=>World.cell?_of_block (a:=⟨w.heap.size,j,none⟩) k2
      exact ⟨(World.cell?_of_block (a:=⟨m.ab,0,none⟩) k1).trans a0,(hc 0).trans r0,(hc 1).trans r1,(hc 2).trans r2,(hc 3).trans r3,(hc 4).trans r4,(hc 5).trans r5,(hc 6).trans r6,(hc 7).trans r7,(hc 8).trans r8⟩
     have hik:m.ab≠m.ik:=fun e=>HP.out.mok.e.1 e.symm
     have hiw:w.heap.size≠m.ik:=fun e=>by have:=HP.out.pre.at_.bytes.lt;omega
     have hBd:Below wr.heap.size wr wr.drew:=(Below.refl _ _).drew
     clear hall hR2 ht hpre hBY hBw hfit hzn hO hlt hj HNO HR HKU HPW HBYY hbl
     go_wp2_with fail
     go_region_held3 (fun w'=>w'.cell? ⟨m.ab,0,none⟩=some (.slice (some ⟨m.ik,0,none⟩) 1024 m.c0)∧w'.cell? ⟨w.heap.size,0,none⟩=some (.int .i64 l0)∧w'.cell? ⟨w.heap.size,1,none⟩=some (.int .i64 (p:Int))∧w'.cell? ⟨w.heap.size,2,none⟩=some (.string lb)∧w'.cell? ⟨w.heap.size,3,none⟩=some (.int .i64 (x.task:Int))∧w'.cell? ⟨w.heap.size,4,none⟩=some (.string x.name)∧w'.cell? ⟨w.heap.size,5,none⟩=some (.slice va vn vc)∧w'.cell? ⟨w.heap.size,6,none⟩=some (.int .u8 (x.ins.code:Int))∧w'.cell? ⟨w.heap.size,7,none⟩=some (.slice ka kn kc)∧w'.cell? ⟨w.heap.size,8,none⟩=some (.int .i64 (x.ins.size:Int))) (first | exact HSX.out _ (hBd.block _ habl) (hBd.block _ sl) | exact HSX.out _ (hB5.block _ habl) (hB5.block _ sl) | exact HSX.out _ ((ho6.block _ hik).trans (hB5.block _ habl)) ((ho6.block _ hiw).trans (hB5.block _ sl))) (first | (go_at_call 110;refine HB2Y.out.mono ?_;rintro e w5 ⟨ya,yn,yc,rfl,hB5,v6,w6,hrun,hy6,ho6⟩;have HY6:=Z0a hy6;clear hy6))
     all_goals
      go_wp2_with fail
      go_end0
      have hA5:=HPR.out.at_.below hB5
      refine ⟨(ChgM.below m HBW2.out).trans ((ChgM.below m hB5).trans ⟨ho6.os,ho6.tape,ho6.output,Nat.le_of_eq ho6.size.symm,fun k _ _ h2 _ _ _=>ho6.block k h2⟩),rfl,?_⟩
      have he:=HP.out.mok.e
      exact ⟨hA5.st.kept (ho6.block _ hik) (ho6.block _ (fun e=>he.2.2.2 e.symm)),HY6.out,hA5.laid.kept (ho6.block _ (fun e=>he.2.1 e.symm)),hA5.starts.kept (ho6.block _ (fun e=>he.2.2.1 e.symm))⟩
theorem infoBoolB:(Tryz.prog.info? 4).map (fun i=>(i.zero,i.size,i.bytes))=some (some (.bool false),1,1):=by kernel_rfl
theorem infoU8B:(Tryz.prog.info? 5).map (fun i=>(i.zero,i.size,i.bytes))=some (some (.int .u8 0),1,1):=by kernel_rfl
theorem made_rep (z:Value)(n:Nat):madeCells #[z] n=(List.replicate n z).toArray:=by
 rw [←toList_madeCells_one z n,Array.toArray_toList]
def bF:List Bool:=List.replicate 1024 false
def b255:List UInt8:=List.replicate 1024 255
theorem bF_len:bF.length=1024:=by unfold bF;exact List.length_replicate
structure BlankAt (w wx:World) (tb ik lk sk:Nat) (l:List UInt8):Prop where
 box:wx.heap[tb]?=some (.cells #[iV ik 1024,iV lk 1024,iV sk 1024] 35 (0,0))
 bytes:YRow wx ik l
 laid:BRow wx lk bF
 starts:BRow wx sk bF
 low:w.heap.size<ik∧w.heap.size<lk∧w.heap.size<sk∧w.heap.size<tb
 ne:ik≠lk∧ik≠sk∧lk≠sk∧ik≠tb∧lk≠tb∧sk≠tb
 res:wx.heap[w.heap.size]?=some (.cells #[.slice none 0 0,.slice none 0 0,.slice none 0 0] 35 (0,0))
 blw:Below w.heap.size w wx
def BlankEnd (w:World) (e:Ending) (w':World):Prop:=∃ ik lk sk,e=.returned (.agg #[iV ik 1024,iV lk 1024,iV sk 1024])∧YRow w' ik b255∧BRow w' lk bF∧BRow w' sk bF∧(w.heap.size<ik∧w.heap.size<lk∧w.heap.size<sk)∧(ik≠lk∧ik≠sk∧lk≠sk)∧Below w.heap.size w w'
theorem Z4j (x:World)(o:Obj)(k:Nat)(h:k=x.heap.size):(x.alloc o).heap[k]?=some o:=by
 rw [h]
 exact heap_alloc_new x o
theorem four (w:World)(A o1 o2 o3 o4:Obj):(((((w.alloc A).alloc o1).alloc o2).alloc o3).alloc o4).heap[w.heap.size]?=some A∧(((((w.alloc A).alloc o1).alloc o2).alloc o3).alloc o4).heap[w.heap.size+1]?=some o1∧(((((w.alloc A).alloc o1).alloc o2).alloc o3).alloc o4).heap[w.heap.size+1+1]?=some o2∧(((((w.alloc A).alloc o1).alloc o2).alloc o3).alloc o4).heap[w.heap.size+1+1+1]?=some o3∧(((((w.alloc A).alloc o1).alloc o2).alloc o3).alloc o4).heap[w.heap.size+1+1+1+1]?=some o4∧Below w.heap.size w (((((w.alloc A).alloc o1).alloc o2).alloc o3).alloc o4):=by
 refine ⟨?_,?_,?_,?_,?_,(((((Below.refl _ _).alloc (Nat.le_refl _) _).alloc (by simp) _).alloc (by simp;omega) _).alloc (by simp;omega) _).alloc (by simp;omega) _⟩
 ·rw [Below.heap_alloc _ _ _ (by simp;omega),Below.heap_alloc _ _ _ (by simp;omega),Below.heap_alloc _ _ _ (by simp;omega),Below.heap_alloc _ _ _ (by simp)]
  exact Z4j _ _ _ rfl
 ·rw [Below.heap_alloc _ _ _ (by simp <;> omega),Below.heap_alloc _ _ _ (by simp <;> omega),Below.heap_alloc _ _ _ (by simp)]
  exact Z4j _ _ _ (by simp)
 ·rw [Below.heap_alloc _ _ _ (by simp <;> omega),Below.heap_alloc _ _ _ (by simp)]
  exact Z4j _ _ _ (by simp)
 ·rw [Below.heap_alloc _ _ _ (by simp)]
  exact Z4j _ _ _ (by simp)
 ·exact Z4j _ _ _ (by simp)
theorem YRow.cell {w:World}{b:Nat}{l:List UInt8}(h:YRow w b l)(i:Nat)(hi:i<l.length):w.cell? ⟨b,i,none⟩=some (.int .u8 (l[i].toNat:Int)):=by
 rw [cell_of_row _ _ _ _ _ (0,0) h.at_]
 simp [hi]
theorem YRow.put {w:World}{b:Nat}{l:List UInt8}(h:YRow w b l)(i:Nat)(x:UInt8):YRow (w.setCell ⟨b,i,none⟩ (.int .u8 (x.toNat:Int))) b (l.set i x):=by
 refine ⟨?_,by rw [List.length_set];exact h.len⟩
 rw [heap_setCell_same w b i _ _ (.int .u8 (x.toNat:Int)) h.at_]
 simp [List.map_set]
def Z2X (j:Nat):List UInt8:=List.replicate j 255++List.replicate (1024-j) 0
theorem fillTo_set (j:Nat)(h:j<1024):(Z2X j).set j 255=Z2X (j+1):=by
 unfold Z2X
 obtain ⟨k,hk⟩:∃ k,1024-j=k+1:=⟨1024-j-1,by omega⟩
 rw [hk,show 1024-(j+1)=k by omega,List.replicate_succ,List.set_append_right _ _ (by simp)]
 simp [List.replicate_succ']
theorem BlankAt.put {w wx:World}{tb ik lk sk j:Nat}(h:BlankAt w wx tb ik lk sk (Z2X j))(hj:j<1024):BlankAt w (wx.setCell ⟨ik,j,none⟩ (.int .u8 255)) tb ik lk sk (Z2X (j+1)):=by
 have hl:=h.low
 have hn:=h.ne
 have hb:=h.blw
 refine ⟨(heap_setCell_other _ _ _ _ (fun e=>hn.2.2.2.1 e.symm)).trans h.box,?_,h.laid.kept (heap_setCell_other _ _ _ _ (fun e=>hn.1 e.symm)),h.starts.kept (heap_setCell_other _ _ _ _ (fun e=>hn.2.1 e.symm)),hl,hn,(heap_setCell_other _ _ _ _ (by show w.heap.size≠ik;omega)).trans h.res,⟨hb.os,hb.tape,hb.output,by simpa [World.setCell] using hb.size,fun k hk=>(heap_setCell_other _ _ _ _ (by show k≠ik;omega)).trans (hb.block k hk)⟩⟩
 have:=h.bytes.put j 255
 rw [fillTo_set j hj] at this
 exact this
theorem blank_any (w:World):Calls Tryz.prog 63 #[] w (BlankEnd w):=by
 obtain ⟨zY,hzY⟩:∃ zY,madeCells #[Value.int .u8 0] 1024=zY:=⟨_,rfl⟩
 obtain ⟨zB,hzB⟩:∃ zB,madeCells #[Value.bool false] 1024=zB:=⟨_,rfl⟩
 have hmY:∀ w,(Instr.makeSlice 32 (.int .i64 1024) (.int .i64 1024)).run Tryz.prog w=.ok (.slice (some ⟨w.heap.size,0,none⟩) 1024 1024) (w.alloc (.cells zY 5)):=fun w=>by
  rw [←hzY]
  exact run_make_row' 32 5 (.int .u8 0) 1 Tryz.underlying32 infoU8B rfl .i64 .i64 1024 (by decide) (by decide) w
 have hmB:∀ w,(Instr.makeSlice 33 (.int .i64 1024) (.int .i64 1024)).run Tryz.prog w=.ok (.slice (some ⟨w.heap.size,0,none⟩) 1024 1024) (w.alloc (.cells zB 4)):=fun w=>by
  rw [←hzB]
  exact run_make_row' 33 4 (.bool false) 1 Tryz.underlying33 infoBoolB rfl .i64 .i64 1024 (by decide) (by decide) w
 have HZY:Hid (zY=((Z2X 0).map fun x=>Value.int .u8 (x.toNat:Int)).toArray):=by
  show zY=_
  rw [←hzY,made_rep,show Z2X 0=List.replicate 1024 (0:UInt8) from rfl,List.map_replicate]
  rfl
 have HZB:Hid (zB=(bF.map Value.bool).toArray):=by
  show zB=_
  unfold bF
  rw [←hzB,made_rep,List.map_replicate]
 clear hzY hzB
 go_enter Tryz.func63,Tryz.ntmps63
 go_upto_region 1 with fail
 go_cut [1] (fun s wx=>∃ tb ik lk sk,s=.pointer (some ⟨tb,0,none⟩)∧BlankAt w wx tb ik lk sk (Z2X 0))
 case first =>
  go_region
  all_goals
   go_wp2_with fail
   go_meet
   obtain ⟨g0,g1,g2,g3,g4,g5⟩:=four w _ _ _ _ _
   refine ⟨_,_,_,_,rfl,⟨by first | exact g1 | exact g2 | exact g3 | exact g4,⟨by rw [←HZY.out];first | exact g1 | exact g2 | exact g3 | exact g4,by simp [Z2X]⟩,⟨by rw [←HZB.out];first | exact g1 | exact g2 | exact g3 | exact g4,bF_len⟩,⟨by rw [←HZB.out];first | exact g1 | exact g2 | exact g3 | exact g4,bF_len⟩,by omega,by omega,g0,⟨g5.os,g5.tape,g5.output,g5.size,g5.block⟩⟩⟩
 case rest =>
 obtain ⟨tb,ik,lk,sk,rfl,hb⟩:=hcut
 have hbc:∀ (wx:World) (l:List UInt8),BlankAt w wx tb ik lk sk l→wx.cell? ⟨tb,0,none⟩=some (iV ik 1024)∧wx.cell? ⟨tb,1,none⟩=some (iV lk 1024)∧wx.cell? ⟨tb,2,none⟩=some (iV sk 1024):=fun wx l h=>⟨by rw [cell_of_row _ _ _ _ _ (0,0) h.box];rfl,by rw [cell_of_row _ _ _ _ _ (0,0) h.box];rfl,by rw [cell_of_row _ _ _ _ _ (0,0) h.box];rfl⟩
 have HBC:=Z0a hbc
 obtain ⟨c0,c1,c2⟩:=hbc _ _ hb
 unfold iV at c0 c1 c2
 have HBL:=Z0a hb
 clear hb hbc hmY hmB HZY HZB
 go_wp2_with fail
 go_loopw [10] (fun i wr=>∃ j:Nat,j≤1024∧i=.int .i64 j∧BlankAt w wr tb ik lk sk (Z2X j)) (fun i _=>1024-(intOf i).toNat)
 case atStart=>exact ⟨0,Nat.zero_le _,rfl,HBL.out⟩
 case round =>
  clear HBL c0 c1 c2
  obtain ⟨j,hj,rfl,hb⟩:=hrel
  obtain ⟨c0,c1,c2⟩:=HBC.out _ _ hb
  unfold iV at c0 c1 c2
  have HBL:=Z0a hb
  by_cases hlt:j<1024
  ·have hji:(j:Int)<1024:=by omega
   have cj:=hb.bytes.cell j (by rw [hb.bytes.len];exact hlt)
   obtain ⟨y,hy⟩:∃ y:Int,((Z2X j)[j]'(by rw [hb.bytes.len];exact hlt)).toNat=y:=⟨_,rfl⟩
   rw [hy] at cj
   have fj:=frozen_of_row wr ik j _ _ hb.bytes.at_
   have HBP:=Z0a (hb.put hlt)
   clear hb hy
   go_wp2
   go_roundw
   case rel=>exact ⟨j+1,by omega,by go_num,HBP.out⟩
   case measure=>simp [intOf];omega
  ·have hji:¬ (j:Int)<1024:=by omega
   have hj4:j=1024:=by omega
   rw [hj4] at HBL hji ⊢
   have r0:wr.cell? ⟨w.heap.size,0,none⟩=some (.slice none 0 0):=by rw [cell_of_row _ _ _ _ _ (0,0) hb.res];rfl
   have r1:wr.cell? ⟨w.heap.size,1,none⟩=some (.slice none 0 0):=by rw [cell_of_row _ _ _ _ _ (0,0) hb.res];rfl
   have r2:wr.cell? ⟨w.heap.size,2,none⟩=some (.slice none 0 0):=by rw [cell_of_row _ _ _ _ _ (0,0) hb.res];rfl
   have f0:=frozen_of_row wr w.heap.size 0 _ _ hb.res
   have f1:=frozen_of_row wr w.heap.size 1 _ _ hb.res
   have f2:=frozen_of_row wr w.heap.size 2 _ _ hb.res
   have hwl:w.heap.size<wr.heap.size:=(Array.getElem?_eq_some_iff.1 hb.res).1
   clear hb hlt hj hj4
   go_wp2_with fail
   refine bodyPost_ret (v:=.agg #[iV ik 1024,iV lk 1024,iV sk 1024]) (by simp [iV,results,Tryz.results63,go_sem,r0,r1,r2]) rfl ⟨ik,lk,sk,rfl,?_⟩
   have hb:=HBL.out
   have hl:=hb.low
   have e3:∀ (k:Nat) (v0 v1 v2:Value),k≠w.heap.size→(((wr.setCell ⟨w.heap.size,0,none⟩ v0).setCell ⟨w.heap.size,1,none⟩ v1).setCell ⟨w.heap.size,2,none⟩ v2).heap[k]?=wr.heap[k]?:=fun k v0 v1 v2 hk=>by
    rw [heap_setCell_other _ ⟨w.heap.size,2,none⟩ k _ hk,heap_setCell_other _ ⟨w.heap.size,1,none⟩ k _ hk,heap_setCell_other _ ⟨w.heap.size,0,none⟩ k _ hk]
   have e255:Z2X 1024=b255:=by
    unfold Z2X b255
    simp only [Nat.sub_self,List.replicate_zero,List.append_nil]
   rw [e255] at hb
   exact ⟨hb.bytes.kept (e3 _ _ _ _ (by omega)),hb.laid.kept (e3 _ _ _ _ (by omega)),hb.starts.kept (e3 _ _ _ _ (by omega)),⟨hl.1,hl.2.1,hl.2.2.1⟩,⟨hb.ne.1,hb.ne.2.1,hb.ne.2.2.1⟩,⟨hb.blw.os,hb.blw.tape,hb.blw.output,by simpa [World.setCell] using hb.blw.size,fun k hk=>(e3 k _ _ _ (by omega)).trans (hb.blw.block k hk)⟩⟩
def Z1h (s:ByteArray):List ByteArray:=Lib.splitB ⟨#[10]⟩ 0 (Lib.countB s ⟨#[10]⟩) s
theorem Z67 (s:ByteArray):(Z1h s).length=Lib.countB s ⟨#[10]⟩ + 1:=Lib.splitB_all ⟨#[10]⟩ (by decide) 0 _ s rfl
theorem Z6i (sep:ByteArray):∀ (k:Nat) (s t:ByteArray),t∈Lib.splitB sep 0 k s→t.size≤s.size
 | 0,s,t,h=>by
  rw [Lib.splitB_zero] at h
  rw [List.mem_singleton.1 h]
  exact Nat.le_refl _
 | k+1,s,t,h=>by
  unfold Lib.splitB at h
  split at h
  ·rw [List.mem_singleton.1 h]
   exact Nat.le_refl _
  ·rcases List.mem_cons.1 h with rfl | h
   ·rw [ByteArray.size_extract]
    omega
   ·have:=Z6i sep k _ t h
    rw [ByteArray.size_extract] at this
    omega
theorem Z59 {s t:ByteArray}(h:t∈Z1h s):t.size≤s.size:=Z6i _ _ _ _ h
theorem Z5D (s:ByteArray):(Z1h s).length≤s.size+1:=by
 rw [Z67]
 have:=Lib.countB_le ⟨#[10]⟩ (by decide) s.size s (Nat.le_refl _)
 omega
structure St where
 line:Nat
 pl:Nat
 lb:ByteArray
 x:Stm
def rdTo (ls:List ByteArray) (a0:Asm):Nat→Except (Int × Nat) (List St × Asm)
 | 0=>.ok ([],a0)
 | j+1=>match rdTo ls a0 j with
  | .error e=>.error e
  | .ok r=>match Z1d (ls.getD j ⟨#[]⟩) with
   | none=>.error (2,j+1)
   | some q=>match Z0o r.2 q.1 q.2 with
    | .error k=>.error (k,j+1)
    | .ok b=>.ok (r.1 ++ [⟨j+1,r.2.pl,q.1,q.2⟩],b)
theorem rdTo_err {ls:List ByteArray}{a0:Asm}{e:Int × Nat}:∀ (n j:Nat),rdTo ls a0 j=.error e→rdTo ls a0 (j+n)=.error e
 | 0,j,h=>h
 | n+1,j,h=>by
  have ih:=rdTo_err n j h
  show rdTo ls a0 (j+n+1)=_
  simp only [rdTo,ih]
structure StOk (N:Nat) (st:St):Prop where
 stm:StmF N st.lb st.x
 great:tooS st.x.vals=false
 fit:st.pl+Z1I st.x.task st.x.vals.length st.x.ins.size≤1024
theorem cgF_40 {nm:List UInt8→Option Int}{n:Nat}{l:List ByteArray}(h:cgF nm n l=none):n≤40:=by
 have:=cgF_n h
 omega
theorem putN_bound (a:Asm)(k:ByteArray)(z:Int):(a.put k z).n≤a.n+1:=by
 unfold Asm.put
 simp only
 split <;> omega
theorem settleF_ok {a b:Asm}{lb:ByteArray}{x:Stm}(h:Z0o a lb x=.ok b)(ha:a.Ok):b.Ok∧tooS x.vals=false∧a.pl+Z1I x.task x.vals.length x.ins.size≤1024:=by
 unfold Z0o at h
 split at h
 ·cases h
 ·split at h
  ·cases h
  ·rename_i hcg
   have hn:=cgF_40 hcg
   split at h
   ·cases h
   ·rename_i htoo
    have ht:tooS x.vals=false:=by simpa using htoo
    have hl:(labA a lb).Ok:=Z5Y ha hn
    have hln:(labA a lb).n≤41:=by
     unfold labA
     split
     ·omega
     ·have:=putN_bound a lb (a.pl:Int)
      omega
    have hp:=ha.pl
    simp only at h
    have hz:∀ t,x.task=t→t=1∨t=4∨t=5→Z1I x.task x.vals.length x.ins.size=0:=fun t h1 h2=>by
     unfold Z1I
     rw [if_neg (by omega),if_neg (by omega),if_neg (by omega)]
    split at h
    ·rename_i h1
     split at h
     ·rename_i z hO
      have hb:=Z1m hO
      cases h
      exact ⟨⟨by show z.toNat≤1024;omega,hl.n,hl.nm⟩,ht,by rw [hz 1 h1 (by omega)];omega⟩
     ·cases h
    ·split at h
     ·rename_i h4
      split at h
      ·rename_i z hO
       have hb:=Z1m hO
       cases h
       exact ⟨⟨by show a.pl+z.toNat≤1024;omega,hl.n,hl.nm⟩,ht,by rw [hz 4 h4 (by omega)];omega⟩
      ·cases h
     ·split at h
      ·rename_i h5
       split at h
       ·rename_i z hO
        have hb:=Z1m hO
        cases h
        exact ⟨hl.put _ _ hb (by omega),ht,by rw [hz 5 h5 (by omega)];omega⟩
       ·cases h
      ·split at h
       ·cases h
       ·rename_i hs
        cases h
        unfold Z33 at hs
        split at hs
        ·cases hs
        ·rename_i hs1
         exact ⟨⟨by show a.pl+Z1I x.task x.vals.length x.ins.size≤1024;omega,hl.n,hl.nm⟩,ht,by omega⟩
theorem rdTo_ok {ls:List ByteArray}{a0:Asm}{N:Nat}(h0:a0.Ok)(hN:∀ t∈ls,t.size≤N):∀ (j:Nat) (r:List St × Asm),j≤ls.length→rdTo ls a0 j=.ok r→r.2.Ok∧r.1.length=j∧∀ st∈r.1,StOk N st
 | 0,r,_,h=>by
  simp only [rdTo] at h
  cases h
  exact ⟨h0,rfl,fun st hs=>by cases hs⟩
 | j+1,r,hj,h=>by
  simp only [rdTo] at h
  split at h
  ·cases h
  ·rename_i r0 h1
   have ih:=rdTo_ok h0 hN j r0 (by omega) h1
   split at h
   ·cases h
   ·rename_i q h2
    split at h
    ·cases h
    ·rename_i b h3
     cases h
     have hs:=settleF_ok h3 ih.1
     have hp:=parseL_ok h2
     have hg:ls.getD j ⟨#[]⟩=ls[j]:=by
      rw [List.getD_eq_getElem?_getD,List.getElem?_eq_getElem (by omega)]
      rfl
     rw [hg] at hp
     have hz:=hN _ (List.getElem_mem (l:=ls) (n:=j) (by omega))
     have hp2:StmF N q.1 q.2:=⟨Nat.le_trans hp.lb hz,Nat.le_trans hp.name hz,hp.task,fun e he t ht=>⟨Nat.le_trans (hp.vals e he t ht).1 hz,(hp.vals e he t ht).2⟩,by have:=hp.cnt;omega,by have:=hp.len;omega,hp.once,hp.ins,hp.other⟩
     refine ⟨hs.1,by simp [ih.2.1],fun st hst=>?_⟩
     rcases List.mem_append.1 hst with h4 | h4
     ·exact ih.2.2 st h4
     ·rw [List.mem_singleton.1 h4]
      exact ⟨hp2,hs.2.1,hs.2.2⟩
theorem StmF.ok {N:Nat}{lb:ByteArray}{x:Stm}(h:StmF N lb x)(hN:N≤100000):StmOk lb x :=
 ⟨by have:=h.lb;omega,by have:=h.name;omega,fun e he t ht=>⟨by have:=(h.vals e he t ht).1;omega,(h.vals e he t ht).2⟩,by have:=h.cnt;omega,by have:=h.len;omega,h.once,fun e=>by rw [(h.ins e).size];unfold Z6u;omega,by
  by_cases e:x.task=6
  ·have:=(h.ins e).size3
   omega
  ·rw [h.other e]
   show (0:Nat)≤100
   omega⟩
def Z19 (m:AMem) (j:Nat):Prop:=j≠m.ab∧j≠m.ik∧j≠m.lk∧j≠m.sk∧j≠m.nb
theorem ChgM.free {w w':World}{m:AMem}(h:ChgM w w' m){k:Nat}(hk:k<w.heap.size)(hf:Z19 m k):w'.heap[k]?=w.heap[k]?:=h.block k hk hf.1 hf.2.1 hf.2.2.1 hf.2.2.2.1 hf.2.2.2.2
theorem Z7t {w:World}{nb n:Nat}{nm:List UInt8→Option Int}(h:NamesAt w nb n nm):∃ es c,w.heap[nb]?=some (.map es c):=by
 obtain ⟨D,⟨es,c,hb,_⟩,_⟩:=h
 exact ⟨es,c,hb⟩
theorem kind_free {w:World}{m:AMem}{a:Asm}(h:AsmAt w m a){cs:Array Value}(hab:w.heap[m.ab]?=some (.cells cs 121 (0,0))){j:Nat}{cur:Array Value}{f:Nat × Nat}(hj:w.heap[j]?=some (.cells cur 111 f)):Z19 m j:=by
 obtain ⟨es,c,hn⟩:=Z7t h.st.nms
 have ne:∀ (k:Nat) (c2:Array Value) (t:TypeId) (f2:Nat × Nat),w.heap[k]?=some (.cells c2 t f2)→t≠111→j≠k:=fun k c2 t f2 h1 h2 e=>by
  rw [←e,hj] at h1
  cases h1
  exact h2 rfl
 exact ⟨ne _ _ _ _ hab (by decide),ne _ _ _ _ h.bytes.at_ (by decide),ne _ _ _ _ h.laid.at_ (by decide),ne _ _ _ _ h.starts.at_ (by decide),fun e=>by rw [←e,hj] at hn;cases hn⟩
theorem Z7o {w:World}{m:AMem}{a:Asm}(h:AsmAt w m a){kd:Value}{ks:List Nat}(hk:w.ownsRow 0 111 1 kd ks.length (Z0m ks))(hn:ks≠[]):∀ j,kd.ownBlock=some j→Z19 m j:=by
 intro j hj
 have h0:0<ks.length:=List.length_pos_iff.2 hn
 obtain ⟨g,cap,rfl⟩:=Z25 hk h0
 cases hj
 have hc:=(Z3c hk).2 0 _ (Z5e ks 0 h0)
 obtain ⟨es,c,hm⟩:=Z7t h.st.nms
 obtain ⟨cur,hcur⟩:∃ cur,w.heap[g]?=some (.cells cur 111 (0,0)):=by
  obtain ⟨_,⟨h1,_⟩ | ⟨g2,cap2,cur,h1,_,h2,_⟩⟩:=hk
  ·cases h1
  ·cases h1
   exact ⟨cur,h2⟩
 have l4:=h.st.c0
 unfold iV at l4
 have ne:∀ (k:Nat) (c2:Array Value) (t:TypeId) (f2:Nat × Nat),w.heap[k]?=some (.cells c2 t f2)→t≠111→g≠k:=fun k c2 t f2 h1 h2 e=>by
  rw [←e,hcur] at h1
  cases h1
  exact h2 rfl
 refine ⟨fun e=>?_,ne _ _ _ _ h.bytes.at_ (by decide),ne _ _ _ _ h.laid.at_ (by decide),ne _ _ _ _ h.starts.at_ (by decide),fun e=>?_⟩
 ·have e2:g=m.ab:=e
  rw [←e2,hc] at l4
  cases l4
 ·have e2:g=m.nb:=e
  rw [←e2,hcur] at hm
  cases hm
def InsAt2 (w:World) (b:Bk) (m:AMem) (B:Nat):Prop:=∃ f n,MapAt Tryz.prog 292 w b.ib n f∧∀ (s:ByteArray) (ks:List Nat),s.size≤1000000→ks.length≤3→(∀ k∈ks,k≤100) →
 match insO s.data.toList ks with
 | none=>f (Z1x s ks)=none
 | some d=>∃ v,f (Z1x s ks)=some (insV d.code v d.size)∧w.ownsRow 0 111 1 v d.kinds.length (Z0m d.kinds)∧∀ j,v.ownBlock=some j→j<B∧Z19 m j
theorem InsAt2.of {w:World}{b:Bk}{m:AMem}{B:Nat}(h:InsAt w b B)(hf:∀ (j:Nat) (cur:Array Value) (f:Nat × Nat),w.heap[j]?=some (.cells cur 111 f)→Z19 m j):InsAt2 w b m B:=by
 obtain ⟨f,n,h1,h2⟩:=h
 refine ⟨f,n,h1,fun s ks a1 a2 a3=>?_⟩
 have:=h2 s ks a1 a2 a3
 revert this
 cases insO s.data.toList ks with
 | none=>exact id
 | some d =>
  rintro ⟨v,p1,p2,p3⟩
  refine ⟨v,p1,p2,fun j hj=>⟨p3 j hj,?_⟩⟩
  obtain ⟨_,⟨e1,_⟩ | ⟨g2,cap2,cur,e1,_,e2,_⟩⟩:=p2
  ·rw [e1] at hj
   cases hj
  ·rw [e1] at hj
   cases hj
   exact hf _ _ _ e2
theorem InsAt2.ins {w:World}{b:Bk}{m:AMem}{B:Nat}(h:InsAt2 w b m B):InsAt w b B:=by
 obtain ⟨f,n,h1,h2⟩:=h
 refine ⟨f,n,h1,fun s ks a1 a2 a3=>?_⟩
 have:=h2 s ks a1 a2 a3
 revert this
 cases insO s.data.toList ks with
 | none=>exact id
 | some d =>
  rintro ⟨v,p1,p2,p3⟩
  exact ⟨v,p1,p2,fun j hj=>(p3 j hj).1⟩
theorem InsAt2.kept {w w':World}{b:Bk}{m:AMem}{B:Nat}(h:InsAt2 w b m B)(hk:∀ j,j<w.heap.size→j<B→Z19 m j→w'.heap[j]?=w.heap[j]?)(hib:b.ib<B)(hif:Z19 m b.ib):InsAt2 w' b m B:=by
 obtain ⟨f,n,h1,h2⟩:=h
 refine ⟨f,n,h1.at1 (hk _ h1.lt hib hif),fun s ks a1 a2 a3=>?_⟩
 have:=h2 s ks a1 a2 a3
 revert this
 cases insO s.data.toList ks with
 | none=>exact id
 | some d =>
  rintro ⟨v,p1,p2,p3⟩
  exact ⟨v,p1,Z1l p2 (fun j hj=>hk j (p2.lt j hj).2 (p3 j hj).1 (p3 j hj).2),p3⟩
structure BkFree (m:AMem) (b:Bk) (pb:Nat):Prop where
 c:Z19 m b.cb
 i:Z19 m b.ib
 f:Z19 m b.fb
 d:Z19 m b.db
 p:Z19 m pb
 lt:b.cb<pb∧b.fb<pb∧b.db<pb∧b.ib<pb
structure Psr (w:World) (m:AMem) (b:Bk) (pb:Nat):Prop where
 p0:P0 w pb b
 book:BookAt w b
 ins:InsAt2 w b m pb
theorem BookAt.at3 {w w':World}{b:Bk}(h:BookAt w b)(h1:w'.heap[b.cb]?=w.heap[b.cb]?)(h2:w'.heap[b.fb]?=w.heap[b.fb]?)(h3:w'.heap[b.db]?=w.heap[b.db]?):BookAt w' b:=by
 obtain ⟨nx,hx⟩:=h.fixed
 obtain ⟨f,n,hf,hl⟩:=h.counts
 exact ⟨⟨f,n,hf.at1 h1,hl⟩,⟨nx,hx.at1 h2⟩,h.dirs.at1 h3⟩
theorem BookAt.lts {w:World}{b:Bk}(h:BookAt w b):b.cb<w.heap.size∧b.fb<w.heap.size∧b.db<w.heap.size:=by
 obtain ⟨nx,hx⟩:=h.fixed
 obtain ⟨f,n,hf,hl⟩:=h.counts
 exact ⟨hf.lt,hx.lt,h.dirs.lt⟩
theorem Psr.kept {w w':World}{m:AMem}{b:Bk}{pb:Nat}(h:Psr w m b pb)(hz:w.heap.size≤w'.heap.size)(hk:∀ j,j<w.heap.size→j≤pb→Z19 m j→w'.heap[j]?=w.heap[j]?)(hf:BkFree m b pb):Psr w' m b pb:=by
 have hpb:=h.p0.lt
 have hp:w'.heap[pb]?=w.heap[pb]?:=hk pb hpb (Nat.le_refl _) hf.p
 have hc:∀ j,w'.cell? ⟨pb,j,none⟩=w.cell? ⟨pb,j,none⟩:=fun j=>World.cell?_of_block (a:=⟨pb,j,none⟩) hp
 have hfz:∀ j,w'.frozen? ⟨pb,j,none⟩=w.frozen? ⟨pb,j,none⟩:=fun j=>World.frozen?_of_block (a:=⟨pb,j,none⟩) hp
 obtain ⟨n4,c4⟩:=h.p0.c4
 obtain ⟨a5,n5,k5,c5⟩:=h.p0.c5
 have hl:=h.book.lts
 refine ⟨⟨(hc 0).trans h.p0.c0,(hc 1).trans h.p0.c1,(hc 2).trans h.p0.c2,(hc 3).trans h.p0.c3,⟨n4,(hc 4).trans c4⟩,⟨a5,n5,k5,(hc 5).trans c5⟩,(hfz 4).trans h.p0.f4,(hfz 5).trans h.p0.f5,by omega⟩,h.book.at3 (hk _ hl.1 (by have:=hf.lt;omega) hf.c) (hk _ hl.2.1 (by have:=hf.lt;omega) hf.f) (hk _ hl.2.2 (by have:=hf.lt;omega) hf.d),h.ins.kept (fun j h1 h2 h3=>hk j h1 (by omega) h3) hf.lt.2.2.2 hf.i⟩
def VKept (w:World) (lo hi:Nat) (v:Value) (es:List (List Trm)):Prop:=∃ w0:World,w0.heap.size=hi∧VAt w0 lo v es∧∀ k,lo≤k→k<hi→w.heap[k]?=w0.heap[k]?
theorem VKept.vat {w:World}{lo hi:Nat}{v:Value}{es:List (List Trm)}(h:VKept w lo hi v es):VAt w lo v es:=by
 obtain ⟨w0,rfl,h1,h2⟩:=h
 exact h1.keptM h2
theorem VKept.kept {w w':World}{lo hi:Nat}{v:Value}{es:List (List Trm)}(h:VKept w lo hi v es)(hk:∀ k,lo≤k→k<hi→w'.heap[k]?=w.heap[k]?):VKept w' lo hi v es:=by
 obtain ⟨w0,h0,h1,h2⟩:=h
 exact ⟨w0,h0,h1,fun k a b=>(hk k a b).trans (h2 k a b)⟩
structure StIn (w:World) (m:AMem) (pb B:Nat) (sv:Value) (st:St) (v kv:Value):Prop where
 vals:∃ lo hi,B≤lo∧hi≤w.heap.size∧VKept w lo hi v st.x.vals∧∀ g,sv.ownBlock=some g→¬ (lo≤g∧g<hi)
 is:∃ va vn vc,v=.slice va vn vc
 kinds:RowK w kv st.x.ins.kinds
 kfree:st.x.ins.kinds≠[]→∀ j,kv.ownBlock=some j→j<pb∧Z19 m j
def stC (st:St) (v kv:Value):List Value:=[.int .i64 (st.line:Int),.int .i64 (st.pl:Int),.string st.lb,.int .i64 (st.x.task:Int),.string st.x.name,v,.int .u8 (st.x.ins.code:Int),kv,.int .i64 (st.x.ins.size:Int)]
def stsC (qs:List (St × Value × Value)):List Value:=qs.flatMap fun q=>stC q.1 q.2.1 q.2.2
structure Sts (w:World) (m:AMem) (pb B:Nat) (sv:Value) (qs:List (St × Value × Value)):Prop where
 row:w.ownsRow B 130 9 sv qs.length (stsC qs)
 each:∀ q∈qs,StIn w m pb B sv q.1 q.2.1 q.2.2
theorem StIn.kept {w w':World}{m:AMem}{pb B:Nat}{sv sv':Value}{st:St}{v kv:Value}(h:StIn w m pb B sv st v kv)(hz:w.heap.size≤w'.heap.size)(hp:pb<B)(hB:m.ab<B∧m.ik<B∧m.lk<B∧m.sk<B∧m.nb<B)(hk:∀ j,j<w.heap.size→j≠pb→Z19 m j→(∀ g,sv.ownBlock=some g→j≠g)→w'.heap[j]?=w.heap[j]?)(hs:∀ g,sv.ownBlock=some g→B≤g)(hs':∀ g,sv'.ownBlock=some g→sv.ownBlock=some g∨w.heap.size≤g):StIn w' m pb B sv' st v kv:=by
 obtain ⟨lo,hi,h1,h2,h3,h4⟩:=h.vals
 refine ⟨⟨lo,hi,h1,Nat.le_trans h2 hz,h3.kept (fun k a b=>hk k (by omega) (by omega) ⟨by omega,by omega,by omega,by omega,by omega⟩ (fun g hg e=>h4 g hg ⟨by omega,by omega⟩)),fun g hg=>?_⟩,h.is,⟨h.kinds.is,fun hn=>Z1l (h.kinds.row hn) (fun j hj=>?_)⟩,h.kfree⟩
 ·rcases hs' g hg with e | e
  ·exact h4 g e
  ·omega
 ·have hf:=h.kfree hn j hj
  exact hk j ((h.kinds.row hn).lt j hj).2 (by omega) hf.2 (fun g hg e=>by have:=hs g hg;omega)
end Go.Proofs.YthokdbcpkmcieaaGreatDoor
