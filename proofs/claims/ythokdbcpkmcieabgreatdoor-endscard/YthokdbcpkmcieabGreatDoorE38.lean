/- HstM BrdN BrdO1 BrdO BrdR -/
import Derived.Test.YthokdbcpkmcieabGreatDoorE28
import Derived.Test.YthokdbcpkmcieabGreatDoorE31
import Derived.Test.YthokdbcpkmcieabGreatDoorE37
import Derived.Test.YthokdbcpkmcieabGreatDoorE36
set_option maxRecDepth 200000
set_option maxHeartbeats 8000000
namespace Go.Proofs.YthokdbcpkmcieabGreatDoor
open Go Go.RowKit
def Z3g (hb:Nat) (t:Nat):Value :=
 if t=0 then .nilFunc
 else if t=1 then .func (.func 113) #[.pointer (some ⟨hb,0,none⟩)] #[]
 else if t=2 then .func (.func 165) #[.pointer (some ⟨hb,0,none⟩)] #[]
 else if t=3 then .func (.func 295) #[.pointer (some ⟨hb,0,none⟩)] #[]
 else if t=4 then .func (.func 251) #[.pointer (some ⟨hb,0,none⟩)] #[]
 else .func (.func 323) #[.pointer (some ⟨hb,0,none⟩)] #[]
structure LeftAt (w:World) (lb:Nat) (v:Value) (l:List Pg):Prop where
 is:∃ a cap,v=.slice a l.length cap∧l.length≤cap∧cap≤9223372036854775807∧(0<l.length→∃ off,a=some ⟨lb,off,none⟩∧∀ i (hi:i<l.length),w.cell? ⟨lb,off+i*2,none⟩=some (.int .u8 (l[i].n.toNat:Int))∧w.cell? ⟨lb,off+i*2+1,none⟩=some (.string (txt l[i].bs)))
theorem LeftAt.kept {w w':World}{lb:Nat}{v:Value}{l:List Pg}(h:LeftAt w lb v l)(e:0<l.length→w'.heap[lb]?=w.heap[lb]?):LeftAt w' lb v l:=by
 obtain ⟨a,cap,h1,h2,h3,h4⟩:=h.is
 refine ⟨a,cap,h1,h2,h3,fun hl=>?_⟩
 obtain ⟨off,e1,e2⟩:=h4 hl
 refine ⟨off,e1,fun i hi=>?_⟩
 obtain ⟨k1,k2⟩:=e2 i hi
 exact ⟨(World.cell?_of_block (a:=⟨lb,off+i*2,none⟩) (e hl)).trans k1,(World.cell?_of_block (a:=⟨lb,off+i*2+1,none⟩) (e hl)).trans k2⟩
theorem LeftAt.set {w:World}{lb hb j:Nat}{v x:Value}{l:List Pg}(h:LeftAt w lb v l)(hne:lb≠hb):LeftAt (w.setCell ⟨hb,j,none⟩ x) lb v l :=
 h.kept (fun _=>heap_setCell_other w ⟨hb,j,none⟩ lb x hne)
structure HstM (w:World) (hb lb:Nat) (h:Hst):Prop where
 c0:w.cell? ⟨hb,0,none⟩=some (.int .i64 (h.state:Int))
 c1:w.cell? ⟨hb,1,none⟩=some (.int .u16 (h.ses:Int))
 c3:w.cell? ⟨hb,3,none⟩=some (.int .u16 (h.burnt:Int))
 c88:w.cell? ⟨hb,88,none⟩=some (.string (txt h.asked))
 c89:w.cell? ⟨hb,89,none⟩=some (Z3g hb h.take)
 c90:w.cell? ⟨hb,90,none⟩=some (.bool h.said)
 c91:w.cell? ⟨hb,91,none⟩=some (.int .i64 (h.tries:Int))
 c92:w.cell? ⟨hb,92,none⟩=some (.int .i64 (h.ticks:Int))
 c2:∃ v,w.cell? ⟨hb,2,none⟩=some v∧LeftAt w lb v h.left
 ear:EarO w hb 4 h.ear
 ne:lb≠hb
 ll:lb<w.heap.size
theorem HstM.fz {w:World}{hb lb:Nat}{h:Hst}(m:HstM w hb lb h)(j:Nat):w.frozen? ⟨hb,j,none⟩=false:=m.ear.fz j
theorem HstM.lt {w:World}{hb lb:Nat}{h:Hst}(m:HstM w hb lb h):hb<w.heap.size:=m.ear.lt
theorem EarO.setRest {w:World}{hb o j:Nat}{s:EarS}{v:Value}(h:EarO w hb o s)(hj:j<o∨o+84≤j):EarO (w.setCell ⟨hb,j,none⟩ v) hb o s :=
 h.same (fun k h1 h2=>World.cell?_setCell_other _ _ _ _ (by simp <;> omega)) (fun k=>by simp) (by simp [World.setCell])
theorem HstM.kept {w w':World}{hb lb:Nat}{h:Hst}(m:HstM w hb lb h)(e:w'.heap[hb]?=w.heap[hb]?)(e2:w'.heap[lb]?=w.heap[lb]?)(hz:w.heap.size≤w'.heap.size):HstM w' hb lb h:=by
 have hc:∀ j,w'.cell? ⟨hb,j,none⟩=w.cell? ⟨hb,j,none⟩:=fun j=>World.cell?_of_block (a:=⟨hb,j,none⟩) e
 obtain ⟨v,v1,v2⟩:=m.c2
 exact ⟨(hc 0).trans m.c0,(hc 1).trans m.c1,(hc 3).trans m.c3,(hc 88).trans m.c88,(hc 89).trans m.c89,(hc 90).trans m.c90,(hc 91).trans m.c91,(hc 92).trans m.c92,⟨v,(hc 2).trans v1,v2.kept (fun _=>e2)⟩,m.ear.kept e hz,m.ne,Nat.lt_of_lt_of_le m.ll hz⟩
theorem HstM.below {w w':World}{hb lb:Nat}{h:Hst}(m:HstM w hb lb h)(b:Below w.heap.size w w'):HstM w' hb lb h :=
 m.kept (b.block hb m.lt) (b.block lb m.ll) b.size
theorem HstM.setState {w:World}{hb lb:Nat}{h:Hst}(m:HstM w hb lb h)(x:Nat):HstM (w.setCell ⟨hb,0,none⟩ (.int .i64 (x:Int))) hb lb ⟨x,h.ses,h.left,h.burnt,h.ear,h.asked,h.take,h.said,h.tries,h.ticks⟩ :=
 ⟨World.cell?_setCell_same _ _ _ m.c0,(World.cell?_setCell_other _ _ _ _ (by simp)).trans m.c1,(World.cell?_setCell_other _ _ _ _ (by simp)).trans m.c3,(World.cell?_setCell_other _ _ _ _ (by simp)).trans m.c88,(World.cell?_setCell_other _ _ _ _ (by simp)).trans m.c89,(World.cell?_setCell_other _ _ _ _ (by simp)).trans m.c90,(World.cell?_setCell_other _ _ _ _ (by simp)).trans m.c91,(World.cell?_setCell_other _ _ _ _ (by simp)).trans m.c92,(by obtain ⟨v,v1,v2⟩:=m.c2;exact ⟨v,(World.cell?_setCell_other _ _ _ _ (by simp)).trans v1,v2.set m.ne⟩),m.ear.setRest (by omega),m.ne,by simpa [World.setCell] using m.ll⟩
theorem HstM.setSes {w:World}{hb lb:Nat}{h:Hst}(m:HstM w hb lb h)(x:Nat):HstM (w.setCell ⟨hb,1,none⟩ (.int .u16 (x:Int))) hb lb ⟨h.state,x,h.left,h.burnt,h.ear,h.asked,h.take,h.said,h.tries,h.ticks⟩ :=
 ⟨(World.cell?_setCell_other _ _ _ _ (by simp)).trans m.c0,World.cell?_setCell_same _ _ _ m.c1,(World.cell?_setCell_other _ _ _ _ (by simp)).trans m.c3,(World.cell?_setCell_other _ _ _ _ (by simp)).trans m.c88,(World.cell?_setCell_other _ _ _ _ (by simp)).trans m.c89,(World.cell?_setCell_other _ _ _ _ (by simp)).trans m.c90,(World.cell?_setCell_other _ _ _ _ (by simp)).trans m.c91,(World.cell?_setCell_other _ _ _ _ (by simp)).trans m.c92,(by obtain ⟨v,v1,v2⟩:=m.c2;exact ⟨v,(World.cell?_setCell_other _ _ _ _ (by simp)).trans v1,v2.set m.ne⟩),m.ear.setRest (by omega),m.ne,by simpa [World.setCell] using m.ll⟩
theorem HstM.setBurnt {w:World}{hb lb:Nat}{h:Hst}(m:HstM w hb lb h)(x:Nat):HstM (w.setCell ⟨hb,3,none⟩ (.int .u16 (x:Int))) hb lb ⟨h.state,h.ses,h.left,x,h.ear,h.asked,h.take,h.said,h.tries,h.ticks⟩ :=
 ⟨(World.cell?_setCell_other _ _ _ _ (by simp)).trans m.c0,(World.cell?_setCell_other _ _ _ _ (by simp)).trans m.c1,World.cell?_setCell_same _ _ _ m.c3,(World.cell?_setCell_other _ _ _ _ (by simp)).trans m.c88,(World.cell?_setCell_other _ _ _ _ (by simp)).trans m.c89,(World.cell?_setCell_other _ _ _ _ (by simp)).trans m.c90,(World.cell?_setCell_other _ _ _ _ (by simp)).trans m.c91,(World.cell?_setCell_other _ _ _ _ (by simp)).trans m.c92,(by obtain ⟨v,v1,v2⟩:=m.c2;exact ⟨v,(World.cell?_setCell_other _ _ _ _ (by simp)).trans v1,v2.set m.ne⟩),m.ear.setRest (by omega),m.ne,by simpa [World.setCell] using m.ll⟩
theorem HstM.setAsked {w:World}{hb lb:Nat}{h:Hst}(m:HstM w hb lb h)(x:List UInt8):HstM (w.setCell ⟨hb,88,none⟩ (.string (txt x))) hb lb ⟨h.state,h.ses,h.left,h.burnt,h.ear,x,h.take,h.said,h.tries,h.ticks⟩ :=
 ⟨(World.cell?_setCell_other _ _ _ _ (by simp)).trans m.c0,(World.cell?_setCell_other _ _ _ _ (by simp)).trans m.c1,(World.cell?_setCell_other _ _ _ _ (by simp)).trans m.c3,World.cell?_setCell_same _ _ _ m.c88,(World.cell?_setCell_other _ _ _ _ (by simp)).trans m.c89,(World.cell?_setCell_other _ _ _ _ (by simp)).trans m.c90,(World.cell?_setCell_other _ _ _ _ (by simp)).trans m.c91,(World.cell?_setCell_other _ _ _ _ (by simp)).trans m.c92,(by obtain ⟨v,v1,v2⟩:=m.c2;exact ⟨v,(World.cell?_setCell_other _ _ _ _ (by simp)).trans v1,v2.set m.ne⟩),m.ear.setRest (by omega),m.ne,by simpa [World.setCell] using m.ll⟩
theorem HstM.setTake {w:World}{hb lb:Nat}{h:Hst}(m:HstM w hb lb h)(x:Nat):HstM (w.setCell ⟨hb,89,none⟩ (Z3g hb x)) hb lb ⟨h.state,h.ses,h.left,h.burnt,h.ear,h.asked,x,h.said,h.tries,h.ticks⟩ :=
 ⟨(World.cell?_setCell_other _ _ _ _ (by simp)).trans m.c0,(World.cell?_setCell_other _ _ _ _ (by simp)).trans m.c1,(World.cell?_setCell_other _ _ _ _ (by simp)).trans m.c3,(World.cell?_setCell_other _ _ _ _ (by simp)).trans m.c88,World.cell?_setCell_same _ _ _ m.c89,(World.cell?_setCell_other _ _ _ _ (by simp)).trans m.c90,(World.cell?_setCell_other _ _ _ _ (by simp)).trans m.c91,(World.cell?_setCell_other _ _ _ _ (by simp)).trans m.c92,(by obtain ⟨v,v1,v2⟩:=m.c2;exact ⟨v,(World.cell?_setCell_other _ _ _ _ (by simp)).trans v1,v2.set m.ne⟩),m.ear.setRest (by omega),m.ne,by simpa [World.setCell] using m.ll⟩
theorem HstM.setSaid {w:World}{hb lb:Nat}{h:Hst}(m:HstM w hb lb h)(x:Bool):HstM (w.setCell ⟨hb,90,none⟩ (.bool x)) hb lb ⟨h.state,h.ses,h.left,h.burnt,h.ear,h.asked,h.take,x,h.tries,h.ticks⟩ :=
 ⟨(World.cell?_setCell_other _ _ _ _ (by simp)).trans m.c0,(World.cell?_setCell_other _ _ _ _ (by simp)).trans m.c1,(World.cell?_setCell_other _ _ _ _ (by simp)).trans m.c3,(World.cell?_setCell_other _ _ _ _ (by simp)).trans m.c88,(World.cell?_setCell_other _ _ _ _ (by simp)).trans m.c89,World.cell?_setCell_same _ _ _ m.c90,(World.cell?_setCell_other _ _ _ _ (by simp)).trans m.c91,(World.cell?_setCell_other _ _ _ _ (by simp)).trans m.c92,(by obtain ⟨v,v1,v2⟩:=m.c2;exact ⟨v,(World.cell?_setCell_other _ _ _ _ (by simp)).trans v1,v2.set m.ne⟩),m.ear.setRest (by omega),m.ne,by simpa [World.setCell] using m.ll⟩
theorem HstM.setTries {w:World}{hb lb:Nat}{h:Hst}(m:HstM w hb lb h)(x:Nat):HstM (w.setCell ⟨hb,91,none⟩ (.int .i64 (x:Int))) hb lb ⟨h.state,h.ses,h.left,h.burnt,h.ear,h.asked,h.take,h.said,x,h.ticks⟩ :=
 ⟨(World.cell?_setCell_other _ _ _ _ (by simp)).trans m.c0,(World.cell?_setCell_other _ _ _ _ (by simp)).trans m.c1,(World.cell?_setCell_other _ _ _ _ (by simp)).trans m.c3,(World.cell?_setCell_other _ _ _ _ (by simp)).trans m.c88,(World.cell?_setCell_other _ _ _ _ (by simp)).trans m.c89,(World.cell?_setCell_other _ _ _ _ (by simp)).trans m.c90,World.cell?_setCell_same _ _ _ m.c91,(World.cell?_setCell_other _ _ _ _ (by simp)).trans m.c92,(by obtain ⟨v,v1,v2⟩:=m.c2;exact ⟨v,(World.cell?_setCell_other _ _ _ _ (by simp)).trans v1,v2.set m.ne⟩),m.ear.setRest (by omega),m.ne,by simpa [World.setCell] using m.ll⟩
theorem HstM.setTicks {w:World}{hb lb:Nat}{h:Hst}(m:HstM w hb lb h)(x:Nat):HstM (w.setCell ⟨hb,92,none⟩ (.int .i64 (x:Int))) hb lb ⟨h.state,h.ses,h.left,h.burnt,h.ear,h.asked,h.take,h.said,h.tries,x⟩ :=
 ⟨(World.cell?_setCell_other _ _ _ _ (by simp)).trans m.c0,(World.cell?_setCell_other _ _ _ _ (by simp)).trans m.c1,(World.cell?_setCell_other _ _ _ _ (by simp)).trans m.c3,(World.cell?_setCell_other _ _ _ _ (by simp)).trans m.c88,(World.cell?_setCell_other _ _ _ _ (by simp)).trans m.c89,(World.cell?_setCell_other _ _ _ _ (by simp)).trans m.c90,(World.cell?_setCell_other _ _ _ _ (by simp)).trans m.c91,World.cell?_setCell_same _ _ _ m.c92,(by obtain ⟨v,v1,v2⟩:=m.c2;exact ⟨v,(World.cell?_setCell_other _ _ _ _ (by simp)).trans v1,v2.set m.ne⟩),m.ear.setRest (by omega),m.ne,by simpa [World.setCell] using m.ll⟩
theorem HstM.setLeft {w:World}{hb lb:Nat}{h:Hst}(m:HstM w hb lb h)(x:List Pg)(v:Value)(hv:LeftAt w lb v x):HstM (w.setCell ⟨hb,2,none⟩ v) hb lb ⟨h.state,h.ses,x,h.burnt,h.ear,h.asked,h.take,h.said,h.tries,h.ticks⟩:=by
 obtain ⟨v0,e0,_⟩:=m.c2
 exact ⟨(World.cell?_setCell_other _ _ _ _ (by simp)).trans m.c0,(World.cell?_setCell_other _ _ _ _ (by simp)).trans m.c1,(World.cell?_setCell_other _ _ _ _ (by simp)).trans m.c3,(World.cell?_setCell_other _ _ _ _ (by simp)).trans m.c88,(World.cell?_setCell_other _ _ _ _ (by simp)).trans m.c89,(World.cell?_setCell_other _ _ _ _ (by simp)).trans m.c90,(World.cell?_setCell_other _ _ _ _ (by simp)).trans m.c91,(World.cell?_setCell_other _ _ _ _ (by simp)).trans m.c92,⟨v,World.cell?_setCell_same _ _ _ e0,hv.set m.ne⟩,m.ear.setRest (by omega),m.ne,by simpa [World.setCell] using m.ll⟩
theorem Tryz.infoStore:(Tryz.prog.info? 69).map (·.size)=some 1264:=by kernel_rfl
theorem BytesAt.set {w:World}{g off:Nat}{l:List UInt8}(h:BytesAt w g off l)(i:Nat)(x:UInt8)(hi:i<l.length):BytesAt (w.setCell ⟨g,off+i,none⟩ (.int .u8 (x.toNat:Int))) g off (l.set i x):=by
 intro k hk
 simp only [List.length_set] at hk
 by_cases e:k=i
 ·subst e
  rw [World.cell?_setCell_same _ _ _ (h k hk)]
  simp [List.getD_eq_getElem?_getD,hk]
 ·rw [World.cell?_setCell_other _ _ _ _ (by simp <;> omega),h k hk]
  simp only [List.getD_eq_getElem?_getD]
  rw [List.getElem?_set_ne (fun e'=>e e'.symm)]
theorem Z20 (l:List UInt8)(i k:Nat)(x:UInt8)(hi:i<l.length):(l.set i x).getD k 0=if k=i then x else l.getD k 0:=by
 simp only [List.getD_eq_getElem?_getD,List.getElem?_set]
 by_cases h:i=k
 ·subst h;simp [hi]
 ·rw [if_neg h,if_neg (fun e=>h e.symm)]
structure NewS (w wr:World) (mem:List UInt8):Prop where
 len:mem.length=1264
 at_:BytesAt wr (w.heap.size+1) 0 mem
 fz:∀ j,wr.frozen? ⟨w.heap.size+1,j,none⟩=false
 out:∀ j,j<1264→(wr.cell? ⟨w.heap.size,0+j,none⟩).isSome=true∧wr.frozen? ⟨w.heap.size,0+j,none⟩=false
 below:Below w.heap.size w wr
 sz:w.heap.size+2≤wr.heap.size
theorem NewS.alloc {w wr:World}{mem:List UInt8}(h:NewS w wr mem)(o:Obj):NewS w (wr.alloc o) mem:=by
 have hz:=h.sz
 have e1:(wr.alloc o).heap[w.heap.size+1]?=wr.heap[w.heap.size+1]?:=Below.heap_alloc _ _ _ (by omega)
 have e0:(wr.alloc o).heap[w.heap.size]?=wr.heap[w.heap.size]?:=Below.heap_alloc _ _ _ (by omega)
 exact ⟨h.len,h.at_.kept e1,fun j=>(World.frozen?_of_block (a:=⟨w.heap.size+1,j,none⟩) e1).trans (h.fz j),fun j hj=>by rw [World.cell?_of_block (a:=⟨w.heap.size,0+j,none⟩) e0,World.frozen?_of_block (a:=⟨w.heap.size,0+j,none⟩) e0];exact h.out j hj,h.below.alloc (by omega) _,by simp;omega⟩
theorem NewS.set {w wr:World}{mem:List UInt8}(h:NewS w wr mem)(i:Nat)(hi:i<1264):NewS w (wr.setCell ⟨w.heap.size+1,i,none⟩ (.int .u8 255)) (mem.set i 255):=by
 have hl:=h.len
 have:=h.at_.set i 255 (by omega)
 rw [Nat.zero_add] at this
 refine ⟨by simp [hl],this,fun j=>by simp [h.fz j],fun j hj=>?_,h.below.setCell (p:=⟨w.heap.size+1,i,none⟩) (by simp) _,by have:=h.sz;simpa [World.setCell] using this⟩
 rw [World.cell?_setCell_other _ _ _ _ (by simp)]
 simp only [World.frozen?_setCell]
 exact h.out j hj
theorem NewS.cell {w wr:World}{mem:List UInt8}(h:NewS w wr mem)(i:Nat)(hi:i<1264):∃ v,wr.cell? ⟨w.heap.size+1,i,none⟩=some v:=by
 have:=h.at_ i (by rw [h.len];exact hi)
 rw [Nat.zero_add] at this
 exact ⟨_,this⟩
theorem zeroStore (w:World):NewS w ((w.alloc (.cells Tryz.zeroCells69 69)).alloc (.cells Tryz.zeroCells69 69)) (List.replicate 1264 0):=by
 have hz:Tryz.zeroCells69=Array.replicate 1264 (.int .u8 0):=by kernel_rfl
 rw [hz]
 have h1:=heap_alloc_new (w.alloc (.cells (Array.replicate 1264 (.int .u8 0)) 69)) (.cells (Array.replicate 1264 (.int .u8 0)) 69)
 rw [World.alloc_size] at h1
 have h0:=heap_alloc2_old w (.cells (Array.replicate 1264 (.int .u8 0)) 69) (.cells (Array.replicate 1264 (.int .u8 0)) 69)
 refine ⟨List.length_replicate,fun i hi=>?_,fun j=>frozen_of_row _ _ j _ _ h1,fun j hj=>⟨?_,frozen_of_row _ _ _ _ _ h0⟩,((Below.refl _ _).alloc (Nat.le_refl _) _).alloc (by simp) _,by simp⟩
 ·rw [List.length_replicate] at hi
  rw [cell_of_row _ _ _ _ _ (0,0) h1,Nat.zero_add,List.getD_eq_getElem?_getD,List.getElem?_replicate,if_pos hi,Array.getElem?_replicate,if_pos hi]
  rfl
 ·rw [cell_of_row _ _ _ _ _ (0,0) h0,Nat.zero_add,Array.getElem?_replicate,if_pos hj]
  rfl
theorem Z3u {P:Program}{fn:Func}{p:Tmp}{ty:TypeId}(h:fn.results=#[.cell p ty])(tmps:Array Value)(w:World)(g:Nat)(cs:List Value)(d:TypeDesc)
  (hp:tmps.getD p undef=.pointer (some ⟨g,0,none⟩)) (hc:w.rangeAt g 0 cs) (hu:P.underlying ty=some d) (hd:d.isRow=true) (hi:(P.info? ty).map (·.size)=some cs.length):(results fn tmps).run P w=.ok (.agg cs.toArray) w:=by
 have hp':tmps[p]?.getD undef=.pointer (some ⟨g,0,none⟩):=by simpa using hp
 simp [results,h,hp',asAddr,run_loadVar_mid w g 0 ty cs d hc hu hd hi]
theorem newStore_any (w:World):Calls Tryz.prog 103 #[] w fun e w'=>e=.returned (.agg (Z0f mem0).toArray)∧Below w.heap.size w w':=by
 have HZ:=Z0a (zeroStore w)
 go_enter Tryz.func103,Tryz.ntmps103
 go_wp2_with fail
 go_loopw [5] (fun i wr=>∃ j:Nat,j≤60∧i=.int .i64 j∧∃ mem,NewS w wr mem∧∀ k,1024≤k→k<1024+4*j→mem.getD k 0=255) (fun i _=>60-(intOf i).toNat)
 case atStart=>exact ⟨0,by omega,rfl,_,HZ.out,fun k h1 h2=>by omega⟩
 case round =>
  obtain ⟨j,hj,rfl,mem,hN,hv⟩:=hrel
  clear HZ
  by_cases hlt:j<60
  ·have hji:(j:Int)<60:=by omega
   have HN:=Z0a (And.intro hN hv)
   clear hN hv
   go_wp2_with fail
   refine (Z3Z _).mono ?_
   rintro e w1 ⟨rfl,hw1⟩
   have HN1:=Z0a (HN.out.1.alloc (.cells #[.int .u8 255,.int .u8 255,.int .u8 255,.int .u8 255] 66))
   rw [←hw1] at HN1
   clear hw1
   obtain ⟨v0,d0⟩:=HN1.out.cell (1024+j*4) (by omega)
   obtain ⟨v1,d1⟩:=HN1.out.cell (1024+j*4+1) (by omega)
   obtain ⟨v2,d2⟩:=HN1.out.cell (1024+j*4+2) (by omega)
   obtain ⟨v3,d3⟩:=HN1.out.cell (1024+j*4+3) (by omega)
   have f0:=HN1.out.fz (1024+j*4)
   have f1:=HN1.out.fz (1024+j*4+1)
   have f2:=HN1.out.fz (1024+j*4+2)
   have f3:=HN1.out.fz (1024+j*4+3)
   go_wp2
   go_roundw
   case rel =>
    have hl:=HN1.out.len
    refine ⟨j+1,by omega,by go_num,_,(((HN1.out.set (1024+j*4) (by omega)).set (1024+j*4+1) (by omega)).set (1024+j*4+2) (by omega)).set (1024+j*4+3) (by omega),fun k h1 h2=>?_⟩
    rw [Z20 _ _ _ _ (by simp;omega),Z20 _ _ _ _ (by simp;omega),Z20 _ _ _ _ (by simp;omega),Z20 _ _ _ _ (by omega)]
    by_cases hk:k<1024+4*j
    ·rw [if_neg (by omega),if_neg (by omega),if_neg (by omega),if_neg (by omega)]
     exact HN.out.2 k h1 hk
    ·have:k=1024+j*4∨k=1024+j*4+1∨k=1024+j*4+2∨k=1024+j*4+3:=by omega
     rcases this with rfl | rfl | rfl | rfl <;> simp
   case measure=>simp [intOf];omega
  ·have hjn:¬ (j:Int)<60:=by omega
   have HN:=Z0a (show NewS w wr mem∧∀ k,1024≤k→k<1264→mem.getD k 0=255 from ⟨hN,fun k h1 h2=>hv k h1 (by omega)⟩)
   clear hN hv
   go_wp2_with fail
   go_loopw [13] (fun i wr=>∃ j:Nat,j≤16∧i=.int .i64 j∧∃ mem,NewS w wr mem∧(∀ k,1024≤k→k<1264→mem.getD k 0=255)∧∀ k,k<64*j→mem.getD k 0=255) (fun i _=>16-(intOf i).toNat)
   case atStart=>exact ⟨0,by omega,rfl,_,HN.out.1,HN.out.2,fun k h=>by omega⟩
   case round =>
    rename_i hrel
    obtain ⟨i,hi,rfl,mem2,hN2,hv2,hv3⟩:=hrel
    clear HN
    by_cases hlt2:i<16
    ·have hii:(i:Int)<16:=by omega
     have HN:=Z0a (And.intro hN2 (And.intro hv2 hv3))
     clear hN2 hv2 hv3
     go_wp2_with fail
     go_loopw [16] (fun x wr=>∃ j:Nat,j≤64∧x=.int .i64 j∧∃ mem,NewS w wr mem∧(∀ k,1024≤k→k<1264→mem.getD k 0=255)∧∀ k,k<64*i+j→mem.getD k 0=255) (fun i _=>64-(intOf i).toNat)
     case atStart=>exact ⟨0,by omega,rfl,_,HN.out.1,HN.out.2.1,fun k h=>HN.out.2.2 k (by omega)⟩
     case round =>
      rename_i hrel
      obtain ⟨z,hz,rfl,mem3,hN3,hv4,hv5⟩:=hrel
      clear HN
      by_cases hlt3:z<64
      ·have hzi:(z:Int)<64:=by omega
       obtain ⟨v0,d0⟩:=hN3.cell (i*64+z) (by omega)
       have f0:=hN3.fz (i*64+z)
       have HN:=Z0a (And.intro hN3 (And.intro hv4 hv5))
       clear hN3 hv4 hv5
       go_wp2
       go_roundw
       case rel =>
        have hl:=HN.out.1.len
        refine ⟨z+1,by omega,by go_num,_,HN.out.1.set (i*64+z) (by omega),fun k h1 h2=>?_,fun k h=>?_⟩
        ·rw [Z20 _ _ _ _ (by omega),if_neg (by omega)]
         exact HN.out.2.1 k h1 h2
        ·rw [Z20 _ _ _ _ (by omega)]
         by_cases hk:k=i*64+z
         ·rw [if_pos hk]
         ·rw [if_neg hk];exact HN.out.2.2 k (by omega)
       case measure=>simp [intOf];omega
      ·have hzn:¬ (z:Int)<64:=by omega
       have HN:=Z0a (And.intro hN3 (And.intro hv4 (show ∀ k,k<64*(i+1)→mem3.getD k 0=255 from fun k h=>hv5 k (by omega))))
       clear hN3 hv4 hv5
       go_wp2
       go_roundw
       case rel=>exact ⟨i+1,by omega,by go_num,_,HN.out⟩
       case measure=>simp [intOf];omega
    ·have hin:¬ (i:Int)<16:=by omega
     have hall:mem2=mem0:=by
      have hl:=hN2.len
      apply List.ext_getElem?
      intro k
      by_cases hk:k<1264
      ·have h255:mem2.getD k 0=255:=by
        by_cases h1:k<1024
        ·exact hv3 k (by omega)
        ·exact hv2 k (by omega) hk
       rw [List.getD_eq_getElem?_getD,List.getElem?_eq_getElem (by omega)] at h255
       rw [List.getElem?_eq_getElem (by omega)]
       unfold mem0
       rw [List.getElem?_replicate,if_pos hk]
       congr 1
      ·rw [List.getElem?_eq_none (by omega),List.getElem?_eq_none (by unfold mem0;rw [List.length_replicate];omega)]
     subst hall
     have hlm:(Z0f mem0).length=1264:=by rw [Z0y];exact hN2.len
     have hrg:=hN2.at_.range
     have hth:wr.there w.heap.size 0 1264:=hN2.out
     have HB:=Z0a hN2.below
     have h1c:=Z3S mem0
     have HTH:=Z0a hth
     have HRG:=Z0a hrg
     clear hN2 hv2 hv3 hth hrg
     have hst:(storeCells ⟨w.heap.size,0,none⟩ (Z0f mem0)).run Tryz.prog wr=.ok () (wr.setCells w.heap.size 0 (Z0f mem0)):=run_storeCells_cells (P:=Tryz.prog) w.heap.size 0 (Z0f mem0) 0 wr (fun j hj=>by have:=(HTH.out j (by omega)).1;simpa using this) (fun j hj=>by have:=(HTH.out j (by omega)).2;simpa using this) h1c
     go_wp2_with (refine wpList_load_mid rfl 69 (.tmp 1) rfl (w.heap.size+1) 0 rfl (Z0f mem0) _ HRG.out Tryz.underlying69 rfl (by rw [hlm];exact Tryz.infoStore) ?_)
     have hra:(wr.setCells w.heap.size 0 (Z0f mem0)).rangeAt w.heap.size 0 (Z0f mem0):=World.rangeAt_setCells_same wr w.heap.size 0 (Z0f mem0) (by rw [hlm];exact HTH.out)
     refine bodyPost_ret (Z3u rfl _ _ w.heap.size (Z0f mem0) _ rfl hra Tryz.underlying69 rfl (by rw [hlm];exact Tryz.infoStore)) rfl ?_
     refine ⟨rfl,?_⟩
     have hset:∀ (vs:List Value) (o:Nat) (X:World),Below w.heap.size w X→Below w.heap.size w (X.setCells w.heap.size o vs):=by
      intro vs
      induction vs with
      | nil=>intro o X h;exact h
      | cons v vs ih=>intro o X h;exact ih (o+1) _ (h.setCell (p:=⟨w.heap.size,o,none⟩) (Nat.le_refl _) _)
     exact hset _ _ _ HB.out
def talkL:List Value:=[.int .i64 0]++(List.replicate 82 (.int .u8 0) ++ [.int .i64 0,.bool false,.int .u16 0,.int .u8 0,.string ⟨#[]⟩])
def brdL:List Value:=[.bool true,.bool false,.int .i64 0,.int .u8 0]++(Z0f mem0++talkL)
theorem Tryz.infoBoard:(Tryz.prog.info? 78).map (·.size)=some 1356:=by kernel_rfl
theorem Z2O:mem0.length=1264:=List.length_replicate
theorem talkL_len:talkL.length=88:=by decide
theorem Z5K:brdL.length=1356:=by
 unfold brdL
 rw [List.length_append,List.length_append,Z0y,Z2O,talkL_len]
 rfl
theorem talkL_one:∀ v∈talkL,v.oneCell'=true:=by
 intro v hv
 unfold talkL at hv
 rcases List.mem_append.1 hv with h | h
 ·simp at h;subst h;rfl
 ·rcases List.mem_append.1 h with h | h
  ·rw [(List.mem_replicate.1 h).2];rfl
  ·simp at h
   rcases h with rfl | rfl | rfl | rfl | rfl <;> rfl
theorem brdL_one:∀ v∈brdL,v.oneCell'=true:=by
 intro v hv
 unfold brdL at hv
 rcases List.mem_append.1 hv with h | h
 ·simp at h
  rcases h with rfl | rfl | rfl | rfl <;> rfl
 ·rcases List.mem_append.1 h with h | h
  ·exact Z3S _ v h
  ·exact talkL_one v h
theorem zero_board:Tryz.zeroCells78.toList=[Value.bool false,.bool false,.int .i64 0,.int .u8 0]++(List.replicate 1264 (Value.int .u8 0)++talkL):=by kernel_rfl
theorem Z8A:∀ (vs:List Value) (off k:Nat) (cs:Array Value),off+k+vs.length≤cs.size→((vs.zipIdx k).foldl (fun (cs:Array Value) (x:Value × Nat)=>cs.setIfInBounds (off+x.2) x.1) cs).toList=cs.toList.take (off+k)++(vs++cs.toList.drop (off+k+vs.length))
 | [],off,k,cs,_=>by simp
 | v :: vs,off,k,cs,h=>by
  simp only [List.length_cons] at h
  rw [List.zipIdx_cons,List.foldl_cons,Z8A vs off (k+1) _ (by simp;omega)]
  simp only [Array.toList_setIfInBounds]
  have hk:off+k<cs.toList.length:=by rw [Array.length_toList];omega
  obtain ⟨l,hl⟩:∃ l,cs.toList=l:=⟨_,rfl⟩
  rw [hl] at hk ⊢
  have h1:(l.set (off+k) v).drop (off+(k+1)+vs.length)=l.drop (off+k+(vs.length+1)):=by
   rw [List.drop_set_of_lt (by omega)]
   congr 1
   omega
  have h2:(l.set (off+k) v).take (off+(k+1))=l.take (off+k) ++ [v]:=by
   rw [show off+(k+1)=off+k+1 by omega,List.take_add_one,List.getElem?_set_self hk,List.take_set_of_le (by omega)]
   rfl
  rw [h1,h2]
  simp
theorem fold_set0 (vs cs:Array Value)(off:Nat)(h:off+vs.size≤cs.size):vs.zipIdx.foldl (fun (cs:Array Value) (x:Value × Nat)=>cs.setIfInBounds (off+x.2) x.1) cs=(cs.toList.take off++(vs.toList++cs.toList.drop (off+vs.size))).toArray:=by
 have:=Z8A vs.toList off 0 cs (by rw [Array.length_toList];omega)
 simp only [Nat.add_zero,Array.length_toList] at this
 rw [←this,← Array.foldl_toList,Array.toList_zipIdx]
theorem splice (H R T M:List Value)(n k:Nat)(hn:H.length=n)(hk:R.length=k):List.take n (H++(R++T))++(M++List.drop (n+k) (H++(R++T)))=H++(M++T):=by
 have h1:List.take n (H++(R++T))=H:=by rw [←hn];exact List.take_left
 have h2:List.drop (n+k) (H++(R++T))=T:=by
  rw [←List.append_assoc,← hn,← hk,← List.length_append]
  exact List.drop_left
 rw [h1,h2]
theorem fold_brd:Array.foldl (fun (cs:Array Value) (x:Value × Nat)=>cs.setIfInBounds (4+x.snd) x.fst) (Tryz.zeroCells78.setIfInBounds 0 (.bool true)) (Z0f mem0).toArray.zipIdx 0 1264=brdL.toArray:=by
 have hsz:Tryz.zeroCells78.size=1356:=by kernel_rfl
 have hms:(Z0f mem0).toArray.size=1264:=by rw [List.size_toArray,Z0y,Z2O]
 have h1:=fold_set0 (Z0f mem0).toArray (Tryz.zeroCells78.setIfInBounds 0 (.bool true)) 4 (by rw [hms,Array.size_setIfInBounds,hsz];decide)
 rw [show (Z0f mem0).toArray.zipIdx.size=1264 by simpa using hms] at h1
 rw [h1,hms]
 refine congrArg List.toArray ?_
 rw [Array.toList_setIfInBounds,zero_board]
 show List.take 4 ([Value.bool true,.bool false,.int .i64 0,.int .u8 0]++(List.replicate 1264 (Value.int .u8 0)++talkL))++(Z0f mem0++List.drop (4+1264) ([Value.bool true,.bool false,.int .i64 0,.int .u8 0]++(List.replicate 1264 (Value.int .u8 0)++talkL)))=brdL
 rw [splice _ _ _ _ 4 1264 rfl List.length_replicate]
 rfl
theorem new_any (w:World):Calls Tryz.prog 52 #[] w fun e w'=>e=.returned (.agg brdL.toArray)∧Below w.heap.size w w':=by
 have hfd:=fold_brd
 have HNS:=Z0a (fun w'=>newStore_any w')
 have hms:(Z0f mem0).toArray.size=1264:=by rw [List.size_toArray,Z0y,Z2O]
 have hbl:=Z5K
 have hb1:=brdL_one
 obtain ⟨M,hM⟩:∃ M,(Z0f mem0).toArray=M:=⟨_,rfl⟩
 obtain ⟨N,hN⟩:∃ N,brdL=N:=⟨_,rfl⟩
 rw [hM] at hfd HNS hms
 rw [hN] at hfd hbl hb1 ⊢
 clear hM hN
 go_enter Tryz.func52,Tryz.ntmps52
 go_wp2_with fail
 refine (HNS.out _).mono ?_
 rintro e w1 ⟨rfl,hbw⟩
 have hz:Tryz.zeroCells78.size=1356:=by kernel_rfl
 have hh:w1.heap[w.heap.size]?=some (.cells Tryz.zeroCells78 78):=(hbw.block w.heap.size (by simp)).trans (heap_alloc_new w _)
 have hth:w1.there w.heap.size 0 1356:=fun j hj=>by
  refine ⟨?_,frozen_of_row _ _ _ _ _ hh⟩
  rw [cell_of_row _ _ _ _ _ (0,0) hh,Nat.zero_add,Array.getElem?_eq_getElem (by omega)]
  rfl
 have HB:Hid (Below w.heap.size w w1):=((Below.refl _ _).alloc (Nat.le_refl _) _).trans (hbw.mono (by simp))
 have hst:(storeCells ⟨w.heap.size,0,none⟩ N).run Tryz.prog w1=.ok () (w1.setCells w.heap.size 0 N):=run_storeCells_cells (P:=Tryz.prog) w.heap.size 0 N 0 w1 (fun j hj=>by have:=(hth j (by rw [hbl] at hj;exact hj)).1;simpa using this) (fun j hj=>by have:=(hth j (by rw [hbl] at hj;exact hj)).2;simpa using this) hb1
 have HTH:=Z0a hth
 clear hbw hh hth hz hb1
 go_wp2_with fail
 have hra:(w1.setCells w.heap.size 0 N).rangeAt w.heap.size 0 N:=World.rangeAt_setCells_same w1 w.heap.size 0 N (by rw [hbl];exact HTH.out)
 refine bodyPost_ret (Z3u rfl _ _ w.heap.size N _ rfl hra Tryz.underlying78 rfl (by rw [hbl];exact Tryz.infoBoard)) rfl ?_
 refine ⟨rfl,?_⟩
 have hset:∀ (vs:List Value) (o:Nat) (X:World),Below w.heap.size w X→Below w.heap.size w (X.setCells w.heap.size o vs):=by
  intro vs
  induction vs with
  | nil=>intro o X h;exact h
  | cons v vs ih=>intro o X h;exact ih (o+1) _ (h.setCell (p:=⟨w.heap.size,o,none⟩) (Nat.le_refl _) _)
 exact hset _ _ _ HB.out
theorem brdL_mid (i:Nat)(hi:i<1264):brdL[4+i]?=some (.int .u8 255):=by
 unfold brdL
 rw [List.getElem?_append_right (by simp),List.getElem?_append_left (by rw [Z0y,Z2O];simp;omega)]
 simp only [List.length_cons,List.length_nil]
 rw [show 4+i-(0+1+1+1+1)=i by omega]
 unfold Z0f mem0
 rw [List.getElem?_map,List.getElem?_replicate,if_pos hi]
 rfl
theorem Z3q (j:Nat):brdL[1268+j]?=talkL[j]?:=by
 unfold brdL
 rw [List.getElem?_append_right (by simp;omega),List.getElem?_append_right (by rw [Z0y,Z2O];simp;omega)]
 rw [Z0y,Z2O]
 simp only [List.length_cons,List.length_nil]
 rw [show 1268+j-(0+1+1+1+1)-1264=j by omega]
theorem brd0_at (w:World)(t:TypeId):BrdAt (w.alloc (.cells brdL.toArray t)) w.heap.size brd0:=by
 have hh:=heap_alloc_new w (.cells brdL.toArray t)
 have hc:∀ j,(w.alloc (.cells brdL.toArray t)).cell? ⟨w.heap.size,j,none⟩=brdL[j]?:=fun j=>by
  rw [cell_of_row _ _ _ _ _ (0,0) hh];simp
 have hf:∀ j,(w.alloc (.cells brdL.toArray t)).frozen? ⟨w.heap.size,j,none⟩=false:=fun j=>frozen_of_row _ _ _ _ _ hh
 have hl:w.heap.size<(w.alloc (.cells brdL.toArray t)).heap.size:=by simp
 refine ⟨(hc 0).trans rfl,⟨(hc 1).trans rfl,(hc 2).trans rfl,(hc 3).trans rfl,fun i hi=>?_,Z2O,(by decide:0≤9223372036854775807),hf,hl⟩,⟨?_,?_,fun i hi=>?_,fun i hi=>by simp [brd0,ear0] at hi,hf,hl,⟨(by decide:0≤2),by simp [brd0,ear0]⟩⟩,⟨?_,?_,?_,?_,hf⟩,⟨0,used_0⟩,(by decide:0<65536),(by decide:0≤200)⟩
 ·have hi':i<1264:=by rw [←Z2O];exact hi
  rw [hc,brdL_mid i hi']
  show some (Value.int .u8 255)=some (.int .u8 ((mem0.getD i 0).toNat:Int))
  unfold mem0
  rw [List.getD_eq_getElem?_getD,List.getElem?_replicate,if_pos hi']
  rfl
 ·rw [hc];exact Z3q 0
 ·rw [hc];exact Z3q 83
 ·rw [hc,show 1268+1+i=1268+(1+i) by omega,Z3q]
  rw [List.getElem?_eq_getElem (by rw [talkL_len];omega)]
  exact ⟨_,rfl⟩
 ·rw [hc];exact Z3q 84
 ·rw [hc];exact Z3q 85
 ·rw [hc];exact Z3q 86
 ·rw [hc];exact Z3q 87
theorem newBoard_any (w:World):Calls Tryz.prog 18 #[] w fun e w'=>∃ bb,e=.returned (.pointer (some ⟨bb,0,none⟩))∧w.heap.size≤bb∧BrdAt w' bb brd0∧Below w.heap.size w w':=by
 have HNS:=Z0a (fun w'=>new_any w')
 have HBA:=Z0a (fun w'=>brd0_at w' 80)
 have hbl:=Z5K
 have hfl:List.foldl (fun (cs:Array Value) (x:Value × Nat)=>cs.setIfInBounds x.snd x.fst) Tryz.zeroCells80 brdL.zipIdx=brdL.toArray:=by
  have hsz:Tryz.zeroCells80.size=1356:=by kernel_rfl
  have h1:=Z8A brdL 0 0 Tryz.zeroCells80 (by rw [hsz,Z5K];decide)
  simp only [Nat.zero_add] at h1
  have h4:List.drop brdL.length Tryz.zeroCells80.toList=[]:=List.drop_eq_nil_of_le (by rw [Array.length_toList,hsz,Z5K];exact Nat.le_refl _)
  rw [h4,List.append_nil,List.take_zero,List.nil_append] at h1
  exact Array.toList_inj.1 h1
 obtain ⟨N,hN⟩:∃ N,brdL=N:=⟨_,rfl⟩
 rw [hN] at HNS HBA hbl hfl
 clear hN
 go_enter Tryz.func18,Tryz.ntmps18
 go_wp2_with fail
 refine (HNS.out _).mono ?_
 rintro e w1 ⟨rfl,hb1⟩
 have HB:=Z0a hb1
 clear hb1
 go_wp2_with fail
 go_ret
 exact ⟨w1.heap.size,rfl,HB.out.size,HBA.out w1,HB.out.alloc HB.out.size _⟩
theorem hear_any_b (bb:Nat)(b:Brd)(bs:ByteArray)(w:World)(h:BrdAt w bb b)(hbs:bs.size≤4000000) :
  Calls Tryz.prog 109 #[.pointer (some ⟨bb,0,none⟩),.string bs] w fun e w'=>e=.returned (.string (txt (Z0D b bs.data.toList).2))∧BrdAt w' bb (Z0D b bs.data.toList).1∧w.grownBy w' (some bb):=by
 by_cases ho:b.on=true
 ·exact hear_on bb b bs w h ho hbs
 ·have hof:b.on=false:=by simpa using ho
  have e:Z0D b bs.data.toList=(b,[]):=by unfold Z0D;rw [if_pos hof]
  rw [e]
  exact hear_off bb b bs w h hof
theorem bbHear_any (bb:Nat)(b:Brd)(bs:ByteArray)(w:World)(h:BrdAt w bb b)(hbs:bs.size≤4000000) :
  Calls Tryz.prog 59 #[.pointer (some ⟨bb,0,none⟩),.string bs] w fun e w'=>e=.returned (.string (txt (Z0D b bs.data.toList).2))∧BrdAt w' bb (Z0D b bs.data.toList).1∧w.grownBy w' (some bb):=by
 have HC:=Z0a (hear_any_b bb b bs w h hbs)
 obtain ⟨R,hR⟩:∃ R,Z0D b bs.data.toList=R:=⟨_,rfl⟩
 rw [hR] at HC ⊢
 have c0:=h.c0
 clear h hR
 go_enter Tryz.func59,Tryz.ntmps59
 go_wp2_with fail
 refine HC.out.mono ?_
 rintro e w1 ⟨rfl,h1,h2⟩
 have HQ:=Z0a (And.intro h1 h2)
 clear h1 h2
 go_wp2
 go_ret
 exact ⟨rfl,HQ.out.1,HQ.out.2⟩
theorem bbCut_any (bb:Nat)(b:Brd)(n m:Int)(hn1:-9223372036854775808≤n)(hn2:n≤9223372036854775807)(w:World)(h:BrdAt w bb b):Calls Tryz.prog 21 #[.pointer (some ⟨bb,0,none⟩),.int .i64 n,.int .i64 m] w fun e w'=>e=.returned (.tuple #[])∧BrdAt w' bb (cutF b n (mk8 m))∧w.grownBy w' (some bb):=by
 have HC:=Z0a (cut_any bb b n m hn1 hn2 w h)
 have c0:=h.c0
 clear h
 go_enter Tryz.func21,Tryz.ntmps21
 go_wp2_with fail
 refine HC.out.mono ?_
 rintro e w1 ⟨rfl,h1,h2⟩
 have HQ:=Z0a (And.intro h1 h2)
 clear h1 h2
 go_wp2
 go_end0
 exact ⟨rfl,HQ.out.1,HQ.out.2⟩
theorem Z7G (bb:Nat)(b:Brd)(w:World)(h:BrdAt w bb b):Calls Tryz.prog 8 #[.pointer (some ⟨bb,0,none⟩)] w fun e w'=>e=.returned (.tuple #[])∧BrdAt w' bb (Z5C b)∧w.grownBy w' (some bb):=by
 have HC:=Z0a (boot_any bb b w h)
 have c0:=h.c0
 clear h
 go_enter Tryz.func8,Tryz.ntmps8
 go_wp2_with fail
 refine HC.out.mono ?_
 rintro e w1 ⟨rfl,h1,h2⟩
 have HQ:=Z0a (And.intro h1 h2)
 clear h1 h2
 go_wp2
 go_end0
 exact ⟨rfl,HQ.out.1,HQ.out.2⟩
theorem Z6i (bb:Nat)(b:Brd)(w:World)(h:BrdAt w bb b):Calls Tryz.prog 19 #[.pointer (some ⟨bb,0,none⟩)] w fun e w'=>e=.returned (.string (txt (b.mem.take 1024)))∧Below w.heap.size w w':=by
 have HC:=Z0a (flash_any bb b w h)
 have c0:=h.c0
 clear h
 go_enter Tryz.func19,Tryz.ntmps19
 go_wp2_with fail
 refine HC.out.mono ?_
 rintro e w1 ⟨rfl,hb⟩
 go_wp2
 go_ret
 exact ⟨rfl,hb⟩
theorem bbBurnt_any (bb:Nat)(b:Brd)(w:World)(h:BrdAt w bb b):Calls Tryz.prog 29 #[.pointer (some ⟨bb,0,none⟩)] w fun e w'=>e=.returned (.int .i64 (Z1D b.mem:Int))∧Below w.heap.size w w':=by
 have HC:=Z0a (burnt_any bb b w h)
 have c0:=h.c0
 clear h
 go_enter Tryz.func29,Tryz.ntmps29
 go_wp2_with fail
 refine HC.out.mono ?_
 rintro e w1 ⟨rfl,hb⟩
 go_wp2
 go_ret
 exact ⟨rfl,hb⟩
theorem Z6w (l:List UInt8):(txt l).data.toList=l:=by simp [txt]
theorem Z35 {w w1 w2:World}{eb:Nat}(h:Below w.heap.size w w1)(hg:w1.grownBy w2 (some eb))(he:w.heap.size≤eb):Below w.heap.size w w2 :=
 ⟨hg.os.trans h.os,hg.tape.trans h.tape,hg.output.trans h.output,Nat.le_trans h.size hg.size,fun j hj=>by rw [hg.block j (Nat.lt_of_lt_of_le hj h.size) (by simp;omega),h.block j hj]⟩
theorem Z0g {w w1:World}(h:Below w.heap.size w w1)(r:Option Nat):w.grownBy w1 r:=⟨h.os,h.tape,h.output,h.size,fun k hk _=>h.block k hk⟩
end Go.Proofs.YthokdbcpkmcieabGreatDoor
