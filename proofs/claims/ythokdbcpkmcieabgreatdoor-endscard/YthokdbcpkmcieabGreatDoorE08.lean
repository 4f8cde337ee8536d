/- Vals Par11 Par9 -/
import Derived.Test.YthokdbcpkmcieabGreatDoorE07
import Derived.Test.YthokdbcpkmcieabGreatDoorE01
import Derived.Deep.DeepCutAuto
import Derived.Test.YthokdbcpkmcieabGreatDoorE05
import Derived.DeepKeys4
set_option maxRecDepth 200000
set_option maxHeartbeats 8000000
namespace Go.Proofs.YthokdbcpkmcieabGreatDoor
open Go Go.RowKit Go.Maps Go.WideMaps
structure SS (w:World) (sb:Nat) (line place:Int) (label:ByteArray) (task:Int) (name:ByteArray) (vals:Value) (code:Int) (kinds:Value) (size:Int):Prop where
 c0:w.cell? ⟨sb,0,none⟩=some (.int .i64 line)
 c1:w.cell? ⟨sb,1,none⟩=some (.int .i64 place)
 c2:w.cell? ⟨sb,2,none⟩=some (.string label)
 c3:w.cell? ⟨sb,3,none⟩=some (.int .i64 task)
 c4:w.cell? ⟨sb,4,none⟩=some (.string name)
 c5:w.cell? ⟨sb,5,none⟩=some vals
 c6:w.cell? ⟨sb,6,none⟩=some (.int .u8 code)
 c7:w.cell? ⟨sb,7,none⟩=some kinds
 c8:w.cell? ⟨sb,8,none⟩=some (.int .i64 size)
 fz:∀ j,w.frozen? ⟨sb,j,none⟩=false
 lt:sb<w.heap.size
theorem MapAt.at1 {P:Program}{k:TypeId}{w w':World}{b n:Nat}{f:List UInt8→Option Value}(h:MapAt P k w b n f)(he:w'.heap[b]?=w.heap[b]?):MapAt P k w' b n f:=by
 obtain ⟨D,⟨es,clock,h1,h2⟩,h3⟩:=h
 exact ⟨D,⟨es,clock,he.trans h1,h2⟩,h3⟩
structure Grow2 (w w':World) (p q:Nat):Prop where
 os:w'.os=w.os
 tape:w'.tape=w.tape
 output:w'.output=w.output
 size:w.heap.size≤w'.heap.size
 block:∀ k,k<w.heap.size→k≠p→k≠q→w'.heap[k]?=w.heap[k]?
theorem Grow2.refl (w:World)(p q:Nat):Grow2 w w p q:=⟨rfl,rfl,rfl,Nat.le_refl _,fun _ _ _ _=>rfl⟩
theorem Grow2.trans {w w1 w2:World}{p q:Nat}(h:Grow2 w w1 p q)(k:Grow2 w1 w2 p q):Grow2 w w2 p q :=
 ⟨k.os.trans h.os,k.tape.trans h.tape,k.output.trans h.output,Nat.le_trans h.size k.size,fun i hi h1 h2=>(k.block i (Nat.lt_of_lt_of_le hi h.size) h1 h2).trans (h.block i hi h1 h2)⟩
theorem Grow2.of1 {w w':World}{p:Nat}(h:w.grownBy w' (some p))(q:Nat):Grow2 w w' p q:=⟨h.os,h.tape,h.output,h.size,fun k hk h1 _=>h.block k hk (by simpa using h1)⟩
theorem Grow2.ofB {w w':World}(h:Below w.heap.size w w')(p q:Nat):Grow2 w w' p q:=⟨h.os,h.tape,h.output,h.size,fun k hk _ _=>h.block k hk⟩
theorem Grow2.set {w w':World}{p q:Nat}(h:Grow2 w w' p q)(j:Nat)(v:Value):Grow2 w (w'.setCell ⟨q,j,none⟩ v) p q :=
 ⟨h.os,h.tape,h.output,by simpa [World.setCell] using h.size,fun k hk h1 h2=>by rw [Below.heap_setCell _ _ _ _ (by simpa using h2)];exact h.block k hk h1 h2⟩
theorem Z1s {w w':World}{base:Nat}{e:TypeId}{size n:Nat}{v:Value}{xs:List Value}(h:w.ownsRow base e size v n xs)(hb:∀ j,v.ownBlock=some j→w'.heap[j]?=w.heap[j]?):w'.ownsRow base e size v n xs:=by
 obtain ⟨h1,h2 | ⟨g,cap,cur,rfl,hg,h3,h4⟩⟩:=h
 ·exact ⟨h1,.inl h2⟩
 ·exact ⟨h1,.inr ⟨g,cap,cur,rfl,hg,(hb g rfl).trans h3,h4⟩⟩
def EachE (w:World) (base:Nat) (v:Value):List Value→List (List Trm)→Prop
 | [],[]=>True
 | x :: vs,e :: es=>(w.ownsRow base 337 4 x e.length (Z0j e)∧∀ j,x.ownBlock=some j→v.ownBlock≠some j)∧EachE w base v vs es
 | _,_=>False
theorem EachE.kept {w w':World}{base:Nat}{v v':Value}:∀ {vs:List Value} {es:List (List Trm)},EachE w base v vs es→(∀ j,base≤j→j<w.heap.size→v.ownBlock≠some j→w'.heap[j]?=w.heap[j]?)→(∀ j,j<w.heap.size→v.ownBlock≠some j→v'.ownBlock≠some j)→EachE w' base v' vs es
 | [],[],_,_,_=>trivial
 | x :: vs,e :: es,h,h1,h2=>by
  obtain ⟨⟨a,b⟩,c⟩:=h
  refine ⟨⟨Z1s a (fun j hj=>h1 j (a.lt j hj).1 (a.lt j hj).2 (b j hj)),fun j hj=>h2 j (a.lt j hj).2 (b j hj)⟩,EachE.kept c h1 h2⟩
 | [],_ :: _,h,_,_=>h.elim
 | _ :: _,[],h,_,_=>h.elim
theorem EachE.snoc {w:World}{base:Nat}{v x:Value}{e:List Trm}(hx:w.ownsRow base 337 4 x e.length (Z0j e)∧∀ j,x.ownBlock=some j→v.ownBlock≠some j):∀ {vs:List Value} {es:List (List Trm)},EachE w base v vs es→EachE w base v (vs ++ [x]) (es ++ [e])
 | [],[],_=>⟨hx,trivial⟩
 | _ :: _,_ :: _,h=>⟨h.1,EachE.snoc hx h.2⟩
 | [],_ :: _,h=>h.elim
 | _ :: _,[],h=>h.elim
theorem EachE.len {w:World}{base:Nat}{v:Value}:∀ {vs:List Value} {es:List (List Trm)},EachE w base v vs es→vs.length=es.length
 | [],[],_=>rfl
 | _ :: _,_ :: _,h=>by simp [EachE.len h.2]
 | [],_ :: _,h=>h.elim
 | _ :: _,[],h=>h.elim
def VAt (w:World) (base:Nat) (v:Value) (es:List (List Trm)):Prop:=∃ vs,w.ownsRow base 335 1 v es.length vs∧EachE w base v vs es
theorem SS.grown {w w':World}{sb:Nat}{l0 p0:Int}{lb:ByteArray}{tk:Int}{nm:ByteArray}{v:Value}{cd:Int}{kd:Value}{sz:Int}(h:SS w sb l0 p0 lb tk nm v cd kd sz)(he:w'.heap[sb]?=w.heap[sb]?)(hz:w.heap.size≤w'.heap.size):SS w' sb l0 p0 lb tk nm v cd kd sz :=
 ⟨(World.cell?_of_block (a:=⟨sb,0,none⟩) he).trans h.c0,(World.cell?_of_block (a:=⟨sb,1,none⟩) he).trans h.c1,(World.cell?_of_block (a:=⟨sb,2,none⟩) he).trans h.c2,(World.cell?_of_block (a:=⟨sb,3,none⟩) he).trans h.c3,(World.cell?_of_block (a:=⟨sb,4,none⟩) he).trans h.c4,(World.cell?_of_block (a:=⟨sb,5,none⟩) he).trans h.c5,(World.cell?_of_block (a:=⟨sb,6,none⟩) he).trans h.c6,(World.cell?_of_block (a:=⟨sb,7,none⟩) he).trans h.c7,(World.cell?_of_block (a:=⟨sb,8,none⟩) he).trans h.c8,
  fun j=>(World.frozen?_of_block (a:=⟨sb,j,none⟩) he).trans (h.fz j),Nat.lt_of_lt_of_le h.lt hz⟩
theorem SS.set5 {w:World}{sb:Nat}{l0 p0:Int}{lb:ByteArray}{tk:Int}{nm:ByteArray}{v:Value}{cd:Int}{kd:Value}{sz:Int}(h:SS w sb l0 p0 lb tk nm v cd kd sz)(v':Value):SS (w.setCell ⟨sb,5,none⟩ v') sb l0 p0 lb tk nm v' cd kd sz:=by
 refine ⟨?_,?_,?_,?_,?_,World.cell?_setCell_same _ _ _ h.c5,?_,?_,?_,fun j=>by simp [h.fz j],by simpa [World.setCell] using h.lt⟩
 ·rw [World.cell?_setCell_other _ _ _ _ (by simp)];exact h.c0
 ·rw [World.cell?_setCell_other _ _ _ _ (by simp)];exact h.c1
 ·rw [World.cell?_setCell_other _ _ _ _ (by simp)];exact h.c2
 ·rw [World.cell?_setCell_other _ _ _ _ (by simp)];exact h.c3
 ·rw [World.cell?_setCell_other _ _ _ _ (by simp)];exact h.c4
 ·rw [World.cell?_setCell_other _ _ _ _ (by simp)];exact h.c6
 ·rw [World.cell?_setCell_other _ _ _ _ (by simp)];exact h.c7
 ·rw [World.cell?_setCell_other _ _ _ _ (by simp)];exact h.c8
theorem vals_step {wr w3 wn:World}{B pb sb base:Nat}{b:Bk}{line:Int}{l:List Tok}{l0 p0:Int}{lb:ByteArray}{tk:Int}{nm:ByteArray}{v v' x:Value}{cd:Int}{kd:Value}{sz:Int}{acc:List (List Trm)}{e:List Trm}{vs:List Value}{o:Obj}
  (hS:SS wr sb l0 p0 lb tk nm v cd kd sz) (hrow:wr.ownsRow base 335 1 v acc.length vs) (hE:EachE wr base v vs acc) (hg3:wr.grownBy w3 (some pb)) (hx:w3.ownsRow wr.heap.size 337 4 x e.length (Z0j e)) (hp3:PS w3 B pb b line l)
  (hown:wn.ownsRow base 335 1 v' (acc.length+1) (vs ++ [x])) (hgr:(w3.alloc o).grownBy wn v.ownBlock) (hloc:v'.ownBlock=v.ownBlock∨v'.ownBlock=some (w3.alloc o).heap.size) (hne:sb≠pb) (hB:B≤sb) (h1:sb<base) (h2:pb<base) (h3:base≤wr.heap.size) :
  VAt (wn.setCell ⟨sb,5,none⟩ v') base v' (acc ++ [e])∧SS (wn.setCell ⟨sb,5,none⟩ v') sb l0 p0 lb tk nm v' cd kd sz∧PS (wn.setCell ⟨sb,5,none⟩ v') B pb b line l∧∀ w0:World,w0.heap.size≤base→Grow2 w0 wr pb sb→Grow2 w0 (wn.setCell ⟨sb,5,none⟩ v') pb sb:=by
 have hvb:∀ j,v.ownBlock=some j→base≤j∧j<wr.heap.size:=fun j hj=>hrow.lt j hj
 have hz3:=hg3.size
 have hzn:w3.heap.size+1≤wn.heap.size:=by have:=hgr.size;simpa using this
 have hk:∀ k,k<wr.heap.size→k≠pb→v.ownBlock≠some k→wn.heap[k]?=wr.heap[k]?:=fun k hk hkp hkv=>by
  rw [hgr.block k (by simp;omega) (fun e=>hkv e.symm),Below.heap_alloc _ _ _ (by omega),hg3.block k hk (by simpa using hkp)]
 have hk3:∀ k,k<w3.heap.size→v.ownBlock≠some k→wn.heap[k]?=w3.heap[k]?:=fun k hk hkv=>by
  rw [hgr.block k (by simp;omega) (fun e=>hkv e.symm),Below.heap_alloc _ _ _ hk]
 have hsv:v.ownBlock≠some sb:=fun e=>by have:=(hvb sb e).1;omega
 have hpv:v.ownBlock≠some pb:=fun e=>by have:=(hvb pb e).1;omega
 have hset:∀ k,k≠sb→(wn.setCell ⟨sb,5,none⟩ v').heap[k]?=wn.heap[k]?:=fun k hk=>Below.heap_setCell _ _ _ _ (by simpa using hk)
 have hv':∀ j,j<w3.heap.size→v.ownBlock≠some j→v'.ownBlock≠some j:=fun j hj hjv e=>by
  rcases hloc with h | h
  ·rw [h] at e;exact hjv e
  ·rw [h] at e
   simp at e
   omega
 refine ⟨⟨vs ++ [x],?_,?_⟩,?_,?_,?_⟩
 ·rw [List.length_append]
  refine Z1s hown (fun j hj=>hset j ?_)
  have:=(hown.lt j hj).1
  omega
 ·refine EachE.snoc ⟨Z1s (Z0O hx h3) (fun j hj=>?_),fun j hj=>?_⟩ (hE.kept (fun j hb hj hjv=>?_) (fun j hj hjv=>hv' j (by omega) hjv))
  ·have hj':=hx.lt j hj
   rw [hset j (by omega),hk3 j hj'.2 (fun e=>by have:=(hvb j e).2;omega)]
  ·have hj':=hx.lt j hj
   exact hv' j hj'.2 (fun e=>by have:=(hvb j e).2;omega)
  ·rw [hset j (by omega),hk j hj (by omega) hjv]
 ·exact (hS.grown (hk sb hS.lt hne hsv) (by omega)).set5 v'
 ·refine hp3.kept ⟨?_,?_,?_,?_,fun k hk'=>?_⟩
  ·exact hgr.os
  ·exact hgr.tape
  ·exact hgr.output
  ·simp [World.setCell];omega
  ·have hl3:=hp3.le
   rw [hset k (by omega),hk3 k (by omega) (fun e=>by have:=(hvb k e).1;omega)]
 ·intro w0 hw0 hg0
  have hz0:=hg0.size
  refine Grow2.set ⟨(hgr.os.trans hg3.os).trans hg0.os,(hgr.tape.trans hg3.tape).trans hg0.tape,(hgr.output.trans hg3.output).trans hg0.output,by omega,fun k hk' hkp hks=>?_⟩ 5 v'
  rw [hk k (by omega) hkp (fun e=>by have:=(hvb k e).1;omega)]
  exact hg0.block k hk' hkp hks
def Z1K (tk:Nat):Bool:=tk == 1 || tk == 4 || tk == 5
def stV (l0 p0:Int) (lb:ByteArray) (tk:Int) (nm:ByteArray) (v:Value) (cd:Int) (kd:Value) (sz:Int):Value:=.agg #[.int .i64 l0,.int .i64 p0,.string lb,.int .i64 tk,.string nm,v,.int .u8 cd,kd,.int .i64 sz]
theorem Z7x (w:World)(l0 p0:Int)(lb:ByteArray)(tk:Nat)(nm:ByteArray)(va:Option Addr)(vn vc:Nat)(cd:Int)(ka:Option Addr)(kn kc:Nat)(sz:Int) :
  Calls Tryz.prog 285 #[.agg #[.int .i64 l0,.int .i64 p0,.string lb,.int .i64 tk,.string nm,.slice va vn vc,.int .u8 cd,.slice ka kn kc,.int .i64 sz]] w fun e w'=>e=.returned (.bool (Z1K tk))∧Below w.heap.size w w':=by
 have hz:Below w.heap.size w (w.alloc (.cells #[.int .i64 l0,.int .i64 p0,.string lb,.int .i64 tk,.string nm,.slice va vn vc,.int .u8 cd,.slice ka kn kc,.int .i64 sz] 253)):=(Below.refl _ _).alloc (Nat.le_refl _) _
 by_cases h1:tk=1
 ·subst h1
  go_enter Tryz.func285,Tryz.ntmps285
  go_wp2
  go_ret
  exact ⟨rfl,hz⟩
 ·have i1:((tk:Int) == 1)=false:=by simp;omega
  by_cases h4:tk=4
  ·subst h4
   go_enter Tryz.func285,Tryz.ntmps285
   go_wp2
   go_ret
   exact ⟨rfl,hz⟩
  ·have i4:((tk:Int) == 4)=false:=by simp;omega
   by_cases h5:tk=5
   ·subst h5
    go_enter Tryz.func285,Tryz.ntmps285
    go_wp2
    go_ret
    exact ⟨rfl,hz⟩
   ·have i5:((tk:Int) == 5)=false:=by simp;omega
    have e:Z1K tk=false:=by unfold Z1K;simp [h1,h4,h5]
    rw [e]
    go_enter Tryz.func285,Tryz.ntmps285
    go_wp2
    go_ret
    exact ⟨rfl,hz⟩
def Z2H:Nat→List (List Trm)→List Tok→Option (List (List Trm) × List Tok)
 | 0,acc,ts=>some (acc,ts)
 | _+1,_,[]=>none
 | f+1,acc,t :: l=>if t.text=⟨#[44]⟩ then (Z1P l).bind fun x=>Z2H f (acc ++ [x.1]) x.2 else some (acc,t :: l)
def Z3M (tk:Nat) (ts:List Tok):Option (List (List Trm) × List Tok):=(Z1P ts).bind fun x=>if Z1K tk=true then some ([x.1],x.2) else Z2H x.2.length [x.1] x.2
theorem Z2k {w:World}{base:Nat}{e:TypeId}{size n:Nat}{v:Value}{xs:List Value}(h:w.ownsRow base e size v n xs):∃ a m c,v=.slice a m c:=by
 obtain ⟨_,⟨rfl,_⟩ | ⟨g,cap,cur,rfl,_⟩⟩:=h
 ·exact ⟨_,_,_,rfl⟩
 ·exact ⟨_,_,_,rfl⟩
theorem vals_row {wr w3:World}{base pb n:Nat}{v:Value}{vs:List Value}(h:wr.ownsRow base 335 1 v n vs)(hg:wr.grownBy w3 (some pb))(hp:pb<base)(o:Obj):(w3.alloc o).ownsRow base 335 1 v n vs:=(Z22 h hg hp).alloc o
theorem vals_cell {wr w3 wn:World}{base pb sb n:Nat}{v u:Value}{vs:List Value}{o:Obj}(hgr:(w3.alloc o).grownBy wn v.ownBlock)(hc:w3.cell? ⟨sb,5,none⟩=some u)(h:wr.ownsRow base 335 1 v n vs)(hs:sb<base∧sb<wr.heap.size)(hg:wr.grownBy w3 (some pb)):wn.cell? ⟨sb,5,none⟩=some u:=by
 have hz:=hg.size
 have e:=hgr.block sb (by simp;omega) (fun e=>by have:=(h.lt sb e.symm).1;omega)
 rw [World.cell?_of_block (a:=⟨sb,5,none⟩) e,World.cell?_alloc_old _ _ _ (by simp;omega)]
 exact hc
theorem Z6p {wr w3 wn:World}{base pb sb n:Nat}{v:Value}{vs:List Value}{o:Obj}(hgr:(w3.alloc o).grownBy wn v.ownBlock)(hc:w3.frozen? ⟨sb,5,none⟩=false)(h:wr.ownsRow base 335 1 v n vs)(hs:sb<base∧sb<wr.heap.size)(hg:wr.grownBy w3 (some pb)):wn.frozen? ⟨sb,5,none⟩=false:=by
 have hz:=hg.size
 have e:=hgr.block sb (by simp;omega) (fun e=>by have:=(h.lt sb e.symm).1;omega)
 rw [World.frozen?_of_block (a:=⟨sb,5,none⟩) e,World.frozen?_of_block (a:=⟨sb,5,none⟩) (Below.heap_alloc _ _ _ (by simp;omega))]
 exact hc
theorem Tryz.infoExp:(Tryz.prog.info? 335).map (fun i=>(i.zero,i.size,i.bytes))=some (some (.slice none 0 0),1,24):=by kernel_rfl
theorem drew_own {w:World}{base:Nat}{e:TypeId}{size n:Nat}{v:Value}{xs:List Value}(h:w.ownsRow base e size v n xs):w.drew.ownsRow base e size v n xs:=h
theorem VAt.below {w w':World}{base:Nat}{v:Value}{es:List (List Trm)}(h:VAt w base v es)(hb:Below w.heap.size w w'):VAt w' base v es:=by
 obtain ⟨vs,h1,h2⟩:=h
 exact ⟨vs,h1.below3 hb,h2.kept (fun j _ hj _=>hb.block j hj) (fun _ _ h=>h)⟩
theorem VAt.slice {w:World}{base:Nat}{v:Value}{es:List (List Trm)}(h:VAt w base v es):∃ a m c,v=.slice a m c:=by
 obtain ⟨vs,h1,_⟩:=h
 exact Z2k h1
def VEnd (w:World) (B pb sb:Nat) (b:Bk) (line l0 p0:Int) (lb:ByteArray) (tk:Int) (nm:ByteArray) (cd:Int) (kd:Value) (sz:Int) (o:Option (List (List Trm) × List Tok)) (e:Ending) (w':World):Prop :=
 match o with
 | none=>e=synE line∧Grow2 w w' pb sb
 | some (es,l)=>∃ v,e=.returned (.tuple #[])∧VAt w' w.heap.size v es∧SS w' sb l0 p0 lb tk nm v cd kd sz∧PS w' B pb b line l∧Grow2 w w' pb sb
theorem Z5T:∀ {f:Nat} {acc x:List Trm} {l l2:List Tok},Z19 f acc l=some (x,l2)→l2.length≤l.length
 | 0,acc,x,l,l2,h=>by simp [Z19] at h;rw [h.2];exact Nat.le_refl _
 | f+1,acc,x,[],l2,h=>by simp [Z19] at h
 | f+1,acc,x,t :: l,l2,h=>by
  simp only [Z19] at h
  split at h
  ·cases ht:Z1I l with
   | none=>rw [ht] at h;cases h
   | some y =>
    rw [ht] at h
    have h1:=Z5T (f:=f) h
    have h2:=Z1u (x:=y.1) (l:=y.2) ht
    simp at h1 ⊢
    omega
  ·split at h
   ·cases ht:Z1I l with
    | none=>rw [ht] at h;cases h
    | some y =>
     rw [ht] at h
     have h1:=Z5T (f:=f) h
     have h2:=Z1u (x:=y.1) (l:=y.2) ht
     simp at h1 ⊢
     omega
   ·cases h;exact Nat.le_refl _
theorem Z25 {ts:List Tok}{x:List Trm}{l:List Tok}(h:Z1P ts=some (x,l)):l.length+1≤ts.length:=by
 unfold Z1P at h
 cases ht:Z1I ts with
 | none=>rw [ht] at h;cases h
 | some y =>
  rw [ht] at h
  have h1:=Z5T h
  have h2:=Z1u (x:=y.1) (l:=y.2) ht
  omega
theorem Z6q {f:Nat}{acc:List (List Trm)}{t:Tok}{l:List Tok}(h:t.text=⟨#[44]⟩):Z2H (f+1) acc (t :: l)=(Z1P l).bind fun x=>Z2H f (acc ++ [x.1]) x.2:=by simp only [Z2H];rw [if_pos h]
theorem pVals1_end {f:Nat}{acc:List (List Trm)}{t:Tok}{l:List Tok}(h:¬ t.text=⟨#[44]⟩):Z2H (f+1) acc (t :: l)=some (acc,t :: l):=by simp only [Z2H];rw [if_neg h]
theorem BookAt.belowG2 {w w':World}{B pb sb:Nat}{b:Bk}(h:BookAt w b)(hg:Grow2 w w' pb sb)(ha:Apart B pb b)(hB:B≤sb):BookAt w' b:=by
 obtain ⟨nx,hx⟩:=h.fixed
 obtain ⟨f,n,hf,hl⟩:=h.counts
 have key:∀ k,k<B→k≠pb→k<w.heap.size→w'.heap[k]?=w.heap[k]?:=fun k h1 h2 h3=>hg.block k h3 h2 (by omega)
 exact ⟨⟨f,n,hf.at1 (key _ ha.l1 ha.h1 hf.lt),hl⟩,⟨nx,hx.at1 (key _ ha.l2 ha.h2 hx.lt)⟩,h.dirs.at1 (key _ ha.l3 ha.h3 h.dirs.lt)⟩
theorem Z36 (w : World) (B pb sb : Nat) (b : Bk) (line : Int) (ts : List Tok) (h : PS w B pb b line ts) (hb : BookAt w b) (ha : Apart B pb b) (hn : ts.length ≤ 1000000) (l0 p0 : Int) (lb : ByteArray) (tk : Nat) (nm : ByteArray) (cd : Int) (ka : Option Addr) (kn kc : Nat) (sz : Int)
    (hS : SS w sb l0 p0 lb tk nm (.slice none 0 0) cd (.slice ka kn kc) sz) (hne : sb ≠ pb) (hB : B ≤ sb) :
    Calls Tryz.prog 281 #[.pointer (some ⟨pb, 0, none⟩), .pointer (some ⟨sb, 0, none⟩)] w (VEnd w B pb sb b line l0 p0 lb tk nm cd (.slice ka kn kc) sz (Z3M tk ts)) := by
  obtain ⟨i0, hi, hz0, hz1, hz2⟩ := info_parts Tryz.infoExp
  have hltw : pb < w.heap.size := Nat.lt_of_lt_of_le h.lt h.le
  have hex := Z1l w.drew B pb b line ts (h.kept (Below.refl _ _).drew) (hb.below (Below.refl _ _).drew) ha hn
  obtain ⟨R, hR⟩ : ∃ R, Z3M tk ts = R := ⟨_, rfl⟩
  rw [hR]
  have c5 := hS.c5
  have f5 := hS.fz 5
  have HSS := Z0a hS
  have HSL := Z0a hS.lt
  have HSB := Z0a (And.intro hS.lt hS.lt)
  have HROW := Z0a (drew_own (World.ownsRow_nil w w.heap.size 335 1))
  have hent : ∀ args w, (callFunc 315 args).run Tryz.prog w = .ok (.enter 315 args) w := enters_of Tryz.func315 (by kernel_rfl) rfl
  have HBW := Z0a hb
  have HSW := Z0a hS.lt
  clear h hb hS
  cases hx : Z1P ts with
  | none =>
    have e : R = none := by rw [← hR]; unfold Z3M; rw [hx]; rfl
    rw [e]
    rw [hx] at hex
    have HX := Z0a hex
    have hsl := HSL.out
    clear hex hx e hR
    go_enter Tryz.func281, Tryz.ntmps281
    go_wp2_with fail
    go_region_law (first | (refine Z4T 315 #[.pointer (some ⟨pb, 0, none⟩)] rfl (by simp [go_sem, hent]) _ HX.out (fun e w' hh => ⟨_, hh.1, rfl, rfl, Grow2.of1 ((Z0l (Below.refl _ _).drew).trans2 hh.2) _⟩) ?_; intro HF) | (refine Z2X HF ?_))
    all_goals exact HF.out.elim
  | some xl =>
    obtain ⟨x, l⟩ := xl
    have hll := Z25 hx
    have e : R = if Z1K tk = true then some ([x], l) else Z2H l.length [x] l := by rw [← hR]; unfold Z3M; rw [hx]; rfl
    have HE := Z0a e
    rw [hx] at hex
    have HX := Z0a hex
    clear hex hx e hR
    go_enter Tryz.func281, Tryz.ntmps281
    go_wp2_with fail
    go_cut [] (fun wx => ∃ va vn vc, VAt wx w.heap.size (.slice va vn vc) [x] ∧ SS wx sb l0 p0 lb tk nm (.slice va vn vc) cd (.slice ka kn kc) sz ∧ PS wx B pb b line l ∧ Grow2 w wx pb sb)
    case first =>
      go_region_law (first | (refine Z2L 315 #[.pointer (some ⟨pb, 0, none⟩)] rfl (by simp [go_sem, hent]) _ _ HX.out (fun e w' hh => hh) ?_; rintro xv w3 ⟨hx3, hp3, hg3⟩; obtain ⟨xa, xn, xc, rfl⟩ := Z2k hx3; have c5' := (Z0H hg3 ⟨sb, 5, none⟩ HSL.out (by simpa using hne)).trans c5; have f5' := (Z0x hg3 ⟨sb, 5, none⟩ HSL.out (by simpa using hne)).trans f5; have l5 : sb < w3.heap.size := Nat.lt_of_lt_of_le HSL.out hg3.size) | (refine Z1C rfl (.tmp 8) (.tmp 11) 248 rfl w.heap.size 335 i0 _ 1 24 Tryz.underlying248 hi hz0 hz1 hz2 rfl (by decide) (.slice none 0 0) 0 [] (by simp [Act.eval]) (by exact vals_row HROW.out hg3 hltw _) ⟨w3.heap.size, 0, none⟩ 1 1 [.slice xa xn xc] (by simp [Act.eval]) rfl (cell_one_new _ _ _) (by intro u hu; simp at hu; subst hu; rfl) (by unfold maxLen; omega) (by omega) (by have := hg3.size; simp at this ⊢; omega) ?_; intro v' wn hown hgr hloc; obtain ⟨va', vn', vc', rfl⟩ := Z2k hown; have q5 := vals_cell hgr c5' (HROW.out) HSB.out hg3; have q6 := Z6p hgr f5' (HROW.out) HSB.out hg3))
      all_goals
        have hvs := vals_step (acc := []) (e := x) (vs := []) (HSS.out.grown (w' := w.drew) rfl (Nat.le_refl _)) HROW.out trivial hg3 hx3 hp3 hown hgr hloc hne hB HSL.out hltw (Nat.le_refl _)
        have HV := Z0a hvs
        clear hvs hown hgr hloc q5 q6 c5' f5' hx3 hp3 hg3
        go_wp2_with fail
        go_meet
        exact ⟨_, _, _, HV.out.1, HV.out.2.1, HV.out.2.2.1, HV.out.2.2.2 w (Nat.le_refl _) (Grow2.ofB (Below.refl _ _).drew _ _)⟩
    case rest =>
    obtain ⟨va, vn, vc, hV, hSx, hPx, hGx⟩ := hcut
    have HZ := Z0a (And.intro hV (And.intro hPx hGx))
    have HSX := Z0a hSx
    obtain ⟨s0, s1, s2, s3, s4, s5, s6, s7, s8, sf, sl⟩ := hSx
    have HD := Z0a (Z7x wc l0 p0 lb tk nm va vn vc cd ka kn kc sz)
    clear HX HROW HSS c5 f5 hV hPx hGx sf
    cases hd : Z1K tk with
    | true =>
      rw [hd] at HD
      have HEN := Z0a (show R = some ([x], l) by rw [HE.out, if_pos hd])
      clear hd
      go_wp2_with fail
      refine HD.out.mono ?_
      rintro e w4 ⟨rfl, hb4⟩
      go_wp2_with fail
      refine bodyPost_ret (results_none rfl _ _ _) rfl ?_
      rw [HEN.out]
      exact ⟨_, rfl, HZ.out.1.below hb4, HSX.out.grown (hb4.block sb sl) hb4.size, HZ.out.2.1.kept (hb4.mono HZ.out.2.1.le), HZ.out.2.2.trans (Grow2.ofB hb4 _ _)⟩
    | false =>
      rw [hd] at HD
      have HEN := Z0a (show Z2H l.length [x] l = R by rw [HE.out, if_neg (by simp [hd])])
      clear hd HE
      go_wp2_with fail
      refine HD.out.mono ?_
      rintro e w4 ⟨rfl, hb4⟩
      go_wp2_with fail
      have H0 := Z0a (And.intro (HZ.out.1.below hb4) (And.intro (HSX.out.grown (hb4.block sb sl) hb4.size) (And.intro (HZ.out.2.1.kept (hb4.mono HZ.out.2.1.le)) (HZ.out.2.2.trans (Grow2.ofB hb4 _ _)))))
      clear HZ HSX HD s0 s1 s2 s3 s4 s5 s6 s7 s8 sl hb4
      go_loopw [] (fun wr => ∃ (acc : List (List Trm)) (l1 : List Tok) (f : Nat) (va : Option Addr) (vn vc : Nat), l1.length ≤ f ∧ acc.length + l1.length ≤ 1000001 ∧ Hid (Z2H f acc l1 = R) ∧ VAt wr w.heap.size (.slice va vn vc) acc ∧ SS wr sb l0 p0 lb tk nm (.slice va vn vc) cd (.slice ka kn kc) sz ∧ PS wr B pb b line l1 ∧ Grow2 w wr pb sb) (fun wr => Z6v wr pb)
      case atStart => exact ⟨[x], l, l.length, va, vn, vc, Nat.le_refl _, by simp; omega, HEN, H0.out.1, H0.out.2.1, H0.out.2.2.1, H0.out.2.2.2⟩
      case round =>
        obtain ⟨acc, l1, f, va, vn, vc, hf, hal, HE2, hV, hSr, hPr, hGr⟩ := hrel
        obtain ⟨t, l2, rfl⟩ := hPr.ne
        have hlf0 := hPr.left
        have HLF0 := Z0a hlf0
        clear hlf0 H0
        obtain ⟨f', rfl⟩ : ∃ f', f = f' + 1 := ⟨f - 1, by simp at hf; omega⟩
        simp at hf hal
        by_cases h1 : t.text = ⟨#[44]⟩
        · have HS := Z0a (Z1Y wr B pb b line t l2 ⟨#[44]⟩ hPr h1 (by decide))
          have HVr := Z0a hV
          have HSr := Z0a hSr
          clear hPr hV hSr
          go_wp2_with fail
          refine HS.out.mono ?_
          rintro e w2 ⟨rfl, hp2, hg2⟩
          have hsp : sb < wr.heap.size := HSr.out.lt
          have hS2 := HSr.out.grown (hg2.block sb hsp (by simpa using hne)) hg2.size
          have hG2 := hGr.trans (Grow2.of1 hg2 sb)
          have hGz := hG2.size
          obtain ⟨vs, hr1, hE1⟩ := HVr.out
          have hr2 : w2.ownsRow w.heap.size 335 1 (.slice va vn vc) acc.length vs := Z22 hr1 hg2 hltw
          have hvb : ∀ j, (Value.slice va vn vc).ownBlock = some j → w.heap.size ≤ j := fun j hj => (hr1.lt j hj).1
          have hE2 : EachE w2 w.heap.size (.slice va vn vc) vs acc := hE1.kept (fun j hj hjl _ => hg2.block j hjl (by simp; omega)) (fun _ _ h => h)
          have hbk2 := HBW.out.belowG2 hG2 ha hB
          have hex2 := Z1l w2.drew B pb b line l2 (hp2.kept (Below.refl _ _).drew) (hbk2.below (Below.refl _ _).drew) ha (by omega)
          have c5 := hS2.c5
          have f5 := hS2.fz 5
          have HSL := Z0a hS2.lt
          have HSB := Z0a (And.intro HSW.out hS2.lt)
          have HROW := Z0a (drew_own hr2)
          have HSS := Z0a hS2
          have HEE := Z0a hE2
          clear hp2 hbk2 HVr hr1 hE1 hr2 hE2 hS2
          cases hx : Z1P l2 with
          | none =>
            have HEN2 := Z0a (show R = none by rw [← HE2.out, Z6q h1, hx]; rfl)
            rw [hx] at hex2
            have HX := Z0a hex2
            have hsl := HSL.out
            clear hex2 hx
            go_wp2_with fail
            go_region_law (first | (refine Z4T 315 #[.pointer (some ⟨pb, 0, none⟩)] rfl (by simp [go_sem, hent]) _ HX.out (fun e w' hh => ⟨_, hh.1, rfl, by rw [HEN2.out]; exact ⟨rfl, hG2.trans (Grow2.of1 ((Z0l (Below.refl _ _).drew).trans2 hh.2) _)⟩⟩) ?_; intro HF) | (refine Z2X HF ?_))
            all_goals exact HF.out.elim
          | some yl =>
            obtain ⟨y, l3⟩ := yl
            have hl3 := Z25 hx
            have HEN2 := Z0a (show Z2H f' (acc ++ [y]) l3 = R by rw [← HE2.out, Z6q h1, hx]; rfl)
            rw [hx] at hex2
            have HX := Z0a hex2
            clear hex2 hx
            go_wp2_with fail
            go_region_law (first | (refine Z2L 315 #[.pointer (some ⟨pb, 0, none⟩)] rfl (by simp [go_sem, hent]) _ _ HX.out (fun e w' hh => hh) ?_; rintro xv w3 ⟨hx3, hp3, hg3⟩; obtain ⟨xa, xn, xc, rfl⟩ := Z2k hx3; have c5' := (Z0H hg3 ⟨sb, 5, none⟩ HSL.out (by simpa using hne)).trans c5; have f5' := (Z0x hg3 ⟨sb, 5, none⟩ HSL.out (by simpa using hne)).trans f5; have l5 : sb < w3.heap.size := Nat.lt_of_lt_of_le HSL.out hg3.size) | (refine Z1C rfl (.tmp 25) (.tmp 28) 248 rfl w.heap.size 335 i0 _ 1 24 Tryz.underlying248 hi hz0 hz1 hz2 rfl (by decide) (.slice va vn vc) acc.length vs (by simp [Act.eval]) (by exact vals_row HROW.out hg3 hltw _) ⟨w3.heap.size, 0, none⟩ 1 1 [.slice xa xn xc] (by simp [Act.eval]) rfl (cell_one_new _ _ _) (by intro u hu; simp at hu; subst hu; rfl) (by unfold maxLen; omega) (by omega) (by have := hg3.size; simp at this ⊢; omega) ?_; intro v' wn hown hgr hloc; obtain ⟨va', vn', vc', rfl⟩ := Z2k hown; have q5 := vals_cell hgr c5' (HROW.out) HSB.out hg3; have q6 := Z6p hgr f5' (HROW.out) HSB.out hg3))
            all_goals
              have hvs := vals_step (acc := acc) (e := y) (vs := vs) (HSS.out.grown (w' := w2.drew) rfl (Nat.le_refl _)) HROW.out (HEE.out.kept (fun _ _ _ _ => rfl) (fun _ _ h => h)) hg3 hx3 hp3 hown hgr hloc hne hB HSW.out hltw (by have := hG2.size; exact this)
              have hlf := hvs.2.2.1.left
              have HLF := Z0a hlf
              have HV := Z0a hvs
              clear hvs hown hgr hloc q5 q6 c5' f5' hx3 hp3 hg3 hlf
              go_wp2
              go_roundw
              case rel => exact ⟨acc ++ [y], l3, f', _, _, _, by omega, by simp; omega, HEN2, HV.out.1, HV.out.2.1, HV.out.2.2.1, HV.out.2.2.2 w (Nat.le_refl _) (hG2.trans (Grow2.ofB (Below.refl _ _).drew _ _))⟩
              case measure => rw [HLF.out, HLF0.out]; simp; omega
        · have HS := Z0a (Z3l wr B pb b line t l2 ⟨#[44]⟩ hPr h1)
          have HEN2 := Z0a (show R = some (acc, t :: l2) by rw [← HE2.out, pVals1_end h1])
          have HQ := Z0a (And.intro hV (And.intro hSr (And.intro hPr hGr)))
          clear hV hSr hPr hGr
          go_wp2_with fail
          refine HS.out.mono ?_
          rintro e w0 ⟨rfl, hw0⟩
          rw [hw0]
          clear hw0 w0
          go_wp2_with fail
          first
            | (refine bodyPost_ret (results_none rfl _ _ _) rfl ?_
               rw [HEN2.out]
               exact ⟨_, rfl, HQ.out.1, HQ.out.2.1, HQ.out.2.2.1, HQ.out.2.2.2⟩)
            | (go_end0
               rw [HEN2.out]
               exact ⟨_, rfl, HQ.out.1, HQ.out.2.1, HQ.out.2.2.1, HQ.out.2.2.2⟩)
def entV (s:ByteArray) (n a b c:Int):Value:=.agg #[.string s,.int .i64 n,.int .i64 a,.int .i64 b,.int .i64 c]
def entK (s:ByteArray) (n a b c:Int):List UInt8:=keyBytes [.string s.data.toList,.int .i64 n,.int .i64 a,.int .i64 b,.int .i64 c]
theorem Tryz.laidOut:laidOutB Tryz.prog=true:=by kernel_rfl
theorem Tryz.entRow:358<Tryz.prog.types.size:=by decide +kernel
theorem Tryz.entTy3:Tryz.prog.keyTypeAt 3 358=true:=by kernel_rfl
theorem entLaw:KeyLaw Tryz.prog 358:=deep_law_laid Tryz.laidOut (m:=3) (Nat.le_of_ble_eq_true rfl) Tryz.entRow Tryz.entTy3 (by kernel_rfl)
theorem entKeyed:Keyed Tryz.prog 358:=Keyed.of_law entLaw
theorem Z8e (n:Int)(h0:0≤n)(h1:n≤1000000):(Lit.int .i64 n).wf=true:=WalkArith.wf_i64 (by omega)
theorem entKey_of {P:Program}{E S I A K:TypeId}{f0 f1 f2:Field}{N:Nat}(hN:P.types.size=N+4)(hT:P.keyType E=true)(uE:P.underlying E=some (.struct #[f0,f1,f2]))(e0:f0.type=S)(e1:f1.type=I)(e2:f2.type=A)(o0:f0.offset=0)(o1:f1.offset=1)(o2:f2.offset=2)
    (n0 : (f0.name != "_") = true) (n1 : (f1.name != "_") = true) (n2 : (f2.name != "_") = true) (uS : P.underlying S = some .string) (uI : P.underlying I = some (.int .i64)) (uA : P.underlying A = some (.array 3 K)) (uK : P.underlying K = some (.int .i64))
  (cE:P.cellsOf E=5) (cS:P.cellsOf S=1) (cI:P.cellsOf I=1) (cA:P.cellsOf A=3) (cK:P.cellsOf K=1)
  (s:ByteArray) (n a b c:Int) (hs:s.size≤1000000) (hn:(Lit.int .i64 n).wf=true) (ha:(Lit.int .i64 a).wf=true) (hb:(Lit.int .i64 b).wf=true) (hc:(Lit.int .i64 c).wf=true):keyOf P E (entV s n a b c)=some (.string (entK s n a b c)):=by
 have hsz:s.size≤maxLen:=by unfold maxLen;omega
 unfold keyOf
 rw [uE]
 simp only [hT,hN,Value.formed,uE,entV,Value.cells,Program.keyLits,cE]
 simp [e0,e1,e2,o0,o1,o2,n0,n1,n2,uS,uI,uA,uK,cS,cI,cA,cK,hsz,hn,ha,hb,hc,entK,List.range,List.range.loop]
theorem Tryz.entType:Tryz.prog.keyType 358=true:=by kernel_rfl
theorem Tryz.entN:Tryz.prog.types.size=Tryz.prog.types.size-4+4:=(Nat.sub_add_cancel (Nat.le_trans (by decide) (Nat.le_of_lt Tryz.entRow))).symm
theorem entKey (s:ByteArray)(n a b c:Int)(hs:s.size≤1000000)(hn:(Lit.int .i64 n).wf=true)(ha:(Lit.int .i64 a).wf=true)(hb:(Lit.int .i64 b).wf=true)(hc:(Lit.int .i64 c).wf=true):keyOf Tryz.prog 358 (entV s n a b c)=some (.string (entK s n a b c)) :=
 entKey_of Tryz.entN Tryz.entType Tryz.underlying358 rfl rfl rfl rfl rfl rfl (by decide) (by decide) (by decide) Tryz.underlying9 Tryz.underlying3 Tryz.underlying356 Tryz.underlying231 (by kernel_rfl) (by kernel_rfl) (by kernel_rfl) (by kernel_rfl) (by kernel_rfl) s n a b c hs hn ha hb hc
def lkN (k:Nat):Nat:=if k=10 then 9 else if k=12∨k=14∨k=15∨k=16 then 11 else k
theorem lookedUp_any (k:Nat)(w:World) :
  Calls Tryz.prog 308 #[.int .i64 k] w fun e w'=>e=.returned (.int .i64 (lkN k:Nat))∧w'=w:=by
 by_cases h10:k=10
 ·subst h10
  go_enter Tryz.func308,Tryz.ntmps308
  go_wp2
  go_ret
  exact ⟨rfl,rfl⟩
 ·have i10:((k:Int) == 10)=false:=by simp;omega
  by_cases h12:k=12
  ·subst h12
   go_enter Tryz.func308,Tryz.ntmps308
   go_wp2
   go_ret
   exact ⟨rfl,rfl⟩
  ·have i12:((k:Int) == 12)=false:=by simp;omega
   by_cases h14:k=14
   ·subst h14
    go_enter Tryz.func308,Tryz.ntmps308
    go_wp2
    go_ret
    exact ⟨rfl,rfl⟩
   ·have i14:((k:Int) == 14)=false:=by simp;omega
    by_cases h15:k=15
    ·subst h15
     go_enter Tryz.func308,Tryz.ntmps308
     go_wp2
     go_ret
     exact ⟨rfl,rfl⟩
    ·have i15:((k:Int) == 15)=false:=by simp;omega
     by_cases h16:k=16
     ·subst h16
      go_enter Tryz.func308,Tryz.ntmps308
      go_wp2
      go_ret
      exact ⟨rfl,rfl⟩
     ·have i16:((k:Int) == 16)=false:=by simp;omega
      have e:lkN k=k:=by unfold lkN;rw [if_neg h10,if_neg (by omega)]
      rw [e]
      go_enter Tryz.func308,Tryz.ntmps308
      go_wp2
      go_ret
      exact ⟨rfl,rfl⟩
def Z0n (ks:List Nat):List Value:=ks.map fun k=>.int .i64 (k:Nat)
def Z49 (s:ByteArray) (ks:List Nat):Value:=entV s ks.length (match ks[0]? with | some k=>(lkN k:Nat) | none=>0) (match ks[1]? with | some k=>(lkN k:Nat) | none=>0) (match ks[2]? with | some k=>(lkN k:Nat) | none=>0)
theorem Z5n (s:ByteArray)(base:Nat)(v:Value)(ks:List Nat)(w:World)(hk:ks.length≤3)(hrow:w.ownsRow base 231 1 v ks.length (Z0n ks)) :
  Calls Tryz.prog 270 #[.string s,v] w fun e w'=>e=.returned (Z49 s ks)∧Below w.heap.size w w':=by
 have HL:=Z0a lookedUp_any
 match ks,hk with
 | [],_ =>
  obtain ⟨a,cap,rfl⟩:∃ a cap,v=.slice a 0 cap:=by
   obtain ⟨_,⟨rfl,_⟩ | ⟨g,cap,cur,rfl,_⟩⟩:=hrow
   ·exact ⟨none,0,rfl⟩
   ·exact ⟨_,_,rfl⟩
  go_enter Tryz.func270,Tryz.ntmps270
  go_wp2_with fail
  refine wp_loop_rounds 1 ?_
  rw [rounds_succ]
  go_wp2_with fail
  refine bodyPost_ret (v:=Z49 s []) (by simp [results,Tryz.results270,go_sem,Z49,entV]) rfl ⟨rfl,?_⟩
  exact ((Below.refl _ _).alloc (Nat.le_refl _) _).alloc (by simp) _
 | [a],_ =>
  obtain ⟨g,cap,rfl⟩:∃ g cap,v=.slice (some ⟨g,0,none⟩) 1 cap:=by
   obtain ⟨_,⟨_,h'⟩ | ⟨g,cap,cur,rfl,_⟩⟩:=id hrow
   ·simp at h'
   ·exact ⟨_,_,rfl⟩
  have hgl:=(hrow.lt g rfl).2
  have k0:w.cell? ⟨g,0,none⟩=some (.int .i64 (a:Nat)):=by rw [hrow.cellAt 0 (by simp)];rfl
  obtain ⟨x0,hx0⟩:∃ x,lkN a=x:=⟨_,rfl⟩
  have HL0:=Z0a (fun w=>show Calls Tryz.prog 308 #[.int .i64 (a:Nat)] w fun e w'=>e=.returned (.int .i64 (x0:Nat))∧w'=w by rw [←hx0];exact HL.out a w)
  have he:Z49 s [a]=entV s 1 x0 0 0:=by simp only [Z49,List.getElem?_cons_zero,List.getElem?_cons_succ,List.getElem?_nil,List.length_cons,List.length_nil,hx0];rfl
  rw [he]
  clear hrow he hx0
  go_enter Tryz.func270,Tryz.ntmps270
  go_wp2_with fail
  refine wp_loop_rounds 2 ?_
  rw [rounds_succ]
  go_wp2_with fail
  refine (HL0.out _).mono ?_
  rintro e w1 ⟨rfl,rfl⟩
  go_wp2_with fail
  rw [rounds_succ]
  go_wp2_with fail
  refine bodyPost_ret (v:=entV s 1 x0 0 0) (by simp [results,Tryz.results270,go_sem,entV]) rfl ⟨rfl,?_⟩
  exact ((Below.refl _ _).alloc (Nat.le_refl _) _).alloc (by simp) _
 | [a,b],_ =>
  obtain ⟨g,cap,rfl⟩:∃ g cap,v=.slice (some ⟨g,0,none⟩) 2 cap:=by
   obtain ⟨_,⟨_,h'⟩ | ⟨g,cap,cur,rfl,_⟩⟩:=id hrow
   ·simp at h'
   ·exact ⟨_,_,rfl⟩
  have hgl:=(hrow.lt g rfl).2
  have k0:w.cell? ⟨g,0,none⟩=some (.int .i64 (a:Nat)):=by rw [hrow.cellAt 0 (by simp)];rfl
  obtain ⟨x0,hx0⟩:∃ x,lkN a=x:=⟨_,rfl⟩
  have HL0:=Z0a (fun w=>show Calls Tryz.prog 308 #[.int .i64 (a:Nat)] w fun e w'=>e=.returned (.int .i64 (x0:Nat))∧w'=w by rw [←hx0];exact HL.out a w)
  have k1:w.cell? ⟨g,1,none⟩=some (.int .i64 (b:Nat)):=by rw [hrow.cellAt 1 (by simp)];rfl
  obtain ⟨x1,hx1⟩:∃ x,lkN b=x:=⟨_,rfl⟩
  have HL1:=Z0a (fun w=>show Calls Tryz.prog 308 #[.int .i64 (b:Nat)] w fun e w'=>e=.returned (.int .i64 (x1:Nat))∧w'=w by rw [←hx1];exact HL.out b w)
  have he:Z49 s [a,b]=entV s 2 x0 x1 0:=by simp only [Z49,List.getElem?_cons_zero,List.getElem?_cons_succ,List.getElem?_nil,List.length_cons,List.length_nil,hx0,hx1];rfl
  rw [he]
  clear hrow he hx0 hx1
  go_enter Tryz.func270,Tryz.ntmps270
  go_wp2_with fail
  refine wp_loop_rounds 3 ?_
  rw [rounds_succ]
  go_wp2_with fail
  refine (HL0.out _).mono ?_
  rintro e w1 ⟨rfl,rfl⟩
  go_wp2_with fail
  rw [rounds_succ]
  go_wp2_with fail
  refine (HL1.out _).mono ?_
  rintro e w1 ⟨rfl,rfl⟩
  go_wp2_with fail
  rw [rounds_succ]
  go_wp2_with fail
  refine bodyPost_ret (v:=entV s 2 x0 x1 0) (by simp [results,Tryz.results270,go_sem,entV]) rfl ⟨rfl,?_⟩
  exact ((Below.refl _ _).alloc (Nat.le_refl _) _).alloc (by simp) _
 | [a,b,c],_ =>
  obtain ⟨g,cap,rfl⟩:∃ g cap,v=.slice (some ⟨g,0,none⟩) 3 cap:=by
   obtain ⟨_,⟨_,h'⟩ | ⟨g,cap,cur,rfl,_⟩⟩:=id hrow
   ·simp at h'
   ·exact ⟨_,_,rfl⟩
  have hgl:=(hrow.lt g rfl).2
  have k0:w.cell? ⟨g,0,none⟩=some (.int .i64 (a:Nat)):=by rw [hrow.cellAt 0 (by simp)];rfl
  obtain ⟨x0,hx0⟩:∃ x,lkN a=x:=⟨_,rfl⟩
  have HL0:=Z0a (fun w=>show Calls Tryz.prog 308 #[.int .i64 (a:Nat)] w fun e w'=>e=.returned (.int .i64 (x0:Nat))∧w'=w by rw [←hx0];exact HL.out a w)
  have k1:w.cell? ⟨g,1,none⟩=some (.int .i64 (b:Nat)):=by rw [hrow.cellAt 1 (by simp)];rfl
  obtain ⟨x1,hx1⟩:∃ x,lkN b=x:=⟨_,rfl⟩
  have HL1:=Z0a (fun w=>show Calls Tryz.prog 308 #[.int .i64 (b:Nat)] w fun e w'=>e=.returned (.int .i64 (x1:Nat))∧w'=w by rw [←hx1];exact HL.out b w)
  have k2:w.cell? ⟨g,2,none⟩=some (.int .i64 (c:Nat)):=by rw [hrow.cellAt 2 (by simp)];rfl
  obtain ⟨x2,hx2⟩:∃ x,lkN c=x:=⟨_,rfl⟩
  have HL2:=Z0a (fun w=>show Calls Tryz.prog 308 #[.int .i64 (c:Nat)] w fun e w'=>e=.returned (.int .i64 (x2:Nat))∧w'=w by rw [←hx2];exact HL.out c w)
  have he:Z49 s [a,b,c]=entV s 3 x0 x1 x2:=by simp only [Z49,List.getElem?_cons_zero,List.getElem?_cons_succ,List.length_cons,List.length_nil,hx0,hx1,hx2];rfl
  rw [he]
  clear hrow he hx0 hx1 hx2
  go_enter Tryz.func270,Tryz.ntmps270
  go_wp2_with fail
  refine wp_loop_rounds 4 ?_
  rw [rounds_succ]
  go_wp2_with fail
  refine (HL0.out _).mono ?_
  rintro e w1 ⟨rfl,rfl⟩
  go_wp2_with fail
  rw [rounds_succ]
  go_wp2_with fail
  refine (HL1.out _).mono ?_
  rintro e w1 ⟨rfl,rfl⟩
  go_wp2_with fail
  rw [rounds_succ]
  go_wp2_with fail
  refine (HL2.out _).mono ?_
  rintro e w1 ⟨rfl,rfl⟩
  go_wp2_with fail
  rw [rounds_succ]
  go_wp2_with fail
  refine bodyPost_ret (v:=entV s 3 x0 x1 x2) (by simp [results,Tryz.results270,go_sem,entV]) rfl ⟨rfl,?_⟩
  exact ((Below.refl _ _).alloc (Nat.le_refl _) _).alloc (by simp) _
end Go.Proofs.YthokdbcpkmcieabGreatDoor
