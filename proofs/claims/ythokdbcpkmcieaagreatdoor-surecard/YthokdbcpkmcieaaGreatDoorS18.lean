/- Asm1 Asm2 Asm3 Asm4 Asm5 -/
import Derived.Test.YthokdbcpkmcieaaGreatDoorS17
import Derived.Deep.RegionHeld3
import Derived.Lib.AppendZerosOnto
import Derived.Test.YthokdbcpkmcieaaGreatDoorS02
set_option maxRecDepth 200000
set_option maxHeartbeats 8000000
namespace Go.Proofs.YthokdbcpkmcieaaGreatDoor
open Go Go.RowKit Go.Shelf Go.WideMaps Go.Maps
def faultE (n line:Int):Ending:=.panicked [{ v:=.iface 117 (.agg #[.int .i64 n,.int .i64 line]),recovered:=false }]
theorem zeroIntB (w:World):(zeroValue 3).run Tryz.prog w=.ok (.int .i64 0) w:=Z7F w
structure AS (w:World) (ab:Nat) (i0 i1 i2:Value) (nb n:Nat) (nm:List UInt8→Option Int) (pl:Int):Prop where
 c0:w.cell? ⟨ab,0,none⟩=some i0
 c1:w.cell? ⟨ab,1,none⟩=some i1
 c2:w.cell? ⟨ab,2,none⟩=some i2
 c3:w.cell? ⟨ab,3,none⟩=some (.map (some nb))
 c4:w.cell? ⟨ab,4,none⟩=some (.int .i64 pl)
 fz:∀ j,w.frozen? ⟨ab,j,none⟩=false
 nms:NamesAt w nb n nm
 ne:nb≠ab
theorem AS.lt {w:World}{ab:Nat}{i0 i1 i2:Value}{nb n:Nat}{nm:List UInt8→Option Int}{pl:Int}(h:AS w ab i0 i1 i2 nb n nm pl):ab<w.heap.size:=World.block_lt_of_cell? _ _ h.c0
theorem AS.kept {w w':World}{ab:Nat}{i0 i1 i2:Value}{nb n:Nat}{nm:List UInt8→Option Int}{pl:Int}(h:AS w ab i0 i1 i2 nb n nm pl)(e1:w'.heap[ab]?=w.heap[ab]?)(e2:w'.heap[nb]?=w.heap[nb]?):AS w' ab i0 i1 i2 nb n nm pl:=by
 have hc:∀ j,w'.cell? ⟨ab,j,none⟩=w.cell? ⟨ab,j,none⟩:=fun j=>World.cell?_of_block (a:=⟨ab,j,none⟩) e1
 exact ⟨(hc 0).trans h.c0,(hc 1).trans h.c1,(hc 2).trans h.c2,(hc 3).trans h.c3,(hc 4).trans h.c4,fun j=>(World.frozen?_of_block (a:=⟨ab,j,none⟩) e1).trans (h.fz j),MapAt.at1B h.nms e2,h.ne⟩
theorem AS.below {w w':World}{ab:Nat}{i0 i1 i2:Value}{nb n:Nat}{nm:List UInt8→Option Int}{pl:Int}(h:AS w ab i0 i1 i2 nb n nm pl)(hb:Below w.heap.size w w'):AS w' ab i0 i1 i2 nb n nm pl :=
 h.kept (hb.block _ h.lt) (hb.block _ (MapAt.lt h.nms))
theorem name_look (nm:List UInt8→Option Int)(l:List UInt8):Z5q true (.int .i64 0) ((nm l).map fun x=>.int .i64 x)=.tuple #[.int .i64 ((nm l).getD 0),.bool (nm l).isSome]:=by
 cases nm l <;> rfl
theorem Z6O (w:World)(ab:Nat)(i0 i1 i2:Value)(nb n:Nat)(nm:List UInt8→Option Int)(pl:Int)(s:ByteArray)(h:AS w ab i0 i1 i2 nb n nm pl)(hs:s.size≤1000000) :
  Calls Tryz.prog 109 #[.pointer (some ⟨ab,0,none⟩),.string s] w fun e w'=>e=.returned (.bool (nm s.data.toList).isSome)∧w'=w:=by
 have hkey:keyOf Tryz.prog 9 (.string s)=some (.string s.data.toList):=keyOf_string_mk Tryz.underlying9 (by unfold maxLen;omega)
 have hr:(Instr.lookup 119 (.map (some nb)) (.string s) true).run Tryz.prog w=.ok (.tuple #[.int .i64 ((nm s.data.toList).getD 0),.bool (nm s.data.toList).isSome]) w:=by
  rw [MapAt.look h.nms strK Tryz.underlying119 (zeroIntB _) hkey true,name_look]
 have c3:=h.c3
 clear h hkey
 go_enter Tryz.func109,Tryz.ntmps109
 go_wp2
 go_ret
 exact ⟨rfl,rfl⟩
def nmbF (nm:List UInt8→Option Int) (pl:Int) (l:List Trm) (lo hi:Int):Option Int:=(valF nm pl 0 l).bind fun z=>if z<lo∨hi<z then none else some z
def nmbE (o:Option Int) (line:Int):Ending:=match o with
 | some z=>.returned (.int .i64 z)
 | none=>faultE 6 line
theorem Z1y (w:World)(l0 p0:Int)(lb:ByteArray)(tk:Int)(nm:ByteArray)(v:Value)(cd:Int)(kd:Value)(sz:Int):∃ W,w.alloc (.cells #[.int .i64 l0,.int .i64 p0,.string lb,.int .i64 tk,.string nm,v,.int .u8 cd,kd,.int .i64 sz] 130)=W∧Below w.heap.size w W∧W.heap.size=w.heap.size+1∧SS W w.heap.size l0 p0 lb tk nm v cd kd sz:=by
 have hh:=heap_alloc_new w (.cells #[.int .i64 l0,.int .i64 p0,.string lb,.int .i64 tk,.string nm,v,.int .u8 cd,kd,.int .i64 sz] 130)
 refine ⟨_,rfl,(Below.refl _ _).alloc (Nat.le_refl _) _,by simp,?_⟩
 have hc:∀ j u,#[.int .i64 l0,.int .i64 p0,.string lb,.int .i64 tk,.string nm,v,.int .u8 cd,kd,.int .i64 sz][j]?=some u→(w.alloc (.cells #[.int .i64 l0,.int .i64 p0,.string lb,.int .i64 tk,.string nm,v,.int .u8 cd,kd,.int .i64 sz] 130)).cell? ⟨w.heap.size,j,none⟩=some u:=fun j u hu=>by rw [cell_of_row _ _ _ _ _ (0,0) hh];exact hu
 exact ⟨hc 0 _ rfl,hc 1 _ rfl,hc 2 _ rfl,hc 3 _ rfl,hc 4 _ rfl,hc 5 _ rfl,hc 6 _ rfl,hc 7 _ rfl,hc 8 _ rfl,fun j=>frozen_of_row _ _ _ _ _ hh,by simp⟩
theorem Z3Q (w:World)(ab:Nat)(i0 i1 i2:Value)(nb n:Nat)(nm:List UInt8→Option Int)(pl:Int)(base:Nat)(l:List Trm)(l0 p0:Int)(lb:ByteArray)(tk:Int)(nmS:ByteArray)(va:Option Addr)(vn vc:Nat)(cd:Int)(ka:Option Addr)(kn kc:Nat)(sz:Int)(xa:Option Addr)(xn xc:Nat)(lo hi:Int)(h:AS w ab i0 i1 i2 nb n nm pl)(hrow:w.ownsRow base 261 4 (.slice xa xn xc) l.length (Z0i l))(hl:l.length≤1000000)(hs:∀ t∈l,t.name.size≤1000000)(hv:∀ t∈l,-1000000≤trmN nm p0 t∧trmN nm p0 t≤1000000) :
  Calls Tryz.prog 171 #[.pointer (some ⟨ab,0,none⟩),.agg #[.int .i64 l0,.int .i64 p0,.string lb,.int .i64 tk,.string nmS,.slice va vn vc,.int .u8 cd,.slice ka kn kc,.int .i64 sz],.slice xa xn xc,.int .i64 lo,.int .i64 hi] w fun e w'=>e=nmbE (nmbF nm p0 l lo hi) l0∧Below w.heap.size w w':=by
 obtain ⟨W,hW,hBW,hWz,hSS⟩:=Z1y w l0 p0 lb tk nmS (.slice va vn vc) cd (.slice ka kn kc) sz
 have hA:=h.below hBW
 have HV:=Z0a (Z7I W.drew base nb n nm p0 (.slice xa xn xc) l (MapAt.at1B hA.nms rfl) (Z2r (Z0q hrow hBW) (fun _ _=>rfl)) hl hs hv)
 have c3:=hA.c3
 have s0:=hSS.c0
 have s1:=hSS.c1
 have hab:=hA.lt
 have hwl:w.heap.size<W.heap.size:=by omega
 have HB:=Z0a hBW
 unfold nmbF
 obtain ⟨O,hO⟩:∃ O,valF nm p0 0 l=O:=⟨_,rfl⟩
 rw [hO] at HV ⊢
 clear h hrow hl hs hv hBW hSS hA hO
 cases O with
 | none =>
  have HVV:Hid (Calls Tryz.prog 218 #[.slice xa xn xc,.map (some nb),.int .i64 p0] W.drew fun e w'=>e=.returned (.tuple #[.int .i64 0,.bool false])∧Below W.heap.size W w'):=HV.out.mono fun e w' ⟨h1,h2⟩=>⟨h1,⟨h2.os,h2.tape,h2.output,h2.size,h2.block⟩⟩
  clear HV
  go_enter Tryz.func171,Tryz.ntmps171
  go_wp2_with fail
  go_region_held3 (fun w'=>w'.cell? ⟨ab,3,none⟩=some (.map (some nb))∧w'.cell? ⟨w.heap.size,1,none⟩=some (.int .i64 p0)) (go_keep) (first | (go_at_call 218;refine HVV.out.mono ?_;rintro e w1 ⟨rfl,hB1⟩;have d3:=(World.cell?_of_block (a:=⟨ab,3,none⟩) (hB1.block _ hab)).trans c3;have e0:=(World.cell?_of_block (a:=⟨w.heap.size,0,none⟩) (hB1.block _ hwl)).trans s0;have e1:=(World.cell?_of_block (a:=⟨w.heap.size,1,none⟩) (hB1.block _ hwl)).trans s1;have HB1:=Z0a (HB.out.trans (hB1.mono HB.out.size));clear hB1))
  all_goals
   go_wp2
   exact ⟨rfl,rfl,HB1.out⟩
 | some z =>
  have HVV:Hid (Calls Tryz.prog 218 #[.slice xa xn xc,.map (some nb),.int .i64 p0] W.drew fun e w'=>e=.returned (.tuple #[.int .i64 z,.bool true])∧Below W.heap.size W w'):=HV.out.mono fun e w' ⟨h1,h2⟩=>⟨h1,⟨h2.os,h2.tape,h2.output,h2.size,h2.block⟩⟩
  clear HV
  have hcase:z<lo∨(¬ z<lo∧hi<z)∨(¬ z<lo∧¬ hi<z):=by omega
  rcases hcase with h1 | ⟨h1,h2⟩ | ⟨h1,h2⟩
  ·have hnn:(Option.some z).bind (fun z=>if z<lo∨hi<z then none else some z)=none:=if_pos (.inl h1)
   rw [hnn]
   clear hnn
   go_enter Tryz.func171,Tryz.ntmps171
   go_wp2_with fail
   go_region_held3 (fun w'=>w'.cell? ⟨ab,3,none⟩=some (.map (some nb))∧w'.cell? ⟨w.heap.size,1,none⟩=some (.int .i64 p0)) (go_keep) (first | (go_at_call 218;refine HVV.out.mono ?_;rintro e w1 ⟨rfl,hB1⟩;have d3:=(World.cell?_of_block (a:=⟨ab,3,none⟩) (hB1.block _ hab)).trans c3;have e0:=(World.cell?_of_block (a:=⟨w.heap.size,0,none⟩) (hB1.block _ hwl)).trans s0;have e1:=(World.cell?_of_block (a:=⟨w.heap.size,1,none⟩) (hB1.block _ hwl)).trans s1;have HB1:=Z0a (HB.out.trans (hB1.mono HB.out.size));clear hB1))
   all_goals
    go_wp2
    exact ⟨rfl,rfl,HB1.out⟩
  ·have hnn:(Option.some z).bind (fun z=>if z<lo∨hi<z then none else some z)=none:=if_pos (.inr h2)
   rw [hnn]
   clear hnn
   go_enter Tryz.func171,Tryz.ntmps171
   go_wp2_with fail
   go_region_held3 (fun w'=>w'.cell? ⟨ab,3,none⟩=some (.map (some nb))∧w'.cell? ⟨w.heap.size,1,none⟩=some (.int .i64 p0)) (go_keep) (first | (go_at_call 218;refine HVV.out.mono ?_;rintro e w1 ⟨rfl,hB1⟩;have d3:=(World.cell?_of_block (a:=⟨ab,3,none⟩) (hB1.block _ hab)).trans c3;have e0:=(World.cell?_of_block (a:=⟨w.heap.size,0,none⟩) (hB1.block _ hwl)).trans s0;have e1:=(World.cell?_of_block (a:=⟨w.heap.size,1,none⟩) (hB1.block _ hwl)).trans s1;have HB1:=Z0a (HB.out.trans (hB1.mono HB.out.size));clear hB1))
   all_goals
    go_wp2
    exact ⟨rfl,rfl,HB1.out⟩
  ·have hnn:(Option.some z).bind (fun z=>if z<lo∨hi<z then none else some z)=some z:=if_neg (fun e=>e.elim h1 h2)
   rw [hnn]
   clear hnn
   go_enter Tryz.func171,Tryz.ntmps171
   go_wp2_with fail
   go_region_held3 (fun w'=>w'.cell? ⟨ab,3,none⟩=some (.map (some nb))∧w'.cell? ⟨w.heap.size,1,none⟩=some (.int .i64 p0)) (go_keep) (first | (go_at_call 218;refine HVV.out.mono ?_;rintro e w1 ⟨rfl,hB1⟩;have d3:=(World.cell?_of_block (a:=⟨ab,3,none⟩) (hB1.block _ hab)).trans c3;have e0:=(World.cell?_of_block (a:=⟨w.heap.size,0,none⟩) (hB1.block _ hwl)).trans s0;have e1:=(World.cell?_of_block (a:=⟨w.heap.size,1,none⟩) (hB1.block _ hwl)).trans s1;have HB1:=Z0a (HB.out.trans (hB1.mono HB.out.size));clear hB1))
   all_goals
    go_wp2
    go_ret
    exact ⟨rfl,HB1.out⟩
theorem Z6n (w:World)(base b2:Nat)(ty:TypeId)(v x:Value)(n m:Nat)(xs ys:List Value)(hown:w.ownsRow base 9 1 v n xs)(hx:w.ownsRow b2 9 1 x m ys)(h1:∀ u∈ys,u.oneCell'=true)(hn:n+m≤4000000)(hb:base≤w.heap.size) :
  ∃ v' w',(Builtin.append_ #[22,22] ty #[v,x]).run Tryz.prog w=.ok v' w'∧w'.ownsRow base 9 1 v' (n+m) (xs++ys)∧w.grownBy w' v.ownBlock:=by
 obtain ⟨i,hi,hz0,hz1,hz2⟩:=info_parts Tryz.infoStrB
 have hc:∀ g,x.ownBlock=some g→∀ j u,ys[j]?=some u→w.cell? ((⟨g,0,none⟩:Addr).add j)=some u:=fun g hg=>hx.cells hg
 obtain ⟨hl,⟨rfl,rfl⟩ | ⟨g,cap,cur,rfl,hg,hh,h3,h4,h5,h6⟩⟩:=hx
 ·have hy:ys=[]:=List.eq_nil_of_length_eq_zero (by simpa using hl)
  subst hy
  have hown2:=hown
  obtain ⟨hl2,⟨rfl,rfl⟩ | ⟨g,cap,cur,rfl,hg,hh,h3,h4,h5,h6⟩⟩:=hown
  ·refine ⟨.slice none 0 0,w,?_,by simpa using hown2,⟨rfl,rfl,rfl,Nat.le_refl _,fun _ _ _=>rfl⟩⟩
   simp [Builtin.append_,run_underlying Tryz.underlying22,sizeOf,typeInfo,hi,Builtin.lenOf,Builtin.firstCells]
  ·refine ⟨.slice (some ⟨g,0,none⟩) n cap,w,?_,by simpa using hown2,⟨rfl,rfl,rfl,Nat.le_refl _,fun _ _ _=>rfl⟩⟩
   simp [Builtin.append_,run_underlying Tryz.underlying22,sizeOf,typeInfo,hi,Builtin.lenOf,Builtin.firstCells,storeCells,h3]
 ·obtain ⟨v',w',r0,r1,r2,_⟩:=run_append_own_at (P:=Tryz.prog) w base 22 ty 9 i _ 1 16 Tryz.underlying22 hi hz0 hz1 hz2 rfl (by decide) v n xs hown ⟨g,0,none⟩ m cap ys hl (hc g rfl) h1 (by unfold maxLen;omega) (by omega) hb
  exact ⟨v',w',r0,r1,r2⟩
theorem Z2H {ops:Array Oper}{rest:List Oper}{o:Oper}{a:Act}{Q:Exit→Act→World→Prop}(w:World)(hgd:o.guard=none)(s x:Operand)
  (ho:o.op=.call { callee:=.builtin .append,args:=#[s,x],argTypes:=#[22,22] }) (base b2:Nat) (v y:Value) (n m:Nat) (xs ys:List Value) (hs:a.eval s=v) (hx:a.eval x=y) (hown:w.ownsRow base 9 1 v n xs) (hy:w.ownsRow b2 9 1 y m ys) (h1:∀ u∈ys,u.oneCell'=true) (hn:n+m≤4000000) (hb:base≤w.heap.size)
  (h:∀ v' w',w'.ownsRow base 9 1 v' (n+m) (xs++ys)→w.grownBy w' v.ownBlock→wpList Tryz.prog ops Q rest (a.put o.dst v') w') :
  wpList Tryz.prog ops Q (o :: rest) a w:=by
 refine wpList_plain hgd fun K hK=>?_
 obtain ⟨v',w',hr,h2,h3⟩:=Z6n w base b2 o.type v y n m xs ys hown hy h1 hn hb
 unfold Oper.wp execOp
 simp only [ho,resolve,invoke,builtin,Sem.run_bind,Sem.run_pure,Result.andThen_ok,List.map_toArray,List.map_cons,List.map_nil,hs,hx,hr]
 exact hK _ _ (h v' w' h2 h3)
theorem Z5m {ops:Array Oper}{rest:List Oper}{o:Oper}{a:Act}{Q:Exit→Act→World→Prop}(w:World)(hgd:o.guard=none)(s x:Operand)(t1 t2:TypeId)
  (ho:o.op=.call { callee:=.builtin .append,args:=#[s,x],argTypes:=#[t1,t2] }) (vs vx:Value) (hs:a.eval s=vs) (hx:a.eval x=vx) (v:Value) (w':World) (hr:∀ ty,(Builtin.append_ #[t1,t2] ty #[vs,vx]).run Tryz.prog w=.ok v w')
  (h:wpList Tryz.prog ops Q rest (a.put o.dst v) w') :
  wpList Tryz.prog ops Q (o :: rest) a w:=by
 refine wpList_plain hgd fun K hK=>?_
 unfold Oper.wp execOp
 simp only [ho,resolve,invoke,builtin,Sem.run_bind,Sem.run_pure,Result.andThen_ok,List.map_toArray,List.map_cons,List.map_nil,hs,hx,hr]
 exact hK _ _ h
theorem strV_one (l:List ByteArray):∀ u∈strV l,u.oneCell'=true:=by
 intro u hu
 simp only [strV,List.mem_map] at hu
 obtain ⟨b,_,rfl⟩:=hu
 rfl
theorem growStr_any (n:Nat)(w:World)(hn:n≤4000000) :
  Calls Tryz.prog 252 #[.slice none 0 0,.int .i64 (n:Int)] w fun e w'=>∃ v,e=.returned v∧w'.ownsRow w.heap.size 9 1 v 0 []∧Below w.heap.size w w':=by
 have hni:(n:Int)≤4000000:=by omega
 by_cases h0:n=0
 ·subst h0
  go_enter Tryz.func252,Tryz.ntmps252
  go_wp2
  go_ret
  exact ⟨_,rfl,World.ownsRow_nil _ _ _ _,Below.refl _ _⟩
 ·have h0i:(0:Int)<(n:Int):=by omega
  obtain ⟨i,hi,hz0,hz1,hz2⟩:=info_parts Tryz.infoStrB
  have hrz:∀ ty,(Builtin.append_ #[22,3] ty #[.slice none 0 0,.int .i64 (n:Int)]).run Tryz.prog w=.ok (.slice (some ⟨w.heap.size,0,none⟩) n (grownCap w n 0 9)) (w.drew.alloc (.cells (([]:List Value).toArray++Builtin.zeroCells (Value.string ⟨#[]⟩).cells n++Builtin.zeroCells (Value.string ⟨#[]⟩).cells (grownCap w n 0 9-n)) 9)):=fun ty=>by
   have h:=Lib.run_append_grow_zeros w 22 3 ty 9 i _ .i64 .i64 Tryz.underlying22 Tryz.underlying3 hi hz0 none 0 0 [] (run_firstCells_none w.drew i.size 0 0 0) n (by omega) (by omega) (by omega) (by omega) (by rw [hz2];omega) (by rw [hz2];unfold Builtin.nextslicecap;rw [if_pos (by omega)];omega)
   rw [Nat.zero_add] at h
   exact h
  have hge:=grownCap_ge w n 0 9
  have hcm:grownCap w n 0 9≤maxLen:=grownCap_le_maxLen w n 0 9 (by unfold maxLen;omega)
  obtain ⟨G,hG⟩:∃ G,grownCap w n 0 9=G:=⟨_,rfl⟩
  rw [hG] at hrz hge hcm
  have hGi:(G:Int)≤9223372036854775807:=by unfold maxLen at hcm;omega
  have hown:(w.drew.alloc (.cells (([]:List Value).toArray++Builtin.zeroCells (Value.string ⟨#[]⟩).cells n++Builtin.zeroCells (Value.string ⟨#[]⟩).cells (G-n)) 9)).ownsRow w.heap.size 9 1 (.slice (some ⟨w.heap.size,0,none⟩) 0 G) 0 []:=by
   refine ⟨rfl,.inr ⟨w.heap.size,G,_,rfl,Nat.le_refl _,heap_alloc_new w.drew _,Nat.zero_le _,hcm,?_,by simp⟩⟩
   simp only [Array.size_append,size_zeroCells]
   simp [Value.cells]
   omega
  have hBX:Below w.heap.size w (w.drew.alloc (.cells (([]:List Value).toArray++Builtin.zeroCells (Value.string ⟨#[]⟩).cells n++Builtin.zeroCells (Value.string ⟨#[]⟩).cells (G-n)) 9)):=(Below.refl _ _).drew.alloc (Nat.le_refl _) _
  obtain ⟨X,hX⟩:∃ X,w.drew.alloc (.cells (([]:List Value).toArray++Builtin.zeroCells (Value.string ⟨#[]⟩).cells n++Builtin.zeroCells (Value.string ⟨#[]⟩).cells (G-n)) 9)=X:=⟨_,rfl⟩
  rw [hX] at hown hBX
  have hrz2:∀ ty,(Builtin.append_ #[22,3] ty #[.slice none 0 0,.int .i64 (n:Int)]).run Tryz.prog w=.ok (.slice (some ⟨w.heap.size,0,none⟩) n G) X:=fun ty=>by rw [←hX];exact hrz ty
  have HO:=Z0a (And.intro hown hBX)
  have HRZ:=Z0a hrz2
  clear hown hG hrz hrz2 hBX hX
  go_enter Tryz.func252,Tryz.ntmps252
  go_wp2_with (at_builtin;refine Z5m _ rfl _ _ 22 3 rfl (.slice none 0 0) (.int .i64 (n:Int)) rfl rfl _ _ HRZ.out ?_)
  go_ret
  exact ⟨_,rfl,HO.out⟩
theorem concat_any (w:World)(sb b1 b2:Nat)(v1 v2:Value)(l1 l2:List ByteArray)(c0:w.cell? ⟨sb,0,none⟩=some v1)(c1:w.cell? ⟨sb,1,none⟩=some v2)(r1:w.ownsRow b1 9 1 v1 l1.length (strV l1))(r2:w.ownsRow b2 9 1 v2 l2.length (strV l2))(hn:l1.length+l2.length≤4000000) :
  Calls Tryz.prog 214 #[.slice (some ⟨sb,0,none⟩) 2 2] w fun e w'=>∃ v,e=.returned v∧w'.ownsRow w.heap.size 9 1 v (l1++l2).length (strV (l1++l2))∧Below w.heap.size w w':=by
 obtain ⟨a1,k1,rfl⟩:=Z0A r1
 obtain ⟨a2,k2,rfl⟩:=Z0A r2
 obtain ⟨N1,hN1⟩:∃ N1,l1.length=N1:=⟨_,rfl⟩
 obtain ⟨N2,hN2⟩:∃ N2,l2.length=N2:=⟨_,rfl⟩
 rw [hN1] at c0 r1 hn
 rw [hN2] at c1 r2 hn
 obtain ⟨N,hN⟩:∃ N:Nat,N1+N2=N:=⟨_,rfl⟩
 have hNi:(N1:Int)+(N2:Int)=(N:Int):=by omega
 have h1i:(N1:Int)≤4000000:=by omega
 have hNb:(N:Int)≤4000000:=by omega
 have HG:=Z0a (growStr_any N w (by omega))
 have HR1:=Z0a r1
 have HR2:=Z0a r2
 have hsb:sb<w.heap.size:=World.block_lt_of_cell? _ _ c0
 have HL:Hid ((l1++l2).length=N1+N2):=by
  show (l1++l2).length=N1+N2
  rw [List.length_append,hN1,hN2]
 have HH:=Z0a (And.intro hN (And.intro hN1 hN2))
 clear r1 r2 hN1 hN2 hN
 go_enter Tryz.func214,Tryz.ntmps214
 go_wp2_with fail
 refine wp_loop_rounds 3 ?_
 rw [rounds_succ]
 go_wp2_with fail
 rw [rounds_succ]
 go_wp2_with fail
 rw [rounds_succ]
 go_wp2_with fail
 refine HG.out.mono ?_
 rintro e w1 ⟨v,rfl,hv,hB1⟩
 obtain ⟨va,vn,vc,rfl⟩:=Z0E hv
 have d0:=(World.cell?_of_block (a:=⟨sb,0,none⟩) (hB1.block sb hsb)).trans c0
 have d1:=(World.cell?_of_block (a:=⟨sb,1,none⟩) (hB1.block sb hsb)).trans c1
 have HV:=Z0a (And.intro hv hB1)
 have hz1:=hB1.size
 have HQ1:=Z0a (Z0q HR1.out hB1)
 clear hv hB1 c0 c1
 go_wp2_with fail
 refine wp_loop_rounds 3 ?_
 rw [rounds_succ]
 go_wp2_with (
  at_builtin
  refine Z2H _ rfl _ _ rfl w.heap.size b1 (.slice va vn vc) (.slice a1 N1 k1) 0 N1 [] (strV l1) rfl rfl HV.out.1 HQ1.out (strV_one _) (by omega) hz1 ?_
  intro v' w2 hown hgr
  obtain ⟨xa,xn,xc,ev⟩:=Z0E hown
  have hB2:Below w.heap.size w w2:=HV.out.2.grown hgr hz1 (fun k hk=>(HV.out.1.lt k hk).1)
  have e1:=(World.cell?_of_block (a:=⟨sb,1,none⟩) (hgr.block sb (Nat.lt_of_lt_of_le hsb hz1) (fun e=>by have:=(HV.out.1.lt sb e.symm).1;omega))).trans d1
  have HO:=Z0a (And.intro hown hB2)
  have HQ2:=Z0a (Z0q HR2.out hB2)
  have hz2:=hB2.size
  subst ev
  clear hown hgr hB2)
 rw [rounds_succ]
 go_wp2_with (
  at_builtin
  refine Z2H _ rfl _ _ rfl w.heap.size b2 (.slice xa xn xc) (.slice a2 N2 k2) (0+N1) N2 ([]++strV l1) (strV l2) rfl rfl HO.out.1 HQ2.out (strV_one _) (by omega) hz2 ?_
  intro v'' w3 hown hgr
  obtain ⟨ya,yn,yc,ev⟩:=Z0E hown
  have hB3:Below w.heap.size w w3:=HO.out.2.grown hgr hz2 (fun k hk=>(HO.out.1.lt k hk).1)
  have HP:=Z0a (And.intro hown hB3)
  subst ev
  clear hown hgr hB3)
 rw [rounds_succ]
 go_wp2
 go_ret
 refine ⟨_,rfl,?_,HP.out.2⟩
 have:=HP.out.1
 rw [Nat.zero_add,List.nil_append] at this
 rw [HL.out]
 simpa [strV] using this
def longN (s:ByteArray):Bool:=decide (8<s.size)
def cuF (nm:List UInt8→Option Int) (lb:ByteArray) (tk:Nat) (nmS:ByteArray) (es:List (List Trm)):Bool :=
 !((Z0O lb tk nmS++Z1f es).any longN) && (!Z1D tk || !((Z1f es).any fun s=>!decide (s=lb) && !(nm s.data.toList).isSome))
def okE (b:Bool) (n line:Int):Ending:=if b then .returned (.tuple #[]) else faultE n line
theorem Z54 (l:List ByteArray)(j:Nat)(h:j<l.length):(strV l)[j]?=some (.string l[j]):=by
 unfold strV
 rw [List.getElem?_map,List.getElem?_eq_getElem h]
 rfl
theorem toList_inj {a b:ByteArray}(h:a.toList=b.toList):a=b:=by
 rw [ByteArray.toList_eq,ByteArray.toList_eq] at h
 cases a
 cases b
 simp at h
 simp [h]
theorem Z01 {w:World}{base:Nat}{e:TypeId}{size n m c:Nat}{a:Option Addr}{v:Value}{xs:List Value}(h:w.ownsRow base e size v n xs)(hv:v=.slice a m c):m=n:=by
 obtain ⟨x,y,e⟩:=Z0A h
 rw [hv] at e
 cases e
 rfl
theorem Z12 {w:World}{base e size n m c:Nat}{a:Option Addr}{xs:List Value}{j:Nat}{u:Value}(h:w.ownsRow base e size (.slice a m c) n xs)(hn:0<n)(hu:xs[j]?=some u):∃ g,a=some ⟨g,0,none⟩∧w.cell? ⟨g,j,none⟩=some u:=by
 obtain ⟨g,cap,ev⟩:=Z25 h hn
 cases ev
 exact ⟨g,rfl,(Z3c h).2 j u hu⟩
theorem cuF_long {nm:List UInt8→Option Int}{lb:ByteArray}{tk:Nat}{nmS:ByteArray}{es:List (List Trm)}(h:(Z0O lb tk nmS++Z1f es).any longN=true):cuF nm lb tk nmS es=false:=by
 unfold cuF
 rw [h]
 rfl
theorem cuF_free {nm:List UInt8→Option Int}{lb:ByteArray}{tk:Nat}{nmS:ByteArray}{es:List (List Trm)}(h:(Z0O lb tk nmS++Z1f es).any longN=false)(h2:Z1D tk=false):cuF nm lb tk nmS es=true:=by
 unfold cuF
 rw [h,h2]
 rfl
theorem cuF_once {nm:List UInt8→Option Int}{lb:ByteArray}{tk:Nat}{nmS:ByteArray}{es:List (List Trm)}(h:(Z0O lb tk nmS++Z1f es).any longN=false)(h2:Z1D tk=true):cuF nm lb tk nmS es = !((Z1f es).any fun s=>!decide (s=lb) && !(nm s.data.toList).isSome):=by
 unfold cuF
 rw [h,h2]
 simp
theorem Z02 (w:World)(ab:Nat)(i0 i1 i2:Value)(nb n:Nat)(nm:List UInt8→Option Int)(pl:Int)(base:Nat)(es:List (List Trm))(l0 p0:Int)(lb:ByteArray)(tk:Nat)(nmS:ByteArray)(va:Option Addr)(vn vc:Nat)(cd:Int)(ka:Option Addr)(kn kc:Nat)(sz:Int)(h:AS w ab i0 i1 i2 nb n nm pl)(hv:VAt w base (.slice va vn vc) es)(hn:es.length≤1000000)(hc:cntT es≤1000000)(hs:∀ s∈Z1f es,s.size≤1000000) :
  Calls Tryz.prog 168 #[.pointer (some ⟨ab,0,none⟩),.agg #[.int .i64 l0,.int .i64 p0,.string lb,.int .i64 (tk:Int),.string nmS,.slice va vn vc,.int .u8 cd,.slice ka kn kc,.int .i64 sz]] w fun e w'=>e=okE (cuF nm lb tk nmS es) 3 l0∧Below w.heap.size w w':=by
 obtain ⟨W,hW,hBW,hWz,hSS⟩:=Z1y w l0 p0 lb (tk:Int) nmS (.slice va vn vc) cd (.slice ka kn kc) sz
 have HG:=Z0a (fun w'=>given_any w' l0 p0 lb tk nmS va vn vc cd ka kn kc sz)
 have HU:=Z0a (fun w' (hb:Below w.heap.size w w')=>used_any w' base es l0 p0 lb (tk:Int) nmS va vn vc cd ka kn kc sz (hv.below hb) hn hc)
 have HD:=Z0a (fun w'=>Z7p w' l0 p0 lb tk nmS va vn vc cd ka kn kc sz)
 have HSB:Hid (∀ w',Below W.heap.size W w'→(w'.cell? ⟨w.heap.size,0,none⟩=some (.int .i64 l0)∧w'.cell? ⟨w.heap.size,1,none⟩=some (.int .i64 p0)∧w'.cell? ⟨w.heap.size,2,none⟩=some (.string lb)∧w'.cell? ⟨w.heap.size,3,none⟩=some (.int .i64 (tk:Int))∧w'.cell? ⟨w.heap.size,4,none⟩=some (.string nmS)∧w'.cell? ⟨w.heap.size,5,none⟩=some (.slice va vn vc)∧w'.cell? ⟨w.heap.size,6,none⟩=some (.int .u8 cd)∧w'.cell? ⟨w.heap.size,7,none⟩=some (.slice ka kn kc)∧w'.cell? ⟨w.heap.size,8,none⟩=some (.int .i64 sz))):=fun w' hb=>by
  have e:=hb.block w.heap.size (by omega)
  have hcc:∀ j,w'.cell? ⟨w.heap.size,j,none⟩=W.cell? ⟨w.heap.size,j,none⟩:=fun j=>World.cell?_of_block (a:=⟨w.heap.size,j,none⟩) e
  exact ⟨(hcc 0).trans hSS.c0,(hcc 1).trans hSS.c1,(hcc 2).trans hSS.c2,(hcc 3).trans hSS.c3,(hcc 4).trans hSS.c4,(hcc 5).trans hSS.c5,(hcc 6).trans hSS.c6,(hcc 7).trans hSS.c7,(hcc 8).trans hSS.c8⟩
 have HB:=Z0a hBW
 have HLU:Hid ((Z0O lb tk nmS).length+(Z1f es).length≤4000000):=by
  have h1:=Z6v es
  have h2:(Z0O lb tk nmS).length≤2:=by
   unfold Z0O
   rw [List.length_append]
   split <;> split <;> simp
  show _≤_
  omega
 have hBd:Below W.heap.size W W.drew:=(Below.refl _ _).drew
 have HKN:=Z0a (fun w' (hb:Below w.heap.size w w') s (hx:s∈Z1f es)=>Z6O w' ab i0 i1 i2 nb n nm pl s (h.below hb) (hs s hx))
 clear hBW hSS h hv hn hc hs
 go_enter Tryz.func168,Tryz.ntmps168
 go_wp2_with fail
 go_region_held3 (fun w'=>w'.cell? ⟨w.heap.size,0,none⟩=some (.int .i64 l0)∧w'.cell? ⟨w.heap.size,1,none⟩=some (.int .i64 p0)∧w'.cell? ⟨w.heap.size,2,none⟩=some (.string lb)∧w'.cell? ⟨w.heap.size,3,none⟩=some (.int .i64 (tk:Int))∧w'.cell? ⟨w.heap.size,4,none⟩=some (.string nmS)∧w'.cell? ⟨w.heap.size,5,none⟩=some (.slice va vn vc)∧w'.cell? ⟨w.heap.size,6,none⟩=some (.int .u8 cd)∧w'.cell? ⟨w.heap.size,7,none⟩=some (.slice ka kn kc)∧w'.cell? ⟨w.heap.size,8,none⟩=some (.int .i64 sz)) (first | exact HSB.out _ hBd | exact HSB.out _ hB1 | exact HSB.out _ hB2 | exact HSB.out _ (hB2.alloc hB2.size _) | exact HSB.out _ hB3)
  (first
   | (go_at_call 215;refine (HG.out W.drew).mono ?_;rintro e w1 ⟨v1,rfl,hr1,hb1⟩;obtain ⟨x1,y1,z1,rfl⟩:=Z0E hr1;have hB1:Below W.heap.size W w1:=⟨hb1.os,hb1.tape,hb1.output,hb1.size,hb1.block⟩;have HR1:=Z0a hr1;clear hr1 hb1)
   | (go_at_call 108;refine (HU.out w1 (HB.out.trans (hB1.mono HB.out.size))).mono ?_;rintro e w2 ⟨v2,rfl,hr2,hb2⟩;obtain ⟨x2,y2,z2,rfl⟩:=Z0E hr2;have hB2:Below W.heap.size W w2:=hB1.trans (hb2.mono hB1.size);have HR2:=Z0a (And.intro hr2 (Z0q HR1.out hb2));clear hr2 hb2)
   | (go_at_call 214;refine (concat_any _ w2.heap.size _ _ (.slice x1 y1 z1) (.slice x2 y2 z2) (Z0O lb tk nmS) (Z1f es) (by simp) (by simp) (HR2.out.2.alloc _) (HR2.out.1.alloc _) HLU.out).mono ?_;rintro e w3 ⟨v3,rfl,hr3,hb3⟩;obtain ⟨x3,y3,z3,ev3⟩:=Z0E hr3;have hB3:Below W.heap.size W w3:=(hB2.alloc hB2.size _).trans (hb3.mono (by have:=hB2.size;simp;omega));have HY3:=Z0a (Z01 hr3 ev3);have HR3:=Z0a hr3;subst ev3;clear hr3 hb3))
 all_goals
  have HB3:=Z0a (HB.out.trans (hB3.mono HB.out.size))
  obtain ⟨s0,s1,s2,s3,s4,s5,s6,s7,s8⟩:=HSB.out w3 hB3
  obtain ⟨L,hL⟩:∃ L,Z0O lb tk nmS++Z1f es=L:=⟨_,rfl⟩
  rw [hL] at HR3 HY3
  have hyl:(y3:Int)≤4000000:=by
   have:=HLU.out
   rw [←List.length_append,hL,← HY3.out] at this
   omega
  have HL:=Z0a hL
  have HSB2:Hid (∀ w',Below w3.heap.size w3 w'→(w'.cell? ⟨w.heap.size,0,none⟩=some (.int .i64 l0)∧w'.cell? ⟨w.heap.size,2,none⟩=some (.string lb))∧(w'.cell? ⟨w.heap.size,1,none⟩=some (.int .i64 p0)∧w'.cell? ⟨w.heap.size,3,none⟩=some (.int .i64 (tk:Int))∧w'.cell? ⟨w.heap.size,4,none⟩=some (.string nmS)∧w'.cell? ⟨w.heap.size,5,none⟩=some (.slice va vn vc)∧w'.cell? ⟨w.heap.size,6,none⟩=some (.int .u8 cd)∧w'.cell? ⟨w.heap.size,7,none⟩=some (.slice ka kn kc)∧w'.cell? ⟨w.heap.size,8,none⟩=some (.int .i64 sz))):=fun w' hb=>by
   obtain ⟨q0,q1,q2,q3,q4,q5,q6,q7,q8⟩:=HSB.out w' (hB3.trans (hb.mono hB3.size))
   exact ⟨⟨q0,q2⟩,q1,q3,q4,q5,q6,q7,q8⟩
  clear hB1 hB2 hB3 hBd HR1 HR2 HG HSB hL
  go_wp2_with fail
  go_loopw [15] (fun i wr=>∃ j:Nat,j≤y3∧i=.int .i64 j∧(L.take j).any longN=false∧wr=w3) (fun i _=>y3-(intOf i).toNat)
  case atStart=>exact ⟨0,Nat.zero_le _,rfl,rfl,rfl⟩
  case round =>
   obtain ⟨j,hj,rfl,hno,hw3⟩:=hrel
   subst hw3
   have HNO:=Z0a hno
   clear hno
   by_cases hlt:j<y3
   ·have hji:(j:Int)<(y3:Int):=by omega
    have hjl:j<L.length:=by rw [←HY3.out];exact hlt
    obtain ⟨g,cj⟩:∃ g,x3=some ⟨g,0,none⟩∧wr.cell? ⟨g,j,none⟩=some (.string L[j]):=Z12 HR3.out (by omega) (Z54 L j hjl)
    obtain ⟨rfl,cj⟩:=cj
    obtain ⟨x,hx⟩:∃ x,L[j]=x:=⟨_,rfl⟩
    rw [hx] at cj
    have HX:=Z0a hx
    clear hx
    by_cases h8:8<x.size
    ·have h8i:(8:Int)<(x.size:Int):=by omega
     go_wp2
     have hcu:cuF nm lb tk nmS es=false:=cuF_long (by
      rw [HL.out,List.any_eq_true]
      exact ⟨x,by rw [←HX.out];exact List.getElem_mem hjl,by unfold longN;simpa using h8⟩)
     exact ⟨rfl,by rw [hcu];rfl,HB3.out⟩
    ·have h8i:¬ (8:Int)<(x.size:Int):=by omega
     go_wp2
     go_roundw
     case rel=>exact ⟨j+1,by omega,by go_num,Z1g hjl HNO.out (by rw [HX.out];unfold longN;simpa using h8),by first | rfl | trivial⟩
     case measure=>simp [intOf];omega
   ·have hji:¬ (j:Int)<(y3:Int):=by omega
    have hnl:(Z0O lb tk nmS++Z1f es).any longN=false:=by
     have:=HNO.out
     rw [List.take_of_length_le (by rw [←HY3.out];omega)] at this
     rw [HL.out]
     exact this
    have HNL:=Z0a hnl
    clear hnl HNO HR3
    by_cases hat:Z1D tk=true
    ·rw [hat] at HD
     go_wp2_with (first
      | (go_at_call 216;refine (HD.out _).mono ?_;rintro e w4 ⟨rfl,hB4⟩;obtain ⟨⟨q0,q2⟩,q1,q3,q4,q5,q6,q7,q8⟩:=HSB2.out w4 hB4;have HB4:=Z0a hB4;clear hB4)
      | (go_at_call 108;refine (HU.out w4 (HB3.out.trans (HB4.out.mono HB3.out.size))).mono ?_;rintro e w5 ⟨v5,rfl,hr5,hb5⟩;obtain ⟨x5,y5,z5,ev5⟩:=Z0E hr5;have HY5:=Z0a (Z01 hr5 ev5);have hB35:=HB4.out.trans (hb5.mono HB4.out.size);obtain ⟨⟨t0,t2⟩,_⟩:=HSB2.out w5 hB35;have HB5:=Z0a (HB3.out.trans (hB35.mono HB3.out.size));have HR5:=Z0a hr5;subst ev5;clear hr5 hb5 hB35))
     obtain ⟨U,hU⟩:∃ U,Z1f es=U:=⟨_,rfl⟩
     have hcu:=cuF_once (nm:=nm) HNL.out hat
     rw [hU] at HR5 HY5 hcu
     have hy5l:(y5:Int)≤4000000:=by
      have:=HLU.out
      rw [hU,← HY5.out] at this
      omega
     have HKU:Hid (∀ s,s∈U→Calls Tryz.prog 109 #[.pointer (some ⟨ab,0,none⟩),.string s] w5 fun e w'=>e=.returned (.bool (nm s.data.toList).isSome)∧w'=w5):=fun s hx=>HKN.out w5 HB5.out s (by rw [hU];exact hx)
     have HCU:=Z0a hcu
     clear hcu hU HKN HU HD HSB2 q0 q1 q2 q3 q4 q5 q6 q7 q8 s0 s1 s2 s3 s4 s5 s6 s7 s8 hat HLU
     go_loopw [33] (fun i wz=>∃ j:Nat,j≤y5∧i=.int .i64 j∧(U.take j).any (fun s=>!decide (s=lb) && !(nm s.data.toList).isSome)=false∧wz=w5) (fun i _=>y5-(intOf i).toNat)
     case atStart=>exact ⟨0,Nat.zero_le _,rfl,rfl,rfl⟩
     case round =>
      obtain ⟨j,hj,rfl,hno,hw5⟩:=hrel
      subst hw5
      have HNO2:=Z0a hno
      clear hno
      by_cases hlt:j<y5
      ·have hji:(j:Int)<(y5:Int):=by omega
       have hjl:j<U.length:=by rw [←HY5.out];exact hlt
       obtain ⟨g,rfl,cj⟩:=Z12 HR5.out (by rw [←HY5.out];omega) (Z54 U j hjl)
       have hxU:U[j]∈U:=List.getElem_mem hjl
       have hstep:=fun hx=>Z1g (p:=fun s=>!decide (s=lb) && !(nm s.data.toList).isSome) hjl HNO2.out hx
       obtain ⟨x,hx⟩:∃ x,U[j]=x:=⟨_,rfl⟩
       rw [hx] at cj hxU hstep
       have HST:=Z0a hstep
       have HXU:=Z0a hxU
       clear hx hstep hxU HNO2
       by_cases hxl:x=lb
       ·subst hxl
        go_wp2
        go_roundw
        case rel=>exact ⟨j+1,by omega,by go_num,HST.out (by simp),by first | rfl | trivial⟩
        case measure=>simp [intOf];omega
       ·have hxt:¬ x.toList=lb.toList:=fun e=>hxl (toList_inj e)
        have hxb:(x.toList == lb.toList)=false:=by simpa using hxt
        cases hkn:(nm x.data.toList).isSome with
        | true =>
         have HKX:=Z0a (HKU.out x HXU.out)
         rw [hkn] at HKX
         go_wp2_with (go_at_call 109;refine HKX.out.mono ?_;rintro e w6 ⟨rfl,rfl⟩)
         go_roundw
         case rel=>exact ⟨j+1,by omega,by go_num,HST.out (by simp [hkn]),by first | rfl | trivial⟩
         case measure=>simp [intOf];omega
        | false =>
         have HKX:=Z0a (HKU.out x HXU.out)
         rw [hkn] at HKX
         go_wp2_with (go_at_call 109;refine HKX.out.mono ?_;rintro e w6 ⟨rfl,rfl⟩)
         have hcf:cuF nm lb tk nmS es=false:=by
          rw [HCU.out]
          have:(U.any fun s=>!decide (s=lb) && !(nm s.data.toList).isSome)=true:=by
           rw [List.any_eq_true]
           exact ⟨x,HXU.out,by simp [hkn,hxl]⟩
          rw [this]
          rfl
         exact ⟨rfl,by rw [hcf];rfl,HB5.out⟩
      ·have hji:¬ (j:Int)<(y5:Int):=by omega
       have hct:cuF nm lb tk nmS es=true:=by
        have:=HNO2.out
        rw [List.take_of_length_le (by rw [←HY5.out];omega)] at this
        rw [HCU.out,this]
        rfl
       have HCT:=Z0a hct
       clear hct
       go_wp2
       go_end0
       exact ⟨by rw [HCT.out];rfl,HB5.out⟩
    ·have hat2:Z1D tk=false:=by simpa using hat
     rw [hat2] at HD
     go_wp2_with (go_at_call 216;refine (HD.out _).mono ?_;rintro e w4 ⟨rfl,hB4⟩;have HB4:=Z0a (HB3.out.trans (hB4.mono HB3.out.size));clear hB4)
     exact bodyPost_ret (v:=.tuple #[]) (by simp [results,Tryz.results168]) rfl ⟨by rw [cuF_free HNL.out hat2];rfl,HB4.out⟩
def twI (nm:List UInt8→Option Int) (l:List ByteArray) (i:Nat):Bool:=(nm (l.getD i ⟨#[]⟩).data.toList).isSome || Lib.containsS (l.take i) (l.getD i ⟨#[]⟩)
def cgF (nm:List UInt8→Option Int) (n:Nat) (l:List ByteArray):Option Int:=if (List.range l.length).any (twI nm l)=true then some 4 else if 40<n+l.length then some 5 else none
def okO (o:Option Int) (line:Int):Ending:=match o with
 | none=>.returned (.tuple #[])
 | some n=>faultE n line
theorem Z5n {p:Nat→Bool}{j:Nat}(h1:(List.range j).any p=false)(h2:p j=false):(List.range (j+1)).any p=false:=by
 rw [List.range_succ,List.any_append,h1]
 simp [h2]
theorem row_cap {w:World}{base:Nat}{e:TypeId}{size n m c:Nat}{a:Option Addr}{v:Value}{xs:List Value}(h:w.ownsRow base e size v n xs)(hv:v=.slice a m c):m≤c∧c≤maxLen:=by
 obtain ⟨_,⟨rfl,e2⟩ | ⟨g,cap,cur,rfl,_,_,h3,h4,_⟩⟩:=h
 ·cases hv
  exact ⟨Nat.le_refl _,Nat.zero_le _⟩
 ·cases hv
  exact ⟨h3,h4⟩
theorem Z0T (w:World)(ab:Nat)(i0 i1 i2:Value)(nb n:Nat)(nm:List UInt8→Option Int)(pl:Int)(l0 p0:Int)(lb:ByteArray)(tk:Nat)(nmS:ByteArray)(va:Option Addr)(vn vc:Nat)(cd:Int)(ka:Option Addr)(kn kc:Nat)(sz:Int)(h:AS w ab i0 i1 i2 nb n nm pl)(hnn:n≤1000)(hs:∀ s∈Z0O lb tk nmS,s.size≤1000000) :
  Calls Tryz.prog 169 #[.pointer (some ⟨ab,0,none⟩),.agg #[.int .i64 l0,.int .i64 p0,.string lb,.int .i64 (tk:Int),.string nmS,.slice va vn vc,.int .u8 cd,.slice ka kn kc,.int .i64 sz]] w fun e w'=>e=okO (cgF nm n (Z0O lb tk nmS)) l0∧Below w.heap.size w w':=by
 obtain ⟨W,hW,hBW,hWz,hSS⟩:=Z1y w l0 p0 lb (tk:Int) nmS (.slice va vn vc) cd (.slice ka kn kc) sz
 have HG:=Z0a (given_any W l0 p0 lb tk nmS va vn vc cd ka kn kc sz)
 have q0:=hSS.c0
 have q1:=hSS.c1
 have q2:=hSS.c2
 have q3:=hSS.c3
 have q4:=hSS.c4
 have q5:=hSS.c5
 have q6:=hSS.c6
 have q7:=hSS.c7
 have q8:=hSS.c8
 have hl2:(Z0O lb tk nmS).length≤2:=by
  unfold Z0O
  rw [List.length_append]
  split <;> split <;> simp
 obtain ⟨U,hU⟩:∃ U,Z0O lb tk nmS=U:=⟨_,rfl⟩
 rw [hU] at HG hl2 hs ⊢
 have HKN:=Z0a (fun w' (hb:Below w.heap.size w w') s (hx:s∈U)=>Z6O w' ab i0 i1 i2 nb n nm pl s (h.below hb) (hs s hx))
 have HA:=Z0a (fun w' (hb:Below w.heap.size w w')=>h.below hb)
 have HB:=Z0a hBW
 have hni:(n:Int)≤1000:=by omega
 clear hBW hSS hU h hs
 go_enter Tryz.func169,Tryz.ntmps169
 go_wp2_with fail
 refine HG.out.mono ?_
 rintro e w1 ⟨v,rfl,hr,hb1⟩
 obtain ⟨x3,y3,z3,ev⟩:=Z0E hr
 have HY3:=Z0a (Z01 hr ev)
 have HR:=Z0a hr
 have hy2:(y3:Int)≤2:=by have:=Z01 hr ev;omega
 have r0:=(World.cell?_of_block (a:=⟨w.heap.size,0,none⟩) (hb1.block w.heap.size (by omega))).trans q0
 have HB1:=Z0a (HB.out.trans (hb1.mono HB.out.size))
 have HCAP:Hid (y3≤z3∧z3≤maxLen):=row_cap hr ev
 have hzc:=HCAP.out
 have hz1:(y3:Int)≤(z3:Int):=by omega
 have hz2:(z3:Int)≤9223372036854775807:=by have:=hzc.2;unfold maxLen at this;omega
 subst ev
 clear hr hb1 HG q0 q1 q2 q3 q4 q5 q6 q7 q8 hzc
 go_wp2_with fail
 go_loopw [11] (fun i wr=>∃ j:Nat,j≤y3∧i=.int .i64 j∧(List.range j).any (twI nm U)=false∧wr=w1) (fun i _=>y3-(intOf i).toNat)
 case atStart=>exact ⟨0,Nat.zero_le _,rfl,rfl,rfl⟩
 case round =>
  obtain ⟨j,hj,rfl,hno,hw⟩:=hrel
  subst hw
  have HNO:=Z0a hno
  clear hno
  by_cases hlt:j<y3
  ·have hji:(j:Int)<(y3:Int):=by omega
   have hjl:j<U.length:=by rw [←HY3.out];exact hlt
   obtain ⟨g,rfl,cj⟩:=Z12 HR.out (by rw [←HY3.out];omega) (Z54 U j hjl)
   have hxU:U[j]∈U:=List.getElem_mem hjl
   have hgd:U.getD j ⟨#[]⟩=U[j]:=by rw [List.getD_eq_getElem?_getD,List.getElem?_eq_getElem hjl];rfl
   have htw:twI nm U j=((nm (U[j]).data.toList).isSome || Lib.containsS (U.take j) U[j]):=by unfold twI;rw [hgd]
   obtain ⟨x,hx⟩:∃ x,U[j]=x:=⟨_,rfl⟩
   rw [hx] at cj hxU htw
   have HC:Hid (Calls Tryz.prog 217 #[.slice (some ⟨g,0,none⟩) j z3,.string x] wr fun e w'=>e=.returned (.bool (Lib.containsS (U.take j) x))∧w'=wr):=Tryz.slices_Contains_string g 0 j z3 U x wr (by omega) (by omega) (fun k hk=>by
    obtain ⟨g',e,c⟩:=Z12 HR.out (by rw [←HY3.out];omega) (Z54 U k hk)
    cases e
    rw [Nat.zero_add,c,List.getD_eq_getElem?_getD,List.getElem?_eq_getElem hk]
    rfl)
   have HKX:=Z0a (HKN.out wr HB1.out x hxU)
   have HTW:=Z0a htw
   have hjz:(j:Int)≤(z3:Int):=by omega
   clear hx hgd htw hxU
   cases hkn:(nm x.data.toList).isSome with
   | true =>
    rw [hkn] at HKX
    go_wp2_with (go_at_call 109;refine HKX.out.mono ?_;rintro e w6 ⟨rfl,rfl⟩)
    have hcg:cgF nm n U=some 4:=by
     unfold cgF
     rw [if_pos]
     rw [List.any_eq_true]
     exact ⟨j,List.mem_range.2 hjl,by rw [HTW.out];simp [hkn]⟩
    exact ⟨rfl,by rw [hcg];rfl,HB1.out⟩
   | false =>
    rw [hkn] at HKX
    cases hct:Lib.containsS (U.take j) x with
    | true =>
     rw [hct] at HC
     go_wp2_with (first | (go_at_call 109;refine HKX.out.mono ?_;rintro e w6 ⟨rfl,rfl⟩) | (go_at_call 217;refine HC.out.mono ?_;rintro e w7 ⟨rfl,rfl⟩))
     have hcg:cgF nm n U=some 4:=by
      unfold cgF
      rw [if_pos]
      rw [List.any_eq_true]
      exact ⟨j,List.mem_range.2 hjl,by rw [HTW.out];simp [hct]⟩
     exact ⟨rfl,by rw [hcg];rfl,HB1.out⟩
    | false =>
     rw [hct] at HC
     go_wp2_with (first | (go_at_call 109;refine HKX.out.mono ?_;rintro e w6 ⟨rfl,rfl⟩) | (go_at_call 217;refine HC.out.mono ?_;rintro e w7 ⟨rfl,rfl⟩))
     go_roundw
     case rel=>exact ⟨j+1,by omega,by go_num,Z5n HNO.out (by rw [HTW.out,hkn,hct];rfl),by first | rfl | trivial⟩
     case measure=>simp [intOf];omega
  ·have hji:¬ (j:Int)<(y3:Int):=by omega
   have hno:(List.range U.length).any (twI nm U)=false:=by
    have ej:j=U.length:=by rw [←HY3.out];omega
    rw [←ej]
    exact HNO.out
   have hAw:=HA.out wr HB1.out
   have c3:=hAw.c3
   have hlen:∀ ty,(Builtin.len_ #[119] ty #[.map (some nb)]).run Tryz.prog wr=.ok (.int .i64 (n:Int)) wr:=fun ty=>MapAt.len hAw.nms Tryz.underlying119 ty
   by_cases h40:40<n+y3
   ·have hcg:cgF nm n U=some 5:=by
     unfold cgF
     rw [hno,if_neg (by simp),if_pos (by rw [←HY3.out];exact h40)]
    have HCG:=Z0a hcg
    have h40i:(40:Int)<(n:Int)+(y3:Int):=by omega
    clear hno hAw hcg
    go_wp2
    exact ⟨rfl,by rw [HCG.out];rfl,HB1.out⟩
   ·have hcg:cgF nm n U=none:=by
     unfold cgF
     rw [hno,if_neg (by simp),if_neg (by rw [←HY3.out];exact h40)]
    have HCG:=Z0a hcg
    have h40i:¬ (40:Int)<(n:Int)+(y3:Int):=by omega
    clear hno hAw hcg
    go_wp2
    go_end0
    exact ⟨by rw [HCG.out];rfl,HB1.out⟩
end Go.Proofs.YthokdbcpkmcieaaGreatDoor
