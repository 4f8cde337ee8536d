/- Lay1 Lay2 Stm3 Expr -/
import Derived.Test.YthokdbcpkmcieaaGreatDoorS01
import Derived.Test.YthokdbcpkmcieaaGreatDoorRows
import Derived.WalkKit
import Derived.WalkSpells
import Derived.WalkLawsBesides
import Derived.OwnWalk
import Derived.OpenShut
import Derived.IntWalk
import Derived.Maps.AppendAt
import Derived.Test.YthokdbcpkmcieaaGreatDoorS04
import Derived.Test.YthokdbcpkmcieaaGreatDoorS02
import Derived.Test.YthokdbcpkmcieaaGreatDoorS16
import Derived.Test.YthokdbcpkmcieaaGreatDoorS06
set_option maxRecDepth 200000
set_option maxHeartbeats 8000000
namespace Go.Proofs.YthokdbcpkmcieaaGreatDoor
open Go Go.RowKit
def Z0u (l:List Int):List Value:=l.map fun x=>.int .u8 x
structure LS (w:World) (yb base:Nat) (code:Int) (add:List Int) (bh:Int) (wrong:Bool):Prop where
 c0:w.cell? ⟨yb,0,none⟩=some (.int .u8 code)
 c1:∃ a n c,w.cell? ⟨yb,1,none⟩=some (.slice a n c)∧w.ownsRow base 5 1 (.slice a n c) add.length (Z0u add)
 c2:w.cell? ⟨yb,2,none⟩=some (.int .u16 bh)
 c3:w.cell? ⟨yb,3,none⟩=some (.bool wrong)
 fz:∀ j,w.frozen? ⟨yb,j,none⟩=false
 lt:yb<base
 le:base≤w.heap.size
structure LGrow (w w':World) (base yb:Nat):Prop where
 os:w'.os=w.os
 tape:w'.tape=w.tape
 output:w'.output=w.output
 size:w.heap.size≤w'.heap.size
 block:∀ k,k<base→k≠yb→w'.heap[k]?=w.heap[k]?
theorem LGrow.refl (w:World)(base yb:Nat):LGrow w w base yb:=⟨rfl,rfl,rfl,Nat.le_refl _,fun _ _ _=>rfl⟩
theorem LGrow.trans {w w1 w2:World}{base yb:Nat}(h:LGrow w w1 base yb)(k:LGrow w1 w2 base yb):LGrow w w2 base yb :=
 ⟨k.os.trans h.os,k.tape.trans h.tape,k.output.trans h.output,Nat.le_trans h.size k.size,fun i h1 h2=>(k.block i h1 h2).trans (h.block i h1 h2)⟩
theorem LGrow.set {w w':World}{base yb:Nat}(h:LGrow w w' base yb)(j:Nat)(v:Value):LGrow w (w'.setCell ⟨yb,j,none⟩ v) base yb :=
 ⟨h.os,h.tape,h.output,by simpa [World.setCell] using h.size,fun k h1 h2=>by rw [Below.heap_setCell _ _ _ _ (by simpa using h2)];exact h.block k h1 h2⟩
theorem row_at {w w':World}{base:Nat}{e:TypeId}{size n:Nat}{v:Value}{xs:List Value}(h:w.ownsRow base e size v n xs)(hb:∀ j,v.ownBlock=some j→w'.heap[j]?=w.heap[j]?):w'.ownsRow base e size v n xs:=by
 obtain ⟨h1,h2 | ⟨g,cap,cur,rfl,hg,h3,h4⟩⟩:=h
 ·exact ⟨h1,.inl h2⟩
 ·exact ⟨h1,.inr ⟨g,cap,cur,rfl,hg,(hb g rfl).trans h3,h4⟩⟩
theorem LS.wrong3 {w:World}{yb base:Nat}{code:Int}{add:List Int}{bh:Int}{wr:Bool}(h:LS w yb base code add bh wr)(z:Bool):LS (w.setCell ⟨yb,3,none⟩ (.bool z)) yb base code add bh z:=by
 have hlt:=h.lt
 obtain ⟨a,n,c,k1,k2⟩:=h.c1
 refine ⟨?_,⟨a,n,c,?_,row_at k2 (fun j hj=>Below.heap_setCell _ _ _ _ (by have:=(k2.lt j hj).1;simp;omega))⟩,?_,World.cell?_setCell_same _ _ _ h.c3,fun j=>by simp [h.fz j],hlt,by simpa [World.setCell] using h.le⟩
 ·rw [World.cell?_setCell_other _ _ _ _ (by simp)];exact h.c0
 ·rw [World.cell?_setCell_other _ _ _ _ (by simp)];exact k1
 ·rw [World.cell?_setCell_other _ _ _ _ (by simp)];exact h.c2
theorem LS.code0 {w:World}{yb base:Nat}{code:Int}{add:List Int}{bh:Int}{wr:Bool}(h:LS w yb base code add bh wr)(z:Int):LS (w.setCell ⟨yb,0,none⟩ (.int .u8 z)) yb base z add bh wr:=by
 have hlt:=h.lt
 obtain ⟨a,n,c,k1,k2⟩:=h.c1
 refine ⟨World.cell?_setCell_same _ _ _ h.c0,⟨a,n,c,?_,row_at k2 (fun j hj=>Below.heap_setCell _ _ _ _ (by have:=(k2.lt j hj).1;simp;omega))⟩,?_,?_,fun j=>by simp [h.fz j],hlt,by simpa [World.setCell] using h.le⟩
 ·rw [World.cell?_setCell_other _ _ _ _ (by simp)];exact k1
 ·rw [World.cell?_setCell_other _ _ _ _ (by simp)];exact h.c2
 ·rw [World.cell?_setCell_other _ _ _ _ (by simp)];exact h.c3
def outB (n lo hi:Int):Bool:=decide (n<lo) || decide (hi<n)
theorem Z0U (w:World)(yb base:Nat)(code:Int)(add:List Int)(bh:Int)(wr:Bool)(n lo hi:Int)(h:LS w yb base code add bh wr) :
  Calls Tryz.prog 194 #[.pointer (some ⟨yb,0,none⟩),.int .i64 n,.int .i64 lo,.int .i64 hi] w fun e w'=>e=.returned (.tuple #[])∧LS w' yb base code add bh (wr || outB n lo hi)∧LGrow w w' base yb:=by
 have c3:=h.c3
 have f3:=h.fz 3
 have HL:=Z0a h
 have hyl:yb<w.heap.size:=Nat.lt_of_lt_of_le h.lt h.le
 clear h
 by_cases h1:n<lo
 ·have e:(wr || outB n lo hi)=true:=by simp [outB,h1]
  rw [e]
  go_enter Tryz.func194,Tryz.ntmps194
  go_wp2
  go_end0
  exact ⟨rfl,HL.out.wrong3 true,(LGrow.refl _ _ _).set _ _⟩
 ·by_cases h2:hi<n
  ·have e:(wr || outB n lo hi)=true:=by simp [outB,h2]
   rw [e]
   go_enter Tryz.func194,Tryz.ntmps194
   go_wp2
   go_end0
   exact ⟨rfl,HL.out.wrong3 true,(LGrow.refl _ _ _).set _ _⟩
  ·have e:(wr || outB n lo hi)=wr:=by simp [outB,h1,h2]
   rw [e]
   go_enter Tryz.func194,Tryz.ntmps194
   go_wp2
   go_end0
   exact ⟨rfl,HL.out,LGrow.refl _ _ _⟩
theorem Tryz.infoU8:(Tryz.prog.info? 5).map (fun i=>(i.zero,i.size,i.bytes))=some (some (.int .u8 0),1,1):=by kernel_rfl
theorem ls_added {w wn:World}{yb base:Nat}{code:Int}{add:List Int}{bh:Int}{wr:Bool}{a a':Option Addr}{n c n' c':Nat}{x:Int}{o:Obj}(h:LS w yb base code add bh wr)(hc:w.cell? ⟨yb,1,none⟩=some (.slice a n c))(hrow:w.ownsRow base 5 1 (.slice a n c) add.length (Z0u add))
  (hown:wn.ownsRow base 5 1 (.slice a' n' c') (add.length+1) (Z0u add ++ [.int .u8 x])) (hgr:(w.alloc o).grownBy wn (Value.slice a n c).ownBlock):LS (wn.setCell ⟨yb,1,none⟩ (.slice a' n' c')) yb base code (add ++ [x]) bh wr∧LGrow w (wn.setCell ⟨yb,1,none⟩ (.slice a' n' c')) base yb:=by
 have hlt:=h.lt
 have hle:=h.le
 have hz:=hgr.size
 simp at hz
 have lo:∀ j,j<base→wn.heap[j]?=w.heap[j]?:=fun j hj=>by
  rw [hgr.block j (by simp;omega) (fun e=>by have:=(hrow.lt j e.symm).1;omega),Below.heap_alloc _ _ _ (by omega)]
 have e1:=lo yb hlt
 have cc:wn.cell? ⟨yb,1,none⟩=some (.slice a n c):=(World.cell?_of_block (a:=⟨yb,1,none⟩) e1).trans hc
 refine ⟨⟨?_,⟨a',n',c',World.cell?_setCell_same _ _ _ cc,?_⟩,?_,?_,fun j=>?_,hlt,by simp [World.setCell];omega⟩,(show LGrow w wn base yb from ⟨hgr.os,hgr.tape,hgr.output,by omega,fun k h1 _=>lo k h1⟩).set _ _⟩
 ·rw [World.cell?_setCell_other _ _ _ _ (by simp)];exact (World.cell?_of_block (a:=⟨yb,0,none⟩) e1).trans h.c0
 ·have e:Z0u (add ++ [x])=Z0u add ++ [.int .u8 x]:=by simp [Z0u]
  rw [e,List.length_append]
  exact row_at hown (fun j hj=>Below.heap_setCell _ _ _ _ (by have:=(hown.lt j hj).1;simp;omega))
 ·rw [World.cell?_setCell_other _ _ _ _ (by simp)];exact (World.cell?_of_block (a:=⟨yb,2,none⟩) e1).trans h.c2
 ·rw [World.cell?_setCell_other _ _ _ _ (by simp)];exact (World.cell?_of_block (a:=⟨yb,3,none⟩) e1).trans h.c3
 ·rw [World.frozen?_setCell];exact (World.frozen?_of_block (a:=⟨yb,j,none⟩) e1).trans (h.fz j)
theorem Z16 {w:World}{base:Nat}{e:TypeId}{size n:Nat}{v:Value}{xs:List Value}(h:w.ownsRow base e size v n xs):∃ a m c,v=.slice a m c:=by
 obtain ⟨_,⟨rfl,_⟩ | ⟨g,cap,cur,rfl,_⟩⟩:=h
 ·exact ⟨_,_,_,rfl⟩
 ·exact ⟨_,_,_,rfl⟩
theorem u8_cell {w wn:World}{base yb n:Nat}{v u:Value}{xs:List Value}{o:Obj}(h:w.ownsRow base 5 1 v n xs)(hgr:(w.alloc o).grownBy wn v.ownBlock)(hc:w.cell? ⟨yb,1,none⟩=some u)(hs:yb<base)(hl:yb<w.heap.size):wn.cell? ⟨yb,1,none⟩=some u:=by
 have e:=hgr.block yb (by simp;omega) (fun e=>by have:=(h.lt yb e.symm).1;omega)
 rw [World.cell?_of_block (a:=⟨yb,1,none⟩) e,World.cell?_alloc_old _ _ _ (by simp;omega)]
 exact hc
theorem u8_froz {w wn:World}{base yb n:Nat}{v:Value}{xs:List Value}{o:Obj}(h:w.ownsRow base 5 1 v n xs)(hgr:(w.alloc o).grownBy wn v.ownBlock)(hc:w.frozen? ⟨yb,1,none⟩=false)(hs:yb<base)(hl:yb<w.heap.size):wn.frozen? ⟨yb,1,none⟩=false:=by
 have e:=hgr.block yb (by simp;omega) (fun e=>by have:=(h.lt yb e.symm).1;omega)
 rw [World.frozen?_of_block (a:=⟨yb,1,none⟩) e,World.frozen?_of_block (a:=⟨yb,1,none⟩) (Below.heap_alloc _ _ _ (by simp;omega))]
 exact hc
theorem Z1J (w:World)(yb base:Nat)(code:Int)(add:List Int)(bh:Int)(wr:Bool)(n:Int)(h:LS w yb base code add bh wr)(hl:add.length≤1000) :
  Calls Tryz.prog 195 #[.pointer (some ⟨yb,0,none⟩),.int .i64 n] w fun e w'=>e=.returned (.tuple #[])∧LS w' yb base code (add ++ [IntKind.u8.wrap n]) bh wr∧LGrow w w' base yb:=by
 obtain ⟨i0,hi,hz0,hz1,hz2⟩:=info_parts Tryz.infoU8
 obtain ⟨a,m,c,k1,k2⟩:=h.c1
 have f1:=h.fz 1
 have hlt:=h.lt
 have hle:=h.le
 have hyl:yb<w.heap.size:=Nat.lt_of_lt_of_le h.lt h.le
 have HL:=Z0a h
 have HR:=Z0a k2
 have HK:=Z0a k1
 obtain ⟨x,hx⟩:∃ x,IntKind.u8.wrap n=x:=⟨_,rfl⟩
 rw [hx]
 clear h k2
 go_enter Tryz.func195,Tryz.ntmps195
 go_wp2_with (at_builtin;refine wpList_append_own_at _ rfl _ _ 32 rfl base 5 i0 _ 1 1 Tryz.underlying32 hi hz0 hz1 hz2 rfl (by decide) _ _ _ rfl (HR.out.alloc _) ⟨w.heap.size,0,none⟩ 1 1 [.int .u8 x] rfl rfl (cell_one_new _ _ _) (by intro u hu;simp at hu;subst hu;rfl) (by unfold maxLen;omega) (by omega) (by simp;omega) ?_;intro v' wn hown hgr _ _;obtain ⟨a',n',c',rfl⟩:=Z16 hown;have r1:=u8_cell HR.out hgr HK.out hlt hyl;have r2:=u8_froz HR.out hgr f1 hlt hyl)
 go_end0
 have hh:=ls_added HL.out HK.out HR.out hown hgr
 exact ⟨rfl,hh.1,hh.2⟩
theorem Z6I (w:World)(yb base:Nat)(code:Int)(add:List Int)(bh:Int)(wr:Bool)(n:Int)(h:LS w yb base code add bh wr)(hl:add.length≤999) :
  Calls Tryz.prog 196 #[.pointer (some ⟨yb,0,none⟩),.int .i64 n] w fun e w'=>e=.returned (.tuple #[])∧LS w' yb base code ((add ++ [IntKind.u8.wrap (n/256)]) ++ [IntKind.u8.wrap n]) bh wr∧LGrow w w' base yb:=by
 have H1:=Z0a (Z1J w yb base code add bh wr (n/256) h (by omega))
 clear h
 go_enter Tryz.func196,Tryz.ntmps196
 go_wp2_with fail
 refine H1.out.mono ?_
 rintro e w1 ⟨rfl,h1,g1⟩
 have H2:=Z0a (Z1J w1 yb base code _ bh wr n h1 (by simp;omega))
 clear h1
 go_wp2_with fail
 refine H2.out.mono ?_
 rintro e w2 ⟨rfl,h2,g2⟩
 go_wp2_with fail
 go_end0
 exact ⟨rfl,h2,g1.trans g2⟩
theorem register_any (w:World)(yb base:Nat)(code:Int)(add:List Int)(bh:Int)(wr:Bool)(n:Int)(h:LS w yb base code add bh wr) :
  Calls Tryz.prog 141 #[.pointer (some ⟨yb,0,none⟩),.int .i64 n] w fun e w'=>e=.returned (.tuple #[])∧LS w' yb base (bits BinOp.or IntKind.u8 code (IntKind.u8.wrap n)) add bh wr∧LGrow w w' base yb:=by
 have c0:=h.c0
 have f0:=h.fz 0
 have hyl:yb<w.heap.size:=Nat.lt_of_lt_of_le h.lt h.le
 have HL:=Z0a h
 clear h
 go_enter Tryz.func141,Tryz.ntmps141
 go_wp2
 go_end0
 exact ⟨rfl,HL.out.code0 _,(LGrow.refl _ _ _).set _ _⟩
theorem Z6W (v u:Value)(w:World) :
  Calls Tryz.prog 138 #[v,u] w fun e w'=>e=.returned (.tuple #[])∧w'=w:=by
 go_enter Tryz.func138,Tryz.ntmps138
 go_wp2
 go_end0
 exact ⟨rfl,rfl⟩
theorem Z6w (w:World)(yb base:Nat)(code:Int)(add:List Int)(bh:Int)(wr:Bool)(n:Int)(h:LS w yb base code add bh wr)(hl:add.length≤900) :
  Calls Tryz.prog 143 #[.pointer (some ⟨yb,0,none⟩),.int .i64 n] w fun e w'=>e=.returned (.tuple #[])∧LS w' yb base code (add ++ [IntKind.u8.wrap n]) bh (wr || outB n (-128) (255))∧LGrow w w' base yb:=by
 have H1:=Z0a (Z0U w yb base code add bh wr n (-128) (255) h)
 clear h
 go_enter Tryz.func143,Tryz.ntmps143
 go_wp2_with fail
 refine H1.out.mono ?_
 rintro e w1 ⟨rfl,h1,g1⟩
 have H2:=Z0a (Z1J w1 yb base code add bh _ n h1 (by omega))
 clear h1
 go_wp2_with fail
 refine H2.out.mono ?_
 rintro e w2 ⟨rfl,h2,g2⟩
 go_wp2_with fail
 go_end0
 exact ⟨rfl,h2,g1.trans g2⟩
theorem Z6S (w:World)(yb base:Nat)(code:Int)(add:List Int)(bh:Int)(wr:Bool)(n:Int)(h:LS w yb base code add bh wr)(hl:add.length≤900) :
  Calls Tryz.prog 146 #[.pointer (some ⟨yb,0,none⟩),.int .i64 n] w fun e w'=>e=.returned (.tuple #[])∧LS w' yb base code ((add ++ [IntKind.u8.wrap (n/256)]) ++ [IntKind.u8.wrap n]) bh (wr || outB n (-32768) (65535))∧LGrow w w' base yb:=by
 have H1:=Z0a (Z0U w yb base code add bh wr n (-32768) (65535) h)
 clear h
 go_enter Tryz.func146,Tryz.ntmps146
 go_wp2_with fail
 refine H1.out.mono ?_
 rintro e w1 ⟨rfl,h1,g1⟩
 have H2:=Z0a (Z6I w1 yb base code add bh _ n h1 (by omega))
 clear h1
 go_wp2_with fail
 refine H2.out.mono ?_
 rintro e w2 ⟨rfl,h2,g2⟩
 go_wp2_with fail
 go_end0
 exact ⟨rfl,h2,g1.trans g2⟩
theorem address_any (w:World)(yb base:Nat)(code:Int)(add:List Int)(bh:Int)(wr:Bool)(n:Int)(h:LS w yb base code add bh wr)(hl:add.length≤900) :
  Calls Tryz.prog 149 #[.pointer (some ⟨yb,0,none⟩),.int .i64 n] w fun e w'=>e=.returned (.tuple #[])∧LS w' yb base code (add ++ [IntKind.u8.wrap n]) bh (wr || outB n (0) (255))∧LGrow w w' base yb:=by
 have H1:=Z0a (Z0U w yb base code add bh wr n (0) (255) h)
 clear h
 go_enter Tryz.func149,Tryz.ntmps149
 go_wp2_with fail
 refine H1.out.mono ?_
 rintro e w1 ⟨rfl,h1,g1⟩
 have H2:=Z0a (Z1J w1 yb base code add bh _ n h1 (by omega))
 clear h1
 go_wp2_with fail
 refine H2.out.mono ?_
 rintro e w2 ⟨rfl,h2,g2⟩
 go_wp2_with fail
 go_end0
 exact ⟨rfl,h2,g1.trans g2⟩
theorem layPlace_any (w:World)(yb base:Nat)(code:Int)(add:List Int)(bh:Int)(wr:Bool)(n:Int)(h:LS w yb base code add bh wr)(hl:add.length≤900) :
  Calls Tryz.prog 152 #[.pointer (some ⟨yb,0,none⟩),.int .i64 n] w fun e w'=>e=.returned (.tuple #[])∧LS w' yb base code ((add ++ [IntKind.u8.wrap (n/256)]) ++ [IntKind.u8.wrap n]) bh (wr || outB n (0) (65535))∧LGrow w w' base yb:=by
 have H1:=Z0a (Z0U w yb base code add bh wr n (0) (65535) h)
 clear h
 go_enter Tryz.func152,Tryz.ntmps152
 go_wp2_with fail
 refine H1.out.mono ?_
 rintro e w1 ⟨rfl,h1,g1⟩
 have H2:=Z0a (Z6I w1 yb base code add bh _ n h1 (by omega))
 clear h1
 go_wp2_with fail
 refine H2.out.mono ?_
 rintro e w2 ⟨rfl,h2,g2⟩
 go_wp2_with fail
 go_end0
 exact ⟨rfl,h2,g1.trans g2⟩
theorem w64 (n:Int)(h0:-9223372036854775808≤n)(h1:n≤9223372036854775807):wrap64 n=n:=by unfold wrap64;omega
def distN (bh n:Int):Int:=IntKind.i16.wrap (IntKind.u16.wrap (IntKind.u16.wrap n-bh))
theorem layNear_any (w:World)(yb base:Nat)(code:Int)(add:List Int)(bh:Int)(wr:Bool)(n:Int)(h:LS w yb base code add bh wr)(hl:add.length≤900) :
  Calls Tryz.prog 154 #[.pointer (some ⟨yb,0,none⟩),.int .i64 n] w fun e w'=>e=.returned (.tuple #[])∧LS w' yb base code (add ++ [IntKind.u8.wrap (distN bh n)]) bh ((wr || outB n 0 65535) || outB (distN bh n) (-128) 127)∧LGrow w w' base yb:=by
 have H1:=Z0a (Z0U w yb base code add bh wr n 0 65535 h)
 have HD:Hid (IntKind.i16.wrap (IntKind.u16.wrap (IntKind.u16.wrap n-bh))=distN bh n):=rfl
 have hbd:-32768≤distN bh n∧distN bh n≤32767:=bounds_i16 (wf_wrap _ _)
 generalize distN bh n=d at *
 have HW:=Z0a (w64 d (by omega) (by omega))
 clear h
 go_enter Tryz.func154,Tryz.ntmps154
 go_wp2_with fail
 refine H1.out.mono ?_
 rintro e w1 ⟨rfl,h1,g1⟩
 have c2:=h1.c2
 have L1:=Z0a h1
 clear h1
 go_wp2_with fail
 rw [HD.out,HW.out]
 refine (Z0U w1 yb base code add bh _ d (-128) 127 L1.out).mono ?_
 rintro e w2 ⟨rfl,h2,g2⟩
 have H3:=Z0a (Z1J w2 yb base code add bh _ d h2 (by omega))
 clear h2
 go_wp2_with fail
 refine H3.out.mono ?_
 rintro e w3 ⟨rfl,h3,g3⟩
 go_wp2_with fail
 go_end0
 exact ⟨rfl,h3,(g1.trans g2).trans g3⟩
def Z44 (bh:Int):Int:=bits BinOp.and IntKind.u16 bh 63488
def pageC (code n:Int):Int:=bits BinOp.or IntKind.u8 code (n/256%256*32%256)
theorem layPage_any (w:World)(yb base:Nat)(code:Int)(add:List Int)(bh:Int)(wr:Bool)(n:Int)(h:LS w yb base code add bh wr)(hl:add.length≤900) :
  Calls Tryz.prog 156 #[.pointer (some ⟨yb,0,none⟩),.int .i64 n] w fun e w'=>e=.returned (.tuple #[])∧LS w' yb base (pageC code n) (add ++ [IntKind.u8.wrap n]) bh (wr || outB n (Z44 bh) (Z44 bh+2047))∧LGrow w w' base yb:=by
 have c2:=h.c2
 have HF:Hid (bits BinOp.and IntKind.u16 bh 63488=Z44 bh):=rfl
 have HP:Hid (bits BinOp.or IntKind.u8 code (n/256%256*32%256)=pageC code n):=rfl
 have hbd:0≤Z44 bh∧Z44 bh≤65535:=bounds_u16 (wf_bits _ _ _ _)
 have L0:=Z0a h
 generalize Z44 bh=f at *
 generalize pageC code n=pc at *
 clear h
 go_enter Tryz.func156,Tryz.ntmps156
 go_wp2_with fail
 rw [HF.out,w64 f (by omega) (by omega),w64 (f+2048) (by omega) (by omega),w64 (f+2048-1) (by omega) (by omega),show f+2048-1=f+2047 by omega]
 refine (Z0U w yb base code add bh wr n f (f+2047) L0.out).mono ?_
 rintro e w1 ⟨rfl,h1,g1⟩
 have c0:=h1.c0
 have f0:=h1.fz 0
 have hyl:yb<w1.heap.size:=Nat.lt_of_lt_of_le h1.lt h1.le
 have L2:=Z0a (h1.code0 pc)
 clear h1
 go_wp2_with fail
 rw [HP.out]
 refine (Z1J _ yb base pc add bh _ n L2.out (by omega)).mono ?_
 rintro e w3 ⟨rfl,h3,g3⟩
 go_wp2_with fail
 go_end0
 exact ⟨rfl,h3,(g1.set _ _).trans g3⟩
structure LayD where
 code:Int
 add:List Int
 wrong:Bool
def layK (bh:Int) (k:Nat) (n:Int) (s:LayD):LayD :=
 if k≤6 then s
 else if k≤8 then { s with code:=bits BinOp.or IntKind.u8 s.code (IntKind.u8.wrap n) }
 else if k=9 then { s with add:=s.add ++ [IntKind.u8.wrap n],wrong:=s.wrong || outB n (-128) 255 }
 else if k=10 then { s with add:=(s.add ++ [IntKind.u8.wrap (n/256)]) ++ [IntKind.u8.wrap n],wrong:=s.wrong || outB n (-32768) 65535 }
 else if k≤13 then { s with add:=s.add ++ [IntKind.u8.wrap n],wrong:=s.wrong || outB n 0 255 }
 else if k=14 then { s with add:=(s.add ++ [IntKind.u8.wrap (n/256)]) ++ [IntKind.u8.wrap n],wrong:=s.wrong || outB n 0 65535 }
 else if k=15 then { s with add:=s.add ++ [IntKind.u8.wrap (distN bh n)],wrong:=(s.wrong || outB n 0 65535) || outB (distN bh n) (-128) 127 }
 else { code:=pageC s.code n,add:=s.add ++ [IntKind.u8.wrap n],wrong:=s.wrong || outB n (Z44 bh) (Z44 bh+2047) }
def layF (k:Nat):Nat :=
 if k≤6 then 138
 else if k≤8 then 141
 else if k=9 then 143
 else if k=10 then 146
 else if k≤13 then 149
 else if k=14 then 152
 else if k=15 then 154
 else 156
theorem layF_cell (k:Nat)(h:k<17):Z0I[3*k]?=some (fv (layF k)):=by
 match k,h with
 | 0,_=>rfl
 | 1,_=>rfl
 | 2,_=>rfl
 | 3,_=>rfl
 | 4,_=>rfl
 | 5,_=>rfl
 | 6,_=>rfl
 | 7,_=>rfl
 | 8,_=>rfl
 | 9,_=>rfl
 | 10,_=>rfl
 | 11,_=>rfl
 | 12,_=>rfl
 | 13,_=>rfl
 | 14,_=>rfl
 | 15,_=>rfl
 | 16,_=>rfl
 | n+17,h=>exact absurd h (by omega)
theorem layF_enters (k:Nat)(args:Array Value)(w:World):(callFunc (layF k) args).run Tryz.prog w=.ok (.enter (layF k) args) w:=by
 unfold layF
 repeat' split
 ·exact enters_of Tryz.func138 (by kernel_rfl) rfl args w
 ·exact enters_of Tryz.func141 (by kernel_rfl) rfl args w
 ·exact enters_of Tryz.func143 (by kernel_rfl) rfl args w
 ·exact enters_of Tryz.func146 (by kernel_rfl) rfl args w
 ·exact enters_of Tryz.func149 (by kernel_rfl) rfl args w
 ·exact enters_of Tryz.func152 (by kernel_rfl) rfl args w
 ·exact enters_of Tryz.func154 (by kernel_rfl) rfl args w
 ·exact enters_of Tryz.func156 (by kernel_rfl) rfl args w
theorem lay_any (w:World)(yb base k:Nat)(bh n:Int)(s:LayD)(h:LS w yb base s.code s.add bh s.wrong)(hl:s.add.length≤900) :
  Calls Tryz.prog (layF k) #[.pointer (some ⟨yb,0,none⟩),.int .i64 n] w fun e w'=>e=.returned (.tuple #[])∧LS w' yb base (layK bh k n s).code (layK bh k n s).add bh (layK bh k n s).wrong∧LGrow w w' base yb:=by
 unfold layF layK
 by_cases k1:k≤6
 ·rw [if_pos k1,if_pos k1]
  refine (Z6W _ _ _).mono ?_
  rintro e w' ⟨rfl,rfl⟩
  exact ⟨rfl,h,LGrow.refl _ _ _⟩
 rw [if_neg k1,if_neg k1]
 by_cases k2:k≤8
 ·rw [if_pos k2,if_pos k2];exact register_any w yb base _ _ bh _ n h
 rw [if_neg k2,if_neg k2]
 by_cases k3:k=9
 ·rw [if_pos k3,if_pos k3];exact Z6w w yb base _ _ bh _ n h hl
 rw [if_neg k3,if_neg k3]
 by_cases k4:k=10
 ·rw [if_pos k4,if_pos k4];exact Z6S w yb base _ _ bh _ n h hl
 rw [if_neg k4,if_neg k4]
 by_cases k5:k≤13
 ·rw [if_pos k5,if_pos k5];exact address_any w yb base _ _ bh _ n h hl
 rw [if_neg k5,if_neg k5]
 by_cases k6:k=14
 ·rw [if_pos k6,if_pos k6];exact layPlace_any w yb base _ _ bh _ n h hl
 rw [if_neg k6,if_neg k6]
 by_cases k7:k=15
 ·rw [if_pos k7,if_pos k7];exact layNear_any w yb base _ _ bh _ n h hl
 rw [if_neg k7,if_neg k7]
 exact layPage_any w yb base _ _ bh _ n h hl
end Go.Proofs.YthokdbcpkmcieaaGreatDoor
namespace Go.Proofs.YthokdbcpkmcieaaGreatDoor
open Go Go.RowKit Go.Shelf Go.WideMaps Go.Maps
def tooE (e:List Trm):Bool:=e.any fun t=>decide (65535<t.num)
def tooS (es:List (List Trm)):Bool:=es.any tooE
theorem Z1g {α:Type}{l:List α}{p:α→Bool}{j:Nat}(h:j<l.length)(h1:(l.take j).any p=false)(h2:p l[j]=false):(l.take (j+1)).any p=false:=by
 rw [List.take_add_one,List.getElem?_eq_getElem h,List.any_append,h1]
 simp [h2]
theorem Z1b (w:World)(base:Nat)(es:List (List Trm))(l0 p0:Int)(lb:ByteArray)(tk:Int)(nm:ByteArray)(va:Option Addr)(vn vc:Nat)(cd:Int)(ka:Option Addr)(kn kc:Nat)(sz:Int)(hv:VAt w base (.slice va vn vc) es)(hn:es.length≤1000000)(hc:cntT es≤1000000) :
  Calls Tryz.prog 170 #[.agg #[.int .i64 l0,.int .i64 p0,.string lb,.int .i64 tk,.string nm,.slice va vn vc,.int .u8 cd,.slice ka kn kc,.int .i64 sz]] w fun e w'=>e=.returned (.bool (tooS es))∧Below w.heap.size w w':=by
 obtain ⟨vs,hrow,hE⟩:=hv
 obtain ⟨a',c',ev⟩:=Z0A hrow
 obtain rfl:vn=es.length:=by cases ev;rfl
 have HROW:=Z0a hrow
 have HE:=Z0a (fun j (h:j<es.length)=>Z51 hE j h)
 have HC:=Z0a hc
 have hni:(es.length:Int)≤1000000:=by omega
 clear hrow hE ev hc
 go_enter Tryz.func170,Tryz.ntmps170
 go_wp2_with fail
 go_loopw [10] (fun i wr=>∃ j:Nat,j≤es.length∧i=.int .i64 j∧(es.take j).any tooE=false∧Below w.heap.size w wr) (fun i _=>es.length-(intOf i).toNat)
 case atStart=>exact ⟨0,Nat.zero_le _,rfl,rfl,(Below.refl _ _).alloc (Nat.le_refl _) _⟩
 case round =>
  obtain ⟨j,hj,rfl,hno,hB⟩:=hrel
  have HB:=Z0a hB
  have HNO:=Z0a hno
  clear hB hno
  by_cases hlt:j<es.length
  ·have hji:(j:Int)<(es.length:Int):=by omega
   obtain ⟨g,cap,ev⟩:=Z25 HROW.out (by omega)
   cases ev
   obtain ⟨x,hx,hxr⟩:=HE.out j hlt
   have cj:=(Z3c (Z0q HROW.out HB.out)).2 j x hx
   obtain ⟨xa,xc,rfl⟩:=Z0A hxr
   obtain ⟨E,hEE⟩:∃ E,es[j]=E:=⟨_,rfl⟩
   have h1:=cntT_take es j hlt
   have h2:=cntT_le es (j+1)
   rw [hEE] at hxr cj h1
   have HX:=Z0a hxr
   have hEl:(E.length:Int)≤1000000:=by have:=HC.out;omega
   have HEE:=Z0a hEE
   clear hx hxr h1 h2 hEE
   go_wp2_with fail
   go_loopw [16] (fun i wr=>∃ k:Nat,k≤E.length∧i=.int .i64 k∧(E.take k).any (fun t=>decide (65535<t.num))=false∧Below w.heap.size w wr) (fun i _=>E.length-(intOf i).toNat)
   case atStart=>exact ⟨0,Nat.zero_le _,rfl,rfl,HB.out⟩
   case round =>
    clear HB cj
    obtain ⟨k,hk,rfl,hnk,hB⟩:=hrel
    by_cases hlk:k<E.length
    ·have hki:(k:Int)<(E.length:Int):=by omega
     obtain ⟨gx,cx,ev⟩:=Z25 HX.out (by omega)
     cases ev
     have hcell:=(Z3c (Z0q HX.out hB)).2
     obtain ⟨t0,t1,t2,t3⟩:=Z48 E k hlk
     obtain ⟨t,ht⟩:∃ t,E[k]=t:=⟨_,rfl⟩
     rw [ht] at t0 t1 t2 t3
     have d0:=hcell _ _ t0
     have d1:=hcell _ _ t1
     have d2:=hcell _ _ t2
     have d3:=hcell _ _ t3
     have HT:=Z0a ht
     have HNK:=Z0a hnk
     have HB:=Z0a hB
     have hBs:=hB.size
     clear hcell t0 t1 t2 t3 ht hB hnk
     obtain ⟨mi,nn,he,nu⟩:=t
     simp only at d0 d1 d2 d3
     by_cases hnu:65535<nu
     ·go_wp2
      go_ret
      refine ⟨?_,HB.out.alloc hBs _⟩
      have hm:tooS es=true:=by
       unfold tooS
       rw [List.any_eq_true]
       refine ⟨E,by rw [←HEE.out];exact List.getElem_mem hlt,?_⟩
       unfold tooE
       rw [List.any_eq_true]
       exact ⟨E[k],List.getElem_mem hlk,by rw [HT.out];simpa using hnu⟩
      rw [hm]
      rfl
     ·go_wp2
      go_roundw
      case rel=>exact ⟨k+1,by omega,by go_num,Z1g hlk HNK.out (by rw [HT.out];simpa using hnu),HB.out.alloc hBs _⟩
      case measure=>simp [intOf];omega
    ·have hki:¬ (k:Int)<(E.length:Int):=by omega
     have ek:k=E.length:=by omega
     subst ek
     rw [List.take_length] at hnk
     have HNK:=Z0a hnk
     have HB:=Z0a hB
     clear hnk hB
     go_wp2
     go_roundw
     case rel=>exact ⟨j+1,by omega,by go_num,Z1g hlt HNO.out (by rw [HEE.out];exact HNK.out),HB.out⟩
     case measure=>simp [intOf];omega
  ·have hji:¬ (j:Int)<(es.length:Int):=by omega
   have ej:j=es.length:=by omega
   subst ej
   go_wp2
   go_ret
   refine ⟨?_,HB.out⟩
   have:=HNO.out
   rw [List.take_length] at this
   show Ending.returned (.bool false)=.returned (.bool (tooS es))
   unfold tooS
   rw [this]
end Go.Proofs.YthokdbcpkmcieaaGreatDoor
namespace Go.Proofs.YthokdbcpkmcieaaGreatDoor
open Go Go.RowKit Go.Maps Go.WideMaps
def NamesAt (w:World) (nb n:Nat) (nm:List UInt8→Option Int):Prop:=MapAt Tryz.prog 9 w nb n (fun l=>(nm l).map fun x=>.int .i64 x)
theorem NamesAt.below {w w':World}{nb n:Nat}{nm:List UInt8→Option Int}(h:NamesAt w nb n nm)(hb:Below w.heap.size w w'):NamesAt w' nb n nm:=MapAt.below h hb (MapAt.lt h)
def trmN (nm:List UInt8→Option Int) (pl:Int) (t:Trm):Int:=if t.name.size≠0 then (nm t.name.data.toList).getD 0 else if t.here=true then pl else t.num
def valF (nm:List UInt8→Option Int) (pl:Int):Int→List Trm→Option Int
 | s,[]=>some s
 | s,t :: l=>if (if t.minus=true then s-trmN nm pl t else s+trmN nm pl t) < -1000000∨1000000<(if t.minus=true then s-trmN nm pl t else s+trmN nm pl t) then none else valF nm pl (if t.minus=true then s-trmN nm pl t else s+trmN nm pl t) l
theorem Z7W (w:World)(nb n:Nat)(nm:List UInt8→Option Int)(pl:Int)(t:Trm)(h:NamesAt w nb n nm)(hs:t.name.size≤1000000) :
  Calls Tryz.prog 254 #[.agg #[.bool t.minus,.string t.name,.bool t.here,.int .i64 t.num],.map (some nb),.int .i64 pl] w fun e w'=>e=.returned (.int .i64 (trmN nm pl t))∧Below w.heap.size w w':=by
 have hbw:∀ o,Below w.heap.size w (w.alloc o):=fun o=>(Below.refl _ _).alloc (Nat.le_refl _) _
 by_cases h1:t.name.size=0
 ·have hem:t.name.toList.isEmpty=true:=by rw [Z0s];simp [h1]
  cases h2:t.here with
  | true =>
   have e:trmN nm pl t=pl:=by unfold trmN;rw [if_neg (by omega),if_pos h2]
   rw [e]
   go_enter Tryz.func254,Tryz.ntmps254
   go_wp2
   go_ret
   exact ⟨rfl,hbw _⟩
  | false =>
   have e:trmN nm pl t=t.num:=by unfold trmN;rw [if_neg (by omega),if_neg (by simp [h2])]
   rw [e]
   go_enter Tryz.func254,Tryz.ntmps254
   go_wp2
   go_ret
   exact ⟨rfl,hbw _⟩
 ·have hem:t.name.toList.isEmpty=false:=by rw [Z0s,decide_eq_false_iff_not];exact h1
  have hkey:keyOf Tryz.prog 9 (.string t.name)=some (.string t.name.data.toList):=keyOf_string_mk Tryz.underlying9 (by unfold maxLen;omega)
  have e:Z5q false (.int .i64 0) ((nm t.name.data.toList).map fun x=>.int .i64 x)=.int .i64 (trmN nm pl t):=by
   unfold trmN
   rw [if_pos h1]
   cases nm t.name.data.toList <;> rfl
  have hr:∀ o,(Instr.lookup 119 (.map (some nb)) (.string t.name) false).run Tryz.prog (w.alloc o)=.ok (.int .i64 (trmN nm pl t)) (w.alloc o):=fun o=>by
   rw [(MapAt.alloc h o).look strK Tryz.underlying119 (Z7F _) hkey false,e]
  clear e hkey
  go_enter Tryz.func254,Tryz.ntmps254
  go_wp2
  go_ret
  exact ⟨rfl,hbw _⟩
theorem trmCells_at (l:List Trm):∀ (k:Nat) (t:Trm),l[k]?=some t→(Z0i l)[k*4]?=some (.bool t.minus)∧(Z0i l)[k*4+1]?=some (.string t.name)∧(Z0i l)[k*4+2]?=some (.bool t.here)∧(Z0i l)[k*4+3]?=some (.int .i64 t.num):=by
 induction l with
 | nil=>intro k t h;simp at h
 | cons o l ih =>
  intro k t h
  cases k with
  | zero=>simp at h;subst h;simp [Z0i,Trm.cells]
  | succ k =>
   have:=ih k t (by simpa using h)
   have e:∀ i,(Z0i (o :: l))[(k+1)*4+i]?=(Z0i l)[k*4+i]?:=by
    intro i
    rw [show (k+1)*4+i=k*4+i+1+1+1+1 by omega]
    simp [Z0i,Trm.cells]
   have e0:=e 0
   simp only [Nat.add_zero] at e0
   rw [e0,e 1,e 2,e 3]
   exact this
theorem valF_drop {nm:List UInt8→Option Int}{pl s:Int}{l:List Trm}{k:Nat}{t:Trm}(h:l[k]?=some t):valF nm pl s (l.drop k)=if (if t.minus=true then s-trmN nm pl t else s+trmN nm pl t) < -1000000∨1000000<(if t.minus=true then s-trmN nm pl t else s+trmN nm pl t) then none else valF nm pl (if t.minus=true then s-trmN nm pl t else s+trmN nm pl t) (l.drop (k+1)):=by
 have hk:=(List.getElem?_eq_some_iff.1 h).1
 have ht:=(List.getElem?_eq_some_iff.1 h).2
 rw [List.drop_eq_getElem_cons hk,ht]
 rfl
def valE (o:Option Int):Ending:=match o with
 | some v=>.returned (.tuple #[.int .i64 v,.bool true])
 | none=>.returned (.tuple #[.int .i64 0,.bool false])
theorem Z7I (w:World)(base nb n:Nat)(nm:List UInt8→Option Int)(pl:Int)(v:Value)(l:List Trm)(h:NamesAt w nb n nm)(hrow:w.ownsRow base 261 4 v l.length (Z0i l))(hl:l.length≤1000000)(hs:∀ t∈l,t.name.size≤1000000)(hv:∀ t∈l,-1000000≤trmN nm pl t∧trmN nm pl t≤1000000) :
  Calls Tryz.prog 218 #[v,.map (some nb),.int .i64 pl] w fun e w'=>e=valE (valF nm pl 0 l)∧Below w.heap.size w w':=by
 obtain ⟨a,cap,rfl⟩:∃ a cap,v=.slice a l.length cap:=by
  obtain ⟨_,⟨rfl,h'⟩ | ⟨g,cap,cur,rfl,_⟩⟩:=id hrow
  ·exact ⟨none,0,by rw [h']⟩
  ·exact ⟨_,_,rfl⟩
 have HN:=Z0a h
 have HS:=Z0a hs
 have HV:=Z0a hv
 obtain ⟨R,hR⟩:∃ R,valF nm pl 0 l=R:=⟨_,rfl⟩
 rw [hR]
 have HR:=Z0a hR
 have HROW:=Z0a hrow
 clear h hs hv hR hrow
 go_enter Tryz.func218,Tryz.ntmps218
 go_wp2_with fail
 go_loopw [8,13] (fun v8 v13 wr=>∃ (k:Nat) (s:Int),v8=.int .i64 s∧v13=.int .i64 k∧k≤l.length∧-1000000≤s∧s≤1000000∧Hid (valF nm pl s (l.drop k)=R)∧Below w.heap.size w wr) (fun _ v13 _=>l.length-(intOf v13).toNat)
 case atStart=>exact ⟨0,0,by simp,by simp,by omega,by omega,by omega,Z0a (by rw [List.drop_zero];exact HR.out),Below.refl _ _⟩
 case round =>
  obtain ⟨k,s,rfl,rfl,hk,hs0,hs1,HE,hb⟩:=hrel
  have hz:=hb.size
  by_cases hlt:k<l.length
  ·obtain ⟨t,ht⟩:∃ t,l[k]?=some t:=⟨_,List.getElem?_eq_getElem hlt⟩
   have hm:=List.mem_of_getElem? ht
   obtain ⟨g,rfl⟩:∃ g,a=some ⟨g,0,none⟩:=by
    obtain ⟨_,⟨h',h''⟩ | ⟨g,cap',cur,h',_⟩⟩:=id HROW.out
    ·omega
    ·cases h';exact ⟨g,rfl⟩
   have hrw:=HROW.out.below3 hb
   have hgl:=(hrw.lt g rfl).2
   have hc:=trmCells_at l k t ht
   have d0:wr.cell? ⟨g,k*4,none⟩=some (.bool t.minus):=by rw [hrw.cellAt (k*4) (by omega)];exact hc.1
   have d1:wr.cell? ⟨g,k*4+1,none⟩=some (.string t.name):=by rw [hrw.cellAt (k*4+1) (by omega)];exact hc.2.1
   have d2:wr.cell? ⟨g,k*4+2,none⟩=some (.bool t.here):=by rw [hrw.cellAt (k*4+2) (by omega)];exact hc.2.2.1
   have d3:wr.cell? ⟨g,k*4+3,none⟩=some (.int .i64 t.num):=by rw [hrw.cellAt (k*4+3) (by omega)];exact hc.2.2.2
   have HT:=Z0a (fun o=>Z7W (wr.alloc o) nb n nm pl t (HN.out.below (hb.alloc hz o)) (HS.out t hm))
   have hvv:=HV.out t hm
   have hstep:=valF_drop (nm:=nm) (pl:=pl) (s:=s) ht
   rw [HE.out] at hstep
   obtain ⟨x,hx⟩:∃ x,trmN nm pl t=x:=⟨_,rfl⟩
   rw [hx] at hstep hvv HT
   have x0:=hvv.1
   have x1:=hvv.2
   clear hc ht hm hvv HE hx hrw
   cases hmi:t.minus with
   | true =>
    rw [hmi] at d0 hstep HT
    simp only [if_true] at hstep
    have HST:=Z0a hstep
    clear hstep
    by_cases q1:s-x < -1000000
    ·have HEN:=Z0a (show R=none by rw [HST.out,if_pos (.inl q1)])
     go_wp2_with (refine (HT.out _).mono ?_;rintro e w3 ⟨rfl,hb3⟩)
     go_ret2
     rw [HEN.out]
     exact ⟨rfl,(hb.alloc hz _).trans (hb3.mono (by simp;omega))⟩
    ·by_cases q2:1000000<s-x
     ·have HEN:=Z0a (show R=none by rw [HST.out,if_pos (.inr q2)])
      go_wp2_with (refine (HT.out _).mono ?_;rintro e w3 ⟨rfl,hb3⟩)
      go_ret2
      rw [HEN.out]
      exact ⟨rfl,(hb.alloc hz _).trans (hb3.mono (by simp;omega))⟩
     ·have HEN:=Z0a (show valF nm pl (s-x) (l.drop (k+1))=R by rw [HST.out,if_neg (by omega)])
      go_wp2_with (refine (HT.out _).mono ?_;rintro e w3 ⟨rfl,hb3⟩)
      go_roundw
      case rel=>exact ⟨k+1,s-x,by go_num,by go_num,by omega,by omega,by omega,HEN,(hb.alloc hz _).trans (hb3.mono (by simp;omega))⟩
      case measure=>simp [intOf];omega
   | false =>
    rw [hmi] at d0 hstep HT
    simp only [Bool.false_eq_true,if_false] at hstep
    have HST:=Z0a hstep
    clear hstep
    by_cases q1:s+x < -1000000
    ·have HEN:=Z0a (show R=none by rw [HST.out,if_pos (.inl q1)])
     go_wp2_with (refine (HT.out _).mono ?_;rintro e w3 ⟨rfl,hb3⟩)
     go_ret2
     rw [HEN.out]
     exact ⟨rfl,(hb.alloc hz _).trans (hb3.mono (by simp;omega))⟩
    ·by_cases q2:1000000<s+x
     ·have HEN:=Z0a (show R=none by rw [HST.out,if_pos (.inr q2)])
      go_wp2_with (refine (HT.out _).mono ?_;rintro e w3 ⟨rfl,hb3⟩)
      go_ret2
      rw [HEN.out]
      exact ⟨rfl,(hb.alloc hz _).trans (hb3.mono (by simp;omega))⟩
     ·have HEN:=Z0a (show valF nm pl (s+x) (l.drop (k+1))=R by rw [HST.out,if_neg (by omega)])
      go_wp2_with (refine (HT.out _).mono ?_;rintro e w3 ⟨rfl,hb3⟩)
      go_roundw
      case rel=>exact ⟨k+1,s+x,by go_num,by go_num,by omega,by omega,by omega,HEN,(hb.alloc hz _).trans (hb3.mono (by simp;omega))⟩
      case measure=>simp [intOf];omega
  ·have HEN:=Z0a (show R=some s by rw [←HE.out,List.drop_of_length_le (by omega)];rfl)
   go_wp2_with fail
   go_ret2
   rw [HEN.out]
   exact ⟨rfl,hb⟩
end Go.Proofs.YthokdbcpkmcieaaGreatDoor
