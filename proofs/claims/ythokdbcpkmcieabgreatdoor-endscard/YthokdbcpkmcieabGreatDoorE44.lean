/- SurQ SurR SurR2 SurS SurT6 SurT7 SurT8e SurT8o -/
import Derived.Test.YthokdbcpkmcieabGreatDoorE43
import Derived.Deep.RegionHeld3
set_option maxRecDepth 200000
set_option maxHeartbeats 8000000
namespace Go.Proofs.YthokdbcpkmcieabGreatDoor
open Go Go.RowKit
theorem Z8j {s:Ply}{t:List UInt8}(h:OutI s t):t.length≤200:=by
 rcases h with rfl | ⟨x,rfl,hx⟩
 ·simp
 ·have:=hx.len
  have:=(Z6Y x)
  omega
theorem good_len {W:List Pg}(hW:WOk W){q:List UInt8}(h:GoodQ W q):(Z0c q).length≤200:=by
 have:=(h.len hW).2.1
 have:=Z6Y q
 omega
theorem late_len {W:List Pg}{s:Ply}(hi:Inv W s):s.late.length≤200∧s.lateB.length≤200:=by
 refine ⟨?_,Z8j hi.lateB⟩
 rcases hi.late with e | ⟨q,e,hq,_⟩
 ·rw [e]
  simp
 ·rw [e]
  exact good_len hi.w hq
theorem spoil_len (s:List UInt8)(a b:Int):(Z0Y s a b).length≤s.length:=by
 unfold Z0Y Z8r
 repeat' split
 all_goals simp
theorem said_out {W:List Pg}{s:Ply}(hi:Inv W s)(he:¬ (sayH s.h).2=[]):(sayH s.h).2.length≤200∧∀ f:List UInt8,(f=[]∨msS f=[])∨f=(sayH s.h).2→(Z0b { s with h:=(sayH s.h).1,late:=(sayH s.h).2 } f).2.length≤200∧(Z0b (Z0b { s with h:=(sayH s.h).1,late:=(sayH s.h).2 } f).1 f).2.length≤200:=by
 obtain ⟨h0,hs⟩:=Z70 he
 obtain ⟨b1,b2,b3,b4,b5⟩:=Z8C hi h0 hs
 rw [b2]
 refine ⟨good_len hi.w (hi.host.ask h0).good,fun f hf=>?_⟩
 obtain ⟨s1,hs1⟩:∃ s1:Ply,s1 = { s with h:=(sayH s.h).1,late:=Z0c s.h.asked }:=⟨_,rfl⟩
 rw [←hs1] at b1 ⊢
 have c0:s1.h.take≠0:=by rw [hs1];show (sayH s.h).1.take≠0;rw [b3];exact h0
 have ca:s1.h.asked=s.h.asked:=by rw [hs1];exact b4
 have cl:s1.late=Z0c s1.h.asked:=by rw [ca,hs1]
 have one:∀ x:Ply,Inv W x→x.h=s1.h→x.late=s1.late→Inv W (Z0b x f).1∧OutI (Z0b x f).1 (Z0b x f).2:=by
  intro x hx e1 e2
  rcases hf with hf | hf
  ·obtain ⟨q1,q2⟩:=Z2h hx hf
   exact ⟨q1,.inl q2⟩
  ·rw [hf,← ca,← e1]
   exact Z2R hx (by rw [e1];exact c0) (by rw [e1,e2];exact cl)
 have k1:=Z0T s1 f
 obtain ⟨r1,r2⟩:=one s1 b1 rfl rfl
 obtain ⟨r3,r4⟩:=one _ r1 k1.1 k1.2.1
 exact ⟨Z8j r2,Z8j r4⟩
structure AM (w0 w:World) (pb bb hb lb ab:Nat) (i0 i1 i2:Value) (p:Ply) (A B:Int):Prop where
 p:PlyW w0 w pb bb hb lb i0 i1 i2 p
 a1:w.cell? ⟨ab,1,none⟩=some (.int .i64 A)
 a2:w.cell? ⟨ab,2,none⟩=some (.int .i64 B)
 ne:ab≠pb∧ab≠bb∧ab≠hb
theorem AM.lt {w0 w:World}{pb bb hb lb ab:Nat}{i0 i1 i2:Value}{p:Ply}{A B:Int}(m:AM w0 w pb bb hb lb ab i0 i1 i2 p A B):ab<w.heap.size:=World.block_lt_of_cell? _ _ m.a1
theorem AM.of {w0 w w':World}{pb bb hb lb ab:Nat}{i0 i1 i2:Value}{p p':Ply}{A B:Int}(m:AM w0 w pb bb hb lb ab i0 i1 i2 p A B)(m':PlyW w0 w' pb bb hb lb i0 i1 i2 p')(e:w'.heap[ab]?=w.heap[ab]?):AM w0 w' pb bb hb lb ab i0 i1 i2 p' A B :=
 ⟨m',(World.cell?_of_block (a:=⟨ab,1,none⟩) e).trans m.a1,(World.cell?_of_block (a:=⟨ab,2,none⟩) e).trans m.a2,m.ne⟩
theorem AM.below {w0 w w':World}{pb bb hb lb ab:Nat}{i0 i1 i2:Value}{p:Ply}{A B:Int}(m:AM w0 w pb bb hb lb ab i0 i1 i2 p A B)(q:Below w.heap.size w w'):AM w0 w' pb bb hb lb ab i0 i1 i2 p A B:=m.of (m.p.below q) (q.block ab m.lt)
theorem far_block {w w':World}{x ab:Nat}(hl:ab<w.heap.size)(hne:ab≠x)(q:∃ w1,Below w.heap.size w w1∧(w1=w'∨w1.grownBy w' (some x))):w'.heap[ab]?=w.heap[ab]?:=by
 obtain ⟨w1,q1,rfl | q2⟩:=q
 ·exact q1.block ab hl
 ·exact (q2.block ab (Nat.lt_of_lt_of_le hl q1.size) (fun e=>hne (Option.some.inj e))).trans (q1.block ab hl)
theorem AM.board {w0 w w':World}{pb bb hb lb ab:Nat}{i0 i1 i2:Value}{p p':Ply}{A B:Int}(m:AM w0 w pb bb hb lb ab i0 i1 i2 p A B)(m':PlyM w' pb bb hb lb i0 i1 i2 p')(q:∃ w1,Below w.heap.size w w1∧(w1=w'∨w1.grownBy w' (some bb))):AM w0 w' pb bb hb lb ab i0 i1 i2 p' A B:=m.of (m.p.board m' q) (far_block m.lt m.ne.2.1 q)
theorem AM.host {w0 w w':World}{pb bb hb lb ab:Nat}{i0 i1 i2:Value}{p p':Ply}{A B:Int}(m:AM w0 w pb bb hb lb ab i0 i1 i2 p A B)(m':PlyM w' pb bb hb lb i0 i1 i2 p')(q:∃ w1,Below w.heap.size w w1∧(w1=w'∨w1.grownBy w' (some hb))):AM w0 w' pb bb hb lb ab i0 i1 i2 p' A B:=m.of (m.p.host m' q) (far_block m.lt m.ne.2.2 q)
theorem AM.boardG {w0 w w':World}{pb bb hb lb ab:Nat}{i0 i1 i2:Value}{p:Ply}{A B:Int}{b:Brd}(m:AM w0 w pb bb hb lb ab i0 i1 i2 p A B)(q:w.grownBy w' (some bb))(hb':BrdAt w' bb b):AM w0 w' pb bb hb lb ab i0 i1 i2 ⟨b,p.h,p.late,p.lateB,p.n⟩ A B:=m.of (m.p.boardG q hb') (q.block ab m.lt (fun e=>m.ne.2.1 (Option.some.inj e)))
theorem AM.hostG {w0 w w':World}{pb bb hb lb ab:Nat}{i0 i1 i2:Value}{p:Ply}{A B:Int}{h:Hst}(m:AM w0 w pb bb hb lb ab i0 i1 i2 p A B)(q:w.grownBy w' (some hb))(hh:HstM w' hb lb h)(k:HOk h):AM w0 w' pb bb hb lb ab i0 i1 i2 ⟨p.b,h,p.late,p.lateB,p.n⟩ A B:=m.of (m.p.hostG q hh k) (q.block ab m.lt (fun e=>m.ne.2.2 (Option.some.inj e)))
theorem AM.setLate {w0 w:World}{pb bb hb lb ab:Nat}{i0 i1 i2:Value}{p:Ply}{A B:Int}(m:AM w0 w pb bb hb lb ab i0 i1 i2 p A B)(s:List UInt8):AM w0 (w.setCell ⟨pb,5,none⟩ (.string (txt s))) pb bb hb lb ab i0 i1 i2 ⟨p.b,p.h,s,p.lateB,p.n⟩ A B:=m.of (m.p.setLate s) (heap_setCell_other w ⟨pb,5,none⟩ ab _ m.ne.1)
theorem AM.setLateB {w0 w:World}{pb bb hb lb ab:Nat}{i0 i1 i2:Value}{p:Ply}{A B:Int}(m:AM w0 w pb bb hb lb ab i0 i1 i2 p A B)(s:List UInt8):AM w0 (w.setCell ⟨pb,6,none⟩ (.string (txt s))) pb bb hb lb ab i0 i1 i2 ⟨p.b,p.h,p.late,s,p.n⟩ A B:=m.of (m.p.setLateB s) (heap_setCell_other w ⟨pb,6,none⟩ ab _ m.ne.1)
theorem AM.begin {w0 w:World}{pb bb hb lb:Nat}{i0 i1 i2:Value}{p:Ply}(m:PlyW w0 w pb bb hb lb i0 i1 i2 p)(K A B:Int):∃ W,w.alloc (.cells #[.int .i64 K,.int .i64 A,.int .i64 B] 27)=W∧W.cell? ⟨w.heap.size,0,none⟩=some (.int .i64 K)∧AM w0 W pb bb hb lb w.heap.size i0 i1 i2 p A B:=by
 have hb:Below w.heap.size w (w.alloc (.cells #[.int .i64 K,.int .i64 A,.int .i64 B] 27)):=(Below.refl _ _).alloc (Nat.le_refl _) _
 have hh:=heap_alloc_new w (.cells #[.int .i64 K,.int .i64 A,.int .i64 B] 27)
 have h1:=m.m.lt
 have h2:=m.m.b.sto.lt
 have h3:=m.m.h.lt
 refine ⟨_,rfl,?_,m.below hb,?_,?_,by omega,by omega,by omega⟩
 all_goals
  rw [cell_of_row _ _ _ _ _ (0,0) hh]
  rfl
theorem tdiv2_in {A:Int}(h:-9223372036854775808≤A∧A≤9223372036854775807):-9223372036854775808≤A.tdiv 2∧A.tdiv 2≤9223372036854775807:=by
 by_cases h0:A<0
 ·have e:A.tdiv 2 = -((-A).tdiv 2):=by rw [Int.neg_tdiv,Int.neg_neg]
  rw [e,Int.tdiv_eq_ediv_of_nonneg (by omega)]
  omega
 ·rw [Int.tdiv_eq_ediv_of_nonneg (by omega)]
  omega
def PickIs:Prop:=∀ (c:Int) (n:Nat),-9223372036854775808≤c→c≤9223372036854775807→1≤n→n≤4000000→∀ w:World,Calls Tryz.prog 6 #[.int .i64 c,.int .i64 (n:Int)] w fun e w'=>e=.returned (.int .i64 (pkF c n:Int))∧w'=w
def SpoiltIs:Prop:=∀ (l:List UInt8) (k c:Int) (w:World),(-9223372036854775808≤k∧k≤9223372036854775807)→(-9223372036854775808≤c∧c≤9223372036854775807)→l.length≤2000000→Calls Tryz.prog 25 #[.string (txt l),.int .i64 k,.int .i64 c] w fun e w'=>e=.returned (.string (txt (Z0Y l k c)))∧Below w.heap.size w w'
theorem kact_10 (hpk:PickIs)(w0 w:World)(pb bb hb lb:Nat)(i0 i1 i2:Value)(p:Ply)(m:PlyW w0 w pb bb hb lb i0 i1 i2 p)(K A B:Int)(hK:-9223372036854775808≤K∧K≤9223372036854775807)(hk:pkF K 14=10) :
  Calls Tryz.prog 7 #[.pointer (some ⟨pb,0,none⟩),.agg #[.int .i64 K,.int .i64 A,.int .i64 B]] w fun e w'=>e=.returned (.tuple #[])∧PlyE w0 pb bb i0 i1 i2 { p with h:=tickH p.h } w':=by
 have HP:=Z0a (fun w'=>hpk K 14 hK.1 hK.2 (by omega) (by omega) w')
 rw [hk] at HP
 obtain ⟨W1,hW1,k0,am⟩:=AM.begin m K A B
 have HT:=Z0a (Z7o hb lb p.h W1 am.p.m.h am.p.m.ok)
 have e1:=am.p.m.c1
 have HA:=Z0a am
 clear m am hk
 go_enter Tryz.func7,Tryz.ntmps7
 go_wp2_with (first | (go_at_call 6;refine (HP.out _).mono ?_;rintro e w1 ⟨rfl,rfl⟩) | (go_at_call 20;refine HT.out.mono ?_;rintro e w2 ⟨rfl,hh,hg⟩;have HE:=Z0a (HA.out.hostG hg hh HA.out.p.m.ok.tickH);clear hh hg))
 refine bodyPost_ret (results_none rfl _ _ _) rfl ?_
 exact ⟨rfl,_,_,HE.out.p⟩
theorem kact_12 (hpk:PickIs)(w0 w:World)(pb bb hb lb:Nat)(i0 i1 i2:Value)(p:Ply)(m:PlyW w0 w pb bb hb lb i0 i1 i2 p)(K A B:Int)(hK:-9223372036854775808≤K∧K≤9223372036854775807)(hk:pkF K 14=12) :
  Calls Tryz.prog 7 #[.pointer (some ⟨pb,0,none⟩),.agg #[.int .i64 K,.int .i64 A,.int .i64 B]] w fun e w'=>e=.returned (.tuple #[])∧PlyE w0 pb bb i0 i1 i2 { p with b:=Z5C p.b } w':=by
 have HP:=Z0a (fun w'=>hpk K 14 hK.1 hK.2 (by omega) (by omega) w')
 rw [hk] at HP
 obtain ⟨W1,hW1,k0,am⟩:=AM.begin m K A B
 have HT:=Z0a (Z7G bb p.b W1 am.p.m.b)
 have e1:=am.p.m.c0
 have HA:=Z0a am
 clear m am hk
 go_enter Tryz.func7,Tryz.ntmps7
 go_wp2_with (first | (go_at_call 6;refine (HP.out _).mono ?_;rintro e w1 ⟨rfl,rfl⟩) | (go_at_call 8;refine HT.out.mono ?_;rintro e w2 ⟨rfl,hh,hg⟩;have HE:=Z0a (HA.out.boardG hg hh);clear hh hg))
 refine bodyPost_ret (results_none rfl _ _ _) rfl ?_
 exact ⟨rfl,_,_,HE.out.p⟩
theorem kact_11 (hpk:PickIs)(w0 w:World)(pb bb hb lb:Nat)(i0 i1 i2:Value)(p:Ply)(m:PlyW w0 w pb bb hb lb i0 i1 i2 p)(K A B:Int)(hK:-9223372036854775808≤K∧K≤9223372036854775807)(hA:-9223372036854775808≤A∧A≤9223372036854775807)(hk:pkF K 14=11) :
  Calls Tryz.prog 7 #[.pointer (some ⟨pb,0,none⟩),.agg #[.int .i64 K,.int .i64 A,.int .i64 B]] w fun e w'=>e=.returned (.tuple #[])∧PlyE w0 pb bb i0 i1 i2 { p with b:=cutF p.b (pkF A 400:Int) (UInt8.ofNat (B%256).toNat) } w':=by
 have HP:=Z0a (fun w'=>hpk K 14 hK.1 hK.2 (by omega) (by omega) w')
 rw [hk] at HP
 have HP2:Hid (∀ w':World,Calls Tryz.prog 6 #[.int .i64 A,.int .i64 400] w' fun e w''=>e=.returned (.int .i64 (pkF A 400:Int))∧w''=w'):=fun w'=>hpk A 400 hA.1 hA.2 (by omega) (by omega) w'
 obtain ⟨W1,hW1,k0,am⟩:=AM.begin m K A B
 have hq:pkF A 400<400:=Nat.mod_lt _ (by omega)
 have HT:=Z0a (bbCut_any bb p.b (pkF A 400:Int) B (by omega) (by omega) W1.drew (am.p.m.b.below (Below.refl _ _).drew))
 obtain ⟨ab,hab⟩:∃ ab,w.heap.size=ab:=⟨_,rfl⟩
 rw [hab] at am k0
 have am2:=am.below (Below.refl _ _).drew
 have e1:=am.p.m.c0
 have e2:=am.a1
 have e3:=am.a2
 obtain ⟨Q,hQ⟩:∃ Q:Nat,pkF A 400=Q:=⟨_,rfl⟩
 rw [hQ] at HT HP2 ⊢
 have HA:=Z0a am2
 clear m am am2 hk hq hQ
 go_enter Tryz.func7,Tryz.ntmps7
 go_wp2_with (first | (go_at_call 6;refine (HP.out _).mono ?_;rintro e w1 ⟨rfl,rfl⟩))
 go_region_held3 (fun w'=>w'.cell? ⟨pb,0,none⟩=some (.pointer (some ⟨bb,0,none⟩))∧w'.cell? ⟨ab,1,none⟩=some (.int .i64 A)∧w'.cell? ⟨ab,2,none⟩=some (.int .i64 B)) (go_keep) (first | (go_at_call 6;with_reducible refine (HP2.out _).mono ?_;rintro e w3 ⟨rfl,rfl⟩) | (go_at_call 21;with_reducible refine HT.out.mono ?_;rintro e w2 ⟨rfl,hh,hg⟩;have am3:=HA.out.boardG hg hh;have y1:=am3.p.m.c0;have y2:=am3.a1;have y3:=am3.a2;have HE:=Z0a am3;clear hh hg am3))
 all_goals
  go_wp2
  refine bodyPost_ret (results_none rfl _ _ _) rfl ?_
  exact ⟨rfl,_,_,HE.out.p⟩
theorem kact_13 (hpk:PickIs)(a0 a1 a2:Option Addr)(c0 c1 c2:Nat)(i:Img)(w0 w:World)(pb bb hb lb:Nat)(p:Ply)(hn:p.n≤60000)(hI:HImgAt w0 (.slice a0 1024 c0) (.slice a1 1024 c1) (.slice a2 1024 c2) i)(hw:Z11 i=true)(m:PlyW w0 w pb bb hb lb (.slice a0 1024 c0) (.slice a1 1024 c1) (.slice a2 1024 c2) p)(K A B:Int)(hK:-9223372036854775808≤K∧K≤9223372036854775807)(hk:pkF K 14=13) :
  Calls Tryz.prog 7 #[.pointer (some ⟨pb,0,none⟩),.agg #[.int .i64 K,.int .i64 A,.int .i64 B]] w fun e w'=>e=.returned (.tuple #[])∧PlyE w0 pb bb (.slice a0 1024 c0) (.slice a1 1024 c1) (.slice a2 1024 c2) (if A.tmod 3=0 then { p with h:=hst0 i (p.n+1),n:=p.n+1 } else p) w':=by
 have HP:=Z0a (fun w'=>hpk K 14 hK.1 hK.2 (by omega) (by omega) w')
 rw [hk] at HP
 obtain ⟨W1,hW1,k0,am⟩:=AM.begin m K A B
 have HT:=Z0a (Z4i pb bb a0 a1 a2 c0 c1 c2 i p w0 W1 hn hI hw am.p.b ⟨am.p.l.1,am.p.l.2.1⟩ am.p.m.bare)
 have e2:=am.a1
 have HA:=Z0a am
 clear m am hk
 by_cases h3:A.tmod 3=0
 ·have h3b:(A.tmod 3 == 0)=true:=by rw [h3];rfl
  rw [if_pos h3]
  clear h3
  go_enter Tryz.func7,Tryz.ntmps7
  go_wp2_with (first | (go_at_call 6;refine (HP.out _).mono ?_;rintro e w1 ⟨rfl,rfl⟩) | (go_at_call 9;refine HT.out.mono ?_;rintro e w2 ⟨rfl,hh⟩;have HE:=Z0a hh;clear hh))
  refine bodyPost_ret (results_none rfl _ _ _) rfl ?_
  exact ⟨rfl,HE.out⟩
 ·have h3b:(A.tmod 3 == 0)=false:=by simpa using h3
  rw [if_neg h3]
  clear h3
  go_enter Tryz.func7,Tryz.ntmps7
  go_wp2_with (first | (go_at_call 6;refine (HP.out _).mono ?_;rintro e w1 ⟨rfl,rfl⟩))
  refine bodyPost_ret (results_none rfl _ _ _) rfl ?_
  exact ⟨rfl,_,_,HA.out.p⟩
theorem say_same {h:Hst}(he:(sayH h).2=[]):sayH h=(h,[]):=by
 unfold sayH at he ⊢
 split
 ·rfl
 ·rename_i h1
  rw [if_neg h1] at he
  exact absurd he (Z1E _)
theorem kact_quiet (hpk:PickIs)(w0 w:World)(pb bb hb lb:Nat)(i0 i1 i2:Value)(p:Ply)(m:PlyW w0 w pb bb hb lb i0 i1 i2 p)(K A B:Int)(hK:-9223372036854775808≤K∧K≤9223372036854775807)(k:Nat)(hk:pkF K 14=k)(hk9:k<9)(he:(sayH p.h).2=[]) :
  Calls Tryz.prog 7 #[.pointer (some ⟨pb,0,none⟩),.agg #[.int .i64 K,.int .i64 A,.int .i64 B]] w fun e w'=>e=.returned (.tuple #[])∧PlyE w0 pb bb i0 i1 i2 { p with h:=tickH p.h } w':=by
 have HP:=Z0a (fun w'=>hpk K 14 hK.1 hK.2 (by omega) (by omega) w')
 rw [hk] at HP
 obtain ⟨W1,hW1,k0,am⟩:=AM.begin m K A B
 have HS:=Z0a (Z12 hb lb p.h W1 am.p.m.h am.p.m.ok)
 rw [say_same he] at HS
 simp only at HS
 rw [show txt []=⟨#[]⟩ from rfl] at HS
 have e1:=am.p.m.c1
 have n9:((k:Int) == 9)=false:=by simp;omega
 have n10:((k:Int) == 10)=false:=by simp;omega
 have n11:((k:Int) == 11)=false:=by simp;omega
 have n12:((k:Int) == 12)=false:=by simp;omega
 have n13:((k:Int) == 13)=false:=by simp;omega
 have HA:=Z0a am
 clear m am hk he hk9
 go_enter Tryz.func7,Tryz.ntmps7
 go_wp2_with (first | (go_at_call 6;refine (HP.out _).mono ?_;rintro e w1 ⟨rfl,rfl⟩) | (go_at_call 22;refine HS.out.mono ?_;rintro e w2 ⟨rfl,hh,hg⟩;have am2:=HA.out.hostG hg hh HA.out.p.m.ok;have HT:=Z0a (Z7o hb lb p.h w2 am2.p.m.h am2.p.m.ok);have e2:=am2.p.m.c1;have HA2:=Z0a am2;clear hh hg am2) | (go_at_call 20;refine HT.out.mono ?_;rintro e w3 ⟨rfl,hh,hg⟩;have HE:=Z0a (HA2.out.hostG hg hh HA2.out.p.m.ok.tickH);clear hh hg))
 refine bodyPost_ret (results_none rfl _ _ _) rfl ?_
 exact ⟨rfl,_,_,HE.out.p⟩
theorem kact_quiet9 (hpk:PickIs)(w0 w:World)(pb bb hb lb:Nat)(i0 i1 i2:Value)(p:Ply)(m:PlyW w0 w pb bb hb lb i0 i1 i2 p)(K A B:Int)(hK:-9223372036854775808≤K∧K≤9223372036854775807)(hk:pkF K 14=9)(he:(sayH p.h).2=[])(hl1:p.late.length≤200)(hl2:p.lateB.length≤200)(hl3:(Z0b p p.late).2.length≤200) :
  Calls Tryz.prog 7 #[.pointer (some ⟨pb,0,none⟩),.agg #[.int .i64 K,.int .i64 A,.int .i64 B]] w fun e w'=>e=.returned (.tuple #[])∧PlyE w0 pb bb i0 i1 i2 (hostP (hostP (Z0b p p.late).1 (Z0b p p.late).2) p.lateB) w':=by
 have HP:=Z0a (fun w'=>hpk K 14 hK.1 hK.2 (by omega) (by omega) w')
 rw [hk] at HP
 obtain ⟨W1,hW1,k0,am⟩:=AM.begin m K A B
 have HS:=Z0a (Z12 hb lb p.h W1 am.p.m.h am.p.m.ok)
 rw [say_same he] at HS
 simp only at HS
 rw [show txt []=⟨#[]⟩ from rfl] at HS
 have hkp:=Z0T p p.late
 have hkh:(hostP (Z0b p p.late).1 (Z0b p p.late).2).lateB=p.lateB:=by
  unfold hostP
  split <;> exact hkp.2.2.2
 have HBd:=Z0a (fun w' (h:PlyM w' pb bb hb lb i0 i1 i2 p)=>Z1U p.late (by omega) pb bb hb lb i0 i1 i2 p w' h)
 obtain ⟨R,hR⟩:∃ R,Z0b p p.late=R:=⟨_,rfl⟩
 rw [hR] at HBd hkh hl3 hkp ⊢
 have HH1:=Z0a (fun w' (h:PlyM w' pb bb hb lb i0 i1 i2 R.1)=>Z2x R.2 (by omega) pb bb hb lb i0 i1 i2 R.1 w' h)
 obtain ⟨X,hX⟩:∃ X,hostP R.1 R.2=X:=⟨_,rfl⟩
 rw [hX] at HH1 hkh ⊢
 have HH2:=Z0a (fun w' (h:PlyM w' pb bb hb lb i0 i1 i2 X)=>Z2x p.lateB (by omega) pb bb hb lb i0 i1 i2 X w' h)
 have HK:=Z0a hkh
 have e1:=am.p.m.c1
 have HA:=Z0a am
 clear m am hk he hR hX hkp hkh hl1 hl2 hl3
 go_enter Tryz.func7,Tryz.ntmps7
 go_wp2_with (first | (go_at_call 6;refine (HP.out _).mono ?_;rintro e w1 ⟨rfl,rfl⟩) | (go_at_call 22;refine HS.out.mono ?_;rintro e w2 ⟨rfl,hh,hg⟩;have am2:=HA.out.hostG hg hh HA.out.p.m.ok;have e2:=am2.p.m.c5;have HA2:=Z0a am2;clear hh hg am2) | (go_at_call 24;refine (HBd.out _ HA2.out.p.m).mono ?_;rintro e w3 ⟨rfl,hh,hg⟩;have HA3:=Z0a (HA2.out.board hh hg);clear hh hg) | (go_at_call 23;refine (HH1.out _ HA3.out.p.m).mono ?_;rintro e w4 ⟨rfl,hh,hg⟩;have am4:=HA3.out.host hh hg;have e4:=am4.p.m.c6;rw [HK.out] at e4;have HA4:=Z0a am4;clear hh hg am4 HH1 HA3) | (go_at_call 23;refine (HH2.out _ HA4.out.p.m).mono ?_;rintro e w5 ⟨rfl,hh,hg⟩;have HE:=Z0a (HA4.out.host hh hg);clear hh hg))
 refine bodyPost_ret (results_none rfl _ _ _) rfl ?_
 exact ⟨rfl,_,_,HE.out.p⟩
theorem kact_said6 (hpk:PickIs)(w0 w:World)(pb bb hb lb:Nat)(i0 i1 i2:Value)(p:Ply)(m:PlyW w0 w pb bb hb lb i0 i1 i2 p)(K A B:Int)(hK:-9223372036854775808≤K∧K≤9223372036854775807)(hk:pkF K 14=6)(he:¬ (sayH p.h).2=[]) :
  Calls Tryz.prog 7 #[.pointer (some ⟨pb,0,none⟩),.agg #[.int .i64 K,.int .i64 A,.int .i64 B]] w fun e w'=>e=.returned (.tuple #[])∧PlyE w0 pb bb i0 i1 i2 ({ p with h:=(sayH p.h).1,late:=(sayH p.h).2 }:Ply) w':=by
 have HP:=Z0a (fun w'=>hpk K 14 hK.1 hK.2 (by omega) (by omega) w')
 rw [hk] at HP
 obtain ⟨W1,hW1,k0,am⟩:=AM.begin m K A B
 obtain ⟨ab,hab⟩:∃ ab,w.heap.size=ab:=⟨_,rfl⟩
 rw [hab] at am k0
 have HS:=Z0a (Z12 hb lb p.h W1 am.p.m.h am.p.m.ok)
 have hok:HOk (sayH p.h).1:=am.p.m.ok.sayH
 obtain ⟨S,hS⟩:∃ S,(sayH p.h).2=S:=⟨_,rfl⟩
 rw [hS] at HS he ⊢
 obtain ⟨H,hH⟩:∃ H,(sayH p.h).1=H:=⟨_,rfl⟩
 rw [hH] at HS hok ⊢
 have hne:(txt S).toList.isEmpty=false:=Z0I (txt S) (by rw [Z0k];exact List.length_pos_iff.2 he)
 obtain ⟨FS,hFS⟩:∃ FS,txt S=FS:=⟨_,rfl⟩
 have HLT:=Z0a (fun w2 (m2:AM w0 w2 pb bb hb lb ab i0 i1 i2 ⟨p.b,H,p.late,p.lateB,p.n⟩ A B)=>m2.setLate S)
 rw [hFS] at HS HLT hne
 have e1:=am.p.m.c1
 have HA:=Z0a am
 clear m am hk he hS hH hFS
 go_enter Tryz.func7,Tryz.ntmps7
 go_wp2_with (first | (go_at_call 6;refine (HP.out _).mono ?_;rintro e w1 ⟨rfl,rfl⟩) | (go_at_call 22;refine HS.out.mono ?_;rintro e w2 ⟨rfl,hh,hg⟩;have am2:=HA.out.hostG hg hh hok;have e2:=am2.p.m.c5;have f2:=am2.p.m.fz 5;have HA2:=Z0a (HLT.out w2 am2);clear hh hg am2))
 refine bodyPost_ret (results_none rfl _ _ _) rfl ?_
 exact ⟨rfl,_,_,HA2.out.p⟩
theorem kact_said7 (hpk:PickIs)(w0 w:World)(pb bb hb lb:Nat)(i0 i1 i2:Value)(p:Ply)(m:PlyW w0 w pb bb hb lb i0 i1 i2 p)(K A B:Int)(hK:-9223372036854775808≤K∧K≤9223372036854775807)(hk:pkF K 14=7)(he:¬ (sayH p.h).2=[])(hl1:(sayH p.h).2.length≤200) :
  Calls Tryz.prog 7 #[.pointer (some ⟨pb,0,none⟩),.agg #[.int .i64 K,.int .i64 A,.int .i64 B]] w fun e w'=>e=.returned (.tuple #[])∧PlyE w0 pb bb i0 i1 i2 (keepB (Z0b ({ p with h:=(sayH p.h).1,late:=(sayH p.h).2 }:Ply) (sayH p.h).2).1 (Z0b ({ p with h:=(sayH p.h).1,late:=(sayH p.h).2 }:Ply) (sayH p.h).2).2) w':=by
 have HP:=Z0a (fun w'=>hpk K 14 hK.1 hK.2 (by omega) (by omega) w')
 rw [hk] at HP
 obtain ⟨W1,hW1,k0,am⟩:=AM.begin m K A B
 obtain ⟨ab,hab⟩:∃ ab,w.heap.size=ab:=⟨_,rfl⟩
 rw [hab] at am k0
 have HS:=Z0a (Z12 hb lb p.h W1 am.p.m.h am.p.m.ok)
 have hok:HOk (sayH p.h).1:=am.p.m.ok.sayH
 obtain ⟨S,hS⟩:∃ S,(sayH p.h).2=S:=⟨_,rfl⟩
 rw [hS] at HS he hl1 ⊢
 obtain ⟨H,hH⟩:∃ H,(sayH p.h).1=H:=⟨_,rfl⟩
 rw [hH] at HS hok ⊢
 have hne:(txt S).toList.isEmpty=false:=Z0I (txt S) (by rw [Z0k];exact List.length_pos_iff.2 he)
 obtain ⟨FS,hFS⟩:∃ FS,txt S=FS:=⟨_,rfl⟩
 have HLT:=Z0a (fun w2 (m2:AM w0 w2 pb bb hb lb ab i0 i1 i2 ⟨p.b,H,p.late,p.lateB,p.n⟩ A B)=>m2.setLate S)
 obtain ⟨P2,hP2⟩:∃ P2:Ply,(⟨p.b,H,S,p.lateB,p.n⟩:Ply)=P2:=⟨_,rfl⟩
 have hP2':({ p with h:=H,late:=S }:Ply)=P2:=hP2
 rw [hP2']
 rw [show (⟨(⟨p.b,H,p.late,p.lateB,p.n⟩:Ply).b,(⟨p.b,H,p.late,p.lateB,p.n⟩:Ply).h,S,(⟨p.b,H,p.late,p.lateB,p.n⟩:Ply).lateB,(⟨p.b,H,p.late,p.lateB,p.n⟩:Ply).n⟩:Ply)=P2 from hP2] at HLT
 have HBd:=Z0a (fun w' (h:PlyM w' pb bb hb lb i0 i1 i2 P2)=>Z1U S (by omega) pb bb hb lb i0 i1 i2 P2 w' h)
 obtain ⟨R,hR⟩:∃ R,Z0b P2 S=R:=⟨_,rfl⟩
 rw [hR] at HBd ⊢
 have HLB:=Z0a (fun w2 (m2:AM w0 w2 pb bb hb lb ab i0 i1 i2 R.1 A B)=>m2.setLateB R.2)
 obtain ⟨Y,hY⟩:∃ Y,keepB R.1 R.2=Y:=⟨_,rfl⟩
 rw [hY]
 rw [hFS] at HS HLT hne HBd
 have e1:=am.p.m.c1
 have HA:=Z0a am
 by_cases hr:R.2=[]
 ·have HYE:Hid (R.1=Y):=by rw [←hY];exact (if_pos hr).symm
  have hTT:txt R.2=⟨#[]⟩:=by rw [hr];rfl
  rw [hTT] at HBd
  clear hTT hr hY m am hk he hS hH hFS hl1 hR hP2 hP2'
  go_enter Tryz.func7,Tryz.ntmps7
  go_wp2_with (first | (go_at_call 6;refine (HP.out _).mono ?_;rintro e w1 ⟨rfl,rfl⟩) | (go_at_call 22;refine HS.out.mono ?_;rintro e w2 ⟨rfl,hh,hg⟩;have am2:=HA.out.hostG hg hh hok;have e2:=am2.p.m.c5;have f2:=am2.p.m.fz 5;obtain ⟨W3,hW3⟩:∃ W,w2.setCell ⟨pb,5,none⟩ (.string FS)=W:=⟨_,rfl⟩;have am3:=HLT.out w2 am2;rw [hW3] at am3;have g1:=am3.a1;have g2:=am3.a2;have HA3:=Z0a am3;clear hh hg am2 am3) | (go_at_call 24;refine (HBd.out _ HA3.out.p.m).mono ?_;rintro e w4 ⟨rfl,hh,hg⟩;have am4:=HA3.out.board hh hg;have am5:=am4;rw [HYE.out] at am5;have y1:=am5.a1;have y2:=am5.a2;have HA5:=Z0a am5;clear am5;clear hh hg am4))
  refine bodyPost_ret (results_none rfl _ _ _) rfl ?_
  exact ⟨rfl,_,_,HA5.out.p⟩
 ·have HYE:Hid ((⟨R.1.b,R.1.h,R.1.late,R.2,R.1.n⟩:Ply)=Y):=by rw [←hY];exact (if_neg hr).symm
  have hTne:(txt R.2).toList.isEmpty=false:=Z0I (txt R.2) (by rw [Z0k];exact List.length_pos_iff.2 hr)
  obtain ⟨TT,hTT⟩:∃ TT,txt R.2=TT:=⟨_,rfl⟩
  rw [hTT] at hTne HLB
  rw [hTT] at HBd
  clear hTT hr hY m am hk he hS hH hFS hl1 hR hP2 hP2'
  go_enter Tryz.func7,Tryz.ntmps7
  go_wp2_with (first | (go_at_call 6;refine (HP.out _).mono ?_;rintro e w1 ⟨rfl,rfl⟩) | (go_at_call 22;refine HS.out.mono ?_;rintro e w2 ⟨rfl,hh,hg⟩;have am2:=HA.out.hostG hg hh hok;have e2:=am2.p.m.c5;have f2:=am2.p.m.fz 5;obtain ⟨W3,hW3⟩:∃ W,w2.setCell ⟨pb,5,none⟩ (.string FS)=W:=⟨_,rfl⟩;have am3:=HLT.out w2 am2;rw [hW3] at am3;have g1:=am3.a1;have g2:=am3.a2;have HA3:=Z0a am3;clear hh hg am2 am3) | (go_at_call 24;refine (HBd.out _ HA3.out.p.m).mono ?_;rintro e w4 ⟨rfl,hh,hg⟩;have am4:=HA3.out.board hh hg;have y5:=am4.p.m.c6;have y6:=am4.p.m.fz 6;obtain ⟨W5,hW5⟩:∃ W,w4.setCell ⟨pb,6,none⟩ (.string TT)=W:=⟨_,rfl⟩;have am5:=HLB.out w4 am4;rw [HYE.out,hW5] at am5;have y1:=am5.a1;have y2:=am5.a2;have HA5:=Z0a am5;clear am5;clear hh hg am4))
  refine bodyPost_ret (results_none rfl _ _ _) rfl ?_
  exact ⟨rfl,_,_,HA5.out.p⟩
theorem kact_said8e (hpk:PickIs)(w0 w:World)(pb bb hb lb:Nat)(i0 i1 i2:Value)(p:Ply)(m:PlyW w0 w pb bb hb lb i0 i1 i2 p)(K A B:Int)(hK:-9223372036854775808≤K∧K≤9223372036854775807)(hsp:SpoiltIs)(hA:-9223372036854775808≤A∧A≤9223372036854775807)(hB:-9223372036854775808≤B∧B≤9223372036854775807)(hpar:A.tmod 2=0)(hk:pkF K 14=8)(he:¬ (sayH p.h).2=[])(hl1:(sayH p.h).2.length≤200)(hl2:(Z0b ({ p with h:=(sayH p.h).1,late:=(sayH p.h).2 }:Ply) (Z0Y (sayH p.h).2 (A.tdiv 2) B)).2.length≤200) :
  Calls Tryz.prog 7 #[.pointer (some ⟨pb,0,none⟩),.agg #[.int .i64 K,.int .i64 A,.int .i64 B]] w fun e w'=>e=.returned (.tuple #[])∧PlyE w0 pb bb i0 i1 i2 (hostP (keepB (Z0b ({ p with h:=(sayH p.h).1,late:=(sayH p.h).2 }:Ply) (Z0Y (sayH p.h).2 (A.tdiv 2) B)).1 (Z0b ({ p with h:=(sayH p.h).1,late:=(sayH p.h).2 }:Ply) (Z0Y (sayH p.h).2 (A.tdiv 2) B)).2) (Z0b ({ p with h:=(sayH p.h).1,late:=(sayH p.h).2 }:Ply) (Z0Y (sayH p.h).2 (A.tdiv 2) B)).2) w':=by
 have HP:=Z0a (fun w'=>hpk K 14 hK.1 hK.2 (by omega) (by omega) w')
 rw [hk] at HP
 obtain ⟨W1,hW1,k0,am⟩:=AM.begin m K A B
 obtain ⟨ab,hab⟩:∃ ab,w.heap.size=ab:=⟨_,rfl⟩
 rw [hab] at am k0
 have HS:=Z0a (Z12 hb lb p.h W1 am.p.m.h am.p.m.ok)
 have hok:HOk (sayH p.h).1:=am.p.m.ok.sayH
 obtain ⟨S,hS⟩:∃ S,(sayH p.h).2=S:=⟨_,rfl⟩
 rw [hS] at HS he hl1 hl2 ⊢
 obtain ⟨H,hH⟩:∃ H,(sayH p.h).1=H:=⟨_,rfl⟩
 rw [hH] at HS hok hl2 ⊢
 have hne:(txt S).toList.isEmpty=false:=Z0I (txt S) (by rw [Z0k];exact List.length_pos_iff.2 he)
 obtain ⟨FS,hFS⟩:∃ FS,txt S=FS:=⟨_,rfl⟩
 have HLT:=Z0a (fun w2 (m2:AM w0 w2 pb bb hb lb ab i0 i1 i2 ⟨p.b,H,p.late,p.lateB,p.n⟩ A B)=>m2.setLate S)
 obtain ⟨P2,hP2⟩:∃ P2:Ply,(⟨p.b,H,S,p.lateB,p.n⟩:Ply)=P2:=⟨_,rfl⟩
 have hP2':({ p with h:=H,late:=S }:Ply)=P2:=hP2
 rw [hP2'] at hl2 ⊢
 rw [show (⟨(⟨p.b,H,p.late,p.lateB,p.n⟩:Ply).b,(⟨p.b,H,p.late,p.lateB,p.n⟩:Ply).h,S,(⟨p.b,H,p.late,p.lateB,p.n⟩:Ply).lateB,(⟨p.b,H,p.late,p.lateB,p.n⟩:Ply).n⟩:Ply)=P2 from hP2] at HLT
 have hq1:=tdiv2_in hA
 obtain ⟨D2,hD2⟩:∃ D2,A.tdiv 2=D2:=⟨_,rfl⟩
 have hwd:IntKind.i64.wrap D2=D2:=by rw [IntKind.wrap_i64];omega
 rw [hD2] at hl2 ⊢
 have hwd2:IntKind.i64.wrap (A.tdiv 2)=D2:=by rw [hD2];exact hwd
 have hpb:(A.tmod 2 == 0)=true:=by rw [hpar];rfl
 have hpb2:(A.tmod 2 != 0)=false:=by rw [hpar];rfl
 have HSP:=Z0a (fun w'=>hsp S D2 B w' (by rw [←hD2];exact hq1) hB (by omega))
 have hfl:(Z0Y S D2 B).length≤200:=Nat.le_trans (spoil_len S D2 B) hl1
 obtain ⟨f,hf⟩:∃ f,Z0Y S D2 B=f:=⟨_,rfl⟩
 rw [hf] at HSP hfl hl2 ⊢
 have HBd:=Z0a (fun w' (h:PlyM w' pb bb hb lb i0 i1 i2 P2)=>Z1U f (by omega) pb bb hb lb i0 i1 i2 P2 w' h)
 obtain ⟨R,hR⟩:∃ R,Z0b P2 f=R:=⟨_,rfl⟩
 rw [hR] at HBd hl2 ⊢
 have HLB:=Z0a (fun w2 (m2:AM w0 w2 pb bb hb lb ab i0 i1 i2 R.1 A B)=>m2.setLateB R.2)
 obtain ⟨Y,hY⟩:∃ Y,keepB R.1 R.2=Y:=⟨_,rfl⟩
 rw [hY]
 have HH:=Z0a (fun w' (h:PlyM w' pb bb hb lb i0 i1 i2 Y)=>Z2x R.2 (by omega) pb bb hb lb i0 i1 i2 Y w' h)
 obtain ⟨Z,hZ⟩:∃ Z,hostP Y R.2=Z:=⟨_,rfl⟩
 rw [hZ] at HH ⊢
 rw [hFS] at HS HLT hne HSP
 have e1:=am.p.m.c1
 have HA:=Z0a am
 by_cases hr:R.2=[]
 ·have HYE:Hid (R.1=Y):=by rw [←hY];exact (if_pos hr).symm
  have hTT:txt R.2=⟨#[]⟩:=by rw [hr];rfl
  rw [hTT] at HBd HH
  clear hTT hr hY m am hk he hS hH hFS hl1 hf hfl hpar hq1 hl2 hR hP2 hP2' hZ
  go_enter Tryz.func7,Tryz.ntmps7
  go_wp2_with (first | (go_at_call 6;refine (HP.out _).mono ?_;rintro e w1 ⟨rfl,rfl⟩) | (go_at_call 22;refine HS.out.mono ?_;rintro e w2 ⟨rfl,hh,hg⟩;have am2:=HA.out.hostG hg hh hok;have e2:=am2.p.m.c5;have f2:=am2.p.m.fz 5;obtain ⟨W3,hW3⟩:∃ W,w2.setCell ⟨pb,5,none⟩ (.string FS)=W:=⟨_,rfl⟩;have am3:=HLT.out w2 am2;rw [hW3] at am3;have g1:=am3.a1;have g2:=am3.a2;have HA3:=Z0a am3;clear hh hg am2 am3) | (go_at_call 25;refine (HSP.out _).mono ?_;rintro e w8 ⟨rfl,hq⟩;have am8:=HA3.out.below hq;have g8:=am8.a1;have g9:=am8.a2;have HA8:=Z0a am8;clear hq am8) | (go_at_call 24;refine (HBd.out _ HA8.out.p.m).mono ?_;rintro e w4 ⟨rfl,hh,hg⟩;have am4:=HA8.out.board hh hg;have am5:=am4;rw [HYE.out] at am5;have y1:=am5.a1;have y2:=am5.a2;have HA5:=Z0a am5;clear am5;clear hh hg am4) | (go_at_call 23;refine (HH.out _ HA5.out.p.m).mono ?_;rintro e w9 ⟨rfl,hh,hg⟩;have HA9:=Z0a (HA5.out.host hh hg);clear hh hg HH))
  go_end0
  exact ⟨rfl,_,_,HA9.out.p⟩
 ·have HYE:Hid ((⟨R.1.b,R.1.h,R.1.late,R.2,R.1.n⟩:Ply)=Y):=by rw [←hY];exact (if_neg hr).symm
  have hTne:(txt R.2).toList.isEmpty=false:=Z0I (txt R.2) (by rw [Z0k];exact List.length_pos_iff.2 hr)
  obtain ⟨TT,hTT⟩:∃ TT,txt R.2=TT:=⟨_,rfl⟩
  rw [hTT] at hTne HLB
  rw [hTT] at HBd HH
  clear hTT hr hY m am hk he hS hH hFS hl1 hf hfl hpar hq1 hl2 hR hP2 hP2' hZ
  go_enter Tryz.func7,Tryz.ntmps7
  go_wp2_with (first | (go_at_call 6;refine (HP.out _).mono ?_;rintro e w1 ⟨rfl,rfl⟩) | (go_at_call 22;refine HS.out.mono ?_;rintro e w2 ⟨rfl,hh,hg⟩;have am2:=HA.out.hostG hg hh hok;have e2:=am2.p.m.c5;have f2:=am2.p.m.fz 5;obtain ⟨W3,hW3⟩:∃ W,w2.setCell ⟨pb,5,none⟩ (.string FS)=W:=⟨_,rfl⟩;have am3:=HLT.out w2 am2;rw [hW3] at am3;have g1:=am3.a1;have g2:=am3.a2;have HA3:=Z0a am3;clear hh hg am2 am3) | (go_at_call 25;refine (HSP.out _).mono ?_;rintro e w8 ⟨rfl,hq⟩;have am8:=HA3.out.below hq;have g8:=am8.a1;have g9:=am8.a2;have HA8:=Z0a am8;clear hq am8) | (go_at_call 24;refine (HBd.out _ HA8.out.p.m).mono ?_;rintro e w4 ⟨rfl,hh,hg⟩;have am4:=HA8.out.board hh hg;have y5:=am4.p.m.c6;have y6:=am4.p.m.fz 6;obtain ⟨W5,hW5⟩:∃ W,w4.setCell ⟨pb,6,none⟩ (.string TT)=W:=⟨_,rfl⟩;have am5:=HLB.out w4 am4;rw [HYE.out,hW5] at am5;have y1:=am5.a1;have y2:=am5.a2;have HA5:=Z0a am5;clear am5;clear hh hg am4) | (go_at_call 23;refine (HH.out _ HA5.out.p.m).mono ?_;rintro e w9 ⟨rfl,hh,hg⟩;have HA9:=Z0a (HA5.out.host hh hg);clear hh hg HH))
  go_end0
  exact ⟨rfl,_,_,HA9.out.p⟩
theorem kact_said8o (hpk:PickIs)(w0 w:World)(pb bb hb lb:Nat)(i0 i1 i2:Value)(p:Ply)(m:PlyW w0 w pb bb hb lb i0 i1 i2 p)(K A B:Int)(hK:-9223372036854775808≤K∧K≤9223372036854775807)(hsp:SpoiltIs)(hA:-9223372036854775808≤A∧A≤9223372036854775807)(hB:-9223372036854775808≤B∧B≤9223372036854775807)(hpar:A.tmod 2≠0)(hk:pkF K 14=8)(he:¬ (sayH p.h).2=[])(hl1:(sayH p.h).2.length≤200)(hl2:(Z0b ({ p with h:=(sayH p.h).1,late:=(sayH p.h).2 }:Ply) (sayH p.h).2).2.length≤200) :
  Calls Tryz.prog 7 #[.pointer (some ⟨pb,0,none⟩),.agg #[.int .i64 K,.int .i64 A,.int .i64 B]] w fun e w'=>e=.returned (.tuple #[])∧PlyE w0 pb bb i0 i1 i2 (hostP (keepB (Z0b ({ p with h:=(sayH p.h).1,late:=(sayH p.h).2 }:Ply) (sayH p.h).2).1 (Z0b ({ p with h:=(sayH p.h).1,late:=(sayH p.h).2 }:Ply) (sayH p.h).2).2) (Z0Y (Z0b ({ p with h:=(sayH p.h).1,late:=(sayH p.h).2 }:Ply) (sayH p.h).2).2 (A.tdiv 2) B)) w':=by
 have HP:=Z0a (fun w'=>hpk K 14 hK.1 hK.2 (by omega) (by omega) w')
 rw [hk] at HP
 obtain ⟨W1,hW1,k0,am⟩:=AM.begin m K A B
 obtain ⟨ab,hab⟩:∃ ab,w.heap.size=ab:=⟨_,rfl⟩
 rw [hab] at am k0
 have HS:=Z0a (Z12 hb lb p.h W1 am.p.m.h am.p.m.ok)
 have hok:HOk (sayH p.h).1:=am.p.m.ok.sayH
 obtain ⟨S,hS⟩:∃ S,(sayH p.h).2=S:=⟨_,rfl⟩
 rw [hS] at HS he hl1 hl2 ⊢
 obtain ⟨H,hH⟩:∃ H,(sayH p.h).1=H:=⟨_,rfl⟩
 rw [hH] at HS hok hl2 ⊢
 have hne:(txt S).toList.isEmpty=false:=Z0I (txt S) (by rw [Z0k];exact List.length_pos_iff.2 he)
 obtain ⟨FS,hFS⟩:∃ FS,txt S=FS:=⟨_,rfl⟩
 have HLT:=Z0a (fun w2 (m2:AM w0 w2 pb bb hb lb ab i0 i1 i2 ⟨p.b,H,p.late,p.lateB,p.n⟩ A B)=>m2.setLate S)
 obtain ⟨P2,hP2⟩:∃ P2:Ply,(⟨p.b,H,S,p.lateB,p.n⟩:Ply)=P2:=⟨_,rfl⟩
 have hP2':({ p with h:=H,late:=S }:Ply)=P2:=hP2
 rw [hP2'] at hl2 ⊢
 rw [show (⟨(⟨p.b,H,p.late,p.lateB,p.n⟩:Ply).b,(⟨p.b,H,p.late,p.lateB,p.n⟩:Ply).h,S,(⟨p.b,H,p.late,p.lateB,p.n⟩:Ply).lateB,(⟨p.b,H,p.late,p.lateB,p.n⟩:Ply).n⟩:Ply)=P2 from hP2] at HLT
 have hq1:=tdiv2_in hA
 obtain ⟨D2,hD2⟩:∃ D2,A.tdiv 2=D2:=⟨_,rfl⟩
 have hwd:IntKind.i64.wrap D2=D2:=by rw [IntKind.wrap_i64];omega
 rw [hD2] at ⊢
 have hwd2:IntKind.i64.wrap (A.tdiv 2)=D2:=by rw [hD2];exact hwd
 have hpb:(A.tmod 2 == 0)=false:=by simpa using hpar
 have hpb2:(A.tmod 2 != 0)=true:=by simpa using hpar
 have HBd:=Z0a (fun w' (h:PlyM w' pb bb hb lb i0 i1 i2 P2)=>Z1U S (by omega) pb bb hb lb i0 i1 i2 P2 w' h)
 obtain ⟨R,hR⟩:∃ R,Z0b P2 S=R:=⟨_,rfl⟩
 rw [hR] at HBd hl2 ⊢
 have HSP:=Z0a (fun w'=>hsp R.2 D2 B w' (by rw [←hD2];exact hq1) hB (by omega))
 have hfl:(Z0Y R.2 D2 B).length≤200:=Nat.le_trans (spoil_len R.2 D2 B) hl2
 have HLB:=Z0a (fun w2 (m2:AM w0 w2 pb bb hb lb ab i0 i1 i2 R.1 A B)=>m2.setLateB R.2)
 obtain ⟨Y,hY⟩:∃ Y,keepB R.1 R.2=Y:=⟨_,rfl⟩
 rw [hY]
 have HH:=Z0a (fun w' (h:PlyM w' pb bb hb lb i0 i1 i2 Y)=>Z2x (Z0Y R.2 D2 B) (by omega) pb bb hb lb i0 i1 i2 Y w' h)
 obtain ⟨Z,hZ⟩:∃ Z,hostP Y (Z0Y R.2 D2 B)=Z:=⟨_,rfl⟩
 rw [hZ] at HH ⊢
 rw [hFS] at HS HLT hne HBd
 have e1:=am.p.m.c1
 have HA:=Z0a am
 by_cases hr:R.2=[]
 ·have HYE:Hid (R.1=Y):=by rw [←hY];exact (if_pos hr).symm
  have hTT:txt R.2=⟨#[]⟩:=by rw [hr];rfl
  rw [hTT] at HBd HSP
  clear hTT hr hY m am hk he hS hH hFS hl1 hfl hpar hq1 hl2 hR hP2 hP2' hZ
  go_enter Tryz.func7,Tryz.ntmps7
  go_wp2_with (first | (go_at_call 6;refine (HP.out _).mono ?_;rintro e w1 ⟨rfl,rfl⟩) | (go_at_call 22;refine HS.out.mono ?_;rintro e w2 ⟨rfl,hh,hg⟩;have am2:=HA.out.hostG hg hh hok;have e2:=am2.p.m.c5;have f2:=am2.p.m.fz 5;obtain ⟨W3,hW3⟩:∃ W,w2.setCell ⟨pb,5,none⟩ (.string FS)=W:=⟨_,rfl⟩;have am3:=HLT.out w2 am2;rw [hW3] at am3;have g1:=am3.a1;have g2:=am3.a2;have HA3:=Z0a am3;clear hh hg am2 am3) | (go_at_call 24;refine (HBd.out _ HA3.out.p.m).mono ?_;rintro e w4 ⟨rfl,hh,hg⟩;have am4:=HA3.out.board hh hg;have am5:=am4;rw [HYE.out] at am5;have y1:=am5.a1;have y2:=am5.a2;have HA5:=Z0a am5;clear am5;clear hh hg am4) | (go_at_call 25;refine (HSP.out _).mono ?_;rintro e w8 ⟨rfl,hq⟩;have HA8:=Z0a (HA5.out.below hq);clear hq) | (go_at_call 23;refine (HH.out _ HA8.out.p.m).mono ?_;rintro e w9 ⟨rfl,hh,hg⟩;have HA9:=Z0a (HA8.out.host hh hg);clear hh hg HH))
  go_end0
  exact ⟨rfl,_,_,HA9.out.p⟩
 ·have HYE:Hid ((⟨R.1.b,R.1.h,R.1.late,R.2,R.1.n⟩:Ply)=Y):=by rw [←hY];exact (if_neg hr).symm
  have hTne:(txt R.2).toList.isEmpty=false:=Z0I (txt R.2) (by rw [Z0k];exact List.length_pos_iff.2 hr)
  obtain ⟨TT,hTT⟩:∃ TT,txt R.2=TT:=⟨_,rfl⟩
  rw [hTT] at hTne HLB
  rw [hTT] at HBd HSP
  clear hTT hr hY m am hk he hS hH hFS hl1 hfl hpar hq1 hl2 hR hP2 hP2' hZ
  go_enter Tryz.func7,Tryz.ntmps7
  go_wp2_with (first | (go_at_call 6;refine (HP.out _).mono ?_;rintro e w1 ⟨rfl,rfl⟩) | (go_at_call 22;refine HS.out.mono ?_;rintro e w2 ⟨rfl,hh,hg⟩;have am2:=HA.out.hostG hg hh hok;have e2:=am2.p.m.c5;have f2:=am2.p.m.fz 5;obtain ⟨W3,hW3⟩:∃ W,w2.setCell ⟨pb,5,none⟩ (.string FS)=W:=⟨_,rfl⟩;have am3:=HLT.out w2 am2;rw [hW3] at am3;have g1:=am3.a1;have g2:=am3.a2;have HA3:=Z0a am3;clear hh hg am2 am3) | (go_at_call 24;refine (HBd.out _ HA3.out.p.m).mono ?_;rintro e w4 ⟨rfl,hh,hg⟩;have am4:=HA3.out.board hh hg;have y5:=am4.p.m.c6;have y6:=am4.p.m.fz 6;obtain ⟨W5,hW5⟩:∃ W,w4.setCell ⟨pb,6,none⟩ (.string TT)=W:=⟨_,rfl⟩;have am5:=HLB.out w4 am4;rw [HYE.out,hW5] at am5;have y1:=am5.a1;have y2:=am5.a2;have HA5:=Z0a am5;clear am5;clear hh hg am4) | (go_at_call 25;refine (HSP.out _).mono ?_;rintro e w8 ⟨rfl,hq⟩;have HA8:=Z0a (HA5.out.below hq);clear hq) | (go_at_call 23;refine (HH.out _ HA8.out.p.m).mono ?_;rintro e w9 ⟨rfl,hh,hg⟩;have HA9:=Z0a (HA8.out.host hh hg);clear hh hg HH))
  go_end0
  exact ⟨rfl,_,_,HA9.out.p⟩
end Go.Proofs.YthokdbcpkmcieabGreatDoor
