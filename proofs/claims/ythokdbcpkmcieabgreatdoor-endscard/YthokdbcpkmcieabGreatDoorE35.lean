/- BrdWA BrdWB BrdWC BrdWD BrdWE BrdWF -/
import Derived.Test.YthokdbcpkmcieabGreatDoorE34
set_option maxRecDepth 200000
set_option maxHeartbeats 8000000
namespace Go.Proofs.YthokdbcpkmcieabGreatDoor
open Go Go.RowKit
theorem Z8n (s:ByteArray)(k:Nat):(s.extract k s.size).data.toList=s.data.toList.drop k:=by
 rw [ByteArray.data_extract,Array.toList_extract]
 have h:s.size=s.data.toList.length:=(Array.length_toList (xs:=s.data)).symm
 rw [h,List.extract_eq_take_drop,List.take_of_length_le]
 rw [List.length_drop]
 exact Nat.le_refl _
theorem baB_take (s:ByteArray)(k:Nat):(s.extract 0 k).data.toList=s.data.toList.take k:=by
 rw [ByteArray.data_extract,Array.toList_extract,List.extract_eq_take_drop]
 simp
theorem do_page (p:Pow)(m:List UInt8)(rest:List UInt8):doF p m 2 rest=Z2w p m (rest.getD 0 0) (rest.drop 1):=rfl
theorem do_read (p:Pow)(m:List UInt8)(rest:List UInt8):doF p m 3 rest=((p,m,true),Z3d m (rest.getD 0 0)):=rfl
theorem do_state (p:Pow)(m:List UInt8)(rest:List UInt8):doF p m 4 rest=((p,m,true),[1,UInt8.ofNat (Z1D m/256),UInt8.ofNat (Z1D m%256)]):=rfl
theorem do_two_yes (bb:Nat)(p:Pow)(mem:List UInt8)(rest:ByteArray)(k:Nat)(w:World)(h:StoAt w bb p mem)(hu:Used mem k)(hrs:rest.size=65)(hok:(doF p mem 2 rest.data.toList).1.2.2=true) :
  Calls Tryz.prog 195 #[.pointer (some ⟨bb,0,none⟩),.int .u8 2,.string rest] w (Z3w w bb (doF p mem 2 rest.data.toList).1 (doF p mem 2 rest.data.toList).2):=by
 have hlt:=h.lt
 have hg:rest.data.toList.getD 0 0=rest[0]'(by omega):=Z0P rest 0 (by omega)
 have HP:=Z0a (fun w' (h':StoAt w' bb p mem)=>Z7C bb p mem (rest[0]'(by omega)) (rest.extract 1 rest.size) k w' h' hu (by simp only [ByteArray.size_extract];omega))
 rw [do_page,hg,← Z8n rest 1] at hok ⊢
 obtain ⟨q,hq⟩:∃ q,Z2w p mem (rest[0]'(by omega)) (rest.extract 1 rest.size).data.toList=q:=⟨_,rfl⟩
 rw [hq] at HP hok ⊢
 obtain ⟨⟨p1,m1,ok⟩,out⟩:=q
 simp only at HP hok ⊢
 subst hok
 obtain ⟨x,hx⟩:∃ x,rest[0]'(by omega)=x:=⟨_,rfl⟩
 rw [hx] at HP
 simp only [hrs] at HP
 have HS:=Z0a h
 clear hq h hu hg
 go_enter Tryz.func195,Tryz.ntmps195
 go_wp2_with fail
 go_region_with (go_at_call 247;refine (HP.out w.drew (HS.out.kept rfl (Nat.le_refl _))).mono ?_;rintro e wz ⟨he,h1,h2⟩;obtain rfl:=Z4Q he)
 all_goals
  have HZ:=Z0a (And.intro h1 ((Within.below (o:=1) (n:=1267) (below_drewN (Below.refl _ _) 1) hlt).trans h2))
  clear h1 h2 he
  go_wp2
  go_ret
  exact ⟨rfl,HZ.out.1,HZ.out.2⟩
theorem do_two_no (bb:Nat)(p:Pow)(mem:List UInt8)(rest:ByteArray)(k:Nat)(w:World)(h:StoAt w bb p mem)(hu:Used mem k)(hrs:rest.size=65)(hok:(doF p mem 2 rest.data.toList).1.2.2=false) :
  Calls Tryz.prog 195 #[.pointer (some ⟨bb,0,none⟩),.int .u8 2,.string rest] w (Z3w w bb (doF p mem 2 rest.data.toList).1 (doF p mem 2 rest.data.toList).2):=by
 have hlt:=h.lt
 have hg:rest.data.toList.getD 0 0=rest[0]'(by omega):=Z0P rest 0 (by omega)
 have HP:=Z0a (fun w' (h':StoAt w' bb p mem)=>Z7C bb p mem (rest[0]'(by omega)) (rest.extract 1 rest.size) k w' h' hu (by simp only [ByteArray.size_extract];omega))
 rw [do_page,hg,← Z8n rest 1] at hok ⊢
 obtain ⟨q,hq⟩:∃ q,Z2w p mem (rest[0]'(by omega)) (rest.extract 1 rest.size).data.toList=q:=⟨_,rfl⟩
 rw [hq] at HP hok ⊢
 obtain ⟨⟨p1,m1,ok⟩,out⟩:=q
 simp only at HP hok ⊢
 subst hok
 obtain ⟨x,hx⟩:∃ x,rest[0]'(by omega)=x:=⟨_,rfl⟩
 rw [hx] at HP
 simp only [hrs] at HP
 have HS:=Z0a h
 clear hq h hu hg
 have hent:∀ args w,(callFunc 247 args).run Tryz.prog w=.ok (.enter 247 args) w:=enters_of Tryz.func247 (by kernel_rfl) rfl
 have HX:Hid (∀ w',StoAt w' bb p1 m1→Within w.drew w' bb 1 1267→Z3w w bb (p1,m1,false) out (.panicked [{ v:=.iface 265 (.agg #[]),recovered:=false }]) w'):=by
  intro w' h1 h2
  exact ⟨rfl,h1,(Within.below (o:=1) (n:=1267) (below_drewN (Below.refl _ _) 1) hlt).trans h2⟩
 go_enter Tryz.func195,Tryz.ntmps195
 go_wp2_with fail
 go_region_law (refine Z1r (.string ⟨#[]⟩) 247 #[.pointer (some ⟨bb,0,none⟩),.int .u8 (x.toNat:Int),.string (rest.extract 1 65)] rfl (by simp [go_sem,hent]) _ (HP.out w.drew (HS.out.kept rfl (Nat.le_refl _))) (fun e w' hh=>⟨_,endT_no hh.1,rfl,HX.out w' hh.2.1 hh.2.2⟩) ?_;intro HFF)
 all_goals exact HFF.out.elim
theorem do_three (bb:Nat)(p:Pow)(mem:List UInt8)(rest:ByteArray)(w:World)(h:StoAt w bb p mem)(hrs:rest.size=1) :
  Calls Tryz.prog 195 #[.pointer (some ⟨bb,0,none⟩),.int .u8 3,.string rest] w (Z3w w bb (doF p mem 3 rest.data.toList).1 (doF p mem 3 rest.data.toList).2):=by
 have hlt:=h.lt
 have hg:rest.data.toList.getD 0 0=rest[0]'(by omega):=Z0P rest 0 (by omega)
 have HP:=Z0a (doRead_any bb p mem (rest[0]'(by omega)) w h)
 rw [do_read,hg]
 obtain ⟨x,hx⟩:∃ x,rest[0]'(by omega)=x:=⟨_,rfl⟩
 rw [hx] at HP ⊢
 obtain ⟨out,hout⟩:∃ out,Z3d mem x=out:=⟨_,rfl⟩
 rw [hout] at HP ⊢
 clear h hg hout
 go_enter Tryz.func195,Tryz.ntmps195
 go_wp2_with fail
 refine HP.out.mono ?_
 rintro e wz ⟨he,h1,h2⟩
 obtain rfl:=Z4Q he
 have HZ:=Z0a (And.intro h1 h2)
 clear h1 h2 he
 go_wp2
 go_ret
 exact ⟨rfl,HZ.out.1,HZ.out.2⟩
theorem do_four (bb:Nat)(p:Pow)(mem:List UInt8)(rest:ByteArray)(w:World)(h:StoAt w bb p mem) :
  Calls Tryz.prog 195 #[.pointer (some ⟨bb,0,none⟩),.int .u8 4,.string rest] w (Z3w w bb (doF p mem 4 rest.data.toList).1 (doF p mem 4 rest.data.toList).2):=by
 have hlt:=h.lt
 have HP:=Z0a (Z37 bb p mem w h)
 have hbl:Z1D mem<65536:=Z30 mem 16
 rw [do_state]
 obtain ⟨c,hc⟩:∃ c,Z1D mem=c:=⟨_,rfl⟩
 rw [hc] at HP hbl ⊢
 have HS:=Z0a h
 have HC:=Z0a (fun w'=>Z3p (l:=[UInt8.ofNat (c/256),UInt8.ofNat (c%256)]) (n:=2) rfl (own_two w' w'.heap.size (Nat.le_refl _) (UInt8.ofNat (c/256)) (UInt8.ofNat (c%256))))
 have k1:(UInt8.ofNat (c/256)).toNat=c/256:=by rw [UInt8.toNat_ofNat'];omega
 have k2:(UInt8.ofNat (c%256)).toNat=c%256:=by rw [UInt8.toNat_ofNat'];omega
 rw [k1,k2,show ((c/256:Nat):Int)=(c:Int)/256 by omega,show ((c%256:Nat):Int)=(c:Int)%256 by omega] at HC
 have hts:(txt [UInt8.ofNat (c/256),UInt8.ofNat (c%256)]).size=2:=Z0k _
 obtain ⟨st,hst⟩:∃ st,[UInt8.ofNat (c/256),UInt8.ofNat (c%256)]=st:=⟨_,rfl⟩
 have hss:([1,UInt8.ofNat (c/256),UInt8.ofNat (c%256)]:List UInt8)=[1]++st:=by rw [←hst];rfl
 rw [hst] at HC hts
 rw [hss]
 clear h hc k1 k2 hst hss
 go_enter Tryz.func195,Tryz.ntmps195
 go_wp2_with fail
 refine HP.out.mono ?_
 rintro e w1 ⟨rfl,hb1⟩
 have hcv:=HC.out w1
 have HZ:=Z0a hb1
 clear hb1 HC HP
 go_wp2
 go_ret
 refine ⟨?_,HS.out.below (HZ.out.trans ((Below.refl _ _).alloc HZ.out.size _)),Within.below (HZ.out.trans ((Below.refl _ _).alloc HZ.out.size _)) hlt⟩
 show Ending.returned (.string (txt [1]++txt st))=_
 rw [Z2T]
 rfl
theorem do_else (bb:Nat)(p:Pow)(mem:List UInt8)(asked:UInt8)(rest:ByteArray)(w:World)(h:StoAt w bb p mem)(e2:asked≠2)(e3:asked≠3)(e4:asked≠4) :
  Calls Tryz.prog 195 #[.pointer (some ⟨bb,0,none⟩),.int .u8 (asked.toNat:Int),.string rest] w (Z3w w bb (doF p mem asked rest.data.toList).1 (doF p mem asked rest.data.toList).2):=by
 have hx2:((asked.toNat:Int) == 2)=false:=(Z7c asked 2 (by decide)).trans (decide_eq_false e2)
 have hx3:((asked.toNat:Int) == 3)=false:=(Z7c asked 3 (by decide)).trans (decide_eq_false e3)
 have hx4:((asked.toNat:Int) == 4)=false:=(Z7c asked 4 (by decide)).trans (decide_eq_false e4)
 have hd:doF p mem asked rest.data.toList=((p,mem,true),[1]):=by unfold doF;rw [if_neg e2,if_neg e3,if_neg e4]
 rw [hd]
 have HS:=Z0a h
 clear h e2 e3 e4 hd
 go_enter Tryz.func195,Tryz.ntmps195
 go_wp2
 go_ret
 exact ⟨rfl,HS.out,Within.refl _ _ _ _⟩
theorem do_any (bb:Nat)(p:Pow)(mem:List UInt8)(asked:UInt8)(rest:ByteArray)(k:Nat)(w:World)(h:StoAt w bb p mem)(hu:Used mem k)(h2:asked=2→rest.size=65)(h3:asked=3→rest.size=1) :
  Calls Tryz.prog 195 #[.pointer (some ⟨bb,0,none⟩),.int .u8 (asked.toNat:Int),.string rest] w (Z3w w bb (doF p mem asked rest.data.toList).1 (doF p mem asked rest.data.toList).2):=by
 by_cases e2:asked=2
 ·subst e2
  by_cases hok:(doF p mem 2 rest.data.toList).1.2.2=true
  ·exact do_two_yes bb p mem rest k w h hu (h2 rfl) hok
  ·exact do_two_no bb p mem rest k w h hu (h2 rfl) (by simpa using hok)
 ·by_cases e3:asked=3
  ·subst e3;exact do_three bb p mem rest w h (h3 rfl)
  ·by_cases e4:asked=4
   ·subst e4;exact do_four bb p mem rest w h
   ·exact do_else bb p mem asked rest w h e2 e3 e4
structure TalkAt (w:World) (bb:Nat) (t:Talk):Prop where
 t0:w.cell? ⟨bb,1352,none⟩=some (.bool t.opn)
 t1:w.cell? ⟨bb,1353,none⟩=some (.int .u16 (t.ses:Int))
 t2:w.cell? ⟨bb,1354,none⟩=some (.int .u8 (t.num.toNat:Int))
 t3:w.cell? ⟨bb,1355,none⟩=some (.string (txt t.ans))
 fz:∀ j,w.frozen? ⟨bb,j,none⟩=false
theorem TalkAt.same {w w':World}{bb:Nat}{t:Talk}(h:TalkAt w bb t)(e:∀ j,1352≤j→j<1356→w'.cell? ⟨bb,j,none⟩=w.cell? ⟨bb,j,none⟩)(hf:∀ j,w'.frozen? ⟨bb,j,none⟩=w.frozen? ⟨bb,j,none⟩):TalkAt w' bb t :=
 ⟨(e _ (by omega) (by omega)).trans h.t0,(e _ (by omega) (by omega)).trans h.t1,(e _ (by omega) (by omega)).trans h.t2,(e _ (by omega) (by omega)).trans h.t3,fun j=>(hf j).trans (h.fz j)⟩
theorem TalkAt.within {w w':World}{bb:Nat}{t:Talk}(h:TalkAt w bb t)(hw:Within w w' bb 1 1267):TalkAt w' bb t:=h.same (fun j h1 _=>hw.cells j (by omega)) hw.fz
theorem TalkAt.kept {w w':World}{bb:Nat}{t:Talk}(h:TalkAt w bb t)(e:w'.heap[bb]?=w.heap[bb]?):TalkAt w' bb t :=
 h.same (fun j _ _=>World.cell?_of_block (a:=⟨bb,j,none⟩) e) (fun j=>World.frozen?_of_block (a:=⟨bb,j,none⟩) e)
structure KeptE (w w':World) (bb:Nat):Prop where
 grown:w.grownBy w' (some bb)
 cells:∀ j,j=0∨(1268≤j∧j<1352)→w'.cell? ⟨bb,j,none⟩=w.cell? ⟨bb,j,none⟩
 fz:∀ j,w'.frozen? ⟨bb,j,none⟩=w.frozen? ⟨bb,j,none⟩
theorem KeptE.refl (w:World)(bb:Nat):KeptE w w bb:=⟨Z05 _ _,fun _ _=>rfl,fun _=>rfl⟩
theorem KeptE.trans {w w1 w2:World}{bb:Nat}(h:KeptE w w1 bb)(h2:KeptE w1 w2 bb):KeptE w w2 bb :=
 ⟨h.grown.trans h2.grown,fun j hj=>(h2.cells j hj).trans (h.cells j hj),fun j=>(h2.fz j).trans (h.fz j)⟩
theorem Within.keptE {w w':World}{bb:Nat}(h:Within w w' bb 1 1267):KeptE w w' bb:=⟨h.grown,fun j hj=>h.cells j (by omega),h.fz⟩
theorem KeptE.set (w:World)(bb j:Nat)(v:Value)(h1:1352≤j):KeptE w (w.setCell ⟨bb,j,none⟩ v) bb :=
 ⟨Z0q _ _ _ _,fun k hk=>World.cell?_setCell_other _ _ _ _ (by simp <;> omega),fun k=>by simp⟩
theorem KeptE.below {w w':World}{bb:Nat}(hb:Below w.heap.size w w')(hl:bb<w.heap.size):KeptE w w' bb:=(Within.below (o:=1) (n:=1267) hb hl).keptE
theorem KeptE.drew {w w':World}{bb:Nat}(h:KeptE w w' bb):KeptE w w'.drew bb:=⟨Z5e h.grown,h.cells,h.fz⟩
theorem KeptE.drewN {w w':World}{bb:Nat}(h:KeptE w w' bb)(m:Nat):KeptE w (w'.drewN m) bb:=⟨Z3o h.grown m,h.cells,h.fz⟩
def Z60 (w:World) (bb:Nat) (r:Pow × List UInt8 × Talk × List UInt8 × Bool) (e:Ending) (w':World):Prop :=
 e=endTB r.2.2.2.2 r.2.2.2.1∧StoAt w' bb r.1 r.2.1∧TalkAt w' bb r.2.2.1∧KeptE w w' bb
theorem answer_none (bb:Nat)(p:Pow)(mem:List UInt8)(t:Talk)(q:ByteArray)(w:World)(h:StoAt w bb p mem)(ht:TalkAt w bb t)(hq:q.size≤4000000)(hk:Z16 q.data.toList=false) :
  Calls Tryz.prog 162 #[.pointer (some ⟨bb,0,none⟩),.string q] w (Z60 w bb (p,mem,t,[],true)):=by
 have HA:=Z0a (Z1Z q w hq)
 rw [hk] at HA
 have HS:=Z0a (And.intro h ht)
 clear h ht
 go_enter Tryz.func162,Tryz.ntmps162
 go_wp2_with fail
 refine HA.out.mono ?_
 rintro e w1 ⟨rfl,rfl⟩
 go_wp2
 go_ret
 exact ⟨rfl,HS.out.1,HS.out.2,KeptE.refl _ _⟩
theorem Z6O {q:ByteArray}(hk:Z16 q.data.toList=true):4≤q.size∧q.size≤69∧(q.data.toList.getD 3 0=2→q.size=69)∧(q.data.toList.getD 3 0=3→q.size=5):=by
 have hlen:q.data.toList.length=q.size:=by rw [Array.length_toList];rfl
 unfold Z16 at hk
 rw [hlen] at hk
 split at hk
 ·cases hk
 ·rename_i h4
  split at hk
  ·rename_i h1
   have:q.size=4:=by simpa using hk
   refine ⟨by omega,by omega,fun h=>?_,fun h=>?_⟩
   ·rw [h] at h1;exact absurd h1 (by decide)
   ·rw [h] at h1;exact absurd h1 (by decide)
  ·split at hk
   ·rename_i h2
    have:q.size=69:=by simpa using hk
    refine ⟨by omega,by omega,fun _=>this,fun h=>?_⟩
    rw [h] at h2;exact absurd h2 (by decide)
   ·rename_i h2
    split at hk
    ·have:q.size=5:=by simpa using hk
     exact ⟨by omega,by omega,fun h=>absurd h h2,fun _=>this⟩
    ·cases hk
theorem answer_still (bb:Nat)(p:Pow)(mem:List UInt8)(t:Talk)(q:ByteArray)(w:World)(h:StoAt w bb p mem)(ht:TalkAt w bb t)(_hts:t.ses<65536)(hk:Z16 q.data.toList=true)(h1:q.data.toList.getD 3 0≠1)
  (hway:(t.opn=false∨Z0C q.data.toList≠t.ses)∨q.data.toList.getD 2 0=t.num∨q.data.toList.getD 2 0≠t.num+1) :
  Calls Tryz.prog 162 #[.pointer (some ⟨bb,0,none⟩),.string q] w (Z60 w bb (Z0e p mem t q.data.toList)):=by
 obtain ⟨k1,k2,k3,k4⟩:=Z6O hk
 have HA:=Z0a (Z1Z q w (by omega))
 rw [hk] at HA
 have g0:q.data.toList.getD 0 0=q[0]'(by omega):=Z0P q 0 (by omega)
 have g1:q.data.toList.getD 1 0=q[1]'(by omega):=Z0P q 1 (by omega)
 have g2:q.data.toList.getD 2 0=q[2]'(by omega):=Z0P q 2 (by omega)
 have g3:q.data.toList.getD 3 0=q[3]'(by omega):=Z0P q 3 (by omega)
 have hs:Z0C q.data.toList=(q[0]'(by omega)).toNat*256+(q[1]'(by omega)).toNat:=by unfold Z0C;rw [g0,g1]
 have HF:=Z0a (show Z0e p mem t q.data.toList=(p,mem,t,if (t.opn=false∨Z0C q.data.toList≠t.ses) then [] else if q.data.toList.getD 2 0=t.num then t.ans else [],true) by
  unfold Z0e
  rw [if_neg (by rw [hk];simp)]
  by_cases c1:t.opn=false∨Z0C q.data.toList≠t.ses
  ·rw [if_pos ⟨h1,c1⟩,if_pos c1]
  ·rw [if_neg (fun e=>c1 e.2),if_neg c1]
   by_cases c2:q.data.toList.getD 2 0=t.num
   ·rw [if_pos ⟨h1,c2⟩,if_pos c2]
   ·have c3:q.data.toList.getD 2 0≠t.num+1:=by
     rcases hway with h | h | h
     ·exact absurd h c1
     ·exact absurd h c2
     ·exact h
    rw [if_neg (fun e=>c2 e.2),if_pos ⟨h1,c3⟩,if_neg c2])
 rw [HF.out]
 rw [g2,hs] at hway ⊢
 rw [g3] at h1
 obtain ⟨x0,hx0⟩:∃ x,q[0]'(by omega)=x:=⟨_,rfl⟩
 obtain ⟨x1,hx1⟩:∃ x,q[1]'(by omega)=x:=⟨_,rfl⟩
 obtain ⟨x2,hx2⟩:∃ x,q[2]'(by omega)=x:=⟨_,rfl⟩
 obtain ⟨x3,hx3⟩:∃ x,q[3]'(by omega)=x:=⟨_,rfl⟩
 rw [hx2,hx0,hx1] at hway ⊢
 rw [hx3] at h1
 have hl0:=x0.toNat_lt
 have hl1:=x1.toNat_lt
 have hor:=Z3A (x0.toNat:Int) (x1.toNat:Int) (by omega) (by omega) (by omega) (by omega)
 have hn1:((x3.toNat:Int) == 1)=false:=(Z7c x3 1 (by decide)).trans (decide_eq_false h1)
 have t0:=ht.t0
 have t1:=ht.t1
 have t2:=ht.t2
 have t3:=ht.t3
 have HS:=Z0a (And.intro h ht)
 have q4:(4:Int)≤(q.size:Int):=by omega
 have q69:(q.size:Int)≤69:=by omega
 clear h ht HF hk g0 g1 g2 g3 hs k3 k4 h1
 by_cases c0:t.opn=false
 ·rw [if_pos (.inl c0)]
  rw [c0] at t0
  clear hway
  go_enter Tryz.func162,Tryz.ntmps162
  go_wp2_with fail
  refine HA.out.mono ?_
  rintro e w1 ⟨rfl,rfl⟩
  go_wp2
  go_quiet (fail)
  go_wp2
  go_quiet (fail)
  go_wp2
  go_ret
  exact ⟨rfl,HS.out.1.kept rfl (Nat.le_refl _),HS.out.2.kept rfl,(KeptE.refl _ _).drewN _⟩
 ·have c0':t.opn=true:=by simpa using c0
  rw [c0'] at t0
  by_cases cs:x0.toNat*256+x1.toNat=t.ses
  ·rw [if_neg (fun e=>e.elim c0 (fun e=>e cs))]
   have hse:((256:Int)*(x0.toNat:Int)+(x1.toNat:Int) != (t.ses:Int))=false:=by simp;omega
   obtain ⟨nx,hnx⟩:∃ nx,(t.num+1).toNat=nx:=⟨_,rfl⟩
   have hnl:=t.num.toNat_lt
   have hwr:IntKind.u8.wrap ((t.num.toNat:Int)+1)=(nx:Int):=by
    rw [←hnx,UInt8.toNat_add,IntKind.wrap_u8]
    show _=(((t.num.toNat+1)%256:Nat):Int)
    omega
   by_cases cn:x2=t.num
   ·rw [if_pos cn]
    have hsa:((x2.toNat:Int) == (t.num.toNat:Int))=true:=by rw [cn];simp
    clear hway hnx
    go_enter Tryz.func162,Tryz.ntmps162
    go_wp2_with fail
    refine HA.out.mono ?_
    rintro e w1 ⟨rfl,rfl⟩
    go_wp2
    go_quiet (fail)
    go_wp2
    go_quiet (fail)
    go_wp2
    go_ret
    exact ⟨rfl,HS.out.1.kept rfl (Nat.le_refl _),HS.out.2.kept rfl,(KeptE.refl _ _).drewN _⟩
   ·rw [if_neg cn]
    have hsa:((x2.toNat:Int) == (t.num.toNat:Int))=false:=(int_eq x2 t.num).trans (decide_eq_false cn)
    have cx:x2≠t.num+1:=by
     rcases hway with h | h | h
     ·exact h.elim (fun e=>absurd e c0) (fun e=>absurd cs e)
     ·exact absurd h cn
     ·exact h
    have hnx2:((x2.toNat:Int) != (nx:Int))=true:=by
     have:¬ x2.toNat=nx:=fun e=>cx (UInt8.toNat_inj.1 (by rw [e,hnx]))
     simp;omega
    clear hway hnx cx
    go_enter Tryz.func162,Tryz.ntmps162
    go_wp2_with fail
    refine HA.out.mono ?_
    rintro e w1 ⟨rfl,rfl⟩
    go_wp2
    go_quiet (fail)
    go_wp2
    go_quiet (fail)
    go_wp2
    go_ret
    exact ⟨rfl,HS.out.1.kept rfl (Nat.le_refl _),HS.out.2.kept rfl,(KeptE.refl _ _).drewN _⟩
  ·rw [if_pos (.inr cs)]
   have hse:((256:Int)*(x0.toNat:Int)+(x1.toNat:Int) != (t.ses:Int))=true:=by simp;omega
   clear hway
   go_enter Tryz.func162,Tryz.ntmps162
   go_wp2_with fail
   refine HA.out.mono ?_
   rintro e w1 ⟨rfl,rfl⟩
   go_wp2
   go_quiet (fail)
   go_wp2
   go_quiet (fail)
   go_wp2
   go_ret
   exact ⟨rfl,HS.out.1.kept rfl (Nat.le_refl _),HS.out.2.kept rfl,(KeptE.refl _ _).drewN _⟩
theorem doF_out (p:Pow)(m:List UInt8)(a:UInt8)(rest:List UInt8)(hm:m.length=1264):(doF p m a rest).2.length≤65:=by
 unfold doF
 split
 ·split <;> simp
 ·split
  ·simp only
   split
   ·rename_i h
    have:=Z2A hm (rest.getD 0 0).toNat (u16 h.1)
    simp only [List.length_cons]
    omega
   ·simp
  ·split <;> simp
theorem StoAt.setOut {w:World}{bb:Nat}{p:Pow}{mem:List UInt8}(h:StoAt w bb p mem)(j:Nat)(hj:1268≤j)(v:Value):StoAt (w.setCell ⟨bb,j,none⟩ v) bb p mem :=
 h.same (fun k _ hk=>World.cell?_setCell_other _ _ _ _ (by simp <;> omega)) (fun k=>by simp) (by simp [World.setCell])
theorem StoAt.drewN {w:World}{bb:Nat}{p:Pow}{mem:List UInt8}(h:StoAt w bb p mem)(m:Nat):StoAt (w.drewN m) bb p mem:=h.kept rfl (Nat.le_refl _)
theorem StoAt.drew {w:World}{bb:Nat}{p:Pow}{mem:List UInt8}(h:StoAt w bb p mem):StoAt w.drew bb p mem:=h.kept rfl (Nat.le_refl _)
theorem TalkAt.drewN {w:World}{bb:Nat}{t:Talk}(h:TalkAt w bb t)(m:Nat):TalkAt (w.drewN m) bb t:=h.kept rfl
theorem TalkAt.drew {w:World}{bb:Nat}{t:Talk}(h:TalkAt w bb t):TalkAt w.drew bb t:=h.kept rfl
theorem TalkAt.setOpn {w:World}{bb:Nat}{t:Talk}(h:TalkAt w bb t)(b:Bool):TalkAt (w.setCell ⟨bb,1352,none⟩ (.bool b)) bb ⟨b,t.ses,t.num,t.ans⟩ :=
 ⟨World.cell?_setCell_same _ _ _ h.t0,(World.cell?_setCell_other _ _ _ _ (by simp)).trans h.t1,(World.cell?_setCell_other _ _ _ _ (by simp)).trans h.t2,(World.cell?_setCell_other _ _ _ _ (by simp)).trans h.t3,fun j=>by simp [h.fz j]⟩
theorem TalkAt.setSes {w:World}{bb:Nat}{t:Talk}(h:TalkAt w bb t)(s:Nat)(v:Value)(hv:v=.int .u16 (s:Int)):TalkAt (w.setCell ⟨bb,1353,none⟩ v) bb ⟨t.opn,s,t.num,t.ans⟩:=by
 subst hv
 exact ⟨(World.cell?_setCell_other _ _ _ _ (by simp)).trans h.t0,World.cell?_setCell_same _ _ _ h.t1,(World.cell?_setCell_other _ _ _ _ (by simp)).trans h.t2,(World.cell?_setCell_other _ _ _ _ (by simp)).trans h.t3,fun j=>by simp [h.fz j]⟩
theorem TalkAt.setNum {w:World}{bb:Nat}{t:Talk}(h:TalkAt w bb t)(n:UInt8):TalkAt (w.setCell ⟨bb,1354,none⟩ (.int .u8 (n.toNat:Int))) bb ⟨t.opn,t.ses,n,t.ans⟩ :=
 ⟨(World.cell?_setCell_other _ _ _ _ (by simp)).trans h.t0,(World.cell?_setCell_other _ _ _ _ (by simp)).trans h.t1,World.cell?_setCell_same _ _ _ h.t2,(World.cell?_setCell_other _ _ _ _ (by simp)).trans h.t3,fun j=>by simp [h.fz j]⟩
theorem TalkAt.setAns {w:World}{bb:Nat}{t:Talk}(h:TalkAt w bb t)(a:List UInt8):TalkAt (w.setCell ⟨bb,1355,none⟩ (.string (txt a))) bb ⟨t.opn,t.ses,t.num,a⟩ :=
 ⟨(World.cell?_setCell_other _ _ _ _ (by simp)).trans h.t0,(World.cell?_setCell_other _ _ _ _ (by simp)).trans h.t1,(World.cell?_setCell_other _ _ _ _ (by simp)).trans h.t2,World.cell?_setCell_same _ _ _ h.t3,fun j=>by simp [h.fz j]⟩
theorem frame_of (q:ByteArray)(out:List UInt8)(h3:3≤q.size)(ho:out.length≤65)(w:World):Calls Tryz.prog 101 #[.string (q.extract 0 3++txt out)] w fun e w'=>e=.returned (.tuple #[.string (txt (Z0c (q.data.toList.take 3++out))),.int .i64 0])∧Below w.heap.size w w':=by
 have hs:(q.extract 0 3++txt out).size=3+out.length:=by
  rw [ByteArray.size_append,ByteArray.size_extract,Z0k];omega
 have hd:(q.extract 0 3++txt out).data.toList=q.data.toList.take 3++out:=by
  rw [ByteArray.data_append,Array.toList_append,baB_take];rfl
 have:=frame_any (q.extract 0 3++txt out) w (by omega) (by omega)
 rw [hd] at this
 exact this
theorem answer_open (bb:Nat)(p:Pow)(mem:List UInt8)(t:Talk)(q:ByteArray)(k:Nat)(w:World)(h:StoAt w bb p mem)(_hu:Used mem k)(ht:TalkAt w bb t)(hk:Z16 q.data.toList=true)(h1:q.data.toList.getD 3 0=1) :
  Calls Tryz.prog 162 #[.pointer (some ⟨bb,0,none⟩),.string q] w (Z60 w bb (Z0e p mem t q.data.toList)):=by
 obtain ⟨k1,k2,k3,k4⟩:=Z6O hk
 have HA:=Z0a (Z1Z q w (by omega))
 rw [hk] at HA
 have hlt:=h.lt
 have g0:q.data.toList.getD 0 0=q[0]'(by omega):=Z0P q 0 (by omega)
 have g1:q.data.toList.getD 1 0=q[1]'(by omega):=Z0P q 1 (by omega)
 have g2:q.data.toList.getD 2 0=q[2]'(by omega):=Z0P q 2 (by omega)
 have g3:q.data.toList.getD 3 0=q[3]'(by omega):=Z0P q 3 (by omega)
 have hs:Z0C q.data.toList=(q[0]'(by omega)).toNat*256+(q[1]'(by omega)).toNat:=by unfold Z0C;rw [g0,g1]
 have hF:Z0e p mem t q.data.toList=(p,mem,⟨true,Z0C q.data.toList,q.data.toList.getD 2 0,Z0c (q.data.toList.take 3 ++ [1])⟩,Z0c (q.data.toList.take 3 ++ [1]),true):=by
  unfold Z0e
  rw [if_neg (by rw [hk];simp),if_neg (fun e=>e.1 h1),if_neg (fun e=>e.1 h1),if_neg (fun e=>e.1 h1),h1]
  rfl
 rw [hF,g2,hs]
 rw [g3] at h1
 obtain ⟨x0,hx0⟩:∃ x,q[0]'(by omega)=x:=⟨_,rfl⟩
 obtain ⟨x1,hx1⟩:∃ x,q[1]'(by omega)=x:=⟨_,rfl⟩
 obtain ⟨x2,hx2⟩:∃ x,q[2]'(by omega)=x:=⟨_,rfl⟩
 rw [hx2,hx0,hx1]
 have hl0:=x0.toNat_lt
 have hl1:=x1.toNat_lt
 have hor:=Z3A (x0.toNat:Int) (x1.toNat:Int) (by omega) (by omega) (by omega) (by omega)
 have t0:=ht.t0
 have t1:=ht.t1
 have t2:=ht.t2
 have t3:=ht.t3
 have f0:=ht.fz 1352
 have f1:=ht.fz 1353
 have f2:=ht.fz 1354
 have f3:=ht.fz 1355
 have HS:=Z0a (And.intro h ht)
 have q4:(4:Int)≤(q.size:Int):=by omega
 have q69:(q.size:Int)≤69:=by omega
 have HD:Hid (∀ w',StoAt w' bb p mem→Calls Tryz.prog 195 #[.pointer (some ⟨bb,0,none⟩),.int .u8 1,.string (q.extract 4 q.size)] w' (Z3w w' bb (p,mem,true) [1])):=fun w' h'=>do_else bb p mem 1 (q.extract 4 q.size) w' h' (by decide) (by decide) (by decide)
 have HFR:=Z0a (fun w'=>frame_of q [1] (by omega) (by simp) w')
 obtain ⟨FR,hFR⟩:∃ FR,Z0c (q.data.toList.take 3 ++ [1])=FR:=⟨_,rfl⟩
 rw [hFR] at HFR ⊢
 have he3:(q.extract 0 3).size=3:=by rw [ByteArray.size_extract];omega
 have ht1:(txt [1]).size=1:=rfl
 clear h ht hF hk g0 g1 g2 g3 hs k3 k4 hFR
 go_enter Tryz.func162,Tryz.ntmps162
 go_wp2_with fail
 refine HA.out.mono ?_
 rintro e w1 ⟨rfl,rfl⟩
 go_wp2_with fail
 go_quiet (fail)
 go_wp2_with fail
 go_quiet (fail)
 go_wp2_with fail
 go_region_with (first | (go_at_call 195;refine (HD.out _ ((((HS.out.1.drewN _).setOut 1352 (by omega) _).setOut 1353 (by omega) _).setOut 1354 (by omega) _).drew).mono ?_;rintro e wz ⟨he,h1,h2⟩;obtain rfl:=Z4Q he;have hTz:=TalkAt.within ((((HS.out.2.drewN _).setOpn true).setSes (x0.toNat*256+x1.toNat) _ (by congr 1;omega)).setNum x2).drew h2;have HZ:=Z0a (And.intro h1 (And.intro hTz h2));clear h1 hTz h2) | (go_at_call 101;refine (HFR.out _).mono ?_;rintro e wy ⟨rfl,hby⟩;have c5:=(HZ.out.2.1.kept (hby.block bb HZ.out.1.lt)).t3;have f5:=(HZ.out.2.1.kept (hby.block bb HZ.out.1.lt)).fz 1355))
 all_goals
  go_wp2
  go_ret
  refine ⟨rfl,(HZ.out.1.below hby).setOut 1355 (by omega) _,(HZ.out.2.1.kept (hby.block bb HZ.out.1.lt)).setAns FR,?_⟩
  exact (((((((KeptE.refl _ bb).drewN _).trans (KeptE.set _ bb 1352 _ (by omega))).trans (KeptE.set _ bb 1353 _ (by omega))).trans (KeptE.set _ bb 1354 _ (by omega))).drew.trans HZ.out.2.2.keptE).trans (KeptE.below hby HZ.out.1.lt)).trans (KeptE.set _ bb 1355 _ (by omega))
theorem step_noneV {P:Program}{ops:Array Oper}{o:Oper}{a:Act}{w:World}{K:Act→World→Prop}{Q:Exit→Act→World→Prop}{E:Prop}(bv:Value)(hF:Hid False)(_:K (a.put o.dst bv) w):if Region.wanted o (yielded ops a.tmps)=true then Oper.wp P o a w K Q else E:=hF.out.elim
structure NextQ (bb:Nat) (p:Pow) (mem:List UInt8) (t:Talk) (q:ByteArray) (x0 x1 x2 x3:UInt8) (nx:Nat) (p1:Pow) (m1:List UInt8) (ok:Bool) (out:List UInt8):Prop where
 hl:4≤q.size∧q.size≤69
 i0:q.data.toList.getD 0 0=x0
 i1:q.data.toList.getD 1 0=x1
 i2:q.data.toList.getD 2 0=x2
 i3:q.data.toList.getD 3 0=x3
 n1:x3≠1
 nx:(t.num+1).toNat=nx
 opn:t.opn=true
 ses:x0.toNat*256+x1.toNat=t.ses
 num:x2=t.num+1
 ask:Z16 q.data.toList=true
 do_:∀ w',StoAt w' bb p mem→Calls Tryz.prog 195 #[.pointer (some ⟨bb,0,none⟩),.int .u8 (x3.toNat:Int),.string (q.extract 4 q.size)] w' (Z3w w' bb (p1,m1,ok) out)
 ol:out.length≤65
theorem next_yes (bb:Nat)(p:Pow)(mem:List UInt8)(t:Talk)(q:ByteArray)(x0 x1 x2 x3:UInt8)(nx:Nat)(p1:Pow)(m1:List UInt8)(out:List UInt8)(w:World)(h:StoAt w bb p mem)(ht:TalkAt w bb t)(N:NextQ bb p mem t q x0 x1 x2 x3 nx p1 m1 true out) :
  Calls Tryz.prog 162 #[.pointer (some ⟨bb,0,none⟩),.string q] w (Z60 w bb (p1,m1,⟨true,t.ses,x2,Z0c (q.data.toList.take 3++out)⟩,Z0c (q.data.toList.take 3++out),true)):=by
 obtain ⟨k1,k2⟩:=N.hl
 have HA:=Z0a (Z1Z q w (by omega))
 rw [N.ask] at HA
 have hlt:=h.lt
 have hx0:q[0]'(by omega)=x0:=(Z0P q 0 (by omega)).symm.trans N.i0
 have hx1:q[1]'(by omega)=x1:=(Z0P q 1 (by omega)).symm.trans N.i1
 have hx2:q[2]'(by omega)=x2:=(Z0P q 2 (by omega)).symm.trans N.i2
 have hx3:q[3]'(by omega)=x3:=(Z0P q 3 (by omega)).symm.trans N.i3
 have hl0:=x0.toNat_lt
 have hl1:=x1.toNat_lt
 have hor:=Z3A (x0.toNat:Int) (x1.toNat:Int) (by omega) (by omega) (by omega) (by omega)
 have hn1:((x3.toNat:Int) == 1)=false:=(Z7c x3 1 (by decide)).trans (decide_eq_false N.n1)
 have t0:=ht.t0
 rw [N.opn] at t0
 have t1:=ht.t1
 have t2:=ht.t2
 have t3:=ht.t3
 have f2:=ht.fz 1354
 have f3:=ht.fz 1355
 have hse:((256:Int)*(x0.toNat:Int)+(x1.toNat:Int) != (t.ses:Int))=false:=by have:=N.ses;simp;omega
 have hnl:=t.num.toNat_lt
 have hwr:IntKind.u8.wrap ((t.num.toNat:Int)+1)=(nx:Int):=by
  rw [←N.nx,UInt8.toNat_add,IntKind.wrap_u8]
  show _=(((t.num.toNat+1)%256:Nat):Int)
  omega
 have hx2n:x2.toNat=nx:=by rw [N.num];exact N.nx
 have hne:¬ x2.toNat=t.num.toNat:=by
  have h1:=N.nx
  rw [UInt8.toNat_add] at h1
  have h2:(t.num.toNat+1)%256=nx:=h1
  omega
 have hsa:((x2.toNat:Int) == (t.num.toNat:Int))=false:=by simp;omega
 have hnx2:((x2.toNat:Int) != (nx:Int))=false:=by simp;omega
 have HS:=Z0a (And.intro h ht)
 have q4:(4:Int)≤(q.size:Int):=by omega
 have q69:(q.size:Int)≤69:=by omega
 have HD:=Z0a N.do_
 have he3:(q.extract 0 3).size=3:=by rw [ByteArray.size_extract];omega
 have HO:=Z0a N.opn
 have HFR:=Z0a (fun w'=>frame_of q out (by omega) N.ol w')
 obtain ⟨FR,hFR⟩:∃ FR,Z0c (q.data.toList.take 3++out)=FR:=⟨_,rfl⟩
 rw [hFR] at HFR ⊢
 obtain ⟨ol,hol⟩:∃ ol,(txt out).size=ol:=⟨_,rfl⟩
 have hol65:ol≤65:=by rw [←hol,Z0k];exact N.ol
 clear h ht N hFR hx2n hne
 go_enter Tryz.func162,Tryz.ntmps162
 go_wp2_with fail
 refine HA.out.mono ?_
 rintro e w1 ⟨rfl,rfl⟩
 go_wp2_with fail
 go_quiet (fail)
 go_wp2_with fail
 go_quiet (fail)
 go_wp2_with fail
 go_region_with (first | (go_at_call 195;refine (HD.out _ ((HS.out.1.drewN _).setOut 1354 (by omega) _).drew).mono ?_;rintro e wz ⟨he,h1,h2⟩;obtain rfl:=Z4Q he;have hTz:=TalkAt.within ((HS.out.2.drewN _).setNum x2).drew h2;have HZ:=Z0a (And.intro h1 (And.intro hTz h2));clear h1 hTz h2) | (go_at_call 101;refine (HFR.out _).mono ?_;rintro e wy ⟨rfl,hby⟩;have c5:=(HZ.out.2.1.kept (hby.block bb HZ.out.1.lt)).t3;have f5:=(HZ.out.2.1.kept (hby.block bb HZ.out.1.lt)).fz 1355))
 all_goals
  go_wp2
  go_ret
  refine ⟨rfl,(HZ.out.1.below hby).setOut 1355 (by omega) _,?_,?_⟩
  ·have:=(HZ.out.2.1.kept (hby.block bb HZ.out.1.lt)).setAns FR
   rw [HO.out] at this
   exact this
  ·exact (((((KeptE.refl _ bb).drewN _).trans (KeptE.set _ bb 1354 _ (by omega))).drew.trans HZ.out.2.2.keptE).trans (KeptE.below hby HZ.out.1.lt)).trans (KeptE.set _ bb 1355 _ (by omega))
theorem next_no (bb:Nat)(p:Pow)(mem:List UInt8)(t:Talk)(q:ByteArray)(x0 x1 x2 x3:UInt8)(nx:Nat)(p1:Pow)(m1:List UInt8)(out:List UInt8)(w:World)(h:StoAt w bb p mem)(ht:TalkAt w bb t)(N:NextQ bb p mem t q x0 x1 x2 x3 nx p1 m1 false out) :
  Calls Tryz.prog 162 #[.pointer (some ⟨bb,0,none⟩),.string q] w (Z60 w bb (p1,m1,⟨true,t.ses,x2,t.ans⟩,[],false)):=by
 obtain ⟨k1,k2⟩:=N.hl
 have HA:=Z0a (Z1Z q w (by omega))
 rw [N.ask] at HA
 have hlt:=h.lt
 have hx0:q[0]'(by omega)=x0:=(Z0P q 0 (by omega)).symm.trans N.i0
 have hx1:q[1]'(by omega)=x1:=(Z0P q 1 (by omega)).symm.trans N.i1
 have hx2:q[2]'(by omega)=x2:=(Z0P q 2 (by omega)).symm.trans N.i2
 have hx3:q[3]'(by omega)=x3:=(Z0P q 3 (by omega)).symm.trans N.i3
 have hl0:=x0.toNat_lt
 have hl1:=x1.toNat_lt
 have hor:=Z3A (x0.toNat:Int) (x1.toNat:Int) (by omega) (by omega) (by omega) (by omega)
 have hn1:((x3.toNat:Int) == 1)=false:=(Z7c x3 1 (by decide)).trans (decide_eq_false N.n1)
 have t0:=ht.t0
 rw [N.opn] at t0
 have t1:=ht.t1
 have t2:=ht.t2
 have t3:=ht.t3
 have f2:=ht.fz 1354
 have f3:=ht.fz 1355
 have hse:((256:Int)*(x0.toNat:Int)+(x1.toNat:Int) != (t.ses:Int))=false:=by have:=N.ses;simp;omega
 have hnl:=t.num.toNat_lt
 have hwr:IntKind.u8.wrap ((t.num.toNat:Int)+1)=(nx:Int):=by
  rw [←N.nx,UInt8.toNat_add,IntKind.wrap_u8]
  show _=(((t.num.toNat+1)%256:Nat):Int)
  omega
 have hx2n:x2.toNat=nx:=by rw [N.num];exact N.nx
 have hne:¬ x2.toNat=t.num.toNat:=by
  have h1:=N.nx
  rw [UInt8.toNat_add] at h1
  have h2:(t.num.toNat+1)%256=nx:=h1
  omega
 have hsa:((x2.toNat:Int) == (t.num.toNat:Int))=false:=by simp;omega
 have hnx2:((x2.toNat:Int) != (nx:Int))=false:=by simp;omega
 have HS:=Z0a (And.intro h ht)
 have q4:(4:Int)≤(q.size:Int):=by omega
 have q69:(q.size:Int)≤69:=by omega
 have q3:(3:Int)≤(q.size:Int):=by omega
 have q3n:3≤q.size:=by omega
 have HD:=Z0a N.do_
 have he3:(q.extract 0 3).size=3:=by rw [ByteArray.size_extract];omega
 have HO:=Z0a N.opn
 have hent:∀ args w,(callFunc 195 args).run Tryz.prog w=.ok (.enter 195 args) w:=enters_of Tryz.func195 (by kernel_rfl) rfl
 have HX:Hid (∀ d w',StoAt w' bb p1 m1→Within ((w.drewN d).setCell ⟨bb,1354,none⟩ (.int .u8 (x2.toNat:Int))).drew w' bb 1 1267→Z60 w bb (p1,m1,⟨true,t.ses,x2,t.ans⟩,[],false) (.panicked [{ v:=.iface 265 (.agg #[]),recovered:=false }]) w'):=by
  intro d w' h1 h2
  refine ⟨rfl,h1,?_,?_⟩
  ·have:=TalkAt.within ((HS.out.2.drewN _).setNum x2).drew h2
   rw [HO.out] at this
   exact this
  ·exact (((KeptE.refl _ bb).drewN _).trans (KeptE.set _ bb 1354 _ (by omega))).drew.trans h2.keptE
 clear h ht N hx2n hne
 go_enter Tryz.func162,Tryz.ntmps162
 go_wp2_with fail
 refine HA.out.mono ?_
 rintro e w1 ⟨rfl,rfl⟩
 go_wp2_with fail
 go_quiet (fail)
 go_wp2_with fail
 go_quiet (fail)
 go_wp2_with fail
 go_region_law (first | (refine step_noneV (.tuple #[.string ⟨#[]⟩,.int .i64 0]) HFF ?_) | (refine Z1r (.string ⟨#[]⟩) 195 #[.pointer (some ⟨bb,0,none⟩),.int .u8 (x3.toNat:Int),.string (q.extract 4 q.size)] rfl (by simp [go_sem,hent]) _ (HD.out _ ((HS.out.1.drewN _).setOut 1354 (by omega) _).drew) (fun e w' hh=>⟨_,endT_no hh.1,rfl,HX.out _ w' hh.2.1 hh.2.2⟩) ?_;intro HFF))
 all_goals exact HFF.out.elim
theorem answer_any (bb:Nat)(p:Pow)(mem:List UInt8)(t:Talk)(q:ByteArray)(k:Nat)(w:World)(h:StoAt w bb p mem)(hu:Used mem k)(ht:TalkAt w bb t)(hts:t.ses<65536)(hq:q.size≤4000000) :
  Calls Tryz.prog 162 #[.pointer (some ⟨bb,0,none⟩),.string q] w (Z60 w bb (Z0e p mem t q.data.toList)):=by
 by_cases hk:Z16 q.data.toList=true
 ·obtain ⟨k1,k2,k3,k4⟩:=Z6O hk
  by_cases h1:q.data.toList.getD 3 0=1
  ·exact answer_open bb p mem t q k w h hu ht hk h1
  ·by_cases hway:(t.opn=false∨Z0C q.data.toList≠t.ses)∨q.data.toList.getD 2 0=t.num∨q.data.toList.getD 2 0≠t.num+1
   ·exact answer_still bb p mem t q w h ht hts hk h1 hway
   ·have c1:¬ (t.opn=false∨Z0C q.data.toList≠t.ses):=fun e=>hway (.inl e)
    have c2:¬ q.data.toList.getD 2 0=t.num:=fun e=>hway (.inr (.inl e))
    have c3:q.data.toList.getD 2 0=t.num+1:=Classical.byContradiction fun e=>hway (.inr (.inr e))
    have co:t.opn=true:=by
     cases ho:t.opn with
     | true=>rfl
     | false=>exact absurd (.inl ho) c1
    have cs:Z0C q.data.toList=t.ses:=Classical.byContradiction fun e=>c1 (.inr e)
    obtain ⟨d,hd⟩:∃ d,doF p mem (q.data.toList.getD 3 0) (q.data.toList.drop 4)=d:=⟨_,rfl⟩
    have hdo:=fun w' (h':StoAt w' bb p mem)=>do_any bb p mem (q.data.toList.getD 3 0) (q.extract 4 q.size) k w' h' hu (fun e=>by rw [ByteArray.size_extract];have:=k3 e;omega) (fun e=>by rw [ByteArray.size_extract];have:=k4 e;omega)
    rw [Z8n,hd] at hdo
    have hol:=doF_out p mem (q.data.toList.getD 3 0) (q.data.toList.drop 4) h.len
    rw [hd] at hol
    obtain ⟨⟨p1,m1,ok⟩,out⟩:=d
    have hF:Z0e p mem t q.data.toList=if ok=true then (p1,m1,⟨true,t.ses,q.data.toList.getD 2 0,Z0c (q.data.toList.take 3++out)⟩,Z0c (q.data.toList.take 3++out),true) else (p1,m1,⟨true,t.ses,q.data.toList.getD 2 0,t.ans⟩,[],false):=by
     unfold Z0e
     rw [if_neg (by rw [hk];simp),if_neg (fun e=>c1 e.2),if_neg (fun e=>c2 e.2),if_neg (fun e=>e.2 c3)]
     simp only [hd,if_neg h1,co]
    rw [hF]
    have N:∀ b,ok=b→NextQ bb p mem t q (q.data.toList.getD 0 0) (q.data.toList.getD 1 0) (q.data.toList.getD 2 0) (q.data.toList.getD 3 0) (t.num+1).toNat p1 m1 b out:=fun b hb=>⟨⟨k1,k2⟩,rfl,rfl,rfl,rfl,h1,rfl,co,cs,c3,hk,by rw [←hb];exact hdo,hol⟩
    cases ok with
    | true=>exact next_yes bb p mem t q _ _ _ _ _ p1 m1 out w h ht (N true rfl)
    | false=>exact next_no bb p mem t q _ _ _ _ _ p1 m1 out w h ht (N false rfl)
 ·have hk':Z16 q.data.toList=false:=by simpa using hk
  have hF:Z0e p mem t q.data.toList=(p,mem,t,[],true):=by unfold Z0e;rw [if_pos hk']
  rw [hF]
  exact answer_none bb p mem t q w h ht hq hk'
structure BrdAt (w:World) (bb:Nat) (b:Brd):Prop where
 c0:w.cell? ⟨bb,0,none⟩=some (.bool b.on)
 sto:StoAt w bb b.pow b.mem
 ear:EarO w bb 1268 b.ear
 talk:TalkAt w bb b.talk
 used:∃ k,Used b.mem k
 ses:b.talk.ses<65536
 al:b.talk.ans.length≤200
theorem BrdAt.kept {w w':World}{bb:Nat}{b:Brd}(h:BrdAt w bb b)(e:w'.heap[bb]?=w.heap[bb]?)(hz:w.heap.size≤w'.heap.size):BrdAt w' bb b :=
 ⟨(World.cell?_of_block (a:=⟨bb,0,none⟩) e).trans h.c0,h.sto.kept e hz,h.ear.kept e hz,h.talk.kept e,h.used,h.ses,h.al⟩
theorem BrdAt.below {w w':World}{bb:Nat}{b:Brd}(h:BrdAt w bb b)(hb:Below w.heap.size w w'):BrdAt w' bb b:=h.kept (hb.block bb h.sto.lt) hb.size
theorem flash_any (bb:Nat)(b:Brd)(w:World)(h:BrdAt w bb b):Calls Tryz.prog 53 #[.pointer (some ⟨bb,0,none⟩)] w fun e w'=>e=.returned (.string (txt (b.mem.take 1024)))∧Below w.heap.size w w':=by
 have HC:=Z0a (bytes_any bb b.pow b.mem w h.sto)
 clear h
 go_enter Tryz.func53,Tryz.ntmps53
 go_wp2_with fail
 refine HC.out.mono ?_
 rintro e w1 ⟨rfl,hb⟩
 go_wp2
 go_ret
 exact ⟨rfl,hb⟩
theorem burnt_any (bb:Nat)(b:Brd)(w:World)(h:BrdAt w bb b):Calls Tryz.prog 63 #[.pointer (some ⟨bb,0,none⟩)] w fun e w'=>e=.returned (.int .i64 (Z1D b.mem:Int))∧Below w.heap.size w w':=by
 have HC:=Z0a (Z37 bb b.pow b.mem w h.sto)
 have hbl:Z1D b.mem<65536:=Z30 b.mem 16
 obtain ⟨c,hc⟩:∃ c,Z1D b.mem=c:=⟨_,rfl⟩
 rw [hc] at HC hbl ⊢
 clear h hc
 go_enter Tryz.func63,Tryz.ntmps63
 go_wp2_with fail
 refine HC.out.mono ?_
 rintro e w1 ⟨rfl,hb⟩
 go_wp2
 go_ret
 exact ⟨rfl,hb⟩
end Go.Proofs.YthokdbcpkmcieabGreatDoor
