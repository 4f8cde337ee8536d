/- The document's host: what it takes; State, Say, Tick. -/
import Derived.Test.YthokdbcpkmcieaaGreatRhA
namespace Go.Proofs.YthokdbcpkmcieaaGreat
open Go Go.RowKit
attribute [local go_sem ↓] Go.wp_at_zero Go.wp_at_succ
set_option maxRecDepth 100000 in
set_option maxHeartbeats 8000000 in
theorem rtakes_good (hb wb bb : Nat) (d : RHst) (bs : List UInt8) (w : World) (m : RHM w hb wb bb d) (k : DOk d) (hg : goodD d true bs = true) (hw : d.what = 1 ∨ d.what = 2 ∨ d.what = 3 ∨ d.what = 4) (hp : d.what = 2 ∨ d.what = 3 → d.pos < d.all.length) (h4 : d.what = 4 → bs.length = 2) :
    Calls Tryz.prog 87 #[.pointer (some ⟨hb, 0, none⟩), .bool true, .string (txt bs)] w fun e w' => e = .returned (.tuple #[]) ∧ RHM w' hb wb bb (rtakesD d true bs) ∧ w.grownBy w' (some hb) := by
  have c7 := m.c7
  have c2 := m.c2
  have f2 := m.fz 2
  have hfew := k.few
  have hgn : ¬ goodD d true bs = false := by rw [hg]; simp
  rcases hw with e | e | e | e
  · rw [e] at c7
    replace c7 : w.cell? ⟨hb, 7, none⟩ = some (.int .i64 1) := c7
    have hr : rtakesD d true bs = raskD d 4 [] := by unfold rtakesD; rw [if_neg (fun x => hgn x.2.1), if_neg hgn, if_pos e]
    rw [hr]
    have HA : Hid (∀ n, Calls Tryz.prog 47 #[.pointer (some ⟨hb, 0, none⟩), .int .i64 4, .string ⟨#[]⟩] (w.drewN n) fun e w' => e = .returned (.tuple #[]) ∧ RHM w' hb wb bb (raskD d 4 []) ∧ w.grownBy w' (some hb)) := fun n => (rask_any hb wb bb d 4 [] _ (m.drewN n) k.num k.ses (by simp)).mono fun e w' ⟨p1, p2, p3⟩ => ⟨p1, p2, grown_of_drewN p3⟩
    obtain ⟨S, hS⟩ : ∃ S, txt bs = S := ⟨_, rfl⟩
    rw [hS]
    clear m k hg hgn hp h4 hr hS e
    go_enter Tryz.func87, Tryz.ntmps87
    go_wp2
    go_quiet (fail)
    go_wp2_with fail
    refine (HA.out _).mono ?_
    rintro e w1 ⟨rfl, p1, p2⟩
    have HZ := hideIt (And.intro p1 p2)
    clear p1 p2
    go_wp2
    go_end0
    exact ⟨rfl, HZ.out.1, HZ.out.2⟩
  · have hp2 := hp (.inl e)
    rw [e] at c7
    replace c7 : w.cell? ⟨hb, 7, none⟩ = some (.int .i64 2) := c7
    have hr : rtakesD d true bs = rpageD d 3 := by unfold rtakesD; rw [if_neg (fun x => hgn x.2.1), if_neg hgn, if_neg (by omega), if_neg (by omega), if_pos e]
    rw [hr]
    have HA : Hid (∀ n, Calls Tryz.prog 102 #[.pointer (some ⟨hb, 0, none⟩), .int .i64 3] (w.drewN n) fun e w' => e = .returned (.tuple #[]) ∧ RHM w' hb wb bb (rpageD d 3) ∧ w.grownBy w' (some hb)) := fun n => (rpage3_any hb wb bb d _ (m.drewN n) k hp2).mono fun e w' ⟨p1, p2, p3⟩ => ⟨p1, p2, grown_of_drewN p3⟩
    obtain ⟨S, hS⟩ : ∃ S, txt bs = S := ⟨_, rfl⟩
    rw [hS]
    clear m k hg hgn hp h4 hr hS e
    go_enter Tryz.func87, Tryz.ntmps87
    go_wp2
    go_quiet (fail)
    go_wp2_with fail
    refine (HA.out _).mono ?_
    rintro e w1 ⟨rfl, p1, p2⟩
    have HZ := hideIt (And.intro p1 p2)
    clear p1 p2
    go_wp2
    go_end0
    exact ⟨rfl, HZ.out.1, HZ.out.2⟩
  · have hp3 := hp (.inr e)
    obtain ⟨a, cap, c1, hc1, hc2, h1⟩ := m.texts
    obtain ⟨rfl, cb⟩ := h1 hp3
    rw [e] at c7
    replace c7 : w.cell? ⟨hb, 7, none⟩ = some (.int .i64 3) := c7
    have hbs : bs = (curD d).bs := by
      unfold goodD at hg
      simpa [e] using hg
    have hr : rtakesD d true bs = rnextD { d with pos := d.pos + 1 } := by unfold rtakesD; rw [if_neg (fun x => hgn x.2.1), if_neg hgn, if_neg (by omega), if_neg (by omega), if_neg (by omega)]
    rw [hr]
    have k1 : DOk { d with pos := d.pos + 1 } := ⟨k.few, k.pages, by show d.pos + 1 ≤ d.all.length; omega, k.ses, k.num, k.msg, k.what, k.said, k.ticks, k.burnt, k.st⟩
    have HA : Hid (∀ n, Calls Tryz.prog 103 #[.pointer (some ⟨hb, 0, none⟩)] ((w.drewN n).setCell ⟨hb, 2, none⟩ (.int .i64 ((d.pos : Int) + 1))) fun e w' => e = .returned (.tuple #[]) ∧ RHM w' hb wb bb (rnextD { d with pos := d.pos + 1 }) ∧ w.grownBy w' (some hb)) := fun n => by
      have m1 := (m.drewN n).setPos (d.pos + 1)
      have g1 := grown_of_drewN (setg (w.drewN n) hb 2 (.int .i64 ((d.pos + 1 : Nat) : Int)))
      have z : ((d.pos + 1 : Nat) : Int) = (d.pos : Int) + 1 := by omega
      rw [z] at m1 g1
      exact (rnext_any hb wb bb { d with pos := d.pos + 1 } _ m1 k1).mono fun e w' ⟨p1, p2, p3⟩ => ⟨p1, p2, g1.trans p3⟩
    rw [hbs]
    obtain ⟨L, hL⟩ : ∃ L, d.all.length = L := ⟨_, rfl⟩
    obtain ⟨P, hP⟩ : ∃ P, d.pos = P := ⟨_, rfl⟩
    obtain ⟨U, hU⟩ : ∃ U, txt (curD d).bs = U := ⟨_, rfl⟩
    rw [hL] at c1 hc1 hp3 hfew
    rw [hP] at c2 cb hp3 HA ⊢
    rw [hU] at cb ⊢
    have hPi : (P : Int) < (L : Int) := by omega
    have hLi : (L : Int) ≤ 16 := by omega
    clear m k k1 hg hgn hp h4 hr e hbs h1 hL hP hU
    go_enter Tryz.func87, Tryz.ntmps87
    go_wp2
    go_quiet (fail)
    go_wp2_with fail
    refine (HA.out _).mono ?_
    rintro e w1 ⟨rfl, p1, p2⟩
    have HZ := hideIt (And.intro p1 p2)
    clear p1 p2
    go_wp2
    go_end0
    exact ⟨rfl, HZ.out.1, HZ.out.2⟩
  · have hl2 := h4 e
    rw [e] at c7
    replace c7 : w.cell? ⟨hb, 7, none⟩ = some (.int .i64 4) := c7
    obtain ⟨S, hS⟩ : ∃ S, txt bs = S := ⟨_, rfl⟩
    have hsz : S.size = 2 := by rw [← hS, txt_size, hl2]
    have h0S : 0 < S.size := by omega
    have h1S : 1 < S.size := by omega
    obtain ⟨x, hx0⟩ : ∃ x, bs.getD 0 0 = x := ⟨_, rfl⟩
    obtain ⟨z, hx1⟩ : ∃ z, bs.getD 1 0 = z := ⟨_, rfl⟩
    have hS0 : S[0] = x := (txt_at hS h0S).trans hx0
    have hS1 : S[1] = z := (txt_at hS h1S).trans hx1
    have hxl := x.toNat_lt
    have hzl := z.toNat_lt
    obtain ⟨q, hq⟩ : ∃ q, 256 * x.toNat + z.toNat = q := ⟨_, rfl⟩
    have hr : rtakesD d true bs = rnextD { d with burnt := q } := by unfold rtakesD; rw [if_neg (fun x => hgn x.2.1), if_neg hgn, if_neg (by omega), if_pos e, hx0, hx1, hq]
    rw [hr, hS]
    have c11 := m.c11
    have f11 := m.fz 11
    have k1 : DOk { d with burnt := q } := ⟨k.few, k.pages, k.pos, k.ses, k.num, k.msg, k.what, k.said, k.ticks, by show q < 65536; omega, k.st⟩
    have HA : Hid (∀ n, Calls Tryz.prog 103 #[.pointer (some ⟨hb, 0, none⟩)] ((w.drewN n).setCell ⟨hb, 11, none⟩ (.int .i64 (q : Int))) fun e w' => e = .returned (.tuple #[]) ∧ RHM w' hb wb bb (rnextD { d with burnt := q }) ∧ w.grownBy w' (some hb)) := fun n => by
      have m1 : RHM ((w.drewN n).setCell ⟨hb, 11, none⟩ (.int .i64 (q : Int))) hb wb bb { d with burnt := q } := (m.drewN n).setBurnt q
      have g1 := grown_of_drewN (setg (w.drewN n) hb 11 (.int .i64 (q : Int)))
      exact (rnext_any hb wb bb { d with burnt := q } _ m1 k1).mono fun e w' ⟨p1, p2, p3⟩ => ⟨p1, p2, g1.trans p3⟩
    have hwx : IntKind.i64.wrap (x.toNat : Int) = (x.toNat : Int) := by rw [IntKind.wrap_i64]; omega
    have hwz : IntKind.i64.wrap (z.toNat : Int) = (z.toNat : Int) := by rw [IntKind.wrap_i64]; omega
    obtain ⟨x2, hx2⟩ : ∃ x2, 256 * x.toNat = x2 := ⟨_, rfl⟩
    have hmul : 256 * (x.toNat : Int) = (x2 : Int) := by omega
    have hwx2 : IntKind.i64.wrap (x2 : Int) = (x2 : Int) := by rw [IntKind.wrap_i64]; omega
    have hadd : (x2 : Int) + (z.toNat : Int) = (q : Int) := by omega
    have hwq : IntKind.i64.wrap (q : Int) = (q : Int) := by rw [IntKind.wrap_i64]; omega
    clear m k k1 hg hgn hp h4 hr e hS hx0 hx1 hq hx2
    go_enter Tryz.func87, Tryz.ntmps87
    go_wp2
    go_quiet (fail)
    go_wp2
    go_region
    all_goals
      go_wp2_with fail
      refine (HA.out _).mono ?_
      rintro e w1 ⟨rfl, p1, p2⟩
      have HZ := hideIt (And.intro p1 p2)
      clear p1 p2
      go_wp2
      go_end0
      exact ⟨rfl, HZ.out.1, HZ.out.2⟩
end Go.Proofs.YthokdbcpkmcieaaGreat
namespace Go.Proofs.YthokdbcpkmcieaaGreat
open Go Go.RowKit
attribute [local go_sem ↓] Go.wp_at_zero Go.wp_at_succ
theorem rhState_any (hb wb bb : Nat) (d : RHst) (w : World) (m : RHM w hb wb bb d) : Calls Tryz.prog 40 #[.pointer (some ⟨hb, 0, none⟩)] w fun e w' => e = .returned (.int .i64 (d.state : Int)) ∧ w' = w := by
  have c12 := m.c12
  clear m
  go_enter Tryz.func40, Tryz.ntmps40
  go_wp2
  go_ret
  exact ⟨rfl, rfl⟩
set_option maxRecDepth 100000 in
set_option maxHeartbeats 4000000 in
theorem rhSay_any (hb wb bb : Nat) (d : RHst) (w : World) (m : RHM w hb wb bb d) (k : DOk d) (hl : d.state = 0 → 1 ≤ d.msg.length ∧ d.msg.length ≤ 80) : Calls Tryz.prog 62 #[.pointer (some ⟨hb, 0, none⟩)] w fun e w' => e = .returned (.string (txt (rsayD d).2)) ∧ RHM w' hb wb bb (rsayD d).1 ∧ w.grownBy w' (some hb) := by
  have c10 := m.c10
  have c12 := m.c12
  have hst := k.st
  cases hr : d.ready
  · have e : rsayD d = (d, []) := by unfold rsayD; rw [if_pos (.inl hr)]
    rw [e]
    rw [hr] at c10
    have HM := hideIt m
    clear m e hr k hl
    go_enter Tryz.func62, Tryz.ntmps62
    go_wp2
    try go_quiet (fail)
    try go_wp2
    go_ret
    exact ⟨rfl, by first | exact HM.out | exact HM.out.kept rfl rfl rfl (Nat.le_refl _), by first | exact grown_refl _ _ | exact ⟨rfl, rfl, rfl, Nat.le_refl _, fun _ _ _ => rfl⟩⟩
  · rw [hr] at c10
    by_cases h0 : d.state = 0
    · have e : rsayD d = ({ d with ready := false }, frameF d.msg) := by unfold rsayD; rw [if_neg (by rw [hr, h0]; simp)]
      rw [e]
      rw [h0] at c12
      replace c12 : w.cell? ⟨hb, 12, none⟩ = some (.int .i64 0) := c12
      have c6 := m.c6
      have f10 := m.fz 10
      have HF := hideIt (fun w' => rframe_any (txt d.msg) w' (by rw [txt_size]; exact (hl h0).1) (by rw [txt_size]; exact (hl h0).2))
      rw [txt_toList] at HF
      have HM : Hid (∀ n, RHM ((w.drewN n).setCell ⟨hb, 10, none⟩ (.bool false)) hb wb bb { d with ready := false } ∧ w.grownBy ((w.drewN n).setCell ⟨hb, 10, none⟩ (.bool false)) (some hb)) := fun n => ⟨(m.drewN n).setReady false, grown_of_drewN (setg (w.drewN n) hb 10 _)⟩
      have HM0 := hideIt (And.intro (m.setReady false) (setg w hb 10 (.bool false)))
      obtain ⟨S, hS⟩ : ∃ S, txt d.msg = S := ⟨_, rfl⟩
      obtain ⟨F, hF⟩ : ∃ F, txt (frameF d.msg) = F := ⟨_, rfl⟩
      rw [hS] at HF c6
      rw [hF] at HF ⊢
      clear m k hl e hr h0 hS hF
      go_enter Tryz.func62, Tryz.ntmps62
      go_wp2_with fail
      try go_quiet (fail)
      try go_wp2_with fail
      refine (HF.out _).mono ?_
      rintro e w1 ⟨rfl, hB1⟩
      have HZ := hideIt (show RHM w1 hb wb bb { d with ready := false } ∧ w.grownBy w1 (some hb) by first | exact ⟨HM0.out.1.below hB1, HM0.out.2.trans (below_to_grown hB1 (some hb))⟩ | exact ⟨(HM.out _).1.below hB1, (HM.out _).2.trans (below_to_grown hB1 (some hb))⟩)
      clear hB1
      go_wp2
      go_ret
      exact ⟨rfl, HZ.out.1, HZ.out.2⟩
    · have e : rsayD d = (d, []) := by unfold rsayD; rw [if_pos (.inr h0)]
      rw [e]
      obtain ⟨X, hX⟩ : ∃ X, d.state = X := ⟨_, rfl⟩
      rw [hX] at c12 h0 hst
      have hX0 : ((X : Int) == 0) = false := by simp; omega
      have HM := hideIt m
      clear m e hr k hl hX
      go_enter Tryz.func62, Tryz.ntmps62
      go_wp2
      try go_quiet (fail)
      try go_wp2
      go_ret
      exact ⟨rfl, by first | exact HM.out | exact HM.out.kept rfl rfl rfl (Nat.le_refl _), by first | exact grown_refl _ _ | exact ⟨rfl, rfl, rfl, Nat.le_refl _, fun _ _ _ => rfl⟩⟩
set_option maxRecDepth 100000 in
set_option maxHeartbeats 4000000 in
theorem rhTick_any (hb wb bb : Nat) (d : RHst) (w : World) (m : RHM w hb wb bb d) (k : DOk d) : Calls Tryz.prog 38 #[.pointer (some ⟨hb, 0, none⟩)] w fun e w' => e = .returned (.tuple #[]) ∧ RHM w' hb wb bb (rtickD d) ∧ w.grownBy w' (some hb) := by
  have c12 := m.c12
  have hst := k.st
  have htk := k.ticks
  have hsd := k.said
  by_cases h0 : d.state = 0
  · rw [h0] at c12
    replace c12 : w.cell? ⟨hb, 12, none⟩ = some (.int .i64 0) := c12
    have c9 := m.c9
    have c8 := m.c8
    have c10 := m.c10
    have f8 := m.fz 8
    have f9 := m.fz 9
    have f10 := m.fz 10
    have f12 := m.fz 12
    have z : ((d.ticks + 1 : Nat) : Int) = (d.ticks : Int) + 1 := by omega
    have z2 : ((d.said + 1 : Nat) : Int) = (d.said : Int) + 1 := by omega
    have m1 := m.setTicks (d.ticks + 1)
    have g1 := setg w hb 9 (.int .i64 ((d.ticks + 1 : Nat) : Int))
    by_cases h3 : d.ticks + 1 < 3
    · have e : rtickD d = { d with ticks := d.ticks + 1 } := by unfold rtickD; rw [if_neg (by simp [h0]), if_pos h3]
      rw [e]
      rw [z] at m1 g1
      have HR := hideIt (And.intro m1 g1)
      have h3i : (d.ticks : Int) + 1 < 3 := by omega
      clear m m1 g1 k e h0 z z2
      go_enter Tryz.func38, Tryz.ntmps38
      go_wp2
      (try simp only [Exit.inBlock, Exit.then])
      refine bodyPost_ret (results_none rfl _ _ _) rfl ?_
      exact ⟨rfl, HR.out.1, HR.out.2⟩
    · have h3i : ¬ (d.ticks : Int) + 1 < 3 := by omega
      have m2 := m1.setTicks 0
      have g2 := g1.trans (setg _ hb 9 (.int .i64 ((0 : Nat) : Int)))
      by_cases h5 : d.said = 5
      · have e : rtickD d = { d with ticks := 0, state := 2 } := by unfold rtickD; rw [if_neg (by simp [h0]), if_neg h3, if_pos h5]
        rw [e]
        have m3 : RHM _ hb wb bb { d with ticks := 0, state := 2 } := m2.setState 2
        have g3 := g2.trans (setg _ hb 12 (.int .i64 ((2 : Nat) : Int)))
        have zz : ((0 : Nat) : Int) = 0 := rfl
        have zy : ((2 : Nat) : Int) = 2 := rfl
        rw [z, zz, zy] at m3 g3
        have HR := hideIt (And.intro m3 g3)
        rw [h5] at c8
        replace c8 : w.cell? ⟨hb, 8, none⟩ = some (.int .i64 5) := c8
        clear m m1 m2 m3 g1 g2 g3 k e h0 z z2 zz zy h5
        go_enter Tryz.func38, Tryz.ntmps38
        go_wp2
        (try simp only [Exit.inBlock, Exit.then])
        refine bodyPost_ret (results_none rfl _ _ _) rfl ?_
        exact ⟨rfl, HR.out.1, HR.out.2⟩
      · have e : rtickD d = { d with ticks := 0, said := d.said + 1, ready := true } := by unfold rtickD; rw [if_neg (by simp [h0]), if_neg h3, if_neg h5]
        rw [e]
        have m3 : RHM _ hb wb bb { d with ticks := 0, said := d.said + 1, ready := true } := (m2.setSaid (d.said + 1)).setReady true
        have g3 := g2.trans ((setg _ hb 8 (.int .i64 ((d.said + 1 : Nat) : Int))).trans (setg _ hb 10 (.bool true)))
        have zz : ((0 : Nat) : Int) = 0 := rfl
        rw [z, zz, z2] at m3 g3
        have HR := hideIt (And.intro m3 g3)
        have h5i : ((d.said : Int) == 5) = false := by simp; omega
        clear m m1 m2 m3 g1 g2 g3 k e h0 z z2 zz h5
        go_enter Tryz.func38, Tryz.ntmps38
        go_wp2
        go_end0
        exact ⟨rfl, HR.out.1, HR.out.2⟩
  · have e : rtickD d = d := by unfold rtickD; rw [if_pos h0]
    rw [e]
    obtain ⟨X, hX⟩ : ∃ X, d.state = X := ⟨_, rfl⟩
    rw [hX] at c12 h0 hst
    have hX0 : ((X : Int) == 0) = false := by simp; omega
    have HM := hideIt m
    clear m e k hX
    go_enter Tryz.func38, Tryz.ntmps38
    go_wp2
    (try simp only [Exit.inBlock, Exit.then])
    refine bodyPost_ret (results_none rfl _ _ _) rfl ?_
    exact ⟨rfl, HM.out, grown_refl _ _⟩
end Go.Proofs.YthokdbcpkmcieaaGreat
namespace Go.Proofs.YthokdbcpkmcieaaGreat
open Go Go.RowKit
attribute [local go_sem ↓] Go.wp_at_zero Go.wp_at_succ
structure GoF (h : Hst) (d : RHst) : Prop where
  t0 : h.take ≠ 0
  what : d.what = 1 ∨ d.what = 2 ∨ d.what = 3 ∨ d.what = 4
  pos : d.what = 2 ∨ d.what = 3 → d.pos < d.all.length
  long : 4 ≤ d.msg.length ∧ d.msg.length ≤ 69
  wm : d.what = (d.msg.getD 3 0).toNat
theorem going_facts {h : Hst} {d : RHst} (s : SameH h d) (k : HOk h) (hd : d.state = 0) : GoF h d := by
  have h0 : h.take ≠ 0 := fun e => k.going.1 e (by rw [← s.state]; exact hd)
  have g := s.go h0
  have htk := k.tk
  have hw := g.what
  have hll := left_len g
  have hpp := g.pos
  have hc : h.take = 1 ∨ h.take = 2 ∨ h.take = 3 ∨ h.take = 4 ∨ h.take = 5 := by omega
  refine ⟨h0, ?_, ?_, by rw [g.msg]; exact k.b.long, by rw [g.msg]; exact hw⟩
  · rcases hc with e | e | e | e | e
    · rw [k.w1 e] at hw; exact .inl hw
    · rw [k.w2 e] at hw; exact .inr (.inr (.inr hw))
    · rw [k.w3 e] at hw; exact .inr (.inl hw)
    · rw [k.w4 (.inl e)] at hw; exact .inr (.inr (.inl hw))
    · rw [k.w4 (.inr e)] at hw; exact .inr (.inr (.inl hw))
  · intro hx
    have h3 : 3 ≤ h.take := by
      rcases hc with e | e | e | e | e
      · rw [k.w1 e] at hw
        replace hw : d.what = 1 := hw
        omega
      · rw [k.w2 e] at hw
        replace hw : d.what = 4 := hw
        omega
      · omega
      · omega
      · omega
    have := k.left h3
    omega
theorem ans_len2 {d : RHst} {m bs : List UInt8} (e : answerToH d.msg m = some (true, bs)) (hw : d.msg.getD 3 0 = 4) : bs.length = 2 := by
  unfold answerToH at e
  split at e
  · split at e
    · rename_i hc
      simp only [Option.some.injEq, Prod.mk.injEq, true_and] at e
      rw [← e, List.length_drop]
      have := hc.2
      rw [hw] at this
      have h2 : yesLen 4 = 2 := by decide
      omega
    · split at e
      · simp at e
      · cases e
  · cases e
/-- An answer is taken, of any kind. -/
theorem rtakes_any (hb wb bb : Nat) (h : Hst) (d : RHst) (q : List UInt8) (y : Bool) (bs : List UInt8) (w : World) (m : RHM w hb wb bb d) (s : SameH h d) (f : GoF h d) (ha : answerToH d.msg q = some (y, bs)) :
    Calls Tryz.prog 87 #[.pointer (some ⟨hb, 0, none⟩), .bool y, .string (txt bs)] w fun e w' => e = .returned (.tuple #[]) ∧ RHM w' hb wb bb (rtakesD d y bs) ∧ w.grownBy w' (some hb) := by
  cases hg : goodD d y bs
  · exact rtakes_not hb wb bb d y bs w m s.ok hg (fun e => f.pos (.inr e))
  · have hy : y = true := by
      unfold goodD at hg
      simp only [Bool.and_eq_true] at hg
      exact hg.1
    subst hy
    refine rtakes_good hb wb bb d bs w m s.ok hg f.what f.pos (fun e => ans_len2 ha ?_)
    have := f.wm
    rw [e] at this
    exact UInt8.toNat_inj.1 this.symm
def longD (what : Nat) : Nat := if what = 3 then 68 else if what = 4 then 6 else 4
theorem long_is {h : Hst} {d : RHst} (f : GoF h d) : 4 + yesLen (d.msg.getD 3 0) = longD d.what := by
  have hw := f.wm
  unfold yesLen longD
  by_cases h3 : d.msg.getD 3 0 = 3
  · rw [if_pos h3, if_pos (by rw [hw, h3]; rfl)]
  · have n3 : ¬ d.what = 3 := fun e => h3 (UInt8.toNat_inj.1 (show (d.msg.getD 3 0).toNat = (3 : UInt8).toNat from hw.symm.trans e))
    rw [if_neg h3, if_neg n3]
    by_cases h4 : d.msg.getD 3 0 = 4
    · rw [if_pos h4, if_pos (by rw [hw, h4]; rfl)]
    · have n4 : ¬ d.what = 4 := fun e => h4 (UInt8.toNat_inj.1 (show (d.msg.getD 3 0).toNat = (4 : UInt8).toNat from hw.symm.trans e))
      rw [if_neg h4, if_neg n4]
theorem foldD_next {l : List (List UInt8)} {j : Nat} {d d' : RHst} (hj : j < l.length) (e : (l.take j).foldl rhearsD d = d') : (l.take (j + 1)).foldl rhearsD d = rhearsD d' (l.getD j []) := by
  rw [List.take_add_one, List.getElem?_eq_getElem hj, List.foldl_append, e, List.getD_eq_getElem?_getD, List.getElem?_eq_getElem hj]
  rfl
end Go.Proofs.YthokdbcpkmcieaaGreat
