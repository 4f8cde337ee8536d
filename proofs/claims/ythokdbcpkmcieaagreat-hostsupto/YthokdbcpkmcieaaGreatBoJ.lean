/- The document's board: burning, asking, doing. -/
import Derived.Test.YthokdbcpkmcieaaGreatRBo6
import Derived.Test.YthokdbcpkmcieaaGreatBoH
namespace Go.Proofs.YthokdbcpkmcieaaGreat
open Go Go.RowKit
attribute [local go_sem ↓] Go.wp_at_zero Go.wp_at_succ
/-- Strokes behind what came before, as far as the power lasts. -/
theorem thenS_more {r q : Pow × List UInt8 × Bool} {i j : Nat} {os : List (Option UInt8)} (hj : j < os.length) (h : thenS r (fun p m => runS p m i (os.take j)) = q) (hq : q.2.2 = true) : thenS r (fun p m => runS p m i (os.take (j + 1))) = stepS q.1 q.2.1 (i + j) (os.getD j none) := by
  unfold thenS at h ⊢
  by_cases hr : r.2.2 = true
  · rw [if_pos hr] at h ⊢
    have : runS r.1 r.2.1 i (os.take j) = (q.1, q.2.1, true) := h.trans (by rw [← hq])
    exact (runS_more hj this).1
  · rw [if_neg hr] at h
    exact absurd (by rw [h]; exact hq) hr
theorem thenS_stop {r q : Pow × List UInt8 × Bool} {i j : Nat} {os : List (Option UInt8)} (h : thenS r (fun p m => runS p m i (os.take j)) = q) (hq : q.2.2 = false) : thenS r (fun p m => runS p m i os) = q := by
  unfold thenS at h ⊢
  by_cases hr : r.2.2 = true
  · rw [if_pos hr] at h ⊢
    replace h : runS r.1 r.2.1 i (os.take j) = q := h
    show runS r.1 r.2.1 i os = q
    have e := runS_append (os.take j) (os.drop j) r.1 r.2.1 i
    rw [List.take_append_drop, h] at e
    rw [e]
    unfold thenS
    rw [if_neg (by rw [hq]; simp)]
  · rw [if_neg hr] at h ⊢; exact h
theorem thenS_exit {r q : Pow × List UInt8 × Bool} {i j : Nat} {os : List (Option UInt8)} (hl : os.length = 64) (hj : j ≤ 64) (h : thenS r (fun p m => runS p m i (os.take j)) = q) (hq : ¬ (j < 64 ∧ q.2.2 = true)) : thenS r (fun p m => runS p m i os) = q := by
  by_cases e : j = 64
  · subst e
    rw [show os.take 64 = os by rw [← hl, List.take_length]] at h
    exact h
  · exact thenS_stop h (by
      cases hb : q.2.2
      · rfl
      · exact absurd ⟨by omega, hb⟩ hq)
theorem then_nil (r : Pow × List UInt8 × Bool) (i : Nat) (os : List (Option UInt8)) : thenS r (fun p m => runS p m i (os.take 0)) = r := by
  obtain ⟨a, b, c⟩ := r
  cases c <;> rfl
/-- Behind the strokes on the page there is a record more. -/
theorem three_used {p : Pow} {m bs : List UInt8} {k : Nat} {n : UInt8} (hu : Used m k) (hk : k + 2 ≤ 60) (hn : n < 16) (hb : bs.length = 64) {q : Pow × List UInt8 × Bool}
    (h : thenS (thenS (writeF p m (recF m n 1)) fun p m => runS p m (64 * n.toNat) (List.replicate 64 none)) (fun p m => runS p m (64 * n.toNat) (bs.map some)) = q) (hq : q.2.2 = true) : Used q.2.1 (k + 1) := by
  have m1 := mid_first (n := n) hu (by omega) hn
  have m3 := m1.puts hn (l := bs) (by omega)
  have hlen := hu.len
  have hnn := u16 hn
  by_cases h1 : lasts p 4
  · rw [writeF_lasts hu (by omega) rfl h1] at h
    simp only [thenS, if_true] at h
    by_cases h2 : lasts (lessP p 4) 64
    · rw [page_erased m1 hn _ h2] at h
      simp only [if_true] at h
      by_cases h3 : lasts (lessP (lessP p 4) 64) 64
      · rw [page_burns m1 hn hb _ h3] at h
        rw [← h]
        exact m3.used
      · have he := m1.puts hn (l := List.replicate 64 255) (by simp)
        obtain ⟨l, e1, _⟩ := runS_false (os := bs.map some) (p := lessP (lessP p 4) 64) (m := put (put m (1024 + 4 * k) (recF m n 1)) (64 * n.toNat) (List.replicate 64 255)) (i := 64 * n.toNat) (by rw [he.used.len]; simp [hb]; omega) (by simpa [hb] using h3)
        rw [e1] at h
        rw [← h] at hq
        cases hq
    · obtain ⟨l, e1, _⟩ := runS_false (os := List.replicate 64 none) (p := lessP p 4) (m := put m (1024 + 4 * k) (recF m n 1)) (i := 64 * n.toNat) (by rw [m1.used.len]; simp; omega) (by simpa using h2)
      rw [e1] at h
      simp only [Bool.false_eq_true, if_false] at h
      rw [← h] at hq
      cases hq
  · obtain ⟨l, e1, _⟩ := writeF_fails (r := recF m n 1) hu (by omega) rfl h1
    rw [e1] at h
    simp only [thenS, Bool.false_eq_true, if_false] at h
    rw [← h] at hq
    cases hq
set_option maxRecDepth 100000 in
set_option maxHeartbeats 16000000 in
theorem rburn_any (rb fb jb : Nat) (p : Pow) (mem : List UInt8) (k : Nat) (n : UInt8) (bs : List UInt8) (w : World) (h : RSto w rb fb jb true p mem) (hu : Used mem k) (hk : k + 2 ≤ 60) (hn : n < 16) (hb : bs.length = 64) :
    Calls Tryz.prog 117 #[.pointer (some ⟨rb, 0, none⟩), .int .i64 (n.toNat : Int), .string (txt bs)] w (REnd w rb fb jb (burnPageF p mem n bs)) := by
  have hn16 := u16 hn
  have HU := hideIt (fun (q : Pow × List UInt8 × Bool) => three_used (p := p) hu hk hn hb (q := q))
  have HF : Hid (burnPageF p mem n bs = thenS (thenS (thenS (writeF p mem (recF mem n 1)) fun p m => runS p m (64 * n.toNat) (List.replicate 64 none)) fun p m => runS p m (64 * n.toNat) (bs.map some)) fun p m => writeF p m (recF m n 2)) := rfl
  have HREC := hideIt (fun w' => rrecord_one rb n mem w')
  have HW1 := hideIt (fun w' (h' : RSto w' rb fb jb true p mem) => rwrite_any rb fb jb p mem k (recF mem n 1) w' h' hu (by omega) (recF_len _ _ _))
  have HREC2 := hideIt (fun w' p' m' (h' : RSto w' rb fb jb true p' m') => rrecord_two rb fb jb true p' m' n w' h' hn)
  have HW2 := hideIt (fun w' p' m' (h' : RSto w' rb fb jb true p' m') (hu' : Used m' (k + 1)) => rwrite_any rb fb jb p' m' (k + 1) (recF m' n 2) w' h' hu' (by omega) (recF_len _ _ _))
  obtain ⟨r1, hr1⟩ : ∃ r1, writeF p mem (recF mem n 1) = r1 := ⟨_, rfl⟩
  obtain ⟨R1, hR1⟩ : ∃ R1, txt (recF mem n 1) = R1 := ⟨_, rfl⟩
  obtain ⟨os1, ho1⟩ : ∃ os1 : List (Option UInt8), List.replicate 64 none = os1 := ⟨_, rfl⟩
  obtain ⟨os2, ho2⟩ : ∃ os2 : List (Option UInt8), bs.map some = os2 := ⟨_, rfl⟩
  have hl1 : os1.length = 64 := by rw [← ho1]; simp
  have hl2 : os2.length = 64 := by rw [← ho2]; simp [hb]
  have HO1 : Hid (∀ j, os1.getD j none = none) := fun j => by
    rw [← ho1, List.getD_eq_getElem?_getD, List.getElem?_replicate]
    split <;> rfl
  have HO2 : Hid (∀ j, j < 64 → os2.getD j none = some (bs.getD j 0)) := fun j hj => by
    rw [← ho2, List.getD_eq_getElem?_getD, List.getElem?_map, List.getD_eq_getElem?_getD, List.getElem?_eq_getElem (by omega)]
    rfl
  rw [hr1, ho1, ho2] at HF HU
  rw [hr1, hR1] at HW1
  rw [hR1] at HREC
  obtain ⟨N, hN⟩ : ∃ N, n.toNat = N := ⟨_, rfl⟩
  rw [hN] at HF HU HREC HREC2 hn16 ⊢
  obtain ⟨B, hB⟩ : ∃ B, 64 * N = B := ⟨_, rfl⟩
  rw [hB] at HF HU
  have hsz : (txt bs).size = 64 := by rw [txt_size, hb]
  obtain ⟨S, hS⟩ : ∃ S, txt bs = S := ⟨_, rfl⟩
  have HRB : Hid (∀ j (hj : j < S.size), S[j] = bs.getD j 0) := fun j hj => by
    subst hS
    exact (by have := ba_get (txt bs) j hj; rw [txt_toList] at this; exact this.symm)
  rw [hS] at hsz ⊢
  have hNi : (N : Int) < 16 := by omega
  have hmul : (N : Int) * 64 = (B : Int) := by omega
  have hB0 : (0 : Int) ≤ (B : Int) := by omega
  have hBl : (B : Int) ≤ 960 := by omega
  have hwB : IntKind.i64.wrap (B : Int) = (B : Int) := by rw [IntKind.wrap_i64]; omega
  have HS := hideIt h
  clear h hu hk hb hr1 hR1 ho1 ho2 hN hB hS
  go_enter Tryz.func117, Tryz.ntmps117
  go_wp2_with fail
  refine (HREC.out _).mono ?_
  rintro e w1 ⟨rfl, hB1⟩
  have HB1 := hideIt hB1
  clear hB1 HREC
  go_wp2_with fail
  refine (HW1.out _ (HS.out.below HB1.out)).mono ?_
  rintro e w2 ⟨rfl, hst2, hK2⟩
  have HK2 := hideIt (And.intro hst2 ((K3.of_below rb fb jb HS.out.lt.1 HB1.out).trans hK2))
  clear hst2 hK2 HB1 HW1
  go_wp2_with fail
  go_loopw [7, 8] (fun o i wr => ∃ (j : Nat) (q : Pow × List UInt8 × Bool), j ≤ 64 ∧ i = .int .i64 j ∧ o = .bool q.2.2 ∧ thenS r1 (fun p m => runS p m B (os1.take j)) = q ∧ RSto wr rb fb jb q.2.2 (if q.2.2 = true then q.1 else pow0) q.2.1 ∧ K3 w wr rb fb jb) (fun _ i _ => 64 - (intOf i).toNat)
  case atStart =>
    exact ⟨0, r1, by omega, rfl, rfl, then_nil _ _ _, HK2.out.1, HK2.out.2⟩
  case round =>
    obtain ⟨j, q, hj, rfl, rfl, hrun, hst, hK⟩ := hrel
    by_cases hgo : j < 64 ∧ q.2.2 = true
    · obtain ⟨hj4, hq⟩ := hgo
      have hm1 := thenS_more (by omega) hrun hq
      rw [HO1.out] at hm1
      obtain ⟨p', m', ok⟩ := q
      simp only at hq hst hm1
      subst hq
      simp only [if_true] at hst
      obtain ⟨c, hc1, hc2, c0⟩ := hst.c0
      have HBS := hideIt (fun w' (h' : RSto w' rb fb jb true p' m') => rstroke_any rb fb jb fb 1024 0 c p' m' (B + j) 255 w' h' (.inl ⟨rfl, rfl, rfl⟩) (by omega))
      rw [show 0 + (B + j) = B + j by omega] at HBS
      have hss : ((strokeF p' (m'.getD (B + j) 0) 255).1, m'.set (B + j) (strokeF p' (m'.getD (B + j) 0) 255).2.1, (strokeF p' (m'.getD (B + j) 0) 255).2.2) = stepS p' m' (B + j) none := rfl
      rw [hss] at HBS
      obtain ⟨q2, hq2⟩ : ∃ q2, stepS p' m' (B + j) none = q2 := ⟨_, rfl⟩
      rw [hq2] at HBS hm1
      obtain ⟨qi, hqi⟩ : ∃ qi, B + j = qi := ⟨_, rfl⟩
      rw [hqi] at HBS
      have hadd : (B : Int) + (j : Int) = (qi : Int) := by omega
      have hq0 : (0 : Int) ≤ (qi : Int) := by omega
      have hql : (qi : Int) < 1024 := by omega
      have hwq : IntKind.i64.wrap (qi : Int) = (qi : Int) := by rw [IntKind.wrap_i64]; omega
      have hji : (j : Int) < 64 := by omega
      have h255 : ((255 : UInt8).toNat : Int) = 255 := rfl
      rw [h255] at HBS
      have HM := hideIt (And.intro hm1 (And.intro hst hK))
      clear hm1 hst hK hss hq2 hrun hqi
      go_wp2_with fail
      refine (HBS.out _ HM.out.2.1).mono ?_
      rintro e wz ⟨rfl, h1, h2⟩
      have HZ := hideIt (And.intro h1 h2)
      clear h1 h2
      go_wp2
      go_roundw
      case rel => exact ⟨j + 1, q2, by omega, by go_num, rfl, HM.out.1, HZ.out.1, HM.out.2.2.trans HZ.out.2⟩
      case measure => simp [intOf]; omega
    · have hx := thenS_exit hl1 hj hrun hgo
      have hcase : ¬ (j : Int) < 64 ∨ ((j : Int) < 64 ∧ q.2.2 = false) := by
        by_cases hj4 : j < 64
        · right
          refine ⟨by omega, ?_⟩
          cases hb : q.2.2
          · rfl
          · exact absurd ⟨hj4, hb⟩ hgo
        · left; omega
      have HX := hideIt (And.intro hx (And.intro hst hK))
      clear hx hst hK hrun hgo HK2
      obtain ⟨p', m', ok⟩ := q
      simp only at HX hcase ⊢
      rcases hcase with hjn | ⟨hjn, rfl⟩
      all_goals
        go_wp2_with fail
        go_loopw [7, 9] (fun o i wr => ∃ (j : Nat) (q : Pow × List UInt8 × Bool), j ≤ 64 ∧ i = .int .i64 j ∧ o = .bool q.2.2 ∧ thenS (thenS r1 (fun p m => runS p m B os1)) (fun p m => runS p m B (os2.take j)) = q ∧ RSto wr rb fb jb q.2.2 (if q.2.2 = true then q.1 else pow0) q.2.1 ∧ K3 w wr rb fb jb) (fun _ i _ => 64 - (intOf i).toNat)
        case atStart =>
          exact ⟨0, thenS r1 (fun p m => runS p m B os1), by omega, rfl, by rw [HX.out.1], then_nil _ _ _, by rw [HX.out.1]; exact HX.out.2.1, HX.out.2.2⟩
        case round =>
          obtain ⟨j, q, hj, rfl, rfl, hrun, hst, hK⟩ := hrel
          by_cases hgo : j < 64 ∧ q.2.2 = true
          · obtain ⟨hj4, hq⟩ := hgo
            have hm1 := thenS_more (by omega) hrun hq
            obtain ⟨x, hx⟩ : ∃ x, bs.getD j 0 = x := ⟨_, rfl⟩
            rw [HO2.out j hj4, hx] at hm1
            have hjS : j < S.size := by omega
            have hSx : S[j] = x := (HRB.out j hjS).trans hx
            obtain ⟨p', m', ok⟩ := q
            simp only at hq hst hm1
            subst hq
            simp only [if_true] at hst
            obtain ⟨c, hc1, hc2, c0⟩ := hst.c0
            have cj := hst.byte (lb := fb) (n := 1024) (o := 0) (.inl ⟨rfl, rfl, rfl⟩) (B + j) (by omega)
            rw [show 0 + (B + j) = B + j by omega] at cj
            have hand := and_b (m'.getD (B + j) 0) x
            have HBS := hideIt (fun w' (h' : RSto w' rb fb jb true p' m') => rstroke_any rb fb jb fb 1024 0 c p' m' (B + j) (m'.getD (B + j) 0 &&& x) w' h' (.inl ⟨rfl, rfl, rfl⟩) (by omega))
            rw [show 0 + (B + j) = B + j by omega] at HBS
            have hss : ((strokeF p' (m'.getD (B + j) 0) (m'.getD (B + j) 0 &&& x)).1, m'.set (B + j) (strokeF p' (m'.getD (B + j) 0) (m'.getD (B + j) 0 &&& x)).2.1, (strokeF p' (m'.getD (B + j) 0) (m'.getD (B + j) 0 &&& x)).2.2) = stepS p' m' (B + j) (some x) := rfl
            rw [hss] at HBS
            obtain ⟨q2, hq2⟩ : ∃ q2, stepS p' m' (B + j) (some x) = q2 := ⟨_, rfl⟩
            rw [hq2] at HBS hm1
            obtain ⟨y, hy⟩ : ∃ y, (m'.getD (B + j) 0 &&& x).toNat = y := ⟨_, rfl⟩
            obtain ⟨v, hv⟩ : ∃ v, (m'.getD (B + j) 0).toNat = v := ⟨_, rfl⟩
            rw [hy] at HBS hand
            rw [hv] at cj hand
            obtain ⟨qi, hqi⟩ : ∃ qi, B + j = qi := ⟨_, rfl⟩
            rw [hqi] at HBS cj
            have hadd : (B : Int) + (j : Int) = (qi : Int) := by omega
            have hq0 : (0 : Int) ≤ (qi : Int) := by omega
            have hql : (qi : Int) < 1024 := by omega
            have hwq : IntKind.i64.wrap (qi : Int) = (qi : Int) := by rw [IntKind.wrap_i64]; omega
            have hji : (j : Int) < 64 := by omega
            have hci : (1024 : Int) ≤ (c : Int) := by omega
            have HM := hideIt (And.intro hm1 (And.intro hst hK))
            clear hm1 hst hK hss hq2 hrun hqi hx hy hv HX
            go_wp2_with fail
            go_region_with (go_at_call 131; refine (HBS.out wr.drew (HM.out.2.1.kept (fun _ _ => rfl) (Nat.le_refl _))).mono ?_; rintro e wz ⟨rfl, h1, h2⟩)
            all_goals
              have HZ := hideIt (And.intro h1 h2)
              clear h1 h2
              go_wp2
              go_roundw
              case rel => exact ⟨j + 1, q2, by omega, by go_num, rfl, HM.out.1, HZ.out.1, HM.out.2.2.trans HZ.out.2.undrew⟩
              case measure => simp [intOf]; omega
          · have hx := thenS_exit hl2 hj hrun hgo
            have hu := HU.out q hx
            have hcase : (¬ (j : Int) < 64 ∧ q.2.2 = true) ∨ (¬ (j : Int) < 64 ∧ q.2.2 = false) ∨ ((j : Int) < 64 ∧ q.2.2 = false) := by
              cases hb : q.2.2
              · by_cases hj4 : j < 64
                · right; right; exact ⟨by omega, rfl⟩
                · right; left; exact ⟨by omega, rfl⟩
              · left
                exact ⟨fun hj4 => hgo ⟨by omega, hb⟩, rfl⟩
            have HY := hideIt (And.intro hx (And.intro hst (And.intro hK hu)))
            clear hx hst hK hrun hgo hu HX
            obtain ⟨p2, m2, ok2⟩ := q
            simp only at HY hcase ⊢
            rcases hcase with ⟨hjm, hok⟩ | ⟨hjm, hok⟩ | ⟨hjm, hok⟩
            · subst hok
              have HU2 := hideIt (HY.out.2.2.2 rfl)
              simp only [if_true] at HY
              go_wp2_with fail
              refine (HREC2.out _ _ _ HY.out.2.1).mono ?_
              rintro e w5 ⟨rfl, hB5⟩
              have HB5 := hideIt hB5
              clear hB5
              go_wp2_with fail
              refine (HW2.out _ _ _ (HY.out.2.1.below HB5.out) HU2.out).mono ?_
              rintro e w6 ⟨rfl, h1, h2⟩
              have HZ := hideIt (And.intro h1 h2)
              clear h1 h2
              go_wp2
              go_ret
              rw [HF.out, HY.out.1]
              exact ⟨rfl, HZ.out.1, HY.out.2.2.1.trans ((K3.of_below rb fb jb HY.out.2.1.lt.1 HB5.out).trans HZ.out.2)⟩
            all_goals
              subst hok
              go_wp2
              go_ret
              rw [HF.out, HY.out.1]
              exact ⟨rfl, HY.out.2.1, HY.out.2.2.1⟩
end Go.Proofs.YthokdbcpkmcieaaGreat
namespace Go.Proofs.YthokdbcpkmcieaaGreat
open Go Go.RowKit
attribute [local go_sem ↓] Go.wp_at_zero Go.wp_at_succ
theorem wrap_bit (j : Nat) (hj : j < 16) : IntKind.i64.wrap ((2 : Int) ^ j) = ((2 ^ j : Nat) : Int) := by
  have h16 : 2 ^ j ≤ 2 ^ 15 := Nat.pow_le_pow_right (by decide) (by omega)
  have : ((2 : Int) ^ j) = ((2 ^ j : Nat) : Int) := by rw [Int.natCast_pow]; rfl
  rw [this, IntKind.wrap_i64]
  generalize 2 ^ j = P at h16
  omega
set_option maxRecDepth 100000 in
set_option maxHeartbeats 4000000 in
theorem rBurnt_any (rb fb jb : Nat) (on : Bool) (p : Pow) (mem : List UInt8) (w : World) (h : RSto w rb fb jb on p mem) :
    Calls Tryz.prog 32 #[.pointer (some ⟨rb, 0, none⟩)] w fun e w' => e = .returned (.int .i64 (bitsF mem : Int)) ∧ Below w.heap.size w w' := by
  have H := hideIt h
  clear h
  go_enter Tryz.func32, Tryz.ntmps32
  go_wp2_with fail
  go_loopw [3, 4] (fun n i wr => ∃ j : Nat, j ≤ 16 ∧ i = .int .i64 j ∧ n = .int .i64 (bitsS mem j : Int) ∧ Below w.heap.size w wr) (fun _ i _ => 16 - (intOf i).toNat)
  case atStart => exact ⟨0, by omega, rfl, rfl, Below.refl _ _⟩
  case round =>
    obtain ⟨j, hj, rfl, rfl, hB⟩ := hrel
    have hbl := bitsS_lt mem j
    have hbp : 2 ^ j ≤ 2 ^ 16 := Nat.pow_le_pow_right (by decide) (by omega)
    by_cases hlt : j < 16
    · have hji : (j : Int) < 16 := by omega
      have hN : bitsS mem (j + 1) = bitsS mem j + (if burntF mem (UInt8.ofNat j) = true then 2 ^ j else 0) := rfl
      have htn : (UInt8.ofNat j).toNat = j := by rw [UInt8.toNat_ofNat']; omega
      have HC := hideIt (rburnt_any rb fb jb on p mem (UInt8.ofNat j) wr (H.out.below hB) (by rw [UInt8.lt_iff_toNat_lt, htn]; exact hlt))
      rw [htn] at HC
      have hwb := wrap_bit j hlt
      obtain ⟨P, hP⟩ : ∃ P, 2 ^ j = P := ⟨_, rfl⟩
      obtain ⟨C, hC⟩ : ∃ C, bitsS mem j = C := ⟨_, rfl⟩
      obtain ⟨b, hb⟩ : ∃ b, burntF mem (UInt8.ofNat j) = b := ⟨_, rfl⟩
      rw [hP] at hwb hbl hbp hN
      rw [hC] at hbl hN ⊢
      rw [hb] at HC hN
      have HN := hideIt hN
      have HB := hideIt hB
      clear hN hB htn hP hC hb
      go_wp2_with fail
      refine HC.out.mono ?_
      rintro e w1 ⟨rfl, hB1⟩
      have HB1 := hideIt (HB.out.trans (hB1.mono HB.out.size))
      clear hB1
      cases b
      · go_wp2
        go_roundw
        case rel => exact ⟨j + 1, by omega, by go_num, by rw [HN.out]; simp, HB1.out⟩
        case measure => simp [intOf]; omega
      · go_wp2
        go_roundw
        case rel => exact ⟨j + 1, by omega, by go_num, by rw [HN.out]; simp, HB1.out⟩
        case measure => simp [intOf]; omega
    · have hjn : ¬ (j : Int) < 16 := by omega
      have hje : j = 16 := by omega
      have HJ := hideIt hje
      have HB := hideIt hB
      clear hje hB
      go_wp2
      go_ret
      exact ⟨by rw [HJ.out]; rfl, HB.out⟩
def asksF (x : UInt8) : Nat := if x = 1 ∨ x = 4 then 4 else if x = 3 then 5 else if x = 2 then 69 else 0
set_option maxRecDepth 100000 in
set_option maxHeartbeats 2000000 in
theorem rasks_any (x : UInt8) (w : World) : Calls Tryz.prog 97 #[.int .i64 (x.toNat : Int)] w fun e w' => e = .returned (.int .i64 (asksF x : Int)) ∧ w' = w := by
  have hne : ∀ c : UInt8, x ≠ c → ((x.toNat : Int) == (c.toNat : Int)) = false := fun c h => by
    have : ¬ x.toNat = c.toNat := fun e => h (UInt8.toNat_inj.1 e)
    simp; omega
  by_cases h1 : x = 1
  · subst h1
    go_enter Tryz.func97, Tryz.ntmps97
    go_wp2
    go_ret
    exact ⟨rfl, rfl⟩
  by_cases h4 : x = 4
  · subst h4
    go_enter Tryz.func97, Tryz.ntmps97
    go_wp2
    go_ret
    exact ⟨rfl, rfl⟩
  by_cases h3 : x = 3
  · subst h3
    go_enter Tryz.func97, Tryz.ntmps97
    go_wp2
    go_ret
    exact ⟨rfl, rfl⟩
  by_cases h2 : x = 2
  · subst h2
    go_enter Tryz.func97, Tryz.ntmps97
    go_wp2
    go_ret
    exact ⟨rfl, rfl⟩
  have e : asksF x = 0 := by unfold asksF; simp [h1, h2, h3, h4]
  have n1 : ((x.toNat : Int) == 1) = false := hne 1 h1
  have n2 : ((x.toNat : Int) == 2) = false := hne 2 h2
  have n3 : ((x.toNat : Int) == 3) = false := hne 3 h3
  have n4 : ((x.toNat : Int) == 4) = false := hne 4 h4
  rw [e]
  clear h1 h2 h3 h4 hne e
  go_enter Tryz.func97, Tryz.ntmps97
  go_wp2
  go_ret
  exact ⟨rfl, rfl⟩
theorem ask_len {q : List UInt8} : (4 ≤ q.length ∧ q.length = asksF (q.getD 3 0)) ↔ askOk q = true := by
  unfold askOk asksF
  constructor
  · rintro ⟨h4, h⟩
    rw [if_neg (by omega)]
    split at h
    · rename_i e; rw [if_pos e]; simp [h]
    · rename_i e; rw [if_neg e]
      split at h
      · rename_i e3; rw [if_neg (by rw [e3]; decide), if_pos e3]; simp [h]
      · rename_i e3
        split at h
        · rename_i e2; rw [if_pos e2]; simp [h]
        · omega
  · intro h
    split at h
    · cases h
    · refine ⟨by omega, ?_⟩
      split at h
      · rename_i e; rw [if_pos e]; simpa using h
      · rename_i e; rw [if_neg e]
        split at h
        · rename_i e2; rw [if_neg (by rw [e2]; decide), if_pos e2]; simpa using h
        · rename_i e2
          split at h
          · rename_i e3; rw [if_pos e3]; simpa using h
          · cases h
/-- What the document's board finds to do first: its two words. -/
theorem conv_one (w : World) (x : UInt8) : (convert 24 9 (.slice (some ⟨w.heap.size, 0, none⟩) 1 1)).run Tryz.prog (w.alloc (.cells #[.int .u8 (x.toNat : Int)] 5)) = .ok (.string (txt [x])) (w.alloc (.cells #[.int .u8 (x.toNat : Int)] 5)) :=
  conv_row (l := [x]) (n := 1) rfl (own_first w w.heap.size (Nat.le_refl _) x)
theorem two_words (w : World) : ∃ wa, w.alloc (.cells #[.int .u8 1] 5) = wa ∧ ∃ wb, wa.alloc (.cells #[.int .u8 2] 5) = wb ∧ (convert 24 9 (.slice (some ⟨w.heap.size, 0, none⟩) 1 1)).run Tryz.prog wa = .ok (.string (txt [1])) wa ∧ (convert 24 9 (.slice (some ⟨wa.heap.size, 0, none⟩) 1 1)).run Tryz.prog wb = .ok (.string (txt [2])) wb ∧ Below w.heap.size w wb := by
  refine ⟨_, rfl, _, rfl, conv_one w 1, ?_, ((Below.refl _ _).alloc (Nat.le_refl _) _).alloc (by simp) _⟩
  exact conv_one (w.alloc (.cells #[.int .u8 1] 5)) 2
end Go.Proofs.YthokdbcpkmcieaaGreat
namespace Go.Proofs.YthokdbcpkmcieaaGreat
open Go Go.RowKit
attribute [local go_sem ↓] Go.wp_at_zero Go.wp_at_succ
theorem txt_at {q : List UInt8} {j : Nat} {S : ByteArray} (hS : txt q = S) (hj : j < S.size) : S[j] = q.getD j 0 := by
  subst hS
  have := ba_get (txt q) j hj
  rw [txt_toList] at this
  exact this.symm
set_option maxRecDepth 100000 in
set_option maxHeartbeats 4000000 in
theorem rdoes_open (rb : Nat) (q : List UInt8) (w : World) (h3 : q.getD 3 0 = 1) (hl : 4 ≤ q.length) (hx : q.length ≤ 1000) :
    Calls Tryz.prog 98 #[.pointer (some ⟨rb, 0, none⟩), .string (txt q)] w fun e w' => e = .returned (.string (txt [1])) ∧ Below w.heap.size w w' := by
  obtain ⟨wa, hwa, wb, hwb, cv1, cv2, hB⟩ := two_words w
  obtain ⟨S, hS⟩ : ∃ S, txt q = S := ⟨_, rfl⟩
  have hsz : S.size = q.length := by rw [← hS, txt_size]
  have h3S : 3 < S.size := by omega
  have hS3 : S[3] = 1 := (txt_at hS h3S).trans h3
  have hSi : (S.size : Int) ≤ 1000 := by omega
  have h3i : (3 : Int) < (S.size : Int) := by omega
  rw [hS]
  have HB := hideIt hB
  clear hB hsz hS h3
  go_enter Tryz.func98, Tryz.ntmps98
  go_wp2
  go_ret
  exact ⟨rfl, HB.out⟩
set_option maxRecDepth 100000 in
set_option maxHeartbeats 4000000 in
theorem rdoes_state (rb fb jb : Nat) (on : Bool) (p : Pow) (mem q : List UInt8) (w : World) (h : RSto w rb fb jb on p mem) (h3 : q.getD 3 0 = 4) (hl : 4 ≤ q.length) (hx : q.length ≤ 1000) :
    Calls Tryz.prog 98 #[.pointer (some ⟨rb, 0, none⟩), .string (txt q)] w fun e w' => e = .returned (.string (txt [1, UInt8.ofNat (bitsF mem / 256), UInt8.ofNat (bitsF mem % 256)])) ∧ Below w.heap.size w w' := by
  obtain ⟨wa, hwa, wb, hwb, cv1, cv2, hB⟩ := two_words w
  obtain ⟨S, hS⟩ : ∃ S, txt q = S := ⟨_, rfl⟩
  have hsz : S.size = q.length := by rw [← hS, txt_size]
  have h3S : 3 < S.size := by omega
  have hS3 : S[3] = 4 := (txt_at hS h3S).trans h3
  have hSi : (S.size : Int) ≤ 1000 := by omega
  have h3i : (3 : Int) < (S.size : Int) := by omega
  have HC := hideIt (rBurnt_any rb fb jb on p mem wb (h.below hB))
  have hbl : bitsF mem < 65536 := bitsS_lt mem 16
  have HT := hideIt (fun w' => two_any (bitsF mem) hbl w')
  have hout : txt [1, UInt8.ofNat (bitsF mem / 256), UInt8.ofNat (bitsF mem % 256)] = txt [1] ++ txt [UInt8.ofNat (bitsF mem / 256), UInt8.ofNat (bitsF mem % 256)] := by rw [txt_append]; rfl
  rw [hS, hout]
  have hs1 : (txt [1]).size = 1 := rfl
  have hs2 : (txt [UInt8.ofNat (bitsF mem / 256), UInt8.ofNat (bitsF mem % 256)]).size = 2 := rfl
  obtain ⟨T, hT⟩ : ∃ T, txt [UInt8.ofNat (bitsF mem / 256), UInt8.ofNat (bitsF mem % 256)] = T := ⟨_, rfl⟩
  obtain ⟨Y, hY⟩ : ∃ Y, txt [1] = Y := ⟨_, rfl⟩
  obtain ⟨C, hC⟩ : ∃ C, bitsF mem = C := ⟨_, rfl⟩
  rw [hT] at HT hs2 ⊢
  rw [hY] at cv1 hs1 ⊢
  rw [hC] at HT HC
  have HB := hideIt hB
  clear hB hsz hS h3 hT hY hC hout hbl h
  go_enter Tryz.func98, Tryz.ntmps98
  go_wp2_with fail
  refine HC.out.mono ?_
  rintro e w1 ⟨rfl, hB1⟩
  have HB1 := hideIt (HB.out.trans (hB1.mono HB.out.size))
  clear hB1
  go_wp2_with fail
  refine (HT.out _).mono ?_
  rintro e w2 ⟨rfl, hB2⟩
  have HB2 := hideIt (HB1.out.trans (hB2.mono HB1.out.size))
  clear hB2
  go_wp2
  go_ret
  exact ⟨rfl, HB2.out⟩
set_option maxRecDepth 100000 in
set_option maxHeartbeats 4000000 in
theorem rdoes_read (rb fb jb : Nat) (on : Bool) (p : Pow) (mem q : List UInt8) (w : World) (h : RSto w rb fb jb on p mem) (h3 : q.getD 3 0 = 3) (hl : 5 ≤ q.length) (hx : q.length ≤ 1000) :
    Calls Tryz.prog 98 #[.pointer (some ⟨rb, 0, none⟩), .string (txt q)] w fun e w' => e = .returned (.string (txt (if q.getD 4 0 < 16 ∧ burntF mem (q.getD 4 0) = true then 1 :: pageF mem (q.getD 4 0).toNat else [2]))) ∧ Below w.heap.size w w' := by
  obtain ⟨wa, hwa, wb, hwb, cv1, cv2, hB⟩ := two_words w
  obtain ⟨S, hS⟩ : ∃ S, txt q = S := ⟨_, rfl⟩
  have hsz : S.size = q.length := by rw [← hS, txt_size]
  have h3S : 3 < S.size := by omega
  have h4S : 4 < S.size := by omega
  obtain ⟨g, hg⟩ : ∃ g, q.getD 4 0 = g := ⟨_, rfl⟩
  have hS3 : S[3] = 3 := (txt_at hS h3S).trans h3
  have hS4 : S[4] = g := (txt_at hS h4S).trans hg
  have hSi : (S.size : Int) ≤ 1000 := by omega
  have h3i : (3 : Int) < (S.size : Int) := by omega
  have h4i : (4 : Int) < (S.size : Int) := by omega
  have hgl := g.toNat_lt
  rw [hS, hg]
  have HB := hideIt hB
  by_cases hg16 : g < 16
  · have hgn := u16 hg16
    have hgi : (g.toNat : Int) < 16 := by omega
    have HC := hideIt (rburnt_any rb fb jb on p mem g wb (h.below hB) hg16)
    have HH := hideIt h
    by_cases hb : burntF mem g = true
    · rw [if_pos ⟨hg16, hb⟩]
      rw [hb] at HC
      have HP := hideIt (fun w' (h' : RSto w' rb fb jb on p mem) => rpage_any rb fb jb on p mem g.toNat w' h' hgn)
      have hpl : (pageF mem g.toNat).length = 64 := win_len mem (64 * g.toNat) 64 (by rw [h.len]; omega)
      have hout : txt (1 :: pageF mem g.toNat) = txt [1] ++ txt (pageF mem g.toNat) := by rw [txt_append]; rfl
      rw [hout]
      have hs1 : (txt [1]).size = 1 := rfl
      have hs2 : (txt (pageF mem g.toNat)).size = 64 := by rw [txt_size, hpl]
      obtain ⟨T, hT⟩ : ∃ T, txt (pageF mem g.toNat) = T := ⟨_, rfl⟩
      obtain ⟨Y, hY⟩ : ∃ Y, txt [1] = Y := ⟨_, rfl⟩
      rw [hT] at HP hs2 ⊢
      rw [hY] at cv1 hs1 ⊢
      clear hB hsz hS h3 hT hY hout h hpl hg hg16 hb
      go_enter Tryz.func98, Tryz.ntmps98
      go_wp2_with fail
      refine HC.out.mono ?_
      rintro e w1 ⟨rfl, hB1⟩
      have HB1 := hideIt (HB.out.trans (hB1.mono HB.out.size))
      clear hB1
      go_wp2_with fail
      refine (HP.out _ (HH.out.below HB1.out)).mono ?_
      rintro e w2 ⟨rfl, rfl⟩
      go_wp2
      go_ret
      exact ⟨rfl, HB1.out⟩
    · have hbf : burntF mem g = false := by simpa using hb
      rw [if_neg (fun e => hb e.2)]
      rw [hbf] at HC
      clear hB hsz hS h3 h hg hg16 hb
      go_enter Tryz.func98, Tryz.ntmps98
      go_wp2_with fail
      refine HC.out.mono ?_
      rintro e w1 ⟨rfl, hB1⟩
      have HB1 := hideIt (HB.out.trans (hB1.mono HB.out.size))
      clear hB1
      go_wp2
      go_ret
      exact ⟨rfl, HB1.out⟩
  · rw [if_neg (fun e => hg16 e.1)]
    have hgi : ¬ (g.toNat : Int) < 16 := by
      intro e
      exact hg16 (UInt8.lt_iff_toNat_lt.2 (by show g.toNat < 16; omega))
    have hgi2 : (16 : Int) ≤ (g.toNat : Int) := by omega
    clear hB hsz hS h3 h hg hg16
    go_enter Tryz.func98, Tryz.ntmps98
    go_wp2
    go_ret
    exact ⟨rfl, HB.out⟩
theorem txt_drop {q : List UInt8} {S : ByteArray} (hS : txt q = S) (k : Nat) : S.extract k S.size = txt (q.drop k) := by
  subst hS
  have := baE_drop (txt q) k
  rw [txt_toList] at this
  rw [← this, txt_ba]
set_option maxRecDepth 100000 in
set_option maxHeartbeats 4000000 in
theorem rdoes_full (rb fb jb : Nat) (p : Pow) (mem q : List UInt8) (k : Nat) (w : World) (h : RSto w rb fb jb true p mem) (hu : Used mem k) (h3 : q.getD 3 0 = 2) (hl : q.length = 69) (hok : ¬ (q.getD 4 0 < 16 ∧ 2 ≤ roomF mem)) :
    Calls Tryz.prog 98 #[.pointer (some ⟨rb, 0, none⟩), .string (txt q)] w fun e w' => e = .returned (.string (txt [2])) ∧ Below w.heap.size w w' := by
  obtain ⟨wa, hwa, wb, hwb, cv1, cv2, hB⟩ := two_words w
  obtain ⟨S, hS⟩ : ∃ S, txt q = S := ⟨_, rfl⟩
  have hsz : S.size = 69 := by rw [← hS, txt_size, hl]
  have h3S : 3 < S.size := by omega
  have h4S : 4 < S.size := by omega
  obtain ⟨g, hg⟩ : ∃ g, q.getD 4 0 = g := ⟨_, rfl⟩
  have hS3 : S[3] = 2 := (txt_at hS h3S).trans h3
  have hS4 : S[4] = g := (txt_at hS h4S).trans hg
  have hgl := g.toNat_lt
  rw [hS]
  rw [hg] at hok
  have HFR := hideIt (rfree_any rb fb jb true p mem wb (h.below hB))
  rw [roomF_used hu] at HFR hok
  obtain ⟨RM, hRM⟩ : ∃ RM, 60 - k = RM := ⟨_, rfl⟩
  obtain ⟨AT, hAT⟩ : ∃ AT, atS mem 60 = AT := ⟨_, rfl⟩
  rw [hRM] at HFR hok
  rw [hAT] at HFR
  have hrl : (RM : Int) ≤ 60 := by omega
  have HB := hideIt hB
  have hcase : (16 : Int) ≤ (g.toNat : Int) ∨ ((g.toNat : Int) < 16 ∧ (RM : Int) < 2) := by
    by_cases e : g.toNat < 16
    · right
      refine ⟨by omega, ?_⟩
      have : ¬ 2 ≤ RM := fun h2 => hok ⟨UInt8.lt_iff_toNat_lt.2 (by show g.toNat < 16; exact e), h2⟩
      omega
    · left; omega
  clear hB hS h3 h hg hRM hAT hu hl hok
  rcases hcase with hc | ⟨hc, hc2⟩
  all_goals
    go_enter Tryz.func98, Tryz.ntmps98
    go_wp2_with fail
    refine HFR.out.mono ?_
    rintro e w1 ⟨rfl, hB1⟩
    have HB1 := hideIt (HB.out.trans (hB1.mono HB.out.size))
    clear hB1
    go_wp2
    go_ret
    exact ⟨rfl, HB1.out⟩
end Go.Proofs.YthokdbcpkmcieaaGreat
namespace Go.Proofs.YthokdbcpkmcieaaGreat
open Go Go.RowKit
attribute [local go_sem ↓] Go.wp_at_zero Go.wp_at_succ
set_option maxRecDepth 100000 in
set_option maxHeartbeats 4000000 in
theorem rdoes_page (rb fb jb : Nat) (p : Pow) (mem q : List UInt8) (k : Nat) (w : World) (h : RSto w rb fb jb true p mem) (hu : Used mem k) (h3 : q.getD 3 0 = 2) (hl : q.length = 69) (hok : q.getD 4 0 < 16 ∧ 2 ≤ roomF mem) :
    Calls Tryz.prog 98 #[.pointer (some ⟨rb, 0, none⟩), .string (txt q)] w fun e w' => e = .returned (.string (txt (if (burnPageF p mem (q.getD 4 0) (q.drop 5)).2.2 = true then [1] else []))) ∧ RSto w' rb fb jb (burnPageF p mem (q.getD 4 0) (q.drop 5)).2.2 (if (burnPageF p mem (q.getD 4 0) (q.drop 5)).2.2 = true then (burnPageF p mem (q.getD 4 0) (q.drop 5)).1 else pow0) (burnPageF p mem (q.getD 4 0) (q.drop 5)).2.1 ∧ K3 w w' rb fb jb := by
  obtain ⟨wa, hwa, wb, hwb, cv1, cv2, hB⟩ := two_words w
  obtain ⟨S, hS⟩ : ∃ S, txt q = S := ⟨_, rfl⟩
  have hsz : S.size = 69 := by rw [← hS, txt_size, hl]
  have h3S : 3 < S.size := by omega
  have h4S : 4 < S.size := by omega
  obtain ⟨g, hg⟩ : ∃ g, q.getD 4 0 = g := ⟨_, rfl⟩
  have hS3 : S[3] = 2 := (txt_at hS h3S).trans h3
  have hS4 : S[4] = g := (txt_at hS h4S).trans hg
  have hgl := g.toNat_lt
  have hS5 : S.extract 5 S.size = txt (q.drop 5) := txt_drop hS 5
  rw [hS]
  rw [hg] at hok ⊢
  obtain ⟨hg16, hrm⟩ := hok
  have hgn := u16 hg16
  have hgi : (g.toNat : Int) < 16 := by omega
  have hwg : IntKind.i64.wrap (g.toNat : Int) = (g.toNat : Int) := by rw [IntKind.wrap_i64]; omega
  rw [roomF_used hu] at hrm
  have HFR := hideIt (rfree_any rb fb jb true p mem wb (h.below hB))
  rw [roomF_used hu] at HFR
  have HBU := hideIt (fun w' (h' : RSto w' rb fb jb true p mem) => rburn_any rb fb jb p mem k g (q.drop 5) w' h' hu (by omega) hg16 (by rw [List.length_drop, hl]))
  obtain ⟨D, hD⟩ : ∃ D, txt (q.drop 5) = D := ⟨_, rfl⟩
  obtain ⟨r, hr⟩ : ∃ r, burnPageF p mem g (q.drop 5) = r := ⟨_, rfl⟩
  obtain ⟨RM, hRM⟩ : ∃ RM, 60 - k = RM := ⟨_, rfl⟩
  obtain ⟨AT, hAT⟩ : ∃ AT, atS mem 60 = AT := ⟨_, rfl⟩
  rw [hD] at HBU hS5
  rw [hr] at HBU ⊢
  rw [hRM] at HFR hrm
  rw [hAT] at HFR
  have hrl : (RM : Int) ≤ 60 := by omega
  have hrmi : (2 : Int) ≤ (RM : Int) := by omega
  have HB := hideIt hB
  have HH := hideIt h
  clear hB hS h3 h hg hg16 hD hr hRM hAT hu hl hrm
  obtain ⟨p2, m2, ok⟩ := r
  have hsl : S.extract 5 69 = D := by rw [← hS5, hsz]
  cases ok
  all_goals
    go_enter Tryz.func98, Tryz.ntmps98
    go_wp2_with fail
    refine HFR.out.mono ?_
    rintro e w1 ⟨rfl, hB1⟩
    have HB1 := hideIt (HB.out.trans (hB1.mono HB.out.size))
    clear hB1
    go_wp2_with fail
    go_region_with (go_at_call 117; refine (HBU.out w1.drew ((HH.out.below HB1.out).kept (fun _ _ => rfl) (Nat.le_refl _))).mono ?_; rintro e wz ⟨rfl, h1, h2⟩)
    all_goals
      have HZ := hideIt (And.intro h1 h2)
      clear h1 h2
      go_wp2
      go_ret
      exact ⟨rfl, HZ.out.1, (K3.of_below rb fb jb HH.out.lt.1 HB1.out).trans HZ.out.2.undrew⟩
end Go.Proofs.YthokdbcpkmcieaaGreat
namespace Go.Proofs.YthokdbcpkmcieaaGreat
open Go Go.RowKit
attribute [local go_sem ↓] Go.wp_at_zero Go.wp_at_succ
/-- What the document's board knows of those who speak to it. -/
structure RTk where
  kn : Bool
  ses : List UInt8
  last : Nat
  ans : List UInt8
structure RBd (w : World) (rb fb jb : Nat) (on : Bool) (p : Pow) (mem : List UInt8) (r : REar) (t : RTk) : Prop where
  sto : RSto w rb fb jb on p mem
  ear : REarO w rb 5 r
  c7 : w.cell? ⟨rb, 7, none⟩ = some (.bool t.kn)
  c8 : w.cell? ⟨rb, 8, none⟩ = some (.string (txt t.ses))
  c9 : w.cell? ⟨rb, 9, none⟩ = some (.int .i64 (t.last : Int))
  c10 : w.cell? ⟨rb, 10, none⟩ = some (.string (txt t.ans))
  ll : t.last ≤ 255
  sl : t.ses.length ≤ 2
  al : t.ans.length ≤ 400
/-- Of the old blocks these three alone have changed. -/
structure G3 (w w' : World) (rb fb jb : Nat) : Prop where
  os : w'.os = w.os
  tape : w'.tape = w.tape
  output : w'.output = w.output
  size : w.heap.size ≤ w'.heap.size
  block : ∀ k, k < w.heap.size → k ≠ rb → k ≠ fb → k ≠ jb → w'.heap[k]? = w.heap[k]?
theorem G3.refl (w : World) (rb fb jb : Nat) : G3 w w rb fb jb := ⟨rfl, rfl, rfl, Nat.le_refl _, fun _ _ _ _ _ => rfl⟩
theorem G3.trans {w w1 w2 : World} {rb fb jb : Nat} (h : G3 w w1 rb fb jb) (g : G3 w1 w2 rb fb jb) : G3 w w2 rb fb jb :=
  ⟨g.os.trans h.os, g.tape.trans h.tape, g.output.trans h.output, Nat.le_trans h.size g.size, fun k hk a b c => (g.block k (Nat.lt_of_lt_of_le hk h.size) a b c).trans (h.block k hk a b c)⟩
theorem K3.g3 {w w' : World} {rb fb jb : Nat} (h : K3 w w' rb fb jb) : G3 w w' rb fb jb := ⟨h.os, h.tape, h.output, h.size, h.block⟩
theorem G3.of_below {w w' : World} (rb fb jb : Nat) (h : Below w.heap.size w w') : G3 w w' rb fb jb := ⟨h.os, h.tape, h.output, h.size, fun k hk _ _ _ => h.block k hk⟩
theorem G3.set (w : World) (rb fb jb j : Nat) (v : Value) : G3 w (w.setCell ⟨rb, j, none⟩ v) rb fb jb :=
  ⟨rfl, rfl, rfl, Nat.le_of_eq (by simp [World.setCell]), fun k _ h _ _ => heap_setCell_other w ⟨rb, j, none⟩ k v h⟩
theorem G3.grown {w w' : World} {rb : Nat} (fb jb : Nat) (h : w.grownBy w' (some rb)) : G3 w w' rb fb jb := ⟨h.os, h.tape, h.output, h.size, fun k hk a _ _ => h.block k hk (by simpa using a)⟩
theorem G3.drewN {w w' : World} {rb fb jb : Nat} (h : G3 w w' rb fb jb) (m : Nat) : G3 w (w'.drewN m) rb fb jb := ⟨h.os, h.tape, h.output, h.size, h.block⟩
theorem RSto.setRest {w : World} {rb fb jb : Nat} {on : Bool} {p : Pow} {mem : List UInt8} (h : RSto w rb fb jb on p mem) (j : Nat) (v : Value) (hj : 5 ≤ j) : RSto (w.setCell ⟨rb, j, none⟩ v) rb fb jb on p mem := by
  obtain ⟨n1, n2, n3⟩ := h.ne
  have hc : ∀ i, i < 5 → (w.setCell ⟨rb, j, none⟩ v).cell? ⟨rb, i, none⟩ = w.cell? ⟨rb, i, none⟩ := fun i hi => World.cell?_setCell_other _ _ _ _ (by simp <;> omega)
  have hz : (w.setCell ⟨rb, j, none⟩ v).heap.size = w.heap.size := by simp [World.setCell]
  refine ⟨?_, ?_, (hc 2 (by omega)).trans h.c2, (hc 3 (by omega)).trans h.c3, ?_, bytes_set_other h.fl (fun e => n1 e.symm), bytes_set_other h.jl (fun e => n2 e.symm), h.len, h.pl, fun b j e => by simp [h.fz b j e], by rw [hz]; exact h.lt, h.ne⟩
  · obtain ⟨c, a, b, e⟩ := h.c0; exact ⟨c, a, b, (hc 0 (by omega)).trans e⟩
  · obtain ⟨c, a, b, e⟩ := h.c1; exact ⟨c, a, b, (hc 1 (by omega)).trans e⟩
  · obtain ⟨z, e, f⟩ := h.c4; exact ⟨z, (hc 4 (by omega)).trans e, f⟩
theorem REarO.setRest {w : World} {rb : Nat} {r : REar} (h : REarO w rb 5 r) (j : Nat) (v : Value) (hj : 7 ≤ j) : REarO (w.setCell ⟨rb, j, none⟩ v) rb 5 r :=
  ⟨(World.cell?_setCell_other _ _ _ _ (by simp <;> omega)).trans h.c0, (World.cell?_setCell_other _ _ _ _ (by simp <;> omega)).trans h.c1, fun i => by simp [h.fz i], by simpa [World.setCell] using h.lt⟩
theorem RBd.setKn {w : World} {rb fb jb : Nat} {on : Bool} {p : Pow} {mem : List UInt8} {r : REar} {t : RTk} (h : RBd w rb fb jb on p mem r t) (b : Bool) : RBd (w.setCell ⟨rb, 7, none⟩ (.bool b)) rb fb jb on p mem r ⟨b, t.ses, t.last, t.ans⟩ :=
  ⟨h.sto.setRest 7 _ (by omega), h.ear.setRest 7 _ (by omega), World.cell?_setCell_same _ _ _ h.c7, (World.cell?_setCell_other _ _ _ _ (by simp)).trans h.c8, (World.cell?_setCell_other _ _ _ _ (by simp)).trans h.c9, (World.cell?_setCell_other _ _ _ _ (by simp)).trans h.c10, h.ll, h.sl, h.al⟩
theorem RBd.setSes {w : World} {rb fb jb : Nat} {on : Bool} {p : Pow} {mem : List UInt8} {r : REar} {t : RTk} (h : RBd w rb fb jb on p mem r t) (s : List UInt8) (hs : s.length ≤ 2) : RBd (w.setCell ⟨rb, 8, none⟩ (.string (txt s))) rb fb jb on p mem r ⟨t.kn, s, t.last, t.ans⟩ :=
  ⟨h.sto.setRest 8 _ (by omega), h.ear.setRest 8 _ (by omega), (World.cell?_setCell_other _ _ _ _ (by simp)).trans h.c7, World.cell?_setCell_same _ _ _ h.c8, (World.cell?_setCell_other _ _ _ _ (by simp)).trans h.c9, (World.cell?_setCell_other _ _ _ _ (by simp)).trans h.c10, h.ll, hs, h.al⟩
theorem RBd.setLast {w : World} {rb fb jb : Nat} {on : Bool} {p : Pow} {mem : List UInt8} {r : REar} {t : RTk} (h : RBd w rb fb jb on p mem r t) (n : Nat) (hn : n ≤ 255) : RBd (w.setCell ⟨rb, 9, none⟩ (.int .i64 (n : Int))) rb fb jb on p mem r ⟨t.kn, t.ses, n, t.ans⟩ :=
  ⟨h.sto.setRest 9 _ (by omega), h.ear.setRest 9 _ (by omega), (World.cell?_setCell_other _ _ _ _ (by simp)).trans h.c7, (World.cell?_setCell_other _ _ _ _ (by simp)).trans h.c8, World.cell?_setCell_same _ _ _ h.c9, (World.cell?_setCell_other _ _ _ _ (by simp)).trans h.c10, hn, h.sl, h.al⟩
theorem RBd.setAns {w : World} {rb fb jb : Nat} {on : Bool} {p : Pow} {mem : List UInt8} {r : REar} {t : RTk} (h : RBd w rb fb jb on p mem r t) (a : List UInt8) (ha : a.length ≤ 400) : RBd (w.setCell ⟨rb, 10, none⟩ (.string (txt a))) rb fb jb on p mem r ⟨t.kn, t.ses, t.last, a⟩ :=
  ⟨h.sto.setRest 10 _ (by omega), h.ear.setRest 10 _ (by omega), (World.cell?_setCell_other _ _ _ _ (by simp)).trans h.c7, (World.cell?_setCell_other _ _ _ _ (by simp)).trans h.c8, (World.cell?_setCell_other _ _ _ _ (by simp)).trans h.c9, World.cell?_setCell_same _ _ _ h.c10, h.ll, h.sl, ha⟩
theorem RBd.below {w w' : World} {rb fb jb : Nat} {on : Bool} {p : Pow} {mem : List UInt8} {r : REar} {t : RTk} (h : RBd w rb fb jb on p mem r t) (hb : Below w.heap.size w w') : RBd w' rb fb jb on p mem r t := by
  have e := hb.block rb h.sto.lt.1
  have hc : ∀ j, w'.cell? ⟨rb, j, none⟩ = w.cell? ⟨rb, j, none⟩ := fun j => World.cell?_of_block (a := ⟨rb, j, none⟩) e
  exact ⟨h.sto.below hb, h.ear.kept e hb.size, (hc 7).trans h.c7, (hc 8).trans h.c8, (hc 9).trans h.c9, (hc 10).trans h.c10, h.ll, h.sl, h.al⟩
theorem RBd.kept {w w' : World} {rb fb jb : Nat} {on : Bool} {p : Pow} {mem : List UInt8} {r : REar} {t : RTk} (h : RBd w rb fb jb on p mem r t) (hb : ∀ b, b = rb ∨ b = fb ∨ b = jb → w'.heap[b]? = w.heap[b]?) (hz : w.heap.size ≤ w'.heap.size) : RBd w' rb fb jb on p mem r t := by
  have e := hb rb (.inl rfl)
  have hc : ∀ j, w'.cell? ⟨rb, j, none⟩ = w.cell? ⟨rb, j, none⟩ := fun j => World.cell?_of_block (a := ⟨rb, j, none⟩) e
  exact ⟨h.sto.kept hb hz, h.ear.kept e hz, (hc 7).trans h.c7, (hc 8).trans h.c8, (hc 9).trans h.c9, (hc 10).trans h.c10, h.ll, h.sl, h.al⟩
/-- Strokes change nothing else of the board. -/
theorem RBd.k3 {w w' : World} {rb fb jb : Nat} {on on' : Bool} {p p' : Pow} {mem mem' : List UInt8} {r : REar} {t : RTk} (h : RBd w rb fb jb on p mem r t) (hs : RSto w' rb fb jb on' p' mem') (hk : K3 w w' rb fb jb) : RBd w' rb fb jb on' p' mem' r t :=
  ⟨hs, ⟨(hk.rest 5 (by omega)).trans h.ear.c0, (hk.rest 6 (by omega)).trans h.ear.c1, fun j => hs.fz rb j (.inl rfl), hs.lt.1⟩, (hk.rest 7 (by omega)).trans h.c7, (hk.rest 8 (by omega)).trans h.c8, (hk.rest 9 (by omega)).trans h.c9, (hk.rest 10 (by omega)).trans h.c10, h.ll, h.sl, h.al⟩
/-- What is done, of any kind. -/
theorem rdoes_any (rb fb jb : Nat) (p : Pow) (mem q : List UInt8) (k : Nat) (w : World) (h : RSto w rb fb jb true p mem) (hu : Used mem k) (ha : askOk q = true) :
    Calls Tryz.prog 98 #[.pointer (some ⟨rb, 0, none⟩), .string (txt q)] w fun e w' => e = .returned (.string (txt (if (doF p mem (q.getD 3 0) (q.drop 4)).1.2.2 = true then (doF p mem (q.getD 3 0) (q.drop 4)).2 else []))) ∧ RSto w' rb fb jb (doF p mem (q.getD 3 0) (q.drop 4)).1.2.2 (if (doF p mem (q.getD 3 0) (q.drop 4)).1.2.2 = true then (doF p mem (q.getD 3 0) (q.drop 4)).1.1 else pow0) (doF p mem (q.getD 3 0) (q.drop 4)).1.2.1 ∧ K3 w w' rb fb jb := by
  obtain ⟨hl4, hl⟩ := ask_len.2 ha
  have hg : (q.drop 4).getD 0 0 = q.getD 4 0 := by simp [List.getD_eq_getElem?_getD]
  have hd : (q.drop 4).drop 1 = q.drop 5 := by simp [List.drop_drop]
  unfold asksF at hl
  split at hl
  · rename_i e
    rcases e with e | e
    · rw [e]
      have : doF p mem 1 (q.drop 4) = ((p, mem, true), [1]) := rfl
      rw [this]
      exact (rdoes_open rb q w e (by omega) (by omega)).mono fun e w' ⟨h1, h2⟩ => ⟨h1, h.below h2, K3.of_below rb fb jb h.lt.1 h2⟩
    · rw [e]
      have : doF p mem 4 (q.drop 4) = ((p, mem, true), [1, UInt8.ofNat (bitsF mem / 256), UInt8.ofNat (bitsF mem % 256)]) := rfl
      rw [this]
      exact (rdoes_state rb fb jb true p mem q w h e (by omega) (by omega)).mono fun e w' ⟨h1, h2⟩ => ⟨h1, h.below h2, K3.of_below rb fb jb h.lt.1 h2⟩
  · split at hl
    · rename_i e
      rw [e]
      have : doF p mem 3 (q.drop 4) = ((p, mem, true), if q.getD 4 0 < 16 ∧ burntF mem (q.getD 4 0) = true then 1 :: pageF mem (q.getD 4 0).toNat else [2]) := by
        unfold doF
        rw [if_neg (by decide), if_pos rfl, hg]
      rw [this]
      exact (rdoes_read rb fb jb true p mem q w h e (by omega) (by omega)).mono fun e w' ⟨h1, h2⟩ => ⟨h1, h.below h2, K3.of_below rb fb jb h.lt.1 h2⟩
    · split at hl
      · rename_i e
        rw [e]
        by_cases hok : q.getD 4 0 < 16 ∧ 2 ≤ roomF mem
        · have : doF p mem 2 (q.drop 4) = (burnPageF p mem (q.getD 4 0) (q.drop 5), [1]) := by
            unfold doF
            rw [if_pos rfl, hg, if_pos hok, hd]
          rw [this]
          exact rdoes_page rb fb jb p mem q k w h hu e hl hok
        · have : doF p mem 2 (q.drop 4) = ((p, mem, true), [2]) := by
            unfold doF
            rw [if_pos rfl, hg, if_neg hok]
          rw [this]
          exact (rdoes_full rb fb jb p mem q k w h hu e hl hok).mono fun e w' ⟨h1, h2⟩ => ⟨h1, h.below h2, K3.of_below rb fb jb h.lt.1 h2⟩
      · omega
end Go.Proofs.YthokdbcpkmcieaaGreat
