/- Walks of the document's board: burn. -/
import Derived.Test.YthokdbcpkmcieaaGreatRBo6
namespace Go.Proofs.YthokdbcpkmcieaaGreat
open Go Go.RowKit
attribute [local go_sem ↓] Go.wp_at_zero Go.wp_at_succ
/-- Strokes behind what came before, as far as the power lasts. -/
theorem thenS_more {r q : Pow × List UInt8 × Bool} {i j : Nat} {os : List (Option UInt8)} (hj : j < os.length) (h : thenS r (fun p m => runS p m i (os.take j)) = q) (hq : q.2.2 = true) : thenS r (fun p m => runS p m i (os.take (j + 1))) = stepS q.1 q.2.1 (i + j) (os.getD j none) := by
  unfold thenS at h ⊢
  by_cases hr : r.2.2 = true
  · rw [if_pos hr] at h ⊢
    have : runS r.1 r.2.1 i (os.take j) = (q.1, q.2.1, true) := h.trans (by rw [← hq])
    exact (runS_more hj this).1
  · rw [if_neg hr] at h
    exact absurd (by rw [h]; exact hq) hr
theorem thenS_stop {r q : Pow × List UInt8 × Bool} {i j : Nat} {os : List (Option UInt8)} (h : thenS r (fun p m => runS p m i (os.take j)) = q) (hq : q.2.2 = false) : thenS r (fun p m => runS p m i os) = q := by
  unfold thenS at h ⊢
  by_cases hr : r.2.2 = true
  · rw [if_pos hr] at h ⊢
    replace h : runS r.1 r.2.1 i (os.take j) = q := h
    show runS r.1 r.2.1 i os = q
    have e := runS_append (os.take j) (os.drop j) r.1 r.2.1 i
    rw [List.take_append_drop, h] at e
    rw [e]
    unfold thenS
    rw [if_neg (by rw [hq]; simp)]
  · rw [if_neg hr] at h ⊢; exact h
theorem thenS_exit {r q : Pow × List UInt8 × Bool} {i j : Nat} {os : List (Option UInt8)} (hl : os.length = 64) (hj : j ≤ 64) (h : thenS r (fun p m => runS p m i (os.take j)) = q) (hq : ¬ (j < 64 ∧ q.2.2 = true)) : thenS r (fun p m => runS p m i os) = q := by
  by_cases e : j = 64
  · subst e
    rw [show os.take 64 = os by rw [← hl, List.take_length]] at h
    exact h
  · exact thenS_stop h (by
      cases hb : q.2.2
      · rfl
      · exact absurd ⟨by omega, hb⟩ hq)
theorem then_nil (r : Pow × List UInt8 × Bool) (i : Nat) (os : List (Option UInt8)) : thenS r (fun p m => runS p m i (os.take 0)) = r := by
  obtain ⟨a, b, c⟩ := r
  cases c <;> rfl
/-- Behind the strokes on the page there is a record more. -/
theorem three_used {p : Pow} {m bs : List UInt8} {k : Nat} {n : UInt8} (hu : Used m k) (hk : k + 2 ≤ 60) (hn : n < 16) (hb : bs.length = 64) {q : Pow × List UInt8 × Bool}
    (h : thenS (thenS (writeF p m (recF m n 1)) fun p m => runS p m (64 * n.toNat) (List.replicate 64 none)) (fun p m => runS p m (64 * n.toNat) (bs.map some)) = q) (hq : q.2.2 = true) : Used q.2.1 (k + 1) := by
  have m1 := mid_first (n := n) hu (by omega) hn
  have m3 := m1.puts hn (l := bs) (by omega)
  have hlen := hu.len
  have hnn := u16 hn
  by_cases h1 : lasts p 4
  · rw [writeF_lasts hu (by omega) rfl h1] at h
    simp only [thenS, if_true] at h
    by_cases h2 : lasts (lessP p 4) 64
    · rw [page_erased m1 hn _ h2] at h
      simp only [if_true] at h
      by_cases h3 : lasts (lessP (lessP p 4) 64) 64
      · rw [page_burns m1 hn hb _ h3] at h
        rw [← h]
        exact m3.used
      · have he := m1.puts hn (l := List.replicate 64 255) (by simp)
        obtain ⟨l, e1, _⟩ := runS_false (os := bs.map some) (p := lessP (lessP p 4) 64) (m := put (put m (1024 + 4 * k) (recF m n 1)) (64 * n.toNat) (List.replicate 64 255)) (i := 64 * n.toNat) (by rw [he.used.len]; simp [hb]; omega) (by simpa [hb] using h3)
        rw [e1] at h
        rw [← h] at hq
        cases hq
    · obtain ⟨l, e1, _⟩ := runS_false (os := List.replicate 64 none) (p := lessP p 4) (m := put m (1024 + 4 * k) (recF m n 1)) (i := 64 * n.toNat) (by rw [m1.used.len]; simp; omega) (by simpa using h2)
      rw [e1] at h
      simp only [Bool.false_eq_true, if_false] at h
      rw [← h] at hq
      cases hq
  · obtain ⟨l, e1, _⟩ := writeF_fails (r := recF m n 1) hu (by omega) rfl h1
    rw [e1] at h
    simp only [thenS, Bool.false_eq_true, if_false] at h
    rw [← h] at hq
    cases hq
set_option maxRecDepth 100000 in
set_option maxHeartbeats 16000000 in
theorem rburn_any (rb fb jb : Nat) (p : Pow) (mem : List UInt8) (k : Nat) (n : UInt8) (bs : List UInt8) (w : World) (h : RSto w rb fb jb true p mem) (hu : Used mem k) (hk : k + 2 ≤ 60) (hn : n < 16) (hb : bs.length = 64) :
    Calls Tryz.prog 117 #[.pointer (some ⟨rb, 0, none⟩), .int .i64 (n.toNat : Int), .string (txt bs)] w (REnd w rb fb jb (burnPageF p mem n bs)) := by
  have hn16 := u16 hn
  have HU := hideIt (fun (q : Pow × List UInt8 × Bool) => three_used (p := p) hu hk hn hb (q := q))
  have HF : Hid (burnPageF p mem n bs = thenS (thenS (thenS (writeF p mem (recF mem n 1)) fun p m => runS p m (64 * n.toNat) (List.replicate 64 none)) fun p m => runS p m (64 * n.toNat) (bs.map some)) fun p m => writeF p m (recF m n 2)) := rfl
  have HREC := hideIt (fun w' => rrecord_one rb n mem w')
  have HW1 := hideIt (fun w' (h' : RSto w' rb fb jb true p mem) => rwrite_any rb fb jb p mem k (recF mem n 1) w' h' hu (by omega) (recF_len _ _ _))
  have HREC2 := hideIt (fun w' p' m' (h' : RSto w' rb fb jb true p' m') => rrecord_two rb fb jb true p' m' n w' h' hn)
  have HW2 := hideIt (fun w' p' m' (h' : RSto w' rb fb jb true p' m') (hu' : Used m' (k + 1)) => rwrite_any rb fb jb p' m' (k + 1) (recF m' n 2) w' h' hu' (by omega) (recF_len _ _ _))
  obtain ⟨r1, hr1⟩ : ∃ r1, writeF p mem (recF mem n 1) = r1 := ⟨_, rfl⟩
  obtain ⟨R1, hR1⟩ : ∃ R1, txt (recF mem n 1) = R1 := ⟨_, rfl⟩
  obtain ⟨os1, ho1⟩ : ∃ os1 : List (Option UInt8), List.replicate 64 none = os1 := ⟨_, rfl⟩
  obtain ⟨os2, ho2⟩ : ∃ os2 : List (Option UInt8), bs.map some = os2 := ⟨_, rfl⟩
  have hl1 : os1.length = 64 := by rw [← ho1]; simp
  have hl2 : os2.length = 64 := by rw [← ho2]; simp [hb]
  have HO1 : Hid (∀ j, os1.getD j none = none) := fun j => by
    rw [← ho1, List.getD_eq_getElem?_getD, List.getElem?_replicate]
    split <;> rfl
  have HO2 : Hid (∀ j, j < 64 → os2.getD j none = some (bs.getD j 0)) := fun j hj => by
    rw [← ho2, List.getD_eq_getElem?_getD, List.getElem?_map, List.getD_eq_getElem?_getD, List.getElem?_eq_getElem (by omega)]
    rfl
  rw [hr1, ho1, ho2] at HF HU
  rw [hr1, hR1] at HW1
  rw [hR1] at HREC
  obtain ⟨N, hN⟩ : ∃ N, n.toNat = N := ⟨_, rfl⟩
  rw [hN] at HF HU HREC HREC2 hn16 ⊢
  obtain ⟨B, hB⟩ : ∃ B, 64 * N = B := ⟨_, rfl⟩
  rw [hB] at HF HU
  have hsz : (txt bs).size = 64 := by rw [txt_size, hb]
  obtain ⟨S, hS⟩ : ∃ S, txt bs = S := ⟨_, rfl⟩
  have HRB : Hid (∀ j (hj : j < S.size), S[j] = bs.getD j 0) := fun j hj => by
    subst hS
    exact (by have := ba_get (txt bs) j hj; rw [txt_toList] at this; exact this.symm)
  rw [hS] at hsz ⊢
  have hNi : (N : Int) < 16 := by omega
  have hmul : (N : Int) * 64 = (B : Int) := by omega
  have hB0 : (0 : Int) ≤ (B : Int) := by omega
  have hBl : (B : Int) ≤ 960 := by omega
  have hwB : IntKind.i64.wrap (B : Int) = (B : Int) := by rw [IntKind.wrap_i64]; omega
  have HS := hideIt h
  clear h hu hk hb hr1 hR1 ho1 ho2 hN hB hS
  go_enter Tryz.func117, Tryz.ntmps117
  go_wp2_with fail
  refine (HREC.out _).mono ?_
  rintro e w1 ⟨rfl, hB1⟩
  have HB1 := hideIt hB1
  clear hB1 HREC
  go_wp2_with fail
  refine (HW1.out _ (HS.out.below HB1.out)).mono ?_
  rintro e w2 ⟨rfl, hst2, hK2⟩
  have HK2 := hideIt (And.intro hst2 ((K3.of_below rb fb jb HS.out.lt.1 HB1.out).trans hK2))
  clear hst2 hK2 HB1 HW1
  go_wp2_with fail
  go_loopw [7, 8] (fun o i wr => ∃ (j : Nat) (q : Pow × List UInt8 × Bool), j ≤ 64 ∧ i = .int .i64 j ∧ o = .bool q.2.2 ∧ thenS r1 (fun p m => runS p m B (os1.take j)) = q ∧ RSto wr rb fb jb q.2.2 (if q.2.2 = true then q.1 else pow0) q.2.1 ∧ K3 w wr rb fb jb) (fun _ i _ => 64 - (intOf i).toNat)
  case atStart =>
    exact ⟨0, r1, by omega, rfl, rfl, then_nil _ _ _, HK2.out.1, HK2.out.2⟩
  case round =>
    obtain ⟨j, q, hj, rfl, rfl, hrun, hst, hK⟩ := hrel
    by_cases hgo : j < 64 ∧ q.2.2 = true
    · obtain ⟨hj4, hq⟩ := hgo
      have hm1 := thenS_more (by omega) hrun hq
      rw [HO1.out] at hm1
      obtain ⟨p', m', ok⟩ := q
      simp only at hq hst hm1
      subst hq
      simp only [if_true] at hst
      obtain ⟨c, hc1, hc2, c0⟩ := hst.c0
      have HBS := hideIt (fun w' (h' : RSto w' rb fb jb true p' m') => rstroke_any rb fb jb fb 1024 0 c p' m' (B + j) 255 w' h' (.inl ⟨rfl, rfl, rfl⟩) (by omega))
      rw [show 0 + (B + j) = B + j by omega] at HBS
      have hss : ((strokeF p' (m'.getD (B + j) 0) 255).1, m'.set (B + j) (strokeF p' (m'.getD (B + j) 0) 255).2.1, (strokeF p' (m'.getD (B + j) 0) 255).2.2) = stepS p' m' (B + j) none := rfl
      rw [hss] at HBS
      obtain ⟨q2, hq2⟩ : ∃ q2, stepS p' m' (B + j) none = q2 := ⟨_, rfl⟩
      rw [hq2] at HBS hm1
      obtain ⟨qi, hqi⟩ : ∃ qi, B + j = qi := ⟨_, rfl⟩
      rw [hqi] at HBS
      have hadd : (B : Int) + (j : Int) = (qi : Int) := by omega
      have hq0 : (0 : Int) ≤ (qi : Int) := by omega
      have hql : (qi : Int) < 1024 := by omega
      have hwq : IntKind.i64.wrap (qi : Int) = (qi : Int) := by rw [IntKind.wrap_i64]; omega
      have hji : (j : Int) < 64 := by omega
      have h255 : ((255 : UInt8).toNat : Int) = 255 := rfl
      rw [h255] at HBS
      have HM := hideIt (And.intro hm1 (And.intro hst hK))
      clear hm1 hst hK hss hq2 hrun hqi
      go_wp2_with fail
      refine (HBS.out _ HM.out.2.1).mono ?_
      rintro e wz ⟨rfl, h1, h2⟩
      have HZ := hideIt (And.intro h1 h2)
      clear h1 h2
      go_wp2
      go_roundw
      case rel => exact ⟨j + 1, q2, by omega, by go_num, rfl, HM.out.1, HZ.out.1, HM.out.2.2.trans HZ.out.2⟩
      case measure => simp [intOf]; omega
    · have hx := thenS_exit hl1 hj hrun hgo
      have hcase : ¬ (j : Int) < 64 ∨ ((j : Int) < 64 ∧ q.2.2 = false) := by
        by_cases hj4 : j < 64
        · right
          refine ⟨by omega, ?_⟩
          cases hb : q.2.2
          · rfl
          · exact absurd ⟨hj4, hb⟩ hgo
        · left; omega
      have HX := hideIt (And.intro hx (And.intro hst hK))
      clear hx hst hK hrun hgo HK2
      obtain ⟨p', m', ok⟩ := q
      simp only at HX hcase ⊢
      rcases hcase with hjn | ⟨hjn, rfl⟩
      all_goals
        go_wp2_with fail
        go_loopw [7, 9] (fun o i wr => ∃ (j : Nat) (q : Pow × List UInt8 × Bool), j ≤ 64 ∧ i = .int .i64 j ∧ o = .bool q.2.2 ∧ thenS (thenS r1 (fun p m => runS p m B os1)) (fun p m => runS p m B (os2.take j)) = q ∧ RSto wr rb fb jb q.2.2 (if q.2.2 = true then q.1 else pow0) q.2.1 ∧ K3 w wr rb fb jb) (fun _ i _ => 64 - (intOf i).toNat)
        case atStart =>
          exact ⟨0, thenS r1 (fun p m => runS p m B os1), by omega, rfl, by rw [HX.out.1], then_nil _ _ _, by rw [HX.out.1]; exact HX.out.2.1, HX.out.2.2⟩
        case round =>
          obtain ⟨j, q, hj, rfl, rfl, hrun, hst, hK⟩ := hrel
          by_cases hgo : j < 64 ∧ q.2.2 = true
          · obtain ⟨hj4, hq⟩ := hgo
            have hm1 := thenS_more (by omega) hrun hq
            obtain ⟨x, hx⟩ : ∃ x, bs.getD j 0 = x := ⟨_, rfl⟩
            rw [HO2.out j hj4, hx] at hm1
            have hjS : j < S.size := by omega
            have hSx : S[j] = x := (HRB.out j hjS).trans hx
            obtain ⟨p', m', ok⟩ := q
            simp only at hq hst hm1
            subst hq
            simp only [if_true] at hst
            obtain ⟨c, hc1, hc2, c0⟩ := hst.c0
            have cj := hst.byte (lb := fb) (n := 1024) (o := 0) (.inl ⟨rfl, rfl, rfl⟩) (B + j) (by omega)
            rw [show 0 + (B + j) = B + j by omega] at cj
            have hand := and_b (m'.getD (B + j) 0) x
            have HBS := hideIt (fun w' (h' : RSto w' rb fb jb true p' m') => rstroke_any rb fb jb fb 1024 0 c p' m' (B + j) (m'.getD (B + j) 0 &&& x) w' h' (.inl ⟨rfl, rfl, rfl⟩) (by omega))
            rw [show 0 + (B + j) = B + j by omega] at HBS
            have hss : ((strokeF p' (m'.getD (B + j) 0) (m'.getD (B + j) 0 &&& x)).1, m'.set (B + j) (strokeF p' (m'.getD (B + j) 0) (m'.getD (B + j) 0 &&& x)).2.1, (strokeF p' (m'.getD (B + j) 0) (m'.getD (B + j) 0 &&& x)).2.2) = stepS p' m' (B + j) (some x) := rfl
            rw [hss] at HBS
            obtain ⟨q2, hq2⟩ : ∃ q2, stepS p' m' (B + j) (some x) = q2 := ⟨_, rfl⟩
            rw [hq2] at HBS hm1
            obtain ⟨y, hy⟩ : ∃ y, (m'.getD (B + j) 0 &&& x).toNat = y := ⟨_, rfl⟩
            obtain ⟨v, hv⟩ : ∃ v, (m'.getD (B + j) 0).toNat = v := ⟨_, rfl⟩
            rw [hy] at HBS hand
            rw [hv] at cj hand
            obtain ⟨qi, hqi⟩ : ∃ qi, B + j = qi := ⟨_, rfl⟩
            rw [hqi] at HBS cj
            have hadd : (B : Int) + (j : Int) = (qi : Int) := by omega
            have hq0 : (0 : Int) ≤ (qi : Int) := by omega
            have hql : (qi : Int) < 1024 := by omega
            have hwq : IntKind.i64.wrap (qi : Int) = (qi : Int) := by rw [IntKind.wrap_i64]; omega
            have hji : (j : Int) < 64 := by omega
            have hci : (1024 : Int) ≤ (c : Int) := by omega
            have HM := hideIt (And.intro hm1 (And.intro hst hK))
            clear hm1 hst hK hss hq2 hrun hqi hx hy hv HX
            go_wp2_with fail
            go_region_with (go_at_call 131; refine (HBS.out wr.drew (HM.out.2.1.kept (fun _ _ => rfl) (Nat.le_refl _))).mono ?_; rintro e wz ⟨rfl, h1, h2⟩)
            all_goals
              have HZ := hideIt (And.intro h1 h2)
              clear h1 h2
              go_wp2
              go_roundw
              case rel => exact ⟨j + 1, q2, by omega, by go_num, rfl, HM.out.1, HZ.out.1, HM.out.2.2.trans HZ.out.2.undrew⟩
              case measure => simp [intOf]; omega
          · have hx := thenS_exit hl2 hj hrun hgo
            have hu := HU.out q hx
            have hcase : (¬ (j : Int) < 64 ∧ q.2.2 = true) ∨ (¬ (j : Int) < 64 ∧ q.2.2 = false) ∨ ((j : Int) < 64 ∧ q.2.2 = false) := by
              cases hb : q.2.2
              · by_cases hj4 : j < 64
                · right; right; exact ⟨by omega, rfl⟩
                · right; left; exact ⟨by omega, rfl⟩
              · left
                exact ⟨fun hj4 => hgo ⟨by omega, hb⟩, rfl⟩
            have HY := hideIt (And.intro hx (And.intro hst (And.intro hK hu)))
            clear hx hst hK hrun hgo hu HX
            obtain ⟨p2, m2, ok2⟩ := q
            simp only at HY hcase ⊢
            rcases hcase with ⟨hjm, hok⟩ | ⟨hjm, hok⟩ | ⟨hjm, hok⟩
            · subst hok
              have HU2 := hideIt (HY.out.2.2.2 rfl)
              simp only [if_true] at HY
              go_wp2_with fail
              refine (HREC2.out _ _ _ HY.out.2.1).mono ?_
              rintro e w5 ⟨rfl, hB5⟩
              have HB5 := hideIt hB5
              clear hB5
              go_wp2_with fail
              refine (HW2.out _ _ _ (HY.out.2.1.below HB5.out) HU2.out).mono ?_
              rintro e w6 ⟨rfl, h1, h2⟩
              have HZ := hideIt (And.intro h1 h2)
              clear h1 h2
              go_wp2
              go_ret
              rw [HF.out, HY.out.1]
              exact ⟨rfl, HZ.out.1, HY.out.2.2.1.trans ((K3.of_below rb fb jb HY.out.2.1.lt.1 HB5.out).trans HZ.out.2)⟩
            all_goals
              subst hok
              go_wp2
              go_ret
              rw [HF.out, HY.out.1]
              exact ⟨rfl, HY.out.2.1, HY.out.2.2.1⟩
end Go.Proofs.YthokdbcpkmcieaaGreat
