/- Walks of the document's board: write. -/
import Derived.Test.YthokdbcpkmcieaaGreatBoI
import Derived.Test.YthokdbcpkmcieaaGreatBoD
import Derived.Deep.DrawnRows
namespace Go.Proofs.YthokdbcpkmcieaaGreat
open Go Go.RowKit
attribute [local go_sem ↓] Go.wp_at_zero Go.wp_at_succ
theorem atS_before {m : List UInt8} {k : Nat} (h : Used m k) : ∀ j, j ≤ k → atS m j = -1
  | 0, _ => rfl
  | j + 1, hj => by rw [atS, if_neg (h.full j (by omega))]; exact atS_before h j (by omega)
theorem atS_behind {m : List UInt8} {k : Nat} (h : Used m k) : ∀ f, k + 1 + f ≤ 60 → atS m (k + 1 + f) = 4 * (k : Int)
  | 0, hf => by
    show atS m (k + 1) = _
    rw [atS, if_pos (h.free k (Nat.le_refl _) (by omega)), atS_before h k (Nat.le_refl _), if_pos (by decide)]
  | f + 1, hf => by
    show atS m (k + 1 + f + 1) = _
    rw [atS, if_pos (h.free (k + 1 + f) (by omega) (by omega)), atS_behind h f (by omega), if_neg (by omega)]
theorem atS_used {m : List UInt8} {k : Nat} (h : Used m k) (hk : k < 60) : atS m 60 = 4 * (k : Int) := by
  have := atS_behind h (59 - k) (by omega)
  rw [show k + 1 + (59 - k) = 60 by omega] at this
  exact this
theorem K3.drew {w w' : World} {rb fb jb : Nat} (h : K3 w w' rb fb jb) : K3 w w'.drew rb fb jb := ⟨h.os, h.tape, h.output, h.size, h.block, h.rest⟩
theorem K3.undrew {w w' : World} {rb fb jb : Nat} (h : K3 w.drew w' rb fb jb) : K3 w w' rb fb jb := ⟨h.os, h.tape, h.output, h.size, h.block, h.rest⟩
set_option maxRecDepth 100000 in
set_option maxHeartbeats 8000000 in
theorem rwrite_any (rb fb jb : Nat) (p : Pow) (mem : List UInt8) (k : Nat) (r : List UInt8) (w : World) (h : RSto w rb fb jb true p mem) (hu : Used mem k) (hk : k < 60) (hr : r.length = 4) :
    Calls Tryz.prog 130 #[.pointer (some ⟨rb, 0, none⟩), .string (txt r)] w (REnd w rb fb jb (writeF p mem r)) := by
  have HFR := hideIt (rfree_any rb fb jb true p mem w h)
  rw [atS_used hu hk] at HFR
  obtain ⟨A, hA⟩ : ∃ A, 4 * k = A := ⟨_, rfl⟩
  have hAl : (A : Int) ≤ 236 := by omega
  rw [show 4 * (k : Int) = (A : Int) by omega] at HFR
  have HF : Hid (writeF p mem r = runS p mem (1024 + 4 * k) (r.map some)) := by
    show writeF p mem r = _
    unfold writeF
    rw [firstF_used hu hk]
  rw [hA] at HF
  obtain ⟨os, hos⟩ : ∃ os, r.map some = os := ⟨_, rfl⟩
  have hol : os.length = 4 := by rw [← hos, List.length_map, hr]
  rw [hos] at HF
  obtain ⟨RM, hRM⟩ : ∃ RM : Int, (roomF mem : Int) = RM := ⟨_, rfl⟩
  rw [hRM] at HFR
  have hsz : (txt r).size = 4 := by rw [txt_size, hr]
  obtain ⟨R, hR⟩ : ∃ R, txt r = R := ⟨_, rfl⟩
  have HRB : Hid (∀ j (hj : j < R.size), R[j] = r.getD j 0) := fun j hj => by
    subst hR
    exact (by have := ba_get (txt r) j hj; rw [txt_toList] at this; exact this.symm)
  rw [hR] at hsz ⊢
  have HS := hideIt h
  have HOS := hideIt hos
  have HRL := hideIt hr
  clear h hu hRM hR hos hr hA hk
  go_enter Tryz.func130, Tryz.ntmps130
  go_wp2_with fail
  refine HFR.out.mono ?_
  rintro e w1 ⟨rfl, hB1⟩
  have HB1 := hideIt hB1
  clear hB1 HFR
  go_wp2_with fail
  go_loopw [7] (fun i wr => ∃ j : Nat, j ≤ 4 ∧ i = .int .i64 j ∧ ∃ p' m', runS p mem (1024 + A) (os.take j) = (p', m', true) ∧ RSto wr rb fb jb true p' m' ∧ K3 w wr rb fb jb) (fun i _ => 4 - (intOf i).toNat)
  case atStart => exact ⟨0, by omega, rfl, p, mem, by simp [runS], HS.out.below HB1.out, K3.of_below rb fb jb HS.out.lt.1 HB1.out⟩
  case round =>
    obtain ⟨j, hj, rfl, p', m', hrun, hst, hK⟩ := hrel
    by_cases hj4 : j < 4
    · have hjR : j < R.size := by omega
      obtain ⟨x, hx⟩ : ∃ x, r.getD j 0 = x := ⟨_, rfl⟩
      have hRx : R[j] = x := (HRB.out j hjR).trans hx
      have hox : os.getD j none = some x := by
        rw [← HOS.out, ← hx, List.getD_eq_getElem?_getD, List.getElem?_map, List.getD_eq_getElem?_getD, List.getElem?_eq_getElem (by rw [HRL.out]; exact hj4)]
        rfl
      obtain ⟨hm1, hm2⟩ := runS_more (by omega) hrun
      rw [hox] at hm1 hm2
      obtain ⟨c, hc1, hc2, c1⟩ := hst.c1
      have cj := hst.byte (lb := jb) (n := 240) (o := 1024) (.inr ⟨rfl, rfl, rfl⟩) (A + j) (by omega)
      rw [show 1024 + (A + j) = 1024 + A + j by omega] at cj
      have hand := and_b (m'.getD (1024 + A + j) 0) x
      have HB := hideIt (fun w' (h' : RSto w' rb fb jb true p' m') => rstroke_any rb fb jb jb 240 1024 c p' m' (A + j) (m'.getD (1024 + A + j) 0 &&& x) w' h' (.inr ⟨rfl, rfl, rfl⟩) (by omega))
      rw [show 1024 + (A + j) = 1024 + A + j by omega] at HB
      have hss : ((strokeF p' (m'.getD (1024 + A + j) 0) (m'.getD (1024 + A + j) 0 &&& x)).1, m'.set (1024 + A + j) (strokeF p' (m'.getD (1024 + A + j) 0) (m'.getD (1024 + A + j) 0 &&& x)).2.1, (strokeF p' (m'.getD (1024 + A + j) 0) (m'.getD (1024 + A + j) 0 &&& x)).2.2) = stepS p' m' (1024 + A + j) (some x) := rfl
      rw [hss] at HB
      obtain ⟨q, hq⟩ : ∃ q, stepS p' m' (1024 + A + j) (some x) = q := ⟨_, rfl⟩
      rw [hq] at HB hm1 hm2
      obtain ⟨p2, m2, ok⟩ := q
      obtain ⟨y, hy⟩ : ∃ y, (m'.getD (1024 + A + j) 0 &&& x).toNat = y := ⟨_, rfl⟩
      obtain ⟨v, hv⟩ : ∃ v, (m'.getD (1024 + A + j) 0).toNat = v := ⟨_, rfl⟩
      rw [hy] at HB hand
      rw [hv] at cj hand
      obtain ⟨qi, hqi⟩ : ∃ qi, A + j = qi := ⟨_, rfl⟩
      rw [hqi] at HB cj
      have hadd : (A : Int) + (j : Int) = (qi : Int) := by omega
      have hq0 : (0 : Int) ≤ (qi : Int) := by omega
      have hql : (qi : Int) < 240 := by omega
      have hwq : IntKind.i64.wrap (qi : Int) = (qi : Int) := by rw [IntKind.wrap_i64]; omega
      have hji : (j : Int) < 4 := by omega
      have hci : (240 : Int) ≤ (c : Int) := by omega
      have HM := hideIt (And.intro hm1 (And.intro hm2 (And.intro hst hK)))
      clear hm1 hm2 hst hK hss hq hrun hox hx hy hv hqi
      cases ok with
      | true =>
        go_wp2_with fail
        go_region_with (go_at_call 131; refine (HB.out wr.drew (HM.out.2.2.1.kept (fun _ _ => rfl) (Nat.le_refl _))).mono ?_; rintro e wz ⟨rfl, h1, h2⟩)
        all_goals
          have HZ := hideIt (And.intro h1 h2)
          clear h1 h2
          go_wp2
          go_roundw
          case rel => exact ⟨j + 1, by omega, by go_num, p2, m2, HM.out.1, HZ.out.1, HM.out.2.2.2.trans HZ.out.2.undrew⟩
          case measure => simp [intOf]; omega
      | false =>
        go_wp2_with fail
        go_region_with (go_at_call 131; refine (HB.out wr.drew (HM.out.2.2.1.kept (fun _ _ => rfl) (Nat.le_refl _))).mono ?_; rintro e wz ⟨rfl, h1, h2⟩)
        all_goals
          have HZ := hideIt (And.intro h1 h2)
          clear h1 h2
          go_wp2
          go_ret
          rw [HF.out, HM.out.2.1 (by simp)]
          exact ⟨rfl, HZ.out.1, HM.out.2.2.2.trans HZ.out.2.undrew⟩
    · obtain rfl : j = 4 := by omega
      rw [show os.take 4 = os by rw [← hol, List.take_length]] at hrun
      have HM := hideIt (And.intro hrun (And.intro hst hK))
      clear hrun hst hK
      go_wp2
      go_ret
      rw [HF.out, HM.out.1]
      exact ⟨rfl, HM.out.2.1, HM.out.2.2⟩
end Go.Proofs.YthokdbcpkmcieaaGreat
