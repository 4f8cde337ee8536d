/- Walks of the document's board: Burnt, asks, does. -/
import Derived.Test.YthokdbcpkmcieaaGreatRBo7
namespace Go.Proofs.YthokdbcpkmcieaaGreat
open Go Go.RowKit
attribute [local go_sem ↓] Go.wp_at_zero Go.wp_at_succ
theorem wrap_bit (j : Nat) (hj : j < 16) : IntKind.i64.wrap ((2 : Int) ^ j) = ((2 ^ j : Nat) : Int) := by
  have h16 : 2 ^ j ≤ 2 ^ 15 := Nat.pow_le_pow_right (by decide) (by omega)
  have : ((2 : Int) ^ j) = ((2 ^ j : Nat) : Int) := by rw [Int.natCast_pow]; rfl
  rw [this, IntKind.wrap_i64]
  generalize 2 ^ j = P at h16
  omega
set_option maxRecDepth 100000 in
set_option maxHeartbeats 4000000 in
theorem rBurnt_any (rb fb jb : Nat) (on : Bool) (p : Pow) (mem : List UInt8) (w : World) (h : RSto w rb fb jb on p mem) :
    Calls Tryz.prog 32 #[.pointer (some ⟨rb, 0, none⟩)] w fun e w' => e = .returned (.int .i64 (bitsF mem : Int)) ∧ Below w.heap.size w w' := by
  have H := hideIt h
  clear h
  go_enter Tryz.func32, Tryz.ntmps32
  go_wp2_with fail
  go_loopw [3, 4] (fun n i wr => ∃ j : Nat, j ≤ 16 ∧ i = .int .i64 j ∧ n = .int .i64 (bitsS mem j : Int) ∧ Below w.heap.size w wr) (fun _ i _ => 16 - (intOf i).toNat)
  case atStart => exact ⟨0, by omega, rfl, rfl, Below.refl _ _⟩
  case round =>
    obtain ⟨j, hj, rfl, rfl, hB⟩ := hrel
    have hbl := bitsS_lt mem j
    have hbp : 2 ^ j ≤ 2 ^ 16 := Nat.pow_le_pow_right (by decide) (by omega)
    by_cases hlt : j < 16
    · have hji : (j : Int) < 16 := by omega
      have hN : bitsS mem (j + 1) = bitsS mem j + (if burntF mem (UInt8.ofNat j) = true then 2 ^ j else 0) := rfl
      have htn : (UInt8.ofNat j).toNat = j := by rw [UInt8.toNat_ofNat']; omega
      have HC := hideIt (rburnt_any rb fb jb on p mem (UInt8.ofNat j) wr (H.out.below hB) (by rw [UInt8.lt_iff_toNat_lt, htn]; exact hlt))
      rw [htn] at HC
      have hwb := wrap_bit j hlt
      obtain ⟨P, hP⟩ : ∃ P, 2 ^ j = P := ⟨_, rfl⟩
      obtain ⟨C, hC⟩ : ∃ C, bitsS mem j = C := ⟨_, rfl⟩
      obtain ⟨b, hb⟩ : ∃ b, burntF mem (UInt8.ofNat j) = b := ⟨_, rfl⟩
      rw [hP] at hwb hbl hbp hN
      rw [hC] at hbl hN ⊢
      rw [hb] at HC hN
      have HN := hideIt hN
      have HB := hideIt hB
      clear hN hB htn hP hC hb
      go_wp2_with fail
      refine HC.out.mono ?_
      rintro e w1 ⟨rfl, hB1⟩
      have HB1 := hideIt (HB.out.trans (hB1.mono HB.out.size))
      clear hB1
      cases b
      · go_wp2
        go_roundw
        case rel => exact ⟨j + 1, by omega, by go_num, by rw [HN.out]; simp, HB1.out⟩
        case measure => simp [intOf]; omega
      · go_wp2
        go_roundw
        case rel => exact ⟨j + 1, by omega, by go_num, by rw [HN.out]; simp, HB1.out⟩
        case measure => simp [intOf]; omega
    · have hjn : ¬ (j : Int) < 16 := by omega
      have hje : j = 16 := by omega
      have HJ := hideIt hje
      have HB := hideIt hB
      clear hje hB
      go_wp2
      go_ret
      exact ⟨by rw [HJ.out]; rfl, HB.out⟩
def asksF (x : UInt8) : Nat := if x = 1 ∨ x = 4 then 4 else if x = 3 then 5 else if x = 2 then 69 else 0
set_option maxRecDepth 100000 in
set_option maxHeartbeats 2000000 in
theorem rasks_any (x : UInt8) (w : World) : Calls Tryz.prog 97 #[.int .i64 (x.toNat : Int)] w fun e w' => e = .returned (.int .i64 (asksF x : Int)) ∧ w' = w := by
  have hne : ∀ c : UInt8, x ≠ c → ((x.toNat : Int) == (c.toNat : Int)) = false := fun c h => by
    have : ¬ x.toNat = c.toNat := fun e => h (UInt8.toNat_inj.1 e)
    simp; omega
  by_cases h1 : x = 1
  · subst h1
    go_enter Tryz.func97, Tryz.ntmps97
    go_wp2
    go_ret
    exact ⟨rfl, rfl⟩
  by_cases h4 : x = 4
  · subst h4
    go_enter Tryz.func97, Tryz.ntmps97
    go_wp2
    go_ret
    exact ⟨rfl, rfl⟩
  by_cases h3 : x = 3
  · subst h3
    go_enter Tryz.func97, Tryz.ntmps97
    go_wp2
    go_ret
    exact ⟨rfl, rfl⟩
  by_cases h2 : x = 2
  · subst h2
    go_enter Tryz.func97, Tryz.ntmps97
    go_wp2
    go_ret
    exact ⟨rfl, rfl⟩
  have e : asksF x = 0 := by unfold asksF; simp [h1, h2, h3, h4]
  have n1 : ((x.toNat : Int) == 1) = false := hne 1 h1
  have n2 : ((x.toNat : Int) == 2) = false := hne 2 h2
  have n3 : ((x.toNat : Int) == 3) = false := hne 3 h3
  have n4 : ((x.toNat : Int) == 4) = false := hne 4 h4
  rw [e]
  clear h1 h2 h3 h4 hne e
  go_enter Tryz.func97, Tryz.ntmps97
  go_wp2
  go_ret
  exact ⟨rfl, rfl⟩
theorem ask_len {q : List UInt8} : (4 ≤ q.length ∧ q.length = asksF (q.getD 3 0)) ↔ askOk q = true := by
  unfold askOk asksF
  constructor
  · rintro ⟨h4, h⟩
    rw [if_neg (by omega)]
    split at h
    · rename_i e; rw [if_pos e]; simp [h]
    · rename_i e; rw [if_neg e]
      split at h
      · rename_i e3; rw [if_neg (by rw [e3]; decide), if_pos e3]; simp [h]
      · rename_i e3
        split at h
        · rename_i e2; rw [if_pos e2]; simp [h]
        · omega
  · intro h
    split at h
    · cases h
    · refine ⟨by omega, ?_⟩
      split at h
      · rename_i e; rw [if_pos e]; simpa using h
      · rename_i e; rw [if_neg e]
        split at h
        · rename_i e2; rw [if_neg (by rw [e2]; decide), if_pos e2]; simpa using h
        · rename_i e2
          split at h
          · rename_i e3; rw [if_pos e3]; simpa using h
          · cases h
/-- What the document's board finds to do first: its two words. -/
theorem conv_one (w : World) (x : UInt8) : (convert 24 9 (.slice (some ⟨w.heap.size, 0, none⟩) 1 1)).run Tryz.prog (w.alloc (.cells #[.int .u8 (x.toNat : Int)] 5)) = .ok (.string (txt [x])) (w.alloc (.cells #[.int .u8 (x.toNat : Int)] 5)) :=
  conv_row (l := [x]) (n := 1) rfl (own_first w w.heap.size (Nat.le_refl _) x)
theorem two_words (w : World) : ∃ wa, w.alloc (.cells #[.int .u8 1] 5) = wa ∧ ∃ wb, wa.alloc (.cells #[.int .u8 2] 5) = wb ∧ (convert 24 9 (.slice (some ⟨w.heap.size, 0, none⟩) 1 1)).run Tryz.prog wa = .ok (.string (txt [1])) wa ∧ (convert 24 9 (.slice (some ⟨wa.heap.size, 0, none⟩) 1 1)).run Tryz.prog wb = .ok (.string (txt [2])) wb ∧ Below w.heap.size w wb := by
  refine ⟨_, rfl, _, rfl, conv_one w 1, ?_, ((Below.refl _ _).alloc (Nat.le_refl _) _).alloc (by simp) _⟩
  exact conv_one (w.alloc (.cells #[.int .u8 1] 5)) 2
end Go.Proofs.YthokdbcpkmcieaaGreat
