/- The plain part: numbers. -/
import Derived.Test.YthokdbcpkmcieaaDoorPure
namespace Go.Proofs.YthokdbcpkmcieaaDoor
open Go Go.RowKit
theorem wraps_u16' (n : Int) (h0 : 0 ≤ n) (h1 : n < 2 ^ 16) : IntKind.u16.wrap n = n := by rw [IntKind.wrap_u16]; omega
theorem behind_same (at' : Int) (s : Nat) : behindN at' (s : Int) = rBehind at' s := by
  unfold behindN rBehind
  rw [IntKind.wrap_u16, IntKind.wrap_u16, IntKind.wrap_u16]
  omega
theorem wrap_i8 (a : Int) (h0 : 0 ≤ a) (h1 : a ≤ 255) : IntKind.i8.wrap a = if (127 : Int) < a then a - (256 : Int) else a := by
  have key : ∀ n : Fin 256, IntKind.i8.wrap (n.val : Int) = if (127 : Int) < (n.val : Int) then (n.val : Int) - (256 : Int) else (n.val : Int) := by decide +kernel
  obtain ⟨n, rfl⟩ := Int.eq_ofNat_of_zero_le h0
  exact key ⟨n, by omega⟩
theorem near_same (h a : Int) (h0 : 0 ≤ a) (h1 : a ≤ 255) : nearN h a = relN h a := by
  unfold nearN relN
  rw [wrap_i8 a h0 h1, IntKind.wrap_u16, IntKind.wrap_u16]
  split <;> omega
theorem and_page (h : Nat) (hh : h < 65536) : h &&& 63488 = 2048 * (h / 2048) := by
  apply Nat.eq_of_testBit_eq
  intro i
  rw [Nat.testBit_and, show 2048 * (h / 2048) = 2 ^ 11 * (h / 2 ^ 11) from rfl, Nat.testBit_two_pow_mul, Nat.testBit_div_two_pow]
  by_cases hi : i < 16
  · have key : ∀ i : Fin 16, Nat.testBit 63488 i.val = decide (11 ≤ i.val) := by decide
    have := key ⟨i, hi⟩
    simp only at this
    rw [this]
    by_cases h11 : 11 ≤ i
    · simp [h11]
    · simp [h11]
  · have e : h.testBit i = false := Nat.testBit_lt_two_pow (Nat.lt_of_lt_of_le hh (by
      have : (2 : Nat) ^ 16 ≤ 2 ^ i := Nat.pow_le_pow_right (by decide) (by omega)
      omega))
    rw [e]
    by_cases h11 : 11 ≤ i
    · rw [show i - 11 + 11 = i by omega, e]; simp
    · omega
theorem or_bytes (p q : Int) (p0 : 0 ≤ p) (p1 : p ≤ 255) (q0 : 0 ≤ q) (q1 : q ≤ 255) : bits BinOp.or IntKind.u16 (p * 256) q = (256 : Int) * p + q := by
  rw [bits_join .u16 16 (by decide) wraps_u16' 8]
  all_goals omega
theorem page_same (h c a : Int) (h0 : 0 ≤ h) (h1 : h ≤ 65535) (c0 : 0 ≤ c) (c1 : c ≤ 255) (a0 : 0 ≤ a) (a1 : a ≤ 255) : pageN h (c / 32 * 32) a = pagN h c a := by
  unfold pageN pagN
  obtain ⟨n, rfl⟩ := Int.eq_ofNat_of_zero_le h0
  have e1 : bits BinOp.and IntKind.u16 (n : Int) 63488 = ((2048 * (n / 2048) : Nat) : Int) := by
    have := u16_and_nat n 63488 (by omega) (by decide)
    rw [and_page n (by omega)] at this
    exact this
  rw [e1, IntKind.wrap_u16, IntKind.wrap_u16]
  rw [show c / 32 * 32 % 65536 * 8 % 65536 = c / 32 * 256 by omega]
  rw [bits_join .u16 16 (by decide) wraps_u16' 11 ((2048 * (n / 2048) : Nat) : Int) (c / 32 * 256) (by omega) (by omega) (by omega) (by omega) (by omega) (by omega)]
  rw [bits_join .u16 16 (by decide) wraps_u16' 8 (((2048 * (n / 2048) : Nat) : Int) + c / 32 * 256) a (by omega) (by omega) (by omega) (by omega) (by omega) (by omega)]
  omega
end Go.Proofs.YthokdbcpkmcieaaDoor
