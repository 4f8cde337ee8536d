/- Walks of burntPages and bytes. -/
import Derived.Test.YthokdbcpkmcieaaBrdW6
namespace Go.Proofs.Ythokdbcpkmcieaa
open Go Go.RowKit
theorem or_bit (c j : Nat) (hc : c < 2 ^ j) (hj : j < 16) : bits .or .u16 (c : Int) (IntKind.u16.wrap (2 ^ j)) = ((c + 2 ^ j : Nat) : Int) := by
  have h16 : 2 ^ j ≤ 2 ^ 15 := Nat.pow_le_pow_right (by decide) (by omega)
  have hw : IntKind.u16.wrap (2 ^ j) = ((2 ^ j : Nat) : Int) := by
    rw [IntKind.wrap_u16, Int.natCast_pow]
    have : ((2 : Int) ^ j) = ((2 ^ j : Nat) : Int) := by rw [Int.natCast_pow]; rfl
    rw [show ((2 : Nat) : Int) = 2 from rfl, this]
    omega
  rw [hw]
  have h1 : (BitVec.ofInt 16 (c : Int)).toNat = c := by
    rw [BitVec.ofInt_natCast, BitVec.toNat_ofNat]; exact Nat.mod_eq_of_lt (by omega)
  have h2 : (BitVec.ofInt 16 ((2 ^ j : Nat) : Int)).toNat = 2 ^ j := by
    rw [BitVec.ofInt_natCast, BitVec.toNat_ofNat]; exact Nat.mod_eq_of_lt (by omega)
  show IntKind.u16.wrap ((BitVec.ofInt 16 (c : Int) ||| BitVec.ofInt 16 ((2 ^ j : Nat) : Int)).toNat : Int) = _
  rw [BitVec.toNat_or, h1, h2, IntKind.wrap_u16]
  have := Nat.two_pow_add_eq_or_of_lt hc 1
  rw [Nat.mul_one] at this
  rw [Nat.or_comm, ← this]
  omega
set_option maxRecDepth 100000 in
set_option maxHeartbeats 8000000 in
theorem burntPages_any (bb : Nat) (p : Pow) (mem : List UInt8) (w : World) (h : StoAt w bb p mem) :
    Calls Try.prog 54 #[.pointer (some ⟨bb, 4, none⟩)] w fun e w' => e = .returned (.int .u16 (bitsF mem : Int)) ∧ Below w.heap.size w w' := by
  have HS := hideIt h
  clear h
  go_enter Try.func54, Try.ntmps54
  go_wp2_with fail
  go_loopw [3, 5] (fun c i wr => ∃ j : Nat, j ≤ 16 ∧ i = .int .u8 j ∧ c = .int .u16 (bitsS mem j : Int) ∧ Below w.heap.size w wr) (fun _ i _ => 16 - (intOf i).toNat)
  case atStart => exact ⟨0, by omega, rfl, rfl, Below.refl _ _⟩
  case round =>
    obtain ⟨j, hj, rfl, rfl, hb⟩ := hrel
    by_cases hlt : j < 16
    · have HC := hideIt (fun w' (h' : StoAt w' bb p mem) => isBurnt_any bb p mem (UInt8.ofNat j) w' h' (ofNat_lt hlt))
      rw [show (UInt8.ofNat j).toNat = j by rw [UInt8.toNat_ofNat']; omega] at HC
      have hN : bitsS mem (j + 1) = bitsS mem j + (if burntF mem (UInt8.ofNat j) = true then 2 ^ j else 0) := rfl
      have hbl := bitsS_lt mem j
      obtain ⟨v, hv⟩ : ∃ v, burntF mem (UInt8.ofNat j) = v := ⟨_, rfl⟩
      rw [hv] at HC hN
      obtain ⟨c, hc⟩ : ∃ c, bitsS mem j = c := ⟨_, rfl⟩
      rw [hc] at hN hbl ⊢
      have hji : (j : Int) < 16 := by omega
      have HN := hideIt hN
      have HB := hideIt hb
      clear hN hb hc hv
      go_wp2_with fail
      refine (HC.out _ (HS.out.below HB.out)).mono ?_
      rintro e w1 ⟨rfl, hb1⟩
      have HB1 := hideIt (HB.out.trans (hb1.mono HB.out.size))
      clear hb1
      cases v with
      | false =>
        go_wp2
        go_roundw
        case rel => exact ⟨j + 1, by omega, by go_num, by rw [HN.out]; rfl, HB1.out⟩
        case measure => simp [intOf]; omega
      | true =>
        go_wp2
        go_roundw
        case rel => exact ⟨j + 1, by omega, by go_num, by rw [HN.out, or_bit c j hbl hlt]; rfl, HB1.out⟩
        case measure => simp [intOf]; omega
    · obtain rfl : j = 16 := by omega
      have HB := hideIt hb
      clear hb
      go_wp2
      go_ret
      exact ⟨rfl, HB.out⟩
end Go.Proofs.Ythokdbcpkmcieaa
