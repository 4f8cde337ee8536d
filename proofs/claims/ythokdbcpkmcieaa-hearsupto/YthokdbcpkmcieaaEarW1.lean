/- Walks of the check of bytes. -/
import Derived.Test.YthokdbcpkmcieaaProg
import Derived.Test.YthokdbcpkmcieaaEarP
import Derived.Test.YthokdbcpkmcieaaRun
import Derived.WalkKit
import Derived.ProofKit
import Derived.BigQuiet
import Derived.Deep.QuietTactic
import Derived.BigRegion
import Derived.Laws.BitsAllLaws
import Derived.Laws.BitsLemmas
namespace Go.Proofs.Ythokdbcpkmcieaa
open Go Go.RowKit
theorem xor_u16 (a b : Nat) (ha : a < 65536) (hb : b < 65536) : bits .xor .u16 (a : Int) (b : Int) = ((a ^^^ b : Nat) : Int) := by
  have hx : a ^^^ b < 2 ^ 16 := Nat.xor_lt_two_pow (by omega) (by omega)
  have h1 : (BitVec.ofInt 16 (a : Int)).toNat = a := by
    rw [BitVec.ofInt_natCast, BitVec.toNat_ofNat]; exact Nat.mod_eq_of_lt (by omega)
  have h2 : (BitVec.ofInt 16 (b : Int)).toNat = b := by
    rw [BitVec.ofInt_natCast, BitVec.toNat_ofNat]; exact Nat.mod_eq_of_lt (by omega)
  show IntKind.u16.wrap ((BitVec.ofInt 16 (a : Int) ^^^ BitVec.ofInt 16 (b : Int)).toNat : Int) = _
  rw [BitVec.toNat_xor, h1, h2, IntKind.wrap_u16]
  omega
theorem xor_u8 (a b : Nat) (ha : a < 256) (hb : b < 256) : bits .xor .u8 (a : Int) (b : Int) = ((a ^^^ b : Nat) : Int) := by
  have hx : a ^^^ b < 2 ^ 8 := Nat.xor_lt_two_pow (by omega) (by omega)
  have h1 : (BitVec.ofInt 8 (a : Int)).toNat = a := by
    rw [BitVec.ofInt_natCast, BitVec.toNat_ofNat]; exact Nat.mod_eq_of_lt (by omega)
  have h2 : (BitVec.ofInt 8 (b : Int)).toNat = b := by
    rw [BitVec.ofInt_natCast, BitVec.toNat_ofNat]; exact Nat.mod_eq_of_lt (by omega)
  show IntKind.u8.wrap ((BitVec.ofInt 8 (a : Int) ^^^ BitVec.ofInt 8 (b : Int)).toNat : Int) = _
  rw [BitVec.toNat_xor, h1, h2, IntKind.wrap_u8]
  omega
theorem xor_byte (b : UInt8) : bits .xor .u8 (b.toNat : Int) 32 = ((b ^^^ 32).toNat : Int) := by
  have := xor_u8 b.toNat 32 b.toNat_lt (by decide)
  rw [UInt8.toNat_xor]
  exact this
set_option maxHeartbeats 400000 in
theorem doubled_any (x : Nat) (hx : x < 65536) (w : World) :
    Calls Try.prog 64 #[.int .u16 x] w fun e w' => e = .returned (.int .u16 (dblN x)) ∧ w' = w := by
  by_cases h : 32768 ≤ x
  · have h1 : (32768 : Int) ≤ (x : Int) := by omega
    have e : ((dblN x : Nat) : Int) = bits BinOp.xor IntKind.u16 (IntKind.u16.wrap ((x : Int) * 2)) 4129 := by
      have := xor_u16 (x * 2 % 65536) 4129 (Nat.mod_lt _ (by decide)) (by decide)
      rw [IntKind.wrap_u16, show ((x : Int) * 2 % 65536) = ((x * 2 % 65536 : Nat) : Int) by omega]
      unfold dblN
      rw [if_pos h]
      exact this.symm
    rw [e]
    go_enter Try.func64, Try.ntmps64
    go_wp2
    go_ret
    exact ⟨rfl, rfl⟩
  · have h1 : ¬ (32768 : Int) ≤ (x : Int) := by omega
    have e : ((dblN x : Nat) : Int) = (x : Int) * 2 := by
      unfold dblN
      rw [if_neg h]; omega
    rw [e]
    go_enter Try.func64, Try.ntmps64
    go_wp2
    go_ret
    exact ⟨rfl, rfl⟩
set_option maxHeartbeats 400000 in
theorem needsEscape_any (b : UInt8) (w : World) :
    Calls Try.prog 55 #[.int .u8 (b.toNat : Int)] w fun e w' => e = .returned (.bool (isB b)) ∧ w' = w := by
  by_cases h : b = 126
  · subst h
    go_enter Try.func55, Try.ntmps55
    go_wp2
    go_ret
    exact ⟨rfl, rfl⟩
  · have h1 : ((b.toNat : Int) == 126) = false := by
      have : ¬ b.toNat = 126 := fun e => h (UInt8.toNat_inj.1 e)
      simp; omega
    have h2 : isB b = ((b.toNat : Int) == 125) := by
      unfold isB
      by_cases h5 : b = 125
      · subst h5; decide
      · have : ¬ b.toNat = 125 := fun e => h5 (UInt8.toNat_inj.1 e)
        have h6 : ((b.toNat : Int) == 125) = false := by simp; omega
        rw [h6]; simp [h, h5]
    rw [h2]
    go_enter Try.func55, Try.ntmps55
    go_wp2
    go_ret
    exact ⟨rfl, rfl⟩
/-- Bytes in memory, from a place on. -/
def BytesAt (w : World) (g off : Nat) (l : List UInt8) : Prop := ∀ i, i < l.length → w.cell? ⟨g, off + i, none⟩ = some (.int .u8 ((l.getD i 0).toNat : Int))
theorem take_succ (l : List UInt8) (i : Nat) (h : i < l.length) : l.take (i + 1) = l.take i ++ [l.getD i 0] := by
  rw [List.take_add_one, List.getElem?_eq_getElem h, List.getD_eq_getElem?_getD, List.getElem?_eq_getElem h]
  rfl
set_option maxRecDepth 100000 in
set_option maxHeartbeats 1000000 in
theorem check_any (g off cap : Nat) (l : List UInt8) (w : World) (hl : l.length ≤ 4000000) (h : BytesAt w g off l) :
    Calls Try.prog 58 #[.slice (some ⟨g, off, none⟩) l.length cap] w fun e w' => e = .returned (.int .u16 (crcN l)) ∧ w' = w := by
  go_enter Try.func58, Try.ntmps58
  go_wp2_with fail
  go_loopw [3, 8] (fun c i wr => ∃ k : Nat, k ≤ l.length ∧ i = .int .i64 k ∧ c = .int .u16 (crcN (l.take k)) ∧ wr = w) (fun _ i _ => l.length - (intOf i).toNat)
  case atStart => exact ⟨0, Nat.zero_le _, rfl, rfl, rfl⟩
  case round =>
    obtain ⟨k, hk, rfl, rfl, rfl⟩ := hrel
    by_cases hlt : k < l.length
    · have c1 := h k hlt
      obtain ⟨b, hb⟩ : ∃ b, l.getD k 0 = b := ⟨_, rfl⟩
      rw [hb] at c1
      obtain ⟨x, hx⟩ : ∃ x, crcN (l.take k) = x := ⟨_, rfl⟩
      have hxl : x < 65536 := by rw [← hx]; exact crcN_lt _
      have hN : crcN (l.take (k + 1)) = crcB x b := by rw [take_succ l k hlt, crcN_snoc, hx, hb]
      have HN := hideIt hN
      rw [hx]
      have hbl := b.toNat_lt
      clear hN hx hb h
      have hy : bits BinOp.xor IntKind.u16 (x : Int) ((b.toNat : Int) * 256) = ((x ^^^ (b.toNat * 256) : Nat) : Int) := xor_u16 x (b.toNat * 256) hxl (by omega)
      obtain ⟨y, hyy⟩ : ∃ y, x ^^^ (b.toNat * 256) = y := ⟨_, rfl⟩
      have hyl : y < 65536 := by rw [← hyy]; exact Nat.xor_lt_two_pow (n := 16) hxl (by omega)
      have HY := hideIt (show crcB x b = dblT 8 y by unfold crcB; rw [hyy])
      rw [hyy] at hy
      clear hyy
      go_wp2_with fail
      go_loopw [3, 17] (fun c i wr' => ∃ j : Nat, j ≤ 8 ∧ i = .int .i64 j ∧ c = .int .u16 (dblT j y) ∧ wr' = wr) (fun _ i _ => 8 - (intOf i).toNat)
      case atStart => exact ⟨0, by omega, rfl, rfl, rfl⟩
      case round =>
        rename_i hrel
        obtain ⟨j, hj, rfl, rfl, rfl⟩ := hrel
        by_cases hj8 : j < 8
        · obtain ⟨z, hz⟩ : ∃ z, dblT j y = z := ⟨_, rfl⟩
          have hzl : z < 65536 := by rw [← hz]; exact dblT_lt hyl j
          have HZ := hideIt (show dblT (j + 1) y = dblN z by rw [← hz]; rfl)
          rw [hz]
          clear hz
          go_wp2_with fail
          refine (doubled_any z hzl _).mono ?_
          rintro e w1 ⟨rfl, rfl⟩
          go_wp2
          go_roundw
          case rel => exact ⟨j + 1, by omega, by go_num, by rw [HZ.out], trivial⟩
          case measure => simp [intOf]; omega
        · have e8 : j = 8 := by omega
          subst e8
          rw [← HY.out]
          go_wp2
          go_roundw
          case rel => exact ⟨k + 1, by omega, by go_num, by rw [HN.out], trivial⟩
          case measure => simp [intOf]; omega
    · have e : k = l.length := by omega
      subst e
      rw [List.take_length]
      go_wp2
      go_ret
      exact ⟨rfl, rfl⟩
end Go.Proofs.Ythokdbcpkmcieaa
