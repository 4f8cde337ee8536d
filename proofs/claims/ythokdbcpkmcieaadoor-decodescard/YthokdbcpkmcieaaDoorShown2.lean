/- The walks of the reference's shown at words, near places and places in the page. -/
import Derived.Test.YthokdbcpkmcieaaDoorShown
import Derived.BigQuiet
import Derived.Deep.QuietTactic
namespace Go.Proofs.YthokdbcpkmcieaaDoor
open Go Go.RowKit
set_option maxRecDepth 100000 in
set_option maxHeartbeats 1000000 in
theorem shown_10 (b : ByteArray) (number code behind : Int) (w : World) (hb : b.size = 2) (x : Int) (hx : x = (256 : Int) * (b[0].toNat : Int) + (b[1].toNat : Int)) : Calls Tryd.prog 10 #[.string ⟨#[35, 119, 111, 114, 100]⟩, .string b, .int .i64 number, .int .i64 code, .int .i64 behind] w fun e w' => e = .returned (.string ⟨#[35, 48, 120, hd (x / 4096), hd (x / 256), hd (x / 16), hd x]⟩) ∧ Below w.heap.size w w' := by
  have hi0 : (0 : Int) < (b.size : Int) := by omega
  have hi1 : (1 : Int) < (b.size : Int) := by omega
  have hlt0 := (b[0]).toNat_lt
  have hlt1 := (b[1]).toNat_lt
  have g0 : (b[0].toNat : Int) ≤ 255 := by omega
  have g1 : (b[1].toNat : Int) ≤ 255 := by omega
  have HX := hideIt hx
  have hx0 : 0 ≤ x := by omega
  have hx1 : x ≤ 65535 := by omega
  clear hlt0 hlt1 hx
  go_enter Tryd.func10, Tryd.ntmps10
  go_wp2_with fail
  go_quiet ((go_at_call 18; exact Calls.quiet_of_same (rhex4_any _ (by omega) (by omega) _)))
  go_wp2
  go_ret
  refine ⟨ret_str ?_, below_drewN (Below.refl _ _) _⟩
  rw [HX.out]
  exact ba_append _ _
set_option maxRecDepth 100000 in
set_option maxHeartbeats 1000000 in
theorem shown_14 (b : ByteArray) (number code behind : Int) (w : World) (hb : b.size = 2) (x : Int) (hx : x = (256 : Int) * (b[0].toNat : Int) + (b[1].toNat : Int)) : Calls Tryd.prog 10 #[.string ⟨#[97, 100, 100, 114]⟩, .string b, .int .i64 number, .int .i64 code, .int .i64 behind] w fun e w' => e = .returned (.string ⟨#[48, 120, hd (x / 4096), hd (x / 256), hd (x / 16), hd x]⟩) ∧ Below w.heap.size w w' := by
  have hi0 : (0 : Int) < (b.size : Int) := by omega
  have hi1 : (1 : Int) < (b.size : Int) := by omega
  have hlt0 := (b[0]).toNat_lt
  have hlt1 := (b[1]).toNat_lt
  have g0 : (b[0].toNat : Int) ≤ 255 := by omega
  have g1 : (b[1].toNat : Int) ≤ 255 := by omega
  have HX := hideIt hx
  have hx0 : 0 ≤ x := by omega
  have hx1 : x ≤ 65535 := by omega
  clear hlt0 hlt1 hx
  go_enter Tryd.func10, Tryd.ntmps10
  go_wp2_with fail
  go_quiet ((go_at_call 18; exact Calls.quiet_of_same (rhex4_any _ (by omega) (by omega) _)))
  go_wp2
  go_ret
  refine ⟨ret_str ?_, below_drewN (Below.refl _ _) _⟩
  rw [HX.out]
  exact ba_append _ _
set_option maxRecDepth 100000 in
set_option maxHeartbeats 1000000 in
theorem shown_15 (b : ByteArray) (number code behind : Int) (w : World) (hb : b.size = 1) (h0 : 0 ≤ behind) (h1 : behind ≤ 65535) (x : Int) (hx : x = (behind + (if (127 : Int) < (b[0].toNat : Int) then (b[0].toNat : Int) - (256 : Int) else (b[0].toNat : Int)) + (65536 : Int)) % (65536 : Int)) : Calls Tryd.prog 10 #[.string ⟨#[114, 101, 108]⟩, .string b, .int .i64 number, .int .i64 code, .int .i64 behind] w fun e w' => e = .returned (.string ⟨#[48, 120, hd (x / 4096), hd (x / 256), hd (x / 16), hd x]⟩) ∧ Below w.heap.size w w' := by
  have hi0 : 0 < b.size := by omega
  have hlt0 := (b[0]).toNat_lt
  have g0 : (b[0].toNat : Int) ≤ 255 := by omega
  have HX := hideIt hx
  have hx0 : 0 ≤ x := by omega
  have hx1 : x ≤ 65535 := by omega
  clear hlt0 hx
  go_enter Tryd.func10, Tryd.ntmps10
  by_cases hgt : (127 : Int) < (b[0].toNat : Int)
  · go_wp2_with fail
    rw [show (behind + ((b[0].toNat : Int) - 256)) % 65536 = x by rw [HX.out, if_pos hgt]; omega]
    refine (rhex4_any x hx0 hx1 _).mono ?_
    rintro e w1 ⟨rfl, rfl⟩
    go_wp2
    go_ret
    exact ⟨ret_str (ba_append _ _), Below.refl _ _⟩
  · go_wp2_with fail
    rw [show (behind + (b[0].toNat : Int)) % 65536 = x by rw [HX.out, if_neg (by omega)]; omega]
    refine (rhex4_any x hx0 hx1 _).mono ?_
    rintro e w1 ⟨rfl, rfl⟩
    go_wp2
    go_ret
    exact ⟨ret_str (ba_append _ _), Below.refl _ _⟩
set_option maxRecDepth 100000 in
set_option maxHeartbeats 1000000 in
theorem shown_16 (b : ByteArray) (number code behind : Int) (w : World) (hb : b.size = 1) (h0 : 0 ≤ behind) (h1 : behind ≤ 65535) (k0 : 0 ≤ code) (k1 : code ≤ 255) (x : Int) (hx : x = behind / (2048 : Int) * (2048 : Int) + code / (32 : Int) * (256 : Int) + (b[0].toNat : Int)) (hx1 : x ≤ 65535) : Calls Tryd.prog 10 #[.string ⟨#[112, 97, 103, 101]⟩, .string b, .int .i64 number, .int .i64 code, .int .i64 behind] w fun e w' => e = .returned (.string ⟨#[48, 120, hd (x / 4096), hd (x / 256), hd (x / 16), hd x]⟩) ∧ Below w.heap.size w w' := by
  have hi0 : 0 < b.size := by omega
  have hlt0 := (b[0]).toNat_lt
  have g0 : (b[0].toNat : Int) ≤ 255 := by omega
  have HX := hideIt hx
  have hx0 : 0 ≤ x := by omega
  clear hlt0 hx
  go_enter Tryd.func10, Tryd.ntmps10
  go_wp2_with fail
  rw [← HX.out]
  refine (rhex4_any x hx0 hx1 _).mono ?_
  rintro e w1 ⟨rfl, rfl⟩
  go_wp2
  go_ret
  exact ⟨ret_str (ba_append _ _), Below.refl _ _⟩
end Go.Proofs.YthokdbcpkmcieaaDoor
