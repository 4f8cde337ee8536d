/- Walks of the reference's hex at one, two and four digits. -/
import Derived.Test.YthokdbcpkmcieaaDoorHex
namespace Go.Proofs.YthokdbcpkmcieaaDoor
open Go.RowKit
theorem dig_ex (n : Int) : (ByteArray.mk #[48, 49, 50, 51, 52, 53, 54, 55, 56, 57, 65, 66, 67, 68, 69, 70]).extract (n % 16).toNat (n % 16 + 1).toNat = ⟨#[hd n]⟩ := by
  have key : ∀ k : Fin 16, (ByteArray.mk #[48, 49, 50, 51, 52, 53, 54, 55, 56, 57, 65, 66, 67, 68, 69, 70]).extract k.val (k.val + 1) = ⟨#[(#[48, 49, 50, 51, 52, 53, 54, 55, 56, 57, 65, 66, 67, 68, 69, 70] : Array UInt8).getD k.val 0]⟩ := by decide +kernel
  have hb : 0 ≤ n % 16 ∧ n % 16 < 16 := by omega
  have h := key ⟨(n % 16).toNat, by omega⟩
  rw [show (n % 16 + 1).toNat = (n % 16).toNat + 1 by omega]
  exact h
set_option maxRecDepth 100000 in
set_option maxHeartbeats 1000000 in
theorem rhex1_any (n : Int) (hn : 0 ≤ n) (hn' : n ≤ 65535) (w : World) :
    Calls Tryd.prog 18 #[.int .i64 n, .int .i64 1] w fun e w' => e = .returned (.string ⟨#[hd n]⟩) ∧ w' = w := by
  go_enter Tryd.func18, Tryd.ntmps18
  go_wp2
  refine wp_loop_rounds 2 ?_
  rw [rounds_succ]
  go_wp2
  rw [rounds_succ]
  go_wp2
  go_ret
  refine ⟨ret_str ?_, rfl⟩
  rw [dig_ex]; rfl
set_option maxRecDepth 100000 in
set_option maxHeartbeats 1000000 in
theorem rhex2_any (n : Int) (hn : 0 ≤ n) (hn' : n ≤ 65535) (w : World) :
    Calls Tryd.prog 18 #[.int .i64 n, .int .i64 2] w fun e w' => e = .returned (.string ⟨#[hd (n / 16), hd n]⟩) ∧ w' = w := by
  go_enter Tryd.func18, Tryd.ntmps18
  go_wp2
  refine wp_loop_rounds 3 ?_
  rw [rounds_succ]
  go_wp2
  rw [rounds_succ]
  go_wp2
  rw [rounds_succ]
  go_wp2
  go_ret
  refine ⟨ret_str ?_, rfl⟩
  rw [dig_ex, dig_ex]; rfl
set_option maxRecDepth 100000 in
set_option maxHeartbeats 1000000 in
theorem rhex4_any (n : Int) (hn : 0 ≤ n) (hn' : n ≤ 65535) (w : World) :
    Calls Tryd.prog 18 #[.int .i64 n, .int .i64 4] w fun e w' => e = .returned (.string ⟨#[hd (n / 4096), hd (n / 256), hd (n / 16), hd n]⟩) ∧ w' = w := by
  go_enter Tryd.func18, Tryd.ntmps18
  go_wp2
  refine wp_loop_rounds 5 ?_
  rw [rounds_succ]
  go_wp2
  rw [rounds_succ]
  go_wp2
  rw [rounds_succ]
  go_wp2
  rw [rounds_succ]
  go_wp2
  rw [rounds_succ]
  go_wp2
  go_ret
  refine ⟨ret_str ?_, rfl⟩
  rw [show n / 4096 = n / 16 / 16 / 16 by omega, show n / 256 = n / 16 / 16 by omega]
  simp only [dig_ex]
  rfl
end Go.Proofs.YthokdbcpkmcieaaDoor
