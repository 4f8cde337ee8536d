/- The walks of the reference's size and shown at each text of an operand. -/
import Derived.Test.YthokdbcpkmcieaaDoorRefHex
namespace Go.Proofs.YthokdbcpkmcieaaDoor
open Go Go.RowKit
/-- The texts of the operands, kind by kind. -/
def opText (k : Nat) : ByteArray := ([⟨#[65]⟩, ⟨#[65, 66]⟩, ⟨#[67]⟩, ⟨#[68, 80, 84, 82]⟩, ⟨#[64, 65, 43, 68, 80, 84, 82]⟩, ⟨#[64, 65, 43, 80, 67]⟩, ⟨#[64, 68, 80, 84, 82]⟩, ⟨#[64, 82]⟩, ⟨#[82]⟩, ⟨#[35, 98, 121, 116, 101]⟩, ⟨#[35, 119, 111, 114, 100]⟩, ⟨#[100, 105, 114]⟩, ⟨#[98, 105, 116]⟩, ⟨#[47, 98, 105, 116]⟩, ⟨#[97, 100, 100, 114]⟩, ⟨#[114, 101, 108]⟩, ⟨#[112, 97, 103, 101]⟩] : List ByteArray).getD k ⟨#[]⟩
/-- How many bytes an operand of this kind adds. -/
def opSize (k : Nat) : Nat := ([0, 0, 0, 0, 0, 0, 0, 0, 0, 1, 2, 1, 1, 1, 2, 1, 1] : List Nat).getD k 0
set_option maxHeartbeats 400000 in
theorem size_0 (w : World) : Calls Tryd.prog 9 #[.string ⟨#[65]⟩] w fun e w' => e = .returned (.int .i64 0) ∧ w' = w := by
  go_enter Tryd.func9, Tryd.ntmps9
  go_wp2
  go_ret
  exact ⟨rfl, rfl⟩
set_option maxHeartbeats 400000 in
theorem size_1 (w : World) : Calls Tryd.prog 9 #[.string ⟨#[65, 66]⟩] w fun e w' => e = .returned (.int .i64 0) ∧ w' = w := by
  go_enter Tryd.func9, Tryd.ntmps9
  go_wp2
  go_ret
  exact ⟨rfl, rfl⟩
set_option maxHeartbeats 400000 in
theorem size_2 (w : World) : Calls Tryd.prog 9 #[.string ⟨#[67]⟩] w fun e w' => e = .returned (.int .i64 0) ∧ w' = w := by
  go_enter Tryd.func9, Tryd.ntmps9
  go_wp2
  go_ret
  exact ⟨rfl, rfl⟩
set_option maxHeartbeats 400000 in
theorem size_3 (w : World) : Calls Tryd.prog 9 #[.string ⟨#[68, 80, 84, 82]⟩] w fun e w' => e = .returned (.int .i64 0) ∧ w' = w := by
  go_enter Tryd.func9, Tryd.ntmps9
  go_wp2
  go_ret
  exact ⟨rfl, rfl⟩
set_option maxHeartbeats 400000 in
theorem size_4 (w : World) : Calls Tryd.prog 9 #[.string ⟨#[64, 65, 43, 68, 80, 84, 82]⟩] w fun e w' => e = .returned (.int .i64 0) ∧ w' = w := by
  go_enter Tryd.func9, Tryd.ntmps9
  go_wp2
  go_ret
  exact ⟨rfl, rfl⟩
set_option maxHeartbeats 400000 in
theorem size_5 (w : World) : Calls Tryd.prog 9 #[.string ⟨#[64, 65, 43, 80, 67]⟩] w fun e w' => e = .returned (.int .i64 0) ∧ w' = w := by
  go_enter Tryd.func9, Tryd.ntmps9
  go_wp2
  go_ret
  exact ⟨rfl, rfl⟩
set_option maxHeartbeats 400000 in
theorem size_6 (w : World) : Calls Tryd.prog 9 #[.string ⟨#[64, 68, 80, 84, 82]⟩] w fun e w' => e = .returned (.int .i64 0) ∧ w' = w := by
  go_enter Tryd.func9, Tryd.ntmps9
  go_wp2
  go_ret
  exact ⟨rfl, rfl⟩
set_option maxHeartbeats 400000 in
theorem size_7 (w : World) : Calls Tryd.prog 9 #[.string ⟨#[64, 82]⟩] w fun e w' => e = .returned (.int .i64 0) ∧ w' = w := by
  go_enter Tryd.func9, Tryd.ntmps9
  go_wp2
  go_ret
  exact ⟨rfl, rfl⟩
set_option maxHeartbeats 400000 in
theorem size_8 (w : World) : Calls Tryd.prog 9 #[.string ⟨#[82]⟩] w fun e w' => e = .returned (.int .i64 0) ∧ w' = w := by
  go_enter Tryd.func9, Tryd.ntmps9
  go_wp2
  go_ret
  exact ⟨rfl, rfl⟩
set_option maxHeartbeats 400000 in
theorem size_9 (w : World) : Calls Tryd.prog 9 #[.string ⟨#[35, 98, 121, 116, 101]⟩] w fun e w' => e = .returned (.int .i64 1) ∧ w' = w := by
  go_enter Tryd.func9, Tryd.ntmps9
  go_wp2
  go_ret
  exact ⟨rfl, rfl⟩
set_option maxHeartbeats 400000 in
theorem size_10 (w : World) : Calls Tryd.prog 9 #[.string ⟨#[35, 119, 111, 114, 100]⟩] w fun e w' => e = .returned (.int .i64 2) ∧ w' = w := by
  go_enter Tryd.func9, Tryd.ntmps9
  go_wp2
  go_ret
  exact ⟨rfl, rfl⟩
set_option maxHeartbeats 400000 in
theorem size_11 (w : World) : Calls Tryd.prog 9 #[.string ⟨#[100, 105, 114]⟩] w fun e w' => e = .returned (.int .i64 1) ∧ w' = w := by
  go_enter Tryd.func9, Tryd.ntmps9
  go_wp2
  go_ret
  exact ⟨rfl, rfl⟩
set_option maxHeartbeats 400000 in
theorem size_12 (w : World) : Calls Tryd.prog 9 #[.string ⟨#[98, 105, 116]⟩] w fun e w' => e = .returned (.int .i64 1) ∧ w' = w := by
  go_enter Tryd.func9, Tryd.ntmps9
  go_wp2
  go_ret
  exact ⟨rfl, rfl⟩
set_option maxHeartbeats 400000 in
theorem size_13 (w : World) : Calls Tryd.prog 9 #[.string ⟨#[47, 98, 105, 116]⟩] w fun e w' => e = .returned (.int .i64 1) ∧ w' = w := by
  go_enter Tryd.func9, Tryd.ntmps9
  go_wp2
  go_ret
  exact ⟨rfl, rfl⟩
set_option maxHeartbeats 400000 in
theorem size_14 (w : World) : Calls Tryd.prog 9 #[.string ⟨#[97, 100, 100, 114]⟩] w fun e w' => e = .returned (.int .i64 2) ∧ w' = w := by
  go_enter Tryd.func9, Tryd.ntmps9
  go_wp2
  go_ret
  exact ⟨rfl, rfl⟩
set_option maxHeartbeats 400000 in
theorem size_15 (w : World) : Calls Tryd.prog 9 #[.string ⟨#[114, 101, 108]⟩] w fun e w' => e = .returned (.int .i64 1) ∧ w' = w := by
  go_enter Tryd.func9, Tryd.ntmps9
  go_wp2
  go_ret
  exact ⟨rfl, rfl⟩
set_option maxHeartbeats 400000 in
theorem size_16 (w : World) : Calls Tryd.prog 9 #[.string ⟨#[112, 97, 103, 101]⟩] w fun e w' => e = .returned (.int .i64 1) ∧ w' = w := by
  go_enter Tryd.func9, Tryd.ntmps9
  go_wp2
  go_ret
  exact ⟨rfl, rfl⟩
theorem size_any (k : Nat) (h : k < 17) (w : World) : Calls Tryd.prog 9 #[.string (opText k)] w fun e w' => e = .returned (.int .i64 (opSize k)) ∧ w' = w := by
  match k, h with
  | 0, _ => exact size_0 w
  | 1, _ => exact size_1 w
  | 2, _ => exact size_2 w
  | 3, _ => exact size_3 w
  | 4, _ => exact size_4 w
  | 5, _ => exact size_5 w
  | 6, _ => exact size_6 w
  | 7, _ => exact size_7 w
  | 8, _ => exact size_8 w
  | 9, _ => exact size_9 w
  | 10, _ => exact size_10 w
  | 11, _ => exact size_11 w
  | 12, _ => exact size_12 w
  | 13, _ => exact size_13 w
  | 14, _ => exact size_14 w
  | 15, _ => exact size_15 w
  | 16, _ => exact size_16 w
  | n + 17, h => exact absurd h (by omega)

set_option maxRecDepth 100000 in
set_option maxHeartbeats 400000 in
theorem shown_0 (b : ByteArray) (number code behind : Int) (w : World)  : Calls Tryd.prog 10 #[.string ⟨#[65]⟩, .string b, .int .i64 number, .int .i64 code, .int .i64 behind] w fun e w' => e = .returned (.string ⟨#[65]⟩) ∧ w' = w := by
  go_enter Tryd.func10, Tryd.ntmps10
  go_wp2
  go_ret
  exact ⟨rfl, rfl⟩
set_option maxRecDepth 100000 in
set_option maxHeartbeats 400000 in
theorem shown_1 (b : ByteArray) (number code behind : Int) (w : World)  : Calls Tryd.prog 10 #[.string ⟨#[65, 66]⟩, .string b, .int .i64 number, .int .i64 code, .int .i64 behind] w fun e w' => e = .returned (.string ⟨#[65, 66]⟩) ∧ w' = w := by
  go_enter Tryd.func10, Tryd.ntmps10
  go_wp2
  go_ret
  exact ⟨rfl, rfl⟩
set_option maxRecDepth 100000 in
set_option maxHeartbeats 400000 in
theorem shown_2 (b : ByteArray) (number code behind : Int) (w : World)  : Calls Tryd.prog 10 #[.string ⟨#[67]⟩, .string b, .int .i64 number, .int .i64 code, .int .i64 behind] w fun e w' => e = .returned (.string ⟨#[67]⟩) ∧ w' = w := by
  go_enter Tryd.func10, Tryd.ntmps10
  go_wp2
  go_ret
  exact ⟨rfl, rfl⟩
set_option maxRecDepth 100000 in
set_option maxHeartbeats 400000 in
theorem shown_3 (b : ByteArray) (number code behind : Int) (w : World)  : Calls Tryd.prog 10 #[.string ⟨#[68, 80, 84, 82]⟩, .string b, .int .i64 number, .int .i64 code, .int .i64 behind] w fun e w' => e = .returned (.string ⟨#[68, 80, 84, 82]⟩) ∧ w' = w := by
  go_enter Tryd.func10, Tryd.ntmps10
  go_wp2
  go_ret
  exact ⟨rfl, rfl⟩
set_option maxRecDepth 100000 in
set_option maxHeartbeats 400000 in
theorem shown_4 (b : ByteArray) (number code behind : Int) (w : World)  : Calls Tryd.prog 10 #[.string ⟨#[64, 65, 43, 68, 80, 84, 82]⟩, .string b, .int .i64 number, .int .i64 code, .int .i64 behind] w fun e w' => e = .returned (.string ⟨#[64, 65, 43, 68, 80, 84, 82]⟩) ∧ w' = w := by
  go_enter Tryd.func10, Tryd.ntmps10
  go_wp2
  go_ret
  exact ⟨rfl, rfl⟩
set_option maxRecDepth 100000 in
set_option maxHeartbeats 400000 in
theorem shown_5 (b : ByteArray) (number code behind : Int) (w : World)  : Calls Tryd.prog 10 #[.string ⟨#[64, 65, 43, 80, 67]⟩, .string b, .int .i64 number, .int .i64 code, .int .i64 behind] w fun e w' => e = .returned (.string ⟨#[64, 65, 43, 80, 67]⟩) ∧ w' = w := by
  go_enter Tryd.func10, Tryd.ntmps10
  go_wp2
  go_ret
  exact ⟨rfl, rfl⟩
set_option maxRecDepth 100000 in
set_option maxHeartbeats 400000 in
theorem shown_6 (b : ByteArray) (number code behind : Int) (w : World)  : Calls Tryd.prog 10 #[.string ⟨#[64, 68, 80, 84, 82]⟩, .string b, .int .i64 number, .int .i64 code, .int .i64 behind] w fun e w' => e = .returned (.string ⟨#[64, 68, 80, 84, 82]⟩) ∧ w' = w := by
  go_enter Tryd.func10, Tryd.ntmps10
  go_wp2
  go_ret
  exact ⟨rfl, rfl⟩
set_option maxRecDepth 100000 in
set_option maxHeartbeats 400000 in
theorem shown_7 (b : ByteArray) (number code behind : Int) (w : World) (h0 : 0 ≤ number) (h1 : number ≤ 65535) : Calls Tryd.prog 10 #[.string ⟨#[64, 82]⟩, .string b, .int .i64 number, .int .i64 code, .int .i64 behind] w fun e w' => e = .returned (.string ⟨#[64, 82, hd number]⟩) ∧ w' = w := by
  go_enter Tryd.func10, Tryd.ntmps10
  go_wp2_with fail
  refine (rhex1_any number h0 h1 _).mono ?_
  rintro e w1 ⟨rfl, rfl⟩
  go_wp2
  go_ret
  exact ⟨ret_str (ba_append _ _), rfl⟩
set_option maxRecDepth 100000 in
set_option maxHeartbeats 400000 in
theorem shown_8 (b : ByteArray) (number code behind : Int) (w : World) (h0 : 0 ≤ number) (h1 : number ≤ 65535) : Calls Tryd.prog 10 #[.string ⟨#[82]⟩, .string b, .int .i64 number, .int .i64 code, .int .i64 behind] w fun e w' => e = .returned (.string ⟨#[82, hd number]⟩) ∧ w' = w := by
  go_enter Tryd.func10, Tryd.ntmps10
  go_wp2_with fail
  refine (rhex1_any number h0 h1 _).mono ?_
  rintro e w1 ⟨rfl, rfl⟩
  go_wp2
  go_ret
  exact ⟨ret_str (ba_append _ _), rfl⟩
set_option maxRecDepth 100000 in
set_option maxHeartbeats 400000 in
theorem shown_9 (b : ByteArray) (number code behind : Int) (w : World) (hb : b.size = 1) : Calls Tryd.prog 10 #[.string ⟨#[35, 98, 121, 116, 101]⟩, .string b, .int .i64 number, .int .i64 code, .int .i64 behind] w fun e w' => e = .returned (.string ⟨#[35, 48, 120, hd ((b[0].toNat : Int) / 16), hd (b[0].toNat : Int)]⟩) ∧ w' = w := by
  have hx : 0 < b.size := by omega
  have hlt := (b[0]).toNat_lt
  have h1 : (b[0].toNat : Int) ≤ 255 := by omega
  go_enter Tryd.func10, Tryd.ntmps10
  go_wp2_with fail
  refine (rhex2_any (b[0].toNat : Int) (by omega) (by omega) _).mono ?_
  rintro e w1 ⟨rfl, rfl⟩
  go_wp2
  go_ret
  exact ⟨ret_str (ba_append _ _), rfl⟩
set_option maxRecDepth 100000 in
set_option maxHeartbeats 400000 in
theorem shown_11 (b : ByteArray) (number code behind : Int) (w : World) (hb : b.size = 1) : Calls Tryd.prog 10 #[.string ⟨#[100, 105, 114]⟩, .string b, .int .i64 number, .int .i64 code, .int .i64 behind] w fun e w' => e = .returned (.string ⟨#[48, 120, hd ((b[0].toNat : Int) / 16), hd (b[0].toNat : Int)]⟩) ∧ w' = w := by
  have hx : 0 < b.size := by omega
  have hlt := (b[0]).toNat_lt
  have h1 : (b[0].toNat : Int) ≤ 255 := by omega
  go_enter Tryd.func10, Tryd.ntmps10
  go_wp2_with fail
  refine (rhex2_any (b[0].toNat : Int) (by omega) (by omega) _).mono ?_
  rintro e w1 ⟨rfl, rfl⟩
  go_wp2
  go_ret
  exact ⟨ret_str (ba_append _ _), rfl⟩
set_option maxRecDepth 100000 in
set_option maxHeartbeats 400000 in
theorem shown_12 (b : ByteArray) (number code behind : Int) (w : World) (hb : b.size = 1) : Calls Tryd.prog 10 #[.string ⟨#[98, 105, 116]⟩, .string b, .int .i64 number, .int .i64 code, .int .i64 behind] w fun e w' => e = .returned (.string ⟨#[48, 120, hd ((b[0].toNat : Int) / 16), hd (b[0].toNat : Int)]⟩) ∧ w' = w := by
  have hx : 0 < b.size := by omega
  have hlt := (b[0]).toNat_lt
  have h1 : (b[0].toNat : Int) ≤ 255 := by omega
  go_enter Tryd.func10, Tryd.ntmps10
  go_wp2_with fail
  refine (rhex2_any (b[0].toNat : Int) (by omega) (by omega) _).mono ?_
  rintro e w1 ⟨rfl, rfl⟩
  go_wp2
  go_ret
  exact ⟨ret_str (ba_append _ _), rfl⟩
set_option maxRecDepth 100000 in
set_option maxHeartbeats 400000 in
theorem shown_13 (b : ByteArray) (number code behind : Int) (w : World) (hb : b.size = 1) : Calls Tryd.prog 10 #[.string ⟨#[47, 98, 105, 116]⟩, .string b, .int .i64 number, .int .i64 code, .int .i64 behind] w fun e w' => e = .returned (.string ⟨#[47, 48, 120, hd ((b[0].toNat : Int) / 16), hd (b[0].toNat : Int)]⟩) ∧ w' = w := by
  have hx : 0 < b.size := by omega
  have hlt := (b[0]).toNat_lt
  have h1 : (b[0].toNat : Int) ≤ 255 := by omega
  go_enter Tryd.func10, Tryd.ntmps10
  go_wp2_with fail
  refine (rhex2_any (b[0].toNat : Int) (by omega) (by omega) _).mono ?_
  rintro e w1 ⟨rfl, rfl⟩
  go_wp2
  go_ret
  exact ⟨ret_str (ba_append _ _), rfl⟩
end Go.Proofs.YthokdbcpkmcieaaDoor
