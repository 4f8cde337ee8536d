/- Walks of the program's hex at two and four digits. -/
import Derived.Test.YthokdbcpkmcieaaDoorRows
import Derived.Test.YthokdbcpkmcieaaDoorRun
import Derived.WalkKit
import Derived.WalkSpells
import Derived.WalkLawsBesides
import Derived.Laws.BytesArg
namespace Go.Proofs.YthokdbcpkmcieaaDoor
open Go.RowKit
/-- The hexadecimal digit of a number's last four bits. -/
def hd (n : Int) : UInt8 := (#[48, 49, 50, 51, 52, 53, 54, 55, 56, 57, 65, 66, 67, 68, 69, 70] : Array UInt8).getD (n % 16).toNat 0
theorem div_next (n : Int) (hn : 0 ≤ n) (hn' : n ≤ 65535) : IntKind.u16.wrap (n.tdiv 16) = n / 16 := by
  rw [Int.tdiv_eq_ediv_of_nonneg hn]
  unfold IntKind.wrap
  simp [IntKind.bits]
  omega
theorem next_is (n m : Int) (hn : 0 ≤ n) (hn' : n ≤ 65535) (e : IntKind.u16.wrap (n.tdiv 16) = m) : m = n / 16 := by rw [← e, div_next n hn hn']
theorem hd_get (n : Int) (h : (n % 16).toNat < (ByteArray.mk #[48, 49, 50, 51, 52, 53, 54, 55, 56, 57, 65, 66, 67, 68, 69, 70]).size) : (ByteArray.mk #[48, 49, 50, 51, 52, 53, 54, 55, 56, 57, 65, 66, 67, 68, 69, 70])[(n % 16).toNat] = hd n := by
  unfold hd
  have h' : (n % 16).toNat < (#[48, 49, 50, 51, 52, 53, 54, 55, 56, 57, 65, 66, 67, 68, 69, 70] : Array UInt8).size := h
  rw [Array.getD_eq_getD_getElem?, Array.getElem?_eq_getElem h']
  rfl
theorem ret_str {a b : ByteArray} (h : a = b) : Ending.returned (.string a) = .returned (.string b) := by rw [h]
theorem ba_append (a b : Array UInt8) : ByteArray.mk a ++ ByteArray.mk b = ByteArray.mk (a ++ b) := by
  apply ByteArray.ext
  exact ByteArray.data_append
theorem text2 (x y : UInt8) : strOfNums [(x.toNat : Int), (y.toNat : Int)] = ⟨#[x, y]⟩ := by
  rw [strOfNums]
  simp
theorem text4 (x y z u : UInt8) : strOfNums [(x.toNat : Int), (y.toNat : Int), (z.toNat : Int), (u.toNat : Int)] = ⟨#[x, y, z, u]⟩ := by
  rw [strOfNums]
  simp
theorem conv2 (x y : Int) (w : World) : (convert 77 9 (.slice (some ⟨w.heap.size, 0, none⟩) 2 2)).run Tryd.prog (w.alloc (.cells #[.int .u8 x, .int .u8 y] 5)) = .ok (.string (strOfNums [x, y])) (w.alloc (.cells #[.int .u8 x, .int .u8 y] 5)) :=
  run_convert_bytes_arg (P := Tryd.prog) _ 77 5 Tryd.underlying77 Tryd.underlying5 w.heap.size 0 2 2 [x, y] rfl (fun i hi => by
    match i, hi with
    | 0, _ => simp
    | 1, _ => simp) 9 Tryd.underlying9
theorem conv4 (x y z u : Int) (w : World) : (convert 77 9 (.slice (some ⟨w.heap.size, 0, none⟩) 4 4)).run Tryd.prog (w.alloc (.cells #[.int .u8 x, .int .u8 y, .int .u8 z, .int .u8 u] 5)) = .ok (.string (strOfNums [x, y, z, u])) (w.alloc (.cells #[.int .u8 x, .int .u8 y, .int .u8 z, .int .u8 u] 5)) :=
  run_convert_bytes_arg (P := Tryd.prog) _ 77 5 Tryd.underlying77 Tryd.underlying5 w.heap.size 0 4 4 [x, y, z, u] rfl (fun i hi => by
    match i, hi with
    | 0, _ => simp
    | 1, _ => simp
    | 2, _ => simp
    | 3, _ => simp) 9 Tryd.underlying9
set_option maxRecDepth 100000 in
set_option maxHeartbeats 1000000 in
theorem hex2_any (n : Int) (hn : 0 ≤ n) (hn' : n ≤ 65535) (w : World) :
    Calls Tryd.prog 57 #[.int .u16 n, .int .i64 2] w fun e w' => e = .returned (.string ⟨#[hd (n / 16), hd n]⟩) ∧ Below w.heap.size w w' := by
  have hmk : ∀ w, (Instr.makeSlice 77 (.int .i64 2) (.int .i64 2)).run Tryd.prog w = .ok (.slice (some ⟨w.heap.size, 0, none⟩) 2 2) (w.alloc (.cells #[.int .u8 0, .int .u8 0] 5)) := fun _ => by kernel_rfl
  obtain ⟨n1, e1, b1, c1⟩ : ∃ m, IntKind.u16.wrap (n.tdiv 16) = m ∧ 0 ≤ m ∧ m ≤ 65535 := ⟨_, rfl, by rw [div_next n hn hn']; omega, by rw [div_next n hn hn']; omega⟩
  obtain ⟨n2, e2, b2, c2⟩ : ∃ m, IntKind.u16.wrap (n1.tdiv 16) = m ∧ 0 ≤ m ∧ m ≤ 65535 := ⟨_, rfl, by rw [div_next n1 b1 c1]; omega, by rw [div_next n1 b1 c1]; omega⟩
  have hcv := conv2
  go_enter Tryd.func57, Tryd.ntmps57
  go_wp2
  refine wp_loop_rounds 3 ?_
  rw [rounds_succ]
  go_wp2
  rw [rounds_succ]
  go_wp2
  rw [rounds_succ]
  go_wp2
  go_ret
  refine ⟨ret_str ?_, (Below.refl _ _).alloc (Nat.le_refl _) _⟩
  rw [← next_is n n1 hn hn' e1]
  simp only [hd_get]
  exact text2 _ _
set_option maxRecDepth 100000 in
set_option maxHeartbeats 1000000 in
theorem hex4_any (n : Int) (hn : 0 ≤ n) (hn' : n ≤ 65535) (w : World) :
    Calls Tryd.prog 57 #[.int .u16 n, .int .i64 4] w fun e w' => e = .returned (.string ⟨#[hd (n / 4096), hd (n / 256), hd (n / 16), hd n]⟩) ∧ Below w.heap.size w w' := by
  have hmk : ∀ w, (Instr.makeSlice 77 (.int .i64 4) (.int .i64 4)).run Tryd.prog w = .ok (.slice (some ⟨w.heap.size, 0, none⟩) 4 4) (w.alloc (.cells #[.int .u8 0, .int .u8 0, .int .u8 0, .int .u8 0] 5)) := fun _ => by kernel_rfl
  obtain ⟨n1, e1, b1, c1⟩ : ∃ m, IntKind.u16.wrap (n.tdiv 16) = m ∧ 0 ≤ m ∧ m ≤ 65535 := ⟨_, rfl, by rw [div_next n hn hn']; omega, by rw [div_next n hn hn']; omega⟩
  obtain ⟨n2, e2, b2, c2⟩ : ∃ m, IntKind.u16.wrap (n1.tdiv 16) = m ∧ 0 ≤ m ∧ m ≤ 65535 := ⟨_, rfl, by rw [div_next n1 b1 c1]; omega, by rw [div_next n1 b1 c1]; omega⟩
  obtain ⟨n3, e3, b3, c3⟩ : ∃ m, IntKind.u16.wrap (n2.tdiv 16) = m ∧ 0 ≤ m ∧ m ≤ 65535 := ⟨_, rfl, by rw [div_next n2 b2 c2]; omega, by rw [div_next n2 b2 c2]; omega⟩
  obtain ⟨n4, e4, b4, c4⟩ : ∃ m, IntKind.u16.wrap (n3.tdiv 16) = m ∧ 0 ≤ m ∧ m ≤ 65535 := ⟨_, rfl, by rw [div_next n3 b3 c3]; omega, by rw [div_next n3 b3 c3]; omega⟩
  have hcv := conv4
  go_enter Tryd.func57, Tryd.ntmps57
  go_wp2
  refine wp_loop_rounds 5 ?_
  rw [rounds_succ]
  go_wp2
  rw [rounds_succ]
  go_wp2
  rw [rounds_succ]
  go_wp2
  rw [rounds_succ]
  go_wp2
  rw [rounds_succ]
  go_wp2
  go_ret
  refine ⟨ret_str ?_, (Below.refl _ _).alloc (Nat.le_refl _) _⟩
  have d1 := next_is n n1 hn hn' e1
  have d2 := next_is n1 n2 b1 c1 e2
  have d3 := next_is n2 n3 b2 c2 e3
  rw [show n / 4096 = n3 by omega, show n / 256 = n2 by omega, show n / 16 = n1 by omega]
  simp only [hd_get]
  exact text4 _ _ _ _
end Go.Proofs.YthokdbcpkmcieaaDoor
