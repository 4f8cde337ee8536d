/- The walk of instruction.Decode where the instruction has no operands. -/
import Derived.Test.YthokdbcpkmcieaaGreatDoorC02
namespace Go.Proofs.YthokdbcpkmcieaaGreatDoor
open Go Go.RowKit Go.Shelf Go.WideMaps Go.Maps
set_option maxRecDepth 100000 in
set_option maxHeartbeats 2000000 in
theorem read_nil (code : ByteArray) (w : World) (hc : 0 < code.size) (hc2 : code.size ≤ maxLen) :
    Calls Tryz.prog 60 #[.slice none 0 0, .string code] w fun e w' => e = .returned (.tuple #[.int .i64 1, .bool true]) ∧ Below w.heap.size w w' := by
  go_enter Tryz.func60, Tryz.ntmps60
  go_wp2_with fail
  refine (ways_any _).mono ?_
  rintro e w1 ⟨rfl, hb1⟩
  go_wp2_with (refine wpList_store_row rfl 200 (.tmp 6) (.tmp 9) rfl w1.heap.size waysCells rfl rfl 200 _ (heap_alloc_last w1 _) ways_info rfl ways_one ?_; rw [World.setRow_alloc_new])
  refine wp_loop_rounds 1 ?_
  rw [rounds_succ]
  unfold maxLen at hc2
  have hx : (code.extract 1 code.size).size = code.size - 1 := by rw [ByteArray.size_extract]; omega
  have HX := hideIt hx
  have hle : (code.extract 1 code.size).size ≤ 9223372036854775807 := by omega
  clear hx
  go_wp2
  go_quiet (fail)
  go_wp2
  go_ret2
  refine ⟨?_, below_drewN ((hb1.alloc hb1.size _).alloc (by have := hb1.size; simp; omega) _) _⟩
  show Ending.returned (.tuple #[.int .i64 ((code.size : Int) - ((code.size - 1 : Nat) : Int)), .bool true]) = _
  rw [show (code.size : Int) - ((code.size - 1 : Nat) : Int) = 1 by omega]
set_option maxRecDepth 100000 in
set_option maxHeartbeats 2000000 in
theorem dec_plain (code : ByteArray) (at' m : Int) (w : World) (h : 0 < code.size) (hc2 : code.size ≤ maxLen) (hm : w.cell? ⟨0, 0, none⟩ = some (.int .i64 m)) (h0 : 0 < w.heap.size) (k : Nat) (hk : k < 111) (hh : hit (code[0].toNat : Int) k = true) (hf : ∀ j, j < k → hit (code[0].toNat : Int) j = false)
    (rc rf : Int) (rt nm : ByteArray) (e1 : ((rowAt k).1 : Int) = rc) (e2 : ((rowAt k).2.1 : Int) = rf) (e3 : (⟨(rowAt k).2.2.toArray⟩ : ByteArray) = rt) (hs : rt.size < 1000) (hcut : Lib.cut rt.data.toList [32] = (nm.data.toList, [], false)) (hrc : (rc == 133) = false) :
    Calls Tryz.prog 30 #[.string code, .int .i64 at'] w fun e w' => e = .returned (.tuple #[.string nm, .int .i64 1]) ∧ Below w.heap.size w w' := by
  have hne : code.toList.isEmpty = false := by rw [isEmpty_iff]; simp only [decide_eq_false_iff_not]; omega
  have HF := hideIt (fun w => find_hit (code[0].toNat : Int) w k hk hh hf rc rf rt e1 e2 e3)
  have HC := hideIt hcut
  clear hh hf e1 e2 e3 hcut
  go_enter Tryz.func30, Tryz.ntmps30
  go_wp2_with fail
  refine (HF.out _).mono ?_
  rintro e w1 ⟨rfl, hb1⟩
  have hs1 := hb1.size
  have hm1 : ∀ o, (w1.alloc o).cell? ⟨0, 0, none⟩ = some (.int .i64 m) := fun o => by rw [World.cell?_alloc_old _ _ _ (by simp; omega), hb1.cell (by simp; omega)]; exact hm
  go_wp2_with fail
  go_region_with (first | (go_at_call 59; refine (kinds_any _).mono ?_; rintro e wk ⟨rfl, hok, hbk⟩; have k0 : wk.cell? ⟨w1.heap.size, 0, none⟩ = some (.int .u8 rc) := (by rw [hbk.cell (by simp)]; simp); have k1 : wk.cell? ⟨w1.heap.size, 1, none⟩ = some (.int .u8 rf) := (by rw [hbk.cell (by simp)]; simp); have k2 : wk.cell? ⟨w1.heap.size, 2, none⟩ = some (.string rt) := (by rw [hbk.cell (by simp)]; simp); have km : wk.cell? ⟨0, 0, none⟩ = some (.int .i64 m) := (by rw [hbk.cell (by simp)]; exact hm1 _); have kz : 0 < wk.heap.size := (by have := hbk.size; simp at this; omega); have kb' : Below (w1.heap.size + 1) (w1.alloc (.cells #[.int .u8 rc, .int .u8 rf, .string rt] 101)) wk := (by have hx := hbk.mono (B' := w1.heap.size + 1) (by simp); exact ⟨hx.os, hx.tape, hx.output, hx.size, hx.block⟩)) | (go_at_call 58; refine (parts_none rc rf _ m rt nm _ _ hs (by exact km) (by exact kz) HC.out).mono ?_; rintro e w2 ⟨rfl, hb2⟩))
  all_goals
    have hzk : w1.heap.size + 1 ≤ wk.heap.size := by have := kb'.size; simpa using this
    have hb2' := kb'.trans (hb2.mono (B' := w1.heap.size + 1) hzk)
    have hs2 : w1.heap.size + 1 ≤ w2.heap.size := by have := hb2'.size; simpa using this
    clear hb2 k0 k1 k2 km kb' hbk hok
    go_wp2_with fail
    refine (read_nil code _ h hc2).mono ?_
    rintro e w3 ⟨rfl, hb3⟩
    have cr : w3.cell? ⟨w1.heap.size, 0, none⟩ = some (.int .u8 rc) := by rw [hb3.cell (by simp; omega), hb2'.cell (by simp)]; simp
    go_wp2_with fail
    refine (line_none nm none 0 _ _).mono ?_
    rintro e w4 ⟨rfl, rfl⟩
    go_wp2
    go_ret2
    exact ⟨rfl, ((hb1.alloc hs1 _).trans (hb2'.mono (by omega))).trans (hb3.mono (by omega))⟩
end Go.Proofs.YthokdbcpkmcieaaGreatDoor
