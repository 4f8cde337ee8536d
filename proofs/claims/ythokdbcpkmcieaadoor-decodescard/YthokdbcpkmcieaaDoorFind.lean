/- The walk of find: the first row that fits the code. -/
import Derived.Test.YthokdbcpkmcieaaDoorRowsU
import Derived.WalkSpells
import Derived.WalkLawsBesides
namespace Go.Proofs.YthokdbcpkmcieaaDoor
open Go.RowKit
def rowAt (k : Nat) : Nat × Nat × List UInt8 := rowsL.getD k (0, 0, [])
def hit (c : Int) (k : Nat) : Bool := bits BinOp.andNot IntKind.u8 c (rowAt k).2.1 == ((rowAt k).1 : Int)
set_option maxRecDepth 100000 in
theorem rowCells_at (k : Nat) (h : k < 111) : rowCells.toArray[3 * k]? = some (.int .u8 (rowAt k).1) ∧ rowCells.toArray[3 * k + 1]? = some (.int .u8 (rowAt k).2.1) ∧ rowCells.toArray[3 * k + 2]? = some (.string ⟨(rowAt k).2.2.toArray⟩) := by
  have key : ∀ (l : List (Nat × Nat × List UInt8)) (k : Nat), k < l.length → ∃ r, l[k]? = some r ∧ (l.flatMap fun r => [Value.int .u8 r.1, .int .u8 r.2.1, .string ⟨r.2.2.toArray⟩])[3 * k]? = some (.int .u8 r.1) ∧
      (l.flatMap fun r => [Value.int .u8 r.1, .int .u8 r.2.1, .string ⟨r.2.2.toArray⟩])[3 * k + 1]? = some (.int .u8 r.2.1) ∧
      (l.flatMap fun r => [Value.int .u8 r.1, .int .u8 r.2.1, .string ⟨r.2.2.toArray⟩])[3 * k + 2]? = some (.string ⟨r.2.2.toArray⟩) := by
    intro l
    induction l with
    | nil => intro k h; simp at h
    | cons x l ih =>
      intro k h
      cases k with
      | zero => exact ⟨x, by simp⟩
      | succ k =>
        obtain ⟨r, h0, h1, h2, h3⟩ := ih k (by simpa using h)
        refine ⟨r, by simpa using h0, ?_, ?_, ?_⟩
        · rw [show 3 * (k + 1) = 3 * k + 1 + 1 + 1 by omega]; simpa using h1
        · rw [show 3 * (k + 1) + 1 = 3 * k + 1 + 1 + 1 + 1 by omega]; simpa using h2
        · rw [show 3 * (k + 1) + 2 = 3 * k + 2 + 1 + 1 + 1 by omega]; simpa using h3
  obtain ⟨r, h0, h1, h2, h3⟩ := key rowsL k (by have : rowsL.length = 111 := by decide +kernel
                                                omega)
  have e : rowAt k = r := by unfold rowAt; rw [List.getD_eq_getElem?_getD, h0]; rfl
  rw [e]
  simp only [List.getElem?_toArray]
  exact ⟨h1, h2, h3⟩
set_option maxRecDepth 100000 in
set_option maxHeartbeats 1000000 in
theorem find_any (c : Int) (w : World) :
    Calls Tryd.prog 11 #[.int .u8 c] w fun e w' => (∃ k, k < 111 ∧ hit c k = true ∧ (∀ j, j < k → hit c j = false) ∧ e = .returned (.tuple #[.agg #[.int .u8 (rowAt k).1, .int .u8 (rowAt k).2.1, .string ⟨(rowAt k).2.2.toArray⟩], .bool true]) ∧ Below w.heap.size w w') ∨ ((∀ j, j < 111 → hit c j = false) ∧ e = .returned (.tuple #[.agg #[.int .u8 0, .int .u8 0, .string ⟨#[]⟩], .bool false]) ∧ Below w.heap.size w w') := by
  go_enter Tryd.func11, Tryd.ntmps11
  go_wp2_with (go_at_call 19; refine (rows_any _).mono ?_; rintro e w1 ⟨rfl, rfl⟩)
  go_loopw [8] (fun i wr => ∃ k : Nat, k ≤ 111 ∧ i = .int .i64 k ∧ (∀ j, j < k → hit c j = false) ∧ Below (w.heap.size + 2) ((w.alloc (.cells #[.int .u8 0, .int .u8 0, .string ⟨#[]⟩] 37)).alloc (.cells rowCells.toArray 37)) wr) (fun i _ => 111 - (intOf i).toNat)
  case atStart => exact ⟨0, by omega, rfl, fun j h => by omega, Below.refl _ _⟩
  case round =>
    obtain ⟨k, hk, rfl, hno, hb⟩ := hrel
    by_cases hlt : k < 111
    · have cc := rowCells_at k hlt
      have c0 : wr.cell? ⟨w.heap.size + 1, k * 3, none⟩ = some (.int .u8 (rowAt k).1) := by rw [hb.cell (by simp)]; simp [World.cell?_alloc_at, Nat.mul_comm k 3, cc.1]
      have c1 : wr.cell? ⟨w.heap.size + 1, k * 3 + 1, none⟩ = some (.int .u8 (rowAt k).2.1) := by rw [hb.cell (by simp)]; simp [World.cell?_alloc_at, Nat.mul_comm k 3, cc.2.1]
      have c2 : wr.cell? ⟨w.heap.size + 1, k * 3 + 2, none⟩ = some (.string ⟨(rowAt k).2.2.toArray⟩) := by rw [hb.cell (by simp)]; simp [World.cell?_alloc_at, Nat.mul_comm k 3, cc.2.2]
      have r0 : wr.cell? ⟨w.heap.size, 0, none⟩ = some (.int .u8 0) := by rw [hb.cell (by simp)]; simp
      have r1 : wr.cell? ⟨w.heap.size, 1, none⟩ = some (.int .u8 0) := by rw [hb.cell (by simp)]; simp
      have r2 : wr.cell? ⟨w.heap.size, 2, none⟩ = some (.string ⟨#[]⟩) := by rw [hb.cell (by simp)]; simp
      have f0 : wr.frozen? ⟨w.heap.size, 0, none⟩ = false := by rw [hb.frozen (by simp)]; simp
      have f1 : wr.frozen? ⟨w.heap.size, 1, none⟩ = false := by rw [hb.frozen (by simp)]; simp
      have f2 : wr.frozen? ⟨w.heap.size, 2, none⟩ = false := by rw [hb.frozen (by simp)]; simp
      have hz : w.heap.size + 2 ≤ wr.heap.size := by have := hb.size; simpa using this
      have hz0 : w.heap.size < wr.heap.size := by omega
      have hz1 : w.heap.size + 1 < wr.heap.size := by omega
      clear cc
      by_cases hh : hit c k = true
      · have ht : (bits BinOp.andNot IntKind.u8 c ((rowAt k).2.1 : Int) == ((rowAt k).1 : Int)) = true := hh
        obtain ⟨r, hr⟩ : ∃ r, rowAt k = r := ⟨_, rfl⟩
        rw [hr] at c0 c1 c2 ht
        have HR : Hid (rowAt k = r) := hr
        clear hr
        go_wp2
        refine bodyPost_ret (v := .tuple #[.agg #[.int .u8 r.1, .int .u8 r.2.1, .string ⟨r.2.2.toArray⟩], .bool true]) (by simp [results, Tryd.results11, go_sem, hz0, r0, r1, r2]) rfl (.inl ⟨k, hlt, hh, hno, by rw [HR.out], ?_⟩)
        have hb0 : Below w.heap.size w wr := (((Below.refl w.heap.size w).alloc (Nat.le_refl _) _).alloc (by simp) _).trans (hb.mono (by omega))
        repeat (first | exact hb0 | refine Below.alloc ?_ (by simp; omega) _ | refine Below.setCell ?_ (by simp) _)
      · have ht : (bits BinOp.andNot IntKind.u8 c ((rowAt k).2.1 : Int) == ((rowAt k).1 : Int)) = false := by simpa [hit] using hh
        generalize rowAt k = r at *
        go_wp2
        go_roundw
        case rel => exact ⟨k + 1, by omega, by go_num, fun j hj => by
          rcases Nat.lt_or_ge j k with h | h
          · exact hno j h
          · have : j = k := by omega
            subst this; simpa using hh, hb.alloc (by omega) _⟩
        case measure => simp [intOf]; omega
    · have r0 : wr.cell? ⟨w.heap.size, 0, none⟩ = some (.int .u8 0) := by rw [hb.cell (by simp)]; simp
      have r1 : wr.cell? ⟨w.heap.size, 1, none⟩ = some (.int .u8 0) := by rw [hb.cell (by simp)]; simp
      have r2 : wr.cell? ⟨w.heap.size, 2, none⟩ = some (.string ⟨#[]⟩) := by rw [hb.cell (by simp)]; simp
      have f0 : wr.frozen? ⟨w.heap.size, 0, none⟩ = false := by rw [hb.frozen (by simp)]; simp
      have f1 : wr.frozen? ⟨w.heap.size, 1, none⟩ = false := by rw [hb.frozen (by simp)]; simp
      have f2 : wr.frozen? ⟨w.heap.size, 2, none⟩ = false := by rw [hb.frozen (by simp)]; simp
      have hz0 : w.heap.size < wr.heap.size := by have := hb.size; simp at this; omega
      go_wp2
      refine bodyPost_ret (v := .tuple #[.agg #[.int .u8 0, .int .u8 0, .string ⟨#[]⟩], .bool false]) (by simp [results, Tryd.results11, go_sem, r0, r1, r2]) rfl (.inr ⟨fun j hj => hno j (by omega), rfl, ?_⟩)
      have hb0 : Below w.heap.size w wr := (((Below.refl w.heap.size w).alloc (Nat.le_refl _) _).alloc (by simp) _).trans (hb.mono (by omega))
      repeat (first | exact hb0 | refine Below.alloc ?_ (by simp; omega) _ | refine Below.setCell ?_ (by simp) _)
end Go.Proofs.YthokdbcpkmcieaaDoor
