/- The walk of the reference's entry. -/
import Derived.Test.YthokdbcpkmcieaaDoorRefT
import Derived.Test.YthokdbcpkmcieaaDoorShown2
import Derived.BigRegion
import Derived.Deep.WholeRow
namespace Go.Proofs.YthokdbcpkmcieaaDoor
open Go Go.RowKit
/-- A list of operands' texts, as a slice in memory. -/
def OpsIn (w : World) (v : Value) (os : List (List UInt8)) : Prop :=
  (os = [] ∧ v = .slice none 0 0) ∨ (os ≠ [] ∧ ∃ b, v = .slice (some ⟨b, 0, none⟩) os.length os.length ∧ w.heap[b]? = some (.cells (os.map fun x => Value.string ⟨x.toArray⟩).toArray 9 (0, 0)))
theorem OpsIn.later {w w' : World} {v : Value} {os : List (List UInt8)} (h : OpsIn w v os) (hb : Below w.heap.size w w') : OpsIn w' v os := by
  rcases h with h | ⟨h, b, hv, hc⟩
  · exact .inl h
  · exact .inr ⟨h, b, hv, by rw [hb.block b (Array.getElem?_eq_some_iff.1 hc).1]; exact hc⟩
abbrev Ent := Nat × Nat × List UInt8 × List (List UInt8)
theorem layOps_below : ∀ (l : List Ent) (w : World), Below w.heap.size w (layOps w l)
  | [], w => Below.refl _ _
  | (_, _, _, []) :: r, w => layOps_below r w
  | (_, _, _, o :: os) :: r, w => ((Below.refl _ _).alloc (Nat.le_refl _) _).trans ((layOps_below r _).mono (by simp))
def ent0 : Ent := (0, 0, [], [])
theorem entCells_at : ∀ (l : List Ent) (w : World) (k : Nat), k < l.length → ∃ v, (entCells w l)[4 * k]? = some (.int .i64 (l.getD k ent0).1) ∧ (entCells w l)[4 * k + 1]? = some (.int .i64 (l.getD k ent0).2.1) ∧ (entCells w l)[4 * k + 2]? = some (.string ⟨(l.getD k ent0).2.2.1.toArray⟩) ∧ (entCells w l)[4 * k + 3]? = some v ∧ OpsIn (layOps w l) v (l.getD k ent0).2.2.2
  | [], w, k, h => by simp at h
  | (c, m, nm, []) :: r, w, 0, _ => ⟨.slice none 0 0, by simp [entCells], by simp [entCells], by simp [entCells], by simp [entCells], .inl ⟨rfl, rfl⟩⟩
  | (c, m, nm, o :: os) :: r, w, 0, _ => ⟨.slice (some ⟨w.heap.size, 0, none⟩) (os.length + 1) (os.length + 1), by simp [entCells], by simp [entCells], by simp [entCells], by simp [entCells], .inr ⟨by simp, w.heap.size, rfl, by
      show (layOps (w.alloc (.cells ((o :: os).map fun x => Value.string ⟨x.toArray⟩).toArray 9)) r).heap[w.heap.size]? = _
      rw [(layOps_below r _).block w.heap.size (by simp)]
      exact heap_alloc_last w _⟩⟩
  | (c, m, nm, []) :: r, w, k + 1, h => by
    obtain ⟨v, h1, h2, h3, h4, h5⟩ := entCells_at r w k (by simpa using h)
    refine ⟨v, ?_, ?_, ?_, ?_, h5⟩
    · rw [show 4 * (k + 1) = 4 * k + 1 + 1 + 1 + 1 by omega]; simpa [entCells] using h1
    · rw [show 4 * (k + 1) + 1 = 4 * k + 1 + 1 + 1 + 1 + 1 by omega]; simpa [entCells] using h2
    · rw [show 4 * (k + 1) + 2 = 4 * k + 2 + 1 + 1 + 1 + 1 by omega]; simpa [entCells] using h3
    · rw [show 4 * (k + 1) + 3 = 4 * k + 3 + 1 + 1 + 1 + 1 by omega]; simpa [entCells] using h4
  | (c, m, nm, o :: os) :: r, w, k + 1, h => by
    obtain ⟨v, h1, h2, h3, h4, h5⟩ := entCells_at r (w.alloc (.cells ((o :: os).map fun x => Value.string ⟨x.toArray⟩).toArray 9)) k (by simpa using h)
    refine ⟨v, ?_, ?_, ?_, ?_, h5⟩
    · rw [show 4 * (k + 1) = 4 * k + 1 + 1 + 1 + 1 by omega]; simpa [entCells] using h1
    · rw [show 4 * (k + 1) + 1 = 4 * k + 1 + 1 + 1 + 1 + 1 by omega]; simpa [entCells] using h2
    · rw [show 4 * (k + 1) + 2 = 4 * k + 2 + 1 + 1 + 1 + 1 by omega]; simpa [entCells] using h3
    · rw [show 4 * (k + 1) + 3 = 4 * k + 3 + 1 + 1 + 1 + 1 by omega]; simpa [entCells] using h4
/-- An entry as a value. -/
def entV (e : Ent) (v : Value) : Value := .agg #[.int .i64 e.1, .int .i64 e.2.1, .string ⟨e.2.2.1.toArray⟩, v]
/-- A table in memory: whichever entry is asked for, its four cells. -/
def TabIn (w : World) (b : Nat) (l : List Ent) : Prop := ∀ k, k < l.length → ∃ v, w.cell? ⟨b, k * 4, none⟩ = some (.int .i64 (l.getD k ent0).1) ∧ w.cell? ⟨b, k * 4 + 1, none⟩ = some (.int .i64 (l.getD k ent0).2.1) ∧ w.cell? ⟨b, k * 4 + 2, none⟩ = some (.string ⟨(l.getD k ent0).2.2.1.toArray⟩) ∧ w.cell? ⟨b, k * 4 + 3, none⟩ = some v ∧ OpsIn w v (l.getD k ent0).2.2.2
theorem tabIn_of (w : World) (l : List Ent) : TabIn ((layOps w l).alloc (.cells (entCells w l).toArray 30)) (layOps w l).heap.size l := by
  intro k hk
  obtain ⟨v, h1, h2, h3, h4, h5⟩ := entCells_at l w k hk
  refine ⟨v, ?_, ?_, ?_, ?_, h5.later ((Below.refl _ _).alloc (Nat.le_refl _) _)⟩
  · simp [Nat.mul_comm k 4, h1]
  · simp [Nat.mul_comm k 4, h2]
  · simp [Nat.mul_comm k 4, h3]
  · simp [Nat.mul_comm k 4, h4]
theorem TabIn.later {w w' : World} {b : Nat} {l : List Ent} (h : TabIn w b l) (hb : Below w.heap.size w w') : TabIn w' b l := by
  intro k hk
  obtain ⟨v, h1, h2, h3, h4, h5⟩ := h k hk
  have hlt := World.block_lt_of_cell? _ _ h1
  exact ⟨v, (hb.cell hlt).trans h1, (hb.cell (p := ⟨b, k * 4 + 1, none⟩) hlt).trans h2, (hb.cell (p := ⟨b, k * 4 + 2, none⟩) hlt).trans h3, (hb.cell (p := ⟨b, k * 4 + 3, none⟩) hlt).trans h4, h5.later hb⟩
theorem table_tab (w : World) : Calls Tryd.prog 17 #[] w fun e w' => ∃ b, e = .returned (.slice (some ⟨b, 0, none⟩) 109 109) ∧ w.heap.size ≤ b ∧ b < w'.heap.size ∧ TabIn w' b entsL ∧ Below w.heap.size w w' := by
  refine (table_any w).mono ?_
  rintro e w' ⟨rfl, rfl⟩
  exact ⟨_, rfl, (layOps_below _ _).size, by simp, tabIn_of w entsL, (layOps_below _ _).alloc (layOps_below _ _).size _⟩
theorem paged_tab (w : World) : Calls Tryd.prog 16 #[] w fun e w' => ∃ b, e = .returned (.slice (some ⟨b, 0, none⟩) 2 2) ∧ w.heap.size ≤ b ∧ b < w'.heap.size ∧ TabIn w' b pagedL ∧ Below w.heap.size w w' := by
  refine (paged_any w).mono ?_
  rintro e w' ⟨rfl, rfl⟩
  exact ⟨_, rfl, (layOps_below _ _).size, by simp, tabIn_of w pagedL, (layOps_below _ _).alloc (layOps_below _ _).size _⟩
/-- Does the code lie in the entry's range? -/
def inR (c : Int) (e : Ent) : Bool := decide ((e.1 : Int) ≤ c) && decide (c < (e.1 : Int) + (e.2.1 : Int))
/-- Stores into a block that no operand's list lies in. -/
theorem OpsIn.set {w : World} {v : Value} {os : List (List UInt8)} {b0 o : Nat} (u : Value) (h : OpsIn w v os) (hne : ∀ b, v = .slice (some ⟨b, 0, none⟩) os.length os.length → b ≠ b0) : OpsIn (w.setCell ⟨b0, o, none⟩ u) v os := by
  rcases h with h | ⟨h, b, hv, hc⟩
  · exact .inl h
  · exact .inr ⟨h, b, hv, by rw [Below.heap_setCell _ _ _ _ (hne b hv)]; exact hc⟩
theorem OpsIn.set4 {w : World} {v : Value} {os : List (List UInt8)} {g : Nat} {c : Array Value} (x y z u : Value) (h : OpsIn w v os) (hg : w.heap[g]? = some (.cells c 30 (0, 0))) :
    OpsIn ((((w.setCell ⟨g, 0, none⟩ x).setCell ⟨g, 1, none⟩ y).setCell ⟨g, 2, none⟩ z).setCell ⟨g, 3, none⟩ u) v os := by
  rcases h with h | ⟨h, b, hv, hc⟩
  · exact .inl h
  · have hne : b ≠ g := by
      intro e
      subst e
      rw [hc] at hg
      simp at hg
    exact .inr ⟨h, b, hv, by rw [Below.heap_setCell _ _ _ _ hne, Below.heap_setCell _ _ _ _ hne, Below.heap_setCell _ _ _ _ hne, Below.heap_setCell _ _ _ _ hne]; exact hc⟩
theorem below4 {B g : Nat} {w0 w : World} (x y z u : Value) (h : Below B w0 w) (hg : B ≤ g) : Below B w0 ((((w.setCell ⟨g, 0, none⟩ x).setCell ⟨g, 1, none⟩ y).setCell ⟨g, 2, none⟩ z).setCell ⟨g, 3, none⟩ u) :=
  (((h.setCell hg x).setCell hg y).setCell hg z).setCell hg u
set_option maxRecDepth 100000 in
set_option maxHeartbeats 1000000 in
theorem entry_paged (c : Int) (w : World) (h0 : 0 ≤ c) (h1 : c ≤ 255) (hp : (c % 16 == 1) = true) :
    Calls Tryd.prog 7 #[.int .i64 c] w fun e w' => ∃ v, e = .returned (.tuple #[entV (pagedL.getD (c / 16 % 2).toNat ent0) v, .int .i64 0, .bool true]) ∧ OpsIn w' v (pagedL.getD (c / 16 % 2).toNat ent0).2.2.2 ∧ Below w.heap.size w w' := by
  obtain ⟨p, hpp⟩ : ∃ p, pagedL.getD (c / 16 % 2).toNat ent0 = p := ⟨_, rfl⟩
  rw [hpp]
  have HP := hideIt hpp
  clear hpp
  go_enter Tryd.func7, Tryd.ntmps7
  go_wp2_with fail
  refine (paged_tab _).mono ?_
  rintro e w1 ⟨b, rfl, hb0, hb1, ht, hbel⟩
  obtain ⟨v, c0, c1, c2, c3, ho⟩ := ht (c / 16 % 2).toNat (by show _ < 2; omega)
  rw [HP.out] at c0 c1 c2 ho
  have hs1 : w.heap.size + 1 ≤ w1.heap.size := by have := hbel.size; simpa using this
  have hb0' : w.heap.size + 1 ≤ b := by simpa using hb0
  have hz0 : w.heap.size < w1.heap.size := by omega
  have r0 : w1.cell? ⟨w.heap.size, 0, none⟩ = some (.int .i64 0) := by rw [hbel.cell (by simp)]; simp
  have r1 : w1.cell? ⟨w.heap.size, 1, none⟩ = some (.int .i64 0) := by rw [hbel.cell (by simp)]; simp
  have r2 : w1.cell? ⟨w.heap.size, 2, none⟩ = some (.string ⟨#[]⟩) := by rw [hbel.cell (by simp)]; simp
  have r3 : w1.cell? ⟨w.heap.size, 3, none⟩ = some (.slice none 0 0) := by rw [hbel.cell (by simp)]; simp
  have f0 : w1.frozen? ⟨w.heap.size, 0, none⟩ = false := by rw [hbel.frozen (by simp)]; simp
  have f1 : w1.frozen? ⟨w.heap.size, 1, none⟩ = false := by rw [hbel.frozen (by simp)]; simp
  have f2 : w1.frozen? ⟨w.heap.size, 2, none⟩ = false := by rw [hbel.frozen (by simp)]; simp
  have f3 : w1.frozen? ⟨w.heap.size, 3, none⟩ = false := by rw [hbel.frozen (by simp)]; simp
  have HO := hideIt ho
  have HB := hideIt hbel
  clear ht hbel hb0
  have hrow : w1.heap[w.heap.size]? = some (.cells #[.int .i64 0, .int .i64 0, .string ⟨#[]⟩, .slice none 0 0] 30 (0, 0)) := by rw [HB.out.block w.heap.size (by simp)]; exact heap_alloc_last w _
  have HR := hideIt hrow
  have HB2 := hideIt (show Below w.heap.size w w1 from ((Below.refl _ _).alloc (Nat.le_refl _) _).trans (HB.out.mono (by simp)))
  clear hrow
  rcases ho with ⟨hos, rfl⟩ | ⟨hos, bo, rfl, hco⟩
  · clear hos
    go_wp2
    refine bodyPost_ret (v := .tuple #[entV p (.slice none 0 0), .int .i64 0, .bool true]) (by simp [results, Tryd.results7, go_sem, r0, r1, r2, r3, entV]) rfl ⟨_, rfl, ?_, ?_⟩
    · exact HO.out.set4 _ _ _ _ HR.out
    · exact below4 _ _ _ _ HB2.out (Nat.le_refl _)
  · clear hos hco
    go_wp2
    refine bodyPost_ret (v := .tuple #[entV p (.slice (some ⟨bo, 0, none⟩) p.2.2.2.length p.2.2.2.length), .int .i64 0, .bool true]) (by simp [results, Tryd.results7, go_sem, r0, r1, r2, r3, entV]) rfl ⟨_, rfl, ?_, ?_⟩
    · exact HO.out.set4 _ _ _ _ HR.out
    · exact below4 _ _ _ _ HB2.out (Nat.le_refl _)
end Go.Proofs.YthokdbcpkmcieaaDoor
