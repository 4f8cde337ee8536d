/- Operands as plain data, their cells in memory, and what reading the bytes behind a code makes of them. -/
import Derived.Test.YthokdbcpkmcieaaDoorAdds
namespace Go.Proofs.YthokdbcpkmcieaaDoor
open Go Go.RowKit
/-- An operand. -/
structure Opn where
  kind : Nat
  name : ByteArray
  own : Int
  added : Int
  behind : Int
def Opn.cells (o : Opn) : List Value := [.int .i64 o.kind, .string o.name, .int .u8 o.own, .int .u16 o.added, .int .u16 o.behind]
def Opn.put (o : Opn) (a : Int) : Opn := { o with added := a }
def opn0 : Opn := ⟨0, ⟨#[]⟩, 0, 0, 0⟩
def allCells (l : List Opn) : List Value := l.flatMap Opn.cells
theorem allCells_len (l : List Opn) : (allCells l).length = l.length * 5 := by
  induction l with
  | nil => rfl
  | cons o l ih => simp only [allCells, List.flatMap_cons, List.length_append, List.length_cons] at ih ⊢; rw [ih]; simp [Opn.cells]; omega
theorem allCells_at (l : List Opn) : ∀ (k : Nat), k < l.length → (allCells l)[k * 5]? = some (.int .i64 (l.getD k opn0).kind) ∧ (allCells l)[k * 5 + 1]? = some (.string (l.getD k opn0).name) ∧
    (allCells l)[k * 5 + 2]? = some (.int .u8 (l.getD k opn0).own) ∧ (allCells l)[k * 5 + 3]? = some (.int .u16 (l.getD k opn0).added) ∧ (allCells l)[k * 5 + 4]? = some (.int .u16 (l.getD k opn0).behind) := by
  induction l with
  | nil => intro k h; simp at h
  | cons o l ih =>
    intro k h
    cases k with
    | zero => simp [allCells, Opn.cells]
    | succ k =>
      have := ih k (by simpa using h)
      simp only [List.getD_cons_succ]
      have e : ∀ i, (allCells (o :: l))[(k + 1) * 5 + i]? = (allCells l)[k * 5 + i]? := by
        intro i
        rw [show (k + 1) * 5 + i = k * 5 + i + 1 + 1 + 1 + 1 + 1 by omega]
        simp [allCells, Opn.cells]
      have e0 := e 0
      simp only [Nat.add_zero] at e0
      rw [e0, e 1, e 2, e 3, e 4]
      exact this
theorem allCells_set (l : List Opn) : ∀ (k : Nat) (a : Int), k < l.length → (allCells l).set (k * 5 + 3) (.int .u16 a) = allCells (l.set k ((l.getD k opn0).put a)) := by
  induction l with
  | nil => intro k a h; simp at h
  | cons o l ih =>
    intro k a h
    cases k with
    | zero => simp [allCells, Opn.cells, Opn.put]
    | succ k =>
      have := ih k a (by simpa using h)
      simp only [List.getD_cons_succ, List.set_cons_succ]
      rw [show (k + 1) * 5 + 3 = k * 5 + 3 + 1 + 1 + 1 + 1 + 1 by omega]
      simp only [allCells, List.flatMap_cons, Opn.cells, List.cons_append, List.nil_append, List.set_cons_succ] at this ⊢
      rw [this]
/-- The state behind k operands: the operands, the rest of the bytes, whether a byte was missing. -/
def readTo (l : List Opn) (r : ByteArray) (sh : Bool) : Nat → List Opn × ByteArray × Bool
  | 0 => (l, r, sh)
  | k + 1 =>
    let p := readTo l r sh k
    let q := readOne (p.1.getD k opn0).kind p.2.1 p.2.2
    (p.1.set k ((p.1.getD k opn0).put q.1), q.2.1, q.2.2)
theorem readTo_len (l : List Opn) (r : ByteArray) (sh : Bool) (k : Nat) : (readTo l r sh k).1.length = l.length := by
  induction k with
  | zero => rfl
  | succ k ih => simp only [readTo, List.length_set]; exact ih
theorem getD_set (l : List Opn) (i k : Nat) (x : Opn) : (l.set i x).getD k opn0 = if i = k ∧ k < l.length then x else l.getD k opn0 := by
  rw [List.getD_eq_getElem?_getD, List.getElem?_set, List.getD_eq_getElem?_getD]
  by_cases h : i = k
  · subst h
    by_cases h2 : i < l.length
    · simp [h2]
    · simp [h2]
  · simp [h]
theorem readTo_kind (l : List Opn) (r : ByteArray) (sh : Bool) (k j : Nat) : ((readTo l r sh k).1.getD j opn0).kind = (l.getD j opn0).kind := by
  induction k with
  | zero => rfl
  | succ k ih =>
    simp only [readTo, getD_set]
    split
    · rename_i h; obtain ⟨rfl, _⟩ := h; exact ih
    · exact ih
theorem readB_size (r : ByteArray) (sh : Bool) : (readB r sh).2.1.size ≤ r.size := by
  unfold readB
  split
  · simp only [ByteArray.size_extract]; omega
  · exact Nat.le_refl _
theorem readOne_size (k : Nat) (r : ByteArray) (sh : Bool) : (readOne k r sh).2.1.size ≤ r.size := by
  unfold readOne
  split
  · exact Nat.le_refl _
  · split
    · exact Nat.le_trans (readB_size _ _) (readB_size _ _)
    · exact readB_size _ _
theorem readTo_size (l : List Opn) (r : ByteArray) (sh : Bool) (k : Nat) : (readTo l r sh k).2.1.size ≤ r.size := by
  induction k with
  | zero => exact Nat.le_refl _
  | succ k ih => exact Nat.le_trans (readOne_size _ _ _) ih
end Go.Proofs.YthokdbcpkmcieaaDoor
