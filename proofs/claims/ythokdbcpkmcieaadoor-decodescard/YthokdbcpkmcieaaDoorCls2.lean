/- What the closed look gives for every code. -/
import Derived.Test.YthokdbcpkmcieaaDoorCls
namespace Go.Proofs.YthokdbcpkmcieaaDoor
open Go Go.RowKit
theorem fi_le (n : Nat) (p : Nat → Bool) : (List.range n).findIdx p ≤ n := by
  have := List.findIdx_le_length (p := p) (xs := List.range n)
  simpa using this
theorem fi_at (n : Nat) (p : Nat → Bool) (h : (List.range n).findIdx p < n) : p ((List.range n).findIdx p) = true := by
  have hw : (List.range n).findIdx p < (List.range n).length := by simpa using h
  have := List.findIdx_getElem (w := hw)
  simpa using this
theorem fi_not (n : Nat) (p : Nat → Bool) (j : Nat) (h : j < (List.range n).findIdx p) : p j = false := by
  have := List.not_of_lt_findIdx h
  simpa using this
theorem ok_of (x : UInt8) : okC (x.toNat : Int) = true := by
  have := x.toNat_lt
  exact List.all_eq_true.1 all_ok x.toNat (List.mem_range.2 (by omega))
theorem cls_none (c : Int) (h : okC c = true) (hr : rowIx c = 111) : (∀ j, j < 111 → hit c j = false) ∧ EntNone c := by
  unfold okC at h
  rw [if_pos hr] at h
  refine ⟨fun j hj => fi_not 111 (hit c) j (by show j < rowIx c; omega), ?_⟩
  simp only [okNone, Bool.and_eq_true, Bool.not_eq_true', List.all_eq_true, List.mem_range] at h
  exact ⟨h.1, fun j hj => by simpa using h.2 j hj⟩
theorem row_lt (c : Int) (hr : rowIx c ≠ 111) : rowIx c < 111 := by
  have : rowIx c ≤ 111 := fi_le 111 (hit c)
  omega
theorem row_hit (c : Int) (hr : rowIx c ≠ 111) : hit c (rowIx c) = true := fi_at 111 (hit c) (row_lt c hr)
theorem row_first (c : Int) : ∀ j, j < rowIx c → hit c j = false := fun j h => fi_not 111 (hit c) j h
theorem cls_ent (c : Int) (h : okEnt c = true) : EntIs c (entOf c) (numOf c) := by
  unfold entOf numOf
  by_cases hp : (c % 16 == 1) = true
  · rw [if_pos hp, if_pos hp]
    exact .inl ⟨hp, rfl, rfl⟩
  · rw [if_neg hp, if_neg hp]
    have hp' : (c % 16 == 1) = false := by simpa using hp
    simp only [okEnt, hp', Bool.false_or, decide_eq_true_eq] at h
    exact .inr ⟨hp', entIx c, h, fi_at 109 (fun j => inR c (entsL.getD j ent0)) h, fun j hj => fi_not 109 (fun j => inR c (entsL.getD j ent0)) j hj, rfl, rfl⟩
theorem cls_some (c : Int) (h : okC c = true) (hr : rowIx c ≠ 111) : okEnt c = true ∧ (rowAt (rowIx c)).2.2.length < 1000 ∧ (if (cutOf c).2.2 then okOps c else okPlain c) = true := by
  unfold okC at h
  rw [if_neg hr] at h
  simp only [Bool.and_eq_true, decide_eq_true_eq] at h
  exact ⟨h.1.1, h.1.2, h.2⟩
/-- All that is known of a code with operands. -/
structure OpsC (c : Int) : Prop where
  n0 : 1 ≤ (psOf c).length
  n1 : (psOf c).length ≤ 3
  name : (entOf c).2.2.1 = (cutOf c).1
  texts : (entOf c).2.2.2 = textsOf (ksOf c)
  ps : ∀ t ∈ psOf c, t.size ≤ 1000 ∧ 0 ≤ kindI t ∧ opText (kindI t).toNat = t ∧ okKind c (kindI t).toNat = true
  num0 : 0 ≤ numOf c
  num1 : numOf c ≤ 255
  own0 : 0 ≤ ownOf c
  same : (((rowAt (rowIx c)).1 : Int) == 133) = (c == 133)
  swap : (c == 133) = true → ksOf c = [11, 11]
  short : (cutOf c).2.1.length < 1000
theorem cls_ops (c : Int) (h : okOps c = true) : OpsC c := by
  simp only [okOps, Bool.and_eq_true, decide_eq_true_eq, List.all_eq_true, Bool.or_eq_true, Bool.not_eq_true'] at h
  obtain ⟨⟨⟨⟨⟨⟨⟨⟨⟨⟨h1, h2⟩, h3⟩, h4⟩, h5⟩, h6⟩, h7⟩, h8⟩, h9⟩, h10⟩, h11⟩ := h
  exact ⟨h1, h2, h3, h4, fun t ht => by have := h5 t ht; exact ⟨this.1.1.1, this.1.1.2, this.1.2, this.2⟩, h6, h7, h8, h9, fun hc => h10.resolve_left (by rw [hc]; simp), h11⟩
theorem cls_plain (c : Int) (h : okPlain c = true) : (entOf c).2.2.2 = [] ∧ (entOf c).2.2.1 = (cutOf c).1 ∧ (cutOf c).2.1 = [] ∧ (((rowAt (rowIx c)).1 : Int) == 133) = false := by
  simp only [okPlain, Bool.and_eq_true, decide_eq_true_eq, Bool.not_eq_true'] at h
  exact ⟨h.1.1.1, h.1.1.2, h.1.2, h.2⟩
end Go.Proofs.YthokdbcpkmcieaaDoor
