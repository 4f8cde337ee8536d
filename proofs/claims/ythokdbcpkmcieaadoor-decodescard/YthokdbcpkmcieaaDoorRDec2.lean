/- The walk of the reference's Decode where the instruction has operands. -/
import Derived.Test.YthokdbcpkmcieaaDoorRDec
namespace Go.Proofs.YthokdbcpkmcieaaDoor
open Go Go.RowKit
/-- What is known of an entry with operands. -/
structure EntOps (c : Int) (en : Ent) (number : Int) (ks : List Nat) (n : Nat) : Prop where
  is : EntIs c en number
  ops : en.2.2.2 = textsOf ks
  len : ks.length = n
  n0 : 0 < n
  n1 : n ≤ 3
  kinds : ∀ j, j < n → ks.getD j 0 < 17
theorem EntOps.val {c : Int} {en : Ent} {number : Int} {ks : List Nat} {n : Nat} (h : EntOps c en number ks n) {w : World} {v : Value} (ho : OpsIn w v en.2.2.2) : ∃ b, v = .slice (some ⟨b, 0, none⟩) n n ∧ w.heap[b]? = some (.cells ((textsOf ks).map fun x => Value.string ⟨x.toArray⟩).toArray 9 (0, 0)) := by
  rw [h.ops] at ho
  have hl : (textsOf ks).length = n := by rw [textsOf, List.length_map]; exact h.len
  rcases ho with ⟨h', _⟩ | ⟨_, b, hv, hc⟩
  · rw [h'] at hl; have := h.n0; simp at hl; omega
  · rw [hl] at hv; exact ⟨b, hv, hc⟩
theorem entry_ops (c : Int) (w : World) (h0 : 0 ≤ c) (h1 : c ≤ 255) (en : Ent) (number : Int) (ks : List Nat) (n : Nat) (h : EntOps c en number ks n) :
    Calls Tryd.prog 7 #[.int .i64 c] w fun e w' => ∃ b, e = .returned (.tuple #[.agg #[.int .i64 en.1, .int .i64 en.2.1, .string ⟨en.2.2.1.toArray⟩, .slice (some ⟨b, 0, none⟩) n n], .int .i64 number, .bool true]) ∧ w'.heap[b]? = some (.cells ((textsOf ks).map fun x => Value.string ⟨x.toArray⟩).toArray 9 (0, 0)) ∧ Below w.heap.size w w' := by
  refine (entry_is c w h0 h1 en number h.is).mono ?_
  rintro e w' ⟨v, he, ho, hb⟩
  obtain ⟨b, rfl, hc⟩ := h.val ho
  exact ⟨b, he, hc, hb⟩
theorem block_later {w w' : World} {b : Nat} {o : Obj} {B : Nat} (h : w.heap[b]? = some o) (hb : Below B w w') (hB : w.heap.size ≤ B) : w'.heap[b]? = some o := by
  rw [hb.block b (Nat.lt_of_lt_of_le (Array.getElem?_eq_some_iff.1 h).1 hB)]; exact h
theorem block_alloc {w : World} {b : Nat} {o x : Obj} (h : w.heap[b]? = some o) : (w.alloc x).heap[b]? = some o := by
  rw [Below.heap_alloc _ _ _ (Array.getElem?_eq_some_iff.1 h).1]; exact h
set_option maxRecDepth 100000 in
set_option maxHeartbeats 1000000 in
theorem rdec_short (code : ByteArray) (at' : Int) (w : World) (h : 0 < code.size) (en : Ent) (number : Int) (ks : List Nat) (n : Nat) (hc : EntOps (code[0].toNat : Int) en number ks n) (hsh : code.size < sizeOf' ks) :
    Calls Tryd.prog 5 #[.string code, .int .i64 at'] w fun e w' => e = .returned (.tuple #[.string ⟨#[]⟩, .int .i64 0]) ∧ Below w.heap.size w w' := by
  have hs : code.toList.isEmpty = false := by rw [isEmpty_iff]; simp only [decide_eq_false_iff_not]; omega
  have hlt := (code[0]).toNat_lt
  have hl : (code[0].toNat : Int) ≤ 255 := by omega
  have HC := hideIt hc
  obtain ⟨sz, hsz⟩ : ∃ sz, sizeOf' ks = sz := ⟨_, rfl⟩
  rw [hsz] at hsh
  have HE := hideIt (fun c m nm b w => esize_some c m nm b ks n w hc.len (by have := hc.n1; omega) hc.kinds)
  rw [hsz] at HE
  clear hc hlt
  go_enter Tryd.func5, Tryd.ntmps5
  go_wp2_with fail
  refine (entry_ops _ _ (by omega) hl en number ks n HC.out).mono ?_
  rintro e w1 ⟨b, rfl, ho, hb1⟩
  have hs1 := hb1.size
  go_wp2_with fail
  refine (HE.out _ _ _ b _ (by exact block_alloc ho)).mono ?_
  rintro e w2 ⟨rfl, hb2⟩
  go_wp2
  go_ret2
  exact ⟨rfl, (hb1.alloc hs1 _).trans (hb2.mono (by simp; omega))⟩
/-- Where an operand's bytes begin. -/
def posAt (ks : List Nat) (i : Nat) : Nat := 1 + ((ks.take i).map opSize).sum
/-- The text behind so many operands. -/
def refS (nm : ByteArray) (ks : List Nat) (code : ByteArray) (number c behind : Int) : Nat → ByteArray
  | 0 => nm
  | i + 1 => (refS nm ks code number c behind i ++ (if i = 0 then ⟨#[32]⟩ else ⟨#[44]⟩)) ++ shownS (ks.getD i 0) (code.extract (posAt ks i) (posAt ks i + opSize (ks.getD i 0))) number c behind
theorem refS_size (nm : ByteArray) (ks : List Nat) (code : ByteArray) (number c behind : Int) (n : Nat) (hk : ∀ j, j < n → ks.getD j 0 < 17) : ∀ i, i ≤ n → (refS nm ks code number c behind i).size ≤ nm.size + 101 * i
  | 0, _ => by simp [refS]
  | i + 1, h => by
    have ih := refS_size nm ks code number c behind n hk i (by omega)
    have hs := shownS_size (ks.getD i 0) (hk i (by omega)) (code.extract (posAt ks i) (posAt ks i + opSize (ks.getD i 0))) number c behind
    have h1 : (if i = 0 then (⟨#[32]⟩ : ByteArray) else ⟨#[44]⟩).size = 1 := by split <;> rfl
    simp only [refS, ByteArray.size_append]
    omega
theorem posAt_snoc (ks : List Nat) (i : Nat) (h : i < ks.length) : posAt ks (i + 1) = posAt ks i + opSize (ks.getD i 0) := by
  unfold posAt
  rw [sum_snoc ks i h]
  omega
theorem posAt_le (ks : List Nat) (i : Nat) (h : i < ks.length) : posAt ks i + opSize (ks.getD i 0) ≤ sizeOf' ks := by
  rw [← posAt_snoc ks i h]
  unfold posAt sizeOf'
  have : ((ks.take (i + 1)).map opSize).sum + ((ks.drop (i + 1)).map opSize).sum = (ks.map opSize).sum := by
    rw [← List.sum_append, ← List.map_append, List.take_append_drop]
  omega
end Go.Proofs.YthokdbcpkmcieaaDoor
