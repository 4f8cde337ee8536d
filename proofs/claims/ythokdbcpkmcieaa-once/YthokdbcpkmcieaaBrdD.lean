/- The walks of Hear's deferred closure. -/
import Derived.Test.YthokdbcpkmcieaaBrdB
import Derived.Test.YthokdbcpkmcieaaShelfB
import Derived.Defers
import Derived.Recover
namespace Go.Proofs.Ythokdbcpkmcieaa
open Go Go.RowKit
set_option maxHeartbeats 2000000 in
set_option maxRecDepth 100000 in
theorem catch_idle (p0 f0 r0 : Nat) (w : World) :
    CallsD Try.prog 49 #[.pointer (some ⟨p0, 0, none⟩), .pointer (some ⟨f0, 0, none⟩), .pointer (some ⟨r0, 0, none⟩)] .returning w fun e u' w' => e = .returned (.tuple #[]) ∧ u' = .returning ∧ w' = w := by
  refine callsD_of_wpS Try.func49 rfl fun c₀ cs hu => ?_
  simp only [Try.ntmps49, List.size_toArray, List.length_cons, List.length_nil, Nat.reduceAdd, Nat.reduceSub, Array.replicate_succ, Array.replicate_zero, List.push_toArray, List.append_toArray, List.nil_append, List.cons_append]
  apply wpS_seq
  apply wpS_region
  simp [wpOpsS, go_sem, recoverD, hu, Exit.thenS]
  refine wpS_of_wp ?_
  go_wp2_with fail
  cases c₀
  simp_all [bodyPostS, results, Try.results49]
theorem IsBuilderF_kept {T e : TypeId} {B b : Nat} {bs : List Value} {w w' : World} {row : Option Nat} (h : Lib.IsBuilderF T e B b bs w) (hg : w.grownBy w' row) (hr : ∀ r, row = some r → r < B) : Lib.IsBuilderF T e B b bs w' := by
  have key : ∀ p, Lib.BuilderAtF T e B b p bs w → Lib.BuilderAtF T e B b p bs w' := by
    rintro p ⟨hB, v, hb, hown, hne⟩
    refine ⟨hB, v, ?_, hown.kept hg ?_, hne⟩
    · rw [hg.block b (Array.getElem?_eq_some_iff.1 hb).1 (fun e => by have := hr b e.symm; omega)]; exact hb
    · cases ho : v.ownBlock with
      | none => exact .inl rfl
      | some g => exact .inr (fun e => by have h1 := (hown.lt g ho).1; have h2 := hr g e.symm; omega)
  exact h.elim (fun x => .inl (key _ x)) (fun x => .inr (key _ x))
set_option maxHeartbeats 2000000 in
set_option maxRecDepth 100000 in
theorem catch_fail (bb p0 f0 r0 : Nat) (b : Brd) (out : List UInt8) (w : World) (hb : BrdAt w bb b) (hP : w.heap[p0]? = some (.cells #[.pointer (some ⟨bb, 0, none⟩)] 97)) (hR : w.heap[r0]? = some (.cells #[.string ⟨#[]⟩] 9))
    (hF : Lib.IsBuilderF 101 5 f0 f0 (Lib.byteCells out) w) (h1 : bb < p0) (h2 : p0 < r0) (h3 : r0 < f0) :
    CallsD Try.prog 49 #[.pointer (some ⟨p0, 0, none⟩), .pointer (some ⟨f0, 0, none⟩), .pointer (some ⟨r0, 0, none⟩)] (.panicking [{ v := .iface 103 (.agg #[]), recovered := false }]) w fun e u' w' => e = .returned (.tuple #[]) ∧ u' = .panicking [{ v := .iface 103 (.agg #[]), recovered := true }] ∧ BrdAt w' bb ⟨false, pow0, b.mem, ear0, talk0⟩ ∧ w'.cell? ⟨r0, 0, none⟩ = some (.string (txt out)) ∧ w.heap.size ≤ w'.heap.size ∧ w'.os = w.os ∧ w'.tape = w.tape ∧ w'.output = w.output ∧ ∀ k, k < p0 → k ≠ bb → w'.heap[k]? = w.heap[k]? := by
  have cP : w.cell? ⟨p0, 0, none⟩ = some (.pointer (some ⟨bb, 0, none⟩)) := cell_of_row _ _ 0 _ _ (0, 0) hP
  have hlP := (Array.getElem?_eq_some_iff.1 hP).1
  have hlR := (Array.getElem?_eq_some_iff.1 hR).1
  have hta : ∀ W : World, (Instr.typeAssert (.iface 103 (.agg #[])) 20 103 true).run Try.prog W = .ok (.tuple #[.agg #[], .bool true]) W := fun W => by kernel_rfl
  refine callsD_of_wpS Try.func49 rfl fun c₀ cs hu => ?_
  simp only [Try.ntmps49, List.size_toArray, List.length_cons, List.length_nil, Nat.reduceAdd, Nat.reduceSub, Array.replicate_succ, Array.replicate_zero, List.push_toArray, List.append_toArray, List.nil_append, List.cons_append]
  apply wpS_seq
  apply wpS_region
  simp [wpOpsS, go_sem, recoverD, hu, Exit.thenS]
  refine wpS_of_wp ?_
  go_wp2_with fail
  refine (begin_any bb b false _ (hb.below ((Below.refl _ _).alloc (Nat.le_refl _) _))).mono ?_
  rintro e w1 ⟨rfl, hb1, hg1⟩
  have hz1 : w.heap.size + 1 ≤ w1.heap.size := by have := hg1.size; simpa using this
  have hk1 : ∀ k, k < w.heap.size → k ≠ bb → w1.heap[k]? = w.heap[k]? := fun k hk hne => by
    rw [hg1.block k (by simp; omega) (by simp; omega), Below.heap_alloc _ _ _ hk]
  have hF1 := IsBuilderF_kept (hF.alloc (.cells #[] 103)) hg1 (fun r e => by cases e; omega)
  have hlF : f0 < w.heap.size := by
    rcases hF with h | h
    · obtain ⟨_, v, hbk, _⟩ := h; exact (Array.getElem?_eq_some_iff.1 hbk).1
    · obtain ⟨_, v, hbk, _⟩ := h; exact (Array.getElem?_eq_some_iff.1 hbk).1
  go_wp2_with fail
  refine (Try.Builder_String_any_k f0 f0 out w1 hF1 (by omega)).mono ?_
  rintro e w2 ⟨rfl, _, hb2, _⟩
  have hR2 : w2.heap[r0]? = some (.cells #[.string ⟨#[]⟩] 9) := by rw [hb2.block r0 h3, hk1 r0 hlR (by omega)]; exact hR
  have cR : w2.cell? ⟨r0, 0, none⟩ = some (.string ⟨#[]⟩) := cell_of_row _ _ 0 _ _ (0, 0) hR2
  have fR := frozen_of_row w2 r0 0 _ _ hR2
  have HQ : Hid (BrdAt (w2.setCell ⟨r0, 0, none⟩ (.string (txt out))) bb ⟨false, pow0, b.mem, ear0, talk0⟩ ∧ (w2.setCell ⟨r0, 0, none⟩ (.string (txt out))).cell? ⟨r0, 0, none⟩ = some (.string (txt out)) ∧ w.heap.size ≤ (w2.setCell ⟨r0, 0, none⟩ (.string (txt out))).heap.size ∧ (w2.setCell ⟨r0, 0, none⟩ (.string (txt out))).os = w.os ∧ (w2.setCell ⟨r0, 0, none⟩ (.string (txt out))).tape = w.tape ∧ (w2.setCell ⟨r0, 0, none⟩ (.string (txt out))).output = w.output ∧ ∀ k, k < p0 → k ≠ bb → (w2.setCell ⟨r0, 0, none⟩ (.string (txt out))).heap[k]? = w.heap[k]?) := by
    have hbo : (w2.setCell ⟨r0, 0, none⟩ (.string (txt out))).heap[bb]? = w1.heap[bb]? := by
      rw [Below.heap_setCell _ _ _ _ (by simp; omega), hb2.block bb (by omega)]
    have hsz2 : w1.heap.size ≤ (w2.setCell ⟨r0, 0, none⟩ (.string (txt out))).heap.size := by have := hb2.size; simpa [World.setCell] using this
    refine ⟨hb1.kept hbo hsz2, World.cell?_setCell_same _ _ _ cR, by omega, ?_, ?_, ?_, fun k hk hne => ?_⟩
    · exact (hb2.os.trans hg1.os)
    · exact (hb2.tape.trans hg1.tape)
    · exact (hb2.output.trans hg1.output)
    · rw [Below.heap_setCell _ _ _ _ (by simp; omega), hb2.block k (by omega), hk1 k (by omega) hne]
  clear hb1 hg1 hk1 hF1 hb2 hR2 hb hF hP hR
  have htx : (⟨out.toArray⟩ : ByteArray) = txt out := rfl
  rw [htx]
  go_wp2
  exact ⟨rfl, _, rfl, _, results_none rfl _ _ _, rfl, rfl, HQ.out⟩
end Go.Proofs.Ythokdbcpkmcieaa
