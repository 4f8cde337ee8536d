/- The board begins anew; its power is cut. -/
import Derived.Test.YthokdbcpkmcieaaBrdWF
namespace Go.Proofs.Ythokdbcpkmcieaa
open Go Go.RowKit
theorem zeroTalk_size : (Try.zeroCells86).size = 88 := by kernel_rfl
theorem zeroTalk_one : (Try.zeroCells86).all (·.oneCell') = true := by kernel_rfl
theorem Try.infoTalk : (Try.prog.info? 86).map (·.size) = some 88 := by kernel_rfl
theorem BrdAt.there {w : World} {bb : Nat} {b : Brd} (h : BrdAt w bb b) : ∀ j, j < 88 → (w.cell? ⟨bb, 1268 + j, none⟩).isSome = true ∧ w.frozen? ⟨bb, 1268 + j, none⟩ = false := by
  intro j hj
  refine ⟨?_, h.ear.fz _⟩
  by_cases h0 : j = 0
  · subst h0; rw [h.ear.c0]; rfl
  · by_cases h1 : j < 83
    · obtain ⟨v, hv⟩ := h.ear.cb (j - 1) (by omega)
      rw [show 1268 + 1 + (j - 1) = 1268 + j by omega] at hv
      rw [hv]; rfl
    · have : j = 83 ∨ j = 84 ∨ j = 85 ∨ j = 86 ∨ j = 87 := by omega
      rcases this with rfl | rfl | rfl | rfl | rfl
      · have := h.ear.c83; rw [show 1268 + 83 = 1351 from rfl] at this ⊢; rw [this]; rfl
      · rw [show 1268 + 84 = 1352 from rfl, h.talk.t0]; rfl
      · rw [show 1268 + 85 = 1353 from rfl, h.talk.t1]; rfl
      · rw [show 1268 + 86 = 1354 from rfl, h.talk.t2]; rfl
      · rw [show 1268 + 87 = 1355 from rfl, h.talk.t3]; rfl
theorem zt_at (j : Nat) (hj : j < 88) : ∃ v, (Try.zeroCells86)[j]? = some v := ⟨_, Array.getElem?_eq_getElem (by rw [zeroTalk_size]; exact hj)⟩
/-- The talk's cells laid anew. -/
theorem talk_anew {w : World} {bb : Nat} (ht : ∀ j, j < 88 → (w.cell? ⟨bb, 1268 + j, none⟩).isSome = true ∧ w.frozen? ⟨bb, 1268 + j, none⟩ = false) (hfz : ∀ j, w.frozen? ⟨bb, j, none⟩ = false) (hlt : bb < w.heap.size) :
    EarO (w.setCells bb 1268 (Try.zeroCells86).toList) bb 1268 ear0 ∧ TalkAt (w.setCells bb 1268 (Try.zeroCells86).toList) bb talk0 ∧ (∀ j, j < 1268 → (w.setCells bb 1268 (Try.zeroCells86).toList).cell? ⟨bb, j, none⟩ = w.cell? ⟨bb, j, none⟩) ∧ (∀ j, (w.setCells bb 1268 (Try.zeroCells86).toList).frozen? ⟨bb, j, none⟩ = w.frozen? ⟨bb, j, none⟩) ∧ w.grownBy (w.setCells bb 1268 (Try.zeroCells86).toList) (some bb) := by
  have hl : (Try.zeroCells86).toList.length = 88 := by rw [Array.length_toList]; exact zeroTalk_size
  have hin : ∀ j (hj : j < 88), (w.setCells bb 1268 (Try.zeroCells86).toList).cell? ⟨bb, 1268 + j, none⟩ = (Try.zeroCells86)[j]? := by
    intro j hj
    have := World.cell?_setCells_in bb (Try.zeroCells86).toList 1268 w (fun j hj => (ht j (by omega)).1) j (by omega)
    rw [this]
    rw [Array.getElem?_eq_getElem (by rw [zeroTalk_size]; exact hj)]
    simp
  have hf : ∀ j, (w.setCells bb 1268 (Try.zeroCells86).toList).frozen? ⟨bb, j, none⟩ = w.frozen? ⟨bb, j, none⟩ := fun j => World.frozen?_setCells _ _ _ _ _
  have hg : w.grownBy (w.setCells bb 1268 (Try.zeroCells86).toList) (some bb) := by
    have hz : ∀ (vs : List Value) (o : Nat) (w : World), w.grownBy (w.setCells bb o vs) (some bb) := by
      intro vs
      induction vs with
      | nil => intro o w; exact grown_refl _ _
      | cons v vs ih => intro o w; exact (grown_set w bb o v).trans (ih (o + 1) _)
    exact hz _ _ _
  refine ⟨⟨?_, ?_, fun i hi => ?_, fun i hi => by simp [ear0] at hi, fun j => (hf j).trans (hfz j), Nat.lt_of_lt_of_le hlt hg.size, ⟨(by decide : 0 ≤ 2), by simp [ear0]⟩⟩, ⟨?_, ?_, ?_, ?_, fun j => (hf j).trans (hfz j)⟩, fun j hj => World.cell?_setCells_out _ _ _ _ _ (fun _ _ => .inl hj), hf, hg⟩
  · exact hin 0 (by omega)
  · exact hin 83 (by omega)
  · obtain ⟨v, hv⟩ := zt_at (1 + i) (by omega)
    have := hin (1 + i) (by omega)
    rw [show 1268 + (1 + i) = 1268 + 1 + i by omega] at this
    exact ⟨v, this.trans hv⟩
  · exact hin 84 (by omega)
  · exact hin 85 (by omega)
  · exact hin 86 (by omega)
  · exact hin 87 (by omega)
set_option maxRecDepth 100000 in
set_option maxHeartbeats 2000000 in
theorem begin_any (bb : Nat) (b : Brd) (o : Bool) (w : World) (h : BrdAt w bb b) : Calls Try.prog 50 #[.pointer (some ⟨bb, 0, none⟩), .bool o] w fun e w' => e = .returned (.tuple #[]) ∧ BrdAt w' bb ⟨o, pow0, b.mem, ear0, talk0⟩ ∧ w.grownBy w' (some bb) := by
  have c0 := h.c0
  have c1 := h.sto.c1
  have c2 := h.sto.c2
  have c3 := h.sto.c3
  have f0 := h.sto.fz 0
  have f1 := h.sto.fz 1
  have f2 := h.sto.fz 2
  have f3 := h.sto.fz 3
  have HH := hideIt h
  have HT : Hid (∀ v, ((((w.setCell ⟨bb, 0, none⟩ v).setCell ⟨bb, 1, none⟩ (.bool false)).setCell ⟨bb, 2, none⟩ (.int .i64 0)).setCell ⟨bb, 3, none⟩ (.int .u8 0)).there bb 1268 88) := by
    intro v j hj
    have := h.there j hj
    refine ⟨?_, by simp [this.2]⟩
    rw [World.cell?_setCell_other _ _ _ _ (by simp <;> omega), World.cell?_setCell_other _ _ _ _ (by simp <;> omega), World.cell?_setCell_other _ _ _ _ (by simp <;> omega), World.cell?_setCell_other _ _ _ _ (by simp <;> omega)]
    exact this.1
  have hst : (storeCells ⟨bb, 1268, none⟩ (Try.zeroCells86).toList).run Try.prog ((((w.setCell ⟨bb, 0, none⟩ (.bool o)).setCell ⟨bb, 1, none⟩ (.bool false)).setCell ⟨bb, 2, none⟩ (.int .i64 0)).setCell ⟨bb, 3, none⟩ (.int .u8 0)) = .ok () (((((w.setCell ⟨bb, 0, none⟩ (.bool o)).setCell ⟨bb, 1, none⟩ (.bool false)).setCell ⟨bb, 2, none⟩ (.int .i64 0)).setCell ⟨bb, 3, none⟩ (.int .u8 0)).setCells bb 1268 (Try.zeroCells86).toList) := by
    have hl : (Try.zeroCells86).toList.length = 88 := by rw [Array.length_toList]; exact zeroTalk_size
    have := run_storeCells_cells (P := Try.prog) bb 1268 (Try.zeroCells86).toList 0 ((((w.setCell ⟨bb, 0, none⟩ (.bool o)).setCell ⟨bb, 1, none⟩ (.bool false)).setCell ⟨bb, 2, none⟩ (.int .i64 0)).setCell ⟨bb, 3, none⟩ (.int .u8 0)) (fun j hj => by simpa using (HT.out (.bool o) j (by omega)).1) (fun j hj => by simpa using (HT.out (.bool o) j (by omega)).2) (fun v hv => (Array.all_eq_true_iff_forall_mem.1 zeroTalk_one) v (by simpa using hv))
    exact this
  have HB : Hid (BrdAt (((((w.setCell ⟨bb, 0, none⟩ (.bool o)).setCell ⟨bb, 1, none⟩ (.bool false)).setCell ⟨bb, 2, none⟩ (.int .i64 0)).setCell ⟨bb, 3, none⟩ (.int .u8 0)).setCells bb 1268 (Try.zeroCells86).toList) bb ⟨o, pow0, b.mem, ear0, talk0⟩ ∧ w.grownBy (((((w.setCell ⟨bb, 0, none⟩ (.bool o)).setCell ⟨bb, 1, none⟩ (.bool false)).setCell ⟨bb, 2, none⟩ (.int .i64 0)).setCell ⟨bb, 3, none⟩ (.int .u8 0)).setCells bb 1268 (Try.zeroCells86).toList) (some bb)) := by
    have hfz : ∀ j, ((((w.setCell ⟨bb, 0, none⟩ (.bool o)).setCell ⟨bb, 1, none⟩ (.bool false)).setCell ⟨bb, 2, none⟩ (.int .i64 0)).setCell ⟨bb, 3, none⟩ (.int .u8 0)).frozen? ⟨bb, j, none⟩ = false := fun j => by simp [h.sto.fz j]
    obtain ⟨a1, a2, a3, a4, a5⟩ := talk_anew (HT.out (.bool o)) hfz (by simpa [World.setCell] using h.sto.lt)
    refine ⟨⟨?_, ⟨?_, ?_, ?_, ?_, h.sto.len, (by decide : 0 ≤ 9223372036854775807), fun j => (a4 j).trans (hfz j), a1.lt⟩, a1, a2, h.used, (by decide : 0 < 65536), by simp [talk0]⟩, (((grown_set _ _ _ _).trans (grown_set _ _ _ _)).trans ((grown_set _ _ _ _).trans (grown_set _ _ _ _))).trans a5⟩
    · rw [a3 0 (by omega), World.cell?_setCell_other _ _ _ _ (by simp), World.cell?_setCell_other _ _ _ _ (by simp), World.cell?_setCell_other _ _ _ _ (by simp)]
      exact World.cell?_setCell_same _ _ _ c0
    · rw [a3 1 (by omega), World.cell?_setCell_other _ _ _ _ (by simp), World.cell?_setCell_other _ _ _ _ (by simp)]
      exact World.cell?_setCell_same _ _ _ ((World.cell?_setCell_other _ _ _ _ (by simp)).trans c1)
    · rw [a3 2 (by omega), World.cell?_setCell_other _ _ _ _ (by simp)]
      exact World.cell?_setCell_same _ _ _ (((World.cell?_setCell_other _ _ _ _ (by simp)).trans (World.cell?_setCell_other _ _ _ _ (by simp))).trans c2)
    · rw [a3 3 (by omega)]
      exact World.cell?_setCell_same _ _ _ ((((World.cell?_setCell_other _ _ _ _ (by simp)).trans (World.cell?_setCell_other _ _ _ _ (by simp))).trans (World.cell?_setCell_other _ _ _ _ (by simp))).trans c3)
    · intro i hi
      have hlen := h.sto.len
      have hi' : i < b.mem.length := hi
      rw [a3 (4 + i) (by omega), World.cell?_setCell_other _ _ _ _ (by simp <;> omega), World.cell?_setCell_other _ _ _ _ (by simp <;> omega), World.cell?_setCell_other _ _ _ _ (by simp <;> omega), World.cell?_setCell_other _ _ _ _ (by simp <;> omega)]
      exact h.sto.cm i hi
  clear h HH HT
  go_enter Try.func50, Try.ntmps50
  go_wp2
  go_end0
  exact ⟨rfl, HB.out.1, HB.out.2⟩
set_option maxHeartbeats 1000000 in
theorem boot_any (bb : Nat) (b : Brd) (w : World) (h : BrdAt w bb b) : Calls Try.prog 40 #[.pointer (some ⟨bb, 0, none⟩)] w fun e w' => e = .returned (.tuple #[]) ∧ BrdAt w' bb (bootF b) ∧ w.grownBy w' (some bb) := by
  have HC := hideIt (begin_any bb b true w h)
  clear h
  go_enter Try.func40, Try.ntmps40
  go_wp2_with fail
  refine HC.out.mono ?_
  rintro e w1 ⟨rfl, h1, h2⟩
  have HQ := hideIt (And.intro h1 h2)
  clear h1 h2
  go_wp2
  go_end0
  exact ⟨rfl, HQ.out.1, HQ.out.2⟩
end Go.Proofs.Ythokdbcpkmcieaa
