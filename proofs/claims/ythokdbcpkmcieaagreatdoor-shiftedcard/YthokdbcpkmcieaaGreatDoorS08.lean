/- PROVED: for every list of raw numbers and every number the law Shifted returns true and leaves its arguments as they were: lines without ORG, made of the raw numbers, give the same bytes some places further on when an ORG stands ahead of them. Conditions: those of the card (the listed variables of Go's library hold what the text lays). -/
import Derived.Test.YthokdbcpkmcieaaGreatDoorS07
namespace Go.Proofs.YthokdbcpkmcieaaGreatDoor
open Go.ChangeShapes Go.WideShapes Go.ChangeAt Go.RowKit Go.WideElems Go.Deep
set_option maxRecDepth 100000 in
theorem shifted_lifted (os : Os) (started : os.Started) (H : Type) (enc : TypeId × Value → H) (F : Stop.Interp) :
    ReturnsInHanded {} Tryz.checked os 6 .any ((OpenSpec.ofChange Rows.shiftedSpec).preRow enc Tryz.prog Tryz.f6 Rows.shiftedRow.domain false Rows.shiftedRow.laid) (((OpenSpec.ofChange Rows.shiftedSpec).at F).post enc Tryz.prog Tryz.f6 false true false false) := by
  obtain ⟨w0, h1, h2, h3, h4, h5, h6⟩ := witness_worldS os
  obtain ⟨places, hx⟩ := h6 H enc
  refine returnsInHanded_of_row (C := Tryz.checked) (s := OpenSpec.ofChange Rows.shiftedSpec) Tryz.ownS started (by kernel_rfl) Tryz.func6
    (witness_row_at (enc := enc) (C := Tryz.checked) false w0 #[.slice none 0 0, .int .i64 0] h1 h2 h3 h4
      (OpenSpec.preRow_of_cond 8 hx (by kernel_rfl) (fun k hk => by cases hk) (by kernel_rfl) h5)) ?_
  intro W base args ds gs before hval hW _ _ _ _ hsh _
  exact shifted_contract H enc W base args ds gs before hval hW hsh
theorem shifted_named : Tryz.pinned.checked.prog.funcNamed Rows.shiftedRow.func = some 6 := by kernel_rfl
set_option maxRecDepth 100000 in
theorem shifted_facts : joinedFacts Tryz.pinned.checked.prog 6 Tryz.f6 (OpenSpec.ofChange Rows.shiftedSpec).bare Rows.shiftedRow = true := by kernel_rfl
theorem shifted_inst : Tryz.f6.isInstance Tryz.pinned.checked.prog Rows.shiftedRow.origin Rows.shiftedRow.targs := of_decide_eq_true (by kernel_rfl)
theorem shifted_wrap : Tryz.f6.isWrapper Tryz.pinned.checked.prog Rows.shiftedRow.wrapper Rows.shiftedRow.mainSum := by
  unfold Func.isWrapper; first | (rw [if_pos (by decide +kernel)]; kernel_rfl) | (rw [if_neg (by decide +kernel)]; exact ⟨rfl, rfl⟩)
theorem shifted_said : Rows.ShiftedSaid :=
  OpenClaim.holds_of_cond 6 Tryz.f6 rfl rfl rfl rfl rfl rfl rfl ⟨rfl, rfl, rfl, rfl, rfl⟩ rfl rfl rfl rfl rfl shifted_named Tryz.func6 shifted_facts
    shifted_inst shifted_wrap
    (fun os started H enc _ F => by rw [OpenClaim.pre_eq_preRow]; exact shifted_lifted os started H enc F)
theorem shifted_plain (f : FuncId) (fn : Func) (hf : Tryz.pinned.checked.prog.funcNamed Rows.shiftedRow.func = some f) (hfn : Tryz.pinned.checked.prog.funcs[f]? = some fn) :
    true = Tryz.pinned.checked.prog.looks [] ∧ ∀ (j : Nat) t, fn.params[j]? = some t → Tryz.pinned.checked.prog.wantsStandIn t = false := by
  obtain rfl : f = 6 := Option.some.inj ((show Tryz.prog.funcNamed Rows.shiftedRow.func = some 6 by kernel_rfl).symm.trans hf) |>.symm
  obtain rfl : fn = Tryz.f6 := (Option.some.inj (Tryz.func6.symm.trans hfn)).symm
  refine ⟨by kernel_rfl, fun j t ht => ?_⟩
  rw [Tryz.params6] at ht
  have hm := Array.mem_of_getElem? ht
  simp at hm
  rcases hm with rfl | rfl
  · exact (show Tryz.prog.wantsStandIn 47 = false by kernel_rfl)
  · exact (show Tryz.prog.wantsStandIn 3 = false by kernel_rfl)
/-- The card. -/
theorem shifted_card : Rows.ShiftedCardSaid :=
  Claim7.holds_tied_plain_at .later [] _ _ _ _ shifted_said (fun _ h => by cases h) (by kernel_rfl) (fun _ h => by cases h) shifted_row_tie rfl ⟨rfl, rfl⟩ (by kernel_rfl) rfl shifted_plain (by kernel_rfl)
end Go.Proofs.YthokdbcpkmcieaaGreatDoor
