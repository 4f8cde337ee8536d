/- PROVED: for every text of bytes and every number the law Coded returns true and leaves its arguments as they were: what is decoded is assembled to the same bytes, at the same place. Conditions: those of the card (the listed variables of Go's library hold what the text lays). -/
import Derived.Test.YthokdbcpkmcieaaGreatDoorC11
namespace Go.Proofs.YthokdbcpkmcieaaGreatDoor
open Go.ChangeShapes Go.WideShapes Go.ChangeAt Go.RowKit Go.WideElems Go.Deep
set_option maxRecDepth 100000 in
theorem coded_lifted (os : Os) (started : os.Started) (H : Type) (enc : TypeId × Value → H) (F : Stop.Interp) :
    ReturnsInHanded {} Tryz.checked os 4 .any ((OpenSpec.ofChange Rows.codedSpec).preRow enc Tryz.prog Tryz.f4 Rows.codedRow.domain false Rows.codedRow.laid) (((OpenSpec.ofChange Rows.codedSpec).at F).post enc Tryz.prog Tryz.f4 false true false false) := by
  obtain ⟨w0, h1, h2, h3, h4, h5, h6⟩ := witness_worldCod os
  obtain ⟨places, hx⟩ := h6 H enc
  refine returnsInHanded_of_row (C := Tryz.checked) (s := OpenSpec.ofChange Rows.codedSpec) Tryz.ownCod started (by kernel_rfl) Tryz.func4
    (witness_row_at (enc := enc) (C := Tryz.checked) false w0 #[.string ⟨#[]⟩, .int .i64 0] h1 h2 h3 h4
      (OpenSpec.preRow_of_cond 8 hx (by kernel_rfl) (fun k hk => by cases hk) (by kernel_rfl) h5)) ?_
  intro W base args ds gs before hval hW _ _ _ _ hsh _
  exact coded_contract H enc W base args ds gs before hval hW hsh
theorem coded_named : Tryz.pinned.checked.prog.funcNamed Rows.codedRow.func = some 4 := by kernel_rfl
set_option maxRecDepth 100000 in
theorem coded_facts : joinedFacts Tryz.pinned.checked.prog 4 Tryz.f4 (OpenSpec.ofChange Rows.codedSpec).bare Rows.codedRow = true := by kernel_rfl
theorem coded_inst : Tryz.f4.isInstance Tryz.pinned.checked.prog Rows.codedRow.origin Rows.codedRow.targs := of_decide_eq_true (by kernel_rfl)
theorem coded_wrap : Tryz.f4.isWrapper Tryz.pinned.checked.prog Rows.codedRow.wrapper Rows.codedRow.mainSum := by
  unfold Func.isWrapper; first | (rw [if_pos (by decide +kernel)]; kernel_rfl) | (rw [if_neg (by decide +kernel)]; exact ⟨rfl, rfl⟩)
theorem coded_said : Rows.CodedSaid :=
  OpenClaim.holds_of_cond 4 Tryz.f4 rfl rfl rfl rfl rfl rfl rfl ⟨rfl, rfl, rfl, rfl, rfl⟩ rfl rfl rfl rfl rfl coded_named Tryz.func4 coded_facts
    coded_inst coded_wrap
    (fun os started H enc _ F => by rw [OpenClaim.pre_eq_preRow]; exact coded_lifted os started H enc F)
theorem coded_plain (f : FuncId) (fn : Func) (hf : Tryz.pinned.checked.prog.funcNamed Rows.codedRow.func = some f) (hfn : Tryz.pinned.checked.prog.funcs[f]? = some fn) :
    true = Tryz.pinned.checked.prog.looks [] ∧ ∀ (j : Nat) t, fn.params[j]? = some t → Tryz.pinned.checked.prog.wantsStandIn t = false := by
  obtain rfl : f = 4 := Option.some.inj ((show Tryz.prog.funcNamed Rows.codedRow.func = some 4 by kernel_rfl).symm.trans hf) |>.symm
  obtain rfl : fn = Tryz.f4 := (Option.some.inj (Tryz.func4.symm.trans hfn)).symm
  refine ⟨by kernel_rfl, fun j t ht => ?_⟩
  rw [Tryz.params4] at ht
  have hm := Array.mem_of_getElem? ht
  simp at hm
  rcases hm with rfl | rfl
  · exact (show Tryz.prog.wantsStandIn 9 = false by kernel_rfl)
  · exact (show Tryz.prog.wantsStandIn 3 = false by kernel_rfl)
/-- The card. -/
theorem coded_card : Rows.CodedCardSaid :=
  Claim7.holds_tied_plain_at .later [] _ _ _ _ coded_said (fun _ h => by cases h) (by kernel_rfl) (fun _ h => by cases h) coded_row_tie rfl ⟨rfl, rfl⟩ (by kernel_rfl) rfl coded_plain (by kernel_rfl)
end Go.Proofs.YthokdbcpkmcieaaGreatDoor
