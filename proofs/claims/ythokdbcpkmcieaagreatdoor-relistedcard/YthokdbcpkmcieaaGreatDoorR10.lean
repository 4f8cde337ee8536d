/- PROVED: for every source the law Relisted returns true and leaves its argument as it was: of any source that is assembled each line of the listing, at its place, gives the same bytes; where a source is not assembled the error names a line, or the source is too long. Conditions: those of the card (the listed variables of Go's library hold what the text lays). -/
import Derived.Test.YthokdbcpkmcieaaGreatDoorR09
namespace Go.Proofs.YthokdbcpkmcieaaGreatDoor
open Go.ChangeShapes Go.WideShapes Go.ChangeAt Go.RowKit Go.WideElems Go.Deep
set_option maxRecDepth 100000 in
theorem relisted_lifted (os : Os) (started : os.Started) (H : Type) (enc : TypeId × Value → H) (F : Stop.Interp) :
    ReturnsInHanded {} Tryz.checked os 5 .any ((OpenSpec.ofChange Rows.relistedSpec).preRow enc Tryz.prog Tryz.f5 Rows.relistedRow.domain false Rows.relistedRow.laid) (((OpenSpec.ofChange Rows.relistedSpec).at F).post enc Tryz.prog Tryz.f5 false true false false) := by
  obtain ⟨w0, h1, h2, h3, h4, h5, h6⟩ := witness_worldRel os
  obtain ⟨places, hx⟩ := h6 H enc
  refine returnsInHanded_of_row (C := Tryz.checked) (s := OpenSpec.ofChange Rows.relistedSpec) Tryz.ownRel started (by kernel_rfl) Tryz.func5
    (witness_row_at (enc := enc) (C := Tryz.checked) false w0 #[.string ⟨#[]⟩] h1 h2 h3 h4
      (OpenSpec.preRow_of_cond 8 hx (by kernel_rfl) (fun k hk => by cases hk) (by kernel_rfl) h5)) ?_
  intro W base args ds gs before hval hW _ _ _ _ hsh _
  exact relisted_contract H enc W base args ds gs before hval hW hsh
theorem relisted_named : Tryz.pinned.checked.prog.funcNamed Rows.relistedRow.func = some 5 := by kernel_rfl
set_option maxRecDepth 100000 in
theorem relisted_facts : joinedFacts Tryz.pinned.checked.prog 5 Tryz.f5 (OpenSpec.ofChange Rows.relistedSpec).bare Rows.relistedRow = true := by kernel_rfl
theorem relisted_inst : Tryz.f5.isInstance Tryz.pinned.checked.prog Rows.relistedRow.origin Rows.relistedRow.targs := of_decide_eq_true (by kernel_rfl)
theorem relisted_wrap : Tryz.f5.isWrapper Tryz.pinned.checked.prog Rows.relistedRow.wrapper Rows.relistedRow.mainSum := by
  unfold Func.isWrapper; first | (rw [if_pos (by decide +kernel)]; kernel_rfl) | (rw [if_neg (by decide +kernel)]; exact ⟨rfl, rfl⟩)
theorem relisted_said : Rows.RelistedSaid :=
  OpenClaim.holds_of_cond 5 Tryz.f5 rfl rfl rfl rfl rfl rfl rfl ⟨rfl, rfl, rfl, rfl, rfl⟩ rfl rfl rfl rfl rfl relisted_named Tryz.func5 relisted_facts
    relisted_inst relisted_wrap
    (fun os started H enc _ F => by rw [OpenClaim.pre_eq_preRow]; exact relisted_lifted os started H enc F)
theorem relisted_plain (f : FuncId) (fn : Func) (hf : Tryz.pinned.checked.prog.funcNamed Rows.relistedRow.func = some f) (hfn : Tryz.pinned.checked.prog.funcs[f]? = some fn) :
    true = Tryz.pinned.checked.prog.looks [] ∧ ∀ (j : Nat) t, fn.params[j]? = some t → Tryz.pinned.checked.prog.wantsStandIn t = false := by
  obtain rfl : f = 5 := Option.some.inj ((show Tryz.prog.funcNamed Rows.relistedRow.func = some 5 by kernel_rfl).symm.trans hf) |>.symm
  obtain rfl : fn = Tryz.f5 := (Option.some.inj (Tryz.func5.symm.trans hfn)).symm
  refine ⟨by kernel_rfl, fun j t ht => ?_⟩
  rw [Tryz.params5] at ht
  have hm := Array.mem_of_getElem? ht
  simp at hm
  subst hm
  exact (show Tryz.prog.wantsStandIn 9 = false by kernel_rfl)
/-- The card. -/
theorem relisted_card : Rows.RelistedCardSaid :=
  Claim7.holds_tied_plain_at .later [] _ _ _ _ relisted_said (fun _ h => by cases h) (by kernel_rfl) (fun _ h => by cases h) relisted_row_tie rfl ⟨rfl, rfl⟩ (by kernel_rfl) rfl relisted_plain (by kernel_rfl)
end Go.Proofs.YthokdbcpkmcieaaGreatDoor
