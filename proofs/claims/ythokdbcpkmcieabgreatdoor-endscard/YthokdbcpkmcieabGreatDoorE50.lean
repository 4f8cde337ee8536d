/- PROVED: for every list of raw numbers and every script of acts the law Ends returns true and leaves its arguments as they were: when the line is good at last and the power stays, a host that begins anew is done, behind at most eight failing powers, and all pages that it wants are burnt with its bytes. Conditions: those of the card (the listed variables of Go's library hold what the text lays). -/
import Derived.Test.YthokdbcpkmcieabGreatDoorE49
set_option maxRecDepth 200000
set_option maxHeartbeats 8000000
namespace Go.Proofs.YthokdbcpkmcieabGreatDoor
open Go.ChangeShapes Go.WideShapes Go.ChangeAt Go.RowKit Go.WideElems Go.Deep
theorem ends_lifted (os:Os)(started:os.Started)(H:Type)(enc:TypeId × Value→H)(F:Stop.Interp) :
  ReturnsInHanded {} Tryz.checked os 3 .any ((OpenSpec.ofChange Rows.endsSpec).preRow enc Tryz.prog Tryz.f3 Rows.endsRow.domain false Rows.endsRow.laid) (((OpenSpec.ofChange Rows.endsSpec).at F).post enc Tryz.prog Tryz.f3 false true false false):=by
 obtain ⟨w0,h1,h2,h3,h4,h5,h6⟩:=Z5G os
 obtain ⟨places,hx⟩:=h6 H enc
 refine returnsInHanded_of_row (C:=Tryz.checked) (s:=OpenSpec.ofChange Rows.endsSpec) Tryz.ownEnC started (by kernel_rfl) Tryz.func3
  (witness_row_at (enc:=enc) (C:=Tryz.checked) false w0 #[.slice none 0 0,.slice none 0 0] h1 h2 h3 h4
   (OpenSpec.preRow_of_cond 8 hx (by kernel_rfl) (fun k hk=>by cases hk) (by kernel_rfl) h5)) ?_
 intro W base args ds gs before hval hW _ _ _ _ hsh _
 exact Z7W H enc W base args ds gs before hval hW hsh
theorem ends_named:Tryz.pinned.checked.prog.funcNamed Rows.endsRow.func=some 3:=by kernel_rfl
theorem ends_facts:joinedFacts Tryz.pinned.checked.prog 3 Tryz.f3 (OpenSpec.ofChange Rows.endsSpec).bare Rows.endsRow=true:=by
 unfold joinedFacts
 rw [ends_inPlace,Z6c,Z8D,ends_vars]
 kernel_rfl
theorem ends_inst:Tryz.f3.isInstance Tryz.pinned.checked.prog Rows.endsRow.origin Rows.endsRow.targs:=of_decide_eq_true (by kernel_rfl)
theorem ends_wrap:Tryz.f3.isWrapper Tryz.pinned.checked.prog Rows.endsRow.wrapper Rows.endsRow.mainSum:=by
 unfold Func.isWrapper;first | (rw [if_pos (by decide +kernel)];kernel_rfl) | (rw [if_neg (by decide +kernel)];exact ⟨rfl,rfl⟩)
theorem ends_said:Rows.EndsSaid :=
 OpenClaim.holds_of_cond 3 Tryz.f3 rfl rfl rfl rfl rfl rfl rfl ⟨rfl,rfl,rfl,rfl,rfl⟩ rfl rfl rfl rfl rfl ends_named Tryz.func3 ends_facts
  ends_inst ends_wrap
  (fun os started H enc _ F=>by rw [OpenClaim.pre_eq_preRow];exact ends_lifted os started H enc F)
theorem ends_plain (f:FuncId)(fn:Func)(hf:Tryz.pinned.checked.prog.funcNamed Rows.endsRow.func=some f)(hfn:Tryz.pinned.checked.prog.funcs[f]?=some fn) :
  true=Tryz.pinned.checked.prog.looks []∧∀ (j:Nat) t,fn.params[j]?=some t→Tryz.pinned.checked.prog.wantsStandIn t=false:=by
 obtain rfl:f=3:=Option.some.inj ((show Tryz.prog.funcNamed Rows.endsRow.func=some 3 by kernel_rfl).symm.trans hf) |>.symm
 obtain rfl:fn=Tryz.f3:=(Option.some.inj (Tryz.func3.symm.trans hfn)).symm
 refine ⟨by kernel_rfl,fun j t ht=>?_⟩
 rw [Tryz.params3] at ht
 have hm:=Array.mem_of_getElem? ht
 simp at hm
 rcases hm with rfl | rfl
 ·exact (show Tryz.prog.wantsStandIn 22=false by kernel_rfl)
 ·exact (show Tryz.prog.wantsStandIn 23=false by kernel_rfl)
theorem ends_card:Rows.EndsCardSaid :=
 Claim7.holds_tied_plain_at .later [] _ _ _ _ ends_said (fun _ h=>by cases h) (by kernel_rfl) (fun _ h=>by cases h) ends_row_tie rfl ⟨rfl,rfl⟩ (by kernel_rfl) rfl ends_plain (by kernel_rfl)
end Go.Proofs.YthokdbcpkmcieabGreatDoor
