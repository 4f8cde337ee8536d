/- PROVED: for every list of raw numbers and every script of acts the law Sure returns true and leaves its arguments as they were: when the host says that it is done, all pages that it wants are burnt with its bytes; at every time a page counts as burnt only whole, whatever is lost, doubled, spoilt or late, and however often the power fails. Conditions: those of the card (the listed variables of Go's library hold what the text lays). -/
import Derived.Test.YthokdbcpkmcieaaGreatDoorS47
set_option maxRecDepth 200000
set_option maxHeartbeats 8000000
namespace Go.Proofs.YthokdbcpkmcieaaGreatDoor
open Go.ChangeShapes Go.WideShapes Go.ChangeAt Go.RowKit Go.WideElems Go.Deep
theorem sure_lifted (os:Os)(started:os.Started)(H:Type)(enc:TypeId × Value→H)(F:Stop.Interp) :
  ReturnsInHanded {} Tryz.checked os 7 .any ((OpenSpec.ofChange Rows.sureSpec).preRow enc Tryz.prog Tryz.f7 Rows.sureRow.domain false Rows.sureRow.laid) (((OpenSpec.ofChange Rows.sureSpec).at F).post enc Tryz.prog Tryz.f7 false true false false):=by
 obtain ⟨w0,h1,h2,h3,h4,h5,h6⟩:=Z4V os
 obtain ⟨places,hx⟩:=h6 H enc
 refine returnsInHanded_of_row (C:=Tryz.checked) (s:=OpenSpec.ofChange Rows.sureSpec) Tryz.ownSurC started (by kernel_rfl) Tryz.func7
  (witness_row_at (enc:=enc) (C:=Tryz.checked) false w0 #[.slice none 0 0,.slice none 0 0] h1 h2 h3 h4
   (OpenSpec.preRow_of_cond 8 hx (by kernel_rfl) (fun k hk=>by cases hk) (by kernel_rfl) h5)) ?_
 intro W base args ds gs before hval hW _ _ _ _ hsh _
 exact Z70 H enc W base args ds gs before hval hW hsh
theorem sure_named:Tryz.pinned.checked.prog.funcNamed Rows.sureRow.func=some 7:=by kernel_rfl
theorem sure_facts:joinedFacts Tryz.pinned.checked.prog 7 Tryz.f7 (OpenSpec.ofChange Rows.sureSpec).bare Rows.sureRow=true:=by kernel_rfl
theorem sure_inst:Tryz.f7.isInstance Tryz.pinned.checked.prog Rows.sureRow.origin Rows.sureRow.targs:=of_decide_eq_true (by kernel_rfl)
theorem sure_wrap:Tryz.f7.isWrapper Tryz.pinned.checked.prog Rows.sureRow.wrapper Rows.sureRow.mainSum:=by
 unfold Func.isWrapper;first | (rw [if_pos (by decide +kernel)];kernel_rfl) | (rw [if_neg (by decide +kernel)];exact ⟨rfl,rfl⟩)
theorem sure_said:Rows.SureSaid :=
 OpenClaim.holds_of_cond 7 Tryz.f7 rfl rfl rfl rfl rfl rfl rfl ⟨rfl,rfl,rfl,rfl,rfl⟩ rfl rfl rfl rfl rfl sure_named Tryz.func7 sure_facts
  sure_inst sure_wrap
  (fun os started H enc _ F=>by rw [OpenClaim.pre_eq_preRow];exact sure_lifted os started H enc F)
theorem sure_plain (f:FuncId)(fn:Func)(hf:Tryz.pinned.checked.prog.funcNamed Rows.sureRow.func=some f)(hfn:Tryz.pinned.checked.prog.funcs[f]?=some fn) :
  true=Tryz.pinned.checked.prog.looks []∧∀ (j:Nat) t,fn.params[j]?=some t→Tryz.pinned.checked.prog.wantsStandIn t=false:=by
 obtain rfl:f=7:=Option.some.inj ((show Tryz.prog.funcNamed Rows.sureRow.func=some 7 by kernel_rfl).symm.trans hf) |>.symm
 obtain rfl:fn=Tryz.f7:=(Option.some.inj (Tryz.func7.symm.trans hfn)).symm
 refine ⟨by kernel_rfl,fun j t ht=>?_⟩
 rw [Tryz.params7] at ht
 have hm:=Array.mem_of_getElem? ht
 simp at hm
 rcases hm with rfl | rfl
 ·exact (show Tryz.prog.wantsStandIn 47=false by kernel_rfl)
 ·exact (show Tryz.prog.wantsStandIn 49=false by kernel_rfl)
theorem sure_card:Rows.SureCardSaid :=
 Claim7.holds_tied_plain_at .later [] _ _ _ _ sure_said (fun _ h=>by cases h) (by kernel_rfl) (fun _ h=>by cases h) sure_row_tie rfl ⟨rfl,rfl⟩ (by kernel_rfl) rfl sure_plain (by kernel_rfl)
end Go.Proofs.YthokdbcpkmcieaaGreatDoor
