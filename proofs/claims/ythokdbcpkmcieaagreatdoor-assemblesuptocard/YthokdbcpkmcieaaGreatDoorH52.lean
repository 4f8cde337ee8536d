/- PROVED: for every list of sources and every list of images that together hold at most 1048576 values and letters, the law Assembles returns true and leaves its arguments as they were: the program assembles each source as the document does (the same image, the same error at the same line), lists each image as the document does, keeps what is handed in as it is, and what it gives out is the caller's own. Conditions: that bound, and those of the card (the listed variables of Go's library hold what the text lays). -/
import Derived.Test.YthokdbcpkmcieaaGreatDoorH51
set_option maxRecDepth 200000
set_option maxHeartbeats 16000000
namespace Go.Proofs.YthokdbcpkmcieaaGreatDoor
open ChangeShapes WideShapes ChangeAt RowKit WideElems Deep Proofs.Tryz
theorem Z1b(os:Os)(A:os.Started)(H:Type)(enc:TypeId×Value->H)(F:Stop.Interp) :
  ReturnsInHanded {} Tryz.checked os 3 .any ((Rows.OpenSpec.upto Rows.assemblesSpec).preRow enc prog Tryz.f3 Rows.assemblesUptoRow.domain false Rows.assemblesUptoRow.laid) (((Rows.OpenSpec.upto Rows.assemblesSpec).at F).post enc prog Tryz.f3 false true false false):=by
 obtain⟨D,h1,h2,h3,h4,G,h6⟩:=Z72 os;obtain⟨U,hx⟩:=h6 H enc
 refine returnsInHanded_of_row (C:=Tryz.checked) (s:=Rows.OpenSpec.upto Rows.assemblesSpec) Tryz.ownAs A aj func3
  (witness_row_at (enc:=enc) (C:=Tryz.checked) false D #[.slice none 0 0,.slice none 0 0] h1 h2 h3 h4
   (OpenSpec.preRow_of_cond 8 hx aj (fun k hk=>by obtain rfl:Rows.uptoSmall=k:=kp hk;rfl) aj G)) ?_
 intro W base args I J M O R _ hk _ _ S _;exact Z7k H enc W base args I J M O R (hk _ rfl) S
theorem Z2y:Tryz.pinned.checked.prog.funcNamed Rows.assemblesUptoRow.func=some 3:=aj
theorem Z1h:joinedFacts Tryz.pinned.checked.prog 3 Tryz.f3 (Rows.OpenSpec.upto Rows.assemblesSpec).bare Rows.assemblesUptoRow=true:=by
 unfold joinedFacts;rw[Z8h,Z8H,Z1q,Z52];kernel_rfl
theorem Z0U:Tryz.f3.isInstance Tryz.pinned.checked.prog Rows.assemblesUptoRow.origin Rows.assemblesUptoRow.targs:=mQ aj
theorem Z7F:Tryz.f3.isWrapper Tryz.pinned.checked.prog Rows.assemblesUptoRow.wrapper Rows.assemblesUptoRow.mainSum:=by
 unfold Func.isWrapper;first| (rw[jT aq];kernel_rfl)|(rw[jS aq];exact⟨rfl,rfl⟩)
theorem Z6x:Rows.AssemblesUptoSaid:=
 OpenClaim.holds_of_cond 3 Tryz.f3 rfl rfl rfl rfl rfl rfl rfl ⟨rfl,rfl,rfl,rfl,rfl⟩ rfl rfl rfl rfl rfl Z2y func3 Z1h
  Z0U Z7F
  (fun os A H enc _ F=>by rw[OpenClaim.pre_eq_preRow];exact Z1b os A H enc F)
theorem Z7M(f:FuncId)(A:Func)(hf:Tryz.pinned.checked.prog.funcNamed Rows.assemblesUptoRow.func=some f)(D:Tryz.pinned.checked.prog.funcs[f]?=some A) :
  true=Tryz.pinned.checked.prog.looks []/\∀(j:Nat) t,A.params[j]?=some t->Tryz.pinned.checked.prog.wantsStandIn t=false:=by
 obtain rfl:f=3:=kp ((show prog.funcNamed Rows.assemblesUptoRow.func=some 3 by kernel_rfl).symm.trans hf) |>.symm;obtain rfl:A=Tryz.f3:=(kp (func3.symm.trans D)).symm;refine⟨aj,fun j t ht=>?_⟩;rw[params3]at ht;have G:=Array.mem_of_getElem? ht;simp at G;rcases G with rfl|rfl
 ·exact(show prog.wantsStandIn 22=false by kernel_rfl)
 exact(show prog.wantsStandIn 23=false by kernel_rfl)
theorem assembles_upto_card:Rows.AssemblesUptoCardSaid:=
 Claim7.holds_tied_plain_at .later [] _ _ _ _ Z6x (fun _ h=>by cases h) aj (fun _ h=>by cases h) assemblesUpto_row_tie rfl ⟨rfl,rfl⟩ aj rfl Z7M aj
