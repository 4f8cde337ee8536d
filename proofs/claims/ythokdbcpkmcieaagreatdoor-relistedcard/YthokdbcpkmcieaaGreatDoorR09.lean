/- Relisted: for every argument and every world. Relisted: a world for the witness. -/
import Derived.Test.YthokdbcpkmcieaaGreatDoorR08
import Derived.Test.YthokdbcpkmcieaaGreatDoorShelf
import Derived.ProofKit
import Derived.ChangeMaps5
import Derived.Deep.DeepHandedRow
import Derived.Deep.Slices
import Derived.Test.YthokdbcpkmcieaaGreatDoorCards
import Derived.Test.YthokdbcpkmcieaaGreatDoorTie
namespace Go.Proofs.YthokdbcpkmcieaaGreatDoor
open Go Go.ChangeShapes Go.ChangeMaps Go.WideShapes Go.ChangeAt Go.RowKit Go.WideElems Go.Deep
theorem Tryz.ownRel : ownKnob Tryz.prog.godebug = none := by kernel_rfl
theorem maxLen_cellRel (W : World) (h : W.ShapedOpen Tryz.prog) : ∃ m, W.cell? ⟨0, 0, none⟩ = some (.int .i64 m) := Tryz.laysM145.s1_3 W h
set_option maxRecDepth 100000 in
set_option maxHeartbeats 1000000 in
theorem relisted_contract (H : Type) (enc : TypeId × Value → H) (W : World) (base : Nat) (args : Array Value) (ds gs : List (DataW H)) (before : List MemPlace)
    (hval : ∀ (j : Nat) t v, Tryz.f5.params[j]? = some t → args[j]? = some v → Value.okWide Tryz.prog W .any base t v)
    (hW : DataW.Whole enc Tryz.prog Tryz.f5.params.toList Rows.relistedSpec.vars false W args.toList ds gs before) (hsh : W.ShapedOpen Tryz.prog) :
    Calls Tryz.prog 5 args W fun e W' => ∃ v, e = .returned v ∧ Rows.relistedSpec.post enc Tryz.prog Tryz.f5 false true false false W args v W' := by
  obtain ⟨mm, hm⟩ := maxLen_cellRel W hsh
  have hW' := hW
  obtain ⟨p, q, hA0, hV, rfl, hfz, hnd⟩ := hW
  have hA : DataW.TrodAll enc Tryz.prog W 0 (fun _ => true) true Tryz.f5.params.toList args.toList ds p := hA0
  rw [Tryz.params5] at hA hval
  obtain ⟨v0, vs0, d0, ds0, p0, q0, hargs, rfl, rfl, h0, r0⟩ := trodAll_cons hA
  obtain ⟨rfl, rfl, rfl⟩ := trodAll_nil r0
  obtain rfl : args = #[v0] := by cases args; simp_all
  obtain ⟨rfl, rfl⟩ := trodVars_none hV
  obtain ⟨x0, rfl, rfl, rfl, hx0⟩ := open_string Tryz.underlying9 (hval 0 9 v0 rfl rfl) h0
  refine (relisted_any W x0 mm hx0 hm).mono fun e W' ⟨he, hB⟩ => ?_
  subst he
  simp only [List.append_nil] at hW'
  refine ⟨_, rfl, _, _, _, [], [], [], hW', ?_, ?_, rfl, hB.frame _, fun h => by cases h⟩
  · exact trodAll_mk1 (shut_bool Tryz.underlying4 _)
  · exact trodAll_cons_mk (Below.trod Tryz.laidOut (by kernel_rfl) (of_decide_eq_true (by kernel_rfl)) h0 hB (fun x hx => by cases hx)) trodAll_mk0
end Go.Proofs.YthokdbcpkmcieaaGreatDoor
namespace Go.Proofs.YthokdbcpkmcieaaGreatDoor
open Go Go.ChangeShapes Go.WideShapes Go.ChangeAt Go.RowKit Go.WideElems Go.Deep
/-- The numbers of a table, cell by cell. -/
def cells2Rel : DataW Unit → List Value
  | .lit (.int k n) => [.int k n]
  | .agg l => l.flatMap fun
    | .lit (.int k n) => [.int k n]
    | _ => []
  | _ => []
def cells3Rel : DataW Unit → List Value
  | .agg l => l.flatMap cells2Rel
  | _ => []
def putInRel (cs : List Value) : Obj → Obj
  | .cells _ t frozen => .cells cs.toArray t frozen
  | o => o
set_option maxRecDepth 100000 in
/-- A world for the witness: the settled one, each listed variable holding what it is listed with. -/
theorem witness_worldRel (os : Os) : ∃ w0 : World, w0.os = os ∧ (w0.forCall (fun _ _ => 0) ⟨#[], #[.string ⟨#[]⟩], []⟩).variablesB Tryz.checked.prog = true ∧
    ((w0.forCall (fun _ _ => 0) ⟨#[], #[.string ⟨#[]⟩], []⟩).heap.toList.drop Tryz.checked.prog.globals.size).take ((begin Tryz.checked.prog (fun _ _ => 0) default).world.heap.size - Tryz.checked.prog.globals.size) = (begin Tryz.checked.prog (fun _ _ => 0) default).world.heap.toList.drop Tryz.checked.prog.globals.size ∧
    Input.okWideB Tryz.checked.prog (w0.forCall (fun _ _ => 0) ⟨#[], #[.string ⟨#[]⟩], []⟩) 5 ⟨#[], #[.string ⟨#[]⟩], []⟩ = true ∧
    laidMet Tryz.prog Rows.relistedRow.laid (w0.forCall (fun _ _ => 0) ⟨#[], #[.string ⟨#[]⟩], []⟩).memory ∧
    (∀ (H : Type) (enc : TypeId × Value → H), ∃ places, DataW.whole enc Tryz.prog (w0.forCall (fun _ _ => 0) ⟨#[], #[.string ⟨#[]⟩], []⟩).memory Tryz.f5.params.toList Rows.relistedSpec.vars false #[Value.string ⟨#[]⟩].toList 8 = some ([.lit (.string [])], [], places)) :=
  ⟨{ World.holding Tryz.prog os ⟨#[], #[], []⟩ with heap := ((((((((((World.holding Tryz.prog os ⟨#[], #[], []⟩).heap.modify 1 (putInRel (cells3Rel Rows.laid_unicode_utf8_first))).modify 2 (putInRel (cells3Rel Rows.laid_unicode_utf8_acceptRanges))).modify 3 (putInRel (cells3Rel Rows.laid_internal_strconv_uint64pow10))).modify 4 (putInRel [.iface 402 (.pointer (some ⟨(World.holding Tryz.prog os ⟨#[], #[], []⟩).heap.size, 0, none⟩))])).modify 5 (putInRel [.iface 402 (.pointer (some ⟨(World.holding Tryz.prog os ⟨#[], #[], []⟩).heap.size + 1, 0, none⟩))])).modify 6 (putInRel (cells3Rel Rows.laid_math_bits_deBruijn32tab))).modify 7 (putInRel (cells3Rel Rows.laid_math_bits_deBruijn64tab))).push (.cells #[.string ⟨#[105, 110, 118, 97, 108, 105, 100, 32, 115, 121, 110, 116, 97, 120]⟩] 404)).push (.cells #[.string ⟨#[118, 97, 108, 117, 101, 32, 111, 117, 116, 32, 111, 102, 32, 114, 97, 110, 103, 101]⟩] 404)) },
    rfl, by kernel_rfl, by kernel_rfl, by kernel_rfl, laidMet_of_run' 8 (by kernel_rfl) (by kernel_rfl), fun _ _ => ⟨[], by kernel_rfl⟩⟩
end Go.Proofs.YthokdbcpkmcieaaGreatDoor
