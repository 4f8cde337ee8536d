/- Shifted: for every argument and every world. Shifted: a world for the witness. -/
import Derived.Test.YthokdbcpkmcieaaGreatDoorS06
import Derived.Test.YthokdbcpkmcieaaGreatDoorShelf
import Derived.ProofKit
import Derived.Deep.DeepHandedRow
import Derived.Deep.Slices
import Derived.Test.YthokdbcpkmcieaaGreatDoorCards
import Derived.Test.YthokdbcpkmcieaaGreatDoorTie
namespace Go.Proofs.YthokdbcpkmcieaaGreatDoor
open Go Go.ChangeShapes Go.WideShapes Go.ChangeAt Go.RowKit Go.WideElems Go.Deep
theorem Tryz.ownS : ownKnob Tryz.prog.godebug = none := by kernel_rfl
theorem maxLen_cellS (W : World) (h : W.ShapedOpen Tryz.prog) : ∃ m, W.cell? ⟨0, 0, none⟩ = some (.int .i64 m) := Tryz.laysM145.s1_3 W h
set_option maxRecDepth 100000 in
set_option maxHeartbeats 1000000 in
theorem shifted_contract (H : Type) (enc : TypeId × Value → H) (W : World) (base : Nat) (args : Array Value) (ds gs : List (DataW H)) (before : List MemPlace)
    (hval : ∀ (j : Nat) t v, Tryz.f6.params[j]? = some t → args[j]? = some v → Value.okWide Tryz.prog W .any base t v)
    (hW : DataW.Whole enc Tryz.prog Tryz.f6.params.toList Rows.shiftedSpec.vars false W args.toList ds gs before) (hsh : W.ShapedOpen Tryz.prog) :
    Calls Tryz.prog 6 args W fun e W' => ∃ v, e = .returned v ∧ Rows.shiftedSpec.post enc Tryz.prog Tryz.f6 false true false false W args v W' := by
  obtain ⟨mm, hm⟩ := maxLen_cellS W hsh
  have hW' := hW
  obtain ⟨p, q, hA0, hV, rfl, hfz, hnd⟩ := hW
  have hA : DataW.TrodAll enc Tryz.prog W 0 (fun _ => true) true Tryz.f6.params.toList args.toList ds p := hA0
  rw [Tryz.params6] at hA hval
  obtain ⟨v0, vs0, d0, ds0, p0, q0, hargs, rfl, rfl, h0, r0⟩ := trodAll_cons hA
  obtain ⟨v1, vs1, d1, ds1, p1, q1, rfl, rfl, rfl, h1, r1⟩ := trodAll_cons r0
  obtain ⟨rfl, rfl, rfl⟩ := trodAll_nil r1
  obtain rfl : args = #[v0, v1] := by cases args; simp_all
  obtain ⟨rfl, rfl⟩ := trodVars_none hV
  have hlt : ∀ x ∈ p0 ++ (p1 ++ []), x.block < W.heap.size := fun x hx => by have := hW'.lt x (by simpa using hx); simpa using this
  obtain ⟨ca, cn, cc, rfl⟩ := okWide_slice Tryz.underlying47 (hval 0 47 v0 rfl rfl)
  have key : ∃ raws, RawAt W ca cn raws ∧ cn ≤ 9223372036854775807 := by
    obtain ⟨fuel, hf⟩ := h0
    rcases open_ints Tryz.underlying47 Tryz.underlying3 (by kernel_rfl) hf with ⟨hcs, hx⟩ | ⟨a, len, cap, zs, hcs, _, hlc, hcm, hzl, hx, hcell, hwf⟩
    · simp [Value.cells] at hcs
      obtain ⟨rfl, rfl, rfl⟩ := hcs
      exact ⟨[], ⟨rfl, fun j hj => absurd hj (Nat.not_lt_zero _), fun r hr => by cases hr⟩, Nat.zero_le _⟩
    · simp [Value.cells] at hcs
      obtain ⟨rfl, rfl, rfl⟩ := hcs
      simp only [if_true] at hzl
      have hb : ∀ r ∈ zs, -9223372036854775808 ≤ r ∧ r ≤ 9223372036854775807 := fun r hr => by
        have hw := hwf r hr
        simpa [Lit.wf, IntKind.min, IntKind.max, IntKind.signed, IntKind.bits] using hw
      refine ⟨zs.take cn, ⟨by rw [List.length_take]; omega, fun j hj => ?_, fun r hr => hb r (List.mem_of_mem_take hr)⟩, by unfold maxLen at *; omega⟩
      rw [List.length_take] at hj
      have c1 := hcell j (by omega)
      have c0 := hcell 0 (by omega)
      obtain ⟨b, off, spot⟩ := a
      have hspot : spot = none := by simpa [Addr.add] using World.cell?_spot c0
      subst hspot
      rw [Addr.add_lit] at c1
      rw [List.getD_eq_getElem?_getD, List.getElem?_eq_getElem (by omega)] at c1
      refine ⟨b, off, rfl, ?_, by have := World.block_lt_of_cell? _ _ c1; simpa using this⟩
      rw [List.getElem_take]
      exact c1
  obtain ⟨raws, hraw, hcn⟩ := key
  obtain ⟨x, rfl, rfl, rfl, hxw⟩ := open_int Tryz.underlying3 (hval 1 3 v1 rfl rfl) h1
  have hx : -9223372036854775808 ≤ x ∧ x ≤ 9223372036854775807 := by simpa [Lit.wf, IntKind.min, IntKind.max, IntKind.signed, IntKind.bits] using hxw
  refine (shifted_any W ca cn cc raws x mm hraw hcn hx hm).mono fun e W' ⟨he, hB⟩ => ?_
  subst he
  simp only [List.append_nil] at hW'
  refine ⟨_, rfl, _, _, _, [], p0 ++ ([] ++ []), [], hW', ?_, ?_, rfl, hB.frame _, fun h => by cases h⟩
  · exact trodAll_mk1 (shut_bool Tryz.underlying4 _)
  · exact trodAll_cons_mk (Below.trod Tryz.laidOut (by kernel_rfl) (of_decide_eq_true (by kernel_rfl)) h0 hB (fun x hx => hlt x (by simp [hx]))) (trodAll_cons_mk (Below.trod Tryz.laidOut (by kernel_rfl) (of_decide_eq_true (by kernel_rfl)) h1 hB (fun x hx => by cases hx)) trodAll_mk0)
end Go.Proofs.YthokdbcpkmcieaaGreatDoor
namespace Go.Proofs.YthokdbcpkmcieaaGreatDoor
open Go Go.ChangeShapes Go.WideShapes Go.ChangeAt Go.RowKit Go.WideElems Go.Deep
/-- The numbers of a table, cell by cell. -/
def cells2 : DataW Unit → List Value
  | .lit (.int k n) => [.int k n]
  | .agg l => l.flatMap fun
    | .lit (.int k n) => [.int k n]
    | _ => []
  | _ => []
def cells3 : DataW Unit → List Value
  | .agg l => l.flatMap cells2
  | _ => []
def putIn (cs : List Value) : Obj → Obj
  | .cells _ t frozen => .cells cs.toArray t frozen
  | o => o
set_option maxRecDepth 100000 in
/-- A world for the witness: the settled one, each listed variable holding what it is listed with. -/
theorem witness_worldS (os : Os) : ∃ w0 : World, w0.os = os ∧ (w0.forCall (fun _ _ => 0) ⟨#[], #[.slice none 0 0, .int .i64 0], []⟩).variablesB Tryz.checked.prog = true ∧
    ((w0.forCall (fun _ _ => 0) ⟨#[], #[.slice none 0 0, .int .i64 0], []⟩).heap.toList.drop Tryz.checked.prog.globals.size).take ((begin Tryz.checked.prog (fun _ _ => 0) default).world.heap.size - Tryz.checked.prog.globals.size) = (begin Tryz.checked.prog (fun _ _ => 0) default).world.heap.toList.drop Tryz.checked.prog.globals.size ∧
    Input.okWideB Tryz.checked.prog (w0.forCall (fun _ _ => 0) ⟨#[], #[.slice none 0 0, .int .i64 0], []⟩) 6 ⟨#[], #[.slice none 0 0, .int .i64 0], []⟩ = true ∧
    laidMet Tryz.prog Rows.shiftedRow.laid (w0.forCall (fun _ _ => 0) ⟨#[], #[.slice none 0 0, .int .i64 0], []⟩).memory ∧
    (∀ (H : Type) (enc : TypeId × Value → H), ∃ places, DataW.whole enc Tryz.prog (w0.forCall (fun _ _ => 0) ⟨#[], #[.slice none 0 0, .int .i64 0], []⟩).memory Tryz.f6.params.toList Rows.shiftedSpec.vars false #[Value.slice none 0 0, Value.int .i64 0].toList 8 = some ([.nil, .lit (.int .i64 0)], [], places)) :=
  ⟨{ World.holding Tryz.prog os ⟨#[], #[], []⟩ with heap := ((((((((((World.holding Tryz.prog os ⟨#[], #[], []⟩).heap.modify 1 (putIn (cells3 Rows.laid_unicode_utf8_first))).modify 2 (putIn (cells3 Rows.laid_unicode_utf8_acceptRanges))).modify 3 (putIn (cells3 Rows.laid_internal_strconv_uint64pow10))).modify 4 (putIn [.iface 402 (.pointer (some ⟨(World.holding Tryz.prog os ⟨#[], #[], []⟩).heap.size, 0, none⟩))])).modify 5 (putIn [.iface 402 (.pointer (some ⟨(World.holding Tryz.prog os ⟨#[], #[], []⟩).heap.size + 1, 0, none⟩))])).modify 6 (putIn (cells3 Rows.laid_math_bits_deBruijn32tab))).modify 7 (putIn (cells3 Rows.laid_math_bits_deBruijn64tab))).push (.cells #[.string ⟨#[105, 110, 118, 97, 108, 105, 100, 32, 115, 121, 110, 116, 97, 120]⟩] 404)).push (.cells #[.string ⟨#[118, 97, 108, 117, 101, 32, 111, 117, 116, 32, 111, 102, 32, 114, 97, 110, 103, 101]⟩] 404)) },
    rfl, by kernel_rfl, by kernel_rfl, by kernel_rfl, laidMet_of_run' 8 (by kernel_rfl) (by kernel_rfl), fun _ _ => ⟨[], by kernel_rfl⟩⟩
end Go.Proofs.YthokdbcpkmcieaaGreatDoor
