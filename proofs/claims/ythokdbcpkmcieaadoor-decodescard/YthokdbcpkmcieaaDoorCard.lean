/- PROVED: for every list of texts and places, the law Decodes returns true and leaves its argument as it was: the program's Decode answers as the document's answer does, at each of them. The conditions are those of the card: the five listed tables of Go's library hold what the text lays; nothing else is assumed. -/
import Derived.Test.YthokdbcpkmcieaaDoorCards
import Derived.Test.YthokdbcpkmcieaaDoorTie
import Derived.Test.YthokdbcpkmcieaaDoorLaw
import Derived.ProofKit
import Derived.Deep.DeepHandedRow
import Derived.Deep.Slices
namespace Go.Proofs.YthokdbcpkmcieaaDoor
open Go.ChangeShapes Go.WideShapes Go.ChangeAt Go.RowKit Go.WideElems Go.Deep
theorem Tryd.own : ownKnob Tryd.prog.godebug = none := by kernel_rfl
theorem Tryd.laidOut : laidOutB Tryd.prog = true := by kernel_rfl
set_option maxRecDepth 100000 in
set_option maxHeartbeats 400000 in
theorem law_nil (m : Int) (cap : Nat) (w : World) (hm : w.cell? ⟨0, 0, none⟩ = some (.int .i64 m)) (h0 : 0 < w.heap.size) :
    Calls Tryd.prog 3 #[.slice none 0 cap] w fun e w' => e = .returned (.bool true) ∧ Below w.heap.size w w' := by
  go_enter Tryd.func3, Tryd.ntmps3
  go_wp2_with fail
  refine (dec4 _ _ _ _ same_first _ m hm h0).mono ?_
  rintro e w1 ⟨rfl, hb1⟩
  go_wp2_with fail
  refine wp_loop_rounds 1 ?_
  rw [rounds_succ]
  go_wp2
  go_ret
  exact ⟨rfl, hb1⟩
set_option maxRecDepth 100000 in
set_option maxHeartbeats 400000 in
theorem law_none (a : Addr) (m : Int) (cap : Nat) (w : World) (hm : w.cell? ⟨0, 0, none⟩ = some (.int .i64 m)) (h0 : 0 < w.heap.size) :
    Calls Tryd.prog 3 #[.slice (some a) 0 cap] w fun e w' => e = .returned (.bool true) ∧ Below w.heap.size w w' := by
  go_enter Tryd.func3, Tryd.ntmps3
  go_wp2_with fail
  refine (dec4 _ _ _ _ same_first _ m hm h0).mono ?_
  rintro e w1 ⟨rfl, hb1⟩
  go_wp2_with fail
  refine wp_loop_rounds 1 ?_
  rw [rounds_succ]
  go_wp2
  go_ret
  exact ⟨rfl, hb1⟩
/-- What the program's text holds of the variable that the library asks its machine for: some number. -/
theorem maxLen_cell (W : World) (h : W.ShapedOpen Tryd.prog) : ∃ m, W.cell? ⟨0, 0, none⟩ = some (.int .i64 m) := Tryd.laysM145.s1_3 W h
set_option maxRecDepth 100000 in
set_option maxHeartbeats 1000000 in
theorem law_any {H : Type} (enc : TypeId × Value → H) (W : World) (v : Value) (d : DataW H) (p : List MemPlace) (hv : ∃ a0 len cap, v = .slice a0 len cap) (h : DataW.Trod enc Tryd.prog W 0 (fun _ => true) true 22 v d p) (hsh : W.ShapedOpen Tryd.prog) :
    Calls Tryd.prog 3 #[v] W fun e w' => e = .returned (.bool true) ∧ Below W.heap.size W w' := by
  obtain ⟨m, hm⟩ := maxLen_cell W hsh
  have h0 : 0 < W.heap.size := World.block_lt_of_cell? _ _ hm
  obtain ⟨a0, len, cap, rfl⟩ := hv
  obtain ⟨fuel, hf⟩ := h
  rcases open_slice Tryd.underlying22 hf with ⟨hcs, hx⟩ | ⟨a, len', cap', mm, n, D, Pl, hcs, _, hlc, hcm, hmm, hx, hel⟩
  · simp [Value.cells] at hcs
    obtain ⟨rfl, rfl, rfl⟩ := hcs
    exact law_nil m 0 W hm h0
  · simp [Value.cells] at hcs
    obtain ⟨rfl, rfl, rfl⟩ := hcs
    simp only [if_true] at hmm
    by_cases hz : len = 0
    · subst hz
      exact law_none a m cap W hm h0
    · have hcell : Tryd.prog.cellsOf 26 = 2 := by kernel_rfl
      have hall : ∀ i, i < len → ∃ s x, W.cell? (a.add (i * 2)) = some (.string s) ∧ W.cell? ((a.add (i * 2)).add 1) = some (.int .i64 x) ∧ s.size ≤ maxLen := by
        intro i hi
        obtain ⟨cs', h1, h2⟩ := hel i (by omega)
        rw [hcell] at h1
        obtain ⟨_, hl2, hat⟩ := World.cells?_some h1
        obtain ⟨y0, y1, n', _, _, hy0, hy1⟩ := trod_struct2 Tryd.underlying26 h2
        match cs', hl2 with
        | [u0, u1], _ =>
          obtain ⟨s, e0, _, hs⟩ := DataW.trod_string Tryd.underlying9 (show DataW.trod enc Tryd.prog W 0 (fun _ => true) true n' 9 [u0] = some y0 from hy0)
          obtain ⟨x, e1, _, _⟩ := DataW.trod_int Tryd.underlying3 (show DataW.trod enc Tryd.prog W 0 (fun _ => true) true n' 3 [u1] = some y1 from hy1)
          simp only [List.cons.injEq, and_true] at e0 e1
          subst e0 e1
          exact ⟨s, x, by have := hat 0 (by omega); simpa [Addr.add] using this, by have := hat 1 (by omega); simpa using this, hs⟩
      obtain ⟨s0, x0, c0, _⟩ := hall 0 (by omega)
      obtain ⟨b, off, spot⟩ := a
      have hspot : spot = none := by simpa [Addr.add] using World.cell?_spot c0
      subst hspot
      have hb : b < W.heap.size := by have := World.block_lt_of_cell? _ _ c0; simpa [Addr.add] using this
      obtain ⟨S, hS⟩ := choose_lt (α := ByteArray) (p := fun i s => ∃ x, W.cell? ((⟨b, off, none⟩ : Addr).add (i * 2)) = some (.string s) ∧ W.cell? (((⟨b, off, none⟩ : Addr).add (i * 2)).add 1) = some (.int .i64 x) ∧ s.size ≤ maxLen) hall
      obtain ⟨A, hA⟩ := choose_lt (α := Int) (p := fun i x => W.cell? ((⟨b, off, none⟩ : Addr).add (i * 2)) = some (.string (S i)) ∧ W.cell? (((⟨b, off, none⟩ : Addr).add (i * 2)).add 1) = some (.int .i64 x) ∧ (S i).size ≤ maxLen) hS
      refine law_some b off len cap S A m W hm h0 hb (by omega) (fun i hi => ?_)
      have hh := hA i hi
      rw [add_plain, add_plain] at hh
      exact hh
set_option maxRecDepth 100000 in
set_option maxHeartbeats 1000000 in
/-- What the walk gives, for every argument and every world. -/
theorem contract (H : Type) (enc : TypeId × Value → H) (W : World) (base : Nat) (args : Array Value) (ds gs : List (DataW H)) (before : List MemPlace)
    (hval : ∀ (j : Nat) t v, Tryd.f3.params[j]? = some t → args[j]? = some v → Value.okWide Tryd.prog W .any base t v)
    (hW : DataW.Whole enc Tryd.prog Tryd.f3.params.toList Rows.decodesSpec.vars false W args.toList ds gs before) (hsh : W.ShapedOpen Tryd.prog) :
    Calls Tryd.prog 3 args W fun e W' => ∃ v, e = .returned v ∧ Rows.decodesSpec.post enc Tryd.prog Tryd.f3 false true false false W args v W' := by
  have hW' := hW
  obtain ⟨p, q, hA0, hV, rfl, hfz, hnd⟩ := hW
  have hA : DataW.TrodAll enc Tryd.prog W 0 (fun _ => true) true Tryd.f3.params.toList args.toList ds p := hA0
  rw [Tryd.params3] at hA hval
  obtain ⟨v0, d0, hargs, rfl, h0⟩ := trodAll_one hA
  obtain rfl : args = #[v0] := by cases args; simp_all
  obtain ⟨rfl, rfl⟩ := trodVars_none hV
  have hv := okWide_slice Tryd.underlying22 (hval 0 22 v0 rfl rfl)
  clear hA0
  simp only [List.append_nil] at hW'
  have hlt : ∀ x ∈ p, x.block < W.heap.size := fun x hx => by simpa using hW'.lt x hx
  refine (law_any enc W v0 d0 p hv h0 hsh).mono fun e W' ⟨he, hB⟩ => ?_
  subst he
  refine ⟨_, rfl, _, _, _, [], p, [], hW', ?_, ?_, rfl, hB.frame _, fun h => by cases h⟩
  · exact trodAll_mk1 (shut_bool Tryd.underlying4 _)
  · exact trodAll_mk1 (Below.trod Tryd.laidOut (by kernel_rfl) (of_decide_eq_true (by kernel_rfl)) h0 hB hlt)
/-- The numbers of a table, cell by cell. -/
def cells2 : DataW Unit → List Value
  | .lit (.int k n) => [.int k n]
  | .agg l => l.flatMap fun
    | .lit (.int k n) => [.int k n]
    | _ => []
  | _ => []
def cells3 : DataW Unit → List Value
  | .agg l => l.flatMap cells2
  | _ => []
def putIn (cs : List Value) : Obj → Obj
  | .cells _ t frozen => .cells cs.toArray t frozen
  | o => o
set_option maxRecDepth 100000 in
/-- A world for the witness: the settled one, each listed table holding what it is listed with. -/
theorem witness_world (os : Os) : ∃ w0 : World, w0.os = os ∧ (w0.forCall (fun _ _ => 0) ⟨#[], #[.slice none 0 0], []⟩).variablesB Tryd.checked.prog = true ∧
    ((w0.forCall (fun _ _ => 0) ⟨#[], #[.slice none 0 0], []⟩).heap.toList.drop Tryd.checked.prog.globals.size).take ((begin Tryd.checked.prog (fun _ _ => 0) default).world.heap.size - Tryd.checked.prog.globals.size) = (begin Tryd.checked.prog (fun _ _ => 0) default).world.heap.toList.drop Tryd.checked.prog.globals.size ∧
    Input.okWideB Tryd.checked.prog (w0.forCall (fun _ _ => 0) ⟨#[], #[.slice none 0 0], []⟩) 3 ⟨#[], #[.slice none 0 0], []⟩ = true ∧
    laidMet Tryd.prog Rows.decodesRow.laid (w0.forCall (fun _ _ => 0) ⟨#[], #[.slice none 0 0], []⟩).memory ∧
    (∀ (H : Type) (enc : TypeId × Value → H), ∃ places, DataW.whole enc Tryd.prog (w0.forCall (fun _ _ => 0) ⟨#[], #[.slice none 0 0], []⟩).memory Tryd.f3.params.toList Rows.decodesSpec.vars false #[Value.slice none 0 0].toList 8 = some ([.nil], [], places)) :=
  ⟨{ World.holding Tryd.prog os ⟨#[], #[], []⟩ with heap := (((((World.holding Tryd.prog os ⟨#[], #[], []⟩).heap.modify 1 (putIn (cells3 Rows.laid_unicode_utf8_first))).modify 2 (putIn (cells3 Rows.laid_unicode_utf8_acceptRanges))).modify 3 (putIn (cells3 Rows.laid_internal_strconv_uint64pow10))).modify 4 (putIn (cells3 Rows.laid_math_bits_deBruijn32tab))).modify 5 (putIn (cells3 Rows.laid_math_bits_deBruijn64tab)) },
    rfl, by kernel_rfl, by kernel_rfl, by kernel_rfl, laidMet_of_run' 8 (by kernel_rfl) (by kernel_rfl), fun _ _ => ⟨[], by kernel_rfl⟩⟩
end Go.Proofs.YthokdbcpkmcieaaDoor
