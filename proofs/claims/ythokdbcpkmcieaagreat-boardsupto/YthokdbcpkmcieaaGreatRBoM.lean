/- PROVED: for every script whose values and letters are together at most 1048576, the law Boards returns true and leaves its argument as it was: two boards of the program, which hear any bytes and messages, lose their power at any stroke and begin anew, answer as the document's boards do, and what they tell of themselves at the end is the same. Conditions: that bound alone. -/
import Derived.Test.YthokdbcpkmcieaaGreatRows
import Derived.Test.YthokdbcpkmcieaaGreatRBoL
import Derived.OpenShut
import Derived.JoinedCond
import Derived.Carry
import Derived.Deep.Slices
import Derived.ChangeMaps5
import Derived.ChangeSlices
namespace Go.Proofs.YthokdbcpkmcieaaGreat
open Go.ChangeShapes Go.WideShapes Go.ChangeAt Go.RowKit Go.WideElems Go.Deep Go.ChangeMaps
theorem Tryz.own : ownKnob Tryz.prog.godebug = none := by kernel_rfl
theorem Tryz.laidOut : laidOutB Tryz.prog = true := by kernel_rfl
theorem int_bounds {z : Int} (h : (Lit.int .i64 z).wf = true) : -9223372036854775808 ≤ z ∧ z ≤ 9223372036854775807 := by simpa [Lit.wf, IntKind.min, IntKind.max, IntKind.signed, IntKind.bits] using h
instance : Inhabited ActD := ⟨⟨0, 0, 0, 0, 0, ⟨#[]⟩⟩⟩
set_option maxRecDepth 100000 in
set_option maxHeartbeats 1000000 in
theorem boards_any (a : Option Addr) (cap : Nat) (l : List ActD) (w : World) (hl : ActsAt w a l) (hn : l.length ≤ 1048576) (hs : sumAct l ≤ 1048576) :
    Calls Tryz.prog 3 #[.slice a l.length cap] w fun e w' => e = .returned (.bool true) ∧ Below w.heap.size w w' := by
  have HP := hideIt (plays_any a cap l w hl hn hs)
  clear hl hs
  go_enter Tryz.func3, Tryz.ntmps3
  go_wp2_with fail
  refine HP.out.mono ?_
  rintro e w1 ⟨rfl, hB1⟩
  have HB1 := hideIt hB1
  clear hB1
  go_wp2
  go_ret
  exact ⟨rfl, HB1.out⟩
theorem bulk_acts {H : Type} (X : Nat → ActD) (D : Nat → DataW H) : ∀ l : List Nat, (∀ i ∈ l, (X i).S.size + 1 ≤ Rows.uptoBulk (D i)) → l.length + sumAct (l.map X) ≤ Rows.uptoBulkAll (l.map D)
  | [], _ => Nat.le_refl _
  | i :: l, h => by
    have h1 := h i (by simp)
    have h2 := bulk_acts X D l (fun j hj => h j (by simp [hj]))
    simp only [List.map_cons, Rows.uptoBulkAll, List.length_cons, sumAct]
    omega
/-- What one act is, in memory. -/
def ActIs (W : World) (b off i : Nat) (x : ActD) : Prop := W.cell? ⟨b, off + i * 6, none⟩ = some (.int .i64 x.K) ∧ W.cell? ⟨b, off + i * 6 + 1, none⟩ = some (.int .i64 x.B) ∧ W.cell? ⟨b, off + i * 6 + 2, none⟩ = some (.int .i64 x.H) ∧ W.cell? ⟨b, off + i * 6 + 3, none⟩ = some (.int .i64 x.A) ∧ W.cell? ⟨b, off + i * 6 + 4, none⟩ = some (.int .i64 x.C) ∧ W.cell? ⟨b, off + i * 6 + 5, none⟩ = some (.string x.S) ∧ (-9223372036854775808 ≤ x.B ∧ x.B ≤ 9223372036854775807) ∧ (-9223372036854775808 ≤ x.A ∧ x.A ≤ 9223372036854775807)
theorem six_of {α : Type} {l : List α} (h : l.length = 6) : ∃ a b c d e f, l = [a, b, c, d, e, f] := by
  match l, h with
  | [a, b, c, d, e, f], _ => exact ⟨a, b, c, d, e, f, rfl⟩
set_option maxRecDepth 100000 in
/-- One act that came in. -/
theorem act_in {H : Type} {enc : TypeId × Value → H} {W : World} {b off i n : Nat} {cs : List Value} {x : DataW H × List MemPlace} (h1 : W.cells? 0 ⟨b, off + i * 6, none⟩ 6 = some cs) (h2 : DataW.trod enc Tryz.prog W 0 (fun _ => true) true n 51 cs = some x) :
    ∃ y, ActIs W b off i y ∧ y.S.size + 1 ≤ Rows.uptoBulk x.1 := by
  obtain ⟨_, hl6, hat⟩ := World.cells?_some h1
  obtain ⟨xs, n', _, rfl, _, hlen, hf⟩ := DataW.trod_struct Tryz.underlying51 h2
  obtain ⟨u0, u1, u2, u3, u4, u5, rfl⟩ := six_of hl6
  obtain ⟨y0, y1, y2, y3, y4, y5, rfl⟩ := six_of hlen
  · obtain ⟨z0, e0, x0, w0⟩ := DataW.trod_int Tryz.underlying3 (show DataW.trod enc Tryz.prog W 0 (fun _ => true) true n' 3 [u0] = some y0 from hf 0 _ rfl)
    obtain ⟨z1, e1, x1, w1⟩ := DataW.trod_int Tryz.underlying3 (show DataW.trod enc Tryz.prog W 0 (fun _ => true) true n' 3 [u1] = some y1 from hf 1 _ rfl)
    obtain ⟨z2, e2, x2, w2⟩ := DataW.trod_int Tryz.underlying3 (show DataW.trod enc Tryz.prog W 0 (fun _ => true) true n' 3 [u2] = some y2 from hf 2 _ rfl)
    obtain ⟨z3, e3, x3, w3⟩ := DataW.trod_int Tryz.underlying3 (show DataW.trod enc Tryz.prog W 0 (fun _ => true) true n' 3 [u3] = some y3 from hf 3 _ rfl)
    obtain ⟨z4, e4, x4, w4⟩ := DataW.trod_int Tryz.underlying3 (show DataW.trod enc Tryz.prog W 0 (fun _ => true) true n' 3 [u4] = some y4 from hf 4 _ rfl)
    obtain ⟨s, e5, x5, w5⟩ := DataW.trod_string Tryz.underlying9 (show DataW.trod enc Tryz.prog W 0 (fun _ => true) true n' 9 [u5] = some y5 from hf 5 _ rfl)
    simp only [List.cons.injEq, and_true] at e0 e1 e2 e3 e4 e5
    subst e0 e1 e2 e3 e4 e5 x0 x1 x2 x3 x4 x5
    have hs : s.data.toList.length = s.size := by rw [Array.length_toList]; rfl
    refine ⟨⟨z0, z1, z2, z3, z4, s⟩, ⟨?_, ?_, ?_, ?_, ?_, ?_, int_bounds w1, int_bounds w3⟩, ?_⟩
    · have := hat 0 (by omega); simpa [Addr.add] using this
    · have := hat 1 (by omega); simpa [Addr.add] using this
    · have := hat 2 (by omega); simpa [Addr.add] using this
    · have := hat 3 (by omega); simpa [Addr.add] using this
    · have := hat 4 (by omega); simpa [Addr.add] using this
    · have := hat 5 (by omega); simpa [Addr.add] using this
    · simp only [List.map_cons, List.map_nil, Rows.uptoBulk, Rows.uptoBulkAll, hs]
      omega
set_option maxRecDepth 100000 in
/-- A script that came in. -/
theorem acts_in {H : Type} {enc : TypeId × Value → H} {W : World} {base : Nat} {v : Value} {d : DataW H} {p : List MemPlace} (hok : Value.okWide Tryz.prog W .any base 22 v) (h : ∃ fuel, DataW.trod enc Tryz.prog W 0 (fun _ => true) true fuel 22 v.cells.toList = some (d, p)) (hb : Rows.uptoBulk d ≤ 1048576) :
    ∃ a c l, v = .slice a l.length c ∧ ActsAt W a l ∧ l.length ≤ 1048576 ∧ sumAct l ≤ 1048576 := by
  obtain ⟨ca, cn, cc, rfl⟩ := okWide_slice Tryz.underlying22 hok
  obtain ⟨fuel, hf⟩ := h
  rcases open_slice Tryz.underlying22 hf with ⟨hcs, hx⟩ | ⟨a, len, cap, mm, n, D, Pl, hcs, _, hlc, hcm, hmm, hx, hel⟩
  · simp [Value.cells] at hcs
    obtain ⟨rfl, rfl, rfl⟩ := hcs
    exact ⟨none, 0, [], rfl, fun i hi => absurd hi (Nat.not_lt_zero _), Nat.zero_le _, Nat.zero_le _⟩
  · simp [Value.cells] at hcs
    obtain ⟨rfl, rfl, rfl⟩ := hcs
    simp only [if_true] at hmm
    simp only [Prod.mk.injEq] at hx
    obtain ⟨rfl, _⟩ := hx
    have hcell : Tryz.prog.cellsOf 51 = 6 := by kernel_rfl
    by_cases hz : cn = 0
    · subst hz
      exact ⟨some a, cc, [], rfl, fun i hi => absurd hi (Nat.not_lt_zero _), Nat.zero_le _, Nat.zero_le _⟩
    · obtain ⟨cs0, h10, _⟩ := hel 0 (by omega)
      rw [hcell] at h10
      obtain ⟨_, hl0, hat0⟩ := World.cells?_some h10
      obtain ⟨q0, q1, q2, q3, q4, q5, rfl⟩ := six_of hl0
      obtain ⟨b, off, spot⟩ := a
      have c0 : W.cell? _ = some q0 := hat0 0 (by omega)
      have hspot : spot = none := by simpa [Addr.add] using World.cell?_spot c0
      subst hspot
      have hbl : b < W.heap.size := by have := World.block_lt_of_cell? _ _ c0; simpa [Addr.add] using this
      have hall : ∀ i, i < cn → ∃ y, ActIs W b off i y ∧ y.S.size + 1 ≤ Rows.uptoBulk (D i) := fun i hi => by
        obtain ⟨cs', h1, h2⟩ := hel i (by omega)
        rw [hcell, Addr.add_lit] at h1
        exact act_in h1 h2
      obtain ⟨X, hX⟩ := choose_lt (α := ActD) (p := fun i y => ActIs W b off i y ∧ y.S.size + 1 ≤ Rows.uptoBulk (D i)) hall
      have hbk := bulk_acts X D (List.range cn) (fun i hi => (hX i (by simpa using hi)).2)
      simp only [Rows.uptoBulk] at hb
      rw [List.length_range] at hbk
      refine ⟨some ⟨b, off, none⟩, cc, (List.range cn).map X, by simp, fun i hi => ?_, by simp; omega, by omega⟩
      simp only [List.length_map, List.length_range] at hi
      have hx := (hX i hi).1
      refine ⟨b, off, rfl, hbl, ?_⟩
      rw [List.getElem_map, List.getElem_range]
      exact hx
set_option maxRecDepth 100000 in
set_option maxHeartbeats 1000000 in
theorem boards_contract (H : Type) (enc : TypeId × Value → H) (W : World) (base : Nat) (args : Array Value) (ds gs : List (DataW H)) (before : List MemPlace)
    (hval : ∀ (j : Nat) t v, Tryz.f3.params[j]? = some t → args[j]? = some v → Value.okWide Tryz.prog W .any base t v)
    (hW : DataW.Whole enc Tryz.prog Tryz.f3.params.toList Rows.boardsSpec.vars false W args.toList ds gs before) (hk : Rows.uptoSmall H (ds ++ gs) = true) :
    Calls Tryz.prog 3 args W fun e W' => ∃ v, e = .returned v ∧ Rows.boardsSpec.post enc Tryz.prog Tryz.f3 false true false false W args v W' := by
  have hW' := hW
  obtain ⟨p, q, hA0, hV, rfl, hfz, hnd⟩ := hW
  have hA : DataW.TrodAll enc Tryz.prog W 0 (fun _ => true) true Tryz.f3.params.toList args.toList ds p := hA0
  rw [Tryz.params3] at hA hval
  obtain ⟨v0, d0, hargs, rfl, h0⟩ := trodAll_one hA
  obtain rfl : args = #[v0] := by cases args; simp_all
  obtain ⟨rfl, rfl⟩ := trodVars_none hV
  clear hA0
  simp only [List.append_nil] at hW'
  have hlt : ∀ x ∈ p, x.block < W.heap.size := fun x hx => by simpa using hW'.lt x hx
  have hbulk : Rows.uptoBulkAll ([d0] ++ []) ≤ 1048576 := of_decide_eq_true hk
  simp only [List.append_nil, Rows.uptoBulkAll] at hbulk
  obtain ⟨a0, c0, l0, rfl, t0, u0, s0⟩ := acts_in (hval 0 22 v0 rfl rfl) h0 (by omega)
  refine (boards_any a0 c0 l0 W t0 u0 s0).mono fun e W' ⟨he, hB⟩ => ?_
  subst he
  refine ⟨_, rfl, _, _, _, [], p, [], hW', ?_, ?_, rfl, hB.frame _, fun h => by cases h⟩
  · exact trodAll_mk1 (shut_bool Tryz.underlying4 _)
  · exact trodAll_mk1 (Below.trod Tryz.laidOut (by kernel_rfl) (of_decide_eq_true (by kernel_rfl)) h0 hB hlt)
set_option maxRecDepth 100000 in
theorem boards_lifted (os : Os) (started : os.Started) (H : Type) (enc : TypeId × Value → H) (F : Stop.Interp) :
    ReturnsInHanded {} Tryz.checked os 3 .any ((Rows.OpenSpec.upto Rows.boardsSpec).pre6 enc Tryz.prog Tryz.f3 Rows.boardsUptoRow.domain false) (((Rows.OpenSpec.upto Rows.boardsSpec).at F).post enc Tryz.prog Tryz.f3 false true false false) := by
  refine returnsInHanded_of_cond (C := Tryz.checked) (s := Rows.OpenSpec.upto Rows.boardsSpec) (k := Rows.uptoSmall) rfl Tryz.own started (by kernel_rfl) Tryz.func3
    (OpenSpec.witness (enc := enc) (C := Tryz.checked) (s := Rows.OpenSpec.upto Rows.boardsSpec) (k := Rows.uptoSmall) rfl false ⟨#[], #[.slice none 0 0], []⟩ 8 (by kernel_rfl) (by kernel_rfl) (by kernel_rfl)
      (x := ([.nil], [], [])) (by kernel_rfl) rfl (by kernel_rfl)) ?_
  intro W base args ds gs before hval hW _ hk _
  exact boards_contract H enc W base args ds gs before hval hW hk
/-- The statement. -/
theorem boards_upto : Rows.BoardsUptoSaid :=
  OpenClaim.holds_of_cond 3 Tryz.f3 rfl rfl rfl rfl rfl rfl rfl ⟨rfl, rfl, rfl, rfl, rfl⟩ rfl rfl rfl rfl rfl (by kernel_rfl) Tryz.func3 (by kernel_rfl)
    (of_decide_eq_true (by kernel_rfl)) (by unfold Func.isWrapper; first | (rw [if_pos (by decide +kernel)]; kernel_rfl) | (rw [if_neg (by decide +kernel)]; exact ⟨rfl, rfl⟩))
    (fun os started H enc _ F => boards_lifted os started H enc F)
end Go.Proofs.YthokdbcpkmcieaaGreat
