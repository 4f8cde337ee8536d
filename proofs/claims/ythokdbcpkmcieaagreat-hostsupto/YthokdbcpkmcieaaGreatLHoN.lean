/- PROVED: for every image and every script whose values and letters are together at most 1048576, the law Hosts returns true and leaves its arguments as they were: two boards and up to four hosts of the program, with bytes on their way between them that are lost, doubled, spoilt or late, answer, say, tick and tell of themselves as the document's boards and hosts do, and a host begins where the image is whole and only there. Conditions: that bound alone. -/
import Derived.Test.YthokdbcpkmcieaaGreatRows
import Derived.Test.YthokdbcpkmcieaaGreatLHoL
import Derived.Test.YthokdbcpkmcieaaGreatLHoM
import Derived.OpenShut
import Derived.JoinedCond
import Derived.Carry
import Derived.Deep.Slices
import Derived.ChangeMaps5
import Derived.ChangeSlices
namespace Go.Proofs.YthokdbcpkmcieaaGreat
open Go.ChangeShapes Go.WideShapes Go.ChangeAt Go.RowKit Go.WideElems Go.Deep Go.ChangeMaps
theorem Tryz.own : ownKnob Tryz.prog.godebug = none := by kernel_rfl
theorem Tryz.laidOut : laidOutB Tryz.prog = true := by kernel_rfl
theorem int_bounds {z : Int} (h : (Lit.int .i64 z).wf = true) : -9223372036854775808 ≤ z ∧ z ≤ 9223372036854775807 := by simpa [Lit.wf, IntKind.min, IntKind.max, IntKind.signed, IntKind.bits] using h
theorem byte_bounds {z : Int} (h : (Lit.int .u8 z).wf = true) : 0 ≤ z ∧ z ≤ 255 := by simpa [Lit.wf, IntKind.min, IntKind.max, IntKind.signed, IntKind.bits] using h
instance : Inhabited ActD := ⟨⟨0, 0, 0, 0, 0, ⟨#[]⟩⟩⟩
theorem plays_hosts (v0 v1 v2 : Value) (im : Img) (a : Option Addr) (cap : Nat) (l : List ActD) (w : World) (hI : ImgAt w v0 v1 v2 im) (hf : ImgFew im) (hl : ActsAt w a l) (hH : ∀ i (h : i < l.length), -9223372036854775808 ≤ l[i].H ∧ l[i].H ≤ 9223372036854775807) (hn : l.length ≤ 1048576) (hs : sumAct l ≤ 1048576) :
    Calls Tryz.prog 5 #[.agg #[v0, v1, v2], .slice a l.length cap, .int .i64 1, .int .i64 17] w fun e w' => e = .returned (.bool true) ∧ Below w.heap.size w w' := by
  by_cases hw : wholeI im = true
  · exact plays_good v0 v1 v2 im a cap l w hI hf hw hl hH hn hs
  · exact plays_bad v0 v1 v2 im a cap l w hI hf (by simpa using hw) hl hH hn hs
set_option maxRecDepth 100000 in
set_option maxHeartbeats 1000000 in
theorem hosts_any (v0 v1 v2 : Value) (im : Img) (a : Option Addr) (cap : Nat) (l : List ActD) (w : World) (hI : ImgAt w v0 v1 v2 im) (hf : ImgFew im) (hl : ActsAt w a l) (hH : ∀ i (h : i < l.length), -9223372036854775808 ≤ l[i].H ∧ l[i].H ≤ 9223372036854775807) (hn : l.length ≤ 1048576) (hs : sumAct l ≤ 1048576) :
    Calls Tryz.prog 4 #[.agg #[v0, v1, v2], .slice a l.length cap] w fun e w' => e = .returned (.bool true) ∧ Below w.heap.size w w' := by
  obtain ⟨x0, y0, e0⟩ := hI.b.slice
  obtain ⟨x1, y1, e1⟩ := hI.l.slice
  obtain ⟨x2, y2, e2⟩ := hI.s.slice
  obtain ⟨W, hW, hBW, hzW, k0, k1, k2⟩ := img_cells w v0 v1 v2
  have HP := hideIt (plays_hosts v0 v1 v2 im a cap l W (hI.below hBW) hf (hl.below hBW) hH hn hs)
  have HBW := hideIt hBW
  subst e0 e1 e2
  clear hl hs hH hI hf hBW
  go_enter Tryz.func4, Tryz.ntmps4
  go_wp2_with fail
  refine HP.out.mono ?_
  rintro e w1 ⟨rfl, hB1⟩
  have HB1 := hideIt hB1
  clear hB1
  go_wp2
  go_ret
  exact ⟨rfl, HBW.out.trans (HB1.out.mono HBW.out.size)⟩
theorem bulk_acts {H : Type} (X : Nat → ActD) (D : Nat → DataW H) : ∀ l : List Nat, (∀ i ∈ l, (X i).S.size + 1 ≤ Rows.uptoBulk (D i)) → l.length + sumAct (l.map X) ≤ Rows.uptoBulkAll (l.map D)
  | [], _ => Nat.le_refl _
  | i :: l, h => by
    have h1 := h i (by simp)
    have h2 := bulk_acts X D l (fun j hj => h j (by simp [hj]))
    simp only [List.map_cons, Rows.uptoBulkAll, List.length_cons, sumAct]
    omega
/-- What one act is, in memory. -/
def ActIs (W : World) (b off i : Nat) (x : ActD) : Prop := W.cell? ⟨b, off + i * 6, none⟩ = some (.int .i64 x.K) ∧ W.cell? ⟨b, off + i * 6 + 1, none⟩ = some (.int .i64 x.B) ∧ W.cell? ⟨b, off + i * 6 + 2, none⟩ = some (.int .i64 x.H) ∧ W.cell? ⟨b, off + i * 6 + 3, none⟩ = some (.int .i64 x.A) ∧ W.cell? ⟨b, off + i * 6 + 4, none⟩ = some (.int .i64 x.C) ∧ W.cell? ⟨b, off + i * 6 + 5, none⟩ = some (.string x.S) ∧ (-9223372036854775808 ≤ x.B ∧ x.B ≤ 9223372036854775807) ∧ (-9223372036854775808 ≤ x.A ∧ x.A ≤ 9223372036854775807)
theorem six_of {α : Type} {l : List α} (h : l.length = 6) : ∃ a b c d e f, l = [a, b, c, d, e, f] := by
  match l, h with
  | [a, b, c, d, e, f], _ => exact ⟨a, b, c, d, e, f, rfl⟩
set_option maxRecDepth 100000 in
/-- One act that came in. -/
theorem act_in {H : Type} {enc : TypeId × Value → H} {W : World} {b off i n : Nat} {cs : List Value} {x : DataW H × List MemPlace} (h1 : W.cells? 0 ⟨b, off + i * 6, none⟩ 6 = some cs) (h2 : DataW.trod enc Tryz.prog W 0 (fun _ => true) true n 51 cs = some x) :
    ∃ y, (ActIs W b off i y ∧ (-9223372036854775808 ≤ y.H ∧ y.H ≤ 9223372036854775807)) ∧ y.S.size + 1 ≤ Rows.uptoBulk x.1 := by
  obtain ⟨_, hl6, hat⟩ := World.cells?_some h1
  obtain ⟨xs, n', _, rfl, _, hlen, hf⟩ := DataW.trod_struct Tryz.underlying51 h2
  obtain ⟨u0, u1, u2, u3, u4, u5, rfl⟩ := six_of hl6
  obtain ⟨y0, y1, y2, y3, y4, y5, rfl⟩ := six_of hlen
  · obtain ⟨z0, e0, x0, w0⟩ := DataW.trod_int Tryz.underlying3 (show DataW.trod enc Tryz.prog W 0 (fun _ => true) true n' 3 [u0] = some y0 from hf 0 _ rfl)
    obtain ⟨z1, e1, x1, w1⟩ := DataW.trod_int Tryz.underlying3 (show DataW.trod enc Tryz.prog W 0 (fun _ => true) true n' 3 [u1] = some y1 from hf 1 _ rfl)
    obtain ⟨z2, e2, x2, w2⟩ := DataW.trod_int Tryz.underlying3 (show DataW.trod enc Tryz.prog W 0 (fun _ => true) true n' 3 [u2] = some y2 from hf 2 _ rfl)
    obtain ⟨z3, e3, x3, w3⟩ := DataW.trod_int Tryz.underlying3 (show DataW.trod enc Tryz.prog W 0 (fun _ => true) true n' 3 [u3] = some y3 from hf 3 _ rfl)
    obtain ⟨z4, e4, x4, w4⟩ := DataW.trod_int Tryz.underlying3 (show DataW.trod enc Tryz.prog W 0 (fun _ => true) true n' 3 [u4] = some y4 from hf 4 _ rfl)
    obtain ⟨s, e5, x5, w5⟩ := DataW.trod_string Tryz.underlying9 (show DataW.trod enc Tryz.prog W 0 (fun _ => true) true n' 9 [u5] = some y5 from hf 5 _ rfl)
    simp only [List.cons.injEq, and_true] at e0 e1 e2 e3 e4 e5
    subst e0 e1 e2 e3 e4 e5 x0 x1 x2 x3 x4 x5
    have hs : s.data.toList.length = s.size := by rw [Array.length_toList]; rfl
    refine ⟨⟨z0, z1, z2, z3, z4, s⟩, ⟨⟨?_, ?_, ?_, ?_, ?_, ?_, int_bounds w1, int_bounds w3⟩, int_bounds w2⟩, ?_⟩
    · have := hat 0 (by omega); simpa [Addr.add] using this
    · have := hat 1 (by omega); simpa [Addr.add] using this
    · have := hat 2 (by omega); simpa [Addr.add] using this
    · have := hat 3 (by omega); simpa [Addr.add] using this
    · have := hat 4 (by omega); simpa [Addr.add] using this
    · have := hat 5 (by omega); simpa [Addr.add] using this
    · simp only [List.map_cons, List.map_nil, Rows.uptoBulk, Rows.uptoBulkAll, hs]
      omega
set_option maxRecDepth 100000 in
/-- A script that came in. -/
theorem acts_in {H : Type} {enc : TypeId × Value → H} {W : World} {base : Nat} {v : Value} {d : DataW H} {p : List MemPlace} (hok : Value.okWide Tryz.prog W .any base 22 v) (h : ∃ fuel, DataW.trod enc Tryz.prog W 0 (fun _ => true) true fuel 22 v.cells.toList = some (d, p)) (hb : Rows.uptoBulk d ≤ 1048576) :
    ∃ a c l, v = .slice a l.length c ∧ ActsAt W a l ∧ (∀ i (h : i < l.length), -9223372036854775808 ≤ l[i].H ∧ l[i].H ≤ 9223372036854775807) ∧ l.length ≤ 1048576 ∧ sumAct l ≤ 1048576 := by
  obtain ⟨ca, cn, cc, rfl⟩ := okWide_slice Tryz.underlying22 hok
  obtain ⟨fuel, hf⟩ := h
  rcases open_slice Tryz.underlying22 hf with ⟨hcs, hx⟩ | ⟨a, len, cap, mm, n, D, Pl, hcs, _, hlc, hcm, hmm, hx, hel⟩
  · simp [Value.cells] at hcs
    obtain ⟨rfl, rfl, rfl⟩ := hcs
    exact ⟨none, 0, [], rfl, fun i hi => absurd hi (Nat.not_lt_zero _), fun i hi => absurd hi (Nat.not_lt_zero _), Nat.zero_le _, Nat.zero_le _⟩
  · simp [Value.cells] at hcs
    obtain ⟨rfl, rfl, rfl⟩ := hcs
    simp only [if_true] at hmm
    simp only [Prod.mk.injEq] at hx
    obtain ⟨rfl, _⟩ := hx
    have hcell : Tryz.prog.cellsOf 51 = 6 := by kernel_rfl
    by_cases hz : cn = 0
    · subst hz
      exact ⟨some a, cc, [], rfl, fun i hi => absurd hi (Nat.not_lt_zero _), fun i hi => absurd hi (Nat.not_lt_zero _), Nat.zero_le _, Nat.zero_le _⟩
    · obtain ⟨cs0, h10, _⟩ := hel 0 (by omega)
      rw [hcell] at h10
      obtain ⟨_, hl0, hat0⟩ := World.cells?_some h10
      obtain ⟨q0, q1, q2, q3, q4, q5, rfl⟩ := six_of hl0
      obtain ⟨b, off, spot⟩ := a
      have c0 : W.cell? _ = some q0 := hat0 0 (by omega)
      have hspot : spot = none := by simpa [Addr.add] using World.cell?_spot c0
      subst hspot
      have hbl : b < W.heap.size := by have := World.block_lt_of_cell? _ _ c0; simpa [Addr.add] using this
      have hall : ∀ i, i < cn → ∃ y, (ActIs W b off i y ∧ (-9223372036854775808 ≤ y.H ∧ y.H ≤ 9223372036854775807)) ∧ y.S.size + 1 ≤ Rows.uptoBulk (D i) := fun i hi => by
        obtain ⟨cs', h1, h2⟩ := hel i (by omega)
        rw [hcell, Addr.add_lit] at h1
        exact act_in h1 h2
      obtain ⟨X, hX⟩ := choose_lt (α := ActD) (p := fun i y => (ActIs W b off i y ∧ (-9223372036854775808 ≤ y.H ∧ y.H ≤ 9223372036854775807)) ∧ y.S.size + 1 ≤ Rows.uptoBulk (D i)) hall
      have hbk := bulk_acts X D (List.range cn) (fun i hi => (hX i (by simpa using hi)).2)
      simp only [Rows.uptoBulk] at hb
      rw [List.length_range] at hbk
      refine ⟨some ⟨b, off, none⟩, cc, (List.range cn).map X, by simp, fun i hi => ?_, fun i hi => ?_, by simp; omega, by omega⟩
      · simp only [List.length_map, List.length_range] at hi
        have hx := (hX i hi).1.1
        refine ⟨b, off, rfl, hbl, ?_⟩
        rw [List.getElem_map, List.getElem_range]
        exact hx
      · simp only [List.length_map, List.length_range] at hi
        have hx := (hX i hi).1.2
        rw [List.getElem_map, List.getElem_range]
        exact hx
theorem bulk_len {H : Type} (D : Nat → DataW H) : ∀ l : List Nat, (∀ i ∈ l, 1 ≤ Rows.uptoBulk (D i)) → l.length ≤ Rows.uptoBulkAll (l.map D)
  | [], _ => Nat.le_refl _
  | i :: l, h => by
    have h1 := h i (by simp)
    have h2 := bulk_len D l (fun j hj => h j (by simp [hj]))
    simp only [List.map_cons, Rows.uptoBulkAll, List.length_cons]
    omega
/-- A list that came in, of one cell a member. -/
theorem list_in {H α : Type} [Inhabited α] {enc : TypeId × Value → H} {W : World} {t e : TypeId} {fuel : Nat} {v : Value} {x : DataW H × List MemPlace} (F : α → Value) (ht : Tryz.prog.underlying t = some (.slice e)) (hc : Tryz.prog.cellsOf e = 1) (h : DataW.trod enc Tryz.prog W 0 (fun _ => true) true fuel t [v] = some x) (hb : Rows.uptoBulk x.1 ≤ 1048576)
    (hF : ∀ n u D Pl, DataW.trod enc Tryz.prog W 0 (fun _ => true) true n e [u] = some (D, Pl) → (∃ y, u = F y) ∧ 1 ≤ Rows.uptoBulk D) : ∃ l : List α, SlV W v (l.map F) ∧ l.length ≤ 1048576 := by
  rcases open_slice1 ht hc h with ⟨hcs, hx⟩ | ⟨a, len, cap, mm, n, V, D, Pl, hcs, _, hlc, hcm, hmm, hx, hel⟩
  · simp only [List.cons.injEq, and_true] at hcs
    subst hcs
    exact ⟨[], ⟨none, 0, rfl, Nat.le_refl _, by omega, fun e => absurd e (Nat.lt_irrefl _)⟩, Nat.zero_le _⟩
  · simp only [List.cons.injEq, and_true] at hcs
    subst hcs
    simp only [if_true] at hmm
    subst hmm hx
    simp only [Rows.uptoBulk] at hb
    have hall : ∀ i, i < len → ∃ y, V i = F y := fun i hi => (hF _ _ _ _ (hel i (by omega)).2).1
    obtain ⟨X, hX⟩ := choose_lt (α := α) (p := fun i y => V i = F y) hall
    have hbk := bulk_len D (List.range len) (fun i hi => (hF _ _ _ _ (hel i (by have q : i < len := (by simpa using hi); omega)).2).2)
    rw [List.length_range] at hbk
    refine ⟨(List.range len).map X, ⟨some a, mm, by simp, by simp; omega, by unfold maxLen at hcm; omega, fun hl => ?_⟩, by simp; omega⟩
    simp only [List.length_map, List.length_range] at hl
    obtain ⟨b, off, spot⟩ := a
    have c0 := (hel 0 (by omega)).1
    have hspot : spot = none := by simpa [Addr.add] using World.cell?_spot c0
    subst hspot
    refine ⟨b, off, rfl, by have := World.block_lt_of_cell? _ _ c0; simpa [Addr.add] using this, fun i hi => ?_⟩
    simp only [List.length_map, List.length_range] at hi
    have ci := (hel i (by omega)).1
    rw [Addr.add_lit] at ci
    rw [ci, hX i hi]
    simp
theorem three_of {α : Type} {l : List α} (h : l.length = 3) : ∃ a b c, l = [a, b, c] := by
  match l, h with
  | [a, b, c], _ => exact ⟨a, b, c, rfl⟩
set_option maxRecDepth 100000 in
/-- An image that came in. -/
theorem image_in {H : Type} {enc : TypeId × Value → H} {W : World} {base : Nat} {v : Value} {d : DataW H} {p : List MemPlace} (hok : Value.okWide Tryz.prog W .any base 27 v) (h : ∃ fuel, DataW.trod enc Tryz.prog W 0 (fun _ => true) true fuel 27 v.cells.toList = some (d, p)) (hb : Rows.uptoBulk d ≤ 1048576) :
    ∃ v0 v1 v2 im, v = .agg #[v0, v1, v2] ∧ ImgAt W v0 v1 v2 im ∧ ImgFew im := by
  obtain ⟨cs, rfl, hsz⟩ := okWide_struct Tryz.underlying27 hok
  have hsz3 : cs.size = 3 := by rw [hsz]; kernel_rfl
  obtain ⟨fuel, hf⟩ := h
  have hcs : (Value.agg cs).cells = cs := rfl
  rw [hcs] at hf
  obtain ⟨xs, n', _, hx, _, hlen, hfs⟩ := DataW.trod_struct Tryz.underlying27 hf
  obtain ⟨c0, c1, c2, hc3⟩ := three_of (l := cs.toList) (by rw [Array.length_toList]; exact hsz3)
  obtain ⟨y0, y1, y2, rfl⟩ := three_of hlen
  obtain rfl : cs = #[c0, c1, c2] := by cases cs; simp_all
  simp only [Prod.mk.injEq] at hx
  obtain ⟨rfl, _⟩ := hx
  simp only [List.map_cons, List.map_nil, Rows.uptoBulk, Rows.uptoBulkAll] at hb
  have hB : ∀ n u D Pl, DataW.trod enc Tryz.prog W 0 (fun _ => true) true n 5 [u] = some (D, Pl) → (∃ y : UInt8, u = .int .u8 (y.toNat : Int)) ∧ 1 ≤ Rows.uptoBulk D := fun n u D Pl hh => by
    obtain ⟨z, ez, ex, wz⟩ := DataW.trod_int Tryz.underlying5 hh
    simp only [List.cons.injEq, and_true] at ez
    simp only [Prod.mk.injEq] at ex
    obtain ⟨rfl, _⟩ := ex
    have hz := byte_bounds wz
    refine ⟨⟨UInt8.ofNat z.toNat, ?_⟩, Nat.le_refl _⟩
    rw [ez, UInt8.toNat_ofNat']
    congr 1
    omega
  have hL : ∀ n u D Pl, DataW.trod enc Tryz.prog W 0 (fun _ => true) true n 4 [u] = some (D, Pl) → (∃ y : Bool, u = .bool y) ∧ 1 ≤ Rows.uptoBulk D := fun n u D Pl hh => by
    obtain ⟨z, ez, ex⟩ := DataW.trod_bool Tryz.underlying4 hh
    simp only [List.cons.injEq, and_true] at ez
    simp only [Prod.mk.injEq] at ex
    obtain ⟨rfl, _⟩ := ex
    exact ⟨⟨z, ez⟩, Nat.le_refl _⟩
  obtain ⟨l0, s0, m0⟩ := list_in (fun b : UInt8 => .int .u8 (b.toNat : Int)) Tryz.underlying24 (by kernel_rfl) (show DataW.trod enc Tryz.prog W 0 (fun _ => true) true n' 24 [c0] = some y0 from hfs 0 _ rfl) (by omega) hB
  obtain ⟨l1, s1, m1⟩ := list_in Value.bool Tryz.underlying25 (by kernel_rfl) (show DataW.trod enc Tryz.prog W 0 (fun _ => true) true n' 25 [c1] = some y1 from hfs 1 _ rfl) (by omega) hL
  obtain ⟨l2, s2, m2⟩ := list_in Value.bool Tryz.underlying25 (by kernel_rfl) (show DataW.trod enc Tryz.prog W 0 (fun _ => true) true n' 25 [c2] = some y2 from hfs 2 _ rfl) (by omega) hL
  exact ⟨c0, c1, c2, ⟨l0, l1, l2⟩, rfl, ⟨s0, s1, s2⟩, by simp only; omega, by simp only; omega, by simp only; omega⟩
set_option maxRecDepth 100000 in
set_option maxHeartbeats 1000000 in
theorem hosts_contract (H : Type) (enc : TypeId × Value → H) (W : World) (base : Nat) (args : Array Value) (ds gs : List (DataW H)) (before : List MemPlace)
    (hval : ∀ (j : Nat) t v, Tryz.f4.params[j]? = some t → args[j]? = some v → Value.okWide Tryz.prog W .any base t v)
    (hW : DataW.Whole enc Tryz.prog Tryz.f4.params.toList Rows.hostsSpec.vars false W args.toList ds gs before) (hk : Rows.uptoSmall H (ds ++ gs) = true) :
    Calls Tryz.prog 4 args W fun e W' => ∃ v, e = .returned v ∧ Rows.hostsSpec.post enc Tryz.prog Tryz.f4 false true false false W args v W' := by
  have hW' := hW
  obtain ⟨p, q, hA0, hV, rfl, hfz, hnd⟩ := hW
  have hA : DataW.TrodAll enc Tryz.prog W 0 (fun _ => true) true Tryz.f4.params.toList args.toList ds p := hA0
  rw [Tryz.params4] at hA hval
  obtain ⟨v0, v1, d0, d1, p0, p1, hargs, rfl, rfl, h0, h1⟩ := trodAll_two hA
  obtain rfl : args = #[v0, v1] := by cases args; simp_all
  obtain ⟨rfl, rfl⟩ := trodVars_none hV
  clear hA0
  simp only [List.append_nil] at hW'
  have hlt : ∀ x ∈ p0 ++ p1, x.block < W.heap.size := fun x hx => by simpa using hW'.lt x hx
  have hbulk : Rows.uptoBulkAll ([d0, d1] ++ []) ≤ 1048576 := of_decide_eq_true hk
  simp only [List.append_nil, Rows.uptoBulkAll] at hbulk
  obtain ⟨i0, i1, i2, im, rfl, hI, hf⟩ := image_in (hval 0 27 v0 rfl rfl) h0 (by omega)
  obtain ⟨a0, c0, l0, rfl, t0, b0, u0, s0⟩ := acts_in (hval 1 22 v1 rfl rfl) h1 (by omega)
  refine (hosts_any i0 i1 i2 im a0 c0 l0 W hI hf t0 b0 u0 s0).mono fun e W' ⟨he, hB⟩ => ?_
  subst he
  refine ⟨_, rfl, _, _, _, [], p0 ++ p1, [], hW', ?_, ?_, rfl, hB.frame _, fun h => by cases h⟩
  · exact trodAll_mk1 (shut_bool Tryz.underlying4 _)
  · exact trodAll_mk2 (Below.trod Tryz.laidOut (by kernel_rfl) (of_decide_eq_true (by kernel_rfl)) h0 hB (fun x hx => hlt x (List.mem_append_left _ hx))) (Below.trod Tryz.laidOut (by kernel_rfl) (of_decide_eq_true (by kernel_rfl)) h1 hB (fun x hx => hlt x (List.mem_append_right _ hx)))
set_option maxRecDepth 100000 in
theorem hosts_lifted (os : Os) (started : os.Started) (H : Type) (enc : TypeId × Value → H) (F : Stop.Interp) :
    ReturnsInHanded {} Tryz.checked os 4 .any ((Rows.OpenSpec.upto Rows.hostsSpec).pre6 enc Tryz.prog Tryz.f4 Rows.hostsUptoRow.domain false) (((Rows.OpenSpec.upto Rows.hostsSpec).at F).post enc Tryz.prog Tryz.f4 false true false false) := by
  refine returnsInHanded_of_cond (C := Tryz.checked) (s := Rows.OpenSpec.upto Rows.hostsSpec) (k := Rows.uptoSmall) rfl Tryz.own started (by kernel_rfl) Tryz.func4
    (OpenSpec.witness (enc := enc) (C := Tryz.checked) (s := Rows.OpenSpec.upto Rows.hostsSpec) (k := Rows.uptoSmall) rfl false ⟨#[], #[.agg #[.slice none 0 0, .slice none 0 0, .slice none 0 0], .slice none 0 0], []⟩ 8 (by kernel_rfl) (by kernel_rfl) (by kernel_rfl)
      (x := ([.agg [.nil, .nil, .nil], .nil], [], [])) (by kernel_rfl) rfl (by kernel_rfl)) ?_
  intro W base args ds gs before hval hW _ hk _
  exact hosts_contract H enc W base args ds gs before hval hW hk
/-- The statement. -/
theorem hosts_upto : Rows.HostsUptoSaid :=
  OpenClaim.holds_of_cond 4 Tryz.f4 rfl rfl rfl rfl rfl rfl rfl ⟨rfl, rfl, rfl, rfl, rfl⟩ rfl rfl rfl rfl rfl (by kernel_rfl) Tryz.func4 (by kernel_rfl)
    (of_decide_eq_true (by kernel_rfl)) (by unfold Func.isWrapper; first | (rw [if_pos (by decide +kernel)]; kernel_rfl) | (rw [if_neg (by decide +kernel)]; exact ⟨rfl, rfl⟩))
    (fun os started H enc _ F => hosts_lifted os started H enc F)
end Go.Proofs.YthokdbcpkmcieaaGreat
