/- What an expression comes to: walks of term.value and expression.value. The assembler's state; knows, number. slices.Grow, slices.Concat at texts. slices.Concat at texts. -/
import Derived.Test.YthokdbcpkmcieaaGreatDoorA07
import Derived.Test.YthokdbcpkmcieaaGreatDoorA23
import Derived.Deep.RegionHeld3
import Derived.Lib.AppendZerosOnto
namespace Go.Proofs.YthokdbcpkmcieaaGreatDoor
open Go Go.RowKit Go.Maps Go.WideMaps
/-- The names' map: what each name means. -/
def NamesAt (w : World) (nb n : Nat) (nm : List UInt8 → Option Int) : Prop := MapAt Tryz.prog 9 w nb n (fun l => (nm l).map fun x => .int .i64 x)
theorem NamesAt.below {w w' : World} {nb n : Nat} {nm : List UInt8 → Option Int} (h : NamesAt w nb n nm) (hb : Below w.heap.size w w') : NamesAt w' nb n nm := MapAt.below h hb (MapAt.lt h)
def trmN (nm : List UInt8 → Option Int) (pl : Int) (t : Trm) : Int := if t.name.size ≠ 0 then (nm t.name.data.toList).getD 0 else if t.here = true then pl else t.num
/-- The terms are added up from the left; none: beyond a million on the way. -/
def valF (nm : List UInt8 → Option Int) (pl : Int) : Int → List Trm → Option Int
  | s, [] => some s
  | s, t :: l => if (if t.minus = true then s - trmN nm pl t else s + trmN nm pl t) < -1000000 ∨ 1000000 < (if t.minus = true then s - trmN nm pl t else s + trmN nm pl t) then none else valF nm pl (if t.minus = true then s - trmN nm pl t else s + trmN nm pl t) l
set_option maxRecDepth 100000 in
set_option maxHeartbeats 1000000 in
theorem termValue_any (w : World) (nb n : Nat) (nm : List UInt8 → Option Int) (pl : Int) (t : Trm) (h : NamesAt w nb n nm) (hs : t.name.size ≤ 1000000) :
    Calls Tryz.prog 254 #[.agg #[.bool t.minus, .string t.name, .bool t.here, .int .i64 t.num], .map (some nb), .int .i64 pl] w fun e w' => e = .returned (.int .i64 (trmN nm pl t)) ∧ Below w.heap.size w w' := by
  have hbw : ∀ o, Below w.heap.size w (w.alloc o) := fun o => (Below.refl _ _).alloc (Nat.le_refl _) _
  by_cases h1 : t.name.size = 0
  · have hem : t.name.toList.isEmpty = true := by rw [isEmpty_iff]; simp [h1]
    cases h2 : t.here with
    | true =>
      have e : trmN nm pl t = pl := by unfold trmN; rw [if_neg (by omega), if_pos h2]
      rw [e]
      go_enter Tryz.func254, Tryz.ntmps254
      go_wp2
      go_ret
      exact ⟨rfl, hbw _⟩
    | false =>
      have e : trmN nm pl t = t.num := by unfold trmN; rw [if_neg (by omega), if_neg (by simp [h2])]
      rw [e]
      go_enter Tryz.func254, Tryz.ntmps254
      go_wp2
      go_ret
      exact ⟨rfl, hbw _⟩
  · have hem : t.name.toList.isEmpty = false := by rw [isEmpty_iff, decide_eq_false_iff_not]; exact h1
    have hkey : keyOf Tryz.prog 9 (.string t.name) = some (.string t.name.data.toList) := keyOf_string_mk Tryz.underlying9 (by unfold maxLen; omega)
    have e : lookV false (.int .i64 0) ((nm t.name.data.toList).map fun x => .int .i64 x) = .int .i64 (trmN nm pl t) := by
      unfold trmN
      rw [if_pos h1]
      cases nm t.name.data.toList <;> rfl
    have hr : ∀ o, (Instr.lookup 119 (.map (some nb)) (.string t.name) false).run Tryz.prog (w.alloc o) = .ok (.int .i64 (trmN nm pl t)) (w.alloc o) := fun o => by
      rw [(MapAt.alloc h o).look strK Tryz.underlying119 (zeroInt _) hkey false, e]
    clear e hkey
    go_enter Tryz.func254, Tryz.ntmps254
    go_wp2
    go_ret
    exact ⟨rfl, hbw _⟩
theorem trmCells_at (l : List Trm) : ∀ (k : Nat) (t : Trm), l[k]? = some t → (trmCells l)[k * 4]? = some (.bool t.minus) ∧ (trmCells l)[k * 4 + 1]? = some (.string t.name) ∧ (trmCells l)[k * 4 + 2]? = some (.bool t.here) ∧ (trmCells l)[k * 4 + 3]? = some (.int .i64 t.num) := by
  induction l with
  | nil => intro k t h; simp at h
  | cons o l ih =>
    intro k t h
    cases k with
    | zero => simp at h; subst h; simp [trmCells, Trm.cells]
    | succ k =>
      have := ih k t (by simpa using h)
      have e : ∀ i, (trmCells (o :: l))[(k + 1) * 4 + i]? = (trmCells l)[k * 4 + i]? := by
        intro i
        rw [show (k + 1) * 4 + i = k * 4 + i + 1 + 1 + 1 + 1 by omega]
        simp [trmCells, Trm.cells]
      have e0 := e 0
      simp only [Nat.add_zero] at e0
      rw [e0, e 1, e 2, e 3]
      exact this
theorem valF_drop {nm : List UInt8 → Option Int} {pl s : Int} {l : List Trm} {k : Nat} {t : Trm} (h : l[k]? = some t) : valF nm pl s (l.drop k) = if (if t.minus = true then s - trmN nm pl t else s + trmN nm pl t) < -1000000 ∨ 1000000 < (if t.minus = true then s - trmN nm pl t else s + trmN nm pl t) then none else valF nm pl (if t.minus = true then s - trmN nm pl t else s + trmN nm pl t) (l.drop (k + 1)) := by
  have hk := (List.getElem?_eq_some_iff.1 h).1
  have ht := (List.getElem?_eq_some_iff.1 h).2
  rw [List.drop_eq_getElem_cons hk, ht]
  rfl
/-- What an expression's value comes to. -/
def valE (o : Option Int) : Ending := match o with
  | some v => .returned (.tuple #[.int .i64 v, .bool true])
  | none => .returned (.tuple #[.int .i64 0, .bool false])
set_option maxRecDepth 100000 in
set_option maxHeartbeats 4000000 in
theorem exprValue_any (w : World) (base nb n : Nat) (nm : List UInt8 → Option Int) (pl : Int) (v : Value) (l : List Trm) (h : NamesAt w nb n nm) (hrow : w.ownsRow base 261 4 v l.length (trmCells l)) (hl : l.length ≤ 1000000) (hs : ∀ t ∈ l, t.name.size ≤ 1000000) (hv : ∀ t ∈ l, -1000000 ≤ trmN nm pl t ∧ trmN nm pl t ≤ 1000000) :
    Calls Tryz.prog 218 #[v, .map (some nb), .int .i64 pl] w fun e w' => e = valE (valF nm pl 0 l) ∧ Below w.heap.size w w' := by
  obtain ⟨a, cap, rfl⟩ : ∃ a cap, v = .slice a l.length cap := by
    obtain ⟨_, ⟨rfl, h'⟩ | ⟨g, cap, cur, rfl, _⟩⟩ := id hrow
    · exact ⟨none, 0, by rw [h']⟩
    · exact ⟨_, _, rfl⟩
  have HN := hideIt h
  have HS := hideIt hs
  have HV := hideIt hv
  obtain ⟨R, hR⟩ : ∃ R, valF nm pl 0 l = R := ⟨_, rfl⟩
  rw [hR]
  have HR := hideIt hR
  have HROW := hideIt hrow
  clear h hs hv hR hrow
  go_enter Tryz.func218, Tryz.ntmps218
  go_wp2_with fail
  go_loopw [8, 13] (fun v8 v13 wr => ∃ (k : Nat) (s : Int), v8 = .int .i64 s ∧ v13 = .int .i64 k ∧ k ≤ l.length ∧ -1000000 ≤ s ∧ s ≤ 1000000 ∧ Hid (valF nm pl s (l.drop k) = R) ∧ Below w.heap.size w wr) (fun _ v13 _ => l.length - (intOf v13).toNat)
  case atStart => exact ⟨0, 0, by simp, by simp, by omega, by omega, by omega, hideIt (by rw [List.drop_zero]; exact HR.out), Below.refl _ _⟩
  case round =>
    obtain ⟨k, s, rfl, rfl, hk, hs0, hs1, HE, hb⟩ := hrel
    have hz := hb.size
    by_cases hlt : k < l.length
    · obtain ⟨t, ht⟩ : ∃ t, l[k]? = some t := ⟨_, List.getElem?_eq_getElem hlt⟩
      have hm := List.mem_of_getElem? ht
      obtain ⟨g, rfl⟩ : ∃ g, a = some ⟨g, 0, none⟩ := by
        obtain ⟨_, ⟨h', h''⟩ | ⟨g, cap', cur, h', _⟩⟩ := id HROW.out
        · omega
        · cases h'; exact ⟨g, rfl⟩
      have hrw := HROW.out.below3 hb
      have hgl := (hrw.lt g rfl).2
      have hc := trmCells_at l k t ht
      have d0 : wr.cell? ⟨g, k * 4, none⟩ = some (.bool t.minus) := by rw [hrw.cellAt (k * 4) (by omega)]; exact hc.1
      have d1 : wr.cell? ⟨g, k * 4 + 1, none⟩ = some (.string t.name) := by rw [hrw.cellAt (k * 4 + 1) (by omega)]; exact hc.2.1
      have d2 : wr.cell? ⟨g, k * 4 + 2, none⟩ = some (.bool t.here) := by rw [hrw.cellAt (k * 4 + 2) (by omega)]; exact hc.2.2.1
      have d3 : wr.cell? ⟨g, k * 4 + 3, none⟩ = some (.int .i64 t.num) := by rw [hrw.cellAt (k * 4 + 3) (by omega)]; exact hc.2.2.2
      have HT := hideIt (fun o => termValue_any (wr.alloc o) nb n nm pl t (HN.out.below (hb.alloc hz o)) (HS.out t hm))
      have hvv := HV.out t hm
      have hstep := valF_drop (nm := nm) (pl := pl) (s := s) ht
      rw [HE.out] at hstep
      obtain ⟨x, hx⟩ : ∃ x, trmN nm pl t = x := ⟨_, rfl⟩
      rw [hx] at hstep hvv HT
      have x0 := hvv.1
      have x1 := hvv.2
      clear hc ht hm hvv HE hx hrw
      cases hmi : t.minus with
      | true =>
        rw [hmi] at d0 hstep HT
        simp only [if_true] at hstep
        have HST := hideIt hstep
        clear hstep
        by_cases q1 : s - x < -1000000
        · have HEN := hideIt (show R = none by rw [HST.out, if_pos (.inl q1)])
          go_wp2_with (refine (HT.out _).mono ?_; rintro e w3 ⟨rfl, hb3⟩)
          go_ret2
          rw [HEN.out]
          exact ⟨rfl, (hb.alloc hz _).trans (hb3.mono (by simp; omega))⟩
        · by_cases q2 : 1000000 < s - x
          · have HEN := hideIt (show R = none by rw [HST.out, if_pos (.inr q2)])
            go_wp2_with (refine (HT.out _).mono ?_; rintro e w3 ⟨rfl, hb3⟩)
            go_ret2
            rw [HEN.out]
            exact ⟨rfl, (hb.alloc hz _).trans (hb3.mono (by simp; omega))⟩
          · have HEN := hideIt (show valF nm pl (s - x) (l.drop (k + 1)) = R by rw [HST.out, if_neg (by omega)])
            go_wp2_with (refine (HT.out _).mono ?_; rintro e w3 ⟨rfl, hb3⟩)
            go_roundw
            case rel => exact ⟨k + 1, s - x, by go_num, by go_num, by omega, by omega, by omega, HEN, (hb.alloc hz _).trans (hb3.mono (by simp; omega))⟩
            case measure => simp [intOf]; omega
      | false =>
        rw [hmi] at d0 hstep HT
        simp only [Bool.false_eq_true, if_false] at hstep
        have HST := hideIt hstep
        clear hstep
        by_cases q1 : s + x < -1000000
        · have HEN := hideIt (show R = none by rw [HST.out, if_pos (.inl q1)])
          go_wp2_with (refine (HT.out _).mono ?_; rintro e w3 ⟨rfl, hb3⟩)
          go_ret2
          rw [HEN.out]
          exact ⟨rfl, (hb.alloc hz _).trans (hb3.mono (by simp; omega))⟩
        · by_cases q2 : 1000000 < s + x
          · have HEN := hideIt (show R = none by rw [HST.out, if_pos (.inr q2)])
            go_wp2_with (refine (HT.out _).mono ?_; rintro e w3 ⟨rfl, hb3⟩)
            go_ret2
            rw [HEN.out]
            exact ⟨rfl, (hb.alloc hz _).trans (hb3.mono (by simp; omega))⟩
          · have HEN := hideIt (show valF nm pl (s + x) (l.drop (k + 1)) = R by rw [HST.out, if_neg (by omega)])
            go_wp2_with (refine (HT.out _).mono ?_; rintro e w3 ⟨rfl, hb3⟩)
            go_roundw
            case rel => exact ⟨k + 1, s + x, by go_num, by go_num, by omega, by omega, by omega, HEN, (hb.alloc hz _).trans (hb3.mono (by simp; omega))⟩
            case measure => simp [intOf]; omega
    · have HEN := hideIt (show R = some s by rw [← HE.out, List.drop_of_length_le (by omega)]; rfl)
      go_wp2_with fail
      go_ret2
      rw [HEN.out]
      exact ⟨rfl, hb⟩
end Go.Proofs.YthokdbcpkmcieaaGreatDoor
namespace Go.Proofs.YthokdbcpkmcieaaGreatDoor
open Go Go.RowKit Go.Shelf Go.WideMaps Go.Maps
/-- What the assembler gives up with. -/
def faultE (n line : Int) : Ending := .panicked [{ v := .iface 117 (.agg #[.int .i64 n, .int .i64 line]), recovered := false }]
theorem zeroIntB (w : World) : (zeroValue 3).run Tryz.prog w = .ok (.int .i64 0) w := zeroInt w
/-- The assembler at ab: its image's slices, its names at nb, the place. -/
structure AS (w : World) (ab : Nat) (i0 i1 i2 : Value) (nb n : Nat) (nm : List UInt8 → Option Int) (pl : Int) : Prop where
  c0 : w.cell? ⟨ab, 0, none⟩ = some i0
  c1 : w.cell? ⟨ab, 1, none⟩ = some i1
  c2 : w.cell? ⟨ab, 2, none⟩ = some i2
  c3 : w.cell? ⟨ab, 3, none⟩ = some (.map (some nb))
  c4 : w.cell? ⟨ab, 4, none⟩ = some (.int .i64 pl)
  fz : ∀ j, w.frozen? ⟨ab, j, none⟩ = false
  nms : NamesAt w nb n nm
  ne : nb ≠ ab
theorem AS.lt {w : World} {ab : Nat} {i0 i1 i2 : Value} {nb n : Nat} {nm : List UInt8 → Option Int} {pl : Int} (h : AS w ab i0 i1 i2 nb n nm pl) : ab < w.heap.size := World.block_lt_of_cell? _ _ h.c0
theorem AS.kept {w w' : World} {ab : Nat} {i0 i1 i2 : Value} {nb n : Nat} {nm : List UInt8 → Option Int} {pl : Int} (h : AS w ab i0 i1 i2 nb n nm pl) (e1 : w'.heap[ab]? = w.heap[ab]?) (e2 : w'.heap[nb]? = w.heap[nb]?) : AS w' ab i0 i1 i2 nb n nm pl := by
  have hc : ∀ j, w'.cell? ⟨ab, j, none⟩ = w.cell? ⟨ab, j, none⟩ := fun j => World.cell?_of_block (a := ⟨ab, j, none⟩) e1
  exact ⟨(hc 0).trans h.c0, (hc 1).trans h.c1, (hc 2).trans h.c2, (hc 3).trans h.c3, (hc 4).trans h.c4, fun j => (World.frozen?_of_block (a := ⟨ab, j, none⟩) e1).trans (h.fz j), MapAt.at1B h.nms e2, h.ne⟩
theorem AS.below {w w' : World} {ab : Nat} {i0 i1 i2 : Value} {nb n : Nat} {nm : List UInt8 → Option Int} {pl : Int} (h : AS w ab i0 i1 i2 nb n nm pl) (hb : Below w.heap.size w w') : AS w' ab i0 i1 i2 nb n nm pl :=
  h.kept (hb.block _ h.lt) (hb.block _ (MapAt.lt h.nms))
theorem name_look (nm : List UInt8 → Option Int) (l : List UInt8) : lookV true (.int .i64 0) ((nm l).map fun x => .int .i64 x) = .tuple #[.int .i64 ((nm l).getD 0), .bool (nm l).isSome] := by
  cases nm l <;> rfl
set_option maxRecDepth 100000 in
set_option maxHeartbeats 1000000 in
theorem knows_any (w : World) (ab : Nat) (i0 i1 i2 : Value) (nb n : Nat) (nm : List UInt8 → Option Int) (pl : Int) (s : ByteArray) (h : AS w ab i0 i1 i2 nb n nm pl) (hs : s.size ≤ 1000000) :
    Calls Tryz.prog 109 #[.pointer (some ⟨ab, 0, none⟩), .string s] w fun e w' => e = .returned (.bool (nm s.data.toList).isSome) ∧ w' = w := by
  have hkey : keyOf Tryz.prog 9 (.string s) = some (.string s.data.toList) := keyOf_string_mk Tryz.underlying9 (by unfold maxLen; omega)
  have hr : (Instr.lookup 119 (.map (some nb)) (.string s) true).run Tryz.prog w = .ok (.tuple #[.int .i64 ((nm s.data.toList).getD 0), .bool (nm s.data.toList).isSome]) w := by
    rw [MapAt.look h.nms strK Tryz.underlying119 (zeroIntB _) hkey true, name_look]
  have c3 := h.c3
  clear h hkey
  go_enter Tryz.func109, Tryz.ntmps109
  go_wp2
  go_ret
  exact ⟨rfl, rfl⟩
/-- What an expression comes to within bounds. -/
def nmbF (nm : List UInt8 → Option Int) (pl : Int) (l : List Trm) (lo hi : Int) : Option Int := (valF nm pl 0 l).bind fun z => if z < lo ∨ hi < z then none else some z
/-- What number ends with. -/
def nmbE (o : Option Int) (line : Int) : Ending := match o with
  | some z => .returned (.int .i64 z)
  | none => faultE 6 line
/-- A statement boxed. -/
theorem st_box (w : World) (l0 p0 : Int) (lb : ByteArray) (tk : Int) (nm : ByteArray) (v : Value) (cd : Int) (kd : Value) (sz : Int) : ∃ W, w.alloc (.cells #[.int .i64 l0, .int .i64 p0, .string lb, .int .i64 tk, .string nm, v, .int .u8 cd, kd, .int .i64 sz] 130) = W ∧ Below w.heap.size w W ∧ W.heap.size = w.heap.size + 1 ∧ SS W w.heap.size l0 p0 lb tk nm v cd kd sz := by
  have hh := heap_alloc_new w (.cells #[.int .i64 l0, .int .i64 p0, .string lb, .int .i64 tk, .string nm, v, .int .u8 cd, kd, .int .i64 sz] 130)
  refine ⟨_, rfl, (Below.refl _ _).alloc (Nat.le_refl _) _, by simp, ?_⟩
  have hc : ∀ j u, #[.int .i64 l0, .int .i64 p0, .string lb, .int .i64 tk, .string nm, v, .int .u8 cd, kd, .int .i64 sz][j]? = some u → (w.alloc (.cells #[.int .i64 l0, .int .i64 p0, .string lb, .int .i64 tk, .string nm, v, .int .u8 cd, kd, .int .i64 sz] 130)).cell? ⟨w.heap.size, j, none⟩ = some u := fun j u hu => by rw [cell_of_row _ _ _ _ _ (0, 0) hh]; exact hu
  exact ⟨hc 0 _ rfl, hc 1 _ rfl, hc 2 _ rfl, hc 3 _ rfl, hc 4 _ rfl, hc 5 _ rfl, hc 6 _ rfl, hc 7 _ rfl, hc 8 _ rfl, fun j => frozen_of_row _ _ _ _ _ hh, by simp⟩
set_option maxRecDepth 100000 in
set_option maxHeartbeats 4000000 in
theorem number_any (w : World) (ab : Nat) (i0 i1 i2 : Value) (nb n : Nat) (nm : List UInt8 → Option Int) (pl : Int) (base : Nat) (l : List Trm) (l0 p0 : Int) (lb : ByteArray) (tk : Int) (nmS : ByteArray) (va : Option Addr) (vn vc : Nat) (cd : Int) (ka : Option Addr) (kn kc : Nat) (sz : Int) (xa : Option Addr) (xn xc : Nat) (lo hi : Int) (h : AS w ab i0 i1 i2 nb n nm pl) (hrow : w.ownsRow base 261 4 (.slice xa xn xc) l.length (trmCells l)) (hl : l.length ≤ 1000000) (hs : ∀ t ∈ l, t.name.size ≤ 1000000) (hv : ∀ t ∈ l, -1000000 ≤ trmN nm p0 t ∧ trmN nm p0 t ≤ 1000000) :
    Calls Tryz.prog 171 #[.pointer (some ⟨ab, 0, none⟩), .agg #[.int .i64 l0, .int .i64 p0, .string lb, .int .i64 tk, .string nmS, .slice va vn vc, .int .u8 cd, .slice ka kn kc, .int .i64 sz], .slice xa xn xc, .int .i64 lo, .int .i64 hi] w fun e w' => e = nmbE (nmbF nm p0 l lo hi) l0 ∧ Below w.heap.size w w' := by
  obtain ⟨W, hW, hBW, hWz, hSS⟩ := st_box w l0 p0 lb tk nmS (.slice va vn vc) cd (.slice ka kn kc) sz
  have hA := h.below hBW
  have HV := hideIt (exprValue_any W.drew base nb n nm p0 (.slice xa xn xc) l (MapAt.at1B hA.nms rfl) (own_keepB (row_belowA hrow hBW) (fun _ _ => rfl)) hl hs hv)
  have c3 := hA.c3
  have s0 := hSS.c0
  have s1 := hSS.c1
  have hab := hA.lt
  have hwl : w.heap.size < W.heap.size := by omega
  have HB := hideIt hBW
  unfold nmbF
  obtain ⟨O, hO⟩ : ∃ O, valF nm p0 0 l = O := ⟨_, rfl⟩
  rw [hO] at HV ⊢
  clear h hrow hl hs hv hBW hSS hA hO
  cases O with
  | none =>
    have HVV : Hid (Calls Tryz.prog 218 #[.slice xa xn xc, .map (some nb), .int .i64 p0] W.drew fun e w' => e = .returned (.tuple #[.int .i64 0, .bool false]) ∧ Below W.heap.size W w') := HV.out.mono fun e w' ⟨h1, h2⟩ => ⟨h1, ⟨h2.os, h2.tape, h2.output, h2.size, h2.block⟩⟩
    clear HV
    go_enter Tryz.func171, Tryz.ntmps171
    go_wp2_with fail
    go_region_held3 (fun w' => w'.cell? ⟨ab, 3, none⟩ = some (.map (some nb)) ∧ w'.cell? ⟨w.heap.size, 1, none⟩ = some (.int .i64 p0)) (go_keep) (first | (go_at_call 218; refine HVV.out.mono ?_; rintro e w1 ⟨rfl, hB1⟩; have d3 := (World.cell?_of_block (a := ⟨ab, 3, none⟩) (hB1.block _ hab)).trans c3; have e0 := (World.cell?_of_block (a := ⟨w.heap.size, 0, none⟩) (hB1.block _ hwl)).trans s0; have e1 := (World.cell?_of_block (a := ⟨w.heap.size, 1, none⟩) (hB1.block _ hwl)).trans s1; have HB1 := hideIt (HB.out.trans (hB1.mono HB.out.size)); clear hB1))
    all_goals
      go_wp2
      exact ⟨rfl, rfl, HB1.out⟩
  | some z =>
    have HVV : Hid (Calls Tryz.prog 218 #[.slice xa xn xc, .map (some nb), .int .i64 p0] W.drew fun e w' => e = .returned (.tuple #[.int .i64 z, .bool true]) ∧ Below W.heap.size W w') := HV.out.mono fun e w' ⟨h1, h2⟩ => ⟨h1, ⟨h2.os, h2.tape, h2.output, h2.size, h2.block⟩⟩
    clear HV
    have hcase : z < lo ∨ (¬ z < lo ∧ hi < z) ∨ (¬ z < lo ∧ ¬ hi < z) := by omega
    rcases hcase with h1 | ⟨h1, h2⟩ | ⟨h1, h2⟩
    · have hnn : (Option.some z).bind (fun z => if z < lo ∨ hi < z then none else some z) = none := if_pos (.inl h1)
      rw [hnn]
      clear hnn
      go_enter Tryz.func171, Tryz.ntmps171
      go_wp2_with fail
      go_region_held3 (fun w' => w'.cell? ⟨ab, 3, none⟩ = some (.map (some nb)) ∧ w'.cell? ⟨w.heap.size, 1, none⟩ = some (.int .i64 p0)) (go_keep) (first | (go_at_call 218; refine HVV.out.mono ?_; rintro e w1 ⟨rfl, hB1⟩; have d3 := (World.cell?_of_block (a := ⟨ab, 3, none⟩) (hB1.block _ hab)).trans c3; have e0 := (World.cell?_of_block (a := ⟨w.heap.size, 0, none⟩) (hB1.block _ hwl)).trans s0; have e1 := (World.cell?_of_block (a := ⟨w.heap.size, 1, none⟩) (hB1.block _ hwl)).trans s1; have HB1 := hideIt (HB.out.trans (hB1.mono HB.out.size)); clear hB1))
      all_goals
        go_wp2
        exact ⟨rfl, rfl, HB1.out⟩
    · have hnn : (Option.some z).bind (fun z => if z < lo ∨ hi < z then none else some z) = none := if_pos (.inr h2)
      rw [hnn]
      clear hnn
      go_enter Tryz.func171, Tryz.ntmps171
      go_wp2_with fail
      go_region_held3 (fun w' => w'.cell? ⟨ab, 3, none⟩ = some (.map (some nb)) ∧ w'.cell? ⟨w.heap.size, 1, none⟩ = some (.int .i64 p0)) (go_keep) (first | (go_at_call 218; refine HVV.out.mono ?_; rintro e w1 ⟨rfl, hB1⟩; have d3 := (World.cell?_of_block (a := ⟨ab, 3, none⟩) (hB1.block _ hab)).trans c3; have e0 := (World.cell?_of_block (a := ⟨w.heap.size, 0, none⟩) (hB1.block _ hwl)).trans s0; have e1 := (World.cell?_of_block (a := ⟨w.heap.size, 1, none⟩) (hB1.block _ hwl)).trans s1; have HB1 := hideIt (HB.out.trans (hB1.mono HB.out.size)); clear hB1))
      all_goals
        go_wp2
        exact ⟨rfl, rfl, HB1.out⟩
    · have hnn : (Option.some z).bind (fun z => if z < lo ∨ hi < z then none else some z) = some z := if_neg (fun e => e.elim h1 h2)
      rw [hnn]
      clear hnn
      go_enter Tryz.func171, Tryz.ntmps171
      go_wp2_with fail
      go_region_held3 (fun w' => w'.cell? ⟨ab, 3, none⟩ = some (.map (some nb)) ∧ w'.cell? ⟨w.heap.size, 1, none⟩ = some (.int .i64 p0)) (go_keep) (first | (go_at_call 218; refine HVV.out.mono ?_; rintro e w1 ⟨rfl, hB1⟩; have d3 := (World.cell?_of_block (a := ⟨ab, 3, none⟩) (hB1.block _ hab)).trans c3; have e0 := (World.cell?_of_block (a := ⟨w.heap.size, 0, none⟩) (hB1.block _ hwl)).trans s0; have e1 := (World.cell?_of_block (a := ⟨w.heap.size, 1, none⟩) (hB1.block _ hwl)).trans s1; have HB1 := hideIt (HB.out.trans (hB1.mono HB.out.size)); clear hB1))
      all_goals
        go_wp2
        go_ret
        exact ⟨rfl, HB1.out⟩
end Go.Proofs.YthokdbcpkmcieaaGreatDoor
namespace Go.Proofs.YthokdbcpkmcieaaGreatDoor
open Go Go.RowKit Go.Shelf Go.WideMaps Go.Maps
/-- A row is appended to a row of one's own. -/
theorem run_append_rows (w : World) (base b2 : Nat) (ty : TypeId) (v x : Value) (n m : Nat) (xs ys : List Value) (hown : w.ownsRow base 9 1 v n xs) (hx : w.ownsRow b2 9 1 x m ys) (h1 : ∀ u ∈ ys, u.oneCell' = true) (hn : n + m ≤ 4000000) (hb : base ≤ w.heap.size) :
    ∃ v' w', (Builtin.append_ #[22, 22] ty #[v, x]).run Tryz.prog w = .ok v' w' ∧ w'.ownsRow base 9 1 v' (n + m) (xs ++ ys) ∧ w.grownBy w' v.ownBlock := by
  obtain ⟨i, hi, hz0, hz1, hz2⟩ := info_parts Tryz.infoStrB
  have hc : ∀ g, x.ownBlock = some g → ∀ j u, ys[j]? = some u → w.cell? ((⟨g, 0, none⟩ : Addr).add j) = some u := fun g hg => hx.cells hg
  obtain ⟨hl, ⟨rfl, rfl⟩ | ⟨g, cap, cur, rfl, hg, hh, h3, h4, h5, h6⟩⟩ := hx
  · have hy : ys = [] := List.eq_nil_of_length_eq_zero (by simpa using hl)
    subst hy
    have hown2 := hown
    obtain ⟨hl2, ⟨rfl, rfl⟩ | ⟨g, cap, cur, rfl, hg, hh, h3, h4, h5, h6⟩⟩ := hown
    · refine ⟨.slice none 0 0, w, ?_, by simpa using hown2, ⟨rfl, rfl, rfl, Nat.le_refl _, fun _ _ _ => rfl⟩⟩
      simp [Builtin.append_, run_underlying Tryz.underlying22, sizeOf, typeInfo, hi, Builtin.lenOf, Builtin.firstCells]
    · refine ⟨.slice (some ⟨g, 0, none⟩) n cap, w, ?_, by simpa using hown2, ⟨rfl, rfl, rfl, Nat.le_refl _, fun _ _ _ => rfl⟩⟩
      simp [Builtin.append_, run_underlying Tryz.underlying22, sizeOf, typeInfo, hi, Builtin.lenOf, Builtin.firstCells, storeCells, h3]
  · obtain ⟨v', w', r0, r1, r2, _⟩ := run_append_own_at (P := Tryz.prog) w base 22 ty 9 i _ 1 16 Tryz.underlying22 hi hz0 hz1 hz2 rfl (by decide) v n xs hown ⟨g, 0, none⟩ m cap ys hl (hc g rfl) h1 (by unfold maxLen; omega) (by omega) hb
    exact ⟨v', w', r0, r1, r2⟩
theorem wpList_append_rows {ops : Array Oper} {rest : List Oper} {o : Oper} {a : Act} {Q : Exit → Act → World → Prop} (w : World) (hgd : o.guard = none) (s x : Operand)
    (ho : o.op = .call { callee := .builtin .append, args := #[s, x], argTypes := #[22, 22] }) (base b2 : Nat) (v y : Value) (n m : Nat) (xs ys : List Value) (hs : a.eval s = v) (hx : a.eval x = y) (hown : w.ownsRow base 9 1 v n xs) (hy : w.ownsRow b2 9 1 y m ys) (h1 : ∀ u ∈ ys, u.oneCell' = true) (hn : n + m ≤ 4000000) (hb : base ≤ w.heap.size)
    (h : ∀ v' w', w'.ownsRow base 9 1 v' (n + m) (xs ++ ys) → w.grownBy w' v.ownBlock → wpList Tryz.prog ops Q rest (a.put o.dst v') w') :
    wpList Tryz.prog ops Q (o :: rest) a w := by
  refine wpList_plain hgd fun K hK => ?_
  obtain ⟨v', w', hr, h2, h3⟩ := run_append_rows w base b2 o.type v y n m xs ys hown hy h1 hn hb
  unfold Oper.wp execOp
  simp only [ho, resolve, invoke, builtin, Sem.run_bind, Sem.run_pure, Result.andThen_ok, List.map_toArray, List.map_cons, List.map_nil, hs, hx, hr]
  exact hK _ _ (h v' w' h2 h3)
theorem wpList_append_eq {ops : Array Oper} {rest : List Oper} {o : Oper} {a : Act} {Q : Exit → Act → World → Prop} (w : World) (hgd : o.guard = none) (s x : Operand) (t1 t2 : TypeId)
    (ho : o.op = .call { callee := .builtin .append, args := #[s, x], argTypes := #[t1, t2] }) (vs vx : Value) (hs : a.eval s = vs) (hx : a.eval x = vx) (v : Value) (w' : World) (hr : ∀ ty, (Builtin.append_ #[t1, t2] ty #[vs, vx]).run Tryz.prog w = .ok v w')
    (h : wpList Tryz.prog ops Q rest (a.put o.dst v) w') :
    wpList Tryz.prog ops Q (o :: rest) a w := by
  refine wpList_plain hgd fun K hK => ?_
  unfold Oper.wp execOp
  simp only [ho, resolve, invoke, builtin, Sem.run_bind, Sem.run_pure, Result.andThen_ok, List.map_toArray, List.map_cons, List.map_nil, hs, hx, hr]
  exact hK _ _ h
theorem strV_one (l : List ByteArray) : ∀ u ∈ strV l, u.oneCell' = true := by
  intro u hu
  simp only [strV, List.mem_map] at hu
  obtain ⟨b, _, rfl⟩ := hu
  rfl
set_option maxRecDepth 100000 in
set_option maxHeartbeats 2000000 in
theorem growStr_any (n : Nat) (w : World) (hn : n ≤ 4000000) :
    Calls Tryz.prog 252 #[.slice none 0 0, .int .i64 (n : Int)] w fun e w' => ∃ v, e = .returned v ∧ w'.ownsRow w.heap.size 9 1 v 0 [] ∧ Below w.heap.size w w' := by
  have hni : (n : Int) ≤ 4000000 := by omega
  by_cases h0 : n = 0
  · subst h0
    go_enter Tryz.func252, Tryz.ntmps252
    go_wp2
    go_ret
    exact ⟨_, rfl, World.ownsRow_nil _ _ _ _, Below.refl _ _⟩
  · have h0i : (0 : Int) < (n : Int) := by omega
    obtain ⟨i, hi, hz0, hz1, hz2⟩ := info_parts Tryz.infoStrB
    have hrz : ∀ ty, (Builtin.append_ #[22, 3] ty #[.slice none 0 0, .int .i64 (n : Int)]).run Tryz.prog w = .ok (.slice (some ⟨w.heap.size, 0, none⟩) n (grownCap w n 0 9)) (w.drew.alloc (.cells (([] : List Value).toArray ++ Builtin.zeroCells (Value.string ⟨#[]⟩).cells n ++ Builtin.zeroCells (Value.string ⟨#[]⟩).cells (grownCap w n 0 9 - n)) 9)) := fun ty => by
      have h := Lib.run_append_grow_zeros w 22 3 ty 9 i _ .i64 .i64 Tryz.underlying22 Tryz.underlying3 hi hz0 none 0 0 [] (run_firstCells_none w.drew i.size 0 0 0) n (by omega) (by omega) (by omega) (by omega) (by rw [hz2]; omega) (by rw [hz2]; unfold Builtin.nextslicecap; rw [if_pos (by omega)]; omega)
      rw [Nat.zero_add] at h
      exact h
    have hge := grownCap_ge w n 0 9
    have hcm : grownCap w n 0 9 ≤ maxLen := grownCap_le_maxLen w n 0 9 (by unfold maxLen; omega)
    obtain ⟨G, hG⟩ : ∃ G, grownCap w n 0 9 = G := ⟨_, rfl⟩
    rw [hG] at hrz hge hcm
    have hGi : (G : Int) ≤ 9223372036854775807 := by unfold maxLen at hcm; omega
    have hown : (w.drew.alloc (.cells (([] : List Value).toArray ++ Builtin.zeroCells (Value.string ⟨#[]⟩).cells n ++ Builtin.zeroCells (Value.string ⟨#[]⟩).cells (G - n)) 9)).ownsRow w.heap.size 9 1 (.slice (some ⟨w.heap.size, 0, none⟩) 0 G) 0 [] := by
      refine ⟨rfl, .inr ⟨w.heap.size, G, _, rfl, Nat.le_refl _, heap_alloc_new w.drew _, Nat.zero_le _, hcm, ?_, by simp⟩⟩
      simp only [Array.size_append, size_zeroCells]
      simp [Value.cells]
      omega
    have hBX : Below w.heap.size w (w.drew.alloc (.cells (([] : List Value).toArray ++ Builtin.zeroCells (Value.string ⟨#[]⟩).cells n ++ Builtin.zeroCells (Value.string ⟨#[]⟩).cells (G - n)) 9)) := (Below.refl _ _).drew.alloc (Nat.le_refl _) _
    obtain ⟨X, hX⟩ : ∃ X, w.drew.alloc (.cells (([] : List Value).toArray ++ Builtin.zeroCells (Value.string ⟨#[]⟩).cells n ++ Builtin.zeroCells (Value.string ⟨#[]⟩).cells (G - n)) 9) = X := ⟨_, rfl⟩
    rw [hX] at hown hBX
    have hrz2 : ∀ ty, (Builtin.append_ #[22, 3] ty #[.slice none 0 0, .int .i64 (n : Int)]).run Tryz.prog w = .ok (.slice (some ⟨w.heap.size, 0, none⟩) n G) X := fun ty => by rw [← hX]; exact hrz ty
    have HO := hideIt (And.intro hown hBX)
    have HRZ := hideIt hrz2
    clear hown hG hrz hrz2 hBX hX
    go_enter Tryz.func252, Tryz.ntmps252
    go_wp2_with (at_builtin; refine wpList_append_eq _ rfl _ _ 22 3 rfl (.slice none 0 0) (.int .i64 (n : Int)) rfl rfl _ _ HRZ.out ?_)
    go_ret
    exact ⟨_, rfl, HO.out⟩
end Go.Proofs.YthokdbcpkmcieaaGreatDoor
namespace Go.Proofs.YthokdbcpkmcieaaGreatDoor
open Go Go.RowKit Go.Shelf Go.WideMaps Go.Maps
set_option maxRecDepth 100000 in
set_option maxHeartbeats 4000000 in
theorem concat_any (w : World) (sb b1 b2 : Nat) (v1 v2 : Value) (l1 l2 : List ByteArray) (c0 : w.cell? ⟨sb, 0, none⟩ = some v1) (c1 : w.cell? ⟨sb, 1, none⟩ = some v2) (r1 : w.ownsRow b1 9 1 v1 l1.length (strV l1)) (r2 : w.ownsRow b2 9 1 v2 l2.length (strV l2)) (hn : l1.length + l2.length ≤ 4000000) :
    Calls Tryz.prog 214 #[.slice (some ⟨sb, 0, none⟩) 2 2] w fun e w' => ∃ v, e = .returned v ∧ w'.ownsRow w.heap.size 9 1 v (l1 ++ l2).length (strV (l1 ++ l2)) ∧ Below w.heap.size w w' := by
  obtain ⟨a1, k1, rfl⟩ := row_sliceB r1
  obtain ⟨a2, k2, rfl⟩ := row_sliceB r2
  obtain ⟨N1, hN1⟩ : ∃ N1, l1.length = N1 := ⟨_, rfl⟩
  obtain ⟨N2, hN2⟩ : ∃ N2, l2.length = N2 := ⟨_, rfl⟩
  rw [hN1] at c0 r1 hn
  rw [hN2] at c1 r2 hn
  obtain ⟨N, hN⟩ : ∃ N : Nat, N1 + N2 = N := ⟨_, rfl⟩
  have hNi : (N1 : Int) + (N2 : Int) = (N : Int) := by omega
  have h1i : (N1 : Int) ≤ 4000000 := by omega
  have hNb : (N : Int) ≤ 4000000 := by omega
  have HG := hideIt (growStr_any N w (by omega))
  have HR1 := hideIt r1
  have HR2 := hideIt r2
  have hsb : sb < w.heap.size := World.block_lt_of_cell? _ _ c0
  have HL : Hid ((l1 ++ l2).length = N1 + N2) := by
    show (l1 ++ l2).length = N1 + N2
    rw [List.length_append, hN1, hN2]
  have HH := hideIt (And.intro hN (And.intro hN1 hN2))
  clear r1 r2 hN1 hN2 hN
  go_enter Tryz.func214, Tryz.ntmps214
  go_wp2_with fail
  refine wp_loop_rounds 3 ?_
  rw [rounds_succ]
  go_wp2_with fail
  rw [rounds_succ]
  go_wp2_with fail
  rw [rounds_succ]
  go_wp2_with fail
  refine HG.out.mono ?_
  rintro e w1 ⟨v, rfl, hv, hB1⟩
  obtain ⟨va, vn, vc, rfl⟩ := row_sliceN hv
  have d0 := (World.cell?_of_block (a := ⟨sb, 0, none⟩) (hB1.block sb hsb)).trans c0
  have d1 := (World.cell?_of_block (a := ⟨sb, 1, none⟩) (hB1.block sb hsb)).trans c1
  have HV := hideIt (And.intro hv hB1)
  have hz1 := hB1.size
  have HQ1 := hideIt (row_belowA HR1.out hB1)
  clear hv hB1 c0 c1
  go_wp2_with fail
  refine wp_loop_rounds 3 ?_
  rw [rounds_succ]
  go_wp2_with (
    at_builtin
    refine wpList_append_rows _ rfl _ _ rfl w.heap.size b1 (.slice va vn vc) (.slice a1 N1 k1) 0 N1 [] (strV l1) rfl rfl HV.out.1 HQ1.out (strV_one _) (by omega) hz1 ?_
    intro v' w2 hown hgr
    obtain ⟨xa, xn, xc, ev⟩ := row_sliceN hown
    have hB2 : Below w.heap.size w w2 := HV.out.2.grown hgr hz1 (fun k hk => (HV.out.1.lt k hk).1)
    have e1 := (World.cell?_of_block (a := ⟨sb, 1, none⟩) (hgr.block sb (Nat.lt_of_lt_of_le hsb hz1) (fun e => by have := (HV.out.1.lt sb e.symm).1; omega))).trans d1
    have HO := hideIt (And.intro hown hB2)
    have HQ2 := hideIt (row_belowA HR2.out hB2)
    have hz2 := hB2.size
    subst ev
    clear hown hgr hB2)
  rw [rounds_succ]
  go_wp2_with (
    at_builtin
    refine wpList_append_rows _ rfl _ _ rfl w.heap.size b2 (.slice xa xn xc) (.slice a2 N2 k2) (0 + N1) N2 ([] ++ strV l1) (strV l2) rfl rfl HO.out.1 HQ2.out (strV_one _) (by omega) hz2 ?_
    intro v'' w3 hown hgr
    obtain ⟨ya, yn, yc, ev⟩ := row_sliceN hown
    have hB3 : Below w.heap.size w w3 := HO.out.2.grown hgr hz2 (fun k hk => (HO.out.1.lt k hk).1)
    have HP := hideIt (And.intro hown hB3)
    subst ev
    clear hown hgr hB3)
  rw [rounds_succ]
  go_wp2
  go_ret
  refine ⟨_, rfl, ?_, HP.out.2⟩
  have := HP.out.1
  rw [Nat.zero_add, List.nil_append] at this
  rw [HL.out]
  simpa [strV] using this
end Go.Proofs.YthokdbcpkmcieaaGreatDoor
