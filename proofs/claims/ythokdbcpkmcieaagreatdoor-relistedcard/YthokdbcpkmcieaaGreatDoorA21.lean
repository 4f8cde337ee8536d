/- Statements: size, given. Statements: used. -/
import Derived.Test.YthokdbcpkmcieaaGreatDoorA20
namespace Go.Proofs.YthokdbcpkmcieaaGreatDoor
open Go Go.RowKit Go.Shelf Go.WideMaps Go.Maps
/-- How many bytes a statement lays. -/
def sizeS (tk vn sz : Nat) : Nat := if tk = 2 then vn else if tk = 3 then 2 * vn else if tk = 6 then sz else 0
set_option maxRecDepth 100000 in
set_option maxHeartbeats 1000000 in
theorem insSize_any (w : World) (cd : Int) (ka : Option Addr) (kn kc : Nat) (sz : Int) :
    Calls Tryz.prog 173 #[.agg #[.int .u8 cd, .slice ka kn kc, .int .i64 sz]] w fun e w' => e = .returned (.int .i64 sz) ∧ Below w.heap.size w w' := by
  go_enter Tryz.func173, Tryz.ntmps173
  go_wp2
  go_ret
  exact ⟨rfl, (Below.refl _ _).alloc (Nat.le_refl _) _⟩
set_option maxRecDepth 100000 in
set_option maxHeartbeats 1000000 in
theorem stSize_any (w : World) (l0 p0 : Int) (lb : ByteArray) (tk : Nat) (nm : ByteArray) (va : Option Addr) (vn vc : Nat) (cd : Int) (ka : Option Addr) (kn kc sz : Nat) (hv : vn ≤ 1000000) :
    Calls Tryz.prog 107 #[.agg #[.int .i64 l0, .int .i64 p0, .string lb, .int .i64 tk, .string nm, .slice va vn vc, .int .u8 cd, .slice ka kn kc, .int .i64 sz]] w fun e w' => e = .returned (.int .i64 (sizeS tk vn sz : Nat)) ∧ Below w.heap.size w w' := by
  have hvi : (vn : Int) ≤ 1000000 := by omega
  have HI := hideIt (fun w' => insSize_any w' cd ka kn kc (sz : Int))
  unfold sizeS
  by_cases h2 : tk = 2
  · subst h2
    rw [if_pos rfl]
    go_enter Tryz.func107, Tryz.ntmps107
    go_wp2
    go_ret
    exact ⟨rfl, (Below.refl _ _).alloc (Nat.le_refl _) _⟩
  · rw [if_neg h2]
    by_cases h3 : tk = 3
    · subst h3
      rw [if_pos rfl]
      go_enter Tryz.func107, Tryz.ntmps107
      go_wp2
      go_ret
      exact ⟨by simp, (Below.refl _ _).alloc (Nat.le_refl _) _⟩
    · rw [if_neg h3]
      by_cases h6 : tk = 6
      · subst h6
        rw [if_pos rfl]
        go_enter Tryz.func107, Tryz.ntmps107
        go_wp2_with fail
        refine (HI.out _).mono ?_
        rintro e w1 ⟨rfl, hB⟩
        go_wp2
        go_ret
        exact ⟨rfl, ((Below.refl _ _).alloc (Nat.le_refl _) _).trans (hB.mono (by simp))⟩
      · rw [if_neg h6]
        have i2 : ¬ (tk : Int) = 2 := by omega
        have i3 : ¬ (tk : Int) = 3 := by omega
        have i6 : ¬ (tk : Int) = 6 := by omega
        clear h2 h3 h6
        go_enter Tryz.func107, Tryz.ntmps107
        go_wp2
        go_ret
        exact ⟨rfl, (Below.refl _ _).alloc (Nat.le_refl _) _⟩
theorem Tryz.infoStrB : (Tryz.prog.info? 9).map (fun i => (i.zero, i.size, i.bytes)) = some (some (.string ⟨#[]⟩), 1, 16) := by kernel_rfl
/-- Texts as values. -/
def strV (l : List ByteArray) : List Value := l.map Value.string
theorem strV_len (l : List ByteArray) : (strV l).length = l.length := by simp [strV]
/-- The names to which a statement gives a meaning. -/
def givenS (lb : ByteArray) (tk : Nat) (nm : ByteArray) : List ByteArray := (if lb = ⟨#[]⟩ then [] else [lb]) ++ (if tk = 5 then [nm] else [])
theorem emptyB_not {T : ByteArray} (h : ¬ T = ⟨#[]⟩) : T.toList.isEmpty = false := by
  rw [ByteArray.toList_eq]
  cases e : T.data.toList with
  | nil => exact absurd (by cases T; simp at e; simp [e]) h
  | cons a b => rfl
set_option maxRecDepth 100000 in
set_option maxHeartbeats 2000000 in
theorem given_any (w : World) (l0 p0 : Int) (lb : ByteArray) (tk : Nat) (nm : ByteArray) (va : Option Addr) (vn vc : Nat) (cd : Int) (ka : Option Addr) (kn kc : Nat) (sz : Int) :
    Calls Tryz.prog 215 #[.agg #[.int .i64 l0, .int .i64 p0, .string lb, .int .i64 tk, .string nm, .slice va vn vc, .int .u8 cd, .slice ka kn kc, .int .i64 sz]] w fun e w' => ∃ v, e = .returned v ∧ w'.ownsRow w.heap.size 9 1 v (givenS lb tk nm).length (strV (givenS lb tk nm)) ∧ Below w.heap.size w w' := by
  obtain ⟨i0, hi, hz0, hz1, hz2⟩ := info_parts Tryz.infoStrB
  obtain ⟨T, hT⟩ : ∃ T : Int, (tk : Int) = T := ⟨_, rfl⟩
  rw [hT]
  obtain ⟨W, hW⟩ : ∃ W, w.alloc (.cells #[.int .i64 l0, .int .i64 p0, .string lb, .int .i64 T, .string nm, .slice va vn vc, .int .u8 cd, .slice ka kn kc, .int .i64 sz] 130) = W := ⟨_, rfl⟩
  have hBW : Below w.heap.size w W := by rw [← hW]; exact (Below.refl _ _).alloc (Nat.le_refl _) _
  have hWz : W.heap.size = w.heap.size + 1 := by rw [← hW]; simp
  have hh : W.heap[w.heap.size]? = some (.cells #[.int .i64 l0, .int .i64 p0, .string lb, .int .i64 T, .string nm, .slice va vn vc, .int .u8 cd, .slice ka kn kc, .int .i64 sz] 130 (0, 0)) := by rw [← hW]; exact heap_alloc_new w _
  have c2 : W.cell? ⟨w.heap.size, 2, none⟩ = some (.string lb) := by rw [cell_of_row _ _ _ _ _ (0, 0) hh]; rfl
  have c3 : W.cell? ⟨w.heap.size, 3, none⟩ = some (.int .i64 T) := by rw [cell_of_row _ _ _ _ _ (0, 0) hh]; rfl
  have c4 : W.cell? ⟨w.heap.size, 4, none⟩ = some (.string nm) := by rw [cell_of_row _ _ _ _ _ (0, 0) hh]; rfl
  have HB := hideIt (And.intro hBW hh)
  have h5c : (tk = 5 ∧ T = 5) ∨ (¬ tk = 5 ∧ ¬ T = 5) := by omega
  unfold givenS
  by_cases h1 : lb = ⟨#[]⟩
  · subst h1
    rw [if_pos rfl]
    rcases h5c with ⟨h5, rfl⟩ | ⟨h5, hT5⟩
    · rw [if_pos h5]
      clear hT h5
      clear hBW hh
      go_enter Tryz.func215, Tryz.ntmps215
      go_wp2_with (
        at_builtin
        refine wpList_append_own_at _ rfl _ _ 22 rfl w.heap.size 9 i0 _ 1 16 Tryz.underlying22 hi hz0 hz1 hz2 rfl (by decide) (.slice none 0 0) 0 [] rfl (World.ownsRow_nil _ _ _ _) ⟨w.heap.size + 1, 0, none⟩ 1 1 [.string nm] rfl rfl (by have := cells_newB W [.string nm] 9; rwa [hWz] at this) (by intro u hu; simp at hu; subst hu; rfl) (by unfold maxLen; omega) (by omega) (by simp; omega) ?_
        intro v' wn hown hgr _ hloc
        obtain ⟨va', vc', ev'⟩ := row_sliceB hown
        subst ev')
      go_ret
      refine ⟨_, rfl, hown, ?_⟩
      exact ((HB.out.1.alloc HB.out.1.size _).grown hgr (by simp; omega) (fun k hk => by simp [Value.ownBlock] at hk))
    · rw [if_neg h5]
      clear hT h5
      clear hBW hh
      go_enter Tryz.func215, Tryz.ntmps215
      go_wp2
      go_ret
      exact ⟨_, rfl, World.ownsRow_nil _ _ _ _, HB.out.1⟩
  · have hemp := emptyB_not h1
    rw [if_neg h1]
    rcases h5c with ⟨h5, rfl⟩ | ⟨h5, hT5⟩
    · rw [if_pos h5]
      clear hT h5
      clear hBW hh
      go_enter Tryz.func215, Tryz.ntmps215
      go_wp2_with (first
        | (at_builtin
           refine wpList_append_own_at _ rfl _ _ 22 rfl w.heap.size 9 i0 _ 1 16 Tryz.underlying22 hi hz0 hz1 hz2 rfl (by decide) (.slice none 0 0) 0 [] rfl (World.ownsRow_nil _ _ _ _) ⟨w.heap.size + 1, 0, none⟩ 1 1 [.string lb] rfl rfl (by have := cells_newB W [.string lb] 9; rwa [hWz] at this) (by intro u hu; simp at hu; subst hu; rfl) (by unfold maxLen; omega) (by omega) (by simp; omega) ?_
           intro v' wn hown hgr _ hloc
           obtain ⟨va', vc', ev'⟩ := row_sliceB hown
           have hb1 := (HB.out.1.alloc HB.out.1.size (.cells #[.string lb] 9)).grown hgr (by simp; omega) (fun k hk => by simp [Value.ownBlock] at hk)
           have hk1 : wn.heap[w.heap.size]? = W.heap[w.heap.size]? := by rw [hgr.block _ (by simp; omega) (by simp [Value.ownBlock]), Below.heap_alloc _ _ _ (by omega)]
           have d3 := (World.cell?_of_block (a := ⟨w.heap.size, 3, none⟩) hk1).trans c3
           have d4 := (World.cell?_of_block (a := ⟨w.heap.size, 4, none⟩) hk1).trans c4
           have HO := hideIt hown
           have HB1 := hideIt hb1
           have hz1' := hb1.size
           subst ev'
           clear hown hgr hloc hb1 hk1)
        | (at_builtin
           refine wpList_append_own_at _ rfl _ _ 22 rfl w.heap.size 9 i0 _ 1 16 Tryz.underlying22 hi hz0 hz1 hz2 rfl (by decide) (.slice va' 1 vc') 1 [.string lb] rfl (HO.out.alloc _) ⟨wn.heap.size, 0, none⟩ 1 1 [.string nm] rfl rfl (cells_newB _ _ _) (by intro u hu; simp at hu; subst hu; rfl) (by unfold maxLen; omega) (by omega) (by simp; omega) ?_
           intro v2 wm hown2 hgr2 _ hloc2
           obtain ⟨va2, vc2, ev2⟩ := row_sliceB hown2
           subst ev2))
      go_ret
      refine ⟨_, rfl, hown2, ?_⟩
      exact (HB1.out.alloc HB1.out.size _).grown hgr2 (by simp; omega) (fun k hk => (HO.out.lt k hk).1)
    · rw [if_neg h5]
      clear hT h5
      clear hBW hh
      go_enter Tryz.func215, Tryz.ntmps215
      go_wp2_with (
        at_builtin
        refine wpList_append_own_at _ rfl _ _ 22 rfl w.heap.size 9 i0 _ 1 16 Tryz.underlying22 hi hz0 hz1 hz2 rfl (by decide) (.slice none 0 0) 0 [] rfl (World.ownsRow_nil _ _ _ _) ⟨w.heap.size + 1, 0, none⟩ 1 1 [.string lb] rfl rfl (by have := cells_newB W [.string lb] 9; rwa [hWz] at this) (by intro u hu; simp at hu; subst hu; rfl) (by unfold maxLen; omega) (by omega) (by simp; omega) ?_
        intro v' wn hown hgr _ hloc
        obtain ⟨va', vc', ev'⟩ := row_sliceB hown
        have hk1 : wn.heap[w.heap.size]? = W.heap[w.heap.size]? := by rw [hgr.block _ (by simp; omega) (by simp [Value.ownBlock]), Below.heap_alloc _ _ _ (by omega)]
        have d3 := (World.cell?_of_block (a := ⟨w.heap.size, 3, none⟩) hk1).trans c3
        subst ev')
      go_ret
      refine ⟨_, rfl, hown, ?_⟩
      exact ((HB.out.1.alloc HB.out.1.size _).grown hgr (by simp; omega) (fun k hk => by simp [Value.ownBlock] at hk))
end Go.Proofs.YthokdbcpkmcieaaGreatDoor
namespace Go.Proofs.YthokdbcpkmcieaaGreatDoor
open Go Go.RowKit Go.Shelf Go.WideMaps Go.Maps
/-- The names of an expression, of a statement. -/
def usedE (e : List Trm) : List ByteArray := (e.filter fun t => !decide (t.name = ⟨#[]⟩)).map (·.name)
def usedS (es : List (List Trm)) : List ByteArray := es.flatMap usedE
/-- How many terms there are. -/
def cntT (es : List (List Trm)) : Nat := (es.map List.length).sum
theorem cntT_take (es : List (List Trm)) (j : Nat) (h : j < es.length) : cntT (es.take (j + 1)) = cntT (es.take j) + es[j].length := by
  unfold cntT
  rw [List.take_add_one, List.getElem?_eq_getElem h, List.map_append, List.sum_append_nat]
  rfl
theorem cntT_le (es : List (List Trm)) (j : Nat) : cntT (es.take j) ≤ cntT es := by
  have : cntT es = cntT (es.take j) + cntT (es.drop j) := by
    unfold cntT
    rw [← List.sum_append_nat, ← List.map_append, List.take_append_drop]
  omega
theorem usedS_take (es : List (List Trm)) (j : Nat) (h : j < es.length) : usedS (es.take (j + 1)) = usedS (es.take j) ++ usedE es[j] := by
  unfold usedS
  rw [List.take_add_one, List.getElem?_eq_getElem h, List.flatMap_append]
  simp only [Option.toList_some, List.flatMap_cons, List.flatMap_nil, List.append_nil]
theorem usedE_take (e : List Trm) (k : Nat) (h : k < e.length) : usedE (e.take (k + 1)) = usedE (e.take k) ++ (if e[k].name = ⟨#[]⟩ then [] else [e[k].name]) := by
  unfold usedE
  rw [List.take_add_one, List.getElem?_eq_getElem h, List.filter_append, List.map_append]
  congr 1
  by_cases hn : e[k].name = ⟨#[]⟩
  · simp [hn]
  · simp [hn]
theorem usedE_len (e : List Trm) : (usedE e).length ≤ e.length := by
  unfold usedE
  rw [List.length_map]
  exact List.length_filter_le _ _
theorem usedS_len (es : List (List Trm)) : (usedS es).length ≤ cntT es := by
  induction es with
  | nil => exact Nat.le_refl _
  | cons e es ih =>
    have := usedE_len e
    have h1 : usedS (e :: es) = usedE e ++ usedS es := rfl
    have h2 : cntT (e :: es) = e.length + cntT es := by simp [cntT]
    rw [h1, h2, List.length_append]
    omega
theorem each_at {w : World} {base : Nat} {v : Value} : ∀ {vs : List Value} {es : List (List Trm)}, EachE w base v vs es → ∀ j (h : j < es.length), ∃ x, vs[j]? = some x ∧ w.ownsRow base 261 4 x es[j].length (trmCells es[j])
  | [], [], _, j, h => absurd h (Nat.not_lt_zero _)
  | x :: vs, e :: es, hE, 0, _ => ⟨x, rfl, hE.1.1⟩
  | x :: vs, e :: es, hE, j + 1, h => each_at hE.2 j (by simpa using h)
theorem trmCells_atB (l : List Trm) : ∀ (k : Nat) (h : k < l.length), (trmCells l)[k * 4]? = some (.bool l[k].minus) ∧ (trmCells l)[k * 4 + 1]? = some (.string l[k].name) ∧ (trmCells l)[k * 4 + 2]? = some (.bool l[k].here) ∧ (trmCells l)[k * 4 + 3]? = some (.int .i64 l[k].num) := by
  induction l with
  | nil => intro k h; exact absurd h (Nat.not_lt_zero _)
  | cons t l ih =>
    intro k h
    cases k with
    | zero => simp [trmCells, Trm.cells]
    | succ k =>
      have := ih k (by simpa using h)
      have e : ∀ i, (trmCells (t :: l))[(k + 1) * 4 + i]? = (trmCells l)[k * 4 + i]? := by
        intro i
        rw [show (k + 1) * 4 + i = k * 4 + i + 1 + 1 + 1 + 1 by omega]
        simp [trmCells, Trm.cells]
      have e0 := e 0
      simp only [Nat.add_zero] at e0
      rw [e0, e 1, e 2, e 3]
      exact this
theorem row_cell {w : World} {base e size n g off cap : Nat} {xs : List Value} (h : w.ownsRow base e size (.slice (some ⟨g, off, none⟩) n cap) n xs) : off = 0 ∧ ∀ i u, xs[i]? = some u → w.cell? ⟨g, i, none⟩ = some u := by
  have h2 := h
  obtain ⟨_, ⟨e1, _⟩ | ⟨g', cap', cur, e1, _⟩⟩ := h
  · cases e1
  · cases e1
    refine ⟨rfl, fun i u hu => ?_⟩
    have := h2.cells (g := g) rfl i u hu
    rwa [Addr.add_lit, Nat.zero_add] at this
theorem row_some {w : World} {base e size n : Nat} {v : Value} {xs : List Value} (h : w.ownsRow base e size v n xs) (hn : 0 < n) : ∃ g cap, v = .slice (some ⟨g, 0, none⟩) n cap := by
  obtain ⟨_, ⟨_, e2⟩ | ⟨g, cap, cur, rfl, _⟩⟩ := h
  · omega
  · exact ⟨g, cap, rfl⟩
theorem row_sliceN {w : World} {base : Nat} {e : TypeId} {size n : Nat} {v : Value} {xs : List Value} (h : w.ownsRow base e size v n xs) : ∃ a m c, v = .slice a m c := by
  obtain ⟨a, c, e⟩ := row_sliceB h
  exact ⟨a, n, c, e⟩
set_option maxRecDepth 100000 in
set_option maxHeartbeats 4000000 in
theorem used_any (w : World) (base : Nat) (es : List (List Trm)) (l0 p0 : Int) (lb : ByteArray) (tk : Int) (nm : ByteArray) (va : Option Addr) (vn vc : Nat) (cd : Int) (ka : Option Addr) (kn kc : Nat) (sz : Int) (hv : VAt w base (.slice va vn vc) es) (hn : es.length ≤ 1000000) (hc : cntT es ≤ 1000000) :
    Calls Tryz.prog 108 #[.agg #[.int .i64 l0, .int .i64 p0, .string lb, .int .i64 tk, .string nm, .slice va vn vc, .int .u8 cd, .slice ka kn kc, .int .i64 sz]] w fun e w' => ∃ v, e = .returned v ∧ w'.ownsRow w.heap.size 9 1 v (usedS es).length (strV (usedS es)) ∧ Below w.heap.size w w' := by
  obtain ⟨i0, hi, hz0, hz1, hz2⟩ := info_parts Tryz.infoStrB
  obtain ⟨vs, hrow, hE⟩ := hv
  obtain ⟨a', c', ev⟩ := row_sliceB hrow
  obtain rfl : vn = es.length := by cases ev; rfl
  have HROW := hideIt hrow
  have HE := hideIt (fun j (h : j < es.length) => each_at hE j h)
  have HC := hideIt hc
  have hni : (es.length : Int) ≤ 1000000 := by omega
  clear hrow hE ev hc
  go_enter Tryz.func108, Tryz.ntmps108
  go_wp2_with fail
  go_loopw [3, 11] (fun v i wr => ∃ j : Nat, j ≤ es.length ∧ i = .int .i64 j ∧ wr.ownsRow w.heap.size 9 1 v (usedS (es.take j)).length (strV (usedS (es.take j))) ∧ Below w.heap.size w wr) (fun _ i _ => es.length - (intOf i).toNat)
  case atStart => exact ⟨0, Nat.zero_le _, rfl, World.ownsRow_nil _ _ _ _, (Below.refl _ _).alloc (Nat.le_refl _) _⟩
  case round =>
    obtain ⟨j, hj, rfl, hr, hB⟩ := hrel
    obtain ⟨ra, rn, rc, rfl⟩ := row_sliceN hr
    have HR := hideIt hr
    have HB := hideIt hB
    clear hr hB
    by_cases hlt : j < es.length
    · have hji : (j : Int) < (es.length : Int) := by omega
      obtain ⟨g, cap, ev⟩ := row_some HROW.out (by omega)
      cases ev
      obtain ⟨x, hx, hxr⟩ := HE.out j hlt
      have hxr2 := row_belowA hxr HB.out
      have cj := (row_cell (row_belowA HROW.out HB.out)).2 j x hx
      obtain ⟨xa, xc, rfl⟩ := row_sliceB hxr
      obtain ⟨E, hEE⟩ : ∃ E, es[j] = E := ⟨_, rfl⟩
      have h1 := cntT_take es j hlt
      have h2 := cntT_le es (j + 1)
      have h3 := usedS_len (es.take j)
      have h4 := usedS_take es j hlt
      rw [hEE] at hxr hxr2 cj h1 h4
      have HX := hideIt hxr
      obtain ⟨L, hL⟩ : ∃ L, usedS (es.take j) = L := ⟨_, rfl⟩
      rw [hL] at HR h3 h4
      have hEl : (E.length : Int) ≤ 1000000 := by have := HC.out; omega
      have hLl : L.length + E.length ≤ 1000000 := by have := HC.out; omega
      have HU := hideIt h4
      clear hx hxr hxr2 h1 h2 h3 h4 hEE
      go_wp2_with fail
      go_loopw [3, 17] (fun v i wr => ∃ k : Nat, k ≤ E.length ∧ i = .int .i64 k ∧ wr.ownsRow w.heap.size 9 1 v (L ++ usedE (E.take k)).length (strV (L ++ usedE (E.take k))) ∧ Below w.heap.size w wr) (fun _ i _ => E.length - (intOf i).toNat)
      case atStart => exact ⟨0, Nat.zero_le _, rfl, by simpa [usedE] using HR.out, HB.out⟩
      case round =>
        clear HR HB cj
        obtain ⟨k, hk, rfl, hr, hB⟩ := hrel
        obtain ⟨ra, rn, rc, rfl⟩ := row_sliceN hr
        by_cases hlk : k < E.length
        · have hki : (k : Int) < (E.length : Int) := by omega
          obtain ⟨gx, cx, ev⟩ := row_some HX.out (by omega)
          cases ev
          have hcell := (row_cell (row_belowA HX.out hB)).2
          obtain ⟨t0, t1, t2, t3⟩ := trmCells_atB E k hlk
          have hut := usedE_take E k hlk
          have hul := usedE_len (E.take k)
          rw [List.length_take] at hul
          obtain ⟨t, ht⟩ : ∃ t, E[k] = t := ⟨_, rfl⟩
          rw [ht] at t0 t1 t2 t3 hut
          have d0 := hcell _ _ t0
          have d1 := hcell _ _ t1
          have d2 := hcell _ _ t2
          have d3 := hcell _ _ t3
          obtain ⟨mi, nn, he, nu⟩ := t
          simp only at d0 d1 d2 d3 hut
          obtain ⟨M, hM⟩ : ∃ M, L ++ usedE (E.take k) = M := ⟨_, rfl⟩
          have hMl : M.length ≤ 1000000 := by rw [← hM, List.length_append]; omega
          rw [hM] at hr
          have HR := hideIt hr
          have HB := hideIt hB
          have hBs := hB.size
          clear hcell t0 t1 t2 t3 ht hr hB hul
          by_cases hnn : nn = ⟨#[]⟩
          · subst hnn
            rw [if_pos rfl, List.append_nil] at hut
            have HUT : Hid (L ++ usedE (E.take (k + 1)) = M) := by
              show L ++ usedE (E.take (k + 1)) = M
              rw [hut, hM]
            clear hut hM
            go_wp2
            go_roundw
            case rel => exact ⟨k + 1, by omega, by go_num, by rw [HUT.out]; exact HR.out.alloc _, HB.out.alloc hBs _⟩
            case measure => simp [intOf]; omega
          · have hemp := emptyB_not hnn
            rw [if_neg hnn] at hut
            have HUT : Hid (L ++ usedE (E.take (k + 1)) = M ++ [nn]) := by
              show L ++ usedE (E.take (k + 1)) = M ++ [nn]
              rw [hut, ← List.append_assoc, hM]
            clear hut hM
            go_wp2_with (
              at_builtin
              refine wpList_append_own_at _ rfl _ _ 22 rfl w.heap.size 9 i0 _ 1 16 Tryz.underlying22 hi hz0 hz1 hz2 rfl (by decide) (.slice ra rn rc) M.length (strV M) rfl ((HR.out.alloc _).alloc _) ⟨wr.heap.size + 1, 0, none⟩ 1 1 [.string nn] rfl rfl (by have := cells_newB (wr.alloc (.cells #[.bool mi, .string nn, .bool he, .int .i64 nu] 261)) [.string nn] 9; rwa [alloc_sizeB] at this) (by intro u hu; simp at hu; subst hu; rfl) (by unfold maxLen; omega) (by omega) (by simp; omega) ?_
              intro v' wn hown hgr _ hloc
              obtain ⟨va', vn', vc', ev'⟩ := row_sliceN hown
              have hb1 := ((HB.out.alloc hBs (.cells #[.bool mi, .string nn, .bool he, .int .i64 nu] 261)).alloc (by simp; omega) (.cells #[.string nn] 9)).grown hgr (by simp; omega) (fun k hk => (HR.out.lt k hk).1)
              have HO := hideIt hown
              have HB1 := hideIt hb1
              subst ev'
              clear hown hgr hloc hb1)
            go_roundw
            case rel => exact ⟨k + 1, by omega, by go_num, by rw [HUT.out]; simpa [strV] using HO.out, HB1.out⟩
            case measure => simp [intOf]; omega
        · have hki : ¬ (k : Int) < (E.length : Int) := by omega
          have ek : k = E.length := by omega
          subst ek
          rw [List.take_length, ← HU.out] at hr
          have HR := hideIt hr
          have HB := hideIt hB
          clear hr hB
          go_wp2
          go_roundw
          case rel => exact ⟨j + 1, by omega, by go_num, by first | exact HR.out | simpa using HR.out, HB.out⟩
          case measure => simp [intOf]; omega
    · have hji : ¬ (j : Int) < (es.length : Int) := by omega
      have ej : j = es.length := by omega
      subst ej
      rw [List.take_length] at HR
      go_wp2
      go_ret
      exact ⟨_, rfl, HR.out, HB.out⟩
end Go.Proofs.YthokdbcpkmcieaaGreatDoor
