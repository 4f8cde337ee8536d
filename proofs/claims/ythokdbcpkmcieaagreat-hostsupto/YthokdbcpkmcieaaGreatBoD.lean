/- Walks of the program's board: strokes, records. -/
import Derived.Test.YthokdbcpkmcieaaGreatBoB
import Derived.Test.YthokdbcpkmcieaaGreatBoC
import Derived.WalkSpells
import Derived.WalkLawsBesides
import Derived.OwnWalk
import Derived.BigGuard
import Derived.BigCall
import Derived.Test.YthokdbcpkmcieaaGreatBoA
import Derived.Laws.Rows
import Derived.Laws.StructEq
import Derived.Deep.RegionWith
import Derived.Shelf.Abstract
import Derived.Deep.MidRow
namespace Go.Proofs.YthokdbcpkmcieaaGreat
open Go Go.RowKit
theorem and_u8 (a b : Nat) (ha : a < 256) (hb : b < 256) : bits .and .u8 (a : Int) (b : Int) = ((a &&& b : Nat) : Int) := by
  have hx : a &&& b < 2 ^ 8 := Nat.and_lt_two_pow _ (by omega)
  have h1 : (BitVec.ofInt 8 (a : Int)).toNat = a := by
    rw [BitVec.ofInt_natCast, BitVec.toNat_ofNat]; exact Nat.mod_eq_of_lt (by omega)
  have h2 : (BitVec.ofInt 8 (b : Int)).toNat = b := by
    rw [BitVec.ofInt_natCast, BitVec.toNat_ofNat]; exact Nat.mod_eq_of_lt (by omega)
  show IntKind.u8.wrap ((BitVec.ofInt 8 (a : Int) &&& BitVec.ofInt 8 (b : Int)).toNat : Int) = _
  rw [BitVec.toNat_and, h1, h2, IntKind.wrap_u8]
  omega
theorem and_b (a b : UInt8) : bits .and .u8 (a.toNat : Int) (b.toNat : Int) = ((a &&& b).toNat : Int) := by
  rw [UInt8.toNat_and]; exact and_u8 _ _ a.toNat_lt b.toNat_lt
theorem xor_b (a b : UInt8) : bits .xor .u8 (a.toNat : Int) (b.toNat : Int) = ((a ^^^ b).toNat : Int) := by
  rw [UInt8.toNat_xor]; exact xor_u8 _ _ a.toNat_lt b.toNat_lt
/-- Power, flash and journal of the board at block bb. -/
structure StoAt (w : World) (bb : Nat) (p : Pow) (mem : List UInt8) : Prop where
  c1 : w.cell? ⟨bb, 1, none⟩ = some (.bool p.cut)
  c2 : w.cell? ⟨bb, 2, none⟩ = some (.int .i64 (p.left : Int))
  c3 : w.cell? ⟨bb, 3, none⟩ = some (.int .u8 (p.mask.toNat : Int))
  cm : BytesAt w bb 4 mem
  len : mem.length = 1264
  pl : p.left ≤ 9223372036854775807
  fz : ∀ j, w.frozen? ⟨bb, j, none⟩ = false
  lt : bb < w.heap.size
theorem StoAt.same {w w' : World} {bb : Nat} {p : Pow} {mem : List UInt8} (h : StoAt w bb p mem) (e : ∀ j, 1 ≤ j → j < 1268 → w'.cell? ⟨bb, j, none⟩ = w.cell? ⟨bb, j, none⟩) (hf : ∀ j, w'.frozen? ⟨bb, j, none⟩ = w.frozen? ⟨bb, j, none⟩) (hz : w.heap.size ≤ w'.heap.size) : StoAt w' bb p mem :=
  ⟨(e _ (by omega) (by omega)).trans h.c1, (e _ (by omega) (by omega)).trans h.c2, (e _ (by omega) (by omega)).trans h.c3,
    fun i hi => by have := h.len; exact (e _ (by omega) (by omega)).trans (h.cm i hi), h.len, h.pl, fun j => (hf j).trans (h.fz j), Nat.lt_of_lt_of_le h.lt hz⟩
theorem StoAt.kept {w w' : World} {bb : Nat} {p : Pow} {mem : List UInt8} (h : StoAt w bb p mem) (e : w'.heap[bb]? = w.heap[bb]?) (hz : w.heap.size ≤ w'.heap.size) : StoAt w' bb p mem :=
  h.same (fun j _ _ => World.cell?_of_block (a := ⟨bb, j, none⟩) e) (fun j => World.frozen?_of_block (a := ⟨bb, j, none⟩) e) hz
theorem StoAt.below {w w' : World} {bb : Nat} {p : Pow} {mem : List UInt8} (h : StoAt w bb p mem) (hb : Below w.heap.size w w') : StoAt w' bb p mem := h.kept (hb.block bb h.lt) hb.size
theorem StoAt.setByte {w : World} {bb : Nat} {p : Pow} {mem : List UInt8} (h : StoAt w bb p mem) (i : Nat) (hi : i < 1264) (x : UInt8) : StoAt (w.setCell ⟨bb, 4 + i, none⟩ (.int .u8 (x.toNat : Int))) bb p (mem.set i x) := by
  have hl := h.len
  have ho : ∀ j, j ≠ 4 + i → (w.setCell ⟨bb, 4 + i, none⟩ (.int .u8 (x.toNat : Int))).cell? ⟨bb, j, none⟩ = w.cell? ⟨bb, j, none⟩ := fun j hj => World.cell?_setCell_other _ _ _ _ (by simp <;> omega)
  refine ⟨(ho 1 (by omega)).trans h.c1, (ho 2 (by omega)).trans h.c2, (ho 3 (by omega)).trans h.c3, fun k hk => ?_, by simp [hl], h.pl, fun j => by simp [h.fz j], by simpa [World.setCell] using h.lt⟩
  simp only [List.length_set] at hk
  by_cases e : k = i
  · subst e
    rw [World.cell?_setCell_same _ _ _ (h.cm k hk)]
    simp [List.getD_eq_getElem?_getD, hk]
  · rw [ho (4 + k) (by omega), h.cm k hk]
    simp only [List.getD_eq_getElem?_getD]
    rw [List.getElem?_set_ne (fun e' => e e'.symm)]
theorem StoAt.setLeft {w : World} {bb : Nat} {p : Pow} {mem : List UInt8} (h : StoAt w bb p mem) (n : Nat) (hn : n ≤ 9223372036854775807) : StoAt (w.setCell ⟨bb, 2, none⟩ (.int .i64 (n : Int))) bb ⟨p.cut, n, p.mask⟩ mem := by
  have ho : ∀ j, j ≠ 2 → (w.setCell ⟨bb, 2, none⟩ (.int .i64 (n : Int))).cell? ⟨bb, j, none⟩ = w.cell? ⟨bb, j, none⟩ := fun j hj => World.cell?_setCell_other _ _ _ _ (by simp <;> omega)
  exact ⟨(ho 1 (by omega)).trans h.c1, World.cell?_setCell_same _ _ _ h.c2, (ho 3 (by omega)).trans h.c3, fun k hk => (ho (4 + k) (by omega)).trans (h.cm k hk), h.len, hn, fun j => by simp [h.fz j], by simpa [World.setCell] using h.lt⟩
/-- What a board gives up with. -/
def failE : Ending := .panicked [{ v := .iface 129 (.agg #[]), recovered := false }]
def endS (ok : Bool) : Ending := if ok = true then .returned (.tuple #[]) else failE
theorem endS_no {e : Ending} (h : e = endS false) : e = .panicked [{ v := .iface 129 (.agg #[]), recovered := false }] := h
theorem endS_yes {e : Ending} (h : e = endS true) : e = .returned (.tuple #[]) := h
/-- The store behind strokes: the ending goes by whether the power lasts. -/
def StoEnd (w : World) (bb : Nat) (r : Pow × List UInt8 × Bool) (e : Ending) (w' : World) : Prop := e = endS r.2.2 ∧ StoAt w' bb r.1 r.2.1 ∧ Within w w' bb 1 1267
set_option maxRecDepth 100000 in
set_option maxHeartbeats 2000000 in
theorem stroke_any (bb : Nat) (p : Pow) (mem : List UInt8) (i : Nat) (x : UInt8) (w : World) (h : StoAt w bb p mem) (hi : i < 1264) :
    Calls Tryz.prog 141 #[.pointer (some ⟨bb, 1, none⟩), .pointer (some ⟨bb, 4 + i, none⟩), .int .u8 (x.toNat : Int)] w (StoEnd w bb ((strokeF p (mem.getD i 0) x).1, mem.set i (strokeF p (mem.getD i 0) x).2.1, (strokeF p (mem.getD i 0) x).2.2)) := by
  have c1 := h.c1
  have c2 := h.c2
  have c3 := h.c3
  have ci := h.cm i (by rw [h.len]; exact hi)
  have f1 := h.fz 1
  have f2 := h.fz 2
  have fi := h.fz (4 + i)
  obtain ⟨c, hc⟩ : ∃ c, mem.getD i 0 = c := ⟨_, rfl⟩
  rw [hc] at ci ⊢
  by_cases hcut : p.cut = false
  · have e : strokeF p c x = (p, x, true) := by unfold strokeF; rw [if_pos hcut]
    rw [e]
    rw [hcut] at c1
    have HR := hideIt (h.setByte i hi x)
    clear h e
    go_enter Tryz.func141, Tryz.ntmps141
    go_wp2
    refine bodyPost_ret (results_none rfl _ _ _) rfl ?_
    exact ⟨rfl, HR.out, Within.set _ _ _ _ _ _ (by omega) (by omega)⟩
  · have hct : p.cut = true := by simpa using hcut
    rw [hct] at c1
    by_cases h0 : p.left = 0
    · have e : strokeF p c x = (p, mixF c x p.mask, false) := by unfold strokeF mixF; rw [if_neg hcut, if_pos h0]
      rw [e]
      have hz : ((p.left : Int) == 0) = true := by simp; omega
      obtain ⟨y, hy⟩ : ∃ y, (c ^^^ x).toNat = y := ⟨_, rfl⟩
      obtain ⟨z, hz2⟩ : ∃ z, ((c ^^^ x) &&& p.mask).toNat = z := ⟨_, rfl⟩
      obtain ⟨u, hu⟩ : ∃ u, (mixF c x p.mask).toNat = u := ⟨_, rfl⟩
      have hx1 : bits .xor .u8 (c.toNat : Int) (x.toNat : Int) = (y : Int) := by rw [← hy]; exact xor_b c x
      have hx2 : bits .and .u8 (y : Int) (p.mask.toNat : Int) = (z : Int) := by rw [← hy, ← hz2]; exact and_b (c ^^^ x) p.mask
      have hx3 : bits .xor .u8 (c.toNat : Int) (z : Int) = (u : Int) := by rw [← hu, ← hz2]; exact xor_b c ((c ^^^ x) &&& p.mask)
      have HR := hideIt (h.setByte i hi (mixF c x p.mask))
      rw [hu] at HR
      clear h e hc hy hz2 hu
      go_enter Tryz.func141, Tryz.ntmps141
      go_wp2
      go_region
      all_goals
        go_wp2
        exact ⟨rfl, rfl, HR.out.kept rfl (Nat.le_refl _), (Within.set _ _ _ _ _ _ (by omega) (by omega)).drew⟩
    · have e : strokeF p c x = (⟨p.cut, p.left - 1, p.mask⟩, x, true) := by unfold strokeF; rw [if_neg hcut, if_neg h0]
      obtain ⟨k, hk⟩ : ∃ k, p.left = k + 1 := ⟨p.left - 1, by omega⟩
      rw [e, hk, show k + 1 - 1 = k by omega]
      have hpl := h.pl
      have hz : ((p.left : Int) == 0) = false := by simp; omega
      have HR := hideIt ((h.setLeft k (by omega)).setByte i hi x)
      have c2' : w.cell? ⟨bb, 2, none⟩ = some (.int .i64 ((k : Int) + 1)) := by rw [c2, hk]; simp
      have hz' : (((k : Int) + 1) == 0) = false := by simp; omega
      clear h e c2 hz hc
      go_enter Tryz.func141, Tryz.ntmps141
      go_wp2
      go_end0
      exact ⟨rfl, HR.out, (Within.set _ _ _ _ _ _ (by omega) (by omega)).trans (Within.set _ _ _ _ _ _ (by omega) (by omega))⟩
set_option maxRecDepth 100000 in
set_option maxHeartbeats 2000000 in
theorem erase_any (bb : Nat) (p : Pow) (mem : List UInt8) (i : Nat) (w : World) (h : StoAt w bb p mem) (hi : i < 1264) :
    Calls Tryz.prog 136 #[.pointer (some ⟨bb, 1, none⟩), .pointer (some ⟨bb, 4 + i, none⟩)] w (StoEnd w bb ((strokeF p (mem.getD i 0) 255).1, mem.set i (strokeF p (mem.getD i 0) 255).2.1, (strokeF p (mem.getD i 0) 255).2.2)) := by
  have HC := hideIt (stroke_any bb p mem i 255 w h hi)
  obtain ⟨r, hr⟩ : ∃ r, ((strokeF p (mem.getD i 0) 255).1, mem.set i (strokeF p (mem.getD i 0) 255).2.1, (strokeF p (mem.getD i 0) 255).2.2) = r := ⟨_, rfl⟩
  rw [hr] at HC ⊢
  clear hr h
  obtain ⟨p', m', ok⟩ := r
  go_enter Tryz.func136, Tryz.ntmps136
  go_wp2_with fail
  refine HC.out.mono ?_
  rintro e w1 ⟨he, h1, h2⟩
  have HQ := hideIt (And.intro h1 h2)
  clear h1 h2 HC
  cases ok
  · obtain rfl := endS_no he
    go_wp2
    exact ⟨rfl, rfl, HQ.out.1, HQ.out.2⟩
  · obtain rfl := endS_yes he
    go_wp2
    go_end0
    exact ⟨rfl, HQ.out.1, HQ.out.2⟩
set_option maxRecDepth 100000 in
set_option maxHeartbeats 2000000 in
theorem burn_any (bb : Nat) (p : Pow) (mem : List UInt8) (i : Nat) (x : UInt8) (w : World) (h : StoAt w bb p mem) (hi : i < 1264) :
    Calls Tryz.prog 137 #[.pointer (some ⟨bb, 1, none⟩), .pointer (some ⟨bb, 4 + i, none⟩), .int .u8 (x.toNat : Int)] w (StoEnd w bb ((strokeF p (mem.getD i 0) (mem.getD i 0 &&& x)).1, mem.set i (strokeF p (mem.getD i 0) (mem.getD i 0 &&& x)).2.1, (strokeF p (mem.getD i 0) (mem.getD i 0 &&& x)).2.2)) := by
  have HC := hideIt (stroke_any bb p mem i (mem.getD i 0 &&& x) w h hi)
  have ci := h.cm i (by rw [h.len]; exact hi)
  obtain ⟨r, hr⟩ : ∃ r, ((strokeF p (mem.getD i 0) (mem.getD i 0 &&& x)).1, mem.set i (strokeF p (mem.getD i 0) (mem.getD i 0 &&& x)).2.1, (strokeF p (mem.getD i 0) (mem.getD i 0 &&& x)).2.2) = r := ⟨_, rfl⟩
  rw [hr] at HC ⊢
  have ha := and_b (mem.getD i 0) x
  obtain ⟨c, hc⟩ : ∃ c, (mem.getD i 0).toNat = c := ⟨_, rfl⟩
  obtain ⟨y, hy⟩ : ∃ y, (mem.getD i 0 &&& x).toNat = y := ⟨_, rfl⟩
  rw [hc] at ci ha
  rw [hy] at HC ha
  clear hr h hc hy
  obtain ⟨p', m', ok⟩ := r
  go_enter Tryz.func137, Tryz.ntmps137
  go_wp2_with fail
  refine HC.out.mono ?_
  rintro e w1 ⟨he, h1, h2⟩
  have HQ := hideIt (And.intro h1 h2)
  clear h1 h2 HC
  cases ok
  · obtain rfl := endS_no he
    go_wp2
    exact ⟨rfl, rfl, HQ.out.1, HQ.out.2⟩
  · obtain rfl := endS_yes he
    go_wp2
    go_end0
    exact ⟨rfl, HQ.out.1, HQ.out.2⟩
end Go.Proofs.YthokdbcpkmcieaaGreat
namespace Go.Proofs.YthokdbcpkmcieaaGreat
open Go Go.RowKit
theorem Tryz.infoRec : (Tryz.prog.info? 61).map (·.size) = some 4 := by kernel_rfl
/-- A record as a value. -/
def recV (r : List UInt8) : Value := .agg #[.int .u8 ((r.getD 0 0).toNat : Int), .int .u8 ((r.getD 1 0).toNat : Int), .int .u8 ((r.getD 2 0).toNat : Int), .int .u8 ((r.getD 3 0).toNat : Int)]
set_option maxRecDepth 100000 in
set_option maxHeartbeats 2000000 in
theorem blank_any (w : World) : Calls Tryz.prog 67 #[] w fun e w' => e = .returned (.agg #[.int .u8 255, .int .u8 255, .int .u8 255, .int .u8 255]) ∧ w' = w.alloc (.cells #[.int .u8 255, .int .u8 255, .int .u8 255, .int .u8 255] 61) := by
  go_enter Tryz.func67, Tryz.ntmps67
  go_wp2
  refine bodyPost_ret (results_cell_row rfl _ _ w.heap.size 61 #[.int .u8 255, .int .u8 255, .int .u8 255, .int .u8 255] (0, 0) _ rfl (heap_alloc_new w _) Tryz.underlying61 rfl Tryz.infoRec) rfl ?_
  exact ⟨rfl, rfl⟩
theorem chk_two (l : List UInt8) : chkB l = [UInt8.ofNat (crcN l / 256), UInt8.ofNat (crcN l % 256)] := rfl
theorem bytes_two (w : World) (a b : UInt8) (t : TypeId) : BytesAt (w.alloc (.cells #[.int .u8 (a.toNat : Int), .int .u8 (b.toNat : Int)] t)) w.heap.size 0 [a, b] := by
  have hc : ∀ j, (w.alloc (.cells #[.int .u8 (a.toNat : Int), .int .u8 (b.toNat : Int)] t)).cell? ⟨w.heap.size, j, none⟩ = #[Value.int .u8 (a.toNat : Int), .int .u8 (b.toNat : Int)][j]? := fun j => World.cell?_alloc_mark w _ t (0, 0) j
  intro i hi
  rw [Nat.zero_add, hc]
  have : i = 0 ∨ i = 1 := by simp at hi; omega
  rcases this with rfl | rfl <;> rfl
set_option maxRecDepth 100000 in
set_option maxHeartbeats 2000000 in
theorem record_one (sb : Nat) (n : UInt8) (m : List UInt8) (w : World) :
    Calls Tryz.prog 118 #[.pointer (some ⟨sb, 4, none⟩), .int .u8 (n.toNat : Int), .int .u8 1] w fun e w' => e = .returned (recV (recF m n 1)) ∧ Below w.heap.size w w' := by
  obtain ⟨c, hc⟩ : ∃ c, crcN [n, 1] = c := ⟨_, rfl⟩
  have hcl : c < 65536 := by rw [← hc]; exact crcN_lt _
  have hr : recV (recF m n 1) = .agg #[.int .u8 (n.toNat : Int), .int .u8 1, .int .u8 ((c : Int) / 256), .int .u8 ((c : Int) % 256)] := by
    have h1 : (UInt8.ofNat (c / 256)).toNat = c / 256 := by rw [UInt8.toNat_ofNat']; omega
    have h2 : (UInt8.ofNat (c % 256)).toNat = c % 256 := by rw [UInt8.toNat_ofNat']; omega
    show Value.agg #[.int .u8 (n.toNat : Int), .int .u8 1, .int .u8 ((UInt8.ofNat (crcN [n, 1] / 256)).toNat : Int), .int .u8 ((UInt8.ofNat (crcN [n, 1] % 256)).toNat : Int)] = _
    rw [hc, h1, h2]
    simp
  rw [hr]
  have HC := hideIt (fun w' (hw : BytesAt w' (w.heap.size + 1) 0 [n, 1]) => check_any (w.heap.size + 1) 0 2 [n, 1] w' (by simp) hw)
  have HB := hideIt (bytes_two (w.alloc (.cells #[.int .u8 0, .int .u8 0, .int .u8 0, .int .u8 0] 61)) n 1 5)
  rw [World.alloc_size] at HB
  rw [hc] at HC
  clear hr hc
  go_enter Tryz.func118, Tryz.ntmps118
  go_wp2_with fail
  refine (HC.out _ HB.out).mono ?_
  rintro e w1 ⟨rfl, rfl⟩
  go_wp2
  refine bodyPost_ret (results_cell_row rfl _ _ w.heap.size 61 _ (0, 0) _ rfl (heap_alloc2_old w _ _) Tryz.underlying61 rfl Tryz.infoRec) rfl ?_
  exact ⟨rfl, ((Below.refl _ _).alloc (Nat.le_refl _) _).alloc (by simp) _⟩
theorem StoAt.page {w : World} {bb : Nat} {p : Pow} {mem : List UInt8} (h : StoAt w bb p mem) (n : Nat) (hn : n < 16) : BytesAt w bb (4 + n * 64) (pageF mem n) := by
  have hl := h.len
  intro i hi
  have hw := win_get mem (64 * n) 64 i
  have hlen : (pageF mem n).length = 64 := win_len mem (64 * n) 64 (by omega)
  rw [hlen] at hi
  rw [if_pos hi] at hw
  have := h.cm (64 * n + i) (by omega)
  rw [show 4 + n * 64 + i = 4 + (64 * n + i) by omega, this]
  simp only [List.getD_eq_getElem?_getD]
  rw [page_win, hw]
theorem page_length {mem : List UInt8} (hl : mem.length = 1264) (n : Nat) (hn : n < 16) : (pageF mem n).length = 64 := win_len mem (64 * n) 64 (by omega)
theorem bytes_cells {w : World} {g off : Nat} {l : List UInt8} (h : BytesAt w g off l) : ∀ j u, (byteVs l)[j]? = some u → w.cell? ((⟨g, off, none⟩ : Addr).add j) = some u := by
  intro j u hj
  obtain ⟨h1, rfl⟩ := byteVs_at l j u hj
  rw [Addr.add_lit]
  exact h j h1
theorem byteVs_one (l : List UInt8) : ∀ u ∈ byteVs l, u.oneCell' = true := by
  intro u hu
  obtain ⟨m, _, rfl⟩ := List.mem_map.1 hu
  rfl
theorem own_two (w : World) (base : Nat) (hb : base ≤ w.heap.size) (x y : UInt8) : (w.alloc (.cells #[.int .u8 (x.toNat : Int), .int .u8 (y.toNat : Int)] 5)).ownsRow base 5 1 (.slice (some ⟨w.heap.size, 0, none⟩) 2 2) 2 (byteVs [x, y]) :=
  ⟨rfl, .inr ⟨w.heap.size, 2, _, rfl, hb, heap_alloc_new w _, by decide, by decide, rfl, rfl⟩⟩
set_option maxRecDepth 100000 in
set_option maxHeartbeats 4000000 in
theorem record_two (bb : Nat) (p : Pow) (mem : List UInt8) (n : UInt8) (w : World) (h : StoAt w bb p mem) (hn : n < 16) :
    Calls Tryz.prog 118 #[.pointer (some ⟨bb, 4, none⟩), .int .u8 (n.toNat : Int), .int .u8 2] w fun e w' => e = .returned (recV (recF mem n 2)) ∧ Below w.heap.size w w' := by
  obtain ⟨i0, hi, hz0, hz1, hz2⟩ := info_of Tryz.infoU8
  have hnn := u16 hn
  have hpl := page_length h.len n.toNat hnn
  have hlt := h.lt
  have hpg := h.page n.toNat hnn
  obtain ⟨pg, hpe⟩ : ∃ pg, pageF mem n.toNat = pg := ⟨_, rfl⟩
  have hof : ofRec mem n 2 = [n, 2] ++ pg := by unfold ofRec; rw [if_pos rfl, hpe]
  rw [hpe] at hpl hpg
  obtain ⟨c, hc⟩ : ∃ c, crcN ([n, 2] ++ pg) = c := ⟨_, rfl⟩
  have hcl : c < 65536 := by rw [← hc]; exact crcN_lt _
  have hr : recV (recF mem n 2) = .agg #[.int .u8 (n.toNat : Int), .int .u8 2, .int .u8 ((c : Int) / 256), .int .u8 ((c : Int) % 256)] := by
    have h1 : (UInt8.ofNat (c / 256)).toNat = c / 256 := by rw [UInt8.toNat_ofNat']; omega
    have h2 : (UInt8.ofNat (c % 256)).toNat = c % 256 := by rw [UInt8.toNat_ofNat']; omega
    show Value.agg #[.int .u8 (n.toNat : Int), .int .u8 2, .int .u8 ((UInt8.ofNat (crcN (ofRec mem n 2) / 256)).toNat : Int), .int .u8 ((UInt8.ofNat (crcN (ofRec mem n 2) % 256)).toNat : Int)] = _
    rw [hof, hc, h1, h2]
    simp
  rw [hr]
  have HO := hideIt (own_two (w.alloc (.cells #[.int .u8 0, .int .u8 0, .int .u8 0, .int .u8 0] 61)) (w.heap.size + 1) (by simp) n 2)
  rw [World.alloc_size] at HO
  have hBh : ((w.alloc (.cells #[.int .u8 0, .int .u8 0, .int .u8 0, .int .u8 0] 61)).alloc (.cells #[.int .u8 (n.toNat : Int), .int .u8 2] 5)).heap[w.heap.size]? = some (.cells #[.int .u8 0, .int .u8 0, .int .u8 0, .int .u8 0] 61) := heap_alloc2_old w _ _
  have hBw : Below w.heap.size w ((w.alloc (.cells #[.int .u8 0, .int .u8 0, .int .u8 0, .int .u8 0] 61)).alloc (.cells #[.int .u8 (n.toNat : Int), .int .u8 2] 5)) := ((Below.refl _ _).alloc (Nat.le_refl _) _).alloc (by simp) _
  have HP := hideIt (hpg.kept (w' := (w.alloc (.cells #[.int .u8 0, .int .u8 0, .int .u8 0, .int .u8 0] 61)).alloc (.cells #[.int .u8 (n.toNat : Int), .int .u8 2] 5)) (hBw.block bb hlt))
  have HW := hideIt (And.intro hBh hBw)
  have hni : (n.toNat : Int) < 16 := by omega
  have HCC := hideIt hc
  have HL := hideIt hpl
  clear hr hpg hof hBh hBw h hc hpe hpl
  go_enter Tryz.func118, Tryz.ntmps118
  go_wp2_with (at_builtin; refine wpList_append_own_at _ rfl _ _ 24 rfl (w.heap.size + 1) 5 i0 _ 1 1 Tryz.underlying24 hi hz0 hz1 hz2 rfl (by decide) _ 2 _ rfl HO.out ⟨bb, 4 + n.toNat * 64, none⟩ 64 64 (byteVs pg) rfl (by rw [byteVs_len]; exact HL.out) (bytes_cells HP.out) (byteVs_one pg) (by unfold maxLen; omega) (by omega) (by simp) ?_; intro v' wn hown hgr _ hloc; obtain ⟨g, cap, rfl, hg1, hg2⟩ := own_some hown (by omega))
  have hbt : BytesAt wn g 0 ([n, 2] ++ pg) := own_bytes (n := 66) (cap := cap) (base := w.heap.size + 1) (by rw [byteVs_append]; exact hown)
  have HK := hideIt (check_any g 0 cap ([n, 2] ++ pg) wn (by simp [HL.out]) hbt)
  rw [HCC.out, show ([n, 2] ++ pg).length = 66 by simp [HL.out]] at HK
  replace hgr : World.grownBy ((w.alloc (.cells #[.int .u8 0, .int .u8 0, .int .u8 0, .int .u8 0] 61)).alloc (.cells #[.int .u8 (n.toNat : Int), .int .u8 2] 5)) wn (some (w.heap.size + 1)) := hgr
  have hq : wn.heap[w.heap.size]? = some (.cells #[.int .u8 0, .int .u8 0, .int .u8 0, .int .u8 0] 61) := (hgr.block w.heap.size (by simp; omega) (by simp)).trans HW.out.1
  have hbl : Below w.heap.size w wn := by
    have hb := HW.out.2
    refine ⟨hgr.os.trans hb.os, hgr.tape.trans hb.tape, hgr.output.trans hb.output, Nat.le_trans hb.size hgr.size, fun k hk => ?_⟩
    rw [hgr.block k (by simp; omega) (by simp; omega), hb.block k hk]
  have HQ := hideIt (And.intro hq hbl)
  have d0 : wn.cell? ⟨w.heap.size, 0, none⟩ = some (.int .u8 0) := cell_of_row _ _ 0 _ _ (0, 0) hq
  have d1 : wn.cell? ⟨w.heap.size, 1, none⟩ = some (.int .u8 0) := cell_of_row _ _ 1 _ _ (0, 0) hq
  have d2 : wn.cell? ⟨w.heap.size, 2, none⟩ = some (.int .u8 0) := cell_of_row _ _ 2 _ _ (0, 0) hq
  have d3 : wn.cell? ⟨w.heap.size, 3, none⟩ = some (.int .u8 0) := cell_of_row _ _ 3 _ _ (0, 0) hq
  have e0 := frozen_of_row wn w.heap.size 0 _ _ hq
  have e1 := frozen_of_row wn w.heap.size 1 _ _ hq
  have e2 := frozen_of_row wn w.heap.size 2 _ _ hq
  have e3 := frozen_of_row wn w.heap.size 3 _ _ hq
  clear hown hgr hloc hq hbl hbt
  refine HK.out.mono ?_
  rintro e w1 ⟨rfl, rfl⟩
  go_wp2
  refine bodyPost_ret (results_cell_row rfl _ _ w.heap.size 61 _ (0, 0) _ rfl (heap_setCell_same _ _ _ _ _ _ (heap_setCell_same _ _ _ _ _ _ (heap_setCell_same _ _ _ _ _ _ (heap_setCell_same _ _ _ _ _ _ HQ.out.1)))) Tryz.underlying61 rfl Tryz.infoRec) rfl ?_
  exact ⟨rfl, (((HQ.out.2.setCell (p := ⟨w.heap.size, 0, none⟩) (Nat.le_refl _) _).setCell (p := ⟨w.heap.size, 1, none⟩) (Nat.le_refl _) _).setCell (p := ⟨w.heap.size, 2, none⟩) (Nat.le_refl _) _).setCell (p := ⟨w.heap.size, 3, none⟩) (Nat.le_refl _) _⟩
end Go.Proofs.YthokdbcpkmcieaaGreat
namespace Go.Proofs.YthokdbcpkmcieaaGreat
open Go Go.RowKit
theorem below_drewN {n : Nat} {w w1 : World} (h : Below n w w1) (m : Nat) : Below n w (w1.drewN m) := ⟨h.os, h.tape, h.output, h.size, h.block⟩
theorem slot_length {mem : List UInt8} (hl : mem.length = 1264) (k : Nat) (hk : k < 60) : (slotF mem k).length = 4 := win_len mem (1024 + 4 * k) 4 (by omega)
theorem StoAt.slot {w : World} {bb : Nat} {p : Pow} {mem : List UInt8} (h : StoAt w bb p mem) (k : Nat) (hk : k < 60) : BytesAt w bb (1028 + k * 4) (slotF mem k) := by
  have hl := h.len
  intro i hi
  have hw := win_get mem (1024 + 4 * k) 4 i
  rw [slot_length hl k hk] at hi
  rw [if_pos hi] at hw
  have := h.cm (1024 + 4 * k + i) (by omega)
  rw [show 1028 + k * 4 + i = 4 + (1024 + 4 * k + i) by omega, this]
  simp only [List.getD_eq_getElem?_getD]
  rw [slot_win, hw]
/-- Four bytes, apart. -/
theorem four {l : List UInt8} (h : l.length = 4) : ∃ a b c d, l = [a, b, c, d] := by
  match l, h with
  | [a, b, c, d], _ => exact ⟨a, b, c, d, rfl⟩
theorem four_cells {w : World} {g off : Nat} {a b c d : UInt8} (h : BytesAt w g off [a, b, c, d]) : w.cell? ⟨g, off, none⟩ = some (.int .u8 (a.toNat : Int)) ∧ w.cell? ⟨g, off + 1, none⟩ = some (.int .u8 (b.toNat : Int)) ∧ w.cell? ⟨g, off + 2, none⟩ = some (.int .u8 (c.toNat : Int)) ∧ w.cell? ⟨g, off + 3, none⟩ = some (.int .u8 (d.toNat : Int)) :=
  ⟨h 0 (by simp), h 1 (by simp), h 2 (by simp), h 3 (by simp)⟩
theorem int_eq (a b : UInt8) : ((a.toNat : Int) == (b.toNat : Int)) = decide (a = b) := by
  by_cases h : a = b
  · subst h; simp
  · have : ¬ a.toNat = b.toNat := fun e => h (UInt8.toNat_inj.1 e)
    simp only [decide_eq_false h]
    simp; omega
set_option maxRecDepth 100000 in
set_option maxHeartbeats 2000000 in
theorem eqRecI (a0 a1 a2 a3 b0 b1 b2 b3 : Int) (w : World) : (Op.equalIn 10000 61 (.agg #[.int .u8 a0, .int .u8 a1, .int .u8 a2, .int .u8 a3]) (.agg #[.int .u8 b0, .int .u8 b1, .int .u8 b2, .int .u8 b3])).run Tryz.prog w = .ok (a0 == b0 && (a1 == b1 && (a2 == b2 && a3 == b3))) w := by
  have hu5 := Tryz.underlying5
  have ha5 := Tryz.isAgg5
  have hz5 := Tryz.sizeOf5
  rw [show (10000 : Nat) = 9999 + 1 from rfl, Op.equalIn]
  simp only [Sem.run_bind, run_underlying Tryz.underlying61, Result.andThen_ok]
  simp only [Std.Legacy.Range.forIn_eq_forIn_range', Std.Legacy.Range.size, Nat.sub_zero, Nat.add_sub_cancel, Nat.div_one, List.range'_succ, List.range'_zero, List.forIn_cons, List.forIn_nil]
  go_simp
  by_cases h1 : a0 = b0 <;> by_cases h2 : a1 = b1 <;> by_cases h3 : a2 = b2 <;> by_cases h4 : a3 = b3 <;> simp [h1, h2, h3, h4]
theorem eqRec (a0 a1 a2 a3 b0 b1 b2 b3 : UInt8) (w : World) : (Op.equalIn 10000 61 (.agg #[.int .u8 (a0.toNat : Int), .int .u8 (a1.toNat : Int), .int .u8 (a2.toNat : Int), .int .u8 (a3.toNat : Int)]) (.agg #[.int .u8 (b0.toNat : Int), .int .u8 (b1.toNat : Int), .int .u8 (b2.toNat : Int), .int .u8 (b3.toNat : Int)])).run Tryz.prog w = .ok (decide ([a0, a1, a2, a3] = [b0, b1, b2, b3])) w := by
  rw [eqRecI, int_eq, int_eq, int_eq, int_eq]
  by_cases h1 : a0 = b0 <;> by_cases h2 : a1 = b1 <;> by_cases h3 : a2 = b2 <;> by_cases h4 : a3 = b3 <;> simp [h1, h2, h3, h4]
theorem Tryz.guardRec : Tryz.prog.eqGuardType Tryz.prog.depth 61 = false := by kernel_rfl
theorem guardRec (op : BinOp) (x y : Operand) (xs ys : Array Value) (w : World) : (eqGuard op 61 x y (.agg xs) (.agg ys)).run Tryz.prog w = .ok () w := run_eqGuard_agg w op _ x y xs ys Tryz.guardRec
set_option maxRecDepth 100000 in
set_option maxHeartbeats 4000000 in
theorem index_any (bb : Nat) (p : Pow) (mem : List UInt8) (k : Nat) (w : World) (h : StoAt w bb p mem) (hu : Used mem k) (hk : k < 60) :
    Calls Tryz.prog 140 #[.slice (some ⟨bb, 1028, none⟩) 60 60, .agg #[.int .u8 255, .int .u8 255, .int .u8 255, .int .u8 255]] w fun e w' => e = .returned (.int .i64 (k : Int)) ∧ Below w.heap.size w w' := by
  have hlt := h.lt
  go_enter Tryz.func140, Tryz.ntmps140
  go_wp2_with fail
  go_loopw [8] (fun i wr => ∃ j : Nat, j ≤ k ∧ i = .int .i64 j ∧ wr.heap[w.heap.size]? = some (.cells #[.int .u8 255, .int .u8 255, .int .u8 255, .int .u8 255] 61) ∧ Below w.heap.size w wr) (fun i _ => k - (intOf i).toNat)
  case atStart => exact ⟨0, Nat.zero_le _, rfl, heap_alloc_new w _, (Below.refl _ _).alloc (Nat.le_refl _) _⟩
  case round =>
    obtain ⟨j, hj, rfl, hq, hb⟩ := hrel
    have hji : (j : Int) < 60 := by omega
    have hsl := (h.below hb).slot j (by omega)
    obtain ⟨a0, a1, a2, a3, ha⟩ := four (slot_length h.len j (by omega))
    rw [ha] at hsl
    obtain ⟨s0, s1, s2, s3⟩ := four_cells hsl
    have d0 : wr.cell? ⟨w.heap.size, 0, none⟩ = some (.int .u8 255) := cell_of_row _ _ 0 _ _ (0, 0) hq
    have d1 : wr.cell? ⟨w.heap.size, 1, none⟩ = some (.int .u8 255) := cell_of_row _ _ 1 _ _ (0, 0) hq
    have d2 : wr.cell? ⟨w.heap.size, 2, none⟩ = some (.int .u8 255) := cell_of_row _ _ 2 _ _ (0, 0) hq
    have d3 : wr.cell? ⟨w.heap.size, 3, none⟩ = some (.int .u8 255) := cell_of_row _ _ 3 _ _ (0, 0) hq
    have hE : ∀ w', (Op.equalIn 10000 61 (.agg #[.int .u8 255, .int .u8 255, .int .u8 255, .int .u8 255]) (.agg #[.int .u8 (a0.toNat : Int), .int .u8 (a1.toNat : Int), .int .u8 (a2.toNat : Int), .int .u8 (a3.toNat : Int)])).run Tryz.prog w' = .ok (decide (([255, 255, 255, 255] : List UInt8) = [a0, a1, a2, a3])) w' := fun w' => eqRec 255 255 255 255 a0 a1 a2 a3 w'
    have hG := guardRec
    have hsd : slotF mem j = [a0, a1, a2, a3] := ha
    have HQ := hideIt (And.intro hq hb)
    by_cases hjk : j = k
    · have hbl : ([255, 255, 255, 255] : List UInt8) = [a0, a1, a2, a3] := by rw [← hsd, hjk, hu.free k (Nat.le_refl _) hk]; rfl
      rw [decide_eq_true hbl] at hE
      clear hq hb hsl hu ha h hsd hbl
      subst hjk
      go_wp2
      go_quiet (fail)
      go_wp2
      go_ret
      exact ⟨rfl, below_drewN HQ.out.2 _⟩
    · have hbl : ¬ ([255, 255, 255, 255] : List UInt8) = [a0, a1, a2, a3] := fun e => hu.full j (by omega) (by rw [hsd, ← e]; rfl)
      rw [decide_eq_false hbl] at hE
      clear hq hb hsl hu ha h hsd hbl
      go_wp2
      go_quiet (fail)
      go_wp2
      go_roundw
      case rel => exact ⟨j + 1, by omega, by go_num, HQ.out.1, below_drewN HQ.out.2 _⟩
      case measure => simp [intOf]; omega
/-- One stroke on the memory. -/
def stepS (p : Pow) (m : List UInt8) (i : Nat) (o : Option UInt8) : Pow × List UInt8 × Bool := ((strokeF p (m.getD i 0) (wantF (m.getD i 0) o)).1, m.set i (strokeF p (m.getD i 0) (wantF (m.getD i 0) o)).2.1, (strokeF p (m.getD i 0) (wantF (m.getD i 0) o)).2.2)
theorem runS_cons (p : Pow) (m : List UInt8) (i : Nat) (o : Option UInt8) (os : List (Option UInt8)) : runS p m i (o :: os) = thenS (stepS p m i o) fun p' m' => runS p' m' (i + 1) os := by
  rw [runS]
  unfold thenS stepS
  by_cases h : (strokeF p (m.getD i 0) (wantF (m.getD i 0) o)).2.2 = true
  · rw [if_pos h, if_pos h]
  · rw [if_neg h, if_neg h]
    have h' : (strokeF p (m.getD i 0) (wantF (m.getD i 0) o)).2.2 = false := by simpa using h
    rw [h']
theorem runS_append : ∀ (a b : List (Option UInt8)) (p : Pow) (m : List UInt8) (i : Nat), runS p m i (a ++ b) = thenS (runS p m i a) fun p' m' => runS p' m' (i + a.length) b
  | [], b, p, m, i => by simp [runS, thenS]
  | o :: a, b, p, m, i => by
    rw [List.cons_append, runS_cons, runS_cons]
    by_cases h : (stepS p m i o).2.2 = true
    · have e1 : thenS (stepS p m i o) (fun p' m' => runS p' m' (i + 1) (a ++ b)) = runS (stepS p m i o).1 (stepS p m i o).2.1 (i + 1) (a ++ b) := by unfold thenS; rw [if_pos h]
      have e2 : thenS (stepS p m i o) (fun p' m' => runS p' m' (i + 1) a) = runS (stepS p m i o).1 (stepS p m i o).2.1 (i + 1) a := by unfold thenS; rw [if_pos h]
      rw [e1, e2, runS_append a b]
      simp only [List.length_cons]
      rw [show i + (a.length + 1) = i + 1 + a.length by omega]
    · have e1 : ∀ f, thenS (stepS p m i o) f = stepS p m i o := fun f => by unfold thenS; rw [if_neg h]
      rw [e1, e1, e1]
theorem then_ok {r : Pow × List UInt8 × Bool} {p : Pow} {m : List UInt8} {f : Pow → List UInt8 → Pow × List UInt8 × Bool} (h : r = (p, m, true)) : thenS r f = f p m := by subst h; rfl
theorem then_no {r : Pow × List UInt8 × Bool} {p : Pow} {m : List UInt8} {f : Pow → List UInt8 → Pow × List UInt8 × Bool} (h : r = (p, m, false)) : thenS r f = (p, m, false) := by subst h; rfl
/-- One stroke more. -/
theorem runS_more {p p' : Pow} {m m' : List UInt8} {i j : Nat} {os : List (Option UInt8)} (hj : j < os.length) (h : runS p m i (os.take j) = (p', m', true)) : runS p m i (os.take (j + 1)) = stepS p' m' (i + j) (os.getD j none) ∧ ((stepS p' m' (i + j) (os.getD j none)).2.2 = false → runS p m i os = stepS p' m' (i + j) (os.getD j none)) := by
  have hl : (os.take j).length = j := by rw [List.length_take]; omega
  have e : os.take (j + 1) = os.take j ++ [os.getD j none] := by
    rw [List.take_add_one, List.getElem?_eq_getElem hj, List.getD_eq_getElem?_getD, List.getElem?_eq_getElem hj]
    rfl
  have e1 : runS p m i (os.take (j + 1)) = stepS p' m' (i + j) (os.getD j none) := by
    rw [e, runS_append, then_ok h, hl, runS_cons]
    unfold thenS
    split
    · rename_i h2
      unfold runS
      have : stepS p' m' (i + j) (os.getD j none) = ((stepS p' m' (i + j) (os.getD j none)).1, (stepS p' m' (i + j) (os.getD j none)).2.1, (stepS p' m' (i + j) (os.getD j none)).2.2) := rfl
      rw [this, h2]
    · rfl
  refine ⟨e1, fun hf => ?_⟩
  have e2 : os = os.take (j + 1) ++ os.drop (j + 1) := (List.take_append_drop _ _).symm
  rw [e2, runS_append, e1]
  unfold thenS
  rw [if_neg (by rw [hf]; simp)]
  rw [← e2]
set_option maxRecDepth 100000 in
set_option maxHeartbeats 4000000 in
theorem write_any (bb : Nat) (p : Pow) (mem r : List UInt8) (k : Nat) (w : World) (h : StoAt w bb p mem) (hu : Used mem k) (hk : k < 60) (hr : r.length = 4) :
    Calls Tryz.prog 135 #[.pointer (some ⟨bb, 4, none⟩), recV r, .pointer (some ⟨bb, 1, none⟩)] w (StoEnd w bb (writeF p mem r)) := by
  have hlt := h.lt
  have HF := hideIt (show writeF p mem r = runS p mem (1024 + 4 * k) (r.map some) by unfold writeF; rw [firstF_used hu hk])
  obtain ⟨r0, r1, r2, r3, rfl⟩ := four hr
  have hrv : recV [r0, r1, r2, r3] = .agg #[.int .u8 (r0.toNat : Int), .int .u8 (r1.toNat : Int), .int .u8 (r2.toNat : Int), .int .u8 (r3.toNat : Int)] := rfl
  rw [hrv]
  have HI := hideIt (fun w' (h' : StoAt w' bb p mem) => index_any bb p mem k w' h' hu hk)
  have hki : (k : Int) < 60 := by omega
  have HS := hideIt h
  clear h hu hrv hr
  go_enter Tryz.func135, Tryz.ntmps135
  go_wp2_with fail
  go_region_with (first | (go_at_call 67; refine (blank_any _).mono ?_; rintro e wx ⟨rfl, rfl⟩) | (go_at_call 140; refine (HI.out _ (by first | exact HS.out.below (((Below.refl _ _).alloc (Nat.le_refl _) _).alloc (by simp) _) | exact HS.out.below (((Below.refl _ _).alloc (Nat.le_refl _) _).alloc (by simp) _).drew)).mono ?_; rintro e wy ⟨rfl, hby⟩))
  have hwy : Below w.heap.size w wy ∧ wy.heap[w.heap.size]? = some (.cells #[.int .u8 (r0.toNat : Int), .int .u8 (r1.toNat : Int), .int .u8 (r2.toNat : Int), .int .u8 (r3.toNat : Int)] 61) := by
    have h1 : Below w.heap.size w wy := (((Below.refl _ _).alloc (Nat.le_refl _) _).alloc (by simp) _).trans (by have := hby.mono (B' := w.heap.size) (by simp; omega); exact ⟨this.os, this.tape, this.output, this.size, this.block⟩)
    refine ⟨h1, (hby.block w.heap.size (by simp; omega)).trans ?_⟩
    exact heap_alloc2_old w _ _
  have HW := hideIt hwy
  clear hwy hby HI
  obtain ⟨os, hos⟩ : ∃ os : List (Option UInt8), [r0, r1, r2, r3].map some = os := ⟨_, rfl⟩
  have hol : os.length = 4 := by rw [← hos]; rfl
  rw [hos] at HF
  go_wp2_with fail
  go_loopw [18] (fun i wr => ∃ j : Nat, j ≤ 4 ∧ i = .int .i64 j ∧ ∃ p' m', runS p mem (1024 + 4 * k) (os.take j) = (p', m', true) ∧ StoAt wr bb p' m' ∧ Within w wr bb 1 1267 ∧ wr.heap[w.heap.size]? = some (.cells #[.int .u8 (r0.toNat : Int), .int .u8 (r1.toNat : Int), .int .u8 (r2.toNat : Int), .int .u8 (r3.toNat : Int)] 61)) (fun i _ => 4 - (intOf i).toNat)
  case atStart =>
    refine ⟨0, by omega, rfl, p, mem, by simp [runS], ?_, ?_, ?_⟩
    · exact (HS.out.below HW.out.1).kept rfl (Nat.le_refl _)
    · exact Within.below HW.out.1 hlt
    · exact HW.out.2
  case round =>
    obtain ⟨j, hj, rfl, p', m', hrun, hst, hwi, hbx⟩ := hrel
    by_cases hj4 : j < 4
    · obtain ⟨x, hx⟩ : ∃ x, [r0, r1, r2, r3].getD j 0 = x := ⟨_, rfl⟩
      have hox : os.getD j none = some x := by
        rw [← hos, ← hx, List.getD_eq_getElem?_getD, List.getElem?_map, List.getD_eq_getElem?_getD, List.getElem?_eq_getElem (by simpa using hj4)]
        rfl
      have cj : wr.cell? ⟨w.heap.size, j, none⟩ = some (.int .u8 (x.toNat : Int)) := by
        rw [cell_of_row _ _ j _ _ (0, 0) hbx, ← hx]
        have : j = 0 ∨ j = 1 ∨ j = 2 ∨ j = 3 := by omega
        rcases this with rfl | rfl | rfl | rfl <;> rfl
      obtain ⟨hm1, hm2⟩ := runS_more (by omega) hrun
      rw [hox] at hm1 hm2
      have HB := hideIt (fun w' (h' : StoAt w' bb p' m') => burn_any bb p' m' (1024 + 4 * k + j) x w' h' (by omega))
      rw [show 4 + (1024 + 4 * k + j) = 1028 + k * 4 + j by omega] at HB
      have hss : ((strokeF p' (m'.getD (1024 + 4 * k + j) 0) (m'.getD (1024 + 4 * k + j) 0 &&& x)).1, m'.set (1024 + 4 * k + j) (strokeF p' (m'.getD (1024 + 4 * k + j) 0) (m'.getD (1024 + 4 * k + j) 0 &&& x)).2.1, (strokeF p' (m'.getD (1024 + 4 * k + j) 0) (m'.getD (1024 + 4 * k + j) 0 &&& x)).2.2) = stepS p' m' (1024 + 4 * k + j) (some x) := rfl
      rw [hss] at HB
      obtain ⟨q, hq⟩ : ∃ q, stepS p' m' (1024 + 4 * k + j) (some x) = q := ⟨_, rfl⟩
      rw [hq] at HB hm1 hm2
      obtain ⟨p2, m2, ok⟩ := q
      have hji : (j : Int) < 4 := by omega
      have HM := hideIt (And.intro hm1 (And.intro hm2 (And.intro hst (And.intro hwi hbx))))
      have hlw := hst.lt
      clear hm1 hm2 hst hwi hbx hss hq hrun hox hx
      cases ok with
      | true =>
        go_wp2_with fail
        go_region_with (go_at_call 137; refine (HB.out wr.drew (HM.out.2.2.1.kept rfl (Nat.le_refl _))).mono ?_; rintro e wz ⟨he, h1, h2⟩; obtain rfl := endS_yes he)
        all_goals
          have HZ := hideIt (And.intro h1 h2)
          clear h1 h2 he
          go_wp2
          go_roundw
          case rel =>
            refine ⟨j + 1, by omega, by go_num, p2, m2, HM.out.1, HZ.out.1, HM.out.2.2.2.1.trans ?_, ?_⟩
            · exact ⟨⟨HZ.out.2.grown.os, HZ.out.2.grown.tape, HZ.out.2.grown.output, HZ.out.2.grown.size, HZ.out.2.grown.block⟩, HZ.out.2.cells, HZ.out.2.fz⟩
            · rw [← HM.out.2.2.2.2]
              exact HZ.out.2.grown.block w.heap.size (by have := (Array.getElem?_eq_some_iff.1 HM.out.2.2.2.2).1; exact this) (by simp; omega)
          case measure => simp [intOf]; omega
      | false =>
        have hent : ∀ args w, (callFunc 137 args).run Tryz.prog w = .ok (.enter 137 args) w := enters_of Tryz.func137 (by kernel_rfl) rfl
        have HX : Hid (∀ w', StoAt w' bb p2 m2 → Within wr.drew w' bb 1 1267 → StoEnd w bb (writeF p mem [r0, r1, r2, r3]) (.panicked [{ v := .iface 129 (.agg #[]), recovered := false }]) w') := by
          intro w' h1 h2
          rw [HF.out, HM.out.2.1 rfl]
          exact ⟨rfl, h1, HM.out.2.2.2.1.trans ⟨⟨h2.grown.os, h2.grown.tape, h2.grown.output, h2.grown.size, h2.grown.block⟩, h2.cells, h2.fz⟩⟩
        go_wp2_with fail
        go_region_law (refine step_diesV (.tuple #[]) 137 #[.pointer (some ⟨bb, 1, none⟩), .pointer (some ⟨bb, 1028 + k * 4 + j, none⟩), .int .u8 (x.toNat : Int)] rfl (by simp [go_sem, hent]) _ (HB.out wr.drew (HM.out.2.2.1.kept rfl (Nat.le_refl _))) (fun e w' hh => ⟨_, endS_no hh.1, rfl, HX.out w' hh.2.1 hh.2.2⟩) ?_; intro HFF)
        all_goals exact HFF.out.elim
    · obtain rfl : j = 4 := by omega
      rw [show os.take 4 = os by rw [← hol, List.take_length]] at hrun
      have HM := hideIt (And.intro hrun (And.intro hst hwi))
      clear hrun hst hwi hbx
      go_wp2
      go_end0
      rw [HF.out]
      refine ⟨?_, ?_, HM.out.2.2⟩
      · rw [HM.out.1]; rfl
      · rw [HM.out.1]; exact HM.out.2.1
end Go.Proofs.YthokdbcpkmcieaaGreat
namespace Go.Proofs.YthokdbcpkmcieaaGreat
open Go Go.RowKit
theorem runS_put {os : List (Option UInt8)} {p : Pow} {m : List UInt8} {i : Nat} (h : i + os.length ≤ m.length) : ∃ l, (runS p m i os).2.1 = put m i l ∧ l.length ≤ os.length := by
  by_cases hp : lasts p os.length
  · refine ⟨_, by rw [runS_lasts os p m i h hp], ?_⟩
    rw [wants_len _ _ (win_len _ _ _ h)]
    exact Nat.le_refl _
  · obtain ⟨l, e1, e2, e3, _⟩ := runS_false h hp
    exact ⟨l, by rw [e1], by omega⟩
theorem Used.page {m l : List UInt8} {k i : Nat} (h : Used m k) (hi : i + l.length ≤ 1024) : Used (put m i l) k := by
  have hlen := h.len
  have hb : i + l.length ≤ m.length := by omega
  have hle := h.le
  have hs : ∀ j, j < 60 → slotF (put m i l) j = slotF m j := fun j hj => by rw [slot_win, slot_win, win_put_other _ _ _ hb _ _ (by omega)]
  exact ⟨by rw [put_len _ _ _ hb]; exact hlen, h.le, fun j hj => by rw [hs j (by omega)]; exact h.full j hj, fun j h1 h2 => by rw [hs j h2]; exact h.free j h1 h2⟩
theorem used_runS {os : List (Option UInt8)} {p p' : Pow} {m m' : List UInt8} {i k : Nat} {b : Bool} (h : Used m k) (hi : i + os.length ≤ 1024) (e : runS p m i os = (p', m', b)) : Used m' k := by
  have hlen := h.len
  obtain ⟨l, e1, e2⟩ := runS_put (os := os) (p := p) (m := m) (i := i) (by omega)
  rw [e] at e1
  simp only at e1
  rw [e1]
  exact h.page (by omega)
theorem used_write {p p' : Pow} {m m' r : List UInt8} {k : Nat} (h : Used m k) (hk : k < 60) (hr : r.length = 4) (hne : r ≠ blankL) (e : writeF p m r = (p', m', true)) : Used m' (k + 1) := by
  have hlen := h.len
  by_cases hp : lasts p 4
  · rw [writeF_lasts h hk hr hp] at e
    simp only [Prod.mk.injEq] at e
    rw [← e.2.1]
    obtain ⟨h1, h2, h3, h4⟩ := h.puts (l := r) hk (by omega)
    rcases h.next hk h1 h2 with ⟨e', _⟩ | ⟨_, h'⟩
    · exact absurd ((slot_put_rec h hk hr).symm.trans e') hne
    · exact h'
  · obtain ⟨a, b, c, d, rfl⟩ := four hr
    obtain ⟨l, e1, _⟩ := writeF_fails (r := [a, b, c, d]) h hk rfl hp
    rw [e1] at e
    simp at e
set_option maxRecDepth 100000 in
set_option maxHeartbeats 8000000 in
theorem burnPage_any (bb : Nat) (p : Pow) (mem : List UInt8) (n : UInt8) (bs : ByteArray) (k : Nat) (w : World) (h : StoAt w bb p mem) (hu : Used mem k) (hk : k + 2 ≤ 60) (hn : n < 16) (hbs : bs.size = 64) :
    Calls Tryz.prog 125 #[.pointer (some ⟨bb, 4, none⟩), .int .u8 (n.toNat : Int), .string bs, .pointer (some ⟨bb, 1, none⟩)] w (StoEnd w bb (burnPageF p mem n bs.data.toList)) := by
  have hlt := h.lt
  have hnn := u16 hn
  have hni : (n.toNat : Int) < 16 := by omega
  have hlb : bs.data.toList.length = 64 := by rw [Array.length_toList]; exact hbs
  obtain ⟨bl, hbl⟩ : ∃ bl, bs.data.toList = bl := ⟨_, rfl⟩
  have hget : ∀ j (hj : j < 64), bl.getD j 0 = bs[j]'(by omega) := fun j hj => by rw [← hbl]; exact ba_get bs j (by omega)
  rw [hbl] at hlb ⊢
  have HE := hideIt (show burnPageF p mem n bl = thenS (thenS (thenS (writeF p mem (recF mem n 1)) fun p m => runS p m (64 * n.toNat) (List.replicate 64 none)) fun p m => runS p m (64 * n.toNat) (bl.map some)) fun p m => writeF p m (recF m n 2) from rfl)
  have HS := hideIt h
  have HU := hideIt hu
  have HW1 := hideIt (fun w' (h' : StoAt w' bb p mem) => write_any bb p mem (recF mem n 1) k w' h' hu (by omega) rfl)
  obtain ⟨q1, hq1⟩ : ∃ q1, writeF p mem (recF mem n 1) = q1 := ⟨_, rfl⟩
  rw [hq1] at HE HW1
  obtain ⟨p1, m1, ok1⟩ := q1
  have HQ1 := hideIt hq1
  clear h hu hq1
  go_enter Tryz.func125, Tryz.ntmps125
  go_wp2_with fail
  refine (record_one bb n mem w).mono ?_
  rintro e w1 ⟨rfl, hb1⟩
  go_wp2_with fail
  refine (HW1.out w1 (HS.out.below hb1)).mono ?_
  rintro e w2 ⟨he, hs2, hw2⟩
  have HWI := hideIt ((Within.below (o := 1) (n := 1267) hb1 hlt).trans hw2)
  have HS2 := hideIt hs2
  clear hs2 hw2 hb1 HW1
  cases ok1 with
  | false =>
    obtain rfl := endS_no he
    go_wp2
    refine ⟨rfl, ?_⟩
    rw [HE.out, then_no rfl, then_no rfl, then_no rfl]
    exact ⟨rfl, HS2.out, HWI.out⟩
  | true =>
    obtain rfl := endS_yes he
    have hu1 : Used m1 (k + 1) := used_write HU.out (by omega) rfl (rec_ne_blank _ _ _ hn) HQ1.out
    have HU1 := hideIt hu1
    rw [then_ok rfl] at HE
    obtain ⟨os1, hos1⟩ : ∃ os1 : List (Option UInt8), List.replicate 64 none = os1 := ⟨_, rfl⟩
    have hol1 : os1.length = 64 := by rw [← hos1]; simp
    have hog1 : ∀ j, os1.getD j none = none := fun j => by rw [← hos1, List.getD_eq_getElem?_getD, List.getElem?_replicate]; split <;> rfl
    rw [hos1] at HE
    clear hu1 HU HQ1 HS hos1 he
    go_wp2_with fail
    go_loopw [22] (fun i wr => ∃ j : Nat, j ≤ 64 ∧ i = .int .i64 j ∧ ∃ p' m', runS p1 m1 (64 * n.toNat) (os1.take j) = (p', m', true) ∧ StoAt wr bb p' m' ∧ Within w wr bb 1 1267) (fun i _ => 64 - (intOf i).toNat)
    case atStart => exact ⟨0, by omega, rfl, p1, m1, by simp [runS], HS2.out, HWI.out⟩
    case round =>
      obtain ⟨j, hj, rfl, p', m', hrun, hst, hwi⟩ := hrel
      by_cases hj4 : j < 64
      · obtain ⟨hm1, hm2⟩ := runS_more (by omega) hrun
        rw [hog1] at hm1 hm2
        have HB := hideIt (fun w' (h' : StoAt w' bb p' m') => erase_any bb p' m' (64 * n.toNat + j) w' h' (by omega))
        rw [show 4 + (64 * n.toNat + j) = 4 + n.toNat * 64 + j by omega] at HB
        have hss : ((strokeF p' (m'.getD (64 * n.toNat + j) 0) 255).1, m'.set (64 * n.toNat + j) (strokeF p' (m'.getD (64 * n.toNat + j) 0) 255).2.1, (strokeF p' (m'.getD (64 * n.toNat + j) 0) 255).2.2) = stepS p' m' (64 * n.toNat + j) none := rfl
        rw [hss] at HB
        obtain ⟨q, hq⟩ : ∃ q, stepS p' m' (64 * n.toNat + j) none = q := ⟨_, rfl⟩
        rw [hq] at HB hm1 hm2
        obtain ⟨p2, m2, ok⟩ := q
        have hji : (j : Int) < 64 := by omega
        have HM := hideIt (And.intro hm1 (And.intro hm2 (And.intro hst hwi)))
        clear hm1 hm2 hst hwi hss hq hrun
        go_wp2_with fail
        refine (HB.out _ HM.out.2.2.1).mono ?_
        rintro e wz ⟨he, h1, h2⟩
        have HZ := hideIt (And.intro h1 h2)
        clear h1 h2
        cases ok with
        | false =>
          obtain rfl := endS_no he
          go_wp2
          refine ⟨rfl, ?_⟩
          rw [HE.out, HM.out.2.1 (by first | rfl | trivial), then_no rfl, then_no rfl]
          exact ⟨rfl, HZ.out.1, HM.out.2.2.2.trans HZ.out.2⟩
        | true =>
          obtain rfl := endS_yes he
          go_wp2
          go_roundw
          case rel => exact ⟨j + 1, by omega, by go_num, p2, m2, HM.out.1, HZ.out.1, HM.out.2.2.2.trans HZ.out.2⟩
          case measure => simp [intOf]; omega
      · obtain rfl : j = 64 := by omega
        rw [show os1.take 64 = os1 by rw [← hol1, List.take_length]] at hrun
        have HU2 := hideIt (used_runS HU1.out (by omega) hrun)
        rw [hrun, then_ok rfl] at HE
        clear HU1 HWI HS2
        have HWI := hideIt hwi
        have HS2 := hideIt hst
        clear hwi hst hrun
        obtain ⟨os2, hos2⟩ : ∃ os2 : List (Option UInt8), bl.map some = os2 := ⟨_, rfl⟩
        have hol2 : os2.length = 64 := by rw [← hos2]; simpa using hlb
        have hog2 : ∀ j (hj : j < 64), os2.getD j none = some (bs[j]'(by omega)) := fun j hj => by
          rw [← hget j hj, ← hos2, List.getD_eq_getElem?_getD, List.getElem?_map, List.getD_eq_getElem?_getD, List.getElem?_eq_getElem (by omega)]
          rfl
        rw [hos2] at HE
        clear hos2 hget
        rw [show ((64 : Nat) : Int) = 64 from rfl]
        go_wp2_with fail
        go_loopw [32] (fun i wr => ∃ j : Nat, j ≤ 64 ∧ i = .int .i64 j ∧ ∃ p2 m2, runS p' m' (64 * n.toNat) (os2.take j) = (p2, m2, true) ∧ StoAt wr bb p2 m2 ∧ Within w wr bb 1 1267) (fun i _ => 64 - (intOf i).toNat)
        case atStart => exact ⟨0, by omega, rfl, p', m', by simp [runS], HS2.out, HWI.out⟩
        case round =>
          rename_i hrel
          obtain ⟨j, hj, rfl, p2, m2, hrun, hst, hwi⟩ := hrel
          by_cases hj4 : j < 64
          · obtain ⟨x, hx⟩ : ∃ x, bs[j]'(by omega) = x := ⟨_, rfl⟩
            obtain ⟨hm1, hm2⟩ := runS_more (by omega) hrun
            rw [hog2 j hj4, hx] at hm1 hm2
            have HB := hideIt (fun w' (h' : StoAt w' bb p2 m2) => burn_any bb p2 m2 (64 * n.toNat + j) x w' h' (by omega))
            rw [show 4 + (64 * n.toNat + j) = 4 + n.toNat * 64 + j by omega] at HB
            have hss : ((strokeF p2 (m2.getD (64 * n.toNat + j) 0) (m2.getD (64 * n.toNat + j) 0 &&& x)).1, m2.set (64 * n.toNat + j) (strokeF p2 (m2.getD (64 * n.toNat + j) 0) (m2.getD (64 * n.toNat + j) 0 &&& x)).2.1, (strokeF p2 (m2.getD (64 * n.toNat + j) 0) (m2.getD (64 * n.toNat + j) 0 &&& x)).2.2) = stepS p2 m2 (64 * n.toNat + j) (some x) := rfl
            rw [hss] at HB
            obtain ⟨q, hq⟩ : ∃ q, stepS p2 m2 (64 * n.toNat + j) (some x) = q := ⟨_, rfl⟩
            rw [hq] at HB hm1 hm2
            obtain ⟨p3, m3, ok⟩ := q
            have hji : (j : Int) < 64 := by omega
            have hjs : (j : Int) < (bs.size : Int) := by omega
            have HM := hideIt (And.intro hm1 (And.intro hm2 (And.intro hst hwi)))
            clear hm1 hm2 hst hwi hss hq hrun hog1 hog2
            cases ok with
            | true =>
              go_wp2_with fail
              go_region_with (go_at_call 137; refine (HB.out wr.drew (HM.out.2.2.1.kept rfl (Nat.le_refl _))).mono ?_; rintro e wz ⟨he, h1, h2⟩; obtain rfl := endS_yes he)
              all_goals
                have HZ := hideIt (And.intro h1 h2)
                clear h1 h2 he
                go_wp2
                go_roundw
                case rel =>
                  refine ⟨j + 1, by omega, by go_num, p3, m3, HM.out.1, HZ.out.1, HM.out.2.2.2.trans ?_⟩
                  exact ⟨⟨HZ.out.2.grown.os, HZ.out.2.grown.tape, HZ.out.2.grown.output, HZ.out.2.grown.size, HZ.out.2.grown.block⟩, HZ.out.2.cells, HZ.out.2.fz⟩
                case measure => simp [intOf]; omega
            | false =>
              have hent : ∀ args w, (callFunc 137 args).run Tryz.prog w = .ok (.enter 137 args) w := enters_of Tryz.func137 (by kernel_rfl) rfl
              have HX : Hid (∀ w', StoAt w' bb p3 m3 → Within wr.drew w' bb 1 1267 → StoEnd w bb (burnPageF p mem n bl) (.panicked [{ v := .iface 129 (.agg #[]), recovered := false }]) w') := by
                intro w' h1 h2
                rw [HE.out, HM.out.2.1 rfl, then_no rfl]
                exact ⟨rfl, h1, HM.out.2.2.2.trans ⟨⟨h2.grown.os, h2.grown.tape, h2.grown.output, h2.grown.size, h2.grown.block⟩, h2.cells, h2.fz⟩⟩
              go_wp2_with fail
              go_region_law (refine step_diesV (.tuple #[]) 137 #[.pointer (some ⟨bb, 1, none⟩), .pointer (some ⟨bb, 4 + n.toNat * 64 + j, none⟩), .int .u8 (x.toNat : Int)] rfl (by simp [go_sem, hent]) _ (HB.out wr.drew (HM.out.2.2.1.kept rfl (Nat.le_refl _))) (fun e w' hh => ⟨_, endS_no hh.1, rfl, HX.out w' hh.2.1 hh.2.2⟩) ?_; intro HFF)
              all_goals exact HFF.out.elim
          · obtain rfl : j = 64 := by omega
            rw [show os2.take 64 = os2 by rw [← hol2, List.take_length]] at hrun
            have HU3 := hideIt (used_runS HU2.out (by omega) hrun)
            rw [hrun, then_ok rfl] at HE
            have HW2 := hideIt (fun w' (h' : StoAt w' bb p2 m2) => write_any bb p2 m2 (recF m2 n 2) (k + 1) w' h' HU3.out (by omega) rfl)
            have HR2 := hideIt (fun w' (h' : StoAt w' bb p2 m2) => record_two bb p2 m2 n w' h' hn)
            have HM := hideIt (And.intro hst hwi)
            have hlr := hst.lt
            obtain ⟨q2, hq2⟩ : ∃ q2, writeF p2 m2 (recF m2 n 2) = q2 := ⟨_, rfl⟩
            rw [hq2] at HE HW2
            obtain ⟨p4, m4, ok4⟩ := q2
            clear hrun hst hwi hq2 hog1 hog2
            go_wp2_with fail
            refine (HR2.out _ HM.out.1).mono ?_
            rintro e w5 ⟨rfl, hb5⟩
            go_wp2_with fail
            refine (HW2.out w5 (HM.out.1.below hb5)).mono ?_
            rintro e w6 ⟨he, hs6, hw6⟩
            have HZ := hideIt (And.intro hs6 (HM.out.2.trans ((Within.below (o := 1) (n := 1267) hb5 hlr).trans hw6)))
            clear hs6 hw6 hb5
            cases ok4 with
            | false =>
              obtain rfl := endS_no he
              go_wp2
              refine ⟨rfl, ?_⟩
              rw [HE.out]
              exact ⟨rfl, HZ.out.1, HZ.out.2⟩
            | true =>
              obtain rfl := endS_yes he
              go_wp2
              go_end0
              rw [HE.out]
              exact ⟨rfl, HZ.out.1, HZ.out.2⟩
end Go.Proofs.YthokdbcpkmcieaaGreat
namespace Go.Proofs.YthokdbcpkmcieaaGreat
open Go Go.RowKit
theorem Tryz.infoRecs : (Tryz.prog.info? 62).map (·.size) = some 240 := by kernel_rfl
theorem BytesAt.range {w : World} {g off : Nat} {l : List UInt8} (h : BytesAt w g off l) : w.rangeAt g off (byteVs l) := by
  intro j u hj
  obtain ⟨h1, rfl⟩ := byteVs_at l j u hj
  exact h j h1
theorem StoAt.recs {w : World} {bb : Nat} {p : Pow} {mem : List UInt8} (h : StoAt w bb p mem) : BytesAt w bb 1028 (mem.drop 1024) := by
  have hl := h.len
  intro i hi
  simp only [List.length_drop] at hi
  have := h.cm (1024 + i) (by omega)
  rw [show 1028 + i = 4 + (1024 + i) by omega, this]
  simp [List.getD_eq_getElem?_getD]
theorem index_recs {mem : List UInt8} (_hlen : mem.length = 1264) (j : Nat) (hj : j < 60) {a0 a1 a2 a3 : UInt8} (hs : slotF mem j = [a0, a1, a2, a3]) (w : World) :
    (Instr.index 62 (.agg (byteVs (mem.drop 1024)).toArray) (.int .i64 (j : Int))).run Tryz.prog w = .ok (.agg #[.int .u8 (a0.toNat : Int), .int .u8 (a1.toNat : Int), .int .u8 (a2.toNat : Int), .int .u8 (a3.toNat : Int)]) w := by
  have hji : (j : Int) < 60 := by omega
  have he : List.take 4 (List.drop (j * 4) (byteVs (List.drop 1024 mem))) = [.int .u8 (a0.toNat : Int), .int .u8 (a1.toNat : Int), .int .u8 (a2.toNat : Int), .int .u8 (a3.toNat : Int)] := by
    have : byteVs (slotF mem j) = [.int .u8 (a0.toNat : Int), .int .u8 (a1.toNat : Int), .int .u8 (a2.toNat : Int), .int .u8 (a3.toNat : Int)] := by rw [hs]; rfl
    rw [← this]
    simp only [byteVs, slotF, List.map_take, List.map_drop, List.drop_drop]
    rw [show 1024 + j * 4 = 1024 + 4 * j by omega]
  have ha := Tryz.isAgg61
  have hz := Tryz.sizeOf61
  unfold Instr.index
  simp [asIntOf, run_underlying Tryz.underlying62, ha, hz, part]
  rw [if_pos hj, he]
set_option maxRecDepth 100000 in
set_option maxHeartbeats 8000000 in
theorem room_any (bb : Nat) (p : Pow) (mem : List UInt8) (w : World) (h : StoAt w bb p mem) :
    Calls Tryz.prog 124 #[.pointer (some ⟨bb, 4, none⟩)] w fun e w' => e = .returned (.int .i64 (roomF mem : Int)) ∧ Below w.heap.size w w' := by
  have hlen := h.len
  have HR := hideIt h.recs.range
  have hl240 : (byteVs (mem.drop 1024)).length = 240 := by rw [byteVs_len, List.length_drop]; omega
  have HI := hideIt (fun j (hj : j < 60) a0 a1 a2 a3 hs w' => index_recs hlen j hj (a0 := a0) (a1 := a1) (a2 := a2) (a3 := a3) hs w')
  obtain ⟨J, hJ⟩ : ∃ J, byteVs (mem.drop 1024) = J := ⟨_, rfl⟩
  rw [hJ] at HR hl240 HI
  clear hJ
  go_enter Tryz.func124, Tryz.ntmps124
  go_wp2_with (refine wpList_load_mid rfl 62 (.tmp 8) rfl bb 1028 rfl J _ HR.out Tryz.underlying62 rfl (by rw [hl240]; exact Tryz.infoRecs) ?_)
  go_loopw [3, 10] (fun c i wr => ∃ j : Nat, j ≤ 60 ∧ i = .int .i64 j ∧ c = .int .i64 (roomS mem j : Int) ∧ Below w.heap.size w wr) (fun _ i _ => 60 - (intOf i).toNat)
  case atStart => exact ⟨0, by omega, rfl, rfl, Below.refl _ _⟩
  case round =>
    obtain ⟨j, hj, rfl, rfl, hb⟩ := hrel
    have hrl := roomS_le mem j
    by_cases hlt : j < 60
    · obtain ⟨a0, a1, a2, a3, ha⟩ := four (slot_length hlen j hlt)
      have hix := HI.out j hlt a0 a1 a2 a3 ha
      have hE : ∀ w', (Op.equalIn 10000 61 (.agg #[.int .u8 (a0.toNat : Int), .int .u8 (a1.toNat : Int), .int .u8 (a2.toNat : Int), .int .u8 (a3.toNat : Int)]) (.agg #[.int .u8 255, .int .u8 255, .int .u8 255, .int .u8 255])).run Tryz.prog w' = .ok (decide ([a0, a1, a2, a3] = blankL)) w' := fun w' => eqRec a0 a1 a2 a3 255 255 255 255 w'
      have hG := guardRec
      have hN : roomS mem (j + 1) = roomS mem j + (if [a0, a1, a2, a3] = blankL then 1 else 0) := by rw [roomS, ha]
      have hji : (j : Int) < 60 := by omega
      have HB := hideIt hb
      obtain ⟨c, hc⟩ : ∃ c, roomS mem j = c := ⟨_, rfl⟩
      rw [hc] at hN hrl ⊢
      have hsz := hb.size
      clear hb ha hc
      by_cases he : [a0, a1, a2, a3] = blankL
      · rw [decide_eq_true he] at hE
        rw [if_pos he] at hN
        have HN := hideIt hN
        clear hN he
        go_wp2_with fail
        go_region_with (go_at_call 67; refine (blank_any _).mono ?_; rintro e wx ⟨rfl, rfl⟩)
        all_goals
          go_wp2
          go_roundw
          case rel => exact ⟨j + 1, by omega, by go_num, by rw [HN.out]; rfl, (((HB.out.alloc hsz _).alloc (by simp; omega) _)).drew⟩
          case measure => simp [intOf]; omega
      · rw [decide_eq_false he] at hE
        rw [if_neg he, Nat.add_zero] at hN
        have HN := hideIt hN
        clear hN he
        go_wp2_with fail
        go_region_with (go_at_call 67; refine (blank_any _).mono ?_; rintro e wx ⟨rfl, rfl⟩)
        all_goals
          go_wp2
          go_roundw
          case rel => exact ⟨j + 1, by omega, by go_num, by rw [HN.out]; rfl, (((HB.out.alloc hsz _).alloc (by simp; omega) _)).drew⟩
          case measure => simp [intOf]; omega
    · obtain rfl : j = 60 := by omega
      have HB := hideIt hb
      clear hb
      go_wp2
      go_ret
      exact ⟨rfl, HB.out⟩
end Go.Proofs.YthokdbcpkmcieaaGreat
