/- A board's store in memory; walks of its strokes. -/
import Derived.Test.YthokdbcpkmcieaaEarO4
import Derived.Test.YthokdbcpkmcieaaBrdK
import Derived.WalkSpells
import Derived.WalkLawsBesides
import Derived.OwnWalk
import Derived.BigGuard
import Derived.BigCall
namespace Go.Proofs.Ythokdbcpkmcieaa
open Go Go.RowKit
theorem and_u8 (a b : Nat) (ha : a < 256) (hb : b < 256) : bits .and .u8 (a : Int) (b : Int) = ((a &&& b : Nat) : Int) := by
  have hx : a &&& b < 2 ^ 8 := Nat.and_lt_two_pow _ (by omega)
  have h1 : (BitVec.ofInt 8 (a : Int)).toNat = a := by
    rw [BitVec.ofInt_natCast, BitVec.toNat_ofNat]; exact Nat.mod_eq_of_lt (by omega)
  have h2 : (BitVec.ofInt 8 (b : Int)).toNat = b := by
    rw [BitVec.ofInt_natCast, BitVec.toNat_ofNat]; exact Nat.mod_eq_of_lt (by omega)
  show IntKind.u8.wrap ((BitVec.ofInt 8 (a : Int) &&& BitVec.ofInt 8 (b : Int)).toNat : Int) = _
  rw [BitVec.toNat_and, h1, h2, IntKind.wrap_u8]
  omega
theorem and_b (a b : UInt8) : bits .and .u8 (a.toNat : Int) (b.toNat : Int) = ((a &&& b).toNat : Int) := by
  rw [UInt8.toNat_and]; exact and_u8 _ _ a.toNat_lt b.toNat_lt
theorem xor_b (a b : UInt8) : bits .xor .u8 (a.toNat : Int) (b.toNat : Int) = ((a ^^^ b).toNat : Int) := by
  rw [UInt8.toNat_xor]; exact xor_u8 _ _ a.toNat_lt b.toNat_lt
/-- Power, flash and journal of the board at block bb. -/
structure StoAt (w : World) (bb : Nat) (p : Pow) (mem : List UInt8) : Prop where
  c1 : w.cell? ⟨bb, 1, none⟩ = some (.bool p.cut)
  c2 : w.cell? ⟨bb, 2, none⟩ = some (.int .i64 (p.left : Int))
  c3 : w.cell? ⟨bb, 3, none⟩ = some (.int .u8 (p.mask.toNat : Int))
  cm : BytesAt w bb 4 mem
  len : mem.length = 1264
  pl : p.left ≤ 9223372036854775807
  fz : ∀ j, w.frozen? ⟨bb, j, none⟩ = false
  lt : bb < w.heap.size
theorem StoAt.same {w w' : World} {bb : Nat} {p : Pow} {mem : List UInt8} (h : StoAt w bb p mem) (e : ∀ j, 1 ≤ j → j < 1268 → w'.cell? ⟨bb, j, none⟩ = w.cell? ⟨bb, j, none⟩) (hf : ∀ j, w'.frozen? ⟨bb, j, none⟩ = w.frozen? ⟨bb, j, none⟩) (hz : w.heap.size ≤ w'.heap.size) : StoAt w' bb p mem :=
  ⟨(e _ (by omega) (by omega)).trans h.c1, (e _ (by omega) (by omega)).trans h.c2, (e _ (by omega) (by omega)).trans h.c3,
    fun i hi => by have := h.len; exact (e _ (by omega) (by omega)).trans (h.cm i hi), h.len, h.pl, fun j => (hf j).trans (h.fz j), Nat.lt_of_lt_of_le h.lt hz⟩
theorem StoAt.kept {w w' : World} {bb : Nat} {p : Pow} {mem : List UInt8} (h : StoAt w bb p mem) (e : w'.heap[bb]? = w.heap[bb]?) (hz : w.heap.size ≤ w'.heap.size) : StoAt w' bb p mem :=
  h.same (fun j _ _ => World.cell?_of_block (a := ⟨bb, j, none⟩) e) (fun j => World.frozen?_of_block (a := ⟨bb, j, none⟩) e) hz
theorem StoAt.below {w w' : World} {bb : Nat} {p : Pow} {mem : List UInt8} (h : StoAt w bb p mem) (hb : Below w.heap.size w w') : StoAt w' bb p mem := h.kept (hb.block bb h.lt) hb.size
theorem StoAt.setByte {w : World} {bb : Nat} {p : Pow} {mem : List UInt8} (h : StoAt w bb p mem) (i : Nat) (hi : i < 1264) (x : UInt8) : StoAt (w.setCell ⟨bb, 4 + i, none⟩ (.int .u8 (x.toNat : Int))) bb p (mem.set i x) := by
  have hl := h.len
  have ho : ∀ j, j ≠ 4 + i → (w.setCell ⟨bb, 4 + i, none⟩ (.int .u8 (x.toNat : Int))).cell? ⟨bb, j, none⟩ = w.cell? ⟨bb, j, none⟩ := fun j hj => World.cell?_setCell_other _ _ _ _ (by simp <;> omega)
  refine ⟨(ho 1 (by omega)).trans h.c1, (ho 2 (by omega)).trans h.c2, (ho 3 (by omega)).trans h.c3, fun k hk => ?_, by simp [hl], h.pl, fun j => by simp [h.fz j], by simpa [World.setCell] using h.lt⟩
  simp only [List.length_set] at hk
  by_cases e : k = i
  · subst e
    rw [World.cell?_setCell_same _ _ _ (h.cm k hk)]
    simp [List.getD_eq_getElem?_getD, hk]
  · rw [ho (4 + k) (by omega), h.cm k hk]
    simp only [List.getD_eq_getElem?_getD]
    rw [List.getElem?_set_ne (fun e' => e e'.symm)]
theorem StoAt.setLeft {w : World} {bb : Nat} {p : Pow} {mem : List UInt8} (h : StoAt w bb p mem) (n : Nat) (hn : n ≤ 9223372036854775807) : StoAt (w.setCell ⟨bb, 2, none⟩ (.int .i64 (n : Int))) bb ⟨p.cut, n, p.mask⟩ mem := by
  have ho : ∀ j, j ≠ 2 → (w.setCell ⟨bb, 2, none⟩ (.int .i64 (n : Int))).cell? ⟨bb, j, none⟩ = w.cell? ⟨bb, j, none⟩ := fun j hj => World.cell?_setCell_other _ _ _ _ (by simp <;> omega)
  exact ⟨(ho 1 (by omega)).trans h.c1, World.cell?_setCell_same _ _ _ h.c2, (ho 3 (by omega)).trans h.c3, fun k hk => (ho (4 + k) (by omega)).trans (h.cm k hk), h.len, hn, fun j => by simp [h.fz j], by simpa [World.setCell] using h.lt⟩
/-- What a board gives up with. -/
def failE : Ending := .panicked [{ v := .iface 103 (.agg #[]), recovered := false }]
def endS (ok : Bool) : Ending := if ok = true then .returned (.tuple #[]) else failE
theorem endS_no {e : Ending} (h : e = endS false) : e = .panicked [{ v := .iface 103 (.agg #[]), recovered := false }] := h
theorem endS_yes {e : Ending} (h : e = endS true) : e = .returned (.tuple #[]) := h
/-- The store behind strokes: the ending goes by whether the power lasts. -/
def StoEnd (w : World) (bb : Nat) (r : Pow × List UInt8 × Bool) (e : Ending) (w' : World) : Prop := e = endS r.2.2 ∧ StoAt w' bb r.1 r.2.1 ∧ Within w w' bb 1 1267
set_option maxRecDepth 100000 in
set_option maxHeartbeats 2000000 in
theorem stroke_any (bb : Nat) (p : Pow) (mem : List UInt8) (i : Nat) (x : UInt8) (w : World) (h : StoAt w bb p mem) (hi : i < 1264) :
    Calls Try.prog 78 #[.pointer (some ⟨bb, 1, none⟩), .pointer (some ⟨bb, 4 + i, none⟩), .int .u8 (x.toNat : Int)] w (StoEnd w bb ((strokeF p (mem.getD i 0) x).1, mem.set i (strokeF p (mem.getD i 0) x).2.1, (strokeF p (mem.getD i 0) x).2.2)) := by
  have c1 := h.c1
  have c2 := h.c2
  have c3 := h.c3
  have ci := h.cm i (by rw [h.len]; exact hi)
  have f1 := h.fz 1
  have f2 := h.fz 2
  have fi := h.fz (4 + i)
  obtain ⟨c, hc⟩ : ∃ c, mem.getD i 0 = c := ⟨_, rfl⟩
  rw [hc] at ci ⊢
  by_cases hcut : p.cut = false
  · have e : strokeF p c x = (p, x, true) := by unfold strokeF; rw [if_pos hcut]
    rw [e]
    rw [hcut] at c1
    have HR := hideIt (h.setByte i hi x)
    clear h e
    go_enter Try.func78, Try.ntmps78
    go_wp2
    refine bodyPost_ret (results_none rfl _ _ _) rfl ?_
    exact ⟨rfl, HR.out, Within.set _ _ _ _ _ _ (by omega) (by omega)⟩
  · have hct : p.cut = true := by simpa using hcut
    rw [hct] at c1
    by_cases h0 : p.left = 0
    · have e : strokeF p c x = (p, mixF c x p.mask, false) := by unfold strokeF mixF; rw [if_neg hcut, if_pos h0]
      rw [e]
      have hz : ((p.left : Int) == 0) = true := by simp; omega
      obtain ⟨y, hy⟩ : ∃ y, (c ^^^ x).toNat = y := ⟨_, rfl⟩
      obtain ⟨z, hz2⟩ : ∃ z, ((c ^^^ x) &&& p.mask).toNat = z := ⟨_, rfl⟩
      obtain ⟨u, hu⟩ : ∃ u, (mixF c x p.mask).toNat = u := ⟨_, rfl⟩
      have hx1 : bits .xor .u8 (c.toNat : Int) (x.toNat : Int) = (y : Int) := by rw [← hy]; exact xor_b c x
      have hx2 : bits .and .u8 (y : Int) (p.mask.toNat : Int) = (z : Int) := by rw [← hy, ← hz2]; exact and_b (c ^^^ x) p.mask
      have hx3 : bits .xor .u8 (c.toNat : Int) (z : Int) = (u : Int) := by rw [← hu, ← hz2]; exact xor_b c ((c ^^^ x) &&& p.mask)
      have HR := hideIt (h.setByte i hi (mixF c x p.mask))
      rw [hu] at HR
      clear h e hc hy hz2 hu
      go_enter Try.func78, Try.ntmps78
      go_wp2
      go_region
      all_goals
        go_wp2
        exact ⟨rfl, rfl, HR.out.kept rfl (Nat.le_refl _), (Within.set _ _ _ _ _ _ (by omega) (by omega)).drew⟩
    · have e : strokeF p c x = (⟨p.cut, p.left - 1, p.mask⟩, x, true) := by unfold strokeF; rw [if_neg hcut, if_neg h0]
      obtain ⟨k, hk⟩ : ∃ k, p.left = k + 1 := ⟨p.left - 1, by omega⟩
      rw [e, hk, show k + 1 - 1 = k by omega]
      have hpl := h.pl
      have hz : ((p.left : Int) == 0) = false := by simp; omega
      have HR := hideIt ((h.setLeft k (by omega)).setByte i hi x)
      have c2' : w.cell? ⟨bb, 2, none⟩ = some (.int .i64 ((k : Int) + 1)) := by rw [c2, hk]; simp
      have hz' : (((k : Int) + 1) == 0) = false := by simp; omega
      clear h e c2 hz hc
      go_enter Try.func78, Try.ntmps78
      go_wp2
      go_end0
      exact ⟨rfl, HR.out, (Within.set _ _ _ _ _ _ (by omega) (by omega)).trans (Within.set _ _ _ _ _ _ (by omega) (by omega))⟩
set_option maxRecDepth 100000 in
set_option maxHeartbeats 2000000 in
theorem erase_any (bb : Nat) (p : Pow) (mem : List UInt8) (i : Nat) (w : World) (h : StoAt w bb p mem) (hi : i < 1264) :
    Calls Try.prog 75 #[.pointer (some ⟨bb, 1, none⟩), .pointer (some ⟨bb, 4 + i, none⟩)] w (StoEnd w bb ((strokeF p (mem.getD i 0) 255).1, mem.set i (strokeF p (mem.getD i 0) 255).2.1, (strokeF p (mem.getD i 0) 255).2.2)) := by
  have HC := hideIt (stroke_any bb p mem i 255 w h hi)
  obtain ⟨r, hr⟩ : ∃ r, ((strokeF p (mem.getD i 0) 255).1, mem.set i (strokeF p (mem.getD i 0) 255).2.1, (strokeF p (mem.getD i 0) 255).2.2) = r := ⟨_, rfl⟩
  rw [hr] at HC ⊢
  clear hr h
  obtain ⟨p', m', ok⟩ := r
  go_enter Try.func75, Try.ntmps75
  go_wp2_with fail
  refine HC.out.mono ?_
  rintro e w1 ⟨he, h1, h2⟩
  have HQ := hideIt (And.intro h1 h2)
  clear h1 h2 HC
  cases ok
  · obtain rfl := endS_no he
    go_wp2
    exact ⟨rfl, rfl, HQ.out.1, HQ.out.2⟩
  · obtain rfl := endS_yes he
    go_wp2
    go_end0
    exact ⟨rfl, HQ.out.1, HQ.out.2⟩
set_option maxRecDepth 100000 in
set_option maxHeartbeats 2000000 in
theorem burn_any (bb : Nat) (p : Pow) (mem : List UInt8) (i : Nat) (x : UInt8) (w : World) (h : StoAt w bb p mem) (hi : i < 1264) :
    Calls Try.prog 76 #[.pointer (some ⟨bb, 1, none⟩), .pointer (some ⟨bb, 4 + i, none⟩), .int .u8 (x.toNat : Int)] w (StoEnd w bb ((strokeF p (mem.getD i 0) (mem.getD i 0 &&& x)).1, mem.set i (strokeF p (mem.getD i 0) (mem.getD i 0 &&& x)).2.1, (strokeF p (mem.getD i 0) (mem.getD i 0 &&& x)).2.2)) := by
  have HC := hideIt (stroke_any bb p mem i (mem.getD i 0 &&& x) w h hi)
  have ci := h.cm i (by rw [h.len]; exact hi)
  obtain ⟨r, hr⟩ : ∃ r, ((strokeF p (mem.getD i 0) (mem.getD i 0 &&& x)).1, mem.set i (strokeF p (mem.getD i 0) (mem.getD i 0 &&& x)).2.1, (strokeF p (mem.getD i 0) (mem.getD i 0 &&& x)).2.2) = r := ⟨_, rfl⟩
  rw [hr] at HC ⊢
  have ha := and_b (mem.getD i 0) x
  obtain ⟨c, hc⟩ : ∃ c, (mem.getD i 0).toNat = c := ⟨_, rfl⟩
  obtain ⟨y, hy⟩ : ∃ y, (mem.getD i 0 &&& x).toNat = y := ⟨_, rfl⟩
  rw [hc] at ci ha
  rw [hy] at HC ha
  clear hr h hc hy
  obtain ⟨p', m', ok⟩ := r
  go_enter Try.func76, Try.ntmps76
  go_wp2_with fail
  refine HC.out.mono ?_
  rintro e w1 ⟨he, h1, h2⟩
  have HQ := hideIt (And.intro h1 h2)
  clear h1 h2 HC
  cases ok
  · obtain rfl := endS_no he
    go_wp2
    exact ⟨rfl, rfl, HQ.out.1, HQ.out.2⟩
  · obtain rfl := endS_yes he
    go_wp2
    go_end0
    exact ⟨rfl, HQ.out.1, HQ.out.2⟩
end Go.Proofs.Ythokdbcpkmcieaa
