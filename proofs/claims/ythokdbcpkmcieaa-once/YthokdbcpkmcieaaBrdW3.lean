/- Walks of the search for room and of the writing of a record. -/
import Derived.Test.YthokdbcpkmcieaaBrdW2
import Derived.Laws.StructEq
import Derived.Deep.RegionWith
import Derived.Shelf.Abstract
namespace Go.Proofs.Ythokdbcpkmcieaa
open Go Go.RowKit
theorem below_drewN {n : Nat} {w w1 : World} (h : Below n w w1) (m : Nat) : Below n w (w1.drewN m) := ⟨h.os, h.tape, h.output, h.size, h.block⟩
theorem slot_length {mem : List UInt8} (hl : mem.length = 1264) (k : Nat) (hk : k < 60) : (slotF mem k).length = 4 := win_len mem (1024 + 4 * k) 4 (by omega)
theorem StoAt.slot {w : World} {bb : Nat} {p : Pow} {mem : List UInt8} (h : StoAt w bb p mem) (k : Nat) (hk : k < 60) : BytesAt w bb (1028 + k * 4) (slotF mem k) := by
  have hl := h.len
  intro i hi
  have hw := win_get mem (1024 + 4 * k) 4 i
  rw [slot_length hl k hk] at hi
  rw [if_pos hi] at hw
  have := h.cm (1024 + 4 * k + i) (by omega)
  rw [show 1028 + k * 4 + i = 4 + (1024 + 4 * k + i) by omega, this]
  simp only [List.getD_eq_getElem?_getD]
  rw [slot_win, hw]
/-- Four bytes, apart. -/
theorem four {l : List UInt8} (h : l.length = 4) : ∃ a b c d, l = [a, b, c, d] := by
  match l, h with
  | [a, b, c, d], _ => exact ⟨a, b, c, d, rfl⟩
theorem four_cells {w : World} {g off : Nat} {a b c d : UInt8} (h : BytesAt w g off [a, b, c, d]) : w.cell? ⟨g, off, none⟩ = some (.int .u8 (a.toNat : Int)) ∧ w.cell? ⟨g, off + 1, none⟩ = some (.int .u8 (b.toNat : Int)) ∧ w.cell? ⟨g, off + 2, none⟩ = some (.int .u8 (c.toNat : Int)) ∧ w.cell? ⟨g, off + 3, none⟩ = some (.int .u8 (d.toNat : Int)) :=
  ⟨h 0 (by simp), h 1 (by simp), h 2 (by simp), h 3 (by simp)⟩
theorem int_eq (a b : UInt8) : ((a.toNat : Int) == (b.toNat : Int)) = decide (a = b) := by
  by_cases h : a = b
  · subst h; simp
  · have : ¬ a.toNat = b.toNat := fun e => h (UInt8.toNat_inj.1 e)
    simp only [decide_eq_false h]
    simp; omega
set_option maxRecDepth 100000 in
set_option maxHeartbeats 2000000 in
theorem eqRecI (a0 a1 a2 a3 b0 b1 b2 b3 : Int) (w : World) : (Op.equalIn 10000 80 (.agg #[.int .u8 a0, .int .u8 a1, .int .u8 a2, .int .u8 a3]) (.agg #[.int .u8 b0, .int .u8 b1, .int .u8 b2, .int .u8 b3])).run Try.prog w = .ok (a0 == b0 && (a1 == b1 && (a2 == b2 && a3 == b3))) w := by
  have hu5 := Try.underlying5
  have ha5 := Try.isAgg5
  have hz5 := Try.sizeOf5
  rw [show (10000 : Nat) = 9999 + 1 from rfl, Op.equalIn]
  simp only [Sem.run_bind, run_underlying Try.underlying80, Result.andThen_ok]
  simp only [Std.Legacy.Range.forIn_eq_forIn_range', Std.Legacy.Range.size, Nat.sub_zero, Nat.add_sub_cancel, Nat.div_one, List.range'_succ, List.range'_zero, List.forIn_cons, List.forIn_nil]
  go_simp
  by_cases h1 : a0 = b0 <;> by_cases h2 : a1 = b1 <;> by_cases h3 : a2 = b2 <;> by_cases h4 : a3 = b3 <;> simp [h1, h2, h3, h4]
theorem eqRec (a0 a1 a2 a3 b0 b1 b2 b3 : UInt8) (w : World) : (Op.equalIn 10000 80 (.agg #[.int .u8 (a0.toNat : Int), .int .u8 (a1.toNat : Int), .int .u8 (a2.toNat : Int), .int .u8 (a3.toNat : Int)]) (.agg #[.int .u8 (b0.toNat : Int), .int .u8 (b1.toNat : Int), .int .u8 (b2.toNat : Int), .int .u8 (b3.toNat : Int)])).run Try.prog w = .ok (decide ([a0, a1, a2, a3] = [b0, b1, b2, b3])) w := by
  rw [eqRecI, int_eq, int_eq, int_eq, int_eq]
  by_cases h1 : a0 = b0 <;> by_cases h2 : a1 = b1 <;> by_cases h3 : a2 = b2 <;> by_cases h4 : a3 = b3 <;> simp [h1, h2, h3, h4]
theorem Try.guardRec : Try.prog.eqGuardType Try.prog.depth 80 = false := by kernel_rfl
theorem guardRec (op : BinOp) (x y : Operand) (xs ys : Array Value) (w : World) : (eqGuard op 80 x y (.agg xs) (.agg ys)).run Try.prog w = .ok () w := run_eqGuard_agg w op _ x y xs ys Try.guardRec
set_option maxRecDepth 100000 in
set_option maxHeartbeats 4000000 in
theorem index_any (bb : Nat) (p : Pow) (mem : List UInt8) (k : Nat) (w : World) (h : StoAt w bb p mem) (hu : Used mem k) (hk : k < 60) :
    Calls Try.prog 77 #[.slice (some ⟨bb, 1028, none⟩) 60 60, .agg #[.int .u8 255, .int .u8 255, .int .u8 255, .int .u8 255]] w fun e w' => e = .returned (.int .i64 (k : Int)) ∧ Below w.heap.size w w' := by
  have hlt := h.lt
  go_enter Try.func77, Try.ntmps77
  go_wp2_with fail
  go_loopw [8] (fun i wr => ∃ j : Nat, j ≤ k ∧ i = .int .i64 j ∧ wr.heap[w.heap.size]? = some (.cells #[.int .u8 255, .int .u8 255, .int .u8 255, .int .u8 255] 80) ∧ Below w.heap.size w wr) (fun i _ => k - (intOf i).toNat)
  case atStart => exact ⟨0, Nat.zero_le _, rfl, heap_alloc_new w _, (Below.refl _ _).alloc (Nat.le_refl _) _⟩
  case round =>
    obtain ⟨j, hj, rfl, hq, hb⟩ := hrel
    have hji : (j : Int) < 60 := by omega
    have hsl := (h.below hb).slot j (by omega)
    obtain ⟨a0, a1, a2, a3, ha⟩ := four (slot_length h.len j (by omega))
    rw [ha] at hsl
    obtain ⟨s0, s1, s2, s3⟩ := four_cells hsl
    have d0 : wr.cell? ⟨w.heap.size, 0, none⟩ = some (.int .u8 255) := cell_of_row _ _ 0 _ _ (0, 0) hq
    have d1 : wr.cell? ⟨w.heap.size, 1, none⟩ = some (.int .u8 255) := cell_of_row _ _ 1 _ _ (0, 0) hq
    have d2 : wr.cell? ⟨w.heap.size, 2, none⟩ = some (.int .u8 255) := cell_of_row _ _ 2 _ _ (0, 0) hq
    have d3 : wr.cell? ⟨w.heap.size, 3, none⟩ = some (.int .u8 255) := cell_of_row _ _ 3 _ _ (0, 0) hq
    have hE : ∀ w', (Op.equalIn 10000 80 (.agg #[.int .u8 255, .int .u8 255, .int .u8 255, .int .u8 255]) (.agg #[.int .u8 (a0.toNat : Int), .int .u8 (a1.toNat : Int), .int .u8 (a2.toNat : Int), .int .u8 (a3.toNat : Int)])).run Try.prog w' = .ok (decide (([255, 255, 255, 255] : List UInt8) = [a0, a1, a2, a3])) w' := fun w' => eqRec 255 255 255 255 a0 a1 a2 a3 w'
    have hG := guardRec
    have hsd : slotF mem j = [a0, a1, a2, a3] := ha
    have HQ := hideIt (And.intro hq hb)
    by_cases hjk : j = k
    · have hbl : ([255, 255, 255, 255] : List UInt8) = [a0, a1, a2, a3] := by rw [← hsd, hjk, hu.free k (Nat.le_refl _) hk]; rfl
      rw [decide_eq_true hbl] at hE
      clear hq hb hsl hu ha h hsd hbl
      subst hjk
      go_wp2
      go_quiet (fail)
      go_wp2
      go_ret
      exact ⟨rfl, below_drewN HQ.out.2 _⟩
    · have hbl : ¬ ([255, 255, 255, 255] : List UInt8) = [a0, a1, a2, a3] := fun e => hu.full j (by omega) (by rw [hsd, ← e]; rfl)
      rw [decide_eq_false hbl] at hE
      clear hq hb hsl hu ha h hsd hbl
      go_wp2
      go_quiet (fail)
      go_wp2
      go_roundw
      case rel => exact ⟨j + 1, by omega, by go_num, HQ.out.1, below_drewN HQ.out.2 _⟩
      case measure => simp [intOf]; omega
/-- One stroke on the memory. -/
def stepS (p : Pow) (m : List UInt8) (i : Nat) (o : Option UInt8) : Pow × List UInt8 × Bool := ((strokeF p (m.getD i 0) (wantF (m.getD i 0) o)).1, m.set i (strokeF p (m.getD i 0) (wantF (m.getD i 0) o)).2.1, (strokeF p (m.getD i 0) (wantF (m.getD i 0) o)).2.2)
theorem runS_cons (p : Pow) (m : List UInt8) (i : Nat) (o : Option UInt8) (os : List (Option UInt8)) : runS p m i (o :: os) = thenS (stepS p m i o) fun p' m' => runS p' m' (i + 1) os := by
  rw [runS]
  unfold thenS stepS
  by_cases h : (strokeF p (m.getD i 0) (wantF (m.getD i 0) o)).2.2 = true
  · rw [if_pos h, if_pos h]
  · rw [if_neg h, if_neg h]
    have h' : (strokeF p (m.getD i 0) (wantF (m.getD i 0) o)).2.2 = false := by simpa using h
    rw [h']
theorem runS_append : ∀ (a b : List (Option UInt8)) (p : Pow) (m : List UInt8) (i : Nat), runS p m i (a ++ b) = thenS (runS p m i a) fun p' m' => runS p' m' (i + a.length) b
  | [], b, p, m, i => by simp [runS, thenS]
  | o :: a, b, p, m, i => by
    rw [List.cons_append, runS_cons, runS_cons]
    by_cases h : (stepS p m i o).2.2 = true
    · have e1 : thenS (stepS p m i o) (fun p' m' => runS p' m' (i + 1) (a ++ b)) = runS (stepS p m i o).1 (stepS p m i o).2.1 (i + 1) (a ++ b) := by unfold thenS; rw [if_pos h]
      have e2 : thenS (stepS p m i o) (fun p' m' => runS p' m' (i + 1) a) = runS (stepS p m i o).1 (stepS p m i o).2.1 (i + 1) a := by unfold thenS; rw [if_pos h]
      rw [e1, e2, runS_append a b]
      simp only [List.length_cons]
      rw [show i + (a.length + 1) = i + 1 + a.length by omega]
    · have e1 : ∀ f, thenS (stepS p m i o) f = stepS p m i o := fun f => by unfold thenS; rw [if_neg h]
      rw [e1, e1, e1]
theorem then_ok {r : Pow × List UInt8 × Bool} {p : Pow} {m : List UInt8} {f : Pow → List UInt8 → Pow × List UInt8 × Bool} (h : r = (p, m, true)) : thenS r f = f p m := by subst h; rfl
theorem then_no {r : Pow × List UInt8 × Bool} {p : Pow} {m : List UInt8} {f : Pow → List UInt8 → Pow × List UInt8 × Bool} (h : r = (p, m, false)) : thenS r f = (p, m, false) := by subst h; rfl
/-- One stroke more. -/
theorem runS_more {p p' : Pow} {m m' : List UInt8} {i j : Nat} {os : List (Option UInt8)} (hj : j < os.length) (h : runS p m i (os.take j) = (p', m', true)) : runS p m i (os.take (j + 1)) = stepS p' m' (i + j) (os.getD j none) ∧ ((stepS p' m' (i + j) (os.getD j none)).2.2 = false → runS p m i os = stepS p' m' (i + j) (os.getD j none)) := by
  have hl : (os.take j).length = j := by rw [List.length_take]; omega
  have e : os.take (j + 1) = os.take j ++ [os.getD j none] := by
    rw [List.take_add_one, List.getElem?_eq_getElem hj, List.getD_eq_getElem?_getD, List.getElem?_eq_getElem hj]
    rfl
  have e1 : runS p m i (os.take (j + 1)) = stepS p' m' (i + j) (os.getD j none) := by
    rw [e, runS_append, then_ok h, hl, runS_cons]
    unfold thenS
    split
    · rename_i h2
      unfold runS
      have : stepS p' m' (i + j) (os.getD j none) = ((stepS p' m' (i + j) (os.getD j none)).1, (stepS p' m' (i + j) (os.getD j none)).2.1, (stepS p' m' (i + j) (os.getD j none)).2.2) := rfl
      rw [this, h2]
    · rfl
  refine ⟨e1, fun hf => ?_⟩
  have e2 : os = os.take (j + 1) ++ os.drop (j + 1) := (List.take_append_drop _ _).symm
  rw [e2, runS_append, e1]
  unfold thenS
  rw [if_neg (by rw [hf]; simp)]
  rw [← e2]
set_option maxRecDepth 100000 in
set_option maxHeartbeats 4000000 in
theorem write_any (bb : Nat) (p : Pow) (mem r : List UInt8) (k : Nat) (w : World) (h : StoAt w bb p mem) (hu : Used mem k) (hk : k < 60) (hr : r.length = 4) :
    Calls Try.prog 74 #[.pointer (some ⟨bb, 4, none⟩), recV r, .pointer (some ⟨bb, 1, none⟩)] w (StoEnd w bb (writeF p mem r)) := by
  have hlt := h.lt
  have HF := hideIt (show writeF p mem r = runS p mem (1024 + 4 * k) (r.map some) by unfold writeF; rw [firstF_used hu hk])
  obtain ⟨r0, r1, r2, r3, rfl⟩ := four hr
  have hrv : recV [r0, r1, r2, r3] = .agg #[.int .u8 (r0.toNat : Int), .int .u8 (r1.toNat : Int), .int .u8 (r2.toNat : Int), .int .u8 (r3.toNat : Int)] := rfl
  rw [hrv]
  have HI := hideIt (fun w' (h' : StoAt w' bb p mem) => index_any bb p mem k w' h' hu hk)
  have hki : (k : Int) < 60 := by omega
  have HS := hideIt h
  clear h hu hrv hr
  go_enter Try.func74, Try.ntmps74
  go_wp2_with fail
  go_region_with (first | (go_at_call 59; refine (blank_any _).mono ?_; rintro e wx ⟨rfl, rfl⟩) | (go_at_call 77; refine (HI.out _ (by first | exact HS.out.below (((Below.refl _ _).alloc (Nat.le_refl _) _).alloc (by simp) _) | exact HS.out.below (((Below.refl _ _).alloc (Nat.le_refl _) _).alloc (by simp) _).drew)).mono ?_; rintro e wy ⟨rfl, hby⟩))
  have hwy : Below w.heap.size w wy ∧ wy.heap[w.heap.size]? = some (.cells #[.int .u8 (r0.toNat : Int), .int .u8 (r1.toNat : Int), .int .u8 (r2.toNat : Int), .int .u8 (r3.toNat : Int)] 80) := by
    have h1 : Below w.heap.size w wy := (((Below.refl _ _).alloc (Nat.le_refl _) _).alloc (by simp) _).trans (by have := hby.mono (B' := w.heap.size) (by simp; omega); exact ⟨this.os, this.tape, this.output, this.size, this.block⟩)
    refine ⟨h1, (hby.block w.heap.size (by simp; omega)).trans ?_⟩
    exact heap_alloc2_old w _ _
  have HW := hideIt hwy
  clear hwy hby HI
  obtain ⟨os, hos⟩ : ∃ os : List (Option UInt8), [r0, r1, r2, r3].map some = os := ⟨_, rfl⟩
  have hol : os.length = 4 := by rw [← hos]; rfl
  rw [hos] at HF
  go_wp2_with fail
  go_loopw [18] (fun i wr => ∃ j : Nat, j ≤ 4 ∧ i = .int .i64 j ∧ ∃ p' m', runS p mem (1024 + 4 * k) (os.take j) = (p', m', true) ∧ StoAt wr bb p' m' ∧ Within w wr bb 1 1267 ∧ wr.heap[w.heap.size]? = some (.cells #[.int .u8 (r0.toNat : Int), .int .u8 (r1.toNat : Int), .int .u8 (r2.toNat : Int), .int .u8 (r3.toNat : Int)] 80)) (fun i _ => 4 - (intOf i).toNat)
  case atStart =>
    refine ⟨0, by omega, rfl, p, mem, by simp [runS], ?_, ?_, ?_⟩
    · exact (HS.out.below HW.out.1).kept rfl (Nat.le_refl _)
    · exact Within.below HW.out.1 hlt
    · exact HW.out.2
  case round =>
    obtain ⟨j, hj, rfl, p', m', hrun, hst, hwi, hbx⟩ := hrel
    by_cases hj4 : j < 4
    · obtain ⟨x, hx⟩ : ∃ x, [r0, r1, r2, r3].getD j 0 = x := ⟨_, rfl⟩
      have hox : os.getD j none = some x := by
        rw [← hos, ← hx, List.getD_eq_getElem?_getD, List.getElem?_map, List.getD_eq_getElem?_getD, List.getElem?_eq_getElem (by simpa using hj4)]
        rfl
      have cj : wr.cell? ⟨w.heap.size, j, none⟩ = some (.int .u8 (x.toNat : Int)) := by
        rw [cell_of_row _ _ j _ _ (0, 0) hbx, ← hx]
        have : j = 0 ∨ j = 1 ∨ j = 2 ∨ j = 3 := by omega
        rcases this with rfl | rfl | rfl | rfl <;> rfl
      obtain ⟨hm1, hm2⟩ := runS_more (by omega) hrun
      rw [hox] at hm1 hm2
      have HB := hideIt (fun w' (h' : StoAt w' bb p' m') => burn_any bb p' m' (1024 + 4 * k + j) x w' h' (by omega))
      rw [show 4 + (1024 + 4 * k + j) = 1028 + k * 4 + j by omega] at HB
      have hss : ((strokeF p' (m'.getD (1024 + 4 * k + j) 0) (m'.getD (1024 + 4 * k + j) 0 &&& x)).1, m'.set (1024 + 4 * k + j) (strokeF p' (m'.getD (1024 + 4 * k + j) 0) (m'.getD (1024 + 4 * k + j) 0 &&& x)).2.1, (strokeF p' (m'.getD (1024 + 4 * k + j) 0) (m'.getD (1024 + 4 * k + j) 0 &&& x)).2.2) = stepS p' m' (1024 + 4 * k + j) (some x) := rfl
      rw [hss] at HB
      obtain ⟨q, hq⟩ : ∃ q, stepS p' m' (1024 + 4 * k + j) (some x) = q := ⟨_, rfl⟩
      rw [hq] at HB hm1 hm2
      obtain ⟨p2, m2, ok⟩ := q
      have hji : (j : Int) < 4 := by omega
      have HM := hideIt (And.intro hm1 (And.intro hm2 (And.intro hst (And.intro hwi hbx))))
      have hlw := hst.lt
      clear hm1 hm2 hst hwi hbx hss hq hrun hox hx
      cases ok with
      | true =>
        go_wp2_with fail
        go_region_with (go_at_call 76; refine (HB.out wr.drew (HM.out.2.2.1.kept rfl (Nat.le_refl _))).mono ?_; rintro e wz ⟨he, h1, h2⟩; obtain rfl := endS_yes he)
        all_goals
          have HZ := hideIt (And.intro h1 h2)
          clear h1 h2 he
          go_wp2
          go_roundw
          case rel =>
            refine ⟨j + 1, by omega, by go_num, p2, m2, HM.out.1, HZ.out.1, HM.out.2.2.2.1.trans ?_, ?_⟩
            · exact ⟨⟨HZ.out.2.grown.os, HZ.out.2.grown.tape, HZ.out.2.grown.output, HZ.out.2.grown.size, HZ.out.2.grown.block⟩, HZ.out.2.cells, HZ.out.2.fz⟩
            · rw [← HM.out.2.2.2.2]
              exact HZ.out.2.grown.block w.heap.size (by have := (Array.getElem?_eq_some_iff.1 HM.out.2.2.2.2).1; exact this) (by simp; omega)
          case measure => simp [intOf]; omega
      | false =>
        have hent : ∀ args w, (callFunc 76 args).run Try.prog w = .ok (.enter 76 args) w := enters_of Try.func76 (by kernel_rfl) rfl
        have HX : Hid (∀ w', StoAt w' bb p2 m2 → Within wr.drew w' bb 1 1267 → StoEnd w bb (writeF p mem [r0, r1, r2, r3]) (.panicked [{ v := .iface 103 (.agg #[]), recovered := false }]) w') := by
          intro w' h1 h2
          rw [HF.out, HM.out.2.1 rfl]
          exact ⟨rfl, h1, HM.out.2.2.2.1.trans ⟨⟨h2.grown.os, h2.grown.tape, h2.grown.output, h2.grown.size, h2.grown.block⟩, h2.cells, h2.fz⟩⟩
        go_wp2_with fail
        go_region_law (refine step_diesV (.tuple #[]) 76 #[.pointer (some ⟨bb, 1, none⟩), .pointer (some ⟨bb, 1028 + k * 4 + j, none⟩), .int .u8 (x.toNat : Int)] rfl (by simp [go_sem, hent]) _ (HB.out wr.drew (HM.out.2.2.1.kept rfl (Nat.le_refl _))) (fun e w' hh => ⟨_, endS_no hh.1, rfl, HX.out w' hh.2.1 hh.2.2⟩) ?_; intro HFF)
        all_goals exact HFF.out.elim
    · obtain rfl : j = 4 := by omega
      rw [show os.take 4 = os by rw [← hol, List.take_length]] at hrun
      have HM := hideIt (And.intro hrun (And.intro hst hwi))
      clear hrun hst hwi hbx
      go_wp2
      go_end0
      rw [HF.out]
      refine ⟨?_, ?_, HM.out.2.2⟩
      · rw [HM.out.1]; rfl
      · rw [HM.out.1]; exact HM.out.2.1
end Go.Proofs.Ythokdbcpkmcieaa
