/- The walk of readOperands. -/
import Derived.Test.YthokdbcpkmcieaaDoorOpn
import Derived.BigQuiet
import Derived.Deep.QuietTactic
namespace Go.Proofs.YthokdbcpkmcieaaDoor
open Go Go.RowKit Go.Shelf
theorem cell_of_block {w : World} {b o : Nat} {c : Array Value} {t : TypeId} {v : Value} (h : w.heap[b]? = some (.cells c t (0, 0))) (hv : c[o]? = some v) : w.cell? ⟨b, o, none⟩ = some v := by
  rw [cell_of_row w b o c t (0, 0) h]; exact hv
theorem Reads.kept {w w' : World} {b g : Nat} {r : ByteArray} {sh : Bool} (h : Reads w b r sh) (hg : w.grownBy w' (some g)) (hne : b ≠ g) (hb : b < w.heap.size) : Reads w' b r sh := by
  have e := hg.block b hb (fun e => hne (Option.some.inj e))
  exact ⟨(World.cell?_of_block (a := ⟨b, 0, none⟩) e).trans h.c0, (World.cell?_of_block (a := ⟨b, 1, none⟩) e).trans h.c1, (World.frozen?_of_block (a := ⟨b, 0, none⟩) e).trans h.f0, (World.frozen?_of_block (a := ⟨b, 1, none⟩) e).trans h.f1⟩
set_option maxRecDepth 100000 in
set_option maxHeartbeats 1000000 in
theorem read_any (base g cap n : Nat) (l : List Opn) (code : ByteArray) (w : World) (hl : l.length = n) (hn : n ≤ 1000) (hown : w.ownsRow base 50 5 (.slice (some ⟨g, 0, none⟩) n cap) n (allCells l))
    (hk : ∀ k, k < n → (l.getD k opn0).kind < 17) (hc : 0 < code.size) (hc2 : code.size ≤ maxLen) :
    Calls Tryd.prog 14 #[.slice (some ⟨g, 0, none⟩) n cap, .string code] w fun e w' =>
      e = .returned (.tuple #[.int .i64 ((code.size : Int) - ((readTo l (code.extract 1 code.size) false n).2.1.size : Int)), .bool (!(readTo l (code.extract 1 code.size) false n).2.2)]) ∧
      w'.ownsRow base 50 5 (.slice (some ⟨g, 0, none⟩) n cap) n (allCells (readTo l (code.extract 1 code.size) false n).1) ∧ w.grownBy w' (some g) := by
  have hgw : g < w.heap.size := (hown.lt g rfl).2
  go_enter Tryd.func14, Tryd.ntmps14
  go_wp2_with fail
  refine (ways_any _).mono ?_
  rintro e w1 ⟨rfl, hb1⟩
  have hs1 : w.heap.size ≤ w1.heap.size := hb1.size
  go_wp2_with (refine wpList_store_row rfl 65 (.tmp 6) (.tmp 9) rfl w1.heap.size waysCells rfl rfl 65 _ (heap_alloc_last w1 _) ways_info rfl ways_one ?_; rw [World.setRow_alloc_new])
  go_loopw [15] (fun i wr => ∃ k : Nat, k ≤ n ∧ i = .int .i64 k ∧ wr.ownsRow base 50 5 (.slice (some ⟨g, 0, none⟩) n cap) n (allCells (readTo l (code.extract 1 code.size) false k).1) ∧ Reads wr (w1.heap.size + 1) (readTo l (code.extract 1 code.size) false k).2.1 (readTo l (code.extract 1 code.size) false k).2.2 ∧ wr.heap[w1.heap.size]? = some (.cells waysCells 65 (0, 0)) ∧ w.grownBy wr (some g) ∧ w1.heap.size + 2 ≤ wr.heap.size) (fun i _ => n - (intOf i).toNat)
  case atStart =>
    refine ⟨0, Nat.zero_le _, rfl, ?_, ⟨by simp [readTo], by simp [readTo], by simp, by simp⟩, ?_, ?_, by simp⟩
    · have : w1.ownsRow base 50 5 (.slice (some ⟨g, 0, none⟩) n cap) n (allCells l) := hown.kept (row := none) ⟨hb1.os, hb1.tape, hb1.output, hb1.size, fun k hk _ => hb1.block k hk⟩ (.inr (by simp [Value.ownBlock]))
      exact (this.alloc _).alloc _
    · rw [Below.heap_alloc _ _ _ (by simp)]; exact heap_alloc_last w1 _
    · have hb2 : Below w.heap.size w ((w1.alloc (.cells waysCells 65)).alloc (.cells #[.string (code.extract 1 code.size), .bool false] 68)) := (hb1.alloc hs1 _).alloc (by simp; omega) _
      exact ⟨hb2.os, hb2.tape, hb2.output, hb2.size, fun k hk _ => hb2.block k hk⟩
  case round =>
    obtain ⟨k, hkn, rfl, hrow, hrd, htab, hgr, hsz⟩ := hrel
    obtain ⟨p, hp⟩ : ∃ p, readTo l (code.extract 1 code.size) false k = p := ⟨_, rfl⟩
    rw [hp] at hrow hrd
    have HP : Hid (readTo l (code.extract 1 code.size) false k = p) := hp
    have hpl : p.1.length = n := by rw [← hp, readTo_len]; exact hl
    have HPL : Hid (p.1.length = n) := hpl
    by_cases hlt : k < n
    · have hkd : (p.1.getD k opn0).kind < 17 := by rw [← hp, readTo_kind]; exact hk k hlt
      obtain ⟨q, hq⟩ : ∃ q, (p.1.getD k opn0).kind = q := ⟨_, rfl⟩
      have HQ : Hid ((p.1.getD k opn0).kind = q) := hq
      rw [hq] at hkd
      have ck : wr.cell? ⟨g, k * 5, none⟩ = some (.int .i64 q) := by rw [hrow.cellAt (k * 5) (by omega), (allCells_at p.1 k (by omega)).1, hq]
      have ca : wr.cell? ⟨g, k * 5 + 3, none⟩ = some (.int .u16 (p.1.getD k opn0).added) := by rw [hrow.cellAt (k * 5 + 3) (by omega), (allCells_at p.1 k (by omega)).2.2.2.1]
      have cw : wr.cell? ⟨w1.heap.size, q * 3 + 1, none⟩ = some (fv (addF q)) := cell_of_block htab (by rw [Nat.mul_comm q 3]; exact addF_cell q hkd)
      have hent := addF_enters q
      clear hp hq hpl
      go_wp2_with fail
      refine (adds_any q (w1.heap.size + 1) p.2.1 p.2.2 _ hrd).mono ?_
      rintro e w2 ⟨rfl, hrd2, hg2⟩
      obtain ⟨t, ht⟩ : ∃ t, readOne q p.2.1 p.2.2 = t := ⟨_, rfl⟩
      rw [ht] at hrd2 ⊢
      have HT : Hid (readOne q p.2.1 p.2.2 = t) := ht
      have hrow2 : w2.ownsRow base 50 5 (.slice (some ⟨g, 0, none⟩) n cap) n (allCells p.1) := hrow.kept hg2 (.inr (by simp [Value.ownBlock]; omega))
      have ca2 : w2.cell? ⟨g, k * 5 + 3, none⟩ = some (.int .u16 (p.1.getD k opn0).added) := by rw [hrow2.cellAt (k * 5 + 3) (by omega), (allCells_at p.1 k (by rw [HPL.out]; exact hlt)).2.2.2.1]
      have cf2 : w2.frozen? ⟨g, k * 5 + 3, none⟩ = false := hrow2.frozenAt _
      have hst := hrow2.stored (k * 5 + 3) (.int .u16 t.1)
      have eN : readTo l (code.extract 1 code.size) false (k + 1) = (p.1.set k ((p.1.getD k opn0).put t.1), t.2.1, t.2.2) := by
        simp only [readTo, HP.out, HQ.out, HT.out]
      have HE : Hid (readTo l (code.extract 1 code.size) false (k + 1) = (p.1.set k ((p.1.getD k opn0).put t.1), t.2.1, t.2.2)) := eN
      have hz2 := hg2.size
      have hrel1 : (w2.setCell ⟨g, k * 5 + 3, none⟩ (.int .u16 t.1)).ownsRow base 50 5 (.slice (some ⟨g, 0, none⟩) n cap) n (allCells (p.1.set k ((p.1.getD k opn0).put t.1))) := by
        rw [← allCells_set p.1 k t.1 (by rw [HPL.out]; exact hlt)]; exact hst.1
      have hrel2 : Reads (w2.setCell ⟨g, k * 5 + 3, none⟩ (.int .u16 t.1)) (w1.heap.size + 1) t.2.1 t.2.2 := hrd2.kept hst.2 (by omega) (by omega)
      have hrel3 : (w2.setCell ⟨g, k * 5 + 3, none⟩ (.int .u16 t.1)).heap[w1.heap.size]? = some (.cells waysCells 65 (0, 0)) := by
        rw [hst.2.block w1.heap.size (by omega) (by simp; omega), hg2.block w1.heap.size (by omega) (by simp)]; exact htab
      have hrel4 : w.grownBy (w2.setCell ⟨g, k * 5 + 3, none⟩ (.int .u16 t.1)) (some g) := by
        refine grown_trans ⟨hg2.os.trans hgr.os, hg2.tape.trans hgr.tape, hg2.output.trans hgr.output, Nat.le_trans hgr.size hg2.size, fun j hj hne => ?_⟩ hst.2
        rw [hg2.block j (Nat.lt_of_lt_of_le hj hgr.size) (by simp; omega)]
        exact hgr.block j hj hne
      have hrel5 : w1.heap.size + 2 ≤ (w2.setCell ⟨g, k * 5 + 3, none⟩ (.int .u16 t.1)).heap.size := by have := hst.2.size; omega
      have R := And.intro hrel1 (And.intro hrel2 (And.intro hrel3 (And.intro hrel4 hrel5)))
      have HR := hideIt R
      clear hrel1 hrel2 hrel3 hrel4 hrel5 R hst hrow hrow2 hrd hrd2 htab hgr hg2 ck ca cw hent eN ht
      go_wp2
      go_roundw
      case rel =>
        have R := HR.out
        refine ⟨k + 1, by omega, by go_num, ?_, ?_, R.2.2.1, R.2.2.2.1, R.2.2.2.2⟩
        · rw [HE.out]; exact R.1
        · rw [HE.out]; exact R.2.1
      case measure => simp [intOf]; omega
    · have hkn' : k = n := by omega
      have HK : Hid (k = n) := hkn'
      have HR := hideIt (And.intro hrow hgr)
      obtain ⟨c0, c1, _, _⟩ := hrd
      have hle : p.2.1.size ≤ maxLen := by
        have := readTo_size l (code.extract 1 code.size) false k
        rw [hp] at this
        simp only [ByteArray.size_extract] at this
        omega
      clear hp hpl hkn' hrow hgr
      unfold maxLen at hc2 hle
      go_wp2
      go_quiet (fail)
      go_wp2
      go_ret2
      rw [← HK.out, HP.out]
      exact ⟨rfl, by rw [HK.out]; exact HR.out.1, ⟨HR.out.2.os, HR.out.2.tape, HR.out.2.output, HR.out.2.size, HR.out.2.block⟩⟩
end Go.Proofs.YthokdbcpkmcieaaDoor
