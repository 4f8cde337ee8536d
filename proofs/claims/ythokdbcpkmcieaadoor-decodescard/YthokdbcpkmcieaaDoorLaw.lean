/- The walk of the law. -/
import Derived.Test.YthokdbcpkmcieaaDoorBoth
import Derived.Deep.RegionWith
namespace Go.Proofs.YthokdbcpkmcieaaDoor
open Go Go.RowKit
set_option maxHeartbeats 400000 in
theorem dec4 (code : ByteArray) (at' : Int) (R : ByteArray) (S : Int) (h : Same code at' R S) (w : World) (m : Int) (hm : w.cell? ⟨0, 0, none⟩ = some (.int .i64 m)) (h0 : 0 < w.heap.size) :
    Calls Tryd.prog 4 #[.string code, .int .i64 at'] w fun e w' => e = .returned (.tuple #[.string R, .int .i64 S]) ∧ Below w.heap.size w w' := by
  have HS := hideIt (h.1 w m hm h0)
  clear h
  go_enter Tryd.func4, Tryd.ntmps4
  go_wp2_with fail
  refine HS.out.mono ?_
  rintro e w1 ⟨rfl, hb⟩
  go_wp2
  go_ret2
  exact ⟨rfl, hb⟩
theorem first_rest : (okC 2 && decide (rowIx 2 ≠ 111) && (cutOf 2).2.2 && decide (ksOf 2 = [14]) && decide (numOf 2 = 0) && decide ((cutOf 2).1 = [76, 74, 77, 80])) = true := by decide +kernel
theorem first_text : refS ⟨#[76, 74, 77, 80]⟩ [14] ⟨#[2, 18, 52]⟩ 0 2 (rBehind 0 3) 1 = ⟨#[76, 74, 77, 80, 32, 48, 120, 49, 50, 51, 52]⟩ := by decide +kernel
theorem same_first : Same ⟨#[2, 18, 52]⟩ 0 ⟨#[76, 74, 77, 80, 32, 48, 120, 49, 50, 51, 52]⟩ 3 := by
  have hf := first_rest
  simp only [Bool.and_eq_true, decide_eq_true_eq] at hf
  obtain ⟨⟨⟨⟨⟨hok, hr⟩, hcut⟩, hks⟩, hnum⟩, hnm⟩ := hf
  obtain ⟨hent, hlen, hrest⟩ := cls_some 2 hok hr
  rw [hcut, if_pos rfl] at hrest
  have ho := cls_ops 2 hrest
  have hrow := row_is 2 hr hlen hcut ho ⟨#[2, 18, 52]⟩
  have heo := ent_ops 2 hent ho
  have hname : (⟨(entOf 2).2.2.1.toArray⟩ : ByteArray) = ⟨(cutOf 2).1.toArray⟩ := by rw [ho.name]
  have hkk : ∀ j, j < (ksOf 2).length → (((ksOf 2).getD j 0 ≠ 7 ∧ (ksOf 2).getD j 0 ≠ 8) ∨ (ownOf 2 = numOf 2 ∧ 0 ≤ numOf 2 ∧ numOf 2 < 8)) ∧ ((ksOf 2).getD j 0 = 16 → ownOf 2 = (2 : Int) / 32 * 32) := fun j hj => (okKind_of _ _ (ks_kind _ ho j hj) ho.num0).2
  have key := whole_core ⟨#[2, 18, 52]⟩ 0 (by decide) (by decide) (rowIx 2) _ _ _ _ _ _ (ksOf 2) (ownOf 2) (numOf 2) (entOf 2) hrow heo (by rw [hks]; decide) (by decide) (by rw [ho.same]; decide) hname ho.num0 ho.num1 ho.own0 hkk
  rw [hks, hnum, hnm] at key
  have e : refS ⟨([76, 74, 77, 80] : List UInt8).toArray⟩ [14] ⟨#[2, 18, 52]⟩ 0 2 (rBehind 0 3) 1 = ⟨#[76, 74, 77, 80, 32, 48, 120, 49, 50, 51, 52]⟩ := first_text
  rw [← e]
  exact key
set_option maxRecDepth 100000 in
set_option maxHeartbeats 2000000 in
theorem law_some (b off len cap : Nat) (S : Nat → ByteArray) (A : Nat → Int) (m : Int) (w : World) (hm : w.cell? ⟨0, 0, none⟩ = some (.int .i64 m)) (h0 : 0 < w.heap.size) (hb : b < w.heap.size) (hl : len ≤ maxLen)
    (hc : ∀ i, i < len → w.cell? ⟨b, off + i * 2, none⟩ = some (.string (S i)) ∧ w.cell? ⟨b, off + i * 2 + 1, none⟩ = some (.int .i64 (A i)) ∧ (S i).size ≤ maxLen) :
    Calls Tryd.prog 3 #[.slice (some ⟨b, off, none⟩) len cap] w fun e w' => e = .returned (.bool true) ∧ Below w.heap.size w w' := by
  unfold maxLen at hl
  have HC := hideIt hc
  clear hc
  go_enter Tryd.func3, Tryd.ntmps3
  go_wp2_with fail
  refine (dec4 _ _ _ _ same_first _ m hm h0).mono ?_
  rintro e w1 ⟨rfl, hb1⟩
  go_wp2_with fail
  go_loopw [5, 6] (fun ok i wr => ∃ k : Nat, k ≤ len ∧ i = .int .i64 k ∧ ok = .bool true ∧ Below w.heap.size w wr) (fun _ i _ => len - (intOf i).toNat)
  case atStart => exact ⟨0, Nat.zero_le _, rfl, rfl, hb1⟩
  case round =>
    obtain ⟨k, hk, rfl, rfl, hbr⟩ := hrel
    have hmr : wr.cell? ⟨0, 0, none⟩ = some (.int .i64 m) := by rw [hbr.cell (by simp; omega)]; exact hm
    have hzr := hbr.size
    have HB := hideIt hbr
    by_cases hlt : k < len
    · obtain ⟨k1, k2, k3⟩ := HC.out k hlt
      obtain ⟨s, hs⟩ : ∃ s, S k = s := ⟨_, rfl⟩
      obtain ⟨a, ha⟩ : ∃ a, A k = a := ⟨_, rfl⟩
      rw [hs] at k1 k3
      rw [ha] at k2
      obtain ⟨R, T, hsame⟩ := same_any s a k3
      have HS := hideIt hsame
      have c1 : wr.cell? ⟨b, off + k * 2, none⟩ = some (.string s) := by rw [hbr.cell (by simp; omega)]; exact k1
      have c2 : wr.cell? ⟨b, off + k * 2 + 1, none⟩ = some (.int .i64 a) := by rw [hbr.cell (by simp; omega)]; exact k2
      have h0r : 0 < wr.heap.size := by omega
      clear hs ha hsame hbr k1 k2 k3
      go_wp2_with fail
      go_region_with (go_at_call 4; refine (dec4 s a R T HS.out _ m (by exact hmr) (by exact h0r)).mono ?_; rintro e w2 ⟨rfl, hb2⟩)
      all_goals
        have d1 : w2.cell? ⟨b, off + k * 2, none⟩ = some (.string s) := (hb2.cell (p := ⟨b, off + k * 2, none⟩) (by show b < wr.heap.size; omega)).trans c1
        have d2 : w2.cell? ⟨b, off + k * 2 + 1, none⟩ = some (.int .i64 a) := (hb2.cell (p := ⟨b, off + k * 2 + 1, none⟩) (by show b < wr.heap.size; omega)).trans c2
        have HB2 : Hid (Below w.heap.size w w2) := HB.out.trans (by have := hb2.mono (B' := w.heap.size) hzr; exact ⟨this.os, this.tape, this.output, this.size, this.block⟩)
        have hz2 : w.heap.size ≤ w2.heap.size := HB2.out.size
        clear hb2
        go_wp2_with fail
        go_region_with (go_at_call 5; refine (HS.out.2 _).mono ?_; rintro e w3 ⟨rfl, hb3⟩)
        all_goals
          have HB3 : Hid (Below w.heap.size w w3) := HB2.out.trans (by have := hb3.mono (B' := w.heap.size) hz2; exact ⟨this.os, this.tape, this.output, this.size, this.block⟩)
          clear hb3
          go_wp2
          go_roundw
          case rel => exact ⟨k + 1, by omega, by go_num, by simp, HB3.out⟩
          case measure => simp [intOf]; omega
    · go_wp2
      go_ret
      exact ⟨rfl, HB.out⟩
end Go.Proofs.YthokdbcpkmcieaaDoor
