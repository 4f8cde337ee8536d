/- The walk of the reference's entry over its table. -/
import Derived.Test.YthokdbcpkmcieaaDoorEntry
namespace Go.Proofs.YthokdbcpkmcieaaDoor
open Go Go.RowKit
theorem below_same {w w' : World} (h : Below w.heap.size w w') {v : Value} {os : List (List UInt8)} (ho : OpsIn w v os) : OpsIn w' v os := ho.later h
theorem ents_small (k : Nat) : (entsL.getD k ent0).1 ≤ 255 ∧ (entsL.getD k ent0).2.1 ≤ 255 := by
  have key : entsL.all (fun e => decide (e.1 ≤ 255) && decide (e.2.1 ≤ 255)) = true := by decide +kernel
  rw [List.getD_eq_getElem?_getD]
  cases h : entsL[k]? with
  | none => simp [ent0]
  | some e =>
    have := List.all_eq_true.1 key e (List.mem_of_getElem? h)
    simpa using this
set_option maxRecDepth 100000 in
set_option maxHeartbeats 2000000 in
theorem entry_table (c : Int) (w : World) (h0 : 0 ≤ c) (h1 : c ≤ 255) (hp : (c % 16 == 1) = false) :
    Calls Tryd.prog 7 #[.int .i64 c] w fun e w' =>
      (∃ k v, k < 109 ∧ inR c (entsL.getD k ent0) = true ∧ (∀ j, j < k → inR c (entsL.getD j ent0) = false) ∧ e = .returned (.tuple #[entV (entsL.getD k ent0) v, .int .i64 (c - ((entsL.getD k ent0).1 : Int)), .bool true]) ∧ OpsIn w' v (entsL.getD k ent0).2.2.2 ∧ Below w.heap.size w w') ∨
      ((∀ j, j < 109 → inR c (entsL.getD j ent0) = false) ∧ e = .returned (.tuple #[entV ent0 (.slice none 0 0), .int .i64 0, .bool false]) ∧ Below w.heap.size w w') := by
  go_enter Tryd.func7, Tryd.ntmps7
  go_wp2_with fail
  refine (table_tab _).mono ?_
  rintro e w1 ⟨b, rfl, hb0, hb1, ht, hbel⟩
  have hs1 : w.heap.size + 1 ≤ w1.heap.size := by have := hbel.size; simpa using this
  have hb0' : w.heap.size + 1 ≤ b := by simpa using hb0
  have hrow : w1.heap[w.heap.size]? = some (.cells #[.int .i64 0, .int .i64 0, .string ⟨#[]⟩, .slice none 0 0] 30 (0, 0)) := by rw [hbel.block w.heap.size (by simp)]; exact heap_alloc_last w _
  have hbw : Below w.heap.size w w1 := ((Below.refl _ _).alloc (Nat.le_refl _) _).trans (hbel.mono (by simp))
  go_wp2_with fail
  go_loopw [6] (fun i wr => ∃ k : Nat, k ≤ 109 ∧ i = .int .i64 k ∧ (∀ j, j < k → inR c (entsL.getD j ent0) = false) ∧ Below w1.heap.size w1 wr) (fun i _ => 109 - (intOf i).toNat)
  case atStart => exact ⟨0, by omega, rfl, fun j h => by omega, Below.refl _ _⟩
  case round =>
    obtain ⟨k, hk, rfl, hno, hbr⟩ := hrel
    have HNO := hideIt hno
    have htr := ht.later hbr
    have hbwr : Below w.heap.size w wr := hbw.trans (hbr.mono (by omega))
    have hrr : wr.heap[w.heap.size]? = some (.cells #[.int .i64 0, .int .i64 0, .string ⟨#[]⟩, .slice none 0 0] 30 (0, 0)) := by rw [hbr.block w.heap.size (by omega)]; exact hrow
    have r0 : wr.cell? ⟨w.heap.size, 0, none⟩ = some (.int .i64 0) := cell_of_row _ _ 0 _ _ _ hrr
    have r1 : wr.cell? ⟨w.heap.size, 1, none⟩ = some (.int .i64 0) := cell_of_row _ _ 1 _ _ _ hrr
    have r2 : wr.cell? ⟨w.heap.size, 2, none⟩ = some (.string ⟨#[]⟩) := cell_of_row _ _ 2 _ _ _ hrr
    have r3 : wr.cell? ⟨w.heap.size, 3, none⟩ = some (.slice none 0 0) := cell_of_row _ _ 3 _ _ _ hrr
    have f0 : wr.frozen? ⟨w.heap.size, 0, none⟩ = false := frozen_of_row _ _ 0 _ _ hrr
    have f1 : wr.frozen? ⟨w.heap.size, 1, none⟩ = false := frozen_of_row _ _ 1 _ _ hrr
    have f2 : wr.frozen? ⟨w.heap.size, 2, none⟩ = false := frozen_of_row _ _ 2 _ _ hrr
    have f3 : wr.frozen? ⟨w.heap.size, 3, none⟩ = false := frozen_of_row _ _ 3 _ _ hrr
    have hzr := hbr.size
    have hz0 : w.heap.size < wr.heap.size := by omega
    have hzb : w.heap.size < b := by omega
    have HR := hideIt hrr
    have HB := hideIt hbwr
    have HBR := hideIt hbr
    clear hno hrr hbwr hbr hrow hbel hbw
    by_cases hlt : k < 109
    · obtain ⟨v, c0, c1, c2, c3, ho⟩ := htr k (by show k < 109; exact hlt)
      obtain ⟨p, hpp⟩ : ∃ p, entsL.getD k ent0 = p := ⟨_, rfl⟩
      rw [hpp] at c0 c1 c2 ho
      have HP := hideIt hpp
      have HO := hideIt ho
      clear htr hpp ht
      have hb5 : p.1 ≤ 255 ∧ p.2.1 ≤ 255 := by rw [← HP.out]; exact ents_small k
      have hp1 : (p.1 : Int) ≤ 255 := by omega
      have hp2 : (p.2.1 : Int) ≤ 255 := by omega
      by_cases hge : (p.1 : Int) ≤ c
      · have hd1 : decide ((p.1 : Int) ≤ c) = true := by simpa using hge
        by_cases hl : c < (p.1 : Int) + (p.2.1 : Int)
        · have hd2 : decide (c < (p.1 : Int) + (p.2.1 : Int)) = true := by simpa using hl
          have hin : inR c (entsL.getD k ent0) = true := by rw [HP.out]; simp [inR, hd1, hd2]
          have HIN := hideIt hin
          clear hin
          rcases ho with ⟨hos, rfl⟩ | ⟨hos, bo, rfl, hco⟩
          · clear hos
            go_wp2_with fail
            go_quiet (fail)
            go_wp2
            go_region
            all_goals
              go_wp2
              refine bodyPost_ret (v := .tuple #[entV p (.slice none 0 0), .int .i64 (c - (p.1 : Int)), .bool true]) (by simp [results, Tryd.results7, go_sem, r0, r1, r2, r3, entV]) rfl (.inl ⟨k, _, hlt, HIN.out, HNO.out, by rw [HP.out], ?_, ?_⟩)
              · rw [HP.out]; exact HO.out.set4 _ _ _ _ HR.out
              · exact below4 _ _ _ _ (below_drewN HB.out _) (Nat.le_refl _)
          · clear hos hco
            go_wp2_with fail
            go_quiet (fail)
            go_wp2
            go_region
            all_goals
              go_wp2
              refine bodyPost_ret (v := .tuple #[entV p (.slice (some ⟨bo, 0, none⟩) p.2.2.2.length p.2.2.2.length), .int .i64 (c - (p.1 : Int)), .bool true]) (by simp [results, Tryd.results7, go_sem, r0, r1, r2, r3, entV]) rfl (.inl ⟨k, _, hlt, HIN.out, HNO.out, by rw [HP.out], ?_, ?_⟩)
              · rw [HP.out]; exact HO.out.set4 _ _ _ _ HR.out
              · exact below4 _ _ _ _ (below_drewN HB.out _) (Nat.le_refl _)
        · have hd2 : decide (c < (p.1 : Int) + (p.2.1 : Int)) = false := by simpa using hl
          go_wp2_with fail
          go_quiet (fail)
          go_wp2
          go_roundw
          case rel => exact ⟨k + 1, by omega, by go_num, fun j hj => by
            rcases Nat.lt_or_ge j k with h | h
            · exact HNO.out j h
            · have e : j = k := by omega
              rw [e, HP.out]; simp [inR, hd1, hd2], below_drewN HBR.out _⟩
          case measure => simp [intOf]; omega
      · have hd1 : decide ((p.1 : Int) ≤ c) = false := by simpa using hge
        go_wp2_with fail
        go_quiet (fail)
        go_wp2
        go_roundw
        case rel => exact ⟨k + 1, by omega, by go_num, fun j hj => by
            rcases Nat.lt_or_ge j k with h | h
            · exact HNO.out j h
            · have e : j = k := by omega
              rw [e, HP.out]; simp [inR, hd1], below_drewN HBR.out _⟩
        case measure => simp [intOf]; omega
    · have hke : k = 109 := by omega
      have HKE := hideIt hke
      clear hke
      go_wp2
      refine bodyPost_ret (v := .tuple #[entV ent0 (.slice none 0 0), .int .i64 0, .bool false]) (by simp [results, Tryd.results7, go_sem, r0, r1, r2, r3, entV, ent0]) rfl (.inr ⟨fun j hj => HNO.out j (by rw [HKE.out]; exact hj), rfl, ?_⟩)
      exact below4 _ _ _ _ HB.out (Nat.le_refl _)
end Go.Proofs.YthokdbcpkmcieaaDoor
