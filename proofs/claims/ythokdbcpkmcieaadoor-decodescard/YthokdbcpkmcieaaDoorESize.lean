/- The walk of an entry's Size. -/
import Derived.Test.YthokdbcpkmcieaaDoorEntry2
namespace Go.Proofs.YthokdbcpkmcieaaDoor
open Go Go.RowKit
/-- The texts of a list of kinds. -/
def textsOf (ks : List Nat) : List (List UInt8) := ks.map fun k => (opText k).data.toList
/-- The size of an instruction with these operands. -/
def sizeOf' (ks : List Nat) : Nat := 1 + (ks.map opSize).sum
theorem opSize_le (k : Nat) : opSize k ≤ 2 := by
  unfold opSize
  rw [List.getD_eq_getElem?_getD]
  cases h : ([0, 0, 0, 0, 0, 0, 0, 0, 0, 1, 2, 1, 1, 1, 2, 1, 1] : List Nat)[k]? with
  | none => simp
  | some x =>
    have key : ([0, 0, 0, 0, 0, 0, 0, 0, 0, 1, 2, 1, 1, 1, 2, 1, 1] : List Nat).all (fun x => decide (x ≤ 2)) = true := by decide
    have := List.all_eq_true.1 key x (List.mem_of_getElem? h)
    simpa using this
theorem sum_le (ks : List Nat) : (ks.map opSize).sum ≤ 2 * ks.length := by
  induction ks with
  | nil => simp
  | cons k ks ih => have := opSize_le k; simp only [List.map_cons, List.sum_cons, List.length_cons]; omega
theorem sum_snoc (ks : List Nat) (k : Nat) (h : k < ks.length) : ((ks.take (k + 1)).map opSize).sum = ((ks.take k).map opSize).sum + opSize (ks.getD k 0) := by
  rw [List.take_succ_eq_append_getElem h, List.map_append, List.sum_append, List.getD_eq_getElem?_getD, List.getElem?_eq_getElem h]
  simp
/-- The operands' cells. -/
theorem OpsIn.cellAt {w : World} {b : Nat} {ks : List Nat} (hc : w.heap[b]? = some (.cells ((textsOf ks).map fun x => Value.string ⟨x.toArray⟩).toArray 9 (0, 0))) (j : Nat) (hj : j < ks.length) : w.cell? ⟨b, j, none⟩ = some (.string (opText (ks.getD j 0))) := by
  rw [cell_of_row w b j _ _ _ hc]
  simp only [textsOf, List.map_map, List.getElem?_toArray, List.getElem?_map, List.getElem?_eq_getElem hj, Option.map_some, Function.comp, Option.some.injEq, Value.string.injEq]
  rw [List.getD_eq_getElem?_getD, List.getElem?_eq_getElem hj]
  rfl
set_option maxRecDepth 100000 in
set_option maxHeartbeats 400000 in
theorem esize_nil (c m : Int) (nm : ByteArray) (w : World) :
    Calls Tryd.prog 8 #[.agg #[.int .i64 c, .int .i64 m, .string nm, .slice none 0 0]] w fun e w' => e = .returned (.int .i64 1) ∧ Below w.heap.size w w' := by
  go_enter Tryd.func8, Tryd.ntmps8
  go_wp2
  refine wp_loop_rounds 1 ?_
  rw [rounds_succ]
  go_wp2
  go_ret
  exact ⟨rfl, (Below.refl _ _).alloc (Nat.le_refl _) _⟩
set_option maxRecDepth 100000 in
set_option maxHeartbeats 1000000 in
theorem esize_some (c m : Int) (nm : ByteArray) (b : Nat) (ks : List Nat) (n : Nat) (w : World) (hn : ks.length = n) (hn1 : n ≤ 1000) (hk : ∀ j, j < n → ks.getD j 0 < 17)
    (hc : w.heap[b]? = some (.cells ((textsOf ks).map fun x => Value.string ⟨x.toArray⟩).toArray 9 (0, 0))) :
    Calls Tryd.prog 8 #[.agg #[.int .i64 c, .int .i64 m, .string nm, .slice (some ⟨b, 0, none⟩) n n]] w fun e w' => e = .returned (.int .i64 (sizeOf' ks)) ∧ Below w.heap.size w w' := by
  have hbw : b < w.heap.size := (Array.getElem?_eq_some_iff.1 hc).1
  have HC := hideIt hc
  clear hc
  go_enter Tryd.func8, Tryd.ntmps8
  go_wp2
  go_loop [3, 4] (fun s i => ∃ k : Nat, k ≤ n ∧ i = .int .i64 k ∧ s = .int .i64 (1 + ((ks.take k).map opSize).sum : Nat)) (fun _ i => n - (intOf i).toNat)
  case atStart => exact ⟨0, Nat.zero_le _, rfl, rfl⟩
  case round =>
    obtain ⟨k, hkn, rfl, rfl⟩ := hrel
    have hsl := sum_le (ks.take k)
    have hlen : (ks.take k).length ≤ k := List.length_take_le _ _
    by_cases hlt : k < n
    · obtain ⟨q, hq⟩ : ∃ q, ks.getD k 0 = q := ⟨_, rfl⟩
      have hq17 : q < 17 := by rw [← hq]; exact hk k hlt
      have ct : ∀ o, (w.alloc o).cell? ⟨b, k, none⟩ = some (.string (opText q)) := fun o => by rw [World.cell?_alloc_old _ _ _ (by simp; omega), OpsIn.cellAt HC.out k (by omega), hq]
      have hss := sum_snoc ks k (by omega)
      rw [hq] at hss
      have HSS := hideIt hss
      have hql := opSize_le q
      obtain ⟨s0, hs0⟩ : ∃ s0, ((ks.take k).map opSize).sum = s0 := ⟨_, rfl⟩
      rw [hs0] at hsl ⊢
      have HS0 := hideIt hs0
      clear hss hq hs0
      go_wp2_with (go_at_call 9; refine (size_any q hq17 _).mono ?_; rintro e w' ⟨rfl, rfl⟩)
      go_round
      case rel => exact ⟨k + 1, by omega, by go_num, by rw [HSS.out, HS0.out]; go_num⟩
      case measure => simp [intOf]; omega
    · have hkn' : k = n := by omega
      have HK := hideIt hkn'
      clear hkn'
      go_wp2
      go_ret
      refine ⟨?_, (Below.refl _ _).alloc (Nat.le_refl _) _⟩
      unfold sizeOf'
      rw [HK.out, List.take_of_length_le (by first | omega | (rw [List.length_map]; omega))]
      rfl
end Go.Proofs.YthokdbcpkmcieaaDoor
