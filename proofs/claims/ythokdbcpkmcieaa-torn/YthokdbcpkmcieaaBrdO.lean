/- The walks of New and NewBoard. -/
import Derived.Test.YthokdbcpkmcieaaBrdO1
namespace Go.Proofs.Ythokdbcpkmcieaa
open Go Go.RowKit
theorem fold_brd : Array.foldl (fun (cs : Array Value) (x : Value × Nat) => cs.setIfInBounds (4 + x.snd) x.fst) (Try.zeroCells88.setIfInBounds 0 (.bool true)) (byteVs mem0).toArray.zipIdx 0 1264 = brdL.toArray := by
  have hsz : Try.zeroCells88.size = 1356 := by kernel_rfl
  have hms : (byteVs mem0).toArray.size = 1264 := by rw [List.size_toArray, byteVs_len, mem0_len]
  have h1 := fold_set0 (byteVs mem0).toArray (Try.zeroCells88.setIfInBounds 0 (.bool true)) 4 (by rw [hms, Array.size_setIfInBounds, hsz]; decide)
  rw [show (byteVs mem0).toArray.zipIdx.size = 1264 by simpa using hms] at h1
  rw [h1, hms]
  refine congrArg List.toArray ?_
  rw [Array.toList_setIfInBounds, zero_board]
  show List.take 4 ([Value.bool true, .bool false, .int .i64 0, .int .u8 0] ++ (List.replicate 1264 (Value.int .u8 0) ++ talkL)) ++ (byteVs mem0 ++ List.drop (4 + 1264) ([Value.bool true, .bool false, .int .i64 0, .int .u8 0] ++ (List.replicate 1264 (Value.int .u8 0) ++ talkL))) = brdL
  rw [splice _ _ _ _ 4 1264 rfl List.length_replicate]
  rfl
set_option maxRecDepth 100000 in
set_option maxHeartbeats 1000000 in
theorem new_any (w : World) : Calls Try.prog 34 #[] w fun e w' => e = .returned (.agg brdL.toArray) ∧ Below w.heap.size w w' := by
  have hfd := fold_brd
  have HNS := hideIt (fun w' => newStore_any w')
  have hms : (byteVs mem0).toArray.size = 1264 := by rw [List.size_toArray, byteVs_len, mem0_len]
  have hbl := brdL_len
  have hb1 := brdL_one
  obtain ⟨M, hM⟩ : ∃ M, (byteVs mem0).toArray = M := ⟨_, rfl⟩
  obtain ⟨N, hN⟩ : ∃ N, brdL = N := ⟨_, rfl⟩
  rw [hM] at hfd HNS hms
  rw [hN] at hfd hbl hb1 ⊢
  clear hM hN
  go_enter Try.func34, Try.ntmps34
  go_wp2_with fail
  refine (HNS.out _).mono ?_
  rintro e w1 ⟨rfl, hbw⟩
  have hz : Try.zeroCells88.size = 1356 := by kernel_rfl
  have hh : w1.heap[w.heap.size]? = some (.cells Try.zeroCells88 88) := (hbw.block w.heap.size (by simp)).trans (heap_alloc_new w _)
  have hth : w1.there w.heap.size 0 1356 := fun j hj => by
    refine ⟨?_, frozen_of_row _ _ _ _ _ hh⟩
    rw [cell_of_row _ _ _ _ _ (0, 0) hh, Nat.zero_add, Array.getElem?_eq_getElem (by omega)]
    rfl
  have HB : Hid (Below w.heap.size w w1) := ((Below.refl _ _).alloc (Nat.le_refl _) _).trans (hbw.mono (by simp))
  have hst : (storeCells ⟨w.heap.size, 0, none⟩ N).run Try.prog w1 = .ok () (w1.setCells w.heap.size 0 N) := run_storeCells_cells (P := Try.prog) w.heap.size 0 N 0 w1 (fun j hj => by have := (hth j (by rw [hbl] at hj; exact hj)).1; simpa using this) (fun j hj => by have := (hth j (by rw [hbl] at hj; exact hj)).2; simpa using this) hb1
  have HTH := hideIt hth
  clear hbw hh hth hz hb1
  go_wp2_with fail
  have hra : (w1.setCells w.heap.size 0 N).rangeAt w.heap.size 0 N := World.rangeAt_setCells_same w1 w.heap.size 0 N (by rw [hbl]; exact HTH.out)
  refine bodyPost_ret (results_cell_mid rfl _ _ w.heap.size N _ rfl hra Try.underlying88 rfl (by rw [hbl]; exact Try.infoBoard)) rfl ?_
  refine ⟨rfl, ?_⟩
  have hset : ∀ (vs : List Value) (o : Nat) (X : World), Below w.heap.size w X → Below w.heap.size w (X.setCells w.heap.size o vs) := by
    intro vs
    induction vs with
    | nil => intro o X h; exact h
    | cons v vs ih => intro o X h; exact ih (o + 1) _ (h.setCell (p := ⟨w.heap.size, o, none⟩) (Nat.le_refl _) _)
  exact hset _ _ _ HB.out
theorem brdL_mid (i : Nat) (hi : i < 1264) : brdL[4 + i]? = some (.int .u8 255) := by
  unfold brdL
  rw [List.getElem?_append_right (by simp), List.getElem?_append_left (by rw [byteVs_len, mem0_len]; simp; omega)]
  simp only [List.length_cons, List.length_nil]
  rw [show 4 + i - (0 + 1 + 1 + 1 + 1) = i by omega]
  unfold byteVs mem0
  rw [List.getElem?_map, List.getElem?_replicate, if_pos hi]
  rfl
theorem brdL_end (j : Nat) : brdL[1268 + j]? = talkL[j]? := by
  unfold brdL
  rw [List.getElem?_append_right (by simp; omega), List.getElem?_append_right (by rw [byteVs_len, mem0_len]; simp; omega)]
  rw [byteVs_len, mem0_len]
  simp only [List.length_cons, List.length_nil]
  rw [show 1268 + j - (0 + 1 + 1 + 1 + 1) - 1264 = j by omega]
theorem brd0_at (w : World) (t : TypeId) : BrdAt (w.alloc (.cells brdL.toArray t)) w.heap.size brd0 := by
  have hh := heap_alloc_new w (.cells brdL.toArray t)
  have hc : ∀ j, (w.alloc (.cells brdL.toArray t)).cell? ⟨w.heap.size, j, none⟩ = brdL[j]? := fun j => by
    rw [cell_of_row _ _ _ _ _ (0, 0) hh]; simp
  have hf : ∀ j, (w.alloc (.cells brdL.toArray t)).frozen? ⟨w.heap.size, j, none⟩ = false := fun j => frozen_of_row _ _ _ _ _ hh
  have hl : w.heap.size < (w.alloc (.cells brdL.toArray t)).heap.size := by simp
  refine ⟨(hc 0).trans rfl, ⟨(hc 1).trans rfl, (hc 2).trans rfl, (hc 3).trans rfl, fun i hi => ?_, mem0_len, (by decide : 0 ≤ 9223372036854775807), hf, hl⟩, ⟨?_, ?_, fun i hi => ?_, fun i hi => by simp [brd0, ear0] at hi, hf, hl, ⟨(by decide : 0 ≤ 2), by simp [brd0, ear0]⟩⟩, ⟨?_, ?_, ?_, ?_, hf⟩, ⟨0, used_0⟩, (by decide : 0 < 65536), (by decide : 0 ≤ 200)⟩
  · have hi' : i < 1264 := by rw [← mem0_len]; exact hi
    rw [hc, brdL_mid i hi']
    show some (Value.int .u8 255) = some (.int .u8 ((mem0.getD i 0).toNat : Int))
    unfold mem0
    rw [List.getD_eq_getElem?_getD, List.getElem?_replicate, if_pos hi']
    rfl
  · rw [hc]; exact brdL_end 0
  · rw [hc]; exact brdL_end 83
  · rw [hc, show 1268 + 1 + i = 1268 + (1 + i) by omega, brdL_end]
    rw [List.getElem?_eq_getElem (by rw [talkL_len]; omega)]
    exact ⟨_, rfl⟩
  · rw [hc]; exact brdL_end 84
  · rw [hc]; exact brdL_end 85
  · rw [hc]; exact brdL_end 86
  · rw [hc]; exact brdL_end 87
set_option maxRecDepth 100000 in
set_option maxHeartbeats 1000000 in
theorem newBoard_any (w : World) : Calls Try.prog 17 #[] w fun e w' => ∃ bb, e = .returned (.pointer (some ⟨bb, 0, none⟩)) ∧ w.heap.size ≤ bb ∧ BrdAt w' bb brd0 ∧ Below w.heap.size w w' := by
  have HNS := hideIt (fun w' => new_any w')
  have HBA := hideIt (fun w' => brd0_at w' 91)
  have hbl := brdL_len
  have hfl : List.foldl (fun (cs : Array Value) (x : Value × Nat) => cs.setIfInBounds x.snd x.fst) Try.zeroCells91 brdL.zipIdx = brdL.toArray := by
    have hsz : Try.zeroCells91.size = 1356 := by kernel_rfl
    have h1 := fold_set brdL 0 0 Try.zeroCells91 (by rw [hsz, brdL_len]; decide)
    simp only [Nat.zero_add] at h1
    have h4 : List.drop brdL.length Try.zeroCells91.toList = [] := List.drop_eq_nil_of_le (by rw [Array.length_toList, hsz, brdL_len]; exact Nat.le_refl _)
    rw [h4, List.append_nil, List.take_zero, List.nil_append] at h1
    exact Array.toList_inj.1 h1
  obtain ⟨N, hN⟩ : ∃ N, brdL = N := ⟨_, rfl⟩
  rw [hN] at HNS HBA hbl hfl
  clear hN
  go_enter Try.func17, Try.ntmps17
  go_wp2_with fail
  refine (HNS.out _).mono ?_
  rintro e w1 ⟨rfl, hb1⟩
  have HB := hideIt hb1
  clear hb1
  go_wp2_with fail
  go_ret
  exact ⟨w1.heap.size, rfl, HB.out.size, HBA.out w1, HB.out.alloc HB.out.size _⟩
end Go.Proofs.Ythokdbcpkmcieaa
