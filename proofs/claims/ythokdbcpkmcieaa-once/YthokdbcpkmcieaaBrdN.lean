/- The walk of newStore. -/
import Derived.Test.YthokdbcpkmcieaaBrdF
namespace Go.Proofs.Ythokdbcpkmcieaa
open Go Go.RowKit
theorem Try.infoStore : (Try.prog.info? 83).map (·.size) = some 1264 := by kernel_rfl
theorem BytesAt.set {w : World} {g off : Nat} {l : List UInt8} (h : BytesAt w g off l) (i : Nat) (x : UInt8) (hi : i < l.length) : BytesAt (w.setCell ⟨g, off + i, none⟩ (.int .u8 (x.toNat : Int))) g off (l.set i x) := by
  intro k hk
  simp only [List.length_set] at hk
  by_cases e : k = i
  · subst e
    rw [World.cell?_setCell_same _ _ _ (h k hk)]
    simp [List.getD_eq_getElem?_getD, hk]
  · rw [World.cell?_setCell_other _ _ _ _ (by simp <;> omega), h k hk]
    simp only [List.getD_eq_getElem?_getD]
    rw [List.getElem?_set_ne (fun e' => e e'.symm)]
theorem getD_set (l : List UInt8) (i k : Nat) (x : UInt8) (hi : i < l.length) : (l.set i x).getD k 0 = if k = i then x else l.getD k 0 := by
  simp only [List.getD_eq_getElem?_getD, List.getElem?_set]
  by_cases h : i = k
  · subst h; simp [hi]
  · rw [if_neg h, if_neg (fun e => h e.symm)]
/-- The local store while it is laid. -/
structure NewS (w wr : World) (mem : List UInt8) : Prop where
  len : mem.length = 1264
  at_ : BytesAt wr (w.heap.size + 1) 0 mem
  fz : ∀ j, wr.frozen? ⟨w.heap.size + 1, j, none⟩ = false
  out : ∀ j, j < 1264 → (wr.cell? ⟨w.heap.size, 0 + j, none⟩).isSome = true ∧ wr.frozen? ⟨w.heap.size, 0 + j, none⟩ = false
  below : Below w.heap.size w wr
  sz : w.heap.size + 2 ≤ wr.heap.size
theorem NewS.alloc {w wr : World} {mem : List UInt8} (h : NewS w wr mem) (o : Obj) : NewS w (wr.alloc o) mem := by
  have hz := h.sz
  have e1 : (wr.alloc o).heap[w.heap.size + 1]? = wr.heap[w.heap.size + 1]? := Below.heap_alloc _ _ _ (by omega)
  have e0 : (wr.alloc o).heap[w.heap.size]? = wr.heap[w.heap.size]? := Below.heap_alloc _ _ _ (by omega)
  exact ⟨h.len, h.at_.kept e1, fun j => (World.frozen?_of_block (a := ⟨w.heap.size + 1, j, none⟩) e1).trans (h.fz j), fun j hj => by rw [World.cell?_of_block (a := ⟨w.heap.size, 0 + j, none⟩) e0, World.frozen?_of_block (a := ⟨w.heap.size, 0 + j, none⟩) e0]; exact h.out j hj, h.below.alloc (by omega) _, by simp; omega⟩
theorem NewS.set {w wr : World} {mem : List UInt8} (h : NewS w wr mem) (i : Nat) (hi : i < 1264) : NewS w (wr.setCell ⟨w.heap.size + 1, i, none⟩ (.int .u8 255)) (mem.set i 255) := by
  have hl := h.len
  have := h.at_.set i 255 (by omega)
  rw [Nat.zero_add] at this
  refine ⟨by simp [hl], this, fun j => by simp [h.fz j], fun j hj => ?_, h.below.setCell (p := ⟨w.heap.size + 1, i, none⟩) (by simp) _, by have := h.sz; simpa [World.setCell] using this⟩
  rw [World.cell?_setCell_other _ _ _ _ (by simp)]
  simp only [World.frozen?_setCell]
  exact h.out j hj
theorem NewS.cell {w wr : World} {mem : List UInt8} (h : NewS w wr mem) (i : Nat) (hi : i < 1264) : ∃ v, wr.cell? ⟨w.heap.size + 1, i, none⟩ = some v := by
  have := h.at_ i (by rw [h.len]; exact hi)
  rw [Nat.zero_add] at this
  exact ⟨_, this⟩
theorem zeroStore (w : World) : NewS w ((w.alloc (.cells Try.zeroCells83 83)).alloc (.cells Try.zeroCells83 83)) (List.replicate 1264 0) := by
  have hz : Try.zeroCells83 = Array.replicate 1264 (.int .u8 0) := by kernel_rfl
  rw [hz]
  have h1 := heap_alloc_new (w.alloc (.cells (Array.replicate 1264 (.int .u8 0)) 83)) (.cells (Array.replicate 1264 (.int .u8 0)) 83)
  rw [World.alloc_size] at h1
  have h0 := heap_alloc2_old w (.cells (Array.replicate 1264 (.int .u8 0)) 83) (.cells (Array.replicate 1264 (.int .u8 0)) 83)
  refine ⟨List.length_replicate, fun i hi => ?_, fun j => frozen_of_row _ _ j _ _ h1, fun j hj => ⟨?_, frozen_of_row _ _ _ _ _ h0⟩, ((Below.refl _ _).alloc (Nat.le_refl _) _).alloc (by simp) _, by simp⟩
  · rw [List.length_replicate] at hi
    rw [cell_of_row _ _ _ _ _ (0, 0) h1, Nat.zero_add, List.getD_eq_getElem?_getD, List.getElem?_replicate, if_pos hi, Array.getElem?_replicate, if_pos hi]
    rfl
  · rw [cell_of_row _ _ _ _ _ (0, 0) h0, Nat.zero_add, Array.getElem?_replicate, if_pos hj]
    rfl
theorem results_cell_mid {P : Program} {fn : Func} {p : Tmp} {ty : TypeId} (h : fn.results = #[.cell p ty]) (tmps : Array Value) (w : World) (g : Nat) (cs : List Value) (d : TypeDesc)
    (hp : tmps.getD p undef = .pointer (some ⟨g, 0, none⟩)) (hc : w.rangeAt g 0 cs) (hu : P.underlying ty = some d) (hd : d.isRow = true) (hi : (P.info? ty).map (·.size) = some cs.length) : (results fn tmps).run P w = .ok (.agg cs.toArray) w := by
  have hp' : tmps[p]?.getD undef = .pointer (some ⟨g, 0, none⟩) := by simpa using hp
  simp [results, h, hp', asAddr, run_loadVar_mid w g 0 ty cs d hc hu hd hi]
set_option maxRecDepth 100000 in
set_option maxHeartbeats 4000000 in
theorem newStore_any (w : World) : Calls Try.prog 46 #[] w fun e w' => e = .returned (.agg (byteVs mem0).toArray) ∧ Below w.heap.size w w' := by
  have HZ := hideIt (zeroStore w)
  go_enter Try.func46, Try.ntmps46
  go_wp2_with fail
  go_loopw [5] (fun i wr => ∃ j : Nat, j ≤ 60 ∧ i = .int .i64 j ∧ ∃ mem, NewS w wr mem ∧ ∀ k, 1024 ≤ k → k < 1024 + 4 * j → mem.getD k 0 = 255) (fun i _ => 60 - (intOf i).toNat)
  case atStart => exact ⟨0, by omega, rfl, _, HZ.out, fun k h1 h2 => by omega⟩
  case round =>
    obtain ⟨j, hj, rfl, mem, hN, hv⟩ := hrel
    clear HZ
    by_cases hlt : j < 60
    · have hji : (j : Int) < 60 := by omega
      have HN := hideIt (And.intro hN hv)
      clear hN hv
      go_wp2_with fail
      refine (blank_any _).mono ?_
      rintro e w1 ⟨rfl, hw1⟩
      have HN1 := hideIt (HN.out.1.alloc (.cells #[.int .u8 255, .int .u8 255, .int .u8 255, .int .u8 255] 80))
      rw [← hw1] at HN1
      clear hw1
      obtain ⟨v0, d0⟩ := HN1.out.cell (1024 + j * 4) (by omega)
      obtain ⟨v1, d1⟩ := HN1.out.cell (1024 + j * 4 + 1) (by omega)
      obtain ⟨v2, d2⟩ := HN1.out.cell (1024 + j * 4 + 2) (by omega)
      obtain ⟨v3, d3⟩ := HN1.out.cell (1024 + j * 4 + 3) (by omega)
      have f0 := HN1.out.fz (1024 + j * 4)
      have f1 := HN1.out.fz (1024 + j * 4 + 1)
      have f2 := HN1.out.fz (1024 + j * 4 + 2)
      have f3 := HN1.out.fz (1024 + j * 4 + 3)
      go_wp2
      go_roundw
      case rel =>
        have hl := HN1.out.len
        refine ⟨j + 1, by omega, by go_num, _, (((HN1.out.set (1024 + j * 4) (by omega)).set (1024 + j * 4 + 1) (by omega)).set (1024 + j * 4 + 2) (by omega)).set (1024 + j * 4 + 3) (by omega), fun k h1 h2 => ?_⟩
        rw [getD_set _ _ _ _ (by simp; omega), getD_set _ _ _ _ (by simp; omega), getD_set _ _ _ _ (by simp; omega), getD_set _ _ _ _ (by omega)]
        by_cases hk : k < 1024 + 4 * j
        · rw [if_neg (by omega), if_neg (by omega), if_neg (by omega), if_neg (by omega)]
          exact HN.out.2 k h1 hk
        · have : k = 1024 + j * 4 ∨ k = 1024 + j * 4 + 1 ∨ k = 1024 + j * 4 + 2 ∨ k = 1024 + j * 4 + 3 := by omega
          rcases this with rfl | rfl | rfl | rfl <;> simp
      case measure => simp [intOf]; omega
    · have hjn : ¬ (j : Int) < 60 := by omega
      have HN := hideIt (show NewS w wr mem ∧ ∀ k, 1024 ≤ k → k < 1264 → mem.getD k 0 = 255 from ⟨hN, fun k h1 h2 => hv k h1 (by omega)⟩)
      clear hN hv
      go_wp2_with fail
      go_loopw [13] (fun i wr => ∃ j : Nat, j ≤ 16 ∧ i = .int .i64 j ∧ ∃ mem, NewS w wr mem ∧ (∀ k, 1024 ≤ k → k < 1264 → mem.getD k 0 = 255) ∧ ∀ k, k < 64 * j → mem.getD k 0 = 255) (fun i _ => 16 - (intOf i).toNat)
      case atStart => exact ⟨0, by omega, rfl, _, HN.out.1, HN.out.2, fun k h => by omega⟩
      case round =>
        rename_i hrel
        obtain ⟨i, hi, rfl, mem2, hN2, hv2, hv3⟩ := hrel
        clear HN
        by_cases hlt2 : i < 16
        · have hii : (i : Int) < 16 := by omega
          have HN := hideIt (And.intro hN2 (And.intro hv2 hv3))
          clear hN2 hv2 hv3
          go_wp2_with fail
          go_loopw [16] (fun x wr => ∃ j : Nat, j ≤ 64 ∧ x = .int .i64 j ∧ ∃ mem, NewS w wr mem ∧ (∀ k, 1024 ≤ k → k < 1264 → mem.getD k 0 = 255) ∧ ∀ k, k < 64 * i + j → mem.getD k 0 = 255) (fun i _ => 64 - (intOf i).toNat)
          case atStart => exact ⟨0, by omega, rfl, _, HN.out.1, HN.out.2.1, fun k h => HN.out.2.2 k (by omega)⟩
          case round =>
            rename_i hrel
            obtain ⟨z, hz, rfl, mem3, hN3, hv4, hv5⟩ := hrel
            clear HN
            by_cases hlt3 : z < 64
            · have hzi : (z : Int) < 64 := by omega
              obtain ⟨v0, d0⟩ := hN3.cell (i * 64 + z) (by omega)
              have f0 := hN3.fz (i * 64 + z)
              have HN := hideIt (And.intro hN3 (And.intro hv4 hv5))
              clear hN3 hv4 hv5
              go_wp2
              go_roundw
              case rel =>
                have hl := HN.out.1.len
                refine ⟨z + 1, by omega, by go_num, _, HN.out.1.set (i * 64 + z) (by omega), fun k h1 h2 => ?_, fun k h => ?_⟩
                · rw [getD_set _ _ _ _ (by omega), if_neg (by omega)]
                  exact HN.out.2.1 k h1 h2
                · rw [getD_set _ _ _ _ (by omega)]
                  by_cases hk : k = i * 64 + z
                  · rw [if_pos hk]
                  · rw [if_neg hk]; exact HN.out.2.2 k (by omega)
              case measure => simp [intOf]; omega
            · have hzn : ¬ (z : Int) < 64 := by omega
              have HN := hideIt (And.intro hN3 (And.intro hv4 (show ∀ k, k < 64 * (i + 1) → mem3.getD k 0 = 255 from fun k h => hv5 k (by omega))))
              clear hN3 hv4 hv5
              go_wp2
              go_roundw
              case rel => exact ⟨i + 1, by omega, by go_num, _, HN.out⟩
              case measure => simp [intOf]; omega
        · have hin : ¬ (i : Int) < 16 := by omega
          have hall : mem2 = mem0 := by
            have hl := hN2.len
            apply List.ext_getElem?
            intro k
            by_cases hk : k < 1264
            · have h255 : mem2.getD k 0 = 255 := by
                by_cases h1 : k < 1024
                · exact hv3 k (by omega)
                · exact hv2 k (by omega) hk
              rw [List.getD_eq_getElem?_getD, List.getElem?_eq_getElem (by omega)] at h255
              rw [List.getElem?_eq_getElem (by omega)]
              unfold mem0
              rw [List.getElem?_replicate, if_pos hk]
              congr 1
            · rw [List.getElem?_eq_none (by omega), List.getElem?_eq_none (by unfold mem0; rw [List.length_replicate]; omega)]
          subst hall
          have hlm : (byteVs mem0).length = 1264 := by rw [byteVs_len]; exact hN2.len
          have hrg := hN2.at_.range
          have hth : wr.there w.heap.size 0 1264 := hN2.out
          have HB := hideIt hN2.below
          have h1c := byteVs_one mem0
          have HTH := hideIt hth
          have HRG := hideIt hrg
          clear hN2 hv2 hv3 hth hrg
          have hst : (storeCells ⟨w.heap.size, 0, none⟩ (byteVs mem0)).run Try.prog wr = .ok () (wr.setCells w.heap.size 0 (byteVs mem0)) := run_storeCells_cells (P := Try.prog) w.heap.size 0 (byteVs mem0) 0 wr (fun j hj => by have := (HTH.out j (by omega)).1; simpa using this) (fun j hj => by have := (HTH.out j (by omega)).2; simpa using this) h1c
          go_wp2_with (refine wpList_load_mid rfl 83 (.tmp 1) rfl (w.heap.size + 1) 0 rfl (byteVs mem0) _ HRG.out Try.underlying83 rfl (by rw [hlm]; exact Try.infoStore) ?_)
          have hra : (wr.setCells w.heap.size 0 (byteVs mem0)).rangeAt w.heap.size 0 (byteVs mem0) := World.rangeAt_setCells_same wr w.heap.size 0 (byteVs mem0) (by rw [hlm]; exact HTH.out)
          refine bodyPost_ret (results_cell_mid rfl _ _ w.heap.size (byteVs mem0) _ rfl hra Try.underlying83 rfl (by rw [hlm]; exact Try.infoStore)) rfl ?_
          refine ⟨rfl, ?_⟩
          have hset : ∀ (vs : List Value) (o : Nat) (X : World), Below w.heap.size w X → Below w.heap.size w (X.setCells w.heap.size o vs) := by
            intro vs
            induction vs with
            | nil => intro o X h; exact h
            | cons v vs ih => intro o X h; exact ih (o + 1) _ (h.setCell (p := ⟨w.heap.size, o, none⟩) (Nat.le_refl _) _)
          exact hset _ _ _ HB.out
end Go.Proofs.Ythokdbcpkmcieaa
