/- The document's NewBoard. -/
import Derived.Test.YthokdbcpkmcieaaGreatRBoE
import Derived.Test.YthokdbcpkmcieaaGreatBoG
namespace Go.Proofs.YthokdbcpkmcieaaGreat
open Go Go.RowKit
attribute [local go_sem ↓] Go.wp_at_zero Go.wp_at_succ
/-- The cells of a new board behind its two lists. -/
def newL : List Value := [.bool true, .int .i64 (-1), .int .i64 0, .bool false, .string ⟨#[]⟩, .bool false, .string ⟨#[]⟩, .int .i64 0, .string ⟨#[]⟩]
/-- A board that is being made: at the first new block; its two rows so far. -/
structure RNew (w wr : World) (n m : Nat) (v u : Value) : Prop where
  c0 : wr.cell? ⟨w.heap.size, 0, none⟩ = some v
  c1 : wr.cell? ⟨w.heap.size, 1, none⟩ = some u
  cs : ∀ j x, newL[j]? = some x → wr.cell? ⟨w.heap.size, j + 2, none⟩ = some x
  fz : ∀ j, wr.frozen? ⟨w.heap.size, j, none⟩ = false
  r0 : wr.ownsRow (w.heap.size + 1) 5 1 v n (byteVs (List.replicate n 255))
  r1 : wr.ownsRow (w.heap.size + 1) 5 1 u m (byteVs (List.replicate m 255))
  ap : ∀ g, v.ownBlock = some g → u.ownBlock ≠ some g
  below : Below w.heap.size w wr
  lt : w.heap.size < wr.heap.size
theorem byteVs_snoc (n : Nat) : byteVs (List.replicate n 255) ++ [.int .u8 255] = byteVs (List.replicate (n + 1) 255) := by
  rw [List.replicate_succ', byteVs, byteVs, List.map_append]
  rfl
theorem own_set {w : World} {base e : Nat} {size n b j : Nat} {v x : Value} {xs : List Value} (h : w.ownsRow base e size v n xs) (hb : b < base) : (w.setCell ⟨b, j, none⟩ x).ownsRow base e size v n xs :=
  own_atE h (fun k hk => Below.heap_setCell _ _ _ _ (by have := (h.lt k hk).1; simp; omega))
theorem RNew.step0 {w wr wn : World} {n : Nat} {v v' : Value} {o : Obj} (h : RNew w wr n 0 v (.slice none 0 0)) (hown : wn.ownsRow (w.heap.size + 1) 5 1 v' (n + 1) (byteVs (List.replicate n 255) ++ [.int .u8 255])) (hgr : (wr.alloc o).grownBy wn v.ownBlock) :
    wn.cell? ⟨w.heap.size, 0, none⟩ = some v ∧ wn.frozen? ⟨w.heap.size, 0, none⟩ = false ∧ RNew w (wn.setCell ⟨w.heap.size, 0, none⟩ v') (n + 1) 0 v' (.slice none 0 0) := by
  have hlt := h.lt
  have hz : wr.heap.size + 1 ≤ wn.heap.size := by have := hgr.size; simpa using this
  have key : ∀ k, k ≤ w.heap.size → wn.heap[k]? = wr.heap[k]? := fun k hk => by
    rw [hgr.block k (by simp; omega) (fun e => by have := (h.r0.lt k e.symm).1; omega), Below.heap_alloc _ _ _ (by omega)]
  have hc : ∀ j, wn.cell? ⟨w.heap.size, j, none⟩ = wr.cell? ⟨w.heap.size, j, none⟩ := fun j => World.cell?_of_block (a := ⟨w.heap.size, j, none⟩) (key _ (Nat.le_refl _))
  have hf : ∀ j, wn.frozen? ⟨w.heap.size, j, none⟩ = false := fun j => (World.frozen?_of_block (a := ⟨w.heap.size, j, none⟩) (key _ (Nat.le_refl _))).trans (h.fz j)
  refine ⟨(hc 0).trans h.c0, hf 0, ?_⟩
  rw [byteVs_snoc] at hown
  refine ⟨World.cell?_setCell_same _ _ _ ((hc 0).trans h.c0), (World.cell?_setCell_other _ _ _ _ (by simp)).trans ((hc 1).trans h.c1), fun j x hx => (World.cell?_setCell_other _ _ _ _ (by simp)).trans ((hc _).trans (h.cs j x hx)), fun j => by simp [hf j], own_set hown (by omega), World.ownsRow_nil _ _ _ _, fun g _ e => by simp [Value.ownBlock] at e, ?_, by simp [World.setCell]; omega⟩
  exact ⟨hgr.os.trans h.below.os, hgr.tape.trans h.below.tape, hgr.output.trans h.below.output, by simp [World.setCell]; omega, fun k hk => (heap_setCell_other wn ⟨w.heap.size, 0, none⟩ k v' (by simp; omega)).trans ((key k (by omega)).trans (h.below.block k hk))⟩
theorem RNew.step1 {w wr wn : World} {m : Nat} {v u u' : Value} {o : Obj} (h : RNew w wr 1024 m v u) (hown : wn.ownsRow (w.heap.size + 1) 5 1 u' (m + 1) (byteVs (List.replicate m 255) ++ [.int .u8 255])) (hgr : (wr.alloc o).grownBy wn u.ownBlock) (hloc : u'.ownBlock = u.ownBlock ∨ u'.ownBlock = some (wr.alloc o).heap.size) :
    wn.cell? ⟨w.heap.size, 1, none⟩ = some u ∧ wn.frozen? ⟨w.heap.size, 1, none⟩ = false ∧ RNew w (wn.setCell ⟨w.heap.size, 1, none⟩ u') 1024 (m + 1) v u' := by
  have hlt := h.lt
  have hz : wr.heap.size + 1 ≤ wn.heap.size := by have := hgr.size; simpa using this
  have key : ∀ k, k ≤ w.heap.size → wn.heap[k]? = wr.heap[k]? := fun k hk => by
    rw [hgr.block k (by simp; omega) (fun e => by have := (h.r1.lt k e.symm).1; omega), Below.heap_alloc _ _ _ (by omega)]
  have hc : ∀ j, wn.cell? ⟨w.heap.size, j, none⟩ = wr.cell? ⟨w.heap.size, j, none⟩ := fun j => World.cell?_of_block (a := ⟨w.heap.size, j, none⟩) (key _ (Nat.le_refl _))
  have hf : ∀ j, wn.frozen? ⟨w.heap.size, j, none⟩ = false := fun j => (World.frozen?_of_block (a := ⟨w.heap.size, j, none⟩) (key _ (Nat.le_refl _))).trans (h.fz j)
  have hv : wn.ownsRow (w.heap.size + 1) 5 1 v 1024 (byteVs (List.replicate 1024 255)) := own_atE h.r0 (fun k hk => by
    have hkl := (h.r0.lt k hk).2
    rw [hgr.block k (by simp; omega) (fun e => h.ap k hk e.symm), Below.heap_alloc _ _ _ hkl])
  refine ⟨(hc 1).trans h.c1, hf 1, ?_⟩
  rw [byteVs_snoc] at hown
  refine ⟨(World.cell?_setCell_other _ _ _ _ (by simp)).trans ((hc 0).trans h.c0), World.cell?_setCell_same _ _ _ ((hc 1).trans h.c1), fun j x hx => (World.cell?_setCell_other _ _ _ _ (by simp)).trans ((hc _).trans (h.cs j x hx)), fun j => by simp [hf j], own_set hv (by omega), own_set hown (by omega), fun g hg e => ?_, ?_, by simp [World.setCell]; omega⟩
  · rcases hloc with e2 | e2
    · exact h.ap g hg (e2.symm.trans e)
    · rw [e] at e2
      have := (h.r0.lt g hg).2
      simp at e2
      omega
  exact ⟨hgr.os.trans h.below.os, hgr.tape.trans h.below.tape, hgr.output.trans h.below.output, by simp [World.setCell]; omega, fun k hk => (heap_setCell_other wn ⟨w.heap.size, 1, none⟩ k u' (by simp; omega)).trans ((key k (by omega)).trans (h.below.block k hk))⟩
theorem own_frozen {w : World} {base g n cap : Nat} {l : List Value} (h : w.ownsRow base 5 1 (.slice (some ⟨g, 0, none⟩) n cap) n l) (j : Nat) : w.frozen? ⟨g, j, none⟩ = false := by
  obtain ⟨_, ⟨h1, _⟩ | ⟨g', cap', cur, h1, hg, hh, _⟩⟩ := h
  · cases h1
  · cases h1
    simp [World.frozen?, hh]
theorem own_cap {w : World} {base g n cap : Nat} {l : List Value} (h : w.ownsRow base 5 1 (.slice (some ⟨g, 0, none⟩) n cap) n l) : n ≤ cap ∧ cap ≤ 9223372036854775807 := by
  obtain ⟨_, ⟨h1, _⟩ | ⟨g', cap', cur, h1, hg, hh, h3, h4, _⟩⟩ := h
  · cases h1
  · cases h1
    unfold maxLen at h4
    exact ⟨h3, by omega⟩
/-- A new board of the document, its two lists behind it. -/
def RNewIs (w' : World) (rb : Nat) : Prop := ∃ fb jb, rb < fb ∧ rb < jb ∧ RB w' rb fb jb brd0 0
theorem RNew.board {w wr : World} {v u : Value} (h : RNew w wr 1024 240 v u) : RNewIs wr w.heap.size := by
  obtain ⟨fb, c, rfl, h1, h2⟩ := own_some h.r0 (by omega)
  obtain ⟨jb, c', rfl, h3, h4⟩ := own_some h.r1 (by omega)
  have k0 := own_cap h.r0
  have k1 := own_cap h.r1
  have hne : fb ≠ jb := fun e => h.ap fb rfl (by rw [e]; rfl)
  have hmt : mem0.take 1024 = List.replicate 1024 255 := by unfold mem0; rw [List.take_replicate]; rfl
  have hmd : mem0.drop 1024 = List.replicate 240 255 := by unfold mem0; rw [List.drop_replicate]
  refine ⟨fb, jb, by omega, by omega, ⟨⟨⟨false, []⟩, ⟨false, [], 0, []⟩, ⟨⟨⟨c, k0.1, k0.2, h.c0⟩, ⟨c', k1.1, k1.2, h.c1⟩, h.cs 0 _ rfl, h.cs 1 _ rfl, ⟨0, h.cs 2 _ rfl, fun e => by cases e⟩, by rw [show brd0.mem = mem0 from rfl, hmt]; exact own_bytes h.r0, by rw [show brd0.mem = mem0 from rfl, hmd]; exact own_bytes h.r1, mem0_len, by decide, ?_, ⟨h.lt, h2, h4⟩, ⟨by omega, by omega, hne⟩⟩, ⟨h.cs 3 _ rfl, h.cs 4 _ rfl, h.fz, h.lt⟩, h.cs 5 _ rfl, h.cs 6 _ rfl, h.cs 7 _ rfl, h.cs 8 _ rfl, by decide, by decide, by decide⟩, fun _ => ⟨.inl ⟨rfl, rfl⟩, rfl, fun e => by cases e⟩, by simp⟩, tok0 ⟨0, used_0⟩, eok0⟩⟩
  intro b j e
  rcases e with rfl | rfl | rfl
  · exact h.fz j
  · exact own_frozen h.r0 j
  · exact own_frozen h.r1 j
set_option maxRecDepth 100000 in
set_option maxHeartbeats 4000000 in
theorem rnew_any (w : World) : Calls Tryz.prog 8 #[] w fun e w' => e = .returned (.pointer (some ⟨w.heap.size, 0, none⟩)) ∧ RNewIs w' w.heap.size ∧ Below w.heap.size w w' := by
  obtain ⟨i0, hi, hz0, hz1, hz2⟩ := info_of Tryz.infoU8
  go_enter Tryz.func8, Tryz.ntmps8
  go_wp2_with fail
  go_loopw [2] (fun i wr => ∃ (j : Nat) (v : Value), j ≤ 1024 ∧ i = .int .i64 j ∧ RNew w wr j 0 v (.slice none 0 0)) (fun i _ => 1024 - (intOf i).toNat)
  case atStart =>
    refine ⟨0, .slice none 0 0, by omega, rfl, ?_⟩
    have hc : ∀ j x, ([Value.slice none 0 0, Value.slice none 0 0] ++ newL)[j]? = some x → (w.alloc (.cells ([Value.slice none 0 0, Value.slice none 0 0] ++ newL).toArray 80)).cell? ⟨w.heap.size, j, none⟩ = some x := fun j x hx => by
      rw [cell_of_row _ _ j _ _ (0, 0) (heap_alloc_new w _)]
      simpa using hx
    refine ⟨hc 0 _ rfl, hc 1 _ rfl, fun j x hx => hc (j + 2) x (by simpa using hx), fun j => ?_, World.ownsRow_nil _ _ _ _, World.ownsRow_nil _ _ _ _, fun g hg => by simp [Value.ownBlock] at hg, (Below.refl _ _).alloc (Nat.le_refl _) _, by simp⟩
    rw [World.frozen?_alloc_mark w _ 80 0 0 j]
    simp
  case round =>
    obtain ⟨j, v, hj, rfl, hN⟩ := hrel
    have hbl := hN.lt
    by_cases hlt : j < 1024
    · have hji : (j : Int) < 1024 := by omega
      have c0 := hN.c0
      obtain ⟨va, vm, vc, rfl⟩ := slice_ofR hN.r0
      have HN := hideIt hN
      clear hN
      go_wp2_with (at_builtin; refine wpList_append_own_at _ rfl _ _ 24 rfl (w.heap.size + 1) 5 i0 _ 1 1 Tryz.underlying24 hi hz0 hz1 hz2 rfl (by decide) _ j _ rfl (HN.out.r0.alloc _) ⟨wr.heap.size, 0, none⟩ 1 1 [.int .u8 255] rfl rfl (cell_one_new _ _ _) (by intro u hu; simp at hu; subst hu; rfl) (by unfold maxLen; omega) (by omega) (by rw [World.alloc_size]; omega) ?_; intro v' wn hown hgr _ hloc; obtain ⟨a', n', c', rfl⟩ := slice_ofR hown; obtain ⟨d0, f0, hN2⟩ := HN.out.step0 hown hgr; have HN2 := hideIt hN2; have hlw : w.heap.size < wn.heap.size := (by have := hgr.size; simp at this; omega); clear hown hgr hloc hN2 c0)
      go_roundw
      case rel => exact ⟨j + 1, _, by omega, by go_num, HN2.out⟩
      case measure => simp [intOf]; omega
    · have hje : j = 1024 := by omega
      have hjn : ¬ (j : Int) < 1024 := by omega
      rw [hje] at hN
      have HN := hideIt hN
      clear hN hje
      go_wp2_with fail
      go_loopw [3] (fun i wr => ∃ (j : Nat) (u : Value), j ≤ 240 ∧ i = .int .i64 j ∧ RNew w wr 1024 j v u) (fun i _ => 240 - (intOf i).toNat)
      case atStart => exact ⟨0, _, by omega, rfl, HN.out⟩
      case round =>
        clear HN
        obtain ⟨j, u, hj, rfl, hN⟩ := hrel
        have hbl := hN.lt
        by_cases hlt : j < 240
        · have hji : (j : Int) < 240 := by omega
          have c1 := hN.c1
          obtain ⟨va, vm, vc, rfl⟩ := slice_ofR hN.r1
          have HN := hideIt hN
          clear hN
          go_wp2_with (at_builtin; refine wpList_append_own_at _ rfl _ _ 24 rfl (w.heap.size + 1) 5 i0 _ 1 1 Tryz.underlying24 hi hz0 hz1 hz2 rfl (by decide) _ j _ rfl (HN.out.r1.alloc _) ⟨wr.heap.size, 0, none⟩ 1 1 [.int .u8 255] rfl rfl (cell_one_new _ _ _) (by intro u hu; simp at hu; subst hu; rfl) (by unfold maxLen; omega) (by omega) (by rw [World.alloc_size]; omega) ?_; intro v' wn hown hgr _ hloc; obtain ⟨a', n', c', rfl⟩ := slice_ofR hown; obtain ⟨d0, f0, hN2⟩ := HN.out.step1 hown hgr hloc; have HN2 := hideIt hN2; have hlw : w.heap.size < wn.heap.size := (by have := hgr.size; simp at this; omega); clear hown hgr hloc hN2 c1)
          go_roundw
          case rel => exact ⟨j + 1, _, by omega, by go_num, HN2.out⟩
          case measure => simp [intOf]; omega
        · have hje : j = 240 := by omega
          have hjn : ¬ (j : Int) < 240 := by omega
          rw [hje] at hN
          have HN := hideIt hN
          clear hN hje
          go_wp2
          go_ret
          exact ⟨rfl, HN.out.board, HN.out.below⟩
end Go.Proofs.YthokdbcpkmcieaaGreat
