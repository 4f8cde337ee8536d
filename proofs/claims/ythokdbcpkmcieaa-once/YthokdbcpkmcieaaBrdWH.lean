/- The board's power is cut. -/
import Derived.Test.YthokdbcpkmcieaaBrdWG
namespace Go.Proofs.Ythokdbcpkmcieaa
open Go Go.RowKit
def mk8 (m : Int) : UInt8 := UInt8.ofNat (m % 256).toNat
theorem mk8_wrap (m : Int) : IntKind.u8.wrap m = ((mk8 m).toNat : Int) := by
  unfold mk8
  rw [IntKind.wrap_u8, UInt8.toNat_ofNat']
  omega
theorem Try.infoPow : (Try.prog.info? 75).map (·.size) = some 3 := by kernel_rfl
set_option maxRecDepth 100000 in
set_option maxHeartbeats 1000000 in
theorem cutBehind_any (n m : Int) (hn1 : -9223372036854775808 ≤ n) (hn2 : n ≤ 9223372036854775807) (w : World) : Calls Try.prog 48 #[.int .i64 n, .int .i64 m] w fun e w' => e = .returned (.agg #[.bool true, .int .i64 (n.toNat : Int), .int .u8 ((mk8 m).toNat : Int)]) ∧ Below w.heap.size w w' := by
  have hw := mk8_wrap m
  obtain ⟨k, hk⟩ : ∃ k, (mk8 m).toNat = k := ⟨_, rfl⟩
  rw [hk] at hw ⊢
  by_cases h : n < 0
  · have e : ((n.toNat : Nat) : Int) = 0 := by omega
    rw [e]
    go_enter Try.func48, Try.ntmps48
    go_wp2
    refine bodyPost_ret (results_cell_row rfl _ _ w.heap.size 75 _ (0, 0) _ rfl (heap_alloc_new w _) Try.underlying75 rfl Try.infoPow) rfl ?_
    exact ⟨rfl, (Below.refl _ _).alloc (Nat.le_refl _) _⟩
  · have e : ((n.toNat : Nat) : Int) = n := by omega
    rw [e]
    go_enter Try.func48, Try.ntmps48
    go_wp2
    refine bodyPost_ret (results_cell_row rfl _ _ w.heap.size 75 _ (0, 0) _ rfl (heap_alloc_new w _) Try.underlying75 rfl Try.infoPow) rfl ?_
    exact ⟨rfl, (Below.refl _ _).alloc (Nat.le_refl _) _⟩
theorem StoAt.setPow {w : World} {bb : Nat} {p : Pow} {mem : List UInt8} (h : StoAt w bb p mem) (n : Nat) (hn : n ≤ 9223372036854775807) (m : UInt8) : StoAt (((w.setCell ⟨bb, 1, none⟩ (.bool true)).setCell ⟨bb, 2, none⟩ (.int .i64 (n : Int))).setCell ⟨bb, 3, none⟩ (.int .u8 (m.toNat : Int))) bb ⟨true, n, m⟩ mem := by
  have ho : ∀ j, 4 ≤ j → (((w.setCell ⟨bb, 1, none⟩ (.bool true)).setCell ⟨bb, 2, none⟩ (.int .i64 (n : Int))).setCell ⟨bb, 3, none⟩ (.int .u8 (m.toNat : Int))).cell? ⟨bb, j, none⟩ = w.cell? ⟨bb, j, none⟩ := fun j hj => by
    rw [World.cell?_setCell_other _ _ _ _ (by simp <;> omega), World.cell?_setCell_other _ _ _ _ (by simp <;> omega), World.cell?_setCell_other _ _ _ _ (by simp <;> omega)]
  refine ⟨?_, ?_, ?_, fun k hk => (ho _ (by omega)).trans (h.cm k hk), h.len, hn, fun j => by simp [h.fz j], by simpa [World.setCell] using h.lt⟩
  · rw [World.cell?_setCell_other _ _ _ _ (by simp), World.cell?_setCell_other _ _ _ _ (by simp)]
    exact World.cell?_setCell_same _ _ _ h.c1
  · rw [World.cell?_setCell_other _ _ _ _ (by simp)]
    exact World.cell?_setCell_same _ _ _ ((World.cell?_setCell_other _ _ _ _ (by simp)).trans h.c2)
  · exact World.cell?_setCell_same _ _ _ (((World.cell?_setCell_other _ _ _ _ (by simp)).trans (World.cell?_setCell_other _ _ _ _ (by simp))).trans h.c3)
set_option maxRecDepth 100000 in
set_option maxHeartbeats 1000000 in
theorem cut_any (bb : Nat) (b : Brd) (n m : Int) (hn1 : -9223372036854775808 ≤ n) (hn2 : n ≤ 9223372036854775807) (w : World) (h : BrdAt w bb b) : Calls Try.prog 37 #[.pointer (some ⟨bb, 0, none⟩), .int .i64 n, .int .i64 m] w fun e w' => e = .returned (.tuple #[]) ∧ BrdAt w' bb (cutF b n (mk8 m)) ∧ w.grownBy w' (some bb) := by
  have c0 := h.c0
  by_cases ho : b.on = true
  · have e : cutF b n (mk8 m) = ⟨true, ⟨true, n.toNat, mk8 m⟩, b.mem, b.ear, b.talk⟩ := by unfold cutF; rw [if_pos ho]
    rw [e]
    rw [ho] at c0
    have HC := hideIt (cutBehind_any n m hn1 hn2 w)
    have HH : Hid (∀ w1, Below w.heap.size w w1 → BrdAt (((w1.setCell ⟨bb, 1, none⟩ (.bool true)).setCell ⟨bb, 2, none⟩ (.int .i64 (n.toNat : Int))).setCell ⟨bb, 3, none⟩ (.int .u8 ((mk8 m).toNat : Int))) bb ⟨true, ⟨true, n.toNat, mk8 m⟩, b.mem, b.ear, b.talk⟩) := by
      intro w1 hb
      have h1 := h.below hb
      have hs := h1.sto.setPow n.toNat (by omega) (mk8 m)
      have hoth : ∀ j, j = 0 ∨ 4 ≤ j → (((w1.setCell ⟨bb, 1, none⟩ (.bool true)).setCell ⟨bb, 2, none⟩ (.int .i64 (n.toNat : Int))).setCell ⟨bb, 3, none⟩ (.int .u8 ((mk8 m).toNat : Int))).cell? ⟨bb, j, none⟩ = w1.cell? ⟨bb, j, none⟩ := fun j hj => by
        rw [World.cell?_setCell_other _ _ _ _ (by simp <;> omega), World.cell?_setCell_other _ _ _ _ (by simp <;> omega), World.cell?_setCell_other _ _ _ _ (by simp <;> omega)]
      refine ⟨?_, hs, h1.ear.same (fun j h1 h2 => hoth j (by omega)) (fun j => by simp) (by simp [World.setCell]), h1.talk.same (fun j h1 h2 => hoth j (by omega)) (fun j => by simp), h1.used, h1.ses, h1.al⟩
      rw [hoth 0 (.inl rfl), h1.c0, ho]
    have hk : ∀ w1, Below w.heap.size w w1 → BrdAt w1 bb b := fun w1 hb => h.below hb
    have HK := hideIt hk
    obtain ⟨nn, hnn⟩ : ∃ nn : Nat, n.toNat = nn := ⟨_, rfl⟩
    obtain ⟨mm, hmm⟩ : ∃ mm : Nat, (mk8 m).toNat = mm := ⟨_, rfl⟩
    obtain ⟨R, hR⟩ : ∃ R : Brd, (⟨true, ⟨true, n.toNat, mk8 m⟩, b.mem, b.ear, b.talk⟩ : Brd) = R := ⟨_, rfl⟩
    rw [hR] at HH ⊢
    rw [hnn, hmm] at HC HH
    clear h e hnn hmm hR hk
    go_enter Try.func37, Try.ntmps37
    go_wp2_with fail
    refine HC.out.mono ?_
    rintro e w1 ⟨rfl, hb1⟩
    have k1 := (HK.out w1 hb1).sto.c1
    have k2 := (HK.out w1 hb1).sto.c2
    have k3 := (HK.out w1 hb1).sto.c3
    have f1 := (HK.out w1 hb1).sto.fz 1
    have f2 := (HK.out w1 hb1).sto.fz 2
    have f3 := (HK.out w1 hb1).sto.fz 3
    have HB := hideIt hb1
    clear hb1 HC
    go_wp2
    go_end0
    refine ⟨rfl, HH.out w1 HB.out, ?_⟩
    exact (World.grownBy.trans ⟨HB.out.os, HB.out.tape, HB.out.output, HB.out.size, fun k hk _ => HB.out.block k hk⟩ (((grown_set _ _ _ _).trans (grown_set _ _ _ _)).trans (grown_set _ _ _ _)))
  · have hof : b.on = false := by simpa using ho
    have e : cutF b n (mk8 m) = b := by unfold cutF; rw [if_neg ho]
    rw [e]
    rw [hof] at c0
    have HH := hideIt h
    clear h e
    go_enter Try.func37, Try.ntmps37
    go_wp2
    go_end0
    exact ⟨rfl, HH.out, grown_refl _ _⟩
end Go.Proofs.Ythokdbcpkmcieaa
