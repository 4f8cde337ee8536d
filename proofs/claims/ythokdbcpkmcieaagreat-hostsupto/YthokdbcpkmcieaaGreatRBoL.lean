/- The law plays, on boards alone. -/
import Derived.Test.YthokdbcpkmcieaaGreatBoL
namespace Go.Proofs.YthokdbcpkmcieaaGreat
open Go Go.RowKit
attribute [local go_sem ↓] Go.wp_at_zero Go.wp_at_succ
/-- An act of a script. -/
structure ActD where
  K : Int
  B : Int
  H : Int
  A : Int
  C : Int
  S : ByteArray
def ActsAt (w : World) (a : Option Addr) (l : List ActD) : Prop := ∀ i (h : i < l.length), ∃ sb off, a = some ⟨sb, off, none⟩ ∧ sb < w.heap.size ∧ w.cell? ⟨sb, off + i * 6, none⟩ = some (.int .i64 l[i].K) ∧ w.cell? ⟨sb, off + i * 6 + 1, none⟩ = some (.int .i64 l[i].B) ∧ w.cell? ⟨sb, off + i * 6 + 2, none⟩ = some (.int .i64 l[i].H) ∧ w.cell? ⟨sb, off + i * 6 + 3, none⟩ = some (.int .i64 l[i].A) ∧ w.cell? ⟨sb, off + i * 6 + 4, none⟩ = some (.int .i64 l[i].C) ∧ w.cell? ⟨sb, off + i * 6 + 5, none⟩ = some (.string l[i].S) ∧ (-9223372036854775808 ≤ l[i].B ∧ l[i].B ≤ 9223372036854775807) ∧ (-9223372036854775808 ≤ l[i].A ∧ l[i].A ≤ 9223372036854775807)
def sumAct : List ActD → Nat
  | [] => 0
  | x :: l => x.S.size + sumAct l
theorem sumAct_append : ∀ (a b : List ActD), sumAct (a ++ b) = sumAct a + sumAct b
  | [], b => by simp [sumAct]
  | x :: a, b => by
    rw [List.cons_append, sumAct, sumAct, sumAct_append a b]
    omega
theorem sumAct_take (l : List ActD) (k : Nat) (h : k < l.length) : sumAct (l.take (k + 1)) = sumAct (l.take k) + l[k].S.size := by
  rw [List.take_add_one, List.getElem?_eq_getElem h, sumAct_append]
  simp [sumAct]
theorem sumAct_le (l : List ActD) (k : Nat) : sumAct (l.take k) ≤ sumAct l := by
  have h := sumAct_append (l.take k) (l.drop k)
  rw [List.take_append_drop] at h
  omega
theorem below_rowB {w w' : World} {base : Nat} {e : TypeId} {size n : Nat} {v : Value} {xs : List Value} (h : w.ownsRow base e size v n xs) (hb : Below w.heap.size w w') : w'.ownsRow base e size v n xs :=
  own_atE h (fun j hj => hb.block j (h.lt j hj).2)
theorem lb_head {w3 wn : World} {wb n : Nat} {e : TypeId} {size : Nat} {v : Value} {xs : List Value} {ob : Obj} (h : w3.ownsRow (wb + 1) e size v n xs) (hgr : (w3.alloc ob).grownBy wn v.ownBlock) (hl : wb < w3.heap.size) : wn.heap[wb]? = w3.heap[wb]? := by
  rw [hgr.block wb (by simp; omega) (fun e => by have := (h.lt wb e.symm).1; omega), Below.heap_alloc _ _ _ hl]
theorem Tryz.infoLB : (Tryz.prog.info? 42).map (fun i => (i.zero, i.size, i.bytes)) = some (some (.agg #[.pointer none, .pointer none, .slice none 0 0]), 3, 40) := by kernel_rfl
set_option maxRecDepth 100000 in
set_option maxHeartbeats 8000000 in
theorem plays_any (a : Option Addr) (cap : Nat) (l : List ActD) (w : World) (hl : ActsAt w a l) (hn : l.length ≤ 1048576) (hs : sumAct l ≤ 1048576) :
    Calls Tryz.prog 5 #[.agg #[.slice none 0 0, .slice none 0 0, .slice none 0 0], .slice a l.length cap, .int .i64 1, .int .i64 7] w fun e w' => e = .returned (.bool true) ∧ Below w.heap.size w w' := by
  obtain ⟨i0, hi, hz0, hz1, hz2⟩ := info_of Tryz.infoLB
  have hent : ∀ args w, (callFunc 8 args).run Tryz.prog w = .ok (.enter 8 args) w := enters_of Tryz.func8 (by kernel_rfl) rfl
  have HL := hideIt hl
  have HSM := hideIt hs
  clear hl hs
  go_enter Tryz.func5, Tryz.ntmps5
  go_wp2_with fail
  refine (copied_nil _).mono ?_
  rintro e w1 ⟨rfl, hB1⟩
  have HB1 := hideIt (show Below w.heap.size w w1 from ((Below.refl _ _).alloc (Nat.le_refl _) _).trans (hB1.mono (by simp)))
  clear hB1
  go_wp2_with fail
  go_loopw [10] (fun i wr => ∃ (j : Nat) (os : List Bo) (v : Value), j ≤ 2 ∧ i = .int .i64 j ∧ os.length = j ∧ LB w wr w1.heap.size os v) (fun i _ => 2 - (intOf i).toNat)
  case atStart =>
    refine ⟨0, [], .slice none 0 0, by omega, rfl, rfl, ?_⟩
    have hh := heap_alloc_new w1 (.cells #[.slice none 0 0, .slice none 0 0, .slice none 0 0, .slice none 0 0, .slice none 0 0] 35)
    refine ⟨by rw [cell_of_row _ _ _ _ _ (0, 0) hh]; rfl, by rw [cell_of_row _ _ _ _ _ (0, 0) hh]; rfl, frozen_of_row _ _ _ _ _ hh, World.ownsRow_nil _ _ _ _, fun o ho => by simp at ho, fun o ho => by simp at ho, List.Pairwise.nil, HB1.out.alloc HB1.out.size _, HB1.out.size⟩
  case round =>
    obtain ⟨j, os, v, hj, rfl, hos, hLB⟩ := hrel
    have hwl : w1.heap.size < wr.heap.size := World.block_lt_of_cell? _ _ hLB.c3
    by_cases hlt : j < 2
    · have hji : (j : Int) < 2 := by omega
      obtain ⟨va, vm, vc, rfl⟩ := slice_ofR hLB.row
      have HN := hideIt (newBoard_any wr)
      have HLB := hideIt hLB
      have hosl : os.length ≤ 2 := by omega
      have HOS := hideIt hos
      clear hLB hos
      go_wp2_with fail
      refine HN.out.mono ?_
      rintro e w2 ⟨bb, rfl, hbb, hb2, hB2⟩
      have hw2 : w1.heap.size < w2.heap.size := Nat.lt_of_lt_of_le hwl hB2.size
      have d3 : w2.cell? ⟨w1.heap.size, 3, none⟩ = some (.slice va vm vc) := (World.cell?_of_block (a := ⟨w1.heap.size, 3, none⟩) (hB2.block _ hwl)).trans HLB.out.c3
      have hrow2 := own_atE (w' := w2) HLB.out.row (fun g hg => hB2.block g (HLB.out.row.lt g hg).2)
      have HB2 := hideIt (And.intro hbb (And.intro hb2 (And.intro hB2 hrow2)))
      have HF2 := hideIt ((World.frozen?_of_block (a := ⟨w1.heap.size, 3, none⟩) (hB2.block _ hwl)).trans HLB.out.fz)
      have HRN : Hid (Calls Tryz.prog 8 #[] w2.drew fun e w' => ∃ v, e = .returned v ∧ (v = .pointer (some ⟨w2.heap.size, 0, none⟩) ∧ RNewIs w' w2.heap.size ∧ Below w2.heap.size w2 w')) := (rnew_any w2.drew).mono fun e w' ⟨h1, h2, h3⟩ => ⟨_, h1, rfl, h2, ⟨h3.os, h3.tape, h3.output, h3.size, h3.block⟩⟩
      clear hbb hb2 hB2 hrow2 HN
      go_wp2_with fail
      go_region_law (first | (refine step_returns 8 #[] rfl (by simp [go_sem, hent]) _ _ HRN.out (fun e w' hh => hh) ?_; rintro xv w3 ⟨rfl, hr3, hB3⟩; have d3' := (World.cell?_of_block (a := ⟨w1.heap.size, 3, none⟩) (hB3.block _ hw2)).trans d3; have f3' := (World.frozen?_of_block (a := ⟨w1.heap.size, 3, none⟩) (hB3.block _ hw2)).trans HF2.out; have l3 : w1.heap.size < w3.heap.size := Nat.lt_of_lt_of_le hw2 hB3.size) | (refine step_append_own rfl (.tmp 39) (.tmp 43) 32 rfl (w1.heap.size + 1) 42 i0 _ 3 40 Tryz.underlying32 hi hz0 hz1 hz2 rfl (by decide) (.slice va vm vc) os.length (os.flatMap boCells) (by simp [Act.eval]) (by exact (below_rowB HB2.out.2.2.2 hB3).alloc _) ⟨w3.heap.size, 0, none⟩ 1 1 [.pointer (some ⟨bb, 0, none⟩), .pointer (some ⟨w2.heap.size, 0, none⟩), .slice none 0 0] (by simp [Act.eval]) rfl (cells_new _ _ _) (by intro u hu; simp at hu; rcases hu with rfl | rfl | rfl <;> rfl) (by unfold maxLen; omega) (by omega) (by simp; omega) ?_; intro v' wn hown hgr hloc; obtain ⟨va', vn', vc', rfl⟩ := slice_ofR hown; have hbk := lb_head (below_rowB HB2.out.2.2.2 hB3) hgr l3; have q3 := (World.cell?_of_block (a := ⟨w1.heap.size, 3, none⟩) hbk).trans d3'; have q4 := (World.frozen?_of_block (a := ⟨w1.heap.size, 3, none⟩) hbk).trans f3'; have q5 : w1.heap.size < wn.heap.size := (by have := hgr.size; simp at this; omega)))
      all_goals
        obtain ⟨fb, jb, hfb, hjb, hr3⟩ := hr3
        have hst := HLB.out.step HB2.out.1 HB2.out.2.1 HB2.out.2.2.1 hfb hjb hr3 hB3 hown hgr hloc
        have HST := hideIt hst
        clear hst hown hgr hloc hfb hjb hr3 hB3 d3' f3' d3 hbk
        go_wp2
        go_roundw
        case rel => exact ⟨j + 1, _, _, by omega, by go_num, by simp [HOS.out], HST.out⟩
        case measure => simp [intOf]; omega
    · have hjn : ¬ (j : Int) < 2 := by omega
      obtain ⟨gb, gcap, o0, o1, rfl, hLW⟩ := hLB.whole (by omega)
      have HLW := hideIt hLW
      clear hLB hLW hos
      go_wp2_with fail
      refine (opens_any _).mono ?_
      rintro e w2 ⟨rfl, hB2⟩
      have HLW2 := hideIt (HLW.out.grow hB2)
      clear hB2 HLW
      go_wp2_with fail
      go_loopw [12, 16] (fun o i wr => ∃ (j : Nat), j ≤ l.length ∧ i = .int .i64 j ∧ o = .bool true ∧ LW w wr w1.heap.size gb gcap o0 o1 (sumAct (l.take j))) (fun _ i _ => l.length - (intOf i).toNat)
      case atStart => exact ⟨0, Nat.zero_le _, rfl, rfl, HLW2.out⟩
      case round =>
        clear HLW2
        obtain ⟨j, hj, rfl, rfl, hLW⟩ := hrel
        have hwl2 : w1.heap.size < wr.heap.size := World.block_lt_of_cell? _ _ hLW.c4
        by_cases hlj : j < l.length
        · have hji : (j : Int) < (l.length : Int) := by omega
          obtain ⟨sb, off, rfl, hsb, k0, k1, k2, k3, k4, k5, hBb, hAb⟩ := HL.out j hlj
          have hsm := sumAct_take l j hlj
          have hsl := sumAct_le l (j + 1)
          have hst := HSM.out
          have e := hLW.below.block sb hsb
          replace k0 := (World.cell?_of_block (a := ⟨sb, off + j * 6, none⟩) e).trans k0
          replace k1 := (World.cell?_of_block (a := ⟨sb, off + j * 6 + 1, none⟩) e).trans k1
          replace k2 := (World.cell?_of_block (a := ⟨sb, off + j * 6 + 2, none⟩) e).trans k2
          replace k3 := (World.cell?_of_block (a := ⟨sb, off + j * 6 + 3, none⟩) e).trans k3
          replace k4 := (World.cell?_of_block (a := ⟨sb, off + j * 6 + 4, none⟩) e).trans k4
          replace k5 := (World.cell?_of_block (a := ⟨sb, off + j * 6 + 5, none⟩) e).trans k5
          obtain ⟨x, hx⟩ : ∃ x, l[j] = x := ⟨_, rfl⟩
          rw [hx] at k0 k1 k2 k3 k4 k5 hBb hAb hsm
          obtain ⟨K, B, H, A, C, S⟩ := x
          simp only at k0 k1 k2 k3 k4 k5 hBb hAb hsm
          obtain ⟨hB1', hB2'⟩ := hBb
          obtain ⟨W, hW, hBW, hzW, m0, m3, m4, m5⟩ := act_cells wr K B H A C S
          have m1 : W.cell? ⟨wr.heap.size, 1, none⟩ = some (.int .i64 B) := by rw [← hW, cell_of_row _ _ _ _ _ (0, 0) (heap_alloc_new wr _)]; rfl
          have m2 : W.cell? ⟨wr.heap.size, 2, none⟩ = some (.int .i64 H) := by rw [← hW, cell_of_row _ _ _ _ _ (0, 0) (heap_alloc_new wr _)]; rfl
          have HLW := hideIt (hLW.grow hBW)
          have HSU := hideIt (And.intro hsm (And.intro hsl hst))
          have HAB := hideIt hAb
          clear hLW e hx hsm hsl hst hBW hAb
          by_cases hK : 1 ≤ K ∧ K ≤ 7
          · obtain ⟨hK1, hK2⟩ := hK
            have hKl : ¬ K < 1 := by omega
            have hKh : ¬ 7 < K := by omega
            have hK8 : K < 8 := by omega
            have HPK := hideIt (fun w' => lpick_any B 2 hB1' hB2' (by decide) (by decide) w')
            go_wp2_with fail
            refine (HPK.out _).mono ?_
            rintro e w5 ⟨bi, hbi, rfl, rfl⟩
            obtain ⟨bq, hLF⟩ := HLW.out.at bi hbi
            have HBD := hideIt (lboard_any w1.heap.size gb gcap bi (oAt o0 o1 bi) bq (sumAct (l.take j)) K B H A C S HAB.out.1 HAB.out.2 _ hLF (by have := HSU.out; omega) hK1 hK2)
            clear hLF
            go_wp2_with fail
            refine HBD.out.mono ?_
            rintro e w6 ⟨rfl, hp6, hc6⟩
            have HP6 := hideIt (HLW.out.act bi hbi hp6 hc6 (by omega))
            clear hp6 hc6
            go_wp2
            go_roundw
            case rel => exact ⟨j + 1, by omega, by go_num, rfl, by rw [HSU.out.1]; exact HP6.out⟩
            case measure => simp [intOf]; omega
          · have hKc : K < 1 ∨ (¬ K < 1 ∧ 7 < K) := by omega
            rcases hKc with hKc | ⟨hKc, hKd⟩
            all_goals
              go_wp2
              go_roundw
              case rel => exact ⟨j + 1, by omega, by go_num, rfl, by rw [HSU.out.1]; exact HLW.out.le (by omega)⟩
              case measure => simp [intOf]; omega
        · have hji : ¬ (j : Int) < (l.length : Int) := by omega
          have HLW := hideIt hLW
          clear hLW
          obtain ⟨U, hU⟩ : ∃ U, sumAct (l.take j) = U := ⟨_, rfl⟩
          rw [hU] at HLW
          clear hU
          go_wp2_with fail
          go_loopw [12, 19] (fun o i wr => ∃ (j : Nat), j ≤ 2 ∧ i = .int .i64 j ∧ o = .bool true ∧ LW w wr w1.heap.size gb gcap o0 o1 U) (fun _ i _ => 2 - (intOf i).toNat)
          case atStart => exact ⟨0, Nat.zero_le _, rfl, rfl, HLW.out⟩
          case round =>
            clear HLW
            obtain ⟨j, hj, rfl, rfl, hLW⟩ := hrel
            by_cases hlj2 : j < 2
            · have hji2 : (j : Int) < 2 := by omega
              have HLW := hideIt hLW
              have HQ6 : Hid (∀ w', LW w w' w1.heap.size gb gcap o0 o1 U → Calls Tryz.prog 14 #[.pointer (some ⟨w1.heap.size, 0, none⟩), .int .i64 (j : Int), .agg #[.int .i64 6, .int .i64 0, .int .i64 0, .int .i64 0, .int .i64 0, .string ⟨#[]⟩]] w' fun e w'' => e = .returned (.bool true) ∧ LW w w'' w1.heap.size gb gcap o0 o1 U) := fun w' h' => by
                obtain ⟨b, hb⟩ := h'.at j hlj2
                exact (lboard_flash w1.heap.size gb gcap j (oAt o0 o1 j) b U 0 0 0 0 ⟨#[]⟩ w' hb).mono fun e w'' ⟨h1, h2, h3⟩ => ⟨h1, h'.act j hlj2 h2 h3 (Nat.le_refl _)⟩
              have HQ7 : Hid (∀ w', LW w w' w1.heap.size gb gcap o0 o1 U → Calls Tryz.prog 14 #[.pointer (some ⟨w1.heap.size, 0, none⟩), .int .i64 (j : Int), .agg #[.int .i64 7, .int .i64 0, .int .i64 0, .int .i64 0, .int .i64 0, .string ⟨#[]⟩]] w' fun e w'' => e = .returned (.bool true) ∧ LW w w'' w1.heap.size gb gcap o0 o1 U) := fun w' h' => by
                obtain ⟨b, hb⟩ := h'.at j hlj2
                exact (lboard_burnt w1.heap.size gb gcap j (oAt o0 o1 j) b U 0 0 0 0 ⟨#[]⟩ w' hb).mono fun e w'' ⟨h1, h2, h3⟩ => ⟨h1, h'.act j hlj2 h2 h3 (Nat.le_refl _)⟩
              have HQ5 : Hid (∀ w', LW w w' w1.heap.size gb gcap o0 o1 U → Calls Tryz.prog 14 #[.pointer (some ⟨w1.heap.size, 0, none⟩), .int .i64 (j : Int), .agg #[.int .i64 5, .int .i64 0, .int .i64 0, .int .i64 0, .int .i64 0, .string ⟨#[]⟩]] w' fun e w'' => e = .returned (.bool true) ∧ LW w w'' w1.heap.size gb gcap o0 o1 U) := fun w' h' => by
                obtain ⟨b, hb⟩ := h'.at j hlj2
                exact (lboard_on w1.heap.size gb gcap j (oAt o0 o1 j) b U 0 0 0 0 ⟨#[]⟩ w' hb).mono fun e w'' ⟨h1, h2, h3⟩ => ⟨h1, h'.act j hlj2 h2 h3 (Nat.le_refl _)⟩
              clear hLW
              go_wp2_with fail
              refine (HQ6.out _ HLW.out).mono ?_
              rintro e wa ⟨rfl, hla⟩
              have HLA := hideIt hla
              clear hla
              go_wp2_with fail
              refine (HQ7.out _ HLA.out).mono ?_
              rintro e wb ⟨rfl, hlb⟩
              have HLB := hideIt hlb
              clear hlb
              go_wp2_with fail
              refine (HQ5.out _ HLB.out).mono ?_
              rintro e wc ⟨rfl, hlc⟩
              have HLC := hideIt hlc
              clear hlc
              go_wp2
              go_roundw
              case rel => exact ⟨j + 1, by omega, by go_num, rfl, HLC.out⟩
              case measure => simp [intOf]; omega
            · have hji2 : ¬ (j : Int) < 2 := by omega
              have c4 := hLW.c4
              have HLW := hideIt hLW
              clear hLW
              go_wp2_with fail
              refine wp_loop_rounds 1 ?_
              rw [rounds_succ]
              go_wp2
              go_ret
              exact ⟨rfl, HLW.out.below⟩
end Go.Proofs.YthokdbcpkmcieaaGreat
