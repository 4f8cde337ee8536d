/- The law plays, with hosts: an image that is not whole. -/
import Derived.Test.YthokdbcpkmcieaaGreatLHoK
import Derived.Test.YthokdbcpkmcieaaGreatLhD
import Derived.Deep.RegionHeld3
namespace Go.Proofs.YthokdbcpkmcieaaGreat
open Go Go.RowKit
attribute [local go_sem ↓] Go.wp_at_zero Go.wp_at_succ
set_option maxRecDepth 100000 in
set_option maxHeartbeats 16000000 in
theorem plays_bad (v0 v1 v2 : Value) (im : Img) (a : Option Addr) (cap : Nat) (l : List ActD) (w : World) (hI : ImgAt w v0 v1 v2 im) (hf : ImgFew im) (hw : wholeI im = false) (hl : ActsAt w a l) (hH : ∀ i (h : i < l.length), -9223372036854775808 ≤ l[i].H ∧ l[i].H ≤ 9223372036854775807) (hn : l.length ≤ 1048576) (hs : sumAct l ≤ 1048576) :
    Calls Tryz.prog 5 #[.agg #[v0, v1, v2], .slice a l.length cap, .int .i64 1, .int .i64 17] w fun e w' => e = .returned (.bool true) ∧ Below w.heap.size w w' := by
  obtain ⟨i0, hi, hz0, hz1, hz2⟩ := info_of Tryz.infoLB
  have hent : ∀ args w, (callFunc 8 args).run Tryz.prog w = .ok (.enter 8 args) w := enters_of Tryz.func8 (by kernel_rfl) rfl
  obtain ⟨x0, y0, e0⟩ := hI.b.slice
  obtain ⟨x1, y1, e1⟩ := hI.l.slice
  obtain ⟨x2, y2, e2⟩ := hI.s.slice
  obtain ⟨W, hW, hBW, hzW, k0, k1, k2⟩ := img_cells w v0 v1 v2
  have HL := hideIt (hl.below hBW)
  have HHB := hideIt hH
  have HSM := hideIt hs
  have HC := hideIt (copied_any v0 v1 v2 im W (hI.below hBW) hf)
  have HIW := hideIt (hI.below hBW)
  have HBW := hideIt hBW
  have HFE := hideIt hf
  have HWH := hideIt hw
  have HKB : Hid (∀ w' j v, Below W.heap.size W w' → W.cell? ⟨w.heap.size, j, none⟩ = some v → w'.cell? ⟨w.heap.size, j, none⟩ = some v) := fun w' j v hb hc => (World.cell?_of_block (a := ⟨w.heap.size, j, none⟩) (hb.block w.heap.size hzW)).trans hc
  have HWW := hideIt (fun w' (h' : Below W.heap.size W w') => rwh_img v0 v1 v2 im w' ((hI.below hBW).below h') hf)
  have HCC := hideIt (fun w' (h' : Below W.heap.size W w') => copied_any v0 v1 v2 im w' ((hI.below hBW).below h') hf)
  subst e0 e1 e2
  clear hl hs hH hI hBW hf hw
  go_enter Tryz.func5, Tryz.ntmps5
  go_wp2_with fail
  refine HC.out.mono ?_
  rintro e w1 ⟨u0, u1, u2, rfl, hO, hB1⟩
  obtain ⟨t0, s0, f0⟩ := row_slice hO.b
  obtain ⟨t1, s1, f1⟩ := row_slice hO.l
  obtain ⟨t2, s2, f2⟩ := row_slice hO.s
  have HO := hideIt hO
  have HB1 := hideIt hB1
  subst f0 f1 f2
  clear hB1 hO HC
  go_wp2_with fail
  go_loopw [10] (fun i wr => ∃ (j : Nat) (os : List Bo) (v : Value), j ≤ 2 ∧ i = .int .i64 j ∧ os.length = j ∧ LI W wr w1.heap.size os v (.slice t0 im.bytes.length s0) (.slice t1 im.laid.length s1) (.slice t2 im.starts.length s2) im) (fun i _ => 2 - (intOf i).toNat)
  case atStart =>
    refine ⟨0, [], .slice none 0 0, by omega, rfl, rfl, ?_⟩
    exact li_start HO.out HB1.out
  case round =>
    obtain ⟨j, os, v, hj, rfl, hos, hLI⟩ := hrel
    have hwl : w1.heap.size < wr.heap.size := World.block_lt_of_cell? _ _ hLI.lb.c3
    by_cases hlt : j < 2
    · have hji : (j : Int) < 2 := by omega
      obtain ⟨va, vm, vc, rfl⟩ := slice_ofR hLI.lb.row
      have HN := hideIt (newBoard_any wr)
      have HLB := hideIt hLI.lb
      have HLI := hideIt hLI
      have hosl : os.length ≤ 2 := by omega
      have HOS := hideIt hos
      clear hLI hos
      go_wp2_with fail
      refine HN.out.mono ?_
      rintro e w2 ⟨bb, rfl, hbb, hb2, hB2⟩
      have hw2 : w1.heap.size < w2.heap.size := Nat.lt_of_lt_of_le hwl hB2.size
      have d3 : w2.cell? ⟨w1.heap.size, 3, none⟩ = some (.slice va vm vc) := (World.cell?_of_block (a := ⟨w1.heap.size, 3, none⟩) (hB2.block _ hwl)).trans HLB.out.c3
      have hrow2 := own_atE (w' := w2) HLB.out.row (fun g hg => hB2.block g (HLB.out.row.lt g hg).2)
      have HB2 := hideIt (And.intro hbb (And.intro hb2 (And.intro hB2 hrow2)))
      have HF2 := hideIt ((World.frozen?_of_block (a := ⟨w1.heap.size, 3, none⟩) (hB2.block _ hwl)).trans HLB.out.fz)
      have HRN : Hid (Calls Tryz.prog 8 #[] w2.drew fun e w' => ∃ v, e = .returned v ∧ (v = .pointer (some ⟨w2.heap.size, 0, none⟩) ∧ RNewIs w' w2.heap.size ∧ Below w2.heap.size w2 w')) := (rnew_any w2.drew).mono fun e w' ⟨h1, h2, h3⟩ => ⟨_, h1, rfl, h2, ⟨h3.os, h3.tape, h3.output, h3.size, h3.block⟩⟩
      clear hbb hb2 hB2 hrow2 HN
      go_wp2_with fail
      go_region_law (first | (refine step_returns 8 #[] rfl (by simp [go_sem, hent]) _ _ HRN.out (fun e w' hh => hh) ?_; rintro xv w3 ⟨rfl, hr3, hB3⟩; have d3' := (World.cell?_of_block (a := ⟨w1.heap.size, 3, none⟩) (hB3.block _ hw2)).trans d3; have f3' := (World.frozen?_of_block (a := ⟨w1.heap.size, 3, none⟩) (hB3.block _ hw2)).trans HF2.out; have l3 : w1.heap.size < w3.heap.size := Nat.lt_of_lt_of_le hw2 hB3.size) | (refine step_append_own rfl (.tmp 39) (.tmp 43) 32 rfl (w1.heap.size + 1) 42 i0 _ 3 40 Tryz.underlying32 hi hz0 hz1 hz2 rfl (by decide) (.slice va vm vc) os.length (os.flatMap boCells) (by simp [Act.eval]) (by exact (below_rowB HB2.out.2.2.2 hB3).alloc _) ⟨w3.heap.size, 0, none⟩ 1 1 [.pointer (some ⟨bb, 0, none⟩), .pointer (some ⟨w2.heap.size, 0, none⟩), .slice none 0 0] (by simp [Act.eval]) rfl (cells_new _ _ _) (by intro u hu; simp at hu; rcases hu with rfl | rfl | rfl <;> rfl) (by unfold maxLen; omega) (by omega) (by simp; omega) ?_; intro v' wn hown hgr hloc; obtain ⟨va', vn', vc', rfl⟩ := slice_ofR hown; have hbk := lb_head (below_rowB HB2.out.2.2.2 hB3) hgr l3; have q3 := (World.cell?_of_block (a := ⟨w1.heap.size, 3, none⟩) hbk).trans d3'; have q4 := (World.frozen?_of_block (a := ⟨w1.heap.size, 3, none⟩) hbk).trans f3'; have q5 : w1.heap.size < wn.heap.size := (by have := hgr.size; simp at this; omega)))
      all_goals
        obtain ⟨fb, jb, hfb, hjb, hr3⟩ := hr3
        have hst := HLI.out.step HB2.out.1 HB2.out.2.1 HB2.out.2.2.1 hfb hjb hr3 hB3 hown hgr hloc
        have HST := hideIt hst
        clear hst hown hgr hloc hfb hjb hr3 hB3 d3' f3' d3 hbk
        go_wp2
        go_roundw
        case rel => exact ⟨j + 1, _, _, by omega, by go_num, by simp [HOS.out], HST.out⟩
        case measure => simp [intOf]; omega
    · have hjn : ¬ (j : Int) < 2 := by omega
      obtain ⟨gb, gcap, o, col0, rfl, hHW⟩ := hLI.whole (by omega)
      have HHW := hideIt hHW
      clear hLI hHW hos
      go_wp2_with fail
      refine (opens_any _).mono ?_
      rintro e w2 ⟨rfl, hB2⟩
      have HBG := hideIt (begins_any 7 (HHW.out.grow hB2) HFE.out)
      clear hB2 HHW
      go_wp2_with fail
      refine HBG.out.mono ?_
      rintro e w3 ⟨rfl, n, hst⟩
      have hB3 := hst.below
      have HST := hideIt hst
      have HB3 := hideIt hB3
      have p0 := HKB.out w3 0 _ hB3 k0
      have p1 := HKB.out w3 1 _ hB3 k1
      have p2 := HKB.out w3 2 _ hB3 k2
      clear hst hB3 HBG
      go_wp2_with fail
      refine (HWW.out w3 HB3.out).mono ?_
      rintro e w4 ⟨rfl, hB4⟩
      have HST4 := hideIt (HST.out.grow hB4)
      clear HST
      rw [HWH.out]
      have HSTS := hideIt HST4.out
      clear hB4 HST4 p0 p1 p2
      go_wp2_with fail
      go_loopw [12, 16] (fun ok i wr => ∃ (j : Nat), j ≤ l.length ∧ i = .int .i64 j ∧ ok = .bool true ∧ ∃ n, HSt W wr w1.heap.size gb gcap o n (.slice t0 im.bytes.length s0) (.slice t1 im.laid.length s1) (.slice t2 im.starts.length s2) im (sumAct (l.take j) + j * 2412000)) (fun _ i _ => l.length - (intOf i).toNat)
      case atStart => exact ⟨0, Nat.zero_le _, rfl, rfl, n, HSTS.out⟩
      case round =>
        clear HSTS
        obtain ⟨j, hj, rfl, rfl, n, col, bv, hs, hv, rfl, hHW⟩ := hrel
        have hwl2 : w1.heap.size < wr.heap.size := World.block_lt_of_cell? _ _ hHW.c3
        by_cases hlj : j < l.length
        · have hji : (j : Int) < (l.length : Int) := by omega
          obtain ⟨sb, off, rfl, hsb, k0, k1, k2, k3, k4, k5, hBb, hAb⟩ := HL.out j hlj
          have hHb := HHB.out j hlj
          have hsm := sumAct_take l j hlj
          have hsl := sumAct_le l (j + 1)
          have hst := HSM.out
          have e := hHW.below.block sb hsb
          replace k0 := (World.cell?_of_block (a := ⟨sb, off + j * 6, none⟩) e).trans k0
          replace k1 := (World.cell?_of_block (a := ⟨sb, off + j * 6 + 1, none⟩) e).trans k1
          replace k2 := (World.cell?_of_block (a := ⟨sb, off + j * 6 + 2, none⟩) e).trans k2
          replace k3 := (World.cell?_of_block (a := ⟨sb, off + j * 6 + 3, none⟩) e).trans k3
          replace k4 := (World.cell?_of_block (a := ⟨sb, off + j * 6 + 4, none⟩) e).trans k4
          replace k5 := (World.cell?_of_block (a := ⟨sb, off + j * 6 + 5, none⟩) e).trans k5
          obtain ⟨x, hx⟩ : ∃ x, l[j] = x := ⟨_, rfl⟩
          rw [hx] at k0 k1 k2 k3 k4 k5 hBb hAb hsm hHb
          obtain ⟨K, B, H, A, C, S⟩ := x
          simp only at k0 k1 k2 k3 k4 k5 hBb hAb hsm hHb
          obtain ⟨hB1', hB2'⟩ := hBb
          obtain ⟨V, hV, hBV, hzV, m0, m3, m4, m5⟩ := act_cells wr K B H A C S
          have m1 : V.cell? ⟨wr.heap.size, 1, none⟩ = some (.int .i64 B) := by rw [← hV, cell_of_row _ _ _ _ _ (0, 0) (heap_alloc_new wr _)]; rfl
          have m2 : V.cell? ⟨wr.heap.size, 2, none⟩ = some (.int .i64 H) := by rw [← hV, cell_of_row _ _ _ _ _ (0, 0) (heap_alloc_new wr _)]; rfl
          have HHV := hideIt (hHW.grow hBV)
          have hjm : j ≤ 1048576 := by omega
          have HSU : Hid (sumAct (List.take (j + 1) l) + (j + 1) * 2412000 = sumAct (l.take j) + j * 2412000 + S.size + 2412000 ∧ sumAct (l.take j) + j * 2412000 ≤ 3000000000000 ∧ S.size ≤ 2000000) := by
            refine ⟨?_, ?_, ?_⟩ <;> omega
          have HAB := hideIt hAb
          have HHBD := hideIt hHb
          obtain ⟨va, vc, ev⟩ := row_slice hHW.row
          have d4 := (hHW.grow hBV).c4
          rw [ev] at d4
          clear hHW e hx hsm hsl hst hBV hAb hHb ev
          by_cases hK : 1 ≤ K ∧ K ≤ 17
          · obtain ⟨hK1, hK2⟩ := hK
            have hKl : ¬ K < 1 := by omega
            have hKh : ¬ 17 < K := by omega
            have HPK := hideIt (fun w' => lpick_any B 2 hB1' hB2' (by decide) (by decide) w')
            by_cases hK8 : K < 8
            · go_wp2_with fail
              refine (HPK.out _).mono ?_
              rintro e w5 ⟨bi, hbi, rfl, rfl⟩
              obtain ⟨bq, hLF⟩ := HHV.out.board bi hbi
              have HBD := hideIt (lboard_any w1.heap.size gb gcap bi (o bi) bq (sumAct (l.take j) + j * 2412000) K B H A C S HAB.out.1 HAB.out.2 _ hLF HSU.out.2 hK1 (by omega))
              clear hLF
              go_wp2_with fail
              refine HBD.out.mono ?_
              rintro e w6 ⟨rfl, hp6, hc6⟩
              have HP6 := hideIt ((HHV.out.actB bi hbi hp6 hc6 (by omega)).le (v := sumAct (List.take (j + 1) l) + (j + 1) * 2412000) (by rw [HSU.out.1]; omega))
              clear hp6 hc6
              go_wp2
              go_roundw
              case rel => exact ⟨j + 1, by omega, by go_num, rfl, _, _, _, _, _, rfl, HP6.out⟩
              case measure => simp [intOf]; omega
            · by_cases hK9 : K = 8
              · subst hK9
                have HBG := hideIt (begins_any A HHV.out HFE.out)
                go_wp2_with fail
                refine (HPK.out _).mono ?_
                rintro e w5 ⟨bi, hbi, rfl, rfl⟩
                go_wp2_with fail
                refine HBG.out.mono ?_
                rintro e w6 ⟨rfl, n', hst⟩
                have HP6 := hideIt (hst.le (v := sumAct (List.take (j + 1) l) + (j + 1) * 2412000) (by rw [HSU.out.1]; omega))
                clear hst
                go_wp2
                go_roundw
                case rel => exact ⟨j + 1, by omega, by go_num, rfl, n', HP6.out⟩
                case measure => simp [intOf]; omega
              · have hK9' : 9 ≤ K := by omega
                by_cases hz : 0 < hs.length
                · have hzi : (0 : Int) < (hs.length : Int) := by omega
                  have hf4 : hs.length ≤ 4 := HHV.out.few
                  have HPH : Hid (∀ W', Calls Tryz.prog 13 #[.int .i64 H, .int .i64 (hs.length : Int)] W' fun e w' => ∃ k : Nat, k < hs.length ∧ e = .returned (.int .i64 (k : Int)) ∧ w' = W') := fun W' => lpick_any H hs.length HHBD.out.1 HHBD.out.2 hz (by omega) W'
                  have HHS := hideIt (host_all HHV.out K B H A C S HSU.out.2.1 HSU.out.2.2 HAB.out.1 HAB.out.2 hK9' hK2)
                  go_wp2_with fail
                  refine (HPK.out _).mono ?_
                  rintro e w5 ⟨bi, hbi, rfl, rfl⟩
                  go_wp2_with fail
                  refine wp_region_noPanic ?_
                  refine wp_region_held_drew (S := fun _ => True) (by kernel_rfl) trivial (fun _ => ?_)
                  refine wpAnyH_take (i := 0) (v := ?v1) rfl (by kernel_rfl) (by kernel_rfl) (by kernel_rfl) (fun _ _ _ h => h) (Or.inl ⟨by rfl, ?hy1⟩) trivial ?rest1
                  case hy1 => (intro w hSw; go_simp; try with_reducible rfl)
                  simp only [Act.put]
                  refine wpAnyH_take (i := 1) (v := ?v2) rfl (by kernel_rfl) (by kernel_rfl) (by kernel_rfl) (fun _ _ _ h => h) (Or.inl ⟨by rfl, ?hy2⟩) trivial ?rest2
                  case hy2 => (intro w hSw; go_simp; try with_reducible rfl)
                  simp only [Act.put]
                  refine wpAnyH_take (i := 2) (v := ?v3) rfl (by kernel_rfl) (by kernel_rfl) (by kernel_rfl) (fun _ _ _ h => h) (Or.inl ⟨by rfl, ?hy3⟩) trivial ?rest3
                  case hy3 => (intro w hSw; go_simp; try with_reducible rfl)
                  simp only [Act.put]
                  refine wpAnyH_take (i := 4) (v := ?v4) rfl (by kernel_rfl) (by kernel_rfl) (by kernel_rfl) (fun _ _ _ h => h) (Or.inl ⟨by rfl, ?hy4⟩) trivial ?rest4
                  case hy4 => (intro w hSw; go_simp; try with_reducible rfl)
                  simp only [Act.put]
                  refine wpAnyH_take (i := 5) (v := ?v5) rfl (by kernel_rfl) (by kernel_rfl) (by kernel_rfl) (fun _ _ _ h => h) (Or.inl ⟨by rfl, ?hy5⟩) trivial ?rest5
                  case hy5 => (intro w hSw; go_simp; try with_reducible rfl)
                  simp only [Act.put]
                  refine wpAnyH_take (i := 6) (v := ?v6) rfl (by kernel_rfl) (by kernel_rfl) (by kernel_rfl) (fun _ _ _ h => h) (Or.inl ⟨by rfl, ?hy6⟩) trivial ?rest6
                  case hy6 => (intro w hSw; go_simp; try with_reducible rfl)
                  simp only [Act.put]
                  refine wpAnyH_ready (rs := [3, 7, 10]) (by kernel_rfl) (by simp) (AllReadyH.cons rfl (fun K hK => ?_) (AllReadyH.cons rfl (fun K hK => ?_) (AllReadyH.cons rfl (fun K hK => ?_) AllReadyH.nil)))
                  · go_simp
                    refine hK.out _ _ trivial (fun _ => ?_)
                    clear hK K
                    refine wpAnyH_ready (rs := [7, 10]) (by kernel_rfl) (by simp) (AllReadyH.cons rfl (fun K hK => ?_) (AllReadyH.cons rfl (fun K hK => ?_) AllReadyH.nil))
                    · go_simp
                      refine hK.out _ _ trivial (fun _ => ?_)
                      clear hK K
                      refine wpAnyH_take (i := 8) (v := ?v7) rfl (by kernel_rfl) (by kernel_rfl) (by kernel_rfl) (fun _ _ _ h => h) (Or.inl ⟨by rfl, ?hy7⟩) trivial ?rest7
                      case hy7 => (intro w hSw; go_simp; try with_reducible rfl)
                      simp only [Act.put]
                      refine wpAnyH_ready (rs := [9, 10]) (by kernel_rfl) (by simp) (AllReadyH.cons rfl (fun K hK => ?_) (AllReadyH.cons rfl (fun K hK => ?_) AllReadyH.nil))
                      · go_simp
                        refine (HPH.out _).mono ?_
                        rintro e w6 ⟨k, hk, rfl, rfl⟩
                        dsimp only
                        refine hK.out _ _ trivial (fun _ => ?_)
                        clear hK K
                        refine wpAnyH_ready (rs := [10]) (by kernel_rfl) (by simp) (AllReadyH.cons rfl (fun K hK => ?_) AllReadyH.nil)
                        go_simp
                        refine hK.out _ _ trivial (fun _ => ?_)
                        clear hK K
                        refine wpAnyH_ready (rs := [11]) (by kernel_rfl) (by simp) (AllReadyH.cons rfl (fun K hK => ?_) AllReadyH.nil)
                        go_simp
                        refine (HHS.out bi k w5.drew hbi hk rfl rfl rfl rfl).mono ?_
                        rintro e w7 ⟨rfl, hst⟩
                        have HP7 := hideIt hst
                        clear hst
                        dsimp only
                        refine hK.out _ _ trivial (fun _ => ?_)
                        clear hK K
                        refine wpAnyH_take (i := 12) (v := ?v8) rfl (by kernel_rfl) (by kernel_rfl) (by kernel_rfl) (fun _ _ _ h => h) (Or.inl ⟨by rfl, ?hy8⟩) trivial ?rest8
                        case hy8 => (intro w hSw; go_simp; try with_reducible rfl)
                        simp only [Act.put]
                        refine wpAnyH_done (by kernel_rfl) ?_ _
                        refine NoPanic.normal ?_
                        go_wp2
                        go_roundw
                        case rel => exact ⟨j + 1, by omega, by go_num, rfl, _, by rw [HSU.out.1]; exact HP7.out⟩
                        case measure => simp [intOf]; omega
                      · go_simp
                        refine hK.out _ _ trivial (fun _ => ?_)
                        clear hK K
                        refine wpAnyH_ready (rs := [9]) (by kernel_rfl) (by simp) (AllReadyH.cons rfl (fun K hK => ?_) AllReadyH.nil)
                        go_simp
                        refine (HPH.out _).mono ?_
                        rintro e w6 ⟨k, hk, rfl, rfl⟩
                        dsimp only
                        refine hK.out _ _ trivial (fun _ => ?_)
                        clear hK K
                        refine wpAnyH_ready (rs := [11]) (by kernel_rfl) (by simp) (AllReadyH.cons rfl (fun K hK => ?_) AllReadyH.nil)
                        go_simp
                        refine (HHS.out bi k w5.drew hbi hk rfl rfl rfl rfl).mono ?_
                        rintro e w7 ⟨rfl, hst⟩
                        have HP7 := hideIt hst
                        clear hst
                        dsimp only
                        refine hK.out _ _ trivial (fun _ => ?_)
                        clear hK K
                        refine wpAnyH_take (i := 12) (v := ?v9) rfl (by kernel_rfl) (by kernel_rfl) (by kernel_rfl) (fun _ _ _ h => h) (Or.inl ⟨by rfl, ?hy9⟩) trivial ?rest9
                        case hy9 => (intro w hSw; go_simp; try with_reducible rfl)
                        simp only [Act.put]
                        refine wpAnyH_done (by kernel_rfl) ?_ _
                        refine NoPanic.normal ?_
                        go_wp2
                        go_roundw
                        case rel => exact ⟨j + 1, by omega, by go_num, rfl, _, by rw [HSU.out.1]; exact HP7.out⟩
                        case measure => simp [intOf]; omega
                    · go_simp
                      refine hK.out _ _ trivial (fun _ => ?_)
                      clear hK K
                      refine wpAnyH_ready (rs := [7]) (by kernel_rfl) (by simp) (AllReadyH.cons rfl (fun K hK => ?_) AllReadyH.nil)
                      go_simp
                      refine hK.out _ _ trivial (fun _ => ?_)
                      clear hK K
                      refine wpAnyH_take (i := 8) (v := ?v10) rfl (by kernel_rfl) (by kernel_rfl) (by kernel_rfl) (fun _ _ _ h => h) (Or.inl ⟨by rfl, ?hy10⟩) trivial ?rest10
                      case hy10 => (intro w hSw; go_simp; try with_reducible rfl)
                      simp only [Act.put]
                      refine wpAnyH_ready (rs := [9]) (by kernel_rfl) (by simp) (AllReadyH.cons rfl (fun K hK => ?_) AllReadyH.nil)
                      go_simp
                      refine (HPH.out _).mono ?_
                      rintro e w6 ⟨k, hk, rfl, rfl⟩
                      dsimp only
                      refine hK.out _ _ trivial (fun _ => ?_)
                      clear hK K
                      refine wpAnyH_ready (rs := [11]) (by kernel_rfl) (by simp) (AllReadyH.cons rfl (fun K hK => ?_) AllReadyH.nil)
                      go_simp
                      refine (HHS.out bi k w5.drew hbi hk rfl rfl rfl rfl).mono ?_
                      rintro e w7 ⟨rfl, hst⟩
                      have HP7 := hideIt hst
                      clear hst
                      dsimp only
                      refine hK.out _ _ trivial (fun _ => ?_)
                      clear hK K
                      refine wpAnyH_take (i := 12) (v := ?v11) rfl (by kernel_rfl) (by kernel_rfl) (by kernel_rfl) (fun _ _ _ h => h) (Or.inl ⟨by rfl, ?hy11⟩) trivial ?rest11
                      case hy11 => (intro w hSw; go_simp; try with_reducible rfl)
                      simp only [Act.put]
                      refine wpAnyH_done (by kernel_rfl) ?_ _
                      refine NoPanic.normal ?_
                      go_wp2
                      go_roundw
                      case rel => exact ⟨j + 1, by omega, by go_num, rfl, _, by rw [HSU.out.1]; exact HP7.out⟩
                      case measure => simp [intOf]; omega
                  · go_simp
                    refine hK.out _ _ trivial (fun _ => ?_)
                    clear hK K
                    refine wpAnyH_take (i := 8) (v := ?v12) rfl (by kernel_rfl) (by kernel_rfl) (by kernel_rfl) (fun _ _ _ h => h) (Or.inl ⟨by rfl, ?hy12⟩) trivial ?rest12
                    case hy12 => (intro w hSw; go_simp; try with_reducible rfl)
                    simp only [Act.put]
                    refine wpAnyH_ready (rs := [3, 10]) (by kernel_rfl) (by simp) (AllReadyH.cons rfl (fun K hK => ?_) (AllReadyH.cons rfl (fun K hK => ?_) AllReadyH.nil))
                    · go_simp
                      refine hK.out _ _ trivial (fun _ => ?_)
                      clear hK K
                      refine wpAnyH_ready (rs := [9, 10]) (by kernel_rfl) (by simp) (AllReadyH.cons rfl (fun K hK => ?_) (AllReadyH.cons rfl (fun K hK => ?_) AllReadyH.nil))
                      · go_simp
                        refine (HPH.out _).mono ?_
                        rintro e w6 ⟨k, hk, rfl, rfl⟩
                        dsimp only
                        refine hK.out _ _ trivial (fun _ => ?_)
                        clear hK K
                        refine wpAnyH_ready (rs := [10]) (by kernel_rfl) (by simp) (AllReadyH.cons rfl (fun K hK => ?_) AllReadyH.nil)
                        go_simp
                        refine hK.out _ _ trivial (fun _ => ?_)
                        clear hK K
                        refine wpAnyH_ready (rs := [11]) (by kernel_rfl) (by simp) (AllReadyH.cons rfl (fun K hK => ?_) AllReadyH.nil)
                        go_simp
                        refine (HHS.out bi k w5.drew hbi hk rfl rfl rfl rfl).mono ?_
                        rintro e w7 ⟨rfl, hst⟩
                        have HP7 := hideIt hst
                        clear hst
                        dsimp only
                        refine hK.out _ _ trivial (fun _ => ?_)
                        clear hK K
                        refine wpAnyH_take (i := 12) (v := ?v13) rfl (by kernel_rfl) (by kernel_rfl) (by kernel_rfl) (fun _ _ _ h => h) (Or.inl ⟨by rfl, ?hy13⟩) trivial ?rest13
                        case hy13 => (intro w hSw; go_simp; try with_reducible rfl)
                        simp only [Act.put]
                        refine wpAnyH_done (by kernel_rfl) ?_ _
                        refine NoPanic.normal ?_
                        go_wp2
                        go_roundw
                        case rel => exact ⟨j + 1, by omega, by go_num, rfl, _, by rw [HSU.out.1]; exact HP7.out⟩
                        case measure => simp [intOf]; omega
                      · go_simp
                        refine hK.out _ _ trivial (fun _ => ?_)
                        clear hK K
                        refine wpAnyH_ready (rs := [9]) (by kernel_rfl) (by simp) (AllReadyH.cons rfl (fun K hK => ?_) AllReadyH.nil)
                        go_simp
                        refine (HPH.out _).mono ?_
                        rintro e w6 ⟨k, hk, rfl, rfl⟩
                        dsimp only
                        refine hK.out _ _ trivial (fun _ => ?_)
                        clear hK K
                        refine wpAnyH_ready (rs := [11]) (by kernel_rfl) (by simp) (AllReadyH.cons rfl (fun K hK => ?_) AllReadyH.nil)
                        go_simp
                        refine (HHS.out bi k w5.drew hbi hk rfl rfl rfl rfl).mono ?_
                        rintro e w7 ⟨rfl, hst⟩
                        have HP7 := hideIt hst
                        clear hst
                        dsimp only
                        refine hK.out _ _ trivial (fun _ => ?_)
                        clear hK K
                        refine wpAnyH_take (i := 12) (v := ?v14) rfl (by kernel_rfl) (by kernel_rfl) (by kernel_rfl) (fun _ _ _ h => h) (Or.inl ⟨by rfl, ?hy14⟩) trivial ?rest14
                        case hy14 => (intro w hSw; go_simp; try with_reducible rfl)
                        simp only [Act.put]
                        refine wpAnyH_done (by kernel_rfl) ?_ _
                        refine NoPanic.normal ?_
                        go_wp2
                        go_roundw
                        case rel => exact ⟨j + 1, by omega, by go_num, rfl, _, by rw [HSU.out.1]; exact HP7.out⟩
                        case measure => simp [intOf]; omega
                    · go_simp
                      refine hK.out _ _ trivial (fun _ => ?_)
                      clear hK K
                      refine wpAnyH_ready (rs := [3]) (by kernel_rfl) (by simp) (AllReadyH.cons rfl (fun K hK => ?_) AllReadyH.nil)
                      go_simp
                      refine hK.out _ _ trivial (fun _ => ?_)
                      clear hK K
                      refine wpAnyH_ready (rs := [9]) (by kernel_rfl) (by simp) (AllReadyH.cons rfl (fun K hK => ?_) AllReadyH.nil)
                      go_simp
                      refine (HPH.out _).mono ?_
                      rintro e w6 ⟨k, hk, rfl, rfl⟩
                      dsimp only
                      refine hK.out _ _ trivial (fun _ => ?_)
                      clear hK K
                      refine wpAnyH_ready (rs := [11]) (by kernel_rfl) (by simp) (AllReadyH.cons rfl (fun K hK => ?_) AllReadyH.nil)
                      go_simp
                      refine (HHS.out bi k w5.drew hbi hk rfl rfl rfl rfl).mono ?_
                      rintro e w7 ⟨rfl, hst⟩
                      have HP7 := hideIt hst
                      clear hst
                      dsimp only
                      refine hK.out _ _ trivial (fun _ => ?_)
                      clear hK K
                      refine wpAnyH_take (i := 12) (v := ?v15) rfl (by kernel_rfl) (by kernel_rfl) (by kernel_rfl) (fun _ _ _ h => h) (Or.inl ⟨by rfl, ?hy15⟩) trivial ?rest15
                      case hy15 => (intro w hSw; go_simp; try with_reducible rfl)
                      simp only [Act.put]
                      refine wpAnyH_done (by kernel_rfl) ?_ _
                      refine NoPanic.normal ?_
                      go_wp2
                      go_roundw
                      case rel => exact ⟨j + 1, by omega, by go_num, rfl, _, by rw [HSU.out.1]; exact HP7.out⟩
                      case measure => simp [intOf]; omega
                  · go_simp
                    refine hK.out _ _ trivial (fun _ => ?_)
                    clear hK K
                    refine wpAnyH_ready (rs := [3, 7]) (by kernel_rfl) (by simp) (AllReadyH.cons rfl (fun K hK => ?_) (AllReadyH.cons rfl (fun K hK => ?_) AllReadyH.nil))
                    · go_simp
                      refine hK.out _ _ trivial (fun _ => ?_)
                      clear hK K
                      refine wpAnyH_ready (rs := [7]) (by kernel_rfl) (by simp) (AllReadyH.cons rfl (fun K hK => ?_) AllReadyH.nil)
                      go_simp
                      refine hK.out _ _ trivial (fun _ => ?_)
                      clear hK K
                      refine wpAnyH_take (i := 8) (v := ?v16) rfl (by kernel_rfl) (by kernel_rfl) (by kernel_rfl) (fun _ _ _ h => h) (Or.inl ⟨by rfl, ?hy16⟩) trivial ?rest16
                      case hy16 => (intro w hSw; go_simp; try with_reducible rfl)
                      simp only [Act.put]
                      refine wpAnyH_ready (rs := [9]) (by kernel_rfl) (by simp) (AllReadyH.cons rfl (fun K hK => ?_) AllReadyH.nil)
                      go_simp
                      refine (HPH.out _).mono ?_
                      rintro e w6 ⟨k, hk, rfl, rfl⟩
                      dsimp only
                      refine hK.out _ _ trivial (fun _ => ?_)
                      clear hK K
                      refine wpAnyH_ready (rs := [11]) (by kernel_rfl) (by simp) (AllReadyH.cons rfl (fun K hK => ?_) AllReadyH.nil)
                      go_simp
                      refine (HHS.out bi k w5.drew hbi hk rfl rfl rfl rfl).mono ?_
                      rintro e w7 ⟨rfl, hst⟩
                      have HP7 := hideIt hst
                      clear hst
                      dsimp only
                      refine hK.out _ _ trivial (fun _ => ?_)
                      clear hK K
                      refine wpAnyH_take (i := 12) (v := ?v17) rfl (by kernel_rfl) (by kernel_rfl) (by kernel_rfl) (fun _ _ _ h => h) (Or.inl ⟨by rfl, ?hy17⟩) trivial ?rest17
                      case hy17 => (intro w hSw; go_simp; try with_reducible rfl)
                      simp only [Act.put]
                      refine wpAnyH_done (by kernel_rfl) ?_ _
                      refine NoPanic.normal ?_
                      go_wp2
                      go_roundw
                      case rel => exact ⟨j + 1, by omega, by go_num, rfl, _, by rw [HSU.out.1]; exact HP7.out⟩
                      case measure => simp [intOf]; omega
                    · go_simp
                      refine hK.out _ _ trivial (fun _ => ?_)
                      clear hK K
                      refine wpAnyH_take (i := 8) (v := ?v18) rfl (by kernel_rfl) (by kernel_rfl) (by kernel_rfl) (fun _ _ _ h => h) (Or.inl ⟨by rfl, ?hy18⟩) trivial ?rest18
                      case hy18 => (intro w hSw; go_simp; try with_reducible rfl)
                      simp only [Act.put]
                      refine wpAnyH_ready (rs := [3]) (by kernel_rfl) (by simp) (AllReadyH.cons rfl (fun K hK => ?_) AllReadyH.nil)
                      go_simp
                      refine hK.out _ _ trivial (fun _ => ?_)
                      clear hK K
                      refine wpAnyH_ready (rs := [9]) (by kernel_rfl) (by simp) (AllReadyH.cons rfl (fun K hK => ?_) AllReadyH.nil)
                      go_simp
                      refine (HPH.out _).mono ?_
                      rintro e w6 ⟨k, hk, rfl, rfl⟩
                      dsimp only
                      refine hK.out _ _ trivial (fun _ => ?_)
                      clear hK K
                      refine wpAnyH_ready (rs := [11]) (by kernel_rfl) (by simp) (AllReadyH.cons rfl (fun K hK => ?_) AllReadyH.nil)
                      go_simp
                      refine (HHS.out bi k w5.drew hbi hk rfl rfl rfl rfl).mono ?_
                      rintro e w7 ⟨rfl, hst⟩
                      have HP7 := hideIt hst
                      clear hst
                      dsimp only
                      refine hK.out _ _ trivial (fun _ => ?_)
                      clear hK K
                      refine wpAnyH_take (i := 12) (v := ?v19) rfl (by kernel_rfl) (by kernel_rfl) (by kernel_rfl) (fun _ _ _ h => h) (Or.inl ⟨by rfl, ?hy19⟩) trivial ?rest19
                      case hy19 => (intro w hSw; go_simp; try with_reducible rfl)
                      simp only [Act.put]
                      refine wpAnyH_done (by kernel_rfl) ?_ _
                      refine NoPanic.normal ?_
                      go_wp2
                      go_roundw
                      case rel => exact ⟨j + 1, by omega, by go_num, rfl, _, by rw [HSU.out.1]; exact HP7.out⟩
                      case measure => simp [intOf]; omega
                · have hz0 : hs.length = 0 := by omega
                  rw [hz0] at d4
                  have HP6 := hideIt (HHV.out.le (v := sumAct (List.take (j + 1) l) + (j + 1) * 2412000) (by rw [HSU.out.1]; omega))
                  go_wp2_with fail
                  refine (HPK.out _).mono ?_
                  rintro e w5 ⟨bi, hbi, rfl, rfl⟩
                  go_wp2
                  go_roundw
                  case rel => exact ⟨j + 1, by omega, by go_num, rfl, _, _, _, _, _, rfl, HP6.out⟩
                  case measure => simp [intOf]; omega
          · have hKc : K < 1 ∨ (¬ K < 1 ∧ 17 < K) := by omega
            have HP6 := hideIt (HHV.out.le (v := sumAct (List.take (j + 1) l) + (j + 1) * 2412000) (by rw [HSU.out.1]; omega))
            rcases hKc with hKc | ⟨hKc, hKd⟩
            all_goals
              go_wp2
              go_roundw
              case rel => exact ⟨j + 1, by omega, by go_num, rfl, _, _, _, _, _, rfl, HP6.out⟩
              case measure => simp [intOf]; omega
        · have hji : ¬ (j : Int) < (l.length : Int) := by omega
          obtain ⟨U, hU⟩ : ∃ U, sumAct (l.take j) + j * 2412000 = U := ⟨_, rfl⟩
          rw [hU] at hHW
          have HSTU : Hid (HSt W wr w1.heap.size gb gcap o hs.length (.slice t0 im.bytes.length s0) (.slice t1 im.laid.length s1) (.slice t2 im.starts.length s2) im U) := ⟨col, bv, hs, hv, rfl, hHW⟩
          have hf4 : hs.length ≤ 4 := hHW.few
          obtain ⟨N, hN⟩ : ∃ N, hs.length = N := ⟨_, rfl⟩
          rw [hN] at HSTU hf4
          clear hHW hU hN
          go_wp2_with fail
          go_loopw [12, 19] (fun ok i wr => ∃ (j : Nat), j ≤ 2 ∧ i = .int .i64 j ∧ ok = .bool true ∧ HSt W wr w1.heap.size gb gcap o N (.slice t0 im.bytes.length s0) (.slice t1 im.laid.length s1) (.slice t2 im.starts.length s2) im U) (fun _ i _ => 2 - (intOf i).toNat)
          case atStart => exact ⟨0, Nat.zero_le _, rfl, rfl, HSTU.out⟩
          case round =>
            clear HSTU
            obtain ⟨j, hj, rfl, rfl, hST⟩ := hrel
            by_cases hlj2 : j < 2
            · have hji2 : (j : Int) < 2 := by omega
              have HST := hideIt hST
              have HQ6 := hideIt (fun w' h' => hst_flash (w := W) (wb := w1.heap.size) (gb := gb) (gcap := gcap) (o := o) (n := N) (im := im) (u := U) (i0 := .slice t0 im.bytes.length s0) (i1 := .slice t1 im.laid.length s1) (i2 := .slice t2 im.starts.length s2) j hlj2 w' h')
              have HQ7 := hideIt (fun w' h' => hst_burnt (w := W) (wb := w1.heap.size) (gb := gb) (gcap := gcap) (o := o) (n := N) (im := im) (u := U) (i0 := .slice t0 im.bytes.length s0) (i1 := .slice t1 im.laid.length s1) (i2 := .slice t2 im.starts.length s2) j hlj2 w' h')
              have HQ5 := hideIt (fun w' h' => hst_on (w := W) (wb := w1.heap.size) (gb := gb) (gcap := gcap) (o := o) (n := N) (im := im) (u := U) (i0 := .slice t0 im.bytes.length s0) (i1 := .slice t1 im.laid.length s1) (i2 := .slice t2 im.starts.length s2) j hlj2 w' h')
              clear hST
              go_wp2_with fail
              refine (HQ6.out _ HST.out).mono ?_
              rintro e wa ⟨rfl, hla⟩
              have HLA := hideIt hla
              clear hla
              go_wp2_with fail
              refine (HQ7.out _ HLA.out).mono ?_
              rintro e wb ⟨rfl, hlb⟩
              have HLB := hideIt hlb
              clear hlb
              go_wp2_with fail
              refine (HQ5.out _ HLB.out).mono ?_
              rintro e wc ⟨rfl, hlc⟩
              have HLC := hideIt hlc
              clear hlc
              go_wp2
              go_roundw
              case rel => exact ⟨j + 1, by omega, by go_num, rfl, HLC.out⟩
              case measure => simp [intOf]; omega
            · have hji2 : ¬ (j : Int) < 2 := by omega
              have HST : Hid (∃ U', HSt W wr w1.heap.size gb gcap o N (.slice t0 im.bytes.length s0) (.slice t1 im.laid.length s1) (.slice t2 im.starts.length s2) im U') := ⟨U, hST⟩
              clear hST
              go_wp2_with fail
              go_loopw [12, 23] (fun ok i wr => ∃ (j : Nat), j ≤ N ∧ i = .int .i64 j ∧ ok = .bool true ∧ ∃ U', HSt W wr w1.heap.size gb gcap o N (.slice t0 im.bytes.length s0) (.slice t1 im.laid.length s1) (.slice t2 im.starts.length s2) im U') (fun _ i _ => N - (intOf i).toNat)
              case atStart => exact ⟨0, Nat.zero_le _, rfl, rfl, HST.out⟩
              case round =>
                clear HST
                obtain ⟨j, hj, rfl, rfl, U', col, bv, hs, hv, hlen, hHW⟩ := hrel
                obtain ⟨va, vc, ev⟩ := row_slice hHW.row
                have d4 := hHW.c4
                rw [ev, hlen] at d4
                by_cases hlj3 : j < N
                · have hji3 : (j : Int) < (N : Int) := by omega
                  have HQ := hideIt (lhost_state 0 0 0 0 ⟨#[]⟩ j 0 (by omega) (by decide) hHW)
                  rw [hlen] at HQ
                  clear hHW hlen ev
                  go_wp2_with fail
                  refine HQ.out.mono ?_
                  rintro e w6 ⟨rfl, hst⟩
                  have HP6 := hideIt hst
                  clear hst
                  go_wp2
                  go_roundw
                  case rel => exact ⟨j + 1, by omega, by go_num, rfl, _, HP6.out⟩
                  case measure => simp [intOf]; omega
                · have hji3 : ¬ (j : Int) < (N : Int) := by omega
                  have HBE := hideIt hHW.below
                  clear hHW hlen ev
                  go_wp2
                  go_ret
                  exact ⟨rfl, HBW.out.trans (HBE.out.mono HBW.out.size)⟩
end Go.Proofs.YthokdbcpkmcieaaGreat
