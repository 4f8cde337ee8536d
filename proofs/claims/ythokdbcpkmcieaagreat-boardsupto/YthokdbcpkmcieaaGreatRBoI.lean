/- The law's board: one act on a pair of boards. -/
import Derived.Test.YthokdbcpkmcieaaGreatRBoH
namespace Go.Proofs.YthokdbcpkmcieaaGreat
open Go Go.RowKit
attribute [local go_sem ↓] Go.wp_at_zero Go.wp_at_succ
/-- What an act leaves of a pair. -/
def LEnd (w : World) (o : Bo) (v : Nat) (e : Ending) (w' : World) : Prop := e = .returned (.bool true) ∧ (∃ b', Pr w' o b' v) ∧ Chg w w' o.own
theorem rHearF_end (r : REar) (l : List UInt8) : (rHearF r (l ++ [126])).1.s = [] := by
  rw [rHearF_snoc]
  unfold rHearB
  rw [if_pos rfl]
theorem frameF_end (m : List UInt8) : ∃ l, frameF m = l ++ [126] := by
  unfold frameF
  exact ⟨_, (List.cons_append ..).symm⟩
/-- The act's own box. -/
def actL (K B H A C : Int) (S : ByteArray) : Array Value := #[.int .i64 K, .int .i64 B, .int .i64 H, .int .i64 A, .int .i64 C, .string S]
theorem act_cells (w : World) (K B H A C : Int) (S : ByteArray) : ∃ W, w.alloc (.cells #[.int .i64 K, .int .i64 B, .int .i64 H, .int .i64 A, .int .i64 C, .string S] 51) = W ∧ Below w.heap.size w W ∧ w.heap.size < W.heap.size ∧ W.cell? ⟨w.heap.size, 0, none⟩ = some (.int .i64 K) ∧ W.cell? ⟨w.heap.size, 3, none⟩ = some (.int .i64 A) ∧ W.cell? ⟨w.heap.size, 4, none⟩ = some (.int .i64 C) ∧ W.cell? ⟨w.heap.size, 5, none⟩ = some (.string S) := by
  refine ⟨_, rfl, (Below.refl _ _).alloc (Nat.le_refl _) _, by simp, ?_, ?_, ?_, ?_⟩
  all_goals
    rw [cell_of_row _ _ _ _ _ (0, 0) (heap_alloc_new w _)]
    rfl
set_option maxRecDepth 100000 in
set_option maxHeartbeats 4000000 in
theorem lboard_hear (wb gb cap i : Nat) (o : Bo) (b : Brd) (u : Nat) (B H A C : Int) (S : ByteArray) (w : World) (h : LF w wb gb cap i o b u) (hs : u + S.size ≤ 4000000) :
    Calls Tryz.prog 14 #[.pointer (some ⟨wb, 0, none⟩), .int .i64 (i : Int), .agg #[.int .i64 1, .int .i64 B, .int .i64 H, .int .i64 A, .int .i64 C, .string S]] w (LEnd w o (u + S.size)) := by
  obtain ⟨W, hW, hB, hz, k0, k3, k4, k5⟩ := act_cells w 1 B H A C S
  have h1 := h.below hB
  have c3 := h1.c3
  have cx := h1.cx
  have cy := h1.cy
  have hii : (i : Int) < 2 := by have := h.hi; omega
  have hlen : S.data.toList.length = S.size := by rw [Array.length_toList]; rfl
  have HC := hideIt (lhears_any wb gb cap i o b u (u + S.size) S W h1 hs (by omega) (fun r hr => by have := rHearF_len r S.data.toList; omega))
  have HB := hideIt hB
  clear h h1 hB
  go_enter Tryz.func14, Tryz.ntmps14
  go_wp2_with fail
  refine HC.out.mono ?_
  rintro e w1 ⟨⟨T, rfl⟩, hp, hc⟩
  have HP := hideIt (And.intro hp hc)
  clear hp hc
  go_wp2
  go_ret
  exact ⟨rfl, HP.out.1, (Chg.of_below _ HB.out).trans HP.out.2⟩
set_option maxRecDepth 100000 in
set_option maxHeartbeats 4000000 in
theorem lboard_ask (wb gb cap i : Nat) (o : Bo) (b : Brd) (u : Nat) (B H A C : Int) (S : ByteArray) (w : World) (h : LF w wb gb cap i o b u) (hu : u ≤ 2000000) (hs : S.size ≤ 4000000) :
    Calls Tryz.prog 14 #[.pointer (some ⟨wb, 0, none⟩), .int .i64 (i : Int), .agg #[.int .i64 2, .int .i64 B, .int .i64 H, .int .i64 A, .int .i64 C, .string S]] w (LEnd w o u) := by
  obtain ⟨W, hW, hB, hz, k0, k3, k4, k5⟩ := act_cells w 2 B H A C S
  have h1 := h.below hB
  have c3 := h1.c3
  have cx := h1.cx
  have cy := h1.cy
  have hii : (i : Int) < 2 := by have := h.hi; omega
  have HB := hideIt hB
  have HH := hideIt h1
  have hF : ∃ F c, (∀ w, Calls Tryz.prog 17 #[.string S] w fun e w' => e = .returned (.tuple #[.string F, .int .i64 c]) ∧ Below w.heap.size w w') ∧ F.size ≤ 1000 ∧ ∀ r : REar, r.s.length ≤ u → (rHearF r F.data.toList).1.s.length ≤ u := by
    by_cases hm : S.size < 1 ∨ 80 < S.size
    · exact ⟨⟨#[]⟩, 8, fun w => (rframe_bad S w hm hs).mono fun e w' ⟨h1, h2⟩ => ⟨h1, by rw [h2]; exact Below.refl _ _⟩, by decide, fun r hr => by simpa [rHearF] using hr⟩
    · refine ⟨txt (frameF S.data.toList), 0, fun w => rframe_any S w (by omega) (by omega), ?_, fun r _ => ?_⟩
      · rw [txt_size]
        have := frameF_len S.data.toList
        have hl : S.data.toList.length = S.size := by rw [Array.length_toList]; rfl
        omega
      · rw [txt_toList]
        obtain ⟨l, hl⟩ := frameF_end S.data.toList
        rw [hl, rHearF_end]
        simp
  obtain ⟨F, c, hF1, hF2, hF3⟩ := hF
  have HF := hideIt hF1
  have HC := hideIt (fun w1 (h1 : LF w1 wb gb cap i o b u) => lhears_any wb gb cap i o b u u F w1 h1 (by omega) (Nat.le_refl _) hF3)
  clear h h1 hB hF1 hF3
  go_enter Tryz.func14, Tryz.ntmps14
  go_wp2_with fail
  refine (HF.out _).mono ?_
  rintro e w1 ⟨rfl, hB1⟩
  have HB1 := hideIt hB1
  clear hB1
  go_wp2_with fail
  refine (HC.out _ (HH.out.below HB1.out)).mono ?_
  rintro e w2 ⟨⟨T, rfl⟩, hp, hc⟩
  have HP := hideIt (And.intro hp hc)
  clear hp hc
  go_wp2
  go_ret
  exact ⟨rfl, HP.out.1, (Chg.of_below _ HB.out).trans ((Chg.of_below _ HB1.out).trans HP.out.2)⟩
set_option maxRecDepth 100000 in
set_option maxHeartbeats 4000000 in
theorem lboard_cut (wb gb cap i : Nat) (o : Bo) (b : Brd) (u : Nat) (B H A C : Int) (S : ByteArray) (hA1 : -9223372036854775808 ≤ A) (hA2 : A ≤ 9223372036854775807) (w : World) (h : LF w wb gb cap i o b u) :
    Calls Tryz.prog 14 #[.pointer (some ⟨wb, 0, none⟩), .int .i64 (i : Int), .agg #[.int .i64 3, .int .i64 B, .int .i64 H, .int .i64 A, .int .i64 C, .string S]] w (LEnd w o u) := by
  obtain ⟨W, hW, hB, hz, k0, k3, k4, k5⟩ := act_cells w 3 B H A C S
  have h1 := h.below hB
  have c3 := h1.c3
  have cx := h1.cx
  have cy := h1.cy
  have hii : (i : Int) < 2 := by have := h.hi; omega
  have hxl := h.pr.lt o.x (by simp [Bo.own])
  have HB := hideIt hB
  have HX := hideIt (bbCut_any o.x b A C hA1 hA2 W h1.pr.px)
  have HY := hideIt (fun w1 (hg : W.grownBy w1 (some o.x)) => rcut_any o.rb o.fb o.jb b u A C hA1 hA2 w1 (h1.pr.first hg))
  have HN := hideIt h1.pr.ne
  clear h h1 hB
  go_enter Tryz.func14, Tryz.ntmps14
  go_wp2_with fail
  refine HX.out.mono ?_
  rintro e w1 ⟨rfl, hx1, hg1⟩
  have hbk := hg1.block w.heap.size hz (by simp; omega)
  have d3 : w1.cell? ⟨w.heap.size, 3, none⟩ = some (.int .i64 A) := (World.cell?_of_block (a := ⟨w.heap.size, 3, none⟩) hbk).trans k3
  have d4 : w1.cell? ⟨w.heap.size, 4, none⟩ = some (.int .i64 C) := (World.cell?_of_block (a := ⟨w.heap.size, 4, none⟩) hbk).trans k4
  have HG := hideIt (And.intro hx1 hg1)
  clear hx1 hg1 hbk
  go_wp2_with fail
  refine (HY.out _ HG.out.2).mono ?_
  rintro e w2 ⟨rfl, hy2, hg2⟩
  have HZ := hideIt (And.intro hy2 hg2)
  clear hy2 hg2
  go_wp2
  go_ret
  refine ⟨rfl, ⟨_, Pr.second HG.out.1 HN.out HZ.out.1 HZ.out.2⟩, (Chg.of_below _ HB.out).trans ((Chg.of_grown HG.out.2 ?_).trans (Chg.of_g3 HZ.out.2 ?_ ?_ ?_))⟩
  all_goals simp [Bo.own]
set_option maxRecDepth 100000 in
set_option maxHeartbeats 4000000 in
theorem lboard_boot (wb gb cap i : Nat) (o : Bo) (b : Brd) (u : Nat) (B H A C : Int) (S : ByteArray) (w : World) (h : LF w wb gb cap i o b u) :
    Calls Tryz.prog 14 #[.pointer (some ⟨wb, 0, none⟩), .int .i64 (i : Int), .agg #[.int .i64 4, .int .i64 B, .int .i64 H, .int .i64 A, .int .i64 C, .string S]] w (LEnd w o u) := by
  obtain ⟨W, hW, hB, hz, k0, k3, k4, k5⟩ := act_cells w 4 B H A C S
  have h1 := h.below hB
  have c3 := h1.c3
  have cx := h1.cx
  have cy := h1.cy
  have hii : (i : Int) < 2 := by have := h.hi; omega
  have HB := hideIt hB
  have HX := hideIt (bbBoot_any o.x b W h1.pr.px)
  have HY := hideIt (fun w1 (hg : W.grownBy w1 (some o.x)) => rboot_any o.rb o.fb o.jb b u w1 (h1.pr.first hg))
  have HN := hideIt h1.pr.ne
  clear h h1 hB
  go_enter Tryz.func14, Tryz.ntmps14
  go_wp2_with fail
  refine HX.out.mono ?_
  rintro e w1 ⟨rfl, hx1, hg1⟩
  have HG := hideIt (And.intro hx1 hg1)
  clear hx1 hg1
  go_wp2_with fail
  refine (HY.out _ HG.out.2).mono ?_
  rintro e w2 ⟨rfl, hy2, hg2⟩
  have HZ := hideIt (And.intro hy2 hg2)
  clear hy2 hg2
  go_wp2
  go_ret
  refine ⟨rfl, ⟨_, Pr.second HG.out.1 HN.out HZ.out.1 HZ.out.2⟩, (Chg.of_below _ HB.out).trans ((Chg.of_grown HG.out.2 ?_).trans (Chg.of_g3 HZ.out.2 ?_ ?_ ?_))⟩
  all_goals simp [Bo.own]
set_option maxRecDepth 100000 in
set_option maxHeartbeats 4000000 in
theorem lboard_on (wb gb cap i : Nat) (o : Bo) (b : Brd) (u : Nat) (B H A C : Int) (S : ByteArray) (w : World) (h : LF w wb gb cap i o b u) :
    Calls Tryz.prog 14 #[.pointer (some ⟨wb, 0, none⟩), .int .i64 (i : Int), .agg #[.int .i64 5, .int .i64 B, .int .i64 H, .int .i64 A, .int .i64 C, .string S]] w (LEnd w o u) := by
  obtain ⟨W, hW, hB, hz, k0, k3, k4, k5⟩ := act_cells w 5 B H A C S
  have h1 := h.below hB
  have c3 := h1.c3
  have cx := h1.cx
  have cy := h1.cy
  have hii : (i : Int) < 2 := by have := h.hi; omega
  have HB := hideIt hB
  have HX := hideIt (bbOn_any o.x b W h1.pr.px)
  have HY := hideIt (ron_any o.rb o.fb o.jb b u W h1.pr.ry)
  have HP := hideIt h1.pr
  clear h h1 hB
  go_enter Tryz.func14, Tryz.ntmps14
  go_wp2_with fail
  refine HX.out.mono ?_
  rintro e w1 ⟨rfl, rfl⟩
  go_wp2_with fail
  refine HY.out.mono ?_
  rintro e w2 ⟨rfl, rfl⟩
  go_wp2
  go_ret
  exact ⟨by simp, ⟨b, HP.out⟩, Chg.of_below _ HB.out⟩
set_option maxRecDepth 100000 in
set_option maxHeartbeats 4000000 in
theorem lboard_flash (wb gb cap i : Nat) (o : Bo) (b : Brd) (u : Nat) (B H A C : Int) (S : ByteArray) (w : World) (h : LF w wb gb cap i o b u) :
    Calls Tryz.prog 14 #[.pointer (some ⟨wb, 0, none⟩), .int .i64 (i : Int), .agg #[.int .i64 6, .int .i64 B, .int .i64 H, .int .i64 A, .int .i64 C, .string S]] w (LEnd w o u) := by
  obtain ⟨W, hW, hB, hz, k0, k3, k4, k5⟩ := act_cells w 6 B H A C S
  have h1 := h.below hB
  have c3 := h1.c3
  have cx := h1.cx
  have cy := h1.cy
  have hii : (i : Int) < 2 := by have := h.hi; omega
  have HB := hideIt hB
  have HX := hideIt (bbFlash_any o.x b W h1.pr.px)
  have HY := hideIt (fun w1 (hb : Below W.heap.size W w1) => rflash_any o.rb o.fb o.jb b u w1 (h1.pr.ry.below hb))
  obtain ⟨T, hT⟩ : ∃ T, txt (b.mem.take 1024) = T := ⟨_, rfl⟩
  rw [hT] at HX HY
  have HP := hideIt h1.pr
  clear h h1 hB hT
  go_enter Tryz.func14, Tryz.ntmps14
  go_wp2_with fail
  refine HX.out.mono ?_
  rintro e w1 ⟨rfl, hB1⟩
  have HB1 := hideIt hB1
  clear hB1
  go_wp2_with fail
  refine (HY.out _ HB1.out).mono ?_
  rintro e w2 ⟨rfl, rfl⟩
  go_wp2
  go_ret
  exact ⟨rfl, ⟨b, HP.out.below HB1.out⟩, (Chg.of_below _ HB.out).trans (Chg.of_below _ HB1.out)⟩
set_option maxRecDepth 100000 in
set_option maxHeartbeats 4000000 in
theorem lboard_burnt (wb gb cap i : Nat) (o : Bo) (b : Brd) (u : Nat) (B H A C : Int) (S : ByteArray) (w : World) (h : LF w wb gb cap i o b u) :
    Calls Tryz.prog 14 #[.pointer (some ⟨wb, 0, none⟩), .int .i64 (i : Int), .agg #[.int .i64 7, .int .i64 B, .int .i64 H, .int .i64 A, .int .i64 C, .string S]] w (LEnd w o u) := by
  obtain ⟨W, hW, hB, hz, k0, k3, k4, k5⟩ := act_cells w 7 B H A C S
  have h1 := h.below hB
  have c3 := h1.c3
  have cx := h1.cx
  have cy := h1.cy
  have hii : (i : Int) < 2 := by have := h.hi; omega
  have HB := hideIt hB
  have HX := hideIt (bbBurnt_any o.x b W h1.pr.px)
  have HY := hideIt (fun w1 (hb : Below W.heap.size W w1) => rbits_any o.rb o.fb o.jb b u w1 (h1.pr.ry.below hb))
  obtain ⟨T, hT⟩ : ∃ T, (bitsF b.mem : Int) = T := ⟨_, rfl⟩
  rw [hT] at HX HY
  have HP := hideIt h1.pr
  clear h h1 hB hT
  go_enter Tryz.func14, Tryz.ntmps14
  go_wp2_with fail
  refine HX.out.mono ?_
  rintro e w1 ⟨rfl, hB1⟩
  have HB1 := hideIt hB1
  clear hB1
  go_wp2_with fail
  refine (HY.out _ HB1.out).mono ?_
  rintro e w2 ⟨rfl, hB2⟩
  have HB2 := hideIt hB2
  clear hB2
  go_wp2
  go_ret
  exact ⟨by simp, ⟨b, (HP.out.below HB1.out).below HB2.out⟩, (Chg.of_below _ HB.out).trans ((Chg.of_below _ HB1.out).trans (Chg.of_below _ HB2.out))⟩
/-- An act of any of the seven kinds. -/
theorem lboard_any (wb gb cap i : Nat) (o : Bo) (b : Brd) (u : Nat) (K B H A C : Int) (S : ByteArray) (hA1 : -9223372036854775808 ≤ A) (hA2 : A ≤ 9223372036854775807) (w : World) (h : LF w wb gb cap i o b u) (hs : u + S.size ≤ 2000000) (hK1 : 1 ≤ K) (hK2 : K ≤ 7) :
    Calls Tryz.prog 14 #[.pointer (some ⟨wb, 0, none⟩), .int .i64 (i : Int), .agg #[.int .i64 K, .int .i64 B, .int .i64 H, .int .i64 A, .int .i64 C, .string S]] w (LEnd w o (u + S.size)) := by
  have mono : ∀ {e w'}, LEnd w o u e w' → LEnd w o (u + S.size) e w' := fun ⟨h1, ⟨b', h2⟩, h3⟩ => ⟨h1, ⟨b', h2.le (by omega)⟩, h3⟩
  have hc : K = 1 ∨ K = 2 ∨ K = 3 ∨ K = 4 ∨ K = 5 ∨ K = 6 ∨ K = 7 := by omega
  rcases hc with rfl | rfl | rfl | rfl | rfl | rfl | rfl
  · exact lboard_hear wb gb cap i o b u B H A C S w h (by omega)
  · exact (lboard_ask wb gb cap i o b u B H A C S w h (by omega) (by omega)).mono fun _ _ => mono
  · exact (lboard_cut wb gb cap i o b u B H A C S hA1 hA2 w h).mono fun _ _ => mono
  · exact (lboard_boot wb gb cap i o b u B H A C S w h).mono fun _ _ => mono
  · exact (lboard_on wb gb cap i o b u B H A C S w h).mono fun _ _ => mono
  · exact (lboard_flash wb gb cap i o b u B H A C S w h).mono fun _ _ => mono
  · exact (lboard_burnt wb gb cap i o b u B H A C S w h).mono fun _ _ => mono
end Go.Proofs.YthokdbcpkmcieaaGreat
