/- The law's boards: both of them together. -/
import Derived.Test.YthokdbcpkmcieaaGreatBoK
import Derived.Test.YthokdbcpkmcieaaGreatBoG
import Derived.Test.YthokdbcpkmcieaaGreatBoA
namespace Go.Proofs.YthokdbcpkmcieaaGreat
open Go Go.RowKit
attribute [local go_sem ↓] Go.wp_at_zero Go.wp_at_succ
/-- Where a pair of boards lies: the program's at x, the document's at rb, fb, jb. -/
structure Bo where
  x : Nat
  rb : Nat
  fb : Nat
  jb : Nat
def Bo.own (o : Bo) : List Nat := [o.x, o.rb, o.fb, o.jb]
/-- Of the old blocks those of the list alone have changed. -/
structure Chg (w w' : World) (S : List Nat) : Prop where
  os : w'.os = w.os
  tape : w'.tape = w.tape
  output : w'.output = w.output
  size : w.heap.size ≤ w'.heap.size
  block : ∀ k, k < w.heap.size → k ∉ S → w'.heap[k]? = w.heap[k]?
theorem Chg.refl (w : World) (S : List Nat) : Chg w w S := ⟨rfl, rfl, rfl, Nat.le_refl _, fun _ _ _ => rfl⟩
theorem Chg.trans {w w1 w2 : World} {S : List Nat} (h : Chg w w1 S) (g : Chg w1 w2 S) : Chg w w2 S :=
  ⟨g.os.trans h.os, g.tape.trans h.tape, g.output.trans h.output, Nat.le_trans h.size g.size, fun k hk a => (g.block k (Nat.lt_of_lt_of_le hk h.size) a).trans (h.block k hk a)⟩
theorem Chg.of_below {w w' : World} (S : List Nat) (h : Below w.heap.size w w') : Chg w w' S := ⟨h.os, h.tape, h.output, h.size, fun k hk _ => h.block k hk⟩
theorem Chg.of_grown {w w' : World} {b : Nat} {S : List Nat} (h : w.grownBy w' (some b)) (hb : b ∈ S) : Chg w w' S := ⟨h.os, h.tape, h.output, h.size, fun k hk a => h.block k hk (by simp; intro e; exact a (by rw [e]; exact hb))⟩
theorem Chg.of_g3 {w w' : World} {rb fb jb : Nat} {S : List Nat} (h : G3 w w' rb fb jb) (h1 : rb ∈ S) (h2 : fb ∈ S) (h3 : jb ∈ S) : Chg w w' S :=
  ⟨h.os, h.tape, h.output, h.size, fun k hk a => h.block k hk (fun e => a (e ▸ h1)) (fun e => a (e ▸ h2)) (fun e => a (e ▸ h3))⟩
theorem Chg.drewN {w w' : World} {S : List Nat} (h : Chg w w' S) (m : Nat) : Chg w (w'.drewN m) S := ⟨h.os, h.tape, h.output, h.size, h.block⟩
/-- Both boards at o do as the plain board b. -/
structure Pr (w : World) (o : Bo) (b : Brd) (u : Nat) : Prop where
  px : BrdAt w o.x b
  ry : RB w o.rb o.fb o.jb b u
  ne : o.x ≠ o.rb ∧ o.x ≠ o.fb ∧ o.x ≠ o.jb
theorem Pr.lt {w : World} {o : Bo} {b : Brd} {u : Nat} (h : Pr w o b u) : ∀ k ∈ o.own, k < w.heap.size := by
  have h1 := h.px.sto.lt
  have h2 := h.ry.lt
  intro k hk
  simp only [Bo.own, List.mem_cons, List.not_mem_nil, or_false] at hk
  rcases hk with rfl | rfl | rfl | rfl <;> omega
theorem Pr.kept {w w' : World} {o : Bo} {b : Brd} {u : Nat} (h : Pr w o b u) (hb : ∀ k ∈ o.own, w'.heap[k]? = w.heap[k]?) (hz : w.heap.size ≤ w'.heap.size) : Pr w' o b u :=
  ⟨h.px.kept (hb _ (by simp [Bo.own])) hz, h.ry.kept (fun k e => hb k (by rcases e with rfl | rfl | rfl <;> simp [Bo.own])) hz, h.ne⟩
theorem Pr.chg {w w' : World} {o : Bo} {b : Brd} {u : Nat} {S : List Nat} (h : Pr w o b u) (hc : Chg w w' S) (hd : ∀ k ∈ o.own, k ∉ S) : Pr w' o b u :=
  h.kept (fun k hk => hc.block k (h.lt k hk) (hd k hk)) hc.size
theorem Pr.below {w w' : World} {o : Bo} {b : Brd} {u : Nat} (h : Pr w o b u) (hb : Below w.heap.size w w') : Pr w' o b u :=
  h.kept (fun k hk => hb.block k (h.lt k hk)) hb.size
theorem Pr.le {w : World} {o : Bo} {b : Brd} {u v : Nat} (h : Pr w o b u) (huv : u ≤ v) : Pr w o b v := ⟨h.px, h.ry.le huv, h.ne⟩
/-- The law's world at wb, its list of boards at gb, the i-th of them at o. -/
structure LF (w : World) (wb gb cap i : Nat) (o : Bo) (b : Brd) (u : Nat) : Prop where
  c3 : w.cell? ⟨wb, 3, none⟩ = some (.slice (some ⟨gb, 0, none⟩) 2 cap)
  cx : w.cell? ⟨gb, i * 3, none⟩ = some (.pointer (some ⟨o.x, 0, none⟩))
  cy : w.cell? ⟨gb, i * 3 + 1, none⟩ = some (.pointer (some ⟨o.rb, 0, none⟩))
  pr : Pr w o b u
  hw : wb ∉ o.own
  hg : gb ∉ o.own
  hi : i < 2
theorem LF.chg {w w' : World} {wb gb cap i : Nat} {o : Bo} {b b' : Brd} {u v : Nat} {S : List Nat} (h : LF w wb gb cap i o b u) (hc : Chg w w' S) (h1 : wb ∉ S) (h2 : gb ∉ S) (hp : Pr w' o b' v) : LF w' wb gb cap i o b' v := by
  have l1 : wb < w.heap.size := World.block_lt_of_cell? _ _ h.c3
  have l2 : gb < w.heap.size := World.block_lt_of_cell? _ _ h.cx
  exact ⟨(World.cell?_of_block (a := ⟨wb, 3, none⟩) (hc.block wb l1 h1)).trans h.c3, (World.cell?_of_block (a := ⟨gb, i * 3, none⟩) (hc.block gb l2 h2)).trans h.cx, (World.cell?_of_block (a := ⟨gb, i * 3 + 1, none⟩) (hc.block gb l2 h2)).trans h.cy, hp, h.hw, h.hg, h.hi⟩
theorem LF.below {w w' : World} {wb gb cap i : Nat} {o : Bo} {b : Brd} {u : Nat} (h : LF w wb gb cap i o b u) (hb : Below w.heap.size w w') : LF w' wb gb cap i o b u :=
  h.chg (Chg.of_below [] hb) (by simp) (by simp) (h.pr.below hb)
/-- The first board of a pair has done something. -/
theorem Pr.first {w w1 : World} {o : Bo} {b : Brd} {u : Nat} (h : Pr w o b u) (hg : w.grownBy w1 (some o.x)) : RB w1 o.rb o.fb o.jb b u := by
  obtain ⟨n1, n2, n3⟩ := h.ne
  have hl := h.ry.lt
  exact h.ry.kept (fun k e => hg.block k (by rcases e with rfl | rfl | rfl <;> omega) (by rcases e with rfl | rfl | rfl <;> simp <;> omega)) hg.size
/-- The second one has done the same. -/
theorem Pr.second {w1 w2 : World} {o : Bo} {b : Brd} {u : Nat} (hx : BrdAt w1 o.x b) (hn : o.x ≠ o.rb ∧ o.x ≠ o.fb ∧ o.x ≠ o.jb) (hy : RB w2 o.rb o.fb o.jb b u) (hg : G3 w1 w2 o.rb o.fb o.jb) : Pr w2 o b u :=
  ⟨hx.kept (hg.block o.x hx.sto.lt hn.1 hn.2.1 hn.2.2) hg.size, hy, hn⟩
set_option maxRecDepth 100000 in
set_option maxHeartbeats 4000000 in
theorem lhears_any (wb gb cap i : Nat) (o : Bo) (b : Brd) (u v : Nat) (S : ByteArray) (w : World) (h : LF w wb gb cap i o b u) (hs : u + S.size ≤ 4000000000000 ∧ S.size ≤ 4000000) (huv : u ≤ v) (hv : ∀ r : REar, r.s.length ≤ u → (rHearF r S.data.toList).1.s.length ≤ v) :
    Calls Tryz.prog 22 #[.pointer (some ⟨wb, 0, none⟩), .int .i64 (i : Int), .string S] w fun e w' => (∃ T, e = .returned (.tuple #[.string T, .bool true])) ∧ (∃ b', Pr w' o b' v) ∧ Chg w w' o.own := by
  have c3 := h.c3
  have cx := h.cx
  have hii : (i : Int) < 2 := by have := h.hi; omega
  have HX := hideIt (bbHear_any o.x b S w h.pr.px (by omega))
  have HY := hideIt (fun w1 (hg : w.grownBy w1 (some o.x)) => rbhear_any o.rb o.fb o.jb b u v S w1 (h.pr.first hg) hs.1 huv hv)
  obtain ⟨T, hT⟩ : ∃ T, txt (bhearF b S.data.toList).2 = T := ⟨_, rfl⟩
  rw [hT] at HX HY
  obtain ⟨b', hb'⟩ : ∃ b', (bhearF b S.data.toList).1 = b' := ⟨_, rfl⟩
  rw [hb'] at HX HY
  have HH := hideIt h
  have hl1 : wb < w.heap.size := World.block_lt_of_cell? _ _ h.c3
  have hl2 : gb < w.heap.size := World.block_lt_of_cell? _ _ h.cx
  clear h hT hb' hv
  go_enter Tryz.func22, Tryz.ntmps22
  go_wp2_with fail
  refine HX.out.mono ?_
  rintro e w1 ⟨rfl, hx1, hg1⟩
  have k1 : Chg w w1 o.own := Chg.of_grown hg1 (by simp [Bo.own])
  have d3 : w1.cell? ⟨wb, 3, none⟩ = some (.slice (some ⟨gb, 0, none⟩) 2 cap) := (World.cell?_of_block (a := ⟨wb, 3, none⟩) (k1.block wb hl1 HH.out.hw)).trans c3
  have dy : w1.cell? ⟨gb, i * 3 + 1, none⟩ = some (.pointer (some ⟨o.rb, 0, none⟩)) := (World.cell?_of_block (a := ⟨gb, i * 3 + 1, none⟩) (k1.block gb hl2 HH.out.hg)).trans HH.out.cy
  have HG := hideIt (And.intro hx1 (And.intro hg1 k1))
  clear hx1 hg1 k1 c3 cx
  go_wp2_with fail
  refine (HY.out _ HG.out.2.1).mono ?_
  rintro e w2 ⟨rfl, hy2, hg2⟩
  have HZ := hideIt (And.intro hy2 hg2)
  clear hy2 hg2
  go_wp2
  go_ret2
  refine ⟨⟨_, rfl⟩, ⟨b', Pr.second HG.out.1 HH.out.pr.ne HZ.out.1 HZ.out.2⟩, HG.out.2.2.trans (Chg.of_g3 HZ.out.2 ?_ ?_ ?_)⟩
  all_goals simp [Bo.own]
end Go.Proofs.YthokdbcpkmcieaaGreat
namespace Go.Proofs.YthokdbcpkmcieaaGreat
open Go Go.RowKit
attribute [local go_sem ↓] Go.wp_at_zero Go.wp_at_succ
/-- What an act leaves of a pair. -/
def LEnd (w : World) (o : Bo) (v : Nat) (e : Ending) (w' : World) : Prop := e = .returned (.bool true) ∧ (∃ b', Pr w' o b' v) ∧ Chg w w' o.own
theorem rHearF_end (r : REar) (l : List UInt8) : (rHearF r (l ++ [126])).1.s = [] := by
  rw [rHearF_snoc]
  unfold rHearB
  rw [if_pos rfl]
theorem frameF_end (m : List UInt8) : ∃ l, frameF m = l ++ [126] := by
  unfold frameF
  exact ⟨_, (List.cons_append ..).symm⟩
/-- The act's own box. -/
def actL (K B H A C : Int) (S : ByteArray) : Array Value := #[.int .i64 K, .int .i64 B, .int .i64 H, .int .i64 A, .int .i64 C, .string S]
theorem act_cells (w : World) (K B H A C : Int) (S : ByteArray) : ∃ W, w.alloc (.cells #[.int .i64 K, .int .i64 B, .int .i64 H, .int .i64 A, .int .i64 C, .string S] 51) = W ∧ Below w.heap.size w W ∧ w.heap.size < W.heap.size ∧ W.cell? ⟨w.heap.size, 0, none⟩ = some (.int .i64 K) ∧ W.cell? ⟨w.heap.size, 3, none⟩ = some (.int .i64 A) ∧ W.cell? ⟨w.heap.size, 4, none⟩ = some (.int .i64 C) ∧ W.cell? ⟨w.heap.size, 5, none⟩ = some (.string S) := by
  refine ⟨_, rfl, (Below.refl _ _).alloc (Nat.le_refl _) _, by simp, ?_, ?_, ?_, ?_⟩
  all_goals
    rw [cell_of_row _ _ _ _ _ (0, 0) (heap_alloc_new w _)]
    rfl
set_option maxRecDepth 100000 in
set_option maxHeartbeats 4000000 in
theorem lboard_hear (wb gb cap i : Nat) (o : Bo) (b : Brd) (u : Nat) (B H A C : Int) (S : ByteArray) (w : World) (h : LF w wb gb cap i o b u) (hs : u + S.size ≤ 4000000000000 ∧ S.size ≤ 4000000) :
    Calls Tryz.prog 14 #[.pointer (some ⟨wb, 0, none⟩), .int .i64 (i : Int), .agg #[.int .i64 1, .int .i64 B, .int .i64 H, .int .i64 A, .int .i64 C, .string S]] w (LEnd w o (u + S.size)) := by
  obtain ⟨W, hW, hB, hz, k0, k3, k4, k5⟩ := act_cells w 1 B H A C S
  have h1 := h.below hB
  have c3 := h1.c3
  have cx := h1.cx
  have cy := h1.cy
  have hii : (i : Int) < 2 := by have := h.hi; omega
  have hlen : S.data.toList.length = S.size := by rw [Array.length_toList]; rfl
  have HC := hideIt (lhears_any wb gb cap i o b u (u + S.size) S W h1 hs (by omega) (fun r hr => by have := rHearF_len r S.data.toList; omega))
  have HB := hideIt hB
  clear h h1 hB
  go_enter Tryz.func14, Tryz.ntmps14
  go_wp2_with fail
  refine HC.out.mono ?_
  rintro e w1 ⟨⟨T, rfl⟩, hp, hc⟩
  have HP := hideIt (And.intro hp hc)
  clear hp hc
  go_wp2
  go_ret
  exact ⟨rfl, HP.out.1, (Chg.of_below _ HB.out).trans HP.out.2⟩
set_option maxRecDepth 100000 in
set_option maxHeartbeats 4000000 in
theorem lboard_ask (wb gb cap i : Nat) (o : Bo) (b : Brd) (u : Nat) (B H A C : Int) (S : ByteArray) (w : World) (h : LF w wb gb cap i o b u) (hu : u ≤ 3000000000000) (hs : S.size ≤ 4000000) :
    Calls Tryz.prog 14 #[.pointer (some ⟨wb, 0, none⟩), .int .i64 (i : Int), .agg #[.int .i64 2, .int .i64 B, .int .i64 H, .int .i64 A, .int .i64 C, .string S]] w (LEnd w o u) := by
  obtain ⟨W, hW, hB, hz, k0, k3, k4, k5⟩ := act_cells w 2 B H A C S
  have h1 := h.below hB
  have c3 := h1.c3
  have cx := h1.cx
  have cy := h1.cy
  have hii : (i : Int) < 2 := by have := h.hi; omega
  have HB := hideIt hB
  have HH := hideIt h1
  have hF : ∃ F c, (∀ w, Calls Tryz.prog 17 #[.string S] w fun e w' => e = .returned (.tuple #[.string F, .int .i64 c]) ∧ Below w.heap.size w w') ∧ F.size ≤ 1000 ∧ ∀ r : REar, r.s.length ≤ u → (rHearF r F.data.toList).1.s.length ≤ u := by
    by_cases hm : S.size < 1 ∨ 80 < S.size
    · exact ⟨⟨#[]⟩, 8, fun w => (rframe_bad S w hm hs).mono fun e w' ⟨h1, h2⟩ => ⟨h1, by rw [h2]; exact Below.refl _ _⟩, by decide, fun r hr => by simpa [rHearF] using hr⟩
    · refine ⟨txt (frameF S.data.toList), 0, fun w => rframe_any S w (by omega) (by omega), ?_, fun r _ => ?_⟩
      · rw [txt_size]
        have := frameF_len S.data.toList
        have hl : S.data.toList.length = S.size := by rw [Array.length_toList]; rfl
        omega
      · rw [txt_toList]
        obtain ⟨l, hl⟩ := frameF_end S.data.toList
        rw [hl, rHearF_end]
        simp
  obtain ⟨F, c, hF1, hF2, hF3⟩ := hF
  have HF := hideIt hF1
  have HC := hideIt (fun w1 (h1 : LF w1 wb gb cap i o b u) => lhears_any wb gb cap i o b u u F w1 h1 (by omega) (Nat.le_refl _) hF3)
  clear h h1 hB hF1 hF3
  go_enter Tryz.func14, Tryz.ntmps14
  go_wp2_with fail
  refine (HF.out _).mono ?_
  rintro e w1 ⟨rfl, hB1⟩
  have HB1 := hideIt hB1
  clear hB1
  go_wp2_with fail
  refine (HC.out _ (HH.out.below HB1.out)).mono ?_
  rintro e w2 ⟨⟨T, rfl⟩, hp, hc⟩
  have HP := hideIt (And.intro hp hc)
  clear hp hc
  go_wp2
  go_ret
  exact ⟨rfl, HP.out.1, (Chg.of_below _ HB.out).trans ((Chg.of_below _ HB1.out).trans HP.out.2)⟩
set_option maxRecDepth 100000 in
set_option maxHeartbeats 4000000 in
theorem lboard_cut (wb gb cap i : Nat) (o : Bo) (b : Brd) (u : Nat) (B H A C : Int) (S : ByteArray) (hA1 : -9223372036854775808 ≤ A) (hA2 : A ≤ 9223372036854775807) (w : World) (h : LF w wb gb cap i o b u) :
    Calls Tryz.prog 14 #[.pointer (some ⟨wb, 0, none⟩), .int .i64 (i : Int), .agg #[.int .i64 3, .int .i64 B, .int .i64 H, .int .i64 A, .int .i64 C, .string S]] w (LEnd w o u) := by
  obtain ⟨W, hW, hB, hz, k0, k3, k4, k5⟩ := act_cells w 3 B H A C S
  have h1 := h.below hB
  have c3 := h1.c3
  have cx := h1.cx
  have cy := h1.cy
  have hii : (i : Int) < 2 := by have := h.hi; omega
  have hxl := h.pr.lt o.x (by simp [Bo.own])
  have HB := hideIt hB
  have HX := hideIt (bbCut_any o.x b A C hA1 hA2 W h1.pr.px)
  have HY := hideIt (fun w1 (hg : W.grownBy w1 (some o.x)) => rcut_any o.rb o.fb o.jb b u A C hA1 hA2 w1 (h1.pr.first hg))
  have HN := hideIt h1.pr.ne
  clear h h1 hB
  go_enter Tryz.func14, Tryz.ntmps14
  go_wp2_with fail
  refine HX.out.mono ?_
  rintro e w1 ⟨rfl, hx1, hg1⟩
  have hbk := hg1.block w.heap.size hz (by simp; omega)
  have d3 : w1.cell? ⟨w.heap.size, 3, none⟩ = some (.int .i64 A) := (World.cell?_of_block (a := ⟨w.heap.size, 3, none⟩) hbk).trans k3
  have d4 : w1.cell? ⟨w.heap.size, 4, none⟩ = some (.int .i64 C) := (World.cell?_of_block (a := ⟨w.heap.size, 4, none⟩) hbk).trans k4
  have HG := hideIt (And.intro hx1 hg1)
  clear hx1 hg1 hbk
  go_wp2_with fail
  refine (HY.out _ HG.out.2).mono ?_
  rintro e w2 ⟨rfl, hy2, hg2⟩
  have HZ := hideIt (And.intro hy2 hg2)
  clear hy2 hg2
  go_wp2
  go_ret
  refine ⟨rfl, ⟨_, Pr.second HG.out.1 HN.out HZ.out.1 HZ.out.2⟩, (Chg.of_below _ HB.out).trans ((Chg.of_grown HG.out.2 ?_).trans (Chg.of_g3 HZ.out.2 ?_ ?_ ?_))⟩
  all_goals simp [Bo.own]
set_option maxRecDepth 100000 in
set_option maxHeartbeats 4000000 in
theorem lboard_boot (wb gb cap i : Nat) (o : Bo) (b : Brd) (u : Nat) (B H A C : Int) (S : ByteArray) (w : World) (h : LF w wb gb cap i o b u) :
    Calls Tryz.prog 14 #[.pointer (some ⟨wb, 0, none⟩), .int .i64 (i : Int), .agg #[.int .i64 4, .int .i64 B, .int .i64 H, .int .i64 A, .int .i64 C, .string S]] w (LEnd w o u) := by
  obtain ⟨W, hW, hB, hz, k0, k3, k4, k5⟩ := act_cells w 4 B H A C S
  have h1 := h.below hB
  have c3 := h1.c3
  have cx := h1.cx
  have cy := h1.cy
  have hii : (i : Int) < 2 := by have := h.hi; omega
  have HB := hideIt hB
  have HX := hideIt (bbBoot_any o.x b W h1.pr.px)
  have HY := hideIt (fun w1 (hg : W.grownBy w1 (some o.x)) => rboot_any o.rb o.fb o.jb b u w1 (h1.pr.first hg))
  have HN := hideIt h1.pr.ne
  clear h h1 hB
  go_enter Tryz.func14, Tryz.ntmps14
  go_wp2_with fail
  refine HX.out.mono ?_
  rintro e w1 ⟨rfl, hx1, hg1⟩
  have HG := hideIt (And.intro hx1 hg1)
  clear hx1 hg1
  go_wp2_with fail
  refine (HY.out _ HG.out.2).mono ?_
  rintro e w2 ⟨rfl, hy2, hg2⟩
  have HZ := hideIt (And.intro hy2 hg2)
  clear hy2 hg2
  go_wp2
  go_ret
  refine ⟨rfl, ⟨_, Pr.second HG.out.1 HN.out HZ.out.1 HZ.out.2⟩, (Chg.of_below _ HB.out).trans ((Chg.of_grown HG.out.2 ?_).trans (Chg.of_g3 HZ.out.2 ?_ ?_ ?_))⟩
  all_goals simp [Bo.own]
set_option maxRecDepth 100000 in
set_option maxHeartbeats 4000000 in
theorem lboard_on (wb gb cap i : Nat) (o : Bo) (b : Brd) (u : Nat) (B H A C : Int) (S : ByteArray) (w : World) (h : LF w wb gb cap i o b u) :
    Calls Tryz.prog 14 #[.pointer (some ⟨wb, 0, none⟩), .int .i64 (i : Int), .agg #[.int .i64 5, .int .i64 B, .int .i64 H, .int .i64 A, .int .i64 C, .string S]] w (LEnd w o u) := by
  obtain ⟨W, hW, hB, hz, k0, k3, k4, k5⟩ := act_cells w 5 B H A C S
  have h1 := h.below hB
  have c3 := h1.c3
  have cx := h1.cx
  have cy := h1.cy
  have hii : (i : Int) < 2 := by have := h.hi; omega
  have HB := hideIt hB
  have HX := hideIt (bbOn_any o.x b W h1.pr.px)
  have HY := hideIt (ron_any o.rb o.fb o.jb b u W h1.pr.ry)
  have HP := hideIt h1.pr
  clear h h1 hB
  go_enter Tryz.func14, Tryz.ntmps14
  go_wp2_with fail
  refine HX.out.mono ?_
  rintro e w1 ⟨rfl, rfl⟩
  go_wp2_with fail
  refine HY.out.mono ?_
  rintro e w2 ⟨rfl, rfl⟩
  go_wp2
  go_ret
  exact ⟨by simp, ⟨b, HP.out⟩, Chg.of_below _ HB.out⟩
set_option maxRecDepth 100000 in
set_option maxHeartbeats 4000000 in
theorem lboard_flash (wb gb cap i : Nat) (o : Bo) (b : Brd) (u : Nat) (B H A C : Int) (S : ByteArray) (w : World) (h : LF w wb gb cap i o b u) :
    Calls Tryz.prog 14 #[.pointer (some ⟨wb, 0, none⟩), .int .i64 (i : Int), .agg #[.int .i64 6, .int .i64 B, .int .i64 H, .int .i64 A, .int .i64 C, .string S]] w (LEnd w o u) := by
  obtain ⟨W, hW, hB, hz, k0, k3, k4, k5⟩ := act_cells w 6 B H A C S
  have h1 := h.below hB
  have c3 := h1.c3
  have cx := h1.cx
  have cy := h1.cy
  have hii : (i : Int) < 2 := by have := h.hi; omega
  have HB := hideIt hB
  have HX := hideIt (bbFlash_any o.x b W h1.pr.px)
  have HY := hideIt (fun w1 (hb : Below W.heap.size W w1) => rflash_any o.rb o.fb o.jb b u w1 (h1.pr.ry.below hb))
  obtain ⟨T, hT⟩ : ∃ T, txt (b.mem.take 1024) = T := ⟨_, rfl⟩
  rw [hT] at HX HY
  have HP := hideIt h1.pr
  clear h h1 hB hT
  go_enter Tryz.func14, Tryz.ntmps14
  go_wp2_with fail
  refine HX.out.mono ?_
  rintro e w1 ⟨rfl, hB1⟩
  have HB1 := hideIt hB1
  clear hB1
  go_wp2_with fail
  refine (HY.out _ HB1.out).mono ?_
  rintro e w2 ⟨rfl, rfl⟩
  go_wp2
  go_ret
  exact ⟨rfl, ⟨b, HP.out.below HB1.out⟩, (Chg.of_below _ HB.out).trans (Chg.of_below _ HB1.out)⟩
set_option maxRecDepth 100000 in
set_option maxHeartbeats 4000000 in
theorem lboard_burnt (wb gb cap i : Nat) (o : Bo) (b : Brd) (u : Nat) (B H A C : Int) (S : ByteArray) (w : World) (h : LF w wb gb cap i o b u) :
    Calls Tryz.prog 14 #[.pointer (some ⟨wb, 0, none⟩), .int .i64 (i : Int), .agg #[.int .i64 7, .int .i64 B, .int .i64 H, .int .i64 A, .int .i64 C, .string S]] w (LEnd w o u) := by
  obtain ⟨W, hW, hB, hz, k0, k3, k4, k5⟩ := act_cells w 7 B H A C S
  have h1 := h.below hB
  have c3 := h1.c3
  have cx := h1.cx
  have cy := h1.cy
  have hii : (i : Int) < 2 := by have := h.hi; omega
  have HB := hideIt hB
  have HX := hideIt (bbBurnt_any o.x b W h1.pr.px)
  have HY := hideIt (fun w1 (hb : Below W.heap.size W w1) => rbits_any o.rb o.fb o.jb b u w1 (h1.pr.ry.below hb))
  obtain ⟨T, hT⟩ : ∃ T, (bitsF b.mem : Int) = T := ⟨_, rfl⟩
  rw [hT] at HX HY
  have HP := hideIt h1.pr
  clear h h1 hB hT
  go_enter Tryz.func14, Tryz.ntmps14
  go_wp2_with fail
  refine HX.out.mono ?_
  rintro e w1 ⟨rfl, hB1⟩
  have HB1 := hideIt hB1
  clear hB1
  go_wp2_with fail
  refine (HY.out _ HB1.out).mono ?_
  rintro e w2 ⟨rfl, hB2⟩
  have HB2 := hideIt hB2
  clear hB2
  go_wp2
  go_ret
  exact ⟨by simp, ⟨b, (HP.out.below HB1.out).below HB2.out⟩, (Chg.of_below _ HB.out).trans ((Chg.of_below _ HB1.out).trans (Chg.of_below _ HB2.out))⟩
/-- An act of any of the seven kinds. -/
theorem lboard_any (wb gb cap i : Nat) (o : Bo) (b : Brd) (u : Nat) (K B H A C : Int) (S : ByteArray) (hA1 : -9223372036854775808 ≤ A) (hA2 : A ≤ 9223372036854775807) (w : World) (h : LF w wb gb cap i o b u) (hs : u ≤ 3000000000000 ∧ S.size ≤ 2000000) (hK1 : 1 ≤ K) (hK2 : K ≤ 7) :
    Calls Tryz.prog 14 #[.pointer (some ⟨wb, 0, none⟩), .int .i64 (i : Int), .agg #[.int .i64 K, .int .i64 B, .int .i64 H, .int .i64 A, .int .i64 C, .string S]] w (LEnd w o (u + S.size)) := by
  have mono : ∀ {e w'}, LEnd w o u e w' → LEnd w o (u + S.size) e w' := fun ⟨h1, ⟨b', h2⟩, h3⟩ => ⟨h1, ⟨b', h2.le (by omega)⟩, h3⟩
  have hc : K = 1 ∨ K = 2 ∨ K = 3 ∨ K = 4 ∨ K = 5 ∨ K = 6 ∨ K = 7 := by omega
  rcases hc with rfl | rfl | rfl | rfl | rfl | rfl | rfl
  · exact lboard_hear wb gb cap i o b u B H A C S w h (by omega)
  · exact (lboard_ask wb gb cap i o b u B H A C S w h (by omega) (by omega)).mono fun _ _ => mono
  · exact (lboard_cut wb gb cap i o b u B H A C S hA1 hA2 w h).mono fun _ _ => mono
  · exact (lboard_boot wb gb cap i o b u B H A C S w h).mono fun _ _ => mono
  · exact (lboard_on wb gb cap i o b u B H A C S w h).mono fun _ _ => mono
  · exact (lboard_flash wb gb cap i o b u B H A C S w h).mono fun _ _ => mono
  · exact (lboard_burnt wb gb cap i o b u B H A C S w h).mono fun _ _ => mono
end Go.Proofs.YthokdbcpkmcieaaGreat
namespace Go.Proofs.YthokdbcpkmcieaaGreat
open Go Go.RowKit
attribute [local go_sem ↓] Go.wp_at_zero Go.wp_at_succ
def boCells (o : Bo) : List Value := [.pointer (some ⟨o.x, 0, none⟩), .pointer (some ⟨o.rb, 0, none⟩), .slice none 0 0]
/-- The law's world at wb, with the boards that it has so far. -/
structure LB (w wr : World) (wb : Nat) (os : List Bo) (v : Value) : Prop where
  c3 : wr.cell? ⟨wb, 3, none⟩ = some v
  c4 : wr.cell? ⟨wb, 4, none⟩ = some (.slice none 0 0)
  fz : wr.frozen? ⟨wb, 3, none⟩ = false
  row : wr.ownsRow (wb + 1) 42 3 v os.length (os.flatMap boCells)
  prs : ∀ o ∈ os, Pr wr o brd0 0
  apart : ∀ o ∈ os, ∀ k ∈ o.own, k ≠ wb ∧ v.ownBlock ≠ some k ∧ w.heap.size ≤ k
  dis : os.Pairwise (fun a b => ∀ k ∈ a.own, k ∉ b.own)
  below : Below w.heap.size w wr
  ge : w.heap.size ≤ wb
theorem LB.step {w wr w1 w2 wn : World} {wb bb fb jb : Nat} {os : List Bo} {v v' : Value} {ob : Obj} (h : LB w wr wb os v) (hbb : wr.heap.size ≤ bb) (hb1 : BrdAt w1 bb brd0) (hB1 : Below wr.heap.size wr w1) (hfb : w1.heap.size < fb) (hjb : w1.heap.size < jb) (hr2 : RB w2 w1.heap.size fb jb brd0 0) (hB2 : Below w1.heap.size w1 w2)
    (hown : wn.ownsRow (wb + 1) 42 3 v' (os.length + 1) (os.flatMap boCells ++ boCells ⟨bb, w1.heap.size, fb, jb⟩)) (hgr : (w2.alloc ob).grownBy wn v.ownBlock) (hloc : v'.ownBlock = v.ownBlock ∨ v'.ownBlock = some (w2.alloc ob).heap.size) :
    LB w (wn.setCell ⟨wb, 3, none⟩ v') wb (os ++ [⟨bb, w1.heap.size, fb, jb⟩]) v' := by
  have hwl : wb < wr.heap.size := World.block_lt_of_cell? _ _ h.c3
  have z1 := hB1.size
  have z2 := hB2.size
  have z3 : w2.heap.size + 1 ≤ wn.heap.size := by have := hgr.size; simpa using this
  have hr := hr2.lt
  have hxl := hb1.sto.lt
  have hvb : ∀ g, v.ownBlock = some g → wb + 1 ≤ g ∧ g < wr.heap.size := fun g hg => h.row.lt g hg
  have kn : ∀ k, k < w2.heap.size → v.ownBlock ≠ some k → wn.heap[k]? = w2.heap[k]? := fun k hk hne => by
    rw [hgr.block k (by simp; omega) (fun e => hne e.symm), Below.heap_alloc _ _ _ hk]
  have ko : ∀ k, k < wr.heap.size → v.ownBlock ≠ some k → wn.heap[k]? = wr.heap[k]? := fun k hk hne => by
    rw [kn k (by omega) hne, hB2.block k (by omega), hB1.block k hk]
  have ks : ∀ k, k ≠ wb → (wn.setCell ⟨wb, 3, none⟩ v').heap[k]? = wn.heap[k]? := fun k hk => heap_setCell_other wn ⟨wb, 3, none⟩ k v' hk
  have kz : (wn.setCell ⟨wb, 3, none⟩ v').heap.size = wn.heap.size := by simp [World.setCell]
  have hwb : v.ownBlock ≠ some wb := fun e => by have := (hvb wb e).1; omega
  have ewb : wn.heap[wb]? = wr.heap[wb]? := ko wb hwl hwb
  have hnew : ∀ k ∈ (⟨bb, w1.heap.size, fb, jb⟩ : Bo).own, wr.heap.size ≤ k ∧ k < w2.heap.size := by
    intro k hk
    simp only [Bo.own, List.mem_cons, List.not_mem_nil, or_false] at hk
    rcases hk with rfl | rfl | rfl | rfl <;> omega
  refine ⟨World.cell?_setCell_same _ _ _ ((World.cell?_of_block (a := ⟨wb, 3, none⟩) ewb).trans h.c3), (World.cell?_setCell_other _ _ _ _ (by simp)).trans ((World.cell?_of_block (a := ⟨wb, 4, none⟩) ewb).trans h.c4), ?_, ?_, ?_, ?_, ?_, ?_, h.ge⟩
  · have := (World.frozen?_of_block (a := ⟨wb, 3, none⟩) ewb).trans h.fz
    simp [this]
  · rw [List.length_append, List.flatMap_append]
    have : List.flatMap boCells [(⟨bb, w1.heap.size, fb, jb⟩ : Bo)] = boCells ⟨bb, w1.heap.size, fb, jb⟩ := by simp [List.flatMap]
    rw [this]
    exact own_set hown (by omega)
  · intro o ho
    rw [List.mem_append, List.mem_singleton] at ho
    rcases ho with ho | rfl
    · have hp := h.prs o ho
      refine hp.kept (fun k hk => ?_) (by rw [kz]; omega)
      obtain ⟨a1, a2, _⟩ := h.apart o ho k hk
      rw [ks k a1, ko k (hp.lt k hk) a2]
    · refine ⟨hb1.kept ?_ (by rw [kz]; omega), hr2.kept (fun k e => ?_) (by rw [kz]; omega), ⟨by simp only; omega, by simp only; omega, by simp only; omega⟩⟩
      · rw [ks bb (by omega), kn bb (by omega) (fun e => by have := (hvb bb e).2; omega), hB2.block bb hxl]
      · have hk2 : wr.heap.size ≤ k ∧ k < w2.heap.size := by rcases e with rfl | rfl | rfl <;> omega
        rw [ks k (by omega), kn k hk2.2 (fun e => by have := (hvb k e).2; omega)]
  · intro o ho k hk
    rw [List.mem_append, List.mem_singleton] at ho
    rcases ho with ho | rfl
    · obtain ⟨a1, a2, a3⟩ := h.apart o ho k hk
      refine ⟨a1, ?_, a3⟩
      rcases hloc with e | e
      · rw [e]; exact a2
      · rw [e]
        have := (h.prs o ho).lt k hk
        simp
        omega
    · obtain ⟨n1, n2⟩ := hnew k hk
      have hbz := h.below.size
      refine ⟨by omega, ?_, by omega⟩
      rcases hloc with e | e
      · rw [e]; exact fun e => by have := (hvb k e).2; omega
      · rw [e]
        simp
        omega
  · rw [List.pairwise_append]
    refine ⟨h.dis, List.pairwise_singleton _ _, fun a ha b hb k hk hk2 => ?_⟩
    rw [List.mem_singleton] at hb
    subst hb
    have := (h.prs a ha).lt k hk
    have := (hnew k hk2).1
    omega
  · refine ⟨hgr.os.trans (hB2.os.trans (hB1.os.trans h.below.os)), hgr.tape.trans (hB2.tape.trans (hB1.tape.trans h.below.tape)), hgr.output.trans (hB2.output.trans (hB1.output.trans h.below.output)), by rw [kz]; have := h.below.size; omega, fun k hk => ?_⟩
    have hg := h.ge
    have hbz := h.below.size
    rw [ks k (by omega), ko k (by omega) (fun e => by have := (hvb k e).1; omega), h.below.block k hk]
/-- The two pairs, what they have become. -/
structure LW (w wr : World) (wb gb cap : Nat) (o0 o1 : Bo) (u : Nat) : Prop where
  f0 : ∃ b, LF wr wb gb cap 0 o0 b u
  f1 : ∃ b, LF wr wb gb cap 1 o1 b u
  c4 : wr.cell? ⟨wb, 4, none⟩ = some (.slice none 0 0)
  d01 : ∀ k ∈ o0.own, k ∉ o1.own
  d10 : ∀ k ∈ o1.own, k ∉ o0.own
  n0 : ∀ k ∈ o0.own, w.heap.size ≤ k
  n1 : ∀ k ∈ o1.own, w.heap.size ≤ k
  below : Below w.heap.size w wr
theorem two_of_len {os : List Bo} (h : os.length = 2) : ∃ a b, os = [a, b] := by
  match os, h with
  | [a, b], _ => exact ⟨a, b, rfl⟩
theorem LB.whole {w wr : World} {wb : Nat} {os : List Bo} {v : Value} (h : LB w wr wb os v) (hl : os.length = 2) : ∃ gb cap o0 o1, v = .slice (some ⟨gb, 0, none⟩) 2 cap ∧ LW w wr wb gb cap o0 o1 0 := by
  obtain ⟨o0, o1, rfl⟩ := two_of_len hl
  obtain ⟨gb, cap, rfl, h1, h2⟩ := own_some h.row (by simp)
  have hc : ∀ j x, (List.flatMap boCells [o0, o1])[j]? = some x → wr.cell? ⟨gb, j, none⟩ = some x := fun j x hx => by
    have := h.row.cells (g := gb) rfl j x hx
    rwa [Addr.add_lit, Nat.zero_add] at this
  have a0 := h.apart o0 (by simp)
  have a1 := h.apart o1 (by simp)
  have hd := h.dis
  rw [List.pairwise_cons] at hd
  have d01 := hd.1 o1 (by simp)
  refine ⟨gb, cap, o0, o1, rfl, ⟨⟨brd0, h.c3, hc 0 _ rfl, hc 1 _ rfl, h.prs o0 (by simp), fun e => (a0 _ e).1 rfl, fun e => (a0 _ e).2.1 rfl, by decide⟩, ⟨brd0, h.c3, hc 3 _ rfl, hc 4 _ rfl, h.prs o1 (by simp), fun e => (a1 _ e).1 rfl, fun e => (a1 _ e).2.1 rfl, by decide⟩, h.c4, d01, fun k hk e => d01 k e hk, fun k hk => (a0 k hk).2.2, fun k hk => (a1 k hk).2.2, h.below⟩⟩
/-- The one that is meant. -/
def oAt (o0 o1 : Bo) (i : Nat) : Bo := if i = 0 then o0 else o1
theorem LW.at {w wr : World} {wb gb cap : Nat} {o0 o1 : Bo} {u : Nat} (h : LW w wr wb gb cap o0 o1 u) (i : Nat) (hi : i < 2) : ∃ b, LF wr wb gb cap i (oAt o0 o1 i) b u := by
  have : i = 0 ∨ i = 1 := by omega
  rcases this with rfl | rfl
  · exact h.f0
  · exact h.f1
theorem LW.act {w wr w' : World} {wb gb cap : Nat} {o0 o1 : Bo} {u v : Nat} (h : LW w wr wb gb cap o0 o1 u) (i : Nat) (hi : i < 2) (hp : ∃ b', Pr w' (oAt o0 o1 i) b' v) (hc : Chg wr w' (oAt o0 o1 i).own) (huv : u ≤ v) : LW w w' wb gb cap o0 o1 v := by
  have hi2 : i = 0 ∨ i = 1 := by omega
  obtain ⟨b0, h0⟩ := h.f0
  obtain ⟨b1, h1⟩ := h.f1
  obtain ⟨b', hp⟩ := hp
  have hwl : wb < wr.heap.size := World.block_lt_of_cell? _ _ h.c4
  rcases hi2 with rfl | rfl
  · have hc' : Chg wr w' o0.own := hc
    refine ⟨⟨b', h0.chg hc' h0.hw h0.hg hp⟩, ⟨b1, h1.chg hc' h0.hw h0.hg ((h1.pr.chg hc' h.d10).le huv)⟩, (World.cell?_of_block (a := ⟨wb, 4, none⟩) (hc'.block wb hwl h0.hw)).trans h.c4, h.d01, h.d10, h.n0, h.n1, ?_⟩
    exact ⟨hc'.os.trans h.below.os, hc'.tape.trans h.below.tape, hc'.output.trans h.below.output, Nat.le_trans h.below.size hc'.size, fun k hk => (hc'.block k (Nat.lt_of_lt_of_le hk h.below.size) (fun e => by have := h.n0 k e; omega)).trans (h.below.block k hk)⟩
  · have hc' : Chg wr w' o1.own := hc
    refine ⟨⟨b0, h0.chg hc' h1.hw h1.hg ((h0.pr.chg hc' h.d01).le huv)⟩, ⟨b', h1.chg hc' h1.hw h1.hg hp⟩, (World.cell?_of_block (a := ⟨wb, 4, none⟩) (hc'.block wb hwl h1.hw)).trans h.c4, h.d01, h.d10, h.n0, h.n1, ?_⟩
    exact ⟨hc'.os.trans h.below.os, hc'.tape.trans h.below.tape, hc'.output.trans h.below.output, Nat.le_trans h.below.size hc'.size, fun k hk => (hc'.block k (Nat.lt_of_lt_of_le hk h.below.size) (fun e => by have := h.n1 k e; omega)).trans (h.below.block k hk)⟩
theorem LW.grow {w wr w' : World} {wb gb cap : Nat} {o0 o1 : Bo} {u : Nat} (h : LW w wr wb gb cap o0 o1 u) (hb : Below wr.heap.size wr w') : LW w w' wb gb cap o0 o1 u := by
  obtain ⟨b0, h0⟩ := h.f0
  obtain ⟨b1, h1⟩ := h.f1
  exact ⟨⟨b0, h0.below hb⟩, ⟨b1, h1.below hb⟩, (World.cell?_of_block (a := ⟨wb, 4, none⟩) (hb.block wb (World.block_lt_of_cell? _ _ h.c4))).trans h.c4, h.d01, h.d10, h.n0, h.n1, h.below.trans (hb.mono h.below.size)⟩
theorem LW.le {w wr : World} {wb gb cap : Nat} {o0 o1 : Bo} {u v : Nat} (h : LW w wr wb gb cap o0 o1 u) (huv : u ≤ v) : LW w wr wb gb cap o0 o1 v := by
  obtain ⟨b0, h0⟩ := h.f0
  obtain ⟨b1, h1⟩ := h.f1
  exact ⟨⟨b0, h0.c3, h0.cx, h0.cy, h0.pr.le huv, h0.hw, h0.hg, h0.hi⟩, ⟨b1, h1.c3, h1.cx, h1.cy, h1.pr.le huv, h1.hw, h1.hg, h1.hi⟩, h.c4, h.d01, h.d10, h.n0, h.n1, h.below⟩
end Go.Proofs.YthokdbcpkmcieaaGreat
namespace Go.Proofs.YthokdbcpkmcieaaGreat
open Go Go.RowKit
attribute [local go_sem ↓] Go.wp_at_zero Go.wp_at_succ
set_option maxRecDepth 100000 in
set_option maxHeartbeats 2000000 in
theorem lpick_any (c : Int) (n : Nat) (hc1 : -9223372036854775808 ≤ c) (hc2 : c ≤ 9223372036854775807) (hn1 : 1 ≤ n) (hn2 : n ≤ 4000000) (w : World) :
    Calls Tryz.prog 13 #[.int .i64 c, .int .i64 (n : Int)] w fun e w' => ∃ k : Nat, k < n ∧ e = .returned (.int .i64 (k : Int)) ∧ w' = w := by
  have hn0 : ¬ (n : Int) = 0 := by omega
  by_cases h : c < 0
  · obtain ⟨d, hd⟩ : ∃ d : Nat, -(c + 1) = (d : Int) := ⟨(-(c + 1)).toNat, by omega⟩
    go_enter Tryz.func13, Tryz.ntmps13
    go_wp2
    go_ret
    exact ⟨d % n, Nat.mod_lt _ (by omega), by show Ending.returned (.int .i64 ((d : Int) % (n : Int))) = _; rw [Int.natCast_emod], rfl⟩
  · obtain ⟨d, rfl⟩ : ∃ d : Nat, c = (d : Int) := ⟨c.toNat, by omega⟩
    go_enter Tryz.func13, Tryz.ntmps13
    go_wp2
    go_ret
    exact ⟨d % n, Nat.mod_lt _ (by omega), by show Ending.returned (.int .i64 ((d : Int) % (n : Int))) = _; rw [Int.natCast_emod], rfl⟩
theorem open_is : bhearF brd0 (frameF [0, 7, 9, 1]) = (⟨true, pow0, mem0, ⟨1, []⟩, ⟨true, 7, 9, frameF [0, 7, 9, 1]⟩⟩, frameF [0, 7, 9, 1]) := by
  rw [bhear_one rfl quiet_0 _ (by simp) (by simp)]
  rfl
set_option maxRecDepth 100000 in
set_option maxHeartbeats 2000000 in
theorem opens_any (w : World) : Calls Tryz.prog 9 #[] w fun e w' => e = .returned (.bool true) ∧ Below w.heap.size w w' := by
  have HN := hideIt (newBoard_any w)
  have HF : Hid (∀ w', Calls Tryz.prog 17 #[.string ⟨#[0, 7, 9, 1]⟩] w' fun e w'' => e = .returned (.tuple #[.string (txt (frameF [0, 7, 9, 1])), .int .i64 0]) ∧ Below w'.heap.size w' w'') := fun w' => rframe_any ⟨#[0, 7, 9, 1]⟩ w' (by decide) (by decide)
  have HH : Hid (∀ bb w', BrdAt w' bb brd0 → Calls Tryz.prog 18 #[.pointer (some ⟨bb, 0, none⟩), .string (txt (frameF [0, 7, 9, 1]))] w' fun e w'' => e = .returned (.string (txt (frameF [0, 7, 9, 1]))) ∧ w'.grownBy w'' (some bb)) := fun bb w' h => by
    have := bbHear_any bb brd0 (txt (frameF [0, 7, 9, 1])) w' h (by rw [txt_size]; decide +kernel)
    rw [txt_toList, open_is] at this
    exact this.mono fun e w'' ⟨h1, _, h3⟩ => ⟨h1, h3⟩
  obtain ⟨F, hF⟩ : ∃ F, txt (frameF [0, 7, 9, 1]) = F := ⟨_, rfl⟩
  rw [hF] at HF HH
  clear hF
  go_enter Tryz.func9, Tryz.ntmps9
  go_wp2_with fail
  refine HN.out.mono ?_
  rintro e w1 ⟨bb, rfl, hbb, hb1, hB1⟩
  have HB := hideIt (And.intro hbb (And.intro hb1 hB1))
  clear hbb hb1 hB1
  go_wp2_with fail
  refine (HF.out _).mono ?_
  rintro e w2 ⟨rfl, hB2⟩
  have HB2 := hideIt hB2
  clear hB2
  go_wp2_with fail
  refine (HH.out bb _ (HB.out.2.1.below HB2.out)).mono ?_
  rintro e w3 ⟨rfl, hG3⟩
  have HG := hideIt hG3
  clear hG3
  go_wp2
  go_ret
  exact ⟨rfl, grown_to_below (HB.out.2.2.trans (HB2.out.mono HB.out.2.2.size)) HG.out HB.out.1⟩
set_option maxRecDepth 100000 in
set_option maxHeartbeats 2000000 in
theorem copied_nil (w : World) : Calls Tryz.prog 6 #[.agg #[.slice none 0 0, .slice none 0 0, .slice none 0 0]] w fun e w' => e = .returned (.agg #[.slice none 0 0, .slice none 0 0, .slice none 0 0]) ∧ Below w.heap.size w w' := by
  go_enter Tryz.func6, Tryz.ntmps6
  go_wp2
  have hh : (((w.alloc (.cells #[.slice none 0 0, .slice none 0 0, .slice none 0 0] 27)).alloc (.cells #[.slice none 0 0, .slice none 0 0, .slice none 0 0] 27)).alloc (.cells #[.slice none 0 0, .slice none 0 0, .slice none 0 0] 27)).heap[w.heap.size + 1]? = some (.cells #[.slice none 0 0, .slice none 0 0, .slice none 0 0] 27) := by
    rw [Below.heap_alloc _ _ _ (by simp)]
    have := heap_alloc_new (w.alloc (.cells #[.slice none 0 0, .slice none 0 0, .slice none 0 0] 27)) (.cells #[.slice none 0 0, .slice none 0 0, .slice none 0 0] 27)
    rwa [World.alloc_size] at this
  refine bodyPost_ret (results_cell_mid rfl _ _ (w.heap.size + 1) [.slice none 0 0, .slice none 0 0, .slice none 0 0] _ rfl ?_ Tryz.underlying27 rfl (by kernel_rfl)) rfl ?_
  · intro j u hu
    rw [cell_of_row _ _ _ _ _ (0, 0) hh, Nat.zero_add]
    simpa using hu
  · exact ⟨rfl, (((Below.refl _ _).alloc (Nat.le_refl _) _).alloc (by simp) _).alloc (by simp; omega) _⟩
end Go.Proofs.YthokdbcpkmcieaaGreat
