/- The law's host: Say. -/
import Derived.Test.YthokdbcpkmcieaaGreatLHo9
namespace Go.Proofs.YthokdbcpkmcieaaGreat
open Go Go.RowKit
theorem Way.last {w : World} {v : Value} {n M : Nat} (h : Way w v (n + 1) M) : ∀ g, v.ownBlock = some g → g < w.heap.size := by
  obtain ⟨a, cap, rfl, h1, _, h3⟩ := h.is
  obtain ⟨g, off, rfl, hg, _⟩ := h3 (by omega)
  intro g' e
  have e' : g = g' := by simpa [Value.ownBlock] using e
  rw [← e']
  exact hg
theorem Way.drew {w : World} {v : Value} {n M : Nat} (h : Way w v n M) : Way w.drew v n M := h.kept (fun _ _ _ => rfl) (Nat.le_refl _)
theorem cell_new_one (w : World) (x : Value) (t : TypeId) : (w.alloc (.cells #[x] t)).cell? ⟨w.heap.size, 0, none⟩ = some x := by
  rw [cell_of_row _ _ _ _ _ (0, 0) (heap_alloc_new w _)]
  rfl
theorem Way.slice {w : World} {v : Value} {n M : Nat} (h : Way w v n M) : ∃ a c, v = .slice a n c := by
  obtain ⟨a, cap, e, _⟩ := h.is
  exact ⟨a, cap, e⟩
section
variable {w wr wn : World} {wb gb gcap : Nat} {o : Nat → Bo} {col : Nat → Nat} {bv : Nat → Value} {hs : List HR} {hv i0 i1 i2 : Value} {im : Img} {nb : Nat → Nat} {u v : Nat} {ob : Obj} {x : Value} {n bi i : Nat}
theorem HW.pushB (h : HW w wr wb gb gcap o col bv hs hv i0 i1 i2 im nbR u) (hbi : bi < 2) (i : Nat) (hx : Way wn x (n + 1) 200) (hn : n ≤ 12) (hg : (wr.alloc ob).grownBy wn (bv bi).ownBlock) (hl : x.ownBlock = (bv bi).ownBlock ∨ ∃ g, x.ownBlock = some g ∧ (wr.alloc ob).heap.size ≤ g) :
    wn.cell? ⟨gb, bi * 3 + 2, none⟩ = some (bv bi) ∧ wn.frozen? ⟨gb, bi * 3 + 2, none⟩ = false ∧ ∃ col' bv', HW w (wn.setCell ⟨gb, bi * 3 + 2, none⟩ x) wb gb gcap o col' bv' hs hv i0 i1 i2 im (nbM bi i) u := by
  have hgl : gb < wr.heap.size := World.block_lt_of_cell? _ _ (h.gx 0 (by decide))
  have hz : wr.heap.size + 1 ≤ wn.heap.size := by have := hg.size; simpa using this
  have e : wn.heap[gb]? = wr.heap[gb]? := by
    rw [hg.block gb (by simp; omega) (fun e => by have := (h.kv bi hbi gb e.symm).1; rw [h.kg] at this; omega), Below.heap_alloc _ _ _ hgl]
  refine ⟨(World.cell?_of_block (a := ⟨gb, bi * 3 + 2, none⟩) e).trans (h.gv bi hbi), (World.frozen?_of_block (a := ⟨gb, bi * 3 + 2, none⟩) e).trans (h.fg _), Proofs.YthokdbcpkmcieaaGreat.recol col wr.heap.size (20 + bi), (fun j => if j = bi then x else bv j), ?_⟩
  refine ((h.begin bi i).recol (20 + bi)).setB bi hbi ⟨hg.os, hg.tape, hg.output, by omega, fun k hk hne => ?_⟩ x (n + 1) (by rw [nbM_b]; omega) hx (fun g eg => ⟨?_, hx.last g eg⟩)
  · rw [hg.block k (by simp; omega) (fun e => hne (by rw [recol_lt hk]; exact (h.kv bi hbi k e.symm).1)), Below.heap_alloc _ _ _ hk]
  · rcases hl with e | ⟨g', e, hg'⟩
    · have := h.kv bi hbi g (e.symm.trans eg)
      rw [recol_lt this.2]
      exact this.1
    · have e' : g' = g := by rw [eg] at e; exact (Option.some.inj e).symm
      refine recol_ge ?_
      simp at hg'
      omega
theorem HW.pushH {gh hcap : Nat} (h : HW w wr wb gb gcap o col bv hs (.slice (some ⟨gh, 0, none⟩) hs.length hcap) i0 i1 i2 im nbR u) (hi : i < hs.length) (bi : Nat) (hx : Way wn x (n + 1) 40000) (hn : n ≤ 12) (hg : (wr.alloc ob).grownBy wn hs[i].v.ownBlock) (hl : x.ownBlock = hs[i].v.ownBlock ∨ ∃ g, x.ownBlock = some g ∧ (wr.alloc ob).heap.size ≤ g) :
    wn.cell? ⟨gh, i * 3 + 2, none⟩ = some hs[i].v ∧ wn.frozen? ⟨gh, i * 3 + 2, none⟩ = false ∧ ∃ col' hs', hs'.length = hs.length ∧ HW w (wn.setCell ⟨gh, i * 3 + 2, none⟩ x) wb gb gcap o col' bv hs' (.slice (some ⟨gh, 0, none⟩) hs'.length hcap) i0 i1 i2 im (nbM bi i) u := by
  have hgl : gh < wr.heap.size := (h.row.lt gh rfl).2
  have hgh := h.kh gh rfl
  have hz : wr.heap.size + 1 ≤ wn.heap.size := by have := hg.size; simpa using this
  have e : wn.heap[gh]? = wr.heap[gh]? := by
    rw [hg.block gh (by simp; omega) (fun e => by have := (h.ks i hi gh e.symm).1; rw [hgh] at this; omega), Below.heap_alloc _ _ _ hgl]
  obtain ⟨gh', hcap', eh, _, q1, q2, _⟩ := h.host i hi
  cases eh
  refine ⟨(World.cell?_of_block (a := ⟨gh, i * 3 + 2, none⟩) e).trans q1, (World.frozen?_of_block (a := ⟨gh, i * 3 + 2, none⟩) e).trans (q2 _), Proofs.YthokdbcpkmcieaaGreat.recol col wr.heap.size (40 + i), hs.set i ⟨hs[i].x, hs[i].y, x⟩, List.length_set, ?_⟩
  rw [List.length_set]
  refine ((h.begin bi i).recol (40 + i)).setH i hi ⟨hg.os, hg.tape, hg.output, by omega, fun k hk hne => ?_⟩ x (n + 1) (by rw [nbM_h]; omega) hx (fun g eg => ⟨?_, hx.last g eg⟩)
  · rw [hg.block k (by simp; omega) (fun e => hne (by rw [recol_lt hk]; exact (h.ks i hi k e.symm).1)), Below.heap_alloc _ _ _ hk]
  · rcases hl with e | ⟨g', e, hg'⟩
    · have := h.ks i hi g (e.symm.trans eg)
      rw [recol_lt this.2]
      exact this.1
    · have e' : g' = g := by rw [eg] at e; exact (Option.some.inj e).symm
      refine recol_ge ?_
      simp at hg'
      omega
theorem HW.takeB (h : HW w wr wb gb gcap o col bv hs hv i0 i1 i2 im nb u) (hbi : bi < 2) (hT : Taken wr wn (bv bi) x n 200) (hn : n ≤ nb (20 + bi)) :
    wn.cell? ⟨gb, bi * 3 + 2, none⟩ = some (bv bi) ∧ wn.frozen? ⟨gb, bi * 3 + 2, none⟩ = false ∧ ∃ col' bv', HW w (wn.setCell ⟨gb, bi * 3 + 2, none⟩ x) wb gb gcap o col' bv' hs hv i0 i1 i2 im nb u := by
  obtain ⟨⟨n', hn', hx⟩, hl, hb⟩ := hT
  have hgl : gb < wr.heap.size := World.block_lt_of_cell? _ _ (h.gx 0 (by decide))
  have e := hb.block gb hgl
  refine ⟨(World.cell?_of_block (a := ⟨gb, bi * 3 + 2, none⟩) e).trans (h.gv bi hbi), (World.frozen?_of_block (a := ⟨gb, bi * 3 + 2, none⟩) e).trans (h.fg _), Proofs.YthokdbcpkmcieaaGreat.recol col wr.heap.size (20 + bi), (fun j => if j = bi then x else bv j), ?_⟩
  refine (h.recol (20 + bi)).setB bi hbi (ChgP.of_below _ hb) x n' (Nat.le_trans hn' hn) hx (fun g eg => ?_)
  rcases hl g eg with e | ⟨e1, e2⟩
  · have := h.kv bi hbi g e
    rw [recol_lt this.2]
    exact ⟨this.1, Nat.lt_of_lt_of_le this.2 hb.size⟩
  · exact ⟨recol_ge e1, e2⟩
theorem HW.takeH {gh hcap : Nat} (h : HW w wr wb gb gcap o col bv hs (.slice (some ⟨gh, 0, none⟩) hs.length hcap) i0 i1 i2 im nb u) (hi : i < hs.length) (hT : Taken wr wn hs[i].v x n 40000) (hn : n ≤ nb (40 + i)) :
    wn.cell? ⟨gh, i * 3 + 2, none⟩ = some hs[i].v ∧ wn.frozen? ⟨gh, i * 3 + 2, none⟩ = false ∧ ∃ col' hs', hs'.length = hs.length ∧ HW w (wn.setCell ⟨gh, i * 3 + 2, none⟩ x) wb gb gcap o col' bv hs' (.slice (some ⟨gh, 0, none⟩) hs'.length hcap) i0 i1 i2 im nb u := by
  obtain ⟨⟨n', hn', hx⟩, hl, hb⟩ := hT
  have hgl : gh < wr.heap.size := (h.row.lt gh rfl).2
  have e := hb.block gh hgl
  obtain ⟨gh', hcap', eh, _, q1, q2, _⟩ := h.host i hi
  cases eh
  refine ⟨(World.cell?_of_block (a := ⟨gh, i * 3 + 2, none⟩) e).trans q1, (World.frozen?_of_block (a := ⟨gh, i * 3 + 2, none⟩) e).trans (q2 _), Proofs.YthokdbcpkmcieaaGreat.recol col wr.heap.size (40 + i), hs.set i ⟨hs[i].x, hs[i].y, x⟩, List.length_set, ?_⟩
  rw [List.length_set]
  refine (h.recol (40 + i)).setH i hi (ChgP.of_below _ hb) x n' (Nat.le_trans hn' hn) hx (fun g eg => ?_)
  rcases hl g eg with e | ⟨e1, e2⟩
  · have := h.ks i hi g e
    rw [recol_lt this.2]
    exact ⟨this.1, Nat.lt_of_lt_of_le this.2 hb.size⟩
  · exact ⟨recol_ge e1, e2⟩
end
end Go.Proofs.YthokdbcpkmcieaaGreat
namespace Go.Proofs.YthokdbcpkmcieaaGreat
open Go Go.RowKit
attribute [local go_sem ↓] Go.wp_at_zero Go.wp_at_succ
theorem empty_not {T : ByteArray} (h : ¬ T = ⟨#[]⟩) : T.toList.isEmpty = false := by
  rw [ByteArray.toList_eq]
  cases e : T.data.toList with
  | nil => exact absurd (by cases T; simp at e; simp [e]) h
  | cons a b => rfl
theorem HEnd.mkL {w w' : World} {wb gb gcap : Nat} {o : Nat → Bo} {n m : Nat} {i0 i1 i2 : Value} {im : Img} {u v : Nat} (hl : m = n) (h : HSt w w' wb gb gcap o m i0 i1 i2 im u) (huv : u ≤ v) : HEnd w wb gb gcap o n i0 i1 i2 im v (.returned (.bool true)) w' := by
  subst hl
  exact HEnd.mk h huv
theorem way_cases {xa : Option Addr} {nx xc : Nat} (h13 : nx ≤ 13) (h : 12 < nx → ∃ g off, xa = some ⟨g, off, none⟩ ∧ nx ≤ xc ∧ xc ≤ maxLen) : (∃ xg xo, xa = some ⟨xg, xo, none⟩ ∧ 12 < nx ∧ (12 : Int) < (nx : Int) ∧ (6 : Int) ≤ (nx : Int) ∧ (nx : Int) ≤ (xc : Int) ∧ (xc : Int) ≤ 9223372036854775807 ∧ ¬ xc = 6) ∨ (nx ≤ 12 ∧ ¬ (12 : Int) < (nx : Int)) := by
  by_cases hx : 12 < nx
  · obtain ⟨g, off, e, h1, h2⟩ := h hx
    unfold maxLen at h2
    exact .inl ⟨g, off, e, hx, by omega, by omega, by omega, by omega, by omega⟩
  · exact .inr ⟨by omega, by omega⟩
section
variable {w wr : World} {wb gb gcap : Nat} {o : Nat → Bo} {col : Nat → Nat} {bv : Nat → Value} {hs : List HR} {hv i0 i1 i2 : Value} {im : Img} {nb : Nat → Nat} {u v : Nat}
set_option maxRecDepth 100000 in
set_option maxHeartbeats 4000000 in
theorem lhost_say (B H A C : Int) (S : ByteArray) (i bi : Nat) (hi : i < hs.length) (hbi : bi < 2) (h : HW w wr wb gb gcap o col bv hs hv i0 i1 i2 im nbR u) :
    Calls Tryz.prog 15 #[.pointer (some ⟨wb, 0, none⟩), .int .i64 (bi : Int), .int .i64 (i : Int), .agg #[.int .i64 9, .int .i64 B, .int .i64 H, .int .i64 A, .int .i64 C, .string S]] wr (HEnd w wb gb gcap o hs.length i0 i1 i2 im (u + S.size + 2412000)) := by
  obtain ⟨W, hW, hB, hz, k0, k3, k4, k5⟩ := act_cells wr 9 B H A C S
  have h1 := h.grow hB
  obtain ⟨gh, hcap, rfl, hLH, cv, fv, kgh⟩ := h1.host i hi
  have c3 := h1.c3
  have c4 := h1.c4
  have cx := hLH.cx
  have cy := hLH.cy
  have hii : (i : Int) < (hs.length : Int) := by omega
  have hni : (hs.length : Int) ≤ 4 := by have := h.few; omega
  have hbii : (bi : Int) < 2 := by omega
  have HK := hideIt (lsays_any wb gh hs.length hcap i _ _ _ _ W hLH)
  have HH := hideIt h1
  clear h h1 hLH cv fv hB
  go_enter Tryz.func15, Tryz.ntmps15
  go_wp2_with fail
  refine HK.out.mono ?_
  rintro e w1 ⟨⟨T, rfl, hT⟩, hp1, hc1⟩
  have h2 := HH.out.actH i hi hp1 hc1 (Nat.le_refl _)
  by_cases hTe : T = ⟨#[]⟩
  · subst hTe
    have HF := hideIt (h2.begin bi i)
    clear hp1 hc1 HH c3 c4 cx cy h2
    obtain ⟨⟨xa, nx, xc, ex, hx13, hxs⟩, ⟨ya, ny, yc, ey, hy13, hys⟩⟩ := HF.out.le13 hi hbi
    obtain ⟨gh', hcap', eh, _, tx, tfx, _⟩ := HF.out.host i hi
    cases eh
    have ty := HF.out.gv bi hbi
    have tfy := HF.out.fg (bi * 3 + 2)
    replace tfx := tfx (i * 3 + 2)
    have tgn : ¬ gb = gh := fun e => by have q := HF.out.kg; rw [e, HF.out.kh gh rfl] at q; omega
    rw [ex] at tx
    rw [ey] at ty
    have HEX := hideIt ex
    have HEY := hideIt ey
    clear ex ey
    rcases way_cases hx13 hxs with ⟨xg, xo, rfl, hx12, hxi, hxi6, hxci, hxcm, hxc6⟩ | ⟨hx12, hxi⟩
    all_goals (rcases way_cases hy13 hys with ⟨yg, yo, rfl, hy12, hyi, hyi6, hyci, hycm, hyc6⟩ | ⟨hy12, hyi⟩)
    all_goals go_wp2
    all_goals
      go_ret
      first
        | exact HEnd.mk (HF.out.tail11 hi hbi HEX.out HEY.out hx12 hx13 hy12 hy13) (by omega)
        | exact HEnd.mk (HF.out.tail10 hi hbi HEX.out HEY.out hx12 hx13 hy12) (by omega)
        | exact HEnd.mk (HF.out.tail01 hi hbi HEX.out HEY.out hx12 hy12 hy13) (by omega)
        | exact HEnd.mk (HF.out.tail00 hi hbi HEX.out HEY.out hx12 hy12) (by omega)
  · have hemp := empty_not hTe
    obtain ⟨ny0, hny0, hwy0⟩ := h2.bw bi hbi
    obtain ⟨ya0, yc0, ey0⟩ := hwy0.slice
    have hny : ny0 ≤ 12 := hny0
    have gv := h2.gv bi hbi
    rw [ey0] at gv
    have H2 := hideIt h2
    have HWY := hideIt hwy0
    have HEY0 := hideIt ey0
    clear hp1 hc1 HH c3 c4 cx cy h2 hwy0 ey0
    go_wp2_with (
      at_builtin
      refine wpList_append_way _ rfl _ _ rfl (bv bi) ny0 200 (by rw [HEY0.out]; rfl) (HWY.out.below ((Below.refl _ _).alloc (Nat.le_refl _) _)) ⟨w1.heap.size, 0, none⟩ 1 T rfl (cell_new_one _ _ _) hT (by omega) ?_
      intro v' wn hw hg hl
      obtain ⟨a', c', ev⟩ := hw.slice
      have hps := H2.out.pushB hbi i hw hny hg hl
      rw [ev, HEY0.out] at hps
      obtain ⟨p1, p2, col', bv', p3⟩ := hps
      subst ev
      have HF := hideIt p3
      clear hw hg hl p3 gv
      obtain ⟨⟨xa, nx, xc, ex, hx13, hxs⟩, ⟨ya, ny, yc, ey, hy13, hys⟩⟩ := HF.out.le13 hi hbi
      obtain ⟨gh', hcap', eh, _, tx, tfx, _⟩ := HF.out.host i hi
      cases eh
      have ty := HF.out.gv bi hbi
      have tfy := HF.out.fg (bi * 3 + 2)
      replace tfx := tfx (i * 3 + 2)
      have tgn : ¬ gb = gh := fun e => by have q := HF.out.kg; rw [e, HF.out.kh gh rfl] at q; omega
      rw [ex] at tx
      rw [ey] at ty
      have HEX := hideIt ex
      have HEY := hideIt ey
      clear ex ey
      rcases way_cases hx13 hxs with ⟨xg, xo, rfl, hx12, hxi, hxi6, hxci, hxcm, hxc6⟩ | ⟨hx12, hxi⟩
      all_goals (rcases way_cases hy13 hys with ⟨yg, yo, rfl, hy12, hyi, hyi6, hyci, hycm, hyc6⟩ | ⟨hy12, hyi⟩))
    all_goals
      go_ret
      first
        | exact HEnd.mk (HF.out.tail11 hi hbi HEX.out HEY.out hx12 hx13 hy12 hy13) (by omega)
        | exact HEnd.mk (HF.out.tail10 hi hbi HEX.out HEY.out hx12 hx13 hy12) (by omega)
        | exact HEnd.mk (HF.out.tail01 hi hbi HEX.out HEY.out hx12 hy12 hy13) (by omega)
        | exact HEnd.mk (HF.out.tail00 hi hbi HEX.out HEY.out hx12 hy12) (by omega)
end
end Go.Proofs.YthokdbcpkmcieaaGreat
