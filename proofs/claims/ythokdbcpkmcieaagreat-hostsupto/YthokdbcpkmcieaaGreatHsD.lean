/- The program's host: Begin, NewHost. -/
import Derived.Test.YthokdbcpkmcieaaGreatHsC
namespace Go.Proofs.YthokdbcpkmcieaaGreat
open Go Go.RowKit
attribute [local go_sem ↓] Go.wp_at_zero Go.wp_at_succ
theorem pg_get : ∀ (l : List Pg) (i : Nat) (hi : i < l.length), (l.flatMap pgCells)[i * 2]? = some (.int .u8 (l[i].n.toNat : Int)) ∧ (l.flatMap pgCells)[i * 2 + 1]? = some (.string (txt l[i].bs))
  | p :: l, 0, _ => ⟨rfl, rfl⟩
  | p :: l, i + 1, hi => by
    have h := pg_get l i (by simpa using hi)
    have e : (p :: l).flatMap pgCells = .int .u8 (p.n.toNat : Int) :: .string (txt p.bs) :: l.flatMap pgCells := rfl
    rw [e, show (i + 1) * 2 = i * 2 + 1 + 1 by omega]
    exact h
theorem left_of_row {w : World} {base : Nat} {v : Value} {l : List Pg} (h : w.ownsRow base 139 2 v l.length (l.flatMap pgCells)) (lb0 : Nat) (hl0 : lb0 < w.heap.size) : ∃ lb, LeftAt w lb v l ∧ (lb = lb0 ∨ base ≤ lb) ∧ lb < w.heap.size := by
  by_cases hn : 0 < l.length
  · obtain ⟨g, cap, rfl, h1, h2⟩ := own_some h hn
    have hcap : l.length ≤ cap ∧ cap ≤ 9223372036854775807 := by
      obtain ⟨_, ⟨e, _⟩ | ⟨g', cap', cur, e, hg, hh, h3, h4, _⟩⟩ := h
      · cases e
      · cases e
        unfold maxLen at h4
        exact ⟨h3, by omega⟩
    refine ⟨g, ⟨⟨_, cap, rfl, hcap.1, hcap.2, fun _ => ⟨0, rfl, fun i hi => ?_⟩⟩⟩, .inr h1, h2⟩
    obtain ⟨p1, p2⟩ := pg_get l i hi
    have q1 := h.cells (g := g) rfl (i * 2) _ p1
    have q2 := h.cells (g := g) rfl (i * 2 + 1) _ p2
    rw [Addr.add_lit] at q1 q2
    exact ⟨q1, q2⟩
  · have hl : l.length = 0 := by omega
    obtain ⟨_, ⟨e, _⟩ | ⟨g', cap', cur, e, hg, hh, h3, h4, _⟩⟩ := h
    · subst e
      exact ⟨lb0, ⟨⟨none, 0, by rw [hl], by omega, by omega, fun e => absurd e hn⟩⟩, .inl rfl, hl0⟩
    · subst e
      unfold maxLen at h4
      exact ⟨lb0, ⟨⟨_, cap', rfl, h3, by omega, fun e => absurd e hn⟩⟩, .inl rfl, hl0⟩
/-- A host that has not begun. -/
def hstZ : Hst := ⟨0, 0, [], 0, ear0, [], 0, false, 0, 0⟩
/-- A host that has just begun. -/
def hst0 (i : Img) (ses : Nat) : Hst := askH ⟨0, ses, wantI i, 0, ear0, [], 0, false, 0, 0⟩ 0 1 [] 1
def sesN (s : Int) : Nat := (s % 65536).toNat
theorem sesN_lt (s : Int) : sesN s < 65536 := by unfold sesN; omega
theorem sesN_wrap (s : Int) : IntKind.u16.wrap s = (sesN s : Int) := by
  unfold sesN
  rw [IntKind.wrap_u16]
  omega
/-- A host at hb, its pages behind n. -/
def HBegun (w : World) (hb n : Nat) (h : Hst) : Prop := ∃ lb, HstM w hb lb h ∧ n ≤ lb
theorem HstM.relb {w : World} {hb lb lb' : Nat} {h : Hst} (m : HstM w hb lb h) (hl : h.left = []) (h1 : lb' ≠ hb) (h2 : lb' < w.heap.size) : HstM w hb lb' h := by
  obtain ⟨v, v1, v2⟩ := m.c2
  obtain ⟨a, cap, e, e2, e3, _⟩ := v2.is
  exact ⟨m.c0, m.c1, m.c3, m.c88, m.c89, m.c90, m.c91, m.c92, ⟨v, v1, ⟨a, cap, e, e2, e3, fun e => by rw [hl] at e; simp at e⟩⟩, m.ear, h1, h2⟩
set_option maxRecDepth 100000 in
set_option maxHeartbeats 4000000 in
theorem hbegin_any (hb lb0 : Nat) (a0 a1 a2 : Option Addr) (n0 n1 n2 c0 c1 c2 : Nat) (i : Img) (s : Int) (w wi : World) (m : HstM w hb lb0 hstZ) (hI : ImgAt wi (.slice a0 n0 c0) (.slice a1 n1 c1) (.slice a2 n2 c2) i) (hwi : Below wi.heap.size wi w) (hhb : wi.heap.size ≤ hb) (hn0 : n0 = i.bytes.length) (hn1 : n1 = i.laid.length) (hn2 : n2 = i.starts.length) (hw : wholeI i = true) :
    Calls Tryz.prog 21 #[.pointer (some ⟨hb, 0, none⟩), .agg #[.slice a0 n0 c0, .slice a1 n1 c1, .slice a2 n2 c2], .int .i64 s] w fun e w' => e = .returned (.int .i64 0) ∧ HBegun w' hb w.heap.size (hst0 i (sesN s)) ∧ w.grownBy w' (some hb) := by
  have hw' : i.bytes.length = 1024 ∧ i.laid.length = 1024 ∧ i.starts.length = 1024 := by
    unfold wholeI at hw
    simp only [Bool.and_eq_true, decide_eq_true_eq] at hw
    exact hw
  obtain ⟨l0, l1, l2⟩ := hw'
  rw [l0] at hn0
  rw [l1] at hn1
  rw [l2] at hn2
  subst hn0 hn1 hn2
  obtain ⟨W, hW, hB, hz, k0, k1, k2⟩ := img_cells w (.slice a0 1024 c0) (.slice a1 1024 c1) (.slice a2 1024 c2)
  have hWz : W.heap.size = w.heap.size + 1 := by rw [← hW]; simp
  have HWH := hideIt (imgWhole_any a0 a1 a2 1024 1024 1024 c0 c1 c2 (by omega) (by omega) (by omega) W)
  have hdd : (decide ((1024 : Nat) = 1024) && (decide ((1024 : Nat) = 1024) && decide ((1024 : Nat) = 1024))) = true := by decide
  rw [hdd] at HWH
  have hmW := m.below hB
  have HM := hideIt hmW
  have HIW := hideIt (And.intro hI (And.intro hwi hhb))
  have hsw := sesN_wrap s
  have HSL := hideIt (sesN_lt s)
  have HBW := hideIt hB
  have HLL := hideIt (And.intro l0 l1)
  obtain ⟨SN, hSN⟩ : ∃ SN, sesN s = SN := ⟨_, rfl⟩
  rw [hSN] at hsw HSL ⊢
  have hlt := m.lt
  clear m hI hwi hhb hB hw hdd hmW l0 l1 l2 hSN
  go_enter Tryz.func21, Tryz.ntmps21
  go_wp2_with fail
  refine HWH.out.mono ?_
  rintro e w1 ⟨rfl, hB1⟩
  have m1 := HM.out.below hB1
  have e1 := (World.cell?_of_block (a := ⟨w.heap.size, 0, none⟩) (hB1.block w.heap.size hz)).trans k0
  have e2 := (World.cell?_of_block (a := ⟨w.heap.size, 1, none⟩) (hB1.block w.heap.size hz)).trans k1
  have e3 := (World.cell?_of_block (a := ⟨w.heap.size, 2, none⟩) (hB1.block w.heap.size hz)).trans k2
  have cc1 := m1.c1
  have ff1 := m1.fz 1
  have hl1 := m1.lt
  have hz1 := hB1.size
  have HB1 := hideIt hB1
  have HM1 : Hid (HstM (w1.setCell ⟨hb, 1, none⟩ (.int .u16 (SN : Int))) hb lb0 ⟨0, SN, [], 0, ear0, [], 0, false, 0, 0⟩) := m1.setSes SN
  clear hB1 m1
  have hne : ¬ w.heap.size = hb := by omega
  obtain ⟨w2, hw2⟩ : ∃ w2, w1.setCell ⟨hb, 1, none⟩ (.int .u16 (SN : Int)) = w2 := ⟨_, rfl⟩
  rw [hw2] at HM1
  have hz2 : w2.heap.size = w1.heap.size := by rw [← hw2]; simp [World.setCell]
  have hBi : Below wi.heap.size wi w2 := by
    have h1 : Below wi.heap.size wi w1 := HIW.out.2.1.trans ((HBW.out.mono HIW.out.2.1.size).trans (HB1.out.mono (by have := HIW.out.2.1.size; omega)))
    rw [← hw2]
    exact h1.setCell (p := ⟨hb, 1, none⟩) HIW.out.2.2 _
  have HWN := hideIt (wanted_any a0 a1 c0 c1 (.slice a2 1024 c2) i w2 (HIW.out.1.b.below hBi) (HIW.out.1.l.below hBi) HLL.out.1 HLL.out.2)
  have HG2 : Hid (w.grownBy w2 (some hb)) := by
    have h1 := (below_to_grown HBW.out (some hb)).trans (below_to_grown HB1.out (some hb))
    rw [← hw2]
    exact h1.trans (setg w1 hb 1 _)
  have d1 : w2.cell? ⟨w.heap.size, 0, none⟩ = some (.slice a0 1024 c0) := by rw [← hw2, World.cell?_setCell_other _ _ _ _ (by simp <;> omega)]; exact e1
  have d2 : w2.cell? ⟨w.heap.size, 1, none⟩ = some (.slice a1 1024 c1) := by rw [← hw2, World.cell?_setCell_other _ _ _ _ (by simp <;> omega)]; exact e2
  have d3 : w2.cell? ⟨w.heap.size, 2, none⟩ = some (.slice a2 1024 c2) := by rw [← hw2, World.cell?_setCell_other _ _ _ _ (by simp <;> omega)]; exact e3
  clear hBi
  go_wp2_with fail
  refine HWN.out.mono ?_
  rintro e w3 ⟨v, rfl, hR3, hB3⟩
  have hz3 := hB3.size
  obtain ⟨lb, hL, hlb, hll⟩ := left_of_row hR3 w.heap.size (by omega)
  have hlne : lb ≠ hb := by omega
  have m3 := (HM1.out.below hB3).relb rfl hlne hll
  have c2' := m3.c2
  obtain ⟨vo, vo1, _⟩ := c2'
  have f2' := m3.fz 2
  have hl3 := m3.lt
  have m4 : HstM (w3.setCell ⟨hb, 2, none⟩ v) hb lb ⟨0, SN, wantI i, 0, ear0, [], 0, false, 0, 0⟩ := m3.setLeft (wantI i) v hL
  have HA := hideIt (hask_any hb lb _ 0 1 [] 1 _ m4 HSL.out (by simp) (by omega))
  have x0 : ((0 : UInt8).toNat : Int) = 0 := rfl
  have x1 : ((1 : UInt8).toNat : Int) = 1 := rfl
  have x2 : txt [] = (⟨#[]⟩ : ByteArray) := rfl
  have x3 : takeV hb 1 = .func (.func 53) #[.pointer (some ⟨hb, 0, none⟩)] #[] := rfl
  rw [x0, x1, x2, x3] at HA
  have HG4 := hideIt (And.intro (HG2.out.trans ((below_to_grown hB3 (some hb)).trans (setg w3 hb 2 v))) (show w.heap.size ≤ lb by omega))
  obtain ⟨va, vm, vc, rfl⟩ := slice_ofR hR3
  clear hR3 hB3 hL m3 m4 x0 x1 x2 x3 HWN HM1
  go_wp2_with fail
  refine HA.out.mono ?_
  rintro e w5 ⟨rfl, h1, h2⟩
  have HZ := hideIt (And.intro h1 (HG4.out.1.trans h2))
  clear h1 h2
  go_wp2
  go_ret
  exact ⟨rfl, ⟨lb, HZ.out.1, HG4.out.2⟩, HZ.out.2⟩
end Go.Proofs.YthokdbcpkmcieaaGreat
namespace Go.Proofs.YthokdbcpkmcieaaGreat
open Go Go.RowKit
attribute [local go_sem ↓] Go.wp_at_zero Go.wp_at_succ
set_option maxRecDepth 100000 in
set_option maxHeartbeats 4000000 in
theorem hbegin_bad (hb : Nat) (a0 a1 a2 : Option Addr) (n0 n1 n2 c0 c1 c2 : Nat) (s : Int) (w : World) (h0 : n0 ≤ 9223372036854775807) (h1 : n1 ≤ 9223372036854775807) (h2 : n2 ≤ 9223372036854775807) (hw : (decide (n0 = 1024) && (decide (n1 = 1024) && decide (n2 = 1024))) = false) :
    Calls Tryz.prog 21 #[.pointer (some ⟨hb, 0, none⟩), .agg #[.slice a0 n0 c0, .slice a1 n1 c1, .slice a2 n2 c2], .int .i64 s] w fun e w' => e = .returned (.int .i64 9) ∧ Below w.heap.size w w' := by
  obtain ⟨W, hW, hB, hz, k0, k1, k2⟩ := img_cells w (.slice a0 n0 c0) (.slice a1 n1 c1) (.slice a2 n2 c2)
  have HWH := hideIt (imgWhole_any a0 a1 a2 n0 n1 n2 c0 c1 c2 h0 h1 h2 W)
  rw [hw] at HWH
  have HB := hideIt hB
  clear hB hw
  go_enter Tryz.func21, Tryz.ntmps21
  go_wp2_with fail
  refine HWH.out.mono ?_
  rintro e w1 ⟨rfl, hB1⟩
  have HB1 := hideIt (HB.out.trans (hB1.mono HB.out.size))
  clear hB1
  go_wp2
  go_ret
  exact ⟨rfl, HB1.out⟩
def zeroHL : List Value := [.int .i64 0, .int .u16 0, .slice none 0 0, .int .u16 0] ++ (zeroEar.toList ++ [.string ⟨#[]⟩, .nilFunc, .bool false, .int .i64 0, .int .i64 0])
theorem zeroH_is : Tryz.zeroCells95.toList = zeroHL := by kernel_rfl
theorem zeroHst_at {w : World} {hb lb : Nat} {t : TypeId} (hh : w.heap[hb]? = some (.cells Tryz.zeroCells95 t)) (hl : hb < w.heap.size) (h1 : lb ≠ hb) (h2 : lb < w.heap.size) : HstM w hb lb hstZ := by
  have hc : ∀ j, w.cell? ⟨hb, j, none⟩ = zeroHL[j]? := fun j => by
    rw [cell_of_row _ _ j _ _ (0, 0) hh, ← zeroH_is]
    simp
  have hf : ∀ j, w.frozen? ⟨hb, j, none⟩ = false := fun j => frozen_of_row _ _ _ _ _ hh
  have hz : ∀ j, j < 84 → zeroHL[4 + j]? = zeroEar.toList[j]? := fun j hj => by
    unfold zeroHL
    rw [List.getElem?_append_right (by simp), List.getElem?_append_left (by simp [zeroEar]; omega)]
    congr 1
    simp
  have hb0 : ∀ j, j < 82 → zeroEar.toList[1 + j]? = some (.int .u8 0) := fun j hj => by
    have e : zeroEar.toList = .int .i64 0 :: (List.replicate 82 (.int .u8 0) ++ [.int .i64 0]) := by kernel_rfl
    rw [e, Nat.add_comm 1 j, List.getElem?_cons_succ, List.getElem?_append_left (by simpa using hj), List.getElem?_replicate, if_pos hj]
  have z88 : zeroHL[88]? = some (.string ⟨#[]⟩) := by kernel_rfl
  have z89 : zeroHL[89]? = some .nilFunc := by kernel_rfl
  have z90 : zeroHL[90]? = some (.bool false) := by kernel_rfl
  have z91 : zeroHL[91]? = some (.int .i64 0) := by kernel_rfl
  have z92 : zeroHL[92]? = some (.int .i64 0) := by kernel_rfl
  have z83 : zeroEar.toList[83]? = some (.int .i64 0) := by kernel_rfl
  refine ⟨(hc 0).trans rfl, (hc 1).trans rfl, (hc 3).trans rfl, (hc 88).trans z88, (hc 89).trans z89, (hc 90).trans z90, (hc 91).trans z91, (hc 92).trans z92, ⟨.slice none 0 0, (hc 2).trans rfl, ⟨⟨none, 0, rfl, Nat.le_refl _, by omega, fun e => by simp [hstZ] at e⟩⟩⟩, ⟨?_, ?_, fun i hi => ?_, fun i hi => ?_, hf, hl, eok0⟩, h1, h2⟩
  · rw [hc, show (4 : Nat) = 4 + 0 from rfl, hz 0 (by omega)]; rfl
  · rw [hc, hz 83 (by omega)]; exact z83
  · exact ⟨_, by rw [hc, show 4 + 1 + i = 4 + (1 + i) by omega, hz (1 + i) (by omega)]; exact hb0 i hi⟩
  · simp [hstZ, ear0] at hi
set_option maxRecDepth 100000 in
set_option maxHeartbeats 4000000 in
theorem newHost_any (a0 a1 a2 : Option Addr) (n0 n1 n2 c0 c1 c2 : Nat) (i : Img) (s : Int) (w : World) (hI : ImgAt w (.slice a0 n0 c0) (.slice a1 n1 c1) (.slice a2 n2 c2) i) (hn0 : n0 = i.bytes.length) (hn1 : n1 = i.laid.length) (hn2 : n2 = i.starts.length) (hw : wholeI i = true) :
    Calls Tryz.prog 12 #[.agg #[.slice a0 n0 c0, .slice a1 n1 c1, .slice a2 n2 c2], .int .i64 s] w fun e w' => e = .returned (.tuple #[.pointer (some ⟨w.heap.size + 1, 0, none⟩), .int .i64 0]) ∧ HBegun w' (w.heap.size + 1) w.heap.size (hst0 i (sesN s)) ∧ Below w.heap.size w w' := by
  subst hn0 hn1 hn2
  obtain ⟨W, hW, hB, hz, k0, k1, k2⟩ := img_cells w (.slice a0 i.bytes.length c0) (.slice a1 i.laid.length c1) (.slice a2 i.starts.length c2)
  have hWz : W.heap.size = w.heap.size + 1 := by rw [← hW]; simp
  obtain ⟨W2, hW2⟩ : ∃ W2, W.alloc (.cells Tryz.zeroCells95 95) = W2 := ⟨_, rfl⟩
  have hB2 : Below W.heap.size W W2 := by rw [← hW2]; exact (Below.refl _ _).alloc (Nat.le_refl _) _
  have hW2z : W2.heap.size = w.heap.size + 1 + 1 := by rw [← hW2, World.alloc_size, hWz]
  have hh2 : W2.heap[w.heap.size + 1]? = some (.cells Tryz.zeroCells95 95) := by
    have := heap_alloc_new W (.cells Tryz.zeroCells95 95)
    rw [hW2, hWz] at this
    exact this
  have m2 : HstM W2.drew (w.heap.size + 1) w.heap.size hstZ := (zeroHst_at hh2 (by omega) (by omega) (by omega)).kept rfl rfl (Nat.le_refl _)
  have hBw : Below w.heap.size w W2.drew := (hB.trans (hB2.mono (by omega))).drew
  have HBG := hideIt (hbegin_any (w.heap.size + 1) w.heap.size a0 a1 a2 _ _ _ c0 c1 c2 i s W2.drew w m2 hI hBw (by omega) rfl rfl rfl hw)
  have d0 := (World.cell?_of_block (a := ⟨w.heap.size, 0, none⟩) (hB2.block w.heap.size hz)).trans k0
  have d1 := (World.cell?_of_block (a := ⟨w.heap.size, 1, none⟩) (hB2.block w.heap.size hz)).trans k1
  have d2 := (World.cell?_of_block (a := ⟨w.heap.size, 2, none⟩) (hB2.block w.heap.size hz)).trans k2
  have HBW := hideIt hBw
  obtain ⟨N0, hN0⟩ : ∃ N0, i.bytes.length = N0 := ⟨_, rfl⟩
  obtain ⟨N1, hN1⟩ : ∃ N1, i.laid.length = N1 := ⟨_, rfl⟩
  obtain ⟨N2, hN2⟩ : ∃ N2, i.starts.length = N2 := ⟨_, rfl⟩
  rw [hN0] at hW d0 k0 HBG ⊢
  rw [hN1] at hW d1 k1 HBG ⊢
  rw [hN2] at hW d2 k2 HBG ⊢
  clear hI hw m2 hBw hB hB2 hN0 hN1 hN2 hh2
  go_enter Tryz.func12, Tryz.ntmps12
  go_wp2_with fail
  go_region_with (go_at_call 21; refine HBG.out.mono ?_; rintro e wx ⟨rfl, hbx, hgx⟩)
  all_goals
    have HZ := hideIt (And.intro hbx hgx)
    clear hbx hgx
    go_wp2
    go_ret2
    obtain ⟨lb, q1, q2⟩ := HZ.out.1
    exact ⟨rfl, ⟨lb, q1, by have : W2.drew.heap.size = W2.heap.size := rfl; omega⟩, grown_to_below HBW.out HZ.out.2 (by omega)⟩
end Go.Proofs.YthokdbcpkmcieaaGreat
namespace Go.Proofs.YthokdbcpkmcieaaGreat
open Go Go.RowKit
attribute [local go_sem ↓] Go.wp_at_zero Go.wp_at_succ
set_option maxRecDepth 100000 in
set_option maxHeartbeats 4000000 in
theorem newHost_bad (a0 a1 a2 : Option Addr) (n0 n1 n2 c0 c1 c2 : Nat) (s : Int) (w : World) (h0 : n0 ≤ 9223372036854775807) (h1 : n1 ≤ 9223372036854775807) (h2 : n2 ≤ 9223372036854775807) (hw : (decide (n0 = 1024) && (decide (n1 = 1024) && decide (n2 = 1024))) = false) :
    Calls Tryz.prog 12 #[.agg #[.slice a0 n0 c0, .slice a1 n1 c1, .slice a2 n2 c2], .int .i64 s] w fun e w' => e = .returned (.tuple #[.pointer none, .int .i64 9]) ∧ Below w.heap.size w w' := by
  obtain ⟨W, hW, hB, hz, k0, k1, k2⟩ := img_cells w (.slice a0 n0 c0) (.slice a1 n1 c1) (.slice a2 n2 c2)
  have hWz : W.heap.size = w.heap.size + 1 := by rw [← hW]; simp
  obtain ⟨W2, hW2⟩ : ∃ W2, W.alloc (.cells Tryz.zeroCells95 95) = W2 := ⟨_, rfl⟩
  have hB2 : Below W.heap.size W W2 := by rw [← hW2]; exact (Below.refl _ _).alloc (Nat.le_refl _) _
  have hBw : Below w.heap.size w W2.drew := (hB.trans (hB2.mono (by omega))).drew
  have HBG := hideIt (hbegin_bad (w.heap.size + 1) a0 a1 a2 n0 n1 n2 c0 c1 c2 s W2.drew h0 h1 h2 hw)
  have d0 := (World.cell?_of_block (a := ⟨w.heap.size, 0, none⟩) (hB2.block w.heap.size hz)).trans k0
  have d1 := (World.cell?_of_block (a := ⟨w.heap.size, 1, none⟩) (hB2.block w.heap.size hz)).trans k1
  have d2 := (World.cell?_of_block (a := ⟨w.heap.size, 2, none⟩) (hB2.block w.heap.size hz)).trans k2
  have HBW := hideIt hBw
  clear hw hBw hB hB2
  go_enter Tryz.func12, Tryz.ntmps12
  go_wp2_with fail
  go_region_with (go_at_call 21; refine HBG.out.mono ?_; rintro e wx ⟨rfl, hBx⟩)
  all_goals
    have HZ := hideIt (HBW.out.trans (hBx.mono HBW.out.size))
    clear hBx
    go_wp2
    go_ret2
    exact ⟨rfl, HZ.out⟩
set_option maxRecDepth 100000 in
set_option maxHeartbeats 1000000 in
theorem bhState_any (hb lb : Nat) (h : Hst) (w : World) (m : HstM w hb lb h) : Calls Tryz.prog 39 #[.pointer (some ⟨hb, 0, none⟩)] w fun e w' => e = .returned (.int .i64 (h.state : Int)) ∧ w' = w := by
  have HC := hideIt (hstate_any hb lb h w m)
  have c0 := m.c0
  clear m
  go_enter Tryz.func39, Tryz.ntmps39
  go_wp2_with fail
  refine HC.out.mono ?_
  rintro e w1 ⟨rfl, rfl⟩
  go_wp2
  go_ret
  exact ⟨rfl, rfl⟩
set_option maxRecDepth 100000 in
set_option maxHeartbeats 1000000 in
theorem bhSay_any (hb lb : Nat) (h : Hst) (w : World) (m : HstM w hb lb h) (k : HOk h) : Calls Tryz.prog 61 #[.pointer (some ⟨hb, 0, none⟩)] w fun e w' => e = .returned (.string (txt (sayH h).2)) ∧ HstM w' hb lb (sayH h).1 ∧ w.grownBy w' (some hb) := by
  have HC := hideIt (hfetch_any hb lb h w m k.b)
  have c0 := m.c0
  obtain ⟨T, hT⟩ : ∃ T, txt (sayH h).2 = T := ⟨_, rfl⟩
  rw [hT] at HC ⊢
  clear m k hT
  go_enter Tryz.func61, Tryz.ntmps61
  go_wp2_with fail
  refine HC.out.mono ?_
  rintro e w1 ⟨rfl, h1, h2⟩
  have HQ := hideIt (And.intro h1 h2)
  clear h1 h2
  go_wp2
  go_ret
  exact ⟨rfl, HQ.out.1, HQ.out.2⟩
set_option maxRecDepth 100000 in
set_option maxHeartbeats 1000000 in
theorem bhTick_any (hb lb : Nat) (h : Hst) (w : World) (m : HstM w hb lb h) (k : HOk h) : Calls Tryz.prog 37 #[.pointer (some ⟨hb, 0, none⟩)] w fun e w' => e = .returned (.tuple #[]) ∧ HstM w' hb lb (tickH h) ∧ w.grownBy w' (some hb) := by
  have HC := hideIt (htick_any hb lb h w m k.b)
  have c0 := m.c0
  clear m k
  go_enter Tryz.func37, Tryz.ntmps37
  go_wp2_with fail
  refine HC.out.mono ?_
  rintro e w1 ⟨rfl, h1, h2⟩
  have HQ := hideIt (And.intro h1 h2)
  clear h1 h2
  go_wp2
  go_end0
  exact ⟨rfl, HQ.out.1, HQ.out.2⟩
set_option maxRecDepth 100000 in
set_option maxHeartbeats 1000000 in
theorem bhHear_any (hb lb : Nat) (h : Hst) (bs : ByteArray) (w : World) (m : HstM w hb lb h) (k : HOk h) (hbs : bs.size ≤ 4000000) : Calls Tryz.prog 63 #[.pointer (some ⟨hb, 0, none⟩), .string bs] w fun e w' => e = .returned (.tuple #[]) ∧ HstM w' hb lb (hearH h bs.data.toList) ∧ w.grownBy w' (some hb) := by
  have HC := hideIt (hhear_any hb lb h bs w m k hbs)
  have c0 := m.c0
  obtain ⟨h2, hh2⟩ : ∃ h2, hearH h bs.data.toList = h2 := ⟨_, rfl⟩
  rw [hh2] at HC ⊢
  clear m k hh2
  go_enter Tryz.func63, Tryz.ntmps63
  go_wp2_with fail
  refine HC.out.mono ?_
  rintro e w1 ⟨rfl, h1, h2⟩
  have HQ := hideIt (And.intro h1 h2)
  clear h1 h2
  go_wp2
  go_end0
  exact ⟨rfl, HQ.out.1, HQ.out.2⟩
/-- A host that has just begun is as it should be. -/
theorem wantS_pages (i : Img) (hb : i.bytes.length = 1024) : ∀ k, k ≤ 16 → ∀ p ∈ wantS i k, p.n < 16 ∧ p.bs.length = 64
  | 0, _, p, hp => by simp [wantS] at hp
  | k + 1, hk, p, hp => by
    unfold wantS at hp
    rw [List.mem_append] at hp
    rcases hp with hp | hp
    · exact wantS_pages i hb k (by omega) p hp
    · split at hp
      · rw [List.mem_singleton] at hp
        subst hp
        refine ⟨?_, page_len64 hb k (by omega)⟩
        rw [UInt8.lt_iff_toNat_lt]
        show (UInt8.ofNat k).toNat < 16
        rw [UInt8.toNat_ofNat']
        omega
      · simp at hp
theorem hst0_ok (i : Img) (s : Int) (hb : i.bytes.length = 1024) : HOk (hst0 i (sesN s)) := by
  have hw : (headH (sesN s) 0 1 ++ []).getD 3 0 = 1 := rfl
  refine ⟨⟨sesN_lt s, by show 0 < 65536; omega, by show 0 ≤ 2; omega, wantS_pages i hb 16 (Nat.le_refl _), ?_, by show 0 + 1 ≤ 5; omega, by show 0 ≤ 3; omega, wantS_len i 16⟩, by show 1 ≤ 5; omega, ?_, fun e => by have : (3 : Nat) ≤ 1 := e; omega, fun _ => hw, fun e => by have : (1 : Nat) = 2 := e; omega, fun e => by have : (1 : Nat) = 3 := e; omega, fun e => by have : (1 : Nat) = 4 ∨ (1 : Nat) = 5 := e; omega, fun _ => by show 0 ≤ 2; omega⟩
  · show 4 ≤ (headH (sesN s) 0 1 ++ []).length ∧ (headH (sesN s) 0 1 ++ []).length ≤ 69
    simp [headH]
  · show (1 : Nat) = 0 ↔ (0 : Nat) ≠ 0
    omega
end Go.Proofs.YthokdbcpkmcieaaGreat
