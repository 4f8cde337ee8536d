/- The law's begins: of a whole image and of another. -/
import Derived.Test.YthokdbcpkmcieaaGreatLhD
namespace Go.Proofs.YthokdbcpkmcieaaGreat
open Go Go.RowKit
attribute [local go_sem ↓] Go.wp_at_zero Go.wp_at_succ
/-- What begins leaves. -/
def BEnd (w : World) (wb gb gcap : Nat) (o : Nat → Bo) (i0 i1 i2 : Value) (im : Img) (u : Nat) (e : Ending) (w' : World) : Prop := e = .returned (.bool true) ∧ ∃ n, HSt w w' wb gb gcap o n i0 i1 i2 im u
section
variable {w W0 : World} {wb gb gcap : Nat} {o : Nat → Bo} {col : Nat → Nat} {bv : Nat → Value} {hs : List HR} {hv i0 i1 i2 : Value} {im : Img} {u : Nat}
set_option maxRecDepth 100000 in
set_option maxHeartbeats 8000000 in
theorem begins_good (s : Int) (h : HW w W0 wb gb gcap o col bv hs hv i0 i1 i2 im nbR u) (hf : ImgFew im) (hw : wholeI im = true) :
    Calls Tryz.prog 10 #[.pointer (some ⟨wb, 0, none⟩), .int .i64 s] W0 (BEnd w wb gb gcap o i0 i1 i2 im u) := by
  obtain ⟨li, hli, hl0, hl1, hl2⟩ := info_of Tryz.infoLHo
  obtain ⟨x0, y0, e0⟩ := h.img.b.slice
  obtain ⟨x1, y1, e1⟩ := h.img.l.slice
  obtain ⟨x2, y2, e2⟩ := h.img.s.slice
  obtain ⟨va, vc, ev⟩ := row_slice h.row
  have hwl : wb < W0.heap.size := World.block_lt_of_cell? _ _ h.c3
  have c0 := h.c0
  have c1 := h.c1
  have c2 := h.c2
  have HW4 := hideIt (And.intro h.c4 (h.fw 4))
  have HC := hideIt (copied_any i0 i1 i2 im W0 h.img hf)
  have HN := hideIt (fun v0 v1 v2 w' (h' : ImgAt w' v0 v1 v2 im) => nh_good v0 v1 v2 im s w' h' hw)
  have HR := hideIt (fun w' (h' : Below W0.heap.size W0 w') => rnh_good i0 i1 i2 im s w' (h.img.below h') hw)
  have HSI := hideIt (fun a0 a1 a2 w' (h1 : ImgAt w' a0 a1 a2 im) (h' : Below W0.heap.size W0 w') => sameImage_any a0 a1 a2 i0 i1 i2 im w' h1 (h.img.below h') hf)
  have HH := hideIt h
  have HFE := hideIt hf
  have HWH := hideIt hw
  have hfew : hs.length ≤ 4 := h.few
  have HKB : Hid (∀ w' j v, Below W0.heap.size W0 w' → W0.cell? ⟨wb, j, none⟩ = some v → w'.cell? ⟨wb, j, none⟩ = some v) := fun w' j v hb hc => (World.cell?_of_block (a := ⟨wb, j, none⟩) (hb.block wb hwl)).trans hc
  have HROW := hideIt h.row
  subst e0 e1 e2 ev
  clear h hf hw
  go_enter Tryz.func10, Tryz.ntmps10
  go_wp2_with fail
  refine HC.out.mono ?_
  rintro e w1 ⟨u0, u1, u2, rfl, hO, hB1⟩
  obtain ⟨z0, t0, f0⟩ := row_slice hO.b
  obtain ⟨z1, t1, f1⟩ := row_slice hO.l
  obtain ⟨z2, t2, f2⟩ := row_slice hO.s
  obtain ⟨W2, hW2, hBW2, hzW2, k0, k1, k2⟩ := img_cells w1 u0 u1 u2
  have HO := hideIt hO
  have HBW2 := hideIt hBW2
  have hB2 := hB1.trans (hBW2.mono hB1.size)
  have HB2 := hideIt hB2
  have hs1 := hB1.size
  have HK2 : Hid (∀ w' j v, Below W2.heap.size W2 w' → W2.cell? ⟨w1.heap.size, j, none⟩ = some v → w'.cell? ⟨w1.heap.size, j, none⟩ = some v) := fun w' j v hb hc => (World.cell?_of_block (a := ⟨w1.heap.size, j, none⟩) (hb.block w1.heap.size hzW2)).trans hc
  subst f0 f1 f2
  clear hO hB1 hBW2 hB2 HC
  go_wp2_with fail
  refine (HN.out _ _ _ W2 (HO.out.img.below HBW2.out)).mono ?_
  rintro e w3 ⟨rfl, hG3, hB3⟩
  have hB03 := HB2.out.trans (hB3.mono HB2.out.size)
  replace c0 := HKB.out w3 0 _ hB03 c0
  replace c1 := HKB.out w3 1 _ hB03 c1
  replace c2 := HKB.out w3 2 _ hB03 c2
  have HB3 := hideIt hB3
  have HB03 := hideIt hB03
  clear hB3 hB03 HN
  go_wp2_with fail
  refine (HR.out w3 HB03.out).mono ?_
  rintro e w4 ⟨hy, rfl, hG4, hB4⟩
  have HHO := hideIt (hoat_new (u := u) hG3 hG4 hB4 HWH.out)
  clear hG3 hG4
  have hB24 := HB3.out.trans (hB4.mono HB3.out.size)
  have hB04 := HB2.out.trans (hB24.mono HB2.out.size)
  replace c0 := HKB.out w4 0 _ (HB03.out.trans (hB4.mono HB03.out.size)) ((World.cell?_of_block (a := ⟨wb, 0, none⟩) (HB03.out.block wb hwl)).symm.trans c0)
  replace c1 := HKB.out w4 1 _ (HB03.out.trans (hB4.mono HB03.out.size)) ((World.cell?_of_block (a := ⟨wb, 1, none⟩) (HB03.out.block wb hwl)).symm.trans c1)
  replace c2 := HKB.out w4 2 _ (HB03.out.trans (hB4.mono HB03.out.size)) ((World.cell?_of_block (a := ⟨wb, 2, none⟩) (HB03.out.block wb hwl)).symm.trans c2)
  have q0 := HK2.out w4 0 _ hB24 k0
  have q1 := HK2.out w4 1 _ hB24 k1
  have q2 := HK2.out w4 2 _ hB24 k2
  have HSJ : Hid (∀ W', W'.heap = w4.heap → W'.os = w4.os → W'.tape = w4.tape → W'.output = w4.output → Calls Tryz.prog 20 #[.agg #[.slice z0 im.bytes.length t0, .slice z1 im.laid.length t1, .slice z2 im.starts.length t2], .agg #[.slice x0 (byteVs im.bytes).length y0, .slice x1 (boolVs im.laid).length y1, .slice x2 (boolVs im.starts).length y2]] W' fun e w' => e = .returned (.bool true) ∧ Below w4.heap.size w4 w') := fun W' a1 a2 a3 a4 => by
    have hb : Below w4.heap.size w4 W' := ⟨a2, a3, a4, by rw [a1]; exact Nat.le_refl _, fun k _ => by rw [a1]⟩
    have hb2 := hB24.trans (hb.mono hB24.size)
    have hb0 := hB04.trans (hb.mono hB04.size)
    refine (HSI.out _ _ _ W' ((HO.out.img.below HBW2.out).below hb2) hb0).mono fun e w' ⟨r1, r2⟩ => ⟨r1, hb.trans (r2.mono hb.size)⟩
  have HB24 := hideIt hB24
  have HB04 := hideIt hB04
  clear hB4 hB24 hB04 HR k0 k1 k2 HB03 HB3 HSI
  go_wp2_with fail
  go_region_with (go_at_call 20; refine (HSJ.out w4.drew rfl rfl rfl rfl).mono ?_; rintro e w5 ⟨rfl, hB5⟩)
  all_goals
    have hB25 := HB24.out.trans (hB5.mono HB24.out.size)
    have hB05 := HB04.out.trans (hB5.mono HB04.out.size)
    have hB15 := HBW2.out.trans (hB25.mono HBW2.out.size)
    have r0 := (World.cell?_of_block (a := ⟨w1.heap.size, 0, none⟩) (hB5.block w1.heap.size (World.block_lt_of_cell? _ _ q0))).trans q0
    have r1 := (World.cell?_of_block (a := ⟨w1.heap.size, 1, none⟩) (hB5.block w1.heap.size (World.block_lt_of_cell? _ _ q0))).trans q1
    have HSC := hideIt (Scrib.start HO.out hB15)
    have HO5 := hideIt (HHO.out.below hB5)
    have HB05 := hideIt hB05
    have hs2 := hB15.size
    have hs4 : w1.heap.size < w5.heap.size := Nat.lt_of_lt_of_le hzW2 hB25.size
    have hfb : im.bytes.length ≤ 2000000 := HFE.out.1
    have hfl : im.laid.length ≤ 2000000 := HFE.out.2.1
    have HKC : Hid (∀ w' j v, ChgP w5 w' (fun k => W0.heap.size ≤ k ∧ k < w1.heap.size) → w5.cell? ⟨w1.heap.size, j, none⟩ = some v → w'.cell? ⟨w1.heap.size, j, none⟩ = some v) := fun w' j v hc h => (World.cell?_of_block (a := ⟨w1.heap.size, j, none⟩) (hc.block w1.heap.size hs4 (fun e => by omega))).trans h
    clear hB5 hB25 hB05 hB15 HSJ HB24 HB04 HK2 c0 c1 c2 q0 q1 q2
    go_wp2_with fail
    go_loopw [11] (fun i wq => ∃ j : Nat, j ≤ im.bytes.length ∧ i = .int .i64 j ∧ Scrib W0.heap.size w1.heap.size w5 wq (.slice z0 im.bytes.length t0) (.slice z1 im.laid.length t1) im.bytes.length im.laid.length) (fun i _ => im.bytes.length - (intOf i).toNat)
    case atStart => exact ⟨0, Nat.zero_le _, rfl, HSC.out⟩
    case round =>
      clear HSC
      obtain ⟨j, hj, rfl, hS⟩ := hrel
      have r0' := HKC.out _ 0 _ hS.ch r0
      have r1' := HKC.out _ 1 _ hS.ch r1
      by_cases hlj : j < im.bytes.length
      · have hji : (j : Int) < (im.bytes.length : Int) := by omega
        obtain ⟨g, cp, eg, ⟨q, hq⟩, hfz, hmx, hS2⟩ := hS.put0 hlj (.int .u8 99)
        cases eg
        have HS2 := hideIt hS2
        clear hS hS2
        go_wp2
        go_roundw
        case rel => exact ⟨j + 1, by omega, by go_num, HS2.out⟩
        case measure => simp [intOf]; omega
      · have hji : ¬ (j : Int) < (im.bytes.length : Int) := by omega
        have HSC := hideIt hS
        clear hS hj hlj
        go_wp2_with fail
        go_loopw [12] (fun i wq => ∃ j : Nat, j ≤ im.laid.length ∧ i = .int .i64 j ∧ Scrib W0.heap.size w1.heap.size w5 wq (.slice z0 im.bytes.length t0) (.slice z1 im.laid.length t1) im.bytes.length im.laid.length) (fun i _ => im.laid.length - (intOf i).toNat)
        case atStart => exact ⟨0, Nat.zero_le _, rfl, HSC.out⟩
        case round =>
          clear HSC r0' r1'
          obtain ⟨j, hj, rfl, hS⟩ := hrel
          have r1' := HKC.out _ 1 _ hS.ch r1
          by_cases hlj : j < im.laid.length
          · have hji : (j : Int) < (im.laid.length : Int) := by omega
            obtain ⟨g, cp, eg, ⟨q, hq⟩, hfz, hmx, hS2⟩ := hS.put1 hlj (.bool true)
            cases eg
            have HS2 := hideIt hS2
            clear hS hS2
            go_wp2
            go_roundw
            case rel => exact ⟨j + 1, by omega, by go_num, HS2.out⟩
            case measure => simp [intOf]; omega
          · have hji : ¬ (j : Int) < (im.laid.length : Int) := by omega
            have hBF := hS.below HB05.out
            have HBF := hideIt hBF
            have hc4 := HKB.out wr 4 _ hBF HW4.out.1
            have hf4 := (World.frozen?_of_block (a := ⟨wb, 4, none⟩) (hBF.block wb hwl)).trans HW4.out.2
            have hwq := Nat.lt_of_lt_of_le hwl hBF.size
            by_cases hn4 : hs.length < 4
            · have hn4i : (hs.length : Int) < 4 := by omega
              have hho := HO5.out.chg hS.ch (fun k hk e => by have := hzW2; omega)
              have HHQ := hideIt hho
              have hrow := below_rowB HROW.out hBF
              have HRQ := hideIt hrow
              clear hS hBF hrow hho
              go_wp2_with (
                at_builtin
                refine wpList_append_own_at _ rfl _ _ 33 rfl (wb + 1) 89 li _ 3 40 Tryz.underlying33 hli hl0 hl1 hl2 rfl (by decide) (.slice va hs.length vc) hs.length (hs.flatMap hrCells) rfl (HRQ.out.alloc _) ⟨wr.heap.size, 0, none⟩ 1 1 [.pointer (some ⟨W2.heap.size + 1, 0, none⟩), .pointer (some ⟨hy, 0, none⟩), .slice none 0 0] rfl rfl (cells_new _ _ _) (by intro u hu; simp at hu; rcases hu with rfl | rfl | rfl <;> rfl) (by unfold maxLen; omega) (by omega) (by simp; omega) ?_
                intro v' wn hown hgr _ hloc
                obtain ⟨va', vc', ev'⟩ := row_slice hown
                have hbk := lb_head HRQ.out hgr hwq
                have s4 := (World.cell?_of_block (a := ⟨wb, 4, none⟩) hbk).trans hc4
                have g4 := (World.frozen?_of_block (a := ⟨wb, 4, none⟩) hbk).trans hf4
                obtain ⟨colN, hNEW⟩ := HH.out.newH (w1 := W2) hn4 HBF.out _ _ HHQ.out (by have := HB2.out.size; omega) hown hgr hloc
                subst ev'
                have HNEW := hideIt hNEW
                clear hown hgr hloc hbk hNEW hc4 hf4)
              go_ret
              exact ⟨rfl, hs.length + 1, colN, bv, _, _, by simp, HNEW.out⟩
            · have hn4i : ¬ (hs.length : Int) < 4 := by omega
              clear hS hBF
              go_wp2
              go_ret
              exact ⟨rfl, hs.length, col, bv, hs, _, rfl, HH.out.grow HBF.out⟩
set_option maxRecDepth 100000 in
set_option maxHeartbeats 8000000 in
theorem begins_bad (s : Int) (h : HW w W0 wb gb gcap o col bv hs hv i0 i1 i2 im nbR u) (hf : ImgFew im) (hw : wholeI im = false) :
    Calls Tryz.prog 10 #[.pointer (some ⟨wb, 0, none⟩), .int .i64 s] W0 (BEnd w wb gb gcap o i0 i1 i2 im u) := by
  obtain ⟨x0, y0, e0⟩ := h.img.b.slice
  obtain ⟨x1, y1, e1⟩ := h.img.l.slice
  obtain ⟨x2, y2, e2⟩ := h.img.s.slice
  obtain ⟨va, vc, ev⟩ := row_slice h.row
  have hwl : wb < W0.heap.size := World.block_lt_of_cell? _ _ h.c3
  have c0 := h.c0
  have c1 := h.c1
  have c2 := h.c2
  have HW4 := hideIt (And.intro h.c4 (h.fw 4))
  have HC := hideIt (copied_any i0 i1 i2 im W0 h.img hf)
  have HN := hideIt (fun v0 v1 v2 w' (h' : ImgAt w' v0 v1 v2 im) => nh_bad v0 v1 v2 im s w' h' hf hw)
  have HR := hideIt (fun w' (h' : Below W0.heap.size W0 w') => rnh_bad i0 i1 i2 im s w' (h.img.below h') hf hw)
  have HSI := hideIt (fun a0 a1 a2 w' (h1 : ImgAt w' a0 a1 a2 im) (h' : Below W0.heap.size W0 w') => sameImage_any a0 a1 a2 i0 i1 i2 im w' h1 (h.img.below h') hf)
  have HH := hideIt h
  have HFE := hideIt hf
  have HWH := hideIt hw
  have hfew : hs.length ≤ 4 := h.few
  have HKB : Hid (∀ w' j v, Below W0.heap.size W0 w' → W0.cell? ⟨wb, j, none⟩ = some v → w'.cell? ⟨wb, j, none⟩ = some v) := fun w' j v hb hc => (World.cell?_of_block (a := ⟨wb, j, none⟩) (hb.block wb hwl)).trans hc
  have HROW := hideIt h.row
  subst e0 e1 e2 ev
  clear h hf hw
  go_enter Tryz.func10, Tryz.ntmps10
  go_wp2_with fail
  refine HC.out.mono ?_
  rintro e w1 ⟨u0, u1, u2, rfl, hO, hB1⟩
  obtain ⟨z0, t0, f0⟩ := row_slice hO.b
  obtain ⟨z1, t1, f1⟩ := row_slice hO.l
  obtain ⟨z2, t2, f2⟩ := row_slice hO.s
  obtain ⟨W2, hW2, hBW2, hzW2, k0, k1, k2⟩ := img_cells w1 u0 u1 u2
  have HO := hideIt hO
  have HBW2 := hideIt hBW2
  have hB2 := hB1.trans (hBW2.mono hB1.size)
  have HB2 := hideIt hB2
  have hs1 := hB1.size
  have HK2 : Hid (∀ w' j v, Below W2.heap.size W2 w' → W2.cell? ⟨w1.heap.size, j, none⟩ = some v → w'.cell? ⟨w1.heap.size, j, none⟩ = some v) := fun w' j v hb hc => (World.cell?_of_block (a := ⟨w1.heap.size, j, none⟩) (hb.block w1.heap.size hzW2)).trans hc
  subst f0 f1 f2
  clear hO hB1 hBW2 hB2 HC
  go_wp2_with fail
  refine (HN.out _ _ _ W2 (HO.out.img.below HBW2.out)).mono ?_
  rintro e w3 ⟨rfl, hB3⟩
  have hB03 := HB2.out.trans (hB3.mono HB2.out.size)
  replace c0 := HKB.out w3 0 _ hB03 c0
  replace c1 := HKB.out w3 1 _ hB03 c1
  replace c2 := HKB.out w3 2 _ hB03 c2
  have HB3 := hideIt hB3
  have HB03 := hideIt hB03
  clear hB3 hB03 HN
  go_wp2_with fail
  refine (HR.out w3 HB03.out).mono ?_
  rintro e w4 ⟨rfl, hB4⟩
  have hB24 := HB3.out.trans (hB4.mono HB3.out.size)
  have hB04 := HB2.out.trans (hB24.mono HB2.out.size)
  replace c0 := HKB.out w4 0 _ (HB03.out.trans (hB4.mono HB03.out.size)) ((World.cell?_of_block (a := ⟨wb, 0, none⟩) (HB03.out.block wb hwl)).symm.trans c0)
  replace c1 := HKB.out w4 1 _ (HB03.out.trans (hB4.mono HB03.out.size)) ((World.cell?_of_block (a := ⟨wb, 1, none⟩) (HB03.out.block wb hwl)).symm.trans c1)
  replace c2 := HKB.out w4 2 _ (HB03.out.trans (hB4.mono HB03.out.size)) ((World.cell?_of_block (a := ⟨wb, 2, none⟩) (HB03.out.block wb hwl)).symm.trans c2)
  have q0 := HK2.out w4 0 _ hB24 k0
  have q1 := HK2.out w4 1 _ hB24 k1
  have q2 := HK2.out w4 2 _ hB24 k2
  have HSJ : Hid (∀ W', W'.heap = w4.heap → W'.os = w4.os → W'.tape = w4.tape → W'.output = w4.output → Calls Tryz.prog 20 #[.agg #[.slice z0 im.bytes.length t0, .slice z1 im.laid.length t1, .slice z2 im.starts.length t2], .agg #[.slice x0 (byteVs im.bytes).length y0, .slice x1 (boolVs im.laid).length y1, .slice x2 (boolVs im.starts).length y2]] W' fun e w' => e = .returned (.bool true) ∧ Below w4.heap.size w4 w') := fun W' a1 a2 a3 a4 => by
    have hb : Below w4.heap.size w4 W' := ⟨a2, a3, a4, by rw [a1]; exact Nat.le_refl _, fun k _ => by rw [a1]⟩
    have hb2 := hB24.trans (hb.mono hB24.size)
    have hb0 := hB04.trans (hb.mono hB04.size)
    refine (HSI.out _ _ _ W' ((HO.out.img.below HBW2.out).below hb2) hb0).mono fun e w' ⟨r1, r2⟩ => ⟨r1, hb.trans (r2.mono hb.size)⟩
  have HB24 := hideIt hB24
  have HB04 := hideIt hB04
  clear hB4 hB24 hB04 HR k0 k1 k2 HB03 HB3 HSI
  go_wp2_with fail
  go_region_with (go_at_call 20; refine (HSJ.out w4.drew rfl rfl rfl rfl).mono ?_; rintro e w5 ⟨rfl, hB5⟩)
  all_goals
    have hB25 := HB24.out.trans (hB5.mono HB24.out.size)
    have hB05 := HB04.out.trans (hB5.mono HB04.out.size)
    have hB15 := HBW2.out.trans (hB25.mono HBW2.out.size)
    have r0 := (World.cell?_of_block (a := ⟨w1.heap.size, 0, none⟩) (hB5.block w1.heap.size (World.block_lt_of_cell? _ _ q0))).trans q0
    have r1 := (World.cell?_of_block (a := ⟨w1.heap.size, 1, none⟩) (hB5.block w1.heap.size (World.block_lt_of_cell? _ _ q0))).trans q1
    have HSC := hideIt (Scrib.start HO.out hB15)
    have HB05 := hideIt hB05
    have hs2 := hB15.size
    have hs4 : w1.heap.size < w5.heap.size := Nat.lt_of_lt_of_le hzW2 hB25.size
    have hfb : im.bytes.length ≤ 2000000 := HFE.out.1
    have hfl : im.laid.length ≤ 2000000 := HFE.out.2.1
    have HKC : Hid (∀ w' j v, ChgP w5 w' (fun k => W0.heap.size ≤ k ∧ k < w1.heap.size) → w5.cell? ⟨w1.heap.size, j, none⟩ = some v → w'.cell? ⟨w1.heap.size, j, none⟩ = some v) := fun w' j v hc h => (World.cell?_of_block (a := ⟨w1.heap.size, j, none⟩) (hc.block w1.heap.size hs4 (fun e => by omega))).trans h
    clear hB5 hB25 hB05 hB15 HSJ HB24 HB04 HK2 c0 c1 c2 q0 q1 q2
    go_wp2_with fail
    go_loopw [11] (fun i wq => ∃ j : Nat, j ≤ im.bytes.length ∧ i = .int .i64 j ∧ Scrib W0.heap.size w1.heap.size w5 wq (.slice z0 im.bytes.length t0) (.slice z1 im.laid.length t1) im.bytes.length im.laid.length) (fun i _ => im.bytes.length - (intOf i).toNat)
    case atStart => exact ⟨0, Nat.zero_le _, rfl, HSC.out⟩
    case round =>
      clear HSC
      obtain ⟨j, hj, rfl, hS⟩ := hrel
      have r0' := HKC.out _ 0 _ hS.ch r0
      have r1' := HKC.out _ 1 _ hS.ch r1
      by_cases hlj : j < im.bytes.length
      · have hji : (j : Int) < (im.bytes.length : Int) := by omega
        obtain ⟨g, cp, eg, ⟨q, hq⟩, hfz, hmx, hS2⟩ := hS.put0 hlj (.int .u8 99)
        cases eg
        have HS2 := hideIt hS2
        clear hS hS2
        go_wp2
        go_roundw
        case rel => exact ⟨j + 1, by omega, by go_num, HS2.out⟩
        case measure => simp [intOf]; omega
      · have hji : ¬ (j : Int) < (im.bytes.length : Int) := by omega
        have HSC := hideIt hS
        clear hS hj hlj
        go_wp2_with fail
        go_loopw [12] (fun i wq => ∃ j : Nat, j ≤ im.laid.length ∧ i = .int .i64 j ∧ Scrib W0.heap.size w1.heap.size w5 wq (.slice z0 im.bytes.length t0) (.slice z1 im.laid.length t1) im.bytes.length im.laid.length) (fun i _ => im.laid.length - (intOf i).toNat)
        case atStart => exact ⟨0, Nat.zero_le _, rfl, HSC.out⟩
        case round =>
          clear HSC r0' r1'
          obtain ⟨j, hj, rfl, hS⟩ := hrel
          have r1' := HKC.out _ 1 _ hS.ch r1
          by_cases hlj : j < im.laid.length
          · have hji : (j : Int) < (im.laid.length : Int) := by omega
            obtain ⟨g, cp, eg, ⟨q, hq⟩, hfz, hmx, hS2⟩ := hS.put1 hlj (.bool true)
            cases eg
            have HS2 := hideIt hS2
            clear hS hS2
            go_wp2
            go_roundw
            case rel => exact ⟨j + 1, by omega, by go_num, HS2.out⟩
            case measure => simp [intOf]; omega
          · have hji : ¬ (j : Int) < (im.laid.length : Int) := by omega
            have hBF := hS.below HB05.out
            have HBF := hideIt hBF
            clear hS hBF
            go_wp2
            go_ret
            exact ⟨rfl, hs.length, col, bv, hs, _, rfl, HH.out.grow HBF.out⟩
end
end Go.Proofs.YthokdbcpkmcieaaGreat
