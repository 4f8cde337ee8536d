/- The law's host: Tick, State, told, talks. -/
import Derived.Test.YthokdbcpkmcieaaGreatLhB
namespace Go.Proofs.YthokdbcpkmcieaaGreat
open Go Go.RowKit
attribute [local go_sem ↓] Go.wp_at_zero Go.wp_at_succ
/-- What an act leaves. -/
def HEnd (w : World) (wb gb gcap : Nat) (o : Nat → Bo) (n : Nat) (i0 i1 i2 : Value) (im : Img) (u : Nat) (e : Ending) (w' : World) : Prop := e = .returned (.bool true) ∧ HSt w w' wb gb gcap o n i0 i1 i2 im u
theorem HEnd.mk {w w' : World} {wb gb gcap : Nat} {o : Nat → Bo} {n : Nat} {i0 i1 i2 : Value} {im : Img} {u v : Nat} (h : HSt w w' wb gb gcap o n i0 i1 i2 im u) (huv : u ≤ v) : HEnd w wb gb gcap o n i0 i1 i2 im v (.returned (.bool true)) w' := by
  obtain ⟨col, bv, hs, hv, hl, hw⟩ := h
  exact ⟨rfl, col, bv, hs, hv, hl, hw.le huv⟩
section
variable {w wr : World} {wb gb gcap : Nat} {o : Nat → Bo} {col : Nat → Nat} {bv : Nat → Value} {hs : List HR} {hv i0 i1 i2 : Value} {im : Img} {nb : Nat → Nat} {u v : Nat}
set_option maxRecDepth 100000 in
set_option maxHeartbeats 4000000 in
theorem lhost_tick (B H A C : Int) (S : ByteArray) (i bi : Nat) (hi : i < hs.length) (hbi : bi < 2) (h : HW w wr wb gb gcap o col bv hs hv i0 i1 i2 im nbR u) :
    Calls Tryz.prog 15 #[.pointer (some ⟨wb, 0, none⟩), .int .i64 (bi : Int), .int .i64 (i : Int), .agg #[.int .i64 14, .int .i64 B, .int .i64 H, .int .i64 A, .int .i64 C, .string S]] wr (HEnd w wb gb gcap o hs.length i0 i1 i2 im (u + S.size + 2412000)) := by
  obtain ⟨W, hW, hB, hz, k0, k3, k4, k5⟩ := act_cells wr 14 B H A C S
  have h1 := (h.begin bi i).grow hB
  obtain ⟨gh, hcap, rfl, hLH, cv, fv, kgh⟩ := h1.host i hi
  have c3 := h1.c3
  have c4 := h1.c4
  have cx := hLH.cx
  have cy := hLH.cy
  have hii : (i : Int) < (hs.length : Int) := by omega
  have hni : (hs.length : Int) ≤ 4 := by have := h.few; omega
  have hbii : (bi : Int) < 2 := by omega
  have HK := hideIt hLH.ho.tick
  have HH := hideIt h1
  have HN := hideIt hLH
  clear h h1 hLH cv fv hB
  go_enter Tryz.func15, Tryz.ntmps15
  go_wp2_with fail
  refine HK.out.mono ?_
  rintro e w1 ⟨rfl, hc1, hk1⟩
  have e2 := hc1.block gh (World.block_lt_of_cell? _ _ cx) HN.out.ng
  have dy := (World.cell?_of_block (a := ⟨gh, i * 3 + 1, none⟩) e2).trans cy
  have HK1 := hideIt hk1
  have HC1 := hideIt hc1
  clear hk1 hc1 e2 c3 c4 cx cy
  go_wp2_with fail
  refine HK1.out.mono ?_
  rintro e w2 ⟨rfl, hp2, hc2⟩
  have HF := hideIt (HH.out.actH i hi hp2 (HC1.out.trans hc2) (Nat.le_refl _))
  clear hp2 hc2 HH dy
  obtain ⟨⟨xa, nx, xc, ex, hx13, hxs⟩, ⟨ya, ny, yc, ey, hy13, hys⟩⟩ := HF.out.le13 hi hbi
  obtain ⟨gh', hcap', eh, _, tx, tfx, _⟩ := HF.out.host i hi
  cases eh
  have ty := HF.out.gv bi hbi
  have tfy := HF.out.fg (bi * 3 + 2)
  replace tfx := tfx (i * 3 + 2)
  have tbl : gb < _ := World.block_lt_of_cell? _ _ ty
  have tgn : ¬ gb = gh := fun e => by have q := HF.out.kg; rw [e, HF.out.kh gh rfl] at q; omega
  rw [ex] at tx
  rw [ey] at ty
  have HEX := hideIt ex
  have HEY := hideIt ey
  clear ex ey
  by_cases hx12 : 12 < nx
  · obtain ⟨xg, xo, rfl, hxl, hxm⟩ := hxs hx12
    have hxi : (12 : Int) < (nx : Int) := by omega
    have hxi6 : (6 : Int) ≤ (nx : Int) := by omega
    have hxci : (nx : Int) ≤ (xc : Int) := by omega
    have hxcm : (xc : Int) ≤ 9223372036854775807 := by unfold maxLen at hxm; omega
    have hxc6 : ¬ xc = 6 := by omega
    by_cases hy12 : 12 < ny
    · obtain ⟨yg, yo, rfl, hyl, hym⟩ := hys hy12
      have hyi : (12 : Int) < (ny : Int) := by omega
      have hyi6 : (6 : Int) ≤ (ny : Int) := by omega
      have hyci : (ny : Int) ≤ (yc : Int) := by omega
      have hycm : (yc : Int) ≤ 9223372036854775807 := by unfold maxLen at hym; omega
      have hyc6 : ¬ yc = 6 := by omega
      go_wp2
      go_ret
      exact HEnd.mk (HF.out.tail11 hi hbi HEX.out HEY.out hx12 hx13 hy12 hy13) (by omega)
    · have hyi : ¬ (12 : Int) < (ny : Int) := by omega
      go_wp2
      go_ret
      exact HEnd.mk (HF.out.tail10 hi hbi HEX.out HEY.out hx12 hx13 (by omega)) (by omega)
  · have hxi : ¬ (12 : Int) < (nx : Int) := by omega
    by_cases hy12 : 12 < ny
    · obtain ⟨yg, yo, rfl, hyl, hym⟩ := hys hy12
      have hyi : (12 : Int) < (ny : Int) := by omega
      have hyi6 : (6 : Int) ≤ (ny : Int) := by omega
      have hyci : (ny : Int) ≤ (yc : Int) := by omega
      have hycm : (yc : Int) ≤ 9223372036854775807 := by unfold maxLen at hym; omega
      have hyc6 : ¬ yc = 6 := by omega
      go_wp2
      go_ret
      exact HEnd.mk (HF.out.tail01 hi hbi HEX.out HEY.out (by omega) hy12 hy13) (by omega)
    · have hyi : ¬ (12 : Int) < (ny : Int) := by omega
      go_wp2
      go_ret
      exact HEnd.mk (HF.out.tail00 hi hbi HEX.out HEY.out (by omega) (by omega)) (by omega)
set_option maxRecDepth 100000 in
set_option maxHeartbeats 4000000 in
theorem lhost_state (B H A C : Int) (S : ByteArray) (i bi : Nat) (hi : i < hs.length) (hbi : bi < 2) (h : HW w wr wb gb gcap o col bv hs hv i0 i1 i2 im nbR u) :
    Calls Tryz.prog 15 #[.pointer (some ⟨wb, 0, none⟩), .int .i64 (bi : Int), .int .i64 (i : Int), .agg #[.int .i64 15, .int .i64 B, .int .i64 H, .int .i64 A, .int .i64 C, .string S]] wr (HEnd w wb gb gcap o hs.length i0 i1 i2 im (u + S.size + 2412000)) := by
  obtain ⟨W, hW, hB, hz, k0, k3, k4, k5⟩ := act_cells wr 15 B H A C S
  have h1 := (h.begin bi i).grow hB
  obtain ⟨gh, hcap, rfl, hLH, cv, fv, kgh⟩ := h1.host i hi
  have c3 := h1.c3
  have c4 := h1.c4
  have cx := hLH.cx
  have cy := hLH.cy
  have hii : (i : Int) < (hs.length : Int) := by omega
  have hni : (hs.length : Int) ≤ 4 := by have := h.few; omega
  have hbii : (bi : Int) < 2 := by omega
  obtain ⟨s, hs1, hs2⟩ := hLH.ho.state
  have HS1 := hideIt hs1
  have HS2 := hideIt hs2
  have HH := hideIt ((h.grow hB).le (v := u + S.size + 2412000) (by omega))
  clear h h1 hLH cv fv hB hs1 hs2
  go_enter Tryz.func15, Tryz.ntmps15
  go_wp2_with fail
  refine HS1.out.mono ?_
  rintro e w1 ⟨rfl, rfl⟩
  go_wp2_with fail
  refine HS2.out.mono ?_
  rintro e w2 ⟨rfl, rfl⟩
  go_wp2
  go_ret
  exact ⟨by simp, _, _, _, _, rfl, HH.out⟩
set_option maxRecDepth 100000 in
set_option maxHeartbeats 4000000 in
theorem lhost_told (B H A C : Int) (S : ByteArray) (i bi : Nat) (hi : i < hs.length) (hbi : bi < 2) (h : HW w wr wb gb gcap o col bv hs hv i0 i1 i2 im nbR u) (hu : u ≤ 3000000000000) (hS : S.size ≤ 2000000) :
    Calls Tryz.prog 15 #[.pointer (some ⟨wb, 0, none⟩), .int .i64 (bi : Int), .int .i64 (i : Int), .agg #[.int .i64 16, .int .i64 B, .int .i64 H, .int .i64 A, .int .i64 C, .string S]] wr (HEnd w wb gb gcap o hs.length i0 i1 i2 im (u + S.size + 2412000)) := by
  obtain ⟨W, hW, hB, hz, k0, k3, k4, k5⟩ := act_cells wr 16 B H A C S
  have h1 := (h.begin bi i).grow hB
  obtain ⟨gh, hcap, rfl, hLH, cv, fv, kgh⟩ := h1.host i hi
  have c3 := h1.c3
  have c4 := h1.c4
  have cx := hLH.cx
  have cy := hLH.cy
  have hii : (i : Int) < (hs.length : Int) := by omega
  have hni : (hs.length : Int) ≤ 4 := by have := h.few; omega
  have hbii : (bi : Int) < 2 := by omega
  have HK := hideIt (ltold_any wb gh hs.length hcap i _ _ _ _ S W hLH ⟨by omega, by omega⟩)
  have HH := hideIt h1
  clear h h1 hLH cv fv hB
  go_enter Tryz.func15, Tryz.ntmps15
  go_wp2_with fail
  refine HK.out.mono ?_
  rintro e w1 ⟨rfl, hp1, hc1⟩
  have HF := hideIt (HH.out.actH i hi hp1 hc1 (by omega))
  clear hp1 hc1 HH c3 c4 cx cy
  obtain ⟨⟨xa, nx, xc, ex, hx13, hxs⟩, ⟨ya, ny, yc, ey, hy13, hys⟩⟩ := HF.out.le13 hi hbi
  obtain ⟨gh', hcap', eh, _, tx, tfx, _⟩ := HF.out.host i hi
  cases eh
  have ty := HF.out.gv bi hbi
  have tfy := HF.out.fg (bi * 3 + 2)
  replace tfx := tfx (i * 3 + 2)
  have tbl : gb < _ := World.block_lt_of_cell? _ _ ty
  have tgn : ¬ gb = gh := fun e => by have q := HF.out.kg; rw [e, HF.out.kh gh rfl] at q; omega
  rw [ex] at tx
  rw [ey] at ty
  have HEX := hideIt ex
  have HEY := hideIt ey
  clear ex ey
  by_cases hx12 : 12 < nx
  · obtain ⟨xg, xo, rfl, hxl, hxm⟩ := hxs hx12
    have hxi : (12 : Int) < (nx : Int) := by omega
    have hxi6 : (6 : Int) ≤ (nx : Int) := by omega
    have hxci : (nx : Int) ≤ (xc : Int) := by omega
    have hxcm : (xc : Int) ≤ 9223372036854775807 := by unfold maxLen at hxm; omega
    have hxc6 : ¬ xc = 6 := by omega
    by_cases hy12 : 12 < ny
    · obtain ⟨yg, yo, rfl, hyl, hym⟩ := hys hy12
      have hyi : (12 : Int) < (ny : Int) := by omega
      have hyi6 : (6 : Int) ≤ (ny : Int) := by omega
      have hyci : (ny : Int) ≤ (yc : Int) := by omega
      have hycm : (yc : Int) ≤ 9223372036854775807 := by unfold maxLen at hym; omega
      have hyc6 : ¬ yc = 6 := by omega
      go_wp2
      go_ret
      exact HEnd.mk (HF.out.tail11 hi hbi HEX.out HEY.out hx12 hx13 hy12 hy13) (by omega)
    · have hyi : ¬ (12 : Int) < (ny : Int) := by omega
      go_wp2
      go_ret
      exact HEnd.mk (HF.out.tail10 hi hbi HEX.out HEY.out hx12 hx13 (by omega)) (by omega)
  · have hxi : ¬ (12 : Int) < (nx : Int) := by omega
    by_cases hy12 : 12 < ny
    · obtain ⟨yg, yo, rfl, hyl, hym⟩ := hys hy12
      have hyi : (12 : Int) < (ny : Int) := by omega
      have hyi6 : (6 : Int) ≤ (ny : Int) := by omega
      have hyci : (ny : Int) ≤ (yc : Int) := by omega
      have hycm : (yc : Int) ≤ 9223372036854775807 := by unfold maxLen at hym; omega
      have hyc6 : ¬ yc = 6 := by omega
      go_wp2
      go_ret
      exact HEnd.mk (HF.out.tail01 hi hbi HEX.out HEY.out (by omega) hy12 hy13) (by omega)
    · have hyi : ¬ (12 : Int) < (ny : Int) := by omega
      go_wp2
      go_ret
      exact HEnd.mk (HF.out.tail00 hi hbi HEX.out HEY.out (by omega) (by omega)) (by omega)
set_option maxRecDepth 100000 in
set_option maxHeartbeats 4000000 in
theorem lhost_talk (B H A C : Int) (S : ByteArray) (i bi : Nat) (hi : i < hs.length) (hbi : bi < 2) (h : HW w wr wb gb gcap o col bv hs hv i0 i1 i2 im nbR u) (hu : u ≤ 3000000000000) (hA1 : -9223372036854775808 ≤ A) (hA2 : A ≤ 9223372036854775807) :
    Calls Tryz.prog 15 #[.pointer (some ⟨wb, 0, none⟩), .int .i64 (bi : Int), .int .i64 (i : Int), .agg #[.int .i64 17, .int .i64 B, .int .i64 H, .int .i64 A, .int .i64 C, .string S]] wr (HEnd w wb gb gcap o hs.length i0 i1 i2 im (u + S.size + 2412000)) := by
  obtain ⟨W, hW, hB, hz, k0, k3, k4, k5⟩ := act_cells wr 17 B H A C S
  have h1 := (h.begin bi i).grow hB
  obtain ⟨gh, hcap, rfl, hLH, cv, fv, kgh⟩ := h1.host i hi
  have c3 := h1.c3
  have c4 := h1.c4
  have cx := hLH.cx
  have cy := hLH.cy
  have hii : (i : Int) < (hs.length : Int) := by omega
  have hni : (hs.length : Int) ≤ 4 := by have := h.few; omega
  have hbii : (bi : Int) < 2 := by omega
  have HPK := hideIt (fun w' => lpick_any A 61 hA1 hA2 (by decide) (by decide) w')
  have HK := hideIt (fun t ht => ltalks_any i bi t hi hbi ht h1 hu)
  clear h hLH cv fv hB h1
  go_enter Tryz.func15, Tryz.ntmps15
  go_wp2_with fail
  refine (HPK.out _).mono ?_
  rintro e w1 ⟨t, ht, rfl, rfl⟩
  go_wp2_with fail
  refine (HK.out t (by omega)).mono ?_
  rintro e w1 ⟨rfl, h1⟩
  have HF := hideIt h1
  clear h1 c3 c4 cx cy
  obtain ⟨⟨xa, nx, xc, ex, hx13, hxs⟩, ⟨ya, ny, yc, ey, hy13, hys⟩⟩ := HF.out.le13 hi hbi
  obtain ⟨gh', hcap', eh, _, tx, tfx, _⟩ := HF.out.host i hi
  cases eh
  have ty := HF.out.gv bi hbi
  have tfy := HF.out.fg (bi * 3 + 2)
  replace tfx := tfx (i * 3 + 2)
  have tbl : gb < _ := World.block_lt_of_cell? _ _ ty
  have tgn : ¬ gb = gh := fun e => by have q := HF.out.kg; rw [e, HF.out.kh gh rfl] at q; omega
  rw [ex] at tx
  rw [ey] at ty
  have HEX := hideIt ex
  have HEY := hideIt ey
  clear ex ey
  by_cases hx12 : 12 < nx
  · obtain ⟨xg, xo, rfl, hxl, hxm⟩ := hxs hx12
    have hxi : (12 : Int) < (nx : Int) := by omega
    have hxi6 : (6 : Int) ≤ (nx : Int) := by omega
    have hxci : (nx : Int) ≤ (xc : Int) := by omega
    have hxcm : (xc : Int) ≤ 9223372036854775807 := by unfold maxLen at hxm; omega
    have hxc6 : ¬ xc = 6 := by omega
    by_cases hy12 : 12 < ny
    · obtain ⟨yg, yo, rfl, hyl, hym⟩ := hys hy12
      have hyi : (12 : Int) < (ny : Int) := by omega
      have hyi6 : (6 : Int) ≤ (ny : Int) := by omega
      have hyci : (ny : Int) ≤ (yc : Int) := by omega
      have hycm : (yc : Int) ≤ 9223372036854775807 := by unfold maxLen at hym; omega
      have hyc6 : ¬ yc = 6 := by omega
      go_wp2
      go_ret
      exact HEnd.mk (HF.out.tail11 hi hbi HEX.out HEY.out hx12 hx13 hy12 hy13) (by omega)
    · have hyi : ¬ (12 : Int) < (ny : Int) := by omega
      go_wp2
      go_ret
      exact HEnd.mk (HF.out.tail10 hi hbi HEX.out HEY.out hx12 hx13 (by omega)) (by omega)
  · have hxi : ¬ (12 : Int) < (nx : Int) := by omega
    by_cases hy12 : 12 < ny
    · obtain ⟨yg, yo, rfl, hyl, hym⟩ := hys hy12
      have hyi : (12 : Int) < (ny : Int) := by omega
      have hyi6 : (6 : Int) ≤ (ny : Int) := by omega
      have hyci : (ny : Int) ≤ (yc : Int) := by omega
      have hycm : (yc : Int) ≤ 9223372036854775807 := by unfold maxLen at hym; omega
      have hyc6 : ¬ yc = 6 := by omega
      go_wp2
      go_ret
      exact HEnd.mk (HF.out.tail01 hi hbi HEX.out HEY.out (by omega) hy12 hy13) (by omega)
    · have hyi : ¬ (12 : Int) < (ny : Int) := by omega
      go_wp2
      go_ret
      exact HEnd.mk (HF.out.tail00 hi hbi HEX.out HEY.out (by omega) (by omega)) (by omega)
end
end Go.Proofs.YthokdbcpkmcieaaGreat
