/- The law's host: Spoil. -/
import Derived.Test.YthokdbcpkmcieaaGreatLhC
import Derived.Deep.RegionHeld3
namespace Go.Proofs.YthokdbcpkmcieaaGreat
open Go Go.RowKit
attribute [local go_sem ↓] Go.wp_at_zero Go.wp_at_succ
theorem Way.first {w : World} {xa : Option Addr} {nx xc M : Nat} (h : Way w (.slice xa nx xc) nx M) (hn : 0 < nx) : ∃ g off, ∃ s : ByteArray, xa = some ⟨g, off, none⟩ ∧ w.cell? ⟨g, off, none⟩ = some (.string s) ∧ s.size ≤ M ∧ w.frozen? ⟨g, off, none⟩ = false ∧ g < w.heap.size := by
  obtain ⟨a, cap, e, h1, h2, h3⟩ := h.is
  cases e
  obtain ⟨g, off, rfl, hg, h4, h5⟩ := h3 (by omega)
  obtain ⟨s, s1, s2⟩ := h5 0 hn
  exact ⟨g, off, s, rfl, s2, s1, (h4 0 (by omega)).2, hg⟩
theorem Way.put0 {w : World} {g off n c M : Nat} {t : ByteArray} (h : Way w (.slice (some ⟨g, off, none⟩) n c) n M) (ht : t.size ≤ M) (hn : 0 < n) : Way (w.setCell ⟨g, off, none⟩ (.string t)) (.slice (some ⟨g, off, none⟩) n c) n M := by
  obtain ⟨a, cap, e, h1, h2, h3⟩ := h.is
  cases e
  obtain ⟨g', off', e, hg, h4, h5⟩ := h3 (by omega)
  cases e
  obtain ⟨q, hq⟩ : ∃ q, w.cell? ⟨g, off, none⟩ = some q := Option.isSome_iff_exists.1 (h4 0 (by omega)).1
  refine ⟨_, _, rfl, h1, h2, fun _ => ⟨g, off, rfl, by simpa [World.setCell] using hg, fun j hj => ⟨?_, by simp [(h4 j hj).2]⟩, fun j hj => ?_⟩⟩
  · by_cases e : j = 0
    · subst e
      rw [Nat.add_zero, World.cell?_setCell_same _ _ _ hq]
      rfl
    · rw [World.cell?_setCell_other _ _ _ _ (by simp <;> omega)]
      exact (h4 j hj).1
  · by_cases e : j = 0
    · subst e
      exact ⟨t, ht, by rw [Nat.add_zero]; exact World.cell?_setCell_same _ _ _ hq⟩
    · obtain ⟨s, s1, s2⟩ := h5 j hj
      exact ⟨s, s1, (World.cell?_setCell_other _ _ _ _ (by simp <;> omega)).trans s2⟩
theorem half_ok (A : Int) (h1 : -9223372036854775808 ≤ A) (h2 : A ≤ 9223372036854775807) : ∃ q, Int.tdiv A 2 = q ∧ -9223372036854775808 ≤ q ∧ q ≤ 9223372036854775807 := by
  refine ⟨_, rfl, ?_⟩
  by_cases h : 0 ≤ A
  · rw [Int.tdiv_eq_ediv_of_nonneg h]
    omega
  · obtain ⟨b, rfl⟩ : ∃ b, A = -b := ⟨-A, by omega⟩
    rw [Int.neg_tdiv, Int.tdiv_eq_ediv_of_nonneg (by omega)]
    omega
section
variable {w wr : World} {wb gb gcap : Nat} {o : Nat → Bo} {col : Nat → Nat} {bv : Nat → Value} {hs : List HR} {hv i0 i1 i2 : Value} {im : Img} {nb : Nat → Nat} {u : Nat}
theorem HW.spoilH {i : Nat} (h : HW w wr wb gb gcap o col bv hs hv i0 i1 i2 im nb u) (hi : i < hs.length) {g off nx xc : Nat} (ex : hs[i].v = .slice (some ⟨g, off, none⟩) nx xc) (hn : 0 < nx) {t : ByteArray} (ht : t.size ≤ 40000) : HW w (wr.setCell ⟨g, off, none⟩ (.string t)) wb gb gcap o col bv hs hv i0 i1 i2 im nb u := by
  obtain ⟨m, hm, hw⟩ := h.hw i hi
  have hk := h.ks i hi g (by rw [ex]; rfl)
  rw [ex] at hw
  have := way_lenB hw
  subst this
  refine h.upd (fun c => c = 40 + i) (fun c e => by omega) ⟨rfl, rfl, rfl, by simp [World.setCell], fun k _ hne => heap_setCell_other wr ⟨g, off, none⟩ k _ (fun e => hne (by rw [show k = g from e]; exact hk.1))⟩ (Nat.le_refl _) (fun j hj e => by omega) (fun j hj e => by omega) (fun j hj e => by have := h.few; omega) ?_
  intro j hj e
  have ej : j = i := by omega
  subst ej
  exact ⟨m, hm, by rw [ex]; exact hw.put0 ht hn⟩
theorem HW.spoilB {bi : Nat} (h : HW w wr wb gb gcap o col bv hs hv i0 i1 i2 im nb u) (hbi : bi < 2) {g off ny yc : Nat} (ey : bv bi = .slice (some ⟨g, off, none⟩) ny yc) (hn : 0 < ny) {t : ByteArray} (ht : t.size ≤ 200) : HW w (wr.setCell ⟨g, off, none⟩ (.string t)) wb gb gcap o col bv hs hv i0 i1 i2 im nb u := by
  obtain ⟨m, hm, hw⟩ := h.bw bi hbi
  have hk := h.kv bi hbi g (by rw [ey]; rfl)
  rw [ey] at hw
  have := way_lenB hw
  subst this
  refine h.upd (fun c => c = 20 + bi) (fun c e => by omega) ⟨rfl, rfl, rfl, by simp [World.setCell], fun k _ hne => heap_setCell_other wr ⟨g, off, none⟩ k _ (fun e => hne (by rw [show k = g from e]; exact hk.1))⟩ (Nat.le_refl _) (fun j hj e => by omega) ?_ (fun j hj e => by omega) (fun j hj e => by omega)
  intro j hj e
  have ej : j = bi := by omega
  subst ej
  exact ⟨m, hm, by rw [ey]; exact hw.put0 ht hn⟩
end
section
variable {w wr : World} {wb gb gcap : Nat} {o : Nat → Bo} {col : Nat → Nat} {bv : Nat → Value} {hs : List HR} {hv i0 i1 i2 : Value} {im : Img} {nb : Nat → Nat} {u v : Nat}
set_option maxRecDepth 100000 in
set_option maxHeartbeats 4000000 in
theorem lhost_spoilX (B H A C : Int) (S : ByteArray) (i bi : Nat) (hi : i < hs.length) (hbi : bi < 2) (h : HW w wr wb gb gcap o col bv hs hv i0 i1 i2 im nbR u) (hodd : ¬ Int.tmod A 2 = 0) (hA1 : -9223372036854775808 ≤ A) (hA2 : A ≤ 9223372036854775807) :
    Calls Tryz.prog 15 #[.pointer (some ⟨wb, 0, none⟩), .int .i64 (bi : Int), .int .i64 (i : Int), .agg #[.int .i64 13, .int .i64 B, .int .i64 H, .int .i64 A, .int .i64 C, .string S]] wr (HEnd w wb gb gcap o hs.length i0 i1 i2 im (u + S.size + 2412000)) := by
  obtain ⟨W, hW, hB, hz, k0, k3, k4, k5⟩ := act_cells wr 13 B H A C S
  have h1 := h.grow hB
  obtain ⟨gh, hcap, rfl, hLH, cv, fv, kgh⟩ := h1.host i hi
  have c3 := h1.c3
  have c4 := h1.c4
  have cx := hLH.cx
  have cy := hLH.cy
  have hii : (i : Int) < (hs.length : Int) := by omega
  have hni : (hs.length : Int) ≤ 4 := by have := h.few; omega
  have hbii : (bi : Int) < 2 := by omega
  obtain ⟨n0, hn0, hw0⟩ := h1.hw i hi
  obtain ⟨xa0, xc0, e0⟩ := hw0.slice
  obtain ⟨m0, hm0, hv0⟩ := h1.bw bi hbi
  obtain ⟨ya0, yc0, ey⟩ := hv0.slice
  have hn12 : n0 ≤ 12 := hn0
  have hm12 : m0 ≤ 12 := hm0
  have gv := cv
  have gy := h1.gv bi hbi
  rw [e0] at gv hw0
  rw [ey] at gy hv0
  have hxi : ¬ (12 : Int) < (n0 : Int) := by omega
  have hyi : ¬ (12 : Int) < (m0 : Int) := by omega
  by_cases h0 : 0 < n0
  · have hn0i : (0 : Int) < (n0 : Int) := by omega
    obtain ⟨g, off, s, rfl, cs, hss, fs, hgl⟩ := hw0.first h0
    obtain ⟨q, hq, hq1, hq2⟩ := half_ok A hA1 hA2
    have hwq : IntKind.i64.wrap q = q := by rw [IntKind.wrap_i64]; omega
    have HSP : Hid (∀ W', W'.heap = W.heap → W'.os = W.os → W'.tape = W.tape → W'.output = W.output → Calls Tryz.prog 36 #[.string s, .int .i64 (IntKind.i64.wrap q), .int .i64 C] W' fun e w' => ∃ t : ByteArray, e = .returned (.string t) ∧ t.size ≤ 40000 ∧ Below W.heap.size W w') := fun W' e1 e2 e3 e4 => by
      rw [hwq]
      exact (spoilt_any s q C W' hq1 hq2 (by omega)).mono fun e w' ⟨t, q1, q2, q3⟩ => ⟨t, q1, by omega, ⟨q3.os.trans e2, q3.tape.trans e3, q3.output.trans e4, by rw [← e1]; exact q3.size, fun k hk => by rw [← e1]; exact q3.block k (by rw [e1]; exact hk)⟩⟩
    have HH := hideIt h1
    have HE0 := hideIt e0
    have hgh : gh < W.heap.size := World.block_lt_of_cell? _ _ gv
    have hgbl : gb < W.heap.size := World.block_lt_of_cell? _ _ gy
    have hcol := (h1.ks i hi g (by rw [e0]; rfl)).1
    have hgne : ¬ g = gh := fun e => by rw [e, h1.kh gh rfl] at hcol; omega
    have hgnb : ¬ g = gb := fun e => by rw [e, h1.kg] at hcol; omega
    have hgne2 : ¬ gh = g := fun e => hgne e.symm
    have hgnb2 : ¬ gb = g := fun e => hgnb e.symm
    have hgw : ¬ g = wr.heap.size := fun e => by have q1 := (h.ks i hi g (by rw [e0]; rfl)).2; omega
    have hgw2 : ¬ wr.heap.size = g := fun e => hgw e.symm
    clear h h1 hLH cv fv hB hw0 hv0 e0 ey hcol hwq
    go_enter Tryz.func15, Tryz.ntmps15
    go_wp2_with fail
    refine wp_region_noPanic ?_
    refine wp_region_held_drew (S := fun w' => w'.cell? ⟨gh, i * 3 + 2, none⟩ = some (.slice (some ⟨g, off, none⟩) n0 xc0) ∧ w'.cell? ⟨wr.heap.size, 3, none⟩ = some (.int .i64 A) ∧ w'.cell? ⟨wr.heap.size, 4, none⟩ = some (.int .i64 C)) (by kernel_rfl) (by go_keep) (fun hHeld => ?_)
    refine wpAnyH_take (i := 0) (v := ?v0) rfl (by kernel_rfl) (by kernel_rfl) (by kernel_rfl) (fun _ _ _ h => h) (Or.inl ⟨by rfl, ?hy0⟩) (by assumption) ?rest0
    case hy0 => (intro w hSw; (try dsimp only at hSw); go_simp; try with_reducible rfl)
    simp only [Act.put, List.setIfInBounds_toArray]
    refine wpAnyH_take (i := 1) (v := ?v1) rfl (by kernel_rfl) (by kernel_rfl) (by kernel_rfl) (fun _ _ _ h => h) (Or.inl ⟨by rfl, ?hy1⟩) (by assumption) ?rest1
    case hy1 => (intro w hSw; (try dsimp only at hSw); go_simp; try with_reducible rfl)
    simp only [Act.put]
    refine wpAnyH_take (i := 2) (v := ?v2) rfl (by kernel_rfl) (by kernel_rfl) (by kernel_rfl) (fun _ _ _ h => h) (Or.inl ⟨by rfl, ?hy2⟩) (by assumption) ?rest2
    case hy2 => (intro w hSw; (try dsimp only at hSw); go_simp; try with_reducible rfl)
    simp only [Act.put]
    refine wpAnyH_take (i := 3) (v := ?v3) rfl (by kernel_rfl) (by kernel_rfl) (by kernel_rfl) (fun _ _ _ h => h) (Or.inl ⟨by rfl, ?hy3⟩) (by assumption) ?rest3
    case hy3 => (intro w hSw; (try dsimp only at hSw); go_simp; try with_reducible rfl)
    simp only [Act.put]
    refine wpAnyH_take (i := 4) (v := ?v4) rfl (by kernel_rfl) (by kernel_rfl) (by kernel_rfl) (fun _ _ _ h => h) (Or.inl ⟨by rfl, ?hy4⟩) (by assumption) ?rest4
    case hy4 => (intro w hSw; (try dsimp only at hSw); go_simp; try with_reducible rfl)
    simp only [Act.put]
    refine wpAnyH_take (i := 5) (v := ?v5) rfl (by kernel_rfl) (by kernel_rfl) (by kernel_rfl) (fun _ _ _ h => h) (Or.inl ⟨by rfl, ?hy5⟩) (by assumption) ?rest5
    case hy5 => (intro w hSw; (try dsimp only at hSw); go_simp; try with_reducible rfl)
    simp only [Act.put]
    refine wpAnyH_take (i := 6) (v := ?v6) rfl (by kernel_rfl) (by kernel_rfl) (by kernel_rfl) (fun _ _ _ h => h) (Or.inl ⟨by rfl, ?hy6⟩) (by assumption) ?rest6
    case hy6 => (intro w hSw; (try dsimp only at hSw); go_simp; try with_reducible rfl)
    simp only [Act.put]
    refine wpAnyH_take (i := 7) (v := ?v7) rfl (by kernel_rfl) (by kernel_rfl) (by kernel_rfl) (fun _ _ _ h => h) (Or.inl ⟨by rfl, ?hy7⟩) (by assumption) ?rest7
    case hy7 => (intro w hSw; (try dsimp only at hSw); go_simp; try with_reducible rfl)
    simp only [Act.put]
    refine wpAnyH_take (i := 8) (v := ?v8) rfl (by kernel_rfl) (by kernel_rfl) (by kernel_rfl) (fun _ _ _ h => h) (Or.inl ⟨by rfl, ?hy8⟩) (by assumption) ?rest8
    case hy8 => (intro w hSw; (try dsimp only at hSw); go_simp; try with_reducible rfl)
    simp only [Act.put]
    refine wpAnyH_take (i := 10) (v := ?v10) rfl (by kernel_rfl) (by kernel_rfl) (by kernel_rfl) (fun _ _ _ h => h) (Or.inl ⟨by rfl, ?hy10⟩) (by assumption) ?rest10
    case hy10 => (intro w hSw; (try dsimp only at hSw); go_simp; try with_reducible rfl)
    simp only [Act.put]
    refine wpAnyH_take (i := 11) (v := ?v11) rfl (by kernel_rfl) (by kernel_rfl) (by kernel_rfl) (fun _ _ _ h => h) (Or.inl ⟨by rfl, ?hy11⟩) (by assumption) ?rest11
    case hy11 => (intro w hSw; (try dsimp only at hSw); go_simp; try with_reducible rfl)
    simp only [Act.put]
    refine wpAnyH_take (i := 12) (v := ?v12) rfl (by kernel_rfl) (by kernel_rfl) (by kernel_rfl) (fun _ _ _ h => h) (Or.inl ⟨by rfl, ?hy12⟩) (by assumption) ?rest12
    case hy12 => (intro w hSw; (try dsimp only at hSw); go_simp; try with_reducible rfl)
    simp only [Act.put]
    refine wpAnyH_take (i := 13) (v := ?v13) rfl (by kernel_rfl) (by kernel_rfl) (by kernel_rfl) (fun _ _ _ h => h) (Or.inl ⟨by rfl, ?hy13⟩) (by assumption) ?rest13
    case hy13 => (intro w hSw; (try dsimp only at hSw); go_simp; try with_reducible rfl)
    simp only [Act.put]
    refine wpAnyH_take (i := 14) (v := ?v14) rfl (by kernel_rfl) (by kernel_rfl) (by kernel_rfl) (fun _ _ _ h => h) (Or.inl ⟨by rfl, ?hy14⟩) (by assumption) ?rest14
    case hy14 => (intro w hSw; (try dsimp only at hSw); go_simp; try with_reducible rfl)
    simp only [Act.put]
    refine wpAnyH_ready (rs := [9]) (by kernel_rfl) (by simp) (AllReadyH.cons rfl (fun K hK => ?_) AllReadyH.nil)
    go_simp
    refine hK.out _ _ (by go_keep) (fun hHeld9 => ?_)
    clear hK K hHeld
    refine wpAnyH_ready (rs := [15]) (by kernel_rfl) (by simp) (AllReadyH.cons rfl (fun K hK => ?_) AllReadyH.nil)
    go_simp
    refine (HSP.out W.drew rfl rfl rfl rfl).mono ?_
    rintro e w1 ⟨t, rfl, ht, hB1⟩
    have gv1 := (World.cell?_of_block (a := ⟨gh, i * 3 + 2, none⟩) (hB1.block _ hgh)).trans gv
    have gy1 := (World.cell?_of_block (a := ⟨gb, bi * 3 + 2, none⟩) (hB1.block _ hgbl)).trans gy
    have k31 := (World.cell?_of_block (a := ⟨wr.heap.size, 3, none⟩) (hB1.block _ hz)).trans k3
    have k41 := (World.cell?_of_block (a := ⟨wr.heap.size, 4, none⟩) (hB1.block _ hz)).trans k4
    have cs1 := (World.cell?_of_block (a := ⟨g, off, none⟩) (hB1.block _ hgl)).trans cs
    have fs1 := (World.frozen?_of_block (a := ⟨g, off, none⟩) (hB1.block _ hgl)).trans fs
    have HP := hideIt ((HH.out.grow hB1).spoilH hi HE0.out h0 ht)
    clear hB1
    dsimp only
    refine hK.out _ _ (by go_keep) (fun hHeld15 => ?_)
    clear hK K hHeld9 gv gy k3 k4 cs fs
    refine wpAnyH_take (i := 16) (v := ?v16) rfl (by kernel_rfl) (by kernel_rfl) (by kernel_rfl) (fun _ _ _ h => h) (Or.inl ⟨by rfl, ?hy16⟩) (by assumption) ?rest16
    case hy16 => (intro w hSw; (try dsimp only at hSw); go_simp; try with_reducible rfl)
    simp only [Act.put, List.setIfInBounds_toArray]
    refine wpAnyH_ready (rs := [17]) (by kernel_rfl) (by simp) (AllReadyH.cons rfl (fun K hK => ?_) AllReadyH.nil)
    go_simp
    refine hK.out _ _ (by go_keep) (fun hHeld17 => ?_)
    refine wpAnyH_done (by kernel_rfl) ?_ _
    refine NoPanic.normal ?_
    clear hK K hHeld15 hHeld17
    go_wp2
    go_ret
    exact HEnd.mk ⟨_, _, _, _, rfl, HP.out⟩ (by omega)
  · have hn0i : ¬ (0 : Int) < (n0 : Int) := by omega
    have HH := hideIt h1
    clear h h1 hLH cv fv hB hw0 hv0 e0 ey
    go_enter Tryz.func15, Tryz.ntmps15
    go_wp2
    go_ret
    exact HEnd.mk ⟨_, _, _, _, rfl, HH.out⟩ (by omega)
set_option maxRecDepth 100000 in
set_option maxHeartbeats 4000000 in
theorem lhost_spoilY (B H A C : Int) (S : ByteArray) (i bi : Nat) (hi : i < hs.length) (hbi : bi < 2) (h : HW w wr wb gb gcap o col bv hs hv i0 i1 i2 im nbR u) (hodd : Int.tmod A 2 = 0) (hA1 : -9223372036854775808 ≤ A) (hA2 : A ≤ 9223372036854775807) :
    Calls Tryz.prog 15 #[.pointer (some ⟨wb, 0, none⟩), .int .i64 (bi : Int), .int .i64 (i : Int), .agg #[.int .i64 13, .int .i64 B, .int .i64 H, .int .i64 A, .int .i64 C, .string S]] wr (HEnd w wb gb gcap o hs.length i0 i1 i2 im (u + S.size + 2412000)) := by
  obtain ⟨W, hW, hB, hz, k0, k3, k4, k5⟩ := act_cells wr 13 B H A C S
  have h1 := h.grow hB
  obtain ⟨gh, hcap, rfl, hLH, cv, fv, kgh⟩ := h1.host i hi
  have c3 := h1.c3
  have c4 := h1.c4
  have cx := hLH.cx
  have cy := hLH.cy
  have hii : (i : Int) < (hs.length : Int) := by omega
  have hni : (hs.length : Int) ≤ 4 := by have := h.few; omega
  have hbii : (bi : Int) < 2 := by omega
  obtain ⟨n0, hn0, hw0⟩ := h1.hw i hi
  obtain ⟨xa0, xc0, e0⟩ := hw0.slice
  obtain ⟨m0, hm0, hv0⟩ := h1.bw bi hbi
  obtain ⟨ya0, yc0, ey⟩ := hv0.slice
  have hn12 : n0 ≤ 12 := hn0
  have hm12 : m0 ≤ 12 := hm0
  have gv := cv
  have gy := h1.gv bi hbi
  rw [e0] at gv hw0
  rw [ey] at gy hv0
  have hxi : ¬ (12 : Int) < (n0 : Int) := by omega
  have hyi : ¬ (12 : Int) < (m0 : Int) := by omega
  by_cases h0 : 0 < m0
  · have hn0i : (0 : Int) < (m0 : Int) := by omega
    obtain ⟨g, off, s, rfl, cs, hss, fs, hgl⟩ := hv0.first h0
    obtain ⟨q, hq, hq1, hq2⟩ := half_ok A hA1 hA2
    have hwq : IntKind.i64.wrap q = q := by rw [IntKind.wrap_i64]; omega
    have HSP : Hid (∀ W', W'.heap = W.heap → W'.os = W.os → W'.tape = W.tape → W'.output = W.output → Calls Tryz.prog 36 #[.string s, .int .i64 (IntKind.i64.wrap q), .int .i64 C] W' fun e w' => ∃ t : ByteArray, e = .returned (.string t) ∧ t.size ≤ 200 ∧ Below W.heap.size W w') := fun W' e1 e2 e3 e4 => by
      rw [hwq]
      exact (spoilt_any s q C W' hq1 hq2 (by omega)).mono fun e w' ⟨t, q1, q2, q3⟩ => ⟨t, q1, by omega, ⟨q3.os.trans e2, q3.tape.trans e3, q3.output.trans e4, by rw [← e1]; exact q3.size, fun k hk => by rw [← e1]; exact q3.block k (by rw [e1]; exact hk)⟩⟩
    have HH := hideIt h1
    have HE0 := hideIt ey
    have hgh : gh < W.heap.size := World.block_lt_of_cell? _ _ gv
    have hgbl : gb < W.heap.size := World.block_lt_of_cell? _ _ gy
    have hcol := (h1.kv bi hbi g (by rw [ey]; rfl)).1
    have hgne : ¬ g = gh := fun e => by rw [e, h1.kh gh rfl] at hcol; omega
    have hgnb : ¬ g = gb := fun e => by rw [e, h1.kg] at hcol; omega
    have hgne2 : ¬ gh = g := fun e => hgne e.symm
    have hgnb2 : ¬ gb = g := fun e => hgnb e.symm
    have hgw : ¬ g = wr.heap.size := fun e => by have q1 := (h.kv bi hbi g (by rw [ey]; rfl)).2; omega
    have hgw2 : ¬ wr.heap.size = g := fun e => hgw e.symm
    clear h h1 hLH cv fv hB hw0 hv0 e0 ey hcol hwq
    go_enter Tryz.func15, Tryz.ntmps15
    go_wp2_with fail
    refine wp_region_noPanic ?_
    refine wp_region_held_drew (S := fun w' => w'.cell? ⟨gb, bi * 3 + 2, none⟩ = some (.slice (some ⟨g, off, none⟩) m0 yc0) ∧ w'.cell? ⟨wr.heap.size, 3, none⟩ = some (.int .i64 A) ∧ w'.cell? ⟨wr.heap.size, 4, none⟩ = some (.int .i64 C)) (by kernel_rfl) (by go_keep) (fun hHeld => ?_)
    refine wpAnyH_take (i := 0) (v := ?v0) rfl (by kernel_rfl) (by kernel_rfl) (by kernel_rfl) (fun _ _ _ h => h) (Or.inl ⟨by rfl, ?hy0⟩) (by assumption) ?rest0
    case hy0 => (intro w hSw; (try dsimp only at hSw); go_simp; try with_reducible rfl)
    simp only [Act.put, List.setIfInBounds_toArray]
    refine wpAnyH_take (i := 1) (v := ?v1) rfl (by kernel_rfl) (by kernel_rfl) (by kernel_rfl) (fun _ _ _ h => h) (Or.inl ⟨by rfl, ?hy1⟩) (by assumption) ?rest1
    case hy1 => (intro w hSw; (try dsimp only at hSw); go_simp; try with_reducible rfl)
    simp only [Act.put]
    refine wpAnyH_take (i := 2) (v := ?v2) rfl (by kernel_rfl) (by kernel_rfl) (by kernel_rfl) (fun _ _ _ h => h) (Or.inl ⟨by rfl, ?hy2⟩) (by assumption) ?rest2
    case hy2 => (intro w hSw; (try dsimp only at hSw); go_simp; try with_reducible rfl)
    simp only [Act.put]
    refine wpAnyH_take (i := 3) (v := ?v3) rfl (by kernel_rfl) (by kernel_rfl) (by kernel_rfl) (fun _ _ _ h => h) (Or.inl ⟨by rfl, ?hy3⟩) (by assumption) ?rest3
    case hy3 => (intro w hSw; (try dsimp only at hSw); go_simp; try with_reducible rfl)
    simp only [Act.put]
    refine wpAnyH_take (i := 4) (v := ?v4) rfl (by kernel_rfl) (by kernel_rfl) (by kernel_rfl) (fun _ _ _ h => h) (Or.inl ⟨by rfl, ?hy4⟩) (by assumption) ?rest4
    case hy4 => (intro w hSw; (try dsimp only at hSw); go_simp; try with_reducible rfl)
    simp only [Act.put]
    refine wpAnyH_take (i := 5) (v := ?v5) rfl (by kernel_rfl) (by kernel_rfl) (by kernel_rfl) (fun _ _ _ h => h) (Or.inl ⟨by rfl, ?hy5⟩) (by assumption) ?rest5
    case hy5 => (intro w hSw; (try dsimp only at hSw); go_simp; try with_reducible rfl)
    simp only [Act.put]
    refine wpAnyH_take (i := 6) (v := ?v6) rfl (by kernel_rfl) (by kernel_rfl) (by kernel_rfl) (fun _ _ _ h => h) (Or.inl ⟨by rfl, ?hy6⟩) (by assumption) ?rest6
    case hy6 => (intro w hSw; (try dsimp only at hSw); go_simp; try with_reducible rfl)
    simp only [Act.put]
    refine wpAnyH_take (i := 7) (v := ?v7) rfl (by kernel_rfl) (by kernel_rfl) (by kernel_rfl) (fun _ _ _ h => h) (Or.inl ⟨by rfl, ?hy7⟩) (by assumption) ?rest7
    case hy7 => (intro w hSw; (try dsimp only at hSw); go_simp; try with_reducible rfl)
    simp only [Act.put]
    refine wpAnyH_take (i := 8) (v := ?v8) rfl (by kernel_rfl) (by kernel_rfl) (by kernel_rfl) (fun _ _ _ h => h) (Or.inl ⟨by rfl, ?hy8⟩) (by assumption) ?rest8
    case hy8 => (intro w hSw; (try dsimp only at hSw); go_simp; try with_reducible rfl)
    simp only [Act.put]
    refine wpAnyH_take (i := 10) (v := ?v10) rfl (by kernel_rfl) (by kernel_rfl) (by kernel_rfl) (fun _ _ _ h => h) (Or.inl ⟨by rfl, ?hy10⟩) (by assumption) ?rest10
    case hy10 => (intro w hSw; (try dsimp only at hSw); go_simp; try with_reducible rfl)
    simp only [Act.put]
    refine wpAnyH_take (i := 11) (v := ?v11) rfl (by kernel_rfl) (by kernel_rfl) (by kernel_rfl) (fun _ _ _ h => h) (Or.inl ⟨by rfl, ?hy11⟩) (by assumption) ?rest11
    case hy11 => (intro w hSw; (try dsimp only at hSw); go_simp; try with_reducible rfl)
    simp only [Act.put]
    refine wpAnyH_take (i := 12) (v := ?v12) rfl (by kernel_rfl) (by kernel_rfl) (by kernel_rfl) (fun _ _ _ h => h) (Or.inl ⟨by rfl, ?hy12⟩) (by assumption) ?rest12
    case hy12 => (intro w hSw; (try dsimp only at hSw); go_simp; try with_reducible rfl)
    simp only [Act.put]
    refine wpAnyH_take (i := 13) (v := ?v13) rfl (by kernel_rfl) (by kernel_rfl) (by kernel_rfl) (fun _ _ _ h => h) (Or.inl ⟨by rfl, ?hy13⟩) (by assumption) ?rest13
    case hy13 => (intro w hSw; (try dsimp only at hSw); go_simp; try with_reducible rfl)
    simp only [Act.put]
    refine wpAnyH_take (i := 14) (v := ?v14) rfl (by kernel_rfl) (by kernel_rfl) (by kernel_rfl) (fun _ _ _ h => h) (Or.inl ⟨by rfl, ?hy14⟩) (by assumption) ?rest14
    case hy14 => (intro w hSw; (try dsimp only at hSw); go_simp; try with_reducible rfl)
    simp only [Act.put]
    refine wpAnyH_ready (rs := [9]) (by kernel_rfl) (by simp) (AllReadyH.cons rfl (fun K hK => ?_) AllReadyH.nil)
    go_simp
    refine hK.out _ _ (by go_keep) (fun hHeld9 => ?_)
    clear hK K hHeld
    refine wpAnyH_ready (rs := [15]) (by kernel_rfl) (by simp) (AllReadyH.cons rfl (fun K hK => ?_) AllReadyH.nil)
    go_simp
    refine (HSP.out W.drew rfl rfl rfl rfl).mono ?_
    rintro e w1 ⟨t, rfl, ht, hB1⟩
    have gv1 := (World.cell?_of_block (a := ⟨gh, i * 3 + 2, none⟩) (hB1.block _ hgh)).trans gv
    have gy1 := (World.cell?_of_block (a := ⟨gb, bi * 3 + 2, none⟩) (hB1.block _ hgbl)).trans gy
    have k31 := (World.cell?_of_block (a := ⟨wr.heap.size, 3, none⟩) (hB1.block _ hz)).trans k3
    have k41 := (World.cell?_of_block (a := ⟨wr.heap.size, 4, none⟩) (hB1.block _ hz)).trans k4
    have cs1 := (World.cell?_of_block (a := ⟨g, off, none⟩) (hB1.block _ hgl)).trans cs
    have fs1 := (World.frozen?_of_block (a := ⟨g, off, none⟩) (hB1.block _ hgl)).trans fs
    have HP := hideIt ((HH.out.grow hB1).spoilB hbi HE0.out h0 ht)
    clear hB1
    dsimp only
    refine hK.out _ _ (by go_keep) (fun hHeld15 => ?_)
    clear hK K hHeld9 gv gy k3 k4 cs fs
    refine wpAnyH_take (i := 16) (v := ?v16) rfl (by kernel_rfl) (by kernel_rfl) (by kernel_rfl) (fun _ _ _ h => h) (Or.inl ⟨by rfl, ?hy16⟩) (by assumption) ?rest16
    case hy16 => (intro w hSw; (try dsimp only at hSw); go_simp; try with_reducible rfl)
    simp only [Act.put, List.setIfInBounds_toArray]
    refine wpAnyH_ready (rs := [17]) (by kernel_rfl) (by simp) (AllReadyH.cons rfl (fun K hK => ?_) AllReadyH.nil)
    go_simp
    refine hK.out _ _ (by go_keep) (fun hHeld17 => ?_)
    refine wpAnyH_done (by kernel_rfl) ?_ _
    refine NoPanic.normal ?_
    clear hK K hHeld15 hHeld17
    go_wp2
    go_ret
    exact HEnd.mk ⟨_, _, _, _, rfl, HP.out⟩ (by omega)
  · have hn0i : ¬ (0 : Int) < (m0 : Int) := by omega
    have HH := hideIt h1
    clear h h1 hLH cv fv hB hw0 hv0 e0 ey
    go_enter Tryz.func15, Tryz.ntmps15
    go_wp2
    go_ret
    exact HEnd.mk ⟨_, _, _, _, rfl, HH.out⟩ (by omega)
end
end Go.Proofs.YthokdbcpkmcieaaGreat
