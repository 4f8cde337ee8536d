/- The law's host: Come. -/
import Derived.Test.YthokdbcpkmcieaaGreatLhC
namespace Go.Proofs.YthokdbcpkmcieaaGreat
open Go Go.RowKit
attribute [local go_sem ↓] Go.wp_at_zero Go.wp_at_succ
theorem Taken.ofDrew {w w' : World} {v v' : Value} {n M : Nat} (h : Taken w.drew w' v v' n M) : Taken w w' v v' n M := ⟨h.1, h.2.1, ⟨h.2.2.os, h.2.2.tape, h.2.2.output, h.2.2.size, h.2.2.block⟩⟩
section
variable {w wr : World} {wb gb gcap : Nat} {o : Nat → Bo} {col : Nat → Nat} {bv : Nat → Value} {hs : List HR} {hv i0 i1 i2 : Value} {im : Img} {nb : Nat → Nat} {u v : Nat}
set_option maxRecDepth 100000 in
set_option maxHeartbeats 4000000 in
theorem lhost_come (B H A C : Int) (S : ByteArray) (i bi : Nat) (hi : i < hs.length) (hbi : bi < 2) (h : HW w wr wb gb gcap o col bv hs hv i0 i1 i2 im nbR u) (hu : u ≤ 3000000000000) (hA1 : -9223372036854775808 ≤ A) (hA2 : A ≤ 9223372036854775807) :
    Calls Tryz.prog 15 #[.pointer (some ⟨wb, 0, none⟩), .int .i64 (bi : Int), .int .i64 (i : Int), .agg #[.int .i64 10, .int .i64 B, .int .i64 H, .int .i64 A, .int .i64 C, .string S]] wr (HEnd w wb gb gcap o hs.length i0 i1 i2 im (u + S.size + 2412000)) := by
  obtain ⟨W, hW, hB, hz, k0, k3, k4, k5⟩ := act_cells wr 10 B H A C S
  have h1 := h.grow hB
  obtain ⟨gh, hcap, rfl, hLH, cv, fv, kgh⟩ := h1.host i hi
  have c3 := h1.c3
  have c4 := h1.c4
  have cx := hLH.cx
  have cy := hLH.cy
  have hii : (i : Int) < (hs.length : Int) := by omega
  have hni : (hs.length : Int) ≤ 4 := by have := h.few; omega
  have hbii : (bi : Int) < 2 := by omega
  obtain ⟨n0, hn0, hw0⟩ := h1.bw bi hbi
  obtain ⟨ya0, yc0, ey0⟩ := hw0.slice
  have hny : n0 ≤ 12 := hn0
  have gv := h1.gv bi hbi
  have HTK : Hid (∀ b, Calls Tryz.prog 34 #[bv bi, .int .i64 A, .bool b] W.drew fun e w' => ∃ s v', e = .returned (.tuple #[.string s, v']) ∧ s.size ≤ 200 ∧ Taken W w' (bv bi) v' n0 200) := fun b => (taken_any (bv bi) n0 200 A b W.drew hw0.drew (by omega) hA1 hA2).mono fun e w' ⟨s, v', q1, q2, q3⟩ => ⟨s, v', q1, q2, q3.ofDrew⟩
  have HTB := hideIt (fun wn x (hT : Taken W wn (bv bi) x n0 200) => h1.takeB hbi hT hn0)
  rw [ey0] at gv HTK HTB
  clear h h1 hLH cv fv hB hw0 ey0
  go_enter Tryz.func15, Tryz.ntmps15
  go_wp2_with fail
  go_region_with (go_at_call 34; refine (HTK.out _).mono ?_; rintro e w1 ⟨s, v', rfl, hs1, hT⟩; obtain ⟨a', c', n', rfl⟩ : ∃ a' c' n', v' = .slice a' n' c' := (by obtain ⟨⟨n', _, hw'⟩, _⟩ := hT; obtain ⟨a', c', e⟩ := hw'.slice; exact ⟨a', c', n', e⟩); obtain ⟨p1, p2, col1, bv1, p3⟩ := HTB.out w1 _ hT; have HP := hideIt p3; clear p3 hT)
  all_goals clear gv p1 p2 HTB HTK c3 c4 cx cy
  all_goals
    obtain ⟨W1, hW1⟩ : ∃ W1, w1.setCell ⟨gb, bi * 3 + 2, none⟩ (Value.slice a' n' c') = W1 := ⟨_, rfl⟩
    rw [hW1] at HP ⊢
    clear hW1
    obtain ⟨b, hLF⟩ := HP.out.board bi hbi
    have HHE := hideIt (lhears_b wb gb gcap bi (o bi) b _ s W1 hLF ⟨by omega, by omega⟩)
    clear hLF
    go_wp2_with fail
    refine HHE.out.mono ?_
    rintro e w2 ⟨⟨R, rfl, hR0⟩, hp2, hc2⟩
    have hR : R.size ≤ 40000 := by omega
    have h3 := HP.out.actB bi hbi hp2 hc2 (by omega)
    by_cases hTe : R = ⟨#[]⟩
    · subst hTe
      have HF := hideIt (h3.begin bi i)
      clear hp2 hc2 HP h3
      obtain ⟨⟨xa, nx, xc, ex, hx13, hxs⟩, ⟨ya, ny, yc, ey, hy13, hys⟩⟩ := HF.out.le13 hi hbi
      obtain ⟨gh', hcap', eh, _, tx, tfx, _⟩ := HF.out.host i hi
      cases eh
      have ty := HF.out.gv bi hbi
      have tfy := HF.out.fg (bi * 3 + 2)
      replace tfx := tfx (i * 3 + 2)
      have tgn : ¬ gb = gh := fun e => by have q := HF.out.kg; rw [e, HF.out.kh gh rfl] at q; omega
      rw [ex] at tx
      rw [ey] at ty
      have HEX := hideIt ex
      have HEY := hideIt ey
      clear ex ey
      rcases way_cases hx13 hxs with ⟨xg, xo, rfl, hx12, hxi, hxi6, hxci, hxcm, hxc6⟩ | ⟨hx12, hxi⟩
      all_goals (rcases way_cases hy13 hys with ⟨yg, yo, rfl, hy12, hyi, hyi6, hyci, hycm, hyc6⟩ | ⟨hy12, hyi⟩)
      all_goals go_wp2
      all_goals
        go_ret
        first
          | exact HEnd.mk (HF.out.tail11 hi hbi HEX.out HEY.out hx12 hx13 hy12 hy13) (by omega)
          | exact HEnd.mk (HF.out.tail10 hi hbi HEX.out HEY.out hx12 hx13 hy12) (by omega)
          | exact HEnd.mk (HF.out.tail01 hi hbi HEX.out HEY.out hx12 hy12 hy13) (by omega)
          | exact HEnd.mk (HF.out.tail00 hi hbi HEX.out HEY.out hx12 hy12) (by omega)
    · have hemp := empty_not hTe
      obtain ⟨nx0, hnx0, hwx0⟩ := h3.hw i hi
      obtain ⟨xa0, xc0, ex0⟩ := hwx0.slice
      have hnx : nx0 ≤ 12 := hnx0
      obtain ⟨gh2, hcap2, eh2, _, gv, _, _⟩ := h3.host i hi
      cases eh2
      rw [ex0] at gv
      have H3 := hideIt h3
      have HWX := hideIt hwx0
      have HEX0 := hideIt ex0
      clear hp2 hc2 HP h3 hwx0 ex0
      go_wp2_with (
        at_builtin
        refine wpList_append_way _ rfl _ _ rfl hs[i].v nx0 40000 (by rw [HEX0.out]; rfl) (HWX.out.below ((Below.refl _ _).alloc (Nat.le_refl _) _)) ⟨w2.heap.size, 0, none⟩ 1 R rfl (cell_new_one _ _ _) hR (by omega) ?_
        intro v' wn hw hg hl
        obtain ⟨a', c', ev⟩ := hw.slice
        have hps := H3.out.pushH hi bi hw hnx hg hl
        rw [ev, HEX0.out] at hps
        obtain ⟨p1, p2, col', hs', hlen, p3⟩ := hps
        subst ev
        have hi' : i < hs'.length := by omega
        have HF := hideIt p3
        clear hw hg hl p3 gv
        obtain ⟨⟨xa, nx, xc, ex, hx13, hxs⟩, ⟨ya, ny, yc, ey, hy13, hys⟩⟩ := HF.out.le13 hi' hbi
        obtain ⟨gh', hcap', eh, _, tx, tfx, _⟩ := HF.out.host i hi'
        cases eh
        have ty := HF.out.gv bi hbi
        have tfy := HF.out.fg (bi * 3 + 2)
        replace tfx := tfx (i * 3 + 2)
        have tgn : ¬ gb = gh := fun e => by have q := HF.out.kg; rw [e, HF.out.kh gh rfl] at q; omega
        rw [ex] at tx
        rw [ey] at ty
        have HEX := hideIt ex
        have HEY := hideIt ey
        clear ex ey
        rcases way_cases hx13 hxs with ⟨xg, xo, rfl, hx12, hxi, hxi6, hxci, hxcm, hxc6⟩ | ⟨hx12, hxi⟩
        all_goals (rcases way_cases hy13 hys with ⟨yg, yo, rfl, hy12, hyi, hyi6, hyci, hycm, hyc6⟩ | ⟨hy12, hyi⟩))
      all_goals
        go_ret
        first
          | exact HEnd.mkL hlen (HF.out.tail11 hi' hbi HEX.out HEY.out hx12 hx13 hy12 hy13) (by omega)
          | exact HEnd.mkL hlen (HF.out.tail10 hi' hbi HEX.out HEY.out hx12 hx13 hy12) (by omega)
          | exact HEnd.mkL hlen (HF.out.tail01 hi' hbi HEX.out HEY.out hx12 hy12 hy13) (by omega)
          | exact HEnd.mkL hlen (HF.out.tail00 hi' hbi HEX.out HEY.out hx12 hy12) (by omega)
end
end Go.Proofs.YthokdbcpkmcieaaGreat
