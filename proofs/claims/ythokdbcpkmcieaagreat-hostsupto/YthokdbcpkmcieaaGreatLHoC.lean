/- The law's host: Back, Lose. -/
import Derived.Test.YthokdbcpkmcieaaGreatLhC
namespace Go.Proofs.YthokdbcpkmcieaaGreat
open Go Go.RowKit
attribute [local go_sem ↓] Go.wp_at_zero Go.wp_at_succ
theorem Taken.ofSame {w0 w w' : World} {v v' : Value} {n M : Nat} (h : Taken w0 w' v v' n M) (e1 : w0.heap = w.heap) (e2 : w0.os = w.os) (e3 : w0.tape = w.tape) (e4 : w0.output = w.output) : Taken w w' v v' n M := by
  obtain ⟨h1, h2, h3⟩ := h
  refine ⟨h1, ?_, ?_⟩
  · rw [← e1]
    exact h2
  · exact ⟨h3.os.trans e2, h3.tape.trans e3, h3.output.trans e4, by rw [← e1]; exact h3.size, fun k hk => by rw [← e1]; exact h3.block k (by rw [e1]; exact hk)⟩
section
variable {w wr : World} {wb gb gcap : Nat} {o : Nat → Bo} {col : Nat → Nat} {bv : Nat → Value} {hs : List HR} {hv i0 i1 i2 : Value} {im : Img} {nb : Nat → Nat} {u v : Nat}
set_option maxRecDepth 100000 in
set_option maxHeartbeats 4000000 in
theorem lhost_back (B H A C : Int) (S : ByteArray) (i bi : Nat) (hi : i < hs.length) (hbi : bi < 2) (h : HW w wr wb gb gcap o col bv hs hv i0 i1 i2 im nbR u) (hu : u ≤ 3000000000000) (hA1 : -9223372036854775808 ≤ A) (hA2 : A ≤ 9223372036854775807) :
    Calls Tryz.prog 15 #[.pointer (some ⟨wb, 0, none⟩), .int .i64 (bi : Int), .int .i64 (i : Int), .agg #[.int .i64 11, .int .i64 B, .int .i64 H, .int .i64 A, .int .i64 C, .string S]] wr (HEnd w wb gb gcap o hs.length i0 i1 i2 im (u + S.size + 2412000)) := by
  obtain ⟨W, hW, hB, hz, k0, k3, k4, k5⟩ := act_cells wr 11 B H A C S
  have h1 := h.grow hB
  obtain ⟨gh, hcap, rfl, hLH, cv, fv, kgh⟩ := h1.host i hi
  have c3 := h1.c3
  have c4 := h1.c4
  have cx := hLH.cx
  have cy := hLH.cy
  have hii : (i : Int) < (hs.length : Int) := by omega
  have hni : (hs.length : Int) ≤ 4 := by have := h.few; omega
  have hbii : (bi : Int) < 2 := by omega
  obtain ⟨n0, hn0, hw0⟩ := h1.hw i hi
  obtain ⟨xa0, xc0, ex0⟩ := hw0.slice
  have hnx : n0 ≤ 12 := hn0
  have gv := cv
  have HTK : Hid (∀ (A : Int) b, -9223372036854775808 ≤ A → A ≤ 9223372036854775807 → ∀ W', W'.heap = W.heap → W'.os = W.os → W'.tape = W.tape → W'.output = W.output → Calls Tryz.prog 34 #[hs[i].v, .int .i64 A, .bool b] W' fun e w' => ∃ s v', e = .returned (.tuple #[.string s, v']) ∧ s.size ≤ 40000 ∧ Taken W w' hs[i].v v' n0 40000) := fun A b hA1 hA2 W' e1 e2 e3 e4 => (taken_any hs[i].v n0 40000 A b W' (hw0.kept (fun _ _ _ => by rw [e1]) (by rw [e1]; exact Nat.le_refl _)) (by omega) hA1 hA2).mono fun e w' ⟨s, v', q1, q2, q3⟩ => ⟨s, v', q1, q2, q3.ofSame e1 e2 e3 e4⟩
  have HTB := hideIt (fun wn x (hT : Taken W wn hs[i].v x n0 40000) => h1.takeH hi hT hn0)
  rw [ex0] at gv HTK HTB
  clear h h1 hLH cv fv hB hw0 ex0
  go_enter Tryz.func15, Tryz.ntmps15
  go_wp2_with fail
  go_region_with (go_at_call 34; refine (HTK.out A _ hA1 hA2 W.drew rfl rfl rfl rfl).mono ?_; rintro e w1 ⟨s, v', rfl, hs1, hT⟩; obtain ⟨a', c', n', rfl⟩ : ∃ a' c' n', v' = .slice a' n' c' := (by obtain ⟨⟨n', _, hw'⟩, _⟩ := hT; obtain ⟨a', c', e⟩ := hw'.slice; exact ⟨a', c', n', e⟩); obtain ⟨p1, p2, col1, hsN, hlen, p3⟩ := HTB.out w1 _ hT; have HP := hideIt p3; clear p3 hT)
  all_goals clear gv p1 p2 HTB HTK c3 c4 cx cy
  all_goals
    obtain ⟨W1, hW1⟩ : ∃ W1, w1.setCell ⟨gh, i * 3 + 2, none⟩ (Value.slice a' n' c') = W1 := ⟨_, rfl⟩
    rw [hW1] at HP ⊢
    clear hW1
    have hi' : i < hsN.length := by omega
    obtain ⟨gh2, hcap2, eh2, hLH2, _, _, _⟩ := HP.out.host i hi'
    cases eh2
    have HTO := hideIt (ltold_any wb gh hsN.length hcap i _ _ _ _ s W1 hLH2 ⟨by omega, by omega⟩)
    clear hLH2
    go_wp2_with fail
    refine HTO.out.mono ?_
    rintro e w2 ⟨rfl, hp2, hc2⟩
    have HF := hideIt ((HP.out.actH i hi' hp2 hc2 (by omega)).begin bi i)
    clear hp2 hc2 HP
    obtain ⟨⟨xa, nx, xc, ex, hx13, hxs⟩, ⟨ya, ny, yc, ey, hy13, hys⟩⟩ := HF.out.le13 hi' hbi
    obtain ⟨gh', hcap', eh, _, tx, tfx, _⟩ := HF.out.host i hi'
    cases eh
    have ty := HF.out.gv bi hbi
    have tfy := HF.out.fg (bi * 3 + 2)
    replace tfx := tfx (i * 3 + 2)
    have tgn : ¬ gb = gh := fun e => by have q := HF.out.kg; rw [e, HF.out.kh gh rfl] at q; omega
    rw [ex] at tx
    rw [ey] at ty
    have HEX := hideIt ex
    have HEY := hideIt ey
    clear ex ey
    rcases way_cases hx13 hxs with ⟨xg, xo, rfl, hx12, hxi, hxi6, hxci, hxcm, hxc6⟩ | ⟨hx12, hxi⟩
    all_goals (rcases way_cases hy13 hys with ⟨yg, yo, rfl, hy12, hyi, hyi6, hyci, hycm, hyc6⟩ | ⟨hy12, hyi⟩)
    all_goals go_wp2
    all_goals
      go_ret
      first
        | exact HEnd.mkL hlen (HF.out.tail11 hi' hbi HEX.out HEY.out hx12 hx13 hy12 hy13) (by omega)
        | exact HEnd.mkL hlen (HF.out.tail10 hi' hbi HEX.out HEY.out hx12 hx13 hy12) (by omega)
        | exact HEnd.mkL hlen (HF.out.tail01 hi' hbi HEX.out HEY.out hx12 hy12 hy13) (by omega)
        | exact HEnd.mkL hlen (HF.out.tail00 hi' hbi HEX.out HEY.out hx12 hy12) (by omega)
set_option maxRecDepth 100000 in
set_option maxHeartbeats 4000000 in
theorem lhost_loseX (B H A C : Int) (S : ByteArray) (i bi : Nat) (hi : i < hs.length) (hbi : bi < 2) (h : HW w wr wb gb gcap o col bv hs hv i0 i1 i2 im nbR u) (hodd : ¬ Int.tmod A 2 = 0) :
    Calls Tryz.prog 15 #[.pointer (some ⟨wb, 0, none⟩), .int .i64 (bi : Int), .int .i64 (i : Int), .agg #[.int .i64 12, .int .i64 B, .int .i64 H, .int .i64 A, .int .i64 C, .string S]] wr (HEnd w wb gb gcap o hs.length i0 i1 i2 im (u + S.size + 2412000)) := by
  obtain ⟨W, hW, hB, hz, k0, k3, k4, k5⟩ := act_cells wr 12 B H A C S
  have h1 := h.grow hB
  obtain ⟨gh, hcap, rfl, hLH, cv, fv, kgh⟩ := h1.host i hi
  have c3 := h1.c3
  have c4 := h1.c4
  have cx := hLH.cx
  have cy := hLH.cy
  have hii : (i : Int) < (hs.length : Int) := by omega
  have hni : (hs.length : Int) ≤ 4 := by have := h.few; omega
  have hbii : (bi : Int) < 2 := by omega
  obtain ⟨n0, hn0, hw0⟩ := h1.hw i hi
  obtain ⟨xa0, xc0, ex0⟩ := hw0.slice
  have hnx : n0 ≤ 12 := hn0
  have gv := cv
  have HTK : Hid (∀ (A : Int) b, -9223372036854775808 ≤ A → A ≤ 9223372036854775807 → ∀ W', W'.heap = W.heap → W'.os = W.os → W'.tape = W.tape → W'.output = W.output → Calls Tryz.prog 34 #[hs[i].v, .int .i64 A, .bool b] W' fun e w' => ∃ s v', e = .returned (.tuple #[.string s, v']) ∧ s.size ≤ 40000 ∧ Taken W w' hs[i].v v' n0 40000) := fun A b hA1 hA2 W' e1 e2 e3 e4 => (taken_any hs[i].v n0 40000 A b W' (hw0.kept (fun _ _ _ => by rw [e1]) (by rw [e1]; exact Nat.le_refl _)) (by omega) hA1 hA2).mono fun e w' ⟨s, v', q1, q2, q3⟩ => ⟨s, v', q1, q2, q3.ofSame e1 e2 e3 e4⟩
  have HTB := hideIt (fun wn x (hT : Taken W wn hs[i].v x n0 40000) => h1.takeH hi hT hn0)
  rw [ex0] at gv HTK HTB
  clear h h1 hLH cv fv hB hw0 ex0
  go_enter Tryz.func15, Tryz.ntmps15
  go_wp2_with (
    go_at_call 34
    refine (HTK.out 0 false (by omega) (by omega) W rfl rfl rfl rfl).mono ?_
    rintro e w1 ⟨s, v', rfl, hs1, hT⟩
    obtain ⟨a', c', n', rfl⟩ : ∃ a' c' n', v' = .slice a' n' c' := by
      obtain ⟨⟨n', _, hw'⟩, _⟩ := hT
      obtain ⟨a', c', e⟩ := hw'.slice
      exact ⟨a', c', n', e⟩
    obtain ⟨p1, p2, col1, hsN, hlen, p3⟩ := HTB.out w1 _ hT
    have hi' : i < hsN.length := by omega
    have HF := hideIt (p3.begin bi i)
    clear p3 hT gv c3 c4 cx cy
    obtain ⟨⟨xa, nx, xc, ex, hx13, hxs⟩, ⟨ya, ny, yc, ey, hy13, hys⟩⟩ := HF.out.le13 hi' hbi
    obtain ⟨gh', hcap', eh, _, tx, tfx, _⟩ := HF.out.host i hi'
    cases eh
    have ty := HF.out.gv bi hbi
    have tfy := HF.out.fg (bi * 3 + 2)
    replace tfx := tfx (i * 3 + 2)
    have tgn : ¬ gb = gh := fun e => by have q := HF.out.kg; rw [e, HF.out.kh gh rfl] at q; omega
    rw [ex] at tx
    rw [ey] at ty
    have HEX := hideIt ex
    have HEY := hideIt ey
    clear ex ey
    rcases way_cases hx13 hxs with ⟨xg, xo, rfl, hx12, hxi, hxi6, hxci, hxcm, hxc6⟩ | ⟨hx12, hxi⟩
    all_goals (rcases way_cases hy13 hys with ⟨yg, yo, rfl, hy12, hyi, hyi6, hyci, hycm, hyc6⟩ | ⟨hy12, hyi⟩))
  all_goals
    go_ret
    first
      | exact HEnd.mkL hlen (HF.out.tail11 hi' hbi HEX.out HEY.out hx12 hx13 hy12 hy13) (by omega)
      | exact HEnd.mkL hlen (HF.out.tail10 hi' hbi HEX.out HEY.out hx12 hx13 hy12) (by omega)
      | exact HEnd.mkL hlen (HF.out.tail01 hi' hbi HEX.out HEY.out hx12 hy12 hy13) (by omega)
      | exact HEnd.mkL hlen (HF.out.tail00 hi' hbi HEX.out HEY.out hx12 hy12) (by omega)
set_option maxRecDepth 100000 in
set_option maxHeartbeats 4000000 in
theorem lhost_loseY (B H A C : Int) (S : ByteArray) (i bi : Nat) (hi : i < hs.length) (hbi : bi < 2) (h : HW w wr wb gb gcap o col bv hs hv i0 i1 i2 im nbR u) (hodd : Int.tmod A 2 = 0) :
    Calls Tryz.prog 15 #[.pointer (some ⟨wb, 0, none⟩), .int .i64 (bi : Int), .int .i64 (i : Int), .agg #[.int .i64 12, .int .i64 B, .int .i64 H, .int .i64 A, .int .i64 C, .string S]] wr (HEnd w wb gb gcap o hs.length i0 i1 i2 im (u + S.size + 2412000)) := by
  obtain ⟨W, hW, hB, hz, k0, k3, k4, k5⟩ := act_cells wr 12 B H A C S
  have h1 := h.grow hB
  obtain ⟨gh, hcap, rfl, hLH, cv, fv, kgh⟩ := h1.host i hi
  have c3 := h1.c3
  have c4 := h1.c4
  have cx := hLH.cx
  have cy := hLH.cy
  have hii : (i : Int) < (hs.length : Int) := by omega
  have hni : (hs.length : Int) ≤ 4 := by have := h.few; omega
  have hbii : (bi : Int) < 2 := by omega
  obtain ⟨n0, hn0, hw0⟩ := h1.bw bi hbi
  obtain ⟨ya0, yc0, ey0⟩ := hw0.slice
  have hny : n0 ≤ 12 := hn0
  have gv := h1.gv bi hbi
  have HTK : Hid (∀ (A : Int) b, -9223372036854775808 ≤ A → A ≤ 9223372036854775807 → ∀ W', W'.heap = W.heap → W'.os = W.os → W'.tape = W.tape → W'.output = W.output → Calls Tryz.prog 34 #[bv bi, .int .i64 A, .bool b] W' fun e w' => ∃ s v', e = .returned (.tuple #[.string s, v']) ∧ s.size ≤ 200 ∧ Taken W w' (bv bi) v' n0 200) := fun A b hA1 hA2 W' e1 e2 e3 e4 => (taken_any (bv bi) n0 200 A b W' (hw0.kept (fun _ _ _ => by rw [e1]) (by rw [e1]; exact Nat.le_refl _)) (by omega) hA1 hA2).mono fun e w' ⟨s, v', q1, q2, q3⟩ => ⟨s, v', q1, q2, q3.ofSame e1 e2 e3 e4⟩
  have HTB := hideIt (fun wn x (hT : Taken W wn (bv bi) x n0 200) => h1.takeB hbi hT hn0)
  rw [ey0] at gv HTK HTB
  clear h h1 hLH cv fv hB hw0 ey0
  go_enter Tryz.func15, Tryz.ntmps15
  go_wp2_with (
    go_at_call 34
    refine (HTK.out 0 false (by omega) (by omega) W rfl rfl rfl rfl).mono ?_
    rintro e w1 ⟨s, v', rfl, hs1, hT⟩
    obtain ⟨a', c', n', rfl⟩ : ∃ a' c' n', v' = .slice a' n' c' := by
      obtain ⟨⟨n', _, hw'⟩, _⟩ := hT
      obtain ⟨a', c', e⟩ := hw'.slice
      exact ⟨a', c', n', e⟩
    obtain ⟨p1, p2, col1, bvN, p3⟩ := HTB.out w1 _ hT
    have HF := hideIt (p3.begin bi i)
    clear p3 hT gv c3 c4 cx cy
    obtain ⟨⟨xa, nx, xc, ex, hx13, hxs⟩, ⟨ya, ny, yc, ey, hy13, hys⟩⟩ := HF.out.le13 hi hbi
    obtain ⟨gh', hcap', eh, _, tx, tfx, _⟩ := HF.out.host i hi
    cases eh
    have ty := HF.out.gv bi hbi
    have tfy := HF.out.fg (bi * 3 + 2)
    replace tfx := tfx (i * 3 + 2)
    have tgn : ¬ gb = gh := fun e => by have q := HF.out.kg; rw [e, HF.out.kh gh rfl] at q; omega
    rw [ex] at tx
    rw [ey] at ty
    have HEX := hideIt ex
    have HEY := hideIt ey
    clear ex ey
    rcases way_cases hx13 hxs with ⟨xg, xo, rfl, hx12, hxi, hxi6, hxci, hxcm, hxc6⟩ | ⟨hx12, hxi⟩
    all_goals (rcases way_cases hy13 hys with ⟨yg, yo, rfl, hy12, hyi, hyi6, hyci, hycm, hyc6⟩ | ⟨hy12, hyi⟩))
  all_goals
    go_ret
    first
      | exact HEnd.mk (HF.out.tail11 hi hbi HEX.out HEY.out hx12 hx13 hy12 hy13) (by omega)
      | exact HEnd.mk (HF.out.tail10 hi hbi HEX.out HEY.out hx12 hx13 hy12) (by omega)
      | exact HEnd.mk (HF.out.tail01 hi hbi HEX.out HEY.out hx12 hy12 hy13) (by omega)
      | exact HEnd.mk (HF.out.tail00 hi hbi HEX.out HEY.out hx12 hy12) (by omega)
end
end Go.Proofs.YthokdbcpkmcieaaGreat
