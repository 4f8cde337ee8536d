/- An ear at any place of a block: walks of keep and take. -/
import Derived.Test.YthokdbcpkmcieaaEarW4
namespace Go.Proofs.Ythokdbcpkmcieaa
open Go Go.RowKit
/-- Of the old blocks only eb has changed, and of it only the n cells from o on. -/
structure Within (w w' : World) (eb o n : Nat) : Prop where
  grown : w.grownBy w' (some eb)
  cells : ∀ j, j < o ∨ o + n ≤ j → w'.cell? ⟨eb, j, none⟩ = w.cell? ⟨eb, j, none⟩
  fz : ∀ j, w'.frozen? ⟨eb, j, none⟩ = w.frozen? ⟨eb, j, none⟩
theorem Within.refl (w : World) (eb o n : Nat) : Within w w eb o n := ⟨grown_refl _ _, fun _ _ => rfl, fun _ => rfl⟩
theorem Within.trans {w w1 w2 : World} {eb o n : Nat} (h : Within w w1 eb o n) (h2 : Within w1 w2 eb o n) : Within w w2 eb o n :=
  ⟨h.grown.trans h2.grown, fun j hj => (h2.cells j hj).trans (h.cells j hj), fun j => (h2.fz j).trans (h.fz j)⟩
theorem Within.widen {w w1 : World} {eb o n o' n' : Nat} (h : Within w w1 eb o n) (h1 : o' ≤ o) (h2 : o + n ≤ o' + n') : Within w w1 eb o' n' :=
  ⟨h.grown, fun j hj => h.cells j (by omega), h.fz⟩
theorem Within.set (w : World) (eb o n j : Nat) (v : Value) (h1 : o ≤ j) (h2 : j < o + n) : Within w (w.setCell ⟨eb, j, none⟩ v) eb o n :=
  ⟨grown_set _ _ _ _, fun k hk => World.cell?_setCell_other _ _ _ _ (by simp <;> omega), fun k => by simp⟩
theorem Within.block {w w' : World} {eb o n : Nat} (hg : w.grownBy w' (some eb)) (e : w'.heap[eb]? = w.heap[eb]?) : Within w w' eb o n :=
  ⟨hg, fun j _ => World.cell?_of_block (a := ⟨eb, j, none⟩) e, fun j => World.frozen?_of_block (a := ⟨eb, j, none⟩) e⟩
theorem Within.drewN {w w' : World} {eb o n : Nat} (h : Within w w' eb o n) (m : Nat) : Within w (w'.drewN m) eb o n :=
  ⟨grown_drewN h.grown m, h.cells, h.fz⟩
theorem Within.drew {w w' : World} {eb o n : Nat} (h : Within w w' eb o n) : Within w w'.drew eb o n :=
  ⟨grown_drew h.grown, h.cells, h.fz⟩
theorem Within.below {w w' : World} {eb o n : Nat} (hb : Below w.heap.size w w') (hl : eb < w.heap.size) : Within w w' eb o n :=
  Within.block ⟨hb.os, hb.tape, hb.output, hb.size, fun k hk _ => hb.block k hk⟩ (hb.block eb hl)
/-- An ear at block eb, from cell o on. -/
structure EarO (w : World) (eb o : Nat) (s : EarS) : Prop where
  c0 : w.cell? ⟨eb, o, none⟩ = some (.int .i64 (s.mode : Int))
  c83 : w.cell? ⟨eb, o + 83, none⟩ = some (.int .i64 (s.ks.length : Int))
  cb : ∀ i, i < 82 → ∃ v, w.cell? ⟨eb, o + 1 + i, none⟩ = some v
  ck : BytesAt w eb (o + 1) s.ks
  fz : ∀ j, w.frozen? ⟨eb, j, none⟩ = false
  lt : eb < w.heap.size
  ok : EarOk s
theorem EarO.same {w w' : World} {eb o : Nat} {s : EarS} (h : EarO w eb o s) (e : ∀ j, o ≤ j → j < o + 84 → w'.cell? ⟨eb, j, none⟩ = w.cell? ⟨eb, j, none⟩) (hf : ∀ j, w'.frozen? ⟨eb, j, none⟩ = w.frozen? ⟨eb, j, none⟩) (hz : w.heap.size ≤ w'.heap.size) : EarO w' eb o s :=
  ⟨(e _ (by omega) (by omega)).trans h.c0, (e _ (by omega) (by omega)).trans h.c83, fun i hi => by rw [e _ (by omega) (by omega)]; exact h.cb i hi,
    fun i hi => by have := h.ok.len; exact (e _ (by omega) (by omega)).trans (h.ck i hi), fun j => (hf j).trans (h.fz j), Nat.lt_of_lt_of_le h.lt hz, h.ok⟩
theorem EarO.kept {w w' : World} {eb o : Nat} {s : EarS} (h : EarO w eb o s) (e : w'.heap[eb]? = w.heap[eb]?) (hz : w.heap.size ≤ w'.heap.size) : EarO w' eb o s :=
  h.same (fun j _ _ => World.cell?_of_block (a := ⟨eb, j, none⟩) e) (fun j => World.frozen?_of_block (a := ⟨eb, j, none⟩) e) hz
theorem EarO.setMode {w : World} {eb o : Nat} {s : EarS} (h : EarO w eb o s) (m : Nat) (hm : m ≤ 2) : EarO (w.setCell ⟨eb, o, none⟩ (.int .i64 (m : Int))) eb o ⟨m, s.ks⟩ := by
  refine ⟨World.cell?_setCell_same _ _ _ h.c0, ?_, fun i hi => ?_, fun i hi => ?_, fun j => by simp [h.fz j], by simpa [World.setCell] using h.lt, ⟨hm, h.ok.len⟩⟩
  · rw [World.cell?_setCell_other _ _ _ _ (by simp)]; exact h.c83
  · rw [World.cell?_setCell_other _ _ _ _ (by simp <;> omega)]; exact h.cb i hi
  · rw [World.cell?_setCell_other _ _ _ _ (by simp <;> omega)]; exact h.ck i hi
theorem EarO.push {w : World} {eb o : Nat} {s : EarS} (h : EarO w eb o s) (b : UInt8) (hl : s.ks.length < 82) : EarO ((w.setCell ⟨eb, o + 1 + s.ks.length, none⟩ (.int .u8 (b.toNat : Int))).setCell ⟨eb, o + 83, none⟩ (.int .i64 ((s.ks.length : Int) + 1))) eb o ⟨s.mode, s.ks ++ [b]⟩ := by
  obtain ⟨v, hv⟩ := h.cb s.ks.length hl
  have h83 : (w.setCell ⟨eb, o + 1 + s.ks.length, none⟩ (.int .u8 (b.toNat : Int))).cell? ⟨eb, o + 83, none⟩ = some (.int .i64 (s.ks.length : Int)) := by
    rw [World.cell?_setCell_other _ _ _ _ (by simp <;> omega)]; exact h.c83
  have hn := World.cell?_setCell_same w ⟨eb, o + 1 + s.ks.length, none⟩ (.int .u8 (b.toNat : Int)) hv
  refine ⟨?_, ?_, fun i hi => ?_, fun i hi => ?_, fun j => by simp [h.fz j], by simpa [World.setCell] using h.lt, ⟨h.ok.mode, by simp; omega⟩⟩
  · rw [World.cell?_setCell_other _ _ _ _ (by simp), World.cell?_setCell_other _ _ _ _ (by simp <;> omega)]; exact h.c0
  · rw [World.cell?_setCell_same _ _ _ h83]; simp
  · rw [World.cell?_setCell_other _ _ _ _ (by simp <;> omega)]
    by_cases e : i = s.ks.length
    · subst e; exact ⟨_, hn⟩
    · rw [World.cell?_setCell_other _ _ _ _ (by simp <;> omega)]; exact h.cb i hi
  · simp only [List.length_append, List.length_cons, List.length_nil] at hi
    rw [World.cell?_setCell_other _ _ _ _ (by simp <;> omega)]
    by_cases e : i = s.ks.length
    · subst e
      rw [hn]
      simp [List.getD_eq_getElem?_getD]
    · rw [World.cell?_setCell_other _ _ _ _ (by simp <;> omega), h.ck i (by omega)]
      simp only [List.getD_eq_getElem?_getD]
      rw [List.getElem?_append_left (by omega)]
set_option maxRecDepth 100000 in
set_option maxHeartbeats 1000000 in
theorem keep_o (eb o : Nat) (s : EarS) (b : UInt8) (w : World) (h : EarO w eb o s) :
    Calls Try.prog 56 #[.pointer (some ⟨eb, o, none⟩), .int .u8 (b.toNat : Int)] w fun e w' => e = .returned (.tuple #[]) ∧ EarO w' eb o (keepF s b) ∧ Within w w' eb o 84 := by
  have c0 := h.c0
  have c83 := h.c83
  have f0 := h.fz o
  have f83 := h.fz (o + 83)
  have hl := h.ok.len
  by_cases he : s.ks.length = 82
  · have e : keepF s b = ⟨0, s.ks⟩ := by unfold keepF; rw [if_pos he]
    have HR := hideIt (h.setMode 0 (by decide))
    have hi : ((s.ks.length : Int) == 82) = true := by simp; omega
    rw [e]
    clear h e
    go_enter Try.func56, Try.ntmps56
    go_wp2
    refine bodyPost_ret (results_none rfl _ _ _) rfl ?_
    exact ⟨rfl, HR.out, Within.set _ _ _ _ _ _ (by omega) (by omega)⟩
  · have e : keepF s b = ⟨s.mode, s.ks ++ [b]⟩ := by unfold keepF; rw [if_neg he]
    have HR := hideIt (h.push b (by omega))
    have hi : ((s.ks.length : Int) == 82) = false := by simp; omega
    have hi2 : (s.ks.length : Int) < 82 := by omega
    obtain ⟨v, hv⟩ := h.cb s.ks.length (by omega)
    have fv := h.fz (o + 1 + s.ks.length)
    rw [e]
    clear h e
    go_enter Try.func56, Try.ntmps56
    go_wp2
    go_region
    all_goals
      go_wp2
      go_end0
      exact ⟨rfl, HR.out.kept rfl (Nat.le_refl _), ((Within.set _ _ _ _ _ _ (by omega) (by omega)).trans (Within.set _ _ _ _ _ _ (by omega) (by omega))).drew⟩
set_option maxRecDepth 100000 in
set_option maxHeartbeats 1000000 in
theorem take_o (eb o : Nat) (s : EarS) (b : UInt8) (w : World) (h : EarO w eb o s) :
    Calls Try.prog 42 #[.pointer (some ⟨eb, o, none⟩), .int .u8 (b.toNat : Int)] w fun e w' => e = .returned (.tuple #[]) ∧ EarO w' eb o (takeF s b) ∧ Within w w' eb o 84 := by
  have c0 := h.c0
  have f0 := h.fz o
  have hm := h.ok.mode
  have hx := xor_byte b
  by_cases h0 : s.mode = 0
  · have e : takeF s b = s := by unfold takeF; rw [if_pos h0]
    have hi : ((s.mode : Int) == 0) = true := by simp; omega
    rw [e]
    have HR := hideIt h
    clear h e
    go_enter Try.func42, Try.ntmps42
    go_wp2
    go_end0
    exact ⟨rfl, HR.out, Within.refl _ _ _ _⟩
  · have hi : ((s.mode : Int) == 0) = false := by simp; omega
    by_cases h2 : s.mode = 2
    · have hi2 : ((s.mode : Int) == 2) = true := by simp; omega
      by_cases hb : isB (b ^^^ 32) = true
      · have e : takeF s b = keepF ⟨1, s.ks⟩ (b ^^^ 32) := by unfold takeF; rw [if_neg h0, if_pos h2, if_pos hb]
        have HR := hideIt (h.setMode 1 (by decide))
        rw [e]
        clear h e
        go_enter Try.func42, Try.ntmps42
        go_wp2_with fail
        refine (needsEscape_any (b ^^^ 32) _).mono ?_
        rintro e w1 ⟨rfl, rfl⟩
        rw [hb]
        go_wp2_with fail
        refine (keep_o eb o ⟨1, s.ks⟩ (b ^^^ 32) _ HR.out).mono ?_
        rintro e w1 ⟨rfl, hr, hg⟩
        go_wp2
        go_end0
        exact ⟨rfl, hr, (Within.set _ _ _ _ _ _ (by omega) (by omega)).trans hg⟩
      · have e : takeF s b = ⟨0, s.ks⟩ := by unfold takeF; rw [if_neg h0, if_pos h2, if_neg hb]
        have HR := hideIt (h.setMode 0 (by decide))
        have hbf : isB (b ^^^ 32) = false := by simpa using hb
        rw [e]
        clear h e
        go_enter Try.func42, Try.ntmps42
        go_wp2_with fail
        refine (needsEscape_any (b ^^^ 32) _).mono ?_
        rintro e w1 ⟨rfl, rfl⟩
        rw [hbf]
        go_wp2
        go_end0
        exact ⟨rfl, HR.out, Within.set _ _ _ _ _ _ (by omega) (by omega)⟩
    · have hi2 : ((s.mode : Int) == 2) = false := by simp; omega
      by_cases h5 : b = 125
      · subst h5
        have e : takeF s 125 = ⟨2, s.ks⟩ := by unfold takeF; rw [if_neg h0, if_neg h2, if_pos rfl]
        have HR := hideIt (h.setMode 2 (by decide))
        rw [e]
        clear h e
        go_enter Try.func42, Try.ntmps42
        go_wp2
        go_end0
        exact ⟨rfl, HR.out, Within.set _ _ _ _ _ _ (by omega) (by omega)⟩
      · have e : takeF s b = keepF s b := by unfold takeF; rw [if_neg h0, if_neg h2, if_neg h5]
        have hi5 : ((b.toNat : Int) == 125) = false := by
          have : ¬ b.toNat = 125 := fun e => h5 (UInt8.toNat_inj.1 e)
          simp; omega
        rw [e]
        have HR := hideIt h
        clear h e
        go_enter Try.func42, Try.ntmps42
        go_wp2_with fail
        refine (keep_o eb o s b _ HR.out).mono ?_
        rintro e w1 ⟨rfl, hr, hg⟩
        go_wp2
        go_end0
        exact ⟨rfl, hr, hg⟩
set_option maxRecDepth 100000 in
set_option maxHeartbeats 2000000 in
theorem isWhole_o (eb o : Nat) (s : EarS) (w : World) (h : EarO w eb o s) :
    Calls Try.prog 43 #[.pointer (some ⟨eb, o, none⟩)] w fun e w' => e = .returned (.bool (wholeF s)) ∧ ∃ m, w' = w.drewN m := by
  have c0 := h.c0
  have c83 := h.c83
  have hl := h.ok.len
  by_cases h1 : s.mode = 1
  · have e : wholeF s = hasC s.ks := by unfold wholeF; simp [h1]
    have hi : ((s.mode : Int) == 1) = true := by simp; omega
    have hle : (s.ks.length : Int) ≤ 82 := by omega
    have HC := hideIt (fun w' (hw : BytesAt w' eb (o + 1) s.ks) => hasCheck_any eb (o + 1) 82 s.ks w' (by omega) hl hw)
    have HB := hideIt h.ck
    rw [e]
    clear e h
    go_enter Try.func43, Try.ntmps43
    go_wp2
    go_quiet ((go_at_call 57; exact Calls.quiet_of (HC.out _ (HB.out.kept rfl))))
    go_wp2
    go_ret
    exact ⟨rfl, _, rfl⟩
  · have e : wholeF s = false := by unfold wholeF; simp [h1]
    have hi : ((s.mode : Int) == 1) = false := by simp; omega
    rw [e]
    clear e h
    go_enter Try.func43, Try.ntmps43
    go_wp2
    go_quiet (fail)
    go_wp2
    go_ret
    exact ⟨rfl, _, rfl⟩
end Go.Proofs.Ythokdbcpkmcieaa
