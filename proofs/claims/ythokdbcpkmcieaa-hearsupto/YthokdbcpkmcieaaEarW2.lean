/- An ear in memory; walks of keep and take. -/
import Derived.Test.YthokdbcpkmcieaaEarW1
import Derived.Maps.AppendAt
namespace Go.Proofs.Ythokdbcpkmcieaa
open Go Go.RowKit
/-- An ear at block eb. -/
structure EarAt (w : World) (eb : Nat) (s : EarS) : Prop where
  c0 : w.cell? ⟨eb, 0, none⟩ = some (.int .i64 (s.mode : Int))
  c83 : w.cell? ⟨eb, 83, none⟩ = some (.int .i64 (s.ks.length : Int))
  cb : ∀ i, i < 82 → ∃ v, w.cell? ⟨eb, 1 + i, none⟩ = some v
  ck : BytesAt w eb 1 s.ks
  fz : ∀ j, w.frozen? ⟨eb, j, none⟩ = false
  lt : eb < w.heap.size
  ok : EarOk s
theorem EarAt.kept {w w' : World} {eb : Nat} {s : EarS} (h : EarAt w eb s) (e : w'.heap[eb]? = w.heap[eb]?) (hz : w.heap.size ≤ w'.heap.size) : EarAt w' eb s :=
  ⟨(World.cell?_of_block (a := ⟨eb, 0, none⟩) e).trans h.c0, (World.cell?_of_block (a := ⟨eb, 83, none⟩) e).trans h.c83, fun i hi => by rw [World.cell?_of_block (a := ⟨eb, 1 + i, none⟩) e]; exact h.cb i hi,
    fun i hi => (World.cell?_of_block (a := ⟨eb, 1 + i, none⟩) e).trans (h.ck i hi), fun j => (World.frozen?_of_block (a := ⟨eb, j, none⟩) e).trans (h.fz j), Nat.lt_of_lt_of_le h.lt hz, h.ok⟩
theorem EarAt.setMode {w : World} {eb : Nat} {s : EarS} (h : EarAt w eb s) (m : Nat) (hm : m ≤ 2) : EarAt (w.setCell ⟨eb, 0, none⟩ (.int .i64 (m : Int))) eb ⟨m, s.ks⟩ := by
  refine ⟨World.cell?_setCell_same _ _ _ h.c0, ?_, fun i hi => ?_, fun i hi => ?_, fun j => by simp [h.fz j], by simpa [World.setCell] using h.lt, ⟨hm, h.ok.len⟩⟩
  · rw [World.cell?_setCell_other _ _ _ _ (by simp)]; exact h.c83
  · rw [World.cell?_setCell_other _ _ _ _ (by simp <;> omega)]; exact h.cb i hi
  · rw [World.cell?_setCell_other _ _ _ _ (by simp <;> omega)]; exact h.ck i hi
theorem EarAt.push {w : World} {eb : Nat} {s : EarS} (h : EarAt w eb s) (b : UInt8) (hl : s.ks.length < 82) : EarAt ((w.setCell ⟨eb, 1 + s.ks.length, none⟩ (.int .u8 (b.toNat : Int))).setCell ⟨eb, 83, none⟩ (.int .i64 ((s.ks.length : Int) + 1))) eb ⟨s.mode, s.ks ++ [b]⟩ := by
  obtain ⟨v, hv⟩ := h.cb s.ks.length hl
  have h83 : (w.setCell ⟨eb, 1 + s.ks.length, none⟩ (.int .u8 (b.toNat : Int))).cell? ⟨eb, 83, none⟩ = some (.int .i64 (s.ks.length : Int)) := by
    rw [World.cell?_setCell_other _ _ _ _ (by simp <;> omega)]; exact h.c83
  have hn := World.cell?_setCell_same w ⟨eb, 1 + s.ks.length, none⟩ (.int .u8 (b.toNat : Int)) hv
  refine ⟨?_, ?_, fun i hi => ?_, fun i hi => ?_, fun j => by simp [h.fz j], by simpa [World.setCell] using h.lt, ⟨h.ok.mode, by simp; omega⟩⟩
  · rw [World.cell?_setCell_other _ _ _ _ (by simp), World.cell?_setCell_other _ _ _ _ (by simp)]; exact h.c0
  · rw [World.cell?_setCell_same _ _ _ h83]; simp
  · rw [World.cell?_setCell_other _ _ _ _ (by simp <;> omega)]
    by_cases e : i = s.ks.length
    · subst e; exact ⟨_, hn⟩
    · rw [World.cell?_setCell_other _ _ _ _ (by simp <;> omega)]; exact h.cb i hi
  · simp only [List.length_append, List.length_cons, List.length_nil] at hi
    rw [World.cell?_setCell_other _ _ _ _ (by simp <;> omega)]
    by_cases e : i = s.ks.length
    · subst e
      rw [hn]
      simp [List.getD_eq_getElem?_getD]
    · rw [World.cell?_setCell_other _ _ _ _ (by simp <;> omega), h.ck i (by omega)]
      simp only [List.getD_eq_getElem?_getD]
      rw [List.getElem?_append_left (by omega)]
theorem grown_set (w : World) (eb j : Nat) (v : Value) : w.grownBy (w.setCell ⟨eb, j, none⟩ v) (some eb) :=
  ⟨rfl, rfl, rfl, by simp [World.setCell], fun k _ hk => Below.heap_setCell _ _ _ _ (by simpa using hk)⟩
theorem grown_drew {w w' : World} {r : Option Nat} (h : w.grownBy w' r) : w.grownBy w'.drew r := ⟨h.os, h.tape, h.output, h.size, h.block⟩
theorem grown_refl (w : World) (r : Option Nat) : w.grownBy w r := ⟨rfl, rfl, rfl, Nat.le_refl _, fun _ _ _ => rfl⟩
set_option maxRecDepth 100000 in
set_option maxHeartbeats 1000000 in
theorem keep_any (eb : Nat) (s : EarS) (b : UInt8) (w : World) (h : EarAt w eb s) :
    Calls Try.prog 56 #[.pointer (some ⟨eb, 0, none⟩), .int .u8 (b.toNat : Int)] w fun e w' => e = .returned (.tuple #[]) ∧ EarAt w' eb (keepF s b) ∧ w.grownBy w' (some eb) := by
  have c0 := h.c0
  have c83 := h.c83
  have f0 := h.fz 0
  have f83 := h.fz 83
  have hl := h.ok.len
  by_cases he : s.ks.length = 82
  · have e : keepF s b = ⟨0, s.ks⟩ := by unfold keepF; rw [if_pos he]
    have HR := hideIt (h.setMode 0 (by decide))
    have hi : ((s.ks.length : Int) == 82) = true := by simp; omega
    rw [e]
    clear h e
    go_enter Try.func56, Try.ntmps56
    go_wp2
    refine bodyPost_ret (results_none rfl _ _ _) rfl ?_
    exact ⟨rfl, HR.out, grown_set _ _ _ _⟩
  · have e : keepF s b = ⟨s.mode, s.ks ++ [b]⟩ := by unfold keepF; rw [if_neg he]
    have HR := hideIt (h.push b (by omega))
    have hi : ((s.ks.length : Int) == 82) = false := by simp; omega
    have hi2 : (s.ks.length : Int) < 82 := by omega
    obtain ⟨v, hv⟩ := h.cb s.ks.length (by omega)
    have fv := h.fz (1 + s.ks.length)
    rw [e]
    clear h e
    go_enter Try.func56, Try.ntmps56
    go_wp2
    go_region
    all_goals
      go_wp2
      go_end0
      exact ⟨rfl, HR.out.kept rfl (Nat.le_refl _), grown_drew ((grown_set _ _ _ _).trans (grown_set _ _ _ _))⟩
set_option maxRecDepth 100000 in
set_option maxHeartbeats 1000000 in
theorem take_any (eb : Nat) (s : EarS) (b : UInt8) (w : World) (h : EarAt w eb s) :
    Calls Try.prog 42 #[.pointer (some ⟨eb, 0, none⟩), .int .u8 (b.toNat : Int)] w fun e w' => e = .returned (.tuple #[]) ∧ EarAt w' eb (takeF s b) ∧ w.grownBy w' (some eb) := by
  have c0 := h.c0
  have f0 := h.fz 0
  have hm := h.ok.mode
  have hx := xor_byte b
  by_cases h0 : s.mode = 0
  · have e : takeF s b = s := by unfold takeF; rw [if_pos h0]
    have hi : ((s.mode : Int) == 0) = true := by simp; omega
    rw [e]
    have HR := hideIt h
    clear h e
    go_enter Try.func42, Try.ntmps42
    go_wp2
    go_end0
    exact ⟨rfl, HR.out, grown_refl _ _⟩
  · have hi : ((s.mode : Int) == 0) = false := by simp; omega
    by_cases h2 : s.mode = 2
    · have hi2 : ((s.mode : Int) == 2) = true := by simp; omega
      by_cases hb : isB (b ^^^ 32) = true
      · have e : takeF s b = keepF ⟨1, s.ks⟩ (b ^^^ 32) := by unfold takeF; rw [if_neg h0, if_pos h2, if_pos hb]
        have HR := hideIt (h.setMode 1 (by decide))
        rw [e]
        clear h e
        go_enter Try.func42, Try.ntmps42
        go_wp2_with fail
        refine (needsEscape_any (b ^^^ 32) _).mono ?_
        rintro e w1 ⟨rfl, rfl⟩
        rw [hb]
        go_wp2_with fail
        refine (keep_any eb ⟨1, s.ks⟩ (b ^^^ 32) _ HR.out).mono ?_
        rintro e w1 ⟨rfl, hr, hg⟩
        go_wp2
        go_end0
        exact ⟨rfl, hr, (grown_set _ _ _ _).trans hg⟩
      · have e : takeF s b = ⟨0, s.ks⟩ := by unfold takeF; rw [if_neg h0, if_pos h2, if_neg hb]
        have HR := hideIt (h.setMode 0 (by decide))
        have hbf : isB (b ^^^ 32) = false := by simpa using hb
        rw [e]
        clear h e
        go_enter Try.func42, Try.ntmps42
        go_wp2_with fail
        refine (needsEscape_any (b ^^^ 32) _).mono ?_
        rintro e w1 ⟨rfl, rfl⟩
        rw [hbf]
        go_wp2
        go_end0
        exact ⟨rfl, HR.out, grown_set _ _ _ _⟩
    · have hi2 : ((s.mode : Int) == 2) = false := by simp; omega
      by_cases h5 : b = 125
      · subst h5
        have e : takeF s 125 = ⟨2, s.ks⟩ := by unfold takeF; rw [if_neg h0, if_neg h2, if_pos rfl]
        have HR := hideIt (h.setMode 2 (by decide))
        rw [e]
        clear h e
        go_enter Try.func42, Try.ntmps42
        go_wp2
        go_end0
        exact ⟨rfl, HR.out, grown_set _ _ _ _⟩
      · have e : takeF s b = keepF s b := by unfold takeF; rw [if_neg h0, if_neg h2, if_neg h5]
        have hi5 : ((b.toNat : Int) == 125) = false := by
          have : ¬ b.toNat = 125 := fun e => h5 (UInt8.toNat_inj.1 e)
          simp; omega
        rw [e]
        have HR := hideIt h
        clear h e
        go_enter Try.func42, Try.ntmps42
        go_wp2_with fail
        refine (keep_any eb s b _ HR.out).mono ?_
        rintro e w1 ⟨rfl, hr, hg⟩
        go_wp2
        go_end0
        exact ⟨rfl, hr, hg⟩
end Go.Proofs.Ythokdbcpkmcieaa
