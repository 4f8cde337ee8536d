/- Walks of hasCheck and isWhole. -/
import Derived.Test.YthokdbcpkmcieaaEarW2
namespace Go.Proofs.Ythokdbcpkmcieaa
open Go Go.RowKit
theorem wraps_u16e (n : Int) (h0 : 0 ≤ n) (h1 : n < 2 ^ 16) : IntKind.u16.wrap n = n := by rw [IntKind.wrap_u16]; omega
theorem or_bytes2 (p q : Int) (p0 : 0 ≤ p) (p1 : p ≤ 255) (q0 : 0 ≤ q) (q1 : q ≤ 255) : bits BinOp.or IntKind.u16 (p * 256) q = (256 : Int) * p + q := by
  rw [bits_join .u16 16 (by decide) wraps_u16e 8]
  all_goals omega
theorem BytesAt.take {w : World} {g off : Nat} {l : List UInt8} (h : BytesAt w g off l) (n : Nat) : BytesAt w g off (l.take n) := by
  intro i hi
  simp only [List.length_take] at hi
  rw [h i (by omega)]
  simp only [List.getD_eq_getElem?_getD]
  rw [List.getElem?_take_of_lt (by omega)]
theorem BytesAt.kept {w w' : World} {g off : Nat} {l : List UInt8} (h : BytesAt w g off l) (e : w'.heap[g]? = w.heap[g]?) : BytesAt w' g off l := fun i hi => (World.cell?_of_block (a := ⟨g, off + i, none⟩) e).trans (h i hi)
set_option maxRecDepth 100000 in
set_option maxHeartbeats 2000000 in
theorem hasCheck_any (g off cap : Nat) (l : List UInt8) (w : World) (hl : l.length ≤ 4000000) (hcap : l.length ≤ cap) (h : BytesAt w g off l) :
    Calls Try.prog 57 #[.slice (some ⟨g, off, none⟩) l.length cap] w fun e w' => e = .returned (.bool (hasC l)) ∧ ∃ m, w' = w.drewN m := by
  by_cases h3 : 3 ≤ l.length
  · obtain ⟨n, hn⟩ : ∃ n, l.length = n + 2 := ⟨l.length - 2, by omega⟩
    have ht := h.take n
    have hlt : (l.take n).length = n := by simp; omega
    have c1 := h n (by omega)
    have c2 := h (n + 1) (by omega)
    obtain ⟨x, hx⟩ : ∃ x, l.getD n 0 = x := ⟨_, rfl⟩
    obtain ⟨y, hy⟩ : ∃ y, l.getD (n + 1) 0 = y := ⟨_, rfl⟩
    rw [hx] at c1
    rw [hy] at c2
    have hxl := x.toNat_lt
    have hyl := y.toNat_lt
    obtain ⟨t, htt⟩ : ∃ t, l.take n = t := ⟨_, rfl⟩
    rw [htt] at ht hlt
    have hor := or_bytes2 (x.toNat : Int) (y.toNat : Int) (by omega) (by omega) (by omega) (by omega)
    have e : hasC l = (((crcN t : Nat) : Int) == (256 : Int) * (x.toNat : Int) + (y.toNat : Int)) := by
      unfold hasC
      rw [hn, show n + 2 - 2 = n by omega, show n + 2 - 1 = n + 1 by omega, htt, hx, hy]
      rw [show decide (3 ≤ n + 2) = true by simp; omega, Bool.true_and]
      by_cases hh : crcN t = x.toNat * 256 + y.toNat
      · rw [decide_eq_true hh]; symm; simp; omega
      · rw [decide_eq_false hh]; symm; simp; omega
    have HC := hideIt (fun w' (hw : BytesAt w' g off t) => check_any g off cap t w' (by omega) hw)
    rw [hlt] at HC
    have HT := hideIt ht
    rw [e, hn]
    have hp : (1 : Int) ≤ (n : Int) := by omega
    have hnn : (n : Int) ≤ 4000000 := by omega
    have hq : (n : Int) ≤ (cap : Int) := by omega
    clear e htt hx hy h ht hn
    go_enter Try.func57, Try.ntmps57
    go_wp2
    go_quiet ((go_at_call 58; exact Calls.quiet_of_same (HC.out _ (HT.out.kept rfl))))
    go_wp2
    go_ret
    exact ⟨rfl, _, rfl⟩
  · have e : hasC l = false := by unfold hasC; simp [h3]
    rw [e]
    have hp : (l.length : Int) - 2 < 1 := by omega
    have hnn : (l.length : Int) ≤ 4000000 := by omega
    clear e h
    go_enter Try.func57, Try.ntmps57
    go_wp2
    go_ret
    exact ⟨rfl, 0, rfl⟩
set_option maxRecDepth 100000 in
set_option maxHeartbeats 2000000 in
theorem isWhole_any (eb : Nat) (s : EarS) (w : World) (h : EarAt w eb s) :
    Calls Try.prog 43 #[.pointer (some ⟨eb, 0, none⟩)] w fun e w' => e = .returned (.bool (wholeF s)) ∧ ∃ m, w' = w.drewN m := by
  have c0 := h.c0
  have c83 := h.c83
  have hl := h.ok.len
  by_cases h1 : s.mode = 1
  · have e : wholeF s = hasC s.ks := by unfold wholeF; simp [h1]
    have hi : ((s.mode : Int) == 1) = true := by simp; omega
    have hle : (s.ks.length : Int) ≤ 82 := by omega
    have HC := hideIt (fun w' (hw : BytesAt w' eb 1 s.ks) => hasCheck_any eb 1 82 s.ks w' (by omega) hl hw)
    have HB := hideIt h.ck
    rw [e]
    clear e h
    go_enter Try.func43, Try.ntmps43
    go_wp2
    go_quiet ((go_at_call 57; exact Calls.quiet_of (HC.out _ (HB.out.kept rfl))))
    go_wp2
    go_ret
    exact ⟨rfl, _, rfl⟩
  · have e : wholeF s = false := by unfold wholeF; simp [h1]
    have hi : ((s.mode : Int) == 1) = false := by simp; omega
    rw [e]
    clear e h
    go_enter Try.func43, Try.ntmps43
    go_wp2
    go_quiet (fail)
    go_wp2
    go_ret
    exact ⟨rfl, _, rfl⟩
end Go.Proofs.Ythokdbcpkmcieaa
