/- The check of bytes, frames and ears as plain functions. -/
import Derived.ProofKit
namespace Go.Proofs.Ythokdbcpkmcieaa
/-- A number doubled, as the check does it. -/
def dblN (x : Nat) : Nat := if 32768 ≤ x then (x * 2 % 65536) ^^^ 4129 else x * 2
def dblT : Nat → Nat → Nat
  | 0, x => x
  | k + 1, x => dblN (dblT k x)
/-- One byte more. -/
def crcB (x : Nat) (b : UInt8) : Nat := dblT 8 (x ^^^ (b.toNat * 256))
/-- The check of bytes. -/
def crcN (l : List UInt8) : Nat := l.foldl crcB 65535
theorem dblN_lt {x : Nat} (h : x < 65536) : dblN x < 65536 := by
  unfold dblN
  split
  · exact Nat.xor_lt_two_pow (n := 16) (Nat.mod_lt _ (by decide)) (by decide)
  · omega
theorem dblT_lt {x : Nat} (h : x < 65536) : ∀ k, dblT k x < 65536
  | 0 => h
  | k + 1 => dblN_lt (dblT_lt h k)
theorem crcB_lt {x : Nat} (h : x < 65536) (b : UInt8) : crcB x b < 65536 := by
  unfold crcB
  exact dblT_lt (Nat.xor_lt_two_pow (n := 16) h (by have := b.toNat_lt; omega)) 8
theorem foldl_crc_lt (l : List UInt8) : ∀ x : Nat, x < 65536 → l.foldl crcB x < 65536 := by
  induction l with
  | nil => intro x h; rw [List.foldl_nil]; exact h
  | cons b l ih => intro x h; rw [List.foldl_cons]; exact ih _ (crcB_lt h b)
theorem crcN_lt (l : List UInt8) : crcN l < 65536 := foldl_crc_lt l _ (by decide)
theorem crcN_snoc (l : List UInt8) (b : UInt8) : crcN (l ++ [b]) = crcB (crcN l) b := by
  unfold crcN; rw [List.foldl_append, List.foldl_cons, List.foldl_nil]
/-- The check in two bytes. -/
def chkB (l : List UInt8) : List UInt8 := [UInt8.ofNat (crcN l / 256), UInt8.ofNat (crcN l % 256)]
def isB (b : UInt8) : Bool := b == 126 || b == 125
def esc1 (b : UInt8) : List UInt8 := if isB b = true then [125, b ^^^ 32] else [b]
def escL (l : List UInt8) : List UInt8 := l.flatMap esc1
theorem escL_snoc (l : List UInt8) (b : UInt8) : escL (l ++ [b]) = escL l ++ esc1 b := by unfold escL; rw [List.flatMap_append]; simp
theorem escL_len : ∀ l : List UInt8, (escL l).length ≤ 2 * l.length
  | [] => by simp [escL]
  | b :: l => by
    have h := escL_len l
    have : escL (b :: l) = esc1 b ++ escL l := rfl
    rw [this, List.length_append]
    have : (esc1 b).length ≤ 2 := by unfold esc1; split <;> simp
    simp; omega
/-- The frame of a message. -/
def frameF (m : List UInt8) : List UInt8 := 126 :: (escL (m ++ chkB m) ++ [126])
/-- An ear: its mode (0 it waits, 1 within, 2 behind a 125), and the bytes that it keeps. -/
structure EarS where
  mode : Nat
  ks : List UInt8
def keepF (s : EarS) (b : UInt8) : EarS := if s.ks.length = 82 then ⟨0, s.ks⟩ else ⟨s.mode, s.ks ++ [b]⟩
def takeF (s : EarS) (b : UInt8) : EarS :=
  if s.mode = 0 then s
  else if s.mode = 2 then (if isB (b ^^^ 32) = true then keepF ⟨1, s.ks⟩ (b ^^^ 32) else ⟨0, s.ks⟩)
  else if b = 125 then ⟨2, s.ks⟩ else keepF s b
/-- Bytes with their check at the end. -/
def hasC (l : List UInt8) : Bool := decide (3 ≤ l.length) && decide (crcN (l.take (l.length - 2)) = (l.getD (l.length - 2) 0).toNat * 256 + (l.getD (l.length - 1) 0).toNat)
def wholeF (s : EarS) : Bool := decide (s.mode = 1) && hasC s.ks
def hearB (p : EarS × List (List UInt8)) (b : UInt8) : EarS × List (List UInt8) :=
  if b = 126 then (⟨1, []⟩, if wholeF p.1 = true then p.2 ++ [p.1.ks.take (p.1.ks.length - 2)] else p.2) else (takeF p.1 b, p.2)
/-- What an ear hears. -/
def hearF (s : EarS) (l : List UInt8) : EarS × List (List UInt8) := l.foldl hearB (s, [])
structure EarOk (s : EarS) : Prop where
  mode : s.mode ≤ 2
  len : s.ks.length ≤ 82
theorem keepF_ok {s : EarS} (h : EarOk s) (b : UInt8) : EarOk (keepF s b) := by
  unfold keepF
  split
  · exact ⟨Nat.zero_le _, h.len⟩
  · exact ⟨h.mode, by have := h.len; simp; omega⟩
theorem takeF_ok {s : EarS} (h : EarOk s) (b : UInt8) : EarOk (takeF s b) := by
  unfold takeF
  split
  · exact h
  · split
    · split
      · exact keepF_ok (s := ⟨1, s.ks⟩) ⟨(by decide : 1 ≤ 2), h.len⟩ _
      · exact ⟨Nat.zero_le _, h.len⟩
    · split
      · exact ⟨Nat.le_refl _, h.len⟩
      · exact keepF_ok h b
theorem hearB_ok {p : EarS × List (List UInt8)} (h : EarOk p.1) (b : UInt8) : EarOk (hearB p b).1 := by
  unfold hearB
  split
  · exact ⟨(by decide : 1 ≤ 2), by simp⟩
  · exact takeF_ok h b
theorem foldl_ok : ∀ (l : List UInt8) {p : EarS × List (List UInt8)}, EarOk p.1 → EarOk (l.foldl hearB p).1
  | [], _, h => h
  | b :: l, _, h => foldl_ok l (hearB_ok h b)
theorem hearF_ok {s : EarS} (h : EarOk s) (l : List UInt8) : EarOk (hearF s l).1 := foldl_ok l h
theorem hearB_out (s : EarS) (o : List (List UInt8)) (b : UInt8) : hearB (s, o) b = ((hearB (s, []) b).1, o ++ (hearB (s, []) b).2) := by
  unfold hearB
  split
  · by_cases h : wholeF s = true <;> simp [h]
  · simp
theorem foldl_out : ∀ (l : List UInt8) (s : EarS) (o : List (List UInt8)), l.foldl hearB (s, o) = ((hearF s l).1, o ++ (hearF s l).2)
  | [], s, o => by simp [hearF]
  | b :: l, s, o => by
    unfold hearF
    simp only [List.foldl_cons]
    rw [hearB_out, foldl_out l _ _]
    have e : hearB (s, []) b = ((hearB (s, []) b).1, (hearB (s, []) b).2) := rfl
    rw [e, foldl_out l (hearB (s, []) b).1 (hearB (s, []) b).2]
    simp
theorem hearF_append (s : EarS) (a b : List UInt8) : hearF s (a ++ b) = ((hearF (hearF s a).1 b).1, (hearF s a).2 ++ (hearF (hearF s a).1 b).2) := by
  unfold hearF
  rw [List.foldl_append]
  have e : a.foldl hearB (s, []) = ((hearF s a).1, (hearF s a).2) := rfl
  rw [e, foldl_out]
  rfl
theorem hearF_snoc (s : EarS) (a : List UInt8) (b : UInt8) : hearF s (a ++ [b]) = hearB (hearF s a) b := by
  unfold hearF
  rw [List.foldl_append]; rfl
theorem hearF_count (s : EarS) : ∀ (l : List UInt8), (hearF s l).2.length ≤ l.length := by
  have key : ∀ (l : List UInt8) (p : EarS × List (List UInt8)), (l.foldl hearB p).2.length ≤ p.2.length + l.length := by
    intro l
    induction l with
    | nil => intro p; simp
    | cons b l ih =>
      intro p
      simp only [List.foldl_cons, List.length_cons]
      have h := ih (hearB p b)
      have : (hearB p b).2.length ≤ p.2.length + 1 := by
        unfold hearB
        split
        · split <;> simp
        · simp
      omega
  intro l
  have := key l (s, [])
  unfold hearF
  simpa using this
/-- Within a frame: what was written is kept. -/
theorem hear_esc1 (s : EarS) (o : List (List UInt8)) (b : UInt8) (hm : s.mode = 1) (hl : s.ks.length < 82) : (esc1 b).foldl hearB (s, o) = (⟨1, s.ks ++ [b]⟩, o) := by
  obtain ⟨m, ks⟩ := s
  simp only at hm hl
  subst hm
  have hne : ¬ ks.length = 82 := by omega
  unfold esc1
  by_cases hb : isB b = true
  · rw [if_pos hb]
    have hx : ¬ (b ^^^ 32) = 126 := by
      unfold isB at hb
      simp at hb
      rcases hb with rfl | rfl <;> decide
    have hxx : (b ^^^ 32) ^^^ 32 = b := by
      unfold isB at hb
      simp at hb
      rcases hb with rfl | rfl <;> decide
    simp [List.foldl_cons, hearB, takeF, hx, hxx, hb, keepF, hne]
  · rw [if_neg hb]
    have h126 : ¬ b = 126 := fun e => hb (by subst e; decide)
    have h125 : ¬ b = 125 := fun e => hb (by subst e; decide)
    simp [List.foldl_cons, hearB, takeF, h126, h125, keepF, hne]
theorem hear_escL (o : List (List UInt8)) : ∀ (l ks : List UInt8), ks.length + l.length ≤ 82 → (escL l).foldl hearB (⟨1, ks⟩, o) = (⟨1, ks ++ l⟩, o)
  | [], ks, _ => by simp [escL]
  | b :: l, ks, h => by
    have e : escL (b :: l) = esc1 b ++ escL l := rfl
    simp at h
    rw [e, List.foldl_append, hear_esc1 ⟨1, ks⟩ o b rfl (by simp; omega), hear_escL o l _ (by simp; omega)]
    simp
theorem chkB_has (m : List UInt8) (h : m ≠ []) : hasC (m ++ chkB m) = true := by
  unfold hasC
  have hl : (m ++ chkB m).length = m.length + 2 := by simp [chkB]
  have hp : 0 < m.length := by cases m with
    | nil => exact absurd rfl h
    | cons _ _ => simp
  have hc := crcN_lt m
  rw [hl]
  simp only [Bool.and_eq_true, decide_eq_true_eq]
  refine ⟨by omega, ?_⟩
  rw [show m.length + 2 - 2 = m.length by omega, show m.length + 2 - 1 = m.length + 1 by omega, List.take_left]
  have e1 : (m ++ chkB m).getD m.length 0 = UInt8.ofNat (crcN m / 256) := by simp [chkB, List.getD_eq_getElem?_getD]
  have e2 : (m ++ chkB m).getD (m.length + 1) 0 = UInt8.ofNat (crcN m % 256) := by
    simp only [List.getD_eq_getElem?_getD]
    rw [List.getElem?_append_right (by omega)]
    simp [chkB]
  rw [e1, e2]
  have h1 : (UInt8.ofNat (crcN m / 256)).toNat = crcN m / 256 := by rw [UInt8.toNat_ofNat']; omega
  have h2 : (UInt8.ofNat (crcN m % 256)).toNat = crcN m % 256 := by rw [UInt8.toNat_ofNat']; omega
  rw [h1, h2]
  omega
/-- The frame's tail gives the message, where a 126 has been heard. -/
theorem hear_tail (m : List UInt8) (h1 : m ≠ []) (h2 : m.length ≤ 80) : hearF ⟨1, []⟩ (escL (m ++ chkB m) ++ [126]) = (⟨1, []⟩, [m]) := by
  have hl : (m ++ chkB m).length = m.length + 2 := by simp [chkB]
  have e : hearF ⟨1, []⟩ (escL (m ++ chkB m)) = (⟨1, m ++ chkB m⟩, []) := by
    have := hear_escL [] (m ++ chkB m) [] (by simp [chkB]; omega)
    simpa [hearF] using this
  rw [hearF_snoc, e]
  have hh := chkB_has m h1
  unfold hearB
  rw [if_pos rfl]
  have hw : wholeF ⟨1, m ++ chkB m⟩ = true := by unfold wholeF; simp [hh]
  rw [if_pos hw]
  simp [hl]
theorem hear_126 : hearF ⟨1, []⟩ [126] = (⟨1, []⟩, []) := by simp [hearF, hearB, wholeF, hasC]
theorem hear_126any (s : EarS) : (hearF s [126]).1 = ⟨1, []⟩ := by simp [hearF, hearB]
/-- Two frames with one 126 between them. -/
theorem hear_two (m : List UInt8) (h1 : m ≠ []) (h2 : m.length ≤ 80) : (hearF ⟨1, []⟩ (frameF m ++ (frameF m).tail)).2 = [m, m] := by
  have e : frameF m ++ (frameF m).tail = [126] ++ ((escL (m ++ chkB m) ++ [126]) ++ (escL (m ++ chkB m) ++ [126])) := by simp [frameF]
  rw [e, hearF_append, hear_126]
  simp only
  rw [hearF_append, hear_tail m h1 h2]
  simp only
  rw [hear_tail m h1 h2]
  rfl
end Go.Proofs.Ythokdbcpkmcieaa
