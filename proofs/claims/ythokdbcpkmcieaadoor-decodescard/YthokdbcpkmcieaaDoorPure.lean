/- The plain part: what the program reads and writes of an operand, and what the document's answer shows of it, are the same. -/
import Derived.Test.YthokdbcpkmcieaaDoorCls2
namespace Go.Proofs.YthokdbcpkmcieaaDoor
open Go Go.RowKit
theorem ba_ext {a b : ByteArray} (h : a.data.toList = b.data.toList) : a = b := by
  apply ByteArray.ext
  exact Array.ext' h
theorem extract_extract' (s : ByteArray) (a b c : Nat) : (s.extract a b).extract c (b - a) = s.extract (a + c) b := by
  apply ba_ext
  rw [Lib.extract_data, Lib.extract_data, Lib.extract_data]
  rw [List.drop_take, List.drop_drop, List.take_take]
  congr 1
  omega
theorem bAt_list (b : ByteArray) (i : Nat) : bAt b i = ((b.data.toList.getD i 0).toNat : Int) := by
  unfold bAt
  rw [Array.getD_eq_getD_getElem?, List.getD_eq_getElem?_getD, Array.getElem?_toList]
theorem bAt_extract (s : ByteArray) (p q i : Nat) (h : p + i < q) : bAt (s.extract p q) i = bAt s (p + i) := by
  rw [bAt_list, bAt_list, Lib.extract_data]
  rw [List.getD_eq_getElem?_getD, List.getD_eq_getElem?_getD, List.getElem?_take, if_pos (by omega), List.getElem?_drop]
/-- The number that an operand of this kind reads off its bytes. -/
def addOf (k : Nat) (b : ByteArray) : Int := if k ≤ 8 then 0 else if k = 10 ∨ k = 14 then bits BinOp.or IntKind.u16 (bAt b 0 * 256) (bAt b 1) else bAt b 0
theorem readB_ok (s : ByteArray) (p : Nat) (h : p < s.size) (sh : Bool) : readB (s.extract p s.size) sh = (bAt s p, s.extract (p + 1) s.size, sh) := by
  have hz : (s.extract p s.size).size = s.size - p := by rw [ByteArray.size_extract]; omega
  have h0 : 0 < (s.extract p s.size).size := by omega
  unfold readB
  rw [dif_pos h0, bAt_eq _ _ h0, bAt_extract s p s.size 0 (by omega), hz, extract_extract' s p s.size 1]
  rfl
theorem opSize_small (k : Nat) (h : k ≤ 8) : opSize k = 0 := by
  match k, h with
  | 0, _ => rfl
  | 1, _ => rfl
  | 2, _ => rfl
  | 3, _ => rfl
  | 4, _ => rfl
  | 5, _ => rfl
  | 6, _ => rfl
  | 7, _ => rfl
  | 8, _ => rfl
theorem opSize_big (k : Nat) (h : ¬ k ≤ 8) (h17 : k < 17) : opSize k = if k = 10 ∨ k = 14 then 2 else 1 := by
  match k, h, h17 with
  | 9, _, _ => rfl
  | 10, _, _ => rfl
  | 11, _, _ => rfl
  | 12, _, _ => rfl
  | 13, _, _ => rfl
  | 14, _, _ => rfl
  | 15, _, _ => rfl
  | 16, _, _ => rfl
  | n + 17, _, h => exact absurd h (by omega)
theorem readOne_ok (k : Nat) (h17 : k < 17) (s : ByteArray) (p : Nat) (h : p + opSize k ≤ s.size) : readOne k (s.extract p s.size) false = (addOf k (s.extract p (p + opSize k)), s.extract (p + opSize k) s.size, false) := by
  unfold readOne addOf
  by_cases h8 : k ≤ 8
  · rw [if_pos h8, if_pos h8, opSize_small k h8]; rfl
  · rw [if_neg h8, if_neg h8]
    rw [opSize_big k h8 h17] at h ⊢
    by_cases hw : k = 10 ∨ k = 14
    · rw [if_pos hw] at h ⊢
      rw [if_pos hw, if_pos hw]
      unfold readW
      rw [readB_ok s p (by omega)]
      simp only
      rw [readB_ok s (p + 1) (by omega), bAt_extract s p (p + 2) 0 (by omega), bAt_extract s p (p + 2) 1 (by omega)]
      rfl
    · rw [if_neg hw] at h ⊢
      rw [if_neg hw, if_neg hw, readB_ok s p (by omega), bAt_extract s p (p + 1) 0 (by omega)]
      rfl
theorem readB_short (r : ByteArray) (sh : Bool) (h : r.size = 0) : readB r sh = (0, r, true) := by
  unfold readB; rw [dif_neg (by omega)]
theorem readB_keeps (r : ByteArray) : (readB r true).2.2 = true := by
  unfold readB; split <;> rfl
theorem readOne_keeps (k : Nat) (r : ByteArray) : (readOne k r true).2.2 = true := by
  unfold readOne
  split
  · rfl
  · split
    · unfold readW
      simp only
      rw [readB_keeps]
      exact readB_keeps _
    · exact readB_keeps r
theorem readOne_short (k : Nat) (h17 : k < 17) (r : ByteArray) (sh : Bool) (h : r.size < opSize k) : (readOne k r sh).2.2 = true := by
  unfold readOne
  by_cases h8 : k ≤ 8
  · rw [opSize_small k h8] at h; omega
  · rw [if_neg h8]
    rw [opSize_big k h8 h17] at h
    by_cases hw : k = 10 ∨ k = 14
    · rw [if_pos hw] at h ⊢
      unfold readW
      by_cases hz : r.size = 0
      · rw [readB_short r sh hz]
        exact readB_keeps r
      · have h1 : r.size = 1 := by omega
        have h0 : 0 < r.size := by omega
        have e : readB r sh = ((r[0].toNat : Int), r.extract 1 r.size, sh) := by unfold readB; rw [dif_pos h0]
        rw [e]
        simp only
        rw [readB_short _ _ (by rw [ByteArray.size_extract]; omega)]
    · rw [if_neg hw] at h ⊢
      rw [readB_short r sh (by omega)]
/-- The operand as it stands ahead of the reading and behind it. -/
def opA (own : Int) (ks : List Nat) (code : ByteArray) (i j : Nat) : Opn := ⟨ks.getD j 0, opText (ks.getD j 0), own, if j < i then addOf (ks.getD j 0) (code.extract (posAt ks j) (posAt ks j + opSize (ks.getD j 0))) else 0, 0⟩
def lAt (own : Int) (ks : List Nat) (code : ByteArray) (i : Nat) : List Opn := (List.range ks.length).map (opA own ks code i)
theorem lAt_get (own : Int) (ks : List Nat) (code : ByteArray) (i j : Nat) (h : j < ks.length) : (lAt own ks code i).getD j opn0 = opA own ks code i j := by
  unfold lAt
  rw [List.getD_eq_getElem?_getD, List.getElem?_map, List.getElem?_range h]
  rfl
theorem lAt_set (own : Int) (ks : List Nat) (code : ByteArray) (i : Nat) (h : i < ks.length) : (lAt own ks code i).set i ((opA own ks code i i).put (addOf (ks.getD i 0) (code.extract (posAt ks i) (posAt ks i + opSize (ks.getD i 0))))) = lAt own ks code (i + 1) := by
  apply List.ext_getElem?
  intro j
  rw [List.getElem?_set]
  simp only [lAt, List.length_map, List.length_range, List.getElem?_map]
  by_cases hj : j < ks.length
  · rw [List.getElem?_range hj]
    by_cases e : i = j
    · subst e; simp [hj, opA, Opn.put]
    · simp only [e, if_false, Option.map_some, opA]
      by_cases h1 : j < i
      · rw [if_pos h1, if_pos (by omega)]
      · rw [if_neg h1, if_neg (by omega)]
  · rw [List.getElem?_eq_none (by simpa using hj)]
    simp
    intro e; omega
theorem posAt_zero (ks : List Nat) : posAt ks 0 = 1 := rfl
theorem readTo_ok (own : Int) (ks : List Nat) (code : ByteArray) (hk : ∀ j, j < ks.length → ks.getD j 0 < 17) : ∀ i, i ≤ ks.length → posAt ks i ≤ code.size →
    readTo (lAt own ks code 0) (code.extract 1 code.size) false i = (lAt own ks code i, code.extract (posAt ks i) code.size, false)
  | 0, _, _ => rfl
  | i + 1, hi, hp => by
    have hs := posAt_snoc ks i (by omega)
    have ih := readTo_ok own ks code hk i (by omega) (by omega)
    simp only [readTo, ih]
    rw [lAt_get own ks code i i (by omega)]
    show (_ : List Opn × ByteArray × Bool) = _
    rw [show (opA own ks code i i).kind = ks.getD i 0 from rfl, readOne_ok (ks.getD i 0) (hk i (by omega)) code (posAt ks i) (by omega)]
    simp only
    rw [lAt_set own ks code i (by omega), hs]
theorem readTo_short (own : Int) (ks : List Nat) (code : ByteArray) (h1 : 1 ≤ code.size) (hk : ∀ j, j < ks.length → ks.getD j 0 < 17) : ∀ i, i ≤ ks.length → code.size < posAt ks i →
    (readTo (lAt own ks code 0) (code.extract 1 code.size) false i).2.2 = true
  | 0, _, hp => by rw [posAt_zero] at hp; omega
  | i + 1, hi, hp => by
    have hs := posAt_snoc ks i (by omega)
    by_cases hq : code.size < posAt ks i
    · have ih := readTo_short own ks code h1 hk i (by omega) hq
      simp only [readTo]
      rw [ih]
      exact readOne_keeps _ _
    · have ih := readTo_ok own ks code hk i (by omega) (by omega)
      simp only [readTo, ih]
      rw [lAt_get own ks code i i (by omega)]
      show (readOne (ks.getD i 0) _ _).2.2 = true
      exact readOne_short _ (hk i (by omega)) _ _ (by rw [ByteArray.size_extract]; omega)
end Go.Proofs.YthokdbcpkmcieaaDoor
