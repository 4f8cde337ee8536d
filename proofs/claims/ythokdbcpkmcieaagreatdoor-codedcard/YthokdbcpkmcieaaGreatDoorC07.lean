/- The plain part: what the program reads and writes of an operand, and what the document's answer shows of it, are the same. Decode's answer, as a plain function of the bytes and the place. -/
import Derived.Test.YthokdbcpkmcieaaGreatDoorC01
import Derived.Test.YthokdbcpkmcieaaGreatDoorC06
namespace Go.Proofs.YthokdbcpkmcieaaGreatDoor
open Go Go.RowKit
theorem ba_ext {a b : ByteArray} (h : a.data.toList = b.data.toList) : a = b := by
  apply ByteArray.ext
  exact Array.ext' h
theorem extract_extract' (s : ByteArray) (a b c : Nat) : (s.extract a b).extract c (b - a) = s.extract (a + c) b := by
  apply ba_ext
  rw [Lib.extract_data, Lib.extract_data, Lib.extract_data]
  rw [List.drop_take, List.drop_drop, List.take_take]
  congr 1
  omega
theorem bAt_list (b : ByteArray) (i : Nat) : bAt b i = ((b.data.toList.getD i 0).toNat : Int) := by
  unfold bAt
  rw [Array.getD_eq_getD_getElem?, List.getD_eq_getElem?_getD, Array.getElem?_toList]
theorem bAt_extract (s : ByteArray) (p q i : Nat) (h : p + i < q) : bAt (s.extract p q) i = bAt s (p + i) := by
  rw [bAt_list, bAt_list, Lib.extract_data]
  rw [List.getD_eq_getElem?_getD, List.getD_eq_getElem?_getD, List.getElem?_take, if_pos (by omega), List.getElem?_drop]
/-- The number that an operand of this kind reads off its bytes. -/
def addOf (k : Nat) (b : ByteArray) : Int := if k ≤ 8 then 0 else if k = 10 ∨ k = 14 then bits BinOp.or IntKind.u16 (bAt b 0 * 256) (bAt b 1) else bAt b 0
theorem readB_ok (s : ByteArray) (p : Nat) (h : p < s.size) (sh : Bool) : readB (s.extract p s.size) sh = (bAt s p, s.extract (p + 1) s.size, sh) := by
  have hz : (s.extract p s.size).size = s.size - p := by rw [ByteArray.size_extract]; omega
  have h0 : 0 < (s.extract p s.size).size := by omega
  unfold readB
  rw [dif_pos h0, bAt_eq _ _ h0, bAt_extract s p s.size 0 (by omega), hz, extract_extract' s p s.size 1]
  rfl
theorem opSize_small (k : Nat) (h : k ≤ 8) : opSize k = 0 := by
  match k, h with
  | 0, _ => rfl
  | 1, _ => rfl
  | 2, _ => rfl
  | 3, _ => rfl
  | 4, _ => rfl
  | 5, _ => rfl
  | 6, _ => rfl
  | 7, _ => rfl
  | 8, _ => rfl
theorem opSize_big (k : Nat) (h : ¬ k ≤ 8) (h17 : k < 17) : opSize k = if k = 10 ∨ k = 14 then 2 else 1 := by
  match k, h, h17 with
  | 9, _, _ => rfl
  | 10, _, _ => rfl
  | 11, _, _ => rfl
  | 12, _, _ => rfl
  | 13, _, _ => rfl
  | 14, _, _ => rfl
  | 15, _, _ => rfl
  | 16, _, _ => rfl
  | n + 17, _, h => exact absurd h (by omega)
theorem readOne_ok (k : Nat) (h17 : k < 17) (s : ByteArray) (p : Nat) (h : p + opSize k ≤ s.size) : readOne k (s.extract p s.size) false = (addOf k (s.extract p (p + opSize k)), s.extract (p + opSize k) s.size, false) := by
  unfold readOne addOf
  by_cases h8 : k ≤ 8
  · rw [if_pos h8, if_pos h8, opSize_small k h8]; rfl
  · rw [if_neg h8, if_neg h8]
    rw [opSize_big k h8 h17] at h ⊢
    by_cases hw : k = 10 ∨ k = 14
    · rw [if_pos hw] at h ⊢
      rw [if_pos hw, if_pos hw]
      unfold readW
      rw [readB_ok s p (by omega)]
      simp only
      rw [readB_ok s (p + 1) (by omega), bAt_extract s p (p + 2) 0 (by omega), bAt_extract s p (p + 2) 1 (by omega)]
      rfl
    · rw [if_neg hw] at h ⊢
      rw [if_neg hw, if_neg hw, readB_ok s p (by omega), bAt_extract s p (p + 1) 0 (by omega)]
      rfl
theorem readB_short (r : ByteArray) (sh : Bool) (h : r.size = 0) : readB r sh = (0, r, true) := by
  unfold readB; rw [dif_neg (by omega)]
theorem readB_keeps (r : ByteArray) : (readB r true).2.2 = true := by
  unfold readB; split <;> rfl
theorem readOne_keeps (k : Nat) (r : ByteArray) : (readOne k r true).2.2 = true := by
  unfold readOne
  split
  · rfl
  · split
    · unfold readW
      simp only
      rw [readB_keeps]
      exact readB_keeps _
    · exact readB_keeps r
theorem readOne_short (k : Nat) (h17 : k < 17) (r : ByteArray) (sh : Bool) (h : r.size < opSize k) : (readOne k r sh).2.2 = true := by
  unfold readOne
  by_cases h8 : k ≤ 8
  · rw [opSize_small k h8] at h; omega
  · rw [if_neg h8]
    rw [opSize_big k h8 h17] at h
    by_cases hw : k = 10 ∨ k = 14
    · rw [if_pos hw] at h ⊢
      unfold readW
      by_cases hz : r.size = 0
      · rw [readB_short r sh hz]
        exact readB_keeps r
      · have h1 : r.size = 1 := by omega
        have h0 : 0 < r.size := by omega
        have e : readB r sh = ((r[0].toNat : Int), r.extract 1 r.size, sh) := by unfold readB; rw [dif_pos h0]
        rw [e]
        simp only
        rw [readB_short _ _ (by rw [ByteArray.size_extract]; omega)]
    · rw [if_neg hw] at h ⊢
      rw [readB_short r sh (by omega)]
/-- The operand as it stands ahead of the reading and behind it. -/
def opA (own : Int) (ks : List Nat) (code : ByteArray) (i j : Nat) : Opn := ⟨ks.getD j 0, opText (ks.getD j 0), own, if j < i then addOf (ks.getD j 0) (code.extract (posAt ks j) (posAt ks j + opSize (ks.getD j 0))) else 0, 0⟩
def lAt (own : Int) (ks : List Nat) (code : ByteArray) (i : Nat) : List Opn := (List.range ks.length).map (opA own ks code i)
theorem lAt_get (own : Int) (ks : List Nat) (code : ByteArray) (i j : Nat) (h : j < ks.length) : (lAt own ks code i).getD j opn0 = opA own ks code i j := by
  unfold lAt
  rw [List.getD_eq_getElem?_getD, List.getElem?_map, List.getElem?_range h]
  rfl
theorem lAt_set (own : Int) (ks : List Nat) (code : ByteArray) (i : Nat) (h : i < ks.length) : (lAt own ks code i).set i ((opA own ks code i i).put (addOf (ks.getD i 0) (code.extract (posAt ks i) (posAt ks i + opSize (ks.getD i 0))))) = lAt own ks code (i + 1) := by
  apply List.ext_getElem?
  intro j
  rw [List.getElem?_set]
  simp only [lAt, List.length_map, List.length_range, List.getElem?_map]
  by_cases hj : j < ks.length
  · rw [List.getElem?_range hj]
    by_cases e : i = j
    · subst e; simp [hj, opA, Opn.put]
    · simp only [e, if_false, Option.map_some, opA]
      by_cases h1 : j < i
      · rw [if_pos h1, if_pos (by omega)]
      · rw [if_neg h1, if_neg (by omega)]
  · rw [List.getElem?_eq_none (by simpa using hj)]
    simp
    intro e; omega
theorem posAt_zero (ks : List Nat) : posAt ks 0 = 1 := rfl
theorem readTo_ok (own : Int) (ks : List Nat) (code : ByteArray) (hk : ∀ j, j < ks.length → ks.getD j 0 < 17) : ∀ i, i ≤ ks.length → posAt ks i ≤ code.size →
    readTo (lAt own ks code 0) (code.extract 1 code.size) false i = (lAt own ks code i, code.extract (posAt ks i) code.size, false)
  | 0, _, _ => rfl
  | i + 1, hi, hp => by
    have hs := posAt_snoc ks i (by omega)
    have ih := readTo_ok own ks code hk i (by omega) (by omega)
    simp only [readTo, ih]
    rw [lAt_get own ks code i i (by omega)]
    show (_ : List Opn × ByteArray × Bool) = _
    rw [show (opA own ks code i i).kind = ks.getD i 0 from rfl, readOne_ok (ks.getD i 0) (hk i (by omega)) code (posAt ks i) (by omega)]
    simp only
    rw [lAt_set own ks code i (by omega), hs]
theorem readTo_short (own : Int) (ks : List Nat) (code : ByteArray) (h1 : 1 ≤ code.size) (hk : ∀ j, j < ks.length → ks.getD j 0 < 17) : ∀ i, i ≤ ks.length → code.size < posAt ks i →
    (readTo (lAt own ks code 0) (code.extract 1 code.size) false i).2.2 = true
  | 0, _, hp => by rw [posAt_zero] at hp; omega
  | i + 1, hi, hp => by
    have hs := posAt_snoc ks i (by omega)
    by_cases hq : code.size < posAt ks i
    · have ih := readTo_short own ks code h1 hk i (by omega) hq
      simp only [readTo]
      rw [ih]
      exact readOne_keeps _ _
    · have ih := readTo_ok own ks code hk i (by omega) (by omega)
      simp only [readTo, ih]
      rw [lAt_get own ks code i i (by omega)]
      show (readOne (ks.getD i 0) _ _).2.2 = true
      exact readOne_short _ (hk i (by omega)) _ _ (by rw [ByteArray.size_extract]; omega)
theorem wraps_u16' (n : Int) (h0 : 0 ≤ n) (h1 : n < 2 ^ 16) : IntKind.u16.wrap n = n := by rw [IntKind.wrap_u16]; omega
theorem wrap_i8 (a : Int) (h0 : 0 ≤ a) (h1 : a ≤ 255) : IntKind.i8.wrap a = if (127 : Int) < a then a - (256 : Int) else a := by
  have key : ∀ n : Fin 256, IntKind.i8.wrap (n.val : Int) = if (127 : Int) < (n.val : Int) then (n.val : Int) - (256 : Int) else (n.val : Int) := by decide +kernel
  obtain ⟨n, rfl⟩ := Int.eq_ofNat_of_zero_le h0
  exact key ⟨n, by omega⟩
theorem and_page (h : Nat) (hh : h < 65536) : h &&& 63488 = 2048 * (h / 2048) := by
  apply Nat.eq_of_testBit_eq
  intro i
  rw [Nat.testBit_and, show 2048 * (h / 2048) = 2 ^ 11 * (h / 2 ^ 11) from rfl, Nat.testBit_two_pow_mul, Nat.testBit_div_two_pow]
  by_cases hi : i < 16
  · have key : ∀ i : Fin 16, Nat.testBit 63488 i.val = decide (11 ≤ i.val) := by decide
    have := key ⟨i, hi⟩
    simp only at this
    rw [this]
    by_cases h11 : 11 ≤ i
    · simp [h11]
    · simp [h11]
  · have e : h.testBit i = false := Nat.testBit_lt_two_pow (Nat.lt_of_lt_of_le hh (by
      have : (2 : Nat) ^ 16 ≤ 2 ^ i := Nat.pow_le_pow_right (by decide) (by omega)
      omega))
    rw [e]
    by_cases h11 : 11 ≤ i
    · rw [show i - 11 + 11 = i by omega, e]; simp
    · omega
theorem or_bytes (p q : Int) (p0 : 0 ≤ p) (p1 : p ≤ 255) (q0 : 0 ≤ q) (q1 : q ≤ 255) : bits BinOp.or IntKind.u16 (p * 256) q = (256 : Int) * p + q := by
  rw [bits_join .u16 16 (by decide) wraps_u16' 8]
  all_goals omega
end Go.Proofs.YthokdbcpkmcieaaGreatDoor
namespace Go.Proofs.YthokdbcpkmcieaaGreatDoor
open Go Go.RowKit
def rowIx (c : Int) : Nat := (List.range 111).findIdx (hit c)
def cutOf (c : Int) : List UInt8 × List UInt8 × Bool := Lib.cut (rowAt (rowIx c)).2.2 [32]
def psOf (c : Int) : List ByteArray := pieces ⟨(cutOf c).2.1.toArray⟩
def ksOf (c : Int) : List Nat := (psOf c).map fun t => (kindI t).toNat
def ownOf (c : Int) : Int := bits BinOp.and IntKind.u8 c ((rowAt (rowIx c)).2.1 : Int)
theorem fi_le (n : Nat) (p : Nat → Bool) : (List.range n).findIdx p ≤ n := by
  have := List.findIdx_le_length (p := p) (xs := List.range n)
  simpa using this
theorem fi_at (n : Nat) (p : Nat → Bool) (h : (List.range n).findIdx p < n) : p ((List.range n).findIdx p) = true := by
  have hw : (List.range n).findIdx p < (List.range n).length := by simpa using h
  have := List.findIdx_getElem (w := hw)
  simpa using this
theorem fi_not (n : Nat) (p : Nat → Bool) (j : Nat) (h : j < (List.range n).findIdx p) : p j = false := by
  have := List.not_of_lt_findIdx h
  simpa using this
theorem row_lt (c : Int) (hr : rowIx c ≠ 111) : rowIx c < 111 := by
  have : rowIx c ≤ 111 := fi_le 111 (hit c)
  omega
theorem row_hit (c : Int) (hr : rowIx c ≠ 111) : hit c (rowIx c) = true := fi_at 111 (hit c) (row_lt c hr)
theorem row_first (c : Int) : ∀ j, j < rowIx c → hit c j = false := fun j h => fi_not 111 (hit c) j h
theorem posAt_all (ks : List Nat) : posAt ks ks.length = sizeOf' ks := by unfold posAt sizeOf'; rw [List.take_length]
theorem ks_len (c : Int) : (ksOf c).length = (psOf c).length := by unfold ksOf; rw [List.length_map]
theorem opText_size (k : Nat) : (opText k).size ≤ 1000 := by
  by_cases h : k < 17
  · have key : ∀ k : Fin 17, (opText k.val).size ≤ 1000 := by decide +kernel
    exact key ⟨k, h⟩
  · unfold opText
    rw [List.getD_eq_getElem?_getD, List.getElem?_eq_none (by simp; omega)]
    exact Nat.zero_le _
theorem addOf_bd (k : Nat) (b : ByteArray) : 0 ≤ addOf k b ∧ addOf k b ≤ 65535 := by
  have hb0 := bAt_bd b 0
  have hb1 := bAt_bd b 1
  unfold addOf
  split
  · omega
  · split
    · rw [or_bytes _ _ hb0.1 hb0.2 hb1.1 hb1.2]
      omega
    · omega
/-- What the closed look asks of a code with operands. -/
def okOpD (c : Int) : Bool := decide (1 ≤ (psOf c).length) && decide ((psOf c).length ≤ 3) &&
  (psOf c).all (fun t => decide (t.size ≤ 1000) && decide (0 ≤ kindI t) && decide (opText (kindI t).toNat = t) && decide ((kindI t).toNat < 17)) && decide (0 ≤ ownOf c) && ((ksOf c).all fun k => decide (k ≠ 7 ∧ k ≠ 8) || decide (ownOf c < 8)) &&
  decide ((((rowAt (rowIx c)).1 : Int) == 133) = (c == 133)) && (!(c == 133) || decide (ksOf c = [11, 11])) && decide ((cutOf c).2.1.length < 1000)
def okPlD (c : Int) : Bool := decide ((cutOf c).2.1 = []) && !(((rowAt (rowIx c)).1 : Int) == 133)
def okD (c : Int) : Bool := if rowIx c = 111 then true else decide ((rowAt (rowIx c)).2.2.length < 1000) && (if (cutOf c).2.2 then okOpD c else okPlD c)
set_option maxRecDepth 100000 in
theorem all_okD : (List.range 256).all (fun c => okD (c : Int)) = true := by decide +kernel
theorem okD_of (x : UInt8) : okD (x.toNat : Int) = true := by
  have := x.toNat_lt
  exact List.all_eq_true.1 all_okD x.toNat (List.mem_range.2 (by omega))
structure OpD (c : Int) : Prop where
  n0 : 1 ≤ (psOf c).length
  n1 : (psOf c).length ≤ 3
  ps : ∀ t ∈ psOf c, t.size ≤ 1000 ∧ 0 ≤ kindI t ∧ opText (kindI t).toNat = t ∧ (kindI t).toNat < 17
  own0 : 0 ≤ ownOf c
  own : ∀ k ∈ ksOf c, (k ≠ 7 ∧ k ≠ 8) ∨ ownOf c < 8
  same : (((rowAt (rowIx c)).1 : Int) == 133) = (c == 133)
  swap : (c == 133) = true → ksOf c = [11, 11]
  short : (cutOf c).2.1.length < 1000
theorem opD_of (c : Int) (h : okOpD c = true) : OpD c := by
  simp only [okOpD, Bool.and_eq_true, decide_eq_true_eq, List.all_eq_true, Bool.or_eq_true, Bool.not_eq_true'] at h
  obtain ⟨⟨⟨⟨⟨⟨⟨h1, h2⟩, h3⟩, h4⟩, h5⟩, h6⟩, h7⟩, h8⟩ := h
  exact ⟨h1, h2, fun t ht => by have := h3 t ht; exact ⟨this.1.1.1, this.1.1.2, this.1.2, this.2⟩, h4, h5, h6, fun hc => h7.resolve_left (by rw [hc]; simp), h8⟩
theorem OpD.kind {c : Int} (h : OpD c) (j : Nat) (hj : j < (ksOf c).length) : (ksOf c).getD j 0 < 17 := by
  have hj' : j < (psOf c).length := by rw [← ks_len]; exact hj
  have := (h.ps _ (List.getElem_mem hj')).2.2.2
  unfold ksOf
  rw [List.getD_eq_getElem?_getD, List.getElem?_map, List.getElem?_eq_getElem hj']
  exact this
theorem OpD.l0 {c : Int} (h : OpD c) (code : ByteArray) : (psOf c).map (opn (ownOf c)) = lAt (ownOf c) (ksOf c) code 0 := by
  apply List.ext_getElem?
  intro j
  rw [List.getElem?_map]
  unfold lAt
  rw [List.getElem?_map]
  by_cases hj : j < (psOf c).length
  · have hk : j < (ksOf c).length := by rw [ks_len]; exact hj
    rw [List.getElem?_eq_getElem hj, List.getElem?_range hk]
    have ht := h.ps _ (List.getElem_mem hj)
    have hg : (ksOf c).getD j 0 = (kindI (psOf c)[j]).toNat := by
      unfold ksOf
      rw [List.getD_eq_getElem?_getD, List.getElem?_map, List.getElem?_eq_getElem hj]
      rfl
    simp only [Option.map_some, opn, opA, Nat.not_lt_zero, if_false, hg, ht.2.2.1]
  · rw [List.getElem?_eq_none (by omega), List.getElem?_eq_none (by rw [List.length_range, ks_len]; omega)]
    rfl
theorem OpD.row {c : Int} (h : OpD c) (hr : rowIx c ≠ 111) (hlen : (rowAt (rowIx c)).2.2.length < 1000) (hcut : (cutOf c).2.2 = true) (code : ByteArray) :
    RowIs c (rowIx c) (ksOf c).length ((rowAt (rowIx c)).1 : Int) ((rowAt (rowIx c)).2.1 : Int) ⟨(rowAt (rowIx c)).2.2.toArray⟩ ⟨(cutOf c).1.toArray⟩ ⟨(cutOf c).2.1.toArray⟩ (psOf c) (lAt (ownOf c) (ksOf c) code 0) where
  hk := row_lt c hr
  hh := row_hit c hr
  hf := row_first c
  e1 := rfl
  e2 := rfl
  e3 := rfl
  hs := hlen
  hls := h.short
  hcut := by
    show Lib.cut (rowAt (rowIx c)).2.2 [32] = ((cutOf c).1, (cutOf c).2.1, true)
    rw [← hcut]; rfl
  hps := rfl
  hn := (ks_len c).symm
  hn0 := by rw [ks_len]; exact h.n0
  hn1 := by rw [ks_len]; exact h.n1
  hpl := fun t ht => (h.ps t ht).1
  hkd := fun t ht => (h.ps t ht).2.1
  hk17 := fun t ht => (h.ps t ht).2.2.2
  hl0 := h.l0 code
  hnm := by
    have : (cutOf c).1.length ≤ (rowAt (rowIx c)).2.2.length := by
      unfold cutOf Lib.cut
      split
      · exact List.length_take_le' _ _
      · exact Nat.le_refl _
    show (cutOf c).1.toArray.size ≤ 1000
    rw [List.size_toArray]
    omega
theorem writS_size (o : Opn) (h : o.Fine) : (writS o).size ≤ 2000 := by
  have hn := h.name
  unfold writS
  split
  · omega
  · split
    · rw [ByteArray.size_append]
      have := itoaS_size o.own h.own0 (h.own1 (by omega))
      omega
    · repeat' split
      all_goals exact Nat.le_of_ble_eq_true rfl
/-- A line: a name, a blank, the operands with commas between them. -/
def lineF (nm : ByteArray) (l : List Opn) (bh : Int) : ByteArray := (nm ++ ⟨#[32]⟩) ++ ⟨(Lib.join (l.map fun o => (writS (o.at bh)).data.toList) [44]).toArray⟩
/-- The operands as they are written. -/
def opsF (c : Int) (code : ByteArray) : List Opn := if (c == 133) = true then swap01 (lAt (ownOf c) (ksOf c) code (ksOf c).length) else lAt (ownOf c) (ksOf c) code (ksOf c).length
/-- What Decode answers. -/
def decA (code : ByteArray) (at' : Int) : ByteArray × Nat :=
  if h : 0 < code.size then
    if rowIx (code[0].toNat : Int) = 111 then (⟨#[]⟩, 0)
    else if (cutOf (code[0].toNat : Int)).2.2 = false then (⟨(cutOf (code[0].toNat : Int)).1.toArray⟩, 1)
    else if sizeOf' (ksOf (code[0].toNat : Int)) ≤ code.size then (lineF ⟨(cutOf (code[0].toNat : Int)).1.toArray⟩ (opsF (code[0].toNat : Int) code) (behindN at' (sizeOf' (ksOf (code[0].toNat : Int)) : Nat)), sizeOf' (ksOf (code[0].toNat : Int)))
    else (⟨#[]⟩, 0)
  else (⟨#[]⟩, 0)
theorem opA_fine (own : Int) (ks : List Nat) (code : ByteArray) (i j : Nat) (bh : Int) (hk : ks.getD j 0 < 17) (own0 : 0 ≤ own) (h78 : ks.getD j 0 = 7 ∨ ks.getD j 0 = 8 → own < 100) : ((opA own ks code i j).at bh).Fine := by
  have ha := addOf_bd (ks.getD j 0) (code.extract (posAt ks j) (posAt ks j + opSize (ks.getD j 0)))
  refine ⟨hk, own0, h78, ?_, ?_, opText_size _⟩
  · show 0 ≤ (if j < i then _ else (0 : Int))
    split
    · exact ha.1
    · omega
  · show (if j < i then _ else (0 : Int)) ≤ 65535
    split
    · exact ha.2
    · omega
theorem whole_p (code : ByteArray) (at' : Int) (h : 0 < code.size) (hc2 : code.size ≤ maxLen) (k : Nat) (rc rf : Int) (rt nm ls : ByteArray) (ps : List ByteArray) (ks : List Nat) (own : Int)
    (hrow : RowIs (code[0].toNat : Int) k ks.length rc rf rt nm ls ps (lAt own ks code 0)) (hk17 : ∀ j, j < ks.length → ks.getD j 0 < 17) (hsz : sizeOf' ks ≤ code.size) (hrc : (rc == 133) = false)
    (own0 : 0 ≤ own) (h78 : ∀ j, j < ks.length → ks.getD j 0 = 7 ∨ ks.getD j 0 = 8 → own < 100) (w : World) (m : Int) (hm : w.cell? ⟨0, 0, none⟩ = some (.int .i64 m)) (h0 : 0 < w.heap.size) :
    Calls Tryz.prog 30 #[.string code, .int .i64 at'] w fun e w' => e = .returned (.tuple #[.string (lineF nm (lAt own ks code ks.length) (behindN at' (sizeOf' ks : Nat))), .int .i64 (sizeOf' ks : Nat)]) ∧ Below w.heap.size w w' := by
  have hrt := readTo_ok own ks code hk17 ks.length (Nat.le_refl _) (by rw [posAt_all]; exact hsz)
  have hsize : (code.size : Int) - ((code.extract (posAt ks ks.length) code.size).size : Int) = (sizeOf' ks : Int) := by
    rw [posAt_all, ByteArray.size_extract]; omega
  refine dec_whole code at' m w h hc2 hm h0 _ _ _ _ _ _ _ _ _ hrow _ _ (by rw [hrt]) (by rw [hrt]; exact hsize) (by rw [hrt]) hrc ?_ ?_
  · intro j hj
    rw [lAt_get _ _ _ _ j hj]
    exact opA_fine own ks code _ j _ (hk17 j hj) own0 (h78 j hj)
  · intro j hj
    rw [lAt_get _ _ _ _ j hj]
    exact writS_size _ (opA_fine own ks code _ j _ (hk17 j hj) own0 (h78 j hj))
theorem swap_p (code : ByteArray) (at' : Int) (h : 0 < code.size) (hc2 : code.size ≤ maxLen) (k : Nat) (rc rf : Int) (rt nm ls : ByteArray) (ps : List ByteArray) (own : Int)
    (hrow : RowIs (code[0].toNat : Int) k 2 rc rf rt nm ls ps (lAt own [11, 11] code 0)) (hsz : 3 ≤ code.size) (hrc : (rc == 133) = true) (own0 : 0 ≤ own)
    (w : World) (m : Int) (hm : w.cell? ⟨0, 0, none⟩ = some (.int .i64 m)) (h0 : 0 < w.heap.size) :
    Calls Tryz.prog 30 #[.string code, .int .i64 at'] w fun e w' => e = .returned (.tuple #[.string (lineF nm (swap01 (lAt own [11, 11] code 2)) (behindN at' ((3 : Nat) : Int))), .int .i64 ((3 : Nat) : Int)]) ∧ Below w.heap.size w w' := by
  have hk17 : ∀ j, j < ([11, 11] : List Nat).length → ([11, 11] : List Nat).getD j 0 < 17 := by
    intro j hj
    match j, hj with
    | 0, _ => exact (by decide : (11 : Nat) < 17)
    | 1, _ => exact (by decide : (11 : Nat) < 17)
  have hrt := readTo_ok own [11, 11] code hk17 2 (Nat.le_refl _) (by show 3 ≤ code.size; exact hsz)
  have hsize : (code.size : Int) - ((code.extract 3 code.size).size : Int) = ((3 : Nat) : Int) := by
    rw [ByteArray.size_extract]; omega
  have hsw : swap01 (lAt own [11, 11] code 2) = [⟨11, opText 11, own, addOf 11 (code.extract 2 3), 0⟩, ⟨11, opText 11, own, addOf 11 (code.extract 1 2), 0⟩] := rfl
  have key := dec_swap code at' m w h hc2 hm h0 k 2 rc rf rt nm ls ps _ hrow (lAt own [11, 11] code 2) ((3 : Nat) : Int) (by rw [hrt]) (by rw [hrt]; exact hsize) (by rw [hrt]) hrc rfl
  have ha1 := addOf_bd 11 (code.extract 1 2)
  have ha2 := addOf_bd 11 (code.extract 2 3)
  have hno : ¬ ((11 : Nat) = 7 ∨ (11 : Nat) = 8) := by omega
  have hF : ∀ j, j < 2 → (((swap01 (lAt own [11, 11] code 2)).getD j opn0).at (behindN at' ((3 : Nat) : Int))).Fine := by
    intro j hj
    rw [hsw]
    match j, hj with
    | 0, _ => exact ⟨by show 11 < 17; omega, own0, fun h' => (hno h').elim, ha2.1, ha2.2, opText_size 11⟩
    | 1, _ => exact ⟨by show 11 < 17; omega, own0, fun h' => (hno h').elim, ha1.1, ha1.2, opText_size 11⟩
  exact key hF (fun j hj => writS_size _ (hF j hj))
theorem decode_any (code : ByteArray) (at' : Int) (hc2 : code.size ≤ maxLen) (w : World) (m : Int) (hm : w.cell? ⟨0, 0, none⟩ = some (.int .i64 m)) (h0 : 0 < w.heap.size) :
    Calls Tryz.prog 30 #[.string code, .int .i64 at'] w fun e w' => e = .returned (.tuple #[.string (decA code at').1, .int .i64 ((decA code at').2 : Nat)]) ∧ Below w.heap.size w w' := by
  unfold decA
  by_cases h : 0 < code.size
  · rw [dif_pos h]
    have hok := okD_of code[0]
    unfold okD at hok
    by_cases hr : rowIx (code[0].toNat : Int) = 111
    · rw [if_pos hr]
      exact dec_miss code at' w h (fun j hj => fi_not 111 (hit _) j (by show j < rowIx _; omega))
    · rw [if_neg hr]
      rw [if_neg hr] at hok
      simp only [Bool.and_eq_true, decide_eq_true_eq] at hok
      obtain ⟨hlen, hrest⟩ := hok
      cases hcut : (cutOf (code[0].toNat : Int)).2.2 with
      | false =>
        rw [hcut] at hrest
        simp only [Bool.false_eq_true, if_false, okPlD, Bool.and_eq_true, decide_eq_true_eq, Bool.not_eq_true'] at hrest
        rw [if_pos rfl]
        refine dec_plain code at' m w h hc2 hm h0 _ (row_lt _ hr) (row_hit _ hr) (row_first _) _ _ _ _ rfl rfl rfl hlen ?_ hrest.2
        show Lib.cut (rowAt (rowIx (code[0].toNat : Int))).2.2 [32] = ((cutOf (code[0].toNat : Int)).1, [], false)
        exact Prod.ext rfl (Prod.ext hrest.1 hcut)
      | true =>
        rw [hcut] at hrest
        have ho := opD_of _ hrest
        rw [if_neg (by decide)]
        have hrow := ho.row hr hlen hcut code
        by_cases hsz : sizeOf' (ksOf (code[0].toNat : Int)) ≤ code.size
        · rw [if_pos hsz]
          cases h133 : ((code[0].toNat : Int) == 133) with
          | false =>
            have e : opsF (code[0].toNat : Int) code = lAt (ownOf (code[0].toNat : Int)) (ksOf (code[0].toNat : Int)) code (ksOf (code[0].toNat : Int)).length := by unfold opsF; rw [h133]; rfl
            rw [e]
            refine whole_p code at' h hc2 _ _ _ _ _ _ _ _ _ hrow (fun j hj => ho.kind j hj) hsz (by rw [ho.same]; exact h133) ho.own0 (fun j hj h78 => ?_) w m hm h0
            have hmem : (ksOf (code[0].toNat : Int)).getD j 0 ∈ ksOf (code[0].toNat : Int) := by
              rw [List.getD_eq_getElem?_getD, List.getElem?_eq_getElem hj]
              exact List.getElem_mem hj
            rcases ho.own _ hmem with h' | h'
            · omega
            · omega
          | true =>
            have hks := ho.swap h133
            have hown0 := ho.own0
            have hsame := ho.same
            have e : opsF (code[0].toNat : Int) code = swap01 (lAt (ownOf (code[0].toNat : Int)) (ksOf (code[0].toNat : Int)) code (ksOf (code[0].toNat : Int)).length) := by unfold opsF; rw [h133]; rfl
            rw [e]
            rw [hks] at hrow hsz ⊢
            exact swap_p code at' h hc2 _ _ _ _ _ _ _ _ hrow hsz (by rw [hsame]; exact h133) hown0 w m hm h0
        · rw [if_neg hsz]
          refine dec_short code at' m w h hc2 hm h0 _ _ _ _ _ _ _ _ _ hrow ?_
          exact readTo_short _ _ code h (fun j hj => ho.kind j hj) _ (Nat.le_refl _) (by rw [posAt_all]; omega)
  · rw [dif_neg h]
    have he : code.toList.isEmpty = true := by rw [isEmpty_iff]; simp only [decide_eq_true_eq]; omega
    refine (dec_empty code at' w he).mono ?_
    rintro e w' ⟨rfl, rfl⟩
    exact ⟨rfl, Below.refl _ _⟩
set_option maxHeartbeats 400000 in
theorem bDecode_any (code : ByteArray) (at' : Int) (hc2 : code.size ≤ maxLen) (w : World) (m : Int) (hm : w.cell? ⟨0, 0, none⟩ = some (.int .i64 m)) (h0 : 0 < w.heap.size) :
    Calls Tryz.prog 13 #[.string code, .int .i64 at'] w fun e w' => e = .returned (.tuple #[.string (decA code at').1, .int .i64 ((decA code at').2 : Nat)]) ∧ Below w.heap.size w w' := by
  have HS := hideIt (decode_any code at' hc2 w m hm h0)
  obtain ⟨R, hR⟩ : ∃ R, (decA code at').1 = R := ⟨_, rfl⟩
  obtain ⟨S, hS⟩ : ∃ S : Int, ((decA code at').2 : Nat) = S := ⟨_, rfl⟩
  rw [hR, hS] at HS ⊢
  clear hR hS
  go_enter Tryz.func13, Tryz.ntmps13
  go_wp2_with fail
  refine HS.out.mono ?_
  rintro e w1 ⟨rfl, hb⟩
  go_wp2
  go_ret2
  exact ⟨rfl, hb⟩
end Go.Proofs.YthokdbcpkmcieaaGreatDoor
