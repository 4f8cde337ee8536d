/- Strokes and records, plainly: windows of the memory. -/
import Derived.Test.YthokdbcpkmcieaaBrdP
namespace Go.Proofs.Ythokdbcpkmcieaa
/-- n bytes from i on. -/
def win (m : List UInt8) (i n : Nat) : List UInt8 := (m.drop i).take n
/-- The memory with these bytes from i on. -/
def put (m : List UInt8) (i : Nat) (l : List UInt8) : List UInt8 := m.take i ++ (l ++ m.drop (i + l.length))
theorem win_get (m : List UInt8) (i n k : Nat) : (win m i n)[k]? = if k < n then m[i + k]? else none := by
  unfold win
  by_cases h : k < n
  · rw [if_pos h, List.getElem?_take_of_lt h, List.getElem?_drop]
  · rw [if_neg h, List.getElem?_take_eq_none (by omega)]
theorem put_len (m : List UInt8) (i : Nat) (l : List UInt8) (h : i + l.length ≤ m.length) : (put m i l).length = m.length := by
  unfold put
  simp
  omega
theorem put_get (m : List UInt8) (i : Nat) (l : List UInt8) (h : i + l.length ≤ m.length) (k : Nat) : (put m i l)[k]? = if i ≤ k ∧ k < i + l.length then l[k - i]? else m[k]? := by
  unfold put
  by_cases h1 : k < i
  · rw [List.getElem?_append_left (by simp; omega), List.getElem?_take_of_lt h1, if_neg (by omega)]
  · rw [List.getElem?_append_right (by simp; omega)]
    have e : (m.take i).length = i := by simp; omega
    rw [e]
    by_cases h2 : k < i + l.length
    · rw [List.getElem?_append_left (by omega), if_pos ⟨by omega, h2⟩]
    · rw [List.getElem?_append_right (by omega), List.getElem?_drop, if_neg (by omega)]
      congr 1
      omega
theorem win_put_same (m : List UInt8) (i : Nat) (l : List UInt8) (h : i + l.length ≤ m.length) : win (put m i l) i l.length = l := by
  apply List.ext_getElem?
  intro k
  rw [win_get]
  by_cases hk : k < l.length
  · rw [if_pos hk, put_get _ _ _ h, if_pos ⟨by omega, by omega⟩]
    congr 1
    omega
  · rw [if_neg hk, List.getElem?_eq_none (by omega)]
theorem win_put_other (m : List UInt8) (i : Nat) (l : List UInt8) (h : i + l.length ≤ m.length) (j n : Nat) (hd : j + n ≤ i ∨ i + l.length ≤ j) : win (put m i l) j n = win m j n := by
  apply List.ext_getElem?
  intro k
  rw [win_get, win_get]
  by_cases hk : k < n
  · rw [if_pos hk, if_pos hk, put_get _ _ _ h, if_neg (by omega)]
  · rw [if_neg hk, if_neg hk]
theorem win_len (m : List UInt8) (i n : Nat) (h : i + n ≤ m.length) : (win m i n).length = n := by
  unfold win
  simp
  omega
theorem put_win (m : List UInt8) (i n : Nat) (h : i + n ≤ m.length) : put m i (win m i n) = m := by
  apply List.ext_getElem?
  intro k
  have hl := win_len m i n h
  rw [put_get _ _ _ (by omega), hl]
  by_cases hk : i ≤ k ∧ k < i + n
  · rw [if_pos hk, win_get, if_pos (by omega)]
    congr 1
    omega
  · rw [if_neg hk]
theorem set_put (m : List UInt8) (i : Nat) (x : UInt8) (h : i < m.length) : m.set i x = put m i [x] := by
  apply List.ext_getElem?
  intro k
  rw [put_get _ _ _ (by simp; omega), List.getElem?_set]
  by_cases hk : i = k
  · subst hk
    simp [h]
  · rw [if_neg hk, if_neg (by simp; omega)]
theorem put_put_next (m : List UInt8) (i : Nat) (x : UInt8) (l : List UInt8) (h : i + 1 + l.length ≤ m.length) : put (put m i [x]) (i + 1) l = put m i (x :: l) := by
  have h1 : (put m i [x]).length = m.length := put_len _ _ _ (by simp; omega)
  apply List.ext_getElem?
  intro k
  rw [put_get _ _ _ (by omega), put_get _ _ _ (by simp; omega), put_get _ _ _ (by simp; omega)]
  by_cases h2 : i + 1 ≤ k ∧ k < i + 1 + l.length
  · rw [if_pos h2, if_pos (by simp; omega)]
    obtain ⟨d, hd⟩ : ∃ d, k = i + 1 + d := ⟨k - (i + 1), by omega⟩
    subst hd
    rw [show i + 1 + d - (i + 1) = d by omega, show i + 1 + d - i = d + 1 by omega, List.getElem?_cons_succ]
  · rw [if_neg h2]
    by_cases h3 : k = i
    · subst h3
      rw [if_pos (by simp), if_pos (by simp)]
      simp
    · rw [if_neg (by simp; omega), if_neg (by simp; omega)]
/-- All strokes done. -/
def wants (old : List UInt8) (os : List (Option UInt8)) : List UInt8 := List.zipWith wantF old os
theorem wants_len (old : List UInt8) (os : List (Option UInt8)) (h : old.length = os.length) : (wants old os).length = os.length := by
  unfold wants
  rw [List.length_zipWith]; omega
theorem win_succ (m : List UInt8) (i n : Nat) (h : i + (n + 1) ≤ m.length) : win m i (n + 1) = m.getD i 0 :: win m (i + 1) n := by
  apply List.ext_getElem?
  intro k
  cases k with
  | zero =>
    rw [win_get, if_pos (by omega)]
    simp [List.getElem?_eq_getElem (show i < m.length by omega), List.getD_eq_getElem?_getD]
  | succ k =>
    rw [win_get, List.getElem?_cons_succ, win_get]
    by_cases hk : k < n
    · rw [if_pos (by omega), if_pos hk]
      congr 1
      omega
    · rw [if_neg (by omega), if_neg hk]
theorem runS_lasts : ∀ (os : List (Option UInt8)) (p : Pow) (m : List UInt8) (i : Nat), i + os.length ≤ m.length → (p.cut = false ∨ os.length ≤ p.left) →
    runS p m i os = (⟨p.cut, if p.cut = false then p.left else p.left - os.length, p.mask⟩, put m i (wants (win m i os.length) os), true)
  | [], p, m, i, _, _ => by
    simp [runS, wants, win, put]
  | o :: os, p, m, i, h, hp => by
    simp only [List.length_cons] at h
    unfold runS
    have hs : strokeF p (m.getD i 0) (wantF (m.getD i 0) o) = (⟨p.cut, if p.cut = false then p.left else p.left - 1, p.mask⟩, wantF (m.getD i 0) o, true) := by
      unfold strokeF
      by_cases hc : p.cut = false
      · rw [if_pos hc, if_pos hc]
      · have hl : ¬ p.left = 0 := by rcases hp with h | h
                                     · exact absurd h hc
                                     · simp only [List.length_cons] at h; omega
        rw [if_neg hc, if_neg hl, if_neg hc]
    rw [hs]
    simp only [if_true]
    have hlen : (m.set i (wantF (m.getD i 0) o)).length = m.length := by simp
    have ih := runS_lasts os ⟨p.cut, if p.cut = false then p.left else p.left - 1, p.mask⟩ (m.set i (wantF (m.getD i 0) o)) (i + 1) (by rw [hlen]; omega) (by
      by_cases hc : p.cut = false
      · exact .inl hc
      · rcases hp with h | h
        · exact absurd h hc
        · right
          simp only [List.length_cons] at h
          show os.length ≤ (if p.cut = false then p.left else p.left - 1)
          rw [if_neg hc]; omega)
    simp only at ih
    rw [ih]
    rw [set_put m i _ (by omega)]
    have e1 : win (put m i [wantF (m.getD i 0) o]) (i + 1) os.length = win m (i + 1) os.length := win_put_other _ _ _ (by simp; omega) _ _ (.inr (by simp))
    rw [e1, put_put_next _ _ _ _ (by rw [wants_len _ _ (win_len _ _ _ (by omega))]; omega)]
    rw [List.length_cons, win_succ m i os.length (by omega)]
    congr 2
    by_cases hc : p.cut = false
    · simp [hc]
    · simp only [if_neg hc]
      rw [show p.left - 1 - os.length = p.left - (os.length + 1) by omega]
/-- What a failing stroke leaves. -/
def mixF (c want mask : UInt8) : UInt8 := c ^^^ ((c ^^^ want) &&& mask)
theorem runS_fails : ∀ (os : List (Option UInt8)) (p : Pow) (m : List UInt8) (i : Nat), i + os.length ≤ m.length → p.cut = true → p.left < os.length →
    runS p m i os = (⟨true, 0, p.mask⟩, put m i (wants (win m i p.left) (os.take p.left) ++ [mixF (m.getD (i + p.left) 0) (wantF (m.getD (i + p.left) 0) (os.getD p.left none)) p.mask]), false)
  | [], p, m, i, _, _, hl => by simp at hl
  | o :: os, p, m, i, h, hc, hl => by
    simp only [List.length_cons] at h hl
    have hcf : ¬ p.cut = false := by rw [hc]; simp
    unfold runS
    by_cases h0 : p.left = 0
    · have hs : strokeF p (m.getD i 0) (wantF (m.getD i 0) o) = (p, mixF (m.getD i 0) (wantF (m.getD i 0) o) p.mask, false) := by
        unfold strokeF mixF
        rw [if_neg hcf, if_pos h0]
      rw [hs]
      simp only [Bool.false_eq_true, if_false]
      rw [set_put m i _ (by omega), h0]
      have e : p = ⟨true, 0, p.mask⟩ := by cases p; simp_all
      rw [e]
      simp [wants]
    · have hs : strokeF p (m.getD i 0) (wantF (m.getD i 0) o) = (⟨p.cut, p.left - 1, p.mask⟩, wantF (m.getD i 0) o, true) := by
        unfold strokeF
        rw [if_neg hcf, if_neg h0]
      rw [hs]
      simp only [if_true]
      obtain ⟨k, hk⟩ : ∃ k, p.left = k + 1 := ⟨p.left - 1, by omega⟩
      have hlen : (m.set i (wantF (m.getD i 0) o)).length = m.length := by simp
      have ih := runS_fails os ⟨p.cut, p.left - 1, p.mask⟩ (m.set i (wantF (m.getD i 0) o)) (i + 1) (by rw [hlen]; omega) hc (by show p.left - 1 < os.length; omega)
      simp only at ih
      rw [ih, hk, show k + 1 - 1 = k by omega, set_put m i _ (by omega)]
      have e1 : win (put m i [wantF (m.getD i 0) o]) (i + 1) k = win m (i + 1) k := win_put_other _ _ _ (by simp; omega) _ _ (.inr (by simp))
      have e2 : (put m i [wantF (m.getD i 0) o]).getD (i + 1 + k) 0 = m.getD (i + (k + 1)) 0 := by
        rw [List.getD_eq_getElem?_getD, put_get _ _ _ (by simp; omega), if_neg (by simp), List.getD_eq_getElem?_getD]
        congr 2
        omega
      have e3 : (o :: os).getD (k + 1) none = os.getD k none := by simp [List.getD_eq_getElem?_getD]
      have hwl : (wants (win m (i + 1) k) (os.take k)).length = k := by
        unfold wants
        rw [List.length_zipWith, win_len _ _ _ (by omega), List.length_take]; omega
      rw [e1, e2, e3, put_put_next _ _ _ _ (by rw [List.length_append, hwl]; simp; omega), win_succ m i k (by omega)]
      simp [wants]
end Go.Proofs.Ythokdbcpkmcieaa
