/- The board: plain functions. -/
import Derived.Test.YthokdbcpkmcieaaGreatBoA
namespace Go.Proofs.YthokdbcpkmcieaaGreat
/-- The power: does a cut lie ahead, how many strokes are left, the mask. -/
structure Pow where
  cut : Bool
  left : Nat
  mask : UInt8
def pow0 : Pow := ⟨false, 0, 0⟩
/-- One stroke: the power and the byte behind it; false: the power has failed. -/
def strokeF (p : Pow) (c want : UInt8) : Pow × UInt8 × Bool :=
  if p.cut = false then (p, want, true)
  else if p.left = 0 then (p, c ^^^ ((c ^^^ want) &&& p.mask), false)
  else (⟨p.cut, p.left - 1, p.mask⟩, want, true)
/-- What a byte is to become: erased, or burnt with another one. -/
def wantF (c : UInt8) : Option UInt8 → UInt8
  | none => 255
  | some x => c &&& x
/-- Strokes, one after the other, from a place on. -/
def runS : Pow → List UInt8 → Nat → List (Option UInt8) → Pow × List UInt8 × Bool
  | p, m, _, [] => (p, m, true)
  | p, m, i, o :: os =>
    if (strokeF p (m.getD i 0) (wantF (m.getD i 0) o)).2.2 = true then runS (strokeF p (m.getD i 0) (wantF (m.getD i 0) o)).1 (m.set i (strokeF p (m.getD i 0) (wantF (m.getD i 0) o)).2.1) (i + 1) os
    else ((strokeF p (m.getD i 0) (wantF (m.getD i 0) o)).1, m.set i (strokeF p (m.getD i 0) (wantF (m.getD i 0) o)).2.1, false)
/-- Flash and journal lie in one list: 16 pages of 64, 60 records of 4. -/
def pageF (m : List UInt8) (n : Nat) : List UInt8 := (m.drop (64 * n)).take 64
def slotF (m : List UInt8) (k : Nat) : List UInt8 := (m.drop (1024 + 4 * k)).take 4
/-- What a record's check is of. -/
def ofRec (m : List UInt8) (n k : UInt8) : List UInt8 := [n, k] ++ (if k = 2 then pageF m n.toNat else [])
def recF (m : List UInt8) (n k : UInt8) : List UInt8 := [n, k] ++ chkB (ofRec m n k)
def blankL : List UInt8 := [255, 255, 255, 255]
/-- Is a page burnt, by the first k records? -/
def burntS (m : List UInt8) (n : UInt8) : Nat → Bool
  | 0 => false
  | k + 1 => if slotF m k = recF m n 1 then false else if slotF m k = recF m n 2 then true else burntS m n k
def burntF (m : List UInt8) (n : UInt8) : Bool := burntS m n 60
/-- A bit of each page that is burnt, of the first k. -/
def bitsS (m : List UInt8) : Nat → Nat
  | 0 => 0
  | k + 1 => bitsS m k + (if burntF m (UInt8.ofNat k) = true then 2 ^ k else 0)
def bitsF (m : List UInt8) : Nat := bitsS m 16
/-- How many of the first k records have room. -/
def roomS (m : List UInt8) : Nat → Nat
  | 0 => 0
  | k + 1 => roomS m k + (if slotF m k = blankL then 1 else 0)
def roomF (m : List UInt8) : Nat := roomS m 60
/-- The first record that has room, from k on, of f. -/
def firstS (m : List UInt8) : Nat → Nat → Nat
  | 0, k => k
  | f + 1, k => if slotF m k = blankL then k else firstS m f (k + 1)
def firstF (m : List UInt8) : Nat := firstS m 60 0
def writeF (p : Pow) (m r : List UInt8) : Pow × List UInt8 × Bool := runS p m (1024 + 4 * firstF m) (r.map some)
/-- One more step, where the power has not failed. -/
def thenS (r : Pow × List UInt8 × Bool) (f : Pow → List UInt8 → Pow × List UInt8 × Bool) : Pow × List UInt8 × Bool := if r.2.2 = true then f r.1 r.2.1 else r
def burnPageF (p : Pow) (m : List UInt8) (n : UInt8) (bs : List UInt8) : Pow × List UInt8 × Bool :=
  thenS (thenS (thenS (writeF p m (recF m n 1)) fun p m => runS p m (64 * n.toNat) (List.replicate 64 none)) fun p m => runS p m (64 * n.toNat) (bs.map some)) fun p m => writeF p m (recF m n 2)
/-- What is asked: the answer behind session and number, where the power lasts. -/
def doF (p : Pow) (m : List UInt8) (asked : UInt8) (rest : List UInt8) : (Pow × List UInt8 × Bool) × List UInt8 :=
  if asked = 2 then (if rest.getD 0 0 < 16 ∧ 2 ≤ roomF m then (burnPageF p m (rest.getD 0 0) (rest.drop 1), [1]) else ((p, m, true), [2]))
  else if asked = 3 then ((p, m, true), if rest.getD 0 0 < 16 ∧ burntF m (rest.getD 0 0) = true then 1 :: pageF m (rest.getD 0 0).toNat else [2])
  else if asked = 4 then ((p, m, true), [1, UInt8.ofNat (bitsF m / 256), UInt8.ofNat (bitsF m % 256)])
  else ((p, m, true), [1])
/-- What a board knows of those who speak to it. -/
structure Talk where
  opn : Bool
  ses : Nat
  num : UInt8
  ans : List UInt8
def talk0 : Talk := ⟨false, 0, 0, []⟩
structure Brd where
  on : Bool
  pow : Pow
  mem : List UInt8
  ear : EarS
  talk : Talk
def askOk (m : List UInt8) : Bool :=
  if m.length < 4 then false
  else if m.getD 3 0 = 1 ∨ m.getD 3 0 = 4 then decide (m.length = 4)
  else if m.getD 3 0 = 2 then decide (m.length = 69)
  else if m.getD 3 0 = 3 then decide (m.length = 5)
  else false
def sesOf (m : List UInt8) : Nat := (m.getD 0 0).toNat * 256 + (m.getD 1 0).toNat
/-- What an answer changes: power, memory, talk; the answer's frame; false: the power has failed. -/
def answerF (p : Pow) (m : List UInt8) (t : Talk) (q : List UInt8) : Pow × List UInt8 × Talk × List UInt8 × Bool :=
  if askOk q = false then (p, m, t, [], true)
  else
    if q.getD 3 0 ≠ 1 ∧ (t.opn = false ∨ sesOf q ≠ t.ses) then (p, m, t, [], true)
    else if q.getD 3 0 ≠ 1 ∧ q.getD 2 0 = t.num then (p, m, t, t.ans, true)
    else if q.getD 3 0 ≠ 1 ∧ q.getD 2 0 ≠ t.num + 1 then (p, m, t, [], true)
    else
      let d := doF p m (q.getD 3 0) (q.drop 4)
      let o := if q.getD 3 0 = 1 then true else t.opn
      let s := if q.getD 3 0 = 1 then sesOf q else t.ses
      if d.1.2.2 = true then (d.1.1, d.1.2.1, ⟨o, s, q.getD 2 0, frameF (q.take 3 ++ d.2)⟩, frameF (q.take 3 ++ d.2), true)
      else (d.1.1, d.1.2.1, ⟨o, s, q.getD 2 0, t.ans⟩, [], false)
/-- Answers to messages, one after the other, up to a failing power. -/
def answersF : Pow → List UInt8 → Talk → List (List UInt8) → List UInt8 → Pow × List UInt8 × Talk × List UInt8 × Bool
  | p, m, t, [], out => (p, m, t, out, true)
  | p, m, t, q :: qs, out =>
    if (answerF p m t q).2.2.2.2 = true then answersF (answerF p m t q).1 (answerF p m t q).2.1 (answerF p m t q).2.2.1 qs (out ++ (answerF p m t q).2.2.2.1)
    else ((answerF p m t q).1, (answerF p m t q).2.1, (answerF p m t q).2.2.1, out, false)
def ear0 : EarS := ⟨0, []⟩
/-- Hear: the board behind it, and its answers. -/
def bhearF (b : Brd) (l : List UInt8) : Brd × List UInt8 :=
  if b.on = false then (b, [])
  else
    let r := answersF b.pow b.mem b.talk (hearF b.ear l).2 []
    if r.2.2.2.2 = true then (⟨true, r.1, r.2.1, (hearF b.ear l).1, r.2.2.1⟩, r.2.2.2.1)
    else (⟨false, pow0, r.2.1, ear0, talk0⟩, r.2.2.2.1)
def cutF (b : Brd) (n : Int) (mask : UInt8) : Brd := if b.on = true then ⟨true, ⟨true, n.toNat, mask⟩, b.mem, b.ear, b.talk⟩ else b
def bootF (b : Brd) : Brd := ⟨true, pow0, b.mem, ear0, talk0⟩
def mem0 : List UInt8 := List.replicate 1264 255
def brd0 : Brd := ⟨true, pow0, mem0, ear0, talk0⟩
theorem runS_len : ∀ (os : List (Option UInt8)) (p : Pow) (m : List UInt8) (i : Nat), (runS p m i os).2.1.length = m.length
  | [], p, m, i => rfl
  | o :: os, p, m, i => by
    unfold runS
    split
    · rw [runS_len os]; simp
    · simp
theorem thenS_len {n : Nat} {r : Pow × List UInt8 × Bool} {f : Pow → List UInt8 → Pow × List UInt8 × Bool} (h : r.2.1.length = n) (hf : ∀ p m, m.length = n → (f p m).2.1.length = n) : (thenS r f).2.1.length = n := by
  unfold thenS
  split
  · exact hf _ _ h
  · exact h
theorem writeF_len (p : Pow) (m r : List UInt8) : (writeF p m r).2.1.length = m.length := runS_len _ _ _ _
theorem burnPageF_len (p : Pow) (m : List UInt8) (n : UInt8) (bs : List UInt8) : (burnPageF p m n bs).2.1.length = m.length := by
  unfold burnPageF
  refine thenS_len (thenS_len (thenS_len (writeF_len _ _ _) ?_) ?_) ?_
  · intro p m' h; rw [runS_len]; exact h
  · intro p m' h; rw [runS_len]; exact h
  · intro p m' h; rw [writeF_len]; exact h
theorem doF_len (p : Pow) (m : List UInt8) (a : UInt8) (rest : List UInt8) : (doF p m a rest).1.2.1.length = m.length := by
  unfold doF
  split
  · split
    · exact burnPageF_len _ _ _ _
    · rfl
  · split
    · rfl
    · split <;> rfl
theorem bitsS_lt (m : List UInt8) : ∀ k, bitsS m k < 2 ^ k
  | 0 => by simp [bitsS]
  | k + 1 => by
    have h := bitsS_lt m k
    unfold bitsS
    have : 2 ^ (k + 1) = 2 ^ k + 2 ^ k := by rw [Nat.pow_succ]; omega
    split <;> omega
theorem roomS_le (m : List UInt8) : ∀ k, roomS m k ≤ k
  | 0 => Nat.le_refl _
  | k + 1 => by
    have h := roomS_le m k
    unfold roomS
    split <;> omega
end Go.Proofs.YthokdbcpkmcieaaGreat
namespace Go.Proofs.YthokdbcpkmcieaaGreat
/-- n bytes from i on. -/
def win (m : List UInt8) (i n : Nat) : List UInt8 := (m.drop i).take n
/-- The memory with these bytes from i on. -/
def put (m : List UInt8) (i : Nat) (l : List UInt8) : List UInt8 := m.take i ++ (l ++ m.drop (i + l.length))
theorem win_get (m : List UInt8) (i n k : Nat) : (win m i n)[k]? = if k < n then m[i + k]? else none := by
  unfold win
  by_cases h : k < n
  · rw [if_pos h, List.getElem?_take_of_lt h, List.getElem?_drop]
  · rw [if_neg h, List.getElem?_take_eq_none (by omega)]
theorem put_len (m : List UInt8) (i : Nat) (l : List UInt8) (h : i + l.length ≤ m.length) : (put m i l).length = m.length := by
  unfold put
  simp
  omega
theorem put_get (m : List UInt8) (i : Nat) (l : List UInt8) (h : i + l.length ≤ m.length) (k : Nat) : (put m i l)[k]? = if i ≤ k ∧ k < i + l.length then l[k - i]? else m[k]? := by
  unfold put
  by_cases h1 : k < i
  · rw [List.getElem?_append_left (by simp; omega), List.getElem?_take_of_lt h1, if_neg (by omega)]
  · rw [List.getElem?_append_right (by simp; omega)]
    have e : (m.take i).length = i := by simp; omega
    rw [e]
    by_cases h2 : k < i + l.length
    · rw [List.getElem?_append_left (by omega), if_pos ⟨by omega, h2⟩]
    · rw [List.getElem?_append_right (by omega), List.getElem?_drop, if_neg (by omega)]
      congr 1
      omega
theorem win_put_same (m : List UInt8) (i : Nat) (l : List UInt8) (h : i + l.length ≤ m.length) : win (put m i l) i l.length = l := by
  apply List.ext_getElem?
  intro k
  rw [win_get]
  by_cases hk : k < l.length
  · rw [if_pos hk, put_get _ _ _ h, if_pos ⟨by omega, by omega⟩]
    congr 1
    omega
  · rw [if_neg hk, List.getElem?_eq_none (by omega)]
theorem win_put_other (m : List UInt8) (i : Nat) (l : List UInt8) (h : i + l.length ≤ m.length) (j n : Nat) (hd : j + n ≤ i ∨ i + l.length ≤ j) : win (put m i l) j n = win m j n := by
  apply List.ext_getElem?
  intro k
  rw [win_get, win_get]
  by_cases hk : k < n
  · rw [if_pos hk, if_pos hk, put_get _ _ _ h, if_neg (by omega)]
  · rw [if_neg hk, if_neg hk]
theorem win_len (m : List UInt8) (i n : Nat) (h : i + n ≤ m.length) : (win m i n).length = n := by
  unfold win
  simp
  omega
theorem put_win (m : List UInt8) (i n : Nat) (h : i + n ≤ m.length) : put m i (win m i n) = m := by
  apply List.ext_getElem?
  intro k
  have hl := win_len m i n h
  rw [put_get _ _ _ (by omega), hl]
  by_cases hk : i ≤ k ∧ k < i + n
  · rw [if_pos hk, win_get, if_pos (by omega)]
    congr 1
    omega
  · rw [if_neg hk]
theorem set_put (m : List UInt8) (i : Nat) (x : UInt8) (h : i < m.length) : m.set i x = put m i [x] := by
  apply List.ext_getElem?
  intro k
  rw [put_get _ _ _ (by simp; omega), List.getElem?_set]
  by_cases hk : i = k
  · subst hk
    simp [h]
  · rw [if_neg hk, if_neg (by simp; omega)]
theorem put_put_next (m : List UInt8) (i : Nat) (x : UInt8) (l : List UInt8) (h : i + 1 + l.length ≤ m.length) : put (put m i [x]) (i + 1) l = put m i (x :: l) := by
  have h1 : (put m i [x]).length = m.length := put_len _ _ _ (by simp; omega)
  apply List.ext_getElem?
  intro k
  rw [put_get _ _ _ (by omega), put_get _ _ _ (by simp; omega), put_get _ _ _ (by simp; omega)]
  by_cases h2 : i + 1 ≤ k ∧ k < i + 1 + l.length
  · rw [if_pos h2, if_pos (by simp; omega)]
    obtain ⟨d, hd⟩ : ∃ d, k = i + 1 + d := ⟨k - (i + 1), by omega⟩
    subst hd
    rw [show i + 1 + d - (i + 1) = d by omega, show i + 1 + d - i = d + 1 by omega, List.getElem?_cons_succ]
  · rw [if_neg h2]
    by_cases h3 : k = i
    · subst h3
      rw [if_pos (by simp), if_pos (by simp)]
      simp
    · rw [if_neg (by simp; omega), if_neg (by simp; omega)]
/-- All strokes done. -/
def wants (old : List UInt8) (os : List (Option UInt8)) : List UInt8 := List.zipWith wantF old os
theorem wants_len (old : List UInt8) (os : List (Option UInt8)) (h : old.length = os.length) : (wants old os).length = os.length := by
  unfold wants
  rw [List.length_zipWith]; omega
theorem win_succ (m : List UInt8) (i n : Nat) (h : i + (n + 1) ≤ m.length) : win m i (n + 1) = m.getD i 0 :: win m (i + 1) n := by
  apply List.ext_getElem?
  intro k
  cases k with
  | zero =>
    rw [win_get, if_pos (by omega)]
    simp [List.getElem?_eq_getElem (show i < m.length by omega), List.getD_eq_getElem?_getD]
  | succ k =>
    rw [win_get, List.getElem?_cons_succ, win_get]
    by_cases hk : k < n
    · rw [if_pos (by omega), if_pos hk]
      congr 1
      omega
    · rw [if_neg (by omega), if_neg hk]
theorem runS_lasts : ∀ (os : List (Option UInt8)) (p : Pow) (m : List UInt8) (i : Nat), i + os.length ≤ m.length → (p.cut = false ∨ os.length ≤ p.left) →
    runS p m i os = (⟨p.cut, if p.cut = false then p.left else p.left - os.length, p.mask⟩, put m i (wants (win m i os.length) os), true)
  | [], p, m, i, _, _ => by
    simp [runS, wants, win, put]
  | o :: os, p, m, i, h, hp => by
    simp only [List.length_cons] at h
    unfold runS
    have hs : strokeF p (m.getD i 0) (wantF (m.getD i 0) o) = (⟨p.cut, if p.cut = false then p.left else p.left - 1, p.mask⟩, wantF (m.getD i 0) o, true) := by
      unfold strokeF
      by_cases hc : p.cut = false
      · rw [if_pos hc, if_pos hc]
      · have hl : ¬ p.left = 0 := by rcases hp with h | h
                                     · exact absurd h hc
                                     · simp only [List.length_cons] at h; omega
        rw [if_neg hc, if_neg hl, if_neg hc]
    rw [hs]
    simp only [if_true]
    have hlen : (m.set i (wantF (m.getD i 0) o)).length = m.length := by simp
    have ih := runS_lasts os ⟨p.cut, if p.cut = false then p.left else p.left - 1, p.mask⟩ (m.set i (wantF (m.getD i 0) o)) (i + 1) (by rw [hlen]; omega) (by
      by_cases hc : p.cut = false
      · exact .inl hc
      · rcases hp with h | h
        · exact absurd h hc
        · right
          simp only [List.length_cons] at h
          show os.length ≤ (if p.cut = false then p.left else p.left - 1)
          rw [if_neg hc]; omega)
    simp only at ih
    rw [ih]
    rw [set_put m i _ (by omega)]
    have e1 : win (put m i [wantF (m.getD i 0) o]) (i + 1) os.length = win m (i + 1) os.length := win_put_other _ _ _ (by simp; omega) _ _ (.inr (by simp))
    rw [e1, put_put_next _ _ _ _ (by rw [wants_len _ _ (win_len _ _ _ (by omega))]; omega)]
    rw [List.length_cons, win_succ m i os.length (by omega)]
    congr 2
    by_cases hc : p.cut = false
    · simp [hc]
    · simp only [if_neg hc]
      rw [show p.left - 1 - os.length = p.left - (os.length + 1) by omega]
/-- What a failing stroke leaves. -/
def mixF (c want mask : UInt8) : UInt8 := c ^^^ ((c ^^^ want) &&& mask)
theorem runS_fails : ∀ (os : List (Option UInt8)) (p : Pow) (m : List UInt8) (i : Nat), i + os.length ≤ m.length → p.cut = true → p.left < os.length →
    runS p m i os = (⟨true, 0, p.mask⟩, put m i (wants (win m i p.left) (os.take p.left) ++ [mixF (m.getD (i + p.left) 0) (wantF (m.getD (i + p.left) 0) (os.getD p.left none)) p.mask]), false)
  | [], p, m, i, _, _, hl => by simp at hl
  | o :: os, p, m, i, h, hc, hl => by
    simp only [List.length_cons] at h hl
    have hcf : ¬ p.cut = false := by rw [hc]; simp
    unfold runS
    by_cases h0 : p.left = 0
    · have hs : strokeF p (m.getD i 0) (wantF (m.getD i 0) o) = (p, mixF (m.getD i 0) (wantF (m.getD i 0) o) p.mask, false) := by
        unfold strokeF mixF
        rw [if_neg hcf, if_pos h0]
      rw [hs]
      simp only [Bool.false_eq_true, if_false]
      rw [set_put m i _ (by omega), h0]
      have e : p = ⟨true, 0, p.mask⟩ := by cases p; simp_all
      rw [e]
      simp [wants]
    · have hs : strokeF p (m.getD i 0) (wantF (m.getD i 0) o) = (⟨p.cut, p.left - 1, p.mask⟩, wantF (m.getD i 0) o, true) := by
        unfold strokeF
        rw [if_neg hcf, if_neg h0]
      rw [hs]
      simp only [if_true]
      obtain ⟨k, hk⟩ : ∃ k, p.left = k + 1 := ⟨p.left - 1, by omega⟩
      have hlen : (m.set i (wantF (m.getD i 0) o)).length = m.length := by simp
      have ih := runS_fails os ⟨p.cut, p.left - 1, p.mask⟩ (m.set i (wantF (m.getD i 0) o)) (i + 1) (by rw [hlen]; omega) hc (by show p.left - 1 < os.length; omega)
      simp only at ih
      rw [ih, hk, show k + 1 - 1 = k by omega, set_put m i _ (by omega)]
      have e1 : win (put m i [wantF (m.getD i 0) o]) (i + 1) k = win m (i + 1) k := win_put_other _ _ _ (by simp; omega) _ _ (.inr (by simp))
      have e2 : (put m i [wantF (m.getD i 0) o]).getD (i + 1 + k) 0 = m.getD (i + (k + 1)) 0 := by
        rw [List.getD_eq_getElem?_getD, put_get _ _ _ (by simp; omega), if_neg (by simp), List.getD_eq_getElem?_getD]
        congr 2
        omega
      have e3 : (o :: os).getD (k + 1) none = os.getD k none := by simp [List.getD_eq_getElem?_getD]
      have hwl : (wants (win m (i + 1) k) (os.take k)).length = k := by
        unfold wants
        rw [List.length_zipWith, win_len _ _ _ (by omega), List.length_take]; omega
      rw [e1, e2, e3, put_put_next _ _ _ _ (by rw [List.length_append, hwl]; simp; omega), win_succ m i k (by omega)]
      simp [wants]
end Go.Proofs.YthokdbcpkmcieaaGreat
namespace Go.Proofs.YthokdbcpkmcieaaGreat
theorem slot_win (m : List UInt8) (k : Nat) : slotF m k = win m (1024 + 4 * k) 4 := rfl
theorem page_win (m : List UInt8) (n : Nat) : pageF m n = win m (64 * n) 64 := rfl
theorem ofNat_lt {j : Nat} (h : j < 16) : UInt8.ofNat j < 16 := by
  rw [UInt8.lt_iff_toNat_lt, UInt8.toNat_ofNat']
  show j % 256 < 16
  omega
/-- The first k records are written, the others have room. -/
structure Used (m : List UInt8) (k : Nat) : Prop where
  len : m.length = 1264
  le : k ≤ 60
  full : ∀ i, i < k → slotF m i ≠ blankL
  free : ∀ i, k ≤ i → i < 60 → slotF m i = blankL
theorem firstS_used {m : List UInt8} {k : Nat} (h : Used m k) (hk : k < 60) : ∀ (f j : Nat), j ≤ k → f + j = 60 → firstS m f j = k
  | 0, j, h1, h2 => by omega
  | f + 1, j, h1, h2 => by
    unfold firstS
    by_cases e : j = k
    · subst e; rw [if_pos (h.free j (Nat.le_refl _) hk)]
    · rw [if_neg (h.full j (by omega))]
      exact firstS_used h hk f (j + 1) (by omega) (by omega)
theorem firstF_used {m : List UInt8} {k : Nat} (h : Used m k) (hk : k < 60) : firstF m = k := firstS_used h hk 60 0 (Nat.zero_le _) rfl
theorem roomS_used {m : List UInt8} {k : Nat} (h : Used m k) : ∀ j, j ≤ 60 → roomS m j = j - k
  | 0, _ => by simp [roomS]
  | j + 1, hj => by
    unfold roomS
    rw [roomS_used h j (by omega)]
    by_cases e : j < k
    · rw [if_neg (h.full j e)]; omega
    · rw [if_pos (h.free j (by omega) (by omega))]; omega
theorem roomF_used {m : List UInt8} {k : Nat} (h : Used m k) : roomF m = 60 - k := roomS_used h 60 (Nat.le_refl _)
/-- What a record says of a page. -/
def says (m : List UInt8) (n : UInt8) (i : Nat) : Option Bool := if slotF m i = recF m n 1 then some false else if slotF m i = recF m n 2 then some true else none
theorem burntS_says (m : List UInt8) (n : UInt8) (k : Nat) : burntS m n (k + 1) = (says m n k).getD (burntS m n k) := by
  rw [burntS]
  unfold says
  split
  · rfl
  · split <;> rfl
theorem burntS_congr {m m' : List UInt8} {n : UInt8} : ∀ k, (∀ i, i < k → says m' n i = says m n i) → burntS m' n k = burntS m n k
  | 0, _ => rfl
  | k + 1, h => by rw [burntS_says, burntS_says, h k (by omega), burntS_congr k (fun i hi => h i (by omega))]
theorem recF_cons (m : List UInt8) (n k : UInt8) : ∃ a b, recF m n k = [n, k, a, b] := ⟨_, _, rfl⟩
theorem recF_len (m : List UInt8) (n k : UInt8) : (recF m n k).length = 4 := rfl
theorem recF_one (m m' : List UInt8) (n : UInt8) : recF m n 1 = recF m' n 1 := rfl
theorem recF_two {m m' : List UInt8} {n : UInt8} (h : pageF m n.toNat = pageF m' n.toNat) : recF m n 2 = recF m' n 2 := by
  unfold recF ofRec
  rw [h]
theorem says_eq {m m' : List UInt8} {n : UInt8} {i : Nat} (h1 : slotF m' i = slotF m i) (h2 : pageF m' n.toNat = pageF m n.toNat) : says m' n i = says m n i := by
  unfold says
  rw [h1, recF_one m' m, recF_two h2]
theorem says_head {m : List UInt8} {n : UInt8} {i : Nat} (h : (slotF m i)[0]? ≠ some n) : says m n i = none := by
  unfold says
  rw [if_neg (fun e => h (by rw [e]; rfl)), if_neg (fun e => h (by rw [e]; rfl))]
theorem says_kind {m : List UInt8} {n : UInt8} {i : Nat} (h : (slotF m i)[1]? = some 255) : says m n i = none := by
  unfold says
  rw [if_neg (fun e => by rw [e] at h; simp [recF] at h), if_neg (fun e => by rw [e] at h; simp [recF] at h)]
theorem says_blank {m : List UInt8} {n : UInt8} {i : Nat} (h : slotF m i = blankL) : says m n i = none := says_kind (by rw [h]; rfl)
theorem says_one {m : List UInt8} {n : UInt8} {i : Nat} (h : slotF m i = recF m n 1) : says m n i = some false := by unfold says; rw [if_pos h]
theorem says_two {m : List UInt8} {n : UInt8} {i : Nat} (h : slotF m i = recF m n 2) : says m n i = some true := by
  unfold says
  rw [if_neg (fun e => by rw [e] at h; simp [recF] at h), if_pos h]
/-- Records behind k say nothing: what the first k say. -/
theorem burntS_tail {m : List UInt8} {n : UInt8} {k : Nat} : ∀ j, (∀ i, k ≤ i → i < k + j → says m n i = none) → burntS m n (k + j) = burntS m n k
  | 0, _ => rfl
  | j + 1, h => by
    rw [← Nat.add_assoc, burntS_says, h (k + j) (by omega) (by omega)]
    exact burntS_tail j (fun i h1 h2 => h i h1 (by omega))
theorem burntF_tail {m : List UInt8} {n : UInt8} {k : Nat} (hk : k ≤ 60) (h : ∀ i, k ≤ i → i < 60 → says m n i = none) : burntF m n = burntS m n k := by
  have := burntS_tail (m := m) (n := n) (k := k) (60 - k) (fun i h1 h2 => h i h1 (by omega))
  rwa [show k + (60 - k) = 60 by omega] at this
theorem and_255 (x : UInt8) : (255 : UInt8) &&& x = x := by
  have : ∀ k : Fin 256, (255 : UInt8) &&& UInt8.ofNat k.val = UInt8.ofNat k.val := by decide +kernel
  have h := this ⟨x.toNat, x.toNat_lt⟩
  simpa using h
theorem wants_blank : ∀ (l : List UInt8), wants (List.replicate l.length 255) (l.map some) = l
  | [] => rfl
  | x :: l => by
    have := wants_blank l
    unfold wants at this ⊢
    simp only [List.length_cons, List.replicate_succ, List.map_cons, List.zipWith_cons_cons, this]
    simp only [wantF, and_255]
theorem wants_none : ∀ (l : List UInt8), wants l (List.replicate l.length none) = List.replicate l.length 255
  | [] => rfl
  | x :: l => by
    have := wants_none l
    unfold wants at this ⊢
    simp only [List.length_cons, List.replicate_succ, List.zipWith_cons_cons, this]
    rfl
/-- How much power is left. -/
def lessP (p : Pow) (n : Nat) : Pow := ⟨p.cut, if p.cut = false then p.left else p.left - n, p.mask⟩
def lasts (p : Pow) (n : Nat) : Prop := p.cut = false ∨ n ≤ p.left
theorem writeF_lasts {p : Pow} {m : List UInt8} {k : Nat} {r : List UInt8} (h : Used m k) (hk : k < 60) (hr : r.length = 4) (hp : lasts p 4) : writeF p m r = (lessP p 4, put m (1024 + 4 * k) r, true) := by
  unfold writeF
  rw [firstF_used h hk, runS_lasts _ _ _ _ (by have := h.len; simp [hr]; omega) (by simpa [hr, lasts] using hp)]
  have e : win m (1024 + 4 * k) (r.map some).length = List.replicate r.length 255 := by
    have := h.free k (Nat.le_refl _) hk
    rw [slot_win] at this
    simp only [List.length_map, hr]
    exact this
  rw [e, wants_blank]
  simp [lessP, hr]
/-- A memory, and one with bytes put among the records from k on. -/
theorem Used.puts {m l : List UInt8} {k : Nat} (h : Used m k) (hk : k < 60) (hl : l.length ≤ 4) : (put m (1024 + 4 * k) l).length = 1264 ∧ (∀ i, i ≠ k → i < 60 → slotF (put m (1024 + 4 * k) l) i = slotF m i) ∧ (∀ n, n < 16 → pageF (put m (1024 + 4 * k) l) n = pageF m n) ∧ ∀ q, q < 4 → (slotF (put m (1024 + 4 * k) l) k)[q]? = if q < l.length then l[q]? else some 255 := by
  have hlen := h.len
  have hb : 1024 + 4 * k + l.length ≤ m.length := by omega
  refine ⟨by rw [put_len _ _ _ hb]; exact hlen, fun i hi h60 => ?_, fun n hn => ?_, fun q hq => ?_⟩
  · rw [slot_win, slot_win, win_put_other _ _ _ hb _ _ (by omega)]
  · rw [page_win, page_win, win_put_other _ _ _ hb _ _ (by omega)]
  · rw [slot_win, win_get, if_pos hq, put_get _ _ _ hb]
    by_cases hl2 : q < l.length
    · rw [if_pos (by omega), if_pos hl2]
      congr 1
      omega
    · rw [if_neg (by omega), if_neg hl2]
      have := h.free k (Nat.le_refl _) hk
      rw [slot_win] at this
      have h2 := win_get m (1024 + 4 * k) 4 q
      rw [if_pos hq] at h2
      rw [← h2, this]
      have : ∀ q : Fin 4, blankL[q.val]? = some 255 := by decide
      exact this ⟨q, hq⟩
theorem Used.next {m m' : List UInt8} {k : Nat} (h : Used m k) (hk : k < 60) (hl : m'.length = 1264) (hs : ∀ i, i ≠ k → i < 60 → slotF m' i = slotF m i) : (slotF m' k = blankL ∧ Used m' k) ∨ (slotF m' k ≠ blankL ∧ Used m' (k + 1)) := by
  by_cases e : slotF m' k = blankL
  · refine .inl ⟨e, hl, h.le, fun i hi => by rw [hs i (by omega) (by omega)]; exact h.full i hi, fun i h1 h2 => ?_⟩
    by_cases ei : i = k
    · subst ei; exact e
    · rw [hs i ei h2]; exact h.free i h1 h2
  · refine .inr ⟨e, hl, by omega, fun i hi => ?_, fun i h1 h2 => by rw [hs i (by omega) h2]; exact h.free i (by omega) h2⟩
    by_cases ei : i = k
    · subst ei; exact e
    · rw [hs i ei (by omega)]; exact h.full i (by omega)
end Go.Proofs.YthokdbcpkmcieaaGreat
namespace Go.Proofs.YthokdbcpkmcieaaGreat
/-- Only record k is another one: one of page n, or one without a kind. -/
structure Lone (m m' : List UInt8) (k : Nat) (n : UInt8) : Prop where
  len : m'.length = 1264
  slots : ∀ i, i ≠ k → i < 60 → slotF m' i = slotF m i
  pages : ∀ j, j < 16 → pageF m' j = pageF m j
  head : (slotF m' k)[0]? = some n ∨ (slotF m' k)[1]? = some 255
theorem u16 {j : UInt8} (h : j < 16) : j.toNat < 16 := by simpa using UInt8.lt_iff_toNat_lt.1 h
theorem Lone.burnt {m m' : List UInt8} {k : Nat} {n : UInt8} (h : Lone m m' k n) (hu : Used m k) (hk : k < 60) (j : UInt8) (hj : j < 16) : burntF m' j = (says m' j k).getD (burntF m j) := by
  have e1 : burntF m' j = burntS m' j (k + 1) := burntF_tail (by omega) (fun i h1 h2 => says_blank (by rw [h.slots i (by omega) h2]; exact hu.free i (by omega) h2))
  have e2 : burntF m j = burntS m j k := burntF_tail hu.le (fun i h1 h2 => says_blank (hu.free i h1 h2))
  rw [e1, e2, burntS_says, burntS_congr k (fun i hi => says_eq (h.slots i (by omega) (by omega)) (h.pages _ (u16 hj)))]
theorem Lone.burnt_other {m m' : List UInt8} {k : Nat} {n : UInt8} (h : Lone m m' k n) (hu : Used m k) (hk : k < 60) (j : UInt8) (hj : j < 16) (hne : j ≠ n) : burntF m' j = burntF m j := by
  rw [h.burnt hu hk j hj]
  rcases h.head with h1 | h1
  · rw [says_head (by rw [h1]; simpa using fun e => hne e.symm)]; rfl
  · rw [says_kind h1]; rfl
/-- Bytes put into a record that had room. -/
theorem lone_put {m l : List UInt8} {k : Nat} {n : UInt8} (hu : Used m k) (hk : k < 60) (hl : l.length ≤ 4) (hh : l[0]? = some n ∨ l.length ≤ 1) : Lone m (put m (1024 + 4 * k) l) k n := by
  obtain ⟨h1, h2, h3, h4⟩ := hu.puts hk hl
  refine ⟨h1, h2, h3, ?_⟩
  rcases hh with h | h
  · left
    rw [h4 0 (by omega)]
    have : 0 < l.length := (List.getElem?_eq_some_iff.1 h).1
    rw [if_pos this]; exact h
  · right
    rw [h4 1 (by omega), if_neg (by omega)]
/-- Record k is Begun, of page n; the others are as they were. -/
structure Mid (m0 m : List UInt8) (k : Nat) (n : UInt8) : Prop where
  used : Used m (k + 1)
  rec1 : slotF m k = recF m n 1
  slots : ∀ i, i < k → slotF m i = slotF m0 i
  pages : ∀ j, j < 16 → j ≠ n.toNat → pageF m j = pageF m0 j
theorem Mid.burnt {m0 m : List UInt8} {k : Nat} {n : UInt8} (h : Mid m0 m k n) : burntF m n = false := by
  rw [burntF_tail h.used.le (fun i h1 h2 => says_blank (h.used.free i h1 h2)), burntS_says, says_one h.rec1]; rfl
theorem Mid.other {m0 m : List UInt8} {k : Nat} {n : UInt8} (h : Mid m0 m k n) (hu : Used m0 k) (j : UInt8) (hj : j < 16) (hne : j ≠ n) : burntF m j = burntF m0 j := by
  have hjn : j.toNat ≠ n.toNat := fun e => hne (UInt8.toNat_inj.1 e)
  rw [burntF_tail h.used.le (fun i h1 h2 => says_blank (h.used.free i h1 h2)), burntF_tail hu.le (fun i h1 h2 => says_blank (hu.free i h1 h2)), burntS_says,
    says_head (by rw [h.rec1]; show some n ≠ some j; simpa using fun e => hne e.symm), Option.getD_none]
  exact burntS_congr k (fun i hi => says_eq (h.slots i hi) (h.pages _ (u16 hj) hjn))
theorem Mid.puts {m0 m l : List UInt8} {k : Nat} {n : UInt8} (h : Mid m0 m k n) (hn : n < 16) (hl : l.length ≤ 64) : Mid m0 (put m (64 * n.toNat) l) k n := by
  have hlen := h.used.len
  have hnn := u16 hn
  have hb : 64 * n.toNat + l.length ≤ m.length := by omega
  have hs : ∀ i, i < 60 → slotF (put m (64 * n.toNat) l) i = slotF m i := fun i hi => by rw [slot_win, slot_win, win_put_other _ _ _ hb _ _ (by omega)]
  have hle := h.used.le
  refine ⟨⟨by rw [put_len _ _ _ hb]; exact hlen, h.used.le, fun i hi => by rw [hs i (by omega)]; exact h.used.full i hi, fun i h1 h2 => by rw [hs i h2]; exact h.used.free i h1 h2⟩, ?_, fun i hi => ?_, fun j hj hne => ?_⟩
  · rw [hs k (by omega), recF_one _ m]; exact h.rec1
  · rw [hs i (by omega)]; exact h.slots i hi
  · rw [page_win, win_put_other _ _ _ hb _ _ (by omega), ← page_win]; exact h.pages j hj hne
theorem rec_ne_blank (m : List UInt8) (n k : UInt8) (hn : n < 16) : recF m n k ≠ blankL := by
  intro e
  have h : (recF m n k)[0]? = blankL[0]? := by rw [e]
  have h2 : n = 255 := by simpa [recF, blankL] using h
  subst h2
  exact absurd hn (by decide)
theorem slot_put_rec {m r : List UInt8} {k : Nat} (hu : Used m k) (hk : k < 60) (hr : r.length = 4) : slotF (put m (1024 + 4 * k) r) k = r := by
  have hlen := hu.len
  have := win_put_same m (1024 + 4 * k) r (by omega)
  rw [hr] at this
  exact this
theorem mid_first {m : List UInt8} {k : Nat} {n : UInt8} (hu : Used m k) (hk : k < 60) (hn : n < 16) : Mid m (put m (1024 + 4 * k) (recF m n 1)) k n := by
  obtain ⟨h1, h2, h3, h4⟩ := hu.puts (l := recF m n 1) hk (by rw [recF_len]; omega)
  have hs := slot_put_rec (r := recF m n 1) hu hk rfl
  rcases hu.next hk h1 h2 with ⟨e, _⟩ | ⟨_, h⟩
  · exact absurd (hs.symm.trans e) (rec_ne_blank _ _ _ hn)
  · exact ⟨h, hs.trans (recF_one _ _ _), fun i hi => h2 i (by omega) (by omega), fun j hj _ => h3 j hj⟩
/-- What a burning that fails leaves. -/
structure Left (m m' : List UInt8) (k : Nat) (n : UInt8) (bs : List UInt8) : Prop where
  used : ∃ k', Used m' k' ∧ k ≤ k' ∧ k' ≤ k + 2
  pages : ∀ j, j < 16 → j ≠ n.toNat → pageF m' j = pageF m j
  other : ∀ j : UInt8, j < 16 → j ≠ n → burntF m' j = burntF m j
  own : (pageF m' n.toNat = pageF m n.toNat ∧ burntF m' n = burntF m n) ∨ burntF m' n = false ∨ (pageF m' n.toNat = bs ∧ burntF m' n = true)
theorem Mid.left {m0 m bs : List UInt8} {k : Nat} {n : UInt8} (h : Mid m0 m k n) (hu : Used m0 k) : Left m0 m k n bs :=
  ⟨⟨k + 1, h.used, by omega, by omega⟩, h.pages, fun j hj hne => h.other hu j hj hne, .inr (.inl h.burnt)⟩
theorem runS_false {os : List (Option UInt8)} {p : Pow} {m : List UInt8} {i : Nat} (h : i + os.length ≤ m.length) (hp : ¬ lasts p os.length) : ∃ l, runS p m i os = (⟨true, 0, p.mask⟩, put m i l, false) ∧ l.length = p.left + 1 ∧ p.left < os.length ∧ l = wants (win m i p.left) (os.take p.left) ++ [mixF (m.getD (i + p.left) 0) (wantF (m.getD (i + p.left) 0) (os.getD p.left none)) p.mask] := by
  have h1 : p.cut = true ∧ p.left < os.length := by
    unfold lasts at hp
    simp only [not_or] at hp
    refine ⟨by simpa using hp.1, by omega⟩
  refine ⟨_, runS_fails os p m i h h1.1 h1.2, ?_, h1.2, rfl⟩
  have hw : (win m i p.left).length = p.left := win_len _ _ _ (by omega)
  unfold wants
  simp [List.length_zipWith, hw]
  omega
theorem wants_take : ∀ (l : List UInt8) (j : Nat), j ≤ l.length → wants (List.replicate j 255) ((l.map some).take j) = l.take j
  | l, 0, _ => by simp [wants]
  | [], j + 1, h => by simp at h
  | x :: l, j + 1, h => by
    simp only [List.length_cons] at h
    have := wants_take l j (by omega)
    unfold wants at this ⊢
    simp only [List.replicate_succ, List.map_cons, List.take_succ_cons, List.zipWith_cons_cons, this]
    simp only [wantF, and_255]
/-- A record that is torn. -/
theorem writeF_fails {p : Pow} {m r : List UInt8} {k : Nat} {n c : UInt8} {a b : UInt8} (hu : Used m k) (hk : k < 60) (hr : r = [n, c, a, b]) (hp : ¬ lasts p 4) : ∃ l, writeF p m r = (⟨true, 0, p.mask⟩, put m (1024 + 4 * k) l, false) ∧ l.length ≤ 4 ∧ (l[0]? = some n ∨ l.length ≤ 1) ∧ (l.length ≤ 1 ∨ l[1]? = some c ∨ l[1]? = some (mixF 255 c p.mask)) := by
  have hlen := hu.len
  have hb : 1024 + 4 * k + (r.map some).length ≤ m.length := by rw [hr]; simp; omega
  obtain ⟨l, e1, e2, e3, e4⟩ := runS_false (os := r.map some) (p := p) (m := m) (i := 1024 + 4 * k) hb (by rw [hr]; exact hp)
  have hf := hu.free k (Nat.le_refl _) hk
  rw [slot_win] at hf
  rw [hr] at e3
  simp only [List.length_map, List.length_cons, List.length_nil] at e3
  have hg : ∀ q, q < 4 → m[1024 + 4 * k + q]? = some 255 := by
    intro q hq
    have h2 := win_get m (1024 + 4 * k) 4 q
    rw [if_pos hq, hf] at h2
    have : ∀ q : Fin 4, blankL[q.val]? = some 255 := by decide
    rw [← h2]; exact this ⟨q, hq⟩
  have hw : win m (1024 + 4 * k) p.left = List.replicate p.left 255 := by
    apply List.ext_getElem?
    intro q
    rw [win_get]
    by_cases h : q < p.left
    · rw [if_pos h, hg q (by omega), List.getElem?_replicate, if_pos h]
    · rw [if_neg h, List.getElem?_replicate, if_neg h]
  have hc : m.getD (1024 + 4 * k + p.left) 0 = 255 := by rw [List.getD_eq_getElem?_getD, hg _ (by omega)]; rfl
  rw [hw, wants_take _ _ (by rw [hr]; simp; omega), hc] at e4
  refine ⟨l, ?_, by omega, ?_, ?_⟩
  · unfold writeF; rw [firstF_used hu hk]; exact e1
  · rcases Nat.lt_or_ge p.left 1 with h | h
    · right; omega
    · left
      rw [e4, List.getElem?_append_left (by rw [hr]; simp; omega), List.getElem?_take_of_lt (by omega), hr]; rfl
  · rcases Nat.lt_or_ge p.left 1 with h | h
    · left; omega
    · right
      by_cases h1 : p.left = 1
      · right
        rw [e4, h1, hr]
        simp [wantF, and_255]
      · left
        rw [e4, List.getElem?_append_left (by rw [hr]; simp; omega), List.getElem?_take_of_lt (by omega), hr]; rfl
theorem mix_odd (mask : UInt8) : mixF 255 1 mask ≠ 2 := by
  have : ∀ k : Fin 256, mixF 255 1 (UInt8.ofNat k.val) ≠ 2 := by decide +kernel
  have h := this ⟨mask.toNat, mask.toNat_lt⟩
  simpa using h
theorem lasts_less {p : Pow} {a b : Nat} (h : lasts p (a + b)) : lasts (lessP p a) b := by
  unfold lasts lessP at *
  by_cases hc : p.cut = false
  · exact .inl hc
  · rcases h with h | h
    · exact absurd h hc
    · right; simp only [if_neg hc]; omega
theorem lasts_le {p : Pow} {a b : Nat} (h : lasts p b) (hab : a ≤ b) : lasts p a := by
  unfold lasts at *
  rcases h with h | h
  · exact .inl h
  · right; omega
theorem less_less (p : Pow) (a b : Nat) : lessP (lessP p a) b = lessP p (a + b) := by
  unfold lessP
  by_cases hc : p.cut = false
  · simp [hc]
  · simp only [if_neg hc]
    rw [show p.left - a - b = p.left - (a + b) by omega]
theorem lasts_add {p : Pow} {a b : Nat} (h : lasts p a) (h2 : lasts (lessP p a) b) : lasts p (a + b) := by
  unfold lasts lessP at *
  by_cases hc : p.cut = false
  · exact .inl hc
  · simp only [if_neg hc] at h2
    rcases h with h | h
    · exact absurd h hc
    · rcases h2 with h2 | h2
      · exact absurd h2 hc
      · right; omega
/-- The memory behind a whole burning. -/
def burntM (m : List UInt8) (k : Nat) (n : UInt8) (bs : List UInt8) : List UInt8 :=
  put (put (put m (1024 + 4 * k) (recF m n 1)) (64 * n.toNat) bs) (1024 + 4 * (k + 1)) ([n, 2] ++ chkB ([n, 2] ++ bs))
theorem page_erased {m0 m : List UInt8} {k : Nat} {n : UInt8} (h : Mid m0 m k n) (hn : n < 16) (p : Pow) (hp : lasts p 64) : runS p m (64 * n.toNat) (List.replicate 64 none) = (lessP p 64, put m (64 * n.toNat) (List.replicate 64 255), true) := by
  have hlen := h.used.len
  have hnn := u16 hn
  rw [runS_lasts _ _ _ _ (by simp; omega) (by simpa [lasts] using hp)]
  have hw : (win m (64 * n.toNat) 64).length = 64 := win_len _ _ _ (by omega)
  have := wants_none (win m (64 * n.toNat) 64)
  rw [hw] at this
  simp only [List.length_replicate]
  rw [this]
  rfl
theorem put_twice (m : List UInt8) (i : Nat) (a b : List UInt8) (h : i + a.length ≤ m.length) (hab : a.length = b.length) : put (put m i a) i b = put m i b := by
  apply List.ext_getElem?
  intro k
  rw [put_get _ _ _ (by rw [put_len _ _ _ h]; omega), put_get _ _ _ h, put_get _ _ _ (by omega)]
  by_cases hk : i ≤ k ∧ k < i + b.length
  · rw [if_pos hk, if_pos hk]
  · rw [if_neg hk, if_neg (by omega), if_neg hk]
theorem page_put {m0 m l : List UInt8} {k : Nat} {n : UInt8} (h : Mid m0 m k n) (hn : n < 16) (hl : l.length = 64) : pageF (put m (64 * n.toNat) l) n.toNat = l := by
  have hlen := h.used.len
  have hnn := u16 hn
  have := win_put_same m (64 * n.toNat) l (by omega)
  rw [hl] at this
  exact this
theorem rec_two {m bs : List UInt8} {n : UInt8} (h : pageF m n.toNat = bs) : recF m n 2 = [n, 2] ++ chkB ([n, 2] ++ bs) := by
  unfold recF ofRec
  rw [if_pos rfl, h]
theorem page_burns {m0 m bs : List UInt8} {k : Nat} {n : UInt8} (h : Mid m0 m k n) (hn : n < 16) (hb : bs.length = 64) (p : Pow) (hp : lasts p 64) : runS p (put m (64 * n.toNat) (List.replicate 64 255)) (64 * n.toNat) (bs.map some) = (lessP p 64, put m (64 * n.toNat) bs, true) := by
  have hlen := h.used.len
  have hnn := u16 hn
  have hm := h.puts hn (l := List.replicate 64 255) (by simp)
  rw [runS_lasts _ _ _ _ (by rw [hm.used.len]; simp; omega) (by simpa [lasts, hb] using hp)]
  have hw : win (put m (64 * n.toNat) (List.replicate 64 255)) (64 * n.toNat) (bs.map some).length = List.replicate bs.length 255 := by
    have := page_put h hn (l := List.replicate 64 255) (by simp)
    rw [page_win] at this
    simp only [List.length_map, hb]
    exact this
  rw [hw, wants_blank, put_twice _ _ _ _ (by simp; omega) (by simp [hb])]
  simp [lessP, hb]
/-- Whole: the power lasts. -/
theorem burnPage_lasts {p : Pow} {m bs : List UInt8} {k : Nat} {n : UInt8} (hu : Used m k) (hk : k + 2 ≤ 60) (hn : n < 16) (hb : bs.length = 64) (hp : lasts p 136) :
    burnPageF p m n bs = (lessP p 136, burntM m k n bs, true) := by
  have m1 := mid_first (n := n) hu (by omega) hn
  have m3 := m1.puts hn (l := bs) (by omega)
  unfold burnPageF
  rw [writeF_lasts hu (by omega) rfl (lasts_le hp (by omega))]
  simp only [thenS, if_true]
  rw [page_erased m1 hn _ (lasts_less (lasts_le hp (by omega)))]
  simp only [if_true]
  rw [less_less, page_burns m1 hn hb _ (lasts_less (lasts_le hp (by omega)))]
  simp only [if_true]
  rw [less_less, writeF_lasts m3.used (by omega) rfl (lasts_less hp), less_less]
  rw [rec_two (page_put m1 hn hb)]
  rfl
def BurntIs (m bs : List UInt8) (k : Nat) (n : UInt8) : Prop :=
  Used (burntM m k n bs) (k + 2) ∧ pageF (burntM m k n bs) n.toNat = bs ∧ (∀ j, j < 16 → j ≠ n.toNat → pageF (burntM m k n bs) j = pageF m j) ∧ burntF (burntM m k n bs) n = true ∧ ∀ j : UInt8, j < 16 → j ≠ n → burntF (burntM m k n bs) j = burntF m j
theorem burntM_is {m bs : List UInt8} {k : Nat} {n : UInt8} (hu : Used m k) (hk : k + 2 ≤ 60) (hn : n < 16) (hb : bs.length = 64) : BurntIs m bs k n := by
  unfold BurntIs
  have m1 := mid_first (n := n) hu (by omega) hn
  have m3 := m1.puts hn (l := bs) (by omega)
  have hpg := page_put m1 hn hb
  obtain ⟨X, hX⟩ : ∃ X, put (put m (1024 + 4 * k) (recF m n 1)) (64 * n.toNat) bs = X := ⟨_, rfl⟩
  rw [hX] at m3 hpg
  have hr := rec_two hpg
  have he : burntM m k n bs = put X (1024 + 4 * (k + 1)) (recF X n 2) := by unfold burntM; rw [hX, hr]
  rw [he]
  have hL : Lone X (put X (1024 + 4 * (k + 1)) (recF X n 2)) (k + 1) n := lone_put m3.used (by omega) (by rw [recF_len]; omega) (.inl rfl)
  have hs := slot_put_rec (r := recF X n 2) m3.used (by omega) rfl
  have hpn := hL.pages n.toNat (u16 hn)
  refine ⟨?_, hpn.trans hpg, fun j hj hne => (hL.pages j hj).trans (m3.pages j hj hne), ?_, fun j hj hne => (hL.burnt_other m3.used (by omega) j hj hne).trans (m3.other hu j hj hne)⟩
  · rcases m3.used.next (by omega) hL.len hL.slots with ⟨e, _⟩ | ⟨_, h⟩
    · exact absurd (hs.symm.trans e) (rec_ne_blank _ _ _ hn)
    · exact h
  · rw [hL.burnt m3.used (by omega) n hn, says_two (by rw [hs]; exact (recF_two hpn).symm)]; rfl
/-- Torn: the power fails at one of the strokes. -/
theorem burnPage_fails {p : Pow} {m bs : List UInt8} {k : Nat} {n : UInt8} (hu : Used m k) (hk : k + 2 ≤ 60) (hn : n < 16) (hb : bs.length = 64) (hp : ¬ lasts p 136) :
    ∃ p' m', burnPageF p m n bs = (p', m', false) ∧ Left m m' k n bs := by
  have m1 := mid_first (n := n) hu (by omega) hn
  have m3 := m1.puts hn (l := bs) (by omega)
  have hlen := hu.len
  have hnn := u16 hn
  unfold burnPageF
  by_cases h1 : lasts p 4
  · rw [writeF_lasts hu (by omega) rfl h1]
    simp only [thenS, if_true]
    by_cases h2 : lasts (lessP p 4) 64
    · rw [page_erased m1 hn _ h2]
      simp only [if_true]
      by_cases h3 : lasts (lessP (lessP p 4) 64) 64
      · rw [page_burns m1 hn hb _ h3]
        simp only [if_true]
        have h4 : ¬ lasts (lessP (lessP (lessP p 4) 64) 64) 4 := by
          intro h4
          apply hp
          have := lasts_add (lasts_add (lasts_add h1 h2) (by rw [← less_less]; exact h3)) (by rw [← less_less, ← less_less]; exact h4)
          exact this
        have hpg := page_put m1 hn hb
        obtain ⟨X, hX⟩ : ∃ X, put (put m (1024 + 4 * k) (recF m n 1)) (64 * n.toNat) bs = X := ⟨_, rfl⟩
        rw [hX] at m3 hpg ⊢
        obtain ⟨l, e1, e2, e3, e4⟩ := writeF_fails (r := recF X n 2) m3.used (by omega) rfl h4
        rw [e1]
        refine ⟨_, _, rfl, ?_⟩
        have hL : Lone X (put X (1024 + 4 * (k + 1)) l) (k + 1) n := lone_put m3.used (by omega) e2 e3
        refine ⟨?_, fun j hj hne => (hL.pages j hj).trans (m3.pages j hj hne), fun j hj hne => (hL.burnt_other m3.used (by omega) j hj hne).trans (m3.other hu j hj hne), ?_⟩
        · rcases m3.used.next (by omega) hL.len hL.slots with ⟨_, h⟩ | ⟨_, h⟩
          · exact ⟨_, h, by omega, by omega⟩
          · exact ⟨_, h, by omega, by omega⟩
        · have hbn := hL.burnt m3.used (by omega) n hn
          rw [m3.burnt] at hbn
          cases hs : says (put X (1024 + 4 * (k + 1)) l) n (k + 1) with
          | none => rw [hs] at hbn; exact .inr (.inl hbn)
          | some b =>
            rw [hs] at hbn
            cases b with
            | false => exact .inr (.inl hbn)
            | true => exact .inr (.inr ⟨(hL.pages _ hnn).trans hpg, hbn⟩)
      · have he := m1.puts hn (l := List.replicate 64 255) (by simp)
        obtain ⟨l, e1, e2, e3, _⟩ := runS_false (os := bs.map some) (p := lessP (lessP p 4) 64) (m := put (put m (1024 + 4 * k) (recF m n 1)) (64 * n.toNat) (List.replicate 64 255)) (i := 64 * n.toNat) (by rw [he.used.len]; simp [hb]; omega) (by simpa [hb] using h3)
        rw [e1]
        simp only [Bool.false_eq_true, if_false]
        refine ⟨_, _, rfl, (he.puts hn (l := l) ?_).left hu⟩
        simp [hb] at e3; omega
    · obtain ⟨l, e1, e2, e3, _⟩ := runS_false (os := List.replicate 64 none) (p := lessP p 4) (m := put m (1024 + 4 * k) (recF m n 1)) (i := 64 * n.toNat) (by rw [m1.used.len]; simp; omega) (by simpa using h2)
      rw [e1]
      simp only [Bool.false_eq_true, if_false]
      refine ⟨_, _, rfl, (m1.puts hn (l := l) ?_).left hu⟩
      simp at e3; omega
  · obtain ⟨l, e1, e2, e3, e4⟩ := writeF_fails (r := recF m n 1) hu (by omega) rfl h1
    rw [e1]
    simp only [thenS, Bool.false_eq_true, if_false]
    refine ⟨_, _, rfl, ?_⟩
    have hL : Lone m (put m (1024 + 4 * k) l) k n := lone_put hu (by omega) e2 e3
    refine ⟨?_, fun j hj _ => hL.pages j hj, fun j hj hne => hL.burnt_other hu (by omega) j hj hne, ?_⟩
    · rcases hu.next (by omega) hL.len hL.slots with ⟨_, h⟩ | ⟨_, h⟩
      · exact ⟨_, h, by omega, by omega⟩
      · exact ⟨_, h, by omega, by omega⟩
    · have hbn := hL.burnt hu (by omega) n hn
      cases hs : says (put m (1024 + 4 * k) l) n k with
      | none => rw [hs] at hbn; exact .inl ⟨hL.pages _ hnn, hbn⟩
      | some b =>
        rw [hs] at hbn
        cases b with
        | false => exact .inr (.inl hbn)
        | true =>
          exfalso
          have h4 := (hu.puts (l := l) (by omega) e2).2.2.2 1 (by omega)
          have h2 : (slotF (put m (1024 + 4 * k) l) k)[1]? = some 2 := by
            unfold says at hs
            split at hs
            · cases hs
            · split at hs
              · rename_i e; rw [e]; rfl
              · cases hs
          rw [h2] at h4
          rcases e4 with e4 | e4 | e4
          · rw [if_neg (by omega)] at h4; simp at h4
          · have : 1 < l.length := (List.getElem?_eq_some_iff.1 e4).1
            rw [if_pos this, e4] at h4; simp at h4
          · have : 1 < l.length := (List.getElem?_eq_some_iff.1 e4).1
            rw [if_pos this, e4] at h4
            exact mix_odd p.mask (by simpa using h4.symm)
end Go.Proofs.YthokdbcpkmcieaaGreat
namespace Go.Proofs.YthokdbcpkmcieaaGreat
/-- An ear that is in no frame. -/
def QuietE (s : EarS) : Prop := s = ⟨0, []⟩ ∨ s = ⟨1, []⟩
theorem quiet_0 : QuietE ear0 := .inl rfl
theorem quiet_1 : QuietE ⟨1, []⟩ := .inr rfl
theorem hear_frame {s : EarS} (hs : QuietE s) (m : List UInt8) (h1 : m ≠ []) (h2 : m.length ≤ 80) : hearF s (frameF m) = (⟨1, []⟩, [m]) := by
  have e : frameF m = [126] ++ (escL (m ++ chkB m) ++ [126]) := rfl
  have e2 : hearF s [126] = (⟨1, []⟩, []) := by
    rcases hs with rfl | rfl
    · simp [hearF, hearB, wholeF]
    · exact hear_126
  rw [e, hearF_append, e2]
  simp only
  rw [hear_tail m h1 h2]
  simp
theorem hear_single (m : List UInt8) (h1 : m ≠ []) (h2 : m.length ≤ 80) : hearF ear0 ([126] ++ frameF m ++ [126]) = (⟨1, []⟩, [m]) := by
  have e2 : hearF ear0 [126] = (⟨1, []⟩, []) := by simp [hearF, hearB, wholeF, ear0]
  rw [hearF_append, hearF_append, e2]
  simp only
  rw [hear_frame quiet_1 m h1 h2]
  simp only
  rw [hear_126]
  rfl
theorem bhear_one {b : Brd} (ho : b.on = true) (hq : QuietE b.ear) (q : List UInt8) (h1 : q ≠ []) (h2 : q.length ≤ 80) :
    bhearF b (frameF q) = if (answerF b.pow b.mem b.talk q).2.2.2.2 = true then (⟨true, (answerF b.pow b.mem b.talk q).1, (answerF b.pow b.mem b.talk q).2.1, ⟨1, []⟩, (answerF b.pow b.mem b.talk q).2.2.1⟩, (answerF b.pow b.mem b.talk q).2.2.2.1) else (⟨false, pow0, (answerF b.pow b.mem b.talk q).2.1, ear0, talk0⟩, []) := by
  unfold bhearF
  rw [if_neg (by rw [ho]; simp), hear_frame hq q h1 h2]
  simp only [answersF]
  by_cases h : (answerF b.pow b.mem b.talk q).2.2.2.2 = true
  · simp [h]
  · simp [h]
/-- A message of the lesser kinds. -/
theorem askOk_page (s0 s1 n g : UInt8) (D : List UInt8) (hD : D.length = 64) : askOk ([s0, s1, n, 2, g] ++ D) = true := by
  unfold askOk
  rw [if_neg (by simp), if_neg (by simp), if_pos (by simp)]
  simp [hD]
theorem page_len (s0 s1 n g : UInt8) (D : List UInt8) (hD : D.length = 64) : ([s0, s1, n, 2, g] ++ D).length = 69 := by simp [hD]
/-- A PAGE of the board's session, with the next number. -/
theorem ans_page (p : Pow) (m : List UInt8) (t : Talk) (s0 s1 n g : UInt8) (D : List UInt8) (hD : D.length = 64) (ho : t.opn = true) (hs : s0.toNat * 256 + s1.toNat = t.ses) (hn : n = t.num + 1) (hne : n ≠ t.num) (hg : g < 16) (hr : 2 ≤ roomF m) :
    answerF p m t ([s0, s1, n, 2, g] ++ D) = if (burnPageF p m g D).2.2 = true then ((burnPageF p m g D).1, (burnPageF p m g D).2.1, ⟨true, t.ses, n, frameF [s0, s1, n, 1]⟩, frameF [s0, s1, n, 1], true) else ((burnPageF p m g D).1, (burnPageF p m g D).2.1, ⟨true, t.ses, n, t.ans⟩, [], false) := by
  unfold answerF
  rw [if_neg (by rw [askOk_page _ _ _ _ _ hD]; simp)]
  have e3 : ([s0, s1, n, 2, g] ++ D).getD 3 0 = 2 := rfl
  have e2 : ([s0, s1, n, 2, g] ++ D).getD 2 0 = n := rfl
  have es : sesOf ([s0, s1, n, 2, g] ++ D) = t.ses := by rw [← hs]; rfl
  rw [e3, e2, es]
  rw [if_neg (by rw [ho]; simp), if_neg (by simp [hne]), if_neg (by simp [← hn])]
  have ed : ([s0, s1, n, 2, g] ++ D).drop 4 = g :: D := rfl
  have et : ([s0, s1, n, 2, g] ++ D).take 3 = [s0, s1, n] := rfl
  have hd : doF p m 2 (g :: D) = (burnPageF p m g D, [1]) := by
    unfold doF
    rw [if_pos rfl]
    simp only [List.getD_cons_zero, List.drop_succ_cons, List.drop_zero]
    rw [if_pos ⟨hg, hr⟩]
  rw [ed, hd, et]
  simp only [if_neg (show ¬ (2 : UInt8) = 1 by decide), ho]
  rfl
/-- The number of the last message. -/
theorem ans_again (p : Pow) (m : List UInt8) (t : Talk) (q : List UInt8) (hk : askOk q = true) (h3 : q.getD 3 0 ≠ 1) (ho : t.opn = true) (hs : sesOf q = t.ses) (hn : q.getD 2 0 = t.num) : answerF p m t q = (p, m, t, t.ans, true) := by
  unfold answerF
  rw [if_neg (by rw [hk]; simp), if_neg (by rw [ho, hs]; simp), if_pos ⟨h3, hn⟩]
theorem ans_late (p : Pow) (m : List UInt8) (t : Talk) (q : List UInt8) (hk : askOk q = true) (h3 : q.getD 3 0 ≠ 1) (hn : q.getD 2 0 ≠ t.num) (hn1 : q.getD 2 0 ≠ t.num + 1) : answerF p m t q = (p, m, t, [], true) := by
  unfold answerF
  rw [if_neg (by rw [hk]; simp)]
  split
  · rfl
  · rw [if_neg (fun h => hn h.2), if_pos ⟨h3, hn1⟩]
theorem ans_else (p : Pow) (m : List UInt8) (t : Talk) (q : List UInt8) (hk : askOk q = true) (h3 : q.getD 3 0 ≠ 1) (hs : sesOf q ≠ t.ses) : answerF p m t q = (p, m, t, [], true) := by
  unfold answerF
  rw [if_neg (by rw [hk]; simp), if_pos ⟨h3, .inr hs⟩]
theorem ans_open (p : Pow) (m : List UInt8) (t : Talk) (s0 s1 n : UInt8) : answerF p m t [s0, s1, n, 1] = (p, m, ⟨true, s0.toNat * 256 + s1.toNat, n, frameF [s0, s1, n, 1]⟩, frameF [s0, s1, n, 1], true) := rfl
/-- A READ of a page that is burnt. -/
theorem ans_read (p : Pow) (m : List UInt8) (t : Talk) (s0 s1 n g : UInt8) (ho : t.opn = true) (hs : s0.toNat * 256 + s1.toNat = t.ses) (hn : n = t.num + 1) (hne : n ≠ t.num) (hg : g < 16) (hb : burntF m g = true) :
    answerF p m t [s0, s1, n, 3, g] = (p, m, ⟨true, t.ses, n, frameF ([s0, s1, n, 1] ++ pageF m g.toNat)⟩, frameF ([s0, s1, n, 1] ++ pageF m g.toNat), true) := by
  unfold answerF
  rw [if_neg (by simp [askOk])]
  have e3 : ([s0, s1, n, 3, g] : List UInt8).getD 3 0 = 3 := rfl
  have e2 : ([s0, s1, n, 3, g] : List UInt8).getD 2 0 = n := rfl
  have es : sesOf [s0, s1, n, 3, g] = t.ses := by rw [← hs]; rfl
  rw [e3, e2, es]
  rw [if_neg (by rw [ho]; simp), if_neg (by simp [hne]), if_neg (by simp [← hn])]
  have ed : ([s0, s1, n, 3, g] : List UInt8).drop 4 = [g] := rfl
  have et : ([s0, s1, n, 3, g] : List UInt8).take 3 = [s0, s1, n] := rfl
  have hd : doF p m 3 [g] = ((p, m, true), 1 :: pageF m g.toNat) := by
    unfold doF
    rw [if_neg (by decide), if_pos rfl]
    simp only [List.getD_cons_zero]
    rw [if_pos ⟨hg, hb⟩]
  rw [ed, hd, et]
  simp only [if_neg (show ¬ (3 : UInt8) = 1 by decide), ho]
  rfl
theorem used_0 : Used mem0 0 := by
  have hs : ∀ i : Fin 60, slotF mem0 i.val = blankL := by decide +kernel
  exact ⟨List.length_replicate, by omega, fun i hi => absurd hi (by omega), fun i _ h2 => hs ⟨i, h2⟩⟩
theorem burnt_0 (n : UInt8) : burntF mem0 n = false := by
  have := used_0
  rw [burntF_tail (k := 0) (by omega) (fun i h1 h2 => says_blank (used_0.free i h1 h2))]
  rfl
/-- The bits of the pages, by what is burnt. -/
theorem bitsS_eq {m : List UInt8} {f : Nat → Bool} : ∀ k, k ≤ 16 → (∀ j, j < k → burntF m (UInt8.ofNat j) = f j) → bitsS m k = (List.range k).foldl (fun a j => a + (if f j = true then 2 ^ j else 0)) 0
  | 0, _, _ => rfl
  | k + 1, hk, h => by
    rw [bitsS, List.range_succ, List.foldl_append, ← bitsS_eq k (by omega) (fun j hj => h j (by omega)), h k (by omega)]
    rfl
/-! ## Once -/
def once1 : Brd := ⟨true, pow0, mem0, ⟨1, []⟩, ⟨true, 5, 0, frameF [0, 5, 0, 1]⟩⟩
theorem open_0 : bhearF brd0 (frameF [0, 5, 0, 1]) = (once1, frameF [0, 5, 0, 1]) := by
  rw [bhear_one rfl quiet_0 _ (by simp) (by simp)]
  rw [ans_open]
  rfl
def once2 (D : List UInt8) : Brd := ⟨true, pow0, burntM mem0 0 4 D, ⟨1, []⟩, ⟨true, 5, 1, frameF [0, 5, 1, 1]⟩⟩
theorem lasts_0 (n : Nat) : lasts pow0 n := .inl rfl
theorem less_0 (n : Nat) : lessP pow0 n = pow0 := rfl
theorem once_2 (D : List UInt8) (hD : D.length = 64) : bhearF once1 (frameF ([0, 5, 1, 2, 4] ++ D)) = (once2 D, frameF [0, 5, 1, 1]) := by
  rw [bhear_one rfl quiet_1 _ (by simp) (by rw [page_len _ _ _ _ _ hD]; omega)]
  rw [ans_page _ _ _ _ _ _ _ _ hD rfl (by decide) (by decide) (by decide) (by decide) (by show 2 ≤ roomF mem0; rw [roomF_used used_0]; omega)]
  have : burnPageF once1.pow once1.mem 4 D = (pow0, burntM mem0 0 4 D, true) := burnPage_lasts (p := pow0) used_0 (by omega) (by decide) hD (lasts_0 _)
  rw [this]
  rfl
def once3 (D : List UInt8) : Brd := ⟨true, ⟨true, 0, 255⟩, burntM mem0 0 4 D, ⟨1, []⟩, ⟨true, 5, 1, frameF [0, 5, 1, 1]⟩⟩
theorem once_cut (D : List UInt8) : cutF (once2 D) 0 255 = once3 D := rfl
theorem once_again (D : List UInt8) (hD : D.length = 64) : bhearF (once3 D) (frameF ([0, 5, 1, 2, 4] ++ D)) = (once3 D, frameF [0, 5, 1, 1]) := by
  rw [bhear_one rfl quiet_1 _ (by simp) (by rw [page_len _ _ _ _ _ hD]; omega)]
  rw [ans_again (once3 D).pow (once3 D).mem (once3 D).talk ([0, 5, 1, 2, 4] ++ D) (askOk_page _ _ _ _ _ hD) (by show (2 : UInt8) ≠ 1; decide) (by show true = true; rfl) (by show (0 : UInt8).toNat * 256 + (5 : UInt8).toNat = 5; decide) (by show (1 : UInt8) = 1; rfl)]
  rfl
theorem once_late (D E : List UInt8) (hE : E.length = 64) (n : UInt8) (h1 : n ≠ 1) (h2 : n ≠ 2) : bhearF (once3 D) (frameF ([0, 5, n, 2, 3] ++ E)) = (once3 D, []) := by
  rw [bhear_one rfl quiet_1 _ (by simp) (by rw [page_len _ _ _ _ _ hE]; omega)]
  rw [ans_late _ _ _ _ (askOk_page _ _ _ _ _ hE) (by show (2 : UInt8) ≠ 1; decide) (by show n ≠ 1; exact h1) (by show n ≠ 1 + 1; exact h2)]
  rfl
theorem once_else (D : List UInt8) : bhearF (once3 D) (frameF [0, 6, 2, 4]) = (once3 D, []) := by
  rw [bhear_one rfl quiet_1 _ (by simp) (by simp)]
  rw [ans_else (once3 D).pow (once3 D).mem (once3 D).talk [0, 6, 2, 4] rfl (by decide) (by show (6 : Nat) ≠ 5; decide)]
  rfl
theorem once_bits (D : List UInt8) (hD : D.length = 64) : bitsF (burntM mem0 0 4 D) = 16 := by
  obtain ⟨_, _, _, h4, h5⟩ := burntM_is (n := 4) used_0 (by omega) (by decide) hD
  unfold bitsF
  rw [bitsS_eq (f := fun j => j == 4) 16 (by omega) (fun j hj => ?_)]
  · rfl
  · by_cases e : j = 4
    · subst e; exact h4
    · have hne : UInt8.ofNat j ≠ 4 := fun h => e (by have := congrArg UInt8.toNat h; rw [UInt8.toNat_ofNat'] at this; simp at this; omega)
      rw [h5 _ (ofNat_lt hj) hne, burnt_0]
      simp [e]
end Go.Proofs.YthokdbcpkmcieaaGreat
namespace Go.Proofs.YthokdbcpkmcieaaGreat
def tornM2 (A : List UInt8) : List UInt8 := burntM mem0 0 2 A
def tornM3 (A B : List UInt8) : List UInt8 := burntM (tornM2 A) 2 7 B
def torn2 (A : List UInt8) : Brd := ⟨true, pow0, tornM2 A, ⟨1, []⟩, ⟨true, 5, 1, frameF [0, 5, 1, 1]⟩⟩
def torn3 (A B : List UInt8) : Brd := ⟨true, pow0, tornM3 A B, ⟨1, []⟩, ⟨true, 5, 2, frameF [0, 5, 2, 1]⟩⟩
def torn4 (A B : List UInt8) (k : Nat) (mask : UInt8) : Brd := ⟨true, ⟨true, k, mask⟩, tornM3 A B, ⟨1, []⟩, ⟨true, 5, 2, frameF [0, 5, 2, 1]⟩⟩
theorem torn_cut (A B : List UInt8) (k : Nat) (mask : UInt8) : cutF (torn3 A B) (k : Int) mask = torn4 A B k mask := rfl
/-- A PAGE that is burnt whole, without a cut. -/
theorem page_whole {b : Brd} {t : Talk} {m : List UInt8} {k : Nat} {n g : UInt8} {D : List UInt8} (hb : b = ⟨true, pow0, m, ⟨1, []⟩, t⟩) (hu : Used m k) (hk : k + 2 ≤ 60) (hD : D.length = 64) (ho : t.opn = true) (hs : t.ses = 5) (hn : n = t.num + 1) (hne : n ≠ t.num) (hg : g < 16) :
    bhearF b (frameF ([0, 5, n, 2, g] ++ D)) = (⟨true, pow0, burntM m k g D, ⟨1, []⟩, ⟨true, 5, n, frameF [0, 5, n, 1]⟩⟩, frameF [0, 5, n, 1]) := by
  subst hb
  rw [bhear_one rfl quiet_1 _ (by simp) (by rw [page_len _ _ _ _ _ hD]; omega)]
  rw [ans_page pow0 m t 0 5 n g D hD ho (by rw [hs]; decide) hn hne hg (by rw [roomF_used hu]; omega), burnPage_lasts hu hk hg hD (lasts_0 _), hs]
  rfl
theorem torn_2 (A : List UInt8) (hA : A.length = 64) : bhearF once1 (frameF ([0, 5, 1, 2, 2] ++ A)) = (torn2 A, frameF [0, 5, 1, 1]) :=
  page_whole (k := 0) rfl used_0 (by omega) hA rfl rfl (by decide) (by decide) (by decide)
theorem torn2_is (A : List UInt8) (hA : A.length = 64) : BurntIs mem0 A 0 2 := burntM_is (n := 2) (bs := A) used_0 (by omega) (by decide) hA
theorem torn_3 (A B : List UInt8) (hA : A.length = 64) (hB : B.length = 64) : bhearF (torn2 A) (frameF ([0, 5, 2, 2, 7] ++ B)) = (torn3 A B, frameF [0, 5, 2, 1]) :=
  page_whole (k := 2) rfl (torn2_is A hA).1 (by omega) hB rfl rfl (by decide) (by decide) (by decide)
theorem torn3_is (A B : List UInt8) (hA : A.length = 64) (hB : B.length = 64) : BurntIs (tornM2 A) B 2 7 := burntM_is (n := 7) (bs := B) (torn2_is A hA).1 (by omega) (by decide) hB
/-- What the burning anew leaves. -/
structure TornM (A B M : List UInt8) (on : Bool) : Prop where
  used : ∃ k, Used M k ∧ k ≤ 6
  pages : ∀ j, j < 16 → j ≠ 2 → pageF M j = pageF (tornM3 A B) j
  seven : burntF M 7 = true
  none : ∀ j : UInt8, j < 16 → j ≠ 2 → j ≠ 7 → burntF M j = false
  own : burntF M 2 = true → pageF M 2 = A ∨ pageF M 2 = B
  on : on = true → pageF M 2 = B ∧ burntF M 2 = true
theorem torn_hear (A B : List UInt8) (k : Nat) (mask : UInt8) (hA : A.length = 64) (hB : B.length = 64) : ∃ b' out, bhearF (torn4 A B k mask) (frameF ([0, 5, 3, 2, 2] ++ B)) = (b', out) ∧ TornM A B b'.mem b'.on := by
  obtain ⟨i1, i2, i3, i4, i5⟩ := torn2_is A hA
  obtain ⟨j1, j2, j3, j4, j5⟩ := torn3_is A B hA hB
  have e2 : burntF (tornM3 A B) 2 = true := (j5 2 (by decide) (by decide)).trans i4
  have p2 : pageF (tornM3 A B) 2 = A := (j3 2 (by decide) (by decide)).trans i2
  have en : ∀ j : UInt8, j < 16 → j ≠ 2 → j ≠ 7 → burntF (tornM3 A B) j = false := fun j h1 h2 h3 => ((j5 j h1 h3).trans (i5 j h1 h2)).trans (burnt_0 j)
  rw [bhear_one rfl quiet_1 _ (by simp) (by rw [page_len _ _ _ _ _ hB]; omega)]
  rw [ans_page (torn4 A B k mask).pow (torn4 A B k mask).mem (torn4 A B k mask).talk 0 5 3 2 B hB rfl (by show (0 : UInt8).toNat * 256 + (5 : UInt8).toNat = 5; decide) (by show (3 : UInt8) = 2 + 1; decide) (by show (3 : UInt8) ≠ 2; decide) (by decide) (by show 2 ≤ roomF (tornM3 A B); rw [show roomF (tornM3 A B) = 60 - (2 + 2) from roomF_used j1]; omega)]
  by_cases hp : lasts (torn4 A B k mask).pow 136
  · have hb : burnPageF (torn4 A B k mask).pow (torn4 A B k mask).mem 2 B = (lessP (torn4 A B k mask).pow 136, burntM (tornM3 A B) 4 2 B, true) := burnPage_lasts j1 (by omega) (by decide) hB hp
    rw [hb]
    obtain ⟨q1, q2, q3, q4, q5⟩ := burntM_is (n := 2) (bs := B) (k := 4) j1 (by omega) (by decide) hB
    refine ⟨_, _, rfl, ?_⟩
    exact ⟨⟨6, q1, by omega⟩, fun j h1 h2 => q3 j h1 h2, (q5 7 (by decide) (by decide)).trans j4, fun j h1 h2 h3 => (q5 j h1 h2).trans (en j h1 h2 h3), fun _ => .inr q2, fun _ => ⟨q2, q4⟩⟩
  · obtain ⟨p', m', hb, hl⟩ := burnPage_fails (m := tornM3 A B) (k := 4) (n := 2) (bs := B) j1 (by omega) (by decide) hB hp
    have hb' : burnPageF (torn4 A B k mask).pow (torn4 A B k mask).mem 2 B = (p', m', false) := hb
    rw [hb']
    refine ⟨_, _, rfl, ?_⟩
    obtain ⟨k', u1, u2, u3⟩ := hl.used
    refine ⟨⟨k', u1, by omega⟩, fun j h1 h2 => hl.pages j h1 h2, (hl.other 7 (by decide) (by decide)).trans j4, fun j h1 h2 h3 => (hl.other j h1 h2).trans (en j h1 h2 h3), fun h => ?_, fun h => by cases h⟩
    rcases hl.own with ⟨h1, _⟩ | h1 | ⟨h1, _⟩
    · left; rw [← p2]; exact h1
    · have h' : burntF m' 2 = true := h
      rw [h1] at h'; cases h'
    · right; exact h1
theorem TornM.bits {A B M : List UInt8} {on : Bool} (h : TornM A B M on) : bitsF M = 128 + (if burntF M 2 = true then 4 else 0) := by
  unfold bitsF
  rw [bitsS_eq (f := fun j => if j = 2 then burntF M 2 else j == 7) 16 (by omega) (fun j hj => ?_)]
  · cases burntF M 2 <;> rfl
  · by_cases e : j = 2
    · subst e; rfl
    · rw [if_neg e]
      by_cases e7 : j = 7
      · subst e7; exact h.seven
      · have hx : ∀ c : Nat, c < 256 → j ≠ c → UInt8.ofNat j ≠ UInt8.ofNat c := fun c hc hne he => hne (by have := congrArg UInt8.toNat he; rw [UInt8.toNat_ofNat', UInt8.toNat_ofNat'] at this; omega)
        rw [h.none _ (ofNat_lt hj) (hx 2 (by omega) e) (hx 7 (by omega) e7)]
        simp [e7]
/-- The page is burnt again. -/
def torn6 (M : List UInt8) : Brd := ⟨true, pow0, M, ⟨1, []⟩, ⟨true, 5, 9, frameF [0, 5, 9, 1]⟩⟩
theorem torn_open (b : Brd) : bhearF (bootF b) (frameF [0, 5, 9, 1]) = (torn6 b.mem, frameF [0, 5, 9, 1]) := by
  rw [bhear_one rfl quiet_0 _ (by simp) (by simp), ans_open]
  rfl
theorem torn_again {A B M : List UInt8} {on : Bool} (h : TornM A B M on) (hA : A.length = 64) : ∃ b7, bhearF (torn6 M) (frameF ([0, 5, 10, 2, 2] ++ A)) = (b7, frameF [0, 5, 10, 1]) ∧ ∃ b8, bhearF b7 (frameF [0, 5, 11, 3, 2]) = (b8, frameF ([0, 5, 11, 1] ++ A)) := by
  obtain ⟨k, hu, hk⟩ := h.used
  refine ⟨_, page_whole (k := k) rfl hu (by omega) hA rfl rfl (by decide) (by decide) (by decide), ?_⟩
  obtain ⟨q1, q2, q3, q4, q5⟩ := burntM_is (n := 2) (bs := A) hu (by omega) (by decide) hA
  rw [bhear_one rfl quiet_1 _ (by simp) (by simp)]
  rw [ans_read pow0 (burntM M k 2 A) ⟨true, 5, 10, frameF [0, 5, 10, 1]⟩ 0 5 11 2 rfl (by decide) (by decide) (by decide) (by decide) q4]
  simp only [if_true]
  rw [show (2 : UInt8).toNat = 2 from rfl] at q2
  rw [show (2 : UInt8).toNat = 2 from rfl, q2]
  exact ⟨_, rfl⟩
end Go.Proofs.YthokdbcpkmcieaaGreat
namespace Go.Proofs.YthokdbcpkmcieaaGreat
structure TOk (m : List UInt8) (t : Talk) : Prop where
  used : ∃ k, Used m k
  ses : t.ses < 65536
  al : t.ans.length ≤ 200
theorem frameF_le (l : List UInt8) : (frameF l).length ≤ 2 * l.length + 6 := by
  have := escL_len (l ++ chkB l)
  have hc : (l ++ chkB l).length = l.length + 2 := by simp [chkB]
  rw [hc] at this
  simp [frameF]
  omega
theorem burnPage_used {p : Pow} {m bs : List UInt8} {k : Nat} {n : UInt8} (hu : Used m k) (hk : k + 2 ≤ 60) (hn : n < 16) (hb : bs.length = 64) : ∃ k', Used (burnPageF p m n bs).2.1 k' := by
  by_cases hp : lasts p 136
  · rw [burnPage_lasts hu hk hn hb hp]
    exact ⟨_, (burntM_is hu hk hn hb).1⟩
  · obtain ⟨p', m', e, hl⟩ := burnPage_fails (p := p) hu hk hn hb hp
    rw [e]
    obtain ⟨k', h1, _⟩ := hl.used
    exact ⟨k', h1⟩
theorem doF_ok {p : Pow} {m rest : List UInt8} {a : UInt8} (hu : ∃ k, Used m k) (h2 : a = 2 → rest.length = 65) : (∃ k, Used (doF p m a rest).1.2.1 k) ∧ (doF p m a rest).2.length ≤ 65 := by
  obtain ⟨k, hu⟩ := hu
  unfold doF
  split
  · rename_i ha
    split
    · rename_i h
      have hr := roomF_used hu
      have hle := hu.le
      exact ⟨burnPage_used hu (by omega) h.1 (by rw [List.length_drop, h2 ha]), by simp⟩
    · exact ⟨⟨k, hu⟩, by simp⟩
  · split
    · refine ⟨⟨k, hu⟩, ?_⟩
      simp only
      split
      · rename_i h
        have hl := hu.len
        have hlt := u16 h.1
        have : (pageF m (rest.getD 0 0).toNat).length = 64 := win_len m (64 * (rest.getD 0 0).toNat) 64 (by omega)
        simp only [List.length_cons]
        omega
      · simp
    · split
      · exact ⟨⟨k, hu⟩, by simp⟩
      · exact ⟨⟨k, hu⟩, by simp⟩
theorem sesOf_lt (q : List UInt8) : sesOf q < 65536 := by
  unfold sesOf
  have := (q.getD 0 0).toNat_lt
  have := (q.getD 1 0).toNat_lt
  omega
theorem askOk_two {q : List UInt8} (hk : askOk q = true) (h : q.getD 3 0 = 2) : q.length = 69 := by
  unfold askOk at hk
  rw [h] at hk
  split at hk
  · cases hk
  · rw [if_neg (by decide), if_pos rfl] at hk
    simpa using hk
theorem answerF_ok {p : Pow} {m : List UInt8} {t : Talk} {q : List UInt8} (h : TOk m t) : TOk (answerF p m t q).2.1 (answerF p m t q).2.2.1 ∧ (answerF p m t q).2.2.2.1.length ≤ 200 := by
  unfold answerF
  split
  · exact ⟨h, by simp⟩
  · rename_i hk
    have hk' : askOk q = true := by simpa using hk
    split
    · exact ⟨h, by simp⟩
    · split
      · exact ⟨h, h.al⟩
      · split
        · exact ⟨h, by simp⟩
        · have hd := doF_ok (p := p) (a := q.getD 3 0) (rest := q.drop 4) h.used (fun e => by rw [List.length_drop, askOk_two hk' e])
          have hfl := frameF_le (q.take 3 ++ (doF p m (q.getD 3 0) (q.drop 4)).2)
          have ht3 : (q.take 3).length ≤ 3 := by rw [List.length_take]; exact Nat.min_le_left _ _
          rw [List.length_append] at hfl
          simp only
          split
          · refine ⟨⟨hd.1, ?_, by simp only; omega⟩, by simp only; omega⟩
            simp only
            split
            · exact sesOf_lt q
            · exact h.ses
          · refine ⟨⟨hd.1, ?_, h.al⟩, by simp⟩
            simp only
            split
            · exact sesOf_lt q
            · exact h.ses
/-- One answer more. -/
def stepA (p : Pow) (m : List UInt8) (t : Talk) (q out : List UInt8) : Pow × List UInt8 × Talk × List UInt8 × Bool :=
  if (answerF p m t q).2.2.2.2 = true then ((answerF p m t q).1, (answerF p m t q).2.1, (answerF p m t q).2.2.1, out ++ (answerF p m t q).2.2.2.1, true)
  else ((answerF p m t q).1, (answerF p m t q).2.1, (answerF p m t q).2.2.1, out, false)
theorem answersF_append : ∀ (a b : List (List UInt8)) (p : Pow) (m : List UInt8) (t : Talk) (out : List UInt8) (p' : Pow) (m' : List UInt8) (t' : Talk) (o' : List UInt8), answersF p m t a out = (p', m', t', o', true) → answersF p m t (a ++ b) out = answersF p' m' t' b o'
  | [], b, p, m, t, out, p', m', t', o', h => by
    simp only [answersF, Prod.mk.injEq] at h
    obtain ⟨rfl, rfl, rfl, rfl, _⟩ := h
    rfl
  | q :: a, b, p, m, t, out, p', m', t', o', h => by
    rw [answersF] at h
    rw [List.cons_append, answersF]
    split at h
    · rename_i hok
      rw [if_pos hok]
      exact answersF_append a b _ _ _ _ p' m' t' o' h
    · simp at h
theorem answers_more {p p' : Pow} {m m' : List UInt8} {t t' : Talk} {o' : List UInt8} {qs : List (List UInt8)} {j : Nat} (hj : j < qs.length) (h : answersF p m t (qs.take j) [] = (p', m', t', o', true)) :
    answersF p m t (qs.take (j + 1)) [] = stepA p' m' t' (qs.getD j []) o' ∧ ((answerF p' m' t' (qs.getD j [])).2.2.2.2 = false → answersF p m t qs [] = stepA p' m' t' (qs.getD j []) o') := by
  have e : qs.take (j + 1) = qs.take j ++ [qs.getD j []] := by
    rw [List.take_add_one, List.getElem?_eq_getElem hj, List.getD_eq_getElem?_getD, List.getElem?_eq_getElem hj]
    rfl
  have e2 : qs = qs.take j ++ (qs.getD j [] :: qs.drop (j + 1)) := by
    have h1 : qs = qs.take (j + 1) ++ qs.drop (j + 1) := (List.take_append_drop _ _).symm
    rw [e, List.append_assoc] at h1
    exact h1
  constructor
  · rw [e, answersF_append _ _ _ _ _ _ _ _ _ _ h, answersF]
    unfold stepA
    split <;> rfl
  · intro hf
    have h3 : answersF p m t qs [] = answersF p' m' t' (qs.getD j [] :: qs.drop (j + 1)) o' := by
      have := answersF_append (qs.take j) (qs.getD j [] :: qs.drop (j + 1)) p m t [] p' m' t' o' h
      rw [← e2] at this
      exact this
    rw [h3, answersF]
    unfold stepA
    rw [if_neg (by rw [hf]; simp), if_neg (by rw [hf]; simp)]
end Go.Proofs.YthokdbcpkmcieaaGreat
