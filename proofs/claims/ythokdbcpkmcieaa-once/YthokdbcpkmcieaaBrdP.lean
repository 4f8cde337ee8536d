/- The board as plain functions. -/
import Derived.Test.YthokdbcpkmcieaaEarP
namespace Go.Proofs.Ythokdbcpkmcieaa
/-- The power: does a cut lie ahead, how many strokes are left, the mask. -/
structure Pow where
  cut : Bool
  left : Nat
  mask : UInt8
def pow0 : Pow := ⟨false, 0, 0⟩
/-- One stroke: the power and the byte behind it; false: the power has failed. -/
def strokeF (p : Pow) (c want : UInt8) : Pow × UInt8 × Bool :=
  if p.cut = false then (p, want, true)
  else if p.left = 0 then (p, c ^^^ ((c ^^^ want) &&& p.mask), false)
  else (⟨p.cut, p.left - 1, p.mask⟩, want, true)
/-- What a byte is to become: erased, or burnt with another one. -/
def wantF (c : UInt8) : Option UInt8 → UInt8
  | none => 255
  | some x => c &&& x
/-- Strokes, one after the other, from a place on. -/
def runS : Pow → List UInt8 → Nat → List (Option UInt8) → Pow × List UInt8 × Bool
  | p, m, _, [] => (p, m, true)
  | p, m, i, o :: os =>
    if (strokeF p (m.getD i 0) (wantF (m.getD i 0) o)).2.2 = true then runS (strokeF p (m.getD i 0) (wantF (m.getD i 0) o)).1 (m.set i (strokeF p (m.getD i 0) (wantF (m.getD i 0) o)).2.1) (i + 1) os
    else ((strokeF p (m.getD i 0) (wantF (m.getD i 0) o)).1, m.set i (strokeF p (m.getD i 0) (wantF (m.getD i 0) o)).2.1, false)
/-- Flash and journal lie in one list: 16 pages of 64, 60 records of 4. -/
def pageF (m : List UInt8) (n : Nat) : List UInt8 := (m.drop (64 * n)).take 64
def slotF (m : List UInt8) (k : Nat) : List UInt8 := (m.drop (1024 + 4 * k)).take 4
/-- What a record's check is of. -/
def ofRec (m : List UInt8) (n k : UInt8) : List UInt8 := [n, k] ++ (if k = 2 then pageF m n.toNat else [])
def recF (m : List UInt8) (n k : UInt8) : List UInt8 := [n, k] ++ chkB (ofRec m n k)
def blankL : List UInt8 := [255, 255, 255, 255]
/-- Is a page burnt, by the first k records? -/
def burntS (m : List UInt8) (n : UInt8) : Nat → Bool
  | 0 => false
  | k + 1 => if slotF m k = recF m n 1 then false else if slotF m k = recF m n 2 then true else burntS m n k
def burntF (m : List UInt8) (n : UInt8) : Bool := burntS m n 60
/-- A bit of each page that is burnt, of the first k. -/
def bitsS (m : List UInt8) : Nat → Nat
  | 0 => 0
  | k + 1 => bitsS m k + (if burntF m (UInt8.ofNat k) = true then 2 ^ k else 0)
def bitsF (m : List UInt8) : Nat := bitsS m 16
/-- How many of the first k records have room. -/
def roomS (m : List UInt8) : Nat → Nat
  | 0 => 0
  | k + 1 => roomS m k + (if slotF m k = blankL then 1 else 0)
def roomF (m : List UInt8) : Nat := roomS m 60
/-- The first record that has room, from k on, of f. -/
def firstS (m : List UInt8) : Nat → Nat → Nat
  | 0, k => k
  | f + 1, k => if slotF m k = blankL then k else firstS m f (k + 1)
def firstF (m : List UInt8) : Nat := firstS m 60 0
def writeF (p : Pow) (m r : List UInt8) : Pow × List UInt8 × Bool := runS p m (1024 + 4 * firstF m) (r.map some)
/-- One more step, where the power has not failed. -/
def thenS (r : Pow × List UInt8 × Bool) (f : Pow → List UInt8 → Pow × List UInt8 × Bool) : Pow × List UInt8 × Bool := if r.2.2 = true then f r.1 r.2.1 else r
def burnPageF (p : Pow) (m : List UInt8) (n : UInt8) (bs : List UInt8) : Pow × List UInt8 × Bool :=
  thenS (thenS (thenS (writeF p m (recF m n 1)) fun p m => runS p m (64 * n.toNat) (List.replicate 64 none)) fun p m => runS p m (64 * n.toNat) (bs.map some)) fun p m => writeF p m (recF m n 2)
/-- What is asked: the answer behind session and number, where the power lasts. -/
def doF (p : Pow) (m : List UInt8) (asked : UInt8) (rest : List UInt8) : (Pow × List UInt8 × Bool) × List UInt8 :=
  if asked = 2 then (if rest.getD 0 0 < 16 ∧ 2 ≤ roomF m then (burnPageF p m (rest.getD 0 0) (rest.drop 1), [1]) else ((p, m, true), [2]))
  else if asked = 3 then ((p, m, true), if rest.getD 0 0 < 16 ∧ burntF m (rest.getD 0 0) = true then 1 :: pageF m (rest.getD 0 0).toNat else [2])
  else if asked = 4 then ((p, m, true), [1, UInt8.ofNat (bitsF m / 256), UInt8.ofNat (bitsF m % 256)])
  else ((p, m, true), [1])
/-- What a board knows of those who speak to it. -/
structure Talk where
  opn : Bool
  ses : Nat
  num : UInt8
  ans : List UInt8
def talk0 : Talk := ⟨false, 0, 0, []⟩
structure Brd where
  on : Bool
  pow : Pow
  mem : List UInt8
  ear : EarS
  talk : Talk
def askOk (m : List UInt8) : Bool :=
  if m.length < 4 then false
  else if m.getD 3 0 = 1 ∨ m.getD 3 0 = 4 then decide (m.length = 4)
  else if m.getD 3 0 = 2 then decide (m.length = 69)
  else if m.getD 3 0 = 3 then decide (m.length = 5)
  else false
def sesOf (m : List UInt8) : Nat := (m.getD 0 0).toNat * 256 + (m.getD 1 0).toNat
/-- What an answer changes: power, memory, talk; the answer's frame; false: the power has failed. -/
def answerF (p : Pow) (m : List UInt8) (t : Talk) (q : List UInt8) : Pow × List UInt8 × Talk × List UInt8 × Bool :=
  if askOk q = false then (p, m, t, [], true)
  else
    if q.getD 3 0 ≠ 1 ∧ (t.opn = false ∨ sesOf q ≠ t.ses) then (p, m, t, [], true)
    else if q.getD 3 0 ≠ 1 ∧ q.getD 2 0 = t.num then (p, m, t, t.ans, true)
    else if q.getD 3 0 ≠ 1 ∧ q.getD 2 0 ≠ t.num + 1 then (p, m, t, [], true)
    else
      let d := doF p m (q.getD 3 0) (q.drop 4)
      let o := if q.getD 3 0 = 1 then true else t.opn
      let s := if q.getD 3 0 = 1 then sesOf q else t.ses
      if d.1.2.2 = true then (d.1.1, d.1.2.1, ⟨o, s, q.getD 2 0, frameF (q.take 3 ++ d.2)⟩, frameF (q.take 3 ++ d.2), true)
      else (d.1.1, d.1.2.1, ⟨o, s, q.getD 2 0, t.ans⟩, [], false)
/-- Answers to messages, one after the other, up to a failing power. -/
def answersF : Pow → List UInt8 → Talk → List (List UInt8) → List UInt8 → Pow × List UInt8 × Talk × List UInt8 × Bool
  | p, m, t, [], out => (p, m, t, out, true)
  | p, m, t, q :: qs, out =>
    if (answerF p m t q).2.2.2.2 = true then answersF (answerF p m t q).1 (answerF p m t q).2.1 (answerF p m t q).2.2.1 qs (out ++ (answerF p m t q).2.2.2.1)
    else ((answerF p m t q).1, (answerF p m t q).2.1, (answerF p m t q).2.2.1, out, false)
def ear0 : EarS := ⟨0, []⟩
/-- Hear: the board behind it, and its answers. -/
def bhearF (b : Brd) (l : List UInt8) : Brd × List UInt8 :=
  if b.on = false then (b, [])
  else
    let r := answersF b.pow b.mem b.talk (hearF b.ear l).2 []
    if r.2.2.2.2 = true then (⟨true, r.1, r.2.1, (hearF b.ear l).1, r.2.2.1⟩, r.2.2.2.1)
    else (⟨false, pow0, r.2.1, ear0, talk0⟩, r.2.2.2.1)
def cutF (b : Brd) (n : Int) (mask : UInt8) : Brd := if b.on = true then ⟨true, ⟨true, n.toNat, mask⟩, b.mem, b.ear, b.talk⟩ else b
def bootF (b : Brd) : Brd := ⟨true, pow0, b.mem, ear0, talk0⟩
def mem0 : List UInt8 := List.replicate 1264 255
def brd0 : Brd := ⟨true, pow0, mem0, ear0, talk0⟩
theorem runS_len : ∀ (os : List (Option UInt8)) (p : Pow) (m : List UInt8) (i : Nat), (runS p m i os).2.1.length = m.length
  | [], p, m, i => rfl
  | o :: os, p, m, i => by
    unfold runS
    split
    · rw [runS_len os]; simp
    · simp
theorem thenS_len {n : Nat} {r : Pow × List UInt8 × Bool} {f : Pow → List UInt8 → Pow × List UInt8 × Bool} (h : r.2.1.length = n) (hf : ∀ p m, m.length = n → (f p m).2.1.length = n) : (thenS r f).2.1.length = n := by
  unfold thenS
  split
  · exact hf _ _ h
  · exact h
theorem writeF_len (p : Pow) (m r : List UInt8) : (writeF p m r).2.1.length = m.length := runS_len _ _ _ _
theorem burnPageF_len (p : Pow) (m : List UInt8) (n : UInt8) (bs : List UInt8) : (burnPageF p m n bs).2.1.length = m.length := by
  unfold burnPageF
  refine thenS_len (thenS_len (thenS_len (writeF_len _ _ _) ?_) ?_) ?_
  · intro p m' h; rw [runS_len]; exact h
  · intro p m' h; rw [runS_len]; exact h
  · intro p m' h; rw [writeF_len]; exact h
theorem doF_len (p : Pow) (m : List UInt8) (a : UInt8) (rest : List UInt8) : (doF p m a rest).1.2.1.length = m.length := by
  unfold doF
  split
  · split
    · exact burnPageF_len _ _ _ _
    · rfl
  · split
    · rfl
    · split <;> rfl
theorem bitsS_lt (m : List UInt8) : ∀ k, bitsS m k < 2 ^ k
  | 0 => by simp [bitsS]
  | k + 1 => by
    have h := bitsS_lt m k
    unfold bitsS
    have : 2 ^ (k + 1) = 2 ^ k + 2 ^ k := by rw [Nat.pow_succ]; omega
    split <;> omega
theorem roomS_le (m : List UInt8) : ∀ k, roomS m k ≤ k
  | 0 => Nat.le_refl _
  | k + 1 => by
    have h := roomS_le m k
    unfold roomS
    split <;> omega
end Go.Proofs.Ythokdbcpkmcieaa
