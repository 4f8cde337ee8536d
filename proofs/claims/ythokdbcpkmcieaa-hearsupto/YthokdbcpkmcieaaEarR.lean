/- The document's ear as plain functions, and that it answers as the program's does. -/
import Derived.Test.YthokdbcpkmcieaaEarP
namespace Go.Proofs.Ythokdbcpkmcieaa
/-- Taking the 125s away: 1 as it is, 2 behind a 125, 0 spoilt. -/
def uStep (u : Nat × List UInt8) (b : UInt8) : Nat × List UInt8 :=
  if u.1 = 1 then (if b = 125 then (2, u.2) else (1, u.2 ++ [b]))
  else if u.1 = 2 then (if b = 94 ∨ b = 93 then (1, u.2 ++ [b ^^^ 32]) else (0, u.2))
  else u
def unF (l : List UInt8) : Nat × List UInt8 := l.foldl uStep (1, [])
theorem unF_snoc (l : List UInt8) (b : UInt8) : unF (l ++ [b]) = uStep (unF l) b := by unfold unF; rw [List.foldl_append]; rfl
/-- Is what was taken out a message? -/
def okM (o : List UInt8) : Bool := decide (3 ≤ o.length) && decide (o.length ≤ 82) && decide (o.drop (o.length - 2) = chkB (o.take (o.length - 2)))
def msgF (l : List UInt8) : Option (List UInt8) := if (unF l).1 = 1 ∧ okM (unF l).2 = true then some ((unF l).2.take ((unF l).2.length - 2)) else none
structure REar where
  on : Bool
  s : List UInt8
def rHearB (p : REar × List (List UInt8)) (b : UInt8) : REar × List (List UInt8) :=
  if b = 126 then (⟨true, []⟩, match msgF p.1.s with | some m => if p.1.on = true then p.2 ++ [m] else p.2 | none => p.2) else (⟨p.1.on, p.1.s ++ [b]⟩, p.2)
def rHearF (s : REar) (l : List UInt8) : REar × List (List UInt8) := l.foldl rHearB (s, [])
theorem rHearF_snoc (s : REar) (a : List UInt8) (b : UInt8) : rHearF s (a ++ [b]) = rHearB (rHearF s a) b := by
  unfold rHearF
  rw [List.foldl_append]; rfl
theorem unb (b : UInt8) : isB (b ^^^ 32) = true ↔ (b = 94 ∨ b = 93) := by
  have h : ∀ n, n < 256 → (isB (UInt8.ofNat n ^^^ 32) = true ↔ (UInt8.ofNat n = 94 ∨ UInt8.ofNat n = 93)) := by decide +kernel
  have := h b.toNat b.toNat_lt
  rwa [UInt8.ofNat_toNat] at this
/-- The two ears know the same. -/
def SameU (s : EarS) (u : Nat × List UInt8) : Prop := (s.mode = 0 ∧ (u.1 = 0 ∨ 82 < u.2.length)) ∨ (s.mode = u.1 ∧ s.ks = u.2 ∧ (u.1 = 1 ∨ u.1 = 2) ∧ u.2.length ≤ 82)
theorem uStep_len (u : Nat × List UInt8) (b : UInt8) : u.2.length ≤ (uStep u b).2.length := by
  unfold uStep
  repeat' split
  all_goals simp
theorem uStep_zero {u : Nat × List UInt8} (h : u.1 = 0) (b : UInt8) : (uStep u b).1 = 0 := by
  unfold uStep
  simp [h]
theorem sameU_step {s : EarS} {u : Nat × List UInt8} (h : SameU s u) (b : UInt8) : SameU (takeF s b) (uStep u b) := by
  rcases h with ⟨h1, h2⟩ | ⟨h1, h2, h3, h4⟩
  · left
    refine ⟨by unfold takeF; rw [if_pos h1]; exact h1, ?_⟩
    rcases h2 with h2 | h2
    · exact .inl (uStep_zero h2 b)
    · exact .inr (Nat.lt_of_lt_of_le h2 (uStep_len u b))
  · obtain ⟨m, ks⟩ := s
    obtain ⟨um, o⟩ := u
    simp only at h1 h2 h3 h4
    subst h1 h2
    rcases h3 with rfl | rfl
    · by_cases hb : b = 125
      · right; subst hb; simp [takeF, uStep, h4]
      · by_cases hl : ks.length = 82
        · left; simp [takeF, uStep, hb, keepF, hl]
        · right; simp [takeF, uStep, hb, keepF, hl]; omega
    · by_cases hb : b = 94 ∨ b = 93
      · have hi := (unb b).2 hb
        by_cases hl : ks.length = 82
        · left; simp [takeF, uStep, hb, hi, keepF, hl]
        · right; simp [takeF, uStep, hb, hi, keepF, hl]; omega
      · have hi : ¬ isB (b ^^^ 32) = true := fun e => hb ((unb b).1 e)
        left; simp [takeF, uStep, hb, hi]
theorem two_last (o : List UInt8) (h : 3 ≤ o.length) : o.drop (o.length - 2) = [o.getD (o.length - 2) 0, o.getD (o.length - 1) 0] := by
  have e : o.length - 2 + 1 = o.length - 1 := by omega
  have e2 : o.length - 1 + 1 = o.length := by omega
  rw [List.drop_eq_getElem_cons (by omega), e, List.drop_eq_getElem_cons (by omega), e2, List.drop_length]
  simp only [List.getD_eq_getElem?_getD]
  rw [List.getElem?_eq_getElem (by omega), List.getElem?_eq_getElem (by omega)]
  rfl
theorem hasC_okM (o : List UInt8) (h : o.length ≤ 82) : hasC o = okM o := by
  unfold hasC okM
  by_cases h3 : 3 ≤ o.length
  · simp only [h3, h, decide_true, Bool.true_and]
    rw [two_last o h3]
    obtain ⟨x, hx⟩ : ∃ x, o.getD (o.length - 2) 0 = x := ⟨_, rfl⟩
    obtain ⟨y, hy⟩ : ∃ y, o.getD (o.length - 1) 0 = y := ⟨_, rfl⟩
    have hc := crcN_lt (o.take (o.length - 2))
    rw [hx, hy]
    unfold chkB
    generalize crcN (o.take (o.length - 2)) = c at hc
    have h1 : (UInt8.ofNat (c / 256)).toNat = c / 256 := by rw [UInt8.toNat_ofNat']; omega
    have h2 : (UInt8.ofNat (c % 256)).toNat = c % 256 := by rw [UInt8.toNat_ofNat']; omega
    have hxl := x.toNat_lt
    have hyl := y.toNat_lt
    apply decide_eq_decide.2
    constructor
    · intro e
      have ex : x = UInt8.ofNat (c / 256) := UInt8.toNat_inj.1 (by rw [h1]; omega)
      have ey : y = UInt8.ofNat (c % 256) := UInt8.toNat_inj.1 (by rw [h2]; omega)
      rw [ex, ey]
    · intro e
      simp only [List.cons.injEq, and_true] at e
      rw [e.1, e.2, h1, h2]
      omega
  · simp [h3]
theorem whole_msg {s : EarS} {l : List UInt8} (h : SameU s (unF l)) : msgF l = if wholeF s = true then some (s.ks.take (s.ks.length - 2)) else none := by
  unfold msgF wholeF
  rcases h with ⟨h1, h2⟩ | ⟨h1, h2, h3, h4⟩
  · have : ¬ ((unF l).1 = 1 ∧ okM (unF l).2 = true) := by
      rintro ⟨e1, e2⟩
      rcases h2 with h2 | h2
      · rw [h2] at e1; cases e1
      · unfold okM at e2
        simp only [Bool.and_eq_true, decide_eq_true_eq] at e2
        omega
    rw [if_neg this, h1]
    simp
  · rw [h1, h2, hasC_okM _ h4]
    by_cases e : (unF l).1 = 1 <;> simp [e]
/-- The whole ears. -/
def SameE (s : EarS) (r : REar) : Prop := (r.on = false ∧ s.mode = 0) ∨ (r.on = true ∧ SameU s (unF r.s))
theorem sameE_step {s : EarS} {r : REar} {o : List (List UInt8)} (h : SameE s r) (b : UInt8) : SameE (hearB (s, o) b).1 (rHearB (r, o) b).1 ∧ (hearB (s, o) b).2 = (rHearB (r, o) b).2 := by
  unfold hearB rHearB
  by_cases hb : b = 126
  · rw [if_pos hb, if_pos hb]
    refine ⟨.inr ⟨rfl, .inr ⟨rfl, rfl, .inl rfl, by simp [unF]⟩⟩, ?_⟩
    simp only
    rcases h with ⟨h1, h2⟩ | ⟨h1, h2⟩
    · have hw : ¬ wholeF s = true := by unfold wholeF; simp [h2]
      rw [if_neg hw, h1]
      cases msgF r.s <;> simp
    · rw [whole_msg h2, h1]
      by_cases hw : wholeF s = true <;> simp [hw]
  · rw [if_neg hb, if_neg hb]
    refine ⟨?_, rfl⟩
    rcases h with ⟨h1, h2⟩ | ⟨h1, h2⟩
    · left
      exact ⟨h1, by unfold takeF; simp [h2]⟩
    · right
      exact ⟨h1, by rw [unF_snoc]; exact sameU_step h2 b⟩
theorem sameE_fold : ∀ (l : List UInt8) (s : EarS) (r : REar) (o : List (List UInt8)), SameE s r → SameE (l.foldl hearB (s, o)).1 (l.foldl rHearB (r, o)).1 ∧ (l.foldl hearB (s, o)).2 = (l.foldl rHearB (r, o)).2
  | [], _, _, _, h => ⟨h, rfl⟩
  | b :: l, s, r, o, h => by
    have hs := sameE_step (o := o) h b
    simp only [List.foldl_cons]
    have e1 : hearB (s, o) b = ((hearB (s, o) b).1, (hearB (s, o) b).2) := rfl
    have e2 : rHearB (r, o) b = ((rHearB (r, o) b).1, (hearB (s, o) b).2) := by rw [hs.2]
    rw [e1, e2]
    exact sameE_fold l _ _ _ hs.1
/-- They answer the same, and go on knowing the same. -/
theorem sameE_hear {s : EarS} {r : REar} (h : SameE s r) (l : List UInt8) : SameE (hearF s l).1 (rHearF r l).1 ∧ (hearF s l).2 = (rHearF r l).2 := sameE_fold l s r [] h
theorem rHearF_len (r : REar) (l : List UInt8) : (rHearF r l).1.s.length ≤ r.s.length + l.length := by
  have key : ∀ (l : List UInt8) (p : REar × List (List UInt8)), (l.foldl rHearB p).1.s.length ≤ p.1.s.length + l.length := by
    intro l
    induction l with
    | nil => intro p; simp
    | cons b l ih =>
      intro p
      simp only [List.foldl_cons, List.length_cons]
      have h := ih (rHearB p b)
      have : (rHearB p b).1.s.length ≤ p.1.s.length + 1 := by
        unfold rHearB
        split <;> simp
      omega
  have := key l (r, [])
  unfold rHearF
  simpa using this
end Go.Proofs.Ythokdbcpkmcieaa
