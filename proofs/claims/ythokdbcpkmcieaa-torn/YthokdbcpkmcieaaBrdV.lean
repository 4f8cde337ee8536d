/- Answers, plainly: what goes on holding. -/
import Derived.Test.YthokdbcpkmcieaaBrdU
namespace Go.Proofs.Ythokdbcpkmcieaa
structure TOk (m : List UInt8) (t : Talk) : Prop where
  used : ∃ k, Used m k
  ses : t.ses < 65536
  al : t.ans.length ≤ 200
theorem frameF_le (l : List UInt8) : (frameF l).length ≤ 2 * l.length + 6 := by
  have := escL_len (l ++ chkB l)
  have hc : (l ++ chkB l).length = l.length + 2 := by simp [chkB]
  rw [hc] at this
  simp [frameF]
  omega
theorem burnPage_used {p : Pow} {m bs : List UInt8} {k : Nat} {n : UInt8} (hu : Used m k) (hk : k + 2 ≤ 60) (hn : n < 16) (hb : bs.length = 64) : ∃ k', Used (burnPageF p m n bs).2.1 k' := by
  by_cases hp : lasts p 136
  · rw [burnPage_lasts hu hk hn hb hp]
    exact ⟨_, (burntM_is hu hk hn hb).1⟩
  · obtain ⟨p', m', e, hl⟩ := burnPage_fails (p := p) hu hk hn hb hp
    rw [e]
    obtain ⟨k', h1, _⟩ := hl.used
    exact ⟨k', h1⟩
theorem doF_ok {p : Pow} {m rest : List UInt8} {a : UInt8} (hu : ∃ k, Used m k) (h2 : a = 2 → rest.length = 65) : (∃ k, Used (doF p m a rest).1.2.1 k) ∧ (doF p m a rest).2.length ≤ 65 := by
  obtain ⟨k, hu⟩ := hu
  unfold doF
  split
  · rename_i ha
    split
    · rename_i h
      have hr := roomF_used hu
      have hle := hu.le
      exact ⟨burnPage_used hu (by omega) h.1 (by rw [List.length_drop, h2 ha]), by simp⟩
    · exact ⟨⟨k, hu⟩, by simp⟩
  · split
    · refine ⟨⟨k, hu⟩, ?_⟩
      simp only
      split
      · rename_i h
        have hl := hu.len
        have hlt := u16 h.1
        have : (pageF m (rest.getD 0 0).toNat).length = 64 := win_len m (64 * (rest.getD 0 0).toNat) 64 (by omega)
        simp only [List.length_cons]
        omega
      · simp
    · split
      · exact ⟨⟨k, hu⟩, by simp⟩
      · exact ⟨⟨k, hu⟩, by simp⟩
theorem sesOf_lt (q : List UInt8) : sesOf q < 65536 := by
  unfold sesOf
  have := (q.getD 0 0).toNat_lt
  have := (q.getD 1 0).toNat_lt
  omega
theorem askOk_two {q : List UInt8} (hk : askOk q = true) (h : q.getD 3 0 = 2) : q.length = 69 := by
  unfold askOk at hk
  rw [h] at hk
  split at hk
  · cases hk
  · rw [if_neg (by decide), if_pos rfl] at hk
    simpa using hk
theorem answerF_ok {p : Pow} {m : List UInt8} {t : Talk} {q : List UInt8} (h : TOk m t) : TOk (answerF p m t q).2.1 (answerF p m t q).2.2.1 ∧ (answerF p m t q).2.2.2.1.length ≤ 200 := by
  unfold answerF
  split
  · exact ⟨h, by simp⟩
  · rename_i hk
    have hk' : askOk q = true := by simpa using hk
    split
    · exact ⟨h, by simp⟩
    · split
      · exact ⟨h, h.al⟩
      · split
        · exact ⟨h, by simp⟩
        · have hd := doF_ok (p := p) (a := q.getD 3 0) (rest := q.drop 4) h.used (fun e => by rw [List.length_drop, askOk_two hk' e])
          have hfl := frameF_le (q.take 3 ++ (doF p m (q.getD 3 0) (q.drop 4)).2)
          have ht3 : (q.take 3).length ≤ 3 := by rw [List.length_take]; exact Nat.min_le_left _ _
          rw [List.length_append] at hfl
          simp only
          split
          · refine ⟨⟨hd.1, ?_, by simp only; omega⟩, by simp only; omega⟩
            simp only
            split
            · exact sesOf_lt q
            · exact h.ses
          · refine ⟨⟨hd.1, ?_, h.al⟩, by simp⟩
            simp only
            split
            · exact sesOf_lt q
            · exact h.ses
/-- One answer more. -/
def stepA (p : Pow) (m : List UInt8) (t : Talk) (q out : List UInt8) : Pow × List UInt8 × Talk × List UInt8 × Bool :=
  if (answerF p m t q).2.2.2.2 = true then ((answerF p m t q).1, (answerF p m t q).2.1, (answerF p m t q).2.2.1, out ++ (answerF p m t q).2.2.2.1, true)
  else ((answerF p m t q).1, (answerF p m t q).2.1, (answerF p m t q).2.2.1, out, false)
theorem answersF_append : ∀ (a b : List (List UInt8)) (p : Pow) (m : List UInt8) (t : Talk) (out : List UInt8) (p' : Pow) (m' : List UInt8) (t' : Talk) (o' : List UInt8), answersF p m t a out = (p', m', t', o', true) → answersF p m t (a ++ b) out = answersF p' m' t' b o'
  | [], b, p, m, t, out, p', m', t', o', h => by
    simp only [answersF, Prod.mk.injEq] at h
    obtain ⟨rfl, rfl, rfl, rfl, _⟩ := h
    rfl
  | q :: a, b, p, m, t, out, p', m', t', o', h => by
    rw [answersF] at h
    rw [List.cons_append, answersF]
    split at h
    · rename_i hok
      rw [if_pos hok]
      exact answersF_append a b _ _ _ _ p' m' t' o' h
    · simp at h
theorem answers_more {p p' : Pow} {m m' : List UInt8} {t t' : Talk} {o' : List UInt8} {qs : List (List UInt8)} {j : Nat} (hj : j < qs.length) (h : answersF p m t (qs.take j) [] = (p', m', t', o', true)) :
    answersF p m t (qs.take (j + 1)) [] = stepA p' m' t' (qs.getD j []) o' ∧ ((answerF p' m' t' (qs.getD j [])).2.2.2.2 = false → answersF p m t qs [] = stepA p' m' t' (qs.getD j []) o') := by
  have e : qs.take (j + 1) = qs.take j ++ [qs.getD j []] := by
    rw [List.take_add_one, List.getElem?_eq_getElem hj, List.getD_eq_getElem?_getD, List.getElem?_eq_getElem hj]
    rfl
  have e2 : qs = qs.take j ++ (qs.getD j [] :: qs.drop (j + 1)) := by
    have h1 : qs = qs.take (j + 1) ++ qs.drop (j + 1) := (List.take_append_drop _ _).symm
    rw [e, List.append_assoc] at h1
    exact h1
  constructor
  · rw [e, answersF_append _ _ _ _ _ _ _ _ _ _ h, answersF]
    unfold stepA
    split <;> rfl
  · intro hf
    have h3 : answersF p m t qs [] = answersF p' m' t' (qs.getD j [] :: qs.drop (j + 1)) o' := by
      have := answersF_append (qs.take j) (qs.getD j [] :: qs.drop (j + 1)) p m t [] p' m' t' o' h
      rw [← e2] at this
      exact this
    rw [h3, answersF]
    unfold stepA
    rw [if_neg (by rw [hf]; simp), if_neg (by rw [hf]; simp)]
end Go.Proofs.Ythokdbcpkmcieaa
