/- Talks with a board, plainly. -/
import Derived.Test.YthokdbcpkmcieaaBrdK
namespace Go.Proofs.Ythokdbcpkmcieaa
/-- An ear that is in no frame. -/
def QuietE (s : EarS) : Prop := s = ⟨0, []⟩ ∨ s = ⟨1, []⟩
theorem quiet_0 : QuietE ear0 := .inl rfl
theorem quiet_1 : QuietE ⟨1, []⟩ := .inr rfl
theorem hear_frame {s : EarS} (hs : QuietE s) (m : List UInt8) (h1 : m ≠ []) (h2 : m.length ≤ 80) : hearF s (frameF m) = (⟨1, []⟩, [m]) := by
  have e : frameF m = [126] ++ (escL (m ++ chkB m) ++ [126]) := rfl
  have e2 : hearF s [126] = (⟨1, []⟩, []) := by
    rcases hs with rfl | rfl
    · simp [hearF, hearB, wholeF]
    · exact hear_126
  rw [e, hearF_append, e2]
  simp only
  rw [hear_tail m h1 h2]
  simp
theorem hear_single (m : List UInt8) (h1 : m ≠ []) (h2 : m.length ≤ 80) : hearF ear0 ([126] ++ frameF m ++ [126]) = (⟨1, []⟩, [m]) := by
  have e2 : hearF ear0 [126] = (⟨1, []⟩, []) := by simp [hearF, hearB, wholeF, ear0]
  rw [hearF_append, hearF_append, e2]
  simp only
  rw [hear_frame quiet_1 m h1 h2]
  simp only
  rw [hear_126]
  rfl
theorem bhear_one {b : Brd} (ho : b.on = true) (hq : QuietE b.ear) (q : List UInt8) (h1 : q ≠ []) (h2 : q.length ≤ 80) :
    bhearF b (frameF q) = if (answerF b.pow b.mem b.talk q).2.2.2.2 = true then (⟨true, (answerF b.pow b.mem b.talk q).1, (answerF b.pow b.mem b.talk q).2.1, ⟨1, []⟩, (answerF b.pow b.mem b.talk q).2.2.1⟩, (answerF b.pow b.mem b.talk q).2.2.2.1) else (⟨false, pow0, (answerF b.pow b.mem b.talk q).2.1, ear0, talk0⟩, []) := by
  unfold bhearF
  rw [if_neg (by rw [ho]; simp), hear_frame hq q h1 h2]
  simp only [answersF]
  by_cases h : (answerF b.pow b.mem b.talk q).2.2.2.2 = true
  · simp [h]
  · simp [h]
/-- A message of the lesser kinds. -/
theorem askOk_page (s0 s1 n g : UInt8) (D : List UInt8) (hD : D.length = 64) : askOk ([s0, s1, n, 2, g] ++ D) = true := by
  unfold askOk
  rw [if_neg (by simp), if_neg (by simp), if_pos (by simp)]
  simp [hD]
theorem page_len (s0 s1 n g : UInt8) (D : List UInt8) (hD : D.length = 64) : ([s0, s1, n, 2, g] ++ D).length = 69 := by simp [hD]
/-- A PAGE of the board's session, with the next number. -/
theorem ans_page (p : Pow) (m : List UInt8) (t : Talk) (s0 s1 n g : UInt8) (D : List UInt8) (hD : D.length = 64) (ho : t.opn = true) (hs : s0.toNat * 256 + s1.toNat = t.ses) (hn : n = t.num + 1) (hne : n ≠ t.num) (hg : g < 16) (hr : 2 ≤ roomF m) :
    answerF p m t ([s0, s1, n, 2, g] ++ D) = if (burnPageF p m g D).2.2 = true then ((burnPageF p m g D).1, (burnPageF p m g D).2.1, ⟨true, t.ses, n, frameF [s0, s1, n, 1]⟩, frameF [s0, s1, n, 1], true) else ((burnPageF p m g D).1, (burnPageF p m g D).2.1, ⟨true, t.ses, n, t.ans⟩, [], false) := by
  unfold answerF
  rw [if_neg (by rw [askOk_page _ _ _ _ _ hD]; simp)]
  have e3 : ([s0, s1, n, 2, g] ++ D).getD 3 0 = 2 := rfl
  have e2 : ([s0, s1, n, 2, g] ++ D).getD 2 0 = n := rfl
  have es : sesOf ([s0, s1, n, 2, g] ++ D) = t.ses := by rw [← hs]; rfl
  rw [e3, e2, es]
  rw [if_neg (by rw [ho]; simp), if_neg (by simp [hne]), if_neg (by simp [← hn])]
  have ed : ([s0, s1, n, 2, g] ++ D).drop 4 = g :: D := rfl
  have et : ([s0, s1, n, 2, g] ++ D).take 3 = [s0, s1, n] := rfl
  have hd : doF p m 2 (g :: D) = (burnPageF p m g D, [1]) := by
    unfold doF
    rw [if_pos rfl]
    simp only [List.getD_cons_zero, List.drop_succ_cons, List.drop_zero]
    rw [if_pos ⟨hg, hr⟩]
  rw [ed, hd, et]
  simp only [if_neg (show ¬ (2 : UInt8) = 1 by decide), ho]
  rfl
/-- The number of the last message. -/
theorem ans_again (p : Pow) (m : List UInt8) (t : Talk) (q : List UInt8) (hk : askOk q = true) (h3 : q.getD 3 0 ≠ 1) (ho : t.opn = true) (hs : sesOf q = t.ses) (hn : q.getD 2 0 = t.num) : answerF p m t q = (p, m, t, t.ans, true) := by
  unfold answerF
  rw [if_neg (by rw [hk]; simp), if_neg (by rw [ho, hs]; simp), if_pos ⟨h3, hn⟩]
theorem ans_late (p : Pow) (m : List UInt8) (t : Talk) (q : List UInt8) (hk : askOk q = true) (h3 : q.getD 3 0 ≠ 1) (hn : q.getD 2 0 ≠ t.num) (hn1 : q.getD 2 0 ≠ t.num + 1) : answerF p m t q = (p, m, t, [], true) := by
  unfold answerF
  rw [if_neg (by rw [hk]; simp)]
  split
  · rfl
  · rw [if_neg (fun h => hn h.2), if_pos ⟨h3, hn1⟩]
theorem ans_else (p : Pow) (m : List UInt8) (t : Talk) (q : List UInt8) (hk : askOk q = true) (h3 : q.getD 3 0 ≠ 1) (hs : sesOf q ≠ t.ses) : answerF p m t q = (p, m, t, [], true) := by
  unfold answerF
  rw [if_neg (by rw [hk]; simp), if_pos ⟨h3, .inr hs⟩]
theorem ans_open (p : Pow) (m : List UInt8) (t : Talk) (s0 s1 n : UInt8) : answerF p m t [s0, s1, n, 1] = (p, m, ⟨true, s0.toNat * 256 + s1.toNat, n, frameF [s0, s1, n, 1]⟩, frameF [s0, s1, n, 1], true) := rfl
/-- A READ of a page that is burnt. -/
theorem ans_read (p : Pow) (m : List UInt8) (t : Talk) (s0 s1 n g : UInt8) (ho : t.opn = true) (hs : s0.toNat * 256 + s1.toNat = t.ses) (hn : n = t.num + 1) (hne : n ≠ t.num) (hg : g < 16) (hb : burntF m g = true) :
    answerF p m t [s0, s1, n, 3, g] = (p, m, ⟨true, t.ses, n, frameF ([s0, s1, n, 1] ++ pageF m g.toNat)⟩, frameF ([s0, s1, n, 1] ++ pageF m g.toNat), true) := by
  unfold answerF
  rw [if_neg (by simp [askOk])]
  have e3 : ([s0, s1, n, 3, g] : List UInt8).getD 3 0 = 3 := rfl
  have e2 : ([s0, s1, n, 3, g] : List UInt8).getD 2 0 = n := rfl
  have es : sesOf [s0, s1, n, 3, g] = t.ses := by rw [← hs]; rfl
  rw [e3, e2, es]
  rw [if_neg (by rw [ho]; simp), if_neg (by simp [hne]), if_neg (by simp [← hn])]
  have ed : ([s0, s1, n, 3, g] : List UInt8).drop 4 = [g] := rfl
  have et : ([s0, s1, n, 3, g] : List UInt8).take 3 = [s0, s1, n] := rfl
  have hd : doF p m 3 [g] = ((p, m, true), 1 :: pageF m g.toNat) := by
    unfold doF
    rw [if_neg (by decide), if_pos rfl]
    simp only [List.getD_cons_zero]
    rw [if_pos ⟨hg, hb⟩]
  rw [ed, hd, et]
  simp only [if_neg (show ¬ (3 : UInt8) = 1 by decide), ho]
  rfl
theorem used_0 : Used mem0 0 := by
  have hs : ∀ i : Fin 60, slotF mem0 i.val = blankL := by decide +kernel
  exact ⟨List.length_replicate, by omega, fun i hi => absurd hi (by omega), fun i _ h2 => hs ⟨i, h2⟩⟩
theorem burnt_0 (n : UInt8) : burntF mem0 n = false := by
  have := used_0
  rw [burntF_tail (k := 0) (by omega) (fun i h1 h2 => says_blank (used_0.free i h1 h2))]
  rfl
/-- The bits of the pages, by what is burnt. -/
theorem bitsS_eq {m : List UInt8} {f : Nat → Bool} : ∀ k, k ≤ 16 → (∀ j, j < k → burntF m (UInt8.ofNat j) = f j) → bitsS m k = (List.range k).foldl (fun a j => a + (if f j = true then 2 ^ j else 0)) 0
  | 0, _, _ => rfl
  | k + 1, hk, h => by
    rw [bitsS, List.range_succ, List.foldl_append, ← bitsS_eq k (by omega) (fun j hj => h j (by omega)), h k (by omega)]
    rfl
/-! ## Once -/
def once1 : Brd := ⟨true, pow0, mem0, ⟨1, []⟩, ⟨true, 5, 0, frameF [0, 5, 0, 1]⟩⟩
theorem open_0 : bhearF brd0 (frameF [0, 5, 0, 1]) = (once1, frameF [0, 5, 0, 1]) := by
  rw [bhear_one rfl quiet_0 _ (by simp) (by simp)]
  rw [ans_open]
  rfl
def once2 (D : List UInt8) : Brd := ⟨true, pow0, burntM mem0 0 4 D, ⟨1, []⟩, ⟨true, 5, 1, frameF [0, 5, 1, 1]⟩⟩
theorem lasts_0 (n : Nat) : lasts pow0 n := .inl rfl
theorem less_0 (n : Nat) : lessP pow0 n = pow0 := rfl
theorem once_2 (D : List UInt8) (hD : D.length = 64) : bhearF once1 (frameF ([0, 5, 1, 2, 4] ++ D)) = (once2 D, frameF [0, 5, 1, 1]) := by
  rw [bhear_one rfl quiet_1 _ (by simp) (by rw [page_len _ _ _ _ _ hD]; omega)]
  rw [ans_page _ _ _ _ _ _ _ _ hD rfl (by decide) (by decide) (by decide) (by decide) (by show 2 ≤ roomF mem0; rw [roomF_used used_0]; omega)]
  have : burnPageF once1.pow once1.mem 4 D = (pow0, burntM mem0 0 4 D, true) := burnPage_lasts (p := pow0) used_0 (by omega) (by decide) hD (lasts_0 _)
  rw [this]
  rfl
def once3 (D : List UInt8) : Brd := ⟨true, ⟨true, 0, 255⟩, burntM mem0 0 4 D, ⟨1, []⟩, ⟨true, 5, 1, frameF [0, 5, 1, 1]⟩⟩
theorem once_cut (D : List UInt8) : cutF (once2 D) 0 255 = once3 D := rfl
theorem once_again (D : List UInt8) (hD : D.length = 64) : bhearF (once3 D) (frameF ([0, 5, 1, 2, 4] ++ D)) = (once3 D, frameF [0, 5, 1, 1]) := by
  rw [bhear_one rfl quiet_1 _ (by simp) (by rw [page_len _ _ _ _ _ hD]; omega)]
  rw [ans_again (once3 D).pow (once3 D).mem (once3 D).talk ([0, 5, 1, 2, 4] ++ D) (askOk_page _ _ _ _ _ hD) (by show (2 : UInt8) ≠ 1; decide) (by show true = true; rfl) (by show (0 : UInt8).toNat * 256 + (5 : UInt8).toNat = 5; decide) (by show (1 : UInt8) = 1; rfl)]
  rfl
theorem once_late (D E : List UInt8) (hE : E.length = 64) (n : UInt8) (h1 : n ≠ 1) (h2 : n ≠ 2) : bhearF (once3 D) (frameF ([0, 5, n, 2, 3] ++ E)) = (once3 D, []) := by
  rw [bhear_one rfl quiet_1 _ (by simp) (by rw [page_len _ _ _ _ _ hE]; omega)]
  rw [ans_late _ _ _ _ (askOk_page _ _ _ _ _ hE) (by show (2 : UInt8) ≠ 1; decide) (by show n ≠ 1; exact h1) (by show n ≠ 1 + 1; exact h2)]
  rfl
theorem once_else (D : List UInt8) : bhearF (once3 D) (frameF [0, 6, 2, 4]) = (once3 D, []) := by
  rw [bhear_one rfl quiet_1 _ (by simp) (by simp)]
  rw [ans_else (once3 D).pow (once3 D).mem (once3 D).talk [0, 6, 2, 4] rfl (by decide) (by show (6 : Nat) ≠ 5; decide)]
  rfl
theorem once_bits (D : List UInt8) (hD : D.length = 64) : bitsF (burntM mem0 0 4 D) = 16 := by
  obtain ⟨_, _, _, h4, h5⟩ := burntM_is (n := 4) used_0 (by omega) (by decide) hD
  unfold bitsF
  rw [bitsS_eq (f := fun j => j == 4) 16 (by omega) (fun j hj => ?_)]
  · rfl
  · by_cases e : j = 4
    · subst e; exact h4
    · have hne : UInt8.ofNat j ≠ 4 := fun h => e (by have := congrArg UInt8.toNat h; rw [UInt8.toNat_ofNat'] at this; simp at this; omega)
      rw [h5 _ (ofNat_lt hj) hne, burnt_0]
      simp [e]
end Go.Proofs.Ythokdbcpkmcieaa
