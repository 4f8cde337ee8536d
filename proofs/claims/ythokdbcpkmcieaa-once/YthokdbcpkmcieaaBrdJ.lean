/- The journal, plainly: what a page's burning leaves, whether the power lasts or fails at any stroke. -/
import Derived.Test.YthokdbcpkmcieaaBrdQ
namespace Go.Proofs.Ythokdbcpkmcieaa
theorem slot_win (m : List UInt8) (k : Nat) : slotF m k = win m (1024 + 4 * k) 4 := rfl
theorem page_win (m : List UInt8) (n : Nat) : pageF m n = win m (64 * n) 64 := rfl
theorem ofNat_lt {j : Nat} (h : j < 16) : UInt8.ofNat j < 16 := by
  rw [UInt8.lt_iff_toNat_lt, UInt8.toNat_ofNat']
  show j % 256 < 16
  omega
/-- The first k records are written, the others have room. -/
structure Used (m : List UInt8) (k : Nat) : Prop where
  len : m.length = 1264
  le : k ≤ 60
  full : ∀ i, i < k → slotF m i ≠ blankL
  free : ∀ i, k ≤ i → i < 60 → slotF m i = blankL
theorem firstS_used {m : List UInt8} {k : Nat} (h : Used m k) (hk : k < 60) : ∀ (f j : Nat), j ≤ k → f + j = 60 → firstS m f j = k
  | 0, j, h1, h2 => by omega
  | f + 1, j, h1, h2 => by
    unfold firstS
    by_cases e : j = k
    · subst e; rw [if_pos (h.free j (Nat.le_refl _) hk)]
    · rw [if_neg (h.full j (by omega))]
      exact firstS_used h hk f (j + 1) (by omega) (by omega)
theorem firstF_used {m : List UInt8} {k : Nat} (h : Used m k) (hk : k < 60) : firstF m = k := firstS_used h hk 60 0 (Nat.zero_le _) rfl
theorem roomS_used {m : List UInt8} {k : Nat} (h : Used m k) : ∀ j, j ≤ 60 → roomS m j = j - k
  | 0, _ => by simp [roomS]
  | j + 1, hj => by
    unfold roomS
    rw [roomS_used h j (by omega)]
    by_cases e : j < k
    · rw [if_neg (h.full j e)]; omega
    · rw [if_pos (h.free j (by omega) (by omega))]; omega
theorem roomF_used {m : List UInt8} {k : Nat} (h : Used m k) : roomF m = 60 - k := roomS_used h 60 (Nat.le_refl _)
/-- What a record says of a page. -/
def says (m : List UInt8) (n : UInt8) (i : Nat) : Option Bool := if slotF m i = recF m n 1 then some false else if slotF m i = recF m n 2 then some true else none
theorem burntS_says (m : List UInt8) (n : UInt8) (k : Nat) : burntS m n (k + 1) = (says m n k).getD (burntS m n k) := by
  rw [burntS]
  unfold says
  split
  · rfl
  · split <;> rfl
theorem burntS_congr {m m' : List UInt8} {n : UInt8} : ∀ k, (∀ i, i < k → says m' n i = says m n i) → burntS m' n k = burntS m n k
  | 0, _ => rfl
  | k + 1, h => by rw [burntS_says, burntS_says, h k (by omega), burntS_congr k (fun i hi => h i (by omega))]
theorem recF_cons (m : List UInt8) (n k : UInt8) : ∃ a b, recF m n k = [n, k, a, b] := ⟨_, _, rfl⟩
theorem recF_len (m : List UInt8) (n k : UInt8) : (recF m n k).length = 4 := rfl
theorem recF_one (m m' : List UInt8) (n : UInt8) : recF m n 1 = recF m' n 1 := rfl
theorem recF_two {m m' : List UInt8} {n : UInt8} (h : pageF m n.toNat = pageF m' n.toNat) : recF m n 2 = recF m' n 2 := by
  unfold recF ofRec
  rw [h]
theorem says_eq {m m' : List UInt8} {n : UInt8} {i : Nat} (h1 : slotF m' i = slotF m i) (h2 : pageF m' n.toNat = pageF m n.toNat) : says m' n i = says m n i := by
  unfold says
  rw [h1, recF_one m' m, recF_two h2]
theorem says_head {m : List UInt8} {n : UInt8} {i : Nat} (h : (slotF m i)[0]? ≠ some n) : says m n i = none := by
  unfold says
  rw [if_neg (fun e => h (by rw [e]; rfl)), if_neg (fun e => h (by rw [e]; rfl))]
theorem says_kind {m : List UInt8} {n : UInt8} {i : Nat} (h : (slotF m i)[1]? = some 255) : says m n i = none := by
  unfold says
  rw [if_neg (fun e => by rw [e] at h; simp [recF] at h), if_neg (fun e => by rw [e] at h; simp [recF] at h)]
theorem says_blank {m : List UInt8} {n : UInt8} {i : Nat} (h : slotF m i = blankL) : says m n i = none := says_kind (by rw [h]; rfl)
theorem says_one {m : List UInt8} {n : UInt8} {i : Nat} (h : slotF m i = recF m n 1) : says m n i = some false := by unfold says; rw [if_pos h]
theorem says_two {m : List UInt8} {n : UInt8} {i : Nat} (h : slotF m i = recF m n 2) : says m n i = some true := by
  unfold says
  rw [if_neg (fun e => by rw [e] at h; simp [recF] at h), if_pos h]
/-- Records behind k say nothing: what the first k say. -/
theorem burntS_tail {m : List UInt8} {n : UInt8} {k : Nat} : ∀ j, (∀ i, k ≤ i → i < k + j → says m n i = none) → burntS m n (k + j) = burntS m n k
  | 0, _ => rfl
  | j + 1, h => by
    rw [← Nat.add_assoc, burntS_says, h (k + j) (by omega) (by omega)]
    exact burntS_tail j (fun i h1 h2 => h i h1 (by omega))
theorem burntF_tail {m : List UInt8} {n : UInt8} {k : Nat} (hk : k ≤ 60) (h : ∀ i, k ≤ i → i < 60 → says m n i = none) : burntF m n = burntS m n k := by
  have := burntS_tail (m := m) (n := n) (k := k) (60 - k) (fun i h1 h2 => h i h1 (by omega))
  rwa [show k + (60 - k) = 60 by omega] at this
theorem and_255 (x : UInt8) : (255 : UInt8) &&& x = x := by
  have : ∀ k : Fin 256, (255 : UInt8) &&& UInt8.ofNat k.val = UInt8.ofNat k.val := by decide +kernel
  have h := this ⟨x.toNat, x.toNat_lt⟩
  simpa using h
theorem wants_blank : ∀ (l : List UInt8), wants (List.replicate l.length 255) (l.map some) = l
  | [] => rfl
  | x :: l => by
    have := wants_blank l
    unfold wants at this ⊢
    simp only [List.length_cons, List.replicate_succ, List.map_cons, List.zipWith_cons_cons, this]
    simp only [wantF, and_255]
theorem wants_none : ∀ (l : List UInt8), wants l (List.replicate l.length none) = List.replicate l.length 255
  | [] => rfl
  | x :: l => by
    have := wants_none l
    unfold wants at this ⊢
    simp only [List.length_cons, List.replicate_succ, List.zipWith_cons_cons, this]
    rfl
/-- How much power is left. -/
def lessP (p : Pow) (n : Nat) : Pow := ⟨p.cut, if p.cut = false then p.left else p.left - n, p.mask⟩
def lasts (p : Pow) (n : Nat) : Prop := p.cut = false ∨ n ≤ p.left
theorem writeF_lasts {p : Pow} {m : List UInt8} {k : Nat} {r : List UInt8} (h : Used m k) (hk : k < 60) (hr : r.length = 4) (hp : lasts p 4) : writeF p m r = (lessP p 4, put m (1024 + 4 * k) r, true) := by
  unfold writeF
  rw [firstF_used h hk, runS_lasts _ _ _ _ (by have := h.len; simp [hr]; omega) (by simpa [hr, lasts] using hp)]
  have e : win m (1024 + 4 * k) (r.map some).length = List.replicate r.length 255 := by
    have := h.free k (Nat.le_refl _) hk
    rw [slot_win] at this
    simp only [List.length_map, hr]
    exact this
  rw [e, wants_blank]
  simp [lessP, hr]
/-- A memory, and one with bytes put among the records from k on. -/
theorem Used.puts {m l : List UInt8} {k : Nat} (h : Used m k) (hk : k < 60) (hl : l.length ≤ 4) : (put m (1024 + 4 * k) l).length = 1264 ∧ (∀ i, i ≠ k → i < 60 → slotF (put m (1024 + 4 * k) l) i = slotF m i) ∧ (∀ n, n < 16 → pageF (put m (1024 + 4 * k) l) n = pageF m n) ∧ ∀ q, q < 4 → (slotF (put m (1024 + 4 * k) l) k)[q]? = if q < l.length then l[q]? else some 255 := by
  have hlen := h.len
  have hb : 1024 + 4 * k + l.length ≤ m.length := by omega
  refine ⟨by rw [put_len _ _ _ hb]; exact hlen, fun i hi h60 => ?_, fun n hn => ?_, fun q hq => ?_⟩
  · rw [slot_win, slot_win, win_put_other _ _ _ hb _ _ (by omega)]
  · rw [page_win, page_win, win_put_other _ _ _ hb _ _ (by omega)]
  · rw [slot_win, win_get, if_pos hq, put_get _ _ _ hb]
    by_cases hl2 : q < l.length
    · rw [if_pos (by omega), if_pos hl2]
      congr 1
      omega
    · rw [if_neg (by omega), if_neg hl2]
      have := h.free k (Nat.le_refl _) hk
      rw [slot_win] at this
      have h2 := win_get m (1024 + 4 * k) 4 q
      rw [if_pos hq] at h2
      rw [← h2, this]
      have : ∀ q : Fin 4, blankL[q.val]? = some 255 := by decide
      exact this ⟨q, hq⟩
theorem Used.next {m m' : List UInt8} {k : Nat} (h : Used m k) (hk : k < 60) (hl : m'.length = 1264) (hs : ∀ i, i ≠ k → i < 60 → slotF m' i = slotF m i) : (slotF m' k = blankL ∧ Used m' k) ∨ (slotF m' k ≠ blankL ∧ Used m' (k + 1)) := by
  by_cases e : slotF m' k = blankL
  · refine .inl ⟨e, hl, h.le, fun i hi => by rw [hs i (by omega) (by omega)]; exact h.full i hi, fun i h1 h2 => ?_⟩
    by_cases ei : i = k
    · subst ei; exact e
    · rw [hs i ei h2]; exact h.free i h1 h2
  · refine .inr ⟨e, hl, by omega, fun i hi => ?_, fun i h1 h2 => by rw [hs i (by omega) h2]; exact h.free i (by omega) h2⟩
    by_cases ei : i = k
    · subst ei; exact e
    · rw [hs i ei (by omega)]; exact h.full i (by omega)
end Go.Proofs.Ythokdbcpkmcieaa
