/- A page's burning, plainly, at whichever stroke the power fails. -/
import Derived.Test.YthokdbcpkmcieaaBrdJ
namespace Go.Proofs.Ythokdbcpkmcieaa
/-- Only record k is another one: one of page n, or one without a kind. -/
structure Lone (m m' : List UInt8) (k : Nat) (n : UInt8) : Prop where
  len : m'.length = 1264
  slots : ∀ i, i ≠ k → i < 60 → slotF m' i = slotF m i
  pages : ∀ j, j < 16 → pageF m' j = pageF m j
  head : (slotF m' k)[0]? = some n ∨ (slotF m' k)[1]? = some 255
theorem u16 {j : UInt8} (h : j < 16) : j.toNat < 16 := by simpa using UInt8.lt_iff_toNat_lt.1 h
theorem Lone.burnt {m m' : List UInt8} {k : Nat} {n : UInt8} (h : Lone m m' k n) (hu : Used m k) (hk : k < 60) (j : UInt8) (hj : j < 16) : burntF m' j = (says m' j k).getD (burntF m j) := by
  have e1 : burntF m' j = burntS m' j (k + 1) := burntF_tail (by omega) (fun i h1 h2 => says_blank (by rw [h.slots i (by omega) h2]; exact hu.free i (by omega) h2))
  have e2 : burntF m j = burntS m j k := burntF_tail hu.le (fun i h1 h2 => says_blank (hu.free i h1 h2))
  rw [e1, e2, burntS_says, burntS_congr k (fun i hi => says_eq (h.slots i (by omega) (by omega)) (h.pages _ (u16 hj)))]
theorem Lone.burnt_other {m m' : List UInt8} {k : Nat} {n : UInt8} (h : Lone m m' k n) (hu : Used m k) (hk : k < 60) (j : UInt8) (hj : j < 16) (hne : j ≠ n) : burntF m' j = burntF m j := by
  rw [h.burnt hu hk j hj]
  rcases h.head with h1 | h1
  · rw [says_head (by rw [h1]; simpa using fun e => hne e.symm)]; rfl
  · rw [says_kind h1]; rfl
/-- Bytes put into a record that had room. -/
theorem lone_put {m l : List UInt8} {k : Nat} {n : UInt8} (hu : Used m k) (hk : k < 60) (hl : l.length ≤ 4) (hh : l[0]? = some n ∨ l.length ≤ 1) : Lone m (put m (1024 + 4 * k) l) k n := by
  obtain ⟨h1, h2, h3, h4⟩ := hu.puts hk hl
  refine ⟨h1, h2, h3, ?_⟩
  rcases hh with h | h
  · left
    rw [h4 0 (by omega)]
    have : 0 < l.length := (List.getElem?_eq_some_iff.1 h).1
    rw [if_pos this]; exact h
  · right
    rw [h4 1 (by omega), if_neg (by omega)]
/-- Record k is Begun, of page n; the others are as they were. -/
structure Mid (m0 m : List UInt8) (k : Nat) (n : UInt8) : Prop where
  used : Used m (k + 1)
  rec1 : slotF m k = recF m n 1
  slots : ∀ i, i < k → slotF m i = slotF m0 i
  pages : ∀ j, j < 16 → j ≠ n.toNat → pageF m j = pageF m0 j
theorem Mid.burnt {m0 m : List UInt8} {k : Nat} {n : UInt8} (h : Mid m0 m k n) : burntF m n = false := by
  rw [burntF_tail h.used.le (fun i h1 h2 => says_blank (h.used.free i h1 h2)), burntS_says, says_one h.rec1]; rfl
theorem Mid.other {m0 m : List UInt8} {k : Nat} {n : UInt8} (h : Mid m0 m k n) (hu : Used m0 k) (j : UInt8) (hj : j < 16) (hne : j ≠ n) : burntF m j = burntF m0 j := by
  have hjn : j.toNat ≠ n.toNat := fun e => hne (UInt8.toNat_inj.1 e)
  rw [burntF_tail h.used.le (fun i h1 h2 => says_blank (h.used.free i h1 h2)), burntF_tail hu.le (fun i h1 h2 => says_blank (hu.free i h1 h2)), burntS_says,
    says_head (by rw [h.rec1]; show some n ≠ some j; simpa using fun e => hne e.symm), Option.getD_none]
  exact burntS_congr k (fun i hi => says_eq (h.slots i hi) (h.pages _ (u16 hj) hjn))
theorem Mid.puts {m0 m l : List UInt8} {k : Nat} {n : UInt8} (h : Mid m0 m k n) (hn : n < 16) (hl : l.length ≤ 64) : Mid m0 (put m (64 * n.toNat) l) k n := by
  have hlen := h.used.len
  have hnn := u16 hn
  have hb : 64 * n.toNat + l.length ≤ m.length := by omega
  have hs : ∀ i, i < 60 → slotF (put m (64 * n.toNat) l) i = slotF m i := fun i hi => by rw [slot_win, slot_win, win_put_other _ _ _ hb _ _ (by omega)]
  have hle := h.used.le
  refine ⟨⟨by rw [put_len _ _ _ hb]; exact hlen, h.used.le, fun i hi => by rw [hs i (by omega)]; exact h.used.full i hi, fun i h1 h2 => by rw [hs i h2]; exact h.used.free i h1 h2⟩, ?_, fun i hi => ?_, fun j hj hne => ?_⟩
  · rw [hs k (by omega), recF_one _ m]; exact h.rec1
  · rw [hs i (by omega)]; exact h.slots i hi
  · rw [page_win, win_put_other _ _ _ hb _ _ (by omega), ← page_win]; exact h.pages j hj hne
theorem rec_ne_blank (m : List UInt8) (n k : UInt8) (hn : n < 16) : recF m n k ≠ blankL := by
  intro e
  have h : (recF m n k)[0]? = blankL[0]? := by rw [e]
  have h2 : n = 255 := by simpa [recF, blankL] using h
  subst h2
  exact absurd hn (by decide)
theorem slot_put_rec {m r : List UInt8} {k : Nat} (hu : Used m k) (hk : k < 60) (hr : r.length = 4) : slotF (put m (1024 + 4 * k) r) k = r := by
  have hlen := hu.len
  have := win_put_same m (1024 + 4 * k) r (by omega)
  rw [hr] at this
  exact this
theorem mid_first {m : List UInt8} {k : Nat} {n : UInt8} (hu : Used m k) (hk : k < 60) (hn : n < 16) : Mid m (put m (1024 + 4 * k) (recF m n 1)) k n := by
  obtain ⟨h1, h2, h3, h4⟩ := hu.puts (l := recF m n 1) hk (by rw [recF_len]; omega)
  have hs := slot_put_rec (r := recF m n 1) hu hk rfl
  rcases hu.next hk h1 h2 with ⟨e, _⟩ | ⟨_, h⟩
  · exact absurd (hs.symm.trans e) (rec_ne_blank _ _ _ hn)
  · exact ⟨h, hs.trans (recF_one _ _ _), fun i hi => h2 i (by omega) (by omega), fun j hj _ => h3 j hj⟩
/-- What a burning that fails leaves. -/
structure Left (m m' : List UInt8) (k : Nat) (n : UInt8) (bs : List UInt8) : Prop where
  used : ∃ k', Used m' k' ∧ k ≤ k' ∧ k' ≤ k + 2
  pages : ∀ j, j < 16 → j ≠ n.toNat → pageF m' j = pageF m j
  other : ∀ j : UInt8, j < 16 → j ≠ n → burntF m' j = burntF m j
  own : (pageF m' n.toNat = pageF m n.toNat ∧ burntF m' n = burntF m n) ∨ burntF m' n = false ∨ (pageF m' n.toNat = bs ∧ burntF m' n = true)
theorem Mid.left {m0 m bs : List UInt8} {k : Nat} {n : UInt8} (h : Mid m0 m k n) (hu : Used m0 k) : Left m0 m k n bs :=
  ⟨⟨k + 1, h.used, by omega, by omega⟩, h.pages, fun j hj hne => h.other hu j hj hne, .inr (.inl h.burnt)⟩
theorem runS_false {os : List (Option UInt8)} {p : Pow} {m : List UInt8} {i : Nat} (h : i + os.length ≤ m.length) (hp : ¬ lasts p os.length) : ∃ l, runS p m i os = (⟨true, 0, p.mask⟩, put m i l, false) ∧ l.length = p.left + 1 ∧ p.left < os.length ∧ l = wants (win m i p.left) (os.take p.left) ++ [mixF (m.getD (i + p.left) 0) (wantF (m.getD (i + p.left) 0) (os.getD p.left none)) p.mask] := by
  have h1 : p.cut = true ∧ p.left < os.length := by
    unfold lasts at hp
    simp only [not_or] at hp
    refine ⟨by simpa using hp.1, by omega⟩
  refine ⟨_, runS_fails os p m i h h1.1 h1.2, ?_, h1.2, rfl⟩
  have hw : (win m i p.left).length = p.left := win_len _ _ _ (by omega)
  unfold wants
  simp [List.length_zipWith, hw]
  omega
theorem wants_take : ∀ (l : List UInt8) (j : Nat), j ≤ l.length → wants (List.replicate j 255) ((l.map some).take j) = l.take j
  | l, 0, _ => by simp [wants]
  | [], j + 1, h => by simp at h
  | x :: l, j + 1, h => by
    simp only [List.length_cons] at h
    have := wants_take l j (by omega)
    unfold wants at this ⊢
    simp only [List.replicate_succ, List.map_cons, List.take_succ_cons, List.zipWith_cons_cons, this]
    simp only [wantF, and_255]
/-- A record that is torn. -/
theorem writeF_fails {p : Pow} {m r : List UInt8} {k : Nat} {n c : UInt8} {a b : UInt8} (hu : Used m k) (hk : k < 60) (hr : r = [n, c, a, b]) (hp : ¬ lasts p 4) : ∃ l, writeF p m r = (⟨true, 0, p.mask⟩, put m (1024 + 4 * k) l, false) ∧ l.length ≤ 4 ∧ (l[0]? = some n ∨ l.length ≤ 1) ∧ (l.length ≤ 1 ∨ l[1]? = some c ∨ l[1]? = some (mixF 255 c p.mask)) := by
  have hlen := hu.len
  have hb : 1024 + 4 * k + (r.map some).length ≤ m.length := by rw [hr]; simp; omega
  obtain ⟨l, e1, e2, e3, e4⟩ := runS_false (os := r.map some) (p := p) (m := m) (i := 1024 + 4 * k) hb (by rw [hr]; exact hp)
  have hf := hu.free k (Nat.le_refl _) hk
  rw [slot_win] at hf
  rw [hr] at e3
  simp only [List.length_map, List.length_cons, List.length_nil] at e3
  have hg : ∀ q, q < 4 → m[1024 + 4 * k + q]? = some 255 := by
    intro q hq
    have h2 := win_get m (1024 + 4 * k) 4 q
    rw [if_pos hq, hf] at h2
    have : ∀ q : Fin 4, blankL[q.val]? = some 255 := by decide
    rw [← h2]; exact this ⟨q, hq⟩
  have hw : win m (1024 + 4 * k) p.left = List.replicate p.left 255 := by
    apply List.ext_getElem?
    intro q
    rw [win_get]
    by_cases h : q < p.left
    · rw [if_pos h, hg q (by omega), List.getElem?_replicate, if_pos h]
    · rw [if_neg h, List.getElem?_replicate, if_neg h]
  have hc : m.getD (1024 + 4 * k + p.left) 0 = 255 := by rw [List.getD_eq_getElem?_getD, hg _ (by omega)]; rfl
  rw [hw, wants_take _ _ (by rw [hr]; simp; omega), hc] at e4
  refine ⟨l, ?_, by omega, ?_, ?_⟩
  · unfold writeF; rw [firstF_used hu hk]; exact e1
  · rcases Nat.lt_or_ge p.left 1 with h | h
    · right; omega
    · left
      rw [e4, List.getElem?_append_left (by rw [hr]; simp; omega), List.getElem?_take_of_lt (by omega), hr]; rfl
  · rcases Nat.lt_or_ge p.left 1 with h | h
    · left; omega
    · right
      by_cases h1 : p.left = 1
      · right
        rw [e4, h1, hr]
        simp [wantF, and_255]
      · left
        rw [e4, List.getElem?_append_left (by rw [hr]; simp; omega), List.getElem?_take_of_lt (by omega), hr]; rfl
theorem mix_odd (mask : UInt8) : mixF 255 1 mask ≠ 2 := by
  have : ∀ k : Fin 256, mixF 255 1 (UInt8.ofNat k.val) ≠ 2 := by decide +kernel
  have h := this ⟨mask.toNat, mask.toNat_lt⟩
  simpa using h
theorem lasts_less {p : Pow} {a b : Nat} (h : lasts p (a + b)) : lasts (lessP p a) b := by
  unfold lasts lessP at *
  by_cases hc : p.cut = false
  · exact .inl hc
  · rcases h with h | h
    · exact absurd h hc
    · right; simp only [if_neg hc]; omega
theorem lasts_le {p : Pow} {a b : Nat} (h : lasts p b) (hab : a ≤ b) : lasts p a := by
  unfold lasts at *
  rcases h with h | h
  · exact .inl h
  · right; omega
theorem less_less (p : Pow) (a b : Nat) : lessP (lessP p a) b = lessP p (a + b) := by
  unfold lessP
  by_cases hc : p.cut = false
  · simp [hc]
  · simp only [if_neg hc]
    rw [show p.left - a - b = p.left - (a + b) by omega]
theorem lasts_add {p : Pow} {a b : Nat} (h : lasts p a) (h2 : lasts (lessP p a) b) : lasts p (a + b) := by
  unfold lasts lessP at *
  by_cases hc : p.cut = false
  · exact .inl hc
  · simp only [if_neg hc] at h2
    rcases h with h | h
    · exact absurd h hc
    · rcases h2 with h2 | h2
      · exact absurd h2 hc
      · right; omega
/-- The memory behind a whole burning. -/
def burntM (m : List UInt8) (k : Nat) (n : UInt8) (bs : List UInt8) : List UInt8 :=
  put (put (put m (1024 + 4 * k) (recF m n 1)) (64 * n.toNat) bs) (1024 + 4 * (k + 1)) ([n, 2] ++ chkB ([n, 2] ++ bs))
theorem page_erased {m0 m : List UInt8} {k : Nat} {n : UInt8} (h : Mid m0 m k n) (hn : n < 16) (p : Pow) (hp : lasts p 64) : runS p m (64 * n.toNat) (List.replicate 64 none) = (lessP p 64, put m (64 * n.toNat) (List.replicate 64 255), true) := by
  have hlen := h.used.len
  have hnn := u16 hn
  rw [runS_lasts _ _ _ _ (by simp; omega) (by simpa [lasts] using hp)]
  have hw : (win m (64 * n.toNat) 64).length = 64 := win_len _ _ _ (by omega)
  have := wants_none (win m (64 * n.toNat) 64)
  rw [hw] at this
  simp only [List.length_replicate]
  rw [this]
  rfl
theorem put_twice (m : List UInt8) (i : Nat) (a b : List UInt8) (h : i + a.length ≤ m.length) (hab : a.length = b.length) : put (put m i a) i b = put m i b := by
  apply List.ext_getElem?
  intro k
  rw [put_get _ _ _ (by rw [put_len _ _ _ h]; omega), put_get _ _ _ h, put_get _ _ _ (by omega)]
  by_cases hk : i ≤ k ∧ k < i + b.length
  · rw [if_pos hk, if_pos hk]
  · rw [if_neg hk, if_neg (by omega), if_neg hk]
theorem page_put {m0 m l : List UInt8} {k : Nat} {n : UInt8} (h : Mid m0 m k n) (hn : n < 16) (hl : l.length = 64) : pageF (put m (64 * n.toNat) l) n.toNat = l := by
  have hlen := h.used.len
  have hnn := u16 hn
  have := win_put_same m (64 * n.toNat) l (by omega)
  rw [hl] at this
  exact this
theorem rec_two {m bs : List UInt8} {n : UInt8} (h : pageF m n.toNat = bs) : recF m n 2 = [n, 2] ++ chkB ([n, 2] ++ bs) := by
  unfold recF ofRec
  rw [if_pos rfl, h]
theorem page_burns {m0 m bs : List UInt8} {k : Nat} {n : UInt8} (h : Mid m0 m k n) (hn : n < 16) (hb : bs.length = 64) (p : Pow) (hp : lasts p 64) : runS p (put m (64 * n.toNat) (List.replicate 64 255)) (64 * n.toNat) (bs.map some) = (lessP p 64, put m (64 * n.toNat) bs, true) := by
  have hlen := h.used.len
  have hnn := u16 hn
  have hm := h.puts hn (l := List.replicate 64 255) (by simp)
  rw [runS_lasts _ _ _ _ (by rw [hm.used.len]; simp; omega) (by simpa [lasts, hb] using hp)]
  have hw : win (put m (64 * n.toNat) (List.replicate 64 255)) (64 * n.toNat) (bs.map some).length = List.replicate bs.length 255 := by
    have := page_put h hn (l := List.replicate 64 255) (by simp)
    rw [page_win] at this
    simp only [List.length_map, hb]
    exact this
  rw [hw, wants_blank, put_twice _ _ _ _ (by simp; omega) (by simp [hb])]
  simp [lessP, hb]
/-- Whole: the power lasts. -/
theorem burnPage_lasts {p : Pow} {m bs : List UInt8} {k : Nat} {n : UInt8} (hu : Used m k) (hk : k + 2 ≤ 60) (hn : n < 16) (hb : bs.length = 64) (hp : lasts p 136) :
    burnPageF p m n bs = (lessP p 136, burntM m k n bs, true) := by
  have m1 := mid_first (n := n) hu (by omega) hn
  have m3 := m1.puts hn (l := bs) (by omega)
  unfold burnPageF
  rw [writeF_lasts hu (by omega) rfl (lasts_le hp (by omega))]
  simp only [thenS, if_true]
  rw [page_erased m1 hn _ (lasts_less (lasts_le hp (by omega)))]
  simp only [if_true]
  rw [less_less, page_burns m1 hn hb _ (lasts_less (lasts_le hp (by omega)))]
  simp only [if_true]
  rw [less_less, writeF_lasts m3.used (by omega) rfl (lasts_less hp), less_less]
  rw [rec_two (page_put m1 hn hb)]
  rfl
def BurntIs (m bs : List UInt8) (k : Nat) (n : UInt8) : Prop :=
  Used (burntM m k n bs) (k + 2) ∧ pageF (burntM m k n bs) n.toNat = bs ∧ (∀ j, j < 16 → j ≠ n.toNat → pageF (burntM m k n bs) j = pageF m j) ∧ burntF (burntM m k n bs) n = true ∧ ∀ j : UInt8, j < 16 → j ≠ n → burntF (burntM m k n bs) j = burntF m j
theorem burntM_is {m bs : List UInt8} {k : Nat} {n : UInt8} (hu : Used m k) (hk : k + 2 ≤ 60) (hn : n < 16) (hb : bs.length = 64) : BurntIs m bs k n := by
  unfold BurntIs
  have m1 := mid_first (n := n) hu (by omega) hn
  have m3 := m1.puts hn (l := bs) (by omega)
  have hpg := page_put m1 hn hb
  obtain ⟨X, hX⟩ : ∃ X, put (put m (1024 + 4 * k) (recF m n 1)) (64 * n.toNat) bs = X := ⟨_, rfl⟩
  rw [hX] at m3 hpg
  have hr := rec_two hpg
  have he : burntM m k n bs = put X (1024 + 4 * (k + 1)) (recF X n 2) := by unfold burntM; rw [hX, hr]
  rw [he]
  have hL : Lone X (put X (1024 + 4 * (k + 1)) (recF X n 2)) (k + 1) n := lone_put m3.used (by omega) (by rw [recF_len]; omega) (.inl rfl)
  have hs := slot_put_rec (r := recF X n 2) m3.used (by omega) rfl
  have hpn := hL.pages n.toNat (u16 hn)
  refine ⟨?_, hpn.trans hpg, fun j hj hne => (hL.pages j hj).trans (m3.pages j hj hne), ?_, fun j hj hne => (hL.burnt_other m3.used (by omega) j hj hne).trans (m3.other hu j hj hne)⟩
  · rcases m3.used.next (by omega) hL.len hL.slots with ⟨e, _⟩ | ⟨_, h⟩
    · exact absurd (hs.symm.trans e) (rec_ne_blank _ _ _ hn)
    · exact h
  · rw [hL.burnt m3.used (by omega) n hn, says_two (by rw [hs]; exact (recF_two hpn).symm)]; rfl
/-- Torn: the power fails at one of the strokes. -/
theorem burnPage_fails {p : Pow} {m bs : List UInt8} {k : Nat} {n : UInt8} (hu : Used m k) (hk : k + 2 ≤ 60) (hn : n < 16) (hb : bs.length = 64) (hp : ¬ lasts p 136) :
    ∃ p' m', burnPageF p m n bs = (p', m', false) ∧ Left m m' k n bs := by
  have m1 := mid_first (n := n) hu (by omega) hn
  have m3 := m1.puts hn (l := bs) (by omega)
  have hlen := hu.len
  have hnn := u16 hn
  unfold burnPageF
  by_cases h1 : lasts p 4
  · rw [writeF_lasts hu (by omega) rfl h1]
    simp only [thenS, if_true]
    by_cases h2 : lasts (lessP p 4) 64
    · rw [page_erased m1 hn _ h2]
      simp only [if_true]
      by_cases h3 : lasts (lessP (lessP p 4) 64) 64
      · rw [page_burns m1 hn hb _ h3]
        simp only [if_true]
        have h4 : ¬ lasts (lessP (lessP (lessP p 4) 64) 64) 4 := by
          intro h4
          apply hp
          have := lasts_add (lasts_add (lasts_add h1 h2) (by rw [← less_less]; exact h3)) (by rw [← less_less, ← less_less]; exact h4)
          exact this
        have hpg := page_put m1 hn hb
        obtain ⟨X, hX⟩ : ∃ X, put (put m (1024 + 4 * k) (recF m n 1)) (64 * n.toNat) bs = X := ⟨_, rfl⟩
        rw [hX] at m3 hpg ⊢
        obtain ⟨l, e1, e2, e3, e4⟩ := writeF_fails (r := recF X n 2) m3.used (by omega) rfl h4
        rw [e1]
        refine ⟨_, _, rfl, ?_⟩
        have hL : Lone X (put X (1024 + 4 * (k + 1)) l) (k + 1) n := lone_put m3.used (by omega) e2 e3
        refine ⟨?_, fun j hj hne => (hL.pages j hj).trans (m3.pages j hj hne), fun j hj hne => (hL.burnt_other m3.used (by omega) j hj hne).trans (m3.other hu j hj hne), ?_⟩
        · rcases m3.used.next (by omega) hL.len hL.slots with ⟨_, h⟩ | ⟨_, h⟩
          · exact ⟨_, h, by omega, by omega⟩
          · exact ⟨_, h, by omega, by omega⟩
        · have hbn := hL.burnt m3.used (by omega) n hn
          rw [m3.burnt] at hbn
          cases hs : says (put X (1024 + 4 * (k + 1)) l) n (k + 1) with
          | none => rw [hs] at hbn; exact .inr (.inl hbn)
          | some b =>
            rw [hs] at hbn
            cases b with
            | false => exact .inr (.inl hbn)
            | true => exact .inr (.inr ⟨(hL.pages _ hnn).trans hpg, hbn⟩)
      · have he := m1.puts hn (l := List.replicate 64 255) (by simp)
        obtain ⟨l, e1, e2, e3, _⟩ := runS_false (os := bs.map some) (p := lessP (lessP p 4) 64) (m := put (put m (1024 + 4 * k) (recF m n 1)) (64 * n.toNat) (List.replicate 64 255)) (i := 64 * n.toNat) (by rw [he.used.len]; simp [hb]; omega) (by simpa [hb] using h3)
        rw [e1]
        simp only [Bool.false_eq_true, if_false]
        refine ⟨_, _, rfl, (he.puts hn (l := l) ?_).left hu⟩
        simp [hb] at e3; omega
    · obtain ⟨l, e1, e2, e3, _⟩ := runS_false (os := List.replicate 64 none) (p := lessP p 4) (m := put m (1024 + 4 * k) (recF m n 1)) (i := 64 * n.toNat) (by rw [m1.used.len]; simp; omega) (by simpa using h2)
      rw [e1]
      simp only [Bool.false_eq_true, if_false]
      refine ⟨_, _, rfl, (m1.puts hn (l := l) ?_).left hu⟩
      simp at e3; omega
  · obtain ⟨l, e1, e2, e3, e4⟩ := writeF_fails (r := recF m n 1) hu (by omega) rfl h1
    rw [e1]
    simp only [thenS, Bool.false_eq_true, if_false]
    refine ⟨_, _, rfl, ?_⟩
    have hL : Lone m (put m (1024 + 4 * k) l) k n := lone_put hu (by omega) e2 e3
    refine ⟨?_, fun j hj _ => hL.pages j hj, fun j hj hne => hL.burnt_other hu (by omega) j hj hne, ?_⟩
    · rcases hu.next (by omega) hL.len hL.slots with ⟨_, h⟩ | ⟨_, h⟩
      · exact ⟨_, h, by omega, by omega⟩
      · exact ⟨_, h, by omega, by omega⟩
    · have hbn := hL.burnt hu (by omega) n hn
      cases hs : says (put m (1024 + 4 * k) l) n k with
      | none => rw [hs] at hbn; exact .inl ⟨hL.pages _ hnn, hbn⟩
      | some b =>
        rw [hs] at hbn
        cases b with
        | false => exact .inr (.inl hbn)
        | true =>
          exfalso
          have h4 := (hu.puts (l := l) (by omega) e2).2.2.2 1 (by omega)
          have h2 : (slotF (put m (1024 + 4 * k) l) k)[1]? = some 2 := by
            unfold says at hs
            split at hs
            · cases hs
            · split at hs
              · rename_i e; rw [e]; rfl
              · cases hs
          rw [h2] at h4
          rcases e4 with e4 | e4 | e4
          · rw [if_neg (by omega)] at h4; simp at h4
          · have : 1 < l.length := (List.getElem?_eq_some_iff.1 e4).1
            rw [if_pos this, e4] at h4; simp at h4
          · have : 1 < l.length := (List.getElem?_eq_some_iff.1 e4).1
            rw [if_pos this, e4] at h4
            exact mix_odd p.mask (by simpa using h4.symm)
end Go.Proofs.Ythokdbcpkmcieaa
