/- Torn, plainly. -/
import Derived.Test.YthokdbcpkmcieaaBrdT
namespace Go.Proofs.Ythokdbcpkmcieaa
def tornM2 (A : List UInt8) : List UInt8 := burntM mem0 0 2 A
def tornM3 (A B : List UInt8) : List UInt8 := burntM (tornM2 A) 2 7 B
def torn2 (A : List UInt8) : Brd := ⟨true, pow0, tornM2 A, ⟨1, []⟩, ⟨true, 5, 1, frameF [0, 5, 1, 1]⟩⟩
def torn3 (A B : List UInt8) : Brd := ⟨true, pow0, tornM3 A B, ⟨1, []⟩, ⟨true, 5, 2, frameF [0, 5, 2, 1]⟩⟩
def torn4 (A B : List UInt8) (k : Nat) (mask : UInt8) : Brd := ⟨true, ⟨true, k, mask⟩, tornM3 A B, ⟨1, []⟩, ⟨true, 5, 2, frameF [0, 5, 2, 1]⟩⟩
theorem torn_cut (A B : List UInt8) (k : Nat) (mask : UInt8) : cutF (torn3 A B) (k : Int) mask = torn4 A B k mask := rfl
/-- A PAGE that is burnt whole, without a cut. -/
theorem page_whole {b : Brd} {t : Talk} {m : List UInt8} {k : Nat} {n g : UInt8} {D : List UInt8} (hb : b = ⟨true, pow0, m, ⟨1, []⟩, t⟩) (hu : Used m k) (hk : k + 2 ≤ 60) (hD : D.length = 64) (ho : t.opn = true) (hs : t.ses = 5) (hn : n = t.num + 1) (hne : n ≠ t.num) (hg : g < 16) :
    bhearF b (frameF ([0, 5, n, 2, g] ++ D)) = (⟨true, pow0, burntM m k g D, ⟨1, []⟩, ⟨true, 5, n, frameF [0, 5, n, 1]⟩⟩, frameF [0, 5, n, 1]) := by
  subst hb
  rw [bhear_one rfl quiet_1 _ (by simp) (by rw [page_len _ _ _ _ _ hD]; omega)]
  rw [ans_page pow0 m t 0 5 n g D hD ho (by rw [hs]; decide) hn hne hg (by rw [roomF_used hu]; omega), burnPage_lasts hu hk hg hD (lasts_0 _), hs]
  rfl
theorem torn_2 (A : List UInt8) (hA : A.length = 64) : bhearF once1 (frameF ([0, 5, 1, 2, 2] ++ A)) = (torn2 A, frameF [0, 5, 1, 1]) :=
  page_whole (k := 0) rfl used_0 (by omega) hA rfl rfl (by decide) (by decide) (by decide)
theorem torn2_is (A : List UInt8) (hA : A.length = 64) : BurntIs mem0 A 0 2 := burntM_is (n := 2) (bs := A) used_0 (by omega) (by decide) hA
theorem torn_3 (A B : List UInt8) (hA : A.length = 64) (hB : B.length = 64) : bhearF (torn2 A) (frameF ([0, 5, 2, 2, 7] ++ B)) = (torn3 A B, frameF [0, 5, 2, 1]) :=
  page_whole (k := 2) rfl (torn2_is A hA).1 (by omega) hB rfl rfl (by decide) (by decide) (by decide)
theorem torn3_is (A B : List UInt8) (hA : A.length = 64) (hB : B.length = 64) : BurntIs (tornM2 A) B 2 7 := burntM_is (n := 7) (bs := B) (torn2_is A hA).1 (by omega) (by decide) hB
/-- What the burning anew leaves. -/
structure TornM (A B M : List UInt8) (on : Bool) : Prop where
  used : ∃ k, Used M k ∧ k ≤ 6
  pages : ∀ j, j < 16 → j ≠ 2 → pageF M j = pageF (tornM3 A B) j
  seven : burntF M 7 = true
  none : ∀ j : UInt8, j < 16 → j ≠ 2 → j ≠ 7 → burntF M j = false
  own : burntF M 2 = true → pageF M 2 = A ∨ pageF M 2 = B
  on : on = true → pageF M 2 = B ∧ burntF M 2 = true
theorem torn_hear (A B : List UInt8) (k : Nat) (mask : UInt8) (hA : A.length = 64) (hB : B.length = 64) : ∃ b' out, bhearF (torn4 A B k mask) (frameF ([0, 5, 3, 2, 2] ++ B)) = (b', out) ∧ TornM A B b'.mem b'.on := by
  obtain ⟨i1, i2, i3, i4, i5⟩ := torn2_is A hA
  obtain ⟨j1, j2, j3, j4, j5⟩ := torn3_is A B hA hB
  have e2 : burntF (tornM3 A B) 2 = true := (j5 2 (by decide) (by decide)).trans i4
  have p2 : pageF (tornM3 A B) 2 = A := (j3 2 (by decide) (by decide)).trans i2
  have en : ∀ j : UInt8, j < 16 → j ≠ 2 → j ≠ 7 → burntF (tornM3 A B) j = false := fun j h1 h2 h3 => ((j5 j h1 h3).trans (i5 j h1 h2)).trans (burnt_0 j)
  rw [bhear_one rfl quiet_1 _ (by simp) (by rw [page_len _ _ _ _ _ hB]; omega)]
  rw [ans_page (torn4 A B k mask).pow (torn4 A B k mask).mem (torn4 A B k mask).talk 0 5 3 2 B hB rfl (by show (0 : UInt8).toNat * 256 + (5 : UInt8).toNat = 5; decide) (by show (3 : UInt8) = 2 + 1; decide) (by show (3 : UInt8) ≠ 2; decide) (by decide) (by show 2 ≤ roomF (tornM3 A B); rw [show roomF (tornM3 A B) = 60 - (2 + 2) from roomF_used j1]; omega)]
  by_cases hp : lasts (torn4 A B k mask).pow 136
  · have hb : burnPageF (torn4 A B k mask).pow (torn4 A B k mask).mem 2 B = (lessP (torn4 A B k mask).pow 136, burntM (tornM3 A B) 4 2 B, true) := burnPage_lasts j1 (by omega) (by decide) hB hp
    rw [hb]
    obtain ⟨q1, q2, q3, q4, q5⟩ := burntM_is (n := 2) (bs := B) (k := 4) j1 (by omega) (by decide) hB
    refine ⟨_, _, rfl, ?_⟩
    exact ⟨⟨6, q1, by omega⟩, fun j h1 h2 => q3 j h1 h2, (q5 7 (by decide) (by decide)).trans j4, fun j h1 h2 h3 => (q5 j h1 h2).trans (en j h1 h2 h3), fun _ => .inr q2, fun _ => ⟨q2, q4⟩⟩
  · obtain ⟨p', m', hb, hl⟩ := burnPage_fails (m := tornM3 A B) (k := 4) (n := 2) (bs := B) j1 (by omega) (by decide) hB hp
    have hb' : burnPageF (torn4 A B k mask).pow (torn4 A B k mask).mem 2 B = (p', m', false) := hb
    rw [hb']
    refine ⟨_, _, rfl, ?_⟩
    obtain ⟨k', u1, u2, u3⟩ := hl.used
    refine ⟨⟨k', u1, by omega⟩, fun j h1 h2 => hl.pages j h1 h2, (hl.other 7 (by decide) (by decide)).trans j4, fun j h1 h2 h3 => (hl.other j h1 h2).trans (en j h1 h2 h3), fun h => ?_, fun h => by cases h⟩
    rcases hl.own with ⟨h1, _⟩ | h1 | ⟨h1, _⟩
    · left; rw [← p2]; exact h1
    · have h' : burntF m' 2 = true := h
      rw [h1] at h'; cases h'
    · right; exact h1
theorem TornM.bits {A B M : List UInt8} {on : Bool} (h : TornM A B M on) : bitsF M = 128 + (if burntF M 2 = true then 4 else 0) := by
  unfold bitsF
  rw [bitsS_eq (f := fun j => if j = 2 then burntF M 2 else j == 7) 16 (by omega) (fun j hj => ?_)]
  · cases burntF M 2 <;> rfl
  · by_cases e : j = 2
    · subst e; rfl
    · rw [if_neg e]
      by_cases e7 : j = 7
      · subst e7; exact h.seven
      · have hx : ∀ c : Nat, c < 256 → j ≠ c → UInt8.ofNat j ≠ UInt8.ofNat c := fun c hc hne he => hne (by have := congrArg UInt8.toNat he; rw [UInt8.toNat_ofNat', UInt8.toNat_ofNat'] at this; omega)
        rw [h.none _ (ofNat_lt hj) (hx 2 (by omega) e) (hx 7 (by omega) e7)]
        simp [e7]
/-- The page is burnt again. -/
def torn6 (M : List UInt8) : Brd := ⟨true, pow0, M, ⟨1, []⟩, ⟨true, 5, 9, frameF [0, 5, 9, 1]⟩⟩
theorem torn_open (b : Brd) : bhearF (bootF b) (frameF [0, 5, 9, 1]) = (torn6 b.mem, frameF [0, 5, 9, 1]) := by
  rw [bhear_one rfl quiet_0 _ (by simp) (by simp), ans_open]
  rfl
theorem torn_again {A B M : List UInt8} {on : Bool} (h : TornM A B M on) (hA : A.length = 64) : ∃ b7, bhearF (torn6 M) (frameF ([0, 5, 10, 2, 2] ++ A)) = (b7, frameF [0, 5, 10, 1]) ∧ ∃ b8, bhearF b7 (frameF [0, 5, 11, 3, 2]) = (b8, frameF ([0, 5, 11, 1] ++ A)) := by
  obtain ⟨k, hu, hk⟩ := h.used
  refine ⟨_, page_whole (k := k) rfl hu (by omega) hA rfl rfl (by decide) (by decide) (by decide), ?_⟩
  obtain ⟨q1, q2, q3, q4, q5⟩ := burntM_is (n := 2) (bs := A) hu (by omega) (by decide) hA
  rw [bhear_one rfl quiet_1 _ (by simp) (by simp)]
  rw [ans_read pow0 (burntM M k 2 A) ⟨true, 5, 10, frameF [0, 5, 10, 1]⟩ 0 5 11 2 rfl (by decide) (by decide) (by decide) (by decide) q4]
  simp only [if_true]
  rw [show (2 : UInt8).toNat = 2 from rfl] at q2
  rw [show (2 : UInt8).toNat = 2 from rfl, q2]
  exact ⟨_, rfl⟩
end Go.Proofs.Ythokdbcpkmcieaa
