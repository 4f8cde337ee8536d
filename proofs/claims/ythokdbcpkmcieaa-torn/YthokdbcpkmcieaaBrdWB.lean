/- The walk of answer: the ways on which nothing is done. -/
import Derived.Test.YthokdbcpkmcieaaBrdWA
namespace Go.Proofs.Ythokdbcpkmcieaa
open Go Go.RowKit
/-- What the board at block bb knows of those who speak to it. -/
structure TalkAt (w : World) (bb : Nat) (t : Talk) : Prop where
  t0 : w.cell? ⟨bb, 1352, none⟩ = some (.bool t.opn)
  t1 : w.cell? ⟨bb, 1353, none⟩ = some (.int .u16 (t.ses : Int))
  t2 : w.cell? ⟨bb, 1354, none⟩ = some (.int .u8 (t.num.toNat : Int))
  t3 : w.cell? ⟨bb, 1355, none⟩ = some (.string (txt t.ans))
  fz : ∀ j, w.frozen? ⟨bb, j, none⟩ = false
theorem TalkAt.same {w w' : World} {bb : Nat} {t : Talk} (h : TalkAt w bb t) (e : ∀ j, 1352 ≤ j → j < 1356 → w'.cell? ⟨bb, j, none⟩ = w.cell? ⟨bb, j, none⟩) (hf : ∀ j, w'.frozen? ⟨bb, j, none⟩ = w.frozen? ⟨bb, j, none⟩) : TalkAt w' bb t :=
  ⟨(e _ (by omega) (by omega)).trans h.t0, (e _ (by omega) (by omega)).trans h.t1, (e _ (by omega) (by omega)).trans h.t2, (e _ (by omega) (by omega)).trans h.t3, fun j => (hf j).trans (h.fz j)⟩
theorem TalkAt.within {w w' : World} {bb : Nat} {t : Talk} (h : TalkAt w bb t) (hw : Within w w' bb 1 1267) : TalkAt w' bb t := h.same (fun j h1 _ => hw.cells j (by omega)) hw.fz
theorem TalkAt.kept {w w' : World} {bb : Nat} {t : Talk} (h : TalkAt w bb t) (e : w'.heap[bb]? = w.heap[bb]?) : TalkAt w' bb t :=
  h.same (fun j _ _ => World.cell?_of_block (a := ⟨bb, j, none⟩) e) (fun j => World.frozen?_of_block (a := ⟨bb, j, none⟩) e)
/-- Whether the board is on, and its ear, are as they were. -/
structure KeptE (w w' : World) (bb : Nat) : Prop where
  grown : w.grownBy w' (some bb)
  cells : ∀ j, j = 0 ∨ (1268 ≤ j ∧ j < 1352) → w'.cell? ⟨bb, j, none⟩ = w.cell? ⟨bb, j, none⟩
  fz : ∀ j, w'.frozen? ⟨bb, j, none⟩ = w.frozen? ⟨bb, j, none⟩
theorem KeptE.refl (w : World) (bb : Nat) : KeptE w w bb := ⟨grown_refl _ _, fun _ _ => rfl, fun _ => rfl⟩
theorem KeptE.trans {w w1 w2 : World} {bb : Nat} (h : KeptE w w1 bb) (h2 : KeptE w1 w2 bb) : KeptE w w2 bb :=
  ⟨h.grown.trans h2.grown, fun j hj => (h2.cells j hj).trans (h.cells j hj), fun j => (h2.fz j).trans (h.fz j)⟩
theorem Within.keptE {w w' : World} {bb : Nat} (h : Within w w' bb 1 1267) : KeptE w w' bb := ⟨h.grown, fun j hj => h.cells j (by omega), h.fz⟩
theorem KeptE.set (w : World) (bb j : Nat) (v : Value) (h1 : 1352 ≤ j) : KeptE w (w.setCell ⟨bb, j, none⟩ v) bb :=
  ⟨grown_set _ _ _ _, fun k hk => World.cell?_setCell_other _ _ _ _ (by simp <;> omega), fun k => by simp⟩
theorem KeptE.below {w w' : World} {bb : Nat} (hb : Below w.heap.size w w') (hl : bb < w.heap.size) : KeptE w w' bb := (Within.below (o := 1) (n := 1267) hb hl).keptE
theorem KeptE.drew {w w' : World} {bb : Nat} (h : KeptE w w' bb) : KeptE w w'.drew bb := ⟨grown_drew h.grown, h.cells, h.fz⟩
theorem KeptE.drewN {w w' : World} {bb : Nat} (h : KeptE w w' bb) (m : Nat) : KeptE w (w'.drewN m) bb := ⟨grown_drewN h.grown m, h.cells, h.fz⟩
def AnsEnd (w : World) (bb : Nat) (r : Pow × List UInt8 × Talk × List UInt8 × Bool) (e : Ending) (w' : World) : Prop :=
  e = endT r.2.2.2.2 r.2.2.2.1 ∧ StoAt w' bb r.1 r.2.1 ∧ TalkAt w' bb r.2.2.1 ∧ KeptE w w' bb
set_option maxRecDepth 100000 in
set_option maxHeartbeats 2000000 in
theorem answer_none (bb : Nat) (p : Pow) (mem : List UInt8) (t : Talk) (q : ByteArray) (w : World) (h : StoAt w bb p mem) (ht : TalkAt w bb t) (hq : q.size ≤ 4000000) (hk : askOk q.data.toList = false) :
    Calls Try.prog 53 #[.pointer (some ⟨bb, 0, none⟩), .string q] w (AnsEnd w bb (p, mem, t, [], true)) := by
  have HA := hideIt (isAsking_any q w hq)
  rw [hk] at HA
  have HS := hideIt (And.intro h ht)
  clear h ht
  go_enter Try.func53, Try.ntmps53
  go_wp2_with fail
  refine HA.out.mono ?_
  rintro e w1 ⟨rfl, rfl⟩
  go_wp2
  go_ret
  exact ⟨rfl, HS.out.1, HS.out.2, KeptE.refl _ _⟩
/-- A message that asks something: its parts. -/
theorem ask_parts {q : ByteArray} (hk : askOk q.data.toList = true) : 4 ≤ q.size ∧ q.size ≤ 69 ∧ (q.data.toList.getD 3 0 = 2 → q.size = 69) ∧ (q.data.toList.getD 3 0 = 3 → q.size = 5) := by
  have hlen : q.data.toList.length = q.size := by rw [Array.length_toList]; rfl
  unfold askOk at hk
  rw [hlen] at hk
  split at hk
  · cases hk
  · rename_i h4
    split at hk
    · rename_i h1
      have : q.size = 4 := by simpa using hk
      refine ⟨by omega, by omega, fun h => ?_, fun h => ?_⟩
      · rw [h] at h1; exact absurd h1 (by decide)
      · rw [h] at h1; exact absurd h1 (by decide)
    · split at hk
      · rename_i h2
        have : q.size = 69 := by simpa using hk
        refine ⟨by omega, by omega, fun _ => this, fun h => ?_⟩
        rw [h] at h2; exact absurd h2 (by decide)
      · rename_i h2
        split at hk
        · have : q.size = 5 := by simpa using hk
          exact ⟨by omega, by omega, fun h => absurd h h2, fun _ => this⟩
        · cases hk
set_option maxRecDepth 100000 in
set_option maxHeartbeats 2000000 in
theorem answer_still (bb : Nat) (p : Pow) (mem : List UInt8) (t : Talk) (q : ByteArray) (w : World) (h : StoAt w bb p mem) (ht : TalkAt w bb t) (_hts : t.ses < 65536) (hk : askOk q.data.toList = true) (h1 : q.data.toList.getD 3 0 ≠ 1)
    (hway : (t.opn = false ∨ sesOf q.data.toList ≠ t.ses) ∨ q.data.toList.getD 2 0 = t.num ∨ q.data.toList.getD 2 0 ≠ t.num + 1) :
    Calls Try.prog 53 #[.pointer (some ⟨bb, 0, none⟩), .string q] w (AnsEnd w bb (answerF p mem t q.data.toList)) := by
  obtain ⟨k1, k2, k3, k4⟩ := ask_parts hk
  have HA := hideIt (isAsking_any q w (by omega))
  rw [hk] at HA
  have g0 : q.data.toList.getD 0 0 = q[0]'(by omega) := ba_get q 0 (by omega)
  have g1 : q.data.toList.getD 1 0 = q[1]'(by omega) := ba_get q 1 (by omega)
  have g2 : q.data.toList.getD 2 0 = q[2]'(by omega) := ba_get q 2 (by omega)
  have g3 : q.data.toList.getD 3 0 = q[3]'(by omega) := ba_get q 3 (by omega)
  have hs : sesOf q.data.toList = (q[0]'(by omega)).toNat * 256 + (q[1]'(by omega)).toNat := by unfold sesOf; rw [g0, g1]
  have HF := hideIt (show answerF p mem t q.data.toList = (p, mem, t, if (t.opn = false ∨ sesOf q.data.toList ≠ t.ses) then [] else if q.data.toList.getD 2 0 = t.num then t.ans else [], true) by
    unfold answerF
    rw [if_neg (by rw [hk]; simp)]
    by_cases c1 : t.opn = false ∨ sesOf q.data.toList ≠ t.ses
    · rw [if_pos ⟨h1, c1⟩, if_pos c1]
    · rw [if_neg (fun e => c1 e.2), if_neg c1]
      by_cases c2 : q.data.toList.getD 2 0 = t.num
      · rw [if_pos ⟨h1, c2⟩, if_pos c2]
      · have c3 : q.data.toList.getD 2 0 ≠ t.num + 1 := by
          rcases hway with h | h | h
          · exact absurd h c1
          · exact absurd h c2
          · exact h
        rw [if_neg (fun e => c2 e.2), if_pos ⟨h1, c3⟩, if_neg c2])
  rw [HF.out]
  rw [g2, hs] at hway ⊢
  rw [g3] at h1
  obtain ⟨x0, hx0⟩ : ∃ x, q[0]'(by omega) = x := ⟨_, rfl⟩
  obtain ⟨x1, hx1⟩ : ∃ x, q[1]'(by omega) = x := ⟨_, rfl⟩
  obtain ⟨x2, hx2⟩ : ∃ x, q[2]'(by omega) = x := ⟨_, rfl⟩
  obtain ⟨x3, hx3⟩ : ∃ x, q[3]'(by omega) = x := ⟨_, rfl⟩
  rw [hx2, hx0, hx1] at hway ⊢
  rw [hx3] at h1
  have hl0 := x0.toNat_lt
  have hl1 := x1.toNat_lt
  have hor := or_bytes2 (x0.toNat : Int) (x1.toNat : Int) (by omega) (by omega) (by omega) (by omega)
  have hn1 : ((x3.toNat : Int) == 1) = false := (u8_eq x3 1 (by decide)).trans (decide_eq_false h1)
  have t0 := ht.t0
  have t1 := ht.t1
  have t2 := ht.t2
  have t3 := ht.t3
  have HS := hideIt (And.intro h ht)
  have q4 : (4 : Int) ≤ (q.size : Int) := by omega
  have q69 : (q.size : Int) ≤ 69 := by omega
  clear h ht HF hk g0 g1 g2 g3 hs k3 k4 h1
  by_cases c0 : t.opn = false
  · rw [if_pos (.inl c0)]
    rw [c0] at t0
    clear hway
    go_enter Try.func53, Try.ntmps53
    go_wp2_with fail
    refine HA.out.mono ?_
    rintro e w1 ⟨rfl, rfl⟩
    go_wp2
    go_quiet (fail)
    go_wp2
    go_quiet (fail)
    go_wp2
    go_ret
    exact ⟨rfl, HS.out.1.kept rfl (Nat.le_refl _), HS.out.2.kept rfl, (KeptE.refl _ _).drewN _⟩
  · have c0' : t.opn = true := by simpa using c0
    rw [c0'] at t0
    by_cases cs : x0.toNat * 256 + x1.toNat = t.ses
    · rw [if_neg (fun e => e.elim c0 (fun e => e cs))]
      have hse : ((256 : Int) * (x0.toNat : Int) + (x1.toNat : Int) != (t.ses : Int)) = false := by simp; omega
      obtain ⟨nx, hnx⟩ : ∃ nx, (t.num + 1).toNat = nx := ⟨_, rfl⟩
      have hnl := t.num.toNat_lt
      have hwr : IntKind.u8.wrap ((t.num.toNat : Int) + 1) = (nx : Int) := by
        rw [← hnx, UInt8.toNat_add, IntKind.wrap_u8]
        show _ = (((t.num.toNat + 1) % 256 : Nat) : Int)
        omega
      by_cases cn : x2 = t.num
      · rw [if_pos cn]
        have hsa : ((x2.toNat : Int) == (t.num.toNat : Int)) = true := by rw [cn]; simp
        clear hway hnx
        go_enter Try.func53, Try.ntmps53
        go_wp2_with fail
        refine HA.out.mono ?_
        rintro e w1 ⟨rfl, rfl⟩
        go_wp2
        go_quiet (fail)
        go_wp2
        go_quiet (fail)
        go_wp2
        go_ret
        exact ⟨rfl, HS.out.1.kept rfl (Nat.le_refl _), HS.out.2.kept rfl, (KeptE.refl _ _).drewN _⟩
      · rw [if_neg cn]
        have hsa : ((x2.toNat : Int) == (t.num.toNat : Int)) = false := (int_eq x2 t.num).trans (decide_eq_false cn)
        have cx : x2 ≠ t.num + 1 := by
          rcases hway with h | h | h
          · exact h.elim (fun e => absurd e c0) (fun e => absurd cs e)
          · exact absurd h cn
          · exact h
        have hnx2 : ((x2.toNat : Int) != (nx : Int)) = true := by
          have : ¬ x2.toNat = nx := fun e => cx (UInt8.toNat_inj.1 (by rw [e, hnx]))
          simp; omega
        clear hway hnx cx
        go_enter Try.func53, Try.ntmps53
        go_wp2_with fail
        refine HA.out.mono ?_
        rintro e w1 ⟨rfl, rfl⟩
        go_wp2
        go_quiet (fail)
        go_wp2
        go_quiet (fail)
        go_wp2
        go_ret
        exact ⟨rfl, HS.out.1.kept rfl (Nat.le_refl _), HS.out.2.kept rfl, (KeptE.refl _ _).drewN _⟩
    · rw [if_pos (.inr cs)]
      have hse : ((256 : Int) * (x0.toNat : Int) + (x1.toNat : Int) != (t.ses : Int)) = true := by simp; omega
      clear hway
      go_enter Try.func53, Try.ntmps53
      go_wp2_with fail
      refine HA.out.mono ?_
      rintro e w1 ⟨rfl, rfl⟩
      go_wp2
      go_quiet (fail)
      go_wp2
      go_quiet (fail)
      go_wp2
      go_ret
      exact ⟨rfl, HS.out.1.kept rfl (Nat.le_refl _), HS.out.2.kept rfl, (KeptE.refl _ _).drewN _⟩
end Go.Proofs.Ythokdbcpkmcieaa
