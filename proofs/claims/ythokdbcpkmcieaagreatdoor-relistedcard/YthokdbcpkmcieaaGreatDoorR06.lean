/- What an assembled source says of its image: where an instruction starts, its bytes are laid. Images in memory; IsWhole, laidFrom. Coded, plainly: the line that Decode answers, and what Assemble makes of it behind an ORG. -/
import Derived.Test.YthokdbcpkmcieaaGreatDoorR05
import Derived.Test.YthokdbcpkmcieaaGreatDoorR03
import Derived.Test.YthokdbcpkmcieaaGreatDoorA10
import Derived.BigQuiet
namespace Go.Proofs.YthokdbcpkmcieaaGreatDoor
open Go Go.RowKit Go.Shelf Go.WideMaps Go.Maps
def szS (st : St) : Nat := sizeS st.x.task st.x.vals.length st.x.ins.size
def inS (st : St) (k : Nat) : Prop := st.pl ≤ k ∧ k < st.pl + szS st
theorem setR_at (l : List Bool) (p : Nat) : ∀ (n k : Nat), p + n ≤ l.length → ((setR l p n)[k]? = some true ↔ l[k]? = some true ∨ (p ≤ k ∧ k < p + n))
  | 0, k, _ => by
    show l[k]? = some true ↔ _
    constructor
    · exact .inl
    · rintro (h | h)
      · exact h
      · omega
  | n + 1, k, h => by
    have ih := setR_at l p n k (by omega)
    have hl := setR_len l p n
    unfold setR
    rw [List.getElem?_set]
    by_cases e : p + n = k
    · rw [if_pos e, if_pos (by omega)]
      constructor
      · exact fun _ => .inr (by omega)
      · exact fun _ => rfl
    · rw [if_neg e, ih]
      constructor
      · rintro (h | h)
        · exact .inl h
        · exact .inr (by omega)
      · rintro (h | h)
        · exact .inl h
        · exact .inr (by omega)
theorem set_at (l : List Bool) (p k : Nat) (h : p < l.length) : ((l.set p true)[k]? = some true ↔ l[k]? = some true ∨ p = k) := by
  rw [List.getElem?_set]
  by_cases e : p = k
  · rw [if_pos e, if_pos h]
    exact ⟨fun _ => .inr e, fun _ => rfl⟩
  · rw [if_neg e]
    exact ⟨.inl, fun h => h.resolve_right e⟩
/-- What reading a statement changes. -/
structure StepOk (a b : Asm) (st : St) : Prop where
  ll : b.laid.length = 1024
  sl : b.starts.length = 1024
  laid : ∀ k, b.laid[k]? = some true ↔ a.laid[k]? = some true ∨ inS st k
  starts : ∀ k, b.starts[k]? = some true ↔ a.starts[k]? = some true ∨ (st.x.task = 6 ∧ st.pl = k)
  fits : szS st ≠ 0 → st.pl + szS st ≤ 1024
  free : ∀ k, inS st k → ¬ a.laid[k]? = some true
  bytes : b.bytes = a.bytes
theorem step_same {a b : Asm} {st : St} (hl : a.laid.length = 1024) (hs : a.starts.length = 1024) (h1 : b.laid = a.laid) (h2 : b.starts = a.starts) (h3 : b.bytes = a.bytes) (hz : szS st = 0) (ht : st.x.task ≠ 6) : StepOk a b st :=
  ⟨by rw [h1]; exact hl, by rw [h2]; exact hs, fun k => by
    rw [h1]
    exact ⟨.inl, fun h => h.resolve_right (fun e => by unfold inS at e; omega)⟩, fun k => by
    rw [h2]
    exact ⟨.inl, fun h => h.resolve_right (fun e => ht e.1)⟩, fun h => absurd hz h, fun k e => by unfold inS at e; omega, h3⟩
theorem settle_step {a b : Asm} {lb : ByteArray} {x : Stm} (h : settleF a lb x = .ok b) (hl : a.laid.length = 1024) (hs : a.starts.length = 1024) (h6 : x.task = 6 → 1 ≤ x.ins.size) (i : Nat) : StepOk a b ⟨i, a.pl, lb, x⟩ := by
  have hL := labA_laid a lb
  unfold labA at hL
  obtain ⟨q1, q2, q3⟩ := hL
  unfold settleF at h
  split at h
  · cases h
  · split at h
    · cases h
    · split at h
      · cases h
      · simp only at h
        split at h
        · rename_i ht
          split at h
          · cases h
            exact step_same hl hs q1 q2 q3 (by unfold szS sizeS; simp only; rw [ht]; rfl) (by simp only; omega)
          · cases h
        · split at h
          · rename_i ht
            split at h
            · cases h
              exact step_same hl hs q1 q2 q3 (by unfold szS sizeS; simp only; rw [ht]; rfl) (by simp only; omega)
            · cases h
          · split at h
            · rename_i ht
              split at h
              · cases h
                exact step_same hl hs q1 q2 q3 (by unfold szS sizeS; simp only; rw [ht]; rfl) (by simp only; omega)
              · cases h
            · split at h
              · cases h
              · rename_i hsp
                cases h
                unfold spanF at hsp
                split at hsp
                · cases hsp
                · rename_i hsz
                  split at hsp
                  · cases hsp
                  · rename_i hfr
                    have hz : szS ⟨i, a.pl, lb, x⟩ = sizeS x.task x.vals.length x.ins.size := rfl
                    refine ⟨?_, ?_, fun k => ?_, fun k => ?_, fun _ => ?_, fun k hk hl2 => ?_, q3⟩
                    · show (setR a.laid a.pl _).length = 1024
                      rw [setR_len]
                      exact hl
                    · show (if x.task = 6 then a.starts.set a.pl true else a.starts).length = 1024
                      split
                      · rw [List.length_set]; exact hs
                      · exact hs
                    · show (setR a.laid a.pl _)[k]? = some true ↔ _
                      rw [setR_at _ _ _ _ (by omega)]
                      exact Iff.rfl
                    · show (if x.task = 6 then a.starts.set a.pl true else a.starts)[k]? = some true ↔ a.starts[k]? = some true ∨ (x.task = 6 ∧ a.pl = k)
                      by_cases ht : x.task = 6
                      · have h1 := h6 ht
                        have h2 : sizeS x.task x.vals.length x.ins.size = x.ins.size := by unfold sizeS; rw [ht]; rfl
                        rw [if_pos ht, set_at _ _ _ (by omega)]
                        exact ⟨fun h => h.imp id (fun e => ⟨ht, e⟩), fun h => h.imp id (fun e => e.2)⟩
                      · rw [if_neg ht]
                        exact ⟨.inl, fun h => h.resolve_right (fun e => ht e.1)⟩
                    · rw [hz]
                      show a.pl + _ ≤ 1024
                      omega
                    · unfold inS at hk
                      rw [hz] at hk
                      simp only at hk
                      refine hfr ?_
                      rw [List.mem_iff_getElem?]
                      refine ⟨k - a.pl, ?_⟩
                      rw [List.getElem?_take, if_pos (by omega), List.getElem?_drop, show a.pl + (k - a.pl) = k by omega]
                      exact hl2
/-- What reading all lines comes to. -/
structure RdOk (a b : Asm) (sts : List St) : Prop where
  ll : b.laid.length = 1024
  sl : b.starts.length = 1024
  laid : ∀ k, b.laid[k]? = some true ↔ a.laid[k]? = some true ∨ ∃ st ∈ sts, inS st k
  starts : ∀ k, b.starts[k]? = some true ↔ a.starts[k]? = some true ∨ ∃ st ∈ sts, st.x.task = 6 ∧ st.pl = k
  fits : ∀ st ∈ sts, szS st ≠ 0 → st.pl + szS st ≤ 1024
  free : ∀ st ∈ sts, ∀ k, inS st k → ¬ a.laid[k]? = some true
  apart : sts.Pairwise fun s t => ∀ k, inS s k → ¬ inS t k
  bytes : b.bytes = a.bytes
  stm : ∀ st ∈ sts, ∃ t, parseL t = some (st.lb, st.x)
  line : ∀ st ∈ sts, 1 ≤ st.line
theorem ins_one {t lb : ByteArray} {x : Stm} (h : parseL t = some (lb, x)) (ht : x.task = 6) : 1 ≤ x.ins.size := by
  have := ((parseL_ok h).ins ht).size
  rw [this]
  unfold sizeK
  omega
theorem rd_ok : ∀ (l : List ByteArray) (i : Nat) (a b : Asm) (sts : List St), rdL i a l = .ok (sts, b) → a.laid.length = 1024 → a.starts.length = 1024 → RdOk a b sts
  | [], i, a, b, sts, h, hl, hs => by
    simp only [rdL, Except.ok.injEq, Prod.mk.injEq] at h
    obtain ⟨rfl, rfl⟩ := h
    exact ⟨hl, hs, fun k => ⟨.inl, fun h => h.resolve_right (fun ⟨_, h, _⟩ => by cases h)⟩, fun k => ⟨.inl, fun h => h.resolve_right (fun ⟨_, h, _⟩ => by cases h)⟩, (fun _ h => by cases h), (fun _ h => by cases h), List.Pairwise.nil, rfl, (fun _ h => by cases h), (fun _ h => by cases h)⟩
  | t :: l, i, a, b, sts, h, hl, hs => by
    simp only [rdL] at h
    split at h
    · cases h
    · rename_i q hq
      split at h
      · cases h
      · rename_i a1 hset
        split at h
        · cases h
        · rename_i r hr
          simp only [Except.ok.injEq, Prod.mk.injEq] at h
          obtain ⟨rfl, rfl⟩ := h
          have hst := settle_step hset hl hs (fun ht => ins_one hq ht) (i + 1)
          have ih := rd_ok l (i + 1) a1 r.2 r.1 hr hst.ll hst.sl
          refine ⟨ih.ll, ih.sl, fun k => ?_, fun k => ?_, fun st hm => ?_, fun st hm => ?_, ?_, ih.bytes.trans hst.bytes, fun st hm => ?_, fun st hm => ?_⟩
          · rw [ih.laid k, hst.laid k]
            constructor
            · rintro ((h | h) | ⟨st, hm, h⟩)
              · exact .inl h
              · exact .inr ⟨_, List.mem_cons_self, h⟩
              · exact .inr ⟨st, List.mem_cons_of_mem _ hm, h⟩
            · rintro (h | ⟨st, hm, h⟩)
              · exact .inl (.inl h)
              · rcases List.mem_cons.1 hm with rfl | hm
                · exact .inl (.inr h)
                · exact .inr ⟨st, hm, h⟩
          · rw [ih.starts k, hst.starts k]
            constructor
            · rintro ((h | h) | ⟨st, hm, h⟩)
              · exact .inl h
              · exact .inr ⟨_, List.mem_cons_self, h⟩
              · exact .inr ⟨st, List.mem_cons_of_mem _ hm, h⟩
            · rintro (h | ⟨st, hm, h⟩)
              · exact .inl (.inl h)
              · rcases List.mem_cons.1 hm with rfl | hm
                · exact .inl (.inr h)
                · exact .inr ⟨st, hm, h⟩
          · rcases List.mem_cons.1 hm with rfl | hm
            · exact hst.fits
            · exact ih.fits st hm
          · rcases List.mem_cons.1 hm with rfl | hm
            · exact hst.free
            · exact fun k hk hl2 => ih.free st hm k hk ((hst.laid k).2 (.inl hl2))
          · refine List.pairwise_cons.2 ⟨fun st hm k h1 h2 => ?_, ih.apart⟩
            exact ih.free st hm k h2 ((hst.laid k).2 (.inr h1))
          · rcases List.mem_cons.1 hm with rfl | hm
            · exact ⟨t, hq⟩
            · exact ih.stm st hm
          · rcases List.mem_cons.1 hm with rfl | hm
            · exact Nat.le_add_left _ _
            · exact ih.line st hm
theorem putAt_at (l : List UInt8) (p : Nat) (bs : List Int) (h : p + bs.length ≤ l.length) (k : Nat) : (putAt l p bs)[k]? = if p ≤ k ∧ k < p + bs.length then some (toB (bs.getD (k - p) 0)) else l[k]? := by
  unfold putAt splice
  rw [List.length_map]
  by_cases h1 : k < p
  · rw [if_neg (by omega), List.getElem?_append_left (by rw [List.length_take]; omega), List.getElem?_take, if_pos h1]
  · rw [List.getElem?_append_right (by rw [List.length_take]; omega), List.length_take, show min p l.length = p by omega]
    by_cases h2 : k < p + bs.length
    · rw [if_pos ⟨by omega, h2⟩, List.getElem?_append_left (by rw [List.length_map]; omega), List.getElem?_map, List.getElem?_eq_getElem (show k - p < bs.length by omega), List.getD_eq_getElem?_getD, List.getElem?_eq_getElem (show k - p < bs.length by omega)]
      rfl
    · rw [if_neg (by omega), List.getElem?_append_right (by rw [List.length_map]; omega), List.length_map, List.getElem?_drop, show p + bs.length + (k - p - bs.length) = k by omega]
theorem putAt_len (l : List UInt8) (p : Nat) (bs : List Int) (h : p + bs.length ≤ l.length) : (putAt l p bs).length = l.length := by
  unfold putAt splice
  simp
  omega
/-- What filling all statements comes to. -/
theorem fl_ok : ∀ (sts : List St) (a b : Asm), flL a sts = .ok b → a.bytes.length = 1024 → (∀ st ∈ sts, ∃ t, parseL t = some (st.lb, st.x)) → (∀ st ∈ sts, szS st ≠ 0 → st.pl + szS st ≤ 1024) → (sts.Pairwise fun s t => ∀ k, inS s k → ¬ inS t k) →
    b.laid = a.laid ∧ b.starts = a.starts ∧ b.bytes.length = 1024 ∧ (∀ k, (∀ st ∈ sts, ¬ inS st k) → b.bytes[k]? = a.bytes[k]?) ∧ ∀ st ∈ sts, st.x.task = 6 → ∃ bs, bytS a.nm st.pl st.x = some bs ∧ bs.length = szS st ∧ U8s bs ∧ ∀ k, k < bs.length → b.bytes[st.pl + k]? = some (toB (bs.getD k 0))
  | [], a, b, h, hb, _, _, _ => by
    cases h
    exact ⟨rfl, rfl, hb, fun _ _ => rfl, (fun _ h => by cases h)⟩
  | st :: l, a, b, h, hb, hp, hf, hd => by
    simp only [flL] at h
    split at h
    · cases h
    · rename_i a1 hfill
      have hp' := fun s hs => hp s (List.mem_cons_of_mem st hs)
      have hf' := fun s hs => hf s (List.mem_cons_of_mem st hs)
      have hd' := List.pairwise_cons.1 hd
      obtain ⟨t, ht⟩ := hp st List.mem_cons_self
      have hF := parseL_ok ht
      unfold fillF at hfill
      split at hfill
      · rename_i hz
        cases hfill
        obtain ⟨r1, r2, r3, r4, r5⟩ := fl_ok l a b h hb hp' hf' hd'.2
        refine ⟨r1, r2, r3, fun k hk => r4 k (fun s hs => hk s (List.mem_cons_of_mem _ hs)), fun s hs h6 => ?_⟩
        rcases List.mem_cons.1 hs with rfl | hs
        · exfalso
          have h1 := ins_one ht h6
          have : sizeS s.x.task s.x.vals.length s.x.ins.size = s.x.ins.size := by unfold sizeS; rw [h6]; rfl
          omega
        · exact r5 s hs h6
      · rename_i hz
        split at hfill
        · cases hfill
        · split at hfill
          · cases hfill
          · rename_i bs hbs
            have htask : st.x.task = 2 ∨ st.x.task = 3 ∨ st.x.task = 6 := by
              unfold sizeS at hz
              by_cases e2 : st.x.task = 2
              · exact .inl e2
              · by_cases e3 : st.x.task = 3
                · exact .inr (.inl e3)
                · by_cases e6 : st.x.task = 6
                  · exact .inr (.inr e6)
                  · rw [if_neg e2, if_neg e3, if_neg e6] at hz
                    exact absurd rfl hz
            obtain ⟨hlen, hu8⟩ := bytS_len hbs htask (fun e => hF.ins e)
            have hlen' : bs.length = szS st := hlen
            have hfit := hf st List.mem_cons_self hz
            have hb1 : (putAt a.bytes st.pl bs).length = 1024 := by rw [putAt_len _ _ _ (by omega)]; exact hb
            cases hfill
            obtain ⟨r1, r2, r3, r4, r5⟩ := fl_ok l { a with bytes := putAt a.bytes st.pl bs } b h hb1 hp' hf' hd'.2
            refine ⟨r1, r2, r3, fun k hk => ?_, fun s hs h6 => ?_⟩
            · rw [r4 k (fun s hs => hk s (List.mem_cons_of_mem _ hs))]
              show (putAt a.bytes st.pl bs)[k]? = _
              rw [putAt_at _ _ _ (by omega), if_neg]
              intro e
              exact hk st List.mem_cons_self ⟨e.1, by omega⟩
            · rcases List.mem_cons.1 hs with rfl | hs
              · refine ⟨bs, hbs, hlen', hu8, fun k hk => ?_⟩
                have hin : inS s (s.pl + k) := ⟨by omega, by omega⟩
                rw [r4 (s.pl + k) (fun s2 hs2 => hd'.1 s2 hs2 _ hin)]
                show (putAt a.bytes s.pl bs)[s.pl + k]? = _
                rw [putAt_at _ _ _ (by omega), if_pos ⟨by omega, by omega⟩, show s.pl + k - s.pl = k by omega]
              · exact r5 s hs h6
/-- Where an instruction starts, all its bytes are laid, and the first of them is a code of that many bytes. -/
theorem asm_starts {src : ByteArray} {b : Asm} (h : asmF src = .ok b) : b.laid.length = 1024 ∧ b.starts.length = 1024 ∧ b.bytes.length = 1024 ∧ ∀ i, b.starts[i]? = some true → ∃ n, 1 ≤ n ∧ i + n ≤ 1024 ∧ (∀ k, k < n → b.laid[i + k]? = some true) ∧ ∃ c : UInt8, b.bytes[i]? = some c ∧ rowIx (c.toNat : Int) ≠ 111 ∧ sizeOf' (kdOf (c.toNat : Int)) = n := by
  have hsz : src.size ≤ 2000 := by
    by_cases e : src.size ≤ 2000
    · exact e
    · unfold asmF at h
      rw [if_pos (by omega)] at h
      cases h
  rw [asmF_asmL hsz] at h
  unfold asmL at h
  split at h
  · cases h
  · rename_i r hr
    have h0l : asm0.laid.length = 1024 := List.length_replicate
    have h0b : asm0.bytes.length = 1024 := List.length_replicate
    have hrd := rd_ok _ 0 asm0 r.2 r.1 hr h0l h0l
    obtain ⟨f1, f2, f3, f4, f5⟩ := fl_ok r.1 r.2 b h (by rw [hrd.bytes]; exact h0b) hrd.stm hrd.fits hrd.apart
    refine ⟨by rw [f1]; exact hrd.ll, by rw [f2]; exact hrd.sl, f3, fun i hi => ?_⟩
    rw [f2, hrd.starts i] at hi
    rcases hi with hi | ⟨st, hm, h6, rfl⟩
    · exfalso
      have : bF[i]? = some true := hi
      unfold bF at this
      rw [List.getElem?_replicate] at this
      split at this <;> cases this
    · obtain ⟨bs, g1, g2, g3, g4⟩ := f5 st hm h6
      obtain ⟨t, ht⟩ := hrd.stm st hm
      have hone := ins_one ht h6
      have hsz2 : szS st = st.x.ins.size := by unfold szS sizeS; rw [h6]; rfl
      obtain ⟨c, rest, rfl, c0, c1, c2, c3⟩ := bytS_code g1 h6 (parseL_reg ht h6) ((parseL_ok ht).ins h6)
      refine ⟨st.x.ins.size, hone, ?_, fun k hk => ?_, toB c, ?_, ?_, ?_⟩
      · have := hrd.fits st hm (by omega)
        omega
      · rw [f1, hrd.laid]
        exact .inr ⟨st, hm, by omega, by omega⟩
      · have := g4 0 (by simp)
        simpa using this
      · rw [toB_nat ⟨c0, c1⟩]
        exact c2
      · rw [toB_nat ⟨c0, c1⟩]
        exact c3
/-- An error has a line, or the source is too long. -/
theorem asm_err {src : ByteArray} {q : Int × Nat} (h : asmF src = .error q) : 0 < q.2 ∨ q.1 = 1 := by
  by_cases e : src.size ≤ 2000
  · left
    rw [asmF_asmL e] at h
    unfold asmL at h
    have hrdE : ∀ (l : List ByteArray) (i : Nat) (a : Asm) (q : Int × Nat), rdL i a l = .error q → 0 < q.2 := by
      intro l
      induction l with
      | nil => intro i a q h; cases h
      | cons t l ih =>
        intro i a q h
        simp only [rdL] at h
        split at h
        · cases h; exact Nat.succ_pos _
        · split at h
          · cases h; exact Nat.succ_pos _
          · split at h
            · rename_i e he
              cases h
              exact ih _ _ _ he
            · cases h
    have hflE : ∀ (l : List St) (a : Asm) (q : Int × Nat), (∀ st ∈ l, 1 ≤ st.line) → flL a l = .error q → 0 < q.2 := by
      intro l
      induction l with
      | nil => intro a q _ h; cases h
      | cons st l ih =>
        intro a q hl h
        simp only [flL] at h
        split at h
        · cases h
          exact hl st List.mem_cons_self
        · exact ih _ _ (fun s hs => hl s (List.mem_cons_of_mem _ hs)) h
    split at h
    · rename_i e he
      cases h
      exact hrdE _ _ _ _ he
    · rename_i r hr
      have h0l : asm0.laid.length = 1024 := List.length_replicate
      have hrd := rd_ok _ 0 asm0 r.2 r.1 hr h0l h0l
      exact hflE _ _ _ hrd.line h
  · right
    unfold asmF at h
    rw [if_pos (by omega)] at h
    cases h
    rfl
end Go.Proofs.YthokdbcpkmcieaaGreatDoor
namespace Go.Proofs.YthokdbcpkmcieaaGreatDoor
open Go Go.RowKit
/-- An image's three rows. -/
structure ImgR (w : World) (bb bo lb lo sb so : Nat) (B : List UInt8) (L S : List Bool) : Prop where
  y : ∀ k (h : k < B.length), w.cell? ⟨bb, bo + k, none⟩ = some (.int .u8 (B[k].toNat : Int))
  l : ∀ k (h : k < L.length), w.cell? ⟨lb, lo + k, none⟩ = some (.bool L[k])
  s : ∀ k (h : k < S.length), w.cell? ⟨sb, so + k, none⟩ = some (.bool S[k])
  bl : B.length = 1024
  ll : L.length = 1024
  sl : S.length = 1024
  b1 : bb < w.heap.size
  b2 : lb < w.heap.size
  b3 : sb < w.heap.size
theorem ImgR.below {w w' : World} {bb bo lb lo sb so : Nat} {B : List UInt8} {L S : List Bool} (h : ImgR w bb bo lb lo sb so B L S) (hb : Below w.heap.size w w') : ImgR w' bb bo lb lo sb so B L S :=
  ⟨fun k hk => (World.cell?_of_block (a := ⟨bb, bo + k, none⟩) (hb.block bb h.b1)).trans (h.y k hk), fun k hk => (World.cell?_of_block (a := ⟨lb, lo + k, none⟩) (hb.block lb h.b2)).trans (h.l k hk), fun k hk => (World.cell?_of_block (a := ⟨sb, so + k, none⟩) (hb.block sb h.b3)).trans (h.s k hk),
    h.bl, h.ll, h.sl, Nat.lt_of_lt_of_le h.b1 hb.size, Nat.lt_of_lt_of_le h.b2 hb.size, Nat.lt_of_lt_of_le h.b3 hb.size⟩
/-- The image as a value. -/
abbrev imV (bb bo bc lb lo lc sb so sc : Nat) : Value := .agg #[.slice (some ⟨bb, bo, none⟩) 1024 bc, .slice (some ⟨lb, lo, none⟩) 1024 lc, .slice (some ⟨sb, so, none⟩) 1024 sc]
/-- The box of an image. -/
theorem im_box (w : World) (v0 v1 v2 : Value) : ∃ W, w.alloc (.cells #[v0, v1, v2] 35) = W ∧ Below w.heap.size w W ∧ W.heap.size = w.heap.size + 1 ∧ W.cell? ⟨w.heap.size, 0, none⟩ = some v0 ∧ W.cell? ⟨w.heap.size, 1, none⟩ = some v1 ∧ W.cell? ⟨w.heap.size, 2, none⟩ = some v2 := by
  have hh := heap_alloc_new w (.cells #[v0, v1, v2] 35)
  refine ⟨_, rfl, (Below.refl _ _).alloc (Nat.le_refl _) _, by simp, ?_, ?_, ?_⟩
  · rw [cell_of_row _ _ _ _ _ (0, 0) hh]; rfl
  · rw [cell_of_row _ _ _ _ _ (0, 0) hh]; rfl
  · rw [cell_of_row _ _ _ _ _ (0, 0) hh]; rfl
set_option maxRecDepth 100000 in
set_option maxHeartbeats 1000000 in
theorem isWhole_any (a0 a1 a2 : Option Addr) (n0 c0 n1 c1 n2 c2 : Nat) (h0 : n0 ≤ maxLen) (h1 : n1 ≤ maxLen) (h2 : n2 ≤ maxLen) (w : World) :
    Calls Tryz.prog 66 #[.agg #[.slice a0 n0 c0, .slice a1 n1 c1, .slice a2 n2 c2]] w fun e w' => e = .returned (.bool (decide (n0 = 1024 ∧ n1 = 1024 ∧ n2 = 1024))) ∧ Below w.heap.size w w' := by
  have hb : Below w.heap.size w (w.alloc (.cells #[.slice a0 n0 c0, .slice a1 n1 c1, .slice a2 n2 c2] 35)) := (Below.refl _ _).alloc (Nat.le_refl _) _
  by_cases e0 : n0 = 1024
  · by_cases e1 : n1 = 1024
    · by_cases e2 : n2 = 1024
      · rw [decide_eq_true ⟨e0, e1, e2⟩]
        subst e0 e1 e2
        go_enter Tryz.func66, Tryz.ntmps66
        go_wp2
        go_ret
        exact ⟨rfl, hb⟩
      · rw [decide_eq_false (fun h => e2 h.2.2)]
        subst e0 e1
        have g2 : ((n2 : Int) == 1024) = false := by simp; omega
        go_enter Tryz.func66, Tryz.ntmps66
        go_wp2
        go_ret
        exact ⟨rfl, hb⟩
    · rw [decide_eq_false (fun h => e1 h.2.1)]
      subst e0
      have g1 : ((n1 : Int) == 1024) = false := by simp; omega
      go_enter Tryz.func66, Tryz.ntmps66
      go_wp2
      go_ret
      exact ⟨rfl, hb⟩
  · rw [decide_eq_false (fun h => e0 h.1)]
    have g0 : ((n0 : Int) == 1024) = false := by simp; omega
    go_enter Tryz.func66, Tryz.ntmps66
    go_wp2
    go_ret
    exact ⟨rfl, hb⟩
/-- How many bytes are laid from a place on, three at most. -/
def ldN (L : List Bool) (p : Nat) : Nat := (((L.drop p).take 3).takeWhile id).length
/-- These bytes. -/
def codeAt (B : List UInt8) (L : List Bool) (p : Nat) : ByteArray := ⟨((B.drop p).take (ldN L p)).toArray⟩
theorem takeW_len : ∀ (l : List Bool) (k : Nat), (∀ j, j < k → l[j]? = some true) → (∀ b, l[k]? = some b → b = false) → (l.takeWhile id).length = k
  | [], k, h, _ => by
    cases k with
    | zero => rfl
    | succ k => have := h 0 (by omega); simp at this
  | x :: l, 0, _, h2 => by
    have : x = false := h2 x rfl
    subst this
    rfl
  | x :: l, k + 1, h, h2 => by
    have hx : x = true := by have := h 0 (by omega); simpa using this
    subst hx
    have ih := takeW_len l k (fun j hj => by have := h (j + 1) (by omega); simpa using this) (fun b hb => h2 b (by simpa using hb))
    simp [ih]
theorem ldN_is {L : List Bool} {p k : Nat} (hl : L.length = 1024) (hk : k ≤ 3) (_hp : p + k ≤ 1024) (h1 : ∀ j, j < k → L[p + j]? = some true) (h2 : k = 3 ∨ p + k = 1024 ∨ L[p + k]? = some false) : ldN L p = k := by
  unfold ldN
  refine takeW_len _ _ (fun j hj => ?_) (fun b hb => ?_)
  · rw [List.getElem?_take, if_pos (by omega), List.getElem?_drop]
    exact h1 j hj
  · rw [List.getElem?_take] at hb
    split at hb
    · rename_i h3
      rw [List.getElem?_drop] at hb
      rcases h2 with e | e | e
      · omega
      · rw [List.getElem?_eq_none (by omega)] at hb
        cases hb
      · rw [e] at hb
        exact (Option.some.inj hb).symm
    · cases hb
theorem code_conv {w : World} {bb bo lb lo sb so : Nat} {B : List UInt8} {L S : List Bool} (h : ImgR w bb bo lb lo sb so B L S) (p k cap : Nat) (hp : p + k ≤ 1024) : (convert 32 9 (.slice (some ⟨bb, bo + p, none⟩) k cap)).run Tryz.prog w = .ok (.string ⟨((B.drop p).take k).toArray⟩) w := by
  have hbl := h.bl
  have hl : ((B.drop p).take k).length = k := by rw [List.length_take, List.length_drop]; omega
  have := run_convert_bytes_back (P := Tryz.prog) w 32 9 5 ⟨bb, bo + p, none⟩ cap ((B.drop p).take k) Tryz.underlying32 Tryz.underlying5 Tryz.underlying9 (fun j hj => by
    rw [hl] at hj
    have hc := h.y (p + j) (by omega)
    rw [Addr.add_lit, show bo + p + j = bo + (p + j) by omega, hc]
    rw [List.getElem_take, List.getElem_drop])
  rw [hl] at this
  exact this
set_option maxRecDepth 100000 in
set_option maxHeartbeats 4000000 in
theorem laidFrom_any (bb bo bc lb lo lc sb so sc : Nat) (B : List UInt8) (L S : List Bool) (p : Nat) (hp : p < 1024) (w : World) (h : ImgR w bb bo lb lo sb so B L S) (hbc : 1024 ≤ bc ∧ bc ≤ maxLen) :
    Calls Tryz.prog 111 #[imV bb bo bc lb lo lc sb so sc, .int .i64 (p : Int)] w fun e w' => e = .returned (.string (codeAt B L p)) ∧ Below w.heap.size w w' := by
  obtain ⟨W, hW, hB, hz, u0, u1, u2⟩ := im_box w (.slice (some ⟨bb, bo, none⟩) 1024 bc) (.slice (some ⟨lb, lo, none⟩) 1024 lc) (.slice (some ⟨sb, so, none⟩) 1024 sc)
  have hR := h.below hB
  have HR := hideIt hR
  have HB := hideIt hB
  have hll := h.ll
  have hbc1 : (1024 : Int) ≤ (bc : Int) := by omega
  have hbc2 : (bc : Int) ≤ 9223372036854775807 := by unfold maxLen at hbc; omega
  obtain ⟨P3, hP3⟩ : ∃ P3 : Nat, p + 3 = P3 := ⟨_, rfl⟩
  have hp3 : (p : Int) + 3 = (P3 : Int) := by omega
  clear h hR hB
  go_enter Tryz.func111, Tryz.ntmps111
  go_upto_region 2 with fail
  clear hW
  go_loopw [5] (fun i wz => ∃ k : Nat, k ≤ 3 ∧ p + k ≤ 1024 ∧ i = .int .i64 ((p + k : Nat) : Int) ∧ wz = W ∧ ∀ j, j < k → L[p + j]? = some true) (fun i _ => 1024 - (intOf i).toNat)
  case atStart => exact ⟨0, by omega, by omega, rfl, rfl, fun j hj => absurd hj (Nat.not_lt_zero _)⟩
  case round =>
    obtain ⟨k, hk3, hk4, rfl, rfl, hlaid⟩ := hrel
    have HL := hideIt hlaid
    obtain ⟨E, hE⟩ : ∃ E : Nat, p + k = E := ⟨_, rfl⟩
    rw [hE]
    have hfin : ldN L p = k → (convert 32 9 (.slice (some ⟨bb, bo + p, none⟩) (E - p) (bc - p))).run Tryz.prog wr = .ok (.string (codeAt B L p)) wr := fun e => by
      have := code_conv HR.out p k (bc - p) hk4
      unfold codeAt
      rw [e, show E - p = k by omega]
      exact this
    have HFN := hideIt hfin
    clear hfin hlaid
    by_cases c1 : E < 1024
    · by_cases c2 : E < P3
      · obtain ⟨x, hx⟩ : ∃ x, L[E]? = some x := ⟨_, List.getElem?_eq_getElem (by omega)⟩
        have cl : wr.cell? ⟨lb, lo + E, none⟩ = some (.bool x) := by
          obtain ⟨hi, e2⟩ := List.getElem?_eq_some_iff.1 hx
          rw [HR.out.l E hi, e2]
        have d1 : (E : Int) < 1024 := by omega
        have d2 : (E : Int) < (P3 : Int) := by omega
        cases x with
        | true =>
          have HX := hideIt hx
          have HE := hideIt hE
          clear hx hE
          go_wp2
          go_roundw
          case rel => exact ⟨k + 1, by have := HE.out; omega, by have := HE.out; omega, by rw [← HE.out]; go_num, (by first | rfl | trivial), fun j hj => by
            by_cases hjk : j < k
            · exact HL.out j hjk
            · rw [show p + j = E by have := HE.out; omega]
              exact HX.out⟩
          case measure => simp [intOf]; omega
        | false =>
          have hld : ldN L p = k := ldN_is hll hk3 hk4 HL.out (.inr (.inr (by rw [hE]; exact hx)))
          have hcv := HFN.out hld
          have d3 : (p : Int) ≤ (E : Int) := by omega
          have d4 : (E : Int) ≤ (bc : Int) := by omega
          have d5 : ¬ bc = p := by omega
          clear HFN hx hE hld
          go_wp2
          go_ret
          exact ⟨rfl, HB.out⟩
      · have d1 : (E : Int) < 1024 := by omega
        have d2 : ¬ (E : Int) < (P3 : Int) := by omega
        have hld : ldN L p = k := ldN_is hll hk3 hk4 HL.out (.inl (by omega))
        have hcv := HFN.out hld
        have d3 : (p : Int) ≤ (E : Int) := by omega
        have d4 : (E : Int) ≤ (bc : Int) := by omega
        have d5 : ¬ bc = p := by omega
        clear HFN hE hld
        go_wp2
        go_ret
        exact ⟨rfl, HB.out⟩
    · have d1 : ¬ (E : Int) < 1024 := by omega
      have hld : ldN L p = k := ldN_is hll hk3 hk4 HL.out (.inr (.inl (by omega)))
      have hcv := HFN.out hld
      have d3 : (p : Int) ≤ (E : Int) := by omega
      have d4 : (E : Int) ≤ (bc : Int) := by omega
      have d5 : ¬ bc = p := by omega
      clear HFN hE hld
      go_wp2
      go_ret
      exact ⟨rfl, HB.out⟩
end Go.Proofs.YthokdbcpkmcieaaGreatDoor
namespace Go.Proofs.YthokdbcpkmcieaaGreatDoor
open Go Go.RowKit Go.Shelf Go.WideMaps Go.Maps
/-- What is known of a line that Decode has answered. -/
structure LnOk (code : ByteArray) (p : Nat) (s : ByteArray) (n : Nat) (x : Stm) : Prop where
  nl : NoNL s
  size : s.size ≤ 100
  ne : 0 < s.size
  parse : parseL s = some (noB, x)
  task : x.task = 6
  name : x.name = noB
  great : tooS x.vals = false
  used : usedS x.vals = []
  ins : x.ins.size = n
  n1 : 1 ≤ n
  n3 : n ≤ 3
  le : n ≤ code.size
  bytes : ∀ f, bytS f p x = some ((bI code).take n)
theorem vals_plain (l : List Opn) (h : ∀ x ∈ l, OpL x) : tooS (l.map fun x => [numT (numO x)]) = false ∧ usedS (l.map fun x => [numT (numO x)]) = [] := by
  constructor
  · unfold tooS
    rw [List.any_eq_false]
    intro e he
    obtain ⟨o, ho, rfl⟩ := List.mem_map.1 he
    have := (h o ho).num1
    simp [tooE, numT]
    omega
  · unfold usedS
    rw [List.flatMap_eq_nil_iff]
    intro e he
    obtain ⟨o, ho, rfl⟩ := List.mem_map.1 he
    rfl
theorem take_one (code : ByteArray) (h : 0 < code.size) : (bI code).take 1 = [(code[0].toNat : Int)] := by
  have hl := bI_len code
  have := List.drop_eq_getElem_cons (show 0 < (bI code).length by omega)
  rw [List.drop_zero] at this
  rw [this, List.take_succ_cons, List.take_zero, bI_at, ← bAt_eq code 0 h]
theorem ln_plain (code : ByteArray) (p : Nat) (h : 0 < code.size) (hr : rowIx (code[0].toNat : Int) ≠ 111) (hcut : (cutOf (code[0].toNat : Int)).2.2 = false) : ∃ x, LnOk code p ⟨(cutOf (code[0].toNat : Int)).1.toArray⟩ 1 x := by
  have hc := cd_of code[0] hr
  have hk : kdOf (code[0].toNat : Int) = [] := by unfold kdOf; rw [hcut]; rfl
  have hf := hc.find
  have hfold := hc.fold
  rw [hk] at hf hfold
  refine ⟨_, ⟨?_, ?_, ?_, parse_plain _ hc.nm _ hf, rfl, rfl, rfl, rfl, rfl, Nat.le_refl _, by omega, h, fun f => ?_⟩⟩
  · exact hc.nm.clean.2
  · have := hc.nm.len
    show (cutOf (code[0].toNat : Int)).1.toArray.size ≤ 100
    rw [List.size_toArray]
    omega
  · show 0 < (cutOf (code[0].toNat : Int)).1.toArray.size
    rw [List.size_toArray]
    exact List.length_pos_iff.2 hc.nm.ne
  · have hf2 : ((rowAt (rowIx (code[0].toNat : Int))).1 : Int) = (code[0].toNat : Int) := hfold
    rw [take_one code h]
    exact congrArg (fun z => some [z]) hf2
theorem lAt_kinds (own : Int) (ks : List Nat) (code : ByteArray) (bh : Int) : ((lAt own ks code ks.length).map fun o => o.at bh).map (fun x => lkN x.kind) = ks.map lkN := by
  unfold lAt
  rw [List.map_map, List.map_map]
  apply List.ext_getElem?
  intro j
  rw [List.getElem?_map, List.getElem?_map]
  by_cases hj : j < ks.length
  · rw [List.getElem?_range hj, List.getElem?_eq_getElem hj]
    simp only [Option.map_some, Function.comp, opA, Opn.at]
    rw [List.getD_eq_getElem?_getD, List.getElem?_eq_getElem hj]
    rfl
  · rw [List.getElem?_eq_none (by simpa using hj), List.getElem?_eq_none (by simpa using hj)]
    rfl
theorem ln_ops (code : ByteArray) (p : Nat) (h : 0 < code.size) (x0 : UInt8) (hx0 : code[0] = x0) (hr : rowIx (x0.toNat : Int) ≠ 111) (hcut : (cutOf (x0.toNat : Int)).2.2 = true) (hsz : sizeOf' (ksOf (x0.toNat : Int)) ≤ code.size) (hp : p + sizeOf' (ksOf (x0.toNat : Int)) ≤ 1024) :
    ∃ x, LnOk code p (lineF ⟨(cutOf (x0.toNat : Int)).1.toArray⟩ (opsF (x0.toNat : Int) code) (behindN (p : Int) (sizeOf' (ksOf (x0.toNat : Int)) : Nat))) (sizeOf' (ksOf (x0.toNat : Int))) x := by
  have hc := cd_of x0 hr
  have hk : kdOf (x0.toNat : Int) = ksOf (x0.toNat : Int) := by unfold kdOf; rw [hcut]; rfl
  have hcb : 0 ≤ (x0.toNat : Int) ∧ (x0.toNat : Int) ≤ 255 := by have := x0.toNat_lt; omega
  have hfst := take_one code h
  rw [hx0] at hfst
  have hbs := behind_small p (sizeOf' (ksOf (x0.toNat : Int))) hp
  have hL := fun bh b0 b1 => opA_l hc hcb.1 hcb.2 code bh b0 b1
  have hn3 := hc.size
  rw [hk] at hL hn3
  have hfind := hc.find
  have hfold := hc.fold
  have hswap := hc.swap
  have htwo := hc.two
  have hkinds := hc.kinds
  rw [hk] at hfind hfold htwo hkinds
  have hnm := hc.nm
  clear hc hk
  clear hx0 hr hcut
  generalize (x0.toNat : Int) = c at *
  have hops0 : opsF c code = if (c == 133) = true then swap01 (lAt (ownOf c) (ksOf c) code (ksOf c).length) else lAt (ownOf c) (ksOf c) code (ksOf c).length := rfl
  generalize ownOf c = own at *
  generalize ksOf c = ks at *
  generalize (rowAt (rowIx c)).1 = rc at *
  generalize (cutOf c).1 = nl at *
  obtain ⟨bh, hbh⟩ : ∃ bh, behindN (p : Int) (sizeOf' ks : Nat) = bh := ⟨_, rfl⟩
  rw [hbh] at hbs
  have b0 : 0 ≤ bh := by omega
  have b1 : bh ≤ 2047 := by omega
  have hL := hL bh b0 b1
  have hk17 : ∀ j, j < ks.length → ks.getD j 0 < 17 := fun j hj => (hkinds _ (by rw [List.getD_eq_getElem?_getD, List.getElem?_eq_getElem hj]; exact List.getElem_mem hj)).1
  have h16 : ∀ j, j < ks.length → ks.getD j 0 = 16 → own = c / 32 * 32 := fun j hj => (hkinds _ (by rw [List.getD_eq_getElem?_getD, List.getElem?_eq_getElem hj]; exact List.getElem_mem hj)).2.2.2
  -- the operands as they are written
  obtain ⟨ops, hops⟩ : ∃ ops, (opsF c code).map (fun o => o.at bh) = ops := ⟨_, rfl⟩
  have hfacts : (∀ x ∈ ops, OpL x) ∧ ops.map (fun x => lkN x.kind) = ks.map lkN ∧ ops.length = ks.length ∧ ∀ j, j < ks.length → (swapN rc (ops.map numO)).getD j 0 = numO ((opA own ks code ks.length j).at bh) := by
    cases h133 : (c == 133) with
    | false =>
      have hrc2 : ¬ rc = 133 := fun e => by rw [hswap.1 e] at h133; simp at h133
      rw [hops0, h133] at hops
      simp only [Bool.false_eq_true, if_false] at hops
      refine ⟨fun x hx => ?_, ?_, ?_, fun j hj => ?_⟩
      · rw [← hops] at hx
        unfold lAt at hx
        rw [List.map_map] at hx
        obtain ⟨j, hj, rfl⟩ := List.mem_map.1 hx
        exact hL j (List.mem_range.1 hj)
      · rw [← hops]
        exact lAt_kinds own ks code bh
      · rw [← hops]
        unfold lAt
        simp
      · unfold swapN
        rw [if_neg hrc2, ← hops]
        unfold lAt
        rw [List.map_map, List.map_map, List.getD_eq_getElem?_getD, List.getElem?_map, List.getElem?_range hj]
        rfl
    | true =>
      have hc133 : c = 133 := by simpa using h133
      have hks2 := htwo hc133
      rw [hops0, h133] at hops
      simp only [if_true] at hops
      subst hks2
      have e : swap01 (lAt own [11, 11] code 2) = [opA own [11, 11] code 2 1, opA own [11, 11] code 2 0] := rfl
      have hops : (swap01 (lAt own [11, 11] code 2)).map (fun o => o.at bh) = ops := hops
      rw [e] at hops
      refine ⟨fun x hx => ?_, ?_, ?_, fun j hj => ?_⟩
      · rw [← hops] at hx
        simp only [List.map_cons, List.map_nil, List.mem_cons, List.not_mem_nil, or_false] at hx
        rcases hx with rfl | rfl
        · exact hL 1 (by decide)
        · exact hL 0 (by decide)
      · rw [← hops]
        rfl
      · rw [← hops]
        rfl
      · unfold swapN
        rw [if_pos (hswap.2 hc133), ← hops]
        match j, hj with
        | 0, _ => rfl
        | 1, _ => rfl
  obtain ⟨f1, f2, f3, f4⟩ := hfacts
  have hline : lineF ⟨nl.toArray⟩ (opsF c code) bh = (⟨nl.toArray⟩ ++ ⟨#[32]⟩) ++ ⟨(Lib.join (ops.map fun o => (writS o).data.toList) [44]).toArray⟩ := by
    unfold lineF
    rw [← hops, List.map_map]
    rfl
  rw [hbh, hline]
  have hcl := line_clean nl hnm ops f1
  have hv := vals_plain ops f1
  have hkl : ks.length ≤ 3 := by
    by_cases h3 : ks.length ≤ 3
    · exact h3
    · exfalso
      have hnone : findO nl (ks.map lkN) = none := by
        unfold findO
        rw [if_pos (by rw [List.length_map]; omega)]
      rw [hnone] at hfind
      cases hfind
  refine ⟨⟨6, noB, ops.map fun x => [numT (numO x)], ⟨rc, ks, sizeOf' ks⟩⟩, ⟨hcl.1, by omega, ?_, parse_ops nl hnm ops f1 _ (by rw [f2]; exact hfind), rfl, rfl, hv.1, hv.2, rfl, by unfold sizeOf'; omega, hn3, hsz, fun f => ?_⟩⟩
  · rw [ByteArray.size_append, ByteArray.size_append]
    have : (⟨#[32]⟩ : ByteArray).size = 1 := rfl
    omega
  · show (numsF f (p : Int) (-1000000) 1000000 (ops.map fun x => [numT (numO x)])).bind (fun zs => insB ⟨rc, ks, sizeOf' ks⟩ zs (p : Int)) = _
    rw [nums_ops f (p : Int) ops f1]
    show insB ⟨rc, ks, sizeOf' ks⟩ (ops.map numO) (p : Int) = _
    have hlay := layTo_bytes code ks own bh c (rc : Int) (swapN rc (ops.map numO)) hk17 hsz b0 b1 hcb.1 hcb.2 h16 f4 ks.length (Nat.le_refl _)
    rw [List.take_length, hfold, posAt_all] at hlay
    have hb : bytesI ⟨rc, ks, sizeOf' ks⟩ (ops.map numO) (p : Int) = ⟨c, ((bI code).drop 1).take (sizeOf' ks - 1), false⟩ := by
      have e : bytesI ⟨rc, ks, sizeOf' ks⟩ (ops.map numO) (p : Int) = layTo (behindN (p : Int) (sizeOf' ks : Nat)) ks (swapN rc (ops.map numO)) ⟨(rc : Int), [], false⟩ ks.length := rfl
      rw [e, hbh]
      exact hlay
    unfold insB
    rw [hb]
    simp only [Bool.false_eq_true, if_false]
    have hs1 : 1 ≤ sizeOf' ks := by unfold sizeOf'; omega
    rw [show sizeOf' ks = 1 + (sizeOf' ks - 1) by omega, List.take_add, hfst, show 1 + (sizeOf' ks - 1) - 1 = sizeOf' ks - 1 by omega]
    rfl
/-- Decode's answer: none, or a line that is known. -/
theorem dec_ln (code : ByteArray) (p : Nat) (hp : p ≤ 1021) : ((decA code (p : Int)).2 = 0 ∧ (decA code (p : Int)).1 = ⟨#[]⟩ ∧ (code.size = 0 ∨ (∃ h : 0 < code.size, code[0].toNat = 165) ∨ code.size < 3)) ∨ ∃ x, LnOk code p (decA code (p : Int)).1 (decA code (p : Int)).2 x := by
  unfold decA
  by_cases h : 0 < code.size
  · rw [dif_pos h]
    by_cases hr : rowIx (code[0].toNat : Int) = 111
    · rw [if_pos hr]
      exact .inl ⟨rfl, rfl, .inr (.inl ⟨h, a5_of code[0] hr⟩)⟩
    · rw [if_neg hr]
      cases hcut : (cutOf (code[0].toNat : Int)).2.2 with
      | false =>
        rw [if_pos rfl]
        exact .inr (ln_plain code p h hr hcut)
      | true =>
        rw [if_neg (by decide)]
        have hc := cd_of code[0] hr
        have hk : kdOf (code[0].toNat : Int) = ksOf (code[0].toNat : Int) := by unfold kdOf; rw [hcut]; rfl
        have hn3 := hc.size
        rw [hk] at hn3
        by_cases hsz : sizeOf' (ksOf (code[0].toNat : Int)) ≤ code.size
        · rw [if_pos hsz]
          exact .inr (ln_ops code p h code[0] rfl hr hcut hsz (by omega))
        · rw [if_neg hsz]
          exact .inl ⟨rfl, rfl, .inr (.inr (by omega))⟩
  · rw [dif_neg h]
    exact .inl ⟨rfl, rfl, .inl (by omega)⟩
end Go.Proofs.YthokdbcpkmcieaaGreatDoor
