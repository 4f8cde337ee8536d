/- The lines of a source: what is read of them. The assembler: readAll; what lies in memory between two lines. -/
import Derived.Test.YthokdbcpkmcieaaGreatDoorA35
import Derived.Test.YthokdbcpkmcieaaGreatDoorA20
namespace Go.Proofs.YthokdbcpkmcieaaGreatDoor
open Go Go.RowKit Go.Shelf Go.WideMaps Go.Maps
def linesF (s : ByteArray) : List ByteArray := Lib.splitB ⟨#[10]⟩ 0 (Lib.countB s ⟨#[10]⟩) s
theorem linesF_len (s : ByteArray) : (linesF s).length = Lib.countB s ⟨#[10]⟩ + 1 := Lib.splitB_all ⟨#[10]⟩ (by decide) 0 _ s rfl
theorem splitB_size (sep : ByteArray) : ∀ (k : Nat) (s t : ByteArray), t ∈ Lib.splitB sep 0 k s → t.size ≤ s.size
  | 0, s, t, h => by
    rw [Lib.splitB_zero] at h
    rw [List.mem_singleton.1 h]
    exact Nat.le_refl _
  | k + 1, s, t, h => by
    unfold Lib.splitB at h
    split at h
    · rw [List.mem_singleton.1 h]
      exact Nat.le_refl _
    · rcases List.mem_cons.1 h with rfl | h
      · rw [ByteArray.size_extract]
        omega
      · have := splitB_size sep k _ t h
        rw [ByteArray.size_extract] at this
        omega
theorem linesF_size {s t : ByteArray} (h : t ∈ linesF s) : t.size ≤ s.size := splitB_size _ _ _ _ h
theorem linesF_many (s : ByteArray) : (linesF s).length ≤ s.size + 1 := by
  rw [linesF_len]
  have := Lib.countB_le ⟨#[10]⟩ (by decide) s.size s (Nat.le_refl _)
  omega
/-- A statement as it was read: its line, its place. -/
structure St where
  line : Nat
  pl : Nat
  lb : ByteArray
  x : Stm
/-- What is read of the first lines. -/
def rdTo (ls : List ByteArray) (a0 : Asm) : Nat → Except (Int × Nat) (List St × Asm)
  | 0 => .ok ([], a0)
  | j + 1 => match rdTo ls a0 j with
    | .error e => .error e
    | .ok r => match parseL (ls.getD j ⟨#[]⟩) with
      | none => .error (2, j + 1)
      | some q => match settleF r.2 q.1 q.2 with
        | .error k => .error (k, j + 1)
        | .ok b => .ok (r.1 ++ [⟨j + 1, r.2.pl, q.1, q.2⟩], b)
theorem rdTo_err {ls : List ByteArray} {a0 : Asm} {e : Int × Nat} : ∀ (n j : Nat), rdTo ls a0 j = .error e → rdTo ls a0 (j + n) = .error e
  | 0, j, h => h
  | n + 1, j, h => by
    have ih := rdTo_err n j h
    show rdTo ls a0 (j + n + 1) = _
    simp only [rdTo, ih]
/-- What a statement that has been settled keeps to. -/
structure StOk (N : Nat) (st : St) : Prop where
  stm : StmF N st.lb st.x
  great : tooS st.x.vals = false
  fit : st.pl + sizeS st.x.task st.x.vals.length st.x.ins.size ≤ 1024
theorem cgF_40 {nm : List UInt8 → Option Int} {n : Nat} {l : List ByteArray} (h : cgF nm n l = none) : n ≤ 40 := by
  have := cgF_n h
  omega
theorem putN_bound (a : Asm) (k : ByteArray) (z : Int) : (a.put k z).n ≤ a.n + 1 := by
  unfold Asm.put
  simp only
  split <;> omega
theorem settleF_ok {a b : Asm} {lb : ByteArray} {x : Stm} (h : settleF a lb x = .ok b) (ha : a.Ok) : b.Ok ∧ tooS x.vals = false ∧ a.pl + sizeS x.task x.vals.length x.ins.size ≤ 1024 := by
  unfold settleF at h
  split at h
  · cases h
  · split at h
    · cases h
    · rename_i hcg
      have hn := cgF_40 hcg
      split at h
      · cases h
      · rename_i htoo
        have ht : tooS x.vals = false := by simpa using htoo
        have hl : (labA a lb).Ok := labA_ok ha hn
        have hln : (labA a lb).n ≤ 41 := by
          unfold labA
          split
          · omega
          · have := putN_bound a lb (a.pl : Int)
            omega
        have hp := ha.pl
        simp only at h
        have hz : ∀ t, x.task = t → t = 1 ∨ t = 4 ∨ t = 5 → sizeS x.task x.vals.length x.ins.size = 0 := fun t h1 h2 => by
          unfold sizeS
          rw [if_neg (by omega), if_neg (by omega), if_neg (by omega)]
        split at h
        · rename_i h1
          split at h
          · rename_i z hO
            have hb := nmb_bounds hO
            cases h
            exact ⟨⟨by show z.toNat ≤ 1024; omega, hl.n, hl.nm⟩, ht, by rw [hz 1 h1 (by omega)]; omega⟩
          · cases h
        · split at h
          · rename_i h4
            split at h
            · rename_i z hO
              have hb := nmb_bounds hO
              cases h
              exact ⟨⟨by show a.pl + z.toNat ≤ 1024; omega, hl.n, hl.nm⟩, ht, by rw [hz 4 h4 (by omega)]; omega⟩
            · cases h
          · split at h
            · rename_i h5
              split at h
              · rename_i z hO
                have hb := nmb_bounds hO
                cases h
                exact ⟨hl.put _ _ hb (by omega), ht, by rw [hz 5 h5 (by omega)]; omega⟩
              · cases h
            · split at h
              · cases h
              · rename_i hs
                cases h
                unfold spanF at hs
                split at hs
                · cases hs
                · rename_i hs1
                  exact ⟨⟨by show a.pl + sizeS x.task x.vals.length x.ins.size ≤ 1024; omega, hl.n, hl.nm⟩, ht, by omega⟩
theorem rdTo_ok {ls : List ByteArray} {a0 : Asm} {N : Nat} (h0 : a0.Ok) (hN : ∀ t ∈ ls, t.size ≤ N) : ∀ (j : Nat) (r : List St × Asm), j ≤ ls.length → rdTo ls a0 j = .ok r → r.2.Ok ∧ r.1.length = j ∧ ∀ st ∈ r.1, StOk N st
  | 0, r, _, h => by
    simp only [rdTo] at h
    cases h
    exact ⟨h0, rfl, fun st hs => by cases hs⟩
  | j + 1, r, hj, h => by
    simp only [rdTo] at h
    split at h
    · cases h
    · rename_i r0 h1
      have ih := rdTo_ok h0 hN j r0 (by omega) h1
      split at h
      · cases h
      · rename_i q h2
        split at h
        · cases h
        · rename_i b h3
          cases h
          have hs := settleF_ok h3 ih.1
          have hp := parseL_ok h2
          have hg : ls.getD j ⟨#[]⟩ = ls[j] := by
            rw [List.getD_eq_getElem?_getD, List.getElem?_eq_getElem (by omega)]
            rfl
          rw [hg] at hp
          have hz := hN _ (List.getElem_mem (l := ls) (n := j) (by omega))
          have hp2 : StmF N q.1 q.2 := ⟨Nat.le_trans hp.lb hz, Nat.le_trans hp.name hz, hp.task, fun e he t ht => ⟨Nat.le_trans (hp.vals e he t ht).1 hz, (hp.vals e he t ht).2⟩, by have := hp.cnt; omega, by have := hp.len; omega, hp.once, hp.ins, hp.other⟩
          refine ⟨hs.1, by simp [ih.2.1], fun st hst => ?_⟩
          rcases List.mem_append.1 hst with h4 | h4
          · exact ih.2.2 st h4
          · rw [List.mem_singleton.1 h4]
            exact ⟨hp2, hs.2.1, hs.2.2⟩
theorem StmF.ok {N : Nat} {lb : ByteArray} {x : Stm} (h : StmF N lb x) (hN : N ≤ 100000) : StmOk lb x :=
  ⟨by have := h.lb; omega, by have := h.name; omega, fun e he t ht => ⟨by have := (h.vals e he t ht).1; omega, (h.vals e he t ht).2⟩, by have := h.cnt; omega, by have := h.len; omega, h.once, fun e => by rw [(h.ins e).size]; unfold sizeK; omega, by
    by_cases e : x.task = 6
    · have := (h.ins e).size3
      omega
    · rw [h.other e]
      show (0 : Nat) ≤ 100
      omega⟩
/-- Block j is none of the assembler's. -/
def FreeM (m : AMem) (j : Nat) : Prop := j ≠ m.ab ∧ j ≠ m.ik ∧ j ≠ m.lk ∧ j ≠ m.sk ∧ j ≠ m.nb
theorem ChgM.free {w w' : World} {m : AMem} (h : ChgM w w' m) {k : Nat} (hk : k < w.heap.size) (hf : FreeM m k) : w'.heap[k]? = w.heap[k]? := h.block k hk hf.1 hf.2.1 hf.2.2.1 hf.2.2.2.1 hf.2.2.2.2
theorem names_heap {w : World} {nb n : Nat} {nm : List UInt8 → Option Int} (h : NamesAt w nb n nm) : ∃ es c, w.heap[nb]? = some (.map es c) := by
  obtain ⟨D, ⟨es, c, hb, _⟩, _⟩ := h
  exact ⟨es, c, hb⟩
/-- A block of kinds is none of the assembler's. -/
theorem kind_free {w : World} {m : AMem} {a : Asm} (h : AsmAt w m a) {cs : Array Value} (hab : w.heap[m.ab]? = some (.cells cs 121 (0, 0))) {j : Nat} {cur : Array Value} {f : Nat × Nat} (hj : w.heap[j]? = some (.cells cur 111 f)) : FreeM m j := by
  obtain ⟨es, c, hn⟩ := names_heap h.st.nms
  have ne : ∀ (k : Nat) (c2 : Array Value) (t : TypeId) (f2 : Nat × Nat), w.heap[k]? = some (.cells c2 t f2) → t ≠ 111 → j ≠ k := fun k c2 t f2 h1 h2 e => by
    rw [← e, hj] at h1
    cases h1
    exact h2 rfl
  exact ⟨ne _ _ _ _ hab (by decide), ne _ _ _ _ h.bytes.at_ (by decide), ne _ _ _ _ h.laid.at_ (by decide), ne _ _ _ _ h.starts.at_ (by decide), fun e => by rw [← e, hj] at hn; cases hn⟩
/-- Where there are kinds, their block is none of the assembler's. -/
theorem kinds_free {w : World} {m : AMem} {a : Asm} (h : AsmAt w m a) {kd : Value} {ks : List Nat} (hk : w.ownsRow 0 111 1 kd ks.length (kindCells ks)) (hn : ks ≠ []) : ∀ j, kd.ownBlock = some j → FreeM m j := by
  intro j hj
  have h0 : 0 < ks.length := List.length_pos_iff.2 hn
  obtain ⟨g, cap, rfl⟩ := row_some hk h0
  cases hj
  have hc := (row_cell hk).2 0 _ (kindCells_at ks 0 h0)
  obtain ⟨es, c, hm⟩ := names_heap h.st.nms
  obtain ⟨cur, hcur⟩ : ∃ cur, w.heap[g]? = some (.cells cur 111 (0, 0)) := by
    obtain ⟨_, ⟨h1, _⟩ | ⟨g2, cap2, cur, h1, _, h2, _⟩⟩ := hk
    · cases h1
    · cases h1
      exact ⟨cur, h2⟩
  have l4 := h.st.c0
  unfold iV at l4
  have ne : ∀ (k : Nat) (c2 : Array Value) (t : TypeId) (f2 : Nat × Nat), w.heap[k]? = some (.cells c2 t f2) → t ≠ 111 → g ≠ k := fun k c2 t f2 h1 h2 e => by
    rw [← e, hcur] at h1
    cases h1
    exact h2 rfl
  refine ⟨fun e => ?_, ne _ _ _ _ h.bytes.at_ (by decide), ne _ _ _ _ h.laid.at_ (by decide), ne _ _ _ _ h.starts.at_ (by decide), fun e => ?_⟩
  · have e2 : g = m.ab := e
    rw [← e2, hc] at l4
    cases l4
  · have e2 : g = m.nb := e
    rw [← e2, hcur] at hm
    cases hm
/-- What the map of instructions holds, apart from the assembler. -/
def InsAt2 (w : World) (b : Bk) (m : AMem) (B : Nat) : Prop := ∃ f n, MapAt Tryz.prog 292 w b.ib n f ∧ ∀ (s : ByteArray) (ks : List Nat), s.size ≤ 1000000 → ks.length ≤ 3 → (∀ k ∈ ks, k ≤ 100) →
  match insO s.data.toList ks with
  | none => f (entKof s ks) = none
  | some d => ∃ v, f (entKof s ks) = some (insV d.code v d.size) ∧ w.ownsRow 0 111 1 v d.kinds.length (kindCells d.kinds) ∧ ∀ j, v.ownBlock = some j → j < B ∧ FreeM m j
theorem InsAt2.of {w : World} {b : Bk} {m : AMem} {B : Nat} (h : InsAt w b B) (hf : ∀ (j : Nat) (cur : Array Value) (f : Nat × Nat), w.heap[j]? = some (.cells cur 111 f) → FreeM m j) : InsAt2 w b m B := by
  obtain ⟨f, n, h1, h2⟩ := h
  refine ⟨f, n, h1, fun s ks a1 a2 a3 => ?_⟩
  have := h2 s ks a1 a2 a3
  revert this
  cases insO s.data.toList ks with
  | none => exact id
  | some d =>
    rintro ⟨v, p1, p2, p3⟩
    refine ⟨v, p1, p2, fun j hj => ⟨p3 j hj, ?_⟩⟩
    obtain ⟨_, ⟨e1, _⟩ | ⟨g2, cap2, cur, e1, _, e2, _⟩⟩ := p2
    · rw [e1] at hj
      cases hj
    · rw [e1] at hj
      cases hj
      exact hf _ _ _ e2
theorem InsAt2.ins {w : World} {b : Bk} {m : AMem} {B : Nat} (h : InsAt2 w b m B) : InsAt w b B := by
  obtain ⟨f, n, h1, h2⟩ := h
  refine ⟨f, n, h1, fun s ks a1 a2 a3 => ?_⟩
  have := h2 s ks a1 a2 a3
  revert this
  cases insO s.data.toList ks with
  | none => exact id
  | some d =>
    rintro ⟨v, p1, p2, p3⟩
    exact ⟨v, p1, p2, fun j hj => (p3 j hj).1⟩
theorem InsAt2.kept {w w' : World} {b : Bk} {m : AMem} {B : Nat} (h : InsAt2 w b m B) (hk : ∀ j, j < w.heap.size → j < B → FreeM m j → w'.heap[j]? = w.heap[j]?) (hib : b.ib < B) (hif : FreeM m b.ib) : InsAt2 w' b m B := by
  obtain ⟨f, n, h1, h2⟩ := h
  refine ⟨f, n, h1.at1 (hk _ h1.lt hib hif), fun s ks a1 a2 a3 => ?_⟩
  have := h2 s ks a1 a2 a3
  revert this
  cases insO s.data.toList ks with
  | none => exact id
  | some d =>
    rintro ⟨v, p1, p2, p3⟩
    exact ⟨v, p1, own_at p2 (fun j hj => hk j (p2.lt j hj).2 (p3 j hj).1 (p3 j hj).2), p3⟩
/-- The book's blocks are none of the assembler's. -/
structure BkFree (m : AMem) (b : Bk) (pb : Nat) : Prop where
  c : FreeM m b.cb
  i : FreeM m b.ib
  f : FreeM m b.fb
  d : FreeM m b.db
  p : FreeM m pb
  lt : b.cb < pb ∧ b.fb < pb ∧ b.db < pb ∧ b.ib < pb
/-- The parser at rest, beside the assembler. -/
structure Psr (w : World) (m : AMem) (b : Bk) (pb : Nat) : Prop where
  p0 : P0 w pb b
  book : BookAt w b
  ins : InsAt2 w b m pb
theorem BookAt.at3 {w w' : World} {b : Bk} (h : BookAt w b) (h1 : w'.heap[b.cb]? = w.heap[b.cb]?) (h2 : w'.heap[b.fb]? = w.heap[b.fb]?) (h3 : w'.heap[b.db]? = w.heap[b.db]?) : BookAt w' b := by
  obtain ⟨nx, hx⟩ := h.fixed
  obtain ⟨f, n, hf, hl⟩ := h.counts
  exact ⟨⟨f, n, hf.at1 h1, hl⟩, ⟨nx, hx.at1 h2⟩, h.dirs.at1 h3⟩
theorem BookAt.lts {w : World} {b : Bk} (h : BookAt w b) : b.cb < w.heap.size ∧ b.fb < w.heap.size ∧ b.db < w.heap.size := by
  obtain ⟨nx, hx⟩ := h.fixed
  obtain ⟨f, n, hf, hl⟩ := h.counts
  exact ⟨hf.lt, hx.lt, h.dirs.lt⟩
theorem Psr.kept {w w' : World} {m : AMem} {b : Bk} {pb : Nat} (h : Psr w m b pb) (hz : w.heap.size ≤ w'.heap.size) (hk : ∀ j, j < w.heap.size → j ≤ pb → FreeM m j → w'.heap[j]? = w.heap[j]?) (hf : BkFree m b pb) : Psr w' m b pb := by
  have hpb := h.p0.lt
  have hp : w'.heap[pb]? = w.heap[pb]? := hk pb hpb (Nat.le_refl _) hf.p
  have hc : ∀ j, w'.cell? ⟨pb, j, none⟩ = w.cell? ⟨pb, j, none⟩ := fun j => World.cell?_of_block (a := ⟨pb, j, none⟩) hp
  have hfz : ∀ j, w'.frozen? ⟨pb, j, none⟩ = w.frozen? ⟨pb, j, none⟩ := fun j => World.frozen?_of_block (a := ⟨pb, j, none⟩) hp
  obtain ⟨n4, c4⟩ := h.p0.c4
  obtain ⟨a5, n5, k5, c5⟩ := h.p0.c5
  have hl := h.book.lts
  refine ⟨⟨(hc 0).trans h.p0.c0, (hc 1).trans h.p0.c1, (hc 2).trans h.p0.c2, (hc 3).trans h.p0.c3, ⟨n4, (hc 4).trans c4⟩, ⟨a5, n5, k5, (hc 5).trans c5⟩, (hfz 4).trans h.p0.f4, (hfz 5).trans h.p0.f5, by omega⟩, h.book.at3 (hk _ hl.1 (by have := hf.lt; omega) hf.c) (hk _ hl.2.1 (by have := hf.lt; omega) hf.f) (hk _ hl.2.2 (by have := hf.lt; omega) hf.d), h.ins.kept (fun j h1 h2 h3 => hk j h1 (by omega) h3) hf.lt.2.2.2 hf.i⟩
/-- A statement's expressions, laid once and kept. -/
def VKept (w : World) (lo hi : Nat) (v : Value) (es : List (List Trm)) : Prop := ∃ w0 : World, w0.heap.size = hi ∧ VAt w0 lo v es ∧ ∀ k, lo ≤ k → k < hi → w.heap[k]? = w0.heap[k]?
theorem VKept.vat {w : World} {lo hi : Nat} {v : Value} {es : List (List Trm)} (h : VKept w lo hi v es) : VAt w lo v es := by
  obtain ⟨w0, rfl, h1, h2⟩ := h
  exact h1.keptM h2
theorem VKept.kept {w w' : World} {lo hi : Nat} {v : Value} {es : List (List Trm)} (h : VKept w lo hi v es) (hk : ∀ k, lo ≤ k → k < hi → w'.heap[k]? = w.heap[k]?) : VKept w' lo hi v es := by
  obtain ⟨w0, h0, h1, h2⟩ := h
  exact ⟨w0, h0, h1, fun k a b => (hk k a b).trans (h2 k a b)⟩
/-- A statement among those that have been read: B: the first block behind the parser; sv: the row of them all. -/
structure StIn (w : World) (m : AMem) (pb B : Nat) (sv : Value) (st : St) (v kv : Value) : Prop where
  vals : ∃ lo hi, B ≤ lo ∧ hi ≤ w.heap.size ∧ VKept w lo hi v st.x.vals ∧ ∀ g, sv.ownBlock = some g → ¬ (lo ≤ g ∧ g < hi)
  is : ∃ va vn vc, v = .slice va vn vc
  kinds : RowK w kv st.x.ins.kinds
  kfree : st.x.ins.kinds ≠ [] → ∀ j, kv.ownBlock = some j → j < pb ∧ FreeM m j
def stC (st : St) (v kv : Value) : List Value := [.int .i64 (st.line : Int), .int .i64 (st.pl : Int), .string st.lb, .int .i64 (st.x.task : Int), .string st.x.name, v, .int .u8 (st.x.ins.code : Int), kv, .int .i64 (st.x.ins.size : Int)]
def stsC (qs : List (St × Value × Value)) : List Value := qs.flatMap fun q => stC q.1 q.2.1 q.2.2
/-- The row of the statements that have been read. -/
structure Sts (w : World) (m : AMem) (pb B : Nat) (sv : Value) (qs : List (St × Value × Value)) : Prop where
  row : w.ownsRow B 130 9 sv qs.length (stsC qs)
  each : ∀ q ∈ qs, StIn w m pb B sv q.1 q.2.1 q.2.2
theorem StIn.kept {w w' : World} {m : AMem} {pb B : Nat} {sv sv' : Value} {st : St} {v kv : Value} (h : StIn w m pb B sv st v kv) (hz : w.heap.size ≤ w'.heap.size) (hp : pb < B) (hB : m.ab < B ∧ m.ik < B ∧ m.lk < B ∧ m.sk < B ∧ m.nb < B) (hk : ∀ j, j < w.heap.size → j ≠ pb → FreeM m j → (∀ g, sv.ownBlock = some g → j ≠ g) → w'.heap[j]? = w.heap[j]?) (hs : ∀ g, sv.ownBlock = some g → B ≤ g) (hs' : ∀ g, sv'.ownBlock = some g → sv.ownBlock = some g ∨ w.heap.size ≤ g) : StIn w' m pb B sv' st v kv := by
  obtain ⟨lo, hi, h1, h2, h3, h4⟩ := h.vals
  refine ⟨⟨lo, hi, h1, Nat.le_trans h2 hz, h3.kept (fun k a b => hk k (by omega) (by omega) ⟨by omega, by omega, by omega, by omega, by omega⟩ (fun g hg e => h4 g hg ⟨by omega, by omega⟩)), fun g hg => ?_⟩, h.is, ⟨h.kinds.is, fun hn => own_at (h.kinds.row hn) (fun j hj => ?_)⟩, h.kfree⟩
  · rcases hs' g hg with e | e
    · exact h4 g e
    · omega
  · have hf := h.kfree hn j hj
    exact hk j ((h.kinds.row hn).lt j hj).2 (by omega) hf.2 (fun g hg e => by have := hs g hg; omega)
end Go.Proofs.YthokdbcpkmcieaaGreatDoor
namespace Go.Proofs.YthokdbcpkmcieaaGreatDoor
open Go Go.RowKit Go.Shelf Go.WideMaps Go.Maps
theorem Tryz.infoSt : (Tryz.prog.info? 130).map (fun i => (i.zero, i.size, i.bytes)) = some (some (.agg Zst), 9, 120) := by kernel_rfl
/-- Between two lines: the assembler, the parser, the statements so far, the lines. -/
structure RA (w wr : World) (m : AMem) (b : Bk) (pb B ln : Nat) (mm : Int) (ls : List ByteArray) (sv : Value) (qs : List (St × Value × Value)) (a : Asm) : Prop where
  asm : AsmAt wr m a
  psr : Psr wr m b pb
  sts : Sts wr m pb B sv qs
  chg : ChgM w wr m
  row : wr.heap[ln]? = some (.cells (ls.map Value.string).toArray 9 (0, 0))
  mm : wr.cell? ⟨0, 0, none⟩ = some (.int .i64 mm)
  le : B ≤ wr.heap.size
/-- Where all this lies. -/
structure RAt (w : World) (m : AMem) (b : Bk) (pb B ln : Nat) : Prop where
  free : BkFree m b pb
  mlt : m.ab < w.heap.size ∧ m.ik < w.heap.size ∧ m.lk < w.heap.size ∧ m.sk < w.heap.size ∧ m.nb < w.heap.size
  lt : w.heap.size < pb ∧ pb < ln ∧ ln < B
  zero : FreeM m 0
theorem RAt.up {w : World} {m : AMem} {b : Bk} {pb B ln : Nat} (h : RAt w m b pb B ln) {j : Nat} (hj : w.heap.size ≤ j) : FreeM m j := by
  have := h.mlt
  exact ⟨by omega, by omega, by omega, by omega, by omega⟩
theorem RA.step {w wr w3 W4 w5 wn : World} {m : AMem} {b : Bk} {pb B ln : Nat} {mm : Int} {ls : List ByteArray} {sv sv' : Value} {qs : List (St × Value × Value)} {a a' : Asm} {st : St} {v kv : Value} {o : Obj} (h : RA w wr m b pb B ln mm ls sv qs a) (ht : RAt w m b pb B ln)
    (hg3 : wr.grownBy w3 (some pb)) (hv3 : VAt w3 wr.heap.size v st.x.vals) (hp3 : P0 w3 pb b) (hk3 : w3.ownsRow 0 111 1 kv st.x.ins.kinds.length (kindCells st.x.ins.kinds)) (hkp : ∀ j, kv.ownBlock = some j → j < pb)
    (hb4 : Below w3.heap.size w3 W4) (hc5 : ChgM W4 w5 m) (ha5 : AsmAt w5 m a') (hgn : (w5.alloc o).grownBy wn sv.ownBlock) (hown : wn.ownsRow B 130 9 sv' (qs.length + 1) (stsC qs ++ stC st v kv)) (hloc : sv'.ownBlock = sv.ownBlock ∨ sv'.ownBlock = some (w5.alloc o).heap.size) :
    RA w wn m b pb B ln mm ls sv' (qs ++ [(st, v, kv)]) a' := by
  have z3 := hg3.size
  have z4 := hb4.size
  have z5 := hc5.size
  have zn := hgn.size
  simp at zn
  have hle := h.le
  have hlt := ht.lt
  have hm := ht.mlt
  have hsB : ∀ g, sv.ownBlock = some g → B ≤ g ∧ g < wr.heap.size := fun g hg => h.sts.row.lt g hg
  have key2 : ∀ j, j < w3.heap.size → FreeM m j → (∀ g, sv.ownBlock = some g → j ≠ g) → wn.heap[j]? = w3.heap[j]? := fun j hj hf hs => by
    rw [hgn.block j (by simp; omega) (fun e => hs j e.symm rfl), Below.heap_alloc _ _ _ (by omega), hc5.free (by omega) hf, hb4.block j hj]
  have key1 : ∀ j, j < wr.heap.size → j ≠ pb → FreeM m j → (∀ g, sv.ownBlock = some g → j ≠ g) → wn.heap[j]? = wr.heap[j]? := fun j hj hp hf hs => (key2 j (by omega) hf hs).trans (hg3.block j hj (fun e => hp (Option.some.inj e)))
  have hA3 : AsmAt w3 m a := h.asm.kept (fun k hk => hg3.block k (by rcases hk with rfl | rfl | rfl | rfl | rfl <;> omega) (fun e => by have e2 := Option.some.inj e; rcases hk with rfl | rfl | rfl | rfl | rfl <;> omega))
  have hP3 : Psr w3 m b pb := ⟨hp3, h.psr.book.at3 (hg3.block _ h.psr.book.lts.1 (fun e => by have e2 := Option.some.inj e; have := ht.free.lt; omega)) (hg3.block _ h.psr.book.lts.2.1 (fun e => by have e2 := Option.some.inj e; have := ht.free.lt; omega)) (hg3.block _ h.psr.book.lts.2.2 (fun e => by have e2 := Option.some.inj e; have := ht.free.lt; omega)), h.psr.ins.kept (fun j h1 h2 _ => hg3.block j h1 (fun e => by have e2 := Option.some.inj e; omega)) ht.free.lt.2.2.2 ht.free.i⟩
  refine ⟨?_, ?_, ⟨?_, ?_⟩, ?_, ?_, ?_, by omega⟩
  · refine ha5.kept (fun k hk => ?_)
    have hkw : k < w.heap.size := by rcases hk with rfl | rfl | rfl | rfl | rfl <;> omega
    rw [hgn.block k (by simp; omega) (fun e => by have := (hsB k e.symm).1; omega), Below.heap_alloc _ _ _ (by omega)]
  · exact hP3.kept (by omega) (fun j h1 h2 h3 => key2 j h1 h3 (fun g hg e => by have := (hsB g hg).1; omega)) ht.free
  · have e1 : stsC (qs ++ [(st, v, kv)]) = stsC qs ++ stC st v kv := by
      unfold stsC
      rw [List.flatMap_append]
      simp
    rw [List.length_append, e1]
    exact hown
  · intro q hq
    have hs' : ∀ g, sv'.ownBlock = some g → sv.ownBlock = some g ∨ wr.heap.size ≤ g := fun g hg => by
      rcases hloc with e | e
      · exact .inl (e ▸ hg)
      · rw [e] at hg
        have e2 := Option.some.inj hg
        simp at e2
        exact .inr (by omega)
    rcases List.mem_append.1 hq with hq | hq
    · exact (h.sts.each q hq).kept (by omega) (by omega) ⟨by omega, by omega, by omega, by omega, by omega⟩ key1 (fun g hg => (hsB g hg).1) hs'
    · rw [List.mem_singleton.1 hq]
      refine ⟨⟨wr.heap.size, w3.heap.size, hle, by omega, ⟨w3, rfl, hv3, fun k k1 k2 => key2 k k2 (ht.up (by omega)) (fun g hg e => by have := (hsB g hg).2; omega)⟩, fun g hg => ?_⟩, hv3.slice, ⟨?_, fun hn => ?_⟩, fun hn j hj => ⟨hkp j hj, kinds_free hA3 hk3 hn j hj⟩⟩
      · rcases hloc with e | e
        · have := hsB g (e ▸ hg)
          omega
        · rw [e] at hg
          have e2 := Option.some.inj hg
          simp at e2
          omega
      · obtain ⟨a9, c9, e9⟩ := row_sliceB hk3
        exact ⟨a9, c9, e9⟩
      · have hj9 : ∀ j, kv.ownBlock = some j → wn.heap[j]? = w3.heap[j]? := fun j hj => key2 j (hk3.lt j hj).2 (kinds_free hA3 hk3 hn j hj) (fun g hg e => by have := (hsB g hg).1; have := hkp j hj; omega)
        exact own_at hk3 hj9
  · have c3 : ChgM w w3 m := ⟨hg3.os.trans h.chg.os, hg3.tape.trans h.chg.tape, hg3.output.trans h.chg.output, Nat.le_trans h.chg.size z3, fun k k0 k1 k2 k3 k4 k5 => (hg3.block k (by have := h.chg.size; omega) (fun e => by have e2 := Option.some.inj e; omega)).trans (h.chg.block k k0 k1 k2 k3 k4 k5)⟩
    have c5 := (c3.trans (ChgM.below m hb4)).trans hc5
    exact ⟨hgn.os.trans c5.os, hgn.tape.trans c5.tape, hgn.output.trans c5.output, by have := c5.size; omega, fun k k0 k1 k2 k3 k4 k5 => by
      rw [hgn.block k (by have := c5.size; simp; omega) (fun e => by have := (hsB k e.symm).1; omega), Below.heap_alloc _ _ _ (by have := c5.size; omega)]
      exact c5.block k k0 k1 k2 k3 k4 k5⟩
  · have hl : ln < wr.heap.size := by omega
    exact (key1 ln hl (by omega) (ht.up (by omega)) (fun g hg e => by have := (hsB g hg).1; omega)).trans h.row
  · have h0 : 0 < wr.heap.size := by omega
    exact (World.cell?_of_block (a := ⟨0, 0, none⟩) (key1 0 h0 (by omega) ht.zero (fun g hg e => by have := (hsB g hg).1; omega))).trans h.mm
end Go.Proofs.YthokdbcpkmcieaaGreatDoor
