/- What a parsed line is bounded by. -/
import Derived.Test.YthokdbcpkmcieaaGreatDoorA15
import Derived.Test.YthokdbcpkmcieaaGreatDoorA21
namespace Go.Proofs.YthokdbcpkmcieaaGreatDoor
open Go Go.RowKit Go.Shelf Go.WideMaps Go.Maps
def TokOk (N : Nat) (t : Tok) : Prop := t.text.size ≤ N ∧ 0 ≤ t.num
def TokAll (N : Nat) (ts : List Tok) : Prop := ∀ t ∈ ts, TokOk N t
def Good (N : Nat) (t : Trm) : Prop := t.name.size ≤ N ∧ 0 ≤ t.num
def GoodE (N : Nat) (e : List Trm) : Prop := ∀ t ∈ e, Good N t
def GoodV (N : Nat) (es : List (List Trm)) : Prop := ∀ e ∈ es, GoodE N e
theorem TokAll.tail {N : Nat} {t : Tok} {l : List Tok} (h : TokAll N (t :: l)) : TokAll N l := fun x hx => h x (List.mem_cons_of_mem _ hx)
theorem TokAll.head {N : Nat} {t : Tok} {l : List Tok} (h : TokAll N (t :: l)) : TokOk N t := h t List.mem_cons_self
theorem GoodE.snoc {N : Nat} {e : List Trm} {t : Trm} (h : GoodE N e) (ht : Good N t) : GoodE N (e ++ [t]) := fun x hx => by
  rcases List.mem_append.1 hx with h1 | h1
  · exact h x h1
  · rw [List.mem_singleton.1 h1]
    exact ht
theorem GoodV.snoc {N : Nat} {es : List (List Trm)} {e : List Trm} (h : GoodV N es) (ht : GoodE N e) : GoodV N (es ++ [e]) := fun x hx => by
  rcases List.mem_append.1 hx with h1 | h1
  · exact h x h1
  · rw [List.mem_singleton.1 h1]
    exact ht
theorem cntT_snoc (es : List (List Trm)) (e : List Trm) : cntT (es ++ [e]) = cntT es + e.length := by simp [cntT]
theorem numOf_ge {t : List UInt8} {z : Int} (h : numOf t = some z) : 0 ≤ z := by
  unfold numOf at h
  split at h
  · cases h
  · split at h
    · cases h
      decide
    · have h2 := Option.some.inj h
      omega
theorem scanF_num : ∀ (f : Nat) (r : ByteArray) (ts : List Tok), scanF f r = some ts → ∀ t ∈ ts, 0 ≤ t.num
  | 0, r, ts, h, t, ht => by simp [scanF] at h; subst h; cases ht
  | f + 1, r, ts, h, t, ht => by
    unfold scanF at h
    by_cases hp : 0 < r.size
    · rw [dif_pos hp] at h
      obtain ⟨o, ho, h2⟩ := Option.bind_eq_some_iff.1 h
      obtain ⟨ts', h3, rfl⟩ := Option.map_eq_some_iff.1 h2
      rcases List.mem_append.1 ht with h4 | h4
      · unfold pieceK at ho
        split at ho
        · cases ho; cases h4
        · split at ho
          · obtain ⟨v, hv, rfl⟩ := Option.map_eq_some_iff.1 ho
            simp [optL] at h4
            subst h4
            exact numOf_ge hv
          · split at ho
            · cases ho
              simp [optL] at h4
              subst h4
              exact Int.le_refl 0
            · cases ho
              simp [optL] at h4
              subst h4
              exact Int.le_refl 0
      · exact scanF_num f (pieceR r) ts' h3 t h4
    · rw [dif_neg hp] at h
      cases h
      cases ht
theorem pTerm_ok {N : Nat} {ts : List Tok} {x : Trm} {l : List Tok} (h : pTerm ts = some (x, l)) (ha : TokAll N ts) : Good N x ∧ TokAll N l := by
  cases ts with
  | nil => simp [pTerm] at h
  | cons t ts =>
    have h1 := ha.head
    simp only [pTerm] at h
    split at h
    · cases h
      exact ⟨⟨Nat.zero_le _, Int.le_refl 0⟩, ha.tail⟩
    · split at h
      · cases h
        exact ⟨⟨Nat.zero_le _, h1.2⟩, ha.tail⟩
      · split at h
        · cases h
          exact ⟨⟨h1.1, Int.le_refl 0⟩, ha.tail⟩
        · cases h
theorem pRest_ok {N : Nat} : ∀ (f : Nat) (acc : List Trm) (ts : List Tok) (x : List Trm) (l : List Tok), pRest f acc ts = some (x, l) → TokAll N ts → GoodE N acc → GoodE N x ∧ TokAll N l ∧ x.length + l.length ≤ acc.length + ts.length
  | 0, acc, ts, x, l, h, ha, hg => by
    simp only [pRest] at h
    cases h
    exact ⟨hg, ha, Nat.le_refl _⟩
  | f + 1, acc, [], x, l, h, ha, hg => by simp only [pRest] at h; cases h
  | f + 1, acc, t :: ts, x, l, h, ha, hg => by
    simp only [pRest] at h
    split at h
    · obtain ⟨⟨y, l2⟩, h1, h2⟩ := Option.bind_eq_some_iff.1 h
      have q := pTerm_ok h1 ha.tail
      have ql := pTerm_len h1
      have r := pRest_ok f _ l2 x l h2 q.2 (hg.snoc ⟨q.1.1, q.1.2⟩)
      refine ⟨r.1, r.2.1, ?_⟩
      have h9 := r.2.2
      rw [List.length_append] at h9
      simp only [List.length_cons, List.length_nil] at h9 ⊢
      omega
    · split at h
      · obtain ⟨⟨y, l2⟩, h1, h2⟩ := Option.bind_eq_some_iff.1 h
        have q := pTerm_ok h1 ha.tail
        have ql := pTerm_len h1
        have r := pRest_ok f _ l2 x l h2 q.2 (hg.snoc ⟨q.1.1, q.1.2⟩)
        refine ⟨r.1, r.2.1, ?_⟩
        have h9 := r.2.2
        rw [List.length_append] at h9
        simp only [List.length_cons, List.length_nil] at h9 ⊢
        omega
      · cases h
        exact ⟨hg, ha, Nat.le_refl _⟩
theorem pExpr_ok {N : Nat} {ts : List Tok} {x : List Trm} {l : List Tok} (h : pExpr ts = some (x, l)) (ha : TokAll N ts) : GoodE N x ∧ TokAll N l ∧ x.length + l.length ≤ ts.length ∧ l.length + 1 ≤ ts.length := by
  have hl := pExpr_len h
  unfold pExpr at h
  obtain ⟨⟨y, l2⟩, h1, h2⟩ := Option.bind_eq_some_iff.1 h
  have q := pTerm_ok h1 ha
  have ql := pTerm_len h1
  have r := pRest_ok _ _ l2 x l h2 q.2 (fun t ht => by rw [List.mem_singleton.1 ht]; exact q.1)
  refine ⟨r.1, r.2.1, ?_, hl⟩
  have := r.2.2
  simp only [List.length_cons, List.length_nil] at this
  omega
theorem pVals1_ok {N : Nat} : ∀ (f : Nat) (acc : List (List Trm)) (ts : List Tok) (es : List (List Trm)) (l : List Tok), pVals1 f acc ts = some (es, l) → TokAll N ts → GoodV N acc → GoodV N es ∧ TokAll N l ∧ cntT es + l.length ≤ cntT acc + ts.length ∧ es.length + l.length ≤ acc.length + ts.length
  | 0, acc, ts, x, l, h, ha, hg => by
    simp only [pVals1] at h
    cases h
    exact ⟨hg, ha, Nat.le_refl _, Nat.le_refl _⟩
  | f + 1, acc, [], x, l, h, ha, hg => by simp only [pVals1] at h; cases h
  | f + 1, acc, t :: ts, x, l, h, ha, hg => by
    simp only [pVals1] at h
    split at h
    · obtain ⟨⟨y, l2⟩, h1, h2⟩ := Option.bind_eq_some_iff.1 h
      have q := pExpr_ok h1 ha.tail
      have r := pVals1_ok f _ l2 x l h2 q.2.1 (hg.snoc q.1)
      have r3 := r.2.2
      rw [cntT_snoc] at r3
      simp only [List.length_append, List.length_cons, List.length_nil] at r3 ⊢
      exact ⟨r.1, r.2.1, by omega, by omega⟩
    · cases h
      exact ⟨hg, ha, Nat.le_refl _, Nat.le_refl _⟩
theorem cntT_one (e : List Trm) : cntT [e] = e.length := by simp [cntT]
theorem GoodV.one {N : Nat} {e : List Trm} (h : GoodE N e) : GoodV N [e] := fun x hx => by rw [List.mem_singleton.1 hx]; exact h
theorem pVals_ok {N tk : Nat} {ts : List Tok} {es : List (List Trm)} {l : List Tok} (h : pVals tk ts = some (es, l)) (ha : TokAll N ts) : GoodV N es ∧ TokAll N l ∧ cntT es + l.length ≤ ts.length ∧ es.length + l.length ≤ ts.length ∧ (atOnce tk = true → es.length = 1) := by
  unfold pVals at h
  obtain ⟨⟨y, l2⟩, h1, h2⟩ := Option.bind_eq_some_iff.1 h
  have q := pExpr_ok h1 ha
  simp only at h2
  split at h2
  · cases h2
    refine ⟨GoodV.one q.1, q.2.1, ?_, ?_, fun _ => rfl⟩
    · rw [cntT_one]
      omega
    · simp only [List.length_cons, List.length_nil]
      omega
  · rename_i hn
    have r := pVals1_ok _ _ l2 es l h2 q.2.1 (GoodV.one q.1)
    have r3 := r.2.2
    rw [cntT_one] at r3
    simp only [List.length_cons, List.length_nil] at r3
    exact ⟨r.1, r.2.1, by omega, by omega, fun e => absurd e hn⟩
theorem numT_ok (N n : Nat) : GoodE N [numT (n : Int)] := fun t ht => by
  rw [List.mem_singleton.1 ht]
  exact ⟨Nat.zero_le _, Int.natCast_nonneg n⟩
theorem pAtFin_ok {N : Nat} {tx : ByteArray} {ts : List Tok} {x : Nat × List Trm} {l : List Tok} (h : pAtFin tx ts = some (x, l)) : GoodE N x.2 ∧ x.2.length = 1 ∧ l = ts := by
  unfold pAtFin at h
  obtain ⟨y, _, h2⟩ := Option.map_eq_some_iff.1 h
  cases h2
  exact ⟨numT_ok N _, rfl, rfl⟩
theorem pAt_ok {N : Nat} {ts : List Tok} {x : Nat × List Trm} {l : List Tok} (h : pAt ts = some (x, l)) (ha : TokAll N ts) : GoodE N x.2 ∧ TokAll N l ∧ x.2.length + l.length ≤ ts.length := by
  match ts with
  | [] => simp [pAt] at h
  | [_] => simp [pAt] at h
  | t :: u :: l0 =>
    simp only [pAt] at h
    split at h
    · split at h
      · cases l0 with
        | nil => cases h
        | cons v l3 =>
          simp only at h
          split at h
          · obtain ⟨h1, h2, rfl⟩ := pAtFin_ok (N := N) h
            refine ⟨h1, ha.tail.tail.tail, ?_⟩
            rw [h2]
            simp only [List.length_cons]
            omega
          · cases h
      · obtain ⟨h1, h2, rfl⟩ := pAtFin_ok (N := N) h
        refine ⟨h1, ha.tail, ?_⟩
        rw [h2]
        simp only [List.length_cons]
        omega
    · cases h
theorem pOp_ok {N : Nat} {ts : List Tok} {x : Nat × List Trm} {l : List Tok} (h : pOp ts = some (x, l)) (ha : TokAll N ts) : GoodE N x.2 ∧ TokAll N l ∧ x.2.length + l.length ≤ ts.length := by
  cases ts with
  | nil => simp [pOp] at h
  | cons t ts =>
    simp only [pOp] at h
    split at h
    · obtain ⟨⟨y, l2⟩, h1, h2⟩ := Option.map_eq_some_iff.1 h
      cases h2
      have q := pExpr_ok h1 ha.tail
      refine ⟨q.1, q.2.1, ?_⟩
      simp only [List.length_cons]
      omega
    · split at h
      · obtain ⟨⟨y, l2⟩, h1, h2⟩ := Option.map_eq_some_iff.1 h
        cases h2
        have q := pExpr_ok h1 ha.tail
        refine ⟨q.1, q.2.1, ?_⟩
        simp only [List.length_cons]
        omega
      · split at h
        · have q := pAt_ok h ha.tail
          refine ⟨q.1, q.2.1, ?_⟩
          simp only [List.length_cons]
          omega
        · split at h
          · cases h
            refine ⟨numT_ok N _, ha.tail, ?_⟩
            simp only [List.length_cons, List.length_nil]
            omega
          · obtain ⟨⟨y, l2⟩, h1, h2⟩ := Option.map_eq_some_iff.1 h
            cases h2
            have q := pExpr_ok h1 ha
            exact ⟨q.1, q.2.1, q.2.2.1⟩
theorem pOps_ok {N : Nat} : ∀ (f : Nat) (ks : List Nat) (vs : List (List Trm)) (ts : List Tok) (x : List Nat × List (List Trm)) (l : List Tok), pOps f ks vs ts = some (x, l) → TokAll N ts → GoodV N vs → ks.length = vs.length → GoodV N x.2 ∧ TokAll N l ∧ cntT x.2 + l.length ≤ cntT vs + ts.length ∧ x.2.length + l.length ≤ vs.length + ts.length ∧ x.1.length = x.2.length
  | 0, _, _, _, _, _, h, _, _, _ => by simp only [pOps] at h; cases h
  | f + 1, ks, vs, ts, x, l, h, ha, hg, hk => by
    simp only [pOps] at h
    split at h
    · cases h
    · cases h
    · rename_i y t l2 h1
      have q := pOp_ok h1 ha
      have ql := pOp_len h1
      have qc := q.2.2
      simp only [List.length_cons] at ql qc
      split at h
      · have r := pOps_ok f _ _ l2 x l h q.2.1.tail (hg.snoc q.1) (by simp [hk])
        have r3 := r.2.2
        rw [cntT_snoc] at r3
        simp only [List.length_append, List.length_cons, List.length_nil] at r3
        exact ⟨r.1, r.2.1, by omega, by omega, r3.2.2⟩
      · cases h
        refine ⟨hg.snoc q.1, q.2.1, ?_, ?_, by simp [hk]⟩
        · rw [cntT_snoc]
          simp only [List.length_cons]
          omega
        · simp only [List.length_append, List.length_cons, List.length_nil]
          omega
theorem pInsOps_ok {N : Nat} {ts : List Tok} {x : List Nat × List (List Trm)} {l : List Tok} (h : pInsOps ts = some (x, l)) (ha : TokAll N ts) : GoodV N x.2 ∧ TokAll N l ∧ cntT x.2 + l.length ≤ ts.length ∧ x.2.length + l.length ≤ ts.length ∧ x.1.length = x.2.length := by
  cases ts with
  | nil => simp [pInsOps] at h
  | cons t ts =>
    simp only [pInsOps] at h
    split at h
    · cases h
      exact ⟨(fun e he => by cases he), ha, by simp [cntT], by simp, rfl⟩
    · have r := pOps_ok _ _ _ _ _ _ h ha (fun e he => by cases he) rfl
      have r3 := r.2.2
      rw [show cntT [] = 0 from rfl] at r3
      simp only [List.length_nil] at r3
      exact ⟨r.1, r.2.1, by omega, by omega, r3.2.2⟩
/-- An instruction of the book, with so many operands. -/
structure InsF (d : InsD) (n : Nat) : Prop where
  code : d.code ≤ 255
  kinds : ∀ k ∈ d.kinds, k < 17
  len : d.kinds.length = n
  le : n ≤ 3
  size : d.size = sizeK d.kinds
  size3 : d.size ≤ 3
  swap : d.code = 133 → n = 2
set_option maxRecDepth 100000 in
theorem rows_insF : (rowsL.all fun r => decide (r.1 ≤ 255) && (rowKd r.2.2).all (fun k => decide (k < 17)) && decide ((rowKd r.2.2).length ≤ 3) && decide (sizeK (rowKd r.2.2) ≤ 3) && (decide (r.1 ≠ 133) || decide ((rowKd r.2.2).length = 2))) = true := by decide +kernel
theorem insO_ok {s : List UInt8} {ks : List Nat} {d : InsD} (h : insO s ks = some d) : InsF d ks.length := by
  unfold insO at h
  obtain ⟨r, h1, rfl⟩ := Option.map_eq_some_iff.1 h
  have hm : r ∈ rowsL := List.mem_reverse.1 (List.mem_of_find?_eq_some h1)
  have hp := List.find?_some h1
  unfold meant at hp
  rw [Bool.and_eq_true, beq_iff_eq, beq_iff_eq] at hp
  have hl : (rowKd r.2.2).length = ks.length := by
    have := congrArg List.length hp.2
    simpa using this
  have hq := List.all_eq_true.1 rows_insF r hm
  simp only [Bool.and_eq_true, decide_eq_true_eq, List.all_eq_true, Bool.or_eq_true] at hq
  obtain ⟨⟨⟨⟨q1, q2⟩, q3⟩, q4⟩, q5⟩ := hq
  exact ⟨q1, q2, hl, hl ▸ q3, rfl, q4, fun e => by
    rcases q5 with q5 | q5
    · exact absurd e q5
    · rw [← hl]
      exact q5⟩
theorem pIns_ok {N : Nat} {s : List UInt8} {ts : List Tok} {x : InsD × List (List Trm)} {l : List Tok} (h : pIns s ts = some (x, l)) (ha : TokAll N ts) : GoodV N x.2 ∧ TokAll N l ∧ cntT x.2 + l.length ≤ ts.length ∧ x.2.length + l.length ≤ ts.length ∧ InsF x.1 x.2.length := by
  unfold pIns at h
  obtain ⟨⟨y, l2⟩, h1, h2⟩ := Option.bind_eq_some_iff.1 h
  obtain ⟨d, h3, h4⟩ := Option.map_eq_some_iff.1 h2
  cases h4
  have q := pInsOps_ok h1 ha
  refine ⟨q.1, q.2.1, q.2.2.1, q.2.2.2.1, ?_⟩
  unfold findO at h3
  split at h3
  · cases h3
  · have := insO_ok h3
    rw [q.2.2.2.2] at this
    exact this
/-- What a parsed line is bounded by: its text has at most so many bytes. -/
structure StmF (N : Nat) (lb : ByteArray) (x : Stm) : Prop where
  lb : lb.size ≤ N
  name : x.name.size ≤ N
  task : x.task ≤ 6
  vals : GoodV N x.vals
  cnt : cntT x.vals ≤ N + 1
  len : x.vals.length ≤ N + 1
  once : atOnce x.task = true → x.vals.length = 1
  ins : x.task = 6 → InsF x.ins x.vals.length
  other : x.task ≠ 6 → x.ins = ins0
theorem dirO_le {l : List UInt8} {t : Nat} (h : dirO l = some t) : 1 ≤ t ∧ t ≤ 5 := by
  unfold dirO at h
  obtain ⟨y, h1, rfl⟩ := Option.map_eq_some_iff.1 h
  have hm := List.mem_of_find?_eq_some h1
  have key : ∀ y ∈ dirL, 1 ≤ y.2 ∧ y.2 ≤ 5 := by decide
  exact key y hm
/-- What readTask is bounded by. -/
structure TskF (N M : Nat) (x : Stm) : Prop where
  name : x.name.size ≤ N
  task : x.task ≤ 6
  vals : GoodV N x.vals
  cnt : cntT x.vals ≤ M
  len : x.vals.length ≤ M
  once : atOnce x.task = true → x.vals.length = 1
  ins : x.task = 6 → InsF x.ins x.vals.length
  other : x.task ≠ 6 → x.ins = ins0
theorem pEqu_ok {N : Nat} {s : ByteArray} {ts : List Tok} {x : Stm} {l : List Tok} (h : pEqu s ts = some (x, l)) (ha : TokAll N ts) (hs : s.size ≤ N) : TskF N ts.length x := by
  cases ts with
  | nil => simp [pEqu] at h
  | cons u ts =>
    simp only [pEqu] at h
    split at h
    · obtain ⟨⟨y, l2⟩, h1, h2⟩ := Option.map_eq_some_iff.1 h
      cases h2
      have q := pVals_ok h1 ha.tail
      refine ⟨hs, by show 5 ≤ 6; decide, q.1, ?_, ?_, fun _ => q.2.2.2.2 rfl, fun e => absurd e (by show ¬ 5 = 6; decide), fun _ => rfl⟩
      · simp only [List.length_cons]
        omega
      · simp only [List.length_cons]
        omega
    · cases h
theorem pTask_ok {N : Nat} {ts : List Tok} {x : Stm} {l : List Tok} (h : pTask ts = some (x, l)) (ha : TokAll N ts) : TskF N ts.length x := by
  cases ts with
  | nil => simp [pTask] at h
  | cons t ts =>
    have h1 := ha.head
    have up : ∀ {x : Stm}, TskF N ts.length x → TskF N (t :: ts).length x := fun q => ⟨q.name, q.task, q.vals, by simp only [List.length_cons]; have := q.cnt; omega, by simp only [List.length_cons]; have := q.len; omega, q.once, q.ins, q.other⟩
    simp only [pTask] at h
    split at h
    · cases h
      exact ⟨Nat.zero_le _, Nat.zero_le _, (fun e he => by cases he), by simp [cntT], by simp, (fun e => by cases e), (fun e => by cases e), fun _ => rfl⟩
    · split at h
      · cases h
      · split at h
        · obtain ⟨⟨y, l2⟩, h1, h2⟩ := Option.map_eq_some_iff.1 h
          cases h2
          have q := pIns_ok h1 ha.tail
          exact up ⟨Nat.zero_le _, Nat.le_refl _, q.1, by have := q.2.2.1; simp only; omega, by have := q.2.2.2.1; simp only; omega, (fun e => by cases e), fun _ => q.2.2.2.2, fun e => absurd rfl e⟩
        · split at h
          · rename_i tk hd
            split at h
            · exact up (pEqu_ok h ha.tail h1.1)
            · obtain ⟨⟨y, l2⟩, h2, h3⟩ := Option.map_eq_some_iff.1 h
              cases h3
              have q := pVals_ok h2 ha.tail
              have ht := dirO_le hd
              exact up ⟨Nat.zero_le _, by show tk ≤ 6; omega, q.1, by have := q.2.2.1; simp only; omega, by have := q.2.2.2.1; simp only; omega, q.2.2.2.2, (fun e => by have e2 : tk = 6 := e; omega), fun _ => rfl⟩
          · exact up (pEqu_ok h ha.tail h1.1)
theorem pLabel_ok {N : Nat} {ts : List Tok} {lb : ByteArray} {l : List Tok} (h : pLabel ts = some (lb, l)) (ha : TokAll N ts) : lb.size ≤ N ∧ TokAll N l := by
  match ts with
  | [] => simp [pLabel] at h
  | [t] =>
    simp only [pLabel] at h
    cases h
    exact ⟨Nat.zero_le _, ha⟩
  | t :: u :: l0 =>
    simp only [pLabel] at h
    split at h
    · cases h
      exact ⟨Nat.zero_le _, ha⟩
    · split at h
      · cases h
        exact ⟨ha.head.1, ha.tail.tail⟩
      · cases h
theorem parseL_ok {s : ByteArray} {lb : ByteArray} {x : Stm} (h : parseL s = some (lb, x)) : StmF s.size lb x := by
  unfold parseL at h
  obtain ⟨ts, h1, h2⟩ := Option.bind_eq_some_iff.1 h
  unfold parseT at h2
  obtain ⟨⟨lb2, l⟩, h3, h4⟩ := Option.bind_eq_some_iff.1 h2
  obtain ⟨⟨y, l2⟩, h5, h6⟩ := Option.bind_eq_some_iff.1 h4
  simp only at h5 h6
  split at h6
  · cases h6
    have hb : (bodyOf s).size ≤ s.size := by
      have := cut_len s.data.toList
      rw [Array.length_toList] at this
      show (Lib.cut s.data.toList [59]).1.toArray.size ≤ _
      rw [List.size_toArray]
      exact this
    have hc : (capS (bodyOf s)).size = (bodyOf s).size := by
      show ((bodyOf s).data.map capB).size = _
      rw [Array.size_map]
      rfl
    have hn := scanF_len _ _ _ h1
    have ha : TokAll s.size (ts ++ [endT]) := fun t ht => by
      rcases List.mem_append.1 ht with q | q
      · have := (scanF_tok _ _ _ h1 t q).2
        exact ⟨by omega, scanF_num _ _ _ h1 t q⟩
      · rw [List.mem_singleton.1 q]
        exact ⟨Nat.zero_le _, Int.le_refl 0⟩
    have q := pLabel_ok h3 ha
    have ql := pLabel_len h3
    have r := pTask_ok h5 q.2
    have hl : l.length ≤ s.size + 1 := by
      simp only [List.length_append, List.length_cons, List.length_nil] at ql
      omega
    exact ⟨q.1, r.name, r.task, r.vals, Nat.le_trans r.cnt hl, Nat.le_trans r.len hl, r.once, r.ins, r.other⟩
  · cases h6
end Go.Proofs.YthokdbcpkmcieaaGreatDoor
