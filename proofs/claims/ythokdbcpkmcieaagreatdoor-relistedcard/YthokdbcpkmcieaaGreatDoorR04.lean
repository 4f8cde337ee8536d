/- What the parser makes of a decoded line. A decoded line is parsed to the instruction that it was decoded of. Texts whose bytes do not hang on the place. Numbers in statements; ORG; the assembler that begins at a place. -/
import Derived.Test.YthokdbcpkmcieaaGreatDoorR03
import Derived.Test.YthokdbcpkmcieaaGreatDoorR01
import Derived.Test.YthokdbcpkmcieaaGreatDoorA38
namespace Go.Proofs.YthokdbcpkmcieaaGreatDoor
open Go Go.RowKit
/-- What stands behind an operand: a comma, or the end. -/
def SepT (t : Tok) : Prop := t = sT 44 ∨ t = endT
theorem SepT.text {t : Tok} (h : SepT t) : ¬ t.text = ⟨#[43]⟩ ∧ ¬ t.text = ⟨#[45]⟩ := by
  rcases h with rfl | rfl <;> exact ⟨by decide, by decide⟩
theorem pRest_sep (f : Nat) (acc : List Trm) (t : Tok) (l : List Tok) (h : SepT t) : pRest (f + 1) acc (t :: l) = some (acc, t :: l) := by
  simp only [pRest]
  rw [if_neg h.text.2, if_neg h.text.1]
theorem px_ne (x : Int) (c : UInt8) : ¬ (⟨(px2 x).toArray⟩ : ByteArray) = ⟨#[c]⟩ ∧ ¬ (⟨(px4 x).toArray⟩ : ByteArray) = ⟨#[c]⟩ := by
  constructor
  · intro e
    have := congrArg ByteArray.size e
    exact absurd this (by show ¬ (4 : Nat) = 1; omega)
  · intro e
    have := congrArg ByteArray.size e
    exact absurd this (by show ¬ (6 : Nat) = 1; omega)
theorem pExpr_num (t : Tok) (v : Int) (ht : ¬ t.text = ⟨#[36]⟩) (hk : t.kind = 2) (hv : t.num = v) (s : Tok) (l : List Tok) (hs : SepT s) : pExpr (t :: s :: l) = some ([numT v], s :: l) := by
  have h1 : pTerm (t :: s :: l) = some (numT v, s :: l) := by
    simp only [pTerm]
    rw [if_neg ht, if_pos hk, hv]
    rfl
  unfold pExpr
  rw [h1]
  exact pRest_sep _ _ s l hs
theorem fix_px2 (x : Int) : fixO (px2 x) = none := by
  unfold fixO fixL px2
  simp [List.find?]
theorem fix_px4 (x : Int) : fixO (px4 x) = none := by
  unfold fixO fixL px4
  simp [List.find?]
theorem pOp_tks (o : Opn) (h : OpL o) (s : Tok) (l : List Tok) (hs : SepT s) : pOp (tksO o ++ s :: l) = some ((lkN o.kind, [numT (numO o)]), s :: l) := by
  have e2 : ∀ x : Int, pExpr (nT (px2 x) x :: s :: l) = some ([numT x], s :: l) := fun x => pExpr_num _ x (px_ne x 36).1 rfl rfl s l hs
  have e4 : ∀ x : Int, pExpr (nT (px4 x) x :: s :: l) = some ([numT x], s :: l) := fun x => pExpr_num _ x (px_ne x 36).2 rfl rfl s l hs
  have p2 : ∀ x : Int, pOp (nT (px2 x) x :: s :: l) = some ((11, [numT x]), s :: l) := fun x => by
    simp only [pOp]
    rw [if_neg (show ¬ (nT (px2 x) x).text = ⟨#[35]⟩ from (px_ne x 35).1), if_neg (show ¬ (nT (px2 x) x).text = ⟨#[47]⟩ from (px_ne x 47).1), if_neg (show ¬ (nT (px2 x) x).text = ⟨#[64]⟩ from (px_ne x 64).1)]
    have : fixO (nT (px2 x) x).text.data.toList = none := fix_px2 x
    rw [this]
    simp only
    rw [e2 x]
    rfl
  have p4 : ∀ x : Int, pOp (nT (px4 x) x :: s :: l) = some ((11, [numT x]), s :: l) := fun x => by
    simp only [pOp]
    rw [if_neg (show ¬ (nT (px4 x) x).text = ⟨#[35]⟩ from (px_ne x 35).2), if_neg (show ¬ (nT (px4 x) x).text = ⟨#[47]⟩ from (px_ne x 47).2), if_neg (show ¬ (nT (px4 x) x).text = ⟨#[64]⟩ from (px_ne x 64).2)]
    have : fixO (nT (px4 x) x).text.data.toList = none := fix_px4 x
    rw [this]
    simp only
    rw [e4 x]
    rfl
  have ph : ∀ (t : Tok) (x : Int), pExpr (t :: s :: l) = some ([numT x], s :: l) → pOp (sT 35 :: t :: s :: l) = some ((9, [numT x]), s :: l) := fun t x e => by
    simp only [pOp]
    rw [if_pos (show (sT 35).text = ⟨#[35]⟩ from rfl), e]
    rfl
  have ps : ∀ (t : Tok) (x : Int), pExpr (t :: s :: l) = some ([numT x], s :: l) → pOp (sT 47 :: t :: s :: l) = some ((13, [numT x]), s :: l) := fun t x e => by
    simp only [pOp]
    rw [if_neg (by decide), if_pos (show (sT 47).text = ⟨#[47]⟩ from rfl), e]
    rfl
  have pf : ∀ (b : List UInt8) (y : Nat × Nat), ¬ (⟨b.toArray⟩ : ByteArray) = ⟨#[35]⟩ → ¬ (⟨b.toArray⟩ : ByteArray) = ⟨#[47]⟩ → ¬ (⟨b.toArray⟩ : ByteArray) = ⟨#[64]⟩ → fixO b = some y → pOp (wT b :: s :: l) = some ((y.1, [numT y.2]), s :: l) := fun b y a1 a2 a3 a4 => by
    simp only [pOp]
    rw [if_neg (show ¬ (wT b).text = ⟨#[35]⟩ from a1), if_neg (show ¬ (wT b).text = ⟨#[47]⟩ from a2), if_neg (show ¬ (wT b).text = ⟨#[64]⟩ from a3)]
    have : fixO (wT b).text.data.toList = some y := a4
    rw [this]
  have pa : ∀ (b : List UInt8) (y : Nat × Nat), fixO ((⟨#[64]⟩ : ByteArray) ++ ⟨b.toArray⟩).data.toList = some y → pOp (sT 64 :: wT b :: s :: l) = some ((y.1, [numT y.2]), s :: l) := fun b y a4 => by
    simp only [pOp]
    rw [if_neg (by decide), if_neg (by decide), if_pos (show (sT 64).text = ⟨#[64]⟩ from rfl), pAt_one rfl hs.text.1]
    unfold pAtFin
    rw [show (wT b).text = ⟨b.toArray⟩ from rfl, a4]
    rfl
  have pp : ∀ (b c : List UInt8) (y : Nat × Nat), fixO (((⟨#[64]⟩ : ByteArray) ++ ⟨b.toArray⟩) ++ (⟨#[43]⟩ ++ ⟨c.toArray⟩)).data.toList = some y → pOp (sT 64 :: wT b :: sT 43 :: wT c :: s :: l) = some ((y.1, [numT y.2]), s :: l) := fun b c y a4 => by
    simp only [pOp]
    rw [if_neg (by decide), if_neg (by decide), if_pos (show (sT 64).text = ⟨#[64]⟩ from rfl), pAt_two rfl rfl rfl]
    unfold pAtFin
    rw [show (wT b).text = ⟨b.toArray⟩ from rfl, show (wT c).text = ⟨c.toArray⟩ from rfl, a4]
    rfl
  obtain ⟨k, nm', own, add, bh⟩ := o
  have hk := h.kind
  have h7 := h.own7
  have h8 := h.own8
  clear h
  simp only at hk h7 h8
  rcases kind_cases hk with rfl | rfl | rfl | rfl | rfl | rfl | rfl | rfl | rfl | rfl | rfl | rfl | rfl | rfl | rfl | rfl | rfl
  · exact pf [65] (0, 0) (by decide) (by decide) (by decide) (by decide)
  · exact pf [65, 66] (1, 0) (by decide) (by decide) (by decide) (by decide)
  · exact pf [67] (2, 0) (by decide) (by decide) (by decide) (by decide)
  · exact pf [68, 80, 84, 82] (3, 0) (by decide) (by decide) (by decide) (by decide)
  · exact pp [65] [68, 80, 84, 82] (4, 0) (by decide)
  · exact pp [65] [80, 67] (5, 0) (by decide)
  · exact pa [68, 80, 84, 82] (6, 0) (by decide)
  · have h7 := h7 rfl
    rcases own_cases ⟨h7.1, by omega⟩ with rfl | rfl | rfl | rfl | rfl | rfl | rfl | rfl
    · exact pa [82, hd 0] (7, 0) (by decide)
    · exact pa [82, hd 1] (7, 1) (by decide)
    all_goals exact absurd h7.2 (by decide)
  · rcases own_cases (h8 rfl) with rfl | rfl | rfl | rfl | rfl | rfl | rfl | rfl
    · exact pf [82, hd 0] (8, 0) (by decide) (by decide) (by decide) (by decide)
    · exact pf [82, hd 1] (8, 1) (by decide) (by decide) (by decide) (by decide)
    · exact pf [82, hd 2] (8, 2) (by decide) (by decide) (by decide) (by decide)
    · exact pf [82, hd 3] (8, 3) (by decide) (by decide) (by decide) (by decide)
    · exact pf [82, hd 4] (8, 4) (by decide) (by decide) (by decide) (by decide)
    · exact pf [82, hd 5] (8, 5) (by decide) (by decide) (by decide) (by decide)
    · exact pf [82, hd 6] (8, 6) (by decide) (by decide) (by decide) (by decide)
    · exact pf [82, hd 7] (8, 7) (by decide) (by decide) (by decide) (by decide)
  · exact ph _ _ (e2 _)
  · exact ph _ _ (e4 _)
  · exact p2 _
  · exact p2 _
  · exact ps _ _ (e2 _)
  · exact p4 _
  · exact p4 _
  · exact p4 _
/-- The tokens of the operands, with commas between them, and the end. -/
def opsT : List Opn → List Tok
  | [] => [endT]
  | [o] => tksO o ++ [endT]
  | o :: q :: l => tksO o ++ sT 44 :: opsT (q :: l)
theorem pOps_ops : ∀ (l : List Opn) (o : Opn) (f : Nat) (ks : List Nat) (vs : List (List Trm)), (∀ x ∈ o :: l, OpL x) → l.length < f → pOps f ks vs (opsT (o :: l)) = some ((ks ++ (o :: l).map fun x => lkN x.kind, vs ++ (o :: l).map fun x => [numT (numO x)]), [endT])
  | [], o, 0, _, _, _, h => by simp at h
  | [], o, f + 1, ks, vs, ho, _ => by
    show pOps (f + 1) ks vs (tksO o ++ [endT]) = _
    simp only [pOps]
    rw [pOp_tks o (ho o List.mem_cons_self) endT [] (.inr rfl)]
    simp only
    rw [if_neg (by decide)]
    rfl
  | q :: l, o, 0, _, _, _, h => by simp at h
  | q :: l, o, f + 1, ks, vs, ho, h => by
    show pOps (f + 1) ks vs (tksO o ++ sT 44 :: opsT (q :: l)) = _
    simp only [pOps]
    rw [pOp_tks o (ho o List.mem_cons_self) (sT 44) (opsT (q :: l)) (.inl rfl)]
    simp only
    rw [if_pos (show (sT 44).text = ⟨#[44]⟩ from rfl), pOps_ops l q f _ _ (fun x hx => ho x (List.mem_cons_of_mem _ hx)) (by simp at h; omega)]
    simp
theorem tksO_head (o : Opn) (hk : o.kind < 17) : ∃ t l, tksO o = t :: l ∧ t.kind ≠ 0 ∧ ¬ t.text = ⟨#[58]⟩ := by
  unfold tksO
  rcases kind_cases hk with k | k | k | k | k | k | k | k | k | k | k | k | k | k | k | k | k
  all_goals rw [k]
  all_goals refine ⟨_, _, rfl, ?_, ?_⟩
  all_goals first
    | exact fun e => Nat.noConfusion e
    | decide
    | exact (px_ne _ 58).1
    | exact (px_ne _ 58).2
    | exact fun e => absurd (congrArg ByteArray.size e) (show ¬ (2 : Nat) = 1 by omega)
theorem opsT_len : ∀ (l : List Opn) (o : Opn), (∀ x ∈ o :: l, OpL x) → l.length + 2 ≤ (opsT (o :: l)).length
  | [], o, ho => by
    obtain ⟨t, l, e, _⟩ := tksO_head o (ho o List.mem_cons_self).kind
    show _ ≤ (tksO o ++ [endT]).length
    rw [e]
    simp
  | q :: l, o, ho => by
    have ih := opsT_len l q (fun x hx => ho x (List.mem_cons_of_mem _ hx))
    obtain ⟨t, k, e, _⟩ := tksO_head o (ho o List.mem_cons_self).kind
    show _ ≤ (tksO o ++ sT 44 :: opsT (q :: l)).length
    rw [e]
    simp
    omega
theorem pInsOps_ops (ops : List Opn) (ho : ∀ x ∈ ops, OpL x) : pInsOps (opsT ops) = some ((ops.map fun x => lkN x.kind, ops.map fun x => [numT (numO x)]), [endT]) := by
  cases ops with
  | nil => rfl
  | cons o l =>
    have hl := opsT_len l o ho
    have hp := fun f => pOps_ops l o f [] [] ho
    obtain ⟨t, r, e, hk⟩ : ∃ t r, opsT (o :: l) = t :: r ∧ t.kind ≠ 0 := by
      obtain ⟨t, k, e, hk, _⟩ := tksO_head o (ho o List.mem_cons_self).kind
      cases l with
      | nil => exact ⟨t, k ++ [endT], by show tksO o ++ [endT] = _; rw [e]; rfl, hk⟩
      | cons q l => exact ⟨t, k ++ sT 44 :: opsT (q :: l), by show tksO o ++ _ = _; rw [e]; rfl, hk⟩
    rw [e] at hp hl ⊢
    simp only [pInsOps]
    rw [if_neg hk, hp (r.length + 1) (by simp at hl; omega)]
    simp
/-- The tokens of a line, the name first. -/
theorem parseT_line (nm' : List UInt8) (ops : List Opn) (ho : ∀ x ∈ ops, OpL x) (hn : hasN nm' = true) (d : InsD) (hf : findO nm' (ops.map fun x => lkN x.kind) = some d) :
    (pLabel (wT nm' :: opsT ops)).bind (fun x => (pTask x.2).bind fun y => if lineEnd y.2 = true then some (x.1, y.1) else none) = some (⟨#[]⟩, ⟨6, ⟨#[]⟩, ops.map fun x => [numT (numO x)], d⟩) := by
  have h1 : pLabel (wT nm' :: opsT ops) = some (⟨#[]⟩, wT nm' :: opsT ops) := by
    have : ∃ u r, opsT ops = u :: r ∧ ¬ u.text = ⟨#[58]⟩ := by
      match ops with
      | [] => exact ⟨endT, [], rfl, by decide⟩
      | [o] =>
        obtain ⟨t, k, e, _, hk⟩ := tksO_head o (ho o List.mem_cons_self).kind
        exact ⟨t, k ++ [endT], by show tksO o ++ [endT] = _; rw [e]; rfl, hk⟩
      | o :: q :: l =>
        obtain ⟨t, k, e, _, hk⟩ := tksO_head o (ho o List.mem_cons_self).kind
        exact ⟨t, k ++ sT 44 :: opsT (q :: l), by show tksO o ++ _ = _; rw [e]; rfl, hk⟩
    obtain ⟨u, r, e, hu⟩ := this
    rw [e]
    simp only [pLabel]
    rw [if_pos (.inr hu)]
  rw [h1]
  simp only [Option.bind_some]
  have h2 : pTask (wT nm' :: opsT ops) = some (⟨6, ⟨#[]⟩, ops.map fun x => [numT (numO x)], d⟩, [endT]) := by
    simp only [pTask]
    rw [if_neg (show ¬ (wT nm').kind = 0 from fun e => Nat.noConfusion e), if_neg (show ¬ ¬ (wT nm').kind = 1 from fun h => h rfl)]
    rw [if_pos (show hasN (wT nm').text.data.toList = true from hn)]
    unfold pIns
    rw [pInsOps_ops ops ho]
    simp only [Option.bind_some]
    rw [show (wT nm').text.data.toList = nm' from rfl, hf]
    rfl
  rw [h2]
  simp only [Option.bind_some]
  rw [if_pos (show lineEnd [endT] = true by decide)]
end Go.Proofs.YthokdbcpkmcieaaGreatDoor
namespace Go.Proofs.YthokdbcpkmcieaaGreatDoor
open Go Go.RowKit
def pcsT : List Opn → List (List UInt8)
  | [] => []
  | [o] => pcsO o
  | o :: q :: l => pcsO o ++ [44] :: pcsT (q :: l)
def tksT : List Opn → List Tok
  | [] => []
  | [o] => tksO o
  | o :: q :: l => tksO o ++ sT 44 :: tksT (q :: l)
theorem opsT_tks : ∀ l : List Opn, opsT l = tksT l ++ [endT]
  | [] => rfl
  | [o] => rfl
  | o :: q :: l => by
    show tksO o ++ sT 44 :: opsT (q :: l) = (tksO o ++ sT 44 :: tksT (q :: l)) ++ [endT]
    rw [opsT_tks (q :: l)]
    simp
theorem join_pcs : ∀ l : List Opn, (∀ x ∈ l, OpL x) → (Lib.join (l.map fun o => (writS o).data.toList) [44]).map capB = (pcsT l).flatten
  | [], _ => rfl
  | [o], h => by
    have := writ_pcs o (h o List.mem_cons_self)
    simpa [Lib.join, List.intercalate, pcsT] using this
  | o :: q :: l, h => by
    have ih := join_pcs (q :: l) (fun x hx => h x (List.mem_cons_of_mem _ hx))
    have h1 := writ_pcs o (h o List.mem_cons_self)
    have e : Lib.join ((o :: q :: l).map fun o => (writS o).data.toList) [44] = (writS o).data.toList ++ 44 :: Lib.join ((q :: l).map fun o => (writS o).data.toList) [44] := by
      simp [Lib.join, List.intercalate]
    rw [e, List.map_append, List.map_cons, h1, ih]
    show _ = (pcsO o ++ [44] :: pcsT (q :: l)).flatten
    rw [List.flatten_append, List.flatten_cons]
    rfl
theorem pcsT_ok : ∀ l : List Opn, (∀ x ∈ l, OpL x) → pcOk (pcsT l) = true
  | [], _ => rfl
  | [o], h => (pcs_ok o (h o List.mem_cons_self)).1
  | o :: q :: l, h => by
    have ih := pcsT_ok (q :: l) (fun x hx => h x (List.mem_cons_of_mem _ hx))
    refine pcOk_append _ _ (pcs_ok o (h o List.mem_cons_self)).1 ?_ ?_
    · exact pc_sign (by decide) ih
    · intro p hp
      simp at hp
      rw [← hp]
      exact ⟨by decide, by decide⟩
theorem pcsT_len : ∀ l : List Opn, (∀ x ∈ l, OpL x) → (pcsT l).length ≤ 5 * l.length
  | [], _ => Nat.le_refl _
  | [o], h => by
    have := (pcs_ok o (h o List.mem_cons_self)).2.1
    show (pcsO o).length ≤ 5 * 1
    omega
  | o :: q :: l, h => by
    have ih := pcsT_len (q :: l) (fun x hx => h x (List.mem_cons_of_mem _ hx))
    have := (pcs_ok o (h o List.mem_cons_self)).2.1
    show (pcsO o ++ [44] :: pcsT (q :: l)).length ≤ _
    rw [List.length_append, List.length_cons]
    simp only [List.length_cons] at ih ⊢
    omega
theorem toksT_is : ∀ l : List Opn, (∀ x ∈ l, OpL x) → toksP (pcsT l) = some (tksT l)
  | [], _ => rfl
  | [o], h => pcs_toks o (h o List.mem_cons_self)
  | o :: q :: l, h => by
    have ih := toksT_is (q :: l) (fun x hx => h x (List.mem_cons_of_mem _ hx))
    show toksP (pcsO o ++ [44] :: pcsT (q :: l)) = _
    rw [toksP_append, pcs_toks o (h o List.mem_cons_self)]
    have e : toksP ([44] :: pcsT (q :: l)) = some (sT 44 :: tksT (q :: l)) := by
      simp only [toksP]
      rw [show ([44] : List UInt8).headD 0 = 44 from rfl, pieceK_sign 44 _ (by decide) (by decide) (by decide), ih]
      rfl
    rw [e]
    rfl
theorem writ_clean (o : Opn) (h : OpL o) : (∀ c ∈ (writS o).data.toList, c ≠ 59 ∧ c ≠ 10) ∧ (writS o).data.toList.length ≤ 8 := by
  obtain ⟨k, nm', own, add, bh⟩ := o
  have hn : nm' = opText k := h.name
  subst hn
  have h7 := h.own7
  have h8 := h.own8
  have hk := h.kind
  clear h
  simp only at h7 h8 hk
  rcases kind_cases hk with rfl | rfl | rfl | rfl | rfl | rfl | rfl | rfl | rfl | rfl | rfl | rfl | rfl | rfl | rfl | rfl | rfl
  · show (∀ c ∈ (opText 0).data.toList, c ≠ 59 ∧ c ≠ 10) ∧ (opText 0).data.toList.length ≤ 8
    decide
  · show (∀ c ∈ (opText 1).data.toList, c ≠ 59 ∧ c ≠ 10) ∧ (opText 1).data.toList.length ≤ 8
    decide
  · show (∀ c ∈ (opText 2).data.toList, c ≠ 59 ∧ c ≠ 10) ∧ (opText 2).data.toList.length ≤ 8
    decide
  · show (∀ c ∈ (opText 3).data.toList, c ≠ 59 ∧ c ≠ 10) ∧ (opText 3).data.toList.length ≤ 8
    decide
  · show (∀ c ∈ (opText 4).data.toList, c ≠ 59 ∧ c ≠ 10) ∧ (opText 4).data.toList.length ≤ 8
    decide
  · show (∀ c ∈ (opText 5).data.toList, c ≠ 59 ∧ c ≠ 10) ∧ (opText 5).data.toList.length ≤ 8
    decide
  · show (∀ c ∈ (opText 6).data.toList, c ≠ 59 ∧ c ≠ 10) ∧ (opText 6).data.toList.length ≤ 8
    decide
  · have h7 := h7 rfl
    rcases (show own = 0 ∨ own = 1 by omega) with rfl | rfl
    · show (∀ c ∈ (opText 7 ++ itoaS 0).data.toList, c ≠ 59 ∧ c ≠ 10) ∧ (opText 7 ++ itoaS 0).data.toList.length ≤ 8
      decide +kernel
    · show (∀ c ∈ (opText 7 ++ itoaS 1).data.toList, c ≠ 59 ∧ c ≠ 10) ∧ (opText 7 ++ itoaS 1).data.toList.length ≤ 8
      decide +kernel
  · rcases own_cases (h8 rfl) with rfl | rfl | rfl | rfl | rfl | rfl | rfl | rfl
    · show (∀ c ∈ (opText 8 ++ itoaS 0).data.toList, c ≠ 59 ∧ c ≠ 10) ∧ (opText 8 ++ itoaS 0).data.toList.length ≤ 8
      decide +kernel
    · show (∀ c ∈ (opText 8 ++ itoaS 1).data.toList, c ≠ 59 ∧ c ≠ 10) ∧ (opText 8 ++ itoaS 1).data.toList.length ≤ 8
      decide +kernel
    · show (∀ c ∈ (opText 8 ++ itoaS 2).data.toList, c ≠ 59 ∧ c ≠ 10) ∧ (opText 8 ++ itoaS 2).data.toList.length ≤ 8
      decide +kernel
    · show (∀ c ∈ (opText 8 ++ itoaS 3).data.toList, c ≠ 59 ∧ c ≠ 10) ∧ (opText 8 ++ itoaS 3).data.toList.length ≤ 8
      decide +kernel
    · show (∀ c ∈ (opText 8 ++ itoaS 4).data.toList, c ≠ 59 ∧ c ≠ 10) ∧ (opText 8 ++ itoaS 4).data.toList.length ≤ 8
      decide +kernel
    · show (∀ c ∈ (opText 8 ++ itoaS 5).data.toList, c ≠ 59 ∧ c ≠ 10) ∧ (opText 8 ++ itoaS 5).data.toList.length ≤ 8
      decide +kernel
    · show (∀ c ∈ (opText 8 ++ itoaS 6).data.toList, c ≠ 59 ∧ c ≠ 10) ∧ (opText 8 ++ itoaS 6).data.toList.length ≤ 8
      decide +kernel
    · show (∀ c ∈ (opText 8 ++ itoaS 7).data.toList, c ≠ 59 ∧ c ≠ 10) ∧ (opText 8 ++ itoaS 7).data.toList.length ≤ 8
      decide +kernel
  all_goals (refine ⟨?_, by simp [writS]⟩; simp [writS, hd_ne])
theorem join_clean : ∀ l : List Opn, (∀ x ∈ l, OpL x) → (∀ c ∈ Lib.join (l.map fun o => (writS o).data.toList) [44], c ≠ 59 ∧ c ≠ 10) ∧ (Lib.join (l.map fun o => (writS o).data.toList) [44]).length ≤ 9 * l.length
  | [], _ => ⟨(fun c hc => by cases hc), Nat.le_refl _⟩
  | [o], h => by
    have := writ_clean o (h o List.mem_cons_self)
    have e : Lib.join ([o].map fun o => (writS o).data.toList) [44] = (writS o).data.toList := by simp [Lib.join, List.intercalate]
    rw [e]
    exact ⟨this.1, by have := this.2; simp only [List.length_cons, List.length_nil]; omega⟩
  | o :: q :: l, h => by
    have ih := join_clean (q :: l) (fun x hx => h x (List.mem_cons_of_mem _ hx))
    have h1 := writ_clean o (h o List.mem_cons_self)
    have e : Lib.join ((o :: q :: l).map fun o => (writS o).data.toList) [44] = (writS o).data.toList ++ 44 :: Lib.join ((q :: l).map fun o => (writS o).data.toList) [44] := by
      simp [Lib.join, List.intercalate]
    rw [e]
    refine ⟨fun c hc => ?_, ?_⟩
    · rw [List.mem_append, List.mem_cons] at hc
      rcases hc with hc | rfl | hc
      · exact h1.1 c hc
      · exact ⟨by decide, by decide⟩
      · exact ih.1 c hc
    · have a := ih.2
      have b := h1.2
      rw [List.length_append, List.length_cons]
      simp only [List.length_cons] at a ⊢
      omega
theorem index_noC {t : List UInt8} {c : UInt8} (h : c ∉ t) : Lib.index t [c] = -1 := by
  refine Lib.index_none (fun j hj => ?_)
  unfold Lib.occAt
  by_cases hl : j < t.length
  · rw [List.drop_eq_getElem_cons hl]
    have hn : ¬ c = t[j] := fun e => h (e ▸ List.getElem_mem hl)
    simp [List.isPrefixOf, hn]
  · rw [List.drop_of_length_le (by omega)]
    rfl
theorem body_same {s : ByteArray} (h : (59 : UInt8) ∉ s.data.toList) : bodyOf s = s := by
  unfold bodyOf Lib.cut
  rw [if_neg (by rw [index_noC h]; decide)]
/-- A text whose pieces are known is parsed by its tokens. -/
theorem parseL_pcs {s : ByteArray} {ps : List (List UInt8)} {ts : List Tok} (h59 : (59 : UInt8) ∉ s.data.toList) (hp : s.data.toList.map capB = ps.flatten) (hok : pcOk ps = true) (hl : ps.length ≤ s.size) (ht : toksP ps = some ts) : parseL s = parseT ts := by
  have hc : capS s = ⟨ps.flatten.toArray⟩ := by
    rw [← hp]
    exact (capS_ba s.data.toList)
  unfold parseL
  rw [body_same h59, hc, scan_pieces ps _ hok hl, ht]
  rfl
theorem pcs_le_size : ∀ {ps : List (List UInt8)}, (∀ p ∈ ps, p ≠ []) → ps.length ≤ ps.flatten.length
  | [], _ => Nat.le_refl _
  | p :: l, h => by
    have := pcs_le_size (fun x hx => h x (List.mem_cons_of_mem _ hx))
    have hp : 0 < p.length := List.length_pos_iff.2 (h p List.mem_cons_self)
    rw [List.flatten_cons, List.length_append, List.length_cons]
    omega
theorem pcOk_ne : ∀ {ps : List (List UInt8)}, pcOk ps = true → ∀ p ∈ ps, p ≠ []
  | [], _, p, hp => by cases hp
  | q :: l, h, p, hp => by
    simp only [pcOk, Bool.and_eq_true, Bool.or_eq_true, decide_eq_true_eq, Bool.not_eq_true'] at h
    rcases List.mem_cons.1 hp with rfl | hp
    · rcases h.1 with ⟨⟨a, _⟩, _⟩ | ⟨a, _⟩
      · intro e; rw [e] at a; simp at a
      · intro e; rw [e] at a; simp at a
    · exact pcOk_ne h.2 p hp
/-- What is known of an instruction's name. -/
structure NmOk (nm' : List UInt8) : Prop where
  ne : nm' ≠ []
  word : nm'.all isW = true
  cap : nm'.map capB = nm'
  first : isD (nm'.headD 0) = false
  has : hasN nm' = true
  clean : (59 : UInt8) ∉ nm' ∧ (10 : UInt8) ∉ nm'
  len : nm'.length ≤ 8
theorem tok_name {nm' : List UInt8} (h : NmOk nm') : pieceK (nm'.headD 0) ⟨nm'.toArray⟩ = some (some (wT nm')) := by
  obtain ⟨c, l, rfl⟩ : ∃ c l, nm' = c :: l := by
    cases nm' with
    | nil => exact absurd rfl h.ne
    | cons c l => exact ⟨c, l, rfl⟩
  have hw : isW c = true := List.all_eq_true.1 h.word c List.mem_cons_self
  refine pieceK_word c _ (fun e => ?_) h.first hw
  unfold isW isD at hw
  rw [e] at hw
  simp at hw
/-- The line of an instruction without operands. -/
theorem parse_plain (nm' : List UInt8) (h : NmOk nm') (d : InsD) (hf : findO nm' [] = some d) : parseL ⟨nm'.toArray⟩ = some (⟨#[]⟩, ⟨6, ⟨#[]⟩, [], d⟩) := by
  have hl : 0 < nm'.length := List.length_pos_iff.2 h.ne
  rw [parseL_pcs (ps := [nm']) (ts := [wT nm']) h.clean.1 (by show nm'.map capB = _; rw [h.cap]; simp) (by simp [pcOk, h.word, h.ne]) (by show 1 ≤ nm'.toArray.size; simp; omega) (by simp only [toksP]; rw [tok_name h]; rfl)]
  exact parseT_line nm' [] (fun x hx => by cases hx) h.has d hf
/-- The line of an instruction with operands. -/
theorem parse_ops (nm' : List UInt8) (h : NmOk nm') (ops : List Opn) (ho : ∀ x ∈ ops, OpL x) (d : InsD) (hf : findO nm' (ops.map fun x => lkN x.kind) = some d) :
    parseL ((⟨nm'.toArray⟩ ++ ⟨#[32]⟩) ++ ⟨(Lib.join (ops.map fun o => (writS o).data.toList) [44]).toArray⟩) = some (⟨#[]⟩, ⟨6, ⟨#[]⟩, ops.map fun x => [numT (numO x)], d⟩) := by
  obtain ⟨J, hJ⟩ : ∃ J, Lib.join (ops.map fun o => (writS o).data.toList) [44] = J := ⟨_, rfl⟩
  have hc := join_clean ops ho
  have hp := join_pcs ops ho
  rw [hJ] at hc hp ⊢
  have hlist : ((⟨nm'.toArray⟩ ++ ⟨#[32]⟩ : ByteArray) ++ ⟨J.toArray⟩).data.toList = nm' ++ 32 :: J := by
    rw [app_list, app_list]
    simp
  have hok : pcOk (nm' :: [32] :: pcsT ops) = true := by
    exact pc_word h.ne h.word (by decide) (pc_sign (by decide) (pcsT_ok ops ho))
  have hflat : ((⟨nm'.toArray⟩ ++ ⟨#[32]⟩ : ByteArray) ++ ⟨J.toArray⟩).data.toList.map capB = (nm' :: [32] :: pcsT ops).flatten := by
    rw [hlist, List.map_append, List.map_cons, h.cap, hp, List.flatten_cons, List.flatten_cons]
    rfl
  have hlen := pcs_le_size (pcOk_ne hok)
  rw [← hflat, List.length_map, Array.length_toList] at hlen
  rw [parseL_pcs (ps := nm' :: [32] :: pcsT ops) (ts := wT nm' :: tksT ops) ?_ hflat hok hlen ?_]
  · have := parseT_line nm' ops ho h.has d hf
    rw [opsT_tks] at this
    exact this
  · rw [hlist, List.mem_append, List.mem_cons]
    rintro (e | e | e)
    · exact h.clean.1 e
    · cases e
    · exact (hc.1 _ e).1 rfl
  · simp only [toksP]
    rw [tok_name h, show ([32] : List UInt8).headD 0 = 32 from rfl, pieceK_blank 32 _ (by decide), toksT_is ops ho]
    rfl
theorem line_clean (nm' : List UInt8) (h : NmOk nm') (ops : List Opn) (ho : ∀ x ∈ ops, OpL x) : NoNL ((⟨nm'.toArray⟩ ++ ⟨#[32]⟩) ++ ⟨(Lib.join (ops.map fun o => (writS o).data.toList) [44]).toArray⟩) ∧ ((⟨nm'.toArray⟩ ++ ⟨#[32]⟩ : ByteArray) ++ ⟨(Lib.join (ops.map fun o => (writS o).data.toList) [44]).toArray⟩).size ≤ 9 + 9 * ops.length := by
  have hc := join_clean ops ho
  obtain ⟨J, hJ⟩ : ∃ J, Lib.join (ops.map fun o => (writS o).data.toList) [44] = J := ⟨_, rfl⟩
  rw [hJ] at hc ⊢
  have hlist : ((⟨nm'.toArray⟩ ++ ⟨#[32]⟩ : ByteArray) ++ ⟨J.toArray⟩).data.toList = nm' ++ 32 :: J := by
    rw [app_list, app_list]
    simp
  constructor
  · unfold NoNL
    rw [hlist, List.mem_append, List.mem_cons]
    rintro (e | e | e)
    · exact h.clean.2 e
    · cases e
    · exact (hc.1 _ e).2 rfl
  · have : ((⟨nm'.toArray⟩ ++ ⟨#[32]⟩ : ByteArray) ++ ⟨J.toArray⟩).size = (nm' ++ 32 :: J).length := by
      rw [← hlist, Array.length_toList]
      rfl
    rw [this, List.length_append, List.length_cons]
    have := h.len
    have := hc.2
    omega
end Go.Proofs.YthokdbcpkmcieaaGreatDoor
namespace Go.Proofs.YthokdbcpkmcieaaGreatDoor
open Go Go.RowKit Go.Shelf Go.WideMaps Go.Maps
/-- A statement as plain data. -/
def encT (t : Trm) : Bool × ByteArray × Bool × Int := (t.minus, t.name, t.here, t.num)
def encS (q : ByteArray × Stm) : ByteArray × Nat × ByteArray × List (List (Bool × ByteArray × Bool × Int)) × Nat × List Nat × Nat := (q.1, q.2.task, q.2.name, q.2.vals.map (fun e => e.map encT), q.2.ins.code, q.2.ins.kinds, q.2.ins.size)
theorem encT_inj {a b : Trm} (h : encT a = encT b) : a = b := by
  cases a
  cases b
  simp only [encT, Prod.mk.injEq] at h
  obtain ⟨rfl, rfl, rfl, rfl⟩ := h
  rfl
theorem map_inj {α β : Type} {f : α → β} (hf : ∀ a b, f a = f b → a = b) : ∀ {l k : List α}, l.map f = k.map f → l = k
  | [], [], _ => rfl
  | [], _ :: _, h => by cases h
  | _ :: _, [], h => by cases h
  | a :: l, b :: k, h => by
    simp only [List.map_cons, List.cons.injEq] at h
    rw [hf a b h.1, map_inj hf h.2]
theorem encS_inj {a b : ByteArray × Stm} (h : encS a = encS b) : a = b := by
  obtain ⟨l1, ⟨t1, n1, v1, ⟨c1, k1, s1⟩⟩⟩ := a
  obtain ⟨l2, ⟨t2, n2, v2, ⟨c2, k2, s2⟩⟩⟩ := b
  simp only [encS, Prod.mk.injEq] at h
  obtain ⟨rfl, rfl, rfl, h4, rfl, rfl, rfl⟩ := h
  have := map_inj (fun a b => map_inj (fun _ _ => encT_inj)) h4
  subst this
  rfl
theorem parse_is {t : ByteArray} {q : ByteArray × Stm} (h : (parseL t).map encS = some (encS q)) : parseL t = some q := by
  obtain ⟨r, h1, h2⟩ := Option.map_eq_some_iff.1 h
  rw [h1, encS_inj h2]
/-- A line: its text, its label, what it asks for, its bytes. -/
structure Item where
  text : ByteArray
  lb : ByteArray
  x : Stm
  bs : List Int
def nm (v : Int) : Trm := ⟨false, ⟨#[]⟩, false, v⟩
def noB : ByteArray := ⟨#[]⟩
def stm6 (vals : List (List Trm)) (c : Nat) (ks : List Nat) (s : Nat) : Stm := ⟨6, noB, vals, ⟨c, ks, s⟩⟩
/-- What a line must be so that its bytes do not hang on the place. -/
structure ItOk (it : Item) : Prop where
  nl : NoNL it.text
  size : it.text.size ≤ 24
  parse : parseL it.text = some (it.lb, it.x)
  task : it.x.task = 6
  great : tooS it.x.vals = false
  long : (givenS it.lb it.x.task it.x.name ++ usedS it.x.vals).any longN = false
  used : ∀ s ∈ usedS it.x.vals, it.lb ≠ noB ∧ s = it.lb
  len : it.bs.length = it.x.ins.size
  sz : 1 ≤ it.x.ins.size ∧ it.x.ins.size ≤ 2
  bytes : ∀ (f : List UInt8 → Option Int) (p : Nat), p ≤ 1000 → (it.lb ≠ noB → f it.lb.data.toList = some (p : Int)) → bytS f p it.x = some it.bs
def lbN (it : Item) : Nat := if it.lb = noB then 0 else 1
/-- The state behind a line. -/
def nextA (a : Asm) (it : Item) : Asm := { labA a it.lb with pl := a.pl + it.x.ins.size, laid := setR a.laid a.pl it.x.ins.size, starts := a.starts.set a.pl true }
def layB (n0 t : Nat) : List Bool := List.replicate n0 false ++ (List.replicate t true ++ List.replicate (1024 - n0 - t) false)
theorem layB_len (n0 t : Nat) (h : n0 + t ≤ 1024) : (layB n0 t).length = 1024 := by
  unfold layB
  simp
  omega
theorem layB_set (n0 t : Nat) (h : n0 + t < 1024) : (layB n0 t).set (n0 + t) true = layB n0 (t + 1) := by
  unfold layB
  obtain ⟨k, hk⟩ : ∃ k, 1024 - n0 - t = k + 1 := ⟨1024 - n0 - t - 1, by omega⟩
  rw [hk, show 1024 - n0 - (t + 1) = k by omega, List.set_append_right _ _ (by simp), List.set_append_right _ _ (by simp)]
  rw [List.replicate_succ' (n := t)]
  simp [List.replicate_succ]
theorem layB_setR (n0 t : Nat) : ∀ s, n0 + t + s ≤ 1024 → setR (layB n0 t) (n0 + t) s = layB n0 (t + s)
  | 0, _ => rfl
  | s + 1, h => by
    unfold setR
    rw [layB_setR n0 t s (by omega), show n0 + t + s = n0 + (t + s) by omega, layB_set n0 (t + s) (by omega)]
    rfl
theorem layB_free (n0 t s : Nat) : true ∉ ((layB n0 t).drop (n0 + t)).take s := by
  intro h
  have h2 := List.mem_of_mem_take h
  have e : (layB n0 t).drop (n0 + t) = List.replicate (1024 - n0 - t) false := by
    unfold layB
    rw [← List.append_assoc, List.drop_left' (by simp)]
  rw [e] at h2
  have := (List.mem_replicate.1 h2).2
  cases this
theorem settle_item {a : Asm} {it : Item} {n0 t : Nat} (h : ItOk it) (hp : a.pl = n0 + t) (hl : a.laid = layB n0 t) (hf : n0 + t + 2 ≤ 1024) (hn : a.n + lbN it ≤ 40) (hk : it.lb ≠ noB → a.nm it.lb.data.toList = none) : settleF a it.lb it.x = .ok (nextA a it) := by
  have hgl : (givenS it.lb it.x.task it.x.name).length = lbN it := by
    unfold givenS lbN
    rw [h.task]
    by_cases hb : it.lb = noB
    · rw [if_pos (show it.lb = (⟨#[]⟩ : ByteArray) from hb), if_pos hb]
      rfl
    · rw [if_neg (show ¬ it.lb = (⟨#[]⟩ : ByteArray) from hb), if_neg hb]
      rfl
  have hcu : cuF a.nm it.lb it.x.task it.x.name it.x.vals = true := cuF_free h.long (by rw [h.task]; rfl)
  have hcg : cgF a.nm a.n (givenS it.lb it.x.task it.x.name) = none := by
    unfold cgF
    have h1 : (List.range (givenS it.lb it.x.task it.x.name).length).any (twI a.nm (givenS it.lb it.x.task it.x.name)) = false := by
      unfold givenS
      rw [h.task]
      by_cases hb : it.lb = ⟨#[]⟩
      · rw [if_pos hb]
        rfl
      · rw [if_neg hb]
        have := hk hb
        simp [twI, this, Lib.containsS, Lib.idxOfS, Lib.idxFromS]
    rw [h1]
    simp only [Bool.false_eq_true, if_false]
    rw [if_neg (by omega)]
  have hs : sizeS it.x.task it.x.vals.length it.x.ins.size = it.x.ins.size := by
    unfold sizeS
    rw [h.task]
    rfl
  have hz := h.sz
  have hsp : spanF a.pl it.x.ins.size a.laid = none := by
    unfold spanF
    rw [hp, hl, if_neg (by omega), if_neg (layB_free n0 t _)]
  unfold settleF
  rw [if_neg (by simp [hcu]), hcg]
  simp only
  rw [if_neg (by simp [h.great]), if_neg (by rw [h.task]; decide), if_neg (by rw [h.task]; decide), if_neg (by rw [h.task]; decide), hs, hsp, if_pos h.task]
  rfl
theorem nextA_inv {a : Asm} {it : Item} {n0 t : Nat} (h : ItOk it) (hp : a.pl = n0 + t) (hl : a.laid = layB n0 t) (hf : n0 + t + 2 ≤ 1024) : (nextA a it).pl = n0 + (t + it.x.ins.size) ∧ (nextA a it).laid = layB n0 (t + it.x.ins.size) ∧ (nextA a it).n ≤ a.n + lbN it ∧ (nextA a it).bytes = a.bytes := by
  have hz := h.sz
  refine ⟨by show a.pl + _ = _; omega, ?_, ?_, (labA_laid a it.lb).2.2⟩
  · show setR a.laid a.pl it.x.ins.size = _
    rw [hp, hl]
    exact layB_setR n0 t _ (by omega)
  · show (labA a it.lb).n ≤ _
    unfold labA lbN
    by_cases hb : it.lb = noB
    · rw [if_pos (show it.lb = (⟨#[]⟩ : ByteArray) from hb), if_pos hb]
      omega
    · rw [if_neg (show ¬ it.lb = (⟨#[]⟩ : ByteArray) from hb), if_neg hb]
      exact putN_bound _ _ _
theorem nextA_nm (a : Asm) (it : Item) (l : List UInt8) : (nextA a it).nm l = if it.lb ≠ noB ∧ l = it.lb.data.toList then some (a.pl : Int) else a.nm l := by
  show (labA a it.lb).nm l = _
  unfold labA
  by_cases h : it.lb = ⟨#[]⟩
  · rw [if_pos h, if_neg (fun e => e.1 h)]
  · rw [if_neg h]
    show (if l = it.lb.data.toList then some (a.pl : Int) else a.nm l) = _
    by_cases h2 : l = it.lb.data.toList
    · rw [if_pos h2, if_pos ⟨h, h2⟩]
    · rw [if_neg h2, if_neg (fun e => h2 e.2)]
/-- Labels are given once. -/
def Apt (l : List Item) : Prop := l.Pairwise fun a b => a.lb ≠ noB → b.lb ≠ noB → a.lb.data.toList ≠ b.lb.data.toList
def stL : Nat → Nat → List Item → List St
  | _, _, [] => []
  | i, p, it :: l => ⟨i + 1, p, it.lb, it.x⟩ :: stL (i + 1) (p + it.x.ins.size) l
def nextL (a : Asm) (l : List Item) : Asm := l.foldl nextA a
def cntL (l : List Item) : Nat := (l.map lbN).sum
def sumS (l : List Item) : Nat := (l.map fun it => it.x.ins.size).sum
theorem sumS_le {l : List Item} (h : ∀ it ∈ l, ItOk it) : sumS l ≤ 2 * l.length := by
  unfold sumS
  induction l with
  | nil => simp
  | cons it l ih =>
    have h1 := (h it List.mem_cons_self).sz
    have h2 := ih (fun x hx => h x (List.mem_cons_of_mem _ hx))
    simp only [List.map_cons, List.sum_cons, List.length_cons]
    omega
theorem rd_items (rest : List ByteArray) : ∀ (its : List Item) (i : Nat) (a : Asm) (n0 t : Nat), (∀ it ∈ its, ItOk it) → Apt its → a.pl = n0 + t → a.laid = layB n0 t → n0 + t + 2 * its.length ≤ 1024 → a.n + cntL its ≤ 40 → (∀ it ∈ its, it.lb ≠ noB → a.nm it.lb.data.toList = none) → rdL i a (its.map (·.text) ++ rest) = joinR (stL i a.pl its) (rdL (i + its.length) (nextL a its) rest) ∧ (nextL a its).pl = n0 + (t + sumS its) ∧ (nextL a its).laid = layB n0 (t + sumS its) ∧ (nextL a its).bytes = a.bytes ∧ (nextL a its).n ≤ a.n + cntL its
  | [], i, a, n0, t, _, _, hp, hl, _, _, _ => by
    refine ⟨?_, hp, hl, rfl, Nat.le_refl _⟩
    show rdL i a rest = joinR [] (rdL i a rest)
    cases rdL i a rest with
    | error e => rfl
    | ok r => rfl
  | it :: its, i, a, n0, t, hok, hap, hp, hl, hf, hn, hk => by
    have hit := hok it List.mem_cons_self
    have hz := hit.sz
    rw [List.length_cons] at hf
    have ec : cntL (it :: its) = lbN it + cntL its := by simp [cntL]
    rw [ec] at hn
    have hs := settle_item hit hp hl (by omega) (by omega) (hk it List.mem_cons_self)
    obtain ⟨q1, q2, q3, q4⟩ := nextA_inv hit hp hl (by omega)
    have hap2 := List.pairwise_cons.1 hap
    have ih := rd_items rest its (i + 1) (nextA a it) n0 (t + it.x.ins.size) (fun x hx => hok x (List.mem_cons_of_mem _ hx)) hap2.2 q1 q2 (by omega) (by omega) (fun x hx hb => by
      rw [nextA_nm, if_neg (fun e => hap2.1 x hx e.1 hb e.2.symm)]
      exact hk x (List.mem_cons_of_mem _ hx) hb)
    obtain ⟨r1, r2, r3, r4, r5⟩ := ih
    have es : sumS (it :: its) = it.x.ins.size + sumS its := by simp [sumS]
    refine ⟨?_, by show (nextL (nextA a it) its).pl = _; rw [r2, es]; omega, by show (nextL (nextA a it) its).laid = _; rw [r3, es, Nat.add_assoc], by show (nextL (nextA a it) its).bytes = _; rw [r4, q4], by show (nextL (nextA a it) its).n ≤ _; rw [ec]; omega⟩
    have e1 : (it :: its).map (·.text) ++ rest = it.text :: (its.map (·.text) ++ rest) := rfl
    rw [e1]
    simp only [rdL, hit.parse, hs, r1, stL]
    rw [show i + (it :: its).length = i + 1 + its.length by simp; omega, show nextL a (it :: its) = nextL (nextA a it) its from rfl, show (nextA a it).pl = a.pl + it.x.ins.size from rfl]
    cases rdL (i + 1 + its.length) (nextL (nextA a it) its) rest with
    | error e => rfl
    | ok r => rfl
/-- What each label means behind all lines. -/
theorem nextL_nm : ∀ (its : List Item) (a : Asm) (l : List UInt8), (∀ it ∈ its, it.lb ≠ noB → it.lb.data.toList ≠ l) → (nextL a its).nm l = a.nm l
  | [], _, _, _ => rfl
  | it :: its, a, l, h => by
    show (nextL (nextA a it) its).nm l = _
    rw [nextL_nm its _ l (fun x hx => h x (List.mem_cons_of_mem _ hx)), nextA_nm, if_neg (fun e => h it List.mem_cons_self e.1 e.2.symm)]
def byt (n0 : Nat) (bs : List Int) : List UInt8 := List.replicate n0 255 ++ (bs.map toB ++ List.replicate (1024 - n0 - bs.length) 255)
theorem byt_put (n0 : Nat) (bs cs : List Int) (_ : n0 + bs.length + cs.length ≤ 1024) : putAt (byt n0 bs) (n0 + bs.length) cs = byt n0 (bs ++ cs) := by
  unfold putAt splice byt
  have e1 : (List.replicate n0 (255 : UInt8) ++ (bs.map toB ++ List.replicate (1024 - n0 - bs.length) 255)).take (n0 + bs.length) = List.replicate n0 255 ++ bs.map toB := by
    rw [← List.append_assoc, List.take_left' (by simp)]
  have e2 : (List.replicate n0 (255 : UInt8) ++ (bs.map toB ++ List.replicate (1024 - n0 - bs.length) 255)).drop (n0 + bs.length + (cs.map toB).length) = List.replicate (1024 - n0 - (bs ++ cs).length) 255 := by
    rw [← List.append_assoc, ← List.drop_drop, List.drop_left' (by simp), List.drop_replicate]
    congr 1
    simp
    omega
  rw [e1, e2, List.map_append]
  simp [List.append_assoc]
theorem byt_nil (n0 : Nat) (h : n0 ≤ 1024) : byt n0 [] = b255 := by
  unfold byt b255
  simp only [List.map_nil, List.nil_append, List.length_nil, Nat.sub_zero]
  rw [List.replicate_append_replicate, show n0 + (1024 - n0) = 1024 by omega]
def allB (its : List Item) : List Int := its.flatMap (·.bs)
theorem allB_len {its : List Item} (h : ∀ it ∈ its, ItOk it) : (allB its).length = sumS its := by
  induction its with
  | nil => rfl
  | cons it l ih =>
    have e : allB (it :: l) = it.bs ++ allB l := rfl
    have e2 : sumS (it :: l) = it.x.ins.size + sumS l := by simp [sumS]
    rw [e, List.length_append, (h it List.mem_cons_self).len, ih (fun x hx => h x (List.mem_cons_of_mem _ hx)), e2]
theorem fill_item {a : Asm} {it : Item} {p : Nat} (h : ItOk it) (hp : p ≤ 1000) (hk : it.lb ≠ noB → a.nm it.lb.data.toList = some (p : Int)) : fillF a p it.x = .ok { a with bytes := putAt a.bytes p it.bs } := by
  have hz := h.sz
  have hs : sizeS it.x.task it.x.vals.length it.x.ins.size = it.x.ins.size := by
    unfold sizeS
    rw [h.task]
    rfl
  have hu : (usedS it.x.vals).any (unkn a.nm) = false := by
    rw [List.any_eq_false]
    intro s hs
    obtain ⟨h1, h2⟩ := h.used s hs
    unfold unkn
    rw [h2, hk h1]
    simp
  unfold fillF
  rw [hs, if_neg (by omega), if_neg (by simp [hu]), h.bytes a.nm p hp hk]
theorem fl_items (N : List UInt8 → Option Int) : ∀ (its : List Item) (i p n0 : Nat) (bs : List Int) (a : Asm), (∀ it ∈ its, ItOk it) → a.nm = N → a.bytes = byt n0 bs → p = n0 + bs.length → p + 2 * its.length ≤ 1000 → (∀ (pre post : List Item) (it : Item), its = pre ++ it :: post → it.lb ≠ noB → N it.lb.data.toList = some ((p + sumS pre : Nat) : Int)) → ∀ rest, ∃ b, flL a (stL i p its ++ rest) = flL b rest ∧ b.nm = N ∧ b.bytes = byt n0 (bs ++ allB its) ∧ b.laid = a.laid ∧ b.starts = a.starts
  | [], i, p, n0, bs, a, _, hN, hb, _, _, _, rest => ⟨a, rfl, hN, by simp [allB, hb], rfl, rfl⟩
  | it :: its, i, p, n0, bs, a, hok, hN, hb, hp, hf, hk, rest => by
    have hit := hok it List.mem_cons_self
    have hz := hit.sz
    rw [List.length_cons] at hf
    have h1 := fill_item (a := a) (p := p) hit (by omega) (fun e => by have := hk [] its it rfl e; rw [hN]; simpa [sumS] using this)
    have hl := hit.len
    obtain ⟨b, r1, r2, r3, r4, r5⟩ := fl_items N its (i + 1) (p + it.x.ins.size) n0 (bs ++ it.bs) { a with bytes := putAt a.bytes p it.bs } (fun x hx => hok x (List.mem_cons_of_mem _ hx)) hN (by show putAt a.bytes p it.bs = _; rw [hb, hp]; exact byt_put n0 bs it.bs (by omega)) (by rw [List.length_append]; omega) (by omega) (fun pre post x e hx => by
      have := hk (it :: pre) post x (by rw [e]; rfl) hx
      rw [this, show sumS (it :: pre) = it.x.ins.size + sumS pre by simp [sumS], Nat.add_assoc]) rest
    refine ⟨b, ?_, r2, ?_, r4, r5⟩
    · have e : stL i p (it :: its) ++ rest = ⟨i + 1, p, it.lb, it.x⟩ :: (stL (i + 1) (p + it.x.ins.size) its ++ rest) := rfl
      rw [e]
      simp only [flL, h1]
      exact r1
    · rw [r3, show allB (it :: its) = it.bs ++ allB its from rfl, List.append_assoc]
end Go.Proofs.YthokdbcpkmcieaaGreatDoor
namespace Go.Proofs.YthokdbcpkmcieaaGreatDoor
open Go Go.RowKit Go.Shelf Go.WideMaps Go.Maps
theorem one_num (f : List UInt8 → Option Int) (p lo hi v : Int) (h : -1000000 ≤ v ∧ v ≤ 1000000) (h2 : lo ≤ v ∧ v ≤ hi) : nmbF f p [nm v] lo hi = some v := by
  have e : trmN f p (nm v) = v := rfl
  unfold nmbF
  have : valF f p 0 [nm v] = some v := by
    have hd := valF_drop (nm := f) (pl := p) (s := 0) (l := [nm v]) (k := 0) (t := nm v) rfl
    rw [List.drop_zero] at hd
    rw [hd]
    show (if (0 : Int) + trmN f p (nm v) < -1000000 ∨ 1000000 < 0 + trmN f p (nm v) then none else valF f p (0 + trmN f p (nm v)) []) = _
    rw [e, Int.zero_add, if_neg (by omega)]
    rfl
  rw [this]
  show (if v < lo ∨ hi < v then none else some v) = some v
  rw [if_neg (by omega)]
theorem bytS6 (f : List UInt8 → Option Int) (p : Nat) (vals : List (List Trm)) (c : Nat) (ks : List Nat) (s : Nat) : bytS f p (stm6 vals c ks s) = (numsF f (p : Int) (-1000000) 1000000 vals).bind fun zs => insB ⟨c, ks, s⟩ zs (p : Int) := rfl
theorem nums0 (f : List UInt8 → Option Int) (p lo hi : Int) : numsF f p lo hi [] = some [] := rfl
theorem nums1 {f : List UInt8 → Option Int} {p lo hi z : Int} {e : List Trm} (h : nmbF f p e lo hi = some z) : numsF f p lo hi [e] = some [z] := by
  rw [numsF_one, h]
  rfl
theorem nums2 {f : List UInt8 → Option Int} {p lo hi y z : Int} {e g : List Trm} (h : nmbF f p e lo hi = some y) (h2 : nmbF f p g lo hi = some z) : numsF f p lo hi [e, g] = some [y, z] := by
  have : numsF f p lo hi [e, g] = (nmbF f p e lo hi).bind fun z => (numsF f p lo hi [g]).map (z :: ·) := rfl
  rw [this, h, nums1 h2]
  rfl
theorem sm (f : List UInt8 → Option Int) (p v : Int) (h : -1000000 ≤ v ∧ v ≤ 1000000) : nmbF f p [nm v] (-1000000) 1000000 = some v := one_num f p _ _ v h h
theorem wrapI16 (n : Int) : IntKind.i16.wrap n = (n + 32768) % 65536 - 32768 := by
  simp [IntKind.wrap, IntKind.bits, IntKind.signed]
  split <;> omega
/-- The assembler that begins at a place. -/
def asmP (n : Nat) : Asm := { asm0 with pl := n }
theorem layB_zero (n : Nat) (h : n ≤ 1024) : layB n 0 = bF := by
  unfold layB bF
  simp only [List.replicate_zero, List.nil_append, Nat.sub_zero]
  rw [List.replicate_append_replicate, show n + (1024 - n) = 1024 by omega]
def txO (n : Nat) : ByteArray := ⟨#[111, 114, 103, 32]⟩ ++ decF 3 n
def orgS (n : Nat) : Stm := ⟨1, noB, [[nm (n : Int)]], ins0⟩
end Go.Proofs.YthokdbcpkmcieaaGreatDoor
