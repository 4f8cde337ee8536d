/- Operands as they are written in a line: their pieces, tokens, and what the parser makes of them. What the parser makes of a decoded line. asmF by lists: the lines, what is read, what is filled. -/
import Derived.Test.YthokdbcpkmcieaaGreatDoorC01
import Derived.Test.YthokdbcpkmcieaaGreatDoorC07
import Derived.Test.YthokdbcpkmcieaaGreatDoorA38
namespace Go.Proofs.YthokdbcpkmcieaaGreatDoor
open Go Go.RowKit
theorem hd_all (P : UInt8 → Prop) (h : ∀ m : Fin 16, P ((#[48, 49, 50, 51, 52, 53, 54, 55, 56, 57, 65, 66, 67, 68, 69, 70] : Array UInt8).getD m.val 0)) (x : Int) : P (hd x) := by
  have : (x % 16).toNat < 16 := by omega
  exact h ⟨(x % 16).toNat, this⟩
theorem hd_w (x : Int) : isW (hd x) = true := hd_all (fun c => isW c = true) (by decide) x
theorem hd_cap (x : Int) : capB (hd x) = hd x := hd_all (fun c => capB c = c) (by decide) x
theorem hd_ne (x : Int) : hd x ≠ 59 ∧ hd x ≠ 10 := hd_all (fun c => c ≠ 59 ∧ c ≠ 10) (by decide) x
theorem hd_in (x : Int) : ([48, 49, 50, 51, 52, 53, 54, 55, 56, 57, 65, 66, 67, 68, 69, 70] : List UInt8).contains (hd x) = true := hd_all (fun c => ([48, 49, 50, 51, 52, 53, 54, 55, 56, 57, 65, 66, 67, 68, 69, 70] : List UInt8).contains c = true) (by decide) x
theorem hd_dv (x : Int) : (dv (hd x) : Int) = x % 16 := by
  have key : ∀ m : Fin 16, dv ((#[48, 49, 50, 51, 52, 53, 54, 55, 56, 57, 65, 66, 67, 68, 69, 70] : Array UInt8).getD m.val 0) = m.val := by decide
  have h : (x % 16).toNat < 16 := by omega
  have := key ⟨(x % 16).toNat, h⟩
  show ((dv ((#[48, 49, 50, 51, 52, 53, 54, 55, 56, 57, 65, 66, 67, 68, 69, 70] : Array UInt8).getD (x % 16).toNat 0) : Nat) : Int) = _
  rw [this]
  show ((x % 16).toNat : Int) = _
  omega
theorem num_h (l : List UInt8) (hl : 0 < l.length ∧ l.length ≤ 4) (hc : ∀ c ∈ l, ([48, 49, 50, 51, 52, 53, 54, 55, 56, 57, 65, 66, 67, 68, 69, 70] : List UInt8).contains c = true) (hv : (numV 16 l : Int) ≤ 65535) : numOf (48 :: 88 :: l) = some (numV 16 l : Int) := by
  have e : digOf (48 :: 88 :: l) = (l, 16, 4, [48, 49, 50, 51, 52, 53, 54, 55, 56, 57, 65, 66, 67, 68, 69, 70]) := by
    unfold digOf
    have : Lib.hasPrefix (48 :: 88 :: l) [48, 88] = true := by simp [Lib.hasPrefix]
    rw [this]
    rfl
  unfold numOf
  rw [e]
  simp only
  rw [if_neg, if_neg (by omega)]
  · congr 1
    omega
  · rintro (h | h)
    · rw [h] at hl; simp at hl
    · have : (l.all fun c => ([48, 49, 50, 51, 52, 53, 54, 55, 56, 57, 65, 66, 67, 68, 69, 70] : List UInt8).contains c) = true := List.all_eq_true.2 hc
      rw [this] at h
      cases h
theorem num_h2 (x : Int) (h0 : 0 ≤ x) (h1 : x ≤ 255) : numOf [48, 88, hd (x / 16), hd x] = some x := by
  have e : (numV 16 [hd (x / 16), hd x] : Int) = x := by
    have a := hd_dv (x / 16)
    have b := hd_dv x
    show ((16 * (16 * 0 + dv (hd (x / 16))) + dv (hd x) : Nat) : Int) = x
    omega
  rw [num_h [hd (x / 16), hd x] (by simp) (by intro c hc; simp at hc; rcases hc with rfl | rfl <;> exact hd_in _) (by omega), e]
theorem num_h4 (x : Int) (h0 : 0 ≤ x) (h1 : x ≤ 65535) : numOf [48, 88, hd (x / 4096), hd (x / 256), hd (x / 16), hd x] = some x := by
  have e : (numV 16 [hd (x / 4096), hd (x / 256), hd (x / 16), hd x] : Int) = x := by
    have a := hd_dv (x / 4096)
    have b := hd_dv (x / 256)
    have c := hd_dv (x / 16)
    have d := hd_dv x
    show ((16 * (16 * (16 * (16 * 0 + dv (hd (x / 4096))) + dv (hd (x / 256))) + dv (hd (x / 16))) + dv (hd x) : Nat) : Int) = x
    omega
  rw [num_h [hd (x / 4096), hd (x / 256), hd (x / 16), hd x] (by simp) (by intro c hc; simp at hc; rcases hc with rfl | rfl | rfl | rfl <;> exact hd_in _) (by omega), e]
/-- The number that an operand stands for in a line. -/
def numO (o : Opn) : Int := if o.kind ≤ 6 then 0 else if o.kind ≤ 8 then o.own else if o.kind ≤ 14 then o.added else if o.kind = 15 then nearN o.behind o.added else pageN o.behind o.own o.added
def px2 (x : Int) : List UInt8 := [48, 88, hd (x / 16), hd x]
def px4 (x : Int) : List UInt8 := [48, 88, hd (x / 4096), hd (x / 256), hd (x / 16), hd x]
/-- The pieces of an operand, in capitals. -/
def pcsO (o : Opn) : List (List UInt8) :=
  if o.kind = 0 then [[65]] else if o.kind = 1 then [[65, 66]] else if o.kind = 2 then [[67]] else if o.kind = 3 then [[68, 80, 84, 82]]
  else if o.kind = 4 then [[64], [65], [43], [68, 80, 84, 82]] else if o.kind = 5 then [[64], [65], [43], [80, 67]] else if o.kind = 6 then [[64], [68, 80, 84, 82]]
  else if o.kind = 7 then [[64], [82, hd o.own]] else if o.kind = 8 then [[82, hd o.own]]
  else if o.kind = 9 then [[35], px2 (numO o)] else if o.kind = 10 then [[35], px4 (numO o)] else if o.kind ≤ 12 then [px2 (numO o)] else if o.kind = 13 then [[47], px2 (numO o)] else [px4 (numO o)]
def wT (l : List UInt8) : Tok := ⟨1, ⟨l.toArray⟩, 0⟩
def sT (c : UInt8) : Tok := ⟨3, ⟨#[c]⟩, 0⟩
def nT (l : List UInt8) (v : Int) : Tok := ⟨2, ⟨l.toArray⟩, v⟩
/-- The tokens of an operand. -/
def tksO (o : Opn) : List Tok :=
  if o.kind = 0 then [wT [65]] else if o.kind = 1 then [wT [65, 66]] else if o.kind = 2 then [wT [67]] else if o.kind = 3 then [wT [68, 80, 84, 82]]
  else if o.kind = 4 then [sT 64, wT [65], sT 43, wT [68, 80, 84, 82]] else if o.kind = 5 then [sT 64, wT [65], sT 43, wT [80, 67]] else if o.kind = 6 then [sT 64, wT [68, 80, 84, 82]]
  else if o.kind = 7 then [sT 64, wT [82, hd o.own]] else if o.kind = 8 then [wT [82, hd o.own]]
  else if o.kind = 9 then [sT 35, nT (px2 (numO o)) (numO o)] else if o.kind = 10 then [sT 35, nT (px4 (numO o)) (numO o)] else if o.kind ≤ 12 then [nT (px2 (numO o)) (numO o)] else if o.kind = 13 then [sT 47, nT (px2 (numO o)) (numO o)] else [nT (px4 (numO o)) (numO o)]
/-- What is known of an operand that stands in a line. -/
structure OpL (o : Opn) : Prop where
  kind : o.kind < 17
  name : o.name = opText o.kind
  own7 : o.kind = 7 → 0 ≤ o.own ∧ o.own < 2
  own8 : o.kind = 8 → 0 ≤ o.own ∧ o.own < 8
  num0 : 0 ≤ numO o
  num1 : numO o ≤ 65535
  byte : o.kind = 9 ∨ o.kind = 11 ∨ o.kind = 12 ∨ o.kind = 13 → numO o ≤ 255
theorem capS_ba (l : List UInt8) : capS ⟨l.toArray⟩ = ⟨(l.map capB).toArray⟩ := by
  unfold capS
  simp
theorem px2_w (x : Int) : (px2 x).all isW = true := by simp [px2, hd_w]; decide
theorem px4_w (x : Int) : (px4 x).all isW = true := by simp [px4, hd_w]; decide
theorem tok_px2 (x : Int) (h0 : 0 ≤ x) (h1 : x ≤ 255) : pieceK 48 ⟨(px2 x).toArray⟩ = some (some (nT (px2 x) x)) := pieceK_num 48 _ x (by decide) (by decide) (num_h2 x h0 h1)
theorem tok_px4 (x : Int) (h0 : 0 ≤ x) (h1 : x ≤ 65535) : pieceK 48 ⟨(px4 x).toArray⟩ = some (some (nT (px4 x) x)) := pieceK_num 48 _ x (by decide) (by decide) (num_h4 x h0 h1)
theorem kind_cases {k : Nat} (h : k < 17) : k = 0 ∨ k = 1 ∨ k = 2 ∨ k = 3 ∨ k = 4 ∨ k = 5 ∨ k = 6 ∨ k = 7 ∨ k = 8 ∨ k = 9 ∨ k = 10 ∨ k = 11 ∨ k = 12 ∨ k = 13 ∨ k = 14 ∨ k = 15 ∨ k = 16 := by omega
theorem own_cases {x : Int} (h : 0 ≤ x ∧ x < 8) : x = 0 ∨ x = 1 ∨ x = 2 ∨ x = 3 ∨ x = 4 ∨ x = 5 ∨ x = 6 ∨ x = 7 := by omega
/-- The operand's text in capitals is its pieces, one behind the other. -/
theorem writ_pcs (o : Opn) (h : OpL o) : (writS o).data.toList.map capB = (pcsO o).flatten := by
  obtain ⟨k, nm', own, add, bh⟩ := o
  have hn : nm' = opText k := h.name
  subst hn
  have h7 := h.own7
  have h8 := h.own8
  have hk := h.kind
  clear h
  simp only at h7 h8 hk
  rcases kind_cases hk with rfl | rfl | rfl | rfl | rfl | rfl | rfl | rfl | rfl | rfl | rfl | rfl | rfl | rfl | rfl | rfl | rfl
  · show (opText 0).data.toList.map capB = ([[65]] : List (List UInt8)).flatten
    decide
  · show (opText 1).data.toList.map capB = ([[65, 66]] : List (List UInt8)).flatten
    decide
  · show (opText 2).data.toList.map capB = ([[67]] : List (List UInt8)).flatten
    decide
  · show (opText 3).data.toList.map capB = ([[68, 80, 84, 82]] : List (List UInt8)).flatten
    decide
  · show (opText 4).data.toList.map capB = ([[64], [65], [43], [68, 80, 84, 82]] : List (List UInt8)).flatten
    decide
  · show (opText 5).data.toList.map capB = ([[64], [65], [43], [80, 67]] : List (List UInt8)).flatten
    decide
  · show (opText 6).data.toList.map capB = ([[64], [68, 80, 84, 82]] : List (List UInt8)).flatten
    decide
  · have h7 := h7 rfl
    rcases (show own = 0 ∨ own = 1 by omega) with rfl | rfl
    · show (opText 7 ++ itoaS 0).data.toList.map capB = ([[64], [82, hd 0]] : List (List UInt8)).flatten
      decide +kernel
    · show (opText 7 ++ itoaS 1).data.toList.map capB = ([[64], [82, hd 1]] : List (List UInt8)).flatten
      decide +kernel
  · rcases own_cases (h8 rfl) with rfl | rfl | rfl | rfl | rfl | rfl | rfl | rfl
    · show (opText 8 ++ itoaS 0).data.toList.map capB = ([[82, hd 0]] : List (List UInt8)).flatten
      decide +kernel
    · show (opText 8 ++ itoaS 1).data.toList.map capB = ([[82, hd 1]] : List (List UInt8)).flatten
      decide +kernel
    · show (opText 8 ++ itoaS 2).data.toList.map capB = ([[82, hd 2]] : List (List UInt8)).flatten
      decide +kernel
    · show (opText 8 ++ itoaS 3).data.toList.map capB = ([[82, hd 3]] : List (List UInt8)).flatten
      decide +kernel
    · show (opText 8 ++ itoaS 4).data.toList.map capB = ([[82, hd 4]] : List (List UInt8)).flatten
      decide +kernel
    · show (opText 8 ++ itoaS 5).data.toList.map capB = ([[82, hd 5]] : List (List UInt8)).flatten
      decide +kernel
    · show (opText 8 ++ itoaS 6).data.toList.map capB = ([[82, hd 6]] : List (List UInt8)).flatten
      decide +kernel
    · show (opText 8 ++ itoaS 7).data.toList.map capB = ([[82, hd 7]] : List (List UInt8)).flatten
      decide +kernel
  all_goals (simp [writS, pcsO, numO, px2, px4, hd_cap]; try decide)
theorem pcs_ok (o : Opn) (h : OpL o) : pcOk (pcsO o) = true ∧ (pcsO o).length ≤ 4 ∧ ∀ p ∈ pcsO o, p ≠ [] := by
  obtain ⟨k, nm', own, add, bh⟩ := o
  have hk := h.kind
  clear h
  simp only at hk
  rcases kind_cases hk with rfl | rfl | rfl | rfl | rfl | rfl | rfl | rfl | rfl | rfl | rfl | rfl | rfl | rfl | rfl | rfl | rfl
  all_goals (simp [pcsO, pcOk, px2, px4, hd_w]; try decide)
theorem pcs_toks (o : Opn) (h : OpL o) : toksP (pcsO o) = some (tksO o) := by
  have n0 := h.num0
  have n1 := h.num1
  have nb := h.byte
  have e2 : numO o ≤ 255 → toksP [px2 (numO o)] = some [nT (px2 (numO o)) (numO o)] := fun hb => by
    have := tok_px2 (numO o) n0 hb
    simp only [toksP]
    rw [show (px2 (numO o)).headD 0 = 48 from rfl, this]
    rfl
  have e4 : toksP [px4 (numO o)] = some [nT (px4 (numO o)) (numO o)] := by
    have := tok_px4 (numO o) n0 n1
    simp only [toksP]
    rw [show (px4 (numO o)).headD 0 = 48 from rfl, this]
    rfl
  have ew : ∀ (c : UInt8) (l : List UInt8), ¬ c.toNat = 32 → isD c = false → isW c = true → toksP [c :: l] = some [wT (c :: l)] := fun c l a1 a2 a3 => by
    simp only [toksP]
    rw [show (c :: l).headD 0 = c from rfl, pieceK_word c _ a1 a2 a3]
    rfl
  have es : ∀ (c : UInt8) (k : List (List UInt8)) (t : List Tok), ¬ c.toNat = 32 → isD c = false → isW c = false → toksP k = some t → toksP ([c] :: k) = some (sT c :: t) := fun c k t a1 a2 a3 a4 => by
    simp only [toksP]
    rw [show [c].headD 0 = c from rfl, pieceK_sign c _ a1 a2 a3, a4]
    rfl
  have ew2 : ∀ (c : UInt8) (l : List UInt8) (k : List (List UInt8)) (t : List Tok), ¬ c.toNat = 32 → isD c = false → isW c = true → toksP k = some t → toksP ((c :: l) :: k) = some (wT (c :: l) :: t) := fun c l k t a1 a2 a3 a4 => by
    simp only [toksP]
    rw [show (c :: l).headD 0 = c from rfl, pieceK_word c _ a1 a2 a3, a4]
    rfl
  have eD : toksP [[68, 80, 84, 82]] = some [wT [68, 80, 84, 82]] := ew 68 _ (by decide) (by decide) (by decide)
  have eR : toksP [[82, hd o.own]] = some [wT [82, hd o.own]] := ew 82 _ (by decide) (by decide) (by decide)
  unfold pcsO tksO
  rcases kind_cases h.kind with k | k | k | k | k | k | k | k | k | k | k | k | k | k | k | k | k
  all_goals rw [k]
  · exact ew 65 _ (by decide) (by decide) (by decide)
  · exact ew 65 _ (by decide) (by decide) (by decide)
  · exact ew 67 _ (by decide) (by decide) (by decide)
  · exact eD
  · exact es 64 _ _ (by decide) (by decide) (by decide) (ew2 65 _ _ _ (by decide) (by decide) (by decide) (es 43 _ _ (by decide) (by decide) (by decide) eD))
  · exact es 64 _ _ (by decide) (by decide) (by decide) (ew2 65 _ _ _ (by decide) (by decide) (by decide) (es 43 _ _ (by decide) (by decide) (by decide) (ew 80 _ (by decide) (by decide) (by decide))))
  · exact es 64 _ _ (by decide) (by decide) (by decide) eD
  · exact es 64 _ _ (by decide) (by decide) (by decide) eR
  · exact eR
  · exact es 35 _ _ (by decide) (by decide) (by decide) (e2 (nb (by omega)))
  · exact es 35 _ _ (by decide) (by decide) (by decide) e4
  · exact e2 (nb (by omega))
  · exact e2 (nb (by omega))
  · exact es 47 _ _ (by decide) (by decide) (by decide) (e2 (nb (by omega)))
  · exact e4
  · exact e4
  · exact e4
end Go.Proofs.YthokdbcpkmcieaaGreatDoor
namespace Go.Proofs.YthokdbcpkmcieaaGreatDoor
open Go Go.RowKit
/-- What stands behind an operand: a comma, or the end. -/
def SepT (t : Tok) : Prop := t = sT 44 ∨ t = endT
theorem SepT.text {t : Tok} (h : SepT t) : ¬ t.text = ⟨#[43]⟩ ∧ ¬ t.text = ⟨#[45]⟩ := by
  rcases h with rfl | rfl <;> exact ⟨by decide, by decide⟩
theorem pRest_sep (f : Nat) (acc : List Trm) (t : Tok) (l : List Tok) (h : SepT t) : pRest (f + 1) acc (t :: l) = some (acc, t :: l) := by
  simp only [pRest]
  rw [if_neg h.text.2, if_neg h.text.1]
theorem px_ne (x : Int) (c : UInt8) : ¬ (⟨(px2 x).toArray⟩ : ByteArray) = ⟨#[c]⟩ ∧ ¬ (⟨(px4 x).toArray⟩ : ByteArray) = ⟨#[c]⟩ := by
  constructor
  · intro e
    have := congrArg ByteArray.size e
    exact absurd this (by show ¬ (4 : Nat) = 1; omega)
  · intro e
    have := congrArg ByteArray.size e
    exact absurd this (by show ¬ (6 : Nat) = 1; omega)
theorem pExpr_num (t : Tok) (v : Int) (ht : ¬ t.text = ⟨#[36]⟩) (hk : t.kind = 2) (hv : t.num = v) (s : Tok) (l : List Tok) (hs : SepT s) : pExpr (t :: s :: l) = some ([numT v], s :: l) := by
  have h1 : pTerm (t :: s :: l) = some (numT v, s :: l) := by
    simp only [pTerm]
    rw [if_neg ht, if_pos hk, hv]
    rfl
  unfold pExpr
  rw [h1]
  exact pRest_sep _ _ s l hs
theorem fix_px2 (x : Int) : fixO (px2 x) = none := by
  unfold fixO fixL px2
  simp [List.find?]
theorem fix_px4 (x : Int) : fixO (px4 x) = none := by
  unfold fixO fixL px4
  simp [List.find?]
theorem pOp_tks (o : Opn) (h : OpL o) (s : Tok) (l : List Tok) (hs : SepT s) : pOp (tksO o ++ s :: l) = some ((lkN o.kind, [numT (numO o)]), s :: l) := by
  have e2 : ∀ x : Int, pExpr (nT (px2 x) x :: s :: l) = some ([numT x], s :: l) := fun x => pExpr_num _ x (px_ne x 36).1 rfl rfl s l hs
  have e4 : ∀ x : Int, pExpr (nT (px4 x) x :: s :: l) = some ([numT x], s :: l) := fun x => pExpr_num _ x (px_ne x 36).2 rfl rfl s l hs
  have p2 : ∀ x : Int, pOp (nT (px2 x) x :: s :: l) = some ((11, [numT x]), s :: l) := fun x => by
    simp only [pOp]
    rw [if_neg (show ¬ (nT (px2 x) x).text = ⟨#[35]⟩ from (px_ne x 35).1), if_neg (show ¬ (nT (px2 x) x).text = ⟨#[47]⟩ from (px_ne x 47).1), if_neg (show ¬ (nT (px2 x) x).text = ⟨#[64]⟩ from (px_ne x 64).1)]
    have : fixO (nT (px2 x) x).text.data.toList = none := fix_px2 x
    rw [this]
    simp only
    rw [e2 x]
    rfl
  have p4 : ∀ x : Int, pOp (nT (px4 x) x :: s :: l) = some ((11, [numT x]), s :: l) := fun x => by
    simp only [pOp]
    rw [if_neg (show ¬ (nT (px4 x) x).text = ⟨#[35]⟩ from (px_ne x 35).2), if_neg (show ¬ (nT (px4 x) x).text = ⟨#[47]⟩ from (px_ne x 47).2), if_neg (show ¬ (nT (px4 x) x).text = ⟨#[64]⟩ from (px_ne x 64).2)]
    have : fixO (nT (px4 x) x).text.data.toList = none := fix_px4 x
    rw [this]
    simp only
    rw [e4 x]
    rfl
  have ph : ∀ (t : Tok) (x : Int), pExpr (t :: s :: l) = some ([numT x], s :: l) → pOp (sT 35 :: t :: s :: l) = some ((9, [numT x]), s :: l) := fun t x e => by
    simp only [pOp]
    rw [if_pos (show (sT 35).text = ⟨#[35]⟩ from rfl), e]
    rfl
  have ps : ∀ (t : Tok) (x : Int), pExpr (t :: s :: l) = some ([numT x], s :: l) → pOp (sT 47 :: t :: s :: l) = some ((13, [numT x]), s :: l) := fun t x e => by
    simp only [pOp]
    rw [if_neg (by decide), if_pos (show (sT 47).text = ⟨#[47]⟩ from rfl), e]
    rfl
  have pf : ∀ (b : List UInt8) (y : Nat × Nat), ¬ (⟨b.toArray⟩ : ByteArray) = ⟨#[35]⟩ → ¬ (⟨b.toArray⟩ : ByteArray) = ⟨#[47]⟩ → ¬ (⟨b.toArray⟩ : ByteArray) = ⟨#[64]⟩ → fixO b = some y → pOp (wT b :: s :: l) = some ((y.1, [numT y.2]), s :: l) := fun b y a1 a2 a3 a4 => by
    simp only [pOp]
    rw [if_neg (show ¬ (wT b).text = ⟨#[35]⟩ from a1), if_neg (show ¬ (wT b).text = ⟨#[47]⟩ from a2), if_neg (show ¬ (wT b).text = ⟨#[64]⟩ from a3)]
    have : fixO (wT b).text.data.toList = some y := a4
    rw [this]
  have pa : ∀ (b : List UInt8) (y : Nat × Nat), fixO ((⟨#[64]⟩ : ByteArray) ++ ⟨b.toArray⟩).data.toList = some y → pOp (sT 64 :: wT b :: s :: l) = some ((y.1, [numT y.2]), s :: l) := fun b y a4 => by
    simp only [pOp]
    rw [if_neg (by decide), if_neg (by decide), if_pos (show (sT 64).text = ⟨#[64]⟩ from rfl), pAt_one rfl hs.text.1]
    unfold pAtFin
    rw [show (wT b).text = ⟨b.toArray⟩ from rfl, a4]
    rfl
  have pp : ∀ (b c : List UInt8) (y : Nat × Nat), fixO (((⟨#[64]⟩ : ByteArray) ++ ⟨b.toArray⟩) ++ (⟨#[43]⟩ ++ ⟨c.toArray⟩)).data.toList = some y → pOp (sT 64 :: wT b :: sT 43 :: wT c :: s :: l) = some ((y.1, [numT y.2]), s :: l) := fun b c y a4 => by
    simp only [pOp]
    rw [if_neg (by decide), if_neg (by decide), if_pos (show (sT 64).text = ⟨#[64]⟩ from rfl), pAt_two rfl rfl rfl]
    unfold pAtFin
    rw [show (wT b).text = ⟨b.toArray⟩ from rfl, show (wT c).text = ⟨c.toArray⟩ from rfl, a4]
    rfl
  obtain ⟨k, nm', own, add, bh⟩ := o
  have hk := h.kind
  have h7 := h.own7
  have h8 := h.own8
  clear h
  simp only at hk h7 h8
  rcases kind_cases hk with rfl | rfl | rfl | rfl | rfl | rfl | rfl | rfl | rfl | rfl | rfl | rfl | rfl | rfl | rfl | rfl | rfl
  · exact pf [65] (0, 0) (by decide) (by decide) (by decide) (by decide)
  · exact pf [65, 66] (1, 0) (by decide) (by decide) (by decide) (by decide)
  · exact pf [67] (2, 0) (by decide) (by decide) (by decide) (by decide)
  · exact pf [68, 80, 84, 82] (3, 0) (by decide) (by decide) (by decide) (by decide)
  · exact pp [65] [68, 80, 84, 82] (4, 0) (by decide)
  · exact pp [65] [80, 67] (5, 0) (by decide)
  · exact pa [68, 80, 84, 82] (6, 0) (by decide)
  · have h7 := h7 rfl
    rcases own_cases ⟨h7.1, by omega⟩ with rfl | rfl | rfl | rfl | rfl | rfl | rfl | rfl
    · exact pa [82, hd 0] (7, 0) (by decide)
    · exact pa [82, hd 1] (7, 1) (by decide)
    all_goals exact absurd h7.2 (by decide)
  · rcases own_cases (h8 rfl) with rfl | rfl | rfl | rfl | rfl | rfl | rfl | rfl
    · exact pf [82, hd 0] (8, 0) (by decide) (by decide) (by decide) (by decide)
    · exact pf [82, hd 1] (8, 1) (by decide) (by decide) (by decide) (by decide)
    · exact pf [82, hd 2] (8, 2) (by decide) (by decide) (by decide) (by decide)
    · exact pf [82, hd 3] (8, 3) (by decide) (by decide) (by decide) (by decide)
    · exact pf [82, hd 4] (8, 4) (by decide) (by decide) (by decide) (by decide)
    · exact pf [82, hd 5] (8, 5) (by decide) (by decide) (by decide) (by decide)
    · exact pf [82, hd 6] (8, 6) (by decide) (by decide) (by decide) (by decide)
    · exact pf [82, hd 7] (8, 7) (by decide) (by decide) (by decide) (by decide)
  · exact ph _ _ (e2 _)
  · exact ph _ _ (e4 _)
  · exact p2 _
  · exact p2 _
  · exact ps _ _ (e2 _)
  · exact p4 _
  · exact p4 _
  · exact p4 _
/-- The tokens of the operands, with commas between them, and the end. -/
def opsT : List Opn → List Tok
  | [] => [endT]
  | [o] => tksO o ++ [endT]
  | o :: q :: l => tksO o ++ sT 44 :: opsT (q :: l)
theorem pOps_ops : ∀ (l : List Opn) (o : Opn) (f : Nat) (ks : List Nat) (vs : List (List Trm)), (∀ x ∈ o :: l, OpL x) → l.length < f → pOps f ks vs (opsT (o :: l)) = some ((ks ++ (o :: l).map fun x => lkN x.kind, vs ++ (o :: l).map fun x => [numT (numO x)]), [endT])
  | [], o, 0, _, _, _, h => by simp at h
  | [], o, f + 1, ks, vs, ho, _ => by
    show pOps (f + 1) ks vs (tksO o ++ [endT]) = _
    simp only [pOps]
    rw [pOp_tks o (ho o List.mem_cons_self) endT [] (.inr rfl)]
    simp only
    rw [if_neg (by decide)]
    rfl
  | q :: l, o, 0, _, _, _, h => by simp at h
  | q :: l, o, f + 1, ks, vs, ho, h => by
    show pOps (f + 1) ks vs (tksO o ++ sT 44 :: opsT (q :: l)) = _
    simp only [pOps]
    rw [pOp_tks o (ho o List.mem_cons_self) (sT 44) (opsT (q :: l)) (.inl rfl)]
    simp only
    rw [if_pos (show (sT 44).text = ⟨#[44]⟩ from rfl), pOps_ops l q f _ _ (fun x hx => ho x (List.mem_cons_of_mem _ hx)) (by simp at h; omega)]
    simp
theorem tksO_head (o : Opn) (hk : o.kind < 17) : ∃ t l, tksO o = t :: l ∧ t.kind ≠ 0 ∧ ¬ t.text = ⟨#[58]⟩ := by
  unfold tksO
  rcases kind_cases hk with k | k | k | k | k | k | k | k | k | k | k | k | k | k | k | k | k
  all_goals rw [k]
  all_goals refine ⟨_, _, rfl, ?_, ?_⟩
  all_goals first
    | exact fun e => Nat.noConfusion e
    | decide
    | exact (px_ne _ 58).1
    | exact (px_ne _ 58).2
    | exact fun e => absurd (congrArg ByteArray.size e) (show ¬ (2 : Nat) = 1 by omega)
theorem opsT_len : ∀ (l : List Opn) (o : Opn), (∀ x ∈ o :: l, OpL x) → l.length + 2 ≤ (opsT (o :: l)).length
  | [], o, ho => by
    obtain ⟨t, l, e, _⟩ := tksO_head o (ho o List.mem_cons_self).kind
    show _ ≤ (tksO o ++ [endT]).length
    rw [e]
    simp
  | q :: l, o, ho => by
    have ih := opsT_len l q (fun x hx => ho x (List.mem_cons_of_mem _ hx))
    obtain ⟨t, k, e, _⟩ := tksO_head o (ho o List.mem_cons_self).kind
    show _ ≤ (tksO o ++ sT 44 :: opsT (q :: l)).length
    rw [e]
    simp
    omega
theorem pInsOps_ops (ops : List Opn) (ho : ∀ x ∈ ops, OpL x) : pInsOps (opsT ops) = some ((ops.map fun x => lkN x.kind, ops.map fun x => [numT (numO x)]), [endT]) := by
  cases ops with
  | nil => rfl
  | cons o l =>
    have hl := opsT_len l o ho
    have hp := fun f => pOps_ops l o f [] [] ho
    obtain ⟨t, r, e, hk⟩ : ∃ t r, opsT (o :: l) = t :: r ∧ t.kind ≠ 0 := by
      obtain ⟨t, k, e, hk, _⟩ := tksO_head o (ho o List.mem_cons_self).kind
      cases l with
      | nil => exact ⟨t, k ++ [endT], by show tksO o ++ [endT] = _; rw [e]; rfl, hk⟩
      | cons q l => exact ⟨t, k ++ sT 44 :: opsT (q :: l), by show tksO o ++ _ = _; rw [e]; rfl, hk⟩
    rw [e] at hp hl ⊢
    simp only [pInsOps]
    rw [if_neg hk, hp (r.length + 1) (by simp at hl; omega)]
    simp
/-- The tokens of a line, the name first. -/
theorem parseT_line (nm' : List UInt8) (ops : List Opn) (ho : ∀ x ∈ ops, OpL x) (hn : hasN nm' = true) (d : InsD) (hf : findO nm' (ops.map fun x => lkN x.kind) = some d) :
    (pLabel (wT nm' :: opsT ops)).bind (fun x => (pTask x.2).bind fun y => if lineEnd y.2 = true then some (x.1, y.1) else none) = some (⟨#[]⟩, ⟨6, ⟨#[]⟩, ops.map fun x => [numT (numO x)], d⟩) := by
  have h1 : pLabel (wT nm' :: opsT ops) = some (⟨#[]⟩, wT nm' :: opsT ops) := by
    have : ∃ u r, opsT ops = u :: r ∧ ¬ u.text = ⟨#[58]⟩ := by
      match ops with
      | [] => exact ⟨endT, [], rfl, by decide⟩
      | [o] =>
        obtain ⟨t, k, e, _, hk⟩ := tksO_head o (ho o List.mem_cons_self).kind
        exact ⟨t, k ++ [endT], by show tksO o ++ [endT] = _; rw [e]; rfl, hk⟩
      | o :: q :: l =>
        obtain ⟨t, k, e, _, hk⟩ := tksO_head o (ho o List.mem_cons_self).kind
        exact ⟨t, k ++ sT 44 :: opsT (q :: l), by show tksO o ++ _ = _; rw [e]; rfl, hk⟩
    obtain ⟨u, r, e, hu⟩ := this
    rw [e]
    simp only [pLabel]
    rw [if_pos (.inr hu)]
  rw [h1]
  simp only [Option.bind_some]
  have h2 : pTask (wT nm' :: opsT ops) = some (⟨6, ⟨#[]⟩, ops.map fun x => [numT (numO x)], d⟩, [endT]) := by
    simp only [pTask]
    rw [if_neg (show ¬ (wT nm').kind = 0 from fun e => Nat.noConfusion e), if_neg (show ¬ ¬ (wT nm').kind = 1 from fun h => h rfl)]
    rw [if_pos (show hasN (wT nm').text.data.toList = true from hn)]
    unfold pIns
    rw [pInsOps_ops ops ho]
    simp only [Option.bind_some]
    rw [show (wT nm').text.data.toList = nm' from rfl, hf]
    rfl
  rw [h2]
  simp only [Option.bind_some]
  rw [if_pos (show lineEnd [endT] = true by decide)]
end Go.Proofs.YthokdbcpkmcieaaGreatDoor
namespace Go.Proofs.YthokdbcpkmcieaaGreatDoor
open Go Go.RowKit Go.Shelf Go.WideMaps Go.Maps
def NL : ByteArray := ⟨#[10]⟩
def NoNL (t : ByteArray) : Prop := (10 : UInt8) ∉ t.data.toList
theorem app_list (a b : ByteArray) : (a ++ b).data.toList = a.data.toList ++ b.data.toList := by
  rw [ByteArray.data_append, Array.toList_append]
theorem index_nl {t : List UInt8} (h : (10 : UInt8) ∉ t) (r : List UInt8) : Lib.index (t ++ 10 :: r) [10] = t.length := by
  refine Lib.index_first (by simp) ?_ (fun j hj => ?_)
  · unfold Lib.occAt
    rw [List.drop_left]
    simp [List.isPrefixOf]
  · unfold Lib.occAt
    rw [List.drop_append_of_le_length (by omega), List.drop_eq_getElem_cons hj]
    have hn : ¬ (10 : UInt8) = t[j] := fun e => h (e ▸ List.getElem_mem hj)
    rw [List.cons_append]
    show ((10 : UInt8) == t[j] && _) = false
    rw [beq_eq_false_iff_ne.2 hn]
    rfl
theorem index_no {t : List UInt8} (h : (10 : UInt8) ∉ t) : Lib.index t [10] = -1 := by
  refine Lib.index_none (fun j hj => ?_)
  unfold Lib.occAt
  by_cases hl : j < t.length
  · rw [List.drop_eq_getElem_cons hl]
    have hn : ¬ (10 : UInt8) = t[j] := fun e => h (e ▸ List.getElem_mem hl)
    simp [List.isPrefixOf, hn]
  · rw [List.drop_of_length_le (by omega)]
    rfl
theorem linesF_last {t : ByteArray} (h : NoNL t) : linesF t = [t] := by
  unfold linesF
  exact Lib.splitB_miss _ _ _ _ (index_no h)
theorem linesF_cons {t : ByteArray} (h : NoNL t) (r : ByteArray) : linesF (t ++ (NL ++ r)) = t :: linesF r := by
  have hi : Lib.indexB (t ++ (NL ++ r)) ⟨#[10]⟩ = (t.size : Nat) := by
    show Lib.index (t ++ (NL ++ r)).data.toList [10] = _
    rw [app_list, app_list]
    have := index_nl h r.data.toList
    rw [Array.length_toList] at this
    exact this
  have e2 : (t ++ (NL ++ r)).extract (t.size + 1) (t ++ (NL ++ r)).size = r := by
    rw [← ByteArray.append_assoc]
    exact ByteArray.extract_append_eq_right (by rw [ByteArray.size_append]; rfl) ByteArray.size_append
  have e1 : (t ++ (NL ++ r)).extract 0 (t.size + 0) = t := ByteArray.extract_append_eq_left (by simp)
  unfold linesF
  have hc := Lib.countB_hit (t ++ (NL ++ r)) ⟨#[10]⟩ t.size (by decide) hi
  rw [show (⟨#[10]⟩ : ByteArray).size = 1 from rfl, e2] at hc
  rw [hc, Nat.add_comm, Lib.splitB_hit _ _ _ _ _ hi, e1, show (⟨#[10]⟩ : ByteArray).size = 1 from rfl, e2]
/-- Reading line by line. -/
def rdL : Nat → Asm → List ByteArray → Except (Int × Nat) (List St × Asm)
  | _, a, [] => .ok ([], a)
  | i, a, t :: l => match parseL t with
    | none => .error (2, i + 1)
    | some q => match settleF a q.1 q.2 with
      | .error k => .error (k, i + 1)
      | .ok b => match rdL (i + 1) b l with
        | .error e => .error e
        | .ok r => .ok (⟨i + 1, a.pl, q.1, q.2⟩ :: r.1, r.2)
def joinR (s : List St) : Except (Int × Nat) (List St × Asm) → Except (Int × Nat) (List St × Asm)
  | .error e => .error e
  | .ok r => .ok (s ++ r.1, r.2)
theorem rdTo_rdL (a0 : Asm) : ∀ (l pre : List ByteArray) (s : List St) (a : Asm), rdTo (pre ++ l) a0 pre.length = .ok (s, a) → rdTo (pre ++ l) a0 (pre ++ l).length = joinR s (rdL pre.length a l)
  | [], pre, s, a, h => by
    simp only [List.append_nil] at h ⊢
    rw [h]
    simp [rdL, joinR]
  | t :: l, pre, s, a, h => by
    have hg : (pre ++ t :: l).getD pre.length ⟨#[]⟩ = t := by
      rw [List.getD_eq_getElem?_getD, List.getElem?_append_right (Nat.le_refl _), Nat.sub_self]
      rfl
    have hlen : pre.length + 1 ≤ (pre ++ t :: l).length := by simp
    cases hp : parseL t with
    | none =>
      rw [rdTo_whole (rdTo_none h (by rw [hg]; exact hp)) hlen]
      simp only [rdL, hp, joinR]
    | some q =>
      cases hs : settleF a q.1 q.2 with
      | error k =>
        rw [rdTo_whole (rdTo_bad h (by rw [hg]; exact hp) hs) hlen]
        simp only [rdL, hp, hs, joinR]
      | ok b =>
        have h1 := rdTo_next h (by rw [hg]; exact hp) hs
        have e : pre ++ t :: l = (pre ++ [t]) ++ l := by simp
        have hl1 : (pre ++ [t]).length = pre.length + 1 := by simp
        rw [e, ← hl1] at h1
        have ih := rdTo_rdL a0 l (pre ++ [t]) _ _ h1
        rw [e, ih, hl1]
        simp only [rdL, hp, hs]
        cases rdL (pre.length + 1) b l with
        | error e => rfl
        | ok r => simp [joinR]
/-- Filling statement by statement. -/
def flL : Asm → List St → Except (Int × Nat) Asm
  | a, [] => .ok a
  | a, st :: l => match fillF a st.pl st.x with
    | .error k => .error (k, st.line)
    | .ok b => flL b l
theorem fillTo2_flL (a0 : Asm) : ∀ (l pre : List St) (a : Asm), fillTo2 a0 (pre ++ l) pre.length = .ok a → fillTo2 a0 (pre ++ l) (pre ++ l).length = flL a l
  | [], pre, a, h => by
    simp only [List.append_nil] at h ⊢
    rw [h]
    rfl
  | st :: l, pre, a, h => by
    have hg : (pre ++ st :: l)[pre.length]? = some st := by
      rw [List.getElem?_append_right (Nat.le_refl _), Nat.sub_self]
      rfl
    cases hs : fillF a st.pl st.x with
    | error k =>
      have h1 : fillTo2 a0 (pre ++ st :: l) (pre.length + 1) = .error (k, st.line) := by simp only [fillTo2, h, hg, hs]
      rw [fillTo2_whole h1 (by simp)]
      simp only [flL, hs]
    | ok b =>
      have h1 : fillTo2 a0 (pre ++ st :: l) (pre.length + 1) = .ok b := by simp only [fillTo2, h, hg, hs]
      have e : pre ++ st :: l = (pre ++ [st]) ++ l := by simp
      have hl1 : (pre ++ [st]).length = pre.length + 1 := by simp
      rw [e, ← hl1] at h1
      have ih := fillTo2_flL a0 l (pre ++ [st]) _ h1
      rw [e, ih]
      simp only [flL, hs]
/-- asmF by lists. -/
def asmL (ls : List ByteArray) : Except (Int × Nat) Asm := match rdL 0 asm0 ls with
  | .error e => .error e
  | .ok r => flL r.2 r.1
theorem asmF_asmL {src : ByteArray} (h : src.size ≤ 2000) : asmF src = asmL (linesF src) := by
  unfold asmF asmL
  rw [if_neg (by omega)]
  have h1 := rdTo_rdL asm0 (linesF src) [] [] asm0 rfl
  simp only [List.nil_append, List.length_nil] at h1
  rw [h1]
  cases rdL 0 asm0 (linesF src) with
  | error e => rfl
  | ok r =>
    have h2 := fillTo2_flL r.2 r.1 [] r.2 rfl
    simp only [List.nil_append] at h2
    show fillTo2 r.2 ([] ++ r.1) ([] ++ r.1).length = _
    rw [List.nil_append]
    exact h2
end Go.Proofs.YthokdbcpkmcieaaGreatDoor
