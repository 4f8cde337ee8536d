/- The bytes of a decoded line are those that it was decoded of. Coded, plainly: what is decoded is assembled to the same bytes, at the same place. Coded, plainly: the line that Decode answers, and what Assemble makes of it behind an ORG. Coded, plainly: ORG and a line that is known. -/
import Derived.Test.YthokdbcpkmcieaaGreatDoorC09
namespace Go.Proofs.YthokdbcpkmcieaaGreatDoor
open Go Go.RowKit
/-- The bytes of a text, as numbers. -/
def bI (code : ByteArray) : List Int := code.data.toList.map fun x => (x.toNat : Int)
theorem bI_len (code : ByteArray) : (bI code).length = code.size := by unfold bI; rw [List.length_map, Array.length_toList]; rfl
theorem bI_at (code : ByteArray) (i : Nat) (h : i < (bI code).length) : (bI code)[i] = bAt code i := by
  rw [bAt_list]
  unfold bI at h ⊢
  rw [List.length_map] at h
  rw [List.getElem_map, List.getD_eq_getElem?_getD, List.getElem?_eq_getElem h]
  rfl
/-- What an operand adds. -/
def blK (k : Nat) (b : ByteArray) : List Int := if opSize k = 0 then [] else if opSize k = 1 then [bAt b 0] else [bAt b 0, bAt b 1]
def codeK (own : Int) (x : Int) (k : Nat) : Int := if k = 7 ∨ k = 8 then bits BinOp.or IntKind.u8 x (IntKind.u8.wrap own) else if k = 16 then bits BinOp.or IntKind.u8 x own else x
theorem wU8 (n : Int) : IntKind.u8.wrap n = n % 256 := by
  simp [IntKind.wrap, IntKind.bits, IntKind.signed]
theorem near_is (bh a : Int) (_h0 : 0 ≤ bh) (_h1 : bh ≤ 2047) (a0 : 0 ≤ a) (a1 : a ≤ 255) : IntKind.u8.wrap (distN bh (nearN bh a)) = a ∧ outB (nearN bh a) 0 65535 = false ∧ outB (distN bh (nearN bh a)) (-128) 127 = false := by
  have hn : nearN bh a = (bh + (if (127 : Int) < a then a - (256 : Int) else a) % 65536) % 65536 := by
    unfold nearN
    rw [wrap_i8 a a0 a1, IntKind.wrap_u16, IntKind.wrap_u16]
  have hd' : distN bh (nearN bh a) = if (127 : Int) < a then a - (256 : Int) else a := by
    unfold distN
    rw [hn, IntKind.wrap_u16, IntKind.wrap_u16, wrapI16]
    split <;> omega
  rw [hd', wU8]
  unfold outB
  refine ⟨?_, ?_, ?_⟩
  · split <;> omega
  · rw [hn]
    simp
    omega
  · simp
    split <;> omega
theorem page_is (h c a : Int) (h0 : 0 ≤ h) (h1 : h ≤ 2047) (c0 : 0 ≤ c) (c1 : c ≤ 255) (a0 : 0 ≤ a) (a1 : a ≤ 255) : pageN h (c / 32 * 32) a = c / 32 * 256 + a ∧ firstN h = 0 := by
  obtain ⟨n, rfl⟩ := Int.eq_ofNat_of_zero_le h0
  have e1 : bits BinOp.and IntKind.u16 (n : Int) 63488 = 0 := by
    have := u16_and_nat n 63488 (by omega) (by decide)
    rw [and_page n (by omega)] at this
    rw [show 2048 * (n / 2048) = 0 by omega] at this
    exact this
  refine ⟨?_, e1⟩
  unfold pageN
  rw [e1, IntKind.wrap_u16, IntKind.wrap_u16]
  rw [show c / 32 * 32 % 65536 * 8 % 65536 = c / 32 * 256 by omega]
  rw [bits_join .u16 16 (by decide) wraps_u16' 11 0 (c / 32 * 256) (by omega) (by omega) (by omega) (by omega) (by omega) (by omega)]
  rw [bits_join .u16 16 (by decide) wraps_u16' 8 (0 + c / 32 * 256) a (by omega) (by omega) (by omega) (by omega) (by omega) (by omega)]
  omega
theorem layK_bytes (k : Nat) (hk : k < 17) (own bh c : Int) (b : ByteArray) (nm' : ByteArray) (s : LayD) (h0 : 0 ≤ bh) (h1 : bh ≤ 2047) (c0 : 0 ≤ c) (c1 : c ≤ 255) (h16 : k = 16 → own = c / 32 * 32) :
    layK bh k (numO ⟨k, nm', own, addOf k b, bh⟩) s = ⟨codeK own s.code k, s.add ++ blK k b, s.wrong⟩ := by
  have hb0 := bAt_bd b 0
  have hb1 := bAt_bd b 1
  have hor := or_bytes (bAt b 0) (bAt b 1) hb0.1 hb0.2 hb1.1 hb1.2
  obtain ⟨x, hx⟩ : ∃ x, bAt b 0 = x := ⟨_, rfl⟩
  obtain ⟨y, hy⟩ : ∃ y, bAt b 1 = y := ⟨_, rfl⟩
  obtain ⟨sc, sa, sw⟩ := s
  rcases kind_cases hk with rfl | rfl | rfl | rfl | rfl | rfl | rfl | rfl | rfl | rfl | rfl | rfl | rfl | rfl | rfl | rfl | rfl
  case inr.inr.inr.inr.inr.inr.inr.inr.inr.inr.inr.inr.inr.inr.inr.inl =>
    have e : numO ⟨15, nm', own, addOf 15 b, bh⟩ = nearN bh (bAt b 0) := rfl
    obtain ⟨n1, n2, n3⟩ := near_is bh (bAt b 0) h0 h1 hb0.1 hb0.2
    rw [e]
    simp [layK, codeK, blK, opSize, n1, n2, n3]
  case inr.inr.inr.inr.inr.inr.inr.inr.inr.inr.inr.inr.inr.inr.inr.inr =>
    have e : numO ⟨16, nm', own, addOf 16 b, bh⟩ = pageN bh own (bAt b 0) := rfl
    have ho := h16 rfl
    subst ho
    obtain ⟨p1, p2⟩ := page_is bh c (bAt b 0) h0 h1 c0 c1 hb0.1 hb0.2
    rw [e, p1, hx]
    rw [hx] at hb0
    have e1 : pageC sc (c / 32 * 256 + x) = bits BinOp.or IntKind.u8 sc (c / 32 * 32) := by
      unfold pageC
      rw [show (c / 32 * 256 + x) / 256 % 256 * 32 % 256 = c / 32 * 32 by omega]
    have e2 : IntKind.u8.wrap (c / 32 * 256 + x) = x := by rw [wU8]; omega
    have e3 : outB (c / 32 * 256 + x) (firstN bh) (firstN bh + 2047) = false := by
      rw [p2]
      unfold outB
      simp
      omega
    simp [layK, codeK, blK, opSize, e1, e2, e3, hx]
  all_goals (simp only [layK, codeK, blK, opSize, numO, addOf])
  all_goals (rw [hx] at hb0; rw [hy] at hb1; rw [hx, hy] at hor; simp [wU8, outB, hx, hy, hor])
  all_goals (try omega)
/-- How far the bytes reach behind so many operands. -/
theorem layTo_bytes (code : ByteArray) (ks : List Nat) (own bh c x0 : Int) (ns : List Int) (hk17 : ∀ j, j < ks.length → ks.getD j 0 < 17) (hsz : sizeOf' ks ≤ code.size) (h0 : 0 ≤ bh) (h1 : bh ≤ 2047) (c0 : 0 ≤ c) (c1 : c ≤ 255) (h16 : ∀ j, j < ks.length → ks.getD j 0 = 16 → own = c / 32 * 32)
    (hns : ∀ j, j < ks.length → ns.getD j 0 = numO ((opA own ks code ks.length j).at bh)) : ∀ j, j ≤ ks.length →
    layTo bh ks ns ⟨x0, [], false⟩ j = ⟨(ks.take j).foldl (codeK own) x0, ((bI code).drop 1).take (posAt ks j - 1), false⟩
  | 0, _ => by
    rw [posAt_zero]
    rfl
  | j + 1, hj => by
    have ih := layTo_bytes code ks own bh c x0 ns hk17 hsz h0 h1 c0 c1 h16 hns j (by omega)
    have hs := posAt_snoc ks j (by omega)
    have hle := posAt_le ks j (by omega)
    have hp1 : 1 ≤ posAt ks j := by unfold posAt; omega
    have e : (opA own ks code ks.length j).at bh = ⟨ks.getD j 0, opText (ks.getD j 0), own, addOf (ks.getD j 0) (code.extract (posAt ks j) (posAt ks j + opSize (ks.getD j 0))), bh⟩ := by
      simp only [opA, Opn.at, if_pos (show j < ks.length by omega)]
    simp only [layTo]
    rw [ih, hns j (by omega), e, layK_bytes (ks.getD j 0) (hk17 j (by omega)) own bh c _ _ _ h0 h1 c0 c1 (h16 j (by omega))]
    have hfold : (ks.take (j + 1)).foldl (codeK own) x0 = codeK own ((ks.take j).foldl (codeK own) x0) (ks.getD j 0) := by
      rw [List.take_succ_eq_append_getElem (show j < ks.length by omega), List.foldl_append, List.getD_eq_getElem?_getD, List.getElem?_eq_getElem (show j < ks.length by omega)]
      rfl
    rw [hfold]
    have hbl : blK (ks.getD j 0) (code.extract (posAt ks j) (posAt ks j + opSize (ks.getD j 0))) = ((bI code).drop (posAt ks j)).take (opSize (ks.getD j 0)) := by
      have hle2 := opSize_le (ks.getD j 0)
      have hlen := bI_len code
      obtain ⟨z, hz⟩ : ∃ z, opSize (ks.getD j 0) = z := ⟨_, rfl⟩
      obtain ⟨p, hp⟩ : ∃ p, posAt ks j = p := ⟨_, rfl⟩
      unfold blK
      have hle' := hle
      rw [hz, hp] at hle'
      rw [hz] at hle2
      rw [hz, hp]
      rcases (show z = 0 ∨ z = 1 ∨ z = 2 by omega) with rfl | rfl | rfl
      · rfl
      · rw [if_neg (by decide), if_pos rfl, bAt_extract code p (p + 1) 0 (by omega), List.drop_eq_getElem_cons (by omega), List.take_succ_cons, List.take_zero, bI_at]
        rfl
      · rw [if_neg (by decide), if_neg (by decide), bAt_extract code p (p + 2) 0 (by omega), bAt_extract code p (p + 2) 1 (by omega), List.drop_eq_getElem_cons (show p < (bI code).length by omega), List.drop_eq_getElem_cons (show p + 1 < (bI code).length by omega), List.take_succ_cons, List.take_succ_cons, List.take_zero, bI_at, bI_at]
        rfl
    rw [hbl]
    have ht : ((bI code).drop 1).take (posAt ks (j + 1) - 1) = ((bI code).drop 1).take (posAt ks j - 1) ++ ((bI code).drop (posAt ks j)).take (opSize (ks.getD j 0)) := by
      rw [show posAt ks (j + 1) - 1 = (posAt ks j - 1) + opSize (ks.getD j 0) by omega, List.take_add, List.drop_drop, show 1 + (posAt ks j - 1) = posAt ks j by omega]
    rw [ht]
end Go.Proofs.YthokdbcpkmcieaaGreatDoor
namespace Go.Proofs.YthokdbcpkmcieaaGreatDoor
open Go Go.RowKit Go.Shelf Go.WideMaps Go.Maps
/-- The kinds of a code's operands. -/
def kdOf (c : Int) : List Nat := if (cutOf c).2.2 = true then ksOf c else []
def okCd (c : Int) : Bool := decide (rowIx c = 111) || (
  decide ((cutOf c).1 ≠ []) && (cutOf c).1.all isW && decide ((cutOf c).1.map capB = (cutOf c).1) && !(isD ((cutOf c).1.headD 0)) && hasN (cutOf c).1 && !((cutOf c).1.contains 59) && !((cutOf c).1.contains 10) && decide ((cutOf c).1.length ≤ 8) &&
  (match findO (cutOf c).1 ((kdOf c).map lkN) with
    | none => false
    | some d => decide (d.code = (rowAt (rowIx c)).1) && decide (d.kinds = kdOf c) && decide (d.size = sizeOf' (kdOf c))) &&
  decide (sizeOf' (kdOf c) ≤ 3) && (kdOf c).all (fun k => decide (k < 17) && (decide (k ≠ 7) || decide (ownOf c < 2)) && (decide (k ≠ 8) || decide (ownOf c < 8)) && (decide (k ≠ 16) || decide (ownOf c = c / 32 * 32))) && decide (0 ≤ ownOf c) &&
  decide ((kdOf c).foldl (codeK (ownOf c)) ((rowAt (rowIx c)).1 : Int) = c) && decide (((rowAt (rowIx c)).1 = 133) ↔ (c = 133)) && (decide (c ≠ 133) || decide (kdOf c = [11, 11])))
set_option maxRecDepth 100000 in
theorem all_cd : (List.range 256).all (fun c => okCd (c : Int)) = true := by decide +kernel
theorem cd_a5 : (List.range 256).all (fun c => decide (rowIx (c : Int) ≠ 111) || decide (c = 165)) = true := by decide +kernel
structure CdOk (c : Int) : Prop where
  nm : NmOk (cutOf c).1
  find : findO (cutOf c).1 ((kdOf c).map lkN) = some ⟨(rowAt (rowIx c)).1, kdOf c, sizeOf' (kdOf c)⟩
  size : sizeOf' (kdOf c) ≤ 3
  kinds : ∀ k ∈ kdOf c, k < 17 ∧ (k = 7 → ownOf c < 2) ∧ (k = 8 → ownOf c < 8) ∧ (k = 16 → ownOf c = c / 32 * 32)
  own0 : 0 ≤ ownOf c
  fold : (kdOf c).foldl (codeK (ownOf c)) ((rowAt (rowIx c)).1 : Int) = c
  swap : (rowAt (rowIx c)).1 = 133 ↔ c = 133
  two : c = 133 → kdOf c = [11, 11]
theorem cd_of (x : UInt8) (hr : rowIx (x.toNat : Int) ≠ 111) : CdOk (x.toNat : Int) := by
  have hx := x.toNat_lt
  have h := List.all_eq_true.1 all_cd x.toNat (List.mem_range.2 (by omega))
  unfold okCd at h
  rw [decide_eq_false hr, Bool.false_or] at h
  simp only [Bool.and_eq_true, decide_eq_true_eq, Bool.not_eq_true'] at h
  obtain ⟨⟨⟨⟨⟨⟨⟨⟨⟨⟨⟨⟨⟨⟨h1, h2⟩, h3⟩, h4⟩, h5⟩, h6⟩, h7⟩, h8⟩, h9⟩, h10⟩, h11⟩, h12⟩, h13⟩, h14⟩, h15⟩ := h
  refine ⟨⟨h1, h2, h3, h4, h5, ⟨fun hm => ?_, fun hm => ?_⟩, h8⟩, ?_, h10, fun k hk => ?_, h12, h13, h14, fun hc => ?_⟩
  · rw [List.contains_iff_mem.2 hm] at h6; cases h6
  · rw [List.contains_iff_mem.2 hm] at h7; cases h7
  · revert h9
    cases findO (cutOf (x.toNat : Int)).1 ((kdOf (x.toNat : Int)).map lkN) with
    | none => intro h9; cases h9
    | some d =>
      intro h9
      simp only [Bool.and_eq_true, decide_eq_true_eq] at h9
      obtain ⟨⟨a, b⟩, c⟩ := h9
      obtain ⟨d1, d2, d3⟩ := d
      simp only at a b c
      rw [a, b, c]
  · have := List.all_eq_true.1 h11 k hk
    simp only [Bool.and_eq_true, Bool.or_eq_true, decide_eq_true_eq] at this
    obtain ⟨⟨⟨a, b⟩, c⟩, d⟩ := this
    exact ⟨a, fun e => b.resolve_left (by simp [e]), fun e => c.resolve_left (by simp [e]), fun e => d.resolve_left (by simp [e])⟩
  · rw [decide_eq_false (by simp [hc]), Bool.false_or, decide_eq_true_eq] at h15
    exact h15
theorem a5_of (x : UInt8) (hr : rowIx (x.toNat : Int) = 111) : x.toNat = 165 := by
  have hx := x.toNat_lt
  have h := List.all_eq_true.1 cd_a5 x.toNat (List.mem_range.2 (by omega))
  rw [decide_eq_false (by simp [hr]), Bool.false_or, decide_eq_true_eq] at h
  exact h
theorem behind_small (p n : Nat) (h : p + n ≤ 1024) : behindN (p : Int) (n : Int) = (p : Int) + n := by
  unfold behindN
  rw [IntKind.wrap_u16, IntKind.wrap_u16, IntKind.wrap_u16]
  omega
theorem opA_l {c : Int} (hc : CdOk c) (_c0 : 0 ≤ c) (_c1 : c ≤ 255) (code : ByteArray) (bh : Int) (_b0 : 0 ≤ bh) (_b1 : bh ≤ 2047) (j : Nat) (hj : j < (kdOf c).length) : OpL ((opA (ownOf c) (kdOf c) code (kdOf c).length j).at bh) := by
  have hmem : (kdOf c).getD j 0 ∈ kdOf c := by
    rw [List.getD_eq_getElem?_getD, List.getElem?_eq_getElem hj]
    exact List.getElem_mem hj
  obtain ⟨k1, k2, k3, k4⟩ := hc.kinds _ hmem
  have own0 := hc.own0
  have e : (opA (ownOf c) (kdOf c) code (kdOf c).length j).at bh = ⟨(kdOf c).getD j 0, opText ((kdOf c).getD j 0), ownOf c, addOf ((kdOf c).getD j 0) (code.extract (posAt (kdOf c) j) (posAt (kdOf c) j + opSize ((kdOf c).getD j 0))), bh⟩ := by
    simp only [opA, Opn.at, if_pos hj]
  rw [e]
  obtain ⟨b, hb⟩ : ∃ b, code.extract (posAt (kdOf c) j) (posAt (kdOf c) j + opSize ((kdOf c).getD j 0)) = b := ⟨_, rfl⟩
  rw [hb]
  obtain ⟨k, hk⟩ : ∃ k, (kdOf c).getD j 0 = k := ⟨_, rfl⟩
  rw [hk] at k1 k2 k3 k4 ⊢
  obtain ⟨own, ho⟩ : ∃ own, ownOf c = own := ⟨_, rfl⟩
  rw [ho] at own0 k2 k3 k4 ⊢
  have hb0 := bAt_bd b 0
  have ha := addOf_bd k b
  have hsmall : k = 9 ∨ k = 11 ∨ k = 12 ∨ k = 13 → addOf k b = bAt b 0 := by
    rintro (rfl | rfl | rfl | rfl) <;> rfl
  have hnum : 0 ≤ numO ⟨k, opText k, own, addOf k b, bh⟩ ∧ numO ⟨k, opText k, own, addOf k b, bh⟩ ≤ 65535 := by
    show 0 ≤ (if k ≤ 6 then 0 else if k ≤ 8 then own else if k ≤ 14 then addOf k b else if k = 15 then nearN bh (addOf k b) else pageN bh own (addOf k b)) ∧ (if k ≤ 6 then 0 else if k ≤ 8 then own else if k ≤ 14 then addOf k b else if k = 15 then nearN bh (addOf k b) else pageN bh own (addOf k b)) ≤ 65535
    by_cases g1 : k ≤ 6
    · rw [if_pos g1]; omega
    rw [if_neg g1]
    by_cases g2 : k ≤ 8
    · rw [if_pos g2]
      by_cases g7 : k = 7
      · have := k2 g7; omega
      · have := k3 (by omega); omega
    rw [if_neg g2]
    by_cases g3 : k ≤ 14
    · rw [if_pos g3]; exact ha
    rw [if_neg g3]
    by_cases g4 : k = 15
    · rw [if_pos g4]; exact nearN_bd _ _
    rw [if_neg g4]
    exact pageN_bd _ _ _
  refine ⟨k1, rfl, fun e => ⟨own0, k2 e⟩, fun e => ⟨own0, k3 e⟩, hnum.1, hnum.2, fun e => ?_⟩
  have e : k = 9 ∨ k = 11 ∨ k = 12 ∨ k = 13 := e
  have : numO ⟨k, opText k, own, addOf k b, bh⟩ = addOf k b := by
    show (if k ≤ 6 then 0 else if k ≤ 8 then own else if k ≤ 14 then addOf k b else _) = _
    rw [if_neg (by omega), if_neg (by omega), if_pos (by omega)]
  rw [this, hsmall e]
  exact hb0.2
theorem nums_ops (f : List UInt8 → Option Int) (p : Int) : ∀ (l : List Opn), (∀ x ∈ l, OpL x) → numsF f p (-1000000) 1000000 (l.map fun x => [numT (numO x)]) = some (l.map numO)
  | [], _ => rfl
  | o :: l, h => by
    have ho := h o List.mem_cons_self
    have h0 := ho.num0
    have h1 := ho.num1
    have hn : nmbF f p [numT (numO o)] (-1000000) 1000000 = some (numO o) := sm f p (numO o) ⟨by omega, by omega⟩
    show (nmbF f p [numT (numO o)] (-1000000) 1000000).bind (fun z => (numsF f p (-1000000) 1000000 (l.map fun x => [numT (numO x)])).map (z :: ·)) = _
    rw [hn, nums_ops f p l (fun x hx => h x (List.mem_cons_of_mem _ hx))]
    rfl
end Go.Proofs.YthokdbcpkmcieaaGreatDoor
namespace Go.Proofs.YthokdbcpkmcieaaGreatDoor
open Go Go.RowKit Go.Shelf Go.WideMaps Go.Maps
/-- What is known of a line that Decode has answered. -/
structure LnOk (code : ByteArray) (p : Nat) (s : ByteArray) (n : Nat) (x : Stm) : Prop where
  nl : NoNL s
  size : s.size ≤ 100
  ne : 0 < s.size
  parse : parseL s = some (noB, x)
  task : x.task = 6
  name : x.name = noB
  great : tooS x.vals = false
  used : usedS x.vals = []
  ins : x.ins.size = n
  n1 : 1 ≤ n
  n3 : n ≤ 3
  le : n ≤ code.size
  bytes : ∀ f, bytS f p x = some ((bI code).take n)
theorem vals_plain (l : List Opn) (h : ∀ x ∈ l, OpL x) : tooS (l.map fun x => [numT (numO x)]) = false ∧ usedS (l.map fun x => [numT (numO x)]) = [] := by
  constructor
  · unfold tooS
    rw [List.any_eq_false]
    intro e he
    obtain ⟨o, ho, rfl⟩ := List.mem_map.1 he
    have := (h o ho).num1
    simp [tooE, numT]
    omega
  · unfold usedS
    rw [List.flatMap_eq_nil_iff]
    intro e he
    obtain ⟨o, ho, rfl⟩ := List.mem_map.1 he
    rfl
theorem take_one (code : ByteArray) (h : 0 < code.size) : (bI code).take 1 = [(code[0].toNat : Int)] := by
  have hl := bI_len code
  have := List.drop_eq_getElem_cons (show 0 < (bI code).length by omega)
  rw [List.drop_zero] at this
  rw [this, List.take_succ_cons, List.take_zero, bI_at, ← bAt_eq code 0 h]
theorem ln_plain (code : ByteArray) (p : Nat) (h : 0 < code.size) (hr : rowIx (code[0].toNat : Int) ≠ 111) (hcut : (cutOf (code[0].toNat : Int)).2.2 = false) : ∃ x, LnOk code p ⟨(cutOf (code[0].toNat : Int)).1.toArray⟩ 1 x := by
  have hc := cd_of code[0] hr
  have hk : kdOf (code[0].toNat : Int) = [] := by unfold kdOf; rw [hcut]; rfl
  have hf := hc.find
  have hfold := hc.fold
  rw [hk] at hf hfold
  refine ⟨_, ⟨?_, ?_, ?_, parse_plain _ hc.nm _ hf, rfl, rfl, rfl, rfl, rfl, Nat.le_refl _, by omega, h, fun f => ?_⟩⟩
  · exact hc.nm.clean.2
  · have := hc.nm.len
    show (cutOf (code[0].toNat : Int)).1.toArray.size ≤ 100
    rw [List.size_toArray]
    omega
  · show 0 < (cutOf (code[0].toNat : Int)).1.toArray.size
    rw [List.size_toArray]
    exact List.length_pos_iff.2 hc.nm.ne
  · have hf2 : ((rowAt (rowIx (code[0].toNat : Int))).1 : Int) = (code[0].toNat : Int) := hfold
    rw [take_one code h]
    exact congrArg (fun z => some [z]) hf2
theorem lAt_kinds (own : Int) (ks : List Nat) (code : ByteArray) (bh : Int) : ((lAt own ks code ks.length).map fun o => o.at bh).map (fun x => lkN x.kind) = ks.map lkN := by
  unfold lAt
  rw [List.map_map, List.map_map]
  apply List.ext_getElem?
  intro j
  rw [List.getElem?_map, List.getElem?_map]
  by_cases hj : j < ks.length
  · rw [List.getElem?_range hj, List.getElem?_eq_getElem hj]
    simp only [Option.map_some, Function.comp, opA, Opn.at]
    rw [List.getD_eq_getElem?_getD, List.getElem?_eq_getElem hj]
    rfl
  · rw [List.getElem?_eq_none (by simpa using hj), List.getElem?_eq_none (by simpa using hj)]
    rfl
theorem ln_ops (code : ByteArray) (p : Nat) (h : 0 < code.size) (x0 : UInt8) (hx0 : code[0] = x0) (hr : rowIx (x0.toNat : Int) ≠ 111) (hcut : (cutOf (x0.toNat : Int)).2.2 = true) (hsz : sizeOf' (ksOf (x0.toNat : Int)) ≤ code.size) (hp : p + sizeOf' (ksOf (x0.toNat : Int)) ≤ 1024) :
    ∃ x, LnOk code p (lineF ⟨(cutOf (x0.toNat : Int)).1.toArray⟩ (opsF (x0.toNat : Int) code) (behindN (p : Int) (sizeOf' (ksOf (x0.toNat : Int)) : Nat))) (sizeOf' (ksOf (x0.toNat : Int))) x := by
  have hc := cd_of x0 hr
  have hk : kdOf (x0.toNat : Int) = ksOf (x0.toNat : Int) := by unfold kdOf; rw [hcut]; rfl
  have hcb : 0 ≤ (x0.toNat : Int) ∧ (x0.toNat : Int) ≤ 255 := by have := x0.toNat_lt; omega
  have hfst := take_one code h
  rw [hx0] at hfst
  have hbs := behind_small p (sizeOf' (ksOf (x0.toNat : Int))) hp
  have hL := fun bh b0 b1 => opA_l hc hcb.1 hcb.2 code bh b0 b1
  have hn3 := hc.size
  rw [hk] at hL hn3
  have hfind := hc.find
  have hfold := hc.fold
  have hswap := hc.swap
  have htwo := hc.two
  have hkinds := hc.kinds
  rw [hk] at hfind hfold htwo hkinds
  have hnm := hc.nm
  clear hc hk
  clear hx0 hr hcut
  generalize (x0.toNat : Int) = c at *
  have hops0 : opsF c code = if (c == 133) = true then swap01 (lAt (ownOf c) (ksOf c) code (ksOf c).length) else lAt (ownOf c) (ksOf c) code (ksOf c).length := rfl
  generalize ownOf c = own at *
  generalize ksOf c = ks at *
  generalize (rowAt (rowIx c)).1 = rc at *
  generalize (cutOf c).1 = nl at *
  obtain ⟨bh, hbh⟩ : ∃ bh, behindN (p : Int) (sizeOf' ks : Nat) = bh := ⟨_, rfl⟩
  rw [hbh] at hbs
  have b0 : 0 ≤ bh := by omega
  have b1 : bh ≤ 2047 := by omega
  have hL := hL bh b0 b1
  have hk17 : ∀ j, j < ks.length → ks.getD j 0 < 17 := fun j hj => (hkinds _ (by rw [List.getD_eq_getElem?_getD, List.getElem?_eq_getElem hj]; exact List.getElem_mem hj)).1
  have h16 : ∀ j, j < ks.length → ks.getD j 0 = 16 → own = c / 32 * 32 := fun j hj => (hkinds _ (by rw [List.getD_eq_getElem?_getD, List.getElem?_eq_getElem hj]; exact List.getElem_mem hj)).2.2.2
  -- the operands as they are written
  obtain ⟨ops, hops⟩ : ∃ ops, (opsF c code).map (fun o => o.at bh) = ops := ⟨_, rfl⟩
  have hfacts : (∀ x ∈ ops, OpL x) ∧ ops.map (fun x => lkN x.kind) = ks.map lkN ∧ ops.length = ks.length ∧ ∀ j, j < ks.length → (swapN rc (ops.map numO)).getD j 0 = numO ((opA own ks code ks.length j).at bh) := by
    cases h133 : (c == 133) with
    | false =>
      have hrc2 : ¬ rc = 133 := fun e => by rw [hswap.1 e] at h133; simp at h133
      rw [hops0, h133] at hops
      simp only [Bool.false_eq_true, if_false] at hops
      refine ⟨fun x hx => ?_, ?_, ?_, fun j hj => ?_⟩
      · rw [← hops] at hx
        unfold lAt at hx
        rw [List.map_map] at hx
        obtain ⟨j, hj, rfl⟩ := List.mem_map.1 hx
        exact hL j (List.mem_range.1 hj)
      · rw [← hops]
        exact lAt_kinds own ks code bh
      · rw [← hops]
        unfold lAt
        simp
      · unfold swapN
        rw [if_neg hrc2, ← hops]
        unfold lAt
        rw [List.map_map, List.map_map, List.getD_eq_getElem?_getD, List.getElem?_map, List.getElem?_range hj]
        rfl
    | true =>
      have hc133 : c = 133 := by simpa using h133
      have hks2 := htwo hc133
      rw [hops0, h133] at hops
      simp only [if_true] at hops
      subst hks2
      have e : swap01 (lAt own [11, 11] code 2) = [opA own [11, 11] code 2 1, opA own [11, 11] code 2 0] := rfl
      have hops : (swap01 (lAt own [11, 11] code 2)).map (fun o => o.at bh) = ops := hops
      rw [e] at hops
      refine ⟨fun x hx => ?_, ?_, ?_, fun j hj => ?_⟩
      · rw [← hops] at hx
        simp only [List.map_cons, List.map_nil, List.mem_cons, List.not_mem_nil, or_false] at hx
        rcases hx with rfl | rfl
        · exact hL 1 (by decide)
        · exact hL 0 (by decide)
      · rw [← hops]
        rfl
      · rw [← hops]
        rfl
      · unfold swapN
        rw [if_pos (hswap.2 hc133), ← hops]
        match j, hj with
        | 0, _ => rfl
        | 1, _ => rfl
  obtain ⟨f1, f2, f3, f4⟩ := hfacts
  have hline : lineF ⟨nl.toArray⟩ (opsF c code) bh = (⟨nl.toArray⟩ ++ ⟨#[32]⟩) ++ ⟨(Lib.join (ops.map fun o => (writS o).data.toList) [44]).toArray⟩ := by
    unfold lineF
    rw [← hops, List.map_map]
    rfl
  rw [hbh, hline]
  have hcl := line_clean nl hnm ops f1
  have hv := vals_plain ops f1
  have hkl : ks.length ≤ 3 := by
    by_cases h3 : ks.length ≤ 3
    · exact h3
    · exfalso
      have hnone : findO nl (ks.map lkN) = none := by
        unfold findO
        rw [if_pos (by rw [List.length_map]; omega)]
      rw [hnone] at hfind
      cases hfind
  refine ⟨⟨6, noB, ops.map fun x => [numT (numO x)], ⟨rc, ks, sizeOf' ks⟩⟩, ⟨hcl.1, by omega, ?_, parse_ops nl hnm ops f1 _ (by rw [f2]; exact hfind), rfl, rfl, hv.1, hv.2, rfl, by unfold sizeOf'; omega, hn3, hsz, fun f => ?_⟩⟩
  · rw [ByteArray.size_append, ByteArray.size_append]
    have : (⟨#[32]⟩ : ByteArray).size = 1 := rfl
    omega
  · show (numsF f (p : Int) (-1000000) 1000000 (ops.map fun x => [numT (numO x)])).bind (fun zs => insB ⟨rc, ks, sizeOf' ks⟩ zs (p : Int)) = _
    rw [nums_ops f (p : Int) ops f1]
    show insB ⟨rc, ks, sizeOf' ks⟩ (ops.map numO) (p : Int) = _
    have hlay := layTo_bytes code ks own bh c (rc : Int) (swapN rc (ops.map numO)) hk17 hsz b0 b1 hcb.1 hcb.2 h16 f4 ks.length (Nat.le_refl _)
    rw [List.take_length, hfold, posAt_all] at hlay
    have hb : bytesI ⟨rc, ks, sizeOf' ks⟩ (ops.map numO) (p : Int) = ⟨c, ((bI code).drop 1).take (sizeOf' ks - 1), false⟩ := by
      have e : bytesI ⟨rc, ks, sizeOf' ks⟩ (ops.map numO) (p : Int) = layTo (behindN (p : Int) (sizeOf' ks : Nat)) ks (swapN rc (ops.map numO)) ⟨(rc : Int), [], false⟩ ks.length := rfl
      rw [e, hbh]
      exact hlay
    unfold insB
    rw [hb]
    simp only [Bool.false_eq_true, if_false]
    have hs1 : 1 ≤ sizeOf' ks := by unfold sizeOf'; omega
    rw [show sizeOf' ks = 1 + (sizeOf' ks - 1) by omega, List.take_add, hfst, show 1 + (sizeOf' ks - 1) - 1 = sizeOf' ks - 1 by omega]
    rfl
/-- Decode's answer: none, or a line that is known. -/
theorem dec_ln (code : ByteArray) (p : Nat) (hp : p ≤ 1021) : ((decA code (p : Int)).2 = 0 ∧ (decA code (p : Int)).1 = ⟨#[]⟩ ∧ (code.size = 0 ∨ (∃ h : 0 < code.size, code[0].toNat = 165) ∨ code.size < 3)) ∨ ∃ x, LnOk code p (decA code (p : Int)).1 (decA code (p : Int)).2 x := by
  unfold decA
  by_cases h : 0 < code.size
  · rw [dif_pos h]
    by_cases hr : rowIx (code[0].toNat : Int) = 111
    · rw [if_pos hr]
      exact .inl ⟨rfl, rfl, .inr (.inl ⟨h, a5_of code[0] hr⟩)⟩
    · rw [if_neg hr]
      cases hcut : (cutOf (code[0].toNat : Int)).2.2 with
      | false =>
        rw [if_pos rfl]
        exact .inr (ln_plain code p h hr hcut)
      | true =>
        rw [if_neg (by decide)]
        have hc := cd_of code[0] hr
        have hk : kdOf (code[0].toNat : Int) = ksOf (code[0].toNat : Int) := by unfold kdOf; rw [hcut]; rfl
        have hn3 := hc.size
        rw [hk] at hn3
        by_cases hsz : sizeOf' (ksOf (code[0].toNat : Int)) ≤ code.size
        · rw [if_pos hsz]
          exact .inr (ln_ops code p h code[0] rfl hr hcut hsz (by omega))
        · rw [if_neg hsz]
          exact .inl ⟨rfl, rfl, .inr (.inr (by omega))⟩
  · rw [dif_neg h]
    exact .inl ⟨rfl, rfl, .inl (by omega)⟩
end Go.Proofs.YthokdbcpkmcieaaGreatDoor
namespace Go.Proofs.YthokdbcpkmcieaaGreatDoor
open Go Go.RowKit Go.Shelf Go.WideMaps Go.Maps
/-- The digits of a number. -/
def okDg (n : Nat) : Bool := !((decF 3 n).data.toList.isEmpty) && (decF 3 n).data.toList.all isD && decide ((decF 3 n).data.toList.map capB = (decF 3 n).data.toList) && decide (numOf (decF 3 n).data.toList = some (n : Int)) && !((decF 3 n).data.toList.contains 59) && !((decF 3 n).data.toList.contains 10)
set_option maxRecDepth 100000 in
theorem ok_dg : (List.range 1024).all okDg = true := by decide +kernel
theorem org_any (n : Nat) (h : n < 1024) : NoNL (txO n) ∧ parseL (txO n) = some (noB, orgS n) := by
  have hq := List.all_eq_true.1 ok_dg n (List.mem_range.2 h)
  unfold okDg at hq
  simp only [Bool.and_eq_true, decide_eq_true_eq, Bool.not_eq_true'] at hq
  obtain ⟨⟨⟨⟨⟨h1, h2⟩, h3⟩, h4⟩, h5⟩, h6⟩ := hq
  have hl : (txO n).data.toList = [111, 114, 103, 32] ++ (decF 3 n).data.toList := by
    unfold txO
    rw [app_list]
  obtain ⟨D, hD⟩ : ∃ D, (decF 3 n).data.toList = D := ⟨_, rfl⟩
  rw [hD] at h1 h2 h3 h4 h5 h6 hl
  have hDne : D ≠ [] := by intro e; rw [e] at h1; simp at h1
  have h59 : (59 : UInt8) ∉ D := fun hm => by rw [List.contains_iff_mem.2 hm] at h5; cases h5
  have h10 : (10 : UInt8) ∉ D := fun hm => by rw [List.contains_iff_mem.2 hm] at h6; cases h6
  have hw : D.all isW = true := List.all_eq_true.2 fun c hc => isW_of_digit c (List.all_eq_true.1 h2 c hc)
  have hfl : (txO n).data.toList.map capB = ([[79, 82, 71], [32], D] : List (List UInt8)).flatten := by
    rw [hl, List.map_append, h3]
    simp
    decide
  have hok : pcOk [[79, 82, 71], [32], D] = true := by
    have hD1 : pcOk [D] = true := by simp [pcOk, hw, hDne]
    exact pc_word (by decide) (by decide) (by decide) (pc_sign (by decide) hD1)
  have htk : toksP [[79, 82, 71], [32], D] = some [wT [79, 82, 71], nT D (n : Int)] := by
    have hd0 : isD (D.headD 0) = true := by
      cases D with
      | nil => exact absurd rfl hDne
      | cons c l => exact List.all_eq_true.1 h2 c List.mem_cons_self
    have hd1 : ¬ (D.headD 0).toNat = 32 := fun e => by
      unfold isD at hd0
      rw [e] at hd0
      simp at hd0
    simp only [toksP]
    rw [show ([79, 82, 71] : List UInt8).headD 0 = 79 from rfl, show ([32] : List UInt8).headD 0 = 32 from rfl, pieceK_word 79 _ (by decide) (by decide) (by decide), pieceK_blank 32 _ (by decide), pieceK_num (D.headD 0) ⟨D.toArray⟩ (n : Int) hd1 hd0 h4]
    rfl
  refine ⟨?_, ?_⟩
  · unfold NoNL
    rw [hl, List.mem_append]
    rintro (e | e)
    · revert e
      decide
    · exact h10 e
  · rw [parseL_pcs (ps := [[79, 82, 71], [32], D]) (ts := [wT [79, 82, 71], nT D (n : Int)]) ?_ hfl hok ?_ htk]
    · have hx : pExpr [nT D (n : Int), endT] = some ([numT (n : Int)], [endT]) := by
        refine pExpr_num _ (n : Int) ?_ rfl rfl endT [] (.inr rfl)
        intro e
        have e2 := congrArg (fun b : ByteArray => b.data.toList) e
        have e3 : D = [36] := e2
        rw [e3] at h2
        revert h2
        decide
      have hv : pVals 1 [nT D (n : Int), endT] = some ([[numT (n : Int)]], [endT]) := by
        unfold pVals
        rw [hx]
        rfl
      have hT : pTask [wT [79, 82, 71], nT D (n : Int), endT] = some (orgS n, [endT]) := by
        simp only [pTask]
        rw [if_neg (by decide), if_neg (by decide), if_neg (by decide +kernel)]
        have hd : dirO (wT [79, 82, 71]).text.data.toList = some 1 := by decide
        rw [hd]
        simp only
        rw [if_neg (by decide), hv]
        rfl
      have hL : pLabel [wT [79, 82, 71], nT D (n : Int), endT] = some (⟨#[]⟩, [wT [79, 82, 71], nT D (n : Int), endT]) := by
        simp only [pLabel]
        rw [if_pos]
        refine .inr fun e => ?_
        have e2 := congrArg (fun b : ByteArray => b.data.toList) e
        have e3 : D = [58] := e2
        rw [e3] at h2
        revert h2
        decide
      show (pLabel [wT [79, 82, 71], nT D (n : Int), endT]).bind _ = _
      rw [hL]
      simp only [Option.bind_some]
      rw [hT]
      rfl
    · rw [hl, List.mem_append]
      rintro (e | e)
      · revert e
        decide
      · exact h59 e
    · have : (txO n).size = (txO n).data.toList.length := (Array.length_toList).symm
      rw [this, hl]
      simp
theorem settle_orgA (n : Nat) (h : n < 1024) : settleF asm0 noB (orgS n) = .ok (asmP n) := by
  have hcu : cuF asm0.nm noB (orgS n).task (orgS n).name (orgS n).vals = true := rfl
  have hcg : cgF asm0.nm asm0.n (givenS noB (orgS n).task (orgS n).name) = none := rfl
  have ht : tooS (orgS n).vals = false := by
    show ([[nm (n : Int)]] : List (List Trm)).any tooE = false
    unfold tooE nm
    simp
    omega
  have hv : nmbF asm0.nm (asm0.pl : Int) ((orgS n).vals.headD []) 0 1023 = some (n : Int) := one_num _ _ _ _ _ (by omega) (by omega)
  unfold settleF
  rw [if_neg (by simp [hcu]), hcg]
  simp only
  rw [if_neg (by simp [ht]), if_pos (show (orgS n).task = 1 from rfl), if_pos (show noB = ⟨#[]⟩ from rfl), hv]
  rfl
/-- ORG, then one known line. -/
theorem asm_one {code : ByteArray} {p n : Nat} {s : ByteArray} {x : Stm} (h : LnOk code p s n x) (hp : p + n ≤ 1024) (hp2 : p ≤ 1023) : ∃ b, asmF (txO p ++ (NL ++ s)) = .ok b ∧ b.laid = layB p n ∧ b.bytes = byt p ((bI code).take n) := by
  have ho := org_any p (by omega)
  have hn1 := h.n1
  have hd := decF_size 3 p
  have hsz : (txO p ++ (NL ++ s)).size ≤ 2000 := by
    rw [ByteArray.size_append, ByteArray.size_append]
    have h1 : (txO p).size ≤ 8 := by
      unfold txO
      rw [ByteArray.size_append]
      have : (⟨#[111, 114, 103, 32]⟩ : ByteArray).size = 4 := rfl
      omega
    have h2 : NL.size = 1 := rfl
    have := h.size
    omega
  rw [asmF_asmL hsz, linesF_cons ho.1, linesF_last h.nl]
  have hlaid : (asmP p).laid = layB p 0 := by show bF = _; rw [layB_zero p (by omega)]
  have hcu : cuF (asmP p).nm noB x.task x.name x.vals = true := by
    refine cuF_free ?_ (by rw [h.task]; rfl)
    rw [h.task, h.used]
    rfl
  have hcg : cgF (asmP p).nm (asmP p).n (givenS noB x.task x.name) = none := by rw [h.task]; rfl
  have hsp : spanF (asmP p).pl n (asmP p).laid = none := by
    unfold spanF
    rw [show (asmP p).pl = p from rfl, hlaid, if_neg (by omega)]
    have := layB_free p 0 n
    rw [Nat.add_zero] at this
    rw [if_neg this]
  obtain ⟨b, hb⟩ : ∃ b : Asm, b = { asmP p with pl := p + n, laid := setR (asmP p).laid p n, starts := (asmP p).starts.set p true } := ⟨_, rfl⟩
  have hset : settleF (asmP p) noB x = .ok b := by
    unfold settleF
    rw [if_neg (by simp [hcu]), hcg]
    simp only
    have hs : sizeS x.task x.vals.length x.ins.size = n := by
      unfold sizeS
      rw [h.task, h.ins]
      rfl
    rw [if_neg (by simp [h.great]), if_neg (by rw [h.task]; decide), if_neg (by rw [h.task]; decide), if_neg (by rw [h.task]; decide), hs, hsp, if_pos h.task, hb]
    rfl
  have hrd : rdL 0 asm0 [txO p, s] = .ok ([⟨1, 0, noB, orgS p⟩, ⟨2, p, noB, x⟩], b) := by
    simp only [rdL, ho.2, settle_orgA p (by omega), h.parse, hset]
    rfl
  unfold asmL
  rw [hrd]
  have hf1 : fillF b 0 (orgS p) = .ok b := rfl
  have hbb : b.bytes = b255 := by rw [hb]; rfl
  have hbn : b.nm = (asmP p).nm := by rw [hb]
  have hf2 : fillF b p x = .ok { b with bytes := putAt b.bytes p ((bI code).take n) } := by
    unfold fillF
    have hs : sizeS x.task x.vals.length x.ins.size = n := by
      unfold sizeS
      rw [h.task, h.ins]
      rfl
    rw [hs, if_neg (by omega), h.used, if_neg (by simp), h.bytes b.nm]
  refine ⟨{ b with bytes := putAt b.bytes p ((bI code).take n) }, ?_, ?_, ?_⟩
  · simp only [flL, hf1, hf2]
  · show b.laid = _
    rw [hb]
    show setR (asmP p).laid p n = _
    rw [hlaid]
    have := layB_setR p 0 n (by omega)
    rw [Nat.add_zero, Nat.zero_add] at this
    exact this
  · show putAt b.bytes p ((bI code).take n) = _
    rw [hbb, ← byt_nil p (by omega)]
    have := byt_put p [] ((bI code).take n) (by
      have := bI_len code
      have := h.le
      simp
      omega)
    simpa using this
theorem layB_at (p n k : Nat) (hk : k < 1024) (hp : p + n ≤ 1024) : (layB p n)[k]? = some (decide (p ≤ k) && decide (k < p + n)) := by
  unfold layB
  by_cases h1 : k < p
  · rw [List.getElem?_append_left (by simpa using h1), List.getElem?_replicate, if_pos h1, decide_eq_false (by omega : ¬ p ≤ k)]
    rfl
  · rw [List.getElem?_append_right (by simp; omega), List.length_replicate, decide_eq_true (by omega : p ≤ k)]
    by_cases h2 : k - p < n
    · rw [List.getElem?_append_left (by simpa using h2), List.getElem?_replicate, if_pos h2, decide_eq_true (by omega : k < p + n)]
      rfl
    · rw [List.getElem?_append_right (by simp; omega), List.length_replicate, List.getElem?_replicate, if_pos (by omega), decide_eq_false (by omega : ¬ k < p + n)]
      rfl
theorem byt_at (code : ByteArray) (p n k : Nat) (hp : p ≤ k) (hk : k < p + n) (hn : n ≤ code.size) : (byt p ((bI code).take n))[k]? = some (code.data.toList.getD (k - p) 0) := by
  have hl := bI_len code
  have hq : k - p < code.data.toList.length := by rw [Array.length_toList]; show k - p < code.size; omega
  have he : ((bI code).take n).map toB = code.data.toList.take n := by
    unfold bI
    rw [← List.map_take, List.map_map]
    have : ∀ c : UInt8, (toB ∘ fun x : UInt8 => (x.toNat : Int)) c = c := fun c => by
      show UInt8.ofNat ((c.toNat : Int).toNat) = c
      simp
    rw [List.map_congr_left (g := id) (fun c _ => this c), List.map_id]
  unfold byt
  rw [List.getElem?_append_right (by simp; omega), List.length_replicate, he, List.getElem?_append_left (by rw [List.length_take]; omega), List.getElem?_take, if_pos (by omega), List.getElem?_eq_getElem hq, List.getD_eq_getElem?_getD, List.getElem?_eq_getElem hq]
  rfl
end Go.Proofs.YthokdbcpkmcieaaGreatDoor
