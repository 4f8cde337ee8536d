/- The bytes of a decoded line are those that it was decoded of. Coded, plainly: what is decoded is assembled to the same bytes, at the same place. What the parser says of the registers of an instruction, and the codes that it can become. -/
import Derived.Test.YthokdbcpkmcieaaGreatDoorR04
import Derived.Test.YthokdbcpkmcieaaGreatDoorR01
namespace Go.Proofs.YthokdbcpkmcieaaGreatDoor
open Go Go.RowKit
/-- The bytes of a text, as numbers. -/
def bI (code : ByteArray) : List Int := code.data.toList.map fun x => (x.toNat : Int)
theorem bI_len (code : ByteArray) : (bI code).length = code.size := by unfold bI; rw [List.length_map, Array.length_toList]; rfl
theorem bI_at (code : ByteArray) (i : Nat) (h : i < (bI code).length) : (bI code)[i] = bAt code i := by
  rw [bAt_list]
  unfold bI at h ⊢
  rw [List.length_map] at h
  rw [List.getElem_map, List.getD_eq_getElem?_getD, List.getElem?_eq_getElem h]
  rfl
/-- What an operand adds. -/
def blK (k : Nat) (b : ByteArray) : List Int := if opSize k = 0 then [] else if opSize k = 1 then [bAt b 0] else [bAt b 0, bAt b 1]
def codeK (own : Int) (x : Int) (k : Nat) : Int := if k = 7 ∨ k = 8 then bits BinOp.or IntKind.u8 x (IntKind.u8.wrap own) else if k = 16 then bits BinOp.or IntKind.u8 x own else x
theorem wU8 (n : Int) : IntKind.u8.wrap n = n % 256 := by
  simp [IntKind.wrap, IntKind.bits, IntKind.signed]
theorem near_is (bh a : Int) (_h0 : 0 ≤ bh) (_h1 : bh ≤ 2047) (a0 : 0 ≤ a) (a1 : a ≤ 255) : IntKind.u8.wrap (distN bh (nearN bh a)) = a ∧ outB (nearN bh a) 0 65535 = false ∧ outB (distN bh (nearN bh a)) (-128) 127 = false := by
  have hn : nearN bh a = (bh + (if (127 : Int) < a then a - (256 : Int) else a) % 65536) % 65536 := by
    unfold nearN
    rw [wrap_i8 a a0 a1, IntKind.wrap_u16, IntKind.wrap_u16]
  have hd' : distN bh (nearN bh a) = if (127 : Int) < a then a - (256 : Int) else a := by
    unfold distN
    rw [hn, IntKind.wrap_u16, IntKind.wrap_u16, wrapI16]
    split <;> omega
  rw [hd', wU8]
  unfold outB
  refine ⟨?_, ?_, ?_⟩
  · split <;> omega
  · rw [hn]
    simp
    omega
  · simp
    split <;> omega
theorem page_is (h c a : Int) (h0 : 0 ≤ h) (h1 : h ≤ 2047) (c0 : 0 ≤ c) (c1 : c ≤ 255) (a0 : 0 ≤ a) (a1 : a ≤ 255) : pageN h (c / 32 * 32) a = c / 32 * 256 + a ∧ firstN h = 0 := by
  obtain ⟨n, rfl⟩ := Int.eq_ofNat_of_zero_le h0
  have e1 : bits BinOp.and IntKind.u16 (n : Int) 63488 = 0 := by
    have := u16_and_nat n 63488 (by omega) (by decide)
    rw [and_page n (by omega)] at this
    rw [show 2048 * (n / 2048) = 0 by omega] at this
    exact this
  refine ⟨?_, e1⟩
  unfold pageN
  rw [e1, IntKind.wrap_u16, IntKind.wrap_u16]
  rw [show c / 32 * 32 % 65536 * 8 % 65536 = c / 32 * 256 by omega]
  rw [bits_join .u16 16 (by decide) wraps_u16' 11 0 (c / 32 * 256) (by omega) (by omega) (by omega) (by omega) (by omega) (by omega)]
  rw [bits_join .u16 16 (by decide) wraps_u16' 8 (0 + c / 32 * 256) a (by omega) (by omega) (by omega) (by omega) (by omega) (by omega)]
  omega
theorem layK_bytes (k : Nat) (hk : k < 17) (own bh c : Int) (b : ByteArray) (nm' : ByteArray) (s : LayD) (h0 : 0 ≤ bh) (h1 : bh ≤ 2047) (c0 : 0 ≤ c) (c1 : c ≤ 255) (h16 : k = 16 → own = c / 32 * 32) :
    layK bh k (numO ⟨k, nm', own, addOf k b, bh⟩) s = ⟨codeK own s.code k, s.add ++ blK k b, s.wrong⟩ := by
  have hb0 := bAt_bd b 0
  have hb1 := bAt_bd b 1
  have hor := or_bytes (bAt b 0) (bAt b 1) hb0.1 hb0.2 hb1.1 hb1.2
  obtain ⟨x, hx⟩ : ∃ x, bAt b 0 = x := ⟨_, rfl⟩
  obtain ⟨y, hy⟩ : ∃ y, bAt b 1 = y := ⟨_, rfl⟩
  obtain ⟨sc, sa, sw⟩ := s
  rcases kind_cases hk with rfl | rfl | rfl | rfl | rfl | rfl | rfl | rfl | rfl | rfl | rfl | rfl | rfl | rfl | rfl | rfl | rfl
  case inr.inr.inr.inr.inr.inr.inr.inr.inr.inr.inr.inr.inr.inr.inr.inl =>
    have e : numO ⟨15, nm', own, addOf 15 b, bh⟩ = nearN bh (bAt b 0) := rfl
    obtain ⟨n1, n2, n3⟩ := near_is bh (bAt b 0) h0 h1 hb0.1 hb0.2
    rw [e]
    simp [layK, codeK, blK, opSize, n1, n2, n3]
  case inr.inr.inr.inr.inr.inr.inr.inr.inr.inr.inr.inr.inr.inr.inr.inr =>
    have e : numO ⟨16, nm', own, addOf 16 b, bh⟩ = pageN bh own (bAt b 0) := rfl
    have ho := h16 rfl
    subst ho
    obtain ⟨p1, p2⟩ := page_is bh c (bAt b 0) h0 h1 c0 c1 hb0.1 hb0.2
    rw [e, p1, hx]
    rw [hx] at hb0
    have e1 : pageC sc (c / 32 * 256 + x) = bits BinOp.or IntKind.u8 sc (c / 32 * 32) := by
      unfold pageC
      rw [show (c / 32 * 256 + x) / 256 % 256 * 32 % 256 = c / 32 * 32 by omega]
    have e2 : IntKind.u8.wrap (c / 32 * 256 + x) = x := by rw [wU8]; omega
    have e3 : outB (c / 32 * 256 + x) (firstN bh) (firstN bh + 2047) = false := by
      rw [p2]
      unfold outB
      simp
      omega
    simp [layK, codeK, blK, opSize, e1, e2, e3, hx]
  all_goals (simp only [layK, codeK, blK, opSize, numO, addOf])
  all_goals (rw [hx] at hb0; rw [hy] at hb1; rw [hx, hy] at hor; simp [wU8, outB, hx, hy, hor])
  all_goals (try omega)
/-- How far the bytes reach behind so many operands. -/
theorem layTo_bytes (code : ByteArray) (ks : List Nat) (own bh c x0 : Int) (ns : List Int) (hk17 : ∀ j, j < ks.length → ks.getD j 0 < 17) (hsz : sizeOf' ks ≤ code.size) (h0 : 0 ≤ bh) (h1 : bh ≤ 2047) (c0 : 0 ≤ c) (c1 : c ≤ 255) (h16 : ∀ j, j < ks.length → ks.getD j 0 = 16 → own = c / 32 * 32)
    (hns : ∀ j, j < ks.length → ns.getD j 0 = numO ((opA own ks code ks.length j).at bh)) : ∀ j, j ≤ ks.length →
    layTo bh ks ns ⟨x0, [], false⟩ j = ⟨(ks.take j).foldl (codeK own) x0, ((bI code).drop 1).take (posAt ks j - 1), false⟩
  | 0, _ => by
    rw [posAt_zero]
    rfl
  | j + 1, hj => by
    have ih := layTo_bytes code ks own bh c x0 ns hk17 hsz h0 h1 c0 c1 h16 hns j (by omega)
    have hs := posAt_snoc ks j (by omega)
    have hle := posAt_le ks j (by omega)
    have hp1 : 1 ≤ posAt ks j := by unfold posAt; omega
    have e : (opA own ks code ks.length j).at bh = ⟨ks.getD j 0, opText (ks.getD j 0), own, addOf (ks.getD j 0) (code.extract (posAt ks j) (posAt ks j + opSize (ks.getD j 0))), bh⟩ := by
      simp only [opA, Opn.at, if_pos (show j < ks.length by omega)]
    simp only [layTo]
    rw [ih, hns j (by omega), e, layK_bytes (ks.getD j 0) (hk17 j (by omega)) own bh c _ _ _ h0 h1 c0 c1 (h16 j (by omega))]
    have hfold : (ks.take (j + 1)).foldl (codeK own) x0 = codeK own ((ks.take j).foldl (codeK own) x0) (ks.getD j 0) := by
      rw [List.take_succ_eq_append_getElem (show j < ks.length by omega), List.foldl_append, List.getD_eq_getElem?_getD, List.getElem?_eq_getElem (show j < ks.length by omega)]
      rfl
    rw [hfold]
    have hbl : blK (ks.getD j 0) (code.extract (posAt ks j) (posAt ks j + opSize (ks.getD j 0))) = ((bI code).drop (posAt ks j)).take (opSize (ks.getD j 0)) := by
      have hle2 := opSize_le (ks.getD j 0)
      have hlen := bI_len code
      obtain ⟨z, hz⟩ : ∃ z, opSize (ks.getD j 0) = z := ⟨_, rfl⟩
      obtain ⟨p, hp⟩ : ∃ p, posAt ks j = p := ⟨_, rfl⟩
      unfold blK
      have hle' := hle
      rw [hz, hp] at hle'
      rw [hz] at hle2
      rw [hz, hp]
      rcases (show z = 0 ∨ z = 1 ∨ z = 2 by omega) with rfl | rfl | rfl
      · rfl
      · rw [if_neg (by decide), if_pos rfl, bAt_extract code p (p + 1) 0 (by omega), List.drop_eq_getElem_cons (by omega), List.take_succ_cons, List.take_zero, bI_at]
        rfl
      · rw [if_neg (by decide), if_neg (by decide), bAt_extract code p (p + 2) 0 (by omega), bAt_extract code p (p + 2) 1 (by omega), List.drop_eq_getElem_cons (show p < (bI code).length by omega), List.drop_eq_getElem_cons (show p + 1 < (bI code).length by omega), List.take_succ_cons, List.take_succ_cons, List.take_zero, bI_at, bI_at]
        rfl
    rw [hbl]
    have ht : ((bI code).drop 1).take (posAt ks (j + 1) - 1) = ((bI code).drop 1).take (posAt ks j - 1) ++ ((bI code).drop (posAt ks j)).take (opSize (ks.getD j 0)) := by
      rw [show posAt ks (j + 1) - 1 = (posAt ks j - 1) + opSize (ks.getD j 0) by omega, List.take_add, List.drop_drop, show 1 + (posAt ks j - 1) = posAt ks j by omega]
    rw [ht]
end Go.Proofs.YthokdbcpkmcieaaGreatDoor
namespace Go.Proofs.YthokdbcpkmcieaaGreatDoor
open Go Go.RowKit Go.Shelf Go.WideMaps Go.Maps
/-- The kinds of a code's operands. -/
def kdOf (c : Int) : List Nat := if (cutOf c).2.2 = true then ksOf c else []
def okCd (c : Int) : Bool := decide (rowIx c = 111) || (
  decide ((cutOf c).1 ≠ []) && (cutOf c).1.all isW && decide ((cutOf c).1.map capB = (cutOf c).1) && !(isD ((cutOf c).1.headD 0)) && hasN (cutOf c).1 && !((cutOf c).1.contains 59) && !((cutOf c).1.contains 10) && decide ((cutOf c).1.length ≤ 8) &&
  (match findO (cutOf c).1 ((kdOf c).map lkN) with
    | none => false
    | some d => decide (d.code = (rowAt (rowIx c)).1) && decide (d.kinds = kdOf c) && decide (d.size = sizeOf' (kdOf c))) &&
  decide (sizeOf' (kdOf c) ≤ 3) && (kdOf c).all (fun k => decide (k < 17) && (decide (k ≠ 7) || decide (ownOf c < 2)) && (decide (k ≠ 8) || decide (ownOf c < 8)) && (decide (k ≠ 16) || decide (ownOf c = c / 32 * 32))) && decide (0 ≤ ownOf c) &&
  decide ((kdOf c).foldl (codeK (ownOf c)) ((rowAt (rowIx c)).1 : Int) = c) && decide (((rowAt (rowIx c)).1 = 133) ↔ (c = 133)) && (decide (c ≠ 133) || decide (kdOf c = [11, 11])))
set_option maxRecDepth 100000 in
theorem all_cd : (List.range 256).all (fun c => okCd (c : Int)) = true := by decide +kernel
theorem cd_a5 : (List.range 256).all (fun c => decide (rowIx (c : Int) ≠ 111) || decide (c = 165)) = true := by decide +kernel
structure CdOk (c : Int) : Prop where
  nm : NmOk (cutOf c).1
  find : findO (cutOf c).1 ((kdOf c).map lkN) = some ⟨(rowAt (rowIx c)).1, kdOf c, sizeOf' (kdOf c)⟩
  size : sizeOf' (kdOf c) ≤ 3
  kinds : ∀ k ∈ kdOf c, k < 17 ∧ (k = 7 → ownOf c < 2) ∧ (k = 8 → ownOf c < 8) ∧ (k = 16 → ownOf c = c / 32 * 32)
  own0 : 0 ≤ ownOf c
  fold : (kdOf c).foldl (codeK (ownOf c)) ((rowAt (rowIx c)).1 : Int) = c
  swap : (rowAt (rowIx c)).1 = 133 ↔ c = 133
  two : c = 133 → kdOf c = [11, 11]
theorem cd_of (x : UInt8) (hr : rowIx (x.toNat : Int) ≠ 111) : CdOk (x.toNat : Int) := by
  have hx := x.toNat_lt
  have h := List.all_eq_true.1 all_cd x.toNat (List.mem_range.2 (by omega))
  unfold okCd at h
  rw [decide_eq_false hr, Bool.false_or] at h
  simp only [Bool.and_eq_true, decide_eq_true_eq, Bool.not_eq_true'] at h
  obtain ⟨⟨⟨⟨⟨⟨⟨⟨⟨⟨⟨⟨⟨⟨h1, h2⟩, h3⟩, h4⟩, h5⟩, h6⟩, h7⟩, h8⟩, h9⟩, h10⟩, h11⟩, h12⟩, h13⟩, h14⟩, h15⟩ := h
  refine ⟨⟨h1, h2, h3, h4, h5, ⟨fun hm => ?_, fun hm => ?_⟩, h8⟩, ?_, h10, fun k hk => ?_, h12, h13, h14, fun hc => ?_⟩
  · rw [List.contains_iff_mem.2 hm] at h6; cases h6
  · rw [List.contains_iff_mem.2 hm] at h7; cases h7
  · revert h9
    cases findO (cutOf (x.toNat : Int)).1 ((kdOf (x.toNat : Int)).map lkN) with
    | none => intro h9; cases h9
    | some d =>
      intro h9
      simp only [Bool.and_eq_true, decide_eq_true_eq] at h9
      obtain ⟨⟨a, b⟩, c⟩ := h9
      obtain ⟨d1, d2, d3⟩ := d
      simp only at a b c
      rw [a, b, c]
  · have := List.all_eq_true.1 h11 k hk
    simp only [Bool.and_eq_true, Bool.or_eq_true, decide_eq_true_eq] at this
    obtain ⟨⟨⟨a, b⟩, c⟩, d⟩ := this
    exact ⟨a, fun e => b.resolve_left (by simp [e]), fun e => c.resolve_left (by simp [e]), fun e => d.resolve_left (by simp [e])⟩
  · rw [decide_eq_false (by simp [hc]), Bool.false_or, decide_eq_true_eq] at h15
    exact h15
theorem a5_of (x : UInt8) (hr : rowIx (x.toNat : Int) = 111) : x.toNat = 165 := by
  have hx := x.toNat_lt
  have h := List.all_eq_true.1 cd_a5 x.toNat (List.mem_range.2 (by omega))
  rw [decide_eq_false (by simp [hr]), Bool.false_or, decide_eq_true_eq] at h
  exact h
theorem behind_small (p n : Nat) (h : p + n ≤ 1024) : behindN (p : Int) (n : Int) = (p : Int) + n := by
  unfold behindN
  rw [IntKind.wrap_u16, IntKind.wrap_u16, IntKind.wrap_u16]
  omega
theorem opA_l {c : Int} (hc : CdOk c) (_c0 : 0 ≤ c) (_c1 : c ≤ 255) (code : ByteArray) (bh : Int) (_b0 : 0 ≤ bh) (_b1 : bh ≤ 2047) (j : Nat) (hj : j < (kdOf c).length) : OpL ((opA (ownOf c) (kdOf c) code (kdOf c).length j).at bh) := by
  have hmem : (kdOf c).getD j 0 ∈ kdOf c := by
    rw [List.getD_eq_getElem?_getD, List.getElem?_eq_getElem hj]
    exact List.getElem_mem hj
  obtain ⟨k1, k2, k3, k4⟩ := hc.kinds _ hmem
  have own0 := hc.own0
  have e : (opA (ownOf c) (kdOf c) code (kdOf c).length j).at bh = ⟨(kdOf c).getD j 0, opText ((kdOf c).getD j 0), ownOf c, addOf ((kdOf c).getD j 0) (code.extract (posAt (kdOf c) j) (posAt (kdOf c) j + opSize ((kdOf c).getD j 0))), bh⟩ := by
    simp only [opA, Opn.at, if_pos hj]
  rw [e]
  obtain ⟨b, hb⟩ : ∃ b, code.extract (posAt (kdOf c) j) (posAt (kdOf c) j + opSize ((kdOf c).getD j 0)) = b := ⟨_, rfl⟩
  rw [hb]
  obtain ⟨k, hk⟩ : ∃ k, (kdOf c).getD j 0 = k := ⟨_, rfl⟩
  rw [hk] at k1 k2 k3 k4 ⊢
  obtain ⟨own, ho⟩ : ∃ own, ownOf c = own := ⟨_, rfl⟩
  rw [ho] at own0 k2 k3 k4 ⊢
  have hb0 := bAt_bd b 0
  have ha := addOf_bd k b
  have hsmall : k = 9 ∨ k = 11 ∨ k = 12 ∨ k = 13 → addOf k b = bAt b 0 := by
    rintro (rfl | rfl | rfl | rfl) <;> rfl
  have hnum : 0 ≤ numO ⟨k, opText k, own, addOf k b, bh⟩ ∧ numO ⟨k, opText k, own, addOf k b, bh⟩ ≤ 65535 := by
    show 0 ≤ (if k ≤ 6 then 0 else if k ≤ 8 then own else if k ≤ 14 then addOf k b else if k = 15 then nearN bh (addOf k b) else pageN bh own (addOf k b)) ∧ (if k ≤ 6 then 0 else if k ≤ 8 then own else if k ≤ 14 then addOf k b else if k = 15 then nearN bh (addOf k b) else pageN bh own (addOf k b)) ≤ 65535
    by_cases g1 : k ≤ 6
    · rw [if_pos g1]; omega
    rw [if_neg g1]
    by_cases g2 : k ≤ 8
    · rw [if_pos g2]
      by_cases g7 : k = 7
      · have := k2 g7; omega
      · have := k3 (by omega); omega
    rw [if_neg g2]
    by_cases g3 : k ≤ 14
    · rw [if_pos g3]; exact ha
    rw [if_neg g3]
    by_cases g4 : k = 15
    · rw [if_pos g4]; exact nearN_bd _ _
    rw [if_neg g4]
    exact pageN_bd _ _ _
  refine ⟨k1, rfl, fun e => ⟨own0, k2 e⟩, fun e => ⟨own0, k3 e⟩, hnum.1, hnum.2, fun e => ?_⟩
  have e : k = 9 ∨ k = 11 ∨ k = 12 ∨ k = 13 := e
  have : numO ⟨k, opText k, own, addOf k b, bh⟩ = addOf k b := by
    show (if k ≤ 6 then 0 else if k ≤ 8 then own else if k ≤ 14 then addOf k b else _) = _
    rw [if_neg (by omega), if_neg (by omega), if_pos (by omega)]
  rw [this, hsmall e]
  exact hb0.2
theorem nums_ops (f : List UInt8 → Option Int) (p : Int) : ∀ (l : List Opn), (∀ x ∈ l, OpL x) → numsF f p (-1000000) 1000000 (l.map fun x => [numT (numO x)]) = some (l.map numO)
  | [], _ => rfl
  | o :: l, h => by
    have ho := h o List.mem_cons_self
    have h0 := ho.num0
    have h1 := ho.num1
    have hn : nmbF f p [numT (numO o)] (-1000000) 1000000 = some (numO o) := sm f p (numO o) ⟨by omega, by omega⟩
    show (nmbF f p [numT (numO o)] (-1000000) 1000000).bind (fun z => (numsF f p (-1000000) 1000000 (l.map fun x => [numT (numO x)])).map (z :: ·)) = _
    rw [hn, nums_ops f p l (fun x hx => h x (List.mem_cons_of_mem _ hx))]
    rfl
end Go.Proofs.YthokdbcpkmcieaaGreatDoor
namespace Go.Proofs.YthokdbcpkmcieaaGreatDoor
open Go Go.RowKit Go.Shelf Go.WideMaps Go.Maps
/-- An operand that is a register has a register's number. -/
def RegP (k : Nat) (v : List Trm) : Prop := (k = 7 → ∃ m : Nat, m < 2 ∧ v = [numT (m : Int)]) ∧ (k = 8 → ∃ m : Nat, m < 8 ∧ v = [numT (m : Int)])
theorem RegP.no {k : Nat} {v : List Trm} (h7 : k ≠ 7) (h8 : k ≠ 8) : RegP k v := ⟨fun e => absurd e h7, fun e => absurd e h8⟩
theorem fixO_reg {l : List UInt8} {y : Nat × Nat} (h : fixO l = some y) : RegP y.1 [numT (y.2 : Int)] := by
  unfold fixO at h
  obtain ⟨z, hz, rfl⟩ := Option.map_eq_some_iff.1 h
  have hm := List.mem_of_find?_eq_some hz
  have key : ∀ z ∈ fixL, (z.2.1 = 7 → z.2.2 < 2) ∧ (z.2.1 = 8 → z.2.2 < 8) := by decide
  have := key z hm
  exact ⟨fun e => ⟨_, this.1 e, rfl⟩, fun e => ⟨_, this.2 e, rfl⟩⟩
theorem pAt_reg {ts : List Tok} {x : Nat × List Trm} {l : List Tok} (h : pAt ts = some (x, l)) : RegP x.1 x.2 := by
  match ts with
  | [] => simp [pAt] at h
  | [_] => simp [pAt] at h
  | t :: u :: ts =>
    simp only [pAt] at h
    split at h
    · split at h
      · cases ts with
        | nil => simp at h
        | cons v l3 =>
          simp only at h
          split at h
          · unfold pAtFin at h
            obtain ⟨y, hf, hy⟩ := Option.map_eq_some_iff.1 h
            cases hy
            exact fixO_reg hf
          · cases h
      · unfold pAtFin at h
        obtain ⟨y, hf, hy⟩ := Option.map_eq_some_iff.1 h
        cases hy
        exact fixO_reg hf
    · cases h
theorem pOp_reg {ts : List Tok} {x : Nat × List Trm} {l : List Tok} (h : pOp ts = some (x, l)) : RegP x.1 x.2 := by
  cases ts with
  | nil => simp [pOp] at h
  | cons t ts =>
    simp only [pOp] at h
    split at h
    · obtain ⟨y, hy, e⟩ := Option.map_eq_some_iff.1 h
      cases e
      exact RegP.no (show (9 : Nat) ≠ 7 by omega) (show (9 : Nat) ≠ 8 by omega)
    · split at h
      · obtain ⟨y, hy, e⟩ := Option.map_eq_some_iff.1 h
        cases e
        exact RegP.no (show (13 : Nat) ≠ 7 by omega) (show (13 : Nat) ≠ 8 by omega)
      · split at h
        · exact pAt_reg h
        · split at h
          · rename_i y hf
            cases h
            exact fixO_reg hf
          · obtain ⟨y, hy, e⟩ := Option.map_eq_some_iff.1 h
            cases e
            exact RegP.no (show (11 : Nat) ≠ 7 by omega) (show (11 : Nat) ≠ 8 by omega)
/-- Kinds and values, one for one. -/
structure PairOk (ks : List Nat) (vs : List (List Trm)) : Prop where
  len : ks.length = vs.length
  at_ : ∀ j, j < ks.length → RegP (ks.getD j 0) (vs.getD j [])
theorem PairOk.snoc {ks : List Nat} {vs : List (List Trm)} (h : PairOk ks vs) {k : Nat} {v : List Trm} (hk : RegP k v) : PairOk (ks ++ [k]) (vs ++ [v]) := by
  refine ⟨by simp [h.len], fun j hj => ?_⟩
  simp only [List.length_append, List.length_cons, List.length_nil] at hj
  by_cases hl : j < ks.length
  · have h1 : (ks ++ [k]).getD j 0 = ks.getD j 0 := by rw [List.getD_eq_getElem?_getD, List.getElem?_append_left hl, List.getD_eq_getElem?_getD]
    have h2 : (vs ++ [v]).getD j [] = vs.getD j [] := by rw [List.getD_eq_getElem?_getD, List.getElem?_append_left (by rw [← h.len]; exact hl), List.getD_eq_getElem?_getD]
    rw [h1, h2]
    exact h.at_ j hl
  · have e : j = ks.length := by omega
    subst e
    have h1 : (ks ++ [k]).getD ks.length 0 = k := by rw [List.getD_eq_getElem?_getD, List.getElem?_append_right (Nat.le_refl _), Nat.sub_self]; rfl
    have h2 : (vs ++ [v]).getD ks.length [] = v := by rw [List.getD_eq_getElem?_getD, h.len, List.getElem?_append_right (Nat.le_refl _), Nat.sub_self]; rfl
    rw [h1, h2]
    exact hk
theorem pOps_reg : ∀ (f : Nat) {ks : List Nat} {vs : List (List Trm)} {ts : List Tok} {r : List Nat × List (List Trm)} {l : List Tok}, PairOk ks vs → pOps f ks vs ts = some (r, l) → PairOk r.1 r.2
  | 0, _, _, _, _, _, _, h => by simp [pOps] at h
  | f + 1, ks, vs, ts, r, l, hp, h => by
    simp only [pOps] at h
    split at h
    · cases h
    · cases h
    · rename_i x t l2 ho
      have hr := pOp_reg ho
      split at h
      · exact pOps_reg f (hp.snoc hr) h
      · cases h
        exact hp.snoc hr
theorem pInsOps_reg {ts : List Tok} {r : List Nat × List (List Trm)} {l : List Tok} (h : pInsOps ts = some (r, l)) : PairOk r.1 r.2 := by
  have h0 : PairOk [] [] := ⟨rfl, fun j hj => absurd hj (Nat.not_lt_zero _)⟩
  cases ts with
  | nil => simp [pInsOps] at h
  | cons t ts =>
    simp only [pInsOps] at h
    split at h
    · cases h
      exact h0
    · exact pOps_reg _ h0 h
/-- The instruction is of the table, and its registers' numbers are registers' numbers. -/
structure InsR (x : Stm) : Prop where
  row : ∃ r ∈ rowsL, x.ins = insR r
  len : x.ins.kinds.length = x.vals.length
  regs : ∀ j, j < x.ins.kinds.length → RegP (x.ins.kinds.getD j 0) (x.vals.getD j [])
theorem lkN_reg (k k' : Nat) (h : lkN k = lkN k') : (k = 7 → k' = 7) ∧ (k = 8 → k' = 8) := by
  unfold lkN at h
  refine ⟨fun e => ?_, fun e => ?_⟩ <;> subst e <;> repeat' split at h
  all_goals omega
theorem pIns_reg {s : List UInt8} {ts : List Tok} {x : InsD × List (List Trm)} {l : List Tok} (h : pIns s ts = some (x, l)) : InsR ⟨6, ⟨#[]⟩, x.2, x.1⟩ := by
  unfold pIns at h
  obtain ⟨⟨y, l2⟩, h1, h2⟩ := Option.bind_eq_some_iff.1 h
  obtain ⟨d, h3, h4⟩ := Option.map_eq_some_iff.1 h2
  cases h4
  have hp := pInsOps_reg h1
  unfold findO at h3
  split at h3
  · cases h3
  · unfold insO at h3
    obtain ⟨r, q1, rfl⟩ := Option.map_eq_some_iff.1 h3
    have hm : r ∈ rowsL := List.mem_reverse.1 (List.mem_of_find?_eq_some q1)
    have hq := List.find?_some q1
    unfold meant at hq
    rw [Bool.and_eq_true, beq_iff_eq, beq_iff_eq] at hq
    have hl : (rowKd r.2.2).length = y.1.length := by
      have := congrArg List.length hq.2
      simpa using this
    refine ⟨⟨r, hm, rfl⟩, ?_, fun j hj => ?_⟩
    · show (rowKd r.2.2).length = y.2.length
      rw [hl, hp.len]
    · have hj : j < (rowKd r.2.2).length := hj
      have hj2 : j < y.1.length := by omega
      have he : lkN ((rowKd r.2.2).getD j 0) = lkN (y.1.getD j 0) := by
        have := congrArg (fun l : List Nat => l[j]?) hq.2
        simp only [List.getElem?_map, List.getElem?_eq_getElem hj, List.getElem?_eq_getElem hj2, Option.map_some, Option.some.injEq] at this
        rw [List.getD_eq_getElem?_getD, List.getD_eq_getElem?_getD, List.getElem?_eq_getElem hj, List.getElem?_eq_getElem hj2]
        exact this
      have hr := hp.at_ j hj2
      have hk := lkN_reg _ _ he
      exact ⟨fun e => hr.1 (hk.1 e), fun e => hr.2 (hk.2 e)⟩
theorem pTask_reg {ts : List Tok} {x : Stm} {l : List Tok} (h : pTask ts = some (x, l)) (ht : x.task = 6) : InsR x := by
  cases ts with
  | nil => simp [pTask] at h
  | cons t ts =>
    have hequ : ∀ {s : ByteArray} {ts : List Tok} {x : Stm} {l : List Tok}, pEqu s ts = some (x, l) → x.task = 5 := fun {s ts x l} h => by
      cases ts with
      | nil => simp [pEqu] at h
      | cons u ts =>
        simp only [pEqu] at h
        split at h
        · obtain ⟨y, _, e⟩ := Option.map_eq_some_iff.1 h
          cases e
          rfl
        · cases h
    simp only [pTask] at h
    split at h
    · cases h
      cases ht
    · split at h
      · cases h
      · split at h
        · obtain ⟨y, hy, e⟩ := Option.map_eq_some_iff.1 h
          cases e
          exact pIns_reg hy
        · split at h
          · rename_i tk hd
            split at h
            · have := hequ h
              omega
            · obtain ⟨y, _, e⟩ := Option.map_eq_some_iff.1 h
              cases e
              have := (dirO_le hd).2
              have ht : tk = 6 := ht
              omega
          · have := hequ h
            omega
theorem parseL_reg {s lb : ByteArray} {x : Stm} (h : parseL s = some (lb, x)) (ht : x.task = 6) : InsR x := by
  unfold parseL at h
  obtain ⟨ts, h1, h2⟩ := Option.bind_eq_some_iff.1 h
  unfold parseT at h2
  obtain ⟨⟨lb2, l⟩, h3, h4⟩ := Option.bind_eq_some_iff.1 h2
  obtain ⟨⟨y, l2⟩, h5, h6⟩ := Option.bind_eq_some_iff.1 h4
  simp only at h5 h6
  split at h6
  · cases h6
    exact pTask_reg h5 ht
  · cases h6
/-- The codes that an operand of this kind can make of a code. -/
def codesK (k : Nat) (x : Int) : List Int :=
  if k = 7 then (List.range 2).map fun m : Nat => bits BinOp.or IntKind.u8 x (m : Int)
  else if k = 8 then (List.range 8).map fun m : Nat => bits BinOp.or IntKind.u8 x (m : Int)
  else if k = 16 then (List.range 8).map fun m : Nat => bits BinOp.or IntKind.u8 x ((32 * m : Nat) : Int)
  else [x]
def codesF (x : Int) (ks : List Nat) : List Int := ks.foldl (fun l k => l.flatMap (codesK k)) [x]
def okRw (r : Nat × Nat × List UInt8) : Bool := (codesF (r.1 : Int) (rowKd r.2.2)).all fun c => decide (0 ≤ c) && decide (c ≤ 255) && decide (rowIx c ≠ 111) && decide (sizeOf' (kdOf c) = sizeK (rowKd r.2.2))
set_option maxRecDepth 100000 in
theorem rows_rw : rowsL.all okRw = true := by decide +kernel
theorem layK_code (bh : Int) (k : Nat) (hk : k < 17) (n : Int) (s : LayD) (h7 : k = 7 → ∃ m : Nat, m < 2 ∧ n = (m : Int)) (h8 : k = 8 → ∃ m : Nat, m < 8 ∧ n = (m : Int)) : (layK bh k n s).code ∈ codesK k s.code := by
  unfold layK codesK
  by_cases g1 : k ≤ 6
  · rw [if_pos g1, if_neg (by omega), if_neg (by omega), if_neg (by omega)]
    exact List.mem_singleton.2 rfl
  rw [if_neg g1]
  by_cases g2 : k ≤ 8
  · rw [if_pos g2]
    by_cases g7 : k = 7
    · obtain ⟨m, hm, rfl⟩ := h7 g7
      rw [if_pos g7]
      refine List.mem_map.2 ⟨m, List.mem_range.2 hm, ?_⟩
      rw [wU8]
      show bits BinOp.or IntKind.u8 s.code (m : Int) = bits BinOp.or IntKind.u8 s.code ((m : Int) % 256)
      rw [show (m : Int) % 256 = (m : Int) by omega]
    · have k8 : k = 8 := by clear h7 h8; omega
      obtain ⟨m, hm, rfl⟩ := h8 k8
      rw [if_neg g7, if_pos k8]
      refine List.mem_map.2 ⟨m, List.mem_range.2 hm, ?_⟩
      rw [wU8]
      show bits BinOp.or IntKind.u8 s.code (m : Int) = bits BinOp.or IntKind.u8 s.code ((m : Int) % 256)
      rw [show (m : Int) % 256 = (m : Int) by omega]
  clear h7 h8
  rw [if_neg g2, if_neg (show ¬ k = 7 by omega), if_neg (show ¬ k = 8 by omega)]
  by_cases g16 : k = 16
  · subst g16
    rw [if_neg (show ¬ (16 : Nat) = 9 by decide), if_neg (show ¬ (16 : Nat) = 10 by decide), if_neg (show ¬ (16 : Nat) ≤ 13 by decide), if_neg (show ¬ (16 : Nat) = 14 by decide), if_neg (show ¬ (16 : Nat) = 15 by decide), if_pos (show (16 : Nat) = 16 from rfl)]
    refine List.mem_map.2 ⟨(n / 256 % 8).toNat, List.mem_range.2 (by omega), ?_⟩
    show bits BinOp.or IntKind.u8 s.code _ = pageC s.code n
    unfold pageC
    congr 1
    omega
  · rw [if_neg g16]
    repeat' split
    all_goals first | exact List.mem_singleton.2 rfl | omega
theorem layTo_code (bh : Int) (ks : List Nat) (ns : List Int) (x0 : Int) (hk17 : ∀ j, j < ks.length → ks.getD j 0 < 17) (h : ∀ j, j < ks.length → (ks.getD j 0 = 7 → ∃ m : Nat, m < 2 ∧ ns.getD j 0 = (m : Int)) ∧ (ks.getD j 0 = 8 → ∃ m : Nat, m < 8 ∧ ns.getD j 0 = (m : Int))) : ∀ j, j ≤ ks.length → (layTo bh ks ns ⟨x0, [], false⟩ j).code ∈ codesF x0 (ks.take j)
  | 0, _ => List.mem_singleton.2 rfl
  | j + 1, hj => by
    have ih := layTo_code bh ks ns x0 hk17 h j (by omega)
    have e : codesF x0 (ks.take (j + 1)) = (codesF x0 (ks.take j)).flatMap (codesK (ks.getD j 0)) := by
      unfold codesF
      rw [List.take_succ_eq_append_getElem (show j < ks.length by omega), List.foldl_append, List.getD_eq_getElem?_getD, List.getElem?_eq_getElem (show j < ks.length by omega)]
      rfl
    rw [e]
    exact List.mem_flatMap.2 ⟨_, ih, layK_code bh _ (hk17 j (by omega)) _ _ (h j (by omega)).1 (h j (by omega)).2⟩
theorem numsF_at (f : List UInt8 → Option Int) (p lo hi : Int) : ∀ {vs : List (List Trm)} {zs : List Int}, numsF f p lo hi vs = some zs → zs.length = vs.length ∧ ∀ j, j < vs.length → nmbF f p (vs.getD j []) lo hi = some (zs.getD j 0)
  | [], zs, h => by
    cases h
    exact ⟨rfl, fun j hj => absurd hj (Nat.not_lt_zero _)⟩
  | e :: vs, zs, h => by
    obtain ⟨z, h1, h2⟩ := Option.bind_eq_some_iff.1 (show (nmbF f p e lo hi).bind (fun z => (numsF f p lo hi vs).map (z :: ·)) = some zs from h)
    obtain ⟨ys, h3, rfl⟩ := Option.map_eq_some_iff.1 h2
    obtain ⟨q1, q2⟩ := numsF_at f p lo hi h3
    refine ⟨by simp [q1], fun j hj => ?_⟩
    cases j with
    | zero => exact h1
    | succ j => exact q2 j (by simpa using hj)
/-- The first byte of an instruction is a code that is decoded to as many bytes. -/
theorem bytS_code {f : List UInt8 → Option Int} {p : Nat} {x : Stm} {bs : List Int} (h : bytS f p x = some bs) (ht : x.task = 6) (hI : InsR x) (hF : InsF x.ins x.vals.length) : ∃ c rest, bs = c :: rest ∧ 0 ≤ c ∧ c ≤ 255 ∧ rowIx c ≠ 111 ∧ sizeOf' (kdOf c) = x.ins.size := by
  unfold bytS at h
  rw [if_neg (by omega), if_neg (by omega)] at h
  obtain ⟨zs, h1, h2⟩ := Option.bind_eq_some_iff.1 h
  unfold insB at h2
  split at h2
  · cases h2
  · cases h2
    obtain ⟨r, hr, he⟩ := hI.row
    obtain ⟨q1, q2⟩ := numsF_at f _ _ _ h1
    have hcode : (bytesI x.ins zs (p : Int)).code ∈ codesF (x.ins.code : Int) x.ins.kinds := by
      unfold bytesI
      have := layTo_code (bhN (p : Int) x.ins.size) x.ins.kinds (swapN x.ins.code zs) (x.ins.code : Int) (fun j hj => hF.kinds _ (by rw [List.getD_eq_getElem?_getD, List.getElem?_eq_getElem hj]; exact List.getElem_mem hj)) (fun j hj => ?_) x.ins.kinds.length (Nat.le_refl _)
      · rw [List.take_length] at this
        exact this
      · have hreg := hI.regs j hj
        have hj2 : j < x.vals.length := by rw [← hI.len]; exact hj
        have hsw : ¬ x.ins.code = 133 ∨ (x.ins.kinds.getD j 0 ≠ 7 ∧ x.ins.kinds.getD j 0 ≠ 8) := by
          by_cases hc : x.ins.code = 133
          · right
            have key : rowsL.all (fun r => decide (r.1 ≠ 133) || (rowKd r.2.2).all fun k => decide (k ≠ 7) && decide (k ≠ 8)) = true := by decide +kernel
            have := List.all_eq_true.1 key r hr
            rw [he] at hc hj ⊢
            have hc' : r.1 = 133 := hc
            rw [decide_eq_false (fun h => h hc'), Bool.false_or, List.all_eq_true] at this
            have hm : (rowKd r.2.2).getD j 0 ∈ rowKd r.2.2 := by
              have hj : j < (rowKd r.2.2).length := hj
              rw [List.getD_eq_getElem?_getD, List.getElem?_eq_getElem hj]
              exact List.getElem_mem hj
            have := this _ hm
            simp only [Bool.and_eq_true, decide_eq_true_eq] at this
            exact this
          · exact .inl hc
        have hval : ∀ m : Nat, x.vals.getD j [] = [numT (m : Int)] → m < 8 → zs.getD j 0 = (m : Int) := fun m hv hm => by
          have := q2 j hj2
          rw [hv] at this
          have e := sm f (p : Int) (m : Int) ⟨by omega, by omega⟩
          have e2 : some (m : Int) = some (zs.getD j 0) := e.symm.trans this
          exact (Option.some.inj e2).symm
        rcases hsw with hc | hc
        · have e : swapN x.ins.code zs = zs := by unfold swapN; rw [if_neg hc]
          rw [e]
          refine ⟨fun e7 => ?_, fun e8 => ?_⟩
          · obtain ⟨m, hm, hv⟩ := hreg.1 e7
            exact ⟨m, hm, hval m hv (by omega)⟩
          · obtain ⟨m, hm, hv⟩ := hreg.2 e8
            exact ⟨m, hm, hval m hv hm⟩
        · exact ⟨fun e => absurd e hc.1, fun e => absurd e hc.2⟩
    have hok := List.all_eq_true.1 rows_rw r hr
    unfold okRw at hok
    rw [he] at hcode
    have := List.all_eq_true.1 hok _ hcode
    simp only [Bool.and_eq_true, decide_eq_true_eq] at this
    rw [he]
    exact ⟨_, _, rfl, this.1.1.1, this.1.1.2, this.1.2, this.2⟩
end Go.Proofs.YthokdbcpkmcieaaGreatDoor
