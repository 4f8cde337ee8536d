/- Numbers in statements; ORG; the assembler that begins at a place. The lines of Shifted: their bytes. -/
import Derived.Test.YthokdbcpkmcieaaGreatDoorS01
import Derived.Test.YthokdbcpkmcieaaGreatDoorS02
namespace Go.Proofs.YthokdbcpkmcieaaGreatDoor
open Go Go.RowKit Go.Shelf Go.WideMaps Go.Maps
theorem one_num (f : List UInt8 → Option Int) (p lo hi v : Int) (h : -1000000 ≤ v ∧ v ≤ 1000000) (h2 : lo ≤ v ∧ v ≤ hi) : nmbF f p [nm v] lo hi = some v := by
  have e : trmN f p (nm v) = v := rfl
  unfold nmbF
  have : valF f p 0 [nm v] = some v := by
    have hd := valF_drop (nm := f) (pl := p) (s := 0) (l := [nm v]) (k := 0) (t := nm v) rfl
    rw [List.drop_zero] at hd
    rw [hd]
    show (if (0 : Int) + trmN f p (nm v) < -1000000 ∨ 1000000 < 0 + trmN f p (nm v) then none else valF f p (0 + trmN f p (nm v)) []) = _
    rw [e, Int.zero_add, if_neg (by omega)]
    rfl
  rw [this]
  show (if v < lo ∨ hi < v then none else some v) = some v
  rw [if_neg (by omega)]
theorem bytS6 (f : List UInt8 → Option Int) (p : Nat) (vals : List (List Trm)) (c : Nat) (ks : List Nat) (s : Nat) : bytS f p (stm6 vals c ks s) = (numsF f (p : Int) (-1000000) 1000000 vals).bind fun zs => insB ⟨c, ks, s⟩ zs (p : Int) := rfl
theorem nums0 (f : List UInt8 → Option Int) (p lo hi : Int) : numsF f p lo hi [] = some [] := rfl
theorem nums1 {f : List UInt8 → Option Int} {p lo hi z : Int} {e : List Trm} (h : nmbF f p e lo hi = some z) : numsF f p lo hi [e] = some [z] := by
  rw [numsF_one, h]
  rfl
theorem nums2 {f : List UInt8 → Option Int} {p lo hi y z : Int} {e g : List Trm} (h : nmbF f p e lo hi = some y) (h2 : nmbF f p g lo hi = some z) : numsF f p lo hi [e, g] = some [y, z] := by
  have : numsF f p lo hi [e, g] = (nmbF f p e lo hi).bind fun z => (numsF f p lo hi [g]).map (z :: ·) := rfl
  rw [this, h, nums1 h2]
  rfl
theorem sm (f : List UInt8 → Option Int) (p v : Int) (h : -1000000 ≤ v ∧ v ≤ 1000000) : nmbF f p [nm v] (-1000000) 1000000 = some v := one_num f p _ _ v h h
theorem wrapI16 (n : Int) : IntKind.i16.wrap n = (n + 32768) % 65536 - 32768 := by
  simp [IntKind.wrap, IntKind.bits, IntKind.signed]
  split <;> omega
/-- The assembler that begins at a place. -/
def asmP (n : Nat) : Asm := { asm0 with pl := n }
theorem layB_zero (n : Nat) (h : n ≤ 1024) : layB n 0 = bF := by
  unfold layB bF
  simp only [List.replicate_zero, List.nil_append, Nat.sub_zero]
  rw [List.replicate_append_replicate, show n + (1024 - n) = 1024 by omega]
def txO (n : Nat) : ByteArray := ⟨#[111, 114, 103, 32]⟩ ++ decF 3 n
def orgS (n : Nat) : Stm := ⟨1, noB, [[nm (n : Int)]], ins0⟩
end Go.Proofs.YthokdbcpkmcieaaGreatDoor
namespace Go.Proofs.YthokdbcpkmcieaaGreatDoor
open Go Go.RowKit Go.Shelf Go.WideMaps Go.Maps
theorem ok_itB (t : Nat) (h : t < 8) : ItOk (itB t) := by
  refine okI_ok (List.all_eq_true.1 ok_base t (List.mem_range.2 h)) (fun f p _ _ => ?_)
  match t, h with
  | 0, _ => exact bytS6 f p [] 0 [] 1
  | 1, _ =>
    refine (bytS6 f p _ _ _ _).trans ?_
    rw [nums2 (sm f p 0 (by decide)) (sm f p 7 (by decide))]
    rfl
  | 2, _ =>
    refine (bytS6 f p _ _ _ _).trans ?_
    rw [nums1 (sm f p 3 (by decide))]
    show some [bits BinOp.or IntKind.u8 8 (IntKind.u8.wrap 3)] = some [11]
    rw [show bits BinOp.or IntKind.u8 8 (IntKind.u8.wrap 3) = 11 by decide]
  | 3, _ =>
    refine (bytS6 f p _ _ _ _).trans ?_
    rw [nums1 (sm f p 16 (by decide))]
    rfl
  | 4, _ =>
    refine (bytS6 f p _ _ _ _).trans ?_
    rw [nums1 (sm f p 0 (by decide))]
    rfl
  | 5, _ =>
    refine (bytS6 f p _ _ _ _).trans ?_
    rw [nums2 (sm f p 0 (by decide)) (sm f p 0 (by decide))]
    rfl
  | 6, _ =>
    refine (bytS6 f p _ _ _ _).trans ?_
    rw [nums2 (sm f p 0 (by decide)) (sm f p 1 (by decide))]
    show some [bits BinOp.or IntKind.u8 198 (IntKind.u8.wrap 1)] = some [199]
    rw [show bits BinOp.or IntKind.u8 198 (IntKind.u8.wrap 1) = 199 by decide]
  | 7, _ =>
    refine (bytS6 f p _ _ _ _).trans ?_
    rw [nums1 (sm f p 0 (by decide))]
    rfl
  | n + 8, h => exact absurd h (by omega)
theorem bh_is (p : Nat) (h : p ≤ 1000) : bhN (p : Int) ((2 : Nat) : Int) = (p : Int) + 2 := by
  unfold bhN
  rw [IntKind.wrap_u16, IntKind.wrap_u16, IntKind.wrap_u16]
  omega
theorem dist_is (p d : Int) (_ : 0 ≤ p) (_ : p ≤ 1000) (hd : -4 ≤ d ∧ d ≤ 4) (_ : 0 ≤ p + 2 + d) : distN (p + 2) (p + 2 + d) = d := by
  unfold distN
  rw [IntKind.wrap_u16, IntKind.wrap_u16, wrapI16]
  omega
theorem near_ok (p d : Int) (h0 : 0 ≤ p) (h : p ≤ 1000) (hd : -4 ≤ d ∧ d ≤ 4) (hq : 0 ≤ p + 2 + d) : (outB (p + 2 + d) 0 65535 || outB (distN (p + 2) (p + 2 + d)) (-128) 127) = false := by
  rw [dist_is p d h0 h hd hq]
  unfold outB
  simp
  omega
theorem ok_itS : ItOk itS := by
  refine okI_ok ok_sj (fun f p hp _ => ?_)
  refine (bytS6 f p _ _ _ _).trans ?_
  have hv : nmbF f (p : Int) [⟨false, noB, true, 0⟩, nm 4] (-1000000) 1000000 = some ((p : Int) + 2 + 2) := by
    unfold nmbF
    have h1 := valF_drop (nm := f) (pl := (p : Int)) (s := 0) (l := [⟨false, noB, true, 0⟩, nm 4]) (k := 0) (t := ⟨false, noB, true, 0⟩) rfl
    have h2 := valF_drop (nm := f) (pl := (p : Int)) (s := (p : Int)) (l := [⟨false, noB, true, 0⟩, nm 4]) (k := 1) (t := nm 4) rfl
    have e1 : trmN f (p : Int) ⟨false, noB, true, 0⟩ = (p : Int) := rfl
    have e2 : trmN f (p : Int) (nm 4) = 4 := rfl
    simp only [nm, Bool.false_eq_true, if_false] at h1 h2 e2
    rw [e1, Int.zero_add, if_neg (by omega)] at h1
    rw [e2, if_neg (by omega)] at h2
    rw [List.drop_zero] at h1
    simp only [nm]
    rw [h1, h2]
    show (if (p : Int) + 4 < -1000000 ∨ 1000000 < (p : Int) + 4 then none else some ((p : Int) + 4)) = _
    rw [if_neg (by omega), show (p : Int) + 4 = (p : Int) + 2 + 2 by omega]
  rw [nums1 hv]
  have hn := near_ok (p : Int) 2 (by omega) (by omega) (by omega) (by omega)
  have hd := dist_is (p : Int) 2 (by omega) (by omega) (by omega) (by omega)
  have hb := bh_is p hp
  show insB ⟨128, [15], 2⟩ [(p : Int) + 2 + 2] (p : Int) = some [128, 2]
  have e : bytesI ⟨128, [15], 2⟩ [(p : Int) + 2 + 2] (p : Int) = ⟨128, [IntKind.u8.wrap (distN (bhN (p : Int) ((2 : Nat) : Int)) ((p : Int) + 2 + 2))], (false || outB ((p : Int) + 2 + 2) 0 65535) || outB (distN (bhN (p : Int) ((2 : Nat) : Int)) ((p : Int) + 2 + 2)) (-128) 127⟩ := rfl
  unfold insB
  rw [e, hb, Bool.false_or, hn, hd]
  rfl
theorem or_216 (k : Nat) (h : k < 8) : bits BinOp.or IntKind.u8 216 (IntKind.u8.wrap (k : Int)) = 216 + (k : Int) := by
  have key : ∀ k : Fin 8, bits BinOp.or IntKind.u8 216 (IntKind.u8.wrap (k.val : Int)) = 216 + (k.val : Int) := by decide
  exact key ⟨k, h⟩
theorem lbD_ne (i : Nat) : lbD i ≠ noB := fun e => by
  have := congrArg ByteArray.size e
  unfold lbD at this
  rw [ByteArray.size_append] at this
  have h1 : (txB [76]).size = 1 := rfl
  have h2 : noB.size = 0 := rfl
  omega
theorem ok_itD (i k : Nat) (hi : i < 30) (hk : k < 8) : ItOk (itD i k) := by
  refine okI_ok (List.all_eq_true.1 (List.all_eq_true.1 ok_dj i (List.mem_range.2 hi)) k (List.mem_range.2 hk)) (fun f p hp hf => ?_)
  refine (bytS6 f p _ _ _ _).trans ?_
  have hf2 : f (lbD i).data.toList = some (p : Int) := hf (lbD_ne i)
  have hs : (lbD i).size ≠ 0 := fun e => by
    unfold lbD at e
    rw [ByteArray.size_append] at e
    have h1 : (txB [76]).size = 1 := rfl
    omega
  have hv : nmbF f (p : Int) [⟨false, lbD i, false, 0⟩] (-1000000) 1000000 = some ((p : Int) + 2 + -2) := by
    unfold nmbF
    have h1 := valF_drop (nm := f) (pl := (p : Int)) (s := 0) (l := [⟨false, lbD i, false, 0⟩]) (k := 0) (t := ⟨false, lbD i, false, 0⟩) rfl
    have e1 : trmN f (p : Int) ⟨false, lbD i, false, 0⟩ = (p : Int) := by
      unfold trmN
      rw [if_pos hs, hf2]
      rfl
    simp only [Bool.false_eq_true, if_false] at h1
    rw [e1, Int.zero_add, if_neg (by omega), List.drop_zero] at h1
    rw [h1]
    show (if (p : Int) < -1000000 ∨ 1000000 < (p : Int) then none else some (p : Int)) = _
    rw [if_neg (by omega), show (p : Int) + 2 + -2 = (p : Int) by omega]
  rw [nums2 (sm f p (k : Int) (by omega)) hv]
  have hn := near_ok (p : Int) (-2) (by omega) (by omega) (by omega) (by omega)
  have hd := dist_is (p : Int) (-2) (by omega) (by omega) (by omega) (by omega)
  have hb := bh_is p hp
  show insB ⟨216, [8, 15], 2⟩ [(k : Int), (p : Int) + 2 + -2] (p : Int) = some [216 + (k : Int), 254]
  have e : bytesI ⟨216, [8, 15], 2⟩ [(k : Int), (p : Int) + 2 + -2] (p : Int) = ⟨bits BinOp.or IntKind.u8 216 (IntKind.u8.wrap (k : Int)), [IntKind.u8.wrap (distN (bhN (p : Int) ((2 : Nat) : Int)) ((p : Int) + 2 + -2))], (false || outB ((p : Int) + 2 + -2) 0 65535) || outB (distN (bhN (p : Int) ((2 : Nat) : Int)) ((p : Int) + 2 + -2)) (-128) 127⟩ := rfl
  unfold insB
  rw [e, hb, Bool.false_or, hn, hd, or_216 k hk]
  rfl
end Go.Proofs.YthokdbcpkmcieaaGreatDoor
