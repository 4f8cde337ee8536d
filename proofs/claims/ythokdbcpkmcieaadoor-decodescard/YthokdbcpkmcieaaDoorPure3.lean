/- The plain part: the texts. -/
import Derived.Test.YthokdbcpkmcieaaDoorPure2
namespace Go.Proofs.YthokdbcpkmcieaaDoor
open Go Go.RowKit
theorem writ_shown (k : Nat) (h17 : k < 17) (c own number bh : Int) (b : ByteArray) (h78 : (k ≠ 7 ∧ k ≠ 8) ∨ (own = number ∧ 0 ≤ number ∧ number < 8)) (h16 : k = 16 → own = c / 32 * 32) (c0 : 0 ≤ c) (c1 : c ≤ 255) (b0 : 0 ≤ bh) (b1 : bh ≤ 65535) :
    writS ⟨k, opText k, own, addOf k b, bh⟩ = shownS k b number c bh := by
  have hbd0 := bAt_bd b 0
  have hbd1 := bAt_bd b 1
  have hor := or_bytes (bAt b 0) (bAt b 1) hbd0.1 hbd0.2 hbd1.1 hbd1.2
  match k, h17 with
  | 0, _ => rfl
  | 1, _ => rfl
  | 2, _ => rfl
  | 3, _ => rfl
  | 4, _ => rfl
  | 5, _ => rfl
  | 6, _ => rfl
  | 7, _ =>
    obtain ⟨rfl, n0, n1⟩ := h78.resolve_left (by omega)
    have key : ∀ n : Fin 8, opText 7 ++ itoaS (n.val : Int) = ⟨([64, 82, hd (n.val : Int)] : List UInt8).toArray⟩ := by decide +kernel
    obtain ⟨n, rfl⟩ := Int.eq_ofNat_of_zero_le n0
    exact key ⟨n, by omega⟩
  | 8, _ =>
    obtain ⟨rfl, n0, n1⟩ := h78.resolve_left (by omega)
    have key : ∀ n : Fin 8, opText 8 ++ itoaS (n.val : Int) = ⟨([82, hd (n.val : Int)] : List UInt8).toArray⟩ := by decide +kernel
    obtain ⟨n, rfl⟩ := Int.eq_ofNat_of_zero_le n0
    exact key ⟨n, by omega⟩
  | 9, _ => rfl
  | 10, _ =>
    show (⟨#[35, 48, 120, hd (bits BinOp.or IntKind.u16 (bAt b 0 * 256) (bAt b 1) / 4096), hd (bits BinOp.or IntKind.u16 (bAt b 0 * 256) (bAt b 1) / 256), hd (bits BinOp.or IntKind.u16 (bAt b 0 * 256) (bAt b 1) / 16), hd (bits BinOp.or IntKind.u16 (bAt b 0 * 256) (bAt b 1))]⟩ : ByteArray) = _
    rw [hor]; rfl
  | 11, _ => rfl
  | 12, _ => rfl
  | 13, _ => rfl
  | 14, _ =>
    show (⟨#[48, 120, hd (bits BinOp.or IntKind.u16 (bAt b 0 * 256) (bAt b 1) / 4096), hd (bits BinOp.or IntKind.u16 (bAt b 0 * 256) (bAt b 1) / 256), hd (bits BinOp.or IntKind.u16 (bAt b 0 * 256) (bAt b 1) / 16), hd (bits BinOp.or IntKind.u16 (bAt b 0 * 256) (bAt b 1))]⟩ : ByteArray) = _
    rw [hor]; rfl
  | 15, _ =>
    show (⟨#[48, 120, hd (nearN bh (bAt b 0) / 4096), hd (nearN bh (bAt b 0) / 256), hd (nearN bh (bAt b 0) / 16), hd (nearN bh (bAt b 0))]⟩ : ByteArray) = _
    rw [near_same bh (bAt b 0) hbd0.1 hbd0.2]; rfl
  | 16, _ =>
    show (⟨#[48, 120, hd (pageN bh own (bAt b 0) / 4096), hd (pageN bh own (bAt b 0) / 256), hd (pageN bh own (bAt b 0) / 16), hd (pageN bh own (bAt b 0))]⟩ : ByteArray) = _
    rw [h16 rfl, page_same bh c (bAt b 0) b0 b1 c0 c1 hbd0.1 hbd0.2]; rfl
  | n + 17, h => exact absurd h (by omega)
theorem addOf_bd (k : Nat) (b : ByteArray) : 0 ≤ addOf k b ∧ addOf k b ≤ 65535 := by
  unfold addOf
  split
  · omega
  · split
    · exact bounds_u16 (wf_bits _ _ _ _)
    · have := bAt_bd b 0; omega
theorem okKind_of (c : Int) (k : Nat) (h : okKind c k = true) (hn : 0 ≤ numOf c) : k < 17 ∧ ((k ≠ 7 ∧ k ≠ 8) ∨ (ownOf c = numOf c ∧ 0 ≤ numOf c ∧ numOf c < 8)) ∧ (k = 16 → ownOf c = c / 32 * 32) := by
  simp only [okKind, Bool.and_eq_true, decide_eq_true_eq, Bool.or_eq_true] at h
  refine ⟨h.1.1, ?_, fun e => ?_⟩
  · rcases h.1.2 with h | h
    · exact .inl h
    · exact .inr ⟨h.1, hn, h.2⟩
  · rcases h.2 with h | h
    · exact absurd e h
    · exact h
theorem join_text (nm x : ByteArray) : (nm ++ ⟨#[32]⟩) ++ ⟨(Lib.join [x.data.toList] [44]).toArray⟩ = (nm ++ ⟨#[32]⟩) ++ x := by
  apply ba_ext
  simp [ByteArray.data_append, Lib.join, List.intercalate]
theorem join_text2 (nm x y : ByteArray) : (nm ++ ⟨#[32]⟩) ++ ⟨(Lib.join [x.data.toList, y.data.toList] [44]).toArray⟩ = (((nm ++ ⟨#[32]⟩) ++ x) ++ ⟨#[44]⟩) ++ y := by
  apply ba_ext
  simp [ByteArray.data_append, Lib.join, List.intercalate]
theorem join_text3 (nm x y z : ByteArray) : (nm ++ ⟨#[32]⟩) ++ ⟨(Lib.join [x.data.toList, y.data.toList, z.data.toList] [44]).toArray⟩ = (((((nm ++ ⟨#[32]⟩) ++ x) ++ ⟨#[44]⟩) ++ y) ++ ⟨#[44]⟩) ++ z := by
  apply ba_ext
  simp [ByteArray.data_append, Lib.join, List.intercalate]
/-- The whole line, out of what is the same operand by operand. -/
theorem line_same (nm : ByteArray) (own : Int) (ks : List Nat) (code : ByteArray) (number c bh : Int) (n0 : 1 ≤ ks.length) (n1 : ks.length ≤ 3)
    (hw : ∀ j, j < ks.length → writS ((opA own ks code ks.length j).at bh) = shownS (ks.getD j 0) (code.extract (posAt ks j) (posAt ks j + opSize (ks.getD j 0))) number c bh) :
    (nm ++ ⟨#[32]⟩) ++ ⟨(Lib.join ((lAt own ks code ks.length).map fun o => (writS (o.at bh)).data.toList) [44]).toArray⟩ = refS nm ks code number c bh ks.length := by
  have hm : (lAt own ks code ks.length).map (fun o => (writS (o.at bh)).data.toList) = (List.range ks.length).map fun j => (shownS (ks.getD j 0) (code.extract (posAt ks j) (posAt ks j + opSize (ks.getD j 0))) number c bh).data.toList := by
    unfold lAt
    rw [List.map_map]
    apply List.map_congr_left
    intro j hj
    have hj' : j < ks.length := by simpa using hj
    simp only [Function.comp]
    rw [hw j hj']
  rw [hm]
  match hL : ks.length, n0, n1 with
  | 1, _, _ => exact join_text nm _
  | 2, _, _ => exact join_text2 nm _ _
  | 3, _, _ => exact join_text3 nm _ _ _
end Go.Proofs.YthokdbcpkmcieaaDoor
