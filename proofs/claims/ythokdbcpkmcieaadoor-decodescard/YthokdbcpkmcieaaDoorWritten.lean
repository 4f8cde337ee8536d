/- Walks of the ways in which an operand is written. -/
import Derived.Test.YthokdbcpkmcieaaDoorHex
import Derived.Test.YthokdbcpkmcieaaDoorShelf
import Derived.OpenShut
import Derived.BigQuiet
import Derived.Deep.QuietTactic
namespace Go.Proofs.YthokdbcpkmcieaaDoor
open Go.RowKit
/-- An operand as a value. -/
abbrev opv (k : Int) (s : ByteArray) (b a h : Int) : Value := .agg #[.int .i64 k, .string s, .int .u8 b, .int .u16 a, .int .u16 h]
set_option maxHeartbeats 400000 in
theorem itself_any (k : Int) (s : ByteArray) (b a h : Int) (w : World) :
    Calls Tryd.prog 28 #[.agg #[.int .i64 k, .string s, .int .u8 b, .int .u16 a, .int .u16 h]] w fun e w' => e = .returned (.string s) ∧ Below w.heap.size w w' := by
  go_enter Tryd.func28, Tryd.ntmps28
  go_wp2
  go_ret
  exact ⟨rfl, (Below.refl _ _).alloc (Nat.le_refl _) _⟩
set_option maxHeartbeats 400000 in
theorem asByte_any (k : Int) (s : ByteArray) (b a h : Int) (w : World) (h0 : 0 ≤ a) (h1 : a ≤ 65535) :
    Calls Tryd.prog 38 #[.agg #[.int .i64 k, .string s, .int .u8 b, .int .u16 a, .int .u16 h]] w fun e w' => e = .returned (.string ⟨#[48, 120, hd (a / 16), hd a]⟩) ∧ Below w.heap.size w w' := by
  go_enter Tryd.func38, Tryd.ntmps38
  go_wp2_with (go_at_call 57; refine (hex2_any _ h0 h1 _).mono ?_; rintro e w1 ⟨rfl, hb⟩)
  go_ret
  exact ⟨ret_str (ba_append _ _), ((Below.refl _ _).alloc (Nat.le_refl _) _).trans (hb.mono (by simp))⟩
set_option maxHeartbeats 400000 in
theorem asWord_any (k : Int) (s : ByteArray) (b a h : Int) (w : World) (h0 : 0 ≤ a) (h1 : a ≤ 65535) :
    Calls Tryd.prog 41 #[.agg #[.int .i64 k, .string s, .int .u8 b, .int .u16 a, .int .u16 h]] w fun e w' => e = .returned (.string ⟨#[48, 120, hd (a / 4096), hd (a / 256), hd (a / 16), hd a]⟩) ∧ Below w.heap.size w w' := by
  go_enter Tryd.func41, Tryd.ntmps41
  go_wp2_with (go_at_call 57; refine (hex4_any _ h0 h1 _).mono ?_; rintro e w1 ⟨rfl, hb⟩)
  go_ret
  exact ⟨ret_str (ba_append _ _), ((Below.refl _ _).alloc (Nat.le_refl _) _).trans (hb.mono (by simp))⟩
set_option maxHeartbeats 400000 in
theorem byteBehindHash_any (k : Int) (s : ByteArray) (b a h : Int) (w : World) (h0 : 0 ≤ a) (h1 : a ≤ 65535) :
    Calls Tryd.prog 33 #[.agg #[.int .i64 k, .string s, .int .u8 b, .int .u16 a, .int .u16 h]] w fun e w' => e = .returned (.string ⟨#[35, 48, 120, hd (a / 16), hd a]⟩) ∧ Below w.heap.size w w' := by
  go_enter Tryd.func33, Tryd.ntmps33
  go_wp2_with (go_at_call 38; refine (asByte_any _ _ _ _ _ _ h0 h1).mono ?_; rintro e w1 ⟨rfl, hb⟩)
  go_ret
  exact ⟨ret_str (ba_append _ _), ((Below.refl _ _).alloc (Nat.le_refl _) _).trans (hb.mono (by simp))⟩
set_option maxHeartbeats 400000 in
theorem byteBehindSlash_any (k : Int) (s : ByteArray) (b a h : Int) (w : World) (h0 : 0 ≤ a) (h1 : a ≤ 65535) :
    Calls Tryd.prog 39 #[.agg #[.int .i64 k, .string s, .int .u8 b, .int .u16 a, .int .u16 h]] w fun e w' => e = .returned (.string ⟨#[47, 48, 120, hd (a / 16), hd a]⟩) ∧ Below w.heap.size w w' := by
  go_enter Tryd.func39, Tryd.ntmps39
  go_wp2_with (go_at_call 38; refine (asByte_any _ _ _ _ _ _ h0 h1).mono ?_; rintro e w1 ⟨rfl, hb⟩)
  go_ret
  exact ⟨ret_str (ba_append _ _), ((Below.refl _ _).alloc (Nat.le_refl _) _).trans (hb.mono (by simp))⟩
set_option maxHeartbeats 400000 in
theorem wordBehindHash_any (k : Int) (s : ByteArray) (b a h : Int) (w : World) (h0 : 0 ≤ a) (h1 : a ≤ 65535) :
    Calls Tryd.prog 36 #[.agg #[.int .i64 k, .string s, .int .u8 b, .int .u16 a, .int .u16 h]] w fun e w' => e = .returned (.string ⟨#[35, 48, 120, hd (a / 4096), hd (a / 256), hd (a / 16), hd a]⟩) ∧ Below w.heap.size w w' := by
  go_enter Tryd.func36, Tryd.ntmps36
  go_wp2_with (go_at_call 41; refine (asWord_any _ _ _ _ _ _ h0 h1).mono ?_; rintro e w1 ⟨rfl, hb⟩)
  go_ret
  exact ⟨ret_str (ba_append _ _), ((Below.refl _ _).alloc (Nat.le_refl _) _).trans (hb.mono (by simp))⟩
/-- The near place and the place in the page, as the program reckons them. -/
def nearN (h a : Int) : Int := IntKind.u16.wrap (h + IntKind.u16.wrap (IntKind.i8.wrap a))
def pageN (h b a : Int) : Int := bits BinOp.or IntKind.u16 (bits BinOp.or IntKind.u16 (bits BinOp.and IntKind.u16 h 63488) (IntKind.u16.wrap (IntKind.u16.wrap b * 8))) a
theorem wrap_u16_bd (x : Int) : 0 ≤ IntKind.u16.wrap x ∧ IntKind.u16.wrap x ≤ 65535 := bounds_u16 (wf_wrap _ _)
theorem nearN_bd (h a : Int) : 0 ≤ nearN h a ∧ nearN h a ≤ 65535 := wrap_u16_bd _
theorem pageN_bd (h b a : Int) : 0 ≤ pageN h b a ∧ pageN h b a ≤ 65535 := bounds_u16 (wf_bits _ _ _ _)
set_option maxHeartbeats 400000 in
theorem nearPlace_any (k : Int) (s : ByteArray) (b a h : Int) (w : World) :
    Calls Tryd.prog 43 #[.agg #[.int .i64 k, .string s, .int .u8 b, .int .u16 a, .int .u16 h]] w fun e w' => e = .returned (.string ⟨#[48, 120, hd (nearN h a / 4096), hd (nearN h a / 256), hd (nearN h a / 16), hd (nearN h a)]⟩) ∧ Below w.heap.size w w' := by
  have hb := nearN_bd h a
  have HX : Hid (IntKind.u16.wrap (h + IntKind.u16.wrap (IntKind.i8.wrap a)) = nearN h a) := rfl
  generalize nearN h a = x at *
  go_enter Tryd.func43, Tryd.ntmps43
  go_wp2_with fail
  rw [HX.out]
  refine (hex4_any x hb.1 hb.2 _).mono ?_
  rintro e w1 ⟨rfl, hb1⟩
  go_wp2
  go_ret
  exact ⟨ret_str (ba_append _ _), ((Below.refl _ _).alloc (Nat.le_refl _) _).trans (hb1.mono (by simp))⟩
set_option maxHeartbeats 400000 in
theorem placeInPage_any (k : Int) (s : ByteArray) (b a h : Int) (w : World) :
    Calls Tryd.prog 45 #[.agg #[.int .i64 k, .string s, .int .u8 b, .int .u16 a, .int .u16 h]] w fun e w' => e = .returned (.string ⟨#[48, 120, hd (pageN h b a / 4096), hd (pageN h b a / 256), hd (pageN h b a / 16), hd (pageN h b a)]⟩) ∧ Below w.heap.size w w' := by
  have hb := pageN_bd h b a
  have HX : Hid (bits BinOp.or IntKind.u16 (bits BinOp.or IntKind.u16 (bits BinOp.and IntKind.u16 h 63488) (IntKind.u16.wrap (IntKind.u16.wrap b * 8))) a = pageN h b a) := rfl
  generalize pageN h b a = x at *
  go_enter Tryd.func45, Tryd.ntmps45
  go_wp2_with fail
  rw [HX.out]
  refine (hex4_any x hb.1 hb.2 _).mono ?_
  rintro e w1 ⟨rfl, hb1⟩
  go_wp2
  go_ret
  exact ⟨ret_str (ba_append _ _), ((Below.refl _ _).alloc (Nat.le_refl _) _).trans (hb1.mono (by simp))⟩
theorem wrap_i64 (b : Int) (h0 : 0 ≤ b) (h1 : b < 1000000) : IntKind.i64.wrap b = b := wrap_small b h0 (by omega)
/-- A small number in decimal digits. -/
def itoaS (b : Int) : ByteArray := ⟨(Lib.decDigits b.toNat).toArray⟩
theorem itoaS_size (b : Int) (h0 : 0 ≤ b) (h1 : b < 100) : (itoaS b).size ≤ 100 := by
  have key : ∀ n : Fin 100, (Lib.decDigits n.val).length ≤ 100 := by decide +kernel
  have := key ⟨b.toNat, by omega⟩
  simpa [itoaS, ByteArray.size] using this
theorem itoa_w (b : Int) (h0 : 0 ≤ b) (h1 : b < 100) (w : World) :
    Calls Tryd.prog 53 #[.int .i64 (IntKind.i64.wrap b)] w fun e w' => e = .returned (.string (itoaS b)) ∧ w' = w := by
  rw [wrap_i64 b h0 (by omega)]
  obtain ⟨n, rfl⟩ := Int.eq_ofNat_of_zero_le h0
  exact Tryd.strconv_Itoa_small n (by omega) w
theorem itoa_int (b : Int) (h0 : 0 ≤ b) (h1 : b < 100) (w : World) :
    Calls Tryd.prog 53 #[.int .i64 b] w fun e w' => e = .returned (.string (itoaS b)) ∧ w' = w := by
  have h := itoa_w b h0 h1 w
  rw [wrap_i64 b h0 (by omega)] at h
  exact h
set_option maxHeartbeats 400000 in
theorem numbered_any (k : Int) (s : ByteArray) (b a h : Int) (w : World) (h0 : 0 ≤ b) (h1 : b < 100) (hs : s.size ≤ 1000) :
    Calls Tryd.prog 30 #[.agg #[.int .i64 k, .string s, .int .u8 b, .int .u16 a, .int .u16 h]] w fun e w' => e = .returned (.string (s ++ itoaS b)) ∧ Below w.heap.size w w' := by
  have hz := itoaS_size b h0 h1
  have hadd : ∀ w, (Op.stringOp .add s (itoaS b)).run Tryd.prog w = .ok (.string (s ++ itoaS b)) w := fun w => run_string_add_sum w _ _ (by omega)
  go_enter Tryd.func30, Tryd.ntmps30
  go_wp2
  go_quiet ((go_at_call 53; (first | exact Calls.quiet_of_same (itoa_int b h0 h1 _) | exact Calls.quiet_of_same (itoa_w b h0 h1 _))))
  go_wp2
  go_ret
  exact ⟨rfl, below_drewN ((Below.refl _ _).alloc (Nat.le_refl _) _) _⟩
end Go.Proofs.YthokdbcpkmcieaaDoor
