/- Ears and frames of the program: plain functions and walks. -/
import Derived.ProofKit
import Derived.WalkKit
import Derived.KernelRfl
import Derived.Test.YthokdbcpkmcieaaGreatProg
import Derived.BigQuiet
import Derived.Deep.QuietTactic
import Derived.BigRegion
import Derived.Laws.BitsAllLaws
import Derived.Laws.BitsLemmas
import Derived.Maps.AppendAt
import Derived.Deep.RegionLaw
import Derived.OwnWalk
import Derived.WalkSpells
import Derived.Laws.IdiomStrings
import Derived.ArgAppend
import Derived.Great.BuildSlice
import Derived.Deep.DeepCutAuto
import Derived.Laws.AppendOwnNone
namespace Go.Proofs.YthokdbcpkmcieaaGreat
/-- A number doubled, as the check does it. -/
def dblN (x : Nat) : Nat := if 32768 ≤ x then (x * 2 % 65536) ^^^ 4129 else x * 2
def dblT : Nat → Nat → Nat
  | 0, x => x
  | k + 1, x => dblN (dblT k x)
/-- One byte more. -/
def crcB (x : Nat) (b : UInt8) : Nat := dblT 8 (x ^^^ (b.toNat * 256))
/-- The check of bytes. -/
def crcN (l : List UInt8) : Nat := l.foldl crcB 65535
theorem dblN_lt {x : Nat} (h : x < 65536) : dblN x < 65536 := by
  unfold dblN
  split
  · exact Nat.xor_lt_two_pow (n := 16) (Nat.mod_lt _ (by decide)) (by decide)
  · omega
theorem dblT_lt {x : Nat} (h : x < 65536) : ∀ k, dblT k x < 65536
  | 0 => h
  | k + 1 => dblN_lt (dblT_lt h k)
theorem crcB_lt {x : Nat} (h : x < 65536) (b : UInt8) : crcB x b < 65536 := by
  unfold crcB
  exact dblT_lt (Nat.xor_lt_two_pow (n := 16) h (by have := b.toNat_lt; omega)) 8
theorem foldl_crc_lt (l : List UInt8) : ∀ x : Nat, x < 65536 → l.foldl crcB x < 65536 := by
  induction l with
  | nil => intro x h; rw [List.foldl_nil]; exact h
  | cons b l ih => intro x h; rw [List.foldl_cons]; exact ih _ (crcB_lt h b)
theorem crcN_lt (l : List UInt8) : crcN l < 65536 := foldl_crc_lt l _ (by decide)
theorem crcN_snoc (l : List UInt8) (b : UInt8) : crcN (l ++ [b]) = crcB (crcN l) b := by
  unfold crcN; rw [List.foldl_append, List.foldl_cons, List.foldl_nil]
/-- The check in two bytes. -/
def chkB (l : List UInt8) : List UInt8 := [UInt8.ofNat (crcN l / 256), UInt8.ofNat (crcN l % 256)]
def isB (b : UInt8) : Bool := b == 126 || b == 125
def esc1 (b : UInt8) : List UInt8 := if isB b = true then [125, b ^^^ 32] else [b]
def escL (l : List UInt8) : List UInt8 := l.flatMap esc1
theorem escL_snoc (l : List UInt8) (b : UInt8) : escL (l ++ [b]) = escL l ++ esc1 b := by unfold escL; rw [List.flatMap_append]; simp
theorem escL_len : ∀ l : List UInt8, (escL l).length ≤ 2 * l.length
  | [] => by simp [escL]
  | b :: l => by
    have h := escL_len l
    have : escL (b :: l) = esc1 b ++ escL l := rfl
    rw [this, List.length_append]
    have : (esc1 b).length ≤ 2 := by unfold esc1; split <;> simp
    simp; omega
/-- The frame of a message. -/
def frameF (m : List UInt8) : List UInt8 := 126 :: (escL (m ++ chkB m) ++ [126])
/-- An ear: its mode (0 it waits, 1 within, 2 behind a 125), and the bytes that it keeps. -/
structure EarS where
  mode : Nat
  ks : List UInt8
def keepF (s : EarS) (b : UInt8) : EarS := if s.ks.length = 82 then ⟨0, s.ks⟩ else ⟨s.mode, s.ks ++ [b]⟩
def takeF (s : EarS) (b : UInt8) : EarS :=
  if s.mode = 0 then s
  else if s.mode = 2 then (if isB (b ^^^ 32) = true then keepF ⟨1, s.ks⟩ (b ^^^ 32) else ⟨0, s.ks⟩)
  else if b = 125 then ⟨2, s.ks⟩ else keepF s b
/-- Bytes with their check at the end. -/
def hasC (l : List UInt8) : Bool := decide (3 ≤ l.length) && decide (crcN (l.take (l.length - 2)) = (l.getD (l.length - 2) 0).toNat * 256 + (l.getD (l.length - 1) 0).toNat)
def wholeF (s : EarS) : Bool := decide (s.mode = 1) && hasC s.ks
def hearB (p : EarS × List (List UInt8)) (b : UInt8) : EarS × List (List UInt8) :=
  if b = 126 then (⟨1, []⟩, if wholeF p.1 = true then p.2 ++ [p.1.ks.take (p.1.ks.length - 2)] else p.2) else (takeF p.1 b, p.2)
/-- What an ear hears. -/
def hearF (s : EarS) (l : List UInt8) : EarS × List (List UInt8) := l.foldl hearB (s, [])
structure EarOk (s : EarS) : Prop where
  mode : s.mode ≤ 2
  len : s.ks.length ≤ 82
theorem keepF_ok {s : EarS} (h : EarOk s) (b : UInt8) : EarOk (keepF s b) := by
  unfold keepF
  split
  · exact ⟨Nat.zero_le _, h.len⟩
  · exact ⟨h.mode, by have := h.len; simp; omega⟩
theorem takeF_ok {s : EarS} (h : EarOk s) (b : UInt8) : EarOk (takeF s b) := by
  unfold takeF
  split
  · exact h
  · split
    · split
      · exact keepF_ok (s := ⟨1, s.ks⟩) ⟨(by decide : 1 ≤ 2), h.len⟩ _
      · exact ⟨Nat.zero_le _, h.len⟩
    · split
      · exact ⟨Nat.le_refl _, h.len⟩
      · exact keepF_ok h b
theorem hearB_ok {p : EarS × List (List UInt8)} (h : EarOk p.1) (b : UInt8) : EarOk (hearB p b).1 := by
  unfold hearB
  split
  · exact ⟨(by decide : 1 ≤ 2), by simp⟩
  · exact takeF_ok h b
theorem foldl_ok : ∀ (l : List UInt8) {p : EarS × List (List UInt8)}, EarOk p.1 → EarOk (l.foldl hearB p).1
  | [], _, h => h
  | b :: l, _, h => foldl_ok l (hearB_ok h b)
theorem hearF_ok {s : EarS} (h : EarOk s) (l : List UInt8) : EarOk (hearF s l).1 := foldl_ok l h
theorem hearB_out (s : EarS) (o : List (List UInt8)) (b : UInt8) : hearB (s, o) b = ((hearB (s, []) b).1, o ++ (hearB (s, []) b).2) := by
  unfold hearB
  split
  · by_cases h : wholeF s = true <;> simp [h]
  · simp
theorem foldl_out : ∀ (l : List UInt8) (s : EarS) (o : List (List UInt8)), l.foldl hearB (s, o) = ((hearF s l).1, o ++ (hearF s l).2)
  | [], s, o => by simp [hearF]
  | b :: l, s, o => by
    unfold hearF
    simp only [List.foldl_cons]
    rw [hearB_out, foldl_out l _ _]
    have e : hearB (s, []) b = ((hearB (s, []) b).1, (hearB (s, []) b).2) := rfl
    rw [e, foldl_out l (hearB (s, []) b).1 (hearB (s, []) b).2]
    simp
theorem hearF_append (s : EarS) (a b : List UInt8) : hearF s (a ++ b) = ((hearF (hearF s a).1 b).1, (hearF s a).2 ++ (hearF (hearF s a).1 b).2) := by
  unfold hearF
  rw [List.foldl_append]
  have e : a.foldl hearB (s, []) = ((hearF s a).1, (hearF s a).2) := rfl
  rw [e, foldl_out]
  rfl
theorem hearF_snoc (s : EarS) (a : List UInt8) (b : UInt8) : hearF s (a ++ [b]) = hearB (hearF s a) b := by
  unfold hearF
  rw [List.foldl_append]; rfl
theorem hearF_count (s : EarS) : ∀ (l : List UInt8), (hearF s l).2.length ≤ l.length := by
  have key : ∀ (l : List UInt8) (p : EarS × List (List UInt8)), (l.foldl hearB p).2.length ≤ p.2.length + l.length := by
    intro l
    induction l with
    | nil => intro p; simp
    | cons b l ih =>
      intro p
      simp only [List.foldl_cons, List.length_cons]
      have h := ih (hearB p b)
      have : (hearB p b).2.length ≤ p.2.length + 1 := by
        unfold hearB
        split
        · split <;> simp
        · simp
      omega
  intro l
  have := key l (s, [])
  unfold hearF
  simpa using this
/-- Within a frame: what was written is kept. -/
theorem hear_esc1 (s : EarS) (o : List (List UInt8)) (b : UInt8) (hm : s.mode = 1) (hl : s.ks.length < 82) : (esc1 b).foldl hearB (s, o) = (⟨1, s.ks ++ [b]⟩, o) := by
  obtain ⟨m, ks⟩ := s
  simp only at hm hl
  subst hm
  have hne : ¬ ks.length = 82 := by omega
  unfold esc1
  by_cases hb : isB b = true
  · rw [if_pos hb]
    have hx : ¬ (b ^^^ 32) = 126 := by
      unfold isB at hb
      simp at hb
      rcases hb with rfl | rfl <;> decide
    have hxx : (b ^^^ 32) ^^^ 32 = b := by
      unfold isB at hb
      simp at hb
      rcases hb with rfl | rfl <;> decide
    simp [List.foldl_cons, hearB, takeF, hx, hxx, hb, keepF, hne]
  · rw [if_neg hb]
    have h126 : ¬ b = 126 := fun e => hb (by subst e; decide)
    have h125 : ¬ b = 125 := fun e => hb (by subst e; decide)
    simp [List.foldl_cons, hearB, takeF, h126, h125, keepF, hne]
theorem hear_escL (o : List (List UInt8)) : ∀ (l ks : List UInt8), ks.length + l.length ≤ 82 → (escL l).foldl hearB (⟨1, ks⟩, o) = (⟨1, ks ++ l⟩, o)
  | [], ks, _ => by simp [escL]
  | b :: l, ks, h => by
    have e : escL (b :: l) = esc1 b ++ escL l := rfl
    simp at h
    rw [e, List.foldl_append, hear_esc1 ⟨1, ks⟩ o b rfl (by simp; omega), hear_escL o l _ (by simp; omega)]
    simp
theorem chkB_has (m : List UInt8) (h : m ≠ []) : hasC (m ++ chkB m) = true := by
  unfold hasC
  have hl : (m ++ chkB m).length = m.length + 2 := by simp [chkB]
  have hp : 0 < m.length := by cases m with
    | nil => exact absurd rfl h
    | cons _ _ => simp
  have hc := crcN_lt m
  rw [hl]
  simp only [Bool.and_eq_true, decide_eq_true_eq]
  refine ⟨by omega, ?_⟩
  rw [show m.length + 2 - 2 = m.length by omega, show m.length + 2 - 1 = m.length + 1 by omega, List.take_left]
  have e1 : (m ++ chkB m).getD m.length 0 = UInt8.ofNat (crcN m / 256) := by simp [chkB, List.getD_eq_getElem?_getD]
  have e2 : (m ++ chkB m).getD (m.length + 1) 0 = UInt8.ofNat (crcN m % 256) := by
    simp only [List.getD_eq_getElem?_getD]
    rw [List.getElem?_append_right (by omega)]
    simp [chkB]
  rw [e1, e2]
  have h1 : (UInt8.ofNat (crcN m / 256)).toNat = crcN m / 256 := by rw [UInt8.toNat_ofNat']; omega
  have h2 : (UInt8.ofNat (crcN m % 256)).toNat = crcN m % 256 := by rw [UInt8.toNat_ofNat']; omega
  rw [h1, h2]
  omega
/-- The frame's tail gives the message, where a 126 has been heard. -/
theorem hear_tail (m : List UInt8) (h1 : m ≠ []) (h2 : m.length ≤ 80) : hearF ⟨1, []⟩ (escL (m ++ chkB m) ++ [126]) = (⟨1, []⟩, [m]) := by
  have hl : (m ++ chkB m).length = m.length + 2 := by simp [chkB]
  have e : hearF ⟨1, []⟩ (escL (m ++ chkB m)) = (⟨1, m ++ chkB m⟩, []) := by
    have := hear_escL [] (m ++ chkB m) [] (by simp [chkB]; omega)
    simpa [hearF] using this
  rw [hearF_snoc, e]
  have hh := chkB_has m h1
  unfold hearB
  rw [if_pos rfl]
  have hw : wholeF ⟨1, m ++ chkB m⟩ = true := by unfold wholeF; simp [hh]
  rw [if_pos hw]
  simp [hl]
theorem hear_126 : hearF ⟨1, []⟩ [126] = (⟨1, []⟩, []) := by simp [hearF, hearB, wholeF, hasC]
theorem hear_126any (s : EarS) : (hearF s [126]).1 = ⟨1, []⟩ := by simp [hearF, hearB]
/-- Two frames with one 126 between them. -/
theorem hear_two (m : List UInt8) (h1 : m ≠ []) (h2 : m.length ≤ 80) : (hearF ⟨1, []⟩ (frameF m ++ (frameF m).tail)).2 = [m, m] := by
  have e : frameF m ++ (frameF m).tail = [126] ++ ((escL (m ++ chkB m) ++ [126]) ++ (escL (m ++ chkB m) ++ [126])) := by simp [frameF]
  rw [e, hearF_append, hear_126]
  simp only
  rw [hearF_append, hear_tail m h1 h2]
  simp only
  rw [hear_tail m h1 h2]
  rfl
end Go.Proofs.YthokdbcpkmcieaaGreat
namespace Go.Proofs.YthokdbcpkmcieaaGreat
open Go Go.RowKit
theorem hideIt {p : Prop} (h : p) : Hid p := h
/-- The operations one after the other, as long as each gives a value. -/
def runOps (P : Program) (ops : Array Oper) : List Oper → Act → World → Option (Act × World)
  | [], a, w => some (a, w)
  | o :: rest, a, w =>
    match Region.wanted o (yielded ops a.tmps) with
    | true => match (execOp a.eval o).run P w with
      | .ok (.value v) w' => runOps P ops rest (a.put o.dst v) w'
      | .ok .skip w' => runOps P ops rest (a.put o.dst undef) w'
      | _ => none
    | false => runOps P ops rest (a.put o.dst undef) w
theorem wpList_run {P : Program} {ops : Array Oper} {Q : Exit → Act → World → Prop} : ∀ (l : List Oper) (a : Act) (w : World) (a' : Act) (w' : World), runOps P ops l a w = some (a', w') → Q .normal a' w' → wpList P ops Q l a w
  | [], a, w, a', w', h, hq => by
    simp only [runOps, Option.some.injEq, Prod.mk.injEq] at h
    obtain ⟨rfl, rfl⟩ := h
    exact hq
  | o :: rest, a, w, a', w', h, hq => by
    unfold wpList
    unfold runOps at h
    cases hw : Region.wanted o (yielded ops a.tmps) with
    | true =>
      rw [hw] at h
      simp only at h
      rw [if_pos rfl]
      refine .inl ?_
      unfold Oper.wp
      cases hr : (execOp a.eval o).run P w with
      | ok n w1 =>
        rw [hr] at h
        cases n with
        | value v => exact wpList_run rest _ _ a' w' h hq
        | skip => exact wpList_run rest _ _ a' w' h hq
        | _ => simp at h
      | halt x w1 => rw [hr] at h; simp at h
    | false =>
      rw [hw] at h
      simp only at h
      rw [if_neg (by simp)]
      exact wpList_run rest _ _ a' w' h hq
/-- Straight code: regions of a fixed order, one after the other, up to the return. -/
def runCode (P : Program) : Code → Act → World → Option (Bool × Act × World)
  | .seq x y, a, w => match runCode P x a w with
    | some (false, a', w') => runCode P y a' w'
    | r => r
  | .region _ ops false, a, w => match runOps P ops ops.toList a w with
    | some (a', w') => some (false, a', w')
    | none => none
  | .skip, a, w => some (false, a, w)
  | .ret, a, w => some (true, a, w)
  | _, _, _ => none
theorem wp_run {P : Program} {Q : Exit → Act → World → Prop} : ∀ (c : Code) (a : Act) (w : World) (b : Bool) (a' : Act) (w' : World), runCode P c a w = some (b, a', w') → Q (match b with | true => .ret | false => .normal) a' w' → c.wp P Q a w
  | .seq x y, a, w, b, a', w', h, hq => by
    unfold runCode at h
    refine wp_seq ?_
    cases hx : runCode P x a w with
    | none => rw [hx] at h; simp at h
    | some r =>
      obtain ⟨b1, a1, w1⟩ := r
      rw [hx] at h
      cases b1 with
      | false => exact wp_run x a w false a1 w1 hx (wp_run y a1 w1 b a' w' h hq)
      | true =>
        simp only [Option.some.injEq, Prod.mk.injEq] at h
        obtain ⟨rfl, rfl, rfl⟩ := h
        exact wp_run x a w true _ _ hx hq
  | .region i ops false, a, w, b, a', w', h, hq => by
    unfold runCode at h
    refine wp_region_list ?_
    cases hx : runOps P ops ops.toList a w with
    | none => rw [hx] at h; simp at h
    | some r =>
      rw [hx] at h
      simp only [Option.some.injEq, Prod.mk.injEq] at h
      obtain ⟨rfl, rfl, rfl⟩ := h
      exact wpList_run _ a w r.1 r.2 hx hq
  | .skip, a, w, b, a', w', h, hq => by
    simp only [runCode, Option.some.injEq, Prod.mk.injEq] at h
    obtain ⟨rfl, rfl, rfl⟩ := h
    exact wp_skip hq
  | .ret, a, w, b, a', w', h, hq => by
    simp only [runCode, Option.some.injEq, Prod.mk.injEq] at h
    obtain ⟨rfl, rfl, rfl⟩ := h
    exact wp_ret hq
  | .region _ _ true, _, _, _, _, _, h, _ => by simp [runCode] at h
  | .cond .., _, _, _, _, _, h, _ => by simp [runCode] at h
  | .block .., _, _, _, _, _, h, _ => by simp [runCode] at h
  | .loop .., _, _, _, _, _, h, _ => by simp [runCode] at h
  | .rangeFunc .., _, _, _, _, _, h, _ => by simp [runCode] at h
  | .exit .., _, _, _, _, _, h, _ => by simp [runCode] at h
  | .scope .., _, _, _, _, _, h, _ => by simp [runCode] at h
  | .label .., _, _, _, _, _, h, _ => by simp [runCode] at h
  | .goto .., _, _, _, _, _, h, _ => by simp [runCode] at h
  | .refuse .., _, _, _, _, _, h, _ => by simp [runCode] at h
/-- A function of straight code, called: what it returns and the world behind it, by a run. -/
theorem calls_run {P : Program} {f : FuncId} {fn : Func} {c : Code} {args : Array Value} {w : World} {R : Ending → World → Prop} (v : Value) (w' : World)
    (hf : P.funcs[f]? = some fn) (hb : fn.body = some c)
    (h : ((runCode P c { tmps := args ++ Array.replicate (fn.ntmps - args.size) undef, defers := [] } w).bind fun p => match p.2.1.defers, (results fn p.2.1.tmps).run P p.2.2 with
      | [], .ok v w2 => some (v, w2, p.2.2)
      | _, _ => none) = some (v, w', w'))
    (hR : R (.returned v) w') : Calls P f args w R := by
  refine calls_of_wp hf hb ?_
  cases hr : runCode P c { tmps := args ++ Array.replicate (fn.ntmps - args.size) undef, defers := [] } w with
  | none => rw [hr] at h; simp at h
  | some p =>
    obtain ⟨b, a1, w1⟩ := p
    rw [hr] at h
    simp only [Option.bind_some] at h
    cases hd : a1.defers with
    | cons d ds => rw [hd] at h; simp at h
    | nil =>
      rw [hd] at h
      cases hs : (results fn a1.tmps).run P w1 with
      | halt x w2 => rw [hs] at h; simp at h
      | ok v2 w2 =>
        rw [hs] at h
        simp only [Option.some.injEq, Prod.mk.injEq] at h
        obtain ⟨rfl, rfl, rfl⟩ := h
        refine wp_run c _ _ b a1 _ hr ?_
        cases b with
        | true => exact ⟨hd, _, hs, hR⟩
        | false => exact ⟨hd, _, hs, hR⟩
end Go.Proofs.YthokdbcpkmcieaaGreat
namespace Go.Proofs.YthokdbcpkmcieaaGreat
open Go Go.RowKit
theorem xor_u16 (a b : Nat) (ha : a < 65536) (hb : b < 65536) : bits .xor .u16 (a : Int) (b : Int) = ((a ^^^ b : Nat) : Int) := by
  have hx : a ^^^ b < 2 ^ 16 := Nat.xor_lt_two_pow (by omega) (by omega)
  have h1 : (BitVec.ofInt 16 (a : Int)).toNat = a := by
    rw [BitVec.ofInt_natCast, BitVec.toNat_ofNat]; exact Nat.mod_eq_of_lt (by omega)
  have h2 : (BitVec.ofInt 16 (b : Int)).toNat = b := by
    rw [BitVec.ofInt_natCast, BitVec.toNat_ofNat]; exact Nat.mod_eq_of_lt (by omega)
  show IntKind.u16.wrap ((BitVec.ofInt 16 (a : Int) ^^^ BitVec.ofInt 16 (b : Int)).toNat : Int) = _
  rw [BitVec.toNat_xor, h1, h2, IntKind.wrap_u16]
  omega
theorem xor_u8 (a b : Nat) (ha : a < 256) (hb : b < 256) : bits .xor .u8 (a : Int) (b : Int) = ((a ^^^ b : Nat) : Int) := by
  have hx : a ^^^ b < 2 ^ 8 := Nat.xor_lt_two_pow (by omega) (by omega)
  have h1 : (BitVec.ofInt 8 (a : Int)).toNat = a := by
    rw [BitVec.ofInt_natCast, BitVec.toNat_ofNat]; exact Nat.mod_eq_of_lt (by omega)
  have h2 : (BitVec.ofInt 8 (b : Int)).toNat = b := by
    rw [BitVec.ofInt_natCast, BitVec.toNat_ofNat]; exact Nat.mod_eq_of_lt (by omega)
  show IntKind.u8.wrap ((BitVec.ofInt 8 (a : Int) ^^^ BitVec.ofInt 8 (b : Int)).toNat : Int) = _
  rw [BitVec.toNat_xor, h1, h2, IntKind.wrap_u8]
  omega
theorem xor_byte (b : UInt8) : bits .xor .u8 (b.toNat : Int) 32 = ((b ^^^ 32).toNat : Int) := by
  have := xor_u8 b.toNat 32 b.toNat_lt (by decide)
  rw [UInt8.toNat_xor]
  exact this
set_option maxHeartbeats 400000 in
theorem doubled_any (x : Nat) (hx : x < 65536) (w : World) :
    Calls Tryz.prog 134 #[.int .u16 x] w fun e w' => e = .returned (.int .u16 (dblN x)) ∧ w' = w := by
  by_cases h : 32768 ≤ x
  · have h1 : (32768 : Int) ≤ (x : Int) := by omega
    have e : ((dblN x : Nat) : Int) = bits BinOp.xor IntKind.u16 (IntKind.u16.wrap ((x : Int) * 2)) 4129 := by
      have := xor_u16 (x * 2 % 65536) 4129 (Nat.mod_lt _ (by decide)) (by decide)
      rw [IntKind.wrap_u16, show ((x : Int) * 2 % 65536) = ((x * 2 % 65536 : Nat) : Int) by omega]
      unfold dblN
      rw [if_pos h]
      exact this.symm
    rw [e]
    go_enter Tryz.func134, Tryz.ntmps134
    go_wp2
    go_ret
    exact ⟨rfl, rfl⟩
  · have h1 : ¬ (32768 : Int) ≤ (x : Int) := by omega
    have e : ((dblN x : Nat) : Int) = (x : Int) * 2 := by
      unfold dblN
      rw [if_neg h]; omega
    rw [e]
    go_enter Tryz.func134, Tryz.ntmps134
    go_wp2
    go_ret
    exact ⟨rfl, rfl⟩
set_option maxHeartbeats 400000 in
theorem needsEscape_any (b : UInt8) (w : World) :
    Calls Tryz.prog 104 #[.int .u8 (b.toNat : Int)] w fun e w' => e = .returned (.bool (isB b)) ∧ w' = w := by
  by_cases h : b = 126
  · subst h
    go_enter Tryz.func104, Tryz.ntmps104
    go_wp2
    go_ret
    exact ⟨rfl, rfl⟩
  · have h1 : ((b.toNat : Int) == 126) = false := by
      have : ¬ b.toNat = 126 := fun e => h (UInt8.toNat_inj.1 e)
      simp; omega
    have h2 : isB b = ((b.toNat : Int) == 125) := by
      unfold isB
      by_cases h5 : b = 125
      · subst h5; decide
      · have : ¬ b.toNat = 125 := fun e => h5 (UInt8.toNat_inj.1 e)
        have h6 : ((b.toNat : Int) == 125) = false := by simp; omega
        rw [h6]; simp [h, h5]
    rw [h2]
    go_enter Tryz.func104, Tryz.ntmps104
    go_wp2
    go_ret
    exact ⟨rfl, rfl⟩
/-- Bytes in memory, from a place on. -/
def BytesAt (w : World) (g off : Nat) (l : List UInt8) : Prop := ∀ i, i < l.length → w.cell? ⟨g, off + i, none⟩ = some (.int .u8 ((l.getD i 0).toNat : Int))
theorem take_succ (l : List UInt8) (i : Nat) (h : i < l.length) : l.take (i + 1) = l.take i ++ [l.getD i 0] := by
  rw [List.take_add_one, List.getElem?_eq_getElem h, List.getD_eq_getElem?_getD, List.getElem?_eq_getElem h]
  rfl
set_option maxRecDepth 100000 in
set_option maxHeartbeats 1000000 in
theorem check_any (g off cap : Nat) (l : List UInt8) (w : World) (hl : l.length ≤ 4000000) (h : BytesAt w g off l) :
    Calls Tryz.prog 122 #[.slice (some ⟨g, off, none⟩) l.length cap] w fun e w' => e = .returned (.int .u16 (crcN l)) ∧ w' = w := by
  go_enter Tryz.func122, Tryz.ntmps122
  go_wp2_with fail
  go_loopw [3, 8] (fun c i wr => ∃ k : Nat, k ≤ l.length ∧ i = .int .i64 k ∧ c = .int .u16 (crcN (l.take k)) ∧ wr = w) (fun _ i _ => l.length - (intOf i).toNat)
  case atStart => exact ⟨0, Nat.zero_le _, rfl, rfl, rfl⟩
  case round =>
    obtain ⟨k, hk, rfl, rfl, rfl⟩ := hrel
    by_cases hlt : k < l.length
    · have c1 := h k hlt
      obtain ⟨b, hb⟩ : ∃ b, l.getD k 0 = b := ⟨_, rfl⟩
      rw [hb] at c1
      obtain ⟨x, hx⟩ : ∃ x, crcN (l.take k) = x := ⟨_, rfl⟩
      have hxl : x < 65536 := by rw [← hx]; exact crcN_lt _
      have hN : crcN (l.take (k + 1)) = crcB x b := by rw [take_succ l k hlt, crcN_snoc, hx, hb]
      have HN := hideIt hN
      rw [hx]
      have hbl := b.toNat_lt
      clear hN hx hb h
      have hy : bits BinOp.xor IntKind.u16 (x : Int) ((b.toNat : Int) * 256) = ((x ^^^ (b.toNat * 256) : Nat) : Int) := xor_u16 x (b.toNat * 256) hxl (by omega)
      obtain ⟨y, hyy⟩ : ∃ y, x ^^^ (b.toNat * 256) = y := ⟨_, rfl⟩
      have hyl : y < 65536 := by rw [← hyy]; exact Nat.xor_lt_two_pow (n := 16) hxl (by omega)
      have HY := hideIt (show crcB x b = dblT 8 y by unfold crcB; rw [hyy])
      rw [hyy] at hy
      clear hyy
      go_wp2_with fail
      go_loopw [3, 17] (fun c i wr' => ∃ j : Nat, j ≤ 8 ∧ i = .int .i64 j ∧ c = .int .u16 (dblT j y) ∧ wr' = wr) (fun _ i _ => 8 - (intOf i).toNat)
      case atStart => exact ⟨0, by omega, rfl, rfl, rfl⟩
      case round =>
        rename_i hrel
        obtain ⟨j, hj, rfl, rfl, rfl⟩ := hrel
        by_cases hj8 : j < 8
        · obtain ⟨z, hz⟩ : ∃ z, dblT j y = z := ⟨_, rfl⟩
          have hzl : z < 65536 := by rw [← hz]; exact dblT_lt hyl j
          have HZ := hideIt (show dblT (j + 1) y = dblN z by rw [← hz]; rfl)
          rw [hz]
          clear hz
          go_wp2_with fail
          refine (doubled_any z hzl _).mono ?_
          rintro e w1 ⟨rfl, rfl⟩
          go_wp2
          go_roundw
          case rel => exact ⟨j + 1, by omega, by go_num, by rw [HZ.out], trivial⟩
          case measure => simp [intOf]; omega
        · have e8 : j = 8 := by omega
          subst e8
          rw [← HY.out]
          go_wp2
          go_roundw
          case rel => exact ⟨k + 1, by omega, by go_num, by rw [HN.out], trivial⟩
          case measure => simp [intOf]; omega
    · have e : k = l.length := by omega
      subst e
      rw [List.take_length]
      go_wp2
      go_ret
      exact ⟨rfl, rfl⟩
end Go.Proofs.YthokdbcpkmcieaaGreat
namespace Go.Proofs.YthokdbcpkmcieaaGreat
open Go Go.RowKit
/-- An ear at block eb. -/
structure EarAt (w : World) (eb : Nat) (s : EarS) : Prop where
  c0 : w.cell? ⟨eb, 0, none⟩ = some (.int .i64 (s.mode : Int))
  c83 : w.cell? ⟨eb, 83, none⟩ = some (.int .i64 (s.ks.length : Int))
  cb : ∀ i, i < 82 → ∃ v, w.cell? ⟨eb, 1 + i, none⟩ = some v
  ck : BytesAt w eb 1 s.ks
  fz : ∀ j, w.frozen? ⟨eb, j, none⟩ = false
  lt : eb < w.heap.size
  ok : EarOk s
theorem EarAt.kept {w w' : World} {eb : Nat} {s : EarS} (h : EarAt w eb s) (e : w'.heap[eb]? = w.heap[eb]?) (hz : w.heap.size ≤ w'.heap.size) : EarAt w' eb s :=
  ⟨(World.cell?_of_block (a := ⟨eb, 0, none⟩) e).trans h.c0, (World.cell?_of_block (a := ⟨eb, 83, none⟩) e).trans h.c83, fun i hi => by rw [World.cell?_of_block (a := ⟨eb, 1 + i, none⟩) e]; exact h.cb i hi,
    fun i hi => (World.cell?_of_block (a := ⟨eb, 1 + i, none⟩) e).trans (h.ck i hi), fun j => (World.frozen?_of_block (a := ⟨eb, j, none⟩) e).trans (h.fz j), Nat.lt_of_lt_of_le h.lt hz, h.ok⟩
theorem EarAt.setMode {w : World} {eb : Nat} {s : EarS} (h : EarAt w eb s) (m : Nat) (hm : m ≤ 2) : EarAt (w.setCell ⟨eb, 0, none⟩ (.int .i64 (m : Int))) eb ⟨m, s.ks⟩ := by
  refine ⟨World.cell?_setCell_same _ _ _ h.c0, ?_, fun i hi => ?_, fun i hi => ?_, fun j => by simp [h.fz j], by simpa [World.setCell] using h.lt, ⟨hm, h.ok.len⟩⟩
  · rw [World.cell?_setCell_other _ _ _ _ (by simp)]; exact h.c83
  · rw [World.cell?_setCell_other _ _ _ _ (by simp <;> omega)]; exact h.cb i hi
  · rw [World.cell?_setCell_other _ _ _ _ (by simp <;> omega)]; exact h.ck i hi
theorem EarAt.push {w : World} {eb : Nat} {s : EarS} (h : EarAt w eb s) (b : UInt8) (hl : s.ks.length < 82) : EarAt ((w.setCell ⟨eb, 1 + s.ks.length, none⟩ (.int .u8 (b.toNat : Int))).setCell ⟨eb, 83, none⟩ (.int .i64 ((s.ks.length : Int) + 1))) eb ⟨s.mode, s.ks ++ [b]⟩ := by
  obtain ⟨v, hv⟩ := h.cb s.ks.length hl
  have h83 : (w.setCell ⟨eb, 1 + s.ks.length, none⟩ (.int .u8 (b.toNat : Int))).cell? ⟨eb, 83, none⟩ = some (.int .i64 (s.ks.length : Int)) := by
    rw [World.cell?_setCell_other _ _ _ _ (by simp <;> omega)]; exact h.c83
  have hn := World.cell?_setCell_same w ⟨eb, 1 + s.ks.length, none⟩ (.int .u8 (b.toNat : Int)) hv
  refine ⟨?_, ?_, fun i hi => ?_, fun i hi => ?_, fun j => by simp [h.fz j], by simpa [World.setCell] using h.lt, ⟨h.ok.mode, by simp; omega⟩⟩
  · rw [World.cell?_setCell_other _ _ _ _ (by simp), World.cell?_setCell_other _ _ _ _ (by simp)]; exact h.c0
  · rw [World.cell?_setCell_same _ _ _ h83]; simp
  · rw [World.cell?_setCell_other _ _ _ _ (by simp <;> omega)]
    by_cases e : i = s.ks.length
    · subst e; exact ⟨_, hn⟩
    · rw [World.cell?_setCell_other _ _ _ _ (by simp <;> omega)]; exact h.cb i hi
  · simp only [List.length_append, List.length_cons, List.length_nil] at hi
    rw [World.cell?_setCell_other _ _ _ _ (by simp <;> omega)]
    by_cases e : i = s.ks.length
    · subst e
      rw [hn]
      simp [List.getD_eq_getElem?_getD]
    · rw [World.cell?_setCell_other _ _ _ _ (by simp <;> omega), h.ck i (by omega)]
      simp only [List.getD_eq_getElem?_getD]
      rw [List.getElem?_append_left (by omega)]
theorem grown_set (w : World) (eb j : Nat) (v : Value) : w.grownBy (w.setCell ⟨eb, j, none⟩ v) (some eb) :=
  ⟨rfl, rfl, rfl, by simp [World.setCell], fun k _ hk => Below.heap_setCell _ _ _ _ (by simpa using hk)⟩
theorem grown_drew {w w' : World} {r : Option Nat} (h : w.grownBy w' r) : w.grownBy w'.drew r := ⟨h.os, h.tape, h.output, h.size, h.block⟩
theorem grown_refl (w : World) (r : Option Nat) : w.grownBy w r := ⟨rfl, rfl, rfl, Nat.le_refl _, fun _ _ _ => rfl⟩
set_option maxRecDepth 100000 in
set_option maxHeartbeats 1000000 in
theorem keep_any (eb : Nat) (s : EarS) (b : UInt8) (w : World) (h : EarAt w eb s) :
    Calls Tryz.prog 105 #[.pointer (some ⟨eb, 0, none⟩), .int .u8 (b.toNat : Int)] w fun e w' => e = .returned (.tuple #[]) ∧ EarAt w' eb (keepF s b) ∧ w.grownBy w' (some eb) := by
  have c0 := h.c0
  have c83 := h.c83
  have f0 := h.fz 0
  have f83 := h.fz 83
  have hl := h.ok.len
  by_cases he : s.ks.length = 82
  · have e : keepF s b = ⟨0, s.ks⟩ := by unfold keepF; rw [if_pos he]
    have HR := hideIt (h.setMode 0 (by decide))
    have hi : ((s.ks.length : Int) == 82) = true := by simp; omega
    rw [e]
    clear h e
    go_enter Tryz.func105, Tryz.ntmps105
    go_wp2
    refine bodyPost_ret (results_none rfl _ _ _) rfl ?_
    exact ⟨rfl, HR.out, grown_set _ _ _ _⟩
  · have e : keepF s b = ⟨s.mode, s.ks ++ [b]⟩ := by unfold keepF; rw [if_neg he]
    have HR := hideIt (h.push b (by omega))
    have hi : ((s.ks.length : Int) == 82) = false := by simp; omega
    have hi2 : (s.ks.length : Int) < 82 := by omega
    obtain ⟨v, hv⟩ := h.cb s.ks.length (by omega)
    have fv := h.fz (1 + s.ks.length)
    rw [e]
    clear h e
    go_enter Tryz.func105, Tryz.ntmps105
    go_wp2
    go_region
    all_goals
      go_wp2
      go_end0
      exact ⟨rfl, HR.out.kept rfl (Nat.le_refl _), grown_drew ((grown_set _ _ _ _).trans (grown_set _ _ _ _))⟩
set_option maxRecDepth 100000 in
set_option maxHeartbeats 1000000 in
theorem take_any (eb : Nat) (s : EarS) (b : UInt8) (w : World) (h : EarAt w eb s) :
    Calls Tryz.prog 88 #[.pointer (some ⟨eb, 0, none⟩), .int .u8 (b.toNat : Int)] w fun e w' => e = .returned (.tuple #[]) ∧ EarAt w' eb (takeF s b) ∧ w.grownBy w' (some eb) := by
  have c0 := h.c0
  have f0 := h.fz 0
  have hm := h.ok.mode
  have hx := xor_byte b
  by_cases h0 : s.mode = 0
  · have e : takeF s b = s := by unfold takeF; rw [if_pos h0]
    have hi : ((s.mode : Int) == 0) = true := by simp; omega
    rw [e]
    have HR := hideIt h
    clear h e
    go_enter Tryz.func88, Tryz.ntmps88
    go_wp2
    go_end0
    exact ⟨rfl, HR.out, grown_refl _ _⟩
  · have hi : ((s.mode : Int) == 0) = false := by simp; omega
    by_cases h2 : s.mode = 2
    · have hi2 : ((s.mode : Int) == 2) = true := by simp; omega
      by_cases hb : isB (b ^^^ 32) = true
      · have e : takeF s b = keepF ⟨1, s.ks⟩ (b ^^^ 32) := by unfold takeF; rw [if_neg h0, if_pos h2, if_pos hb]
        have HR := hideIt (h.setMode 1 (by decide))
        rw [e]
        clear h e
        go_enter Tryz.func88, Tryz.ntmps88
        go_wp2_with fail
        refine (needsEscape_any (b ^^^ 32) _).mono ?_
        rintro e w1 ⟨rfl, rfl⟩
        rw [hb]
        go_wp2_with fail
        refine (keep_any eb ⟨1, s.ks⟩ (b ^^^ 32) _ HR.out).mono ?_
        rintro e w1 ⟨rfl, hr, hg⟩
        go_wp2
        go_end0
        exact ⟨rfl, hr, (grown_set _ _ _ _).trans hg⟩
      · have e : takeF s b = ⟨0, s.ks⟩ := by unfold takeF; rw [if_neg h0, if_pos h2, if_neg hb]
        have HR := hideIt (h.setMode 0 (by decide))
        have hbf : isB (b ^^^ 32) = false := by simpa using hb
        rw [e]
        clear h e
        go_enter Tryz.func88, Tryz.ntmps88
        go_wp2_with fail
        refine (needsEscape_any (b ^^^ 32) _).mono ?_
        rintro e w1 ⟨rfl, rfl⟩
        rw [hbf]
        go_wp2
        go_end0
        exact ⟨rfl, HR.out, grown_set _ _ _ _⟩
    · have hi2 : ((s.mode : Int) == 2) = false := by simp; omega
      by_cases h5 : b = 125
      · subst h5
        have e : takeF s 125 = ⟨2, s.ks⟩ := by unfold takeF; rw [if_neg h0, if_neg h2, if_pos rfl]
        have HR := hideIt (h.setMode 2 (by decide))
        rw [e]
        clear h e
        go_enter Tryz.func88, Tryz.ntmps88
        go_wp2
        go_end0
        exact ⟨rfl, HR.out, grown_set _ _ _ _⟩
      · have e : takeF s b = keepF s b := by unfold takeF; rw [if_neg h0, if_neg h2, if_neg h5]
        have hi5 : ((b.toNat : Int) == 125) = false := by
          have : ¬ b.toNat = 125 := fun e => h5 (UInt8.toNat_inj.1 e)
          simp; omega
        rw [e]
        have HR := hideIt h
        clear h e
        go_enter Tryz.func88, Tryz.ntmps88
        go_wp2_with fail
        refine (keep_any eb s b _ HR.out).mono ?_
        rintro e w1 ⟨rfl, hr, hg⟩
        go_wp2
        go_end0
        exact ⟨rfl, hr, hg⟩
end Go.Proofs.YthokdbcpkmcieaaGreat
namespace Go.Proofs.YthokdbcpkmcieaaGreat
open Go Go.RowKit
theorem wraps_u16e (n : Int) (h0 : 0 ≤ n) (h1 : n < 2 ^ 16) : IntKind.u16.wrap n = n := by rw [IntKind.wrap_u16]; omega
theorem or_bytes2 (p q : Int) (p0 : 0 ≤ p) (p1 : p ≤ 255) (q0 : 0 ≤ q) (q1 : q ≤ 255) : bits BinOp.or IntKind.u16 (p * 256) q = (256 : Int) * p + q := by
  rw [bits_join .u16 16 (by decide) wraps_u16e 8]
  all_goals omega
theorem BytesAt.take {w : World} {g off : Nat} {l : List UInt8} (h : BytesAt w g off l) (n : Nat) : BytesAt w g off (l.take n) := by
  intro i hi
  simp only [List.length_take] at hi
  rw [h i (by omega)]
  simp only [List.getD_eq_getElem?_getD]
  rw [List.getElem?_take_of_lt (by omega)]
theorem BytesAt.kept {w w' : World} {g off : Nat} {l : List UInt8} (h : BytesAt w g off l) (e : w'.heap[g]? = w.heap[g]?) : BytesAt w' g off l := fun i hi => (World.cell?_of_block (a := ⟨g, off + i, none⟩) e).trans (h i hi)
set_option maxRecDepth 100000 in
set_option maxHeartbeats 2000000 in
theorem hasCheck_any (g off cap : Nat) (l : List UInt8) (w : World) (hl : l.length ≤ 4000000) (hcap : l.length ≤ cap) (h : BytesAt w g off l) :
    Calls Tryz.prog 106 #[.slice (some ⟨g, off, none⟩) l.length cap] w fun e w' => e = .returned (.bool (hasC l)) ∧ ∃ m, w' = w.drewN m := by
  by_cases h3 : 3 ≤ l.length
  · obtain ⟨n, hn⟩ : ∃ n, l.length = n + 2 := ⟨l.length - 2, by omega⟩
    have ht := h.take n
    have hlt : (l.take n).length = n := by simp; omega
    have c1 := h n (by omega)
    have c2 := h (n + 1) (by omega)
    obtain ⟨x, hx⟩ : ∃ x, l.getD n 0 = x := ⟨_, rfl⟩
    obtain ⟨y, hy⟩ : ∃ y, l.getD (n + 1) 0 = y := ⟨_, rfl⟩
    rw [hx] at c1
    rw [hy] at c2
    have hxl := x.toNat_lt
    have hyl := y.toNat_lt
    obtain ⟨t, htt⟩ : ∃ t, l.take n = t := ⟨_, rfl⟩
    rw [htt] at ht hlt
    have hor := or_bytes2 (x.toNat : Int) (y.toNat : Int) (by omega) (by omega) (by omega) (by omega)
    have e : hasC l = (((crcN t : Nat) : Int) == (256 : Int) * (x.toNat : Int) + (y.toNat : Int)) := by
      unfold hasC
      rw [hn, show n + 2 - 2 = n by omega, show n + 2 - 1 = n + 1 by omega, htt, hx, hy]
      rw [show decide (3 ≤ n + 2) = true by simp; omega, Bool.true_and]
      by_cases hh : crcN t = x.toNat * 256 + y.toNat
      · rw [decide_eq_true hh]; symm; simp; omega
      · rw [decide_eq_false hh]; symm; simp; omega
    have HC := hideIt (fun w' (hw : BytesAt w' g off t) => check_any g off cap t w' (by omega) hw)
    rw [hlt] at HC
    have HT := hideIt ht
    rw [e, hn]
    have hp : (1 : Int) ≤ (n : Int) := by omega
    have hnn : (n : Int) ≤ 4000000 := by omega
    have hq : (n : Int) ≤ (cap : Int) := by omega
    clear e htt hx hy h ht hn
    go_enter Tryz.func106, Tryz.ntmps106
    go_wp2
    go_quiet ((go_at_call 122; exact Calls.quiet_of_same (HC.out _ (HT.out.kept rfl))))
    go_wp2
    go_ret
    exact ⟨rfl, _, rfl⟩
  · have e : hasC l = false := by unfold hasC; simp [h3]
    rw [e]
    have hp : (l.length : Int) - 2 < 1 := by omega
    have hnn : (l.length : Int) ≤ 4000000 := by omega
    clear e h
    go_enter Tryz.func106, Tryz.ntmps106
    go_wp2
    go_ret
    exact ⟨rfl, 0, rfl⟩
set_option maxRecDepth 100000 in
set_option maxHeartbeats 2000000 in
theorem isWhole_any (eb : Nat) (s : EarS) (w : World) (h : EarAt w eb s) :
    Calls Tryz.prog 89 #[.pointer (some ⟨eb, 0, none⟩)] w fun e w' => e = .returned (.bool (wholeF s)) ∧ ∃ m, w' = w.drewN m := by
  have c0 := h.c0
  have c83 := h.c83
  have hl := h.ok.len
  by_cases h1 : s.mode = 1
  · have e : wholeF s = hasC s.ks := by unfold wholeF; simp [h1]
    have hi : ((s.mode : Int) == 1) = true := by simp; omega
    have hle : (s.ks.length : Int) ≤ 82 := by omega
    have HC := hideIt (fun w' (hw : BytesAt w' eb 1 s.ks) => hasCheck_any eb 1 82 s.ks w' (by omega) hl hw)
    have HB := hideIt h.ck
    rw [e]
    clear e h
    go_enter Tryz.func89, Tryz.ntmps89
    go_wp2
    go_quiet ((go_at_call 106; exact Calls.quiet_of (HC.out _ (HB.out.kept rfl))))
    go_wp2
    go_ret
    exact ⟨rfl, _, rfl⟩
  · have e : wholeF s = false := by unfold wholeF; simp [h1]
    have hi : ((s.mode : Int) == 1) = false := by simp; omega
    rw [e]
    clear e h
    go_enter Tryz.func89, Tryz.ntmps89
    go_wp2
    go_quiet (fail)
    go_wp2
    go_ret
    exact ⟨rfl, _, rfl⟩
end Go.Proofs.YthokdbcpkmcieaaGreat
namespace Go.Proofs.YthokdbcpkmcieaaGreat
open Go Go.RowKit
/-- A callee that gives up: what follows in the region need not be looked at. -/
theorem step_dies {P : Program} {ops : Array Oper} {o : Oper} {a : Act} {w : World} {K : Act → World → Prop} {Q : Exit → Act → World → Prop} {E : Prop} (f : FuncId) (args : Array Value)
    (hg : o.guard = none) (hrun : (execOp a.eval o).run P w = .ok (.enter f args) w) (R : Ending → World → Prop) (hc : Calls P f args w R) (hR : ∀ e w', R e w' → ∃ ch, e = .panicked ch ∧ Q (.panic ch) a w')
    (_ : Hid False → K (a.put o.dst (.slice none 0 0)) w) : if Region.wanted o (yielded ops a.tmps) = true then Oper.wp P o a w K Q else E := by
  have hw : Region.wanted o (yielded ops a.tmps) = true := by simp [Region.wanted, hg]
  rw [if_pos hw]
  unfold Oper.wp
  rw [hrun, Oper.upon_enter]
  refine hc.mono ?_
  intro e w' h
  obtain ⟨ch, rfl, hq⟩ := hR e w' h
  exact hq
theorem step_diesV {P : Program} {ops : Array Oper} {o : Oper} {a : Act} {w : World} {K : Act → World → Prop} {Q : Exit → Act → World → Prop} {E : Prop} (bv : Value) (f : FuncId) (args : Array Value)
    (hg : o.guard = none) (hrun : (execOp a.eval o).run P w = .ok (.enter f args) w) (R : Ending → World → Prop) (hc : Calls P f args w R) (hR : ∀ e w', R e w' → ∃ ch, e = .panicked ch ∧ Q (.panic ch) a w')
    (_ : Hid False → K (a.put o.dst bv) w) : if Region.wanted o (yielded ops a.tmps) = true then Oper.wp P o a w K Q else E := by
  have hw : Region.wanted o (yielded ops a.tmps) = true := by simp [Region.wanted, hg]
  rw [if_pos hw]
  unfold Oper.wp
  rw [hrun, Oper.upon_enter]
  refine hc.mono ?_
  intro e w' h
  obtain ⟨ch, rfl, hq⟩ := hR e w' h
  exact hq
/-- Where nothing is left to be looked at. -/
theorem step_none {P : Program} {ops : Array Oper} {o : Oper} {a : Act} {w : World} {K : Act → World → Prop} {Q : Exit → Act → World → Prop} {E : Prop} (hF : Hid False) (_ : K (a.put o.dst (.slice none 0 0)) w) : if Region.wanted o (yielded ops a.tmps) = true then Oper.wp P o a w K Q else E := hF.out.elim
/-- A callee that returns. -/
theorem step_returns {P : Program} {ops : Array Oper} {o : Oper} {a : Act} {w : World} {K : Act → World → Prop} {Q : Exit → Act → World → Prop} {E : Prop} (f : FuncId) (args : Array Value)
    (hg : o.guard = none) (hrun : (execOp a.eval o).run P w = .ok (.enter f args) w) (R : Ending → World → Prop) (S : Value → World → Prop) (hc : Calls P f args w R) (hR : ∀ e w', R e w' → ∃ v, e = .returned v ∧ S v w')
    (hK : ∀ v w', S v w' → K (a.put o.dst v) w') : if Region.wanted o (yielded ops a.tmps) = true then Oper.wp P o a w K Q else E := by
  have hw : Region.wanted o (yielded ops a.tmps) = true := by simp [Region.wanted, hg]
  rw [if_pos hw]
  unfold Oper.wp
  rw [hrun, Oper.upon_enter]
  refine hc.mono ?_
  intro e w' h
  obtain ⟨v, rfl, hs⟩ := hR e w' h
  exact hK v w' hs
/-- append to a row of the call's own. -/
theorem step_append_own {P : Program} {ops : Array Oper} {o : Oper} {a : Act} {w : World} {K : Act → World → Prop} {Q : Exit → Act → World → Prop} {E : Prop}
    (hg : o.guard = none) (s x : Operand) (t : TypeId) (hop : o.op = Op.call { callee := Callee.builtin Builtin.append, args := #[s, x], argTypes := #[t, t] })
    (base : Nat) (e : TypeId) (i : TypeInfo) (z : Value) (size bytes : Nat) (ht : P.underlying t = some (.slice e)) (hi : P.info? e = some i) (hz : i.zero = some z)
    (hsize : i.size = size) (hby : i.bytes = bytes) (hzs : z.cells.size = size) (hsz : 0 < size)
    (v : Value) (n : Nat) (xs : List Value) (hs : a.eval s = v) (hown : w.ownsRow base e size v n xs)
    (ad : Addr) (m c : Nat) (news : List Value) (hx : a.eval x = .slice (some ad) m c) (hl : news.length = m * size) (hnews : ∀ j u, news[j]? = some u → w.cell? (ad.add j) = some u) (h1 : ∀ u ∈ news, u.oneCell' = true)
    (h63 : n + m ≤ maxLen) (hbytes : (n + m) * bytes ≤ 140737488355328) (hbase : base ≤ w.heap.size)
    (hK : ∀ v' w', w'.ownsRow base e size v' (n + m) (xs ++ news) → w.grownBy w' v.ownBlock → (v'.ownBlock = v.ownBlock ∨ v'.ownBlock = some w.heap.size) → K (a.put o.dst v') w') :
    if Region.wanted o (yielded ops a.tmps) = true then Oper.wp P o a w K Q else E := by
  have hw : Region.wanted o (yielded ops a.tmps) = true := by simp [Region.wanted, hg]
  rw [if_pos hw]
  obtain ⟨v', w', hrun, r1, r2, _, r3⟩ := run_append_own_at (P := P) w base t o.type e i z size bytes ht hi hz hsize hby hzs hsz v n xs hown ad m c news hl hnews h1 h63 hbytes hbase
  unfold Oper.wp
  simp [execOp, hop, resolve, invoke, builtin, hs, hx, hrun, Result.andThen]
  exact hK v' w' r1 r2 r3
end Go.Proofs.YthokdbcpkmcieaaGreat
namespace Go.Proofs.YthokdbcpkmcieaaGreat
open Go Go.RowKit
/-- A list of bytes as a text. -/
def txt (l : List UInt8) : ByteArray := ⟨l.toArray⟩
def strs (l : List (List UInt8)) : List Value := l.map fun m => .string (txt m)
theorem ba_get (s : ByteArray) (j : Nat) (h : j < s.size) : s.data.toList.getD j 0 = s[j] := by
  have h' : j < s.data.size := h
  rw [List.getD_eq_getElem?_getD, Array.getElem?_toList, Array.getElem?_eq_getElem h']
  rfl
theorem slice_ofR {w : World} {base : Nat} {e : TypeId} {size n : Nat} {v : Value} {xs : List Value} (h : w.ownsRow base e size v n xs) : ∃ a m c, v = .slice a m c := by
  obtain ⟨_, ⟨rfl, _⟩ | ⟨g, cap, cur, rfl, _⟩⟩ := h
  · exact ⟨_, _, _, rfl⟩
  · exact ⟨_, _, _, rfl⟩
theorem Tryz.infoStr : (Tryz.prog.info? 9).map (fun i => (i.zero, i.size, i.bytes)) = some (some (.string ⟨#[]⟩), 1, 16) := by kernel_rfl
theorem info_of {P : Program} {t : TypeId} {z : Option Value} {s b : Nat} (h : (P.info? t).map (fun i => (i.zero, i.size, i.bytes)) = some (z, s, b)) : ∃ i, P.info? t = some i ∧ i.zero = z ∧ i.size = s ∧ i.bytes = b := by
  cases hi : P.info? t with
  | none => rw [hi] at h; cases h
  | some i =>
    rw [hi] at h
    simp at h
    exact ⟨i, rfl, h.1, h.2.1, h.2.2⟩
theorem own_atE {w w' : World} {base : Nat} {e : TypeId} {size n : Nat} {v : Value} {xs : List Value} (h : w.ownsRow base e size v n xs) (hb : ∀ j, v.ownBlock = some j → w'.heap[j]? = w.heap[j]?) : w'.ownsRow base e size v n xs := by
  obtain ⟨h1, h2 | ⟨g, cap, cur, rfl, hg, h3, h4⟩⟩ := h
  · exact ⟨h1, .inl h2⟩
  · exact ⟨h1, .inr ⟨g, cap, cur, rfl, hg, (hb g rfl).trans h3, h4⟩⟩
theorem grown_drewN {w w' : World} {r : Option Nat} (h : w.grownBy w' r) (m : Nat) : w.grownBy (w'.drewN m) r := ⟨h.os, h.tape, h.output, h.size, h.block⟩
theorem heap_reset {w : World} {eb : Nat} {u v : Value} (j : Nat) (o1 o2 : Nat) (h : j ≠ eb) : ((w.setCell ⟨eb, o1, none⟩ u).setCell ⟨eb, o2, none⟩ v).heap[j]? = w.heap[j]? := by
  rw [Below.heap_setCell _ _ _ _ (by simpa using h), Below.heap_setCell _ _ _ _ (by simpa using h)]
theorem EarAt.reset {w : World} {eb : Nat} {s : EarS} (h : EarAt w eb s) : EarAt ((w.setCell ⟨eb, 0, none⟩ (.int .i64 1)).setCell ⟨eb, 83, none⟩ (.int .i64 0)) eb ⟨1, []⟩ := by
  have h83 : (w.setCell ⟨eb, 0, none⟩ (.int .i64 1)).cell? ⟨eb, 83, none⟩ = some (.int .i64 (s.ks.length : Int)) := by
    rw [World.cell?_setCell_other _ _ _ _ (by simp)]; exact h.c83
  refine ⟨?_, World.cell?_setCell_same _ _ _ h83, fun i hi => ?_, fun i hi => by simp at hi, fun j => by simp [h.fz j], by simpa [World.setCell] using h.lt, ⟨(by decide : 1 ≤ 2), by simp⟩⟩
  · rw [World.cell?_setCell_other _ _ _ _ (by simp)]; exact World.cell?_setCell_same _ _ _ h.c0
  · rw [World.cell?_setCell_other _ _ _ _ (by simp <;> omega), World.cell?_setCell_other _ _ _ _ (by simp)]; exact h.cb i hi
/-- A message more in the list: the ear is as it was. -/
theorem hear_step {w w1 wn : World} {eb : Nat} {st : EarS} {out : List (List UInt8)} {v v' : Value} {o : Obj} (hE : EarAt w1 eb st) (hR : w1.drew.ownsRow w.heap.size 9 1 v out.length (strs out)) (hG : w.grownBy w1 (some eb)) {t' : List UInt8}
    (hown : wn.ownsRow w.heap.size 9 1 v' (out.length + 1) (strs out ++ [.string (txt t')])) (hgr : (w1.drew.alloc o).grownBy wn v.ownBlock) (hlt : eb < w.heap.size) :
    EarAt wn eb st ∧ wn.ownsRow w.heap.size 9 1 v' (out.length + 1) (strs out ++ [.string (txt t')]) ∧ w.grownBy wn (some eb) := by
  have hz := hG.size
  have hz2 : w1.heap.size + 1 ≤ wn.heap.size := by have := hgr.size; simpa using this
  have key : ∀ k, k < w.heap.size → wn.heap[k]? = w1.heap[k]? := fun k hk => by
    rw [hgr.block k (by simp; omega) (fun e => by have := (hR.lt k e.symm).1; omega), Below.heap_alloc _ _ _ (by show k < w1.heap.size; omega)]
    rfl
  refine ⟨hE.kept (key eb hlt) (by omega), hown, ?_⟩
  exact ⟨hgr.os.trans hG.os, hgr.tape.trans hG.tape, hgr.output.trans hG.output, by omega, fun k hk hne => (key k hk).trans (hG.block k hk hne)⟩
set_option maxRecDepth 100000 in
set_option maxHeartbeats 4000000 in
theorem hear_any (eb : Nat) (s : EarS) (bs : ByteArray) (w : World) (h : EarAt w eb s) (hbs : bs.size ≤ 4000000) :
    Calls Tryz.prog 71 #[.pointer (some ⟨eb, 0, none⟩), .string bs] w fun e w' => ∃ v, e = .returned v ∧ EarAt w' eb (hearF s bs.data.toList).1 ∧ w'.ownsRow w.heap.size 9 1 v (hearF s bs.data.toList).2.length (strs (hearF s bs.data.toList).2) ∧ w.grownBy w' (some eb) := by
  obtain ⟨i0, hi, hz0, hz1, hz2⟩ := info_of Tryz.infoStr
  have hltw := h.lt
  have hlen : bs.data.toList.length = bs.size := by rw [Array.length_toList]; rfl
  go_enter Tryz.func71, Tryz.ntmps71
  go_wp2_with fail
  go_loopw [5, 9] (fun v i wr => ∃ k : Nat, k ≤ bs.size ∧ i = .int .i64 k ∧ EarAt wr eb (hearF s (bs.data.toList.take k)).1 ∧ wr.ownsRow w.heap.size 9 1 v (hearF s (bs.data.toList.take k)).2.length (strs (hearF s (bs.data.toList.take k)).2) ∧ w.grownBy wr (some eb)) (fun _ i _ => bs.size - (intOf i).toNat)
  case atStart => exact ⟨0, Nat.zero_le _, rfl, h, World.ownsRow_nil _ _ _ _, grown_refl _ _⟩
  case round =>
    obtain ⟨k, hk, rfl, hE, hR, hG⟩ := hrel
    by_cases hlt : k < bs.size
    · have hN : hearF s (bs.data.toList.take (k + 1)) = hearB (hearF s (bs.data.toList.take k)) bs[k] := by
        rw [take_succ _ k (by omega), hearF_snoc, ba_get bs k hlt]
      have hcn := hearF_count s (bs.data.toList.take k)
      rw [List.length_take] at hcn
      obtain ⟨p, hp⟩ : ∃ p, hearF s (bs.data.toList.take k) = p := ⟨_, rfl⟩
      rw [hp] at hE hR hN hcn
      obtain ⟨st, out⟩ := p
      simp only at hE hR hcn
      obtain ⟨b, hb⟩ : ∃ b, bs[k] = b := ⟨_, rfl⟩
      rw [hb] at hN
      obtain ⟨va, vm, vc, rfl⟩ := slice_ofR hR
      clear hp h
      by_cases h6 : b = 126
      · subst h6
        have HI := hideIt (fun w' (he : EarAt w' eb st) => isWhole_any eb st w' he)
        have HG := hideIt hG
        by_cases hw : wholeF st = true
        · have hN2 : hearB (st, out) 126 = (⟨1, []⟩, out ++ [st.ks.take (st.ks.length - 2)]) := by unfold hearB; rw [if_pos rfl]; simp only; rw [if_pos hw]
          have HN := hideIt (hN.trans hN2)
          have hge : 3 ≤ st.ks.length := by
            unfold wholeF hasC at hw
            simp only [Bool.and_eq_true, decide_eq_true_eq] at hw
            exact hw.2.1
          obtain ⟨n, hn⟩ : ∃ n, st.ks.length = n + 2 := ⟨st.ks.length - 2, by omega⟩
          have hle := hE.ok.len
          obtain ⟨t, ht⟩ : ∃ t, st.ks.take (st.ks.length - 2) = t := ⟨_, rfl⟩
          have htl : t.length = n := by rw [← ht, List.length_take]; omega
          have htb : BytesAt wr eb 1 t := by rw [← ht]; exact hE.ck.take _
          have HE := hideIt hE
          clear hN hN2 hE hG
          go_wp2_with fail
          refine (HI.out _ HE.out).mono ?_
          rintro e w1 ⟨rfl, m, rfl⟩
          obtain ⟨w1, hw1⟩ : ∃ w1, wr.drewN m = w1 := ⟨_, rfl⟩
          have e1 : w1.heap = wr.heap := by rw [← hw1]; rfl
          have hE1 : EarAt w1 eb st := HE.out.kept (by rw [e1]) (by rw [e1]; exact Nat.le_refl _)
          have hR1 : w1.drew.ownsRow w.heap.size 9 1 (.slice va vm vc) out.length (strs out) := own_atE hR (fun j _ => by show w1.heap[j]? = _; rw [e1])
          have hG1 : w.grownBy w1 (some eb) := by rw [← hw1]; exact grown_drewN HG.out m
          have htb1 : BytesAt w1.drew eb 1 t := htb.kept (by show w1.heap[eb]? = _; rw [e1])
          rw [hw1]
          clear hw1 HE HG hR
          have c83 := hE1.c83
          rw [hn] at c83
          have f0 := hE1.fz 0
          have f83 := hE1.fz 83
          have hcv : (convert 24 9 (.slice (some ⟨eb, 1, none⟩) n 82)).run Tryz.prog w1.drew = .ok (.string (txt t)) w1.drew := by
            have := run_convert_bytes_back (P := Tryz.prog) w1.drew 24 9 5 ⟨eb, 1, none⟩ 82 t Tryz.underlying24 Tryz.underlying5 Tryz.underlying9 (fun j hj => by
              have hc := htb1 j hj
              rw [List.getD_eq_getElem?_getD, List.getElem?_eq_getElem hj] at hc
              have ha : (⟨eb, 1, none⟩ : Addr).add j = ⟨eb, 1 + j, none⟩ := by unfold Addr.add; split <;> simp_all
              rw [ha]
              exact hc)
            rw [htl] at this
            exact this
          have hno : (n : Int) ≤ 82 := by omega
          have hwr : IntKind.i64.wrap (n : Int) = (n : Int) := by rw [IntKind.wrap_i64]; omega
          have HE1 := hideIt hE1
          have HR1 := hideIt hR1
          have HG1 := hideIt hG1
          have hel := hE1.lt
          have HT := hideIt ht
          have hbase : w.heap.size ≤ w1.heap.size := hG1.size
          clear hE1 hR1 hG1 htb htb1 ht e1
          rw [hw]
          go_wp2_with fail
          go_region_law (refine step_append_own rfl (.tmp 23) (.tmp 34) 40 rfl w.heap.size 9 i0 _ 1 16 Tryz.underlying40 hi hz0 hz1 hz2 rfl (by decide) (.slice va vm vc) out.length (strs out) (by simp [Act.eval]) (by exact HR1.out.alloc _) ⟨w1.heap.size, 0, none⟩ 1 1 [.string (txt t)] (by simp [Act.eval]) rfl (cell_one_new _ _ _) (by intro u hu; simp at hu; subst hu; rfl) (by unfold maxLen; omega) (by omega) (by simp; omega) ?_; intro v' wn hown hgr hloc; obtain ⟨va', vn', vc', rfl⟩ := slice_ofR hown)
          all_goals
            have hst := hear_step HE1.out HR1.out HG1.out hown hgr (by omega)
            have HS := hideIt hst
            have fn0 := hst.1.fz 0
            have fn83 := hst.1.fz 83
            have cn0 := hst.1.c0
            have cn83 := hst.1.c83
            have hnl := hst.1.lt
            clear hst hown hgr hloc c83 f0 f83
            go_wp2
            go_roundw
            case rel =>
              refine ⟨k + 1, by omega, by go_num, ?_, ?_, ?_⟩
              · rw [HN.out]; exact HS.out.1.reset
              · rw [HN.out, HT.out]
                simp only [List.length_append, List.length_cons, List.length_nil, strs, List.map_append, List.map_cons, List.map_nil]
                exact own_atE HS.out.2.1 (fun j hj => heap_reset _ _ _ (by have := (HS.out.2.1.lt j hj).1; omega))
              · exact HS.out.2.2.trans ((grown_set _ _ _ _).trans (grown_set _ _ _ _))
            case measure => simp [intOf]; omega
        · have hwf : wholeF st = false := by simpa using hw
          have hN2 : hearB (st, out) 126 = (⟨1, []⟩, out) := by unfold hearB; rw [if_pos rfl]; simp only; rw [if_neg hw]
          have HN := hideIt (hN.trans hN2)
          have HE := hideIt hE
          clear hN hN2 hE hG
          go_wp2_with fail
          refine (HI.out _ HE.out).mono ?_
          rintro e w1 ⟨rfl, m, rfl⟩
          obtain ⟨w1, hw1⟩ : ∃ w1, wr.drewN m = w1 := ⟨_, rfl⟩
          have e1 : w1.heap = wr.heap := by rw [← hw1]; rfl
          have hE1 : EarAt w1 eb st := HE.out.kept (by rw [e1]) (by rw [e1]; exact Nat.le_refl _)
          have hR1 : w1.ownsRow w.heap.size 9 1 (.slice va vm vc) out.length (strs out) := own_atE hR (fun j _ => by rw [e1])
          have hG1 : w.grownBy w1 (some eb) := by rw [← hw1]; exact grown_drewN HG.out m
          rw [hw1]
          clear hw1 HE HG hR
          have c83 := hE1.c83
          have c0 := hE1.c0
          have f0 := hE1.fz 0
          have f83 := hE1.fz 83
          have hel := hE1.lt
          have HE1 := hideIt hE1
          have HR1 := hideIt hR1
          have HG1 := hideIt hG1
          clear hE1 hR1 hG1 e1
          rw [hwf]
          go_wp2
          go_roundw
          case rel =>
            refine ⟨k + 1, by omega, by go_num, ?_, ?_, ?_⟩
            · rw [HN.out]; exact HE1.out.reset
            · rw [HN.out]
              exact own_atE HR1.out (fun j hj => heap_reset _ _ _ (by have := (HR1.out.lt j hj).1; omega))
            · exact HG1.out.trans ((grown_set _ _ _ _).trans (grown_set _ _ _ _))
          case measure => simp [intOf]; omega
      · have hb6 : ((b.toNat : Int) != 126) = true := by
          have : ¬ b.toNat = 126 := fun e => h6 (UInt8.toNat_inj.1 e)
          simp; omega
        have hN2 : hearB (st, out) b = (takeF st b, out) := by unfold hearB; rw [if_neg h6]
        have HN := hideIt (hN.trans hN2)
        have HE := hideIt hE
        have HR := hideIt hR
        have HG := hideIt hG
        clear hN hN2 hE hR hG
        go_wp2_with fail
        refine (take_any eb st b _ HE.out).mono ?_
        rintro e w1 ⟨rfl, hE1, hg1⟩
        go_wp2
        go_roundw
        case rel =>
          refine ⟨k + 1, by omega, by go_num, ?_, ?_, HG.out.trans hg1⟩
          · rw [HN.out]; exact hE1
          · rw [HN.out]
            exact own_atE HR.out (fun j hj => hg1.block j (HR.out.lt j hj).2 (by have := (HR.out.lt j hj).1; simp; omega))
        case measure => simp [intOf]; omega
    · have hkk : k = bs.size := by omega
      rw [hkk, ← hlen, List.take_length] at hE hR
      have HQ := hideIt (And.intro hE (And.intro hR hG))
      obtain ⟨va, vm, vc, rfl⟩ := slice_ofR hR
      clear hE hR hG
      go_wp2
      go_ret
      exact ⟨_, rfl, HQ.out.1, HQ.out.2.1, HQ.out.2.2⟩
end Go.Proofs.YthokdbcpkmcieaaGreat
namespace Go.Proofs.YthokdbcpkmcieaaGreat
open Go Go.RowKit
/-- The bytes of a text in a new row: where there is room behind them it may be written. -/
theorem bytes_ofE (s : ByteArray) (w : World) : ∃ w1 cap, (convert 9 24 (.string s)).run Tryz.prog w = .ok (.slice (some ⟨w.heap.size, 0, none⟩) s.size cap) w1 ∧ BytesAt w1 w.heap.size 0 s.data.toList ∧
    (∀ j, j < cap → (w1.cell? ⟨w.heap.size, j, none⟩).isSome = true ∧ w1.frozen? ⟨w.heap.size, j, none⟩ = false) ∧ Below w.heap.size w w1 ∧ w1.heap.size = w.heap.size + 1 := by
  have hge := grownCap_ge w s.size 0 5
  have hsz : (bytesRow s (grownCap w s.size 0 5)).size = grownCap w s.size 0 5 := by
    unfold bytesRow
    rw [Array.size_append, Array.size_map, Array.size_replicate]
    show s.size + _ = _
    omega
  refine ⟨_, _, run_bytes_of_string w 9 24 5 s Tryz.underlying9 Tryz.underlying24 Tryz.underlying5, ?_, ?_, ?_, ?_⟩
  · intro i hi
    have h' : i < s.data.size := by simpa using hi
    rw [Nat.zero_add]
    have e := World.cell?_alloc_mark w.drew (bytesRow s (grownCap w s.size 0 5)) 5 ((bytesRow s (grownCap w s.size 0 5)).size, (bytesRow s (grownCap w s.size 0 5)).size + 1) i
    have e2 : w.drew.heap.size = w.heap.size := rfl
    rw [e2] at e
    rw [e, bytesRow_at s _ i h', List.getD_eq_getElem?_getD, Array.getElem?_toList, Array.getElem?_eq_getElem h']
    rfl
  · intro j hj
    have e := World.cell?_alloc_mark w.drew (bytesRow s (grownCap w s.size 0 5)) 5 ((bytesRow s (grownCap w s.size 0 5)).size, (bytesRow s (grownCap w s.size 0 5)).size + 1) j
    have f := World.frozen?_alloc_mark w.drew (bytesRow s (grownCap w s.size 0 5)) 5 (bytesRow s (grownCap w s.size 0 5)).size ((bytesRow s (grownCap w s.size 0 5)).size + 1) j
    have e2 : w.drew.heap.size = w.heap.size := rfl
    rw [e2] at e f
    refine ⟨?_, ?_⟩
    · rw [e, Array.getElem?_eq_getElem (by omega)]; rfl
    · rw [f, hsz]; simp; omega
  · exact (Below.refl _ _).drew.alloc (Nat.le_refl _) _
  · show (w.heap.push _).size = _
    simp
theorem Tryz.infoU8 : (Tryz.prog.info? 5).map (fun i => (i.zero, i.size, i.bytes)) = some (some (.int .u8 0), 1, 1) := by kernel_rfl
def byteVs (l : List UInt8) : List Value := l.map fun b => .int .u8 (b.toNat : Int)
theorem byteVs_at (l : List UInt8) (j : Nat) (u : Value) (h : (byteVs l)[j]? = some u) : j < l.length ∧ u = .int .u8 ((l.getD j 0).toNat : Int) := by
  unfold byteVs at h
  rw [List.getElem?_map] at h
  cases hg : l[j]? with
  | none => rw [hg] at h; cases h
  | some b =>
    rw [hg] at h
    have := (List.getElem?_eq_some_iff.1 hg).1
    refine ⟨this, ?_⟩
    rw [List.getD_eq_getElem?_getD, hg]
    simpa using h.symm
theorem bytes_holds {w : World} {g : Nat} {l : List UInt8} (h : BytesAt w g 0 l) : ∀ j u, (byteVs l)[j]? = some u → w.cell? ⟨g, 0 + j, none⟩ = some u := by
  intro j u hj
  obtain ⟨h1, rfl⟩ := byteVs_at l j u hj
  exact h j h1
theorem bytes_of_cells {w : World} {g : Nat} {l : List UInt8} (h : ∀ j u, (byteVs l)[j]? = some u → w.cell? ⟨g, j, none⟩ = some u) : BytesAt w g 0 l := by
  intro i hi
  rw [Nat.zero_add]
  refine h i _ ?_
  unfold byteVs
  rw [List.getElem?_map, List.getElem?_eq_getElem hi, List.getD_eq_getElem?_getD, List.getElem?_eq_getElem hi]
  rfl
theorem byteVs_len (l : List UInt8) : (byteVs l).length = l.length := by simp [byteVs]
theorem byteVs_append (a b : List UInt8) : byteVs (a ++ b) = byteVs a ++ byteVs b := by simp [byteVs]
theorem own_bytes {w : World} {base g n cap : Nat} {l : List UInt8} (h : w.ownsRow base 5 1 (.slice (some ⟨g, 0, none⟩) n cap) n (byteVs l)) : BytesAt w g 0 l := by
  apply bytes_of_cells
  intro j u hj
  have := h.cells (g := g) rfl j u hj
  rwa [Addr.add_lit, Nat.zero_add] at this
theorem set_bytes {w : World} {g n : Nat} {l t : List UInt8} (hn : l.length = n) (h : BytesAt w g 0 l) (hs : ∀ j, j < (byteVs t).length → (w.cell? ⟨g, n + j, none⟩).isSome = true) : BytesAt (w.setCells g n (byteVs t)) g 0 (l ++ t) := by
  intro i hi
  rw [Nat.zero_add]
  by_cases hl : i < n
  · rw [World.cell?_setCells_out _ _ _ _ _ (fun _ _ => .inl hl)]
    have := h i (by omega)
    rw [Nat.zero_add] at this
    rw [this]
    simp only [List.getD_eq_getElem?_getD]
    rw [List.getElem?_append_left (by omega)]
  · have hj : i - n < t.length := by simp at hi; omega
    have := World.cell?_setCells_in g (byteVs t) n w hs (i - n) (by rw [byteVs_len]; exact hj)
    rw [show n + (i - n) = i by omega] at this
    rw [this]
    simp only [List.getD_eq_getElem?_getD]
    rw [List.getElem?_append_right (by omega), hn, List.getElem?_eq_getElem hj]
    simp [byteVs]
theorem heap_setCells (b : Nat) : ∀ (vs : List Value) (o : Nat) (w : World) (k : Nat), k ≠ b → (w.setCells b o vs).heap[k]? = w.heap[k]?
  | [], _, _, _, _ => rfl
  | v :: vs, o, w, k, h => by
    show ((w.setCell ⟨b, o, none⟩ v).setCells b (o + 1) vs).heap[k]? = _
    rw [heap_setCells b vs (o + 1) _ k h, Below.heap_setCell _ _ _ _ (by simpa using h)]
theorem size_setCells (b : Nat) : ∀ (vs : List Value) (o : Nat) (w : World), (w.setCells b o vs).heap.size = w.heap.size
  | [], _, _ => rfl
  | v :: vs, o, w => by
    show ((w.setCell ⟨b, o, none⟩ v).setCells b (o + 1) vs).heap.size = _
    rw [size_setCells b vs (o + 1) _]; simp [World.setCell]
theorem rest_setCells (b : Nat) : ∀ (vs : List Value) (o : Nat) (w : World), (w.setCells b o vs).os = w.os ∧ (w.setCells b o vs).tape = w.tape ∧ (w.setCells b o vs).output = w.output
  | [], _, _ => ⟨rfl, rfl, rfl⟩
  | v :: vs, o, w => rest_setCells b vs (o + 1) (w.setCell ⟨b, o, none⟩ v)
/-- A list written out, each of its values of one cell. -/
theorem wpList_buildRow {P : Program} {ops : Array Oper} {rest : List Oper} {o : Oper} {a : Act} {w : World} {Q : Exit → Act → World → Prop} (hg : o.guard = none) (t e : TypeId) (len : Nat) (parts : Array (Nat × Operand)) (ho : o.op = .buildSlice t len parts)
    (xs : List Operand) (vs : List Value) (hp : parts.toList = (xs.zipIdx 0).map fun x => (x.2, x.1)) (he : xs.map a.eval = vs) (h1 : ∀ v ∈ vs, v.cells = #[v]) (ie : TypeInfo) (z : Value)
    (hu : P.underlying t = some (.slice e)) (hie : P.info? e = some ie) (hz : ie.zero = some z) (hs : ie.size = 1) (hlen : len = xs.length) (hpos : 0 < len) (hsmall : len ≤ 2 ^ 24)
    (h : wpList P ops Q rest (a.put o.dst (.slice (some ⟨w.heap.size, 0, none⟩) len len)) (w.alloc (.cells vs.toArray e))) : wpList P ops Q (o :: rest) a w := by
  refine wpList_buildSlice hg t e len parts ho vs.toArray ie z hu hie hz (by rw [hs]; omega) (by rw [hs]; omega) ?_ h
  rw [hs]
  have e1 : (parts.map fun (i, x) => (i, a.eval x)).toList = (vs.zipIdx 0).map fun x => (x.2, x.1) := by
    rw [Array.toList_map, hp, ← he, List.zipIdx_map, List.map_map, List.map_map]
    rfl
  rw [e1]
  have hl : vs.length = xs.length := by rw [← he]; simp
  exact Great.fill_flat vs _ h1 (by simp [hl, hlen])
theorem ints_one (k : IntKind) : ∀ (zs : List Int), ∀ v ∈ zs.map (Value.int k), v.cells = #[v] := by
  intro zs v hv
  obtain ⟨n, _, rfl⟩ := List.mem_map.1 hv
  rfl
theorem cells_new (w : World) (l : List Value) (t : TypeId) : ∀ j u, l[j]? = some u → (w.alloc (.cells l.toArray t)).cell? ((⟨w.heap.size, 0, none⟩ : Addr).add j) = some u := by
  intro j u hj
  rw [Addr.add_lit, Nat.zero_add]
  have := World.cell?_alloc_mark w l.toArray t (0, 0) j
  rw [this]
  simpa using hj
theorem own_some {w : World} {base : Nat} {e : TypeId} {size n : Nat} {v : Value} {xs : List Value} (h : w.ownsRow base e size v n xs) (hn : 0 < n) : ∃ g cap, v = .slice (some ⟨g, 0, none⟩) n cap ∧ base ≤ g ∧ g < w.heap.size := by
  have hl := h.lt
  obtain ⟨_, ⟨rfl, h0⟩ | ⟨g, cap, cur, rfl, hg, _⟩⟩ := h
  · omega
  · exact ⟨g, cap, rfl, hg, (hl g rfl).2⟩
theorem World.alloc_size (w : World) (o : Obj) : (w.alloc o).heap.size = w.heap.size + 1 := by simp
/-- The check behind the message, where there was room. -/
theorem checked_room {w w1 w2 : World} {l t : List UInt8} {n cap : Nat} {o : Obj} (hn : l.length = n) (b1 : Below w.heap.size w w1) (b2 : Below w1.heap.size w1 w2) (hlt : w1.heap.size < w2.heap.size) (hb : BytesAt w2 w1.heap.size 0 l)
    (hs : ∀ j, j < cap → (w2.cell? ⟨w1.heap.size, j, none⟩).isSome = true) (hr : n + t.length ≤ cap) :
    w.heap.size ≤ w1.heap.size ∧ w1.heap.size < ((w2.alloc o).setCells w1.heap.size n (byteVs t)).heap.size ∧ BytesAt ((w2.alloc o).setCells w1.heap.size n (byteVs t)) w1.heap.size 0 (l ++ t) ∧ Below w.heap.size w ((w2.alloc o).setCells w1.heap.size n (byteVs t)) := by
  have z1 := b1.size
  have z2 := b2.size
  refine ⟨z1, ?_, ?_, ?_⟩
  · rw [size_setCells, World.alloc_size]; omega
  · refine set_bytes hn (hb.kept (Below.heap_alloc _ _ _ hlt)) (fun j hj => ?_)
    rw [byteVs_len] at hj
    rw [World.cell?_alloc_old _ _ _ (Nat.ne_of_lt hlt)]
    exact hs _ (by omega)
  · obtain ⟨r1, r2, r3⟩ := rest_setCells w1.heap.size (byteVs t) n (w2.alloc o)
    refine ⟨r1.trans (b2.os.trans b1.os), r2.trans (b2.tape.trans b1.tape), r3.trans (b2.output.trans b1.output), ?_, fun k hk => ?_⟩
    · rw [size_setCells, World.alloc_size]; omega
    · rw [heap_setCells _ _ _ _ _ (by omega), Below.heap_alloc _ _ _ (by omega), b2.block k (by omega), b1.block k hk]
set_option maxRecDepth 100000 in
set_option maxHeartbeats 2000000 in
theorem checked_any (m : ByteArray) (w : World) (hm : m.size ≤ 1000) :
    Calls Tryz.prog 108 #[.string m] w fun e w' => ∃ g cap, e = .returned (.slice (some ⟨g, 0, none⟩) (m.size + 2) cap) ∧ w.heap.size ≤ g ∧ g < w'.heap.size ∧ BytesAt w' g 0 (m.data.toList ++ chkB m.data.toList) ∧ Below w.heap.size w w' := by
  obtain ⟨i0, hi, hz0, hz1, hz2⟩ := info_of Tryz.infoU8
  have hlen : m.data.toList.length = m.size := by rw [Array.length_toList]; rfl
  obtain ⟨w1, cap1, hrun1, hb1, _, hB1, hs1⟩ := bytes_ofE m w
  obtain ⟨w2, cap2, hrun2, hb2, hsp2, hB2, hs2⟩ := bytes_ofE m w1
  obtain ⟨l, hl⟩ : ∃ l, m.data.toList = l := ⟨_, rfl⟩
  rw [hl] at hb1 hb2 hlen ⊢
  have HC := hideIt (check_any w.heap.size 0 cap1 l w1 (by omega) hb1)
  rw [hlen] at HC
  obtain ⟨c, hc⟩ : ∃ c, crcN l = c := ⟨_, rfl⟩
  have hcl : c < 65536 := by rw [← hc]; exact crcN_lt l
  have HK : Hid (chkB l = [UInt8.ofNat (c / 256), UInt8.ofNat (c % 256)]) := by rw [← hc]; rfl
  rw [hc] at HC
  have q1 : ((c : Int) / 256 % 256) = ((UInt8.ofNat (c / 256)).toNat : Int) := by rw [UInt8.toNat_ofNat']; omega
  have q2 : ((c : Int) % 256) = ((UInt8.ofNat (c % 256)).toNat : Int) := by rw [UInt8.toNat_ofNat']; omega
  have Q1 := hideIt q1
  have Q2 := hideIt q2
  clear q1 q2
  have HB2 := hideIt hb2
  have HS2 := hideIt hsp2
  have HBB := hideIt (And.intro hB1 hB2)
  have HZ := hideIt (And.intro hs1 hs2)
  clear hb1 hb2 hsp2 hB1 hB2 hl hc hs1 hs2
  go_enter Tryz.func108, Tryz.ntmps108
  go_wp2_with fail
  refine HC.out.mono ?_
  rintro e w' ⟨rfl, hw'⟩
  subst hw'
  go_wp2_with (first | (refine wpList_buildRow rfl 24 5 2 _ rfl [.tmp 11, .tmp 13] [.int .u8 ((c : Int) / 256), .int .u8 ((c : Int) % 256)] rfl rfl (ints_one .u8 [(c : Int) / 256, (c : Int) % 256]) i0 (.int .u8 0) Tryz.underlying24 hi hz0 hz1 rfl (by decide) (by decide) ?_; simp only [Act.put, List.setIfInBounds_toArray, List.set_cons_succ, List.set_cons_zero]) | (at_builtin; refine wpList_append_arg _ rfl _ _ 24 rfl 5 i0 (.int .u8 0) 1 1 Tryz.underlying24 hi hz0 hz1 hz2 rfl (by decide) w'.heap.size 0 m.size cap2 (byteVs l) rfl (by rw [byteVs_len, hlen, Nat.mul_one]) ?olds ⟨w2.heap.size, 0, none⟩ 2 2 [.int .u8 ((c : Int) / 256), .int .u8 ((c : Int) % 256)] rfl rfl (cells_new _ _ _) ?ones ?spare (by unfold maxLen; omega) (by omega) ?room ?grow))
  case olds =>
    intro j u hj
    rw [World.cell?_alloc_old _ _ _ (by have := HZ.out.2; show w'.heap.size ≠ _; omega)]
    exact bytes_holds HB2.out j u hj
  case ones =>
    intro u hu
    simp at hu
    rcases hu with rfl | rfl <;> rfl
  case spare =>
    intro hr j hj
    simp only [List.length_cons, List.length_nil] at hj
    have hlt : w'.heap.size < w2.heap.size := by have := HZ.out.2; omega
    rw [World.cell?_alloc_old _ _ _ (Nat.ne_of_lt hlt), World.frozen?_of_block (a := ⟨w'.heap.size, 0 + m.size * 1 + j, none⟩) (Below.heap_alloc _ _ _ hlt)]
    have := HS2.out (m.size + j) (by omega)
    rw [show 0 + m.size * 1 + j = m.size + j by omega]
    exact this
  case room =>
    intro hr
    have hlt : w'.heap.size < w2.heap.size := by have := HZ.out.2; omega
    have hfin := checked_room (w := w) (w1 := w') (w2 := w2) (l := l) (n := m.size) (cap := cap2) (o := .cells #[.int .u8 ((c : Int) / 256), .int .u8 ((c : Int) % 256)] 5) (t := [UInt8.ofNat (c / 256), UInt8.ofNat (c % 256)]) hlen HBB.out.1 HBB.out.2 hlt HB2.out (fun j hj => (HS2.out j hj).1) (by simpa using hr)
    have hvs : byteVs [UInt8.ofNat (c / 256), UInt8.ofNat (c % 256)] = [.int .u8 ((c : Int) / 256), .int .u8 ((c : Int) % 256)] := by
      simp only [byteVs, List.map_cons, List.map_nil]
      rw [← Q2.out, ← Q1.out, show ((c : Int) / 256 % 256) = (c : Int) / 256 by omega]
    rw [hvs] at hfin
    have HF := hideIt hfin
    have HL := hideIt hlt
    clear hfin hlt hvs
    go_wp2
    go_ret
    refine ⟨w'.heap.size, cap2, rfl, HF.out.1, HF.out.2.1, ?_, HF.out.2.2.2⟩
    rw [HK.out]; exact HF.out.2.2.1
  case grow =>
    intro hc2 v' wn hown hgr
    obtain ⟨g, capn, rfl, hg1, hg2⟩ := own_some hown (by omega)
    have hvs : byteVs (l ++ chkB l) = byteVs l ++ [.int .u8 ((c : Int) / 256), .int .u8 ((c : Int) % 256)] := by
      rw [byteVs_append, HK.out]
      congr 1
      simp only [byteVs, List.map_cons, List.map_nil]
      rw [← Q2.out, ← Q1.out, show ((c : Int) / 256 % 256) = (c : Int) / 256 by omega]
    rw [← hvs] at hown
    have hbt := own_bytes hown
    have hbl : Below w.heap.size w wn := by
      have b1 := HBB.out.1
      have b2 := HBB.out.2
      have z1 := b1.size
      have z2 := b2.size
      have z3 := hgr.size
      simp only [World.alloc_size] at z3
      refine ⟨(hgr.os.trans b2.os).trans b1.os, (hgr.tape.trans b2.tape).trans b1.tape, (hgr.output.trans b2.output).trans b1.output, by omega, fun k hk => ?_⟩
      rw [hgr.block k (by simp; omega) (by simp), Below.heap_alloc _ _ _ (by omega), b2.block k (by omega), b1.block k hk]
    have HF := hideIt (And.intro hbt hbl)
    have HG := hideIt (And.intro hg1 hg2)
    clear hown hgr hbt hbl hvs hg1 hg2
    go_wp2
    go_ret
    have z1 := HBB.out.1.size
    have z2 := HBB.out.2.size
    have z3 := HG.out.1
    try simp only [World.alloc_size] at z3
    exact ⟨g, capn, rfl, by omega, HG.out.2, HF.out.1, HF.out.2⟩
end Go.Proofs.YthokdbcpkmcieaaGreat
namespace Go.Proofs.YthokdbcpkmcieaaGreat
open Go Go.RowKit
/-- One byte more (or two) in the frame. -/
def AppEnd (w : World) (base : Nat) (v : Value) (l : List UInt8) (e : Ending) (w' : World) : Prop :=
  ∃ v', e = .returned v' ∧ w'.ownsRow base 5 1 v' l.length (byteVs l) ∧ w.grownBy w' v.ownBlock ∧ ∀ j, v'.ownBlock = some j → v.ownBlock = some j ∨ w.heap.size ≤ j
theorem app_end {w wn : World} {base n k : Nat} {v v' : Value} {l t : List UInt8} {o : Obj} {vs : List Value} (hn : l.length = n) (hk : t.length = k) (hvs : byteVs t = vs) (hown : wn.ownsRow base 5 1 v' (n + k) (byteVs l ++ vs)) (hgr : (w.alloc o).grownBy wn v.ownBlock) (hloc : v'.ownBlock = v.ownBlock ∨ v'.ownBlock = some (w.alloc o).heap.size) :
    wn.ownsRow base 5 1 v' (l ++ t).length (byteVs (l ++ t)) ∧ w.grownBy wn v.ownBlock ∧ ∀ j, v'.ownBlock = some j → v.ownBlock = some j ∨ w.heap.size ≤ j := by
  refine ⟨?_, ?_, ?_⟩
  · rw [byteVs_append, hvs, List.length_append, hn, hk]; exact hown
  · have hz := hgr.size
    rw [World.alloc_size] at hz
    exact ⟨hgr.os, hgr.tape, hgr.output, by omega, fun j hj hne => by rw [hgr.block j (by rw [World.alloc_size]; omega) hne, Below.heap_alloc _ _ _ hj]⟩
  · intro j hj
    rcases hloc with h | h
    · left; rw [← h]; exact hj
    · right
      rw [h] at hj
      simp only [Option.some.injEq, World.alloc_size] at hj
      omega
set_option maxRecDepth 100000 in
set_option maxHeartbeats 2000000 in
theorem appendWritten_any (w : World) (base : Nat) (v : Value) (l : List UInt8) (b : UInt8) (hown : w.ownsRow base 5 1 v l.length (byteVs l)) (hl : l.length ≤ 100000) (hbase : base ≤ w.heap.size) :
    Calls Tryz.prog 109 #[v, .int .u8 (b.toNat : Int)] w (AppEnd w base v (l ++ esc1 b)) := by
  obtain ⟨i0, hi, hz0, hz1, hz2⟩ := info_of Tryz.infoU8
  obtain ⟨va, vm, vc, rfl⟩ := slice_ofR hown
  have HO := hideIt hown
  obtain ⟨n, hn⟩ : ∃ n, l.length = n := ⟨_, rfl⟩
  rw [hn] at HO
  clear hown
  by_cases hb : isB b = true
  · have he : esc1 b = [125, b ^^^ 32] := by unfold esc1; rw [if_pos hb]
    have HX := hideIt (xor_byte b)
    rw [he]
    clear he
    go_enter Tryz.func109, Tryz.ntmps109
    go_wp2_with fail
    refine (needsEscape_any b _).mono ?_
    rintro e w1 ⟨rfl, rfl⟩
    rw [hb]
    go_wp2_with (first | (refine wpList_buildRow rfl 24 5 2 _ rfl [.const (.int .u8 125), .tmp 9] [.int .u8 125, .int .u8 (bits BinOp.xor IntKind.u8 (b.toNat : Int) 32)] rfl rfl (ints_one .u8 [125, bits BinOp.xor IntKind.u8 (b.toNat : Int) 32]) i0 (.int .u8 0) Tryz.underlying24 hi hz0 hz1 rfl (by decide) (by decide) ?_; simp only [Act.put, List.setIfInBounds_toArray, List.set_cons_succ, List.set_cons_zero]) | (at_builtin; refine wpList_append_own_at _ rfl _ _ 24 rfl base 5 i0 _ 1 1 Tryz.underlying24 hi hz0 hz1 hz2 rfl (by decide) _ n _ rfl (HO.out.alloc _) ⟨w1.heap.size, 0, none⟩ 2 2 [.int .u8 125, .int .u8 (bits BinOp.xor IntKind.u8 (b.toNat : Int) 32)] rfl rfl (cells_new _ _ _) (by intro u hu; simp at hu; rcases hu with rfl | rfl <;> rfl) (by unfold maxLen; omega) (by omega) (by rw [World.alloc_size]; omega) ?_; intro v' wn hown hgr _ hloc; obtain ⟨a', n', c', rfl⟩ := slice_ofR hown))
    have HE := hideIt (app_end (l := l) (t := [125, b ^^^ 32]) (k := 2) hn rfl (by simp only [byteVs, List.map_cons, List.map_nil]; rw [HX.out]; rfl) hown hgr hloc)
    clear hown hgr hloc
    go_wp2
    go_ret
    exact ⟨_, rfl, HE.out⟩
  · have he : esc1 b = [b] := by unfold esc1; rw [if_neg hb]
    have hbf : isB b = false := by simpa using hb
    rw [he]
    clear he
    go_enter Tryz.func109, Tryz.ntmps109
    go_wp2_with fail
    refine (needsEscape_any b _).mono ?_
    rintro e w1 ⟨rfl, rfl⟩
    rw [hbf]
    go_wp2_with (at_builtin; refine wpList_append_own_at _ rfl _ _ 24 rfl base 5 i0 _ 1 1 Tryz.underlying24 hi hz0 hz1 hz2 rfl (by decide) _ n _ rfl (HO.out.alloc _) ⟨w1.heap.size, 0, none⟩ 1 1 [.int .u8 (b.toNat : Int)] rfl rfl (cell_one_new _ _ _) (by intro u hu; simp at hu; subst hu; rfl) (by unfold maxLen; omega) (by omega) (by rw [World.alloc_size]; omega) ?_; intro v' wn hown hgr _ hloc; obtain ⟨a', n', c', rfl⟩ := slice_ofR hown)
    have HE := hideIt (app_end (l := l) (t := [b]) (k := 1) hn rfl rfl hown hgr hloc)
    clear hown hgr hloc
    go_wp2
    go_ret
    exact ⟨_, rfl, HE.out⟩
theorem conv_row {w : World} {base g n cap : Nat} {l : List UInt8} (hn : l.length = n) (h : w.ownsRow base 5 1 (.slice (some ⟨g, 0, none⟩) n cap) n (byteVs l)) : (convert 24 9 (.slice (some ⟨g, 0, none⟩) n cap)).run Tryz.prog w = .ok (.string (txt l)) w := by
  have hb := own_bytes h
  have := run_convert_bytes_back (P := Tryz.prog) w 24 9 5 ⟨g, 0, none⟩ cap l Tryz.underlying24 Tryz.underlying5 Tryz.underlying9 (fun j hj => by
    have hc := hb j hj
    rw [List.getD_eq_getElem?_getD, List.getElem?_eq_getElem hj] at hc
    rw [Addr.add_lit]
    exact hc)
  rw [hn] at this
  exact this
theorem own_first (w : World) (base : Nat) (hb : base ≤ w.heap.size) (x : UInt8) : (w.alloc (.cells #[.int .u8 (x.toNat : Int)] 5)).ownsRow base 5 1 (.slice (some ⟨w.heap.size, 0, none⟩) 1 1) 1 (byteVs [x]) :=
  ⟨rfl, .inr ⟨w.heap.size, 1, _, rfl, hb, heap_alloc_new w _, by decide, by decide, rfl, rfl⟩⟩
set_option maxRecDepth 100000 in
set_option maxHeartbeats 2000000 in
theorem frame_bad (m : ByteArray) (w : World) (hm : m.size < 1 ∨ 80 < m.size) (hx : m.size ≤ 4000000) :
    Calls Tryz.prog 92 #[.string m] w fun e w' => e = .returned (.tuple #[.string ⟨#[]⟩, .int .i64 8]) ∧ w' = w := by
  by_cases h1 : m.size < 1
  · have h2 : (m.size : Int) < 1 := by omega
    go_enter Tryz.func92, Tryz.ntmps92
    go_wp2
    go_ret2
    exact ⟨rfl, rfl⟩
  · have h2 : decide ((m.size : Int) < 1) = false := by simp; omega
    have h3 : (80 : Int) < (m.size : Int) := by omega
    go_enter Tryz.func92, Tryz.ntmps92
    go_wp2
    go_ret2
    exact ⟨rfl, rfl⟩
set_option maxRecDepth 100000 in
set_option maxHeartbeats 4000000 in
theorem frame_any (m : ByteArray) (w : World) (hm1 : 1 ≤ m.size) (hm2 : m.size ≤ 80) :
    Calls Tryz.prog 92 #[.string m] w fun e w' => e = .returned (.tuple #[.string (txt (frameF m.data.toList)), .int .i64 0]) ∧ Below w.heap.size w w' := by
  obtain ⟨i0, hi, hz0, hz1, hz2⟩ := info_of Tryz.infoU8
  have hlen : m.data.toList.length = m.size := by rw [Array.length_toList]; rfl
  have h2 : decide ((m.size : Int) < 1) = false := by simp; omega
  have h3 : decide ((80 : Int) < (m.size : Int)) = false := by simp; omega
  obtain ⟨l, hl⟩ : ∃ l, m.data.toList = l := ⟨_, rfl⟩
  obtain ⟨cs, hcs⟩ : ∃ cs, l ++ chkB l = cs := ⟨_, rfl⟩
  have hcl : cs.length = m.size + 2 := by rw [← hcs, List.length_append, ← hl, hlen]; rfl
  have HF := hideIt (show frameF m.data.toList = 126 :: (escL cs ++ [126]) by rw [hl, ← hcs]; rfl)
  have HC := hideIt (checked_any m (w.alloc (.cells #[.int .u8 126] 5)) (by omega))
  rw [hl, hcs] at HC
  clear hl hcs hlen
  go_enter Tryz.func92, Tryz.ntmps92
  go_wp2_with fail
  refine HC.out.mono ?_
  rintro e w1 ⟨g, cap, rfl, hg1, hg2, hb, hB⟩
  have HO := hideIt (own_first w w.heap.size (Nat.le_refl _) 126)
  have hO1 : w1.ownsRow w.heap.size 5 1 (.slice (some ⟨w.heap.size, 0, none⟩) 1 1) 1 (byteVs [126]) := own_atE HO.out (fun j hj => hB.block j ((HO.out.lt j hj).2))
  have hBw : Below w.heap.size w w1 := ((Below.refl w.heap.size w).alloc (Nat.le_refl _) _).trans (by have := hB.mono (B' := w.heap.size) (by rw [World.alloc_size]; omega); exact ⟨this.os, this.tape, this.output, this.size, this.block⟩)
  rw [World.alloc_size] at hg1
  have HI := hideIt (And.intro hb (And.intro hO1 (And.intro hBw (And.intro hg1 hg2))))
  clear HO hO1 hBw hb hB hg1 hg2
  go_wp2_with fail
  go_loopw [4, 19] (fun v i wr => ∃ k : Nat, k ≤ m.size + 2 ∧ i = .int .i64 k ∧ wr.ownsRow w.heap.size 5 1 v (126 :: escL (cs.take k)).length (byteVs (126 :: escL (cs.take k))) ∧ BytesAt wr g 0 cs ∧ v.ownBlock ≠ some g ∧ g < wr.heap.size ∧ Below w.heap.size w wr) (fun _ i _ => m.size + 2 - (intOf i).toNat)
  case atStart =>
    obtain ⟨a1, a2, a3, a4, a5⟩ := HI.out
    exact ⟨0, Nat.zero_le _, rfl, a2, a1, by simp [Value.ownBlock]; omega, a5, a3⟩
  case round =>
    obtain ⟨k, hk, rfl, hO, hb, hne, hgl, hB⟩ := hrel
    have hel := escL_len (cs.take k)
    rw [List.length_take] at hel
    by_cases hlt : k < m.size + 2
    · have c1 := hb k (by omega)
      obtain ⟨b, hbb⟩ : ∃ b, cs.getD k 0 = b := ⟨_, rfl⟩
      rw [hbb, Nat.zero_add] at c1
      have hN : (126 :: escL (cs.take k)) ++ esc1 b = 126 :: escL (cs.take (k + 1)) := by rw [take_succ cs k (by omega), escL_snoc, hbb]; rfl
      have HA := hideIt (fun w' v (h : w'.ownsRow w.heap.size 5 1 v (126 :: escL (cs.take k)).length (byteVs (126 :: escL (cs.take k)))) => appendWritten_any w' w.heap.size v (126 :: escL (cs.take k)) b h (by simp; omega))
      rw [hN] at HA
      have HO := hideIt hO
      have HQ := hideIt (And.intro hb (And.intro hne (And.intro hgl hB)))
      have hsz := hB.size
      obtain ⟨va, vm, vc, rfl⟩ := slice_ofR hO
      clear hO hb hne hgl hB hN hbb
      go_wp2_with fail
      refine (HA.out _ _ HO.out hsz).mono ?_
      rintro e w2 ⟨v2, rfl, hO2, hG2, hL2⟩
      obtain ⟨va2, vm2, vc2, rfl⟩ := slice_ofR hO2
      have HR := hideIt (And.intro hO2 (And.intro hG2 hL2))
      clear hO2 hG2 hL2
      go_wp2
      go_roundw
      case rel =>
        obtain ⟨q1, q2, q3, q4⟩ := HQ.out
        obtain ⟨r1, r2, r3⟩ := HR.out
        refine ⟨k + 1, by omega, by go_num, r1, q1.kept (r2.block g q3 (fun e => q2 e.symm)), ?_, Nat.lt_of_lt_of_le q3 r2.size, ?_⟩
        · intro e
          rcases r3 g e with h | h
          · exact q2 h
          · omega
        · refine ⟨r2.os.trans q4.os, r2.tape.trans q4.tape, r2.output.trans q4.output, Nat.le_trans q4.size r2.size, fun j hj => ?_⟩
          rw [r2.block j (Nat.lt_of_lt_of_le hj q4.size) (fun e => by have := (HO.out.lt j e.symm).1; omega), q4.block j hj]
      case measure => simp [intOf]; omega
    · have hkk : k = m.size + 2 := by omega
      rw [hkk, ← hcl, List.take_length] at hO
      have hel2 := escL_len cs
      obtain ⟨F, hF⟩ : ∃ F, 126 :: escL cs = F := ⟨_, rfl⟩
      rw [hF] at hO
      have hFl : F.length ≤ 1000 := by rw [← hF]; simp; omega
      have HFF := hideIt (show frameF m.data.toList = F ++ [126] by rw [HF.out, ← hF]; rfl)
      obtain ⟨n, hn⟩ : ∃ n, F.length = n := ⟨_, rfl⟩
      rw [hn] at hO hFl
      have HO := hideIt hO
      have HB := hideIt hB
      have hsz := hB.size
      obtain ⟨va, vm, vc, rfl⟩ := slice_ofR hO
      clear hO hb hne hgl hB hF hel hel2
      go_wp2_with (at_builtin; refine wpList_append_own_at _ rfl _ _ 24 rfl w.heap.size 5 i0 _ 1 1 Tryz.underlying24 hi hz0 hz1 hz2 rfl (by decide) _ n _ rfl (HO.out.alloc _) ⟨wr.heap.size, 0, none⟩ 1 1 [.int .u8 126] rfl rfl (cell_one_new _ _ _) (by intro u hu; simp at hu; subst hu; rfl) (by unfold maxLen; omega) (by omega) (by rw [World.alloc_size]; omega) ?_; intro v' wn hown hgr _ hloc; obtain ⟨g', c', rfl, hg1, hg2⟩ := own_some hown (by omega); have hcv := conv_row (l := F ++ [126]) (n := n + 1) (by rw [List.length_append, hn]; rfl) (by rw [byteVs_append]; exact hown))
      go_ret2
      rw [HFF.out]
      refine ⟨rfl, ?_⟩
      have q4 := HB.out
      have hz := hgr.size
      rw [World.alloc_size] at hz
      refine ⟨hgr.os.trans q4.os, hgr.tape.trans q4.tape, hgr.output.trans q4.output, by omega, fun j hj => ?_⟩
      rw [hgr.block j (by rw [World.alloc_size]; omega) (fun e => by have := (HO.out.lt j e.symm).1; omega), Below.heap_alloc _ _ _ (by omega), q4.block j hj]
end Go.Proofs.YthokdbcpkmcieaaGreat
namespace Go.Proofs.YthokdbcpkmcieaaGreat
open Go Go.RowKit
def zeroEar : Array Value := #[.int .i64 0] ++ Array.replicate 82 (.int .u8 0) ++ #[.int .i64 0]
theorem run_zero {P : Program} {t : TypeId} {z : Value} (h : (P.info? t).map (fun i => i.zero) = some (some z)) (w : World) : (zeroValue t).run P w = .ok z w := by
  cases hi : P.info? t with
  | none => rw [hi] at h; cases h
  | some i =>
    rw [hi] at h
    simp at h
    simp [zeroValue, typeInfo, hi, h]
theorem zeroEar_at (w : World) (t : TypeId) : EarAt (w.alloc (.cells zeroEar t)) w.heap.size ⟨0, []⟩ := by
  have hc : ∀ j, (w.alloc (.cells zeroEar t)).cell? ⟨w.heap.size, j, none⟩ = zeroEar[j]? := fun j => World.cell?_alloc_mark w zeroEar t (0, 0) j
  have hs : zeroEar.size = 84 := by decide
  refine ⟨?_, ?_, fun i hi => ?_, fun i hi => by simp at hi, fun j => ?_, by simp, ⟨(by decide : 0 ≤ 2), by simp⟩⟩
  · rw [hc]; rfl
  · rw [hc]; rfl
  · rw [hc, Array.getElem?_eq_getElem (by omega)]; exact ⟨_, rfl⟩
  · rw [World.frozen?_alloc_mark w zeroEar t 0 0 j]; simp
end Go.Proofs.YthokdbcpkmcieaaGreat
namespace Go.Proofs.YthokdbcpkmcieaaGreat
open Go Go.RowKit
theorem baE_drop (s : ByteArray) (k : Nat) : (s.extract k s.size).data.toList = s.data.toList.drop k := by
  rw [ByteArray.data_extract, Array.toList_extract]
  have h : s.size = s.data.toList.length := (Array.length_toList (xs := s.data)).symm
  rw [h, List.extract_eq_take_drop, List.take_of_length_le]
  rw [List.length_drop]
  exact Nat.le_refl _
theorem baE_take (s : ByteArray) (k : Nat) : (s.extract 0 k).data.toList = s.data.toList.take k := by
  rw [ByteArray.data_extract, Array.toList_extract, List.extract_eq_take_drop]
  simp
/-- append of one row of the call's own to another. -/
theorem wpList_append_row {P : Program} {w : World} {ops : Array Oper} {rest : List Oper} {o : Oper} {a : Act} {Q : Exit → Act → World → Prop} (hgd : o.guard = none) (s x : Operand) (t : TypeId)
    (ho : o.op = .call { callee := .builtin .append, args := #[s, x], argTypes := #[t, t] })
    (base : Nat) (e : TypeId) (i : TypeInfo) (z : Value) (bytes : Nat) (ht : P.underlying t = some (.slice e)) (hi : P.info? e = some i) (hz : i.zero = some z) (hsize : i.size = 1) (hby : i.bytes = bytes) (hzs : z.cells.size = 1)
    (v : Value) (n : Nat) (xs : List Value) (hs : a.eval s = v) (hown : w.ownsRow base e 1 v n xs)
    (b2 : Nat) (v2 : Value) (n2 : Nat) (ys : List Value) (hx : a.eval x = v2) (hown2 : w.ownsRow b2 e 1 v2 n2 ys) (h1 : ∀ u ∈ ys, u.oneCell' = true)
    (h63 : n + n2 ≤ maxLen) (hbytes : (n + n2) * bytes ≤ 140737488355328) (hbase : base ≤ w.heap.size)
    (h : ∀ v' w', w'.ownsRow base e 1 v' (n + n2) (xs ++ ys) → w.grownBy w' v.ownBlock → (v'.ownBlock = v.ownBlock ∨ v'.ownBlock = some w.heap.size) → wpList P ops Q rest (a.put o.dst v') w') : wpList P ops Q (o :: rest) a w := by
  have hown3 := hown2
  rcases hown2 with ⟨hl, ⟨rfl, rfl⟩ | ⟨g, cap, cur, rfl, hg, h3, h4⟩⟩
  · obtain rfl : ys = [] := List.eq_nil_of_length_eq_zero (by simpa using hl)
    refine wpList_append_own_none hgd s x t ho base e i 1 ht hi v n xs hs hown hx (h v w (by simpa using hown) ⟨rfl, rfl, rfl, Nat.le_refl _, fun _ _ _ => rfl⟩ (.inl rfl))
  · refine wpList_append_own_at w hgd s x t ho base e i z 1 bytes ht hi hz hsize hby hzs (by decide) v n xs hs hown ⟨g, 0, none⟩ n2 cap ys hx (by simpa using hl) (hown3.cells (g := g) rfl) h1 h63 hbytes hbase (fun v' w' r1 r2 _ r4 => h v' w' r1 r2 r4)
theorem strs_one (l : List (List UInt8)) : ∀ u ∈ strs l, u.oneCell' = true := by
  intro u hu
  obtain ⟨m, _, rfl⟩ := List.mem_map.1 hu
  rfl
theorem strs_len (l : List (List UInt8)) : (strs l).length = l.length := by simp [strs]
theorem strs_append (a b : List (List UInt8)) : strs (a ++ b) = strs a ++ strs b := by simp [strs]
theorem frameF_len (l : List UInt8) : 2 ≤ (frameF l).length ∧ (frameF l).length ≤ 2 * l.length + 6 := by
  have := escL_len (l ++ chkB l)
  have hc : (l ++ chkB l).length = l.length + 2 := by simp [chkB]
  rw [hc] at this
  simp [frameF]
  omega
theorem txt_size (l : List UInt8) : (txt l).size = l.length := by simp [txt, ByteArray.size]
theorem txt_toList (l : List UInt8) : (txt l).data.toList = l := by simp [txt]
theorem txt_ba (s : ByteArray) : txt s.data.toList = s := by simp [txt]
/-- The ear, what has come out and what is still to be heard. -/
structure FR (w wr : World) (eb base : Nat) (m : List UInt8) (A : ByteArray) (st : EarS) (out : List (List UInt8)) (v : Value) : Prop where
  ear : EarAt wr eb st
  row : wr.ownsRow base 9 1 v out.length (strs out)
  all : out ++ (hearF st A.data.toList).2 = [m, m]
  sz : A.size ≤ 1000
  below : Below w.heap.size w wr
  bs : base ≤ wr.heap.size
  eb1 : w.heap.size ≤ eb
  eb2 : eb < base
theorem isEmpty_iffE (r : ByteArray) : r.toList.isEmpty = decide (r.size = 0) := by
  rw [ByteArray.toList_eq]
  have h : r.size = r.data.toList.length := (Array.length_toList (xs := r.data)).symm
  rw [h]
  cases r.data.toList with
  | nil => rfl
  | cons x l => rfl
theorem grown_below {w w1 w2 : World} {eb : Nat} (h : Below w.heap.size w w1) (hg : w1.grownBy w2 (some eb)) (he : w.heap.size ≤ eb) : Below w.heap.size w w2 :=
  ⟨hg.os.trans h.os, hg.tape.trans h.tape, hg.output.trans h.output, Nat.le_trans h.size hg.size, fun j hj => by rw [hg.block j (Nat.lt_of_lt_of_le hj h.size) (by simp; omega), h.block j hj]⟩
theorem two_rows {w : World} {base : Nat} {v : Value} {m : List UInt8} (h : w.ownsRow base 9 1 v 2 (strs [m, m])) : ∃ g cap, v = .slice (some ⟨g, 0, none⟩) 2 cap ∧ w.cell? ⟨g, 0, none⟩ = some (.string (txt m)) ∧ w.cell? ⟨g, 1, none⟩ = some (.string (txt m)) := by
  obtain ⟨g, cap, rfl, _⟩ := own_some h (by decide)
  refine ⟨g, cap, rfl, ?_, ?_⟩
  · have := h.cells (g := g) rfl 0 _ rfl
    rwa [Addr.add_lit, Nat.zero_add] at this
  · have := h.cells (g := g) rfl 1 _ rfl
    rwa [Addr.add_lit, Nat.zero_add] at this
end Go.Proofs.YthokdbcpkmcieaaGreat
