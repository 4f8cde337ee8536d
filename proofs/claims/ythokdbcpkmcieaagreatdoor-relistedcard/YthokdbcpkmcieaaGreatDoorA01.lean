/- A straight list of operations that meets no call is run by the kernel: the frame's one slot that is read later, and the world behind it. Walks of the assembler's smallest functions: digits, letters, how long a word is, capitals. The walk of capitals. Walks of strings.Trim at a set of ASCII bytes: what is left is nothing just where all bytes are of the set. The walk of ways: the array of method expressions. -/
import Derived.WalkKit
import Derived.KernelRfl
import Derived.Test.YthokdbcpkmcieaaGreatDoorRows
import Derived.WalkSpells
import Derived.WalkLawsBesides
import Derived.Laws.BytesArg
import Derived.OwnWalk
import Derived.Laws.IdiomStrings
import Derived.Test.YthokdbcpkmcieaaGreatDoorShelf2
import Derived.Deep.WholeRow
namespace Go.Proofs.YthokdbcpkmcieaaGreatDoor
open Go Go.RowKit
theorem hideIt {p : Prop} (h : p) : Hid p := h
/-- The operations one after the other, as long as each gives a value. -/
def runOps (P : Program) (ops : Array Oper) : List Oper → Act → World → Option (Act × World)
  | [], a, w => some (a, w)
  | o :: rest, a, w =>
    match Region.wanted o (yielded ops a.tmps) with
    | true => match (execOp a.eval o).run P w with
      | .ok (.value v) w' => runOps P ops rest (a.put o.dst v) w'
      | .ok .skip w' => runOps P ops rest (a.put o.dst undef) w'
      | _ => none
    | false => runOps P ops rest (a.put o.dst undef) w
theorem wpList_run {P : Program} {ops : Array Oper} {Q : Exit → Act → World → Prop} : ∀ (l : List Oper) (a : Act) (w : World) (a' : Act) (w' : World), runOps P ops l a w = some (a', w') → Q .normal a' w' → wpList P ops Q l a w
  | [], a, w, a', w', h, hq => by
    simp only [runOps, Option.some.injEq, Prod.mk.injEq] at h
    obtain ⟨rfl, rfl⟩ := h
    exact hq
  | o :: rest, a, w, a', w', h, hq => by
    unfold wpList
    unfold runOps at h
    cases hw : Region.wanted o (yielded ops a.tmps) with
    | true =>
      rw [hw] at h
      simp only at h
      rw [if_pos rfl]
      refine .inl ?_
      unfold Oper.wp
      cases hr : (execOp a.eval o).run P w with
      | ok n w1 =>
        rw [hr] at h
        cases n with
        | value v => exact wpList_run rest _ _ a' w' h hq
        | skip => exact wpList_run rest _ _ a' w' h hq
        | _ => simp at h
      | halt x w1 => rw [hr] at h; simp at h
    | false =>
      rw [hw] at h
      simp only at h
      rw [if_neg (by simp)]
      exact wpList_run rest _ _ a' w' h hq
/-- Straight code: regions of a fixed order, one after the other, up to the return. -/
def runCode (P : Program) : Code → Act → World → Option (Bool × Act × World)
  | .seq x y, a, w => match runCode P x a w with
    | some (false, a', w') => runCode P y a' w'
    | r => r
  | .region _ ops false, a, w => match runOps P ops ops.toList a w with
    | some (a', w') => some (false, a', w')
    | none => none
  | .skip, a, w => some (false, a, w)
  | .ret, a, w => some (true, a, w)
  | _, _, _ => none
theorem wp_run {P : Program} {Q : Exit → Act → World → Prop} : ∀ (c : Code) (a : Act) (w : World) (b : Bool) (a' : Act) (w' : World), runCode P c a w = some (b, a', w') → Q (match b with | true => .ret | false => .normal) a' w' → c.wp P Q a w
  | .seq x y, a, w, b, a', w', h, hq => by
    unfold runCode at h
    refine wp_seq ?_
    cases hx : runCode P x a w with
    | none => rw [hx] at h; simp at h
    | some r =>
      obtain ⟨b1, a1, w1⟩ := r
      rw [hx] at h
      cases b1 with
      | false => exact wp_run x a w false a1 w1 hx (wp_run y a1 w1 b a' w' h hq)
      | true =>
        simp only [Option.some.injEq, Prod.mk.injEq] at h
        obtain ⟨rfl, rfl, rfl⟩ := h
        exact wp_run x a w true _ _ hx hq
  | .region i ops false, a, w, b, a', w', h, hq => by
    unfold runCode at h
    refine wp_region_list ?_
    cases hx : runOps P ops ops.toList a w with
    | none => rw [hx] at h; simp at h
    | some r =>
      rw [hx] at h
      simp only [Option.some.injEq, Prod.mk.injEq] at h
      obtain ⟨rfl, rfl, rfl⟩ := h
      exact wpList_run _ a w r.1 r.2 hx hq
  | .skip, a, w, b, a', w', h, hq => by
    simp only [runCode, Option.some.injEq, Prod.mk.injEq] at h
    obtain ⟨rfl, rfl, rfl⟩ := h
    exact wp_skip hq
  | .ret, a, w, b, a', w', h, hq => by
    simp only [runCode, Option.some.injEq, Prod.mk.injEq] at h
    obtain ⟨rfl, rfl, rfl⟩ := h
    exact wp_ret hq
  | .region _ _ true, _, _, _, _, _, h, _ => by simp [runCode] at h
  | .cond .., _, _, _, _, _, h, _ => by simp [runCode] at h
  | .block .., _, _, _, _, _, h, _ => by simp [runCode] at h
  | .loop .., _, _, _, _, _, h, _ => by simp [runCode] at h
  | .rangeFunc .., _, _, _, _, _, h, _ => by simp [runCode] at h
  | .exit .., _, _, _, _, _, h, _ => by simp [runCode] at h
  | .scope .., _, _, _, _, _, h, _ => by simp [runCode] at h
  | .label .., _, _, _, _, _, h, _ => by simp [runCode] at h
  | .goto .., _, _, _, _, _, h, _ => by simp [runCode] at h
  | .refuse .., _, _, _, _, _, h, _ => by simp [runCode] at h
/-- A function of straight code, called: what it returns and the world behind it, by a run. -/
theorem calls_run {P : Program} {f : FuncId} {fn : Func} {c : Code} {args : Array Value} {w : World} {R : Ending → World → Prop} (v : Value) (w' : World)
    (hf : P.funcs[f]? = some fn) (hb : fn.body = some c)
    (h : ((runCode P c { tmps := args ++ Array.replicate (fn.ntmps - args.size) undef, defers := [] } w).bind fun p => match p.2.1.defers, (results fn p.2.1.tmps).run P p.2.2 with
      | [], .ok v w2 => some (v, w2, p.2.2)
      | _, _ => none) = some (v, w', w'))
    (hR : R (.returned v) w') : Calls P f args w R := by
  refine calls_of_wp hf hb ?_
  cases hr : runCode P c { tmps := args ++ Array.replicate (fn.ntmps - args.size) undef, defers := [] } w with
  | none => rw [hr] at h; simp at h
  | some p =>
    obtain ⟨b, a1, w1⟩ := p
    rw [hr] at h
    simp only [Option.bind_some] at h
    cases hd : a1.defers with
    | cons d ds => rw [hd] at h; simp at h
    | nil =>
      rw [hd] at h
      cases hs : (results fn a1.tmps).run P w1 with
      | halt x w2 => rw [hs] at h; simp at h
      | ok v2 w2 =>
        rw [hs] at h
        simp only [Option.some.injEq, Prod.mk.injEq] at h
        obtain ⟨rfl, rfl, rfl⟩ := h
        refine wp_run c _ _ b a1 _ hr ?_
        cases b with
        | true => exact ⟨hd, _, hs, hR⟩
        | false => exact ⟨hd, _, hs, hR⟩
end Go.Proofs.YthokdbcpkmcieaaGreatDoor
namespace Go.Proofs.YthokdbcpkmcieaaGreatDoor
open Go Go.RowKit
def isD (c : UInt8) : Bool := decide (48 ≤ c.toNat) && decide (c.toNat ≤ 57)
def isW (c : UInt8) : Bool := isD c || (decide (65 ≤ c.toNat) && decide (c.toNat ≤ 90)) || decide (c.toNat = 95)
def capB (c : UInt8) : UInt8 := if 97 ≤ c.toNat ∧ c.toNat ≤ 122 then c - 32 else c
def capS (s : ByteArray) : ByteArray := ⟨s.data.map capB⟩
/-- How many bytes of a word a text begins with. -/
def runN (l : List UInt8) : Nat := (l.takeWhile isW).length
set_option maxHeartbeats 400000 in
theorem isDigit_any (c : UInt8) (w : World) :
    Calls Tryz.prog 204 #[.int .u8 (c.toNat : Int)] w fun e w' => e = .returned (.bool (isD c)) ∧ w' = w := by
  by_cases h1 : (48 : Int) ≤ (c.toNat : Int)
  · by_cases h2 : (c.toNat : Int) ≤ (57 : Int)
    · have e : isD c = true := by simp [isD]; omega
      rw [e]
      go_enter Tryz.func204, Tryz.ntmps204
      go_wp2
      go_ret
      simp
    · have e : isD c = false := by simp [isD]; omega
      rw [e]
      go_enter Tryz.func204, Tryz.ntmps204
      go_wp2
      go_ret
      simp
  · have e : isD c = false := by simp [isD]; omega
    rw [e]
    go_enter Tryz.func204, Tryz.ntmps204
    go_wp2
    go_ret
    simp
theorem beq_dec (a b : Int) : (a == b) = decide (a = b) := by by_cases h : a = b <;> simp [h]
theorem isW_of_digit (c : UInt8) (h : isD c = true) : isW c = true := by simp [isW, h]
set_option maxHeartbeats 1000000 in
theorem isOfWord_any (c : UInt8) (w : World) :
    Calls Tryz.prog 206 #[.int .u8 (c.toNat : Int)] w fun e w' => e = .returned (.bool (isW c)) ∧ w' = w := by
  have HD := hideIt (isDigit_any c)
  cases hd : isD c with
  | true =>
    have e : isW c = true := by simp [isW, hd]
    rw [e]
    rw [hd] at HD
    go_enter Tryz.func206, Tryz.ntmps206
    go_wp2_with (refine (HD.out _).mono ?_; rintro e w1 ⟨rfl, rfl⟩)
    go_ret
    simp
  | false =>
    rw [hd] at HD
    have hde : isW c = ((decide ((65 : Int) ≤ (c.toNat : Int)) && decide ((c.toNat : Int) ≤ 90)) || decide ((c.toNat : Int) = 95)) := by
      simp only [isW, hd, Bool.false_or]
      congr 1
      · congr 1 <;> (simp only [decide_eq_decide]; omega)
      · simp only [decide_eq_decide]; omega
    rw [hde]
    by_cases h1 : (65 : Int) ≤ (c.toNat : Int)
    · by_cases h2 : (c.toNat : Int) ≤ (90 : Int)
      · go_enter Tryz.func206, Tryz.ntmps206
        go_wp2_with (refine (HD.out _).mono ?_; rintro e w1 ⟨rfl, rfl⟩)
        go_ret
        refine ⟨?_, by simp⟩
        simp [h1, h2]
      · go_enter Tryz.func206, Tryz.ntmps206
        go_wp2_with (refine (HD.out _).mono ?_; rintro e w1 ⟨rfl, rfl⟩)
        go_ret
        refine ⟨?_, by simp⟩
        simp [h1, beq_dec]
    · go_enter Tryz.func206, Tryz.ntmps206
      go_wp2_with (refine (HD.out _).mono ?_; rintro e w1 ⟨rfl, rfl⟩)
      go_ret
      refine ⟨?_, by simp⟩
      have h3 : ¬ (65 : Int) ≤ (c.toNat : Int) := by omega
      simp [h3, beq_dec]
/-- One more byte of a word. -/
theorem runN_take (l : List UInt8) : ∀ (k : Nat), (∀ j, j < k → ∃ c, l[j]? = some c ∧ isW c = true) → k ≤ runN l := by
  induction l with
  | nil =>
    intro k h
    cases k with
    | zero => simp
    | succ k => obtain ⟨c, hc, _⟩ := h 0 (by omega); simp at hc
  | cons x l ih =>
    intro k h
    cases k with
    | zero => simp
    | succ k =>
      obtain ⟨c, hc, hw⟩ := h 0 (by omega)
      simp at hc
      subst hc
      have := ih k (fun j hj => by
        obtain ⟨c, hc, hw⟩ := h (j + 1) (by omega)
        exact ⟨c, by simpa using hc, hw⟩)
      simp only [runN, List.takeWhile_cons, hw, if_true, List.length_cons] at this ⊢
      omega
theorem runN_stop (l : List UInt8) : ∀ (k : Nat), (∀ j, j < k → ∃ c, l[j]? = some c ∧ isW c = true) → (∀ c, l[k]? = some c → isW c = false) → runN l = k := by
  induction l with
  | nil =>
    intro k h _
    cases k with
    | zero => rfl
    | succ k => obtain ⟨c, hc, _⟩ := h 0 (by omega); simp at hc
  | cons x l ih =>
    intro k h hn
    cases k with
    | zero =>
      have := hn x (by simp)
      simp [runN, this]
    | succ k =>
      obtain ⟨c, hc, hw⟩ := h 0 (by omega)
      simp at hc
      subst hc
      have := ih k (fun j hj => by
        obtain ⟨c, hc, hw⟩ := h (j + 1) (by omega)
        exact ⟨c, by simpa using hc, hw⟩) (fun c hc => hn c (by simpa using hc))
      simp only [runN, List.takeWhile_cons, hw, if_true, List.length_cons] at this ⊢
      omega
theorem ba_get (s : ByteArray) (k : Nat) (h : k < s.size) : s.data.toList[k]? = some s[k] := by
  have h' : k < s.data.size := h
  rw [Array.getElem?_toList, Array.getElem?_eq_getElem h']
  rfl
set_option maxHeartbeats 1000000 in
theorem runLength_any (s : ByteArray) (w : World) (hs : s.size ≤ 1000000) :
    Calls Tryz.prog 203 #[.string s] w fun e w' => e = .returned (.int .i64 (runN s.data.toList : Nat)) ∧ w' = w := by
  go_enter Tryz.func203, Tryz.ntmps203
  go_wp2_with fail
  go_loopw [6] (fun i wr => ∃ k : Nat, k ≤ s.size ∧ i = .int .i64 k ∧ wr = w ∧ ∀ j, j < k → ∃ c, s.data.toList[j]? = some c ∧ isW c = true) (fun i _ => s.size - (intOf i).toNat)
  case atStart => exact ⟨0, Nat.zero_le _, by simp, by simp, fun j h => by omega⟩
  case round =>
    obtain ⟨k, hk, rfl, rfl, hall⟩ := hrel
    have HA := hideIt hall
    clear hall
    by_cases hlt : k < s.size
    · have HC := hideIt (isOfWord_any s[k])
      have HG := hideIt (ba_get s k hlt)
      cases hw : isW s[k] with
      | true =>
        rw [hw] at HC
        have HW := hideIt hw
        clear hw
        go_wp2_with (refine (HC.out _).mono ?_; rintro e w1 ⟨rfl, rfl⟩)
        go_roundw
        case rel =>
          refine ⟨k + 1, by omega, by go_num, by simp, fun j hj => ?_⟩
          rcases Nat.lt_or_ge j k with h | h
          · exact HA.out j h
          · have : j = k := by omega
            subst this
            exact ⟨_, HG.out, HW.out⟩
        case measure => simp [intOf]; omega
      | false =>
        rw [hw] at HC
        have HR := hideIt (runN_stop s.data.toList k HA.out (fun c hc => by rw [HG.out] at hc; cases hc; exact hw))
        clear hw
        go_wp2_with (refine (HC.out _).mono ?_; rintro e w1 ⟨rfl, rfl⟩)
        go_ret
        rw [HR.out]
        simp
    · have hkn : k = s.size := by omega
      have HR := hideIt (runN_stop s.data.toList k HA.out (fun c hc => by
        have : k < s.data.toList.length := (List.getElem?_eq_some_iff.1 hc).1
        rw [Array.length_toList] at this
        exact absurd this (by show ¬ k < s.size; omega)))
      go_wp2
      go_ret
      rw [HR.out, hkn]
      simp
end Go.Proofs.YthokdbcpkmcieaaGreatDoor
namespace Go.Proofs.YthokdbcpkmcieaaGreatDoor
open Go Go.RowKit
theorem bytes_of (s : ByteArray) (w : World) : ∃ w1 cap, (convert 9 32 (.string s)).run Tryz.prog w = .ok (.slice (some ⟨w.heap.size, 0, none⟩) s.size cap) w1 ∧ (∀ j (h : j < s.size), w1.cell? ⟨w.heap.size, j, none⟩ = some (.int .u8 (s[j].toNat : Int))) ∧
    (∀ j, j < s.size → w1.frozen? ⟨w.heap.size, j, none⟩ = false) ∧ Below w.heap.size w w1 ∧ w1.heap.size = w.heap.size + 1 := by
  refine ⟨_, _, run_bytes_of_string w 9 32 5 s Tryz.underlying9 Tryz.underlying32 Tryz.underlying5, ?_, ?_, ?_, ?_⟩
  · intro j h
    have h' : j < s.data.size := h
    have e : (w.drew.alloc (.cells (bytesRow s (grownCap w s.size 0 5)) 5 ((bytesRow s (grownCap w s.size 0 5)).size, (bytesRow s (grownCap w s.size 0 5)).size + 1))).heap[w.heap.size]? = some (.cells (bytesRow s (grownCap w s.size 0 5)) 5 ((bytesRow s (grownCap w s.size 0 5)).size, (bytesRow s (grownCap w s.size 0 5)).size + 1)) := by
      show (w.heap.push _)[w.heap.size]? = _
      simp
    unfold World.cell?
    rw [e]
    simp only [Option.isSome_none, Bool.false_eq_true, if_false]
    unfold bytesRow
    rw [Array.getElem?_append_left (by simpa using h'), Array.getElem?_map, Array.getElem?_eq_getElem h']
    rfl
  · intro j h
    unfold World.frozen?
    have e : (w.drew.alloc (.cells (bytesRow s (grownCap w s.size 0 5)) 5 ((bytesRow s (grownCap w s.size 0 5)).size, (bytesRow s (grownCap w s.size 0 5)).size + 1))).heap[w.heap.size]? = some (.cells (bytesRow s (grownCap w s.size 0 5)) 5 ((bytesRow s (grownCap w s.size 0 5)).size, (bytesRow s (grownCap w s.size 0 5)).size + 1)) := by
      show (w.heap.push _)[w.heap.size]? = _
      simp
    rw [e]
    have : s.size ≤ (bytesRow s (grownCap w s.size 0 5)).size := by
      unfold bytesRow
      rw [Array.size_append, Array.size_map]
      show s.size ≤ s.size + _
      omega
    simp
    omega
  · exact (Below.refl _ _).drew.alloc (Nat.le_refl _) _
  · show (w.heap.push _).size = _
    simp
theorem ba_getD (s : ByteArray) (j : Nat) (h : j < s.size) : s.data.getD j 0 = s[j] := by
  have h' : j < s.data.size := h
  rw [Array.getD_eq_getD_getElem?, Array.getElem?_eq_getElem h']
  rfl
theorem addr_add (b j : Nat) : Addr.add ⟨b, 0, none⟩ j = ⟨b, j, none⟩ := by
  unfold Addr.add
  split <;> simp_all
theorem capS_list (s : ByteArray) : (⟨(s.data.toList.map capB).toArray⟩ : ByteArray) = capS s := by
  unfold capS
  rw [← Array.toList_map]
/-- The byte at a place while capitals are made: the first k are done. -/
def capAt (s : ByteArray) (k j : Nat) : UInt8 := if j < k then capB (s.data.getD j 0) else s.data.getD j 0
theorem cap_num (c : UInt8) (h : 97 ≤ c.toNat) (h2 : c.toNat ≤ 122) : (c.toNat : Int) - 97 + 65 = ((capB c).toNat : Int) := by
  have e : capB c = c - 32 := by unfold capB; rw [if_pos ⟨h, h2⟩]
  rw [e]
  have e2 : (c - 32).toNat = c.toNat - 32 := by
    rw [UInt8.toNat_sub_of_le _ _ (by rw [UInt8.le_iff_toNat_le]; show 32 ≤ c.toNat; omega)]
    rfl
  rw [e2]
  omega
set_option maxHeartbeats 1000000 in
theorem capitals_any (s : ByteArray) (w : World) (hs : s.size ≤ 1000000) :
    Calls Tryz.prog 202 #[.string s] w fun e w' => e = .returned (.string (capS s)) ∧ Below w.heap.size w w' := by
  obtain ⟨w1, cap, hrun, hcells, hfro, hb1, hsz⟩ := bytes_of s w
  have HC := hideIt hcells
  have HF := hideIt hfro
  clear hcells hfro
  go_enter Tryz.func202, Tryz.ntmps202
  go_wp2_with fail
  go_loopw [10] (fun i wr => ∃ k : Nat, k ≤ s.size ∧ i = .int .i64 k ∧ (∀ j, j < s.size → wr.cell? ⟨w.heap.size, j, none⟩ = some (.int .u8 ((capAt s k j).toNat : Int))) ∧ (∀ j, j < s.size → wr.frozen? ⟨w.heap.size, j, none⟩ = false) ∧ Below w.heap.size w wr ∧ w.heap.size < wr.heap.size) (fun i _ => s.size - (intOf i).toNat)
  case atStart =>
    refine ⟨0, Nat.zero_le _, by simp, fun j h => ?_, HF.out, hb1, by omega⟩
    rw [HC.out j h]
    simp only [capAt, Nat.not_lt_zero, if_false]
    rw [ba_getD s j h]
  case round =>
    obtain ⟨k, hk, rfl, hc, hf, hb, hlt0⟩ := hrel
    by_cases hlt : k < s.size
    · have ck := hc k hlt
      have fk := hf k hlt
      have e0 : capAt s k k = s.data.getD k 0 := by simp [capAt]
      rw [e0] at ck
      obtain ⟨x, hx⟩ : ∃ x, s.data.getD k 0 = x := ⟨_, rfl⟩
      rw [hx] at ck
      have HX := hideIt hx
      have H1 := hideIt hc
      have H2 := hideIt hf
      have hstep : ∀ j, j ≠ k → capAt s (k + 1) j = capAt s k j := by
        intro j hj
        unfold capAt
        by_cases h : j < k
        · rw [if_pos h, if_pos (by omega)]
        · rw [if_neg h, if_neg (by omega)]
      have HS := hideIt hstep
      have hsame : capAt s (k + 1) k = capB x := by unfold capAt; rw [if_pos (by omega), hx]
      have HK := hideIt hsame
      clear hx hc hf e0 hstep hsame
      by_cases h1 : (97 : Int) ≤ (x.toNat : Int)
      · by_cases h2 : (x.toNat : Int) ≤ (122 : Int)
        · have HN := hideIt (cap_num x (by omega) (by omega))
          go_wp2
          go_roundw
          case rel =>
            refine ⟨k + 1, by omega, by go_num, fun j hj => ?_, fun j hj => ?_, hb.setCell (by simp) _, by simp [World.setCell, hlt0]⟩
            · by_cases e : j = k
              · subst e
                rw [World.cell?_setCell_same _ _ _ ck, HK.out, ← HN.out]
              · rw [World.cell?_setCell_other _ _ _ _ (by intro h; cases h; exact e rfl), HS.out j e]
                exact H1.out j hj
            · rw [World.frozen?_setCell]; exact H2.out j hj
          case measure => simp [intOf]; omega
        · have hn : capB x = x := by unfold capB; rw [if_neg]; omega
          have HN := hideIt hn
          clear hn
          go_wp2
          go_roundw
          case rel =>
            refine ⟨k + 1, by omega, by go_num, fun j hj => ?_, H2.out, hb, hlt0⟩
            by_cases e : j = k
            · subst e; rw [HK.out, HN.out]; exact ck
            · rw [HS.out j e]; exact H1.out j hj
          case measure => simp [intOf]; omega
      · have hn : capB x = x := by unfold capB; rw [if_neg]; omega
        have HN := hideIt hn
        clear hn
        go_wp2
        go_roundw
        case rel =>
          refine ⟨k + 1, by omega, by go_num, fun j hj => ?_, H2.out, hb, hlt0⟩
          by_cases e : j = k
          · subst e; rw [HK.out, HN.out]; exact ck
          · rw [HS.out j e]; exact H1.out j hj
        case measure => simp [intOf]; omega
    · have hkn : k = s.size := by omega
      have hl : (s.data.toList.map capB).length = s.size := by rw [List.length_map, Array.length_toList]; rfl
      have hcv := run_convert_bytes_back (P := Tryz.prog) wr 32 9 5 ⟨w.heap.size, 0, none⟩ cap (s.data.toList.map capB) Tryz.underlying32 Tryz.underlying5 Tryz.underlying9 (fun j hj => by
        rw [hl] at hj
        have h' : j < s.data.size := hj
        have := hc j hj
        rw [addr_add, this]
        simp [capAt, hkn, hj])
      rw [hl] at hcv
      have hr : (⟨(s.data.toList.map capB).toArray⟩ : ByteArray) = capS s := by
        exact capS_list s
      rw [hr] at hcv
      clear hc hf hl hr
      go_wp2
      go_ret
      exact ⟨rfl, hb⟩
end Go.Proofs.YthokdbcpkmcieaaGreatDoor
namespace Go.Proofs.YthokdbcpkmcieaaGreatDoor
open Go Go.RowKit
def allIn (C : List UInt8) (s : ByteArray) : Bool := s.data.toList.all fun c => C.contains c
theorem ba_drop (s : ByteArray) (k : Nat) : (s.extract k s.size).data.toList = s.data.toList.drop k := by
  rw [ByteArray.data_extract, Array.toList_extract]
  have h : s.size = s.data.toList.length := (Array.length_toList (xs := s.data)).symm
  rw [h, List.extract_eq_take_drop, List.take_of_length_le]
  rw [List.length_drop]
  exact Nat.le_refl _
theorem ba_take (s : ByteArray) (k : Nat) : (s.extract 0 k).data.toList = s.data.toList.take k := by
  rw [ByteArray.data_extract, Array.toList_extract, List.extract_eq_take_drop]
  simp
theorem allIn_tail (C : List UInt8) (s : ByteArray) (h : 0 < s.size) (hc : C.contains s[0] = true) : allIn C (s.extract 1 s.size) = allIn C s := by
  unfold allIn
  rw [ba_drop]
  have := ba_get s 0 h
  cases hl : s.data.toList with
  | nil => rfl
  | cons x l =>
    rw [hl] at this
    simp at this
    subst this
    simp
    intro _
    simpa using hc
theorem allIn_init (C : List UInt8) (s : ByteArray) (h : 0 < s.size) (hc : C.contains (s[s.size - 1]'(by omega)) = true) : allIn C (s.extract 0 (s.size - 1)) = allIn C s := by
  unfold allIn
  rw [ba_take]
  have hg := ba_get s (s.size - 1) (by omega)
  have hl : s.data.toList.length = s.size := Array.length_toList
  have e : s.data.toList = s.data.toList.take (s.size - 1) ++ [s[s.size - 1]'(by omega)] := by
    conv => lhs; rw [← List.take_append_drop (s.size - 1) s.data.toList]
    congr 1
    have h1 : (s.data.toList.drop (s.size - 1)).length = 1 := by rw [List.length_drop, hl]; omega
    match hd : s.data.toList.drop (s.size - 1), h1 with
    | [y], _ =>
      have : (s.data.toList.drop (s.size - 1))[0]? = some y := by rw [hd]; rfl
      rw [List.getElem?_drop] at this
      simp only [Nat.add_zero] at this
      rw [hg] at this
      cases this
      rfl
  conv => rhs; rw [e]
  rw [List.all_append]
  simp
  intro _
  simpa using hc
theorem allIn_head (C : List UInt8) (s : ByteArray) (h : 0 < s.size) (hc : C.contains s[0] = false) : allIn C s = false := by
  unfold allIn
  rw [List.all_eq_false]
  exact ⟨s[0], List.mem_of_getElem? (ba_get s 0 h), by simp only [hc]; simp⟩
theorem allIn_last (C : List UInt8) (s : ByteArray) (h : 0 < s.size) (hc : C.contains (s[s.size - 1]'(by omega)) = false) : allIn C s = false := by
  unfold allIn
  rw [List.all_eq_false]
  exact ⟨_, List.mem_of_getElem? (ba_get s (s.size - 1) (by omega)), by simp only [hc]; simp⟩
theorem allIn_empty (C : List UInt8) (s : ByteArray) (h : s.size = 0) : allIn C s = true := by
  unfold allIn
  have : s.data.toList.length = 0 := by rw [Array.length_toList]; exact h
  rw [List.length_eq_zero_iff.1 this]
  rfl
set_option maxHeartbeats 1000000 in
theorem trimLeft_any (C : List UInt8) (s : ByteArray) (b : Nat) (w : World) (_hs : s.size ≤ 1000000) (hset : ∀ x : UInt8, w.cell? ⟨b, x.toNat, none⟩ = some (.bool (C.contains x))) :
    Calls Tryz.prog 272 #[.string s, .pointer (some ⟨b, 0, none⟩)] w fun e w' => ∃ r, e = .returned (.string r) ∧ w' = w ∧ r.size ≤ s.size ∧ allIn C r = allIn C s ∧ (r.size = 0 ∨ allIn C r = false) := by
  have HS := hideIt hset
  clear hset
  go_enter Tryz.func272, Tryz.ntmps272
  go_wp2_with fail
  go_loopw [0] (fun v wr => ∃ r : ByteArray, v = .string r ∧ wr = w ∧ r.size ≤ s.size ∧ allIn C r = allIn C s) (fun v _ => match v with | .string r => r.size | _ => 0)
  case atStart => exact ⟨s, by simp, by simp, Nat.le_refl _, rfl⟩
  case round =>
    obtain ⟨r, rfl, rfl, hle, hal⟩ := hrel
    have HA := hideIt hal
    clear hal
    by_cases hp : 0 < r.size
    · have hp' : (0 : Int) < (r.size : Int) := by omega
      have HC := hideIt (Tryz.asciiSet_contains b r[0] (C.contains r[0]) wr (HS.out _))
      cases hc : C.contains r[0] with
      | true =>
        rw [hc] at HC
        have HT := hideIt (allIn_tail C r hp hc)
        clear hc
        go_wp2_with (refine HC.out.mono ?_; rintro e w1 ⟨rfl, rfl⟩)
        go_roundw
        case rel => exact ⟨_, rfl, by simp, by rw [ByteArray.size_extract]; omega, by rw [HT.out, HA.out]⟩
        case measure => simp [ByteArray.size_extract]; omega
      | false =>
        rw [hc] at HC
        have HT := hideIt (allIn_head C r hp hc)
        clear hc
        go_wp2_with (refine HC.out.mono ?_; rintro e w1 ⟨rfl, rfl⟩)
        go_ret
        exact ⟨r, rfl, by simp, hle, HA.out, .inr HT.out⟩
    · have hz : r.size = 0 := by omega
      go_wp2
      go_ret
      exact ⟨r, rfl, by simp, hle, HA.out, .inl hz⟩
set_option maxHeartbeats 1000000 in
theorem trimRight_any (C : List UInt8) (s : ByteArray) (b : Nat) (w : World) (hs : s.size ≤ 1000000) (hset : ∀ x : UInt8, w.cell? ⟨b, x.toNat, none⟩ = some (.bool (C.contains x))) :
    Calls Tryz.prog 273 #[.string s, .pointer (some ⟨b, 0, none⟩)] w fun e w' => ∃ r, e = .returned (.string r) ∧ w' = w ∧ r.size ≤ s.size ∧ allIn C r = allIn C s ∧ (r.size = 0 ∨ allIn C r = false) := by
  have HS := hideIt hset
  clear hset
  go_enter Tryz.func273, Tryz.ntmps273
  go_wp2_with fail
  go_loopw [0] (fun v wr => ∃ r : ByteArray, v = .string r ∧ wr = w ∧ r.size ≤ s.size ∧ allIn C r = allIn C s) (fun v _ => match v with | .string r => r.size | _ => 0)
  case atStart => exact ⟨s, by simp, by simp, Nat.le_refl _, rfl⟩
  case round =>
    obtain ⟨r, rfl, rfl, hle, hal⟩ := hrel
    have HA := hideIt hal
    clear hal
    by_cases hp : 0 < r.size
    · have hp' : (0 : Int) < (r.size : Int) := by omega
      obtain ⟨m, hm⟩ : ∃ m, r.size = m + 1 := ⟨r.size - 1, by omega⟩
      have hm1 : m < r.size := by omega
      have hmi : ((r.size : Int) - 1) = (m : Int) := by omega
      have HC := hideIt (Tryz.asciiSet_contains b (r[m]'hm1) (C.contains (r[m]'hm1)) wr (HS.out _))
      have hcond : (r.size - 1) = m := by omega
      cases hc : C.contains (r[m]'hm1) with
      | true =>
        rw [hc] at HC
        have HT := hideIt (show allIn C (r.extract 0 m) = allIn C r by
          have := allIn_init C r hp (by simp only [hcond]; exact hc)
          rwa [hcond] at this)
        clear hc
        go_wp2_with (refine HC.out.mono ?_; rintro e w1 ⟨rfl, rfl⟩)
        go_roundw
        case rel => exact ⟨_, rfl, by simp, by rw [ByteArray.size_extract]; omega, by rw [HT.out, HA.out]⟩
        case measure => simp [ByteArray.size_extract]; omega
      | false =>
        rw [hc] at HC
        have HT := hideIt (allIn_last C r hp (by simp only [hcond]; exact hc))
        clear hc
        go_wp2_with (refine HC.out.mono ?_; rintro e w1 ⟨rfl, rfl⟩)
        go_ret
        exact ⟨r, rfl, by simp, hle, HA.out, .inr HT.out⟩
    · have hz : r.size = 0 := by omega
      go_wp2
      go_ret
      exact ⟨r, rfl, by simp, hle, HA.out, .inl hz⟩
end Go.Proofs.YthokdbcpkmcieaaGreatDoor
namespace Go.Proofs.YthokdbcpkmcieaaGreatDoor
open Go.RowKit
abbrev fv (f : Nat) : Value := .func (.func f) #[] #[]
/-- The three functions of each kind, kind by kind. -/
def waysCells : Array Value := #[fv 138, fv 139, fv 140,
  fv 138, fv 139, fv 140,
  fv 138, fv 139, fv 140,
  fv 138, fv 139, fv 140,
  fv 138, fv 139, fv 140,
  fv 138, fv 139, fv 140,
  fv 138, fv 139, fv 140,
  fv 141, fv 139, fv 142,
  fv 141, fv 139, fv 142,
  fv 143, fv 144, fv 145,
  fv 146, fv 147, fv 148,
  fv 149, fv 144, fv 150,
  fv 149, fv 144, fv 150,
  fv 149, fv 144, fv 151,
  fv 152, fv 147, fv 153,
  fv 154, fv 144, fv 155,
  fv 156, fv 144, fv 157]
theorem results_cell1 {P : Program} {fn : Func} {k : Nat} {t : TypeId} {tmps : Array Value} {ad : Addr} {v : Value} {w : World} (h : fn.results = #[.cell k t]) (hp : tmps.getD k undef = .pointer (some ad)) (hl : (loadVar t ad).run P w = .ok v w) :
    (results fn tmps).run P w = .ok v w := by
  have hp' : tmps[k]?.getD undef = .pointer (some ad) := by rw [← hp, Array.getD_eq_getD_getElem?]
  simp [results, h, hp', asAddr, hl]
theorem ways_one : waysCells.all (·.oneCell') = true := by kernel_rfl
theorem ways_info : (Tryz.prog.info? 200).map (·.size) = some waysCells.size := by kernel_rfl
set_option maxRecDepth 100000 in
set_option maxHeartbeats 4000000 in
theorem ways_any (w : World) :
    Calls Tryz.prog 102 #[] w fun e w' => e = .returned (.agg waysCells) ∧ Below w.heap.size w w' := by
  go_enter Tryz.func102, Tryz.ntmps102
  go_wp2_with (refine wpList_store_row rfl 200 (.tmp 0) (.tmp 18) rfl w.heap.size waysCells rfl rfl 200 _ (heap_alloc_last w _) ways_info rfl ways_one ?_; rw [World.setRow_alloc_new])
  refine bodyPost_ret (v := .agg waysCells) ?_ rfl ⟨rfl, (Below.refl _ _).alloc (Nat.le_refl _) _⟩
  have hl := run_loadVar_new (P := Tryz.prog) w 200 waysCells 17 199 Tryz.underlying200 ways_info
  exact results_cell1 Tryz.results102 rfl hl
end Go.Proofs.YthokdbcpkmcieaaGreatDoor
