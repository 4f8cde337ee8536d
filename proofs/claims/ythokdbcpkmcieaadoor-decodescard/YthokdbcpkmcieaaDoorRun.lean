/- A straight list of operations that meets no call is run by the kernel: the frame's one slot that is read later, and the world behind it. -/
import Derived.WalkKit
import Derived.KernelRfl
namespace Go.Proofs.YthokdbcpkmcieaaDoor
open Go Go.RowKit
theorem hideIt {p : Prop} (h : p) : Hid p := h
/-- The operations one after the other, as long as each gives a value. -/
def runOps (P : Program) (ops : Array Oper) : List Oper → Act → World → Option (Act × World)
  | [], a, w => some (a, w)
  | o :: rest, a, w =>
    match Region.wanted o (yielded ops a.tmps) with
    | true => match (execOp a.eval o).run P w with
      | .ok (.value v) w' => runOps P ops rest (a.put o.dst v) w'
      | .ok .skip w' => runOps P ops rest (a.put o.dst undef) w'
      | _ => none
    | false => runOps P ops rest (a.put o.dst undef) w
theorem wpList_run {P : Program} {ops : Array Oper} {Q : Exit → Act → World → Prop} : ∀ (l : List Oper) (a : Act) (w : World) (a' : Act) (w' : World), runOps P ops l a w = some (a', w') → Q .normal a' w' → wpList P ops Q l a w
  | [], a, w, a', w', h, hq => by
    simp only [runOps, Option.some.injEq, Prod.mk.injEq] at h
    obtain ⟨rfl, rfl⟩ := h
    exact hq
  | o :: rest, a, w, a', w', h, hq => by
    unfold wpList
    unfold runOps at h
    cases hw : Region.wanted o (yielded ops a.tmps) with
    | true =>
      rw [hw] at h
      simp only at h
      rw [if_pos rfl]
      refine .inl ?_
      unfold Oper.wp
      cases hr : (execOp a.eval o).run P w with
      | ok n w1 =>
        rw [hr] at h
        cases n with
        | value v => exact wpList_run rest _ _ a' w' h hq
        | skip => exact wpList_run rest _ _ a' w' h hq
        | _ => simp at h
      | halt x w1 => rw [hr] at h; simp at h
    | false =>
      rw [hw] at h
      simp only at h
      rw [if_neg (by simp)]
      exact wpList_run rest _ _ a' w' h hq
/-- Straight code: regions of a fixed order, one after the other, up to the return. -/
def runCode (P : Program) : Code → Act → World → Option (Bool × Act × World)
  | .seq x y, a, w => match runCode P x a w with
    | some (false, a', w') => runCode P y a' w'
    | r => r
  | .region _ ops false, a, w => match runOps P ops ops.toList a w with
    | some (a', w') => some (false, a', w')
    | none => none
  | .skip, a, w => some (false, a, w)
  | .ret, a, w => some (true, a, w)
  | _, _, _ => none
theorem wp_run {P : Program} {Q : Exit → Act → World → Prop} : ∀ (c : Code) (a : Act) (w : World) (b : Bool) (a' : Act) (w' : World), runCode P c a w = some (b, a', w') → Q (match b with | true => .ret | false => .normal) a' w' → c.wp P Q a w
  | .seq x y, a, w, b, a', w', h, hq => by
    unfold runCode at h
    refine wp_seq ?_
    cases hx : runCode P x a w with
    | none => rw [hx] at h; simp at h
    | some r =>
      obtain ⟨b1, a1, w1⟩ := r
      rw [hx] at h
      cases b1 with
      | false => exact wp_run x a w false a1 w1 hx (wp_run y a1 w1 b a' w' h hq)
      | true =>
        simp only [Option.some.injEq, Prod.mk.injEq] at h
        obtain ⟨rfl, rfl, rfl⟩ := h
        exact wp_run x a w true _ _ hx hq
  | .region i ops false, a, w, b, a', w', h, hq => by
    unfold runCode at h
    refine wp_region_list ?_
    cases hx : runOps P ops ops.toList a w with
    | none => rw [hx] at h; simp at h
    | some r =>
      rw [hx] at h
      simp only [Option.some.injEq, Prod.mk.injEq] at h
      obtain ⟨rfl, rfl, rfl⟩ := h
      exact wpList_run _ a w r.1 r.2 hx hq
  | .skip, a, w, b, a', w', h, hq => by
    simp only [runCode, Option.some.injEq, Prod.mk.injEq] at h
    obtain ⟨rfl, rfl, rfl⟩ := h
    exact wp_skip hq
  | .ret, a, w, b, a', w', h, hq => by
    simp only [runCode, Option.some.injEq, Prod.mk.injEq] at h
    obtain ⟨rfl, rfl, rfl⟩ := h
    exact wp_ret hq
  | .region _ _ true, _, _, _, _, _, h, _ => by simp [runCode] at h
  | .cond .., _, _, _, _, _, h, _ => by simp [runCode] at h
  | .block .., _, _, _, _, _, h, _ => by simp [runCode] at h
  | .loop .., _, _, _, _, _, h, _ => by simp [runCode] at h
  | .rangeFunc .., _, _, _, _, _, h, _ => by simp [runCode] at h
  | .exit .., _, _, _, _, _, h, _ => by simp [runCode] at h
  | .scope .., _, _, _, _, _, h, _ => by simp [runCode] at h
  | .label .., _, _, _, _, _, h, _ => by simp [runCode] at h
  | .goto .., _, _, _, _, _, h, _ => by simp [runCode] at h
  | .refuse .., _, _, _, _, _, h, _ => by simp [runCode] at h
/-- A function of straight code, called: what it returns and the world behind it, by a run. -/
theorem calls_run {P : Program} {f : FuncId} {fn : Func} {c : Code} {args : Array Value} {w : World} {R : Ending → World → Prop} (v : Value) (w' : World)
    (hf : P.funcs[f]? = some fn) (hb : fn.body = some c)
    (h : ((runCode P c { tmps := args ++ Array.replicate (fn.ntmps - args.size) undef, defers := [] } w).bind fun p => match p.2.1.defers, (results fn p.2.1.tmps).run P p.2.2 with
      | [], .ok v w2 => some (v, w2, p.2.2)
      | _, _ => none) = some (v, w', w'))
    (hR : R (.returned v) w') : Calls P f args w R := by
  refine calls_of_wp hf hb ?_
  cases hr : runCode P c { tmps := args ++ Array.replicate (fn.ntmps - args.size) undef, defers := [] } w with
  | none => rw [hr] at h; simp at h
  | some p =>
    obtain ⟨b, a1, w1⟩ := p
    rw [hr] at h
    simp only [Option.bind_some] at h
    cases hd : a1.defers with
    | cons d ds => rw [hd] at h; simp at h
    | nil =>
      rw [hd] at h
      cases hs : (results fn a1.tmps).run P w1 with
      | halt x w2 => rw [hs] at h; simp at h
      | ok v2 w2 =>
        rw [hs] at h
        simp only [Option.some.injEq, Prod.mk.injEq] at h
        obtain ⟨rfl, rfl, rfl⟩ := h
        refine wp_run c _ _ b a1 _ hr ?_
        cases b with
        | true => exact ⟨hd, _, hs, hR⟩
        | false => exact ⟨hd, _, hs, hR⟩
end Go.Proofs.YthokdbcpkmcieaaDoor
