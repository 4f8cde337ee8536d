/- Steps of a region that draws its order: a callee that gives up, a callee that returns, an append to a row of the call's own. A statement's expressions in memory; how they stand while the parser goes on. -/
import Derived.Test.YthokdbcpkmcieaaGreatDoorA01
import Derived.Deep.RegionLaw
import Derived.OwnWalk
import Derived.Maps.AppendAt
import Derived.WalkSpells
import Derived.Test.YthokdbcpkmcieaaGreatDoorA08
namespace Go.Proofs.YthokdbcpkmcieaaGreatDoor
open Go Go.RowKit
/-- A callee that gives up: what follows in the region need not be looked at. -/
theorem step_dies {P : Program} {ops : Array Oper} {o : Oper} {a : Act} {w : World} {K : Act → World → Prop} {Q : Exit → Act → World → Prop} {E : Prop} (f : FuncId) (args : Array Value)
    (hg : o.guard = none) (hrun : (execOp a.eval o).run P w = .ok (.enter f args) w) (R : Ending → World → Prop) (hc : Calls P f args w R) (hR : ∀ e w', R e w' → ∃ ch, e = .panicked ch ∧ Q (.panic ch) a w')
    (_ : Hid False → K (a.put o.dst (.slice none 0 0)) w) : if Region.wanted o (yielded ops a.tmps) = true then Oper.wp P o a w K Q else E := by
  have hw : Region.wanted o (yielded ops a.tmps) = true := by simp [Region.wanted, hg]
  rw [if_pos hw]
  unfold Oper.wp
  rw [hrun, Oper.upon_enter]
  refine hc.mono ?_
  intro e w' h
  obtain ⟨ch, rfl, hq⟩ := hR e w' h
  exact hq
theorem step_diesV {P : Program} {ops : Array Oper} {o : Oper} {a : Act} {w : World} {K : Act → World → Prop} {Q : Exit → Act → World → Prop} {E : Prop} (bv : Value) (f : FuncId) (args : Array Value)
    (hg : o.guard = none) (hrun : (execOp a.eval o).run P w = .ok (.enter f args) w) (R : Ending → World → Prop) (hc : Calls P f args w R) (hR : ∀ e w', R e w' → ∃ ch, e = .panicked ch ∧ Q (.panic ch) a w')
    (_ : Hid False → K (a.put o.dst bv) w) : if Region.wanted o (yielded ops a.tmps) = true then Oper.wp P o a w K Q else E := by
  have hw : Region.wanted o (yielded ops a.tmps) = true := by simp [Region.wanted, hg]
  rw [if_pos hw]
  unfold Oper.wp
  rw [hrun, Oper.upon_enter]
  refine hc.mono ?_
  intro e w' h
  obtain ⟨ch, rfl, hq⟩ := hR e w' h
  exact hq
/-- Where nothing is left to be looked at. -/
theorem step_none {P : Program} {ops : Array Oper} {o : Oper} {a : Act} {w : World} {K : Act → World → Prop} {Q : Exit → Act → World → Prop} {E : Prop} (hF : Hid False) (_ : K (a.put o.dst (.slice none 0 0)) w) : if Region.wanted o (yielded ops a.tmps) = true then Oper.wp P o a w K Q else E := hF.out.elim
/-- A callee that returns. -/
theorem step_returns {P : Program} {ops : Array Oper} {o : Oper} {a : Act} {w : World} {K : Act → World → Prop} {Q : Exit → Act → World → Prop} {E : Prop} (f : FuncId) (args : Array Value)
    (hg : o.guard = none) (hrun : (execOp a.eval o).run P w = .ok (.enter f args) w) (R : Ending → World → Prop) (S : Value → World → Prop) (hc : Calls P f args w R) (hR : ∀ e w', R e w' → ∃ v, e = .returned v ∧ S v w')
    (hK : ∀ v w', S v w' → K (a.put o.dst v) w') : if Region.wanted o (yielded ops a.tmps) = true then Oper.wp P o a w K Q else E := by
  have hw : Region.wanted o (yielded ops a.tmps) = true := by simp [Region.wanted, hg]
  rw [if_pos hw]
  unfold Oper.wp
  rw [hrun, Oper.upon_enter]
  refine hc.mono ?_
  intro e w' h
  obtain ⟨v, rfl, hs⟩ := hR e w' h
  exact hK v w' hs
/-- append to a row of the call's own. -/
theorem step_append_own {P : Program} {ops : Array Oper} {o : Oper} {a : Act} {w : World} {K : Act → World → Prop} {Q : Exit → Act → World → Prop} {E : Prop}
    (hg : o.guard = none) (s x : Operand) (t : TypeId) (hop : o.op = Op.call { callee := Callee.builtin Builtin.append, args := #[s, x], argTypes := #[t, t] })
    (base : Nat) (e : TypeId) (i : TypeInfo) (z : Value) (size bytes : Nat) (ht : P.underlying t = some (.slice e)) (hi : P.info? e = some i) (hz : i.zero = some z)
    (hsize : i.size = size) (hby : i.bytes = bytes) (hzs : z.cells.size = size) (hsz : 0 < size)
    (v : Value) (n : Nat) (xs : List Value) (hs : a.eval s = v) (hown : w.ownsRow base e size v n xs)
    (ad : Addr) (m c : Nat) (news : List Value) (hx : a.eval x = .slice (some ad) m c) (hl : news.length = m * size) (hnews : ∀ j u, news[j]? = some u → w.cell? (ad.add j) = some u) (h1 : ∀ u ∈ news, u.oneCell' = true)
    (h63 : n + m ≤ maxLen) (hbytes : (n + m) * bytes ≤ 140737488355328) (hbase : base ≤ w.heap.size)
    (hK : ∀ v' w', w'.ownsRow base e size v' (n + m) (xs ++ news) → w.grownBy w' v.ownBlock → (v'.ownBlock = v.ownBlock ∨ v'.ownBlock = some w.heap.size) → K (a.put o.dst v') w') :
    if Region.wanted o (yielded ops a.tmps) = true then Oper.wp P o a w K Q else E := by
  have hw : Region.wanted o (yielded ops a.tmps) = true := by simp [Region.wanted, hg]
  rw [if_pos hw]
  obtain ⟨v', w', hrun, r1, r2, _, r3⟩ := run_append_own_at (P := P) w base t o.type e i z size bytes ht hi hz hsize hby hzs hsz v n xs hown ad m c news hl hnews h1 h63 hbytes hbase
  unfold Oper.wp
  simp [execOp, hop, resolve, invoke, builtin, hs, hx, hrun, Result.andThen]
  exact hK v' w' r1 r2 r3
end Go.Proofs.YthokdbcpkmcieaaGreatDoor
namespace Go.Proofs.YthokdbcpkmcieaaGreatDoor
open Go Go.RowKit Go.Maps Go.WideMaps
/-- A statement in memory, at block sb. -/
structure SS (w : World) (sb : Nat) (line place : Int) (label : ByteArray) (task : Int) (name : ByteArray) (vals : Value) (code : Int) (kinds : Value) (size : Int) : Prop where
  c0 : w.cell? ⟨sb, 0, none⟩ = some (.int .i64 line)
  c1 : w.cell? ⟨sb, 1, none⟩ = some (.int .i64 place)
  c2 : w.cell? ⟨sb, 2, none⟩ = some (.string label)
  c3 : w.cell? ⟨sb, 3, none⟩ = some (.int .i64 task)
  c4 : w.cell? ⟨sb, 4, none⟩ = some (.string name)
  c5 : w.cell? ⟨sb, 5, none⟩ = some vals
  c6 : w.cell? ⟨sb, 6, none⟩ = some (.int .u8 code)
  c7 : w.cell? ⟨sb, 7, none⟩ = some kinds
  c8 : w.cell? ⟨sb, 8, none⟩ = some (.int .i64 size)
  fz : ∀ j, w.frozen? ⟨sb, j, none⟩ = false
  lt : sb < w.heap.size
theorem MapAt.at1 {P : Program} {k : TypeId} {w w' : World} {b n : Nat} {f : List UInt8 → Option Value} (h : MapAt P k w b n f) (he : w'.heap[b]? = w.heap[b]?) : MapAt P k w' b n f := by
  obtain ⟨D, ⟨es, clock, h1, h2⟩, h3⟩ := h
  exact ⟨D, ⟨es, clock, he.trans h1, h2⟩, h3⟩
/-- Two blocks of those that there were may have changed. -/
structure Grow2 (w w' : World) (p q : Nat) : Prop where
  os : w'.os = w.os
  tape : w'.tape = w.tape
  output : w'.output = w.output
  size : w.heap.size ≤ w'.heap.size
  block : ∀ k, k < w.heap.size → k ≠ p → k ≠ q → w'.heap[k]? = w.heap[k]?
theorem Grow2.refl (w : World) (p q : Nat) : Grow2 w w p q := ⟨rfl, rfl, rfl, Nat.le_refl _, fun _ _ _ _ => rfl⟩
theorem Grow2.trans {w w1 w2 : World} {p q : Nat} (h : Grow2 w w1 p q) (k : Grow2 w1 w2 p q) : Grow2 w w2 p q :=
  ⟨k.os.trans h.os, k.tape.trans h.tape, k.output.trans h.output, Nat.le_trans h.size k.size, fun i hi h1 h2 => (k.block i (Nat.lt_of_lt_of_le hi h.size) h1 h2).trans (h.block i hi h1 h2)⟩
theorem Grow2.of1 {w w' : World} {p : Nat} (h : w.grownBy w' (some p)) (q : Nat) : Grow2 w w' p q := ⟨h.os, h.tape, h.output, h.size, fun k hk h1 _ => h.block k hk (by simpa using h1)⟩
theorem Grow2.ofB {w w' : World} (h : Below w.heap.size w w') (p q : Nat) : Grow2 w w' p q := ⟨h.os, h.tape, h.output, h.size, fun k hk _ _ => h.block k hk⟩
theorem Grow2.set {w w' : World} {p q : Nat} (h : Grow2 w w' p q) (j : Nat) (v : Value) : Grow2 w (w'.setCell ⟨q, j, none⟩ v) p q :=
  ⟨h.os, h.tape, h.output, by simpa [World.setCell] using h.size, fun k hk h1 h2 => by rw [Below.heap_setCell _ _ _ _ (by simpa using h2)]; exact h.block k hk h1 h2⟩
theorem own_at {w w' : World} {base : Nat} {e : TypeId} {size n : Nat} {v : Value} {xs : List Value} (h : w.ownsRow base e size v n xs) (hb : ∀ j, v.ownBlock = some j → w'.heap[j]? = w.heap[j]?) : w'.ownsRow base e size v n xs := by
  obtain ⟨h1, h2 | ⟨g, cap, cur, rfl, hg, h3, h4⟩⟩ := h
  · exact ⟨h1, .inl h2⟩
  · exact ⟨h1, .inr ⟨g, cap, cur, rfl, hg, (hb g rfl).trans h3, h4⟩⟩
/-- Expressions, each in a row of its own, none of them that of the list. -/
def EachE (w : World) (base : Nat) (v : Value) : List Value → List (List Trm) → Prop
  | [], [] => True
  | x :: vs, e :: es => (w.ownsRow base 261 4 x e.length (trmCells e) ∧ ∀ j, x.ownBlock = some j → v.ownBlock ≠ some j) ∧ EachE w base v vs es
  | _, _ => False
theorem EachE.kept {w w' : World} {base : Nat} {v v' : Value} : ∀ {vs : List Value} {es : List (List Trm)}, EachE w base v vs es → (∀ j, base ≤ j → j < w.heap.size → v.ownBlock ≠ some j → w'.heap[j]? = w.heap[j]?) → (∀ j, j < w.heap.size → v.ownBlock ≠ some j → v'.ownBlock ≠ some j) → EachE w' base v' vs es
  | [], [], _, _, _ => trivial
  | x :: vs, e :: es, h, h1, h2 => by
    obtain ⟨⟨a, b⟩, c⟩ := h
    refine ⟨⟨own_at a (fun j hj => h1 j (a.lt j hj).1 (a.lt j hj).2 (b j hj)), fun j hj => h2 j (a.lt j hj).2 (b j hj)⟩, EachE.kept c h1 h2⟩
  | [], _ :: _, h, _, _ => h.elim
  | _ :: _, [], h, _, _ => h.elim
theorem EachE.snoc {w : World} {base : Nat} {v x : Value} {e : List Trm} (hx : w.ownsRow base 261 4 x e.length (trmCells e) ∧ ∀ j, x.ownBlock = some j → v.ownBlock ≠ some j) : ∀ {vs : List Value} {es : List (List Trm)}, EachE w base v vs es → EachE w base v (vs ++ [x]) (es ++ [e])
  | [], [], _ => ⟨hx, trivial⟩
  | _ :: _, _ :: _, h => ⟨h.1, EachE.snoc hx h.2⟩
  | [], _ :: _, h => h.elim
  | _ :: _, [], h => h.elim
theorem EachE.len {w : World} {base : Nat} {v : Value} : ∀ {vs : List Value} {es : List (List Trm)}, EachE w base v vs es → vs.length = es.length
  | [], [], _ => rfl
  | _ :: _, _ :: _, h => by simp [EachE.len h.2]
  | [], _ :: _, h => h.elim
  | _ :: _, [], h => h.elim
/-- A statement's expressions. -/
def VAt (w : World) (base : Nat) (v : Value) (es : List (List Trm)) : Prop := ∃ vs, w.ownsRow base 259 1 v es.length vs ∧ EachE w base v vs es
theorem SS.grown {w w' : World} {sb : Nat} {l0 p0 : Int} {lb : ByteArray} {tk : Int} {nm : ByteArray} {v : Value} {cd : Int} {kd : Value} {sz : Int} (h : SS w sb l0 p0 lb tk nm v cd kd sz) (he : w'.heap[sb]? = w.heap[sb]?) (hz : w.heap.size ≤ w'.heap.size) : SS w' sb l0 p0 lb tk nm v cd kd sz :=
  ⟨(World.cell?_of_block (a := ⟨sb, 0, none⟩) he).trans h.c0, (World.cell?_of_block (a := ⟨sb, 1, none⟩) he).trans h.c1, (World.cell?_of_block (a := ⟨sb, 2, none⟩) he).trans h.c2, (World.cell?_of_block (a := ⟨sb, 3, none⟩) he).trans h.c3, (World.cell?_of_block (a := ⟨sb, 4, none⟩) he).trans h.c4, (World.cell?_of_block (a := ⟨sb, 5, none⟩) he).trans h.c5, (World.cell?_of_block (a := ⟨sb, 6, none⟩) he).trans h.c6, (World.cell?_of_block (a := ⟨sb, 7, none⟩) he).trans h.c7, (World.cell?_of_block (a := ⟨sb, 8, none⟩) he).trans h.c8,
    fun j => (World.frozen?_of_block (a := ⟨sb, j, none⟩) he).trans (h.fz j), Nat.lt_of_lt_of_le h.lt hz⟩
theorem SS.set5 {w : World} {sb : Nat} {l0 p0 : Int} {lb : ByteArray} {tk : Int} {nm : ByteArray} {v : Value} {cd : Int} {kd : Value} {sz : Int} (h : SS w sb l0 p0 lb tk nm v cd kd sz) (v' : Value) : SS (w.setCell ⟨sb, 5, none⟩ v') sb l0 p0 lb tk nm v' cd kd sz := by
  refine ⟨?_, ?_, ?_, ?_, ?_, World.cell?_setCell_same _ _ _ h.c5, ?_, ?_, ?_, fun j => by simp [h.fz j], by simpa [World.setCell] using h.lt⟩
  · rw [World.cell?_setCell_other _ _ _ _ (by simp)]; exact h.c0
  · rw [World.cell?_setCell_other _ _ _ _ (by simp)]; exact h.c1
  · rw [World.cell?_setCell_other _ _ _ _ (by simp)]; exact h.c2
  · rw [World.cell?_setCell_other _ _ _ _ (by simp)]; exact h.c3
  · rw [World.cell?_setCell_other _ _ _ _ (by simp)]; exact h.c4
  · rw [World.cell?_setCell_other _ _ _ _ (by simp)]; exact h.c6
  · rw [World.cell?_setCell_other _ _ _ _ (by simp)]; exact h.c7
  · rw [World.cell?_setCell_other _ _ _ _ (by simp)]; exact h.c8
/-- One expression more. -/
theorem vals_step {wr w3 wn : World} {B pb sb base : Nat} {b : Bk} {line : Int} {l : List Tok} {l0 p0 : Int} {lb : ByteArray} {tk : Int} {nm : ByteArray} {v v' x : Value} {cd : Int} {kd : Value} {sz : Int} {acc : List (List Trm)} {e : List Trm} {vs : List Value} {o : Obj}
    (hS : SS wr sb l0 p0 lb tk nm v cd kd sz) (hrow : wr.ownsRow base 259 1 v acc.length vs) (hE : EachE wr base v vs acc) (hg3 : wr.grownBy w3 (some pb)) (hx : w3.ownsRow wr.heap.size 261 4 x e.length (trmCells e)) (hp3 : PS w3 B pb b line l)
    (hown : wn.ownsRow base 259 1 v' (acc.length + 1) (vs ++ [x])) (hgr : (w3.alloc o).grownBy wn v.ownBlock) (hloc : v'.ownBlock = v.ownBlock ∨ v'.ownBlock = some (w3.alloc o).heap.size) (hne : sb ≠ pb) (hB : B ≤ sb) (h1 : sb < base) (h2 : pb < base) (h3 : base ≤ wr.heap.size) :
    VAt (wn.setCell ⟨sb, 5, none⟩ v') base v' (acc ++ [e]) ∧ SS (wn.setCell ⟨sb, 5, none⟩ v') sb l0 p0 lb tk nm v' cd kd sz ∧ PS (wn.setCell ⟨sb, 5, none⟩ v') B pb b line l ∧ ∀ w0 : World, w0.heap.size ≤ base → Grow2 w0 wr pb sb → Grow2 w0 (wn.setCell ⟨sb, 5, none⟩ v') pb sb := by
  have hvb : ∀ j, v.ownBlock = some j → base ≤ j ∧ j < wr.heap.size := fun j hj => hrow.lt j hj
  have hz3 := hg3.size
  have hzn : w3.heap.size + 1 ≤ wn.heap.size := by have := hgr.size; simpa using this
  -- blocks that are left alone from wr to wn
  have hk : ∀ k, k < wr.heap.size → k ≠ pb → v.ownBlock ≠ some k → wn.heap[k]? = wr.heap[k]? := fun k hk hkp hkv => by
    rw [hgr.block k (by simp; omega) (fun e => hkv e.symm), Below.heap_alloc _ _ _ (by omega), hg3.block k hk (by simpa using hkp)]
  have hk3 : ∀ k, k < w3.heap.size → v.ownBlock ≠ some k → wn.heap[k]? = w3.heap[k]? := fun k hk hkv => by
    rw [hgr.block k (by simp; omega) (fun e => hkv e.symm), Below.heap_alloc _ _ _ hk]
  have hsv : v.ownBlock ≠ some sb := fun e => by have := (hvb sb e).1; omega
  have hpv : v.ownBlock ≠ some pb := fun e => by have := (hvb pb e).1; omega
  have hset : ∀ k, k ≠ sb → (wn.setCell ⟨sb, 5, none⟩ v').heap[k]? = wn.heap[k]? := fun k hk => Below.heap_setCell _ _ _ _ (by simpa using hk)
  have hv' : ∀ j, j < w3.heap.size → v.ownBlock ≠ some j → v'.ownBlock ≠ some j := fun j hj hjv e => by
    rcases hloc with h | h
    · rw [h] at e; exact hjv e
    · rw [h] at e
      simp at e
      omega
  refine ⟨⟨vs ++ [x], ?_, ?_⟩, ?_, ?_, ?_⟩
  · rw [List.length_append]
    refine own_at hown (fun j hj => hset j ?_)
    have := (hown.lt j hj).1
    omega
  · refine EachE.snoc ⟨own_at (own_base hx h3) (fun j hj => ?_), fun j hj => ?_⟩ (hE.kept (fun j hb hj hjv => ?_) (fun j hj hjv => hv' j (by omega) hjv))
    · have hj' := hx.lt j hj
      rw [hset j (by omega), hk3 j hj'.2 (fun e => by have := (hvb j e).2; omega)]
    · have hj' := hx.lt j hj
      exact hv' j hj'.2 (fun e => by have := (hvb j e).2; omega)
    · rw [hset j (by omega), hk j hj (by omega) hjv]
  · exact (hS.grown (hk sb hS.lt hne hsv) (by omega)).set5 v'
  · refine hp3.kept ⟨?_, ?_, ?_, ?_, fun k hk' => ?_⟩
    · exact hgr.os
    · exact hgr.tape
    · exact hgr.output
    · simp [World.setCell]; omega
    · have hl3 := hp3.le
      rw [hset k (by omega), hk3 k (by omega) (fun e => by have := (hvb k e).1; omega)]
  · intro w0 hw0 hg0
    have hz0 := hg0.size
    refine Grow2.set ⟨(hgr.os.trans hg3.os).trans hg0.os, (hgr.tape.trans hg3.tape).trans hg0.tape, (hgr.output.trans hg3.output).trans hg0.output, by omega, fun k hk' hkp hks => ?_⟩ 5 v'
    rw [hk k (by omega) hkp (fun e => by have := (hvb k e).1; omega)]
    exact hg0.block k hk' hkp hks
end Go.Proofs.YthokdbcpkmcieaaGreatDoor
