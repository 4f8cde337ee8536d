/- The law plays: its two pairs of boards are made. -/
import Derived.Test.YthokdbcpkmcieaaGreatRBoF
import Derived.Test.YthokdbcpkmcieaaGreatRBoI
import Derived.Test.YthokdbcpkmcieaaGreatBoA
namespace Go.Proofs.YthokdbcpkmcieaaGreat
open Go Go.RowKit
attribute [local go_sem ↓] Go.wp_at_zero Go.wp_at_succ
def boCells (o : Bo) : List Value := [.pointer (some ⟨o.x, 0, none⟩), .pointer (some ⟨o.rb, 0, none⟩), .slice none 0 0]
/-- The law's world at wb, with the boards that it has so far. -/
structure LB (w wr : World) (wb : Nat) (os : List Bo) (v : Value) : Prop where
  c3 : wr.cell? ⟨wb, 3, none⟩ = some v
  c4 : wr.cell? ⟨wb, 4, none⟩ = some (.slice none 0 0)
  fz : wr.frozen? ⟨wb, 3, none⟩ = false
  row : wr.ownsRow (wb + 1) 42 3 v os.length (os.flatMap boCells)
  prs : ∀ o ∈ os, Pr wr o brd0 0
  apart : ∀ o ∈ os, ∀ k ∈ o.own, k ≠ wb ∧ v.ownBlock ≠ some k ∧ w.heap.size ≤ k
  dis : os.Pairwise (fun a b => ∀ k ∈ a.own, k ∉ b.own)
  below : Below w.heap.size w wr
  ge : w.heap.size ≤ wb
theorem LB.step {w wr w1 w2 wn : World} {wb bb fb jb : Nat} {os : List Bo} {v v' : Value} {ob : Obj} (h : LB w wr wb os v) (hbb : wr.heap.size ≤ bb) (hb1 : BrdAt w1 bb brd0) (hB1 : Below wr.heap.size wr w1) (hfb : w1.heap.size < fb) (hjb : w1.heap.size < jb) (hr2 : RB w2 w1.heap.size fb jb brd0 0) (hB2 : Below w1.heap.size w1 w2)
    (hown : wn.ownsRow (wb + 1) 42 3 v' (os.length + 1) (os.flatMap boCells ++ boCells ⟨bb, w1.heap.size, fb, jb⟩)) (hgr : (w2.alloc ob).grownBy wn v.ownBlock) (hloc : v'.ownBlock = v.ownBlock ∨ v'.ownBlock = some (w2.alloc ob).heap.size) :
    LB w (wn.setCell ⟨wb, 3, none⟩ v') wb (os ++ [⟨bb, w1.heap.size, fb, jb⟩]) v' := by
  have hwl : wb < wr.heap.size := World.block_lt_of_cell? _ _ h.c3
  have z1 := hB1.size
  have z2 := hB2.size
  have z3 : w2.heap.size + 1 ≤ wn.heap.size := by have := hgr.size; simpa using this
  have hr := hr2.lt
  have hxl := hb1.sto.lt
  have hvb : ∀ g, v.ownBlock = some g → wb + 1 ≤ g ∧ g < wr.heap.size := fun g hg => h.row.lt g hg
  have kn : ∀ k, k < w2.heap.size → v.ownBlock ≠ some k → wn.heap[k]? = w2.heap[k]? := fun k hk hne => by
    rw [hgr.block k (by simp; omega) (fun e => hne e.symm), Below.heap_alloc _ _ _ hk]
  have ko : ∀ k, k < wr.heap.size → v.ownBlock ≠ some k → wn.heap[k]? = wr.heap[k]? := fun k hk hne => by
    rw [kn k (by omega) hne, hB2.block k (by omega), hB1.block k hk]
  have ks : ∀ k, k ≠ wb → (wn.setCell ⟨wb, 3, none⟩ v').heap[k]? = wn.heap[k]? := fun k hk => heap_setCell_other wn ⟨wb, 3, none⟩ k v' hk
  have kz : (wn.setCell ⟨wb, 3, none⟩ v').heap.size = wn.heap.size := by simp [World.setCell]
  have hwb : v.ownBlock ≠ some wb := fun e => by have := (hvb wb e).1; omega
  have ewb : wn.heap[wb]? = wr.heap[wb]? := ko wb hwl hwb
  have hnew : ∀ k ∈ (⟨bb, w1.heap.size, fb, jb⟩ : Bo).own, wr.heap.size ≤ k ∧ k < w2.heap.size := by
    intro k hk
    simp only [Bo.own, List.mem_cons, List.not_mem_nil, or_false] at hk
    rcases hk with rfl | rfl | rfl | rfl <;> omega
  refine ⟨World.cell?_setCell_same _ _ _ ((World.cell?_of_block (a := ⟨wb, 3, none⟩) ewb).trans h.c3), (World.cell?_setCell_other _ _ _ _ (by simp)).trans ((World.cell?_of_block (a := ⟨wb, 4, none⟩) ewb).trans h.c4), ?_, ?_, ?_, ?_, ?_, ?_, h.ge⟩
  · have := (World.frozen?_of_block (a := ⟨wb, 3, none⟩) ewb).trans h.fz
    simp [this]
  · rw [List.length_append, List.flatMap_append]
    have : List.flatMap boCells [(⟨bb, w1.heap.size, fb, jb⟩ : Bo)] = boCells ⟨bb, w1.heap.size, fb, jb⟩ := by simp [List.flatMap]
    rw [this]
    exact own_set hown (by omega)
  · intro o ho
    rw [List.mem_append, List.mem_singleton] at ho
    rcases ho with ho | rfl
    · have hp := h.prs o ho
      refine hp.kept (fun k hk => ?_) (by rw [kz]; omega)
      obtain ⟨a1, a2, _⟩ := h.apart o ho k hk
      rw [ks k a1, ko k (hp.lt k hk) a2]
    · refine ⟨hb1.kept ?_ (by rw [kz]; omega), hr2.kept (fun k e => ?_) (by rw [kz]; omega), ⟨by simp only; omega, by simp only; omega, by simp only; omega⟩⟩
      · rw [ks bb (by omega), kn bb (by omega) (fun e => by have := (hvb bb e).2; omega), hB2.block bb hxl]
      · have hk2 : wr.heap.size ≤ k ∧ k < w2.heap.size := by rcases e with rfl | rfl | rfl <;> omega
        rw [ks k (by omega), kn k hk2.2 (fun e => by have := (hvb k e).2; omega)]
  · intro o ho k hk
    rw [List.mem_append, List.mem_singleton] at ho
    rcases ho with ho | rfl
    · obtain ⟨a1, a2, a3⟩ := h.apart o ho k hk
      refine ⟨a1, ?_, a3⟩
      rcases hloc with e | e
      · rw [e]; exact a2
      · rw [e]
        have := (h.prs o ho).lt k hk
        simp
        omega
    · obtain ⟨n1, n2⟩ := hnew k hk
      have hbz := h.below.size
      refine ⟨by omega, ?_, by omega⟩
      rcases hloc with e | e
      · rw [e]; exact fun e => by have := (hvb k e).2; omega
      · rw [e]
        simp
        omega
  · rw [List.pairwise_append]
    refine ⟨h.dis, List.pairwise_singleton _ _, fun a ha b hb k hk hk2 => ?_⟩
    rw [List.mem_singleton] at hb
    subst hb
    have := (h.prs a ha).lt k hk
    have := (hnew k hk2).1
    omega
  · refine ⟨hgr.os.trans (hB2.os.trans (hB1.os.trans h.below.os)), hgr.tape.trans (hB2.tape.trans (hB1.tape.trans h.below.tape)), hgr.output.trans (hB2.output.trans (hB1.output.trans h.below.output)), by rw [kz]; have := h.below.size; omega, fun k hk => ?_⟩
    have hg := h.ge
    have hbz := h.below.size
    rw [ks k (by omega), ko k (by omega) (fun e => by have := (hvb k e).1; omega), h.below.block k hk]
/-- The two pairs, what they have become. -/
structure LW (w wr : World) (wb gb cap : Nat) (o0 o1 : Bo) (u : Nat) : Prop where
  f0 : ∃ b, LF wr wb gb cap 0 o0 b u
  f1 : ∃ b, LF wr wb gb cap 1 o1 b u
  c4 : wr.cell? ⟨wb, 4, none⟩ = some (.slice none 0 0)
  d01 : ∀ k ∈ o0.own, k ∉ o1.own
  d10 : ∀ k ∈ o1.own, k ∉ o0.own
  n0 : ∀ k ∈ o0.own, w.heap.size ≤ k
  n1 : ∀ k ∈ o1.own, w.heap.size ≤ k
  below : Below w.heap.size w wr
theorem two_of_len {os : List Bo} (h : os.length = 2) : ∃ a b, os = [a, b] := by
  match os, h with
  | [a, b], _ => exact ⟨a, b, rfl⟩
theorem LB.whole {w wr : World} {wb : Nat} {os : List Bo} {v : Value} (h : LB w wr wb os v) (hl : os.length = 2) : ∃ gb cap o0 o1, v = .slice (some ⟨gb, 0, none⟩) 2 cap ∧ LW w wr wb gb cap o0 o1 0 := by
  obtain ⟨o0, o1, rfl⟩ := two_of_len hl
  obtain ⟨gb, cap, rfl, h1, h2⟩ := own_some h.row (by simp)
  have hc : ∀ j x, (List.flatMap boCells [o0, o1])[j]? = some x → wr.cell? ⟨gb, j, none⟩ = some x := fun j x hx => by
    have := h.row.cells (g := gb) rfl j x hx
    rwa [Addr.add_lit, Nat.zero_add] at this
  have a0 := h.apart o0 (by simp)
  have a1 := h.apart o1 (by simp)
  have hd := h.dis
  rw [List.pairwise_cons] at hd
  have d01 := hd.1 o1 (by simp)
  refine ⟨gb, cap, o0, o1, rfl, ⟨⟨brd0, h.c3, hc 0 _ rfl, hc 1 _ rfl, h.prs o0 (by simp), fun e => (a0 _ e).1 rfl, fun e => (a0 _ e).2.1 rfl, by decide⟩, ⟨brd0, h.c3, hc 3 _ rfl, hc 4 _ rfl, h.prs o1 (by simp), fun e => (a1 _ e).1 rfl, fun e => (a1 _ e).2.1 rfl, by decide⟩, h.c4, d01, fun k hk e => d01 k e hk, fun k hk => (a0 k hk).2.2, fun k hk => (a1 k hk).2.2, h.below⟩⟩
/-- The one that is meant. -/
def oAt (o0 o1 : Bo) (i : Nat) : Bo := if i = 0 then o0 else o1
theorem LW.at {w wr : World} {wb gb cap : Nat} {o0 o1 : Bo} {u : Nat} (h : LW w wr wb gb cap o0 o1 u) (i : Nat) (hi : i < 2) : ∃ b, LF wr wb gb cap i (oAt o0 o1 i) b u := by
  have : i = 0 ∨ i = 1 := by omega
  rcases this with rfl | rfl
  · exact h.f0
  · exact h.f1
theorem LW.act {w wr w' : World} {wb gb cap : Nat} {o0 o1 : Bo} {u v : Nat} (h : LW w wr wb gb cap o0 o1 u) (i : Nat) (hi : i < 2) (hp : ∃ b', Pr w' (oAt o0 o1 i) b' v) (hc : Chg wr w' (oAt o0 o1 i).own) (huv : u ≤ v) : LW w w' wb gb cap o0 o1 v := by
  have hi2 : i = 0 ∨ i = 1 := by omega
  obtain ⟨b0, h0⟩ := h.f0
  obtain ⟨b1, h1⟩ := h.f1
  obtain ⟨b', hp⟩ := hp
  have hwl : wb < wr.heap.size := World.block_lt_of_cell? _ _ h.c4
  rcases hi2 with rfl | rfl
  · have hc' : Chg wr w' o0.own := hc
    refine ⟨⟨b', h0.chg hc' h0.hw h0.hg hp⟩, ⟨b1, h1.chg hc' h0.hw h0.hg ((h1.pr.chg hc' h.d10).le huv)⟩, (World.cell?_of_block (a := ⟨wb, 4, none⟩) (hc'.block wb hwl h0.hw)).trans h.c4, h.d01, h.d10, h.n0, h.n1, ?_⟩
    exact ⟨hc'.os.trans h.below.os, hc'.tape.trans h.below.tape, hc'.output.trans h.below.output, Nat.le_trans h.below.size hc'.size, fun k hk => (hc'.block k (Nat.lt_of_lt_of_le hk h.below.size) (fun e => by have := h.n0 k e; omega)).trans (h.below.block k hk)⟩
  · have hc' : Chg wr w' o1.own := hc
    refine ⟨⟨b0, h0.chg hc' h1.hw h1.hg ((h0.pr.chg hc' h.d01).le huv)⟩, ⟨b', h1.chg hc' h1.hw h1.hg hp⟩, (World.cell?_of_block (a := ⟨wb, 4, none⟩) (hc'.block wb hwl h1.hw)).trans h.c4, h.d01, h.d10, h.n0, h.n1, ?_⟩
    exact ⟨hc'.os.trans h.below.os, hc'.tape.trans h.below.tape, hc'.output.trans h.below.output, Nat.le_trans h.below.size hc'.size, fun k hk => (hc'.block k (Nat.lt_of_lt_of_le hk h.below.size) (fun e => by have := h.n1 k e; omega)).trans (h.below.block k hk)⟩
theorem LW.grow {w wr w' : World} {wb gb cap : Nat} {o0 o1 : Bo} {u : Nat} (h : LW w wr wb gb cap o0 o1 u) (hb : Below wr.heap.size wr w') : LW w w' wb gb cap o0 o1 u := by
  obtain ⟨b0, h0⟩ := h.f0
  obtain ⟨b1, h1⟩ := h.f1
  exact ⟨⟨b0, h0.below hb⟩, ⟨b1, h1.below hb⟩, (World.cell?_of_block (a := ⟨wb, 4, none⟩) (hb.block wb (World.block_lt_of_cell? _ _ h.c4))).trans h.c4, h.d01, h.d10, h.n0, h.n1, h.below.trans (hb.mono h.below.size)⟩
theorem LW.le {w wr : World} {wb gb cap : Nat} {o0 o1 : Bo} {u v : Nat} (h : LW w wr wb gb cap o0 o1 u) (huv : u ≤ v) : LW w wr wb gb cap o0 o1 v := by
  obtain ⟨b0, h0⟩ := h.f0
  obtain ⟨b1, h1⟩ := h.f1
  exact ⟨⟨b0, h0.c3, h0.cx, h0.cy, h0.pr.le huv, h0.hw, h0.hg, h0.hi⟩, ⟨b1, h1.c3, h1.cx, h1.cy, h1.pr.le huv, h1.hw, h1.hg, h1.hi⟩, h.c4, h.d01, h.d10, h.n0, h.n1, h.below⟩
end Go.Proofs.YthokdbcpkmcieaaGreat
