/- The law's book of lists that came out: what it holds, and when that stays so. -/
import Derived.Test.YthokdbcpkmcieaaEarW4
import Derived.Test.YthokdbcpkmcieaaMark
namespace Go.Proofs.Ythokdbcpkmcieaa
open Go Go.RowKit
/-- What is kept of one list: the list, the three longer ones, the mark. -/
structure Ent where
  l : Value
  a : Value
  b : Value
  c : Value
  m : ByteArray
def entCells (e : Ent) : List Value := [e.l, e.a, e.b, e.c, .string e.m]
def entVals (e : Ent) : List Value := [e.l, e.a, e.b, e.c]
/-- A row of the call's own, in the blocks from base to top, full of the mark. -/
def FullAt (w : World) (base top : Nat) (v : Value) (m : ByteArray) : Prop := ∃ n, n ≤ 3000000 ∧ w.ownsRow base 9 1 v n (List.replicate n (.string m)) ∧ ∀ g, v.ownBlock = some g → g < top
structure BookS (w : World) (bb base top : Nat) (sv : Value) (es : List Ent) : Prop where
  c0 : w.cell? ⟨bb, 0, none⟩ = some sv
  f0 : w.frozen? ⟨bb, 0, none⟩ = false
  lt : bb < base
  le : base ≤ top
  row : w.ownsRow base 67 5 sv es.length (es.flatMap entCells)
  rtop : ∀ g, sv.ownBlock = some g → g < top
  full : ∀ e ∈ es, ∀ v ∈ entVals e, FullAt w base top v e.m
  apart : ∀ e ∈ es, ∀ v ∈ entVals e, ∀ g, v.ownBlock = some g → sv.ownBlock ≠ some g
theorem own_blocks {w w' : World} {base top : Nat} {e : TypeId} {size n : Nat} {v : Value} {xs : List Value} (h : w.ownsRow base e size v n xs) (ht : ∀ g, v.ownBlock = some g → g < top) (hb : ∀ j, base ≤ j → j < top → w'.heap[j]? = w.heap[j]?) : w'.ownsRow base e size v n xs :=
  own_atE h (fun j hj => hb j (h.lt j hj).1 (ht j hj))
theorem BookS.kept {w w' : World} {bb base top : Nat} {sv : Value} {es : List Ent} (h : BookS w bb base top sv es) (hb : w'.heap[bb]? = w.heap[bb]?) (hk : ∀ j, base ≤ j → j < top → w'.heap[j]? = w.heap[j]?) : BookS w' bb base top sv es :=
  ⟨(World.cell?_of_block hb).trans h.c0, (World.frozen?_of_block hb).trans h.f0, h.lt, h.le, own_blocks h.row h.rtop hk, h.rtop, fun e he v hv => by
    obtain ⟨n, h1, h2, h3⟩ := h.full e he v hv
    exact ⟨n, h1, own_blocks h2 h3 hk, h3⟩, h.apart⟩
theorem BookS.up {w : World} {bb base top top' : Nat} {sv : Value} {es : List Ent} (h : BookS w bb base top sv es) (ht : top ≤ top') : BookS w bb base top' sv es :=
  ⟨h.c0, h.f0, h.lt, Nat.le_trans h.le ht, h.row, fun g hg => Nat.lt_of_lt_of_le (h.rtop g hg) ht, fun e he v hv => by
    obtain ⟨n, h1, h2, h3⟩ := h.full e he v hv
    exact ⟨n, h1, h2, fun g hg => Nat.lt_of_lt_of_le (h3 g hg) ht⟩, h.apart⟩
/-- From w to w' of the blocks below base at most bb has changed. -/
structure ButBook (bb base : Nat) (w w' : World) : Prop where
  os : w'.os = w.os
  tape : w'.tape = w.tape
  output : w'.output = w.output
  size : w.heap.size ≤ w'.heap.size
  block : ∀ k, k < base → k ≠ bb → w'.heap[k]? = w.heap[k]?
end Go.Proofs.Ythokdbcpkmcieaa
