/- A region that draws its order and whose callees may make memory, but leave all old blocks as they were: one walk, in the order of the text. -/
import Derived.Test.YthokdbcpkmcieaaRun
import Derived.BigQuiet
import Derived.Deep.QuietTactic
namespace Go.Proofs.Ythokdbcpkmcieaa
open Go Go.RowKit
/-- The worlds in which all blocks that there are in w are as they are in w. -/
def GW (w : World) : Type := { w' : World // Below w.heap.size w w' }
instance (w : World) : Nonempty (GW w) := ⟨⟨w, Below.refl _ _⟩⟩
theorem wp_region_grow {P : Program} {id : Nat} {Q : Exit → Act → World → Prop} {a : Act} {w : World} {l : List Oper} (hm : P.follows .mixedOrders = true) (hB : Region.lexB .any l.toArray = true)
    (h : wpQuiet P l.toArray (fun w' => ∃ x : GW w, w' = x.1) (fun a' => ∀ w', (∃ x : GW w, w' = x.1) → Q .normal a' w') l a) : (Code.region id l.toArray true).wp P Q a w :=
  wp_region_quiet (C := fun w' => ∃ x : GW w, w' = x.1) hm hB ⟨⟨w.drew, (Below.refl _ _).drew⟩, rfl⟩ (by simpa using h)
/-- A callee's contract, met in a world of the class. -/
theorem Calls.grow_of {P : Program} {f : FuncId} {args : Array Value} {w : World} {x : GW w} {v : Value} (h : Calls P f args x.1 fun e w' => e = .returned v ∧ Below x.1.heap.size x.1 w') : Calls P f args x.1 fun e w'' => e = .returned v ∧ ∃ y : GW w, w'' = y.1 :=
  h.mono fun _ w' ⟨he, hb⟩ => ⟨he, ⟨w', x.2.trans (by have := hb.mono (B' := w.heap.size) x.2.size; exact ⟨this.os, this.tape, this.output, this.size, this.block⟩)⟩, rfl⟩
theorem Calls.grow_of_same {P : Program} {f : FuncId} {args : Array Value} {w : World} {x : GW w} {v : Value} (h : Calls P f args x.1 fun e w' => e = .returned v ∧ w' = x.1) : Calls P f args x.1 fun e w'' => e = .returned v ∧ ∃ y : GW w, w'' = y.1 :=
  h.mono fun _ _ ⟨he, hb⟩ => ⟨he, x, hb⟩
end Go.Proofs.Ythokdbcpkmcieaa
