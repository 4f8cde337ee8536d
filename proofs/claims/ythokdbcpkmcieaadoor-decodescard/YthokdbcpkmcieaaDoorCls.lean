/- The two tables held against each other, code by code: a closed look over all 256 codes. -/
import Derived.Test.YthokdbcpkmcieaaDoorDec5
import Derived.Test.YthokdbcpkmcieaaDoorRDec4
namespace Go.Proofs.YthokdbcpkmcieaaDoor
open Go Go.RowKit
def rowIx (c : Int) : Nat := (List.range 111).findIdx (hit c)
def entIx (c : Int) : Nat := (List.range 109).findIdx fun j => inR c (entsL.getD j ent0)
def entOf (c : Int) : Ent := if (c % 16 == 1) = true then pagedL.getD (c / 16 % 2).toNat ent0 else entsL.getD (entIx c) ent0
def numOf (c : Int) : Int := if (c % 16 == 1) = true then 0 else c - ((entsL.getD (entIx c) ent0).1 : Int)
def cutOf (c : Int) : List UInt8 × List UInt8 × Bool := Lib.cut (rowAt (rowIx c)).2.2 [32]
def psOf (c : Int) : List ByteArray := pieces ⟨(cutOf c).2.1.toArray⟩
def ksOf (c : Int) : List Nat := (psOf c).map fun t => (kindI t).toNat
def ownOf (c : Int) : Int := bits BinOp.and IntKind.u8 c ((rowAt (rowIx c)).2.1 : Int)
def okNone (c : Int) : Bool := !(c % 16 == 1) && (List.range 109).all (fun j => !inR c (entsL.getD j ent0))
def okEnt (c : Int) : Bool := (c % 16 == 1) || decide (entIx c < 109)
def okPlain (c : Int) : Bool := decide ((entOf c).2.2.2 = []) && decide ((entOf c).2.2.1 = (cutOf c).1) && decide ((cutOf c).2.1 = []) && !(((rowAt (rowIx c)).1 : Int) == 133)
def okKind (c : Int) (k : Nat) : Bool := decide (k < 17) && (decide (k ≠ 7 ∧ k ≠ 8) || (decide (ownOf c = numOf c) && decide (numOf c < 8))) && (decide (k ≠ 16) || decide (ownOf c = c / 32 * 32))
def okOps (c : Int) : Bool := decide (1 ≤ (psOf c).length) && decide ((psOf c).length ≤ 3) && decide ((entOf c).2.2.1 = (cutOf c).1) && decide ((entOf c).2.2.2 = textsOf (ksOf c)) &&
  (psOf c).all (fun t => decide (t.size ≤ 1000) && decide (0 ≤ kindI t) && decide (opText (kindI t).toNat = t) && okKind c (kindI t).toNat) && decide (0 ≤ numOf c) && decide (numOf c ≤ 255) && decide (0 ≤ ownOf c) &&
  decide ((((rowAt (rowIx c)).1 : Int) == 133) = (c == 133)) && (!(c == 133) || decide (ksOf c = [11, 11])) && decide ((cutOf c).2.1.length < 1000)
def okC (c : Int) : Bool := if rowIx c = 111 then okNone c else okEnt c && decide ((rowAt (rowIx c)).2.2.length < 1000) && (if (cutOf c).2.2 then okOps c else okPlain c)
theorem all_ok : (List.range 256).all (fun c => okC (c : Int)) = true := by decide +kernel
end Go.Proofs.YthokdbcpkmcieaaDoor
