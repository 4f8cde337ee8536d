/- The walks of the reference's two tables. -/
import Derived.Test.YthokdbcpkmcieaaDoorRows
import Derived.Test.YthokdbcpkmcieaaDoorRun
import Derived.Test.YthokdbcpkmcieaaDoorData
namespace Go.Proofs.YthokdbcpkmcieaaDoor
open Go.RowKit
/-- What table lays: the operands' lists one after the other, then the entries. -/
def layOps (w : World) : List (Nat × Nat × List UInt8 × List (List UInt8)) → World
  | [] => w
  | (_, _, _, []) :: r => layOps w r
  | (_, _, _, o :: os) :: r => layOps (w.alloc (.cells ((o :: os).map fun x => Value.string ⟨x.toArray⟩).toArray 9)) r
def entCells (w : World) : List (Nat × Nat × List UInt8 × List (List UInt8)) → List Value
  | [] => []
  | (c, m, n, []) :: r => .int .i64 c :: .int .i64 m :: .string ⟨n.toArray⟩ :: .slice none 0 0 :: entCells w r
  | (c, m, n, o :: os) :: r => .int .i64 c :: .int .i64 m :: .string ⟨n.toArray⟩ :: .slice (some ⟨w.heap.size, 0, none⟩) (os.length + 1) (os.length + 1) ::
      entCells (w.alloc (.cells ((o :: os).map fun x => Value.string ⟨x.toArray⟩).toArray 9)) r
set_option maxRecDepth 100000 in
theorem paged_any (w : World) :
    Calls Tryd.prog 16 #[] w fun e w' => e = .returned (.slice (some ⟨(layOps w pagedL).heap.size, 0, none⟩) 2 2) ∧ w' = (layOps w pagedL).alloc (.cells (entCells w pagedL).toArray 30) :=
  calls_run (.slice (some ⟨(layOps w pagedL).heap.size, 0, none⟩) 2 2) ((layOps w pagedL).alloc (.cells (entCells w pagedL).toArray 30)) Tryd.func16 rfl (by kernel_rfl) ⟨rfl, rfl⟩
set_option maxRecDepth 100000 in
theorem table_any (w : World) :
    Calls Tryd.prog 17 #[] w fun e w' => e = .returned (.slice (some ⟨(layOps w entsL).heap.size, 0, none⟩) 109 109) ∧ w' = (layOps w entsL).alloc (.cells (entCells w entsL).toArray 30) :=
  calls_run (.slice (some ⟨(layOps w entsL).heap.size, 0, none⟩) 109 109) ((layOps w entsL).alloc (.cells (entCells w entsL).toArray 30)) Tryd.func17 rfl (by kernel_rfl) ⟨rfl, rfl⟩
end Go.Proofs.YthokdbcpkmcieaaDoor
