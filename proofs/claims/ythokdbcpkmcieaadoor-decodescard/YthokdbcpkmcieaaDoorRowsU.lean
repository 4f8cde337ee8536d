/- The walk of rows: the table's block. -/
import Derived.Test.YthokdbcpkmcieaaDoorRows
import Derived.Test.YthokdbcpkmcieaaDoorRun
import Derived.Test.YthokdbcpkmcieaaDoorData
namespace Go.Proofs.YthokdbcpkmcieaaDoor
open Go.RowKit
/-- The cells of the program's table. -/
def rowCells : List Value := rowsL.flatMap fun r => [.int .u8 r.1, .int .u8 r.2.1, .string ⟨r.2.2.toArray⟩]
set_option maxRecDepth 100000 in
theorem rows_any (w : World) :
    Calls Tryd.prog 19 #[] w fun e w' => e = .returned (.slice (some ⟨w.heap.size, 0, none⟩) 111 111) ∧ w' = w.alloc (.cells rowCells.toArray 37) :=
  calls_run (.slice (some ⟨w.heap.size, 0, none⟩) 111 111) (w.alloc (.cells rowCells.toArray 37)) Tryd.func19 rfl (by kernel_rfl) ⟨rfl, rfl⟩
end Go.Proofs.YthokdbcpkmcieaaDoor
