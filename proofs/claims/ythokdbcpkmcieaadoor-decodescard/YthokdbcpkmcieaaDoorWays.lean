/- The walk of ways: the array of method expressions. -/
import Derived.Test.YthokdbcpkmcieaaDoorRows
import Derived.Test.YthokdbcpkmcieaaDoorRun
import Derived.WalkSpells
import Derived.WalkLawsBesides
import Derived.Deep.WholeRow
namespace Go.Proofs.YthokdbcpkmcieaaDoor
open Go.RowKit
abbrev fv (f : Nat) : Value := .func (.func f) #[] #[]
/-- The three functions of each kind, kind by kind. -/
def waysCells : Array Value := #[fv 26, fv 27, fv 28,
  fv 26, fv 27, fv 28,
  fv 26, fv 27, fv 28,
  fv 26, fv 27, fv 28,
  fv 26, fv 27, fv 28,
  fv 26, fv 27, fv 28,
  fv 26, fv 27, fv 28,
  fv 29, fv 27, fv 30,
  fv 29, fv 27, fv 30,
  fv 31, fv 32, fv 33,
  fv 34, fv 35, fv 36,
  fv 37, fv 32, fv 38,
  fv 37, fv 32, fv 38,
  fv 37, fv 32, fv 39,
  fv 40, fv 35, fv 41,
  fv 42, fv 32, fv 43,
  fv 44, fv 32, fv 45]
theorem results_cell1 {P : Program} {fn : Func} {k : Nat} {t : TypeId} {tmps : Array Value} {ad : Addr} {v : Value} {w : World} (h : fn.results = #[.cell k t]) (hp : tmps.getD k undef = .pointer (some ad)) (hl : (loadVar t ad).run P w = .ok v w) :
    (results fn tmps).run P w = .ok v w := by
  have hp' : tmps[k]?.getD undef = .pointer (some ad) := by rw [← hp, Array.getD_eq_getD_getElem?]
  simp [results, h, hp', asAddr, hl]
theorem ways_one : waysCells.all (·.oneCell') = true := by kernel_rfl
theorem ways_info : (Tryd.prog.info? 65).map (·.size) = some waysCells.size := by kernel_rfl
set_option maxRecDepth 100000 in
set_option maxHeartbeats 4000000 in
theorem ways_any (w : World) :
    Calls Tryd.prog 22 #[] w fun e w' => e = .returned (.agg waysCells) ∧ Below w.heap.size w w' := by
  go_enter Tryd.func22, Tryd.ntmps22
  go_wp2_with (refine wpList_store_row rfl 65 (.tmp 0) (.tmp 18) rfl w.heap.size waysCells rfl rfl 65 _ (heap_alloc_last w _) ways_info rfl ways_one ?_; rw [World.setRow_alloc_new])
  refine bodyPost_ret (v := .agg waysCells) ?_ rfl ⟨rfl, (Below.refl _ _).alloc (Nat.le_refl _) _⟩
  have hl := run_loadVar_new (P := Tryd.prog) w 65 waysCells 17 64 Tryd.underlying65 ways_info
  exact results_cell1 Tryd.results22 rfl hl
end Go.Proofs.YthokdbcpkmcieaaDoor
