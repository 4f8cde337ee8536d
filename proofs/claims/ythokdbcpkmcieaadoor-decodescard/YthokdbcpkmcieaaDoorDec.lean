/- The walk of instruction.Decode. -/
import Derived.Test.YthokdbcpkmcieaaDoorLine
import Derived.Test.YthokdbcpkmcieaaDoorFind
import Derived.Test.YthokdbcpkmcieaaDoorParts
import Derived.BigRegion
namespace Go.Proofs.YthokdbcpkmcieaaDoor
open Go Go.RowKit Go.Shelf
set_option maxHeartbeats 400000 in
theorem dec_empty (code : ByteArray) (at' : Int) (w : World) (h : code.toList.isEmpty = true) :
    Calls Tryd.prog 6 #[.string code, .int .i64 at'] w fun e w' => e = .returned (.tuple #[.string ⟨#[]⟩, .int .i64 0]) ∧ w' = w := by
  go_enter Tryd.func6, Tryd.ntmps6
  go_wp2
  go_ret2
  exact ⟨rfl, rfl⟩
theorem find_miss (c : Int) (w : World) (h : ∀ j, j < 111 → hit c j = false) :
    Calls Tryd.prog 11 #[.int .u8 c] w fun e w' => e = .returned (.tuple #[.agg #[.int .u8 0, .int .u8 0, .string ⟨#[]⟩], .bool false]) ∧ Below w.heap.size w w' := by
  refine (find_any c w).mono ?_
  rintro e w' (⟨k, hk, hh, _⟩ | ⟨_, he, hb⟩)
  · rw [h k hk] at hh; cases hh
  · exact ⟨he, hb⟩
theorem find_hit (c : Int) (w : World) (k : Nat) (hk : k < 111) (hh : hit c k = true) (hf : ∀ j, j < k → hit c j = false) (rc rf : Int) (rt : ByteArray) (e1 : ((rowAt k).1 : Int) = rc) (e2 : ((rowAt k).2.1 : Int) = rf) (e3 : (⟨(rowAt k).2.2.toArray⟩ : ByteArray) = rt) :
    Calls Tryd.prog 11 #[.int .u8 c] w fun e w' => e = .returned (.tuple #[.agg #[.int .u8 rc, .int .u8 rf, .string rt], .bool true]) ∧ Below w.heap.size w w' := by
  subst e1 e2 e3
  refine (find_any c w).mono ?_
  rintro e w' (⟨j, hj, hh', hf', he, hb⟩ | ⟨hn, _⟩)
  · have : j = k := by
      rcases Nat.lt_trichotomy j k with h | h | h
      · rw [hf j h] at hh'; cases hh'
      · exact h
      · rw [hf' k h] at hh; cases hh
    subst this
    exact ⟨he, hb⟩
  · rw [hn k hk] at hh; cases hh
set_option maxRecDepth 100000 in
set_option maxHeartbeats 400000 in
theorem dec_miss (code : ByteArray) (at' : Int) (w : World) (h : 0 < code.size) (hm : ∀ j, j < 111 → hit (code[0].toNat : Int) j = false) :
    Calls Tryd.prog 6 #[.string code, .int .i64 at'] w fun e w' => e = .returned (.tuple #[.string ⟨#[]⟩, .int .i64 0]) ∧ Below w.heap.size w w' := by
  have hs : code.toList.isEmpty = false := by rw [isEmpty_iff]; simp only [decide_eq_false_iff_not]; omega
  have HM := hideIt hm
  clear hm
  go_enter Tryd.func6, Tryd.ntmps6
  go_wp2_with fail
  refine (find_miss _ _ HM.out).mono ?_
  rintro e w1 ⟨rfl, hb1⟩
  go_wp2
  go_ret2
  exact ⟨rfl, hb1.alloc hb1.size _⟩
end Go.Proofs.YthokdbcpkmcieaaDoor
