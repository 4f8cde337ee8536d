/- The walk of the reference's Decode. -/
import Derived.Test.YthokdbcpkmcieaaDoorShownAny
import Derived.Test.YthokdbcpkmcieaaDoorAdds
namespace Go.Proofs.YthokdbcpkmcieaaDoor
open Go Go.RowKit
set_option maxHeartbeats 400000 in
theorem rdec_empty (code : ByteArray) (at' : Int) (w : World) (h : code.toList.isEmpty = true) :
    Calls Tryd.prog 5 #[.string code, .int .i64 at'] w fun e w' => e = .returned (.tuple #[.string ⟨#[]⟩, .int .i64 0]) ∧ w' = w := by
  go_enter Tryd.func5, Tryd.ntmps5
  go_wp2
  go_ret2
  exact ⟨rfl, rfl⟩
/-- What entry answers: nothing. -/
def EntNone (c : Int) : Prop := (c % 16 == 1) = false ∧ ∀ j, j < 109 → inR c (entsL.getD j ent0) = false
/-- What entry answers: an entry and the number that goes with it. -/
def EntIs (c : Int) (e : Ent) (number : Int) : Prop :=
  ((c % 16 == 1) = true ∧ e = pagedL.getD (c / 16 % 2).toNat ent0 ∧ number = 0) ∨
  ((c % 16 == 1) = false ∧ ∃ k, k < 109 ∧ inR c (entsL.getD k ent0) = true ∧ (∀ j, j < k → inR c (entsL.getD j ent0) = false) ∧ e = entsL.getD k ent0 ∧ number = c - ((entsL.getD k ent0).1 : Int))
theorem entry_none (c : Int) (w : World) (h0 : 0 ≤ c) (h1 : c ≤ 255) (h : EntNone c) :
    Calls Tryd.prog 7 #[.int .i64 c] w fun e w' => e = .returned (.tuple #[.agg #[.int .i64 0, .int .i64 0, .string ⟨#[]⟩, .slice none 0 0], .int .i64 0, .bool false]) ∧ Below w.heap.size w w' := by
  refine (entry_table c w h0 h1 h.1).mono ?_
  rintro e w' (⟨k, v, hk, hin, _⟩ | ⟨_, he, hb⟩)
  · rw [h.2 k hk] at hin; cases hin
  · exact ⟨he, hb⟩
theorem entry_is (c : Int) (w : World) (h0 : 0 ≤ c) (h1 : c ≤ 255) (en : Ent) (number : Int) (h : EntIs c en number) :
    Calls Tryd.prog 7 #[.int .i64 c] w fun e w' => ∃ v, e = .returned (.tuple #[.agg #[.int .i64 en.1, .int .i64 en.2.1, .string ⟨en.2.2.1.toArray⟩, v], .int .i64 number, .bool true]) ∧ OpsIn w' v en.2.2.2 ∧ Below w.heap.size w w' := by
  rcases h with ⟨hp, rfl, rfl⟩ | ⟨hp, k, hk, hin, hf, rfl, rfl⟩
  · exact entry_paged c w h0 h1 hp
  · refine (entry_table c w h0 h1 hp).mono ?_
    rintro e w' (⟨j, v, hj, hin', hf', he, ho, hb⟩ | ⟨hn, _⟩)
    · have : j = k := by
        rcases Nat.lt_trichotomy j k with h | h | h
        · rw [hf j h] at hin'; cases hin'
        · exact h
        · rw [hf' k h] at hin; cases hin
      subst this
      exact ⟨v, he, ho, hb⟩
    · rw [hn k hk] at hin; cases hin
set_option maxRecDepth 100000 in
set_option maxHeartbeats 400000 in
theorem rdec_none (code : ByteArray) (at' : Int) (w : World) (h : 0 < code.size) (hc : EntNone (code[0].toNat : Int)) :
    Calls Tryd.prog 5 #[.string code, .int .i64 at'] w fun e w' => e = .returned (.tuple #[.string ⟨#[]⟩, .int .i64 0]) ∧ Below w.heap.size w w' := by
  have hs : code.toList.isEmpty = false := by rw [isEmpty_iff]; simp only [decide_eq_false_iff_not]; omega
  have hlt := (code[0]).toNat_lt
  have hl : (code[0].toNat : Int) ≤ 255 := by omega
  have HC := hideIt hc
  clear hc hlt
  go_enter Tryd.func5, Tryd.ntmps5
  go_wp2_with fail
  refine (entry_none _ _ (by omega) hl HC.out).mono ?_
  rintro e w1 ⟨rfl, hb1⟩
  go_wp2
  go_ret2
  exact ⟨rfl, hb1.alloc hb1.size _⟩
theorem tmod_is (a : Int) : a.tmod 65536 = if 0 ≤ a then a % 65536 else -((-a) % 65536) := by
  split
  · rename_i h; exact Int.tmod_eq_emod_of_nonneg h
  · have e : a.tmod 65536 = -((-a).tmod 65536) := by rw [Int.neg_tmod, Int.neg_neg]
    rw [e, Int.tmod_eq_emod_of_nonneg (by omega)]
theorem tmod_bd (a : Int) : ∃ t, a.tmod 65536 = t ∧ -65535 ≤ t ∧ t ≤ 65535 := by
  refine ⟨_, rfl, ?_, ?_⟩
  · rw [tmod_is]; split <;> omega
  · rw [tmod_is]; split <;> omega
theorem tmod_emod (a t : Int) (h : a.tmod 65536 = t) : (if t < 0 then t + 65536 else t) = a % 65536 := by
  rw [← h, tmod_is]
  split <;> split <;> omega
theorem cells_box {w1 w2 : World} {x y z u : Value} (hb : Below (w1.heap.size + 1) (w1.alloc (.cells #[x, y, z, u] 30)) w2) :
    w2.cell? ⟨w1.heap.size, 0, none⟩ = some x ∧ w2.cell? ⟨w1.heap.size, 1, none⟩ = some y ∧ w2.cell? ⟨w1.heap.size, 2, none⟩ = some z ∧ w2.cell? ⟨w1.heap.size, 3, none⟩ = some u :=
  ⟨by rw [hb.cell (by simp)]; simp, by rw [hb.cell (by simp)]; simp, by rw [hb.cell (by simp)]; simp, by rw [hb.cell (by simp)]; simp⟩
set_option maxRecDepth 100000 in
set_option maxHeartbeats 1000000 in
theorem rdec_plain (code : ByteArray) (at' : Int) (w : World) (h : 0 < code.size) (hc2 : code.size ≤ maxLen) (en : Ent) (number : Int) (hc : EntIs (code[0].toNat : Int) en number) (hops : en.2.2.2 = []) :
    Calls Tryd.prog 5 #[.string code, .int .i64 at'] w fun e w' => e = .returned (.tuple #[.string ⟨en.2.2.1.toArray⟩, .int .i64 1]) ∧ Below w.heap.size w w' := by
  have hs : code.toList.isEmpty = false := by rw [isEmpty_iff]; simp only [decide_eq_false_iff_not]; omega
  have hlt := (code[0]).toNat_lt
  have hl : (code[0].toNat : Int) ≤ 255 := by omega
  have HC := hideIt hc
  have HOPS := hideIt hops
  unfold maxLen at hc2
  clear hc hlt hops
  go_enter Tryd.func5, Tryd.ntmps5
  go_wp2_with fail
  refine (entry_is _ _ (by omega) hl en number HC.out).mono ?_
  rintro e w1 ⟨v, rfl, ho, hb1⟩
  rw [HOPS.out] at ho
  have hv : v = .slice none 0 0 := by
    rcases ho with ⟨_, h⟩ | ⟨h, _⟩
    · exact h
    · exact absurd rfl h
  rw [hv]
  clear hv ho
  have hs1 := hb1.size
  go_wp2_with fail
  refine (esize_nil _ _ _ _).mono ?_
  rintro e w2 ⟨rfl, hb2⟩
  have hb2' : Below (w1.heap.size + 1) (w1.alloc (.cells #[.int .i64 en.1, .int .i64 en.2.1, .string ⟨en.2.2.1.toArray⟩, .slice none 0 0] 30)) w2 := hb2.mono (by simp)
  obtain ⟨d0, d1, d2, d3⟩ := cells_box hb2'
  have hs2 : w1.heap.size + 1 ≤ w2.heap.size := by have := hb2'.size; simpa using this
  obtain ⟨tm, htm, t0, t1⟩ := tmod_bd at'
  by_cases hneg : tm < 0
  all_goals
    go_wp2_with fail
    refine (esize_nil _ _ _ _).mono ?_
    rintro e w3 ⟨rfl, hb3⟩
    have hb3' : Below (w1.heap.size + 1) (w1.alloc (.cells #[.int .i64 en.1, .int .i64 en.2.1, .string ⟨en.2.2.1.toArray⟩, .slice none 0 0] 30)) w3 := hb2'.trans (hb3.mono hs2)
    obtain ⟨e0, e1, e2, e3⟩ := cells_box hb3'
    have hs3 : w1.heap.size + 1 ≤ w3.heap.size := by have := hb3'.size; simpa using this
    go_wp2_with fail
    refine wp_loop_rounds 1 ?_
    rw [rounds_succ]
    go_wp2_with fail
    refine (esize_nil _ _ _ _).mono ?_
    rintro e w4 ⟨rfl, hb4⟩
    go_wp2
    go_ret2
    exact ⟨rfl, ((hb1.alloc hs1 _).trans (hb3'.mono (by omega))).trans (hb4.mono (by omega))⟩
end Go.Proofs.YthokdbcpkmcieaaDoor
