/- The law's pick, copied of nothing, opens; the law plays on boards alone. -/
import Derived.Test.YthokdbcpkmcieaaGreatRBoJ
namespace Go.Proofs.YthokdbcpkmcieaaGreat
open Go Go.RowKit
attribute [local go_sem ↓] Go.wp_at_zero Go.wp_at_succ
set_option maxRecDepth 100000 in
set_option maxHeartbeats 2000000 in
theorem lpick_any (c : Int) (n : Nat) (hc1 : -9223372036854775808 ≤ c) (hc2 : c ≤ 9223372036854775807) (hn1 : 1 ≤ n) (hn2 : n ≤ 4000000) (w : World) :
    Calls Tryz.prog 13 #[.int .i64 c, .int .i64 (n : Int)] w fun e w' => ∃ k : Nat, k < n ∧ e = .returned (.int .i64 (k : Int)) ∧ w' = w := by
  have hn0 : ¬ (n : Int) = 0 := by omega
  by_cases h : c < 0
  · obtain ⟨d, hd⟩ : ∃ d : Nat, -(c + 1) = (d : Int) := ⟨(-(c + 1)).toNat, by omega⟩
    go_enter Tryz.func13, Tryz.ntmps13
    go_wp2
    go_ret
    exact ⟨d % n, Nat.mod_lt _ (by omega), by show Ending.returned (.int .i64 ((d : Int) % (n : Int))) = _; rw [Int.natCast_emod], rfl⟩
  · obtain ⟨d, rfl⟩ : ∃ d : Nat, c = (d : Int) := ⟨c.toNat, by omega⟩
    go_enter Tryz.func13, Tryz.ntmps13
    go_wp2
    go_ret
    exact ⟨d % n, Nat.mod_lt _ (by omega), by show Ending.returned (.int .i64 ((d : Int) % (n : Int))) = _; rw [Int.natCast_emod], rfl⟩
theorem open_is : bhearF brd0 (frameF [0, 7, 9, 1]) = (⟨true, pow0, mem0, ⟨1, []⟩, ⟨true, 7, 9, frameF [0, 7, 9, 1]⟩⟩, frameF [0, 7, 9, 1]) := by
  rw [bhear_one rfl quiet_0 _ (by simp) (by simp)]
  rfl
set_option maxRecDepth 100000 in
set_option maxHeartbeats 2000000 in
theorem opens_any (w : World) : Calls Tryz.prog 9 #[] w fun e w' => e = .returned (.bool true) ∧ Below w.heap.size w w' := by
  have HN := hideIt (newBoard_any w)
  have HF : Hid (∀ w', Calls Tryz.prog 17 #[.string ⟨#[0, 7, 9, 1]⟩] w' fun e w'' => e = .returned (.tuple #[.string (txt (frameF [0, 7, 9, 1])), .int .i64 0]) ∧ Below w'.heap.size w' w'') := fun w' => rframe_any ⟨#[0, 7, 9, 1]⟩ w' (by decide) (by decide)
  have HH : Hid (∀ bb w', BrdAt w' bb brd0 → Calls Tryz.prog 18 #[.pointer (some ⟨bb, 0, none⟩), .string (txt (frameF [0, 7, 9, 1]))] w' fun e w'' => e = .returned (.string (txt (frameF [0, 7, 9, 1]))) ∧ w'.grownBy w'' (some bb)) := fun bb w' h => by
    have := bbHear_any bb brd0 (txt (frameF [0, 7, 9, 1])) w' h (by rw [txt_size]; decide +kernel)
    rw [txt_toList, open_is] at this
    exact this.mono fun e w'' ⟨h1, _, h3⟩ => ⟨h1, h3⟩
  obtain ⟨F, hF⟩ : ∃ F, txt (frameF [0, 7, 9, 1]) = F := ⟨_, rfl⟩
  rw [hF] at HF HH
  clear hF
  go_enter Tryz.func9, Tryz.ntmps9
  go_wp2_with fail
  refine HN.out.mono ?_
  rintro e w1 ⟨bb, rfl, hbb, hb1, hB1⟩
  have HB := hideIt (And.intro hbb (And.intro hb1 hB1))
  clear hbb hb1 hB1
  go_wp2_with fail
  refine (HF.out _).mono ?_
  rintro e w2 ⟨rfl, hB2⟩
  have HB2 := hideIt hB2
  clear hB2
  go_wp2_with fail
  refine (HH.out bb _ (HB.out.2.1.below HB2.out)).mono ?_
  rintro e w3 ⟨rfl, hG3⟩
  have HG := hideIt hG3
  clear hG3
  go_wp2
  go_ret
  exact ⟨rfl, grown_to_below (HB.out.2.2.trans (HB2.out.mono HB.out.2.2.size)) HG.out HB.out.1⟩
set_option maxRecDepth 100000 in
set_option maxHeartbeats 2000000 in
theorem copied_nil (w : World) : Calls Tryz.prog 6 #[.agg #[.slice none 0 0, .slice none 0 0, .slice none 0 0]] w fun e w' => e = .returned (.agg #[.slice none 0 0, .slice none 0 0, .slice none 0 0]) ∧ Below w.heap.size w w' := by
  go_enter Tryz.func6, Tryz.ntmps6
  go_wp2
  have hh : (((w.alloc (.cells #[.slice none 0 0, .slice none 0 0, .slice none 0 0] 27)).alloc (.cells #[.slice none 0 0, .slice none 0 0, .slice none 0 0] 27)).alloc (.cells #[.slice none 0 0, .slice none 0 0, .slice none 0 0] 27)).heap[w.heap.size + 1]? = some (.cells #[.slice none 0 0, .slice none 0 0, .slice none 0 0] 27) := by
    rw [Below.heap_alloc _ _ _ (by simp)]
    have := heap_alloc_new (w.alloc (.cells #[.slice none 0 0, .slice none 0 0, .slice none 0 0] 27)) (.cells #[.slice none 0 0, .slice none 0 0, .slice none 0 0] 27)
    rwa [World.alloc_size] at this
  refine bodyPost_ret (results_cell_mid rfl _ _ (w.heap.size + 1) [.slice none 0 0, .slice none 0 0, .slice none 0 0] _ rfl ?_ Tryz.underlying27 rfl (by kernel_rfl)) rfl ?_
  · intro j u hu
    rw [cell_of_row _ _ _ _ _ (0, 0) hh, Nat.zero_add]
    simpa using hu
  · exact ⟨rfl, (((Below.refl _ _).alloc (Nat.le_refl _) _).alloc (by simp) _).alloc (by simp; omega) _⟩
end Go.Proofs.YthokdbcpkmcieaaGreat
