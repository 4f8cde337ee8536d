/- Walks of package burnish's calls on boards, and of the laws' helpers. -/
import Derived.Test.YthokdbcpkmcieaaBrdO
import Derived.Test.YthokdbcpkmcieaaFra1
namespace Go.Proofs.Ythokdbcpkmcieaa
open Go Go.RowKit
theorem hear_any_b (bb : Nat) (b : Brd) (bs : ByteArray) (w : World) (h : BrdAt w bb b) (hbs : bs.size ≤ 4000000) :
    Calls Try.prog 38 #[.pointer (some ⟨bb, 0, none⟩), .string bs] w fun e w' => e = .returned (.string (txt (bhearF b bs.data.toList).2)) ∧ BrdAt w' bb (bhearF b bs.data.toList).1 ∧ w.grownBy w' (some bb) := by
  by_cases ho : b.on = true
  · exact hear_on bb b bs w h ho hbs
  · have hof : b.on = false := by simpa using ho
    have e : bhearF b bs.data.toList = (b, []) := by unfold bhearF; rw [if_pos hof]
    rw [e]
    exact hear_off bb b bs w h hof
set_option maxHeartbeats 1000000 in
theorem bbHear_any (bb : Nat) (b : Brd) (bs : ByteArray) (w : World) (h : BrdAt w bb b) (hbs : bs.size ≤ 4000000) :
    Calls Try.prog 23 #[.pointer (some ⟨bb, 0, none⟩), .string bs] w fun e w' => e = .returned (.string (txt (bhearF b bs.data.toList).2)) ∧ BrdAt w' bb (bhearF b bs.data.toList).1 ∧ w.grownBy w' (some bb) := by
  have HC := hideIt (hear_any_b bb b bs w h hbs)
  obtain ⟨R, hR⟩ : ∃ R, bhearF b bs.data.toList = R := ⟨_, rfl⟩
  rw [hR] at HC ⊢
  have c0 := h.c0
  clear h hR
  go_enter Try.func23, Try.ntmps23
  go_wp2_with fail
  refine HC.out.mono ?_
  rintro e w1 ⟨rfl, h1, h2⟩
  have HQ := hideIt (And.intro h1 h2)
  clear h1 h2
  go_wp2
  go_ret
  exact ⟨rfl, HQ.out.1, HQ.out.2⟩
set_option maxHeartbeats 1000000 in
theorem bbCut_any (bb : Nat) (b : Brd) (n m : Int) (hn1 : -9223372036854775808 ≤ n) (hn2 : n ≤ 9223372036854775807) (w : World) (h : BrdAt w bb b) : Calls Try.prog 22 #[.pointer (some ⟨bb, 0, none⟩), .int .i64 n, .int .i64 m] w fun e w' => e = .returned (.tuple #[]) ∧ BrdAt w' bb (cutF b n (mk8 m)) ∧ w.grownBy w' (some bb) := by
  have HC := hideIt (cut_any bb b n m hn1 hn2 w h)
  have c0 := h.c0
  clear h
  go_enter Try.func22, Try.ntmps22
  go_wp2_with fail
  refine HC.out.mono ?_
  rintro e w1 ⟨rfl, h1, h2⟩
  have HQ := hideIt (And.intro h1 h2)
  clear h1 h2
  go_wp2
  go_end0
  exact ⟨rfl, HQ.out.1, HQ.out.2⟩
set_option maxHeartbeats 1000000 in
theorem bbBoot_any (bb : Nat) (b : Brd) (w : World) (h : BrdAt w bb b) : Calls Try.prog 25 #[.pointer (some ⟨bb, 0, none⟩)] w fun e w' => e = .returned (.tuple #[]) ∧ BrdAt w' bb (bootF b) ∧ w.grownBy w' (some bb) := by
  have HC := hideIt (boot_any bb b w h)
  have c0 := h.c0
  clear h
  go_enter Try.func25, Try.ntmps25
  go_wp2_with fail
  refine HC.out.mono ?_
  rintro e w1 ⟨rfl, h1, h2⟩
  have HQ := hideIt (And.intro h1 h2)
  clear h1 h2
  go_wp2
  go_end0
  exact ⟨rfl, HQ.out.1, HQ.out.2⟩
set_option maxHeartbeats 1000000 in
theorem bbOn_any (bb : Nat) (b : Brd) (w : World) (h : BrdAt w bb b) : Calls Try.prog 24 #[.pointer (some ⟨bb, 0, none⟩)] w fun e w' => e = .returned (.bool b.on) ∧ w' = w := by
  have HC := hideIt (on_any bb b w h)
  have c0 := h.c0
  clear h
  go_enter Try.func24, Try.ntmps24
  go_wp2_with fail
  refine HC.out.mono ?_
  rintro e w1 ⟨rfl, rfl⟩
  go_wp2
  go_ret
  exact ⟨rfl, rfl⟩
set_option maxHeartbeats 1000000 in
theorem bbFlash_any (bb : Nat) (b : Brd) (w : World) (h : BrdAt w bb b) : Calls Try.prog 21 #[.pointer (some ⟨bb, 0, none⟩)] w fun e w' => e = .returned (.string (txt (b.mem.take 1024))) ∧ Below w.heap.size w w' := by
  have HC := hideIt (flash_any bb b w h)
  have c0 := h.c0
  clear h
  go_enter Try.func21, Try.ntmps21
  go_wp2_with fail
  refine HC.out.mono ?_
  rintro e w1 ⟨rfl, hb⟩
  go_wp2
  go_ret
  exact ⟨rfl, hb⟩
set_option maxHeartbeats 1000000 in
theorem bbBurnt_any (bb : Nat) (b : Brd) (w : World) (h : BrdAt w bb b) : Calls Try.prog 26 #[.pointer (some ⟨bb, 0, none⟩)] w fun e w' => e = .returned (.int .i64 (bitsF b.mem : Int)) ∧ Below w.heap.size w w' := by
  have HC := hideIt (burnt_any bb b w h)
  have c0 := h.c0
  clear h
  go_enter Try.func26, Try.ntmps26
  go_wp2_with fail
  refine HC.out.mono ?_
  rintro e w1 ⟨rfl, hb⟩
  go_wp2
  go_ret
  exact ⟨rfl, hb⟩
theorem txtB_list (l : List UInt8) : (txt l).data.toList = l := by simp [txt]
theorem grown_to_below {w w1 w2 : World} {eb : Nat} (h : Below w.heap.size w w1) (hg : w1.grownBy w2 (some eb)) (he : w.heap.size ≤ eb) : Below w.heap.size w w2 :=
  ⟨hg.os.trans h.os, hg.tape.trans h.tape, hg.output.trans h.output, Nat.le_trans h.size hg.size, fun j hj => by rw [hg.block j (Nat.lt_of_lt_of_le hj h.size) (by simp; omega), h.block j hj]⟩
theorem below_to_grown {w w1 : World} (h : Below w.heap.size w w1) (r : Option Nat) : w.grownBy w1 r := ⟨h.os, h.tape, h.output, h.size, fun k hk _ => h.block k hk⟩
end Go.Proofs.Ythokdbcpkmcieaa
