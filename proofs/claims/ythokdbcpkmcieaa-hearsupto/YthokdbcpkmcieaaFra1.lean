/- Walks of Listen, of the calls of package burnish, and of the law's small helpers. -/
import Derived.Test.YthokdbcpkmcieaaEarW6
import Derived.Deep.DeepCutAuto
namespace Go.Proofs.Ythokdbcpkmcieaa
open Go Go.RowKit
set_option maxRecDepth 100000 in
set_option maxHeartbeats 2000000 in
theorem bframe_any (m : ByteArray) (w : World) (hm1 : 1 ≤ m.size) (hm2 : m.size ≤ 80) :
    Calls Try.prog 13 #[.string m] w fun e w' => e = .returned (.tuple #[.string (txt (frameF m.data.toList)), .int .i64 0]) ∧ Below w.heap.size w w' := by
  obtain ⟨F, hF⟩ : ∃ F, txt (frameF m.data.toList) = F := ⟨_, rfl⟩
  have HC := hideIt (frame_any m w hm1 hm2)
  rw [hF] at HC ⊢
  clear hF
  go_enter Try.func13, Try.ntmps13
  go_wp2_with fail
  refine HC.out.mono ?_
  rintro e w1 ⟨rfl, hb⟩
  go_wp2
  go_ret2
  exact ⟨rfl, hb⟩
set_option maxRecDepth 100000 in
set_option maxHeartbeats 2000000 in
theorem bframe_bad (m : ByteArray) (w : World) (hm : m.size < 1 ∨ 80 < m.size) (hx : m.size ≤ 4000000) :
    Calls Try.prog 13 #[.string m] w fun e w' => e = .returned (.tuple #[.string ⟨#[]⟩, .int .i64 8]) ∧ w' = w := by
  have HC := hideIt (frame_bad m w hm hx)
  go_enter Try.func13, Try.ntmps13
  go_wp2_with fail
  refine HC.out.mono ?_
  rintro e w1 ⟨rfl, rfl⟩
  go_wp2
  go_ret2
  exact ⟨rfl, rfl⟩
set_option maxRecDepth 100000 in
set_option maxHeartbeats 2000000 in
theorem bhear_any (eb : Nat) (s : EarS) (bs : ByteArray) (w : World) (h : EarAt w eb s) (hbs : bs.size ≤ 4000000) :
    Calls Try.prog 9 #[.pointer (some ⟨eb, 0, none⟩), .string bs] w fun e w' => ∃ v, e = .returned v ∧ EarAt w' eb (hearF s bs.data.toList).1 ∧ w'.ownsRow w.heap.size 9 1 v (hearF s bs.data.toList).2.length (strs (hearF s bs.data.toList).2) ∧ w.grownBy w' (some eb) := by
  have HC := hideIt (hear_any eb s bs w h hbs)
  have hlt := h.lt
  have c0 := h.c0
  obtain ⟨R, hR⟩ : ∃ R, hearF s bs.data.toList = R := ⟨_, rfl⟩
  rw [hR] at HC ⊢
  clear hR h
  go_enter Try.func9, Try.ntmps9
  go_wp2_with fail
  refine HC.out.mono ?_
  rintro e w1 ⟨v, rfl, h1, h2, h3⟩
  obtain ⟨va, vm, vc, rfl⟩ := slice_ofR h2
  have HQ := hideIt (And.intro h1 (And.intro h2 h3))
  clear h1 h2 h3
  go_wp2
  go_ret
  exact ⟨_, rfl, HQ.out.1, HQ.out.2.1, HQ.out.2.2⟩
def zeroEar : Array Value := #[.int .i64 0] ++ Array.replicate 82 (.int .u8 0) ++ #[.int .i64 0]
theorem Try.zeroEarInfo : (Try.prog.info? 61).map (fun i => i.zero) = some (some (.agg zeroEar)) := by kernel_rfl
theorem run_zero {P : Program} {t : TypeId} {z : Value} (h : (P.info? t).map (fun i => i.zero) = some (some z)) (w : World) : (zeroValue t).run P w = .ok z w := by
  cases hi : P.info? t with
  | none => rw [hi] at h; cases h
  | some i =>
    rw [hi] at h
    simp at h
    simp [zeroValue, typeInfo, hi, h]
theorem zeroEar_at (w : World) (t : TypeId) : EarAt (w.alloc (.cells zeroEar t)) w.heap.size ⟨0, []⟩ := by
  have hc : ∀ j, (w.alloc (.cells zeroEar t)).cell? ⟨w.heap.size, j, none⟩ = zeroEar[j]? := fun j => World.cell?_alloc_mark w zeroEar t (0, 0) j
  have hs : zeroEar.size = 84 := by decide
  refine ⟨?_, ?_, fun i hi => ?_, fun i hi => by simp at hi, fun j => ?_, by simp, ⟨(by decide : 0 ≤ 2), by simp⟩⟩
  · rw [hc]; rfl
  · rw [hc]; rfl
  · rw [hc, Array.getElem?_eq_getElem (by omega)]; exact ⟨_, rfl⟩
  · rw [World.frozen?_alloc_mark w zeroEar t 0 0 j]; simp
set_option maxRecDepth 100000 in
set_option maxHeartbeats 2000000 in
theorem listen_any (w : World) : Calls Try.prog 7 #[] w fun e w' => e = .returned (.pointer (some ⟨w.heap.size, 0, none⟩)) ∧ EarAt w' w.heap.size ⟨0, []⟩ ∧ Below w.heap.size w w' ∧ w'.heap.size = w.heap.size + 1 := by
  have hz := run_zero Try.zeroEarInfo w
  go_enter Try.func7, Try.ntmps7
  go_wp2
  go_ret
  exact ⟨rfl, zeroEar_at w _, (Below.refl _ _).alloc (Nat.le_refl _) _, by simp⟩
set_option maxRecDepth 100000 in
set_option maxHeartbeats 2000000 in
theorem flag_any (w : World) : Calls Try.prog 15 #[] w fun e w' => e = .returned (.string (txt [126])) ∧ Below w.heap.size w w' := by
  have hcv : (convert 65 9 (.slice (some ⟨w.heap.size, 0, none⟩) 1 1)).run Try.prog (w.alloc (.cells #[.int .u8 126] 5)) = .ok (.string (txt [126])) (w.alloc (.cells #[.int .u8 126] 5)) := conv_row (l := [126]) (n := 1) rfl (own_first w w.heap.size (Nat.le_refl _) 126)
  have hb : Below w.heap.size w (w.alloc (.cells #[.int .u8 126] 5)) := (Below.refl _ _).alloc (Nat.le_refl _) _
  have HB := hideIt hb
  clear hb
  go_enter Try.func15, Try.ntmps15
  go_wp2
  go_ret
  exact ⟨rfl, HB.out⟩
set_option maxRecDepth 100000 in
set_option maxHeartbeats 2000000 in
theorem pick_any (c : Int) (n : Nat) (hc1 : -9223372036854775808 ≤ c) (hc2 : c ≤ 9223372036854775807) (hn1 : 1 ≤ n) (hn2 : n ≤ 4000000) (w : World) :
    Calls Try.prog 16 #[.int .i64 c, .int .i64 (n : Int)] w fun e w' => ∃ k : Nat, k < n ∧ e = .returned (.int .i64 (k : Int)) ∧ w' = w := by
  have hn0 : ¬ (n : Int) = 0 := by omega
  by_cases h : c < 0
  · obtain ⟨d, hd⟩ : ∃ d : Nat, -(c + 1) = (d : Int) := ⟨(-(c + 1)).toNat, by omega⟩
    go_enter Try.func16, Try.ntmps16
    go_wp2
    go_ret
    exact ⟨d % n, Nat.mod_lt _ (by omega), by show Ending.returned (.int .i64 ((d : Int) % (n : Int))) = _; rw [Int.natCast_emod], rfl⟩
  · obtain ⟨d, rfl⟩ : ∃ d : Nat, c = (d : Int) := ⟨c.toNat, by omega⟩
    go_enter Try.func16, Try.ntmps16
    go_wp2
    go_ret
    exact ⟨d % n, Nat.mod_lt _ (by omega), by show Ending.returned (.int .i64 ((d : Int) % (n : Int))) = _; rw [Int.natCast_emod], rfl⟩
end Go.Proofs.Ythokdbcpkmcieaa
