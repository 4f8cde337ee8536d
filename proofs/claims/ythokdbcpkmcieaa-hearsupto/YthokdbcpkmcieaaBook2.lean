/- The walks of sameStrings and fullStrings. -/
import Derived.Test.YthokdbcpkmcieaaFra2
import Derived.Test.YthokdbcpkmcieaaBook1
import Derived.BigQuiet
import Derived.Deep.QuietTactic
namespace Go.Proofs.Ythokdbcpkmcieaa
open Go Go.RowKit
theorem row_cell {w : World} {base : Nat} {e : TypeId} {v : Value} {n : Nat} {xs : List Value} (h : w.ownsRow base e 1 v n xs) {i : Nat} {u : Value} (hi : i < n) (hu : xs[i]? = some u) : ∃ g cap, v = .slice (some ⟨g, 0, none⟩) n cap ∧ w.cell? ⟨g, i, none⟩ = some u ∧ g < w.heap.size := by
  obtain ⟨g, cap, rfl, h1, h2⟩ := own_some h (by omega)
  refine ⟨g, cap, rfl, ?_, by simpa using h2⟩
  have := h.cells (g := g) rfl i u hu
  rwa [Addr.add_lit, Nat.zero_add] at this
set_option maxRecDepth 100000 in
set_option maxHeartbeats 2000000 in
theorem sameStrings_any (w : World) (b1 b2 : Nat) (v1 v2 : Value) (l : List (List UInt8)) (h1 : w.ownsRow b1 9 1 v1 l.length (strs l)) (h2 : w.ownsRow b2 9 1 v2 l.length (strs l)) (hl : l.length ≤ 4000000) :
    Calls Try.prog 11 #[v1, v2] w fun e w' => e = .returned (.bool true) ∧ ∃ n, w' = w.drewN n := by
  obtain ⟨n, hn⟩ : ∃ n, l.length = n := ⟨_, rfl⟩
  have hcell : ∀ i, i < n → ∃ u : ByteArray, (strs l)[i]? = some (.string u) := fun i hi => ⟨txt l[i], by unfold strs; rw [List.getElem?_map, List.getElem?_eq_getElem (by omega)]; rfl⟩
  rw [hn] at h1 h2 hl
  have HC := hideIt hcell
  have H1 := hideIt h1
  have H2 := hideIt h2
  obtain ⟨a1, c1, rfl⟩ : ∃ a c, v1 = .slice a n c := by
    rcases h1 with ⟨_, ⟨rfl, rfl⟩ | ⟨g, cap, cur, rfl, _⟩⟩
    · exact ⟨_, _, rfl⟩
    · exact ⟨_, _, rfl⟩
  obtain ⟨a2, c2, rfl⟩ : ∃ a c, v2 = .slice a n c := by
    rcases h2 with ⟨_, ⟨rfl, rfl⟩ | ⟨g, cap, cur, rfl, _⟩⟩
    · exact ⟨_, _, rfl⟩
    · exact ⟨_, _, rfl⟩
  clear h1 h2 hcell hn
  go_enter Try.func11, Try.ntmps11
  go_wp2_with fail
  go_loopw [5] (fun i wr => ∃ k : Nat, k ≤ n ∧ i = .int .i64 k ∧ ∃ m, wr = w.drewN m) (fun i _ => n - (intOf i).toNat)
  case atStart => exact ⟨0, Nat.zero_le _, rfl, 0, rfl⟩
  case round =>
    obtain ⟨k, hk, rfl, m, rfl⟩ := hrel
    by_cases hlt : k < n
    · obtain ⟨u, hu⟩ := HC.out k hlt
      obtain ⟨g1, d1, e1, x1, y1⟩ := row_cell H1.out hlt hu
      obtain ⟨g2, d2, e2, x2, y2⟩ := row_cell H2.out hlt hu
      simp only [Value.slice.injEq] at e1 e2
      obtain ⟨rfl, _, rfl⟩ := e1
      obtain ⟨rfl, _, rfl⟩ := e2
      clear hu
      have z1 : (w.drewN m).cell? ⟨g1, k, none⟩ = some (.string u) := x1
      have z2 : (w.drewN m).cell? ⟨g2, k, none⟩ = some (.string u) := x2
      have hii : (k : Int) < (n : Int) := by omega
      go_wp2
      go_quiet (fail)
      go_wp2
      go_roundw
      case rel => exact ⟨k + 1, by omega, by go_num, _, rfl⟩
      case measure => simp [intOf]; omega
    · have hkk : k = n := by omega
      subst hkk
      go_wp2
      go_ret
      exact ⟨rfl, _, rfl⟩
set_option maxRecDepth 100000 in
set_option maxHeartbeats 2000000 in
theorem fullStrings_any (w : World) (base top : Nat) (v : Value) (m : ByteArray) (h : FullAt w base top v m) :
    Calls Try.prog 33 #[v, .string m] w fun e w' => e = .returned (.bool true) ∧ w' = w := by
  obtain ⟨n, hn, h1, _⟩ := h
  have H1 := hideIt h1
  obtain ⟨a1, c1, rfl⟩ : ∃ a c, v = .slice a n c := by
    rcases h1 with ⟨_, ⟨rfl, rfl⟩ | ⟨g, cap, cur, rfl, _⟩⟩
    · exact ⟨_, _, rfl⟩
    · exact ⟨_, _, rfl⟩
  clear h1
  go_enter Try.func33, Try.ntmps33
  go_wp2_with fail
  go_loopw [5] (fun i wr => ∃ k : Nat, k ≤ n ∧ i = .int .i64 k ∧ wr = w) (fun i _ => n - (intOf i).toNat)
  case atStart => exact ⟨0, Nat.zero_le _, rfl, rfl⟩
  case round =>
    obtain ⟨k, hk, rfl, rfl⟩ := hrel
    by_cases hlt : k < n
    · obtain ⟨g1, d1, e1, x1, y1⟩ := row_cell H1.out hlt (u := .string m) (by rw [List.getElem?_replicate, if_pos hlt])
      simp only [Value.slice.injEq] at e1
      obtain ⟨rfl, _, rfl⟩ := e1
      have hii : (k : Int) < (n : Int) := by omega
      go_wp2
      go_roundw
      case rel => exact ⟨k + 1, by omega, by go_num, trivial⟩
      case measure => simp [intOf]; omega
    · have hkk : k = n := by omega
      subst hkk
      go_wp2
      go_ret
      exact ⟨rfl, rfl⟩
end Go.Proofs.Ythokdbcpkmcieaa
