/- Walks of page and data. -/
import Derived.Test.YthokdbcpkmcieaaBrdS
namespace Go.Proofs.Ythokdbcpkmcieaa
open Go Go.RowKit
theorem own_five (w : World) (base : Nat) (hb : base ≤ w.heap.size) (a b c d e : UInt8) : (w.alloc (.cells #[.int .u8 (a.toNat : Int), .int .u8 (b.toNat : Int), .int .u8 (c.toNat : Int), .int .u8 (d.toNat : Int), .int .u8 (e.toNat : Int)] 5)).ownsRow base 5 1 (.slice (some ⟨w.heap.size, 0, none⟩) 5 5) 5 (byteVs [a, b, c, d, e]) :=
  ⟨rfl, .inr ⟨w.heap.size, 5, _, rfl, hb, heap_alloc_new w _, by decide, by decide, rfl, rfl⟩⟩
set_option maxRecDepth 100000 in
set_option maxHeartbeats 2000000 in
theorem page_any (n p : Nat) (hn : n < 256) (hp : p < 256) (D : List UInt8) (hD : D.length = 64) (w : World) :
    Calls Try.prog 20 #[.int .i64 (n : Int), .int .i64 (p : Int), .string (txt D)] w fun e w' => e = .returned (.string (txt ([0, 5, UInt8.ofNat n, 2, UInt8.ofNat p] ++ D))) ∧ Below w.heap.size w w' := by
  have hN : (UInt8.ofNat n).toNat = n := by rw [UInt8.toNat_ofNat']; omega
  have hP : (UInt8.ofNat p).toNat = p := by rw [UInt8.toNat_ofNat']; omega
  have hcv := conv_row (l := [0, 5, UInt8.ofNat n, 2, UInt8.ofNat p]) (n := 5) rfl (own_five w w.heap.size (Nat.le_refl _) 0 5 (UInt8.ofNat n) 2 (UInt8.ofNat p))
  rw [hN, hP] at hcv
  have hcv' : (convert 65 9 (.slice (some ⟨w.heap.size, 0, none⟩) 5 5)).run Try.prog (w.alloc (.cells #[.int .u8 0, .int .u8 5, .int .u8 (n : Int), .int .u8 2, .int .u8 (p : Int)] 5)) = .ok (.string (txt [0, 5, UInt8.ofNat n, 2, UInt8.ofNat p])) (w.alloc (.cells #[.int .u8 0, .int .u8 5, .int .u8 (n : Int), .int .u8 2, .int .u8 (p : Int)] 5)) := hcv
  have hs1 : (txt [0, 5, UInt8.ofNat n, 2, UInt8.ofNat p]).size = 5 := rfl
  have hs2 : (txt D).size = 64 := by rw [txtB_size, hD]
  have hw1 : IntKind.u8.wrap (n : Int) = (n : Int) := by rw [IntKind.wrap_u8]; omega
  have hw2 : IntKind.u8.wrap (p : Int) = (p : Int) := by rw [IntKind.wrap_u8]; omega
  rw [← txtB_cat]
  obtain ⟨H, hH⟩ : ∃ H, txt [0, 5, UInt8.ofNat n, 2, UInt8.ofNat p] = H := ⟨_, rfl⟩
  obtain ⟨DD, hDD⟩ : ∃ DD, txt D = DD := ⟨_, rfl⟩
  rw [hH] at hcv' hs1 ⊢
  rw [hDD] at hs2 ⊢
  clear hcv hH hDD
  go_enter Try.func20, Try.ntmps20
  go_wp2
  go_ret
  exact ⟨rfl, (Below.refl _ _).alloc (Nat.le_refl _) _⟩
/-- A list of numbers that came in. -/
def IntsIn (w : World) (ca : Option Addr) (cn : Nat) : Prop := ∀ i, i < cn → ∃ cb coff z, ca = some ⟨cb, coff, none⟩ ∧ cb < w.heap.size ∧ w.cell? ⟨cb, coff + i, none⟩ = some (.int .i64 z) ∧ -9223372036854775808 ≤ z ∧ z ≤ 9223372036854775807
theorem IntsIn.below {w w' : World} {ca : Option Addr} {cn : Nat} (h : IntsIn w ca cn) (hb : Below w.heap.size w w') : IntsIn w' ca cn := by
  intro i hi
  obtain ⟨cb, coff, z, h1, h2, h3, h4⟩ := h i hi
  exact ⟨cb, coff, z, h1, Nat.lt_of_lt_of_le h2 hb.size, (hb.cell (p := ⟨cb, coff + i, none⟩) h2).trans h3, h4⟩
set_option maxRecDepth 100000 in
set_option maxHeartbeats 2000000 in
theorem data_any (ca : Option Addr) (cn cc : Nat) (m : Int) (w : World) (hcn : cn ≤ 9223372036854775807) (_hm1 : -9223372036854775808 ≤ m) (_hm2 : m ≤ 9223372036854775807) (hc : IntsIn w ca cn) :
    Calls Try.prog 18 #[.slice ca cn cc, .int .i64 m] w fun e w' => ∃ D : List UInt8, D.length = 64 ∧ e = .returned (.string (txt D)) ∧ Below w.heap.size w w' := by
  obtain ⟨i0, hi, hz0, hz1, hz2⟩ := info_of Try.infoU8
  have hmk : (Instr.makeSlice 65 (.int .i64 64) (.int .i64 64)).run Try.prog w = .ok (.slice (some ⟨w.heap.size, 0, none⟩) 64 64) (w.alloc (.cells (Array.replicate 64 (.int .u8 0)) 5)) := by
    have h1 := run_makeSlice (P := Try.prog) w 65 5 i0 _ Try.underlying65 hi hz0 .i64 .i64 64 64 (by decide) (by decide) (by rw [hz1]; decide) (by rw [hz2]; decide) (by decide)
    rw [hz1] at h1
    have hmc : madeCells (Value.int IntKind.u8 0).cells (Int.toNat 64 * 1) = Array.replicate 64 (.int .u8 0) := by kernel_rfl
    rw [h1, hmc]
    rfl
  obtain ⟨km, hkm⟩ : ∃ km, mk8 m = km := ⟨_, rfl⟩
  have hwm : IntKind.u8.wrap m = (km.toNat : Int) := by rw [← hkm]; exact mk8_wrap m
  have HC := hideIt hc
  have hnl : (cn : Int) ≤ 9223372036854775807 := by omega
  clear hc hkm
  go_enter Try.func18, Try.ntmps18
  go_wp2_with fail
  go_loopw [6] (fun i wr => ∃ j : Nat, j ≤ 64 ∧ i = .int .i64 j ∧ ∃ D : List UInt8, D.length = 64 ∧ BytesAt wr w.heap.size 0 D ∧ (∀ k, wr.frozen? ⟨w.heap.size, k, none⟩ = false) ∧ Below w.heap.size w wr) (fun i _ => 64 - (intOf i).toNat)
  case atStart =>
    have hh := heap_alloc_new w (.cells (Array.replicate 64 (.int .u8 0)) 5)
    refine ⟨0, by omega, rfl, List.replicate 64 0, List.length_replicate, fun i hi => ?_, fun k => frozen_of_row _ _ _ _ _ hh, (Below.refl _ _).alloc (Nat.le_refl _) _⟩
    rw [List.length_replicate] at hi
    rw [cell_of_row _ _ _ _ _ (0, 0) hh, Nat.zero_add, Array.getElem?_replicate, if_pos hi, List.getD_eq_getElem?_getD, List.getElem?_replicate, if_pos hi]
    rfl
  case round =>
    obtain ⟨j, hj, rfl, D, hD, hb, hf, hB⟩ := hrel
    by_cases hlt : j < 64
    · have hji : (j : Int) < 64 := by omega
      have c0 := hb j (by omega)
      rw [Nat.zero_add] at c0
      have f0 := hf j
      have hb2 := hb.set j km (by omega)
      rw [Nat.zero_add] at hb2
      have HW := hideIt (And.intro hb2 (And.intro hf hB))
      have hsz := hB.size
      have hl1 : w.heap.size < wr.heap.size := by have := World.block_lt_of_cell? _ _ c0; simpa using this
      by_cases hjc : j < cn
      · obtain ⟨cb, coff, z, h1, h2, h3, h4, h5⟩ := HC.out j hjc
        subst h1
        have hjci : (j : Int) < (cn : Int) := by omega
        have c1 : wr.cell? ⟨cb, coff + j, none⟩ = some (.int .i64 z) := (hB.cell (p := ⟨cb, coff + j, none⟩) h2).trans h3
        have hne : ¬ cb = w.heap.size := by omega
        obtain ⟨kz, hkz⟩ : ∃ kz, mk8 z = kz := ⟨_, rfl⟩
        have hwz : IntKind.u8.wrap z = (kz.toNat : Int) := by rw [← hkz]; exact mk8_wrap z
        have hb3 := hb2.set j kz (by simp; omega)
        rw [Nat.zero_add] at hb3
        have HW3 := hideIt hb3
        clear hb hf hB hb2 hb3 h3 hkz
        go_wp2
        go_roundw
        case rel =>
          refine ⟨j + 1, by omega, by go_num, _, ?_, HW3.out, fun k => by simp [HW.out.2.1 k], (HW.out.2.2.setCell (p := ⟨w.heap.size, j, none⟩) (Nat.le_refl _) _).setCell (p := ⟨w.heap.size, j, none⟩) (Nat.le_refl _) _⟩
          simp [hD]
        case measure => simp [intOf]; omega
      · have hjci : ¬ (j : Int) < (cn : Int) := by omega
        clear hb hf hB hb2
        go_wp2
        go_roundw
        case rel =>
          refine ⟨j + 1, by omega, by go_num, _, ?_, HW.out.1, fun k => by simp [HW.out.2.1 k], HW.out.2.2.setCell (p := ⟨w.heap.size, j, none⟩) (Nat.le_refl _) _⟩
          simp [hD]
        case measure => simp [intOf]; omega
    · have hjn : ¬ (j : Int) < 64 := by omega
      have hcv : (convert 65 9 (.slice (some ⟨w.heap.size, 0, none⟩) 64 64)).run Try.prog wr = .ok (.string (txt D)) wr := by
        have := run_convert_bytes_back (P := Try.prog) wr 65 9 5 ⟨w.heap.size, 0, none⟩ 64 D Try.underlying65 Try.underlying5 Try.underlying9 (fun j hj => by
          have hc := hb j hj
          rw [List.getD_eq_getElem?_getD, List.getElem?_eq_getElem hj] at hc
          rw [Addr.add_lit]
          exact hc)
        rw [hD] at this
        exact this
      have HB := hideIt hB
      clear hb hf hB
      go_wp2
      go_ret
      exact ⟨D, hD, rfl, HB.out⟩
end Go.Proofs.Ythokdbcpkmcieaa
