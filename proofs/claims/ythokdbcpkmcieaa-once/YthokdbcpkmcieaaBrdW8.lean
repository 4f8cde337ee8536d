/- The walk of bytes. -/
import Derived.Test.YthokdbcpkmcieaaBrdW7
import Derived.Deep.WholeRow
namespace Go.Proofs.Ythokdbcpkmcieaa
open Go Go.RowKit
theorem Try.infoPages : (Try.prog.info? 78).map (·.size) = some 1024 := by kernel_rfl
theorem Try.infoPage : (Try.prog.info? 77).map (·.size) = some 64 := by kernel_rfl
theorem StoAt.pages {w : World} {bb : Nat} {p : Pow} {mem : List UInt8} (h : StoAt w bb p mem) : BytesAt w bb 4 (mem.take 1024) := h.cm.take _
theorem index_pages {mem : List UInt8} (_hlen : mem.length = 1264) (j : Nat) (hj : j < 16) (w : World) :
    (Instr.index 78 (.agg (byteVs (mem.take 1024)).toArray) (.int .i64 (j : Int))).run Try.prog w = .ok (.agg (byteVs (pageF mem j)).toArray) w := by
  have he : List.take 64 (List.drop (j * 64) (byteVs (List.take 1024 mem))) = byteVs (pageF mem j) := by
    simp only [byteVs, pageF, ← List.map_take, ← List.map_drop]
    congr 1
    apply List.ext_getElem?
    intro i
    by_cases h : i < 64
    · rw [List.getElem?_take_of_lt h, List.getElem?_take_of_lt h, List.getElem?_drop, List.getElem?_drop, List.getElem?_take_of_lt (by omega)]
      congr 1
      omega
    · rw [List.getElem?_take_eq_none (by omega), List.getElem?_take_eq_none (by omega)]
  have ha := Try.isAgg77
  have hz := Try.sizeOf77
  unfold Instr.index
  simp [asIntOf, run_underlying Try.underlying78, ha, hz, part]
  rw [if_pos hj, he]
theorem take_page (mem : List UInt8) (j : Nat) : mem.take (64 * (j + 1)) = mem.take (64 * j) ++ pageF mem j := by
  unfold pageF
  rw [show 64 * (j + 1) = 64 * j + 64 by omega, List.take_add]
set_option maxRecDepth 100000 in
set_option maxHeartbeats 8000000 in
theorem bytes_any (bb : Nat) (p : Pow) (mem : List UInt8) (w : World) (h : StoAt w bb p mem) :
    Calls Try.prog 47 #[.pointer (some ⟨bb, 4, none⟩)] w fun e w' => e = .returned (.string (txt (mem.take 1024))) ∧ Below w.heap.size w w' := by
  obtain ⟨i0, hi, hz0, hz1, hz2⟩ := info_of Try.infoU8
  have hlen := h.len
  have HR := hideIt h.pages.range
  have hl : (byteVs (mem.take 1024)).length = 1024 := by rw [byteVs_len, List.length_take]; omega
  have HI := hideIt (fun j (hj : j < 16) w' => index_pages hlen j hj w')
  obtain ⟨J, hJ⟩ : ∃ J, byteVs (mem.take 1024) = J := ⟨_, rfl⟩
  rw [hJ] at HR hl HI
  clear hJ
  go_enter Try.func47, Try.ntmps47
  go_wp2_with (refine wpList_load_mid rfl 78 (.tmp 8) rfl bb 4 rfl J _ HR.out Try.underlying78 rfl (by rw [hl]; exact Try.infoPages) ?_)
  go_loopw [3, 10] (fun v i wr => ∃ j : Nat, j ≤ 16 ∧ i = .int .i64 j ∧ wr.ownsRow w.heap.size 5 1 v (64 * j) (byteVs (mem.take (64 * j))) ∧ Below w.heap.size w wr) (fun _ i _ => 16 - (intOf i).toNat)
  case atStart => exact ⟨0, by omega, rfl, World.ownsRow_nil _ _ _ _, Below.refl _ _⟩
  case round =>
    obtain ⟨j, hj, rfl, hO, hb⟩ := hrel
    obtain ⟨va, vm, vc, rfl⟩ := slice_ofR hO
    by_cases hlt : j < 16
    · have hix := HI.out j hlt
      have hpl : (byteVs (pageF mem j)).length = 64 := by rw [byteVs_len]; exact page_length hlen j hlt
      have hN : byteVs (mem.take (64 * (j + 1))) = byteVs (mem.take (64 * j)) ++ byteVs (pageF mem j) := by rw [take_page mem j, byteVs_append]
      have h1c := byteVs_one (pageF mem j)
      obtain ⟨pg, hpg⟩ : ∃ pg, byteVs (pageF mem j) = pg := ⟨_, rfl⟩
      rw [hpg] at hix hpl hN h1c
      have hji : (j : Int) < 16 := by omega
      have hst : ∀ c : Array Value, c.size = 64 → (storeCells ⟨wr.heap.size, 0, none⟩ pg).run Try.prog (wr.alloc (.cells c 77)) = .ok () (wr.alloc (.cells pg.toArray 77)) := fun c hc => run_storeCells_new wr 77 c pg.toArray (by rw [List.size_toArray, hpl]; exact Try.infoPage) (hc.trans (by simp [hpl])) (all_oneCell_toArray h1c)
      have HO := hideIt hO
      have HB := hideIt hb
      have HN := hideIt hN
      have hsz := hb.size
      clear hpg hN hO hb
      go_wp2_with (at_builtin; refine wpList_append_own_at _ rfl _ _ 65 rfl w.heap.size 5 i0 _ 1 1 Try.underlying65 hi hz0 hz1 hz2 rfl (by decide) _ (64 * j) _ rfl (HO.out.alloc _) ⟨wr.heap.size, 0, none⟩ 64 64 pg rfl hpl (cells_new _ _ _) h1c (by unfold maxLen; omega) (by omega) (by simp; omega) ?_; intro v' wn hown hgr _ hloc; obtain ⟨a', n', c', rfl⟩ := slice_ofR hown)
      replace hgr : (wr.alloc (.cells pg.toArray 77)).grownBy wn (Value.slice va vm vc).ownBlock := hgr
      have hz3 := hgr.size
      rw [World.alloc_size] at hz3
      have HE : Hid (wn.ownsRow w.heap.size 5 1 (.slice a' n' c') (64 * (j + 1)) (byteVs (mem.take (64 * (j + 1)))) ∧ Below w.heap.size w wn) := by
        refine ⟨?_, ?_⟩
        · rw [HN.out, show 64 * (j + 1) = 64 * j + 64 by omega]; exact hown
        · have q4 := HB.out
          refine ⟨hgr.os.trans q4.os, hgr.tape.trans q4.tape, hgr.output.trans q4.output, by omega, fun k hk => ?_⟩
          rw [hgr.block k (by rw [World.alloc_size]; omega) (fun e => by have := (HO.out.lt k e.symm).1; omega), Below.heap_alloc _ _ _ (by omega), q4.block k hk]
      clear hown hgr hloc hz3
      go_roundw
      case rel => exact ⟨j + 1, by omega, by go_num, HE.out.1, HE.out.2⟩
      case measure => simp [intOf]; omega
    · obtain rfl : j = 16 := by omega
      obtain ⟨g, cap, he, hg1, hg2⟩ := own_some hO (by decide)
      cases he
      have hcv := conv_row (l := mem.take 1024) (n := 1024) (by rw [List.length_take]; omega) hO
      have HB := hideIt hb
      clear hb hO
      go_wp2
      go_ret
      exact ⟨rfl, HB.out⟩
end Go.Proofs.Ythokdbcpkmcieaa
