/- Walks over records: blank, record, the search for room. -/
import Derived.Test.YthokdbcpkmcieaaBrdW1
import Derived.Test.YthokdbcpkmcieaaEarW6
import Derived.Laws.Rows
namespace Go.Proofs.Ythokdbcpkmcieaa
open Go Go.RowKit
theorem Try.infoRec : (Try.prog.info? 80).map (·.size) = some 4 := by kernel_rfl
/-- A record as a value. -/
def recV (r : List UInt8) : Value := .agg #[.int .u8 ((r.getD 0 0).toNat : Int), .int .u8 ((r.getD 1 0).toNat : Int), .int .u8 ((r.getD 2 0).toNat : Int), .int .u8 ((r.getD 3 0).toNat : Int)]
set_option maxRecDepth 100000 in
set_option maxHeartbeats 2000000 in
theorem blank_any (w : World) : Calls Try.prog 59 #[] w fun e w' => e = .returned (.agg #[.int .u8 255, .int .u8 255, .int .u8 255, .int .u8 255]) ∧ w' = w.alloc (.cells #[.int .u8 255, .int .u8 255, .int .u8 255, .int .u8 255] 80) := by
  go_enter Try.func59, Try.ntmps59
  go_wp2
  refine bodyPost_ret (results_cell_row rfl _ _ w.heap.size 80 #[.int .u8 255, .int .u8 255, .int .u8 255, .int .u8 255] (0, 0) _ rfl (heap_alloc_new w _) Try.underlying80 rfl Try.infoRec) rfl ?_
  exact ⟨rfl, rfl⟩
theorem chk_two (l : List UInt8) : chkB l = [UInt8.ofNat (crcN l / 256), UInt8.ofNat (crcN l % 256)] := rfl
theorem bytes_two (w : World) (a b : UInt8) (t : TypeId) : BytesAt (w.alloc (.cells #[.int .u8 (a.toNat : Int), .int .u8 (b.toNat : Int)] t)) w.heap.size 0 [a, b] := by
  have hc : ∀ j, (w.alloc (.cells #[.int .u8 (a.toNat : Int), .int .u8 (b.toNat : Int)] t)).cell? ⟨w.heap.size, j, none⟩ = #[Value.int .u8 (a.toNat : Int), .int .u8 (b.toNat : Int)][j]? := fun j => World.cell?_alloc_mark w _ t (0, 0) j
  intro i hi
  rw [Nat.zero_add, hc]
  have : i = 0 ∨ i = 1 := by simp at hi; omega
  rcases this with rfl | rfl <;> rfl
set_option maxRecDepth 100000 in
set_option maxHeartbeats 2000000 in
theorem record_one (sb : Nat) (n : UInt8) (m : List UInt8) (w : World) :
    Calls Try.prog 68 #[.pointer (some ⟨sb, 4, none⟩), .int .u8 (n.toNat : Int), .int .u8 1] w fun e w' => e = .returned (recV (recF m n 1)) ∧ Below w.heap.size w w' := by
  obtain ⟨c, hc⟩ : ∃ c, crcN [n, 1] = c := ⟨_, rfl⟩
  have hcl : c < 65536 := by rw [← hc]; exact crcN_lt _
  have hr : recV (recF m n 1) = .agg #[.int .u8 (n.toNat : Int), .int .u8 1, .int .u8 ((c : Int) / 256), .int .u8 ((c : Int) % 256)] := by
    have h1 : (UInt8.ofNat (c / 256)).toNat = c / 256 := by rw [UInt8.toNat_ofNat']; omega
    have h2 : (UInt8.ofNat (c % 256)).toNat = c % 256 := by rw [UInt8.toNat_ofNat']; omega
    show Value.agg #[.int .u8 (n.toNat : Int), .int .u8 1, .int .u8 ((UInt8.ofNat (crcN [n, 1] / 256)).toNat : Int), .int .u8 ((UInt8.ofNat (crcN [n, 1] % 256)).toNat : Int)] = _
    rw [hc, h1, h2]
    simp
  rw [hr]
  have HC := hideIt (fun w' (hw : BytesAt w' (w.heap.size + 1) 0 [n, 1]) => check_any (w.heap.size + 1) 0 2 [n, 1] w' (by simp) hw)
  have HB := hideIt (bytes_two (w.alloc (.cells #[.int .u8 0, .int .u8 0, .int .u8 0, .int .u8 0] 80)) n 1 5)
  rw [World.alloc_size] at HB
  rw [hc] at HC
  clear hr hc
  go_enter Try.func68, Try.ntmps68
  go_wp2_with fail
  refine (HC.out _ HB.out).mono ?_
  rintro e w1 ⟨rfl, rfl⟩
  go_wp2
  refine bodyPost_ret (results_cell_row rfl _ _ w.heap.size 80 _ (0, 0) _ rfl (heap_alloc2_old w _ _) Try.underlying80 rfl Try.infoRec) rfl ?_
  exact ⟨rfl, ((Below.refl _ _).alloc (Nat.le_refl _) _).alloc (by simp) _⟩
theorem StoAt.page {w : World} {bb : Nat} {p : Pow} {mem : List UInt8} (h : StoAt w bb p mem) (n : Nat) (hn : n < 16) : BytesAt w bb (4 + n * 64) (pageF mem n) := by
  have hl := h.len
  intro i hi
  have hw := win_get mem (64 * n) 64 i
  have hlen : (pageF mem n).length = 64 := win_len mem (64 * n) 64 (by omega)
  rw [hlen] at hi
  rw [if_pos hi] at hw
  have := h.cm (64 * n + i) (by omega)
  rw [show 4 + n * 64 + i = 4 + (64 * n + i) by omega, this]
  simp only [List.getD_eq_getElem?_getD]
  rw [page_win, hw]
theorem page_length {mem : List UInt8} (hl : mem.length = 1264) (n : Nat) (hn : n < 16) : (pageF mem n).length = 64 := win_len mem (64 * n) 64 (by omega)
theorem bytes_cells {w : World} {g off : Nat} {l : List UInt8} (h : BytesAt w g off l) : ∀ j u, (byteVs l)[j]? = some u → w.cell? ((⟨g, off, none⟩ : Addr).add j) = some u := by
  intro j u hj
  obtain ⟨h1, rfl⟩ := byteVs_at l j u hj
  rw [Addr.add_lit]
  exact h j h1
theorem byteVs_one (l : List UInt8) : ∀ u ∈ byteVs l, u.oneCell' = true := by
  intro u hu
  obtain ⟨m, _, rfl⟩ := List.mem_map.1 hu
  rfl
theorem own_two (w : World) (base : Nat) (hb : base ≤ w.heap.size) (x y : UInt8) : (w.alloc (.cells #[.int .u8 (x.toNat : Int), .int .u8 (y.toNat : Int)] 5)).ownsRow base 5 1 (.slice (some ⟨w.heap.size, 0, none⟩) 2 2) 2 (byteVs [x, y]) :=
  ⟨rfl, .inr ⟨w.heap.size, 2, _, rfl, hb, heap_alloc_new w _, by decide, by decide, rfl, rfl⟩⟩
set_option maxRecDepth 100000 in
set_option maxHeartbeats 4000000 in
theorem record_two (bb : Nat) (p : Pow) (mem : List UInt8) (n : UInt8) (w : World) (h : StoAt w bb p mem) (hn : n < 16) :
    Calls Try.prog 68 #[.pointer (some ⟨bb, 4, none⟩), .int .u8 (n.toNat : Int), .int .u8 2] w fun e w' => e = .returned (recV (recF mem n 2)) ∧ Below w.heap.size w w' := by
  obtain ⟨i0, hi, hz0, hz1, hz2⟩ := info_of Try.infoU8
  have hnn := u16 hn
  have hpl := page_length h.len n.toNat hnn
  have hlt := h.lt
  have hpg := h.page n.toNat hnn
  obtain ⟨pg, hpe⟩ : ∃ pg, pageF mem n.toNat = pg := ⟨_, rfl⟩
  have hof : ofRec mem n 2 = [n, 2] ++ pg := by unfold ofRec; rw [if_pos rfl, hpe]
  rw [hpe] at hpl hpg
  obtain ⟨c, hc⟩ : ∃ c, crcN ([n, 2] ++ pg) = c := ⟨_, rfl⟩
  have hcl : c < 65536 := by rw [← hc]; exact crcN_lt _
  have hr : recV (recF mem n 2) = .agg #[.int .u8 (n.toNat : Int), .int .u8 2, .int .u8 ((c : Int) / 256), .int .u8 ((c : Int) % 256)] := by
    have h1 : (UInt8.ofNat (c / 256)).toNat = c / 256 := by rw [UInt8.toNat_ofNat']; omega
    have h2 : (UInt8.ofNat (c % 256)).toNat = c % 256 := by rw [UInt8.toNat_ofNat']; omega
    show Value.agg #[.int .u8 (n.toNat : Int), .int .u8 2, .int .u8 ((UInt8.ofNat (crcN (ofRec mem n 2) / 256)).toNat : Int), .int .u8 ((UInt8.ofNat (crcN (ofRec mem n 2) % 256)).toNat : Int)] = _
    rw [hof, hc, h1, h2]
    simp
  rw [hr]
  have HO := hideIt (own_two (w.alloc (.cells #[.int .u8 0, .int .u8 0, .int .u8 0, .int .u8 0] 80)) (w.heap.size + 1) (by simp) n 2)
  rw [World.alloc_size] at HO
  have hBh : ((w.alloc (.cells #[.int .u8 0, .int .u8 0, .int .u8 0, .int .u8 0] 80)).alloc (.cells #[.int .u8 (n.toNat : Int), .int .u8 2] 5)).heap[w.heap.size]? = some (.cells #[.int .u8 0, .int .u8 0, .int .u8 0, .int .u8 0] 80) := heap_alloc2_old w _ _
  have hBw : Below w.heap.size w ((w.alloc (.cells #[.int .u8 0, .int .u8 0, .int .u8 0, .int .u8 0] 80)).alloc (.cells #[.int .u8 (n.toNat : Int), .int .u8 2] 5)) := ((Below.refl _ _).alloc (Nat.le_refl _) _).alloc (by simp) _
  have HP := hideIt (hpg.kept (w' := (w.alloc (.cells #[.int .u8 0, .int .u8 0, .int .u8 0, .int .u8 0] 80)).alloc (.cells #[.int .u8 (n.toNat : Int), .int .u8 2] 5)) (hBw.block bb hlt))
  have HW := hideIt (And.intro hBh hBw)
  have hni : (n.toNat : Int) < 16 := by omega
  have HCC := hideIt hc
  have HL := hideIt hpl
  clear hr hpg hof hBh hBw h hc hpe hpl
  go_enter Try.func68, Try.ntmps68
  go_wp2_with (at_builtin; refine wpList_append_own_at _ rfl _ _ 65 rfl (w.heap.size + 1) 5 i0 _ 1 1 Try.underlying65 hi hz0 hz1 hz2 rfl (by decide) _ 2 _ rfl HO.out ⟨bb, 4 + n.toNat * 64, none⟩ 64 64 (byteVs pg) rfl (by rw [byteVs_len]; exact HL.out) (bytes_cells HP.out) (byteVs_one pg) (by unfold maxLen; omega) (by omega) (by simp) ?_; intro v' wn hown hgr _ hloc; obtain ⟨g, cap, rfl, hg1, hg2⟩ := own_some hown (by omega))
  have hbt : BytesAt wn g 0 ([n, 2] ++ pg) := own_bytes (n := 66) (cap := cap) (base := w.heap.size + 1) (by rw [byteVs_append]; exact hown)
  have HK := hideIt (check_any g 0 cap ([n, 2] ++ pg) wn (by simp [HL.out]) hbt)
  rw [HCC.out, show ([n, 2] ++ pg).length = 66 by simp [HL.out]] at HK
  replace hgr : World.grownBy ((w.alloc (.cells #[.int .u8 0, .int .u8 0, .int .u8 0, .int .u8 0] 80)).alloc (.cells #[.int .u8 (n.toNat : Int), .int .u8 2] 5)) wn (some (w.heap.size + 1)) := hgr
  have hq : wn.heap[w.heap.size]? = some (.cells #[.int .u8 0, .int .u8 0, .int .u8 0, .int .u8 0] 80) := (hgr.block w.heap.size (by simp; omega) (by simp)).trans HW.out.1
  have hbl : Below w.heap.size w wn := by
    have hb := HW.out.2
    refine ⟨hgr.os.trans hb.os, hgr.tape.trans hb.tape, hgr.output.trans hb.output, Nat.le_trans hb.size hgr.size, fun k hk => ?_⟩
    rw [hgr.block k (by simp; omega) (by simp; omega), hb.block k hk]
  have HQ := hideIt (And.intro hq hbl)
  have d0 : wn.cell? ⟨w.heap.size, 0, none⟩ = some (.int .u8 0) := cell_of_row _ _ 0 _ _ (0, 0) hq
  have d1 : wn.cell? ⟨w.heap.size, 1, none⟩ = some (.int .u8 0) := cell_of_row _ _ 1 _ _ (0, 0) hq
  have d2 : wn.cell? ⟨w.heap.size, 2, none⟩ = some (.int .u8 0) := cell_of_row _ _ 2 _ _ (0, 0) hq
  have d3 : wn.cell? ⟨w.heap.size, 3, none⟩ = some (.int .u8 0) := cell_of_row _ _ 3 _ _ (0, 0) hq
  have e0 := frozen_of_row wn w.heap.size 0 _ _ hq
  have e1 := frozen_of_row wn w.heap.size 1 _ _ hq
  have e2 := frozen_of_row wn w.heap.size 2 _ _ hq
  have e3 := frozen_of_row wn w.heap.size 3 _ _ hq
  clear hown hgr hloc hq hbl hbt
  refine HK.out.mono ?_
  rintro e w1 ⟨rfl, rfl⟩
  go_wp2
  refine bodyPost_ret (results_cell_row rfl _ _ w.heap.size 80 _ (0, 0) _ rfl (heap_setCell_same _ _ _ _ _ _ (heap_setCell_same _ _ _ _ _ _ (heap_setCell_same _ _ _ _ _ _ (heap_setCell_same _ _ _ _ _ _ HQ.out.1)))) Try.underlying80 rfl Try.infoRec) rfl ?_
  exact ⟨rfl, (((HQ.out.2.setCell (p := ⟨w.heap.size, 0, none⟩) (Nat.le_refl _) _).setCell (p := ⟨w.heap.size, 1, none⟩) (Nat.le_refl _) _).setCell (p := ⟨w.heap.size, 2, none⟩) (Nat.le_refl _) _).setCell (p := ⟨w.heap.size, 3, none⟩) (Nat.le_refl _) _⟩
end Go.Proofs.Ythokdbcpkmcieaa
