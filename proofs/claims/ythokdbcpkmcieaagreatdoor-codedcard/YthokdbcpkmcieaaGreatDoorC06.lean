/- The walk of instruction.Decode at the one code whose second operand adds its byte first. -/
import Derived.Test.YthokdbcpkmcieaaGreatDoorC05
namespace Go.Proofs.YthokdbcpkmcieaaGreatDoor
open Go Go.RowKit Go.Shelf Go.WideMaps Go.Maps
theorem swap_cells (l : List Opn) (h : l.length = 2) : ((allCells l).set 3 (.int .u16 (l.getD 1 opn0).added)).set 8 (.int .u16 (l.getD 0 opn0).added) = allCells (swap01 l) := by
  match l, h with
  | [a, b], _ => rfl
set_option maxRecDepth 100000 in
set_option maxHeartbeats 4000000 in
theorem dec_swap (code : ByteArray) (at' m : Int) (w : World) (h : 0 < code.size) (hc2 : code.size ≤ maxLen) (hm : w.cell? ⟨0, 0, none⟩ = some (.int .i64 m)) (h0 : 0 < w.heap.size) (k n : Nat) (rc rf : Int) (rt nm ls : ByteArray) (ps : List ByteArray) (l0 : List Opn)
    (hr : RowIs (code[0].toNat : Int) k n rc rf rt nm ls ps l0) (sl : List Opn) (sz : Int) (h1 : (readTo l0 (code.extract 1 code.size) false n).1 = sl) (h2 : (code.size : Int) - ((readTo l0 (code.extract 1 code.size) false n).2.1.size : Int) = sz) (h3 : (readTo l0 (code.extract 1 code.size) false n).2.2 = false)
    (hrc : (rc == 133) = true) (hn2 : n = 2) (hf : ∀ k, k < n → (((swap01 sl).getD k opn0).at (behindN at' sz)).Fine) (hws : ∀ k, k < n → (writS (((swap01 sl).getD k opn0).at (behindN at' sz))).size ≤ 2000) :
    Calls Tryz.prog 30 #[.string code, .int .i64 at'] w fun e w' => e = .returned (.tuple #[.string ((nm ++ ⟨#[32]⟩) ++ ⟨(Lib.join ((swap01 sl).map fun o => (writS (o.at (behindN at' sz))).data.toList) [44]).toArray⟩), .int .i64 sz]) ∧ Below w.heap.size w w' := by
  have hne : code.toList.isEmpty = false := by rw [isEmpty_iff]; simp only [decide_eq_false_iff_not]; omega
  have HF := hideIt (fun w => find_hit (code[0].toNat : Int) w k hr.hk hr.hh hr.hf rc rf rt hr.e1 hr.e2 hr.e3)
  have HP := hideIt (fun w kb hown hm h0 => parts_ops rc rf (code[0].toNat : Int) m rt nm ls ps n kb w hown hr.hs hr.hls hm h0 hr.hcut hr.hps hr.hn hr.hn0 (by have := hr.hn1; omega) hr.hpl hr.hkd l0 hr.hl0)
  have HR := hideIt (fun base g cap w hown => read_at base g cap n l0 code w hr.len (by have := hr.hn1; omega) hown hr.kinds h hc2 sl sz false h1 h2 h3)
  have hll : sl.length = n := by rw [← h1, readTo_len]; exact hr.len
  obtain ⟨bh, hbh⟩ : ∃ bh, behindN at' sz = bh := ⟨_, rfl⟩
  rw [hbh] at hf hws ⊢
  obtain ⟨R, hR⟩ : ∃ R : ByteArray, (nm ++ ⟨#[32]⟩) ++ ⟨(Lib.join ((swap01 sl).map fun o => (writS (o.at bh)).data.toList) [44]).toArray⟩ = R := ⟨_, rfl⟩
  have HLI := hideIt (fun base g cap w hown => line_some base g cap n (swap01 sl) nm bh w (by simp only [swap01, List.length_set]; exact hll) hr.hn0 (by have := hr.hn1; omega) hown hf hr.hnm hws)
  rw [hR] at HLI ⊢
  have HBH : Hid (IntKind.u16.wrap (IntKind.u16.wrap at' + IntKind.u16.wrap sz) = bh) := hbh
  have hn1 := hr.hn1
  subst hn2
  have HLL := hideIt hll
  obtain ⟨a0, ha0⟩ : ∃ a, (sl.getD 0 opn0).added = a := ⟨_, rfl⟩
  obtain ⟨a1, ha1⟩ : ∃ a, (sl.getD 1 opn0).added = a := ⟨_, rfl⟩
  have HA0 := hideIt ha0
  have HA1 := hideIt ha1
  have hsw := swap_cells sl hll
  rw [ha0, ha1] at hsw
  have HSW := hideIt hsw
  clear hr h1 h2 h3 hf hws hbh hR hll ha0 ha1 hsw
  go_enter Tryz.func30, Tryz.ntmps30
  go_wp2_with fail
  refine (HF.out _).mono ?_
  rintro e w1 ⟨rfl, hb1⟩
  have hs1 := hb1.size
  have hm1 : ∀ o, (w1.alloc o).cell? ⟨0, 0, none⟩ = some (.int .i64 m) := fun o => by rw [World.cell?_alloc_old _ _ _ (by simp; omega), hb1.cell (by simp; omega)]; exact hm
  go_wp2_with fail
  go_region_with (first | (go_at_call 59; refine (kinds_any _).mono ?_; rintro e wk ⟨rfl, hok, hbk⟩; have hok' : wk.ownsMap Tryz.prog 9 (plainElem Tryz.prog 111) (w1.heap.size + 1) 17 kindsD := (by simpa using hok); have k0 : wk.cell? ⟨w1.heap.size, 0, none⟩ = some (.int .u8 rc) := (by rw [hbk.cell (by simp)]; simp); have k1 : wk.cell? ⟨w1.heap.size, 1, none⟩ = some (.int .u8 rf) := (by rw [hbk.cell (by simp)]; simp); have k2 : wk.cell? ⟨w1.heap.size, 2, none⟩ = some (.string rt) := (by rw [hbk.cell (by simp)]; simp); have km : wk.cell? ⟨0, 0, none⟩ = some (.int .i64 m) := (by rw [hbk.cell (by simp)]; exact hm1 _); have kz : 0 < wk.heap.size := (by have := hbk.size; simp at this; omega); have kb' : Below (w1.heap.size + 1) (w1.alloc (.cells #[.int .u8 rc, .int .u8 rf, .string rt] 101)) wk := (by have hx := hbk.mono (B' := w1.heap.size + 1) (by simp); exact ⟨hx.os, hx.tape, hx.output, hx.size, hx.block⟩)) | (go_at_call 58; refine (HP.out _ _ (by exact hok') (by exact km) (by exact kz)).mono ?_; rintro e w2 ⟨g, cap, rfl, hrow, hb2⟩))
  all_goals
    have hzk : w1.heap.size + 1 ≤ wk.heap.size := by have := kb'.size; simpa using this
    have hb2' := kb'.trans (hb2.mono (B' := w1.heap.size + 1) hzk)
    have hs2 : w1.heap.size + 1 ≤ w2.heap.size := by have := hb2'.size; simpa using this
    have hrow' : w2.ownsRow (w1.heap.size + 1) 114 5 (.slice (some ⟨g, 0, none⟩) 2 cap) 2 (allCells l0) := own_base hrow hzk
    have hg := (hrow'.lt g rfl).1
    clear hb2 hrow k0 k1 k2 km kb' hbk hok hok'
    go_wp2_with fail
    refine (HR.out (w1.heap.size + 1) g cap _ hrow').mono ?_
    rintro e w3 ⟨rfl, hrow3, hg3⟩
    have hb3 : Below (w1.heap.size + 1) w2 w3 := ⟨hg3.os, hg3.tape, hg3.output, hg3.size, fun j hj => hg3.block j (by omega) (by simp; omega)⟩
    have HB := hideIt (((hb1.alloc hs1 _).trans (hb2'.mono (by omega))).trans (hb3.mono (B' := w.heap.size) (by omega)))
    have cr : w3.cell? ⟨w1.heap.size, 0, none⟩ = some (.int .u8 rc) := by rw [hb3.cell (by simp), hb2'.cell (by simp)]; simp
    have hcs0 := (allCells_at sl 0 (by rw [HLL.out]; omega)).2.2.2.1
    have hcs1 := (allCells_at sl 1 (by rw [HLL.out]; omega)).2.2.2.1
    rw [HA0.out] at hcs0
    rw [HA1.out] at hcs1
    have ca : w3.cell? ⟨g, 3, none⟩ = some (.int .u16 a0) := by rw [hrow3.cellAt 3 (by omega)]; exact hcs0
    have cb : w3.cell? ⟨g, 8, none⟩ = some (.int .u16 a1) := by rw [hrow3.cellAt 8 (by omega)]; exact hcs1
    have fa : w3.frozen? ⟨g, 3, none⟩ = false := hrow3.frozenAt 3
    have fb : w3.frozen? ⟨g, 8, none⟩ = false := hrow3.frozenAt 8
    have st1 := hrow3.stored 3 (.int .u16 a1)
    have st2 := st1.1.stored 8 (.int .u16 a0)
    rw [HSW.out] at st2
    have HB2 := hideIt ((HB.out.grown (B := w.heap.size) st1.2 HB.out.size (fun k hk => by cases hk; omega)).grown st2.2 (by have := HB.out.size; have := st1.2.size; omega) (fun k hk => by cases hk; omega))
    have H3 := hideIt st2.1
    clear hrow' hrow3 hg3 hb3 hb2' st1 st2 hcs0 hcs1
    go_wp2_with fail
    go_region
    all_goals
      go_wp2_with fail
      rw [HBH.out]
      refine (HLI.out (w1.heap.size + 1) g cap _ (by exact H3.out)).mono ?_
      rintro e w4 ⟨rfl, hb4⟩
      go_wp2
      go_ret2
      exact ⟨rfl, HB2.out.drew.trans (hb4.mono HB2.out.size)⟩
end Go.Proofs.YthokdbcpkmcieaaGreatDoor
