/- The walk of instruction.Decode where the instruction has operands. -/
import Derived.Test.YthokdbcpkmcieaaGreatDoorC03
namespace Go.Proofs.YthokdbcpkmcieaaGreatDoor
open Go Go.RowKit Go.Shelf Go.WideMaps Go.Maps
/-- An operand as parts makes it. -/
def opn (b : Int) (t : ByteArray) : Opn := ⟨(kindI t).toNat, t, b, 0, 0⟩
theorem opn_cells (b : Int) (ps : List ByteArray) (h : ∀ t ∈ ps, 0 ≤ kindI t) : ps.flatMap (opCells b) = allCells (ps.map (opn b)) := by
  induction ps with
  | nil => rfl
  | cons t ps ih =>
    have ht := h t (by simp)
    have := ih (fun x hx => h x (List.mem_cons_of_mem _ hx))
    simp only [List.flatMap_cons, List.map_cons, allCells] at this ⊢
    rw [this]
    congr 1
    simp only [opCells, opn, Opn.cells]
    rw [Int.toNat_of_nonneg ht]
theorem parts_ops (rc rf c m : Int) (rt nm ls : ByteArray) (ps : List ByteArray) (n kb : Nat) (w : World) (hown : w.ownsMap Tryz.prog 9 (plainElem Tryz.prog 111) kb 17 kindsD) (hs : rt.size < 1000) (hls : ls.size < 1000) (hm : w.cell? ⟨0, 0, none⟩ = some (.int .i64 m)) (h0 : 0 < w.heap.size)
    (hcut : Lib.cut rt.data.toList [32] = (nm.data.toList, ls.data.toList, true)) (hps : pieces ls = ps) (hn : ps.length = n) (hn0 : 0 < n) (hn1 : n ≤ 1000) (hpl : ∀ t, t ∈ ps → t.size ≤ 1000) (hk : ∀ t ∈ ps, 0 ≤ kindI t) (l0 : List Opn) (hl0 : ps.map (opn (bits BinOp.and IntKind.u8 c rf)) = l0) :
    Calls Tryz.prog 58 #[.agg #[.int .u8 rc, .int .u8 rf, .string rt], .int .u8 c, .map (some kb)] w fun e w' => ∃ g cap, e = .returned (.tuple #[.string nm, .slice (some ⟨g, 0, none⟩) n cap]) ∧
      w'.ownsRow w.heap.size 114 5 (.slice (some ⟨g, 0, none⟩) n cap) n (allCells l0) ∧ Below w.heap.size w w' := by
  refine (parts_some rc rf c m rt nm ls ps n kb w hown hs hls hm h0 hcut hps hn hn1 hpl).mono ?_
  rintro e w' ⟨v, rfl, hrow, hb⟩
  rw [opn_cells _ _ hk, hl0] at hrow
  obtain ⟨_, ⟨_, h'⟩ | ⟨g, cap, cur, rfl, _⟩⟩ := id hrow
  · omega
  · exact ⟨g, cap, rfl, hrow, hb⟩
/-- The first two operands' numbers change places. -/
def swap01 (l : List Opn) : List Opn := (l.set 0 ((l.getD 0 opn0).put (l.getD 1 opn0).added)).set 1 ((l.getD 1 opn0).put (l.getD 0 opn0).added)
/-- What is known of a row of the table, and of what parts makes of it. -/
structure RowIs (c : Int) (k n : Nat) (rc rf : Int) (rt nm ls : ByteArray) (ps : List ByteArray) (l0 : List Opn) : Prop where
  hk : k < 111
  hh : hit c k = true
  hf : ∀ j, j < k → hit c j = false
  e1 : ((rowAt k).1 : Int) = rc
  e2 : ((rowAt k).2.1 : Int) = rf
  e3 : (⟨(rowAt k).2.2.toArray⟩ : ByteArray) = rt
  hs : rt.size < 1000
  hls : ls.size < 1000
  hcut : Lib.cut rt.data.toList [32] = (nm.data.toList, ls.data.toList, true)
  hps : pieces ls = ps
  hn : ps.length = n
  hn0 : 0 < n
  hn1 : n ≤ 3
  hpl : ∀ t, t ∈ ps → t.size ≤ 1000
  hkd : ∀ t ∈ ps, 0 ≤ kindI t
  hk17 : ∀ t ∈ ps, (kindI t).toNat < 17
  hl0 : ps.map (opn (bits BinOp.and IntKind.u8 c rf)) = l0
  hnm : nm.size ≤ 1000
theorem RowIs.len {c : Int} {k n : Nat} {rc rf : Int} {rt nm ls : ByteArray} {ps : List ByteArray} {l0 : List Opn} (h : RowIs c k n rc rf rt nm ls ps l0) : l0.length = n := by rw [← h.hl0, List.length_map]; exact h.hn
theorem RowIs.kinds {c : Int} {k n : Nat} {rc rf : Int} {rt nm ls : ByteArray} {ps : List ByteArray} {l0 : List Opn} (h : RowIs c k n rc rf rt nm ls ps l0) : ∀ j, j < n → (l0.getD j opn0).kind < 17 := by
  intro j hj
  have hjp : j < ps.length := by rw [h.hn]; exact hj
  rw [← h.hl0, List.getD_eq_getElem?_getD, List.getElem?_map, List.getElem?_eq_getElem hjp]
  exact h.hk17 _ (List.getElem_mem hjp)
set_option maxRecDepth 100000 in
set_option maxHeartbeats 4000000 in
theorem dec_short (code : ByteArray) (at' m : Int) (w : World) (h : 0 < code.size) (hc2 : code.size ≤ maxLen) (hm : w.cell? ⟨0, 0, none⟩ = some (.int .i64 m)) (h0 : 0 < w.heap.size) (k n : Nat) (rc rf : Int) (rt nm ls : ByteArray) (ps : List ByteArray) (l0 : List Opn)
    (hr : RowIs (code[0].toNat : Int) k n rc rf rt nm ls ps l0) (hsh : (readTo l0 (code.extract 1 code.size) false n).2.2 = true) :
    Calls Tryz.prog 30 #[.string code, .int .i64 at'] w fun e w' => e = .returned (.tuple #[.string ⟨#[]⟩, .int .i64 0]) ∧ Below w.heap.size w w' := by
  have hne : code.toList.isEmpty = false := by rw [isEmpty_iff]; simp only [decide_eq_false_iff_not]; omega
  have HF := hideIt (fun w => find_hit (code[0].toNat : Int) w k hr.hk hr.hh hr.hf rc rf rt hr.e1 hr.e2 hr.e3)
  have HP := hideIt (fun w kb hown hm h0 => parts_ops rc rf (code[0].toNat : Int) m rt nm ls ps n kb w hown hr.hs hr.hls hm h0 hr.hcut hr.hps hr.hn hr.hn0 (by have := hr.hn1; omega) hr.hpl hr.hkd l0 hr.hl0)
  have HL := hideIt hr.len
  have HK := hideIt hr.kinds
  have hn1 := hr.hn1
  have HS := hideIt hsh
  clear hr hsh
  go_enter Tryz.func30, Tryz.ntmps30
  go_wp2_with fail
  refine (HF.out _).mono ?_
  rintro e w1 ⟨rfl, hb1⟩
  have hs1 := hb1.size
  have hm1 : ∀ o, (w1.alloc o).cell? ⟨0, 0, none⟩ = some (.int .i64 m) := fun o => by rw [World.cell?_alloc_old _ _ _ (by simp; omega), hb1.cell (by simp; omega)]; exact hm
  go_wp2_with fail
  go_region_with (first | (go_at_call 59; refine (kinds_any _).mono ?_; rintro e wk ⟨rfl, hok, hbk⟩; have hok' : wk.ownsMap Tryz.prog 9 (plainElem Tryz.prog 111) (w1.heap.size + 1) 17 kindsD := (by simpa using hok); have k0 : wk.cell? ⟨w1.heap.size, 0, none⟩ = some (.int .u8 rc) := (by rw [hbk.cell (by simp)]; simp); have k1 : wk.cell? ⟨w1.heap.size, 1, none⟩ = some (.int .u8 rf) := (by rw [hbk.cell (by simp)]; simp); have k2 : wk.cell? ⟨w1.heap.size, 2, none⟩ = some (.string rt) := (by rw [hbk.cell (by simp)]; simp); have km : wk.cell? ⟨0, 0, none⟩ = some (.int .i64 m) := (by rw [hbk.cell (by simp)]; exact hm1 _); have kz : 0 < wk.heap.size := (by have := hbk.size; simp at this; omega); have kb' : Below (w1.heap.size + 1) (w1.alloc (.cells #[.int .u8 rc, .int .u8 rf, .string rt] 101)) wk := (by have hx := hbk.mono (B' := w1.heap.size + 1) (by simp); exact ⟨hx.os, hx.tape, hx.output, hx.size, hx.block⟩)) | (go_at_call 58; refine (HP.out _ _ (by exact hok') (by exact km) (by exact kz)).mono ?_; rintro e w2 ⟨g, cap, rfl, hrow, hb2⟩))
  all_goals
    have hzk : w1.heap.size + 1 ≤ wk.heap.size := by have := kb'.size; simpa using this
    have hb2' := kb'.trans (hb2.mono (B' := w1.heap.size + 1) hzk)
    have hs2 : w1.heap.size + 1 ≤ w2.heap.size := by have := hb2'.size; simpa using this
    have hrow' : w2.ownsRow (w1.heap.size + 1) 114 5 (.slice (some ⟨g, 0, none⟩) n cap) n (allCells l0) := own_base hrow hzk
    have hg := (hrow'.lt g rfl).1
    clear hb2 hrow k0 k1 k2 km kb' hbk hok hok'
    go_wp2_with fail
    refine (read_any (w1.heap.size + 1) g cap n l0 code _ HL.out (by omega) hrow' HK.out h hc2).mono ?_
    rintro e w3 ⟨rfl, hrow3, hg3⟩
    rw [HS.out]
    have hb3 : Below (w1.heap.size + 1) w2 w3 := ⟨hg3.os, hg3.tape, hg3.output, hg3.size, fun j hj => hg3.block j (by omega) (by simp; omega)⟩
    have HB := hideIt (((hb1.alloc hs1 _).trans (hb2'.mono (by omega))).trans (hb3.mono (B' := w.heap.size) (by omega)))
    clear hrow' hrow3 hg3 hb3
    go_wp2
    go_ret2
    exact ⟨rfl, HB.out⟩
end Go.Proofs.YthokdbcpkmcieaaGreatDoor
