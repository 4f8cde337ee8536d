/- The walk of the reference's Decode at the one code whose second operand adds its byte first. -/
import Derived.Test.YthokdbcpkmcieaaDoorRDec3
namespace Go.Proofs.YthokdbcpkmcieaaDoor
open Go Go.RowKit
set_option maxRecDepth 100000 in
set_option maxHeartbeats 2000000 in
theorem rdec_swap (code : ByteArray) (at' : Int) (w : World) (h : 0 < code.size) (hc2 : code.size ≤ maxLen) (en : Ent) (number : Int) (hc : EntOps (code[0].toNat : Int) en number [11, 11] 2) (hsh : 3 ≤ code.size)
    (hne : ((code[0].toNat : Int) == 133) = true) (nm : ByteArray) (hnm : ⟨en.2.2.1.toArray⟩ = nm) (hnl : nm.size ≤ 1000) (k0 : 0 ≤ number) (k1 : number ≤ 65535) (bh : Int) (hbh : rBehind at' 3 = bh) (x y : ByteArray) (hx : shownS 11 (code.extract 2 3) number (code[0].toNat : Int) bh = x) (hy : shownS 11 (code.extract 1 2) number (code[0].toNat : Int) bh = y) :
    Calls Tryd.prog 5 #[.string code, .int .i64 at'] w fun e w' => e = .returned (.tuple #[.string ((((nm ++ ⟨#[32]⟩) ++ x) ++ ⟨#[44]⟩) ++ y), .int .i64 3]) ∧ Below w.heap.size w w' := by
  have hs : code.toList.isEmpty = false := by rw [isEmpty_iff]; simp only [decide_eq_false_iff_not]; omega
  have hlt := (code[0]).toNat_lt
  have hl : (code[0].toNat : Int) ≤ 255 := by omega
  have HC := hideIt hc
  unfold maxLen at hc2
  have hbd := rBehind_bd at' 3
  rw [hbh] at hbd
  have hb0 := hbd.1
  have hb1' := hbd.2
  have HBH : Hid ((at' % 65536 + ((3 : Nat) : Int)) % 65536 = bh) := hbh
  have HE := hideIt (fun c m nm b w => esize_some c m nm b [11, 11] 2 w rfl (by omega) hc.kinds)
  rw [show sizeOf' [11, 11] = 3 from rfl] at HE
  have HNM := hideIt hnm
  obtain ⟨tm, htm, t0, t1⟩ := tmod_bd at'
  have HTM := hideIt (tmod_emod at' tm htm)
  have HZ := hideIt (fun w => size_any 11 (by omega) w)
  rw [show ((opSize 11 : Nat) : Int) = 1 from rfl] at HZ
  have hBx : (code.extract 2 3).size = opSize 11 := by rw [ByteArray.size_extract]; show min 3 code.size - 2 = 1; omega
  have hBy : (code.extract 1 2).size = opSize 11 := by rw [ByteArray.size_extract]; show min 2 code.size - 1 = 1; omega
  have HSX := hideIt (fun w => shown_any 11 (by omega) (code.extract 2 3) number (code[0].toNat : Int) bh w hBx k0 k1 (by omega) hl hb0 hb1' (by omega))
  have HSY := hideIt (fun w => shown_any 11 (by omega) (code.extract 1 2) number (code[0].toNat : Int) bh w hBy k0 k1 (by omega) hl hb0 hb1' (by omega))
  have hxl := shownS_size 11 (by omega) (code.extract 2 3) number (code[0].toNat : Int) bh
  have hyl := shownS_size 11 (by omega) (code.extract 1 2) number (code[0].toNat : Int) bh
  rw [hx] at HSX hxl
  rw [hy] at HSY hyl
  have hone : (⟨#[32]⟩ : ByteArray).size = 1 := rfl
  have htwo : (⟨#[44]⟩ : ByteArray).size = 1 := rfl
  have ha1 : ∀ w, (Op.stringOp .add nm ⟨#[32]⟩).run Tryd.prog w = .ok (.string (nm ++ ⟨#[32]⟩)) w := fun w => run_string_add_sum w _ _ (by omega)
  have ha2 : ∀ w, (Op.stringOp .add (nm ++ ⟨#[32]⟩) x).run Tryd.prog w = .ok (.string ((nm ++ ⟨#[32]⟩) ++ x)) w := fun w => run_string_add_sum w _ _ (by rw [ByteArray.size_append]; omega)
  have ha3 : ∀ w, (Op.stringOp .add ((nm ++ ⟨#[32]⟩) ++ x) ⟨#[44]⟩).run Tryd.prog w = .ok (.string (((nm ++ ⟨#[32]⟩) ++ x) ++ ⟨#[44]⟩)) w := fun w => run_string_add_sum w _ _ (by rw [ByteArray.size_append, ByteArray.size_append]; omega)
  have ha4 : ∀ w, (Op.stringOp .add (((nm ++ ⟨#[32]⟩) ++ x) ++ ⟨#[44]⟩) y).run Tryd.prog w = .ok (.string ((((nm ++ ⟨#[32]⟩) ++ x) ++ ⟨#[44]⟩) ++ y)) w := fun w => run_string_add_sum w _ _ (by rw [ByteArray.size_append, ByteArray.size_append, ByteArray.size_append]; omega)
  clear hc hlt hbd hbh hnm hx hy hBx hBy hone htwo
  go_enter Tryd.func5, Tryd.ntmps5
  go_wp2_with fail
  refine (entry_ops _ _ (by omega) hl en number [11, 11] 2 HC.out).mono ?_
  rintro e w1 ⟨b, rfl, ho, hb1⟩
  rw [HNM.out]
  have hs1 := hb1.size
  have HO := hideIt ho
  have hbw : b < w1.heap.size := (Array.getElem?_eq_some_iff.1 ho).1
  clear ho
  go_wp2_with fail
  refine (HE.out _ _ _ b _ (by exact block_alloc HO.out)).mono ?_
  rintro e w2 ⟨rfl, hb2⟩
  have hb2' : Below (w1.heap.size + 1) (w1.alloc (.cells #[.int .i64 en.1, .int .i64 en.2.1, .string nm, .slice (some ⟨b, 0, none⟩) 2 2] 30)) w2 := hb2.mono (by simp)
  obtain ⟨d0, d1, d2, d3⟩ := cells_box hb2'
  have hs2 : w1.heap.size + 1 ≤ w2.heap.size := by have := hb2'.size; simpa using this
  have hbhE : (if tm < 0 then (tm + 65536 + 3) % 65536 else (tm + 3) % 65536) = bh := by
    rw [← HBH.out, ← HTM.out]
    split <;> rfl
  have HBE := hideIt hbhE
  clear hbhE
  by_cases hneg : tm < 0
  all_goals
    go_wp2_with fail
    refine (HE.out _ _ _ b _ (by exact block_later (block_alloc HO.out) hb2' (by simp))).mono ?_
    rintro e w3 ⟨rfl, hb3⟩
    have hb3' : Below (w1.heap.size + 1) (w1.alloc (.cells #[.int .i64 en.1, .int .i64 en.2.1, .string nm, .slice (some ⟨b, 0, none⟩) 2 2] 30)) w3 := hb2'.trans (hb3.mono hs2)
    obtain ⟨e0, e1, e2, e3⟩ := cells_box hb3'
    have hs3 : w1.heap.size + 1 ≤ w3.heap.size := by have := hb3'.size; simpa using this
    have c0 : w3.cell? ⟨b, 0, none⟩ = some (.string (opText 11)) := OpsIn.cellAt (ks := [11, 11]) (block_later (block_alloc HO.out) hb3' (by simp)) 0 (by decide)
    clear d0 d1 d2 d3
    have HB3 := hideIt hb3'
    clear hb3 hb3' hb2 hb2'
    go_wp2_with fail
    first | rw [show (tm + 65536 + 3) % 65536 = bh by have := HBE.out; rw [if_pos hneg] at this; exact this] | rw [show (tm + 3) % 65536 = bh by have := HBE.out; rw [if_neg (by omega)] at this; exact this]
    refine wp_loop_rounds 3 ?_
    rw [rounds_succ]
    go_wp2_with fail
    refine (HZ.out _).mono ?_
    rintro e wz ⟨rfl, rfl⟩
    go_wp2_with fail
    refine (HSX.out _).mono ?_
    rintro e w4 ⟨rfl, hb4⟩
    have hb4' := HB3.out.trans (hb4.mono hs3)
    obtain ⟨f0, f1, f2, f3⟩ := cells_box hb4'
    have hs4 : w1.heap.size + 1 ≤ w4.heap.size := by have := hb4'.size; simpa using this
    have c1 : w4.cell? ⟨b, 1, none⟩ = some (.string (opText 11)) := OpsIn.cellAt (ks := [11, 11]) (block_later (block_alloc HO.out) hb4' (by simp)) 1 (by decide)
    have HB4 := hideIt hb4'
    clear hb4 hb4' e0 e1 e2 e3 c0
    go_wp2
    rw [rounds_succ]
    go_wp2_with fail
    refine (HZ.out _).mono ?_
    rintro e wz ⟨rfl, rfl⟩
    go_wp2_with fail
    refine (HSY.out _).mono ?_
    rintro e w5 ⟨rfl, hb5⟩
    have hb5' := HB4.out.trans (hb5.mono hs4)
    obtain ⟨g0, g1, g2, g3⟩ := cells_box hb5'
    have hs5 : w1.heap.size + 1 ≤ w5.heap.size := by have := hb5'.size; simpa using this
    have HB5 := hideIt hb5'
    clear hb5 hb5' f0 f1 f2 f3 c1
    go_wp2
    rw [rounds_succ]
    go_wp2_with fail
    refine (HE.out _ _ _ b _ (by exact block_later (block_alloc HO.out) HB5.out (by simp))).mono ?_
    rintro e w6 ⟨rfl, hb6⟩
    go_wp2
    go_ret2
    exact ⟨rfl, ((hb1.alloc hs1 _).trans (HB5.out.mono (by omega))).trans (hb6.mono (by omega))⟩
end Go.Proofs.YthokdbcpkmcieaaDoor
