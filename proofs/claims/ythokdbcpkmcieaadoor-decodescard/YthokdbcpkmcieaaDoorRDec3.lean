/- The walk of the reference's Decode where all bytes of the operands are there. -/
import Derived.Test.YthokdbcpkmcieaaDoorRDec2
namespace Go.Proofs.YthokdbcpkmcieaaDoor
open Go Go.RowKit
/-- The place behind an instruction, as the document's answer reckons it. -/
def rBehind (at' : Int) (sz : Nat) : Int := (at' % 65536 + (sz : Int)) % 65536
theorem rBehind_bd (at' : Int) (sz : Nat) : 0 ≤ rBehind at' sz ∧ rBehind at' sz ≤ 65535 := by unfold rBehind; omega
theorem sizeOf_le (ks : List Nat) (h : ks.length ≤ 3) : sizeOf' ks ≤ 7 := by
  have := sum_le ks
  unfold sizeOf'
  omega
set_option maxRecDepth 100000 in
set_option maxHeartbeats 2000000 in
theorem rdec_ops (code : ByteArray) (at' : Int) (w : World) (h : 0 < code.size) (hc2 : code.size ≤ maxLen) (en : Ent) (number : Int) (ks : List Nat) (n : Nat) (hc : EntOps (code[0].toNat : Int) en number ks n) (hsh : sizeOf' ks ≤ code.size)
    (hne : ((code[0].toNat : Int) == 133) = false) (nm : ByteArray) (hnm : ⟨en.2.2.1.toArray⟩ = nm) (hnl : nm.size ≤ 1000) (k0 : 0 ≤ number) (k1 : number ≤ 65535)
    (hpg : ∀ i, i < n → ks.getD i 0 = 16 → pagN (rBehind at' (sizeOf' ks)) (code[0].toNat : Int) (bAt (code.extract (posAt ks i) (posAt ks i + opSize (ks.getD i 0))) 0) ≤ 65535) :
    Calls Tryd.prog 5 #[.string code, .int .i64 at'] w fun e w' => e = .returned (.tuple #[.string (refS nm ks code number (code[0].toNat : Int) (rBehind at' (sizeOf' ks)) n), .int .i64 (sizeOf' ks)]) ∧ Below w.heap.size w w' := by
  have hs : code.toList.isEmpty = false := by rw [isEmpty_iff]; simp only [decide_eq_false_iff_not]; omega
  have hlt := (code[0]).toNat_lt
  have hl : (code[0].toNat : Int) ≤ 255 := by omega
  have HC := hideIt hc
  unfold maxLen at hc2
  have hn1 := hc.n1
  have hn0 := hc.n0
  have hkl := hc.len
  have hszl := sizeOf_le ks (by omega)
  have HPOS := hideIt (fun i (hi : i < n) => Nat.le_trans (posAt_le ks i (by omega)) hsh)
  have HSN := hideIt (fun i (hi : i < n) => posAt_snoc ks i (by omega))
  obtain ⟨bh, hbh⟩ : ∃ bh, rBehind at' (sizeOf' ks) = bh := ⟨_, rfl⟩
  have hbd := rBehind_bd at' (sizeOf' ks)
  have HREFS := hideIt (refS_size nm ks code number (code[0].toNat : Int) bh n hc.kinds)
  rw [hbh] at hpg hbd ⊢
  have hb0 := hbd.1
  have hb1' := hbd.2
  have HPG := hideIt hpg
  obtain ⟨sz, hsz⟩ : ∃ sz, sizeOf' ks = sz := ⟨_, rfl⟩
  rw [hsz] at hsh hszl ⊢
  have HBH : Hid ((at' % 65536 + (sz : Int)) % 65536 = bh) := by rw [← hsz]; exact hbh
  have HE := hideIt (fun c m nm b w => esize_some c m nm b ks n w hc.len (by have := hc.n1; omega) hc.kinds)
  rw [hsz] at HE
  have HK := hideIt hc.kinds
  have HNM := hideIt hnm
  obtain ⟨tm, htm, t0, t1⟩ := tmod_bd at'
  have HTM := hideIt (tmod_emod at' tm htm)
  clear hc hlt hbd hpg hbh hnm hsz
  go_enter Tryd.func5, Tryd.ntmps5
  go_wp2_with fail
  refine (entry_ops _ _ (by omega) hl en number ks n HC.out).mono ?_
  rintro e w1 ⟨b, rfl, ho, hb1⟩
  rw [HNM.out]
  have hs1 := hb1.size
  have HO := hideIt ho
  have hbw : b < w1.heap.size := (Array.getElem?_eq_some_iff.1 ho).1
  clear ho
  go_wp2_with fail
  refine (HE.out _ _ _ b _ (by exact block_alloc HO.out)).mono ?_
  rintro e w2 ⟨rfl, hb2⟩
  have hb2' : Below (w1.heap.size + 1) (w1.alloc (.cells #[.int .i64 en.1, .int .i64 en.2.1, .string nm, .slice (some ⟨b, 0, none⟩) n n] 30)) w2 := hb2.mono (by simp)
  obtain ⟨d0, d1, d2, d3⟩ := cells_box hb2'
  have hs2 : w1.heap.size + 1 ≤ w2.heap.size := by have := hb2'.size; simpa using this
  have hbhE : (if tm < 0 then (tm + 65536 + (sz : Int)) % 65536 else (tm + (sz : Int)) % 65536) = bh := by
    rw [← HBH.out, ← HTM.out]
    split <;> rfl
  have HBE := hideIt hbhE
  clear hbhE
  by_cases hneg : tm < 0
  all_goals
    go_wp2_with fail
    refine (HE.out _ _ _ b _ (by exact block_later (block_alloc HO.out) hb2' (by simp))).mono ?_
    rintro e w3 ⟨rfl, hb3⟩
    have hb3' : Below (w1.heap.size + 1) (w1.alloc (.cells #[.int .i64 en.1, .int .i64 en.2.1, .string nm, .slice (some ⟨b, 0, none⟩) n n] 30)) w3 := hb2'.trans (hb3.mono hs2)
    obtain ⟨e0, e1, e2, e3⟩ := cells_box hb3'
    have hs3 : w1.heap.size + 1 ≤ w3.heap.size := by have := hb3'.size; simpa using this
    clear d0 d1 d2 d3
    have HB3 := hideIt hb3'
    clear hb3 hb3' hb2 hb2'
    go_wp2_with fail
    first | rw [show (tm + 65536 + (sz : Int)) % 65536 = bh by have := HBE.out; rw [if_pos hneg] at this; exact this] | rw [show (tm + (sz : Int)) % 65536 = bh by have := HBE.out; rw [if_neg (by omega)] at this; exact this]
    go_loopw [11, 12, 13] (fun s k i wr => ∃ j : Nat, j ≤ n ∧ i = .int .i64 j ∧ k = .int .i64 (posAt ks j) ∧ s = .string (refS nm ks code number (code[0].toNat : Int) bh j) ∧ Below (w1.heap.size + 1) (w1.alloc (.cells #[.int .i64 en.1, .int .i64 en.2.1, .string nm, .slice (some ⟨b, 0, none⟩) n n] 30)) wr) (fun _ _ i _ => n - (intOf i).toNat)
    case atStart => exact ⟨0, Nat.zero_le _, rfl, rfl, rfl, HB3.out⟩
    case round =>
      obtain ⟨j, hj, rfl, rfl, rfl, hbr⟩ := hrel
      obtain ⟨e0, e1, e2, e3⟩ := cells_box hbr
      have hsr : w1.heap.size + 1 ≤ wr.heap.size := by have := hbr.size; simpa using this
      have hrl := HREFS.out j hj
      obtain ⟨S, hS⟩ : ∃ S, refS nm ks code number (code[0].toNat : Int) bh j = S := ⟨_, rfl⟩
      rw [hS] at hrl ⊢
      have HS := hideIt hS
      have HOR := hideIt (block_later (block_alloc HO.out) hbr (by simp))
      have HBR := hideIt hbr
      clear hbr hS
      by_cases hjn : j < n
      · obtain ⟨q, hq⟩ : ∃ q, ks.getD j 0 = q := ⟨_, rfl⟩
        have hq17 : q < 17 := by rw [← hq]; exact HK.out j hjn
        have ct : wr.cell? ⟨b, j, none⟩ = some (.string (opText q)) := by rw [OpsIn.cellAt HOR.out j (by omega), hq]
        have hpos := HPOS.out j hjn
        have hsn := HSN.out j hjn
        have hpg := HPG.out j hjn
        have hstep : refS nm ks code number (code[0].toNat : Int) bh (j + 1) = (refS nm ks code number (code[0].toNat : Int) bh j ++ (if j = 0 then ⟨#[32]⟩ else ⟨#[44]⟩)) ++ shownS (ks.getD j 0) (code.extract (posAt ks j) (posAt ks j + opSize (ks.getD j 0))) number (code[0].toNat : Int) bh := rfl
        rw [HS.out, hq] at hstep
        rw [hq] at hpos hsn hpg
        obtain ⟨P, hP⟩ : ∃ P, posAt ks j = P := ⟨_, rfl⟩
        rw [hP] at hpos hsn hpg hstep ⊢
        have hql := opSize_le q
        obtain ⟨z, hz⟩ : ∃ z, opSize q = z := ⟨_, rfl⟩
        rw [hz] at hpos hsn hpg hstep hql
        obtain ⟨B, hB⟩ : ∃ B, code.extract P (P + z) = B := ⟨_, rfl⟩
        have hBs : B.size = opSize q := by rw [← hB, ByteArray.size_extract, hz]; omega
        rw [hB] at hpg hstep
        have HSH := hideIt (fun w => shown_any q hq17 B number (code[0].toNat : Int) bh w hBs k0 k1 (by omega) hl hb0 hb1' hpg)
        have hsl := shownS_size q hq17 B number (code[0].toNat : Int) bh
        obtain ⟨T, hT⟩ : ∃ T, shownS q B number (code[0].toNat : Int) bh = T := ⟨_, rfl⟩
        rw [hT] at HSH hsl hstep
        have HZ := hideIt (fun w => size_any q hq17 w)
        rw [hz] at HZ
        have HB := hideIt hB
        have HST := hideIt hstep
        have HSNN := hideIt hsn
        have hPl : P ≤ 10000000 := by
          have := sum_le (ks.take j)
          have h2 : (ks.take j).length ≤ j := List.length_take_le _ _
          rw [← hP]; unfold posAt; omega
        have hone : (⟨#[32]⟩ : ByteArray).size = 1 := rfl
        have htwo : (⟨#[44]⟩ : ByteArray).size = 1 := rfl
        have ha1 : ∀ w, (Op.stringOp .add S ⟨#[32]⟩).run Tryd.prog w = .ok (.string (S ++ ⟨#[32]⟩)) w := fun w => run_string_add_sum w _ _ (by omega)
        have ha2 : ∀ w, (Op.stringOp .add S ⟨#[44]⟩).run Tryd.prog w = .ok (.string (S ++ ⟨#[44]⟩)) w := fun w => run_string_add_sum w _ _ (by omega)
        have ha3 : ∀ w, (Op.stringOp .add (S ++ ⟨#[32]⟩) T).run Tryd.prog w = .ok (.string ((S ++ ⟨#[32]⟩) ++ T)) w := fun w => run_string_add_sum w _ _ (by rw [ByteArray.size_append]; omega)
        have ha4 : ∀ w, (Op.stringOp .add (S ++ ⟨#[44]⟩) T).run Tryd.prog w = .ok (.string ((S ++ ⟨#[44]⟩) ++ T)) w := fun w => run_string_add_sum w _ _ (by rw [ByteArray.size_append]; omega)
        clear hq hP hz hB hT hstep hsn hpg hBs hone htwo
        by_cases hj0 : j = 0
        · have hjb : ((j : Int) == 0) = true := by simp [hj0]
          have HJ := hideIt hj0
          clear hj0
          go_wp2_with fail
          refine (HZ.out _).mono ?_
          rintro e wz ⟨rfl, rfl⟩
          go_wp2_with fail
          rw [HB.out]
          refine (HSH.out _).mono ?_
          rintro e w4 ⟨rfl, hb4⟩
          have HB4 := hideIt (HBR.out.trans (hb4.mono hsr))
          clear hb4
          go_wp2
          go_roundw
          case rel => exact ⟨j + 1, by omega, by go_num, by rw [HSNN.out]; go_num, by rw [HST.out]; rw [if_pos HJ.out], HB4.out⟩
          case measure => simp [intOf]; omega
        · have hjb : ((j : Int) == 0) = false := by simp; omega
          have HJ := hideIt hj0
          clear hj0
          go_wp2_with fail
          refine (HZ.out _).mono ?_
          rintro e wz ⟨rfl, rfl⟩
          go_wp2_with fail
          rw [HB.out]
          refine (HSH.out _).mono ?_
          rintro e w4 ⟨rfl, hb4⟩
          have HB4 := hideIt (HBR.out.trans (hb4.mono hsr))
          clear hb4
          go_wp2
          go_roundw
          case rel => exact ⟨j + 1, by omega, by go_num, by rw [HSNN.out]; go_num, by rw [HST.out]; rw [if_neg HJ.out], HB4.out⟩
          case measure => simp [intOf]; omega
      · have hjn' : j = n := by omega
        have HJ := hideIt hjn'
        clear hjn'
        go_wp2_with fail
        refine (HE.out _ _ _ b _ HOR.out).mono ?_
        rintro e w4 ⟨rfl, hb4⟩
        go_wp2
        go_ret2
        refine ⟨?_, ((hb1.alloc hs1 _).trans (HBR.out.mono (by omega))).trans (hb4.mono (by omega))⟩
        rw [← HS.out, HJ.out]
        rfl
end Go.Proofs.YthokdbcpkmcieaaDoor
