/- The walk of room. -/
import Derived.Test.YthokdbcpkmcieaaBrdW4
import Derived.Deep.MidRow
namespace Go.Proofs.Ythokdbcpkmcieaa
open Go Go.RowKit
theorem Try.infoRecs : (Try.prog.info? 81).map (·.size) = some 240 := by kernel_rfl
theorem BytesAt.range {w : World} {g off : Nat} {l : List UInt8} (h : BytesAt w g off l) : w.rangeAt g off (byteVs l) := by
  intro j u hj
  obtain ⟨h1, rfl⟩ := byteVs_at l j u hj
  exact h j h1
theorem StoAt.recs {w : World} {bb : Nat} {p : Pow} {mem : List UInt8} (h : StoAt w bb p mem) : BytesAt w bb 1028 (mem.drop 1024) := by
  have hl := h.len
  intro i hi
  simp only [List.length_drop] at hi
  have := h.cm (1024 + i) (by omega)
  rw [show 1028 + i = 4 + (1024 + i) by omega, this]
  simp [List.getD_eq_getElem?_getD]
theorem index_recs {mem : List UInt8} (_hlen : mem.length = 1264) (j : Nat) (hj : j < 60) {a0 a1 a2 a3 : UInt8} (hs : slotF mem j = [a0, a1, a2, a3]) (w : World) :
    (Instr.index 81 (.agg (byteVs (mem.drop 1024)).toArray) (.int .i64 (j : Int))).run Try.prog w = .ok (.agg #[.int .u8 (a0.toNat : Int), .int .u8 (a1.toNat : Int), .int .u8 (a2.toNat : Int), .int .u8 (a3.toNat : Int)]) w := by
  have hji : (j : Int) < 60 := by omega
  have he : List.take 4 (List.drop (j * 4) (byteVs (List.drop 1024 mem))) = [.int .u8 (a0.toNat : Int), .int .u8 (a1.toNat : Int), .int .u8 (a2.toNat : Int), .int .u8 (a3.toNat : Int)] := by
    have : byteVs (slotF mem j) = [.int .u8 (a0.toNat : Int), .int .u8 (a1.toNat : Int), .int .u8 (a2.toNat : Int), .int .u8 (a3.toNat : Int)] := by rw [hs]; rfl
    rw [← this]
    simp only [byteVs, slotF, List.map_take, List.map_drop, List.drop_drop]
    rw [show 1024 + j * 4 = 1024 + 4 * j by omega]
  have ha := Try.isAgg80
  have hz := Try.sizeOf80
  unfold Instr.index
  simp [asIntOf, run_underlying Try.underlying81, ha, hz, part]
  rw [if_pos hj, he]
set_option maxRecDepth 100000 in
set_option maxHeartbeats 8000000 in
theorem room_any (bb : Nat) (p : Pow) (mem : List UInt8) (w : World) (h : StoAt w bb p mem) :
    Calls Try.prog 71 #[.pointer (some ⟨bb, 4, none⟩)] w fun e w' => e = .returned (.int .i64 (roomF mem : Int)) ∧ Below w.heap.size w w' := by
  have hlen := h.len
  have HR := hideIt h.recs.range
  have hl240 : (byteVs (mem.drop 1024)).length = 240 := by rw [byteVs_len, List.length_drop]; omega
  have HI := hideIt (fun j (hj : j < 60) a0 a1 a2 a3 hs w' => index_recs hlen j hj (a0 := a0) (a1 := a1) (a2 := a2) (a3 := a3) hs w')
  obtain ⟨J, hJ⟩ : ∃ J, byteVs (mem.drop 1024) = J := ⟨_, rfl⟩
  rw [hJ] at HR hl240 HI
  clear hJ
  go_enter Try.func71, Try.ntmps71
  go_wp2_with (refine wpList_load_mid rfl 81 (.tmp 8) rfl bb 1028 rfl J _ HR.out Try.underlying81 rfl (by rw [hl240]; exact Try.infoRecs) ?_)
  go_loopw [3, 10] (fun c i wr => ∃ j : Nat, j ≤ 60 ∧ i = .int .i64 j ∧ c = .int .i64 (roomS mem j : Int) ∧ Below w.heap.size w wr) (fun _ i _ => 60 - (intOf i).toNat)
  case atStart => exact ⟨0, by omega, rfl, rfl, Below.refl _ _⟩
  case round =>
    obtain ⟨j, hj, rfl, rfl, hb⟩ := hrel
    have hrl := roomS_le mem j
    by_cases hlt : j < 60
    · obtain ⟨a0, a1, a2, a3, ha⟩ := four (slot_length hlen j hlt)
      have hix := HI.out j hlt a0 a1 a2 a3 ha
      have hE : ∀ w', (Op.equalIn 10000 80 (.agg #[.int .u8 (a0.toNat : Int), .int .u8 (a1.toNat : Int), .int .u8 (a2.toNat : Int), .int .u8 (a3.toNat : Int)]) (.agg #[.int .u8 255, .int .u8 255, .int .u8 255, .int .u8 255])).run Try.prog w' = .ok (decide ([a0, a1, a2, a3] = blankL)) w' := fun w' => eqRec a0 a1 a2 a3 255 255 255 255 w'
      have hG := guardRec
      have hN : roomS mem (j + 1) = roomS mem j + (if [a0, a1, a2, a3] = blankL then 1 else 0) := by rw [roomS, ha]
      have hji : (j : Int) < 60 := by omega
      have HB := hideIt hb
      obtain ⟨c, hc⟩ : ∃ c, roomS mem j = c := ⟨_, rfl⟩
      rw [hc] at hN hrl ⊢
      have hsz := hb.size
      clear hb ha hc
      by_cases he : [a0, a1, a2, a3] = blankL
      · rw [decide_eq_true he] at hE
        rw [if_pos he] at hN
        have HN := hideIt hN
        clear hN he
        go_wp2_with fail
        go_region_with (go_at_call 59; refine (blank_any _).mono ?_; rintro e wx ⟨rfl, rfl⟩)
        all_goals
          go_wp2
          go_roundw
          case rel => exact ⟨j + 1, by omega, by go_num, by rw [HN.out]; rfl, (((HB.out.alloc hsz _).alloc (by simp; omega) _)).drew⟩
          case measure => simp [intOf]; omega
      · rw [decide_eq_false he] at hE
        rw [if_neg he, Nat.add_zero] at hN
        have HN := hideIt hN
        clear hN he
        go_wp2_with fail
        go_region_with (go_at_call 59; refine (blank_any _).mono ?_; rintro e wx ⟨rfl, rfl⟩)
        all_goals
          go_wp2
          go_roundw
          case rel => exact ⟨j + 1, by omega, by go_num, by rw [HN.out]; rfl, (((HB.out.alloc hsz _).alloc (by simp; omega) _)).drew⟩
          case measure => simp [intOf]; omega
    · obtain rfl : j = 60 := by omega
      have HB := hideIt hb
      clear hb
      go_wp2
      go_ret
      exact ⟨rfl, HB.out⟩
end Go.Proofs.Ythokdbcpkmcieaa
