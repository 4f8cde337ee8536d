/- Walks of the document's framed and Frame. -/
import Derived.Test.YthokdbcpkmcieaaRef1
namespace Go.Proofs.Ythokdbcpkmcieaa
open Go Go.RowKit
theorem txt_append (a b : List UInt8) : txt a ++ txt b = txt (a ++ b) := by
  apply ByteArray.ext
  rw [ByteArray.data_append]
  simp [txt]
theorem one_at (s : ByteArray) (k : Nat) (h : k < s.size) : s.extract k (k + 1) = txt [s[k]] := by
  have hl : s.data.toList.length = s.size := by rw [Array.length_toList]; rfl
  rw [← txt_ba (s.extract k (k + 1)), ByteArray.data_extract, Array.toList_extract, List.extract_eq_take_drop, ← ba_get s k h]
  congr 1
  rw [show k + 1 - k = 1 by omega, List.drop_eq_getElem_cons (by omega), List.getD_eq_getElem?_getD, List.getElem?_eq_getElem (by omega)]
  rfl
set_option maxRecDepth 100000 in
set_option maxHeartbeats 4000000 in
theorem rframed_any (s : ByteArray) (w : World) (hs : s.size ≤ 1000) :
    Calls Try.prog 27 #[.string s] w fun e w' => e = .returned (.string (txt (126 :: (escL s.data.toList ++ [126])))) ∧ Below w.heap.size w w' := by
  obtain ⟨i0, hi, hz0, hz1, hz2⟩ := info_of Try.infoU8
  have hlen : s.data.toList.length = s.size := by rw [Array.length_toList]; rfl
  have hcv0 : (convert 65 9 (.slice (some ⟨w.heap.size, 0, none⟩) 1 1)).run Try.prog (w.alloc (.cells #[.int .u8 126] 5)) = .ok (.string (txt [126])) (w.alloc (.cells #[.int .u8 126] 5)) := conv_row (l := [126]) (n := 1) rfl (own_first w w.heap.size (Nat.le_refl _) 126)
  have HB0 := hideIt (show Below w.heap.size w (w.alloc (.cells #[.int .u8 126] 5)) from (Below.refl _ _).alloc (Nat.le_refl _) _)
  go_enter Try.func27, Try.ntmps27
  go_wp2_with fail
  clear hcv0
  go_loopw [3, 4] (fun o i wr => ∃ k : Nat, k ≤ s.size ∧ i = .int .i64 k ∧ o = .string (txt (126 :: escL (s.data.toList.take k))) ∧ Below w.heap.size w wr) (fun _ i _ => s.size - (intOf i).toNat)
  case atStart => exact ⟨0, Nat.zero_le _, rfl, rfl, HB0.out⟩
  case round =>
    obtain ⟨k, hk, rfl, rfl, hB⟩ := hrel
    have hel := escL_len (s.data.toList.take k)
    rw [List.length_take] at hel
    obtain ⟨O, hO⟩ : ∃ O, txt (126 :: escL (s.data.toList.take k)) = O := ⟨_, rfl⟩
    have hOs : O.size ≤ 2001 := by rw [← hO, txt_size]; simp; omega
    have hOi : (O.size : Int) ≤ 2001 := by omega
    have HB := hideIt hB
    have hsz := hB.size
    clear hel hB
    by_cases hlt : k < s.size
    · obtain ⟨b, hb⟩ : ∃ b, s[k] = b := ⟨_, rfl⟩
      have HN := hideIt (show O ++ txt (esc1 b) = txt (126 :: escL (s.data.toList.take (k + 1))) by rw [take_succ _ k (by omega), escL_snoc, ba_get s k hlt, hb, ← hO, txt_append]; rfl)
      rw [hO]
      clear hO
      have hcat1 : (k : Int) + 1 ≤ (s.size : Int) := by omega
      by_cases he : isB b = true
      · have hesc : esc1 b = [125, b ^^^ 32] := by unfold esc1; rw [if_pos he]
        have hcv := conv_row rfl (own_new wr w.heap.size hsz [125, b ^^^ 32] (by simp) (by simp))
        have hvs : byteVs [125, b ^^^ 32] = [.int .u8 125, .int .u8 (bits BinOp.xor IntKind.u8 (b.toNat : Int) 32)] := by
          simp only [byteVs, List.map_cons, List.map_nil]; rw [xor_byte]; rfl
        rw [hvs] at hcv
        have hcv2 : (convert 65 9 (.slice (some ⟨wr.heap.size, 0, none⟩) 2 2)).run Try.prog (wr.alloc (.cells #[.int .u8 125, .int .u8 (bits BinOp.xor IntKind.u8 (b.toNat : Int) 32)] 5)) = .ok (.string (txt (esc1 b))) (wr.alloc (.cells #[.int .u8 125, .int .u8 (bits BinOp.xor IntKind.u8 (b.toNat : Int) 32)] 5)) := by rw [hesc]; exact hcv
        have hTs : ((txt (esc1 b)).size : Int) ≤ 2 := by rw [hesc, txt_size]; simp
        obtain ⟨T, hT⟩ : ∃ T, txt (esc1 b) = T := ⟨_, rfl⟩
        rw [hT] at hcv2 hTs HN
        have HBn := hideIt (show Below w.heap.size w (wr.alloc (.cells #[.int .u8 125, .int .u8 (bits BinOp.xor IntKind.u8 (b.toNat : Int) 32)] 5)) from HB.out.alloc hsz _)
        have htest : ((b.toNat : Int) == 125) = true ∨ (((b.toNat : Int) == 125) = false ∧ ((b.toNat : Int) == 126) = true) := by
          unfold isB at he
          simp at he
          rcases he with rfl | rfl
          · right; decide
          · left; decide
        clear hcv hvs hesc hT he
        rcases htest with h5 | ⟨h5, h6⟩
        all_goals
          go_wp2_with (refine wpList_buildRow rfl 65 5 2 _ rfl [.const (.int .u8 125), .tmp 27] [.int .u8 125, .int .u8 (bits BinOp.xor IntKind.u8 (b.toNat : Int) 32)] rfl rfl (ints_one .u8 [125, bits BinOp.xor IntKind.u8 (b.toNat : Int) 32]) i0 (.int .u8 0) Try.underlying65 hi hz0 hz1 rfl (by decide) (by decide) ?_; simp only [Act.put, List.setIfInBounds_toArray, List.set_cons_succ, List.set_cons_zero])
          go_roundw
          case rel => exact ⟨k + 1, by omega, by go_num, by rw [HN.out], HBn.out⟩
          case measure => simp [intOf]; omega
      · have hesc : esc1 b = [b] := by unfold esc1; rw [if_neg he]
        have hone := one_at s k hlt
        rw [hb] at hone
        have h5 : ((b.toNat : Int) == 125) = false := by
          have : ¬ b.toNat = 125 := fun e => he (by have e2 : b = 125 := UInt8.toNat_inj.1 e; subst e2; decide)
          simp; omega
        have h6 : ((b.toNat : Int) == 126) = false := by
          have : ¬ b.toNat = 126 := fun e => he (by have e2 : b = 126 := UInt8.toNat_inj.1 e; subst e2; decide)
          simp; omega
        have hTs : ((txt (esc1 b)).size : Int) ≤ 2 := by rw [hesc, txt_size]; simp
        rw [← hesc] at hone
        obtain ⟨T, hT⟩ : ∃ T, txt (esc1 b) = T := ⟨_, rfl⟩
        rw [hT] at hTs HN hone
        clear hesc hT he
        go_wp2
        go_roundw
        case rel => exact ⟨k + 1, by omega, by go_num, by rw [HN.out], HB.out⟩
        case measure => simp [intOf]; omega
    · have e : k = s.size := by omega
      have HN := hideIt (show O ++ txt [126] = txt (126 :: (escL s.data.toList ++ [126])) by rw [← hO, e, ← hlen, List.take_length, txt_append]; rfl)
      rw [hO]
      clear hO
      have hcv : (convert 65 9 (.slice (some ⟨wr.heap.size, 0, none⟩) 1 1)).run Try.prog (wr.alloc (.cells #[.int .u8 126] 5)) = .ok (.string (txt [126])) (wr.alloc (.cells #[.int .u8 126] 5)) := conv_row (l := [126]) (n := 1) rfl (own_first wr wr.heap.size (Nat.le_refl _) 126)
      have HBn := hideIt (show Below w.heap.size w (wr.alloc (.cells #[.int .u8 126] 5)) from HB.out.alloc hsz _)
      have hTs : ((txt [126]).size : Int) ≤ 2 := by rw [txt_size]; decide
      obtain ⟨T, hT⟩ : ∃ T, txt [126] = T := ⟨_, rfl⟩
      rw [hT] at hTs HN hcv
      clear hT
      go_wp2
      go_ret
      exact ⟨by rw [← HN.out]; rfl, HBn.out⟩
set_option maxRecDepth 100000 in
set_option maxHeartbeats 2000000 in
theorem rframe_bad (m : ByteArray) (w : World) (hm : m.size < 1 ∨ 80 < m.size) (hx : m.size ≤ 4000000) :
    Calls Try.prog 8 #[.string m] w fun e w' => e = .returned (.tuple #[.string ⟨#[]⟩, .int .i64 8]) ∧ w' = w := by
  by_cases h1 : m.size < 1
  · have h2 : (m.size : Int) < 1 := by omega
    go_enter Try.func8, Try.ntmps8
    go_wp2
    go_ret2
    exact ⟨rfl, rfl⟩
  · have h2 : decide ((m.size : Int) < 1) = false := by simp; omega
    have h3 : (80 : Int) < (m.size : Int) := by omega
    go_enter Try.func8, Try.ntmps8
    go_wp2
    go_ret2
    exact ⟨rfl, rfl⟩
set_option maxRecDepth 100000 in
set_option maxHeartbeats 4000000 in
theorem rframe_any (m : ByteArray) (w : World) (hm1 : 1 ≤ m.size) (hm2 : m.size ≤ 80) :
    Calls Try.prog 8 #[.string m] w fun e w' => e = .returned (.tuple #[.string (txt (frameF m.data.toList)), .int .i64 0]) ∧ Below w.heap.size w w' := by
  have hlen : m.data.toList.length = m.size := by rw [Array.length_toList]; rfl
  have h2 : decide ((m.size : Int) < 1) = false := by simp; omega
  have h3 : decide ((80 : Int) < (m.size : Int)) = false := by simp; omega
  obtain ⟨l, hl⟩ : ∃ l, m.data.toList = l := ⟨_, rfl⟩
  have HC := hideIt (rcheck_any m w (by omega))
  rw [hl] at HC ⊢
  obtain ⟨c, hc⟩ : ∃ c, crcN l = c := ⟨_, rfl⟩
  have hcl : c < 65536 := by rw [← hc]; exact crcN_lt l
  obtain ⟨T, hT⟩ : ∃ T, txt [UInt8.ofNat (c / 256), UInt8.ofNat (c % 256)] = T := ⟨_, rfl⟩
  have HT := hideIt (two_any c hcl w)
  rw [hT] at HT
  rw [hc] at HC
  have hTl : T.data.toList = chkB l := by rw [← hT, txt_toList, ← hc]; rfl
  have hTs : T.size = 2 := by rw [← hT, txt_size]; rfl
  have hTi : (T.size : Int) ≤ 2 := by omega
  have hmi : (m.size : Int) ≤ 80 := by omega
  have hcat : (m ++ T).data.toList = l ++ chkB l := by rw [ByteArray.data_append, Array.toList_append, hl, hTl]
  have HF := hideIt (fun w' => rframed_any (m ++ T) w' (by rw [ByteArray.size_append]; omega))
  rw [hcat] at HF
  have HE := hideIt (show frameF l = 126 :: (escL (l ++ chkB l) ++ [126]) from rfl)
  obtain ⟨R, hR⟩ : ∃ R, txt (126 :: (escL (l ++ chkB l) ++ [126])) = R := ⟨_, rfl⟩
  rw [hR] at HF
  rw [HE.out, hR]
  clear hl hc hT hTl hcat hR HE hTs
  go_enter Try.func8, Try.ntmps8
  go_wp2_with fail
  refine HC.out.mono ?_
  rintro e w1 ⟨rfl, rfl⟩
  go_wp2_with fail
  refine HT.out.mono ?_
  rintro e w2 ⟨rfl, hB2⟩
  have HB2 := hideIt hB2
  clear hB2
  go_wp2_with fail
  refine (HF.out _).mono ?_
  rintro e w3 ⟨rfl, hB3⟩
  have HB3 := hideIt hB3
  clear hB3
  go_wp2
  go_ret2
  exact ⟨rfl, HB2.out.trans (by have := HB3.out.mono (B' := w1.heap.size) HB2.out.size; exact ⟨this.os, this.tape, this.output, this.size, this.block⟩)⟩
end Go.Proofs.Ythokdbcpkmcieaa
