/- Walks of the document's check, of two, of framed, of Frame. -/
import Derived.Test.YthokdbcpkmcieaaFra2
import Derived.Test.YthokdbcpkmcieaaEarR
namespace Go.Proofs.Ythokdbcpkmcieaa
open Go Go.RowKit
theorem xor_i64 (a b : Nat) (ha : a < 65536) (hb : b < 65536) : bits .xor .i64 (a : Int) (b : Int) = ((a ^^^ b : Nat) : Int) := by
  have hx : a ^^^ b < 2 ^ 16 := Nat.xor_lt_two_pow (by omega) (by omega)
  have h1 : (BitVec.ofInt 64 (a : Int)).toNat = a := by
    rw [BitVec.ofInt_natCast, BitVec.toNat_ofNat]; exact Nat.mod_eq_of_lt (by omega)
  have h2 : (BitVec.ofInt 64 (b : Int)).toNat = b := by
    rw [BitVec.ofInt_natCast, BitVec.toNat_ofNat]; exact Nat.mod_eq_of_lt (by omega)
  show IntKind.i64.wrap ((BitVec.ofInt 64 (a : Int) ^^^ BitVec.ofInt 64 (b : Int)).toNat : Int) = _
  rw [BitVec.toNat_xor, h1, h2, IntKind.wrap_i64]
  omega
set_option maxRecDepth 100000 in
set_option maxHeartbeats 2000000 in
theorem rcheck_any (s : ByteArray) (w : World) (hs : s.size ≤ 4000000) :
    Calls Try.prog 29 #[.string s] w fun e w' => e = .returned (.int .i64 (crcN s.data.toList)) ∧ w' = w := by
  have hlen : s.data.toList.length = s.size := by rw [Array.length_toList]; rfl
  go_enter Try.func29, Try.ntmps29
  go_wp2_with fail
  go_loopw [3, 4] (fun c i wr => ∃ k : Nat, k ≤ s.size ∧ i = .int .i64 k ∧ c = .int .i64 (crcN (s.data.toList.take k)) ∧ wr = w) (fun _ i _ => s.size - (intOf i).toNat)
  case atStart => exact ⟨0, Nat.zero_le _, rfl, rfl, rfl⟩
  case round =>
    obtain ⟨k, hk, rfl, rfl, rfl⟩ := hrel
    by_cases hlt : k < s.size
    · obtain ⟨b, hb⟩ : ∃ b, s[k] = b := ⟨_, rfl⟩
      obtain ⟨x, hx⟩ : ∃ x, crcN (s.data.toList.take k) = x := ⟨_, rfl⟩
      have hxl : x < 65536 := by rw [← hx]; exact crcN_lt _
      have HN := hideIt (show crcN (s.data.toList.take (k + 1)) = crcB x b by rw [take_succ _ k (by omega), crcN_snoc, hx, ba_get s k hlt, hb])
      rw [hx]
      have hbl := b.toNat_lt
      have hy : bits BinOp.xor IntKind.i64 (x : Int) ((b.toNat : Int) * 256) = ((x ^^^ (b.toNat * 256) : Nat) : Int) := xor_i64 x (b.toNat * 256) hxl (by omega)
      obtain ⟨y, hyy⟩ : ∃ y, x ^^^ (b.toNat * 256) = y := ⟨_, rfl⟩
      have hyl : y < 65536 := by rw [← hyy]; exact Nat.xor_lt_two_pow (n := 16) hxl (by omega)
      have HY := hideIt (show crcB x b = dblT 8 y by unfold crcB; rw [hyy])
      rw [hyy] at hy
      clear hyy hx
      go_wp2_with fail
      go_loopw [3, 5] (fun c i wr' => ∃ j : Nat, j ≤ 8 ∧ i = .int .i64 j ∧ c = .int .i64 (dblT j y) ∧ wr' = wr) (fun _ i _ => 8 - (intOf i).toNat)
      case atStart => exact ⟨0, by omega, rfl, rfl, rfl⟩
      case round =>
        rename_i hrel
        obtain ⟨j, hj, rfl, rfl, rfl⟩ := hrel
        by_cases hj8 : j < 8
        · obtain ⟨z, hz⟩ : ∃ z, dblT j y = z := ⟨_, rfl⟩
          have hzl : z < 65536 := by rw [← hz]; exact dblT_lt hyl j
          have HZ := hideIt (show dblT (j + 1) y = dblN z by rw [← hz]; rfl)
          rw [hz]
          clear hz
          by_cases h32 : 32768 ≤ z
          · have h1 : (32768 : Int) ≤ (z : Int) := by omega
            have h2 : (z : Int) < 65536 := by omega
            obtain ⟨q, hq⟩ : ∃ q : Nat, z = q + 32768 := ⟨z - 32768, by omega⟩
            have hm : ((z : Int) * 2).tmod 65536 = (q : Int) * 2 := by rw [Int.tmod_eq_emod_of_nonneg (by omega), hq]; omega
            have hq1 : (q : Int) < 32768 := by omega
            have HD := hideIt (show ((dblN z : Nat) : Int) = bits BinOp.xor IntKind.i64 ((q : Int) * 2) 4129 by
              have := xor_i64 (q * 2) 4129 (by omega) (by decide)
              unfold dblN
              rw [if_pos h32, show z * 2 % 65536 = q * 2 by omega]
              exact this.symm)
            obtain ⟨tt, htt⟩ : ∃ t : Int, (z : Int) * 2 = t := ⟨_, rfl⟩
            obtain ⟨qq, hqq⟩ : ∃ t : Int, (q : Int) * 2 = t := ⟨_, rfl⟩
            rw [htt, hqq] at hm
            have ht1 : 0 ≤ tt := by omega
            have ht2 : tt ≤ 200000 := by omega
            have hq3 : 0 ≤ qq := by omega
            have hq4 : qq ≤ 200000 := by omega
            rw [hqq] at HD
            clear hq hq1 hqq h2
            go_wp2_with fail
            go_roundw
            case rel => exact ⟨j + 1, by omega, by go_num, by rw [HZ.out, HD.out], trivial⟩
            case measure => simp [intOf]; omega
          · have h1 : ¬ (32768 : Int) ≤ (z : Int) := by omega
            have HD := hideIt (show ((dblN z : Nat) : Int) = (z : Int) * 2 by unfold dblN; rw [if_neg h32]; omega)
            go_wp2
            go_roundw
            case rel => exact ⟨j + 1, by omega, by go_num, by rw [HZ.out, HD.out], trivial⟩
            case measure => simp [intOf]; omega
        · have e8 : j = 8 := by omega
          subst e8
          rw [← HY.out]
          go_wp2
          go_roundw
          case rel => exact ⟨k + 1, by omega, by go_num, by rw [HN.out], trivial⟩
          case measure => simp [intOf]; omega
    · have e : k = s.size := by omega
      subst e
      rw [← hlen, List.take_length]
      go_wp2
      go_ret
      exact ⟨rfl, rfl⟩
/-- The new row of a list of bytes that is written out. -/
theorem own_new (w : World) (base : Nat) (hb : base ≤ w.heap.size) (l : List UInt8) (hl : 0 < l.length) (hm : l.length ≤ 1000) : (w.alloc (.cells (byteVs l).toArray 5)).ownsRow base 5 1 (.slice (some ⟨w.heap.size, 0, none⟩) l.length l.length) l.length (byteVs l) := by
  refine ⟨by rw [byteVs_len, Nat.mul_one], .inr ⟨w.heap.size, l.length, _, rfl, hb, heap_alloc_new w _, Nat.le_refl _, by unfold maxLen; omega, by simp [byteVs], ?_⟩⟩
  rw [Nat.mul_one, ← byteVs_len l]
  simp
set_option maxRecDepth 100000 in
set_option maxHeartbeats 2000000 in
theorem two_any (n : Nat) (hn : n < 65536) (w : World) :
    Calls Try.prog 28 #[.int .i64 (n : Int)] w fun e w' => e = .returned (.string (txt [UInt8.ofNat (n / 256), UInt8.ofNat (n % 256)])) ∧ Below w.heap.size w w' := by
  obtain ⟨i0, hi, hz0, hz1, hz2⟩ := info_of Try.infoU8
  have hvs : byteVs [UInt8.ofNat (n / 256), UInt8.ofNat (n % 256)] = [.int .u8 ((n : Int) / 256), .int .u8 ((n : Int) % 256)] := by
    simp only [byteVs, List.map_cons, List.map_nil, UInt8.toNat_ofNat']
    rw [show ((n / 256 % 2 ^ 8 : Nat) : Int) = (n : Int) / 256 by omega, show ((n % 256 % 2 ^ 8 : Nat) : Int) = (n : Int) % 256 by omega]
  have hcv := conv_row rfl (own_new w w.heap.size (Nat.le_refl _) [UInt8.ofNat (n / 256), UInt8.ofNat (n % 256)] (by simp) (by simp))
  rw [hvs] at hcv
  have HB := hideIt (show Below w.heap.size w (w.alloc (.cells #[.int .u8 ((n : Int) / 256), .int .u8 ((n : Int) % 256)] 5)) from (Below.refl _ _).alloc (Nat.le_refl _) _)
  obtain ⟨T, hT⟩ : ∃ T, txt [UInt8.ofNat (n / 256), UInt8.ofNat (n % 256)] = T := ⟨_, rfl⟩
  rw [hT] at hcv ⊢
  clear hvs hT
  have hcv2 : (convert 65 9 (.slice (some ⟨w.heap.size, 0, none⟩) 2 2)).run Try.prog (w.alloc (.cells #[.int .u8 ((n : Int) / 256), .int .u8 ((n : Int) % 256)] 5)) = .ok (.string T) (w.alloc (.cells #[.int .u8 ((n : Int) / 256), .int .u8 ((n : Int) % 256)] 5)) := hcv
  clear hcv
  go_enter Try.func28, Try.ntmps28
  go_wp2_with (refine wpList_buildRow rfl 65 5 2 _ rfl [.tmp 5, .tmp 7] [.int .u8 ((n : Int) / 256), .int .u8 ((n : Int) % 256)] rfl rfl (ints_one .u8 [(n : Int) / 256, (n : Int) % 256]) i0 (.int .u8 0) Try.underlying65 hi hz0 hz1 rfl (by decide) (by decide) ?_; simp only [Act.put, List.setIfInBounds_toArray, List.set_cons_succ, List.set_cons_zero])
  go_ret
  exact ⟨rfl, HB.out⟩
end Go.Proofs.Ythokdbcpkmcieaa
