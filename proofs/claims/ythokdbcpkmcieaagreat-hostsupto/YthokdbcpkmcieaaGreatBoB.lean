/- The document's ear: plain functions and walks. -/
import Derived.Test.YthokdbcpkmcieaaGreatBoA
import Derived.BigQuiet
import Derived.Deep.QuietTactic
namespace Go.Proofs.YthokdbcpkmcieaaGreat
/-- Taking the 125s away: 1 as it is, 2 behind a 125, 0 spoilt. -/
def uStep (u : Nat × List UInt8) (b : UInt8) : Nat × List UInt8 :=
  if u.1 = 1 then (if b = 125 then (2, u.2) else (1, u.2 ++ [b]))
  else if u.1 = 2 then (if b = 94 ∨ b = 93 then (1, u.2 ++ [b ^^^ 32]) else (0, u.2))
  else u
def unF (l : List UInt8) : Nat × List UInt8 := l.foldl uStep (1, [])
theorem unF_snoc (l : List UInt8) (b : UInt8) : unF (l ++ [b]) = uStep (unF l) b := by unfold unF; rw [List.foldl_append]; rfl
/-- Is what was taken out a message? -/
def okM (o : List UInt8) : Bool := decide (3 ≤ o.length) && decide (o.length ≤ 82) && decide (o.drop (o.length - 2) = chkB (o.take (o.length - 2)))
def msgF (l : List UInt8) : Option (List UInt8) := if (unF l).1 = 1 ∧ okM (unF l).2 = true then some ((unF l).2.take ((unF l).2.length - 2)) else none
structure REar where
  on : Bool
  s : List UInt8
def rHearB (p : REar × List (List UInt8)) (b : UInt8) : REar × List (List UInt8) :=
  if b = 126 then (⟨true, []⟩, match msgF p.1.s with | some m => if p.1.on = true then p.2 ++ [m] else p.2 | none => p.2) else (⟨p.1.on, p.1.s ++ [b]⟩, p.2)
def rHearF (s : REar) (l : List UInt8) : REar × List (List UInt8) := l.foldl rHearB (s, [])
theorem rHearF_snoc (s : REar) (a : List UInt8) (b : UInt8) : rHearF s (a ++ [b]) = rHearB (rHearF s a) b := by
  unfold rHearF
  rw [List.foldl_append]; rfl
theorem unb (b : UInt8) : isB (b ^^^ 32) = true ↔ (b = 94 ∨ b = 93) := by
  have h : ∀ n, n < 256 → (isB (UInt8.ofNat n ^^^ 32) = true ↔ (UInt8.ofNat n = 94 ∨ UInt8.ofNat n = 93)) := by decide +kernel
  have := h b.toNat b.toNat_lt
  rwa [UInt8.ofNat_toNat] at this
/-- The two ears know the same. -/
def SameU (s : EarS) (u : Nat × List UInt8) : Prop := (s.mode = 0 ∧ (u.1 = 0 ∨ 82 < u.2.length)) ∨ (s.mode = u.1 ∧ s.ks = u.2 ∧ (u.1 = 1 ∨ u.1 = 2) ∧ u.2.length ≤ 82)
theorem uStep_len (u : Nat × List UInt8) (b : UInt8) : u.2.length ≤ (uStep u b).2.length := by
  unfold uStep
  repeat' split
  all_goals simp
theorem uStep_zero {u : Nat × List UInt8} (h : u.1 = 0) (b : UInt8) : (uStep u b).1 = 0 := by
  unfold uStep
  simp [h]
theorem sameU_step {s : EarS} {u : Nat × List UInt8} (h : SameU s u) (b : UInt8) : SameU (takeF s b) (uStep u b) := by
  rcases h with ⟨h1, h2⟩ | ⟨h1, h2, h3, h4⟩
  · left
    refine ⟨by unfold takeF; rw [if_pos h1]; exact h1, ?_⟩
    rcases h2 with h2 | h2
    · exact .inl (uStep_zero h2 b)
    · exact .inr (Nat.lt_of_lt_of_le h2 (uStep_len u b))
  · obtain ⟨m, ks⟩ := s
    obtain ⟨um, o⟩ := u
    simp only at h1 h2 h3 h4
    subst h1 h2
    rcases h3 with rfl | rfl
    · by_cases hb : b = 125
      · right; subst hb; simp [takeF, uStep, h4]
      · by_cases hl : ks.length = 82
        · left; simp [takeF, uStep, hb, keepF, hl]
        · right; simp [takeF, uStep, hb, keepF, hl]; omega
    · by_cases hb : b = 94 ∨ b = 93
      · have hi := (unb b).2 hb
        by_cases hl : ks.length = 82
        · left; simp [takeF, uStep, hb, hi, keepF, hl]
        · right; simp [takeF, uStep, hb, hi, keepF, hl]; omega
      · have hi : ¬ isB (b ^^^ 32) = true := fun e => hb ((unb b).1 e)
        left; simp [takeF, uStep, hb, hi]
theorem two_last (o : List UInt8) (h : 3 ≤ o.length) : o.drop (o.length - 2) = [o.getD (o.length - 2) 0, o.getD (o.length - 1) 0] := by
  have e : o.length - 2 + 1 = o.length - 1 := by omega
  have e2 : o.length - 1 + 1 = o.length := by omega
  rw [List.drop_eq_getElem_cons (by omega), e, List.drop_eq_getElem_cons (by omega), e2, List.drop_length]
  simp only [List.getD_eq_getElem?_getD]
  rw [List.getElem?_eq_getElem (by omega), List.getElem?_eq_getElem (by omega)]
  rfl
theorem hasC_okM (o : List UInt8) (h : o.length ≤ 82) : hasC o = okM o := by
  unfold hasC okM
  by_cases h3 : 3 ≤ o.length
  · simp only [h3, h, decide_true, Bool.true_and]
    rw [two_last o h3]
    obtain ⟨x, hx⟩ : ∃ x, o.getD (o.length - 2) 0 = x := ⟨_, rfl⟩
    obtain ⟨y, hy⟩ : ∃ y, o.getD (o.length - 1) 0 = y := ⟨_, rfl⟩
    have hc := crcN_lt (o.take (o.length - 2))
    rw [hx, hy]
    unfold chkB
    generalize crcN (o.take (o.length - 2)) = c at hc
    have h1 : (UInt8.ofNat (c / 256)).toNat = c / 256 := by rw [UInt8.toNat_ofNat']; omega
    have h2 : (UInt8.ofNat (c % 256)).toNat = c % 256 := by rw [UInt8.toNat_ofNat']; omega
    have hxl := x.toNat_lt
    have hyl := y.toNat_lt
    apply decide_eq_decide.2
    constructor
    · intro e
      have ex : x = UInt8.ofNat (c / 256) := UInt8.toNat_inj.1 (by rw [h1]; omega)
      have ey : y = UInt8.ofNat (c % 256) := UInt8.toNat_inj.1 (by rw [h2]; omega)
      rw [ex, ey]
    · intro e
      simp only [List.cons.injEq, and_true] at e
      rw [e.1, e.2, h1, h2]
      omega
  · simp [h3]
theorem whole_msg {s : EarS} {l : List UInt8} (h : SameU s (unF l)) : msgF l = if wholeF s = true then some (s.ks.take (s.ks.length - 2)) else none := by
  unfold msgF wholeF
  rcases h with ⟨h1, h2⟩ | ⟨h1, h2, h3, h4⟩
  · have : ¬ ((unF l).1 = 1 ∧ okM (unF l).2 = true) := by
      rintro ⟨e1, e2⟩
      rcases h2 with h2 | h2
      · rw [h2] at e1; cases e1
      · unfold okM at e2
        simp only [Bool.and_eq_true, decide_eq_true_eq] at e2
        omega
    rw [if_neg this, h1]
    simp
  · rw [h1, h2, hasC_okM _ h4]
    by_cases e : (unF l).1 = 1 <;> simp [e]
/-- The whole ears. -/
def SameE (s : EarS) (r : REar) : Prop := (r.on = false ∧ s.mode = 0) ∨ (r.on = true ∧ SameU s (unF r.s))
theorem sameE_step {s : EarS} {r : REar} {o : List (List UInt8)} (h : SameE s r) (b : UInt8) : SameE (hearB (s, o) b).1 (rHearB (r, o) b).1 ∧ (hearB (s, o) b).2 = (rHearB (r, o) b).2 := by
  unfold hearB rHearB
  by_cases hb : b = 126
  · rw [if_pos hb, if_pos hb]
    refine ⟨.inr ⟨rfl, .inr ⟨rfl, rfl, .inl rfl, by simp [unF]⟩⟩, ?_⟩
    simp only
    rcases h with ⟨h1, h2⟩ | ⟨h1, h2⟩
    · have hw : ¬ wholeF s = true := by unfold wholeF; simp [h2]
      rw [if_neg hw, h1]
      cases msgF r.s <;> simp
    · rw [whole_msg h2, h1]
      by_cases hw : wholeF s = true <;> simp [hw]
  · rw [if_neg hb, if_neg hb]
    refine ⟨?_, rfl⟩
    rcases h with ⟨h1, h2⟩ | ⟨h1, h2⟩
    · left
      exact ⟨h1, by unfold takeF; simp [h2]⟩
    · right
      exact ⟨h1, by rw [unF_snoc]; exact sameU_step h2 b⟩
theorem sameE_fold : ∀ (l : List UInt8) (s : EarS) (r : REar) (o : List (List UInt8)), SameE s r → SameE (l.foldl hearB (s, o)).1 (l.foldl rHearB (r, o)).1 ∧ (l.foldl hearB (s, o)).2 = (l.foldl rHearB (r, o)).2
  | [], _, _, _, h => ⟨h, rfl⟩
  | b :: l, s, r, o, h => by
    have hs := sameE_step (o := o) h b
    simp only [List.foldl_cons]
    have e1 : hearB (s, o) b = ((hearB (s, o) b).1, (hearB (s, o) b).2) := rfl
    have e2 : rHearB (r, o) b = ((rHearB (r, o) b).1, (hearB (s, o) b).2) := by rw [hs.2]
    rw [e1, e2]
    exact sameE_fold l _ _ _ hs.1
/-- They answer the same, and go on knowing the same. -/
theorem sameE_hear {s : EarS} {r : REar} (h : SameE s r) (l : List UInt8) : SameE (hearF s l).1 (rHearF r l).1 ∧ (hearF s l).2 = (rHearF r l).2 := sameE_fold l s r [] h
theorem rHearF_len (r : REar) (l : List UInt8) : (rHearF r l).1.s.length ≤ r.s.length + l.length := by
  have key : ∀ (l : List UInt8) (p : REar × List (List UInt8)), (l.foldl rHearB p).1.s.length ≤ p.1.s.length + l.length := by
    intro l
    induction l with
    | nil => intro p; simp
    | cons b l ih =>
      intro p
      simp only [List.foldl_cons, List.length_cons]
      have h := ih (rHearB p b)
      have : (rHearB p b).1.s.length ≤ p.1.s.length + 1 := by
        unfold rHearB
        split <;> simp
      omega
  have := key l (r, [])
  unfold rHearF
  simpa using this
end Go.Proofs.YthokdbcpkmcieaaGreat
namespace Go.Proofs.YthokdbcpkmcieaaGreat
open Go Go.RowKit
theorem xor_i64 (a b : Nat) (ha : a < 65536) (hb : b < 65536) : bits .xor .i64 (a : Int) (b : Int) = ((a ^^^ b : Nat) : Int) := by
  have hx : a ^^^ b < 2 ^ 16 := Nat.xor_lt_two_pow (by omega) (by omega)
  have h1 : (BitVec.ofInt 64 (a : Int)).toNat = a := by
    rw [BitVec.ofInt_natCast, BitVec.toNat_ofNat]; exact Nat.mod_eq_of_lt (by omega)
  have h2 : (BitVec.ofInt 64 (b : Int)).toNat = b := by
    rw [BitVec.ofInt_natCast, BitVec.toNat_ofNat]; exact Nat.mod_eq_of_lt (by omega)
  show IntKind.i64.wrap ((BitVec.ofInt 64 (a : Int) ^^^ BitVec.ofInt 64 (b : Int)).toNat : Int) = _
  rw [BitVec.toNat_xor, h1, h2, IntKind.wrap_i64]
  omega
set_option maxRecDepth 100000 in
set_option maxHeartbeats 2000000 in
theorem rcheck_any (s : ByteArray) (w : World) (hs : s.size ≤ 4000000000000) :
    Calls Tryz.prog 45 #[.string s] w fun e w' => e = .returned (.int .i64 (crcN s.data.toList)) ∧ w' = w := by
  have hlen : s.data.toList.length = s.size := by rw [Array.length_toList]; rfl
  go_enter Tryz.func45, Tryz.ntmps45
  go_wp2_with fail
  go_loopw [3, 4] (fun c i wr => ∃ k : Nat, k ≤ s.size ∧ i = .int .i64 k ∧ c = .int .i64 (crcN (s.data.toList.take k)) ∧ wr = w) (fun _ i _ => s.size - (intOf i).toNat)
  case atStart => exact ⟨0, Nat.zero_le _, rfl, rfl, rfl⟩
  case round =>
    obtain ⟨k, hk, rfl, rfl, rfl⟩ := hrel
    by_cases hlt : k < s.size
    · obtain ⟨b, hb⟩ : ∃ b, s[k] = b := ⟨_, rfl⟩
      obtain ⟨x, hx⟩ : ∃ x, crcN (s.data.toList.take k) = x := ⟨_, rfl⟩
      have hxl : x < 65536 := by rw [← hx]; exact crcN_lt _
      have HN := hideIt (show crcN (s.data.toList.take (k + 1)) = crcB x b by rw [take_succ _ k (by omega), crcN_snoc, hx, ba_get s k hlt, hb])
      rw [hx]
      have hbl := b.toNat_lt
      have hy : bits BinOp.xor IntKind.i64 (x : Int) ((b.toNat : Int) * 256) = ((x ^^^ (b.toNat * 256) : Nat) : Int) := xor_i64 x (b.toNat * 256) hxl (by omega)
      obtain ⟨y, hyy⟩ : ∃ y, x ^^^ (b.toNat * 256) = y := ⟨_, rfl⟩
      have hyl : y < 65536 := by rw [← hyy]; exact Nat.xor_lt_two_pow (n := 16) hxl (by omega)
      have HY := hideIt (show crcB x b = dblT 8 y by unfold crcB; rw [hyy])
      rw [hyy] at hy
      clear hyy hx
      go_wp2_with fail
      go_loopw [3, 5] (fun c i wr' => ∃ j : Nat, j ≤ 8 ∧ i = .int .i64 j ∧ c = .int .i64 (dblT j y) ∧ wr' = wr) (fun _ i _ => 8 - (intOf i).toNat)
      case atStart => exact ⟨0, by omega, rfl, rfl, rfl⟩
      case round =>
        rename_i hrel
        obtain ⟨j, hj, rfl, rfl, rfl⟩ := hrel
        by_cases hj8 : j < 8
        · obtain ⟨z, hz⟩ : ∃ z, dblT j y = z := ⟨_, rfl⟩
          have hzl : z < 65536 := by rw [← hz]; exact dblT_lt hyl j
          have HZ := hideIt (show dblT (j + 1) y = dblN z by rw [← hz]; rfl)
          rw [hz]
          clear hz
          by_cases h32 : 32768 ≤ z
          · have h1 : (32768 : Int) ≤ (z : Int) := by omega
            have h2 : (z : Int) < 65536 := by omega
            obtain ⟨q, hq⟩ : ∃ q : Nat, z = q + 32768 := ⟨z - 32768, by omega⟩
            have hm : ((z : Int) * 2).tmod 65536 = (q : Int) * 2 := by rw [Int.tmod_eq_emod_of_nonneg (by omega), hq]; omega
            have hq1 : (q : Int) < 32768 := by omega
            have HD := hideIt (show ((dblN z : Nat) : Int) = bits BinOp.xor IntKind.i64 ((q : Int) * 2) 4129 by
              have := xor_i64 (q * 2) 4129 (by omega) (by decide)
              unfold dblN
              rw [if_pos h32, show z * 2 % 65536 = q * 2 by omega]
              exact this.symm)
            obtain ⟨tt, htt⟩ : ∃ t : Int, (z : Int) * 2 = t := ⟨_, rfl⟩
            obtain ⟨qq, hqq⟩ : ∃ t : Int, (q : Int) * 2 = t := ⟨_, rfl⟩
            rw [htt, hqq] at hm
            have ht1 : 0 ≤ tt := by omega
            have ht2 : tt ≤ 200000 := by omega
            have hq3 : 0 ≤ qq := by omega
            have hq4 : qq ≤ 200000 := by omega
            rw [hqq] at HD
            clear hq hq1 hqq h2
            go_wp2_with fail
            go_roundw
            case rel => exact ⟨j + 1, by omega, by go_num, by rw [HZ.out, HD.out], trivial⟩
            case measure => simp [intOf]; omega
          · have h1 : ¬ (32768 : Int) ≤ (z : Int) := by omega
            have HD := hideIt (show ((dblN z : Nat) : Int) = (z : Int) * 2 by unfold dblN; rw [if_neg h32]; omega)
            go_wp2
            go_roundw
            case rel => exact ⟨j + 1, by omega, by go_num, by rw [HZ.out, HD.out], trivial⟩
            case measure => simp [intOf]; omega
        · have e8 : j = 8 := by omega
          subst e8
          rw [← HY.out]
          go_wp2
          go_roundw
          case rel => exact ⟨k + 1, by omega, by go_num, by rw [HN.out], trivial⟩
          case measure => simp [intOf]; omega
    · have e : k = s.size := by omega
      subst e
      rw [← hlen, List.take_length]
      go_wp2
      go_ret
      exact ⟨rfl, rfl⟩
/-- The new row of a list of bytes that is written out. -/
theorem own_new (w : World) (base : Nat) (hb : base ≤ w.heap.size) (l : List UInt8) (hl : 0 < l.length) (hm : l.length ≤ 1000) : (w.alloc (.cells (byteVs l).toArray 5)).ownsRow base 5 1 (.slice (some ⟨w.heap.size, 0, none⟩) l.length l.length) l.length (byteVs l) := by
  refine ⟨by rw [byteVs_len, Nat.mul_one], .inr ⟨w.heap.size, l.length, _, rfl, hb, heap_alloc_new w _, Nat.le_refl _, by unfold maxLen; omega, by simp [byteVs], ?_⟩⟩
  rw [Nat.mul_one, ← byteVs_len l]
  simp
set_option maxRecDepth 100000 in
set_option maxHeartbeats 2000000 in
theorem two_any (n : Nat) (hn : n < 65536) (w : World) :
    Calls Tryz.prog 44 #[.int .i64 (n : Int)] w fun e w' => e = .returned (.string (txt [UInt8.ofNat (n / 256), UInt8.ofNat (n % 256)])) ∧ Below w.heap.size w w' := by
  obtain ⟨i0, hi, hz0, hz1, hz2⟩ := info_of Tryz.infoU8
  have hvs : byteVs [UInt8.ofNat (n / 256), UInt8.ofNat (n % 256)] = [.int .u8 ((n : Int) / 256), .int .u8 ((n : Int) % 256)] := by
    simp only [byteVs, List.map_cons, List.map_nil, UInt8.toNat_ofNat']
    rw [show ((n / 256 % 2 ^ 8 : Nat) : Int) = (n : Int) / 256 by omega, show ((n % 256 % 2 ^ 8 : Nat) : Int) = (n : Int) % 256 by omega]
  have hcv := conv_row rfl (own_new w w.heap.size (Nat.le_refl _) [UInt8.ofNat (n / 256), UInt8.ofNat (n % 256)] (by simp) (by simp))
  rw [hvs] at hcv
  have HB := hideIt (show Below w.heap.size w (w.alloc (.cells #[.int .u8 ((n : Int) / 256), .int .u8 ((n : Int) % 256)] 5)) from (Below.refl _ _).alloc (Nat.le_refl _) _)
  obtain ⟨T, hT⟩ : ∃ T, txt [UInt8.ofNat (n / 256), UInt8.ofNat (n % 256)] = T := ⟨_, rfl⟩
  rw [hT] at hcv ⊢
  clear hvs hT
  have hcv2 : (convert 24 9 (.slice (some ⟨w.heap.size, 0, none⟩) 2 2)).run Tryz.prog (w.alloc (.cells #[.int .u8 ((n : Int) / 256), .int .u8 ((n : Int) % 256)] 5)) = .ok (.string T) (w.alloc (.cells #[.int .u8 ((n : Int) / 256), .int .u8 ((n : Int) % 256)] 5)) := hcv
  clear hcv
  go_enter Tryz.func44, Tryz.ntmps44
  go_wp2_with (refine wpList_buildRow rfl 24 5 2 _ rfl [.tmp 5, .tmp 7] [.int .u8 ((n : Int) / 256), .int .u8 ((n : Int) % 256)] rfl rfl (ints_one .u8 [(n : Int) / 256, (n : Int) % 256]) i0 (.int .u8 0) Tryz.underlying24 hi hz0 hz1 rfl (by decide) (by decide) ?_; simp only [Act.put, List.setIfInBounds_toArray, List.set_cons_succ, List.set_cons_zero])
  go_ret
  exact ⟨rfl, HB.out⟩
end Go.Proofs.YthokdbcpkmcieaaGreat
namespace Go.Proofs.YthokdbcpkmcieaaGreat
open Go Go.RowKit
theorem txt_append (a b : List UInt8) : txt a ++ txt b = txt (a ++ b) := by
  apply ByteArray.ext
  rw [ByteArray.data_append]
  simp [txt]
theorem one_at (s : ByteArray) (k : Nat) (h : k < s.size) : s.extract k (k + 1) = txt [s[k]] := by
  have hl : s.data.toList.length = s.size := by rw [Array.length_toList]; rfl
  rw [← txt_ba (s.extract k (k + 1)), ByteArray.data_extract, Array.toList_extract, List.extract_eq_take_drop, ← ba_get s k h]
  congr 1
  rw [show k + 1 - k = 1 by omega, List.drop_eq_getElem_cons (by omega), List.getD_eq_getElem?_getD, List.getElem?_eq_getElem (by omega)]
  rfl
set_option maxRecDepth 100000 in
set_option maxHeartbeats 4000000 in
theorem rframed_any (s : ByteArray) (w : World) (hs : s.size ≤ 1000) :
    Calls Tryz.prog 43 #[.string s] w fun e w' => e = .returned (.string (txt (126 :: (escL s.data.toList ++ [126])))) ∧ Below w.heap.size w w' := by
  obtain ⟨i0, hi, hz0, hz1, hz2⟩ := info_of Tryz.infoU8
  have hlen : s.data.toList.length = s.size := by rw [Array.length_toList]; rfl
  have hcv0 : (convert 24 9 (.slice (some ⟨w.heap.size, 0, none⟩) 1 1)).run Tryz.prog (w.alloc (.cells #[.int .u8 126] 5)) = .ok (.string (txt [126])) (w.alloc (.cells #[.int .u8 126] 5)) := conv_row (l := [126]) (n := 1) rfl (own_first w w.heap.size (Nat.le_refl _) 126)
  have HB0 := hideIt (show Below w.heap.size w (w.alloc (.cells #[.int .u8 126] 5)) from (Below.refl _ _).alloc (Nat.le_refl _) _)
  go_enter Tryz.func43, Tryz.ntmps43
  go_wp2_with fail
  clear hcv0
  go_loopw [3, 4] (fun o i wr => ∃ k : Nat, k ≤ s.size ∧ i = .int .i64 k ∧ o = .string (txt (126 :: escL (s.data.toList.take k))) ∧ Below w.heap.size w wr) (fun _ i _ => s.size - (intOf i).toNat)
  case atStart => exact ⟨0, Nat.zero_le _, rfl, rfl, HB0.out⟩
  case round =>
    obtain ⟨k, hk, rfl, rfl, hB⟩ := hrel
    have hel := escL_len (s.data.toList.take k)
    rw [List.length_take] at hel
    obtain ⟨O, hO⟩ : ∃ O, txt (126 :: escL (s.data.toList.take k)) = O := ⟨_, rfl⟩
    have hOs : O.size ≤ 2001 := by rw [← hO, txt_size]; simp; omega
    have hOi : (O.size : Int) ≤ 2001 := by omega
    have HB := hideIt hB
    have hsz := hB.size
    clear hel hB
    by_cases hlt : k < s.size
    · obtain ⟨b, hb⟩ : ∃ b, s[k] = b := ⟨_, rfl⟩
      have HN := hideIt (show O ++ txt (esc1 b) = txt (126 :: escL (s.data.toList.take (k + 1))) by rw [take_succ _ k (by omega), escL_snoc, ba_get s k hlt, hb, ← hO, txt_append]; rfl)
      rw [hO]
      clear hO
      have hcat1 : (k : Int) + 1 ≤ (s.size : Int) := by omega
      by_cases he : isB b = true
      · have hesc : esc1 b = [125, b ^^^ 32] := by unfold esc1; rw [if_pos he]
        have hcv := conv_row rfl (own_new wr w.heap.size hsz [125, b ^^^ 32] (by simp) (by simp))
        have hvs : byteVs [125, b ^^^ 32] = [.int .u8 125, .int .u8 (bits BinOp.xor IntKind.u8 (b.toNat : Int) 32)] := by
          simp only [byteVs, List.map_cons, List.map_nil]; rw [xor_byte]; rfl
        rw [hvs] at hcv
        have hcv2 : (convert 24 9 (.slice (some ⟨wr.heap.size, 0, none⟩) 2 2)).run Tryz.prog (wr.alloc (.cells #[.int .u8 125, .int .u8 (bits BinOp.xor IntKind.u8 (b.toNat : Int) 32)] 5)) = .ok (.string (txt (esc1 b))) (wr.alloc (.cells #[.int .u8 125, .int .u8 (bits BinOp.xor IntKind.u8 (b.toNat : Int) 32)] 5)) := by rw [hesc]; exact hcv
        have hTs : ((txt (esc1 b)).size : Int) ≤ 2 := by rw [hesc, txt_size]; simp
        obtain ⟨T, hT⟩ : ∃ T, txt (esc1 b) = T := ⟨_, rfl⟩
        rw [hT] at hcv2 hTs HN
        have HBn := hideIt (show Below w.heap.size w (wr.alloc (.cells #[.int .u8 125, .int .u8 (bits BinOp.xor IntKind.u8 (b.toNat : Int) 32)] 5)) from HB.out.alloc hsz _)
        have htest : ((b.toNat : Int) == 125) = true ∨ (((b.toNat : Int) == 125) = false ∧ ((b.toNat : Int) == 126) = true) := by
          unfold isB at he
          simp at he
          rcases he with rfl | rfl
          · right; decide
          · left; decide
        clear hcv hvs hesc hT he
        rcases htest with h5 | ⟨h5, h6⟩
        all_goals
          go_wp2_with (refine wpList_buildRow rfl 24 5 2 _ rfl [.const (.int .u8 125), .tmp 27] [.int .u8 125, .int .u8 (bits BinOp.xor IntKind.u8 (b.toNat : Int) 32)] rfl rfl (ints_one .u8 [125, bits BinOp.xor IntKind.u8 (b.toNat : Int) 32]) i0 (.int .u8 0) Tryz.underlying24 hi hz0 hz1 rfl (by decide) (by decide) ?_; simp only [Act.put, List.setIfInBounds_toArray, List.set_cons_succ, List.set_cons_zero])
          go_roundw
          case rel => exact ⟨k + 1, by omega, by go_num, by rw [HN.out], HBn.out⟩
          case measure => simp [intOf]; omega
      · have hesc : esc1 b = [b] := by unfold esc1; rw [if_neg he]
        have hone := one_at s k hlt
        rw [hb] at hone
        have h5 : ((b.toNat : Int) == 125) = false := by
          have : ¬ b.toNat = 125 := fun e => he (by have e2 : b = 125 := UInt8.toNat_inj.1 e; subst e2; decide)
          simp; omega
        have h6 : ((b.toNat : Int) == 126) = false := by
          have : ¬ b.toNat = 126 := fun e => he (by have e2 : b = 126 := UInt8.toNat_inj.1 e; subst e2; decide)
          simp; omega
        have hTs : ((txt (esc1 b)).size : Int) ≤ 2 := by rw [hesc, txt_size]; simp
        rw [← hesc] at hone
        obtain ⟨T, hT⟩ : ∃ T, txt (esc1 b) = T := ⟨_, rfl⟩
        rw [hT] at hTs HN hone
        clear hesc hT he
        go_wp2
        go_roundw
        case rel => exact ⟨k + 1, by omega, by go_num, by rw [HN.out], HB.out⟩
        case measure => simp [intOf]; omega
    · have e : k = s.size := by omega
      have HN := hideIt (show O ++ txt [126] = txt (126 :: (escL s.data.toList ++ [126])) by rw [← hO, e, ← hlen, List.take_length, txt_append]; rfl)
      rw [hO]
      clear hO
      have hcv : (convert 24 9 (.slice (some ⟨wr.heap.size, 0, none⟩) 1 1)).run Tryz.prog (wr.alloc (.cells #[.int .u8 126] 5)) = .ok (.string (txt [126])) (wr.alloc (.cells #[.int .u8 126] 5)) := conv_row (l := [126]) (n := 1) rfl (own_first wr wr.heap.size (Nat.le_refl _) 126)
      have HBn := hideIt (show Below w.heap.size w (wr.alloc (.cells #[.int .u8 126] 5)) from HB.out.alloc hsz _)
      have hTs : ((txt [126]).size : Int) ≤ 2 := by rw [txt_size]; decide
      obtain ⟨T, hT⟩ : ∃ T, txt [126] = T := ⟨_, rfl⟩
      rw [hT] at hTs HN hcv
      clear hT
      go_wp2
      go_ret
      exact ⟨by rw [← HN.out]; rfl, HBn.out⟩
set_option maxRecDepth 100000 in
set_option maxHeartbeats 2000000 in
theorem rframe_bad (m : ByteArray) (w : World) (hm : m.size < 1 ∨ 80 < m.size) (hx : m.size ≤ 4000000) :
    Calls Tryz.prog 17 #[.string m] w fun e w' => e = .returned (.tuple #[.string ⟨#[]⟩, .int .i64 8]) ∧ w' = w := by
  by_cases h1 : m.size < 1
  · have h2 : (m.size : Int) < 1 := by omega
    go_enter Tryz.func17, Tryz.ntmps17
    go_wp2
    go_ret2
    exact ⟨rfl, rfl⟩
  · have h2 : decide ((m.size : Int) < 1) = false := by simp; omega
    have h3 : (80 : Int) < (m.size : Int) := by omega
    go_enter Tryz.func17, Tryz.ntmps17
    go_wp2
    go_ret2
    exact ⟨rfl, rfl⟩
set_option maxRecDepth 100000 in
set_option maxHeartbeats 4000000 in
theorem rframe_any (m : ByteArray) (w : World) (hm1 : 1 ≤ m.size) (hm2 : m.size ≤ 80) :
    Calls Tryz.prog 17 #[.string m] w fun e w' => e = .returned (.tuple #[.string (txt (frameF m.data.toList)), .int .i64 0]) ∧ Below w.heap.size w w' := by
  have hlen : m.data.toList.length = m.size := by rw [Array.length_toList]; rfl
  have h2 : decide ((m.size : Int) < 1) = false := by simp; omega
  have h3 : decide ((80 : Int) < (m.size : Int)) = false := by simp; omega
  obtain ⟨l, hl⟩ : ∃ l, m.data.toList = l := ⟨_, rfl⟩
  have HC := hideIt (rcheck_any m w (by omega))
  rw [hl] at HC ⊢
  obtain ⟨c, hc⟩ : ∃ c, crcN l = c := ⟨_, rfl⟩
  have hcl : c < 65536 := by rw [← hc]; exact crcN_lt l
  obtain ⟨T, hT⟩ : ∃ T, txt [UInt8.ofNat (c / 256), UInt8.ofNat (c % 256)] = T := ⟨_, rfl⟩
  have HT := hideIt (two_any c hcl w)
  rw [hT] at HT
  rw [hc] at HC
  have hTl : T.data.toList = chkB l := by rw [← hT, txt_toList, ← hc]; rfl
  have hTs : T.size = 2 := by rw [← hT, txt_size]; rfl
  have hTi : (T.size : Int) ≤ 2 := by omega
  have hmi : (m.size : Int) ≤ 80 := by omega
  have hcat : (m ++ T).data.toList = l ++ chkB l := by rw [ByteArray.data_append, Array.toList_append, hl, hTl]
  have HF := hideIt (fun w' => rframed_any (m ++ T) w' (by rw [ByteArray.size_append]; omega))
  rw [hcat] at HF
  have HE := hideIt (show frameF l = 126 :: (escL (l ++ chkB l) ++ [126]) from rfl)
  obtain ⟨R, hR⟩ : ∃ R, txt (126 :: (escL (l ++ chkB l) ++ [126])) = R := ⟨_, rfl⟩
  rw [hR] at HF
  rw [HE.out, hR]
  clear hl hc hT hTl hcat hR HE hTs
  go_enter Tryz.func17, Tryz.ntmps17
  go_wp2_with fail
  refine HC.out.mono ?_
  rintro e w1 ⟨rfl, rfl⟩
  go_wp2_with fail
  refine HT.out.mono ?_
  rintro e w2 ⟨rfl, hB2⟩
  have HB2 := hideIt hB2
  clear hB2
  go_wp2_with fail
  refine (HF.out _).mono ?_
  rintro e w3 ⟨rfl, hB3⟩
  have HB3 := hideIt hB3
  clear hB3
  go_wp2
  go_ret2
  exact ⟨rfl, HB2.out.trans (by have := HB3.out.mono (B' := w1.heap.size) HB2.out.size; exact ⟨this.os, this.tape, this.output, this.size, this.block⟩)⟩
end Go.Proofs.YthokdbcpkmcieaaGreat
namespace Go.Proofs.YthokdbcpkmcieaaGreat
open Go Go.RowKit
/-- The worlds in which all blocks that there are in w are as they are in w. -/
def GW (w : World) : Type := { w' : World // Below w.heap.size w w' }
instance (w : World) : Nonempty (GW w) := ⟨⟨w, Below.refl _ _⟩⟩
theorem wp_region_grow {P : Program} {id : Nat} {Q : Exit → Act → World → Prop} {a : Act} {w : World} {l : List Oper} (hm : P.follows .mixedOrders = true) (hB : Region.lexB .any l.toArray = true)
    (h : wpQuiet P l.toArray (fun w' => ∃ x : GW w, w' = x.1) (fun a' => ∀ w', (∃ x : GW w, w' = x.1) → Q .normal a' w') l a) : (Code.region id l.toArray true).wp P Q a w :=
  wp_region_quiet (C := fun w' => ∃ x : GW w, w' = x.1) hm hB ⟨⟨w.drew, (Below.refl _ _).drew⟩, rfl⟩ (by simpa using h)
/-- A callee's contract, met in a world of the class. -/
theorem Calls.grow_of {P : Program} {f : FuncId} {args : Array Value} {w : World} {x : GW w} {v : Value} (h : Calls P f args x.1 fun e w' => e = .returned v ∧ Below x.1.heap.size x.1 w') : Calls P f args x.1 fun e w'' => e = .returned v ∧ ∃ y : GW w, w'' = y.1 :=
  h.mono fun _ w' ⟨he, hb⟩ => ⟨he, ⟨w', x.2.trans (by have := hb.mono (B' := w.heap.size) x.2.size; exact ⟨this.os, this.tape, this.output, this.size, this.block⟩)⟩, rfl⟩
theorem Calls.grow_of_same {P : Program} {f : FuncId} {args : Array Value} {w : World} {x : GW w} {v : Value} (h : Calls P f args x.1 fun e w' => e = .returned v ∧ w' = x.1) : Calls P f args x.1 fun e w'' => e = .returned v ∧ ∃ y : GW w, w'' = y.1 :=
  h.mono fun _ _ ⟨he, hb⟩ => ⟨he, x, hb⟩
end Go.Proofs.YthokdbcpkmcieaaGreat
namespace Go.Proofs.YthokdbcpkmcieaaGreat
open Go Go.RowKit
/-- Of the old blocks only eb has changed, and of it only the n cells from o on. -/
structure Within (w w' : World) (eb o n : Nat) : Prop where
  grown : w.grownBy w' (some eb)
  cells : ∀ j, j < o ∨ o + n ≤ j → w'.cell? ⟨eb, j, none⟩ = w.cell? ⟨eb, j, none⟩
  fz : ∀ j, w'.frozen? ⟨eb, j, none⟩ = w.frozen? ⟨eb, j, none⟩
theorem Within.refl (w : World) (eb o n : Nat) : Within w w eb o n := ⟨grown_refl _ _, fun _ _ => rfl, fun _ => rfl⟩
theorem Within.trans {w w1 w2 : World} {eb o n : Nat} (h : Within w w1 eb o n) (h2 : Within w1 w2 eb o n) : Within w w2 eb o n :=
  ⟨h.grown.trans h2.grown, fun j hj => (h2.cells j hj).trans (h.cells j hj), fun j => (h2.fz j).trans (h.fz j)⟩
theorem Within.widen {w w1 : World} {eb o n o' n' : Nat} (h : Within w w1 eb o n) (h1 : o' ≤ o) (h2 : o + n ≤ o' + n') : Within w w1 eb o' n' :=
  ⟨h.grown, fun j hj => h.cells j (by omega), h.fz⟩
theorem Within.set (w : World) (eb o n j : Nat) (v : Value) (h1 : o ≤ j) (h2 : j < o + n) : Within w (w.setCell ⟨eb, j, none⟩ v) eb o n :=
  ⟨grown_set _ _ _ _, fun k hk => World.cell?_setCell_other _ _ _ _ (by simp <;> omega), fun k => by simp⟩
theorem Within.block {w w' : World} {eb o n : Nat} (hg : w.grownBy w' (some eb)) (e : w'.heap[eb]? = w.heap[eb]?) : Within w w' eb o n :=
  ⟨hg, fun j _ => World.cell?_of_block (a := ⟨eb, j, none⟩) e, fun j => World.frozen?_of_block (a := ⟨eb, j, none⟩) e⟩
theorem Within.drewN {w w' : World} {eb o n : Nat} (h : Within w w' eb o n) (m : Nat) : Within w (w'.drewN m) eb o n :=
  ⟨grown_drewN h.grown m, h.cells, h.fz⟩
theorem Within.drew {w w' : World} {eb o n : Nat} (h : Within w w' eb o n) : Within w w'.drew eb o n :=
  ⟨grown_drew h.grown, h.cells, h.fz⟩
theorem Within.below {w w' : World} {eb o n : Nat} (hb : Below w.heap.size w w') (hl : eb < w.heap.size) : Within w w' eb o n :=
  Within.block ⟨hb.os, hb.tape, hb.output, hb.size, fun k hk _ => hb.block k hk⟩ (hb.block eb hl)
/-- An ear at block eb, from cell o on. -/
structure EarO (w : World) (eb o : Nat) (s : EarS) : Prop where
  c0 : w.cell? ⟨eb, o, none⟩ = some (.int .i64 (s.mode : Int))
  c83 : w.cell? ⟨eb, o + 83, none⟩ = some (.int .i64 (s.ks.length : Int))
  cb : ∀ i, i < 82 → ∃ v, w.cell? ⟨eb, o + 1 + i, none⟩ = some v
  ck : BytesAt w eb (o + 1) s.ks
  fz : ∀ j, w.frozen? ⟨eb, j, none⟩ = false
  lt : eb < w.heap.size
  ok : EarOk s
theorem EarO.same {w w' : World} {eb o : Nat} {s : EarS} (h : EarO w eb o s) (e : ∀ j, o ≤ j → j < o + 84 → w'.cell? ⟨eb, j, none⟩ = w.cell? ⟨eb, j, none⟩) (hf : ∀ j, w'.frozen? ⟨eb, j, none⟩ = w.frozen? ⟨eb, j, none⟩) (hz : w.heap.size ≤ w'.heap.size) : EarO w' eb o s :=
  ⟨(e _ (by omega) (by omega)).trans h.c0, (e _ (by omega) (by omega)).trans h.c83, fun i hi => by rw [e _ (by omega) (by omega)]; exact h.cb i hi,
    fun i hi => by have := h.ok.len; exact (e _ (by omega) (by omega)).trans (h.ck i hi), fun j => (hf j).trans (h.fz j), Nat.lt_of_lt_of_le h.lt hz, h.ok⟩
theorem EarO.kept {w w' : World} {eb o : Nat} {s : EarS} (h : EarO w eb o s) (e : w'.heap[eb]? = w.heap[eb]?) (hz : w.heap.size ≤ w'.heap.size) : EarO w' eb o s :=
  h.same (fun j _ _ => World.cell?_of_block (a := ⟨eb, j, none⟩) e) (fun j => World.frozen?_of_block (a := ⟨eb, j, none⟩) e) hz
theorem EarO.setMode {w : World} {eb o : Nat} {s : EarS} (h : EarO w eb o s) (m : Nat) (hm : m ≤ 2) : EarO (w.setCell ⟨eb, o, none⟩ (.int .i64 (m : Int))) eb o ⟨m, s.ks⟩ := by
  refine ⟨World.cell?_setCell_same _ _ _ h.c0, ?_, fun i hi => ?_, fun i hi => ?_, fun j => by simp [h.fz j], by simpa [World.setCell] using h.lt, ⟨hm, h.ok.len⟩⟩
  · rw [World.cell?_setCell_other _ _ _ _ (by simp)]; exact h.c83
  · rw [World.cell?_setCell_other _ _ _ _ (by simp <;> omega)]; exact h.cb i hi
  · rw [World.cell?_setCell_other _ _ _ _ (by simp <;> omega)]; exact h.ck i hi
theorem EarO.push {w : World} {eb o : Nat} {s : EarS} (h : EarO w eb o s) (b : UInt8) (hl : s.ks.length < 82) : EarO ((w.setCell ⟨eb, o + 1 + s.ks.length, none⟩ (.int .u8 (b.toNat : Int))).setCell ⟨eb, o + 83, none⟩ (.int .i64 ((s.ks.length : Int) + 1))) eb o ⟨s.mode, s.ks ++ [b]⟩ := by
  obtain ⟨v, hv⟩ := h.cb s.ks.length hl
  have h83 : (w.setCell ⟨eb, o + 1 + s.ks.length, none⟩ (.int .u8 (b.toNat : Int))).cell? ⟨eb, o + 83, none⟩ = some (.int .i64 (s.ks.length : Int)) := by
    rw [World.cell?_setCell_other _ _ _ _ (by simp <;> omega)]; exact h.c83
  have hn := World.cell?_setCell_same w ⟨eb, o + 1 + s.ks.length, none⟩ (.int .u8 (b.toNat : Int)) hv
  refine ⟨?_, ?_, fun i hi => ?_, fun i hi => ?_, fun j => by simp [h.fz j], by simpa [World.setCell] using h.lt, ⟨h.ok.mode, by simp; omega⟩⟩
  · rw [World.cell?_setCell_other _ _ _ _ (by simp), World.cell?_setCell_other _ _ _ _ (by simp <;> omega)]; exact h.c0
  · rw [World.cell?_setCell_same _ _ _ h83]; simp
  · rw [World.cell?_setCell_other _ _ _ _ (by simp <;> omega)]
    by_cases e : i = s.ks.length
    · subst e; exact ⟨_, hn⟩
    · rw [World.cell?_setCell_other _ _ _ _ (by simp <;> omega)]; exact h.cb i hi
  · simp only [List.length_append, List.length_cons, List.length_nil] at hi
    rw [World.cell?_setCell_other _ _ _ _ (by simp <;> omega)]
    by_cases e : i = s.ks.length
    · subst e
      rw [hn]
      simp [List.getD_eq_getElem?_getD]
    · rw [World.cell?_setCell_other _ _ _ _ (by simp <;> omega), h.ck i (by omega)]
      simp only [List.getD_eq_getElem?_getD]
      rw [List.getElem?_append_left (by omega)]
set_option maxRecDepth 100000 in
set_option maxHeartbeats 1000000 in
theorem keep_o (eb o : Nat) (s : EarS) (b : UInt8) (w : World) (h : EarO w eb o s) :
    Calls Tryz.prog 105 #[.pointer (some ⟨eb, o, none⟩), .int .u8 (b.toNat : Int)] w fun e w' => e = .returned (.tuple #[]) ∧ EarO w' eb o (keepF s b) ∧ Within w w' eb o 84 := by
  have c0 := h.c0
  have c83 := h.c83
  have f0 := h.fz o
  have f83 := h.fz (o + 83)
  have hl := h.ok.len
  by_cases he : s.ks.length = 82
  · have e : keepF s b = ⟨0, s.ks⟩ := by unfold keepF; rw [if_pos he]
    have HR := hideIt (h.setMode 0 (by decide))
    have hi : ((s.ks.length : Int) == 82) = true := by simp; omega
    rw [e]
    clear h e
    go_enter Tryz.func105, Tryz.ntmps105
    go_wp2
    refine bodyPost_ret (results_none rfl _ _ _) rfl ?_
    exact ⟨rfl, HR.out, Within.set _ _ _ _ _ _ (by omega) (by omega)⟩
  · have e : keepF s b = ⟨s.mode, s.ks ++ [b]⟩ := by unfold keepF; rw [if_neg he]
    have HR := hideIt (h.push b (by omega))
    have hi : ((s.ks.length : Int) == 82) = false := by simp; omega
    have hi2 : (s.ks.length : Int) < 82 := by omega
    obtain ⟨v, hv⟩ := h.cb s.ks.length (by omega)
    have fv := h.fz (o + 1 + s.ks.length)
    rw [e]
    clear h e
    go_enter Tryz.func105, Tryz.ntmps105
    go_wp2
    go_region
    all_goals
      go_wp2
      go_end0
      exact ⟨rfl, HR.out.kept rfl (Nat.le_refl _), ((Within.set _ _ _ _ _ _ (by omega) (by omega)).trans (Within.set _ _ _ _ _ _ (by omega) (by omega))).drew⟩
set_option maxRecDepth 100000 in
set_option maxHeartbeats 1000000 in
theorem take_o (eb o : Nat) (s : EarS) (b : UInt8) (w : World) (h : EarO w eb o s) :
    Calls Tryz.prog 88 #[.pointer (some ⟨eb, o, none⟩), .int .u8 (b.toNat : Int)] w fun e w' => e = .returned (.tuple #[]) ∧ EarO w' eb o (takeF s b) ∧ Within w w' eb o 84 := by
  have c0 := h.c0
  have f0 := h.fz o
  have hm := h.ok.mode
  have hx := xor_byte b
  by_cases h0 : s.mode = 0
  · have e : takeF s b = s := by unfold takeF; rw [if_pos h0]
    have hi : ((s.mode : Int) == 0) = true := by simp; omega
    rw [e]
    have HR := hideIt h
    clear h e
    go_enter Tryz.func88, Tryz.ntmps88
    go_wp2
    go_end0
    exact ⟨rfl, HR.out, Within.refl _ _ _ _⟩
  · have hi : ((s.mode : Int) == 0) = false := by simp; omega
    by_cases h2 : s.mode = 2
    · have hi2 : ((s.mode : Int) == 2) = true := by simp; omega
      by_cases hb : isB (b ^^^ 32) = true
      · have e : takeF s b = keepF ⟨1, s.ks⟩ (b ^^^ 32) := by unfold takeF; rw [if_neg h0, if_pos h2, if_pos hb]
        have HR := hideIt (h.setMode 1 (by decide))
        rw [e]
        clear h e
        go_enter Tryz.func88, Tryz.ntmps88
        go_wp2_with fail
        refine (needsEscape_any (b ^^^ 32) _).mono ?_
        rintro e w1 ⟨rfl, rfl⟩
        rw [hb]
        go_wp2_with fail
        refine (keep_o eb o ⟨1, s.ks⟩ (b ^^^ 32) _ HR.out).mono ?_
        rintro e w1 ⟨rfl, hr, hg⟩
        go_wp2
        go_end0
        exact ⟨rfl, hr, (Within.set _ _ _ _ _ _ (by omega) (by omega)).trans hg⟩
      · have e : takeF s b = ⟨0, s.ks⟩ := by unfold takeF; rw [if_neg h0, if_pos h2, if_neg hb]
        have HR := hideIt (h.setMode 0 (by decide))
        have hbf : isB (b ^^^ 32) = false := by simpa using hb
        rw [e]
        clear h e
        go_enter Tryz.func88, Tryz.ntmps88
        go_wp2_with fail
        refine (needsEscape_any (b ^^^ 32) _).mono ?_
        rintro e w1 ⟨rfl, rfl⟩
        rw [hbf]
        go_wp2
        go_end0
        exact ⟨rfl, HR.out, Within.set _ _ _ _ _ _ (by omega) (by omega)⟩
    · have hi2 : ((s.mode : Int) == 2) = false := by simp; omega
      by_cases h5 : b = 125
      · subst h5
        have e : takeF s 125 = ⟨2, s.ks⟩ := by unfold takeF; rw [if_neg h0, if_neg h2, if_pos rfl]
        have HR := hideIt (h.setMode 2 (by decide))
        rw [e]
        clear h e
        go_enter Tryz.func88, Tryz.ntmps88
        go_wp2
        go_end0
        exact ⟨rfl, HR.out, Within.set _ _ _ _ _ _ (by omega) (by omega)⟩
      · have e : takeF s b = keepF s b := by unfold takeF; rw [if_neg h0, if_neg h2, if_neg h5]
        have hi5 : ((b.toNat : Int) == 125) = false := by
          have : ¬ b.toNat = 125 := fun e => h5 (UInt8.toNat_inj.1 e)
          simp; omega
        rw [e]
        have HR := hideIt h
        clear h e
        go_enter Tryz.func88, Tryz.ntmps88
        go_wp2_with fail
        refine (keep_o eb o s b _ HR.out).mono ?_
        rintro e w1 ⟨rfl, hr, hg⟩
        go_wp2
        go_end0
        exact ⟨rfl, hr, hg⟩
set_option maxRecDepth 100000 in
set_option maxHeartbeats 2000000 in
theorem isWhole_o (eb o : Nat) (s : EarS) (w : World) (h : EarO w eb o s) :
    Calls Tryz.prog 89 #[.pointer (some ⟨eb, o, none⟩)] w fun e w' => e = .returned (.bool (wholeF s)) ∧ ∃ m, w' = w.drewN m := by
  have c0 := h.c0
  have c83 := h.c83
  have hl := h.ok.len
  by_cases h1 : s.mode = 1
  · have e : wholeF s = hasC s.ks := by unfold wholeF; simp [h1]
    have hi : ((s.mode : Int) == 1) = true := by simp; omega
    have hle : (s.ks.length : Int) ≤ 82 := by omega
    have HC := hideIt (fun w' (hw : BytesAt w' eb (o + 1) s.ks) => hasCheck_any eb (o + 1) 82 s.ks w' (by omega) hl hw)
    have HB := hideIt h.ck
    rw [e]
    clear e h
    go_enter Tryz.func89, Tryz.ntmps89
    go_wp2
    go_quiet ((go_at_call 106; exact Calls.quiet_of (HC.out _ (HB.out.kept rfl))))
    go_wp2
    go_ret
    exact ⟨rfl, _, rfl⟩
  · have e : wholeF s = false := by unfold wholeF; simp [h1]
    have hi : ((s.mode : Int) == 1) = false := by simp; omega
    rw [e]
    clear e h
    go_enter Tryz.func89, Tryz.ntmps89
    go_wp2
    go_quiet (fail)
    go_wp2
    go_ret
    exact ⟨rfl, _, rfl⟩
end Go.Proofs.YthokdbcpkmcieaaGreat
namespace Go.Proofs.YthokdbcpkmcieaaGreat
open Go Go.RowKit
theorem EarO.reset {w : World} {eb o : Nat} {s : EarS} (h : EarO w eb o s) : EarO ((w.setCell ⟨eb, o, none⟩ (.int .i64 1)).setCell ⟨eb, o + 83, none⟩ (.int .i64 0)) eb o ⟨1, []⟩ := by
  have h83 : (w.setCell ⟨eb, o, none⟩ (.int .i64 1)).cell? ⟨eb, o + 83, none⟩ = some (.int .i64 (s.ks.length : Int)) := by
    rw [World.cell?_setCell_other _ _ _ _ (by simp)]; exact h.c83
  refine ⟨?_, World.cell?_setCell_same _ _ _ h83, fun i hi => ?_, fun i hi => by simp at hi, fun j => by simp [h.fz j], by simpa [World.setCell] using h.lt, ⟨(by decide : 1 ≤ 2), by simp⟩⟩
  · rw [World.cell?_setCell_other _ _ _ _ (by simp)]; exact World.cell?_setCell_same _ _ _ h.c0
  · rw [World.cell?_setCell_other _ _ _ _ (by simp <;> omega), World.cell?_setCell_other _ _ _ _ (by simp)]; exact h.cb i hi
/-- A message more in the list: the ear is as it was. -/
theorem hear_stepO {w w1 wn : World} {eb o : Nat} {st : EarS} {out : List (List UInt8)} {v v' : Value} {ob : Obj} (hE : EarO w1 eb o st) (hR : w1.drew.ownsRow w.heap.size 9 1 v out.length (strs out)) (hG : Within w w1 eb o 84) {t' : List UInt8}
    (hown : wn.ownsRow w.heap.size 9 1 v' (out.length + 1) (strs out ++ [.string (txt t')])) (hgr : (w1.drew.alloc ob).grownBy wn v.ownBlock) (hlt : eb < w.heap.size) :
    EarO wn eb o st ∧ wn.ownsRow w.heap.size 9 1 v' (out.length + 1) (strs out ++ [.string (txt t')]) ∧ Within w wn eb o 84 := by
  have hz := hG.grown.size
  have hz2 : w1.heap.size + 1 ≤ wn.heap.size := by have := hgr.size; simpa using this
  have key : ∀ k, k < w.heap.size → wn.heap[k]? = w1.heap[k]? := fun k hk => by
    rw [hgr.block k (by simp; omega) (fun e => by have := (hR.lt k e.symm).1; omega), Below.heap_alloc _ _ _ (by show k < w1.heap.size; omega)]
    rfl
  refine ⟨hE.kept (key eb hlt) (by omega), hown, ?_⟩
  exact ⟨⟨hgr.os.trans hG.grown.os, hgr.tape.trans hG.grown.tape, hgr.output.trans hG.grown.output, by omega, fun k hk hne => (key k hk).trans (hG.grown.block k hk hne)⟩, fun j hj => (World.cell?_of_block (a := ⟨eb, j, none⟩) (key eb hlt)).trans (hG.cells j hj), fun j => (World.frozen?_of_block (a := ⟨eb, j, none⟩) (key eb hlt)).trans (hG.fz j)⟩
set_option maxRecDepth 100000 in
set_option maxHeartbeats 4000000 in
theorem hear_o (eb o : Nat) (s : EarS) (bs : ByteArray) (w : World) (h : EarO w eb o s) (hbs : bs.size ≤ 4000000000000) :
    Calls Tryz.prog 71 #[.pointer (some ⟨eb, o, none⟩), .string bs] w fun e w' => ∃ v, e = .returned v ∧ EarO w' eb o (hearF s bs.data.toList).1 ∧ w'.ownsRow w.heap.size 9 1 v (hearF s bs.data.toList).2.length (strs (hearF s bs.data.toList).2) ∧ Within w w' eb o 84 := by
  obtain ⟨i0, hi, hz0, hz1, hz2⟩ := info_of Tryz.infoStr
  have hltw := h.lt
  have hlen : bs.data.toList.length = bs.size := by rw [Array.length_toList]; rfl
  go_enter Tryz.func71, Tryz.ntmps71
  go_wp2_with fail
  go_loopw [5, 9] (fun v i wr => ∃ k : Nat, k ≤ bs.size ∧ i = .int .i64 k ∧ EarO wr eb o (hearF s (bs.data.toList.take k)).1 ∧ wr.ownsRow w.heap.size 9 1 v (hearF s (bs.data.toList.take k)).2.length (strs (hearF s (bs.data.toList.take k)).2) ∧ Within w wr eb o 84) (fun _ i _ => bs.size - (intOf i).toNat)
  case atStart => exact ⟨0, Nat.zero_le _, rfl, h, World.ownsRow_nil _ _ _ _, Within.refl _ _ _ _⟩
  case round =>
    obtain ⟨k, hk, rfl, hE, hR, hG⟩ := hrel
    by_cases hlt : k < bs.size
    · have hN : hearF s (bs.data.toList.take (k + 1)) = hearB (hearF s (bs.data.toList.take k)) bs[k] := by
        rw [take_succ _ k (by omega), hearF_snoc, ba_get bs k hlt]
      have hcn := hearF_count s (bs.data.toList.take k)
      rw [List.length_take] at hcn
      obtain ⟨p, hp⟩ : ∃ p, hearF s (bs.data.toList.take k) = p := ⟨_, rfl⟩
      rw [hp] at hE hR hN hcn
      obtain ⟨st, out⟩ := p
      simp only at hE hR hcn
      obtain ⟨b, hb⟩ : ∃ b, bs[k] = b := ⟨_, rfl⟩
      rw [hb] at hN
      obtain ⟨va, vm, vc, rfl⟩ := slice_ofR hR
      clear hp h
      by_cases h6 : b = 126
      · subst h6
        have HI := hideIt (fun w' (he : EarO w' eb o st) => isWhole_o eb o st w' he)
        have HG := hideIt hG
        by_cases hw : wholeF st = true
        · have hN2 : hearB (st, out) 126 = (⟨1, []⟩, out ++ [st.ks.take (st.ks.length - 2)]) := by unfold hearB; rw [if_pos rfl]; simp only; rw [if_pos hw]
          have HN := hideIt (hN.trans hN2)
          have hge : 3 ≤ st.ks.length := by
            unfold wholeF hasC at hw
            simp only [Bool.and_eq_true, decide_eq_true_eq] at hw
            exact hw.2.1
          obtain ⟨n, hn⟩ : ∃ n, st.ks.length = n + 2 := ⟨st.ks.length - 2, by omega⟩
          have hle := hE.ok.len
          obtain ⟨t, ht⟩ : ∃ t, st.ks.take (st.ks.length - 2) = t := ⟨_, rfl⟩
          have htl : t.length = n := by rw [← ht, List.length_take]; omega
          have htb : BytesAt wr eb (o + 1) t := by rw [← ht]; exact hE.ck.take _
          have HE := hideIt hE
          clear hN hN2 hE hG
          go_wp2_with fail
          refine (HI.out _ HE.out).mono ?_
          rintro e w1 ⟨rfl, m, rfl⟩
          obtain ⟨w1, hw1⟩ : ∃ w1, wr.drewN m = w1 := ⟨_, rfl⟩
          have e1 : w1.heap = wr.heap := by rw [← hw1]; rfl
          have hE1 : EarO w1 eb o st := HE.out.kept (by rw [e1]) (by rw [e1]; exact Nat.le_refl _)
          have hR1 : w1.drew.ownsRow w.heap.size 9 1 (.slice va vm vc) out.length (strs out) := own_atE hR (fun j _ => by show w1.heap[j]? = _; rw [e1])
          have hG1 : Within w w1 eb o 84 := by rw [← hw1]; exact HG.out.drewN m
          have htb1 : BytesAt w1.drew eb (o + 1) t := htb.kept (by show w1.heap[eb]? = _; rw [e1])
          rw [hw1]
          clear hw1 HE HG hR
          have c83 := hE1.c83
          rw [hn] at c83
          have f0 := hE1.fz o
          have f83 := hE1.fz (o + 83)
          have hcv : (convert 24 9 (.slice (some ⟨eb, o + 1, none⟩) n 82)).run Tryz.prog w1.drew = .ok (.string (txt t)) w1.drew := by
            have := run_convert_bytes_back (P := Tryz.prog) w1.drew 24 9 5 ⟨eb, o + 1, none⟩ 82 t Tryz.underlying24 Tryz.underlying5 Tryz.underlying9 (fun j hj => by
              have hc := htb1 j hj
              rw [List.getD_eq_getElem?_getD, List.getElem?_eq_getElem hj] at hc
              have ha : (⟨eb, o + 1, none⟩ : Addr).add j = ⟨eb, o + 1 + j, none⟩ := by unfold Addr.add; split <;> simp_all
              rw [ha]
              exact hc)
            rw [htl] at this
            exact this
          have hno : (n : Int) ≤ 82 := by omega
          have hwr : IntKind.i64.wrap (n : Int) = (n : Int) := by rw [IntKind.wrap_i64]; omega
          have HE1 := hideIt hE1
          have HR1 := hideIt hR1
          have HG1 := hideIt hG1
          have hel := hE1.lt
          have HT := hideIt ht
          have hbase : w.heap.size ≤ w1.heap.size := hG1.grown.size
          clear hE1 hR1 hG1 htb htb1 ht e1
          rw [hw]
          go_wp2_with fail
          go_region_law (refine step_append_own rfl (.tmp 23) (.tmp 34) 40 rfl w.heap.size 9 i0 _ 1 16 Tryz.underlying40 hi hz0 hz1 hz2 rfl (by decide) (.slice va vm vc) out.length (strs out) (by simp [Act.eval]) (by exact HR1.out.alloc _) ⟨w1.heap.size, 0, none⟩ 1 1 [.string (txt t)] (by simp [Act.eval]) rfl (cell_one_new _ _ _) (by intro u hu; simp at hu; subst hu; rfl) (by unfold maxLen; omega) (by omega) (by simp; omega) ?_; intro v' wn hown hgr hloc; obtain ⟨va', vn', vc', rfl⟩ := slice_ofR hown)
          all_goals
            have hst := hear_stepO HE1.out HR1.out HG1.out hown hgr (by omega)
            have HS := hideIt hst
            have fn0 := hst.1.fz o
            have fn83 := hst.1.fz (o + 83)
            have cn0 := hst.1.c0
            have cn83 := hst.1.c83
            have hnl := hst.1.lt
            clear hst hown hgr hloc c83 f0 f83
            go_wp2
            go_roundw
            case rel =>
              refine ⟨k + 1, by omega, by go_num, ?_, ?_, ?_⟩
              · rw [HN.out]; exact HS.out.1.reset
              · rw [HN.out, HT.out]
                simp only [List.length_append, List.length_cons, List.length_nil, strs, List.map_append, List.map_cons, List.map_nil]
                exact own_atE HS.out.2.1 (fun j hj => heap_reset _ _ _ (by have := (HS.out.2.1.lt j hj).1; omega))
              · exact HS.out.2.2.trans ((Within.set _ _ _ _ _ _ (by omega) (by omega)).trans (Within.set _ _ _ _ _ _ (by omega) (by omega)))
            case measure => simp [intOf]; omega
        · have hwf : wholeF st = false := by simpa using hw
          have hN2 : hearB (st, out) 126 = (⟨1, []⟩, out) := by unfold hearB; rw [if_pos rfl]; simp only; rw [if_neg hw]
          have HN := hideIt (hN.trans hN2)
          have HE := hideIt hE
          clear hN hN2 hE hG
          go_wp2_with fail
          refine (HI.out _ HE.out).mono ?_
          rintro e w1 ⟨rfl, m, rfl⟩
          obtain ⟨w1, hw1⟩ : ∃ w1, wr.drewN m = w1 := ⟨_, rfl⟩
          have e1 : w1.heap = wr.heap := by rw [← hw1]; rfl
          have hE1 : EarO w1 eb o st := HE.out.kept (by rw [e1]) (by rw [e1]; exact Nat.le_refl _)
          have hR1 : w1.ownsRow w.heap.size 9 1 (.slice va vm vc) out.length (strs out) := own_atE hR (fun j _ => by rw [e1])
          have hG1 : Within w w1 eb o 84 := by rw [← hw1]; exact HG.out.drewN m
          rw [hw1]
          clear hw1 HE HG hR
          have c83 := hE1.c83
          have c0 := hE1.c0
          have f0 := hE1.fz o
          have f83 := hE1.fz (o + 83)
          have hel := hE1.lt
          have HE1 := hideIt hE1
          have HR1 := hideIt hR1
          have HG1 := hideIt hG1
          clear hE1 hR1 hG1 e1
          rw [hwf]
          go_wp2
          go_roundw
          case rel =>
            refine ⟨k + 1, by omega, by go_num, ?_, ?_, ?_⟩
            · rw [HN.out]; exact HE1.out.reset
            · rw [HN.out]
              exact own_atE HR1.out (fun j hj => heap_reset _ _ _ (by have := (HR1.out.lt j hj).1; omega))
            · exact HG1.out.trans ((Within.set _ _ _ _ _ _ (by omega) (by omega)).trans (Within.set _ _ _ _ _ _ (by omega) (by omega)))
          case measure => simp [intOf]; omega
      · have hb6 : ((b.toNat : Int) != 126) = true := by
          have : ¬ b.toNat = 126 := fun e => h6 (UInt8.toNat_inj.1 e)
          simp; omega
        have hN2 : hearB (st, out) b = (takeF st b, out) := by unfold hearB; rw [if_neg h6]
        have HN := hideIt (hN.trans hN2)
        have HE := hideIt hE
        have HR := hideIt hR
        have HG := hideIt hG
        clear hN hN2 hE hR hG
        go_wp2_with fail
        refine (take_o eb o st b _ HE.out).mono ?_
        rintro e w1 ⟨rfl, hE1, hg1⟩
        go_wp2
        go_roundw
        case rel =>
          refine ⟨k + 1, by omega, by go_num, ?_, ?_, HG.out.trans hg1⟩
          · rw [HN.out]; exact hE1
          · rw [HN.out]
            exact own_atE HR.out (fun j hj => hg1.grown.block j (HR.out.lt j hj).2 (by have := (HR.out.lt j hj).1; simp; omega))
        case measure => simp [intOf]; omega
    · have hkk : k = bs.size := by omega
      rw [hkk, ← hlen, List.take_length] at hE hR
      have HQ := hideIt (And.intro hE (And.intro hR hG))
      obtain ⟨va, vm, vc, rfl⟩ := slice_ofR hR
      clear hE hR hG
      go_wp2
      go_ret
      exact ⟨_, rfl, HQ.out.1, HQ.out.2.1, HQ.out.2.2⟩
end Go.Proofs.YthokdbcpkmcieaaGreat
