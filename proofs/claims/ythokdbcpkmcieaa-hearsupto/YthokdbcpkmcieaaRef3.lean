/- The walk of the document's message. -/
import Derived.Test.YthokdbcpkmcieaaRef2
import Derived.Deep.RegionWith
import Derived.Test.YthokdbcpkmcieaaGrow
namespace Go.Proofs.Ythokdbcpkmcieaa
open Go Go.RowKit
def msgR : Option (List UInt8) → Value
  | some m => .tuple #[.string (txt m), .bool true]
  | none => .tuple #[.string ⟨#[]⟩, .bool false]
theorem uStep_len1 (u : Nat × List UInt8) (b : UInt8) : (uStep u b).2.length ≤ u.2.length + 1 := by
  unfold uStep
  repeat' split
  all_goals simp
theorem foldl_ulen : ∀ (l : List UInt8) (u : Nat × List UInt8), (l.foldl uStep u).2.length ≤ u.2.length + l.length
  | [], u => by simp
  | b :: l, u => by
    have h1 := foldl_ulen l (uStep u b)
    have h2 := uStep_len1 u b
    simp only [List.foldl_cons, List.length_cons]
    omega
theorem unF_len (l : List UInt8) : (unF l).2.length ≤ l.length := by
  have := foldl_ulen l (1, [])
  simpa [unF] using this
theorem foldl_uzero : ∀ (l : List UInt8) {u : Nat × List UInt8}, u.1 = 0 → (l.foldl uStep u).1 = 0
  | [], _, h => h
  | b :: l, _, h => foldl_uzero l (uStep_zero h b)
theorem unF_split (l : List UInt8) (k : Nat) : unF l = (l.drop k).foldl uStep (unF (l.take k)) := by
  have h : unF (l.take k ++ l.drop k) = (l.drop k).foldl uStep (unF (l.take k)) := by unfold unF; rw [List.foldl_append]
  rw [List.take_append_drop] at h
  exact h
/-- A 125 that is the last, or that nothing right stands behind, spoils it. -/
theorem msg_spoilt {l : List UInt8} {k : Nat} (h : (unF (l.take k)).1 = 0) : msgF l = none := by
  unfold msgF
  have : (unF l).1 = 0 := by rw [unF_split l k]; exact foldl_uzero _ h
  rw [if_neg (by rw [this]; simp)]
theorem msg_open {l : List UInt8} (h : (unF l).1 = 2) : msgF l = none := by
  unfold msgF
  rw [if_neg (by rw [h]; simp)]
theorem msg_end {l out : List UInt8} (h : unF l = (1, out)) : msgF l = if okM out = true then some (out.take (out.length - 2)) else none := by
  unfold msgF
  rw [h]
  simp
theorem txt_neE (a b : ByteArray) (h : a ≠ b) : (a.toList == b.toList) = false := by
  rw [beq_eq_false_iff_ne]
  intro e
  apply h
  rw [ByteArray.toList_eq, ByteArray.toList_eq] at e
  exact ByteArray.ext (Array.ext' e)
theorem below_drewN {B : Nat} {w w' : World} (h : Below B w w') (n : Nat) : Below B w (w'.drewN n) := ⟨h.os, h.tape, h.output, h.size, h.block⟩
set_option maxRecDepth 100000 in
set_option maxHeartbeats 8000000 in
theorem message_any (s : ByteArray) (w : World) (hs : s.size ≤ 4000000) :
    Calls Try.prog 31 #[.string s] w fun e w' => e = .returned (msgR (msgF s.data.toList)) ∧ Below w.heap.size w w' := by
  have hlen : s.data.toList.length = s.size := by rw [Array.length_toList]; rfl
  go_enter Try.func31, Try.ntmps31
  go_wp2_with fail
  go_loopw [4, 5] (fun o i wr => ∃ (k : Nat) (out : List UInt8), k ≤ s.size ∧ i = .int .i64 k ∧ o = .string (txt out) ∧ unF (s.data.toList.take k) = (1, out) ∧ Below w.heap.size w wr) (fun _ i _ => s.size - (intOf i).toNat)
  case atStart => exact ⟨0, [], Nat.zero_le _, rfl, rfl, rfl, Below.refl _ _⟩
  case round =>
    obtain ⟨k, out, hk, rfl, rfl, hu, hB⟩ := hrel
    have hol := unF_len (s.data.toList.take k)
    rw [hu, List.length_take] at hol
    simp only at hol
    obtain ⟨O, hO⟩ : ∃ O, txt out = O := ⟨_, rfl⟩
    have hOs : O.size = out.length := by rw [← hO, txt_size]
    have hOi : (O.size : Int) ≤ 4000000 := by omega
    have HB := hideIt hB
    have hsz := hB.size
    rw [hO]
    have HOS := hideIt hOs
    clear hB hol hOs
    by_cases hlt : k < s.size
    · obtain ⟨b, hb⟩ : ∃ b, s[k] = b := ⟨_, rfl⟩
      have hN : unF (s.data.toList.take (k + 1)) = uStep (1, out) b := by rw [take_succ _ k (by omega), unF_snoc, hu, ba_get s k hlt, hb]
      have hcat1 : (k : Int) + 1 ≤ (s.size : Int) := by omega
      by_cases h5 : b = 125
      · subst h5
        have hN5 : unF (s.data.toList.take (k + 1)) = (2, out) := by rw [hN]; simp [uStep]
        by_cases hl2 : k + 1 < s.size
        · obtain ⟨c, hc⟩ : ∃ c, s[k + 1] = c := ⟨_, rfl⟩
          have hN2 : unF (s.data.toList.take (k + 2)) = uStep (2, out) c := by rw [take_succ _ (k + 1) (by omega), unF_snoc, hN5, ba_get s (k + 1) hl2, hc]
          have hne : ((k : Int) + 1 == (s.size : Int)) = false := by simp; omega
          have hlt2 : (k : Int) + 1 < (s.size : Int) := by omega
          by_cases hcc : c = 94 ∨ c = 93
          · have HN := hideIt (show unF (s.data.toList.take (k + 2)) = (1, out ++ [c ^^^ 32]) by rw [hN2]; simp [uStep, hcc])
            have hcv : (convert 65 9 (.slice (some ⟨wr.heap.size, 0, none⟩) 1 1)).run Try.prog (wr.alloc (.cells #[.int .u8 (bits BinOp.xor IntKind.u8 (c.toNat : Int) 32)] 5)) = .ok (.string (txt [c ^^^ 32])) (wr.alloc (.cells #[.int .u8 (bits BinOp.xor IntKind.u8 (c.toNat : Int) 32)] 5)) := by rw [xor_byte]; exact conv_row (l := [c ^^^ 32]) (n := 1) rfl (own_first wr wr.heap.size (Nat.le_refl _) (c ^^^ 32))
            have hTs : ((txt [c ^^^ 32]).size : Int) ≤ 2 := by rw [txt_size]; simp
            have HT := hideIt (show O ++ txt [c ^^^ 32] = txt (out ++ [c ^^^ 32]) by rw [← hO, txt_append])
            obtain ⟨T, hT⟩ : ∃ T, txt [c ^^^ 32] = T := ⟨_, rfl⟩
            rw [hT] at hcv hTs HT
            have HBn := hideIt (show Below w.heap.size w (wr.alloc (.cells #[.int .u8 (bits BinOp.xor IntKind.u8 (c.toNat : Int) 32)] 5)) from HB.out.alloc hsz _)
            have htest : ((c.toNat : Int) != 94) = false ∨ (((c.toNat : Int) != 94) = true ∧ ((c.toNat : Int) != 93) = false) := by
              rcases hcc with rfl | rfl
              · left; decide
              · right; decide
            clear hN2 hN5 hN hu hO hT hcc
            rcases htest with h9 | ⟨h9, h93⟩
            all_goals
              go_wp2
              go_roundw
              case rel => exact ⟨k + 2, _, by omega, by go_num, by rw [HT.out], HN.out, HBn.out⟩
              case measure => simp [intOf]; omega
          · have HM := hideIt (show msgF s.data.toList = none from msg_spoilt (k := k + 2) (by rw [hN2]; simp [uStep, hcc]))
            have h9 : ((c.toNat : Int) != 94) = true := by
              have : ¬ c.toNat = 94 := fun e => hcc (.inl (UInt8.toNat_inj.1 e))
              simp; omega
            have h93 : ((c.toNat : Int) != 93) = true := by
              have : ¬ c.toNat = 93 := fun e => hcc (.inr (UInt8.toNat_inj.1 e))
              simp; omega
            clear hN2 hN5 hN hu hO hcc
            go_wp2
            go_ret2
            rw [HM.out]
            exact ⟨rfl, HB.out⟩
        · have hne : ((k : Int) + 1 == (s.size : Int)) = true := by simp; omega
          have HM := hideIt (show msgF s.data.toList = none from msg_open (by rw [← List.take_length (l := s.data.toList), hlen, show s.size = k + 1 by omega, hN5]))
          clear hN5 hN hu hO
          go_wp2
          go_ret2
          rw [HM.out]
          exact ⟨rfl, HB.out⟩
      · have h5b : ((b.toNat : Int) != 125) = true := by
          have : ¬ b.toNat = 125 := fun e => h5 (UInt8.toNat_inj.1 e)
          simp; omega
        have HN := hideIt (show unF (s.data.toList.take (k + 1)) = (1, out ++ [b]) by rw [hN]; simp [uStep, h5])
        have hone := one_at s k hlt
        rw [hb] at hone
        have hTs : ((txt [b]).size : Int) ≤ 2 := by rw [txt_size]; simp
        have HT := hideIt (show O ++ txt [b] = txt (out ++ [b]) by rw [← hO, txt_append])
        obtain ⟨T, hT⟩ : ∃ T, txt [b] = T := ⟨_, rfl⟩
        rw [hT] at hone hTs HT
        clear hN hu hO hT
        go_wp2
        go_roundw
        case rel => exact ⟨k + 1, _, by omega, by go_num, by rw [HT.out], HN.out, HB.out⟩
        case measure => simp [intOf]; omega
    · have e : k = s.size := by omega
      have hu2 : unF s.data.toList = (1, out) := by rw [← List.take_length (l := s.data.toList), hlen, ← e]; exact hu
      have hmsg := msg_end hu2
      have hOt : O.data.toList = out := by rw [← hO, txt_toList]
      clear hu hu2 hO
      by_cases h3 : out.length < 3
      · have HM := hideIt (show msgF s.data.toList = none by rw [hmsg, if_neg (by unfold okM; simp; omega)])
        have hp : (O.size : Int) - 2 < 1 := by have := HOS.out; omega
        clear hmsg hOt
        go_wp2
        go_quiet (fail)
        go_wp2
        go_ret2
        rw [HM.out]
        exact ⟨rfl, below_drewN HB.out _⟩
      · obtain ⟨n, hn⟩ : ∃ n, out.length = n + 2 := ⟨out.length - 2, by omega⟩
        have hOn : O.size = n + 2 := by have := HOS.out; omega
        have hn1 : (1 : Int) ≤ (n : Int) := by omega
        have hn1b : decide ((n : Int) < 1) = false := by simp; omega
        have hnb : (n : Int) ≤ 4000000 := by omega
        by_cases h82 : 82 < out.length
        · have HM := hideIt (show msgF s.data.toList = none by rw [hmsg, if_neg (by unfold okM; simp; omega)])
          have hp : (80 : Int) < (n : Int) := by omega
          clear hmsg hOt
          go_wp2
          go_quiet (fail)
          go_wp2
          go_ret2
          rw [HM.out]
          exact ⟨rfl, below_drewN HB.out _⟩
        · have hp : decide ((80 : Int) < (n : Int)) = false := by simp; omega
          have hX : (O.extract n (n + 2)).data.toList = out.drop n := by rw [← hOn, baE_drop, hOt]
          have hY : (O.extract 0 n).data.toList = out.take n := by rw [baE_take, hOt]
          obtain ⟨X, hXX⟩ : ∃ X, O.extract n (n + 2) = X := ⟨_, rfl⟩
          obtain ⟨Y, hYY⟩ : ∃ Y, O.extract 0 n = Y := ⟨_, rfl⟩
          rw [hXX] at hX
          rw [hYY] at hY
          have hYs : Y.size ≤ 4000000 := by rw [← hYY, ByteArray.size_extract]; omega
          have HC := hideIt (fun w' => rcheck_any Y w' hYs)
          rw [hY] at HC
          obtain ⟨c, hc⟩ : ∃ c, crcN (out.take n) = c := ⟨_, rfl⟩
          have hcl : c < 65536 := by rw [← hc]; exact crcN_lt _
          rw [hc] at HC
          obtain ⟨T, hT⟩ : ∃ T, txt [UInt8.ofNat (c / 256), UInt8.ofNat (c % 256)] = T := ⟨_, rfl⟩
          have HT := hideIt (fun w' => two_any c hcl w')
          rw [hT] at HT
          have hTl : T = txt (chkB (out.take n)) := by rw [← hT, ← hc]; rfl
          have hXT : X = T ↔ okM out = true := by
            have h1 : X = txt (out.drop n) := by rw [← hX, txt_ba]
            unfold okM
            rw [hn, show n + 2 - 2 = n by omega]
            simp only [Bool.and_eq_true, decide_eq_true_eq]
            constructor
            · intro h
              refine ⟨⟨by omega, by omega⟩, ?_⟩
              rw [← txt_toList (out.drop n), ← h1, h, hTl, txt_toList]
            · intro h
              rw [h1, h.2, hTl]
          have HYt := hideIt (show Y = txt (out.take n) by rw [← hY, txt_ba])
          have HOK := hideIt hXT
          clear hOt hX hY hc hT hTl hXT hYs
          by_cases hE : X = T
          · have HM := hideIt (show msgF s.data.toList = some (out.take n) by rw [hmsg, if_pos (HOK.out.1 hE), hn, show n + 2 - 2 = n by omega])
            subst hE
            clear hmsg
            go_wp2
            refine wp_region_grow (by kernel_rfl) (by kernel_rfl) ?_
            repeat (go_big_quiet_step ((first | (go_at_call 29; exact Calls.grow_of_same (HC.out _)) | (go_at_call 28; exact Calls.grow_of (HT.out _)))))
            refine wpQuiet_nil ?_
            intro w7 hw7
            obtain ⟨x, rfl⟩ := hw7
            go_wp2
            go_ret2
            rw [HM.out]
            exact ⟨by rw [HYt.out]; rfl, HB.out.trans (by have := x.2.mono (B' := w.heap.size) hsz; exact ⟨this.os, this.tape, this.output, this.size, this.block⟩)⟩
          · have HM := hideIt (show msgF s.data.toList = none by rw [hmsg, if_neg (fun h => hE (HOK.out.2 h))])
            have hEb : (X.toList == T.toList) = false := txt_neE X T hE
            clear hmsg
            go_wp2
            refine wp_region_grow (by kernel_rfl) (by kernel_rfl) ?_
            repeat (go_big_quiet_step ((first | (go_at_call 29; exact Calls.grow_of_same (HC.out _)) | (go_at_call 28; exact Calls.grow_of (HT.out _)))))
            refine wpQuiet_nil ?_
            intro w7 hw7
            obtain ⟨x, rfl⟩ := hw7
            go_wp2
            go_ret2
            rw [HM.out]
            exact ⟨rfl, HB.out.trans (by have := x.2.mono (B' := w.heap.size) hsz; exact ⟨this.os, this.tape, this.output, this.size, this.block⟩)⟩
end Go.Proofs.Ythokdbcpkmcieaa
