/- The document's ear: the walks of message and Hear. -/
import Derived.Test.YthokdbcpkmcieaaGreatBoB
import Derived.Deep.RegionWith
import Derived.Test.YthokdbcpkmcieaaGreatBoD
namespace Go.Proofs.YthokdbcpkmcieaaGreat
open Go Go.RowKit
def msgR : Option (List UInt8) → Value
  | some m => .tuple #[.string (txt m), .bool true]
  | none => .tuple #[.string ⟨#[]⟩, .bool false]
theorem uStep_len1 (u : Nat × List UInt8) (b : UInt8) : (uStep u b).2.length ≤ u.2.length + 1 := by
  unfold uStep
  repeat' split
  all_goals simp
theorem foldl_ulen : ∀ (l : List UInt8) (u : Nat × List UInt8), (l.foldl uStep u).2.length ≤ u.2.length + l.length
  | [], u => by simp
  | b :: l, u => by
    have h1 := foldl_ulen l (uStep u b)
    have h2 := uStep_len1 u b
    simp only [List.foldl_cons, List.length_cons]
    omega
theorem unF_len (l : List UInt8) : (unF l).2.length ≤ l.length := by
  have := foldl_ulen l (1, [])
  simpa [unF] using this
theorem foldl_uzero : ∀ (l : List UInt8) {u : Nat × List UInt8}, u.1 = 0 → (l.foldl uStep u).1 = 0
  | [], _, h => h
  | b :: l, _, h => foldl_uzero l (uStep_zero h b)
theorem unF_split (l : List UInt8) (k : Nat) : unF l = (l.drop k).foldl uStep (unF (l.take k)) := by
  have h : unF (l.take k ++ l.drop k) = (l.drop k).foldl uStep (unF (l.take k)) := by unfold unF; rw [List.foldl_append]
  rw [List.take_append_drop] at h
  exact h
/-- A 125 that is the last, or that nothing right stands behind, spoils it. -/
theorem msg_spoilt {l : List UInt8} {k : Nat} (h : (unF (l.take k)).1 = 0) : msgF l = none := by
  unfold msgF
  have : (unF l).1 = 0 := by rw [unF_split l k]; exact foldl_uzero _ h
  rw [if_neg (by rw [this]; simp)]
theorem msg_open {l : List UInt8} (h : (unF l).1 = 2) : msgF l = none := by
  unfold msgF
  rw [if_neg (by rw [h]; simp)]
theorem msg_end {l out : List UInt8} (h : unF l = (1, out)) : msgF l = if okM out = true then some (out.take (out.length - 2)) else none := by
  unfold msgF
  rw [h]
  simp
theorem txt_neE (a b : ByteArray) (h : a ≠ b) : (a.toList == b.toList) = false := by
  rw [beq_eq_false_iff_ne]
  intro e
  apply h
  rw [ByteArray.toList_eq, ByteArray.toList_eq] at e
  exact ByteArray.ext (Array.ext' e)
set_option maxRecDepth 100000 in
set_option maxHeartbeats 8000000 in
theorem message_any (s : ByteArray) (w : World) (hs : s.size ≤ 4000000000000) :
    Calls Tryz.prog 96 #[.string s] w fun e w' => e = .returned (msgR (msgF s.data.toList)) ∧ Below w.heap.size w w' := by
  have hlen : s.data.toList.length = s.size := by rw [Array.length_toList]; rfl
  go_enter Tryz.func96, Tryz.ntmps96
  go_wp2_with fail
  go_loopw [4, 5] (fun o i wr => ∃ (k : Nat) (out : List UInt8), k ≤ s.size ∧ i = .int .i64 k ∧ o = .string (txt out) ∧ unF (s.data.toList.take k) = (1, out) ∧ Below w.heap.size w wr) (fun _ i _ => s.size - (intOf i).toNat)
  case atStart => exact ⟨0, [], Nat.zero_le _, rfl, rfl, rfl, Below.refl _ _⟩
  case round =>
    obtain ⟨k, out, hk, rfl, rfl, hu, hB⟩ := hrel
    have hol := unF_len (s.data.toList.take k)
    rw [hu, List.length_take] at hol
    simp only at hol
    obtain ⟨O, hO⟩ : ∃ O, txt out = O := ⟨_, rfl⟩
    have hOs : O.size = out.length := by rw [← hO, txt_size]
    have hOi : (O.size : Int) ≤ 4000000000000 := by omega
    have HB := hideIt hB
    have hsz := hB.size
    rw [hO]
    have HOS := hideIt hOs
    clear hB hol hOs
    by_cases hlt : k < s.size
    · obtain ⟨b, hb⟩ : ∃ b, s[k] = b := ⟨_, rfl⟩
      have hN : unF (s.data.toList.take (k + 1)) = uStep (1, out) b := by rw [take_succ _ k (by omega), unF_snoc, hu, ba_get s k hlt, hb]
      have hcat1 : (k : Int) + 1 ≤ (s.size : Int) := by omega
      by_cases h5 : b = 125
      · subst h5
        have hN5 : unF (s.data.toList.take (k + 1)) = (2, out) := by rw [hN]; simp [uStep]
        by_cases hl2 : k + 1 < s.size
        · obtain ⟨c, hc⟩ : ∃ c, s[k + 1] = c := ⟨_, rfl⟩
          have hN2 : unF (s.data.toList.take (k + 2)) = uStep (2, out) c := by rw [take_succ _ (k + 1) (by omega), unF_snoc, hN5, ba_get s (k + 1) hl2, hc]
          have hne : ((k : Int) + 1 == (s.size : Int)) = false := by simp; omega
          have hlt2 : (k : Int) + 1 < (s.size : Int) := by omega
          by_cases hcc : c = 94 ∨ c = 93
          · have HN := hideIt (show unF (s.data.toList.take (k + 2)) = (1, out ++ [c ^^^ 32]) by rw [hN2]; simp [uStep, hcc])
            have hcv : (convert 24 9 (.slice (some ⟨wr.heap.size, 0, none⟩) 1 1)).run Tryz.prog (wr.alloc (.cells #[.int .u8 (bits BinOp.xor IntKind.u8 (c.toNat : Int) 32)] 5)) = .ok (.string (txt [c ^^^ 32])) (wr.alloc (.cells #[.int .u8 (bits BinOp.xor IntKind.u8 (c.toNat : Int) 32)] 5)) := by rw [xor_byte]; exact conv_row (l := [c ^^^ 32]) (n := 1) rfl (own_first wr wr.heap.size (Nat.le_refl _) (c ^^^ 32))
            have hTs : ((txt [c ^^^ 32]).size : Int) ≤ 2 := by rw [txt_size]; simp
            have HT := hideIt (show O ++ txt [c ^^^ 32] = txt (out ++ [c ^^^ 32]) by rw [← hO, txt_append])
            obtain ⟨T, hT⟩ : ∃ T, txt [c ^^^ 32] = T := ⟨_, rfl⟩
            rw [hT] at hcv hTs HT
            have HBn := hideIt (show Below w.heap.size w (wr.alloc (.cells #[.int .u8 (bits BinOp.xor IntKind.u8 (c.toNat : Int) 32)] 5)) from HB.out.alloc hsz _)
            have htest : ((c.toNat : Int) != 94) = false ∨ (((c.toNat : Int) != 94) = true ∧ ((c.toNat : Int) != 93) = false) := by
              rcases hcc with rfl | rfl
              · left; decide
              · right; decide
            clear hN2 hN5 hN hu hO hT hcc
            rcases htest with h9 | ⟨h9, h93⟩
            all_goals
              go_wp2
              go_roundw
              case rel => exact ⟨k + 2, _, by omega, by go_num, by rw [HT.out], HN.out, HBn.out⟩
              case measure => simp [intOf]; omega
          · have HM := hideIt (show msgF s.data.toList = none from msg_spoilt (k := k + 2) (by rw [hN2]; simp [uStep, hcc]))
            have h9 : ((c.toNat : Int) != 94) = true := by
              have : ¬ c.toNat = 94 := fun e => hcc (.inl (UInt8.toNat_inj.1 e))
              simp; omega
            have h93 : ((c.toNat : Int) != 93) = true := by
              have : ¬ c.toNat = 93 := fun e => hcc (.inr (UInt8.toNat_inj.1 e))
              simp; omega
            clear hN2 hN5 hN hu hO hcc
            go_wp2
            go_ret2
            rw [HM.out]
            exact ⟨rfl, HB.out⟩
        · have hne : ((k : Int) + 1 == (s.size : Int)) = true := by simp; omega
          have HM := hideIt (show msgF s.data.toList = none from msg_open (by rw [← List.take_length (l := s.data.toList), hlen, show s.size = k + 1 by omega, hN5]))
          clear hN5 hN hu hO
          go_wp2
          go_ret2
          rw [HM.out]
          exact ⟨rfl, HB.out⟩
      · have h5b : ((b.toNat : Int) != 125) = true := by
          have : ¬ b.toNat = 125 := fun e => h5 (UInt8.toNat_inj.1 e)
          simp; omega
        have HN := hideIt (show unF (s.data.toList.take (k + 1)) = (1, out ++ [b]) by rw [hN]; simp [uStep, h5])
        have hone := one_at s k hlt
        rw [hb] at hone
        have hTs : ((txt [b]).size : Int) ≤ 2 := by rw [txt_size]; simp
        have HT := hideIt (show O ++ txt [b] = txt (out ++ [b]) by rw [← hO, txt_append])
        obtain ⟨T, hT⟩ : ∃ T, txt [b] = T := ⟨_, rfl⟩
        rw [hT] at hone hTs HT
        clear hN hu hO hT
        go_wp2
        go_roundw
        case rel => exact ⟨k + 1, _, by omega, by go_num, by rw [HT.out], HN.out, HB.out⟩
        case measure => simp [intOf]; omega
    · have e : k = s.size := by omega
      have hu2 : unF s.data.toList = (1, out) := by rw [← List.take_length (l := s.data.toList), hlen, ← e]; exact hu
      have hmsg := msg_end hu2
      have hOt : O.data.toList = out := by rw [← hO, txt_toList]
      clear hu hu2 hO
      by_cases h3 : out.length < 3
      · have HM := hideIt (show msgF s.data.toList = none by rw [hmsg, if_neg (by unfold okM; simp; omega)])
        have hp : (O.size : Int) - 2 < 1 := by have := HOS.out; omega
        clear hmsg hOt
        go_wp2
        go_quiet (fail)
        go_wp2
        go_ret2
        rw [HM.out]
        exact ⟨rfl, below_drewN HB.out _⟩
      · obtain ⟨n, hn⟩ : ∃ n, out.length = n + 2 := ⟨out.length - 2, by omega⟩
        have hOn : O.size = n + 2 := by have := HOS.out; omega
        have hn1 : (1 : Int) ≤ (n : Int) := by omega
        have hn1b : decide ((n : Int) < 1) = false := by simp; omega
        have hnb : (n : Int) ≤ 4000000000000 := by omega
        by_cases h82 : 82 < out.length
        · have HM := hideIt (show msgF s.data.toList = none by rw [hmsg, if_neg (by unfold okM; simp; omega)])
          have hp : (80 : Int) < (n : Int) := by omega
          clear hmsg hOt
          go_wp2
          go_quiet (fail)
          go_wp2
          go_ret2
          rw [HM.out]
          exact ⟨rfl, below_drewN HB.out _⟩
        · have hp : decide ((80 : Int) < (n : Int)) = false := by simp; omega
          have hX : (O.extract n (n + 2)).data.toList = out.drop n := by rw [← hOn, baE_drop, hOt]
          have hY : (O.extract 0 n).data.toList = out.take n := by rw [baE_take, hOt]
          obtain ⟨X, hXX⟩ : ∃ X, O.extract n (n + 2) = X := ⟨_, rfl⟩
          obtain ⟨Y, hYY⟩ : ∃ Y, O.extract 0 n = Y := ⟨_, rfl⟩
          rw [hXX] at hX
          rw [hYY] at hY
          have hYs : Y.size ≤ 4000000000000 := by rw [← hYY, ByteArray.size_extract]; omega
          have HC := hideIt (fun w' => rcheck_any Y w' hYs)
          rw [hY] at HC
          obtain ⟨c, hc⟩ : ∃ c, crcN (out.take n) = c := ⟨_, rfl⟩
          have hcl : c < 65536 := by rw [← hc]; exact crcN_lt _
          rw [hc] at HC
          obtain ⟨T, hT⟩ : ∃ T, txt [UInt8.ofNat (c / 256), UInt8.ofNat (c % 256)] = T := ⟨_, rfl⟩
          have HT := hideIt (fun w' => two_any c hcl w')
          rw [hT] at HT
          have hTl : T = txt (chkB (out.take n)) := by rw [← hT, ← hc]; rfl
          have hXT : X = T ↔ okM out = true := by
            have h1 : X = txt (out.drop n) := by rw [← hX, txt_ba]
            unfold okM
            rw [hn, show n + 2 - 2 = n by omega]
            simp only [Bool.and_eq_true, decide_eq_true_eq]
            constructor
            · intro h
              refine ⟨⟨by omega, by omega⟩, ?_⟩
              rw [← txt_toList (out.drop n), ← h1, h, hTl, txt_toList]
            · intro h
              rw [h1, h.2, hTl]
          have HYt := hideIt (show Y = txt (out.take n) by rw [← hY, txt_ba])
          have HOK := hideIt hXT
          clear hOt hX hY hc hT hTl hXT hYs
          by_cases hE : X = T
          · have HM := hideIt (show msgF s.data.toList = some (out.take n) by rw [hmsg, if_pos (HOK.out.1 hE), hn, show n + 2 - 2 = n by omega])
            subst hE
            clear hmsg
            go_wp2
            refine wp_region_grow (by kernel_rfl) (by kernel_rfl) ?_
            repeat (go_big_quiet_step ((first | (go_at_call 45; exact Calls.grow_of_same (HC.out _)) | (go_at_call 44; exact Calls.grow_of (HT.out _)))))
            refine wpQuiet_nil ?_
            intro w7 hw7
            obtain ⟨x, rfl⟩ := hw7
            go_wp2
            go_ret2
            rw [HM.out]
            exact ⟨by rw [HYt.out]; rfl, HB.out.trans (by have := x.2.mono (B' := w.heap.size) hsz; exact ⟨this.os, this.tape, this.output, this.size, this.block⟩)⟩
          · have HM := hideIt (show msgF s.data.toList = none by rw [hmsg, if_neg (fun h => hE (HOK.out.2 h))])
            have hEb : (X.toList == T.toList) = false := txt_neE X T hE
            clear hmsg
            go_wp2
            refine wp_region_grow (by kernel_rfl) (by kernel_rfl) ?_
            repeat (go_big_quiet_step ((first | (go_at_call 45; exact Calls.grow_of_same (HC.out _)) | (go_at_call 44; exact Calls.grow_of (HT.out _)))))
            refine wpQuiet_nil ?_
            intro w7 hw7
            obtain ⟨x, rfl⟩ := hw7
            go_wp2
            go_ret2
            rw [HM.out]
            exact ⟨rfl, HB.out.trans (by have := x.2.mono (B' := w.heap.size) hsz; exact ⟨this.os, this.tape, this.output, this.size, this.block⟩)⟩
end Go.Proofs.YthokdbcpkmcieaaGreat
namespace Go.Proofs.YthokdbcpkmcieaaGreat
open Go Go.RowKit
/-- The document's ear at block eb, from cell o on. -/
structure REarO (w : World) (eb o : Nat) (r : REar) : Prop where
  c0 : w.cell? ⟨eb, o, none⟩ = some (.bool r.on)
  c1 : w.cell? ⟨eb, o + 1, none⟩ = some (.string (txt r.s))
  fz : ∀ j, w.frozen? ⟨eb, j, none⟩ = false
  lt : eb < w.heap.size
theorem REarO.kept {w w' : World} {eb o : Nat} {r : REar} (h : REarO w eb o r) (e : w'.heap[eb]? = w.heap[eb]?) (hz : w.heap.size ≤ w'.heap.size) : REarO w' eb o r :=
  ⟨(World.cell?_of_block e).trans h.c0, (World.cell?_of_block e).trans h.c1, fun j => (World.frozen?_of_block e).trans (h.fz j), Nat.lt_of_lt_of_le h.lt hz⟩
theorem REarO.more {w : World} {eb o : Nat} {r : REar} (h : REarO w eb o r) (s' : List UInt8) : REarO (w.setCell ⟨eb, o + 1, none⟩ (.string (txt s'))) eb o ⟨r.on, s'⟩ :=
  ⟨by rw [World.cell?_setCell_other _ _ _ _ (by simp)]; exact h.c0, World.cell?_setCell_same _ _ _ h.c1, fun j => by simp [h.fz j], by simpa [World.setCell] using h.lt⟩
theorem REarO.reset {w : World} {eb o : Nat} {r : REar} (h : REarO w eb o r) : REarO ((w.setCell ⟨eb, o, none⟩ (.bool true)).setCell ⟨eb, o + 1, none⟩ (.string ⟨#[]⟩)) eb o ⟨true, []⟩ :=
  ⟨by rw [World.cell?_setCell_other _ _ _ _ (by simp)]; exact World.cell?_setCell_same _ _ _ h.c0, World.cell?_setCell_same _ _ _ (by rw [World.cell?_setCell_other _ _ _ _ (by simp)]; exact h.c1), fun j => by simp [h.fz j], by simpa [World.setCell] using h.lt⟩
theorem rHearF_count (r : REar) (l : List UInt8) : (rHearF r l).2.length ≤ l.length := by
  have key : ∀ (l : List UInt8) (p : REar × List (List UInt8)), (l.foldl rHearB p).2.length ≤ p.2.length + l.length := by
    intro l
    induction l with
    | nil => intro p; simp
    | cons b l ih =>
      intro p
      simp only [List.foldl_cons, List.length_cons]
      have h := ih (rHearB p b)
      have : (rHearB p b).2.length ≤ p.2.length + 1 := by
        unfold rHearB
        repeat' split
        all_goals simp
      omega
  have := key l (r, [])
  unfold rHearF
  simpa using this
theorem below_row {w w' : World} {base : Nat} {e : TypeId} {size n : Nat} {v : Value} {xs : List Value} (h : w.ownsRow base e size v n xs) (hb : Below w.heap.size w w') : w'.ownsRow base e size v n xs :=
  own_atE h (fun j hj => hb.block j (h.lt j hj).2)
theorem within_of_below {w w1 w2 : World} {eb o n : Nat} (h : Within w w1 eb o n) (hb : Below w1.heap.size w1 w2) (hl : eb < w1.heap.size) : Within w w2 eb o n :=
  h.trans (Within.below hb hl)
theorem rhear_stepO {w w1 wn : World} {eb o : Nat} {st : REar} {out : List (List UInt8)} {v v' : Value} {ob : Obj} {t' : List UInt8} (hE : REarO w1 eb o st) (hR : w1.ownsRow w.heap.size 9 1 v out.length (strs out)) (hG : Within w w1 eb o 2)
    (hown : wn.ownsRow w.heap.size 9 1 v' (out.length + 1) (strs out ++ [.string (txt t')])) (hgr : (w1.alloc ob).grownBy wn v.ownBlock) (hlt : eb < w.heap.size) :
    REarO wn eb o st ∧ wn.ownsRow w.heap.size 9 1 v' (out.length + 1) (strs out ++ [.string (txt t')]) ∧ Within w wn eb o 2 := by
  have hz := hG.grown.size
  have hz2 : w1.heap.size + 1 ≤ wn.heap.size := by have := hgr.size; simpa using this
  have key : ∀ k, k < w.heap.size → wn.heap[k]? = w1.heap[k]? := fun k hk => by
    rw [hgr.block k (by simp; omega) (fun e => by have := (hR.lt k e.symm).1; omega), Below.heap_alloc _ _ _ (by omega)]
  refine ⟨hE.kept (key eb hlt) (by omega), hown, ?_⟩
  exact ⟨⟨hgr.os.trans hG.grown.os, hgr.tape.trans hG.grown.tape, hgr.output.trans hG.grown.output, by omega, fun k hk hne => (key k hk).trans (hG.grown.block k hk hne)⟩, fun j hj => (World.cell?_of_block (a := ⟨eb, j, none⟩) (key eb hlt)).trans (hG.cells j hj), fun j => (World.frozen?_of_block (a := ⟨eb, j, none⟩) (key eb hlt)).trans (hG.fz j)⟩
set_option maxRecDepth 100000 in
set_option maxHeartbeats 4000000 in
theorem rhear_o (eb o : Nat) (s : REar) (bs : ByteArray) (w : World) (h : REarO w eb o s) (hbs : s.s.length + bs.size ≤ 4000000000000) :
    Calls Tryz.prog 79 #[.pointer (some ⟨eb, o, none⟩), .string bs] w fun e w' => ∃ v, e = .returned v ∧ REarO w' eb o (rHearF s bs.data.toList).1 ∧ w'.ownsRow w.heap.size 9 1 v (rHearF s bs.data.toList).2.length (strs (rHearF s bs.data.toList).2) ∧ Within w w' eb o 2 := by
  obtain ⟨i0, hi, hz0, hz1, hz2⟩ := info_of Tryz.infoStr
  have hltw := h.lt
  have hlen : bs.data.toList.length = bs.size := by rw [Array.length_toList]; rfl
  go_enter Tryz.func79, Tryz.ntmps79
  go_wp2_with fail
  go_loopw [5, 6] (fun v i wr => ∃ k : Nat, k ≤ bs.size ∧ i = .int .i64 k ∧ REarO wr eb o (rHearF s (bs.data.toList.take k)).1 ∧ wr.ownsRow w.heap.size 9 1 v (rHearF s (bs.data.toList.take k)).2.length (strs (rHearF s (bs.data.toList.take k)).2) ∧ Within w wr eb o 2) (fun _ i _ => bs.size - (intOf i).toNat)
  case atStart => exact ⟨0, Nat.zero_le _, rfl, h, World.ownsRow_nil _ _ _ _, Within.refl _ _ _ _⟩
  case round =>
    obtain ⟨k, hk, rfl, hE, hR, hG⟩ := hrel
    by_cases hlt : k < bs.size
    · have hN : rHearF s (bs.data.toList.take (k + 1)) = rHearB (rHearF s (bs.data.toList.take k)) bs[k] := by
        rw [take_succ _ k (by omega), rHearF_snoc, ba_get bs k hlt]
      have hcn := rHearF_count s (bs.data.toList.take k)
      have hsl := rHearF_len s (bs.data.toList.take k)
      rw [List.length_take] at hcn hsl
      obtain ⟨p, hp⟩ : ∃ p, rHearF s (bs.data.toList.take k) = p := ⟨_, rfl⟩
      rw [hp] at hE hR hN hcn hsl
      obtain ⟨st, out⟩ := p
      simp only at hE hR hcn hsl
      obtain ⟨b, hb⟩ : ∃ b, bs[k] = b := ⟨_, rfl⟩
      rw [hb] at hN
      obtain ⟨va, vm, vc, rfl⟩ := slice_ofR hR
      have hel := hE.lt
      clear hp h
      have hSs : (txt st.s).size = st.s.length := txt_size _
      by_cases h6 : b = 126
      · subst h6
        have HM := hideIt (fun w' => message_any (txt st.s) w' (by rw [hSs]; omega))
        rw [txt_toList] at HM
        obtain ⟨on, ss⟩ := st
        simp only at HM hN hE
        have HE := hideIt hE
        have HR := hideIt hR
        have HG := hideIt hG
        have c0 := hE.c0
        have c1 := hE.c1
        have hgz := hG.grown.size
        obtain ⟨S, hS⟩ : ∃ S, txt ss = S := ⟨_, rfl⟩
        simp only at c0 c1
        rw [hS] at HM c1
        cases hmm : msgF ss with
        | none =>
          rw [hmm] at HM
          have HN := hideIt (show rHearF s (bs.data.toList.take (k + 1)) = (⟨true, []⟩, out) by rw [hN]; unfold rHearB; rw [if_pos rfl]; simp only [hmm])
          clear hN hE hG hR hSs hsl hmm hS
          go_wp2_with fail
          refine (HM.out _).mono ?_
          rintro e w1 ⟨rfl, hB1⟩
          have hE1 : REarO w1 eb o ⟨on, ss⟩ := HE.out.kept (hB1.block eb HE.out.lt) hB1.size
          have HR1 := hideIt (below_row HR.out hB1)
          have HG1 := hideIt (within_of_below HG.out hB1 HE.out.lt)
          have d0 := hE1.c0
          have d1 := hE1.c1
          have f0 := hE1.fz o
          have f1 := hE1.fz (o + 1)
          have hel1 := hE1.lt
          have HE1 := hideIt hE1
          simp only at d0
          clear hE1 hB1 HE HR HG HM c0 c1
          cases on
          all_goals
            unfold msgR
            go_wp2
            go_roundw
            case rel =>
              refine ⟨k + 1, by omega, by go_num, ?_, ?_, ?_⟩
              · rw [HN.out]; exact HE1.out.reset
              · rw [HN.out]
                exact own_atE HR1.out (fun j hj => heap_reset _ _ _ (by have := (HR1.out.lt j hj).1; omega))
              · exact HG1.out.trans ((Within.set _ _ _ _ _ _ (by omega) (by omega)).trans (Within.set _ _ _ _ _ _ (by omega) (by omega)))
            case measure => simp [intOf]; omega
        | some m =>
          rw [hmm] at HM
          cases on
          · have HN := hideIt (show rHearF s (bs.data.toList.take (k + 1)) = (⟨true, []⟩, out) by rw [hN]; unfold rHearB; rw [if_pos rfl]; simp only [hmm]; rfl)
            clear hN hE hG hR hSs hsl hmm hS
            go_wp2_with fail
            refine (HM.out _).mono ?_
            rintro e w1 ⟨rfl, hB1⟩
            have hE1 : REarO w1 eb o ⟨false, ss⟩ := HE.out.kept (hB1.block eb HE.out.lt) hB1.size
            have HR1 := hideIt (below_row HR.out hB1)
            have HG1 := hideIt (within_of_below HG.out hB1 HE.out.lt)
            have d0 := hE1.c0
            have d1 := hE1.c1
            have f0 := hE1.fz o
            have f1 := hE1.fz (o + 1)
            have hel1 := hE1.lt
            have HE1 := hideIt hE1
            simp only at d0
            clear hE1 hB1 HE HR HG HM c0 c1
            unfold msgR
            go_wp2
            go_roundw
            case rel =>
              refine ⟨k + 1, by omega, by go_num, ?_, ?_, ?_⟩
              · rw [HN.out]; exact HE1.out.reset
              · rw [HN.out]
                exact own_atE HR1.out (fun j hj => heap_reset _ _ _ (by have := (HR1.out.lt j hj).1; omega))
              · exact HG1.out.trans ((Within.set _ _ _ _ _ _ (by omega) (by omega)).trans (Within.set _ _ _ _ _ _ (by omega) (by omega)))
            case measure => simp [intOf]; omega
          · have HN := hideIt (show rHearF s (bs.data.toList.take (k + 1)) = (⟨true, []⟩, out ++ [m]) by rw [hN]; unfold rHearB; rw [if_pos rfl]; simp only [hmm]; rfl)
            clear hN hE hG hR hSs hsl hmm hS
            go_wp2_with fail
            refine (HM.out _).mono ?_
            rintro e w1 ⟨rfl, hB1⟩
            have hE1 : REarO w1 eb o ⟨true, ss⟩ := HE.out.kept (hB1.block eb HE.out.lt) hB1.size
            have hR1 := below_row HR.out hB1
            have HR1 := hideIt hR1
            have HG1 := hideIt (within_of_below HG.out hB1 HE.out.lt)
            have hbase : w.heap.size ≤ w1.heap.size := Nat.le_trans hgz hB1.size
            have d0 := hE1.c0
            have d1 := hE1.c1
            have f0 := hE1.fz o
            have f1 := hE1.fz (o + 1)
            have hel1 := hE1.lt
            have HE1 := hideIt hE1
            simp only at d0
            clear hE1 hB1 HE HR HG HM c0 c1 hR1
            unfold msgR
            go_wp2_with (at_builtin; refine wpList_append_own_at _ rfl _ _ 40 rfl w.heap.size 9 i0 _ 1 16 Tryz.underlying40 hi hz0 hz1 hz2 rfl (by decide) _ out.length _ rfl (HR1.out.alloc _) ⟨w1.heap.size, 0, none⟩ 1 1 [.string (txt m)] rfl rfl (cell_one_new _ _ _) (by intro u hu; simp at hu; subst hu; rfl) (by unfold maxLen; omega) (by omega) (by rw [World.alloc_size]; omega) ?_; intro v' wn hown hgr _ hloc; obtain ⟨a', n', c', rfl⟩ := slice_ofR hown; have hst := rhear_stepO HE1.out HR1.out HG1.out hown hgr (by omega); have HS := hideIt hst; have fn0 := hst.1.fz o; have fn1 := hst.1.fz (o + 1); have cn0 := hst.1.c0; have cn1 := hst.1.c1; have hnl := hst.1.lt; clear hst hown hgr hloc d0 d1 f0 f1)
            go_roundw
            case rel =>
              refine ⟨k + 1, by omega, by go_num, ?_, ?_, ?_⟩
              · rw [HN.out]; exact HS.out.1.reset
              · rw [HN.out]
                simp only [List.length_append, List.length_cons, List.length_nil, strs, List.map_append, List.map_cons, List.map_nil]
                exact own_atE HS.out.2.1 (fun j hj => heap_reset _ _ _ (by have := (HS.out.2.1.lt j hj).1; omega))
              · exact HS.out.2.2.trans ((Within.set _ _ _ _ _ _ (by omega) (by omega)).trans (Within.set _ _ _ _ _ _ (by omega) (by omega)))
            case measure => simp [intOf]; omega
      · have hb6 : ((b.toNat : Int) != 126) = true := by
          have : ¬ b.toNat = 126 := fun e => h6 (UInt8.toNat_inj.1 e)
          simp; omega
        have HN := hideIt (show rHearF s (bs.data.toList.take (k + 1)) = (⟨st.on, st.s ++ [b]⟩, out) by rw [hN]; unfold rHearB; rw [if_neg h6])
        have hone := one_at bs k hlt
        rw [hb] at hone
        obtain ⟨S, hS⟩ : ∃ S, txt st.s = S := ⟨_, rfl⟩
        have hSi : (S.size : Int) ≤ 4000000000000 := by rw [← hS, hSs]; omega
        have HT := hideIt (show S ++ txt [b] = txt (st.s ++ [b]) by rw [← hS, txt_append])
        have hTs : ((txt [b]).size : Int) ≤ 2 := by rw [txt_size]; simp
        obtain ⟨T, hT⟩ : ∃ T, txt [b] = T := ⟨_, rfl⟩
        rw [hT] at hone hTs HT
        have c1 := hE.c1
        rw [hS] at c1
        have f1 := hE.fz (o + 1)
        have HE := hideIt hE
        have HR := hideIt hR
        have HG := hideIt hG
        have hcat1 : (k : Int) + 1 ≤ (bs.size : Int) := by omega
        clear hN hE hR hG hS hT hSs hsl hcn h6
        go_wp2
        go_region
        all_goals
          go_wp2
          go_roundw
          case rel =>
            refine ⟨k + 1, by omega, by go_num, ?_, ?_, ?_⟩
            · rw [HN.out, HT.out]; exact (HE.out.more _).kept rfl (Nat.le_refl _)
            · rw [HN.out]
              exact own_atE HR.out (fun j hj => Below.heap_setCell _ _ _ _ (by have := (HR.out.lt j hj).1; simp; omega))
            · exact (HG.out.trans (Within.set _ _ _ _ _ _ (by omega) (by omega))).drew
          case measure => simp [intOf]; omega
    · have hkk : k = bs.size := by omega
      rw [hkk, ← hlen, List.take_length] at hE hR
      have HQ := hideIt (And.intro hE (And.intro hR hG))
      obtain ⟨va, vm, vc, rfl⟩ := slice_ofR hR
      clear hE hR hG
      go_wp2
      go_ret
      exact ⟨_, rfl, HQ.out.1, HQ.out.2.1, HQ.out.2.2⟩
end Go.Proofs.YthokdbcpkmcieaaGreat
