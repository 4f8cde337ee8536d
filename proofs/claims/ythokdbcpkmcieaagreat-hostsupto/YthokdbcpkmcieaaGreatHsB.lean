/- The program's host: what it takes; State, Say, Tick, CutPrefix, answerTo. -/
import Derived.Test.YthokdbcpkmcieaaGreatHsA
namespace Go.Proofs.YthokdbcpkmcieaaGreat
open Go Go.RowKit
attribute [local go_sem ↓] Go.wp_at_zero Go.wp_at_succ
/-- An answer's own box. -/
theorem ans_cells (w : World) (y : Bool) (S : ByteArray) : ∃ W, w.alloc (.cells #[.bool y, .string S] 142) = W ∧ Below w.heap.size w W ∧ W.cell? ⟨w.heap.size, 0, none⟩ = some (.bool y) ∧ W.cell? ⟨w.heap.size, 1, none⟩ = some (.string S) := by
  refine ⟨_, rfl, (Below.refl _ _).alloc (Nat.le_refl _) _, ?_, ?_⟩
  all_goals
    rw [cell_of_row _ _ _ _ _ (0, 0) (heap_alloc_new w _)]
    rfl
set_option maxRecDepth 100000 in
set_option maxHeartbeats 2000000 in
theorem htakeOpen_any (hb lb : Nat) (h : Hst) (y : Bool) (bs : List UInt8) (w : World) (m : HstM w hb lb h) (k : HB h) (ht : h.take = 1) :
    Calls Tryz.prog 53 #[.pointer (some ⟨hb, 0, none⟩), .agg #[.bool y, .string (txt bs)]] w fun e w' => e = .returned (.tuple #[]) ∧ HstM w' hb lb (takesH h y bs) ∧ w.grownBy w' (some hb) := by
  obtain ⟨W, hW, hB, k0, k1⟩ := ans_cells w y (txt bs)
  have hm := m.below hB
  have hg : takesH h y bs = if y = true then nextH h 4 [] 2 else endH h 2 := by unfold takesH; rw [if_pos ht]
  rw [hg]
  obtain ⟨S, hS⟩ : ∃ S, txt bs = S := ⟨_, rfl⟩
  rw [hS] at hW k1 ⊢
  have HB := hideIt hB
  cases y
  · have HE := hideIt (hend_any hb lb h 2 W hm)
    have e1 : ((2 : Nat) : Int) = 2 := rfl
    rw [e1] at HE
    clear m hm hB hg hS e1
    go_enter Tryz.func53, Tryz.ntmps53
    go_wp2_with fail
    refine HE.out.mono ?_
    rintro e w1 ⟨rfl, h1, h2⟩
    have HZ := hideIt (And.intro h1 ((below_to_grown HB.out (some hb)).trans h2))
    clear h1 h2
    go_wp2
    (try simp only [Exit.inBlock, Exit.then])
    refine bodyPost_ret (results_none rfl _ _ _) rfl ?_
    exact ⟨rfl, HZ.out.1, HZ.out.2⟩
  · have HE := hideIt (hnext_any hb lb h 4 [] 2 W hm k.ses k.long (by simp) (by omega))
    have hV : takeV hb 2 = .func (.func 78) #[.pointer (some ⟨hb, 0, none⟩)] #[] := rfl
    have e4 : ((4 : UInt8).toNat : Int) = 4 := rfl
    have e5 : txt [] = (⟨#[]⟩ : ByteArray) := rfl
    rw [hV, e4, e5] at HE
    clear m hm hB hg hS hV e4 e5
    go_enter Tryz.func53, Tryz.ntmps53
    go_wp2_with fail
    refine HE.out.mono ?_
    rintro e w1 ⟨rfl, h1, h2⟩
    have HZ := hideIt (And.intro h1 ((below_to_grown HB.out (some hb)).trans h2))
    clear h1 h2
    go_wp2
    go_end0
    exact ⟨rfl, HZ.out.1, HZ.out.2⟩
set_option maxRecDepth 100000 in
set_option maxHeartbeats 2000000 in
theorem htakePage_any (hb lb : Nat) (h : Hst) (y : Bool) (bs : List UInt8) (w : World) (m : HstM w hb lb h) (k : HB h) (ht : h.take = 3) (hl : 0 < h.left.length) :
    Calls Tryz.prog 129 #[.pointer (some ⟨hb, 0, none⟩), .agg #[.bool y, .string (txt bs)]] w fun e w' => e = .returned (.tuple #[]) ∧ HstM w' hb lb (takesH h y bs) ∧ w.grownBy w' (some hb) := by
  obtain ⟨W, hW, hB, k0, k1⟩ := ans_cells w y (txt bs)
  have hm := m.below hB
  have hg : takesH h y bs = if y = true then askReadH h 5 else endH h 2 := by unfold takesH; rw [if_neg (by omega), if_neg (by omega), if_pos ht]
  rw [hg]
  obtain ⟨S, hS⟩ : ∃ S, txt bs = S := ⟨_, rfl⟩
  rw [hS] at hW k1 ⊢
  have HB := hideIt hB
  cases y
  · have HE := hideIt (hend_any hb lb h 2 W hm)
    have e1 : ((2 : Nat) : Int) = 2 := rfl
    rw [e1] at HE
    clear m hm hB hg hS e1
    go_enter Tryz.func129, Tryz.ntmps129
    go_wp2_with fail
    refine HE.out.mono ?_
    rintro e w1 ⟨rfl, h1, h2⟩
    have HZ := hideIt (And.intro h1 ((below_to_grown HB.out (some hb)).trans h2))
    clear h1 h2
    go_wp2
    (try simp only [Exit.inBlock, Exit.then])
    refine bodyPost_ret (results_none rfl _ _ _) rfl ?_
    exact ⟨rfl, HZ.out.1, HZ.out.2⟩
  · have HE := hideIt (haskRead_any hb lb h 5 W hm k hl (by omega))
    have hV : takeV hb 5 = .func (.func 138) #[.pointer (some ⟨hb, 0, none⟩)] #[] := rfl
    rw [hV] at HE
    clear m hm hB hg hS hV
    go_enter Tryz.func129, Tryz.ntmps129
    go_wp2_with fail
    refine HE.out.mono ?_
    rintro e w1 ⟨rfl, h1, h2⟩
    have HZ := hideIt (And.intro h1 ((below_to_grown HB.out (some hb)).trans h2))
    clear h1 h2
    go_wp2
    go_end0
    exact ⟨rfl, HZ.out.1, HZ.out.2⟩
theorem LeftAt.tail {w : World} {lb off cap : Nat} {l : List Pg} (h : LeftAt w lb (.slice (some ⟨lb, off, none⟩) l.length cap) l) (a : Option Addr) (ha : 1 < l.length → a = some ⟨lb, off + 2, none⟩) (hl : 0 < l.length) : LeftAt w lb (.slice a (l.length - 1) (cap - 1)) (l.drop 1) := by
  obtain ⟨a0, cap0, he, h2, h3, h4⟩ := h.is
  cases he
  obtain ⟨off0, he, h5⟩ := h4 hl
  cases he
  refine ⟨a, cap - 1, by rw [List.length_drop], by rw [List.length_drop]; omega, by omega, fun hp => ?_⟩
  rw [List.length_drop] at hp
  refine ⟨off + 2, ha (by omega), fun i hi => ?_⟩
  rw [List.length_drop] at hi
  obtain ⟨k1, k2⟩ := h5 (i + 1) (by omega)
  rw [List.getElem_drop, show off + 2 + i * 2 = off + (i + 1) * 2 by omega]
  have e : (1 + i) = i + 1 := by omega
  simp only [e]
  exact ⟨k1, k2⟩
set_option maxRecDepth 100000 in
set_option maxHeartbeats 2000000 in
theorem hendPage_any (hb lb : Nat) (h : Hst) (w : World) (m : HstM w hb lb h) (k : HB h) (hl : 0 < h.left.length) :
    Calls Tryz.prog 128 #[.pointer (some ⟨hb, 0, none⟩)] w fun e w' => e = .returned (.tuple #[]) ∧ HstM w' hb lb (endPageH h) ∧ w.grownBy w' (some hb) := by
  obtain ⟨off, cap, c2, hc1, hc2, k0, k1⟩ := m.first hl
  obtain ⟨v, v1, v2⟩ := m.c2
  have hv : v = .slice (some ⟨lb, off, none⟩) h.left.length cap := Option.some.inj (v1.symm.trans c2)
  rw [hv] at v2
  have HK : Hid (HB ⟨h.state, h.ses, h.left.drop 1, h.burnt, h.ear, h.asked, h.take, h.said, h.tries, h.ticks⟩) := ⟨k.ses, k.burnt, k.st, fun p hp => k.pages p (List.mem_of_mem_drop hp), k.long, k.tries, k.ticks, by have := k.few; show (h.left.drop 1).length ≤ 16; rw [List.length_drop]; omega⟩
  have f2 := m.fz 2
  have HT := hideIt (fun a ha => v2.tail a ha hl)
  have HS := hideIt (fun (x : List Pg) (u : Value) (hu : LeftAt w lb u x) => m.setLeft x u hu)
  have HG := hideIt (fun w' (m' : HstM w' hb lb ⟨h.state, h.ses, h.left.drop 1, h.burnt, h.ear, h.asked, h.take, h.said, h.tries, h.ticks⟩) => hgoOn_any hb lb _ w' m' HK.out)
  obtain ⟨L, hL⟩ : ∃ L, h.left.length = L := ⟨_, rfl⟩
  rw [hL] at c2 hl hc1 HT
  have hLi : (1 : Int) ≤ (L : Int) := by omega
  have hci : (L : Int) ≤ (cap : Int) := by omega
  have hcj : (cap : Int) ≤ 9223372036854775807 := by omega
  clear m k hL v1 v2 hv k0 k1
  by_cases hcap : cap = 1
  · have hL1 : L = 1 := by omega
    subst hcap
    subst hL1
    have HM := hideIt (HS.out _ _ (HT.out (some ⟨lb, off, none⟩) (fun e => absurd e (by omega))))
    go_enter Tryz.func128, Tryz.ntmps128
    go_wp2_with fail
    refine (HG.out _ HM.out).mono ?_
    rintro e w1 ⟨rfl, h1, h2⟩
    have HZ := hideIt (And.intro h1 ((setg w hb 2 _).trans h2))
    clear h1 h2
    go_wp2
    go_end0
    exact ⟨rfl, HZ.out.1, HZ.out.2⟩
  · have HM := hideIt (HS.out _ _ (HT.out (some ⟨lb, off + 2, none⟩) (fun _ => rfl)))
    go_enter Tryz.func128, Tryz.ntmps128
    go_wp2_with fail
    refine (HG.out _ HM.out).mono ?_
    rintro e w1 ⟨rfl, h1, h2⟩
    have HZ := hideIt (And.intro h1 ((setg w hb 2 _).trans h2))
    clear h1 h2
    go_wp2
    go_end0
    exact ⟨rfl, HZ.out.1, HZ.out.2⟩
end Go.Proofs.YthokdbcpkmcieaaGreat
namespace Go.Proofs.YthokdbcpkmcieaaGreat
open Go Go.RowKit
attribute [local go_sem ↓] Go.wp_at_zero Go.wp_at_succ
theorem or_two (x z : UInt8) : bits .or .u16 ((x.toNat : Int) * 256) (z.toNat : Int) = ((x.toNat * 256 + z.toNat : Nat) : Int) := by
  have hx := x.toNat_lt
  have hz := z.toNat_lt
  have e : (x.toNat : Int) * 256 = ((x.toNat * 256 : Nat) : Int) := by omega
  rw [e]
  have h1 : (BitVec.ofInt 16 ((x.toNat * 256 : Nat) : Int)).toNat = x.toNat * 256 := by
    rw [BitVec.ofInt_natCast, BitVec.toNat_ofNat]; exact Nat.mod_eq_of_lt (by omega)
  have h2 : (BitVec.ofInt 16 (z.toNat : Int)).toNat = z.toNat := by
    rw [BitVec.ofInt_natCast, BitVec.toNat_ofNat]; exact Nat.mod_eq_of_lt (by omega)
  show IntKind.u16.wrap ((BitVec.ofInt 16 ((x.toNat * 256 : Nat) : Int) ||| BitVec.ofInt 16 (z.toNat : Int)).toNat : Int) = _
  rw [BitVec.toNat_or, h1, h2, IntKind.wrap_u16]
  have := Nat.two_pow_add_eq_or_of_lt (i := 8) hz x.toNat
  rw [Nat.mul_comm x.toNat 256, show (256 : Nat) = 2 ^ 8 from rfl, ← this]
  omega
set_option maxRecDepth 100000 in
set_option maxHeartbeats 4000000 in
theorem htakeFound_any (hb lb : Nat) (h : Hst) (y : Bool) (bs : List UInt8) (w : World) (m : HstM w hb lb h) (k : HB h) (ht : h.take = 4) (hl : 0 < h.left.length) :
    Calls Tryz.prog 114 #[.pointer (some ⟨hb, 0, none⟩), .agg #[.bool y, .string (txt bs)]] w fun e w' => e = .returned (.tuple #[]) ∧ HstM w' hb lb (takesH h y bs) ∧ w.grownBy w' (some hb) := by
  obtain ⟨W, hW, hB, a0, a1⟩ := ans_cells w y (txt bs)
  have hm := m.below hB
  have hg : takesH h y bs = if y = true ∧ bs = (firstH h).bs then endPageH h else askPageH h := by unfold takesH; rw [if_neg (by omega), if_neg (by omega), if_neg (by omega), if_pos ht]
  rw [hg]
  obtain ⟨off, cap, c2, hc1, hc2, k0, k1⟩ := hm.first hl
  have HI := hideIt (fun w' => hisRead_any (firstH h).n (firstH h).bs y bs w')
  obtain ⟨S, hS⟩ : ∃ S, txt bs = S := ⟨_, rfl⟩
  rw [hS] at hW a1 HI ⊢
  obtain ⟨N, hN⟩ : ∃ N, (firstH h).n.toNat = N := ⟨_, rfl⟩
  obtain ⟨U, hU⟩ : ∃ U, txt (firstH h).bs = U := ⟨_, rfl⟩
  rw [hN] at HI k0
  rw [hU] at HI k1
  obtain ⟨L, hL⟩ : ∃ L, h.left.length = L := ⟨_, rfl⟩
  rw [hL] at c2 hc1
  have hLi : (0 : Int) < (L : Int) := by omega
  have HM := hideIt hm
  have HBW := hideIt hB
  have HEP := hideIt (fun w' (m' : HstM w' hb lb h) => hendPage_any hb lb h w' m' k hl)
  have HAP := hideIt (fun w' (m' : HstM w' hb lb h) => haskPage_any hb lb h w' m' k hl)
  by_cases hc : y = true ∧ bs = (firstH h).bs
  · rw [if_pos hc]
    rw [decide_eq_true hc] at HI
    clear m hm hB hg hS hN hU hL hc
    go_enter Tryz.func114, Tryz.ntmps114
    go_wp2_with fail
    go_region_with (go_at_call 127; refine (HI.out _).mono ?_; rintro e wx ⟨rfl, hBx⟩)
    all_goals
      have hBx' : Below W.heap.size W wx := ⟨hBx.os, hBx.tape, hBx.output, hBx.size, hBx.block⟩
      have HBX := hideIt hBx'
      clear hBx hBx'
      go_wp2_with fail
      refine (HEP.out _ (HM.out.below HBX.out)).mono ?_
      rintro e w2 ⟨rfl, h1, h2⟩
      have HZ := hideIt (And.intro h1 ((below_to_grown HBW.out (some hb)).trans ((below_to_grown HBX.out (some hb)).trans h2)))
      clear h1 h2
      go_wp2
      go_end0
      exact ⟨rfl, HZ.out.1, HZ.out.2⟩
  · rw [if_neg hc]
    rw [decide_eq_false hc] at HI
    clear m hm hB hg hS hN hU hL hc
    go_enter Tryz.func114, Tryz.ntmps114
    go_wp2_with fail
    go_region_with (go_at_call 127; refine (HI.out _).mono ?_; rintro e wx ⟨rfl, hBx⟩)
    all_goals
      have hBx' : Below W.heap.size W wx := ⟨hBx.os, hBx.tape, hBx.output, hBx.size, hBx.block⟩
      have HBX := hideIt hBx'
      clear hBx hBx'
      go_wp2_with fail
      refine (HAP.out _ (HM.out.below HBX.out)).mono ?_
      rintro e w2 ⟨rfl, h1, h2⟩
      have HZ := hideIt (And.intro h1 ((below_to_grown HBW.out (some hb)).trans ((below_to_grown HBX.out (some hb)).trans h2)))
      clear h1 h2
      go_wp2
      (try simp only [Exit.inBlock, Exit.then])
      refine bodyPost_ret (results_none rfl _ _ _) rfl ?_
      exact ⟨rfl, HZ.out.1, HZ.out.2⟩
set_option maxRecDepth 100000 in
set_option maxHeartbeats 4000000 in
theorem htakeBurnt_any (hb lb : Nat) (h : Hst) (y : Bool) (bs : List UInt8) (w : World) (m : HstM w hb lb h) (k : HB h) (ht : h.take = 5) (hl : 0 < h.left.length) :
    Calls Tryz.prog 138 #[.pointer (some ⟨hb, 0, none⟩), .agg #[.bool y, .string (txt bs)]] w fun e w' => e = .returned (.tuple #[]) ∧ HstM w' hb lb (takesH h y bs) ∧ w.grownBy w' (some hb) := by
  obtain ⟨W, hW, hB, a0, a1⟩ := ans_cells w y (txt bs)
  have hm := m.below hB
  have hg : takesH h y bs = if y = true ∧ bs = (firstH h).bs then endPageH h else endH h 2 := by unfold takesH; rw [if_neg (by omega), if_neg (by omega), if_neg (by omega), if_neg (by omega)]
  rw [hg]
  obtain ⟨off, cap, c2, hc1, hc2, k0, k1⟩ := hm.first hl
  have HI := hideIt (fun w' => hisRead_any (firstH h).n (firstH h).bs y bs w')
  obtain ⟨S, hS⟩ : ∃ S, txt bs = S := ⟨_, rfl⟩
  rw [hS] at hW a1 HI ⊢
  obtain ⟨N, hN⟩ : ∃ N, (firstH h).n.toNat = N := ⟨_, rfl⟩
  obtain ⟨U, hU⟩ : ∃ U, txt (firstH h).bs = U := ⟨_, rfl⟩
  rw [hN] at HI k0
  rw [hU] at HI k1
  obtain ⟨L, hL⟩ : ∃ L, h.left.length = L := ⟨_, rfl⟩
  rw [hL] at c2 hc1
  have hLi : (0 : Int) < (L : Int) := by omega
  have HM := hideIt hm
  have HBW := hideIt hB
  have HEP := hideIt (fun w' (m' : HstM w' hb lb h) => hendPage_any hb lb h w' m' k hl)
  have HEN := hideIt (fun w' (m' : HstM w' hb lb h) => hend_any hb lb h 2 w' m')
  have e2 : ((2 : Nat) : Int) = 2 := rfl
  rw [e2] at HEN
  by_cases hc : y = true ∧ bs = (firstH h).bs
  · rw [if_pos hc]
    rw [decide_eq_true hc] at HI
    clear m hm hB hg hS hN hU hL hc e2
    go_enter Tryz.func138, Tryz.ntmps138
    go_wp2_with fail
    go_region_with (go_at_call 127; refine (HI.out _).mono ?_; rintro e wx ⟨rfl, hBx⟩)
    all_goals
      have hBx' : Below W.heap.size W wx := ⟨hBx.os, hBx.tape, hBx.output, hBx.size, hBx.block⟩
      have HBX := hideIt hBx'
      clear hBx hBx'
      go_wp2_with fail
      refine (HEP.out _ (HM.out.below HBX.out)).mono ?_
      rintro e w2 ⟨rfl, h1, h2⟩
      have HZ := hideIt (And.intro h1 ((below_to_grown HBW.out (some hb)).trans ((below_to_grown HBX.out (some hb)).trans h2)))
      clear h1 h2
      go_wp2
      go_end0
      exact ⟨rfl, HZ.out.1, HZ.out.2⟩
  · rw [if_neg hc]
    rw [decide_eq_false hc] at HI
    clear m hm hB hg hS hN hU hL hc e2
    go_enter Tryz.func138, Tryz.ntmps138
    go_wp2_with fail
    go_region_with (go_at_call 127; refine (HI.out _).mono ?_; rintro e wx ⟨rfl, hBx⟩)
    all_goals
      have hBx' : Below W.heap.size W wx := ⟨hBx.os, hBx.tape, hBx.output, hBx.size, hBx.block⟩
      have HBX := hideIt hBx'
      clear hBx hBx'
      go_wp2_with fail
      refine (HEN.out _ (HM.out.below HBX.out)).mono ?_
      rintro e w2 ⟨rfl, h1, h2⟩
      have HZ := hideIt (And.intro h1 ((below_to_grown HBW.out (some hb)).trans ((below_to_grown HBX.out (some hb)).trans h2)))
      clear h1 h2
      go_wp2
      (try simp only [Exit.inBlock, Exit.then])
      refine bodyPost_ret (results_none rfl _ _ _) rfl ?_
      exact ⟨rfl, HZ.out.1, HZ.out.2⟩
set_option maxRecDepth 100000 in
set_option maxHeartbeats 4000000 in
theorem htakeState_any (hb lb : Nat) (h : Hst) (y : Bool) (bs : List UInt8) (w : World) (m : HstM w hb lb h) (k : HB h) (ht : h.take = 2) (hy : y = true → bs.length = 2) :
    Calls Tryz.prog 78 #[.pointer (some ⟨hb, 0, none⟩), .agg #[.bool y, .string (txt bs)]] w fun e w' => e = .returned (.tuple #[]) ∧ HstM w' hb lb (takesH h y bs) ∧ w.grownBy w' (some hb) := by
  obtain ⟨W, hW, hB, a0, a1⟩ := ans_cells w y (txt bs)
  have hm := m.below hB
  have hg : takesH h y bs = if y = true then goOnH (setBurntH h ((bs.getD 0 0).toNat * 256 + (bs.getD 1 0).toNat)) else endH h 2 := by unfold takesH; rw [if_neg (by omega), if_pos ht]
  rw [hg]
  obtain ⟨S, hS⟩ : ∃ S, txt bs = S := ⟨_, rfl⟩
  have hsz : S.size = bs.length := by rw [← hS, txt_size]
  have HBW := hideIt hB
  cases y
  · rw [hS] at hW a1 ⊢
    have HE := hideIt (hend_any hb lb h 2 W hm)
    have e1 : ((2 : Nat) : Int) = 2 := rfl
    rw [e1] at HE
    clear m hm hB hg hS e1 hsz hy
    go_enter Tryz.func78, Tryz.ntmps78
    go_wp2_with fail
    refine HE.out.mono ?_
    rintro e w1 ⟨rfl, h1, h2⟩
    have HZ := hideIt (And.intro h1 ((below_to_grown HBW.out (some hb)).trans h2))
    clear h1 h2
    go_wp2
    (try simp only [Exit.inBlock, Exit.then])
    refine bodyPost_ret (results_none rfl _ _ _) rfl ?_
    exact ⟨rfl, HZ.out.1, HZ.out.2⟩
  · have hl2 := hy rfl
    have h0S : 0 < S.size := by omega
    have h1S : 1 < S.size := by omega
    obtain ⟨x, hx0⟩ : ∃ x, bs.getD 0 0 = x := ⟨_, rfl⟩
    obtain ⟨z, hx1⟩ : ∃ z, bs.getD 1 0 = z := ⟨_, rfl⟩
    have hS0 : S[0] = x := (txt_at hS h0S).trans hx0
    have hS1 : S[1] = z := (txt_at hS h1S).trans hx1
    rw [hS] at hW a1 ⊢
    rw [hx0, hx1]
    have hxl := x.toNat_lt
    have hzl := z.toNat_lt
    have c3 := hm.c3
    have f3 := hm.fz 3
    have hor := or_two x z
    have HM3 := hideIt (hm.setBurnt (x.toNat * 256 + z.toNat))
    have HG := hideIt (fun w' (m' : HstM w' hb lb (setBurntH h (x.toNat * 256 + z.toNat))) => hgoOn_any hb lb _ w' m' (show HB (setBurntH h (x.toNat * 256 + z.toNat)) from ⟨k.ses, by show x.toNat * 256 + z.toNat < 65536; omega, k.st, k.pages, k.long, k.tries, k.ticks, k.few⟩))
    have HSG := hideIt (setg W hb 3 (.int .u16 ((x.toNat * 256 + z.toNat : Nat) : Int)))
    obtain ⟨Q, hQ⟩ : ∃ Q : Int, ((x.toNat * 256 + z.toNat : Nat) : Int) = Q := ⟨_, rfl⟩
    rw [hQ] at hor HM3 HSG
    clear m hm hB hg hS hsz hy hx0 hx1 hQ
    go_enter Tryz.func78, Tryz.ntmps78
    go_wp2_with fail
    go_region
    all_goals
      go_wp2_with fail
      refine (HG.out (W.setCell ⟨hb, 3, none⟩ (.int .u16 Q)).drew (HM3.out.kept rfl rfl (Nat.le_refl _))).mono ?_
      rintro e w1 ⟨rfl, h1, h2⟩
      have HZ := hideIt (And.intro h1 ((below_to_grown HBW.out (some hb)).trans (HSG.out.trans (⟨h2.os, h2.tape, h2.output, h2.size, h2.block⟩))))
      clear h1 h2
      go_wp2
      go_end0
      exact ⟨rfl, HZ.out.1, HZ.out.2⟩
end Go.Proofs.YthokdbcpkmcieaaGreat
namespace Go.Proofs.YthokdbcpkmcieaaGreat
open Go Go.RowKit
attribute [local go_sem ↓] Go.wp_at_zero Go.wp_at_succ
theorem fn_eq_some (f : FuncId) (a b : Array Value) (w : World) : (binOp BinOp.eql 91 (.func (.func f) a b) .nilFunc).run Tryz.prog w = .ok (.bool false) w := by
  have h : (Op.equal 91 (.func (.func f) a b) .nilFunc).run Tryz.prog w = .ok false w := by
    unfold Op.equal Op.maxDepth
    rw [show (10000 : Nat) = 9999 + 1 from rfl, Op.equalIn]
    simp only [Sem.run_bind, run_underlying Tryz.underlying91, Result.andThen_ok]
    rfl
  simp [binOp, go_sem, h]
theorem fn_eq_nil (w : World) : (binOp BinOp.eql 91 .nilFunc .nilFunc).run Tryz.prog w = .ok (.bool true) w := by
  have h : (Op.equal 91 .nilFunc .nilFunc).run Tryz.prog w = .ok true w := by
    unfold Op.equal Op.maxDepth
    rw [show (10000 : Nat) = 9999 + 1 from rfl, Op.equalIn]
    simp only [Sem.run_bind, run_underlying Tryz.underlying91, Result.andThen_ok]
    rfl
  simp [binOp, go_sem, h]
theorem hstate_any (hb lb : Nat) (h : Hst) (w : World) (m : HstM w hb lb h) : Calls Tryz.prog 66 #[.pointer (some ⟨hb, 0, none⟩)] w fun e w' => e = .returned (.int .i64 (h.state : Int)) ∧ w' = w := by
  have c0 := m.c0
  clear m
  go_enter Tryz.func66, Tryz.ntmps66
  go_wp2
  go_ret
  exact ⟨rfl, rfl⟩
set_option maxRecDepth 100000 in
set_option maxHeartbeats 2000000 in
theorem hfetch_any (hb lb : Nat) (h : Hst) (w : World) (m : HstM w hb lb h) (k : HB h) : Calls Tryz.prog 85 #[.pointer (some ⟨hb, 0, none⟩)] w fun e w' => e = .returned (.string (txt (sayH h).2)) ∧ HstM w' hb lb (sayH h).1 ∧ w.grownBy w' (some hb) := by
  have c89 := m.c89
  have c90 := m.c90
  have hq0 := fn_eq_nil
  have hq1 := fn_eq_some
  by_cases h0 : h.take = 0
  · have e : sayH h = (h, []) := by unfold sayH; rw [if_pos (.inl h0)]
    rw [e]
    rw [h0] at c89
    replace c89 : w.cell? ⟨hb, 89, none⟩ = some .nilFunc := c89
    have HM := hideIt m
    clear m e h0
    go_enter Tryz.func85, Tryz.ntmps85
    go_wp2
    go_ret
    exact ⟨rfl, HM.out, grown_refl _ _⟩
  · obtain ⟨V, hV⟩ := takeV_func hb h.take (by omega)
    rw [hV] at c89
    cases hs : h.said
    · have e : sayH h = (⟨h.state, h.ses, h.left, h.burnt, h.ear, h.asked, h.take, true, h.tries, h.ticks⟩, frameF h.asked) := by unfold sayH; rw [if_neg (by rw [hs]; simp [h0])]
      rw [e]
      rw [hs] at c90
      have c88 := m.c88
      have f90 := m.fz 90
      have HF := hideIt (fun w' => frame_any (txt h.asked) w' (by rw [txt_size]; have := k.long; omega) (by rw [txt_size]; have := k.long; omega))
      have HM := hideIt (And.intro (m.setSaid true) (setg w hb 90 (.bool true)))
      rw [txt_toList] at HF
      obtain ⟨S, hS⟩ : ∃ S, txt h.asked = S := ⟨_, rfl⟩
      obtain ⟨F, hF⟩ : ∃ F, txt (frameF h.asked) = F := ⟨_, rfl⟩
      rw [hS] at HF c88
      rw [hF] at HF ⊢
      clear m k e hS hF hV h0
      go_enter Tryz.func85, Tryz.ntmps85
      go_wp2_with fail
      refine (HF.out _).mono ?_
      rintro e w1 ⟨rfl, hB1⟩
      have HZ := hideIt (And.intro (HM.out.1.below hB1) (HM.out.2.trans (below_to_grown hB1 (some hb))))
      clear hB1
      go_wp2
      go_ret
      exact ⟨rfl, HZ.out.1, HZ.out.2⟩
    · have e : sayH h = (h, []) := by unfold sayH; rw [if_pos (.inr hs)]
      rw [e]
      rw [hs] at c90
      have HM := hideIt m
      clear m k e hV h0
      go_enter Tryz.func85, Tryz.ntmps85
      go_wp2
      go_ret
      exact ⟨rfl, HM.out, grown_refl _ _⟩
set_option maxRecDepth 100000 in
set_option maxHeartbeats 2000000 in
theorem htick_any (hb lb : Nat) (h : Hst) (w : World) (m : HstM w hb lb h) (k : HB h) : Calls Tryz.prog 65 #[.pointer (some ⟨hb, 0, none⟩)] w fun e w' => e = .returned (.tuple #[]) ∧ HstM w' hb lb (tickH h) ∧ w.grownBy w' (some hb) := by
  have c89 := m.c89
  have hq0 := fn_eq_nil
  have hq1 := fn_eq_some
  by_cases h0 : h.take = 0
  · have e : tickH h = h := by unfold tickH; rw [if_pos h0]
    rw [e]
    rw [h0] at c89
    replace c89 : w.cell? ⟨hb, 89, none⟩ = some .nilFunc := c89
    have HM := hideIt m
    clear m e h0
    go_enter Tryz.func65, Tryz.ntmps65
    go_wp2
    (try simp only [Exit.inBlock, Exit.then])
    refine bodyPost_ret (results_none rfl _ _ _) rfl ?_
    exact ⟨rfl, HM.out, grown_refl _ _⟩
  · obtain ⟨V, hV⟩ := takeV_func hb h.take (by omega)
    rw [hV] at c89
    have c91 := m.c91
    have c92 := m.c92
    have f92 := m.fz 92
    have e1 : ((h.ticks + 1 : Nat) : Int) = (h.ticks : Int) + 1 := by omega
    have hm : HstM (w.setCell ⟨hb, 92, none⟩ (.int .i64 ((h.ticks + 1 : Nat) : Int))) hb lb (setTicksH h (h.ticks + 1)) := m.setTicks (h.ticks + 1)
    have HG := hideIt (setg w hb 92 (.int .i64 ((h.ticks + 1 : Nat) : Int)))
    rw [e1] at hm HG
    have HM := hideIt hm
    have htr := k.tries
    have htk := k.ticks
    by_cases h3 : h.ticks + 1 < 3
    · have e : tickH h = setTicksH h (h.ticks + 1) := by unfold tickH; rw [if_neg h0, if_pos h3]
      rw [e]
      have h3i : (h.ticks : Int) + 1 < 3 := by omega
      clear m hm k e hV h0 e1
      go_enter Tryz.func65, Tryz.ntmps65
      go_wp2
      go_end0
      exact ⟨rfl, HM.out, HG.out⟩
    · have h3i : ¬ (h.ticks : Int) + 1 < 3 := by omega
      by_cases h4 : h.tries < 5
      · have e : tickH h = saysH (setTicksH h (h.ticks + 1)) := by unfold tickH; rw [if_neg h0, if_neg h3, if_pos h4]
        rw [e]
        have h4i : (h.tries : Int) < 5 := by omega
        have HS := hideIt (fun w' (m' : HstM w' hb lb (setTicksH h (h.ticks + 1))) => hsay_any hb lb _ w' m' (show h.tries ≤ 5 from htr))
        clear m hm k e hV h0 e1
        go_enter Tryz.func65, Tryz.ntmps65
        go_wp2_with fail
        refine (HS.out _ HM.out).mono ?_
        rintro e w1 ⟨rfl, h1, h2⟩
        have HZ := hideIt (And.intro h1 (HG.out.trans h2))
        clear h1 h2
        go_wp2
        go_end0
        exact ⟨rfl, HZ.out.1, HZ.out.2⟩
      · have e : tickH h = endH (setTicksH h (h.ticks + 1)) 2 := by unfold tickH; rw [if_neg h0, if_neg h3, if_neg h4]
        rw [e]
        have h4i : ¬ (h.tries : Int) < 5 := by omega
        have HS := hideIt (fun w' (m' : HstM w' hb lb (setTicksH h (h.ticks + 1))) => hend_any hb lb _ 2 w' m')
        have e2 : ((2 : Nat) : Int) = 2 := rfl
        rw [e2] at HS
        clear m hm k e hV h0 e1 e2
        go_enter Tryz.func65, Tryz.ntmps65
        go_wp2_with fail
        refine (HS.out _ HM.out).mono ?_
        rintro e w1 ⟨rfl, h1, h2⟩
        have HZ := hideIt (And.intro h1 (HG.out.trans h2))
        clear h1 h2
        go_wp2
        go_end0
        exact ⟨rfl, HZ.out.1, HZ.out.2⟩
end Go.Proofs.YthokdbcpkmcieaaGreat
namespace Go.Proofs.YthokdbcpkmcieaaGreat
open Go Go.RowKit
attribute [local go_sem ↓] Go.wp_at_zero Go.wp_at_succ
set_option maxRecDepth 100000 in
set_option maxHeartbeats 2000000 in
theorem hasPrefix_any (a p : List UInt8) (ha : a.length ≤ 1000) (hp : p.length ≤ 1000) (w : World) : Calls Tryz.prog 139 #[.string (txt a), .string (txt p)] w fun e w' => e = .returned (.bool (decide (a.take p.length = p))) ∧ w' = w := by
  obtain ⟨S, hS⟩ : ∃ S, txt a = S := ⟨_, rfl⟩
  obtain ⟨T, hT⟩ : ∃ T, txt p = T := ⟨_, rfl⟩
  have hs : S.size = a.length := by rw [← hS, txt_size]
  have ht : T.size = p.length := by rw [← hT, txt_size]
  have hx := txt_take hS p.length
  rw [hS, hT]
  have hSi : (S.size : Int) ≤ 1000 := by omega
  have hTi : (T.size : Int) ≤ 1000 := by omega
  by_cases hlt : a.length < p.length
  · have hd : decide (a.take p.length = p) = false := by
      apply decide_eq_false
      intro e
      have := congrArg List.length e
      rw [List.length_take] at this
      omega
    rw [hd]
    have hge : ¬ (T.size : Int) ≤ (S.size : Int) := by omega
    clear hx hd hS hT hs ht
    go_enter Tryz.func139, Tryz.ntmps139
    go_wp2
    go_ret
    exact ⟨rfl, rfl⟩
  · have hge : (T.size : Int) ≤ (S.size : Int) := by omega
    rw [← ht] at hx
    by_cases he : a.take p.length = p
    · rw [decide_eq_true he]
      rw [ht, he, hT, ← ht] at hx
      clear hS hT hs ht he
      go_enter Tryz.func139, Tryz.ntmps139
      go_wp2
      go_ret
      exact ⟨rfl, rfl⟩
    · rw [decide_eq_false he]
      have hne := txt_neR he
      rw [hT, ← ht] at hne
      obtain ⟨X, hX⟩ : ∃ X, txt (a.take T.size) = X := ⟨_, rfl⟩
      rw [hX] at hx hne
      clear hS hT hs ht he hX
      go_enter Tryz.func139, Tryz.ntmps139
      go_wp2
      go_ret
      exact ⟨rfl, rfl⟩
set_option maxRecDepth 100000 in
set_option maxHeartbeats 2000000 in
theorem cutPrefix_any (a p : List UInt8) (ha : a.length ≤ 1000) (hp : p.length ≤ 1000) (w : World) : Calls Tryz.prog 133 #[.string (txt a), .string (txt p)] w fun e w' => e = .returned (.tuple #[.string (if a.take p.length = p then txt (a.drop p.length) else txt a), .bool (decide (a.take p.length = p))]) ∧ w' = w := by
  have HP := hideIt (fun w' => hasPrefix_any a p ha hp w')
  obtain ⟨S, hS⟩ : ∃ S, txt a = S := ⟨_, rfl⟩
  obtain ⟨T, hT⟩ : ∃ T, txt p = T := ⟨_, rfl⟩
  have hs : S.size = a.length := by rw [← hS, txt_size]
  have ht : T.size = p.length := by rw [← hT, txt_size]
  have hx := txt_drop hS p.length
  rw [hS, hT] at HP ⊢
  have hSi : (S.size : Int) ≤ 1000 := by omega
  have hTi : (T.size : Int) ≤ 1000 := by omega
  by_cases he : a.take p.length = p
  · rw [if_pos he, decide_eq_true he]
    rw [decide_eq_true he] at HP
    have hle : p.length ≤ a.length := by
      have := congrArg List.length he
      rw [List.length_take] at this
      omega
    have hge : (T.size : Int) ≤ (S.size : Int) := by omega
    rw [← ht] at hx ⊢
    obtain ⟨X, hX⟩ : ∃ X, txt (a.drop T.size) = X := ⟨_, rfl⟩
    rw [hX] at hx ⊢
    clear hS hT hs ht he hX hle
    go_enter Tryz.func133, Tryz.ntmps133
    go_wp2_with fail
    refine (HP.out _).mono ?_
    rintro e w1 ⟨rfl, rfl⟩
    go_wp2
    go_ret2
    exact ⟨rfl, rfl⟩
  · rw [if_neg he, decide_eq_false he]
    rw [decide_eq_false he] at HP
    clear hS hT hs ht he hx
    go_enter Tryz.func133, Tryz.ntmps133
    go_wp2_with fail
    refine (HP.out _).mono ?_
    rintro e w1 ⟨rfl, rfl⟩
    go_wp2
    go_ret2
    exact ⟨rfl, rfl⟩
set_option maxRecDepth 100000 in
set_option maxHeartbeats 2000000 in
theorem scutPrefix_any (a p : List UInt8) (ha : a.length ≤ 1000) (hp : p.length ≤ 1000) (w : World) : Calls Tryz.prog 120 #[.string (txt a), .string (txt p)] w fun e w' => e = .returned (.tuple #[.string (if a.take p.length = p then txt (a.drop p.length) else txt a), .bool (decide (a.take p.length = p))]) ∧ w' = w := by
  have HP := hideIt (fun w' => cutPrefix_any a p ha hp w')
  obtain ⟨X, hX⟩ : ∃ X, (if a.take p.length = p then txt (a.drop p.length) else txt a) = X := ⟨_, rfl⟩
  obtain ⟨Y, hY⟩ : ∃ Y, decide (a.take p.length = p) = Y := ⟨_, rfl⟩
  rw [hX, hY] at HP ⊢
  clear hX hY
  go_enter Tryz.func120, Tryz.ntmps120
  go_wp2_with fail
  refine (HP.out _).mono ?_
  rintro e w1 ⟨rfl, rfl⟩
  go_wp2
  go_ret2
  exact ⟨rfl, rfl⟩
end Go.Proofs.YthokdbcpkmcieaaGreat
namespace Go.Proofs.YthokdbcpkmcieaaGreat
open Go Go.RowKit
attribute [local go_sem ↓] Go.wp_at_zero Go.wp_at_succ
theorem results_cell_tmp {P : Program} {fn : Func} {p q : Tmp} {ty : TypeId} (h : fn.results = #[.cell p ty, .tmp q]) (tmps : Array Value) (w : World) (g : Nat) (cs : List Value) (d : TypeDesc)
    (hp : tmps.getD p undef = .pointer (some ⟨g, 0, none⟩)) (hc : w.rangeAt g 0 cs) (hu : P.underlying ty = some d) (hd : d.isRow = true) (hi : (P.info? ty).map (·.size) = some cs.length) : (results fn tmps).run P w = .ok (.tuple #[.agg cs.toArray, tmps.getD q undef]) w := by
  have hp' : tmps[p]?.getD undef = .pointer (some ⟨g, 0, none⟩) := by simpa using hp
  simp [results, h, hp', asAddr, run_loadVar_mid w g 0 ty cs d hc hu hd hi]
theorem below_drew1 {n : Nat} {w w' : World} (h : Below n w w') : Below n w w'.drew := h.drew
def ansV : Option (Bool × List UInt8) → Value
  | some (y, bs) => .tuple #[.agg #[.bool y, .string (txt bs)], .bool true]
  | none => .tuple #[.agg #[.bool false, .string ⟨#[]⟩], .bool false]
set_option maxRecDepth 100000 in
set_option maxHeartbeats 4000000 in
theorem hanswer_any (asked msg : List UInt8) (h4 : 4 ≤ asked.length ∧ asked.length ≤ 69) (hm : msg.length ≤ 1000) (w : World) :
    Calls Tryz.prog 101 #[.string (txt asked), .string (txt msg)] w fun e w' => e = .returned (ansV (answerToH asked msg)) ∧ Below w.heap.size w w' := by
  obtain ⟨A, hA⟩ : ∃ A, txt asked = A := ⟨_, rfl⟩
  have hAs : A.size = asked.length := by rw [← hA, txt_size]
  have h3A : 3 < A.size := by omega
  obtain ⟨wt, hwt⟩ : ∃ wt, asked.getD 3 0 = wt := ⟨_, rfl⟩
  have hA3 : A[3] = wt := (txt_at hA h3A).trans hwt
  have hAt := txt_take hA 3
  have hl3 : (asked.take 3).length = 3 := by rw [List.length_take]; omega
  have HC := hideIt (fun w' => scutPrefix_any msg (asked.take 3) hm (by omega) w')
  rw [hl3] at HC
  have hAi : (A.size : Int) ≤ 69 := by omega
  have hAj : (4 : Int) ≤ (A.size : Int) := by omega
  rw [hA]
  have HSZ := hideIt (fun w' => hsize_any wt w')
  have hwl := wt.toNat_lt
  obtain ⟨M, hM⟩ : ∃ M, txt msg = M := ⟨_, rfl⟩
  obtain ⟨P, hP⟩ : ∃ P, txt (asked.take 3) = P := ⟨_, rfl⟩
  rw [hM, hP] at HC
  rw [hP] at hAt
  rw [hM]
  have hBz : ∀ (y : Bool) (X : ByteArray), Below w.heap.size w (w.alloc (.cells #[.bool y, .string X] 142)) := fun y X => (Below.refl _ _).alloc (Nat.le_refl _) _
  have hRz : ∀ (y : Bool) (X : ByteArray), (w.alloc (.cells #[.bool y, .string X] 142)).rangeAt w.heap.size 0 [.bool y, .string X] := fun y X j u hu => by
    rw [cell_of_row _ _ _ _ _ (0, 0) (heap_alloc_new w _), Nat.zero_add]
    simpa using hu
  have HBZ := hideIt (And.intro hBz hRz)
  clear hBz hRz
  by_cases hpre : msg.take 3 = asked.take 3
  · rw [if_pos hpre, decide_eq_true hpre] at HC
    have hml : 3 ≤ msg.length := by
      have := congrArg List.length hpre
      rw [List.length_take, hl3] at this
      omega
    obtain ⟨T, hT⟩ : ∃ T, txt (msg.drop 3) = T := ⟨_, rfl⟩
    have hTs : T.size = msg.length - 3 := by rw [← hT, txt_size, List.length_drop]
    rw [hT] at HC
    by_cases h4m : msg.length = 3
    · have hN : answerToH asked msg = none := by unfold answerToH; rw [if_neg (by omega)]
      rw [hN]
      have hTe : T = ⟨#[]⟩ := by
        rw [← hT, List.drop_eq_nil_of_le (by omega)]
        rfl
      subst hTe
      clear hN hT hTs hpre hM hP hA
      go_enter Tryz.func101, Tryz.ntmps101
      go_wp2_with fail
      refine (HC.out _).mono ?_
      rintro e w1 ⟨rfl, rfl⟩
      go_wp2
      (try simp only [Exit.inBlock, Exit.then])
      refine bodyPost_ret (results_cell_tmp rfl _ _ w.heap.size [.bool false, .string ⟨#[]⟩] _ rfl (HBZ.out.2 _ _) Tryz.underlying142 rfl (by kernel_rfl)) rfl ?_
      exact ⟨rfl, HBZ.out.1 _ _⟩
    · have h0T : 0 < T.size := by omega
      have hTi : (T.size : Int) ≤ 1000 := by omega
      have hTj : (0 : Int) < (T.size : Int) := by omega
      have hTe := isEmpty_no T h0T
      obtain ⟨sd, hsd⟩ : ∃ sd, msg.getD 3 0 = sd := ⟨_, rfl⟩
      have hT0 : T[0] = sd := by
        rw [txt_at hT h0T, ← hsd]
        simp [List.getD_eq_getElem?_getD]
      have hTd := txt_drop hT 1
      have hdd : (msg.drop 3).drop 1 = msg.drop 4 := by rw [List.drop_drop]
      rw [hdd] at hTd
      obtain ⟨R, hR⟩ : ∃ R, txt (msg.drop 4) = R := ⟨_, rfl⟩
      have hRs : R.size = msg.length - 4 := by rw [← hR, txt_size, List.length_drop]
      rw [hR] at hTd
      have hRi : (R.size : Int) ≤ 1000 := by omega
      have hsl := sd.toNat_lt
      have hcond : 4 ≤ msg.length ∧ msg.take 3 = asked.take 3 := ⟨by omega, hpre⟩
      by_cases h1 : sd = 1
      · subst h1
        obtain ⟨yl, hyl⟩ : ∃ yl, yesLen wt = yl := ⟨_, rfl⟩
        rw [hyl] at HSZ
        by_cases hle : msg.length = 4 + yl
        · have hN : answerToH asked msg = some (true, msg.drop 4) := by unfold answerToH; rw [if_pos hcond, if_pos ⟨hsd, by rw [hwt, hyl]; exact hle⟩]
          rw [hN]
          have hRe : (R.size : Int) = (yl : Int) := by omega
          have HR := hideIt hR
          clear hN hT hTs hpre hM hP hA hcond hR hRs hsd hwt hyl hle hdd
          go_enter Tryz.func101, Tryz.ntmps101
          go_wp2_with fail
          refine (HC.out _).mono ?_
          rintro e w1 ⟨rfl, rfl⟩
          go_wp2
          go_region
          all_goals
            go_wp2_with fail
            refine (HSZ.out _).mono ?_
            rintro e w2 ⟨rfl, rfl⟩
            go_wp2
            (try simp only [Exit.inBlock, Exit.then])
            refine bodyPost_ret (results_cell_tmp rfl _ _ w.heap.size [.bool true, .string R] _ rfl (HBZ.out.2 _ _) Tryz.underlying142 rfl (by kernel_rfl)) rfl ?_
            exact ⟨by rw [← HR.out]; rfl, below_drew1 (HBZ.out.1 _ _)⟩
        · have hN : answerToH asked msg = none := by
            unfold answerToH
            rw [if_pos hcond, if_neg (fun e => hle (by rw [← hyl, ← hwt]; exact e.2)), if_neg (fun e => by rw [hsd] at e; exact absurd e.1 (by decide))]
          rw [hN]
          have hRe : ((R.size : Int) == (yl : Int)) = false := by simp; omega
          clear hN hT hTs hpre hM hP hA hcond hR hRs hsd hwt hyl hle hdd
          go_enter Tryz.func101, Tryz.ntmps101
          go_wp2_with fail
          refine (HC.out _).mono ?_
          rintro e w1 ⟨rfl, rfl⟩
          go_wp2
          go_region
          all_goals
            go_wp2_with fail
            refine (HSZ.out _).mono ?_
            rintro e w2 ⟨rfl, rfl⟩
            go_wp2
            (try simp only [Exit.inBlock, Exit.then])
            refine bodyPost_ret (results_cell_tmp rfl _ _ w.heap.size [.bool false, .string ⟨#[]⟩] _ rfl (HBZ.out.2 _ _) Tryz.underlying142 rfl (by kernel_rfl)) rfl ?_
            exact ⟨rfl, below_drew1 (HBZ.out.1 _ _)⟩
      · have hs1 : ((sd.toNat : Int) == 1) = false := toNat_ne (c := 1) h1
        by_cases h2 : sd = 2
        · subst h2
          by_cases hle : msg.length = 4
          · have hN : answerToH asked msg = some (false, []) := by
              unfold answerToH
              rw [if_pos hcond, if_neg (fun e => by rw [hsd] at e; exact absurd e.1 (by decide)), if_pos ⟨hsd, hle⟩]
            rw [hN]
            have hRe : R = ⟨#[]⟩ := by
              rw [← hR, List.drop_eq_nil_of_le (by omega)]
              rfl
            subst hRe
            clear hN hT hTs hpre hM hP hA hcond hR hRs hsd hwt hle hdd
            go_enter Tryz.func101, Tryz.ntmps101
            go_wp2_with fail
            refine (HC.out _).mono ?_
            rintro e w1 ⟨rfl, rfl⟩
            go_wp2
            go_region
            all_goals
              go_wp2
              (try simp only [Exit.inBlock, Exit.then])
              refine bodyPost_ret (results_cell_tmp rfl _ _ w.heap.size [.bool false, .string ⟨#[]⟩] _ rfl (HBZ.out.2 _ _) Tryz.underlying142 rfl (by kernel_rfl)) rfl ?_
              exact ⟨rfl, below_drew1 (HBZ.out.1 _ _)⟩
          · have hN : answerToH asked msg = none := by
              unfold answerToH
              rw [if_pos hcond, if_neg (fun e => by rw [hsd] at e; exact absurd e.1 (by decide)), if_neg (fun e => hle e.2)]
            rw [hN]
            have hRe := isEmpty_no R (by omega)
            clear hN hT hTs hpre hM hP hA hcond hR hRs hsd hwt hle hdd
            go_enter Tryz.func101, Tryz.ntmps101
            go_wp2_with fail
            refine (HC.out _).mono ?_
            rintro e w1 ⟨rfl, rfl⟩
            go_wp2
            go_region
            all_goals
              go_wp2
              (try simp only [Exit.inBlock, Exit.then])
              refine bodyPost_ret (results_cell_tmp rfl _ _ w.heap.size [.bool false, .string ⟨#[]⟩] _ rfl (HBZ.out.2 _ _) Tryz.underlying142 rfl (by kernel_rfl)) rfl ?_
              exact ⟨rfl, below_drew1 (HBZ.out.1 _ _)⟩
        · have hs2 : ((sd.toNat : Int) == 2) = false := toNat_ne (c := 2) h2
          have hN : answerToH asked msg = none := by
            unfold answerToH
            rw [if_pos hcond, if_neg (fun e => h1 (hsd.symm.trans e.1)), if_neg (fun e => h2 (hsd.symm.trans e.1))]
          rw [hN]
          clear hN hT hTs hpre hM hP hA hcond hR hRs hsd hwt hdd
          go_enter Tryz.func101, Tryz.ntmps101
          go_wp2_with fail
          refine (HC.out _).mono ?_
          rintro e w1 ⟨rfl, rfl⟩
          go_wp2
          go_region
          all_goals
            go_wp2
            (try simp only [Exit.inBlock, Exit.then])
            refine bodyPost_ret (results_cell_tmp rfl _ _ w.heap.size [.bool false, .string ⟨#[]⟩] _ rfl (HBZ.out.2 _ _) Tryz.underlying142 rfl (by kernel_rfl)) rfl ?_
            exact ⟨rfl, below_drew1 (HBZ.out.1 _ _)⟩
  · rw [if_neg hpre, decide_eq_false hpre] at HC
    have hN : answerToH asked msg = none := by unfold answerToH; rw [if_neg (fun e => hpre e.2)]
    rw [hN]
    clear hN hpre hM hP hA
    go_enter Tryz.func101, Tryz.ntmps101
    go_wp2_with fail
    refine (HC.out _).mono ?_
    rintro e w1 ⟨rfl, rfl⟩
    go_wp2
    (try simp only [Exit.inBlock, Exit.then])
    refine bodyPost_ret (results_cell_tmp rfl _ _ w.heap.size [.bool false, .string ⟨#[]⟩] _ rfl (HBZ.out.2 _ _) Tryz.underlying142 rfl (by kernel_rfl)) rfl ?_
    exact ⟨rfl, HBZ.out.1 _ _⟩
end Go.Proofs.YthokdbcpkmcieaaGreat
