/- The walk of Coded. The walk of Relisted. The walk of Relisted where the source is assembled. Relisted at every source. -/
import Derived.Test.YthokdbcpkmcieaaGreatDoorR07
import Derived.Test.YthokdbcpkmcieaaGreatDoorA39
import Derived.BigQuiet
import Derived.Laws.Concat
import Derived.Deep.RegionHeld3
namespace Go.Proofs.YthokdbcpkmcieaaGreatDoor
open Go Go.RowKit Go.Shelf Go.WideMaps Go.Maps
/-- An image in memory, its box at x1. -/
structure CdAt (w wz : World) (x1 ik lk sk : Nat) (b1 : Asm) : Prop where
  c1 : wz.heap[x1]? = some (.cells #[.slice (some ⟨ik, 0, none⟩) 1024 1024, .slice (some ⟨lk, 0, none⟩) 1024 1024, .slice (some ⟨sk, 0, none⟩) 1024 1024] 35 (0, 0))
  y1 : YRow wz ik b1.bytes
  l1 : BRow wz lk b1.laid
  blw : Below w.heap.size w wz
theorem CdAt.drewN {w wz : World} {x1 ik lk sk : Nat} {b1 : Asm} (h : CdAt w wz x1 ik lk sk b1) (m : Nat) : CdAt w (wz.drewN m) x1 ik lk sk b1 := ⟨h.c1, h.y1.kept rfl, h.l1.kept rfl, below_drewN h.blw m⟩
theorem CdAt.drew {w wz : World} {x1 ik lk sk : Nat} {b1 : Asm} (h : CdAt w wz x1 ik lk sk b1) : CdAt w wz.drew x1 ik lk sk b1 := ⟨h.c1, h.y1.kept rfl, h.l1.kept rfl, h.blw.drew⟩
theorem CdAt.cells {w wz : World} {x1 ik lk sk : Nat} {b1 : Asm} (h : CdAt w wz x1 ik lk sk b1) : wz.cell? ⟨x1, 0, none⟩ = some (.slice (some ⟨ik, 0, none⟩) 1024 1024) ∧ wz.cell? ⟨x1, 1, none⟩ = some (.slice (some ⟨lk, 0, none⟩) 1024 1024) :=
  ⟨by rw [cell_of_row _ _ _ _ _ (0, 0) h.c1]; rfl, by rw [cell_of_row _ _ _ _ _ (0, 0) h.c1]; rfl⟩
theorem CdAt.laid {w wz : World} {x1 ik lk sk p n : Nat} {b1 : Asm} (h : CdAt w wz x1 ik lk sk b1) (e : b1.laid = layB p n) (hp : p + n ≤ 1024) {k : Nat} (hk : k < 1024) : wz.cell? ⟨lk, k, none⟩ = some (.bool (decide (p ≤ k) && decide (k < p + n))) := by
  have hg := layB_at p n k hk hp
  rw [← e] at hg
  obtain ⟨hi, e2⟩ := List.getElem?_eq_some_iff.1 hg
  rw [h.l1.cell k hi, e2]
theorem CdAt.byte {w wz : World} {x1 ik lk sk p n : Nat} {b1 : Asm} {code : ByteArray} (h : CdAt w wz x1 ik lk sk b1) (e : b1.bytes = byt p ((bI code).take n)) (hn : n ≤ code.size) {k : Nat} (h1 : p ≤ k) (h2 : k < p + n) {q : Nat} (hq : k - p = q) (hq2 : q < code.size) : wz.cell? ⟨ik, k, none⟩ = some (.int .u8 ((code[q]'hq2).toNat : Int)) := by
  have hg := byt_at code p n k h1 h2 hn
  rw [← e, hq] at hg
  obtain ⟨hi, e2⟩ := List.getElem?_eq_some_iff.1 hg
  rw [h.y1.cell k hi, e2]
  have hl : q < code.data.toList.length := by rw [Array.length_toList]; exact hq2
  rw [List.getD_eq_getElem?_getD, List.getElem?_eq_getElem hl]
  rfl
theorem box_one (w : World) (ik lk sk : Nat) : ∃ W, w.alloc (.cells #[.slice (some ⟨ik, 0, none⟩) 1024 1024, .slice (some ⟨lk, 0, none⟩) 1024 1024, .slice (some ⟨sk, 0, none⟩) 1024 1024] 35) = W ∧ Below w.heap.size w W ∧ W.heap.size = w.heap.size + 1 ∧ W.heap[w.heap.size]? = some (.cells #[.slice (some ⟨ik, 0, none⟩) 1024 1024, .slice (some ⟨lk, 0, none⟩) 1024 1024, .slice (some ⟨sk, 0, none⟩) 1024 1024] 35 (0, 0)) :=
  ⟨_, rfl, (Below.refl _ _).alloc (Nat.le_refl _) _, by simp, heap_alloc_new w _⟩
set_option maxHeartbeats 1000000 in
theorem short_any (code : ByteArray) (h : 0 < code.size) (hs : code[0].toNat = 165 ∨ code.size < 3) (hc2 : code.size ≤ maxLen) (w : World) :
    Calls Tryz.prog 14 #[.string code] w fun e w' => e = .returned (.bool true) ∧ w' = w := by
  unfold maxLen at hc2
  by_cases h5 : code[0].toNat = 165
  · have hb : ((code[0].toNat : Int) == 165) = true := by simp; omega
    go_enter Tryz.func14, Tryz.ntmps14
    go_wp2
    go_ret
    exact ⟨rfl, rfl⟩
  · have hb : ((code[0].toNat : Int) == 165) = false := by simp; omega
    have h3 : (code.size : Int) < 3 := by omega
    go_enter Tryz.func14, Tryz.ntmps14
    go_wp2
    go_ret
    exact ⟨rfl, rfl⟩
set_option maxRecDepth 100000 in
theorem dec_first : decA ⟨#[2, 18, 52]⟩ 0 = (⟨#[76, 74, 77, 80, 32, 48, 120, 49, 50, 51, 52]⟩, 3) := by decide +kernel
set_option maxRecDepth 100000 in
set_option maxHeartbeats 8000000 in
theorem coded_any (w : World) (code : ByteArray) (at' mm : Int) (hc2 : code.size ≤ maxLen) (hat : -9223372036854775808 ≤ at' ∧ at' ≤ 9223372036854775807) (hmm : w.cell? ⟨0, 0, none⟩ = some (.int .i64 mm)) :
    Calls Tryz.prog 4 #[.string code, .int .i64 at'] w fun e w' => e = .returned (.bool true) ∧ Below w.heap.size w w' := by
  obtain ⟨p, hpp⟩ : ∃ p, kpF at' 1022 = p := ⟨_, rfl⟩
  have hp : p ≤ 1021 := by have := kpF_lt at' 1022 (by omega); omega
  have h0w : 0 < w.heap.size := World.block_lt_of_cell? _ _ hmm
  have MM : Hid (∀ w' : World, Below w.heap.size w w' → w'.cell? ⟨0, 0, none⟩ = some (.int .i64 mm)) := fun w' hb => (World.cell?_of_block (a := ⟨0, 0, none⟩) (hb.block 0 h0w)).trans hmm
  have HPB : Hid (∀ w' : World, Calls Tryz.prog 12 #[.int .i64 at', .int .i64 1022] w' fun e w2 => e = .returned (.int .i64 (p : Int)) ∧ w2 = w') := fun w' => by
    have := kpick_any at' 1022 hat.1 hat.2 (by omega) (by omega) w'
    rw [hpp] at this
    exact this
  obtain ⟨S, hS⟩ : ∃ S, (decA code (p : Int)).1 = S := ⟨_, rfl⟩
  obtain ⟨N, hN⟩ : ∃ N, (decA code (p : Int)).2 = N := ⟨_, rfl⟩
  have hln := dec_ln code p hp
  rw [hS, hN] at hln
  have HD1 : Hid (∀ w' : World, Below w.heap.size w w' → Calls Tryz.prog 13 #[.string code, .int .i64 (p : Int)] w' fun e w2 => e = .returned (.tuple #[.string S, .int .i64 (N : Int)]) ∧ Below w'.heap.size w' w2) := fun w' hb => by
    have := bDecode_any code (p : Int) hc2 w' mm (MM.out w' hb) (Nat.lt_of_lt_of_le h0w hb.size)
    rw [hS, hN] at this
    exact this
  have HD2 : Hid (∀ w' : World, Below w.heap.size w w' → Calls Tryz.prog 13 #[.string ⟨#[2, 18, 52]⟩, .int .i64 0] w' fun e w2 => e = .returned (.tuple #[.string ⟨#[76, 74, 77, 80, 32, 48, 120, 49, 50, 51, 52]⟩, .int .i64 3]) ∧ Below w'.heap.size w' w2) := fun w' hb => by
    have := bDecode_any ⟨#[2, 18, 52]⟩ 0 (by decide) w' mm (MM.out w' hb) (Nat.lt_of_lt_of_le h0w hb.size)
    rw [dec_first] at this
    exact this
  have HB0 : Hid (Below w.heap.size w w) := Below.refl _ _
  have hci : (code.size : Int) ≤ 9223372036854775807 := by unfold maxLen at hc2; omega
  clear hS hN hmm hpp
  rcases hln with ⟨rfl, rfl, hcase⟩ | ⟨x, hx⟩
  · by_cases he : code.size = 0
    · have hem : code.toList.isEmpty = true := by rw [isEmpty_iff]; simp only [decide_eq_true_eq]; omega
      clear hcase
      go_enter Tryz.func4, Tryz.ntmps4
      go_upto_region 2 with (first | (go_at_call 12; refine (HPB.out _).mono ?_; rintro e w2 ⟨rfl, hw2⟩; obtain rfl := hw2.symm; clear hw2))
      go_upto_region 3 with (first | (go_at_call 13; refine (HD1.out _ HB0.out).mono ?_; rintro e w3 ⟨rfl, hb3⟩; have HB3 := hideIt hb3; clear hb3))
      go_upto_region 4 with (first | (go_at_call 13; refine (HD2.out _ HB3.out).mono ?_; rintro e w4 ⟨rfl, hb4⟩; have HB4 := hideIt (HB3.out.trans (hb4.mono HB3.out.size)); clear hb4))
      go_wp2
      go_ret
      exact ⟨rfl, HB4.out⟩
    · have hem : code.toList.isEmpty = false := by rw [isEmpty_iff]; simp only [decide_eq_false_iff_not]; omega
      have hsz : 0 < code.size := by omega
      have HSH : Hid (∀ w' : World, Calls Tryz.prog 14 #[.string code] w' fun e w2 => e = .returned (.bool true) ∧ w2 = w') := fun w' => by
        refine short_any code hsz ?_ hc2 w'
        rcases hcase with h | ⟨_, h⟩ | h
        · exact absurd h he
        · exact .inl h
        · exact .inr h
      clear hcase
      go_enter Tryz.func4, Tryz.ntmps4
      go_upto_region 2 with (first | (go_at_call 12; refine (HPB.out _).mono ?_; rintro e w2 ⟨rfl, hw2⟩; obtain rfl := hw2.symm; clear hw2))
      go_upto_region 3 with (first | (go_at_call 13; refine (HD1.out _ HB0.out).mono ?_; rintro e w3 ⟨rfl, hb3⟩; have HB3 := hideIt hb3; clear hb3))
      go_upto_region 4 with (first | (go_at_call 13; refine (HD2.out _ HB3.out).mono ?_; rintro e w4 ⟨rfl, hb4⟩; have HB4 := hideIt (HB3.out.trans (hb4.mono HB3.out.size)); clear hb4))
      go_wp2_with (first | (go_at_call 14; refine (HSH.out _).mono ?_; rintro e w5 ⟨rfl, rfl⟩))
      go_ret
      exact ⟨rfl, HB4.out⟩
  · have n1 := hx.n1
    have n3 := hx.n3
    have hle := hx.le
    have hSs := hx.size
    obtain ⟨b1, ha, hl1, hy1⟩ := asm_one hx (by omega) (by omega)
    have hem : S.toList.isEmpty = false := by rw [isEmpty_iff]; simp only [decide_eq_false_iff_not]; have := hx.ne; omega
    have g1 : ¬ (N : Int) < 0 := by omega
    have g2 : ¬ (3 : Int) < (N : Int) := by omega
    have g3 : ¬ (code.size : Int) < (N : Int) := by omega
    have g4 : ((N : Int) == 0) = false := by simp; omega
    have g5 : ¬ (N : Int) = 0 := by omega
    obtain ⟨DN, hDN⟩ : ∃ DN, decF 3 p = DN := ⟨_, rfl⟩
    have hDNs : DN.size ≤ 4 := by rw [← hDN]; exact decF_size 3 p
    obtain ⟨O1, hO1⟩ : ∃ O1, (⟨#[111, 114, 103, 32]⟩ : ByteArray) ++ DN = O1 := ⟨_, rfl⟩
    obtain ⟨O2, hO2⟩ : ∃ O2, O1 ++ (⟨#[10]⟩ : ByteArray) = O2 := ⟨_, rfl⟩
    obtain ⟨O3, hO3⟩ : ∃ O3, O2 ++ S = O3 := ⟨_, rfl⟩
    have e3 : txO p ++ (NL ++ S) = O3 := by
      rw [← hO3, ← hO2, ← hO1, ← hDN]
      simp only [ByteArray.append_assoc]
      rfl
    rw [e3] at ha
    have z4 : (⟨#[111, 114, 103, 32]⟩ : ByteArray).size = 4 := rfl
    have z1 : (⟨#[10]⟩ : ByteArray).size = 1 := rfl
    have bO1 : (O1.size : Int) ≤ 8 := by rw [← hO1, ByteArray.size_append]; omega
    have bO2 : (O2.size : Int) ≤ 9 := by rw [← hO2, ByteArray.size_append]; omega
    have bDN : (DN.size : Int) ≤ 4 := by omega
    have bSS : (S.size : Int) ≤ 100 := by omega
    have HDN : Hid (∀ w' : World, Calls Tryz.prog 16 #[.int .i64 (p : Int)] w' fun e w2 => e = .returned (.string DN) ∧ w2 = w') := fun w' => by
      have := decimal_any 3 p (by omega) (by omega) w'
      rw [hDN] at this
      exact this
    have HA : Hid (∀ w' : World, Below w.heap.size w w' → Calls Tryz.prog 15 #[.string O3] w' fun e w2 => ∃ ik lk sk, e = .returned (.tuple #[.agg #[.slice (some ⟨ik, 0, none⟩) 1024 1024, .slice (some ⟨lk, 0, none⟩) 1024 1024, .slice (some ⟨sk, 0, none⟩) 1024 1024], .int .i64 0, .int .i64 0]) ∧ ImgAt w' b1 ik lk sk w2 ∧ Below w'.heap.size w' w2) := fun w' hb => bAssemble_ok O3 b1 mm w' (MM.out w' hb) ha
    have HLY := hideIt (And.intro hl1 (And.intro hy1 hle))
    clear hx ha hl1 hy1 hDN e3 hle hSs
    go_enter Tryz.func4, Tryz.ntmps4
    go_upto_region 2 with (first | (go_at_call 12; refine (HPB.out _).mono ?_; rintro e w2 ⟨rfl, hw2⟩; obtain rfl := hw2.symm; clear hw2))
    go_upto_region 3 with (first | (go_at_call 13; refine (HD1.out _ HB0.out).mono ?_; rintro e w3 ⟨rfl, hb3⟩; have HB3 := hideIt hb3; clear hb3))
    go_upto_region 4 with (first | (go_at_call 13; refine (HD2.out _ HB3.out).mono ?_; rintro e w4 ⟨rfl, hb4⟩; have HB4 := hideIt (HB3.out.trans (hb4.mono HB3.out.size)); clear hb4))
    go_upto_region 9 with (first | (go_at_call 16; refine (HDN.out _).mono ?_; rintro e w5 ⟨rfl, rfl⟩) | (go_at_call 15; refine (HA.out _ HB4.out).mono ?_; rintro e w6 ⟨ik, lk, sk, rfl, him, hb6⟩))
    obtain ⟨W1, hW1, hB1, hz1, hh1⟩ := box_one w6 ik lk sk
    rw [hW1]
    have hbw6 : Below w.heap.size w w6 := HB4.out.trans (hb6.mono HB4.out.size)
    have hcd : CdAt w W1 w6.heap.size ik lk sk b1 := ⟨hh1, him.1.kept (hB1.block _ him.1.lt), him.2.1.kept (hB1.block _ him.2.1.lt), hbw6.trans (hB1.mono hbw6.size)⟩
    obtain ⟨u0, u1⟩ := hcd.cells
    have HCD := hideIt hcd
    clear hcd him hb6 hW1 hB1 hh1 hbw6
    go_wp2_with fail
    go_loopw [13] (fun i wz => ∃ k : Nat, k ≤ 1024 ∧ i = .int .i64 k ∧ CdAt w wz w6.heap.size ik lk sk b1) (fun i _ => 1024 - (intOf i).toNat)
    case atStart => exact ⟨0, Nat.zero_le _, rfl, HCD.out⟩
    case round =>
      clear u0 u1 HCD
      obtain ⟨k, hk, rfl, hcd⟩ := hrel
      obtain ⟨u0, u1⟩ := hcd.cells
      have HCZ := hideIt hcd
      obtain ⟨hl1, hy1, hle⟩ := HLY.out
      obtain ⟨PN, hPN⟩ : ∃ PN : Nat, p + N = PN := ⟨_, rfl⟩
      have hpn : (p : Int) + (N : Int) = (PN : Int) := by omega
      have hwp : IntKind.i64.wrap (PN : Int) = (PN : Int) := by rw [IntKind.wrap_i64]; omega
      by_cases hk4 : k < 1024
      · have hki : (k : Int) < 1024 := by omega
        have cl := hcd.laid hl1 (by omega) hk4
        by_cases hkp : k < p
        · have d1 : ((p : Int) ≤ (k : Int)) = False := eq_false (by omega)
          have d2 : decide ((p : Int) ≤ (k : Int)) = false := decide_eq_false (by omega)
          rw [decide_eq_false (by omega : ¬ p ≤ k), Bool.false_and] at cl
          clear hcd hl1 hy1 hle hPN
          go_upto_region 15 with fail
          go_quiet (fail)
          go_wp2
          go_roundw
          case rel => exact ⟨k + 1, by omega, by go_num, by first | exact HCZ.out.drewN _ | exact HCZ.out.drew⟩
          case measure => simp [intOf]; omega
        · have d1 : (p : Int) ≤ (k : Int) := by omega
          have d2 : decide ((p : Int) ≤ (k : Int)) = true := decide_eq_true d1
          by_cases hkn : k < PN
          · have d3 : (k : Int) < (PN : Int) := by omega
            have d4 : decide ((k : Int) < (PN : Int)) = true := decide_eq_true d3
            rw [decide_eq_true (by omega : p ≤ k), decide_eq_true (by omega : k < p + N), Bool.true_and] at cl
            obtain ⟨q, hq⟩ : ∃ q, k - p = q := ⟨_, rfl⟩
            have hq2 : q < code.size := by omega
            have cb := hcd.byte hy1 hle (by omega) (by omega) hq hq2
            have hqi : (k : Int) - (p : Int) = (q : Int) := by omega
            have hwq : IntKind.i64.wrap (q : Int) = (q : Int) := by rw [IntKind.wrap_i64]; omega
            have hqs : (q : Int) < (code.size : Int) := by omega
            clear hcd hl1 hy1 hle hPN hq
            go_upto_region 15 with fail
            go_quiet (fail)
            go_wp2
            go_roundw
            case rel => exact ⟨k + 1, by omega, by go_num, by first | exact HCZ.out.drewN _ | exact HCZ.out.drew⟩
            case measure => simp [intOf]; omega
          · have d3 : ((k : Int) < (PN : Int)) = False := eq_false (by omega)
            have d4 : decide ((k : Int) < (PN : Int)) = false := decide_eq_false (by omega)
            rw [decide_eq_true (by omega : p ≤ k), decide_eq_false (by omega : ¬ k < p + N), Bool.true_and] at cl
            clear hcd hl1 hy1 hle hPN
            go_upto_region 15 with fail
            go_quiet (fail)
            go_wp2
            go_roundw
            case rel => exact ⟨k + 1, by omega, by go_num, by first | exact HCZ.out.drewN _ | exact HCZ.out.drew⟩
            case measure => simp [intOf]; omega
      · have hki : ¬ (k : Int) < 1024 := by omega
        clear hcd hl1 hy1 hle hPN
        go_wp2
        go_ret
        exact ⟨rfl, HCZ.out.blw⟩
end Go.Proofs.YthokdbcpkmcieaaGreatDoor
namespace Go.Proofs.YthokdbcpkmcieaaGreatDoor
open Go Go.RowKit Go.Shelf Go.WideMaps Go.Maps
/-- The image and its listing, in memory. -/
structure RlAt (w wz : World) (x1 ik lk sk : Nat) (b : Asm) (v : Value) : Prop where
  c1 : wz.heap[x1]? = some (.cells #[.slice (some ⟨ik, 0, none⟩) 1024 1024, .slice (some ⟨lk, 0, none⟩) 1024 1024, .slice (some ⟨sk, 0, none⟩) 1024 1024] 35 (0, 0))
  img : ImgR wz ik 0 lk 0 sk 0 b.bytes b.laid b.starts
  row : wz.ownsRow 0 9 1 v (lsF b.bytes b.laid b.starts 1024).length (strV (lsF b.bytes b.laid b.starts 1024))
  blw : Below w.heap.size w wz
theorem RlAt.below {w wz w' : World} {x1 ik lk sk : Nat} {b : Asm} {v : Value} (h : RlAt w wz x1 ik lk sk b v) (hb : Below wz.heap.size wz w') : RlAt w w' x1 ik lk sk b v :=
  ⟨(hb.block x1 (Array.getElem?_eq_some_iff.1 h.c1).1).trans h.c1, h.img.below hb, h.row.below3 hb, h.blw.trans (hb.mono h.blw.size)⟩
theorem RlAt.cells {w wz : World} {x1 ik lk sk : Nat} {b : Asm} {v : Value} (h : RlAt w wz x1 ik lk sk b v) : wz.cell? ⟨x1, 0, none⟩ = some (.slice (some ⟨ik, 0, none⟩) 1024 1024) ∧ wz.cell? ⟨x1, 1, none⟩ = some (.slice (some ⟨lk, 0, none⟩) 1024 1024) ∧ wz.cell? ⟨x1, 2, none⟩ = some (.slice (some ⟨sk, 0, none⟩) 1024 1024) :=
  ⟨by rw [cell_of_row _ _ _ _ _ (0, 0) h.c1]; rfl, by rw [cell_of_row _ _ _ _ _ (0, 0) h.c1]; rfl, by rw [cell_of_row _ _ _ _ _ (0, 0) h.c1]; rfl⟩
theorem RlAt.start {w wz : World} {x1 ik lk sk : Nat} {b : Asm} {v : Value} (h : RlAt w wz x1 ik lk sk b v) {i : Nat} {x : Bool} (e : b.starts[i]? = some x) : wz.cell? ⟨sk, i, none⟩ = some (.bool x) := by
  obtain ⟨hi, e2⟩ := List.getElem?_eq_some_iff.1 e
  have := h.img.s i hi
  rw [Nat.zero_add] at this
  rw [this, e2]
theorem RlAt.laid {w wz : World} {x1 ik lk sk : Nat} {b : Asm} {v : Value} (h : RlAt w wz x1 ik lk sk b v) {i : Nat} {x : Bool} (e : b.laid[i]? = some x) : wz.cell? ⟨lk, i, none⟩ = some (.bool x) := by
  obtain ⟨hi, e2⟩ := List.getElem?_eq_some_iff.1 e
  have := h.img.l i hi
  rw [Nat.zero_add] at this
  rw [this, e2]
theorem RlAt.byte {w wz : World} {x1 ik lk sk : Nat} {b : Asm} {v : Value} (h : RlAt w wz x1 ik lk sk b v) {i : Nat} {x : UInt8} (e : b.bytes[i]? = some x) : wz.cell? ⟨ik, i, none⟩ = some (.int .u8 (x.toNat : Int)) := by
  obtain ⟨hi, e2⟩ := List.getElem?_eq_some_iff.1 e
  have := h.img.y i hi
  rw [Nat.zero_add] at this
  rw [this, e2]
/-- The list's own row. -/
theorem RlAt.list {w wz : World} {x1 ik lk sk : Nat} {b : Asm} {v : Value} (h : RlAt w wz x1 ik lk sk b v) {c : Nat} {t : ByteArray} (e : (lsF b.bytes b.laid b.starts 1024)[c]? = some t) : ∃ g cap, v = .slice (some ⟨g, 0, none⟩) (lsF b.bytes b.laid b.starts 1024).length cap ∧ wz.cell? ⟨g, c, none⟩ = some (.string t) ∧ g < wz.heap.size := by
  have hc := h.row
  obtain ⟨_, ⟨rfl, e2⟩ | ⟨g, cap, cur, rfl, hg, hh, h3, h4, h5, h6⟩⟩ := id hc
  · exfalso
    rw [List.eq_nil_of_length_eq_zero e2] at e
    cases e
  · refine ⟨g, cap, rfl, ?_, (Array.getElem?_eq_some_iff.1 hh).1⟩
    have := hc.cells (show (Value.slice (some ⟨g, 0, none⟩) (lsF b.bytes b.laid b.starts 1024).length cap).ownBlock = some g from rfl) c (.string t) (by unfold strV; rw [List.getElem?_map, e]; rfl)
    rw [Addr.add_lit, Nat.zero_add] at this
    exact this
/-- An error has a number that is not 0. -/
theorem asm_ne {src : ByteArray} {q : Int × Nat} (h : asmF src = .error q) : ¬ q.1 = 0 := by
  have hset : ∀ (a : Asm) (lb : ByteArray) (x : Stm) (k : Int), settleF a lb x = .error k → ¬ k = 0 := by
    intro a lb x k h
    unfold settleF at h
    split at h
    · cases h; decide
    · split at h
      · rename_i k2 hk
        cases h
        unfold cgF at hk
        split at hk
        · cases hk; decide
        · split at hk
          · cases hk; decide
          · cases hk
      · split at h
        · cases h; decide
        · simp only at h
          split at h
          · split at h
            · cases h
            · cases h; decide
          · split at h
            · split at h
              · cases h
              · cases h; decide
            · split at h
              · split at h
                · cases h
                · cases h; decide
              · split at h
                · rename_i k2 hk
                  cases h
                  unfold spanF at hk
                  split at hk
                  · cases hk; decide
                  · split at hk
                    · cases hk; decide
                    · cases hk
                · cases h
  have hfil : ∀ (a : Asm) (p : Nat) (x : Stm) (k : Int), fillF a p x = .error k → ¬ k = 0 := by
    intro a p x k h
    unfold fillF at h
    split at h
    · cases h
    · split at h
      · cases h; decide
      · split at h
        · cases h; decide
        · cases h
  by_cases e : src.size ≤ 2000
  · rw [asmF_asmL e] at h
    unfold asmL at h
    have hrdE : ∀ (l : List ByteArray) (i : Nat) (a : Asm) (q : Int × Nat), rdL i a l = .error q → ¬ q.1 = 0 := by
      intro l
      induction l with
      | nil => intro i a q h; cases h
      | cons t l ih =>
        intro i a q h
        simp only [rdL] at h
        split at h
        · cases h; show ¬ (2 : Int) = 0; decide
        · split at h
          · rename_i k hk
            cases h
            exact hset _ _ _ _ hk
          · split at h
            · rename_i e he
              cases h
              exact ih _ _ _ he
            · cases h
    have hflE : ∀ (l : List St) (a : Asm) (q : Int × Nat), flL a l = .error q → ¬ q.1 = 0 := by
      intro l
      induction l with
      | nil => intro a q h; cases h
      | cons st l ih =>
        intro a q h
        simp only [flL] at h
        split at h
        · rename_i k hk
          cases h
          exact hfil _ _ _ _ hk
        · exact ih _ _ h
    split at h
    · rename_i e he
      cases h
      exact hrdE _ _ _ _ he
    · exact hflE _ _ _ h
  · unfold asmF at h
    rw [if_pos (by omega)] at h
    cases h
    show ¬ (1 : Int) = 0
    decide
set_option maxRecDepth 100000 in
set_option maxHeartbeats 8000000 in
theorem relisted_bad (w : World) (src : ByteArray) (q : Int × Nat) (mm : Int) (ha : asmF src = .error q) (hmm : w.cell? ⟨0, 0, none⟩ = some (.int .i64 mm)) :
    Calls Tryz.prog 5 #[.string src] w fun e w' => e = .returned (.bool true) ∧ Below w.heap.size w w' := by
  have h0w : 0 < w.heap.size := World.block_lt_of_cell? _ _ hmm
  have MM : Hid (∀ w' : World, Below w.heap.size w w' → w'.cell? ⟨0, 0, none⟩ = some (.int .i64 mm)) := fun w' hb => (World.cell?_of_block (a := ⟨0, 0, none⟩) (hb.block 0 h0w)).trans hmm
  have HA := hideIt (bAssemble_bad src q mm w hmm ha)
  have HAS : Hid (∀ w' : World, Below w.heap.size w w' → Calls Tryz.prog 17 #[] w' fun e w2 => e = .returned (.bool true) ∧ Below w'.heap.size w' w2) := fun w' hb => assembles_any mm w' (MM.out w' hb)
  have herr := asm_err ha
  have hne := asm_ne ha
  obtain ⟨k, l⟩ := q
  simp only at herr hne HA
  have g0 : ¬ k = 0 := hne
  have g1 : (0 : Int) ≤ (l : Int) := by omega
  clear ha hmm hne
  rcases (show (0 < l) ∨ (l = 0 ∧ k = 1) by omega) with hl | ⟨rfl, rfl⟩
  · have g2 : (0 : Int) < (l : Int) := by omega
    go_enter Tryz.func5, Tryz.ntmps5
    go_upto_region 2 with (first | (go_at_call 15; refine HA.out.mono ?_; rintro e w1 ⟨rfl, hb1⟩))
    obtain ⟨W1, hW1, hB1, hz1, u0, u1, u2⟩ := im_box w1 (.slice none 0 0) (.slice none 0 0) (.slice none 0 0)
    rw [hW1]
    have hb : Below w.heap.size w W1 := hb1.trans (hB1.mono hb1.size)
    have HAW := hideIt (HAS.out W1 hb)
    have KC : Hid (∀ w' : World, Below W1.heap.size W1 w' → w'.cell? ⟨w1.heap.size, 0, none⟩ = some (.slice none 0 0)) := fun w' hb' => (World.cell?_of_block (a := ⟨w1.heap.size, 0, none⟩) (hb'.block w1.heap.size (by omega))).trans u0
    have HB := hideIt hb
    clear hb1 hB1 hb u0 u1 u2 hW1
    go_upto_region 3 with (first | (go_at_call 17; refine HAW.out.mono ?_; rintro e w2 ⟨rfl, hb2⟩; have c0 := KC.out _ hb2; have HB2 := hideIt (HB.out.trans (hb2.mono HB.out.size)); clear hb2))
    go_wp2
    go_ret
    exact ⟨rfl, HB2.out⟩
  · go_enter Tryz.func5, Tryz.ntmps5
    go_upto_region 2 with (first | (go_at_call 15; refine HA.out.mono ?_; rintro e w1 ⟨rfl, hb1⟩))
    obtain ⟨W1, hW1, hB1, hz1, u0, u1, u2⟩ := im_box w1 (.slice none 0 0) (.slice none 0 0) (.slice none 0 0)
    rw [hW1]
    have hb : Below w.heap.size w W1 := hb1.trans (hB1.mono hb1.size)
    have HAW := hideIt (HAS.out W1 hb)
    have KC : Hid (∀ w' : World, Below W1.heap.size W1 w' → w'.cell? ⟨w1.heap.size, 0, none⟩ = some (.slice none 0 0)) := fun w' hb' => (World.cell?_of_block (a := ⟨w1.heap.size, 0, none⟩) (hb'.block w1.heap.size (by omega))).trans u0
    have HB := hideIt hb
    clear hb1 hB1 hb u0 u1 u2 hW1
    go_upto_region 3 with (first | (go_at_call 17; refine HAW.out.mono ?_; rintro e w2 ⟨rfl, hb2⟩; have c0 := KC.out _ hb2; have HB2 := hideIt (HB.out.trans (hb2.mono HB.out.size)); clear hb2))
    go_wp2
    go_ret
    exact ⟨rfl, HB2.out⟩
end Go.Proofs.YthokdbcpkmcieaaGreatDoor
namespace Go.Proofs.YthokdbcpkmcieaaGreatDoor
open Go Go.RowKit Go.Shelf Go.WideMaps Go.Maps
theorem row_slice {w : World} {base : Nat} {e : TypeId} {size n : Nat} {v : Value} {xs : List Value} (h : w.ownsRow base e size v n xs) : ∃ a cap, v = .slice a n cap ∧ n ≤ cap ∧ cap ≤ maxLen := by
  obtain ⟨_, ⟨rfl, rfl⟩ | ⟨g, cap, cur, rfl, _, _, h3, h4, _⟩⟩ := h
  · exact ⟨none, 0, rfl, Nat.le_refl _, Nat.zero_le _⟩
  · exact ⟨_, cap, rfl, h3, h4⟩
theorem add_run (a b c : ByteArray) (h : a ++ b = c) (hs : a.size + b.size ≤ 10000) (w : World) : (Op.stringOp .add a b).run Tryz.prog w = .ok (.string c) w := by
  have e := run_string_add_sum (P := Tryz.prog) (w := w) a b (by omega)
  rw [h] at e
  exact e
theorem CdAt.get {w wz : World} {x1 ik lk sk : Nat} {b1 : Asm} (h : CdAt w wz x1 ik lk sk b1) {i : Nat} {x : UInt8} (e : b1.bytes[i]? = some x) : wz.cell? ⟨ik, i, none⟩ = some (.int .u8 (x.toNat : Int)) := by
  obtain ⟨hi, e2⟩ := List.getElem?_eq_some_iff.1 e
  rw [h.y1.cell i hi, e2]
theorem RlAt.drewN {w wz : World} {x1 ik lk sk : Nat} {b : Asm} {v : Value} (h : RlAt w wz x1 ik lk sk b v) (m : Nat) : RlAt w (wz.drewN m) x1 ik lk sk b v := h.below (below_drewN (Below.refl _ _) m)
theorem RlAt.drew {w wz : World} {x1 ik lk sk : Nat} {b : Asm} {v : Value} (h : RlAt w wz x1 ik lk sk b v) : RlAt w wz.drew x1 ik lk sk b v := h.below (Below.refl _ _).drew
theorem below_set3 {n : Nat} {w w' : World} (h : Below n w w') {b : Nat} (hb : n ≤ b) (v0 v1 v2 : Value) : Below n w (((w'.setCell ⟨b, 0, none⟩ v0).setCell ⟨b, 1, none⟩ v1).setCell ⟨b, 2, none⟩ v2) := below_set (below_set (below_set h hb 0 _) hb 1 _) hb 2 _
/-- The second image beside the first: its box made behind the call. -/
theorem both_one {w wr w6 : World} {x1 ik lk sk : Nat} {b b2 : Asm} {v : Value} {ik2 lk2 sk2 : Nat} (h : RlAt w wr x1 ik lk sk b v) (h6 : ImgAt wr.drew b2 ik2 lk2 sk2 w6 ∧ Below wr.drew.heap.size wr.drew w6) :
    ∃ WF, w6.alloc (.cells #[.slice (some ⟨ik2, 0, none⟩) 1024 1024, .slice (some ⟨lk2, 0, none⟩) 1024 1024, .slice (some ⟨sk2, 0, none⟩) 1024 1024] 35) = WF ∧ RlAt w WF x1 ik lk sk b v ∧ CdAt w WF w6.heap.size ik2 lk2 sk2 b2 := by
  obtain ⟨him, hb⟩ := h6
  obtain ⟨WF, hWF, hB, hz, hh⟩ := box_one w6 ik2 lk2 sk2
  have hr6 := h.drew.below hb
  have hrF := hr6.below hB
  exact ⟨WF, hWF, hrF, hh, him.1.kept (hB.block _ him.1.lt), him.2.1.kept (hB.block _ him.2.1.lt), hrF.blw⟩
/-- .. or ahead of it. -/
theorem both_two {w wr WB w6 : World} {x1 ik lk sk : Nat} {b b2 : Asm} {v : Value} {ik2 lk2 sk2 : Nat} (h : RlAt w wr x1 ik lk sk b v) (hWB : wr.alloc (.cells #[.slice none 0 0, .slice none 0 0, .slice none 0 0] 35) = WB) (h6 : ImgAt WB.drew b2 ik2 lk2 sk2 w6 ∧ Below WB.drew.heap.size WB.drew w6) :
    ∃ WF, ((w6.setCell ⟨wr.heap.size, 0, none⟩ (.slice (some ⟨ik2, 0, none⟩) 1024 1024)).setCell ⟨wr.heap.size, 1, none⟩ (.slice (some ⟨lk2, 0, none⟩) 1024 1024)).setCell ⟨wr.heap.size, 2, none⟩ (.slice (some ⟨sk2, 0, none⟩) 1024 1024) = WF ∧ RlAt w WF x1 ik lk sk b v ∧ CdAt w WF wr.heap.size ik2 lk2 sk2 b2 := by
  obtain ⟨him, hb⟩ := h6
  have hBB : Below wr.heap.size wr WB := by rw [← hWB]; exact (Below.refl _ _).alloc (Nat.le_refl _) _
  have hzB : WB.heap.size = wr.heap.size + 1 := by rw [← hWB]; simp
  have hhB : WB.heap[wr.heap.size]? = some (.cells #[.slice none 0 0, .slice none 0 0, .slice none 0 0] 35 (0, 0)) := by rw [← hWB]; exact heap_alloc_new wr _
  have hb0 : Below wr.heap.size wr w6 := hBB.trans ((Below.refl _ _).drew.trans (hb.mono (show wr.heap.size ≤ WB.drew.heap.size by show wr.heap.size ≤ WB.heap.size; omega)))
  have hbF := below_set3 hb0 (Nat.le_refl wr.heap.size) (.slice (some ⟨ik2, 0, none⟩) 1024 1024) (.slice (some ⟨lk2, 0, none⟩) 1024 1024) (.slice (some ⟨sk2, 0, none⟩) 1024 1024)
  have hrF := h.below hbF
  have hx : w6.heap[wr.heap.size]? = some (.cells #[.slice none 0 0, .slice none 0 0, .slice none 0 0] 35 (0, 0)) := (hb.block wr.heap.size (by show wr.heap.size < WB.heap.size; omega)).trans hhB
  have g1 : wr.heap.size ≠ ik2 := by have := him.2.2.2.1; have e : WB.drew.heap.size = WB.heap.size := rfl; omega
  have g2 : wr.heap.size ≠ lk2 := by have := him.2.2.2.2.1; have e : WB.drew.heap.size = WB.heap.size := rfl; omega
  have e3 : ∀ (k : Nat) (v0 v1 v2 : Value), k ≠ wr.heap.size → (((w6.setCell ⟨wr.heap.size, 0, none⟩ v0).setCell ⟨wr.heap.size, 1, none⟩ v1).setCell ⟨wr.heap.size, 2, none⟩ v2).heap[k]? = w6.heap[k]? := fun k v0 v1 v2 hk => by
    rw [heap_setCell_other _ ⟨wr.heap.size, 2, none⟩ k _ hk, heap_setCell_other _ ⟨wr.heap.size, 1, none⟩ k _ hk, heap_setCell_other _ ⟨wr.heap.size, 0, none⟩ k _ hk]
  refine ⟨_, rfl, hrF, ?_, him.1.kept (e3 _ _ _ _ (Ne.symm g1)), him.2.1.kept (e3 _ _ _ _ (Ne.symm g2)), hrF.blw⟩
  have s1 := heap_setCell_same w6 wr.heap.size 0 _ _ (.slice (some ⟨ik2, 0, none⟩) 1024 1024) hx
  have s2 := heap_setCell_same _ wr.heap.size 1 _ _ (.slice (some ⟨lk2, 0, none⟩) 1024 1024) s1
  have s3 := heap_setCell_same _ wr.heap.size 2 _ _ (.slice (some ⟨sk2, 0, none⟩) 1024 1024) s2
  exact s3
set_option maxRecDepth 100000 in
set_option maxHeartbeats 8000000 in
theorem relisted_ok (w : World) (src : ByteArray) (b : Asm) (mm : Int) (ha : asmF src = .ok b) (hmm : w.cell? ⟨0, 0, none⟩ = some (.int .i64 mm)) :
    Calls Tryz.prog 5 #[.string src] w fun e w' => e = .returned (.bool true) ∧ Below w.heap.size w w' := by
  have h0w : 0 < w.heap.size := World.block_lt_of_cell? _ _ hmm
  have MM : Hid (∀ w' : World, Below w.heap.size w w' → w'.cell? ⟨0, 0, none⟩ = some (.int .i64 mm)) := fun w' hb => (World.cell?_of_block (a := ⟨0, 0, none⟩) (hb.block 0 h0w)).trans hmm
  have HA := hideIt (bAssemble_ok src b mm w hmm ha)
  have HAS : Hid (∀ w' : World, Below w.heap.size w w' → Calls Tryz.prog 17 #[] w' fun e w2 => e = .returned (.bool true) ∧ Below w'.heap.size w' w2) := fun w' hb => assembles_any mm w' (MM.out w' hb)
  have HST : Hid (∀ i, b.starts[i]? = some true → ∃ b2 n, StartOk b i b2 n) := fun i hi => start_ok ha hi
  have HAM : Hid (∀ (s : ByteArray) (b2 : Asm) (w' : World), asmF s = .ok b2 → Below w.heap.size w w' → Calls Tryz.prog 15 #[.string s] w' fun e w2 => ∃ ik lk sk, e = .returned (.tuple #[.agg #[.slice (some ⟨ik, 0, none⟩) 1024 1024, .slice (some ⟨lk, 0, none⟩) 1024 1024, .slice (some ⟨sk, 0, none⟩) 1024 1024], .int .i64 0, .int .i64 0]) ∧ ImgAt w' b2 ik lk sk w2 ∧ Below w'.heap.size w' w2) := fun s b2 w' h hb => bAssemble_ok s b2 mm w' (MM.out w' hb) h
  clear ha hmm
  go_enter Tryz.func5, Tryz.ntmps5
  go_upto_region 2 with (first | (go_at_call 15; refine HA.out.mono ?_; rintro e w1 ⟨ik, lk, sk, rfl, him, hb1⟩))
  obtain ⟨W1, hW1, hB1, hz1, hh1⟩ := box_one w1 ik lk sk
  rw [hW1]
  have hb : Below w.heap.size w W1 := hb1.trans (hB1.mono hb1.size)
  have HAW := hideIt (HAS.out W1 hb)
  have HIM := hideIt (him.img.below hB1)
  have HH1 := hideIt hh1
  have HB := hideIt hb
  clear him hb1 hB1 hh1 hb hW1 HA
  go_upto_region 3 with (first | (go_at_call 17; refine HAW.out.mono ?_; rintro e w2 ⟨rfl, hb2⟩))
  have hc1 : w2.heap[w1.heap.size]? = some (.cells #[.slice (some ⟨ik, 0, none⟩) 1024 1024, .slice (some ⟨lk, 0, none⟩) 1024 1024, .slice (some ⟨sk, 0, none⟩) 1024 1024] 35 (0, 0)) := (hb2.block w1.heap.size (by omega)).trans HH1.out
  have v0 : w2.cell? ⟨w1.heap.size, 0, none⟩ = some (.slice (some ⟨ik, 0, none⟩) 1024 1024) := by rw [cell_of_row _ _ _ _ _ (0, 0) hc1]; rfl
  have v1 : w2.cell? ⟨w1.heap.size, 1, none⟩ = some (.slice (some ⟨lk, 0, none⟩) 1024 1024) := by rw [cell_of_row _ _ _ _ _ (0, 0) hc1]; rfl
  have v2 : w2.cell? ⟨w1.heap.size, 2, none⟩ = some (.slice (some ⟨sk, 0, none⟩) 1024 1024) := by rw [cell_of_row _ _ _ _ _ (0, 0) hc1]; rfl
  have hbw2 : Below w.heap.size w w2 := HB.out.trans (hb2.mono HB.out.size)
  have him2 := HIM.out.below hb2
  have HLS : Hid (Calls Tryz.prog 18 #[.agg #[.slice (some ⟨ik, 0, none⟩) 1024 1024, .slice (some ⟨lk, 0, none⟩) 1024 1024, .slice (some ⟨sk, 0, none⟩) 1024 1024]] w2 fun e w' => ∃ v, e = .returned (.tuple #[v, .int .i64 0]) ∧ RlAt w w' w1.heap.size ik lk sk b v) :=
    (bListing_any ik 0 1024 lk 0 1024 sk 0 1024 b.bytes b.laid b.starts mm w2 him2 ⟨Nat.le_refl _, by unfold maxLen; omega⟩ (MM.out w2 hbw2)).mono fun e w' ⟨v, h1, h2, h3⟩ => ⟨v, h1, (h3.block w1.heap.size (Array.getElem?_eq_some_iff.1 hc1).1).trans hc1, him2.below h3, own_base h2 (Nat.zero_le _), hbw2.trans (h3.mono hbw2.size)⟩
  clear hc1 hbw2 him2 hb2 HIM HH1 HAW
  go_upto_region 8 with (first | (go_at_call 18; refine HLS.out.mono ?_; rintro e w3 ⟨v, rfl, hrl⟩))
  obtain ⟨va, vc, rfl, hvc1, hvc2⟩ := row_slice hrl.row
  have hnl := lsF_len b.bytes b.laid b.starts 1024
  obtain ⟨N, hN⟩ : ∃ N, (lsF b.bytes b.laid b.starts 1024).length = N := ⟨_, rfl⟩
  have HN := hideIt hN
  have HRL := hideIt hrl
  rw [hN] at hvc1 hnl HRL ⊢
  have hNi : (N : Int) ≤ 1024 := by omega
  clear hrl v0 v1 v2 HLS hN
  go_upto_region 10 with fail
  go_loopw [9, 10] (fun c i wz => ∃ k : Nat, k ≤ 1024 ∧ i = .int .i64 (k : Int) ∧ c = .int .i64 ((lsF b.bytes b.laid b.starts k).length : Int) ∧ RlAt w wz w1.heap.size ik lk sk b (.slice va N vc)) (fun _ i _ => 1024 - (intOf i).toNat)
  case atStart => exact ⟨0, Nat.zero_le _, rfl, rfl, HRL.out⟩
  case round =>
    clear HRL
    obtain ⟨k, hk, rfl, rfl, hrl⟩ := hrel
    obtain ⟨p0, p1, p2⟩ := hrl.cells
    have HRL := hideIt hrl
    have hsl := hrl.img.sl
    obtain ⟨C, hC⟩ : ∃ C, (lsF b.bytes b.laid b.starts k).length = C := ⟨_, rfl⟩
    have HC := hideIt hC
    rw [hC]
    by_cases hk4 : k < 1024
    · have d1 : (k : Int) < 1024 := by omega
      obtain ⟨x, hx⟩ : ∃ x, b.starts[k]? = some x := ⟨_, List.getElem?_eq_getElem (by omega)⟩
      have cs := hrl.start hx
      cases x with
      | false =>
        have hno := lsF_no (B := b.bytes) (L := b.laid) hx
        have HNO := hideIt hno
        clear hrl hx hC hno
        go_wp2
        go_roundw
        case rel => exact ⟨k + 1, by omega, by go_num, by rw [HNO.out, HC.out], HRL.out⟩
        case measure => simp [intOf]; omega
      | true =>
        obtain ⟨hat, hlt, hnx⟩ := lsF_at (B := b.bytes) (L := b.laid) hk4 hx
        rw [HN.out, hC] at hlt
        rw [hC] at hat hnx
        obtain ⟨b2, n, hso⟩ := HST.out k hx
        obtain ⟨g, cap, hgv, cg, hgl⟩ := hrl.list hat
        simp only [Value.slice.injEq] at hgv
        obtain ⟨hva, hq, hvc⟩ := hgv
        subst hva
        clear hq hvc
        obtain ⟨hcut, hcs⟩ := lineT_cut b.bytes b.laid k
        have hlong := hso.long
        have hsmall := hso.size
        have hasm := hso.asm
        have cl := hrl.laid hso.laid
        obtain ⟨LW, hLW⟩ : ∃ LW, lineW b.bytes b.laid k = LW := ⟨_, rfl⟩
        obtain ⟨LT, hLT⟩ : ∃ LT, lineT b.bytes b.laid k = LT := ⟨_, rfl⟩
        rw [hLW] at hcut hcs hlong hsmall hasm
        rw [hLT] at hcut hcs cg
        have g1 : (C : Int) < (N : Int) := by omega
        have g2 : ¬ (LT.size : Int) < 8 := by omega
        have g3 : (5 : Int) ≤ (LT.size : Int) := by omega
        have HSO := hideIt (And.intro hso (And.intro hnx hx))
        obtain ⟨DN, hDN⟩ : ∃ DN, decF 3 k = DN := ⟨_, rfl⟩
        have hDNs : DN.size ≤ 4 := by rw [← hDN]; exact decF_size 3 k
        obtain ⟨O1, hO1⟩ : ∃ O1, (⟨#[111, 114, 103, 32]⟩ : ByteArray) ++ DN = O1 := ⟨_, rfl⟩
        obtain ⟨O2, hO2⟩ : ∃ O2, O1 ++ (⟨#[10]⟩ : ByteArray) = O2 := ⟨_, rfl⟩
        obtain ⟨O3, hO3⟩ : ∃ O3, O2 ++ LW = O3 := ⟨_, rfl⟩
        have e3 : txO k ++ (NL ++ LW) = O3 := by
          rw [← hO3, ← hO2, ← hO1, ← hDN]
          simp only [ByteArray.append_assoc]
          rfl
        rw [e3] at hasm
        have z4 : (⟨#[111, 114, 103, 32]⟩ : ByteArray).size = 4 := rfl
        have z1 : (⟨#[10]⟩ : ByteArray).size = 1 := rfl
        have bO1 : O1.size ≤ 8 := by rw [← hO1, ByteArray.size_append]; omega
        have bO2 : O2.size ≤ 9 := by rw [← hO2, ByteArray.size_append]; omega
        have q1 := add_run _ _ _ hO1 (by omega)
        have q2 := add_run _ _ _ hO2 (by omega)
        have q3 := add_run _ _ _ hO3 (by omega)
        have HDN : Hid (∀ w' : World, Calls Tryz.prog 16 #[.int .i64 (k : Int)] w' fun e w2 => e = .returned (.string DN) ∧ w2 = w') := fun w' => by
          have := decimal_any 3 k (by omega) (by omega) w'
          rw [hDN] at this
          exact this
        obtain ⟨WB, hWB, hBB, hzB, n0, n1, n2⟩ := im_box wr (.slice none 0 0) (.slice none 0 0) (.slice none 0 0)
        have HAW := hideIt (HAM.out O3 b2 wr.drew hasm hrl.blw.drew)
        have HAX := hideIt (HAM.out O3 b2 WB.drew hasm (hrl.blw.trans (hBB.mono hrl.blw.size)).drew)
        have cb : WB.cell? ⟨g, C, none⟩ = some (.string LT) := (World.cell?_of_block (a := ⟨g, C, none⟩) (hBB.block g hgl)).trans cg
        have cgd : wr.drew.cell? ⟨g, C, none⟩ = some (.string LT) := cg
        have cbd : WB.drew.cell? ⟨g, C, none⟩ = some (.string LT) := cb
        have KG : Hid (∀ w' : World, Below wr.drew.heap.size wr.drew w' → w'.cell? ⟨g, C, none⟩ = some (.string LT)) := fun w' hb => (World.cell?_of_block (a := ⟨g, C, none⟩) (w := wr.drew) (hb.block g hgl)).trans cg
        have hhB : WB.heap[wr.heap.size]? = some (.cells #[.slice none 0 0, .slice none 0 0, .slice none 0 0] 35 (0, 0)) := by rw [← hWB]; exact heap_alloc_new wr _
        have KB : Hid (∀ w' : World, Below WB.drew.heap.size WB.drew w' → w'.cell? ⟨g, C, none⟩ = some (.string LT) ∧ w'.cell? ⟨wr.heap.size, 0, none⟩ = some (.slice none 0 0) ∧ w'.cell? ⟨wr.heap.size, 1, none⟩ = some (.slice none 0 0) ∧ w'.cell? ⟨wr.heap.size, 2, none⟩ = some (.slice none 0 0) ∧ w'.frozen? ⟨wr.heap.size, 0, none⟩ = false ∧ w'.frozen? ⟨wr.heap.size, 1, none⟩ = false ∧ w'.frozen? ⟨wr.heap.size, 2, none⟩ = false) := fun w' hb => by
          have hx' : w'.heap[wr.heap.size]? = some (.cells #[.slice none 0 0, .slice none 0 0, .slice none 0 0] 35 (0, 0)) := (hb.block wr.heap.size (by show wr.heap.size < WB.heap.size; omega)).trans hhB
          exact ⟨(World.cell?_of_block (a := ⟨g, C, none⟩) (w := WB.drew) (hb.block g (by show g < WB.heap.size; omega))).trans cb, by rw [cell_of_row _ _ _ _ _ (0, 0) hx']; rfl, by rw [cell_of_row _ _ _ _ _ (0, 0) hx']; rfl, by rw [cell_of_row _ _ _ _ _ (0, 0) hx']; rfl, frozen_of_row w' wr.heap.size 0 _ _ hx', frozen_of_row w' wr.heap.size 1 _ _ hx', frozen_of_row w' wr.heap.size 2 _ _ hx'⟩
        have hgne : ¬ g = wr.heap.size := by omega
        have KS : Hid (∀ (W : World) (v0 v1 v2 : Value), W.cell? ⟨g, C, none⟩ = some (.string LT) → (((W.setCell ⟨wr.heap.size, 0, none⟩ v0).setCell ⟨wr.heap.size, 1, none⟩ v1).setCell ⟨wr.heap.size, 2, none⟩ v2).cell? ⟨g, C, none⟩ = some (.string LT)) := fun W v0 v1 v2 h => by
          rw [World.cell?_setCell_other _ _ _ _ (by simp), World.cell?_setCell_other _ _ _ _ (by simp), World.cell?_setCell_other _ _ _ _ (by simp)]
          exact h
        have HBB := hideIt hBB
        have HWB := hideIt hWB
        clear hrl hx hC hso hnx hat hlt hasm hO1 hO2 hO3 e3 hDN hLW hlong hsmall hcs hDNs bO1 bO2 z4 z1 n0 n1 n2 hBB hhB
        go_upto_region 15 with fail
        go_region_held3 (fun w' => w'.cell? ⟨g, C, none⟩ = some (.string LT)) (first | exact cg | exact cgd | exact cb | exact cbd | exact cg6 | exact KS.out _ _ _ _ cg6 | go_keep) (first | (go_at_call 16; with_reducible refine (HDN.out _).mono ?_; rintro e w5 ⟨rfl, rfl⟩) | (go_at_call 15; with_reducible refine HAW.out.mono ?_; rintro e w6 ⟨ik2, lk2, sk2, rfl, him2, hb6⟩; have cg6 := KG.out _ hb6; have H6 := hideIt (And.intro him2 hb6); clear him2 hb6) | (go_at_call 15; with_reducible refine HAX.out.mono ?_; rintro e w6 ⟨ik2, lk2, sk2, rfl, him2, hb6⟩; obtain ⟨cg6, m0, m1, m2, f0, f1, f2⟩ := KB.out _ hb6; have H6 := hideIt (And.intro him2 hb6); clear him2 hb6))
        all_goals
          first
            | (obtain ⟨WF, hWF, hrl2, hcd⟩ := both_one HRL.out H6.out; rw [hWF]; generalize w6.heap.size = x2 at hcd ⊢)
            | (obtain ⟨WF, hWF, hrl2, hcd⟩ := both_two HRL.out HWB.out H6.out; rw [hWF]; generalize wr.heap.size = x2 at hcd ⊢)
          obtain ⟨p0, p1, p2⟩ := hrl2.cells
          obtain ⟨y0, y1⟩ := hcd.cells
          have HR2 := hideIt (And.intro hrl2 hcd)
          clear hrl2 hcd hWF cg6
          go_upto_region 19 with fail
          go_loopw [14] (fun j wz => ∃ m : Nat, m ≤ 1024 ∧ j = .int .i64 (m : Int) ∧ RlAt w wz w1.heap.size ik lk sk b (.slice (some ⟨g, 0, none⟩) N vc) ∧ CdAt w wz x2 ik2 lk2 sk2 b2) (fun j _ => 1024 - (intOf j).toNat)
          case atStart => exact ⟨0, Nat.zero_le _, rfl, HR2.out.1, HR2.out.2⟩
          case round =>
            clear p0 p1 p2 y0 y1 HR2
            obtain ⟨m, hm, rfl, hrl2, hcd⟩ := hrel
            obtain ⟨p0, p1, p2⟩ := hrl2.cells
            obtain ⟨y0, y1⟩ := hcd.cells
            have HR2 := hideIt (And.intro hrl2 hcd)
            obtain ⟨hso, hnx, hx⟩ := HSO.out
            by_cases hm4 : m < 1024
            · have e1 : (m : Int) < 1024 := by omega
              have cy := hcd.laid hso.laid2 hso.fits hm4
              by_cases hin : k ≤ m ∧ m < k + n
              · obtain ⟨sa, sb⟩ := hso.same m hin.1 hin.2
                have cx := hrl2.laid sa
                have hbl := hrl2.img.bl
                obtain ⟨z, hz⟩ : ∃ z, b.bytes[m]? = some z := ⟨_, List.getElem?_eq_getElem (by omega)⟩
                have cz := hrl2.byte hz
                have cw := hcd.get (sb.trans hz)
                rw [decide_eq_true hin.1, decide_eq_true hin.2, Bool.true_and] at cy
                clear hrl2 hcd hso hnx hx sa sb hz hin hbl
                go_wp2_with fail
                go_quiet (fail)
                go_wp2
                go_roundw
                case rel => exact ⟨m + 1, by omega, by go_num, by first | exact HR2.out.1.drewN _ | exact HR2.out.1.drew, by first | exact HR2.out.2.drewN _ | exact HR2.out.2.drew⟩
                case measure => simp [intOf]; omega
              · have hf : (decide (k ≤ m) && decide (m < k + n)) = false := by
                  rw [Bool.and_eq_false_iff]
                  by_cases e : k ≤ m
                  · exact .inr (decide_eq_false (fun h => hin ⟨e, h⟩))
                  · exact .inl (decide_eq_false e)
                rw [hf] at cy
                clear hrl2 hcd hso hnx hx hin hf
                go_wp2_with fail
                go_quiet (fail)
                go_wp2
                go_roundw
                case rel => exact ⟨m + 1, by omega, by go_num, by first | exact HR2.out.1.drewN _ | exact HR2.out.1.drew, by first | exact HR2.out.2.drewN _ | exact HR2.out.2.drew⟩
                case measure => simp [intOf]; omega
            · have e1 : ¬ (m : Int) < 1024 := by omega
              clear hrl2 hcd hso hnx hx
              go_wp2
              go_roundw
              case rel => exact ⟨k + 1, by omega, by go_num, by rw [HSO.out.2.1]; go_num, HR2.out.1⟩
              case measure => simp [intOf]; omega
    · have d1 : ¬ (k : Int) < 1024 := by omega
      have hke : C = N := by rw [← hC, ← HN.out, show k = 1024 by omega]
      have hke2 : (C : Int) = (N : Int) := by omega
      clear hrl hC
      subst hke
      go_wp2
      go_ret
      exact ⟨rfl, HRL.out.blw⟩
end Go.Proofs.YthokdbcpkmcieaaGreatDoor
namespace Go.Proofs.YthokdbcpkmcieaaGreatDoor
open Go Go.RowKit
theorem relisted_any (w : World) (src : ByteArray) (mm : Int) (_hs : src.size ≤ maxLen) (hmm : w.cell? ⟨0, 0, none⟩ = some (.int .i64 mm)) :
    Calls Tryz.prog 5 #[.string src] w fun e w' => e = .returned (.bool true) ∧ Below w.heap.size w w' := by
  cases h : asmF src with
  | error q => exact relisted_bad w src q mm h hmm
  | ok b => exact relisted_ok w src b mm h hmm
end Go.Proofs.YthokdbcpkmcieaaGreatDoor
