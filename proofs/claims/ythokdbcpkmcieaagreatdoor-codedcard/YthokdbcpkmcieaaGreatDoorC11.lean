/- The walk of Coded. Coded: for every argument and every world. Coded: a world for the witness. -/
import Derived.Test.YthokdbcpkmcieaaGreatDoorC10
import Derived.Test.YthokdbcpkmcieaaGreatDoorA39
import Derived.BigQuiet
import Derived.Laws.Concat
import Derived.Test.YthokdbcpkmcieaaGreatDoorShelf
import Derived.ProofKit
import Derived.ChangeMaps5
import Derived.Deep.DeepHandedRow
import Derived.Deep.Slices
import Derived.Test.YthokdbcpkmcieaaGreatDoorCards
import Derived.Test.YthokdbcpkmcieaaGreatDoorTie
namespace Go.Proofs.YthokdbcpkmcieaaGreatDoor
open Go Go.RowKit Go.Shelf Go.WideMaps Go.Maps
/-- An image in memory, its box at x1. -/
structure CdAt (w wz : World) (x1 ik lk sk : Nat) (b1 : Asm) : Prop where
  c1 : wz.heap[x1]? = some (.cells #[.slice (some ⟨ik, 0, none⟩) 1024 1024, .slice (some ⟨lk, 0, none⟩) 1024 1024, .slice (some ⟨sk, 0, none⟩) 1024 1024] 35 (0, 0))
  y1 : YRow wz ik b1.bytes
  l1 : BRow wz lk b1.laid
  blw : Below w.heap.size w wz
theorem CdAt.drewN {w wz : World} {x1 ik lk sk : Nat} {b1 : Asm} (h : CdAt w wz x1 ik lk sk b1) (m : Nat) : CdAt w (wz.drewN m) x1 ik lk sk b1 := ⟨h.c1, h.y1.kept rfl, h.l1.kept rfl, below_drewN h.blw m⟩
theorem CdAt.drew {w wz : World} {x1 ik lk sk : Nat} {b1 : Asm} (h : CdAt w wz x1 ik lk sk b1) : CdAt w wz.drew x1 ik lk sk b1 := ⟨h.c1, h.y1.kept rfl, h.l1.kept rfl, h.blw.drew⟩
theorem CdAt.cells {w wz : World} {x1 ik lk sk : Nat} {b1 : Asm} (h : CdAt w wz x1 ik lk sk b1) : wz.cell? ⟨x1, 0, none⟩ = some (.slice (some ⟨ik, 0, none⟩) 1024 1024) ∧ wz.cell? ⟨x1, 1, none⟩ = some (.slice (some ⟨lk, 0, none⟩) 1024 1024) :=
  ⟨by rw [cell_of_row _ _ _ _ _ (0, 0) h.c1]; rfl, by rw [cell_of_row _ _ _ _ _ (0, 0) h.c1]; rfl⟩
theorem CdAt.laid {w wz : World} {x1 ik lk sk p n : Nat} {b1 : Asm} (h : CdAt w wz x1 ik lk sk b1) (e : b1.laid = layB p n) (hp : p + n ≤ 1024) {k : Nat} (hk : k < 1024) : wz.cell? ⟨lk, k, none⟩ = some (.bool (decide (p ≤ k) && decide (k < p + n))) := by
  have hg := layB_at p n k hk hp
  rw [← e] at hg
  obtain ⟨hi, e2⟩ := List.getElem?_eq_some_iff.1 hg
  rw [h.l1.cell k hi, e2]
theorem CdAt.byte {w wz : World} {x1 ik lk sk p n : Nat} {b1 : Asm} {code : ByteArray} (h : CdAt w wz x1 ik lk sk b1) (e : b1.bytes = byt p ((bI code).take n)) (hn : n ≤ code.size) {k : Nat} (h1 : p ≤ k) (h2 : k < p + n) {q : Nat} (hq : k - p = q) (hq2 : q < code.size) : wz.cell? ⟨ik, k, none⟩ = some (.int .u8 ((code[q]'hq2).toNat : Int)) := by
  have hg := byt_at code p n k h1 h2 hn
  rw [← e, hq] at hg
  obtain ⟨hi, e2⟩ := List.getElem?_eq_some_iff.1 hg
  rw [h.y1.cell k hi, e2]
  have hl : q < code.data.toList.length := by rw [Array.length_toList]; exact hq2
  rw [List.getD_eq_getElem?_getD, List.getElem?_eq_getElem hl]
  rfl
theorem box_one (w : World) (ik lk sk : Nat) : ∃ W, w.alloc (.cells #[.slice (some ⟨ik, 0, none⟩) 1024 1024, .slice (some ⟨lk, 0, none⟩) 1024 1024, .slice (some ⟨sk, 0, none⟩) 1024 1024] 35) = W ∧ Below w.heap.size w W ∧ W.heap.size = w.heap.size + 1 ∧ W.heap[w.heap.size]? = some (.cells #[.slice (some ⟨ik, 0, none⟩) 1024 1024, .slice (some ⟨lk, 0, none⟩) 1024 1024, .slice (some ⟨sk, 0, none⟩) 1024 1024] 35 (0, 0)) :=
  ⟨_, rfl, (Below.refl _ _).alloc (Nat.le_refl _) _, by simp, heap_alloc_new w _⟩
set_option maxHeartbeats 1000000 in
theorem short_any (code : ByteArray) (h : 0 < code.size) (hs : code[0].toNat = 165 ∨ code.size < 3) (hc2 : code.size ≤ maxLen) (w : World) :
    Calls Tryz.prog 14 #[.string code] w fun e w' => e = .returned (.bool true) ∧ w' = w := by
  unfold maxLen at hc2
  by_cases h5 : code[0].toNat = 165
  · have hb : ((code[0].toNat : Int) == 165) = true := by simp; omega
    go_enter Tryz.func14, Tryz.ntmps14
    go_wp2
    go_ret
    exact ⟨rfl, rfl⟩
  · have hb : ((code[0].toNat : Int) == 165) = false := by simp; omega
    have h3 : (code.size : Int) < 3 := by omega
    go_enter Tryz.func14, Tryz.ntmps14
    go_wp2
    go_ret
    exact ⟨rfl, rfl⟩
set_option maxRecDepth 100000 in
theorem dec_first : decA ⟨#[2, 18, 52]⟩ 0 = (⟨#[76, 74, 77, 80, 32, 48, 120, 49, 50, 51, 52]⟩, 3) := by decide +kernel
set_option maxRecDepth 100000 in
set_option maxHeartbeats 8000000 in
theorem coded_any (w : World) (code : ByteArray) (at' mm : Int) (hc2 : code.size ≤ maxLen) (hat : -9223372036854775808 ≤ at' ∧ at' ≤ 9223372036854775807) (hmm : w.cell? ⟨0, 0, none⟩ = some (.int .i64 mm)) :
    Calls Tryz.prog 4 #[.string code, .int .i64 at'] w fun e w' => e = .returned (.bool true) ∧ Below w.heap.size w w' := by
  obtain ⟨p, hpp⟩ : ∃ p, kpF at' 1022 = p := ⟨_, rfl⟩
  have hp : p ≤ 1021 := by have := kpF_lt at' 1022 (by omega); omega
  have h0w : 0 < w.heap.size := World.block_lt_of_cell? _ _ hmm
  have MM : Hid (∀ w' : World, Below w.heap.size w w' → w'.cell? ⟨0, 0, none⟩ = some (.int .i64 mm)) := fun w' hb => (World.cell?_of_block (a := ⟨0, 0, none⟩) (hb.block 0 h0w)).trans hmm
  have HPB : Hid (∀ w' : World, Calls Tryz.prog 12 #[.int .i64 at', .int .i64 1022] w' fun e w2 => e = .returned (.int .i64 (p : Int)) ∧ w2 = w') := fun w' => by
    have := kpick_any at' 1022 hat.1 hat.2 (by omega) (by omega) w'
    rw [hpp] at this
    exact this
  obtain ⟨S, hS⟩ : ∃ S, (decA code (p : Int)).1 = S := ⟨_, rfl⟩
  obtain ⟨N, hN⟩ : ∃ N, (decA code (p : Int)).2 = N := ⟨_, rfl⟩
  have hln := dec_ln code p hp
  rw [hS, hN] at hln
  have HD1 : Hid (∀ w' : World, Below w.heap.size w w' → Calls Tryz.prog 13 #[.string code, .int .i64 (p : Int)] w' fun e w2 => e = .returned (.tuple #[.string S, .int .i64 (N : Int)]) ∧ Below w'.heap.size w' w2) := fun w' hb => by
    have := bDecode_any code (p : Int) hc2 w' mm (MM.out w' hb) (Nat.lt_of_lt_of_le h0w hb.size)
    rw [hS, hN] at this
    exact this
  have HD2 : Hid (∀ w' : World, Below w.heap.size w w' → Calls Tryz.prog 13 #[.string ⟨#[2, 18, 52]⟩, .int .i64 0] w' fun e w2 => e = .returned (.tuple #[.string ⟨#[76, 74, 77, 80, 32, 48, 120, 49, 50, 51, 52]⟩, .int .i64 3]) ∧ Below w'.heap.size w' w2) := fun w' hb => by
    have := bDecode_any ⟨#[2, 18, 52]⟩ 0 (by decide) w' mm (MM.out w' hb) (Nat.lt_of_lt_of_le h0w hb.size)
    rw [dec_first] at this
    exact this
  have HB0 : Hid (Below w.heap.size w w) := Below.refl _ _
  have hci : (code.size : Int) ≤ 9223372036854775807 := by unfold maxLen at hc2; omega
  clear hS hN hmm hpp
  rcases hln with ⟨rfl, rfl, hcase⟩ | ⟨x, hx⟩
  · by_cases he : code.size = 0
    · have hem : code.toList.isEmpty = true := by rw [isEmpty_iff]; simp only [decide_eq_true_eq]; omega
      clear hcase
      go_enter Tryz.func4, Tryz.ntmps4
      go_upto_region 2 with (first | (go_at_call 12; refine (HPB.out _).mono ?_; rintro e w2 ⟨rfl, hw2⟩; obtain rfl := hw2.symm; clear hw2))
      go_upto_region 3 with (first | (go_at_call 13; refine (HD1.out _ HB0.out).mono ?_; rintro e w3 ⟨rfl, hb3⟩; have HB3 := hideIt hb3; clear hb3))
      go_upto_region 4 with (first | (go_at_call 13; refine (HD2.out _ HB3.out).mono ?_; rintro e w4 ⟨rfl, hb4⟩; have HB4 := hideIt (HB3.out.trans (hb4.mono HB3.out.size)); clear hb4))
      go_wp2
      go_ret
      exact ⟨rfl, HB4.out⟩
    · have hem : code.toList.isEmpty = false := by rw [isEmpty_iff]; simp only [decide_eq_false_iff_not]; omega
      have hsz : 0 < code.size := by omega
      have HSH : Hid (∀ w' : World, Calls Tryz.prog 14 #[.string code] w' fun e w2 => e = .returned (.bool true) ∧ w2 = w') := fun w' => by
        refine short_any code hsz ?_ hc2 w'
        rcases hcase with h | ⟨_, h⟩ | h
        · exact absurd h he
        · exact .inl h
        · exact .inr h
      clear hcase
      go_enter Tryz.func4, Tryz.ntmps4
      go_upto_region 2 with (first | (go_at_call 12; refine (HPB.out _).mono ?_; rintro e w2 ⟨rfl, hw2⟩; obtain rfl := hw2.symm; clear hw2))
      go_upto_region 3 with (first | (go_at_call 13; refine (HD1.out _ HB0.out).mono ?_; rintro e w3 ⟨rfl, hb3⟩; have HB3 := hideIt hb3; clear hb3))
      go_upto_region 4 with (first | (go_at_call 13; refine (HD2.out _ HB3.out).mono ?_; rintro e w4 ⟨rfl, hb4⟩; have HB4 := hideIt (HB3.out.trans (hb4.mono HB3.out.size)); clear hb4))
      go_wp2_with (first | (go_at_call 14; refine (HSH.out _).mono ?_; rintro e w5 ⟨rfl, rfl⟩))
      go_ret
      exact ⟨rfl, HB4.out⟩
  · have n1 := hx.n1
    have n3 := hx.n3
    have hle := hx.le
    have hSs := hx.size
    obtain ⟨b1, ha, hl1, hy1⟩ := asm_one hx (by omega) (by omega)
    have hem : S.toList.isEmpty = false := by rw [isEmpty_iff]; simp only [decide_eq_false_iff_not]; have := hx.ne; omega
    have g1 : ¬ (N : Int) < 0 := by omega
    have g2 : ¬ (3 : Int) < (N : Int) := by omega
    have g3 : ¬ (code.size : Int) < (N : Int) := by omega
    have g4 : ((N : Int) == 0) = false := by simp; omega
    have g5 : ¬ (N : Int) = 0 := by omega
    obtain ⟨DN, hDN⟩ : ∃ DN, decF 3 p = DN := ⟨_, rfl⟩
    have hDNs : DN.size ≤ 4 := by rw [← hDN]; exact decF_size 3 p
    obtain ⟨O1, hO1⟩ : ∃ O1, (⟨#[111, 114, 103, 32]⟩ : ByteArray) ++ DN = O1 := ⟨_, rfl⟩
    obtain ⟨O2, hO2⟩ : ∃ O2, O1 ++ (⟨#[10]⟩ : ByteArray) = O2 := ⟨_, rfl⟩
    obtain ⟨O3, hO3⟩ : ∃ O3, O2 ++ S = O3 := ⟨_, rfl⟩
    have e3 : txO p ++ (NL ++ S) = O3 := by
      rw [← hO3, ← hO2, ← hO1, ← hDN]
      simp only [ByteArray.append_assoc]
      rfl
    rw [e3] at ha
    have z4 : (⟨#[111, 114, 103, 32]⟩ : ByteArray).size = 4 := rfl
    have z1 : (⟨#[10]⟩ : ByteArray).size = 1 := rfl
    have bO1 : (O1.size : Int) ≤ 8 := by rw [← hO1, ByteArray.size_append]; omega
    have bO2 : (O2.size : Int) ≤ 9 := by rw [← hO2, ByteArray.size_append]; omega
    have bDN : (DN.size : Int) ≤ 4 := by omega
    have bSS : (S.size : Int) ≤ 100 := by omega
    have HDN : Hid (∀ w' : World, Calls Tryz.prog 16 #[.int .i64 (p : Int)] w' fun e w2 => e = .returned (.string DN) ∧ w2 = w') := fun w' => by
      have := decimal_any 3 p (by omega) (by omega) w'
      rw [hDN] at this
      exact this
    have HA : Hid (∀ w' : World, Below w.heap.size w w' → Calls Tryz.prog 15 #[.string O3] w' fun e w2 => ∃ ik lk sk, e = .returned (.tuple #[.agg #[.slice (some ⟨ik, 0, none⟩) 1024 1024, .slice (some ⟨lk, 0, none⟩) 1024 1024, .slice (some ⟨sk, 0, none⟩) 1024 1024], .int .i64 0, .int .i64 0]) ∧ ImgAt w' b1 ik lk sk w2 ∧ Below w'.heap.size w' w2) := fun w' hb => bAssemble_ok O3 b1 mm w' (MM.out w' hb) ha
    have HLY := hideIt (And.intro hl1 (And.intro hy1 hle))
    clear hx ha hl1 hy1 hDN e3 hle hSs
    go_enter Tryz.func4, Tryz.ntmps4
    go_upto_region 2 with (first | (go_at_call 12; refine (HPB.out _).mono ?_; rintro e w2 ⟨rfl, hw2⟩; obtain rfl := hw2.symm; clear hw2))
    go_upto_region 3 with (first | (go_at_call 13; refine (HD1.out _ HB0.out).mono ?_; rintro e w3 ⟨rfl, hb3⟩; have HB3 := hideIt hb3; clear hb3))
    go_upto_region 4 with (first | (go_at_call 13; refine (HD2.out _ HB3.out).mono ?_; rintro e w4 ⟨rfl, hb4⟩; have HB4 := hideIt (HB3.out.trans (hb4.mono HB3.out.size)); clear hb4))
    go_upto_region 9 with (first | (go_at_call 16; refine (HDN.out _).mono ?_; rintro e w5 ⟨rfl, rfl⟩) | (go_at_call 15; refine (HA.out _ HB4.out).mono ?_; rintro e w6 ⟨ik, lk, sk, rfl, him, hb6⟩))
    obtain ⟨W1, hW1, hB1, hz1, hh1⟩ := box_one w6 ik lk sk
    rw [hW1]
    have hbw6 : Below w.heap.size w w6 := HB4.out.trans (hb6.mono HB4.out.size)
    have hcd : CdAt w W1 w6.heap.size ik lk sk b1 := ⟨hh1, him.1.kept (hB1.block _ him.1.lt), him.2.1.kept (hB1.block _ him.2.1.lt), hbw6.trans (hB1.mono hbw6.size)⟩
    obtain ⟨u0, u1⟩ := hcd.cells
    have HCD := hideIt hcd
    clear hcd him hb6 hW1 hB1 hh1 hbw6
    go_wp2_with fail
    go_loopw [13] (fun i wz => ∃ k : Nat, k ≤ 1024 ∧ i = .int .i64 k ∧ CdAt w wz w6.heap.size ik lk sk b1) (fun i _ => 1024 - (intOf i).toNat)
    case atStart => exact ⟨0, Nat.zero_le _, rfl, HCD.out⟩
    case round =>
      clear u0 u1 HCD
      obtain ⟨k, hk, rfl, hcd⟩ := hrel
      obtain ⟨u0, u1⟩ := hcd.cells
      have HCZ := hideIt hcd
      obtain ⟨hl1, hy1, hle⟩ := HLY.out
      obtain ⟨PN, hPN⟩ : ∃ PN : Nat, p + N = PN := ⟨_, rfl⟩
      have hpn : (p : Int) + (N : Int) = (PN : Int) := by omega
      have hwp : IntKind.i64.wrap (PN : Int) = (PN : Int) := by rw [IntKind.wrap_i64]; omega
      by_cases hk4 : k < 1024
      · have hki : (k : Int) < 1024 := by omega
        have cl := hcd.laid hl1 (by omega) hk4
        by_cases hkp : k < p
        · have d1 : ((p : Int) ≤ (k : Int)) = False := eq_false (by omega)
          have d2 : decide ((p : Int) ≤ (k : Int)) = false := decide_eq_false (by omega)
          rw [decide_eq_false (by omega : ¬ p ≤ k), Bool.false_and] at cl
          clear hcd hl1 hy1 hle hPN
          go_upto_region 15 with fail
          go_quiet (fail)
          go_wp2
          go_roundw
          case rel => exact ⟨k + 1, by omega, by go_num, by first | exact HCZ.out.drewN _ | exact HCZ.out.drew⟩
          case measure => simp [intOf]; omega
        · have d1 : (p : Int) ≤ (k : Int) := by omega
          have d2 : decide ((p : Int) ≤ (k : Int)) = true := decide_eq_true d1
          by_cases hkn : k < PN
          · have d3 : (k : Int) < (PN : Int) := by omega
            have d4 : decide ((k : Int) < (PN : Int)) = true := decide_eq_true d3
            rw [decide_eq_true (by omega : p ≤ k), decide_eq_true (by omega : k < p + N), Bool.true_and] at cl
            obtain ⟨q, hq⟩ : ∃ q, k - p = q := ⟨_, rfl⟩
            have hq2 : q < code.size := by omega
            have cb := hcd.byte hy1 hle (by omega) (by omega) hq hq2
            have hqi : (k : Int) - (p : Int) = (q : Int) := by omega
            have hwq : IntKind.i64.wrap (q : Int) = (q : Int) := by rw [IntKind.wrap_i64]; omega
            have hqs : (q : Int) < (code.size : Int) := by omega
            clear hcd hl1 hy1 hle hPN hq
            go_upto_region 15 with fail
            go_quiet (fail)
            go_wp2
            go_roundw
            case rel => exact ⟨k + 1, by omega, by go_num, by first | exact HCZ.out.drewN _ | exact HCZ.out.drew⟩
            case measure => simp [intOf]; omega
          · have d3 : ((k : Int) < (PN : Int)) = False := eq_false (by omega)
            have d4 : decide ((k : Int) < (PN : Int)) = false := decide_eq_false (by omega)
            rw [decide_eq_true (by omega : p ≤ k), decide_eq_false (by omega : ¬ k < p + N), Bool.true_and] at cl
            clear hcd hl1 hy1 hle hPN
            go_upto_region 15 with fail
            go_quiet (fail)
            go_wp2
            go_roundw
            case rel => exact ⟨k + 1, by omega, by go_num, by first | exact HCZ.out.drewN _ | exact HCZ.out.drew⟩
            case measure => simp [intOf]; omega
      · have hki : ¬ (k : Int) < 1024 := by omega
        clear hcd hl1 hy1 hle hPN
        go_wp2
        go_ret
        exact ⟨rfl, HCZ.out.blw⟩
end Go.Proofs.YthokdbcpkmcieaaGreatDoor
namespace Go.Proofs.YthokdbcpkmcieaaGreatDoor
open Go Go.ChangeShapes Go.ChangeMaps Go.WideShapes Go.ChangeAt Go.RowKit Go.WideElems Go.Deep
theorem Tryz.ownCod : ownKnob Tryz.prog.godebug = none := by kernel_rfl
theorem maxLen_cellCod (W : World) (h : W.ShapedOpen Tryz.prog) : ∃ m, W.cell? ⟨0, 0, none⟩ = some (.int .i64 m) := Tryz.laysM145.s1_3 W h
set_option maxRecDepth 100000 in
set_option maxHeartbeats 1000000 in
theorem coded_contract (H : Type) (enc : TypeId × Value → H) (W : World) (base : Nat) (args : Array Value) (ds gs : List (DataW H)) (before : List MemPlace)
    (hval : ∀ (j : Nat) t v, Tryz.f4.params[j]? = some t → args[j]? = some v → Value.okWide Tryz.prog W .any base t v)
    (hW : DataW.Whole enc Tryz.prog Tryz.f4.params.toList Rows.codedSpec.vars false W args.toList ds gs before) (hsh : W.ShapedOpen Tryz.prog) :
    Calls Tryz.prog 4 args W fun e W' => ∃ v, e = .returned v ∧ Rows.codedSpec.post enc Tryz.prog Tryz.f4 false true false false W args v W' := by
  obtain ⟨mm, hm⟩ := maxLen_cellCod W hsh
  have hW' := hW
  obtain ⟨p, q, hA0, hV, rfl, hfz, hnd⟩ := hW
  have hA : DataW.TrodAll enc Tryz.prog W 0 (fun _ => true) true Tryz.f4.params.toList args.toList ds p := hA0
  rw [Tryz.params4] at hA hval
  obtain ⟨v0, vs0, d0, ds0, p0, q0, hargs, rfl, rfl, h0, r0⟩ := trodAll_cons hA
  obtain ⟨v1, vs1, d1, ds1, p1, q1, rfl, rfl, rfl, h1, r1⟩ := trodAll_cons r0
  obtain ⟨rfl, rfl, rfl⟩ := trodAll_nil r1
  obtain rfl : args = #[v0, v1] := by cases args; simp_all
  obtain ⟨rfl, rfl⟩ := trodVars_none hV
  obtain ⟨x0, rfl, rfl, rfl, hx0⟩ := open_string Tryz.underlying9 (hval 0 9 v0 rfl rfl) h0
  obtain ⟨x1, rfl, rfl, rfl, hw1⟩ := open_int Tryz.underlying3 (hval 1 3 v1 rfl rfl) h1
  have hx1 : -9223372036854775808 ≤ x1 ∧ x1 ≤ 9223372036854775807 := by simpa [Lit.wf, IntKind.min, IntKind.max, IntKind.signed, IntKind.bits] using hw1
  refine (coded_any W x0 x1 mm hx0 hx1 hm).mono fun e W' ⟨he, hB⟩ => ?_
  subst he
  simp only [List.append_nil] at hW'
  refine ⟨_, rfl, _, _, _, [], [] ++ [], [], hW', ?_, ?_, rfl, hB.frame _, fun h => by cases h⟩
  · exact trodAll_mk1 (shut_bool Tryz.underlying4 _)
  · exact trodAll_cons_mk (Below.trod Tryz.laidOut (by kernel_rfl) (of_decide_eq_true (by kernel_rfl)) h0 hB (fun x hx => by cases hx)) (trodAll_cons_mk (Below.trod Tryz.laidOut (by kernel_rfl) (of_decide_eq_true (by kernel_rfl)) h1 hB (fun x hx => by cases hx)) trodAll_mk0)
end Go.Proofs.YthokdbcpkmcieaaGreatDoor
namespace Go.Proofs.YthokdbcpkmcieaaGreatDoor
open Go Go.ChangeShapes Go.WideShapes Go.ChangeAt Go.RowKit Go.WideElems Go.Deep
/-- The numbers of a table, cell by cell. -/
def cells2Cod : DataW Unit → List Value
  | .lit (.int k n) => [.int k n]
  | .agg l => l.flatMap fun
    | .lit (.int k n) => [.int k n]
    | _ => []
  | _ => []
def cells3Cod : DataW Unit → List Value
  | .agg l => l.flatMap cells2Cod
  | _ => []
def putInCod (cs : List Value) : Obj → Obj
  | .cells _ t frozen => .cells cs.toArray t frozen
  | o => o
set_option maxRecDepth 100000 in
/-- A world for the witness: the settled one, each listed variable holding what it is listed with. -/
theorem witness_worldCod (os : Os) : ∃ w0 : World, w0.os = os ∧ (w0.forCall (fun _ _ => 0) ⟨#[], #[.string ⟨#[]⟩, .int .i64 0], []⟩).variablesB Tryz.checked.prog = true ∧
    ((w0.forCall (fun _ _ => 0) ⟨#[], #[.string ⟨#[]⟩, .int .i64 0], []⟩).heap.toList.drop Tryz.checked.prog.globals.size).take ((begin Tryz.checked.prog (fun _ _ => 0) default).world.heap.size - Tryz.checked.prog.globals.size) = (begin Tryz.checked.prog (fun _ _ => 0) default).world.heap.toList.drop Tryz.checked.prog.globals.size ∧
    Input.okWideB Tryz.checked.prog (w0.forCall (fun _ _ => 0) ⟨#[], #[.string ⟨#[]⟩, .int .i64 0], []⟩) 4 ⟨#[], #[.string ⟨#[]⟩, .int .i64 0], []⟩ = true ∧
    laidMet Tryz.prog Rows.codedRow.laid (w0.forCall (fun _ _ => 0) ⟨#[], #[.string ⟨#[]⟩, .int .i64 0], []⟩).memory ∧
    (∀ (H : Type) (enc : TypeId × Value → H), ∃ places, DataW.whole enc Tryz.prog (w0.forCall (fun _ _ => 0) ⟨#[], #[.string ⟨#[]⟩, .int .i64 0], []⟩).memory Tryz.f4.params.toList Rows.codedSpec.vars false #[Value.string ⟨#[]⟩, Value.int .i64 0].toList 8 = some ([.lit (.string []), .lit (.int .i64 0)], [], places)) :=
  ⟨{ World.holding Tryz.prog os ⟨#[], #[], []⟩ with heap := ((((((((((World.holding Tryz.prog os ⟨#[], #[], []⟩).heap.modify 1 (putInCod (cells3Cod Rows.laid_unicode_utf8_first))).modify 2 (putInCod (cells3Cod Rows.laid_unicode_utf8_acceptRanges))).modify 3 (putInCod (cells3Cod Rows.laid_internal_strconv_uint64pow10))).modify 4 (putInCod [.iface 402 (.pointer (some ⟨(World.holding Tryz.prog os ⟨#[], #[], []⟩).heap.size, 0, none⟩))])).modify 5 (putInCod [.iface 402 (.pointer (some ⟨(World.holding Tryz.prog os ⟨#[], #[], []⟩).heap.size + 1, 0, none⟩))])).modify 6 (putInCod (cells3Cod Rows.laid_math_bits_deBruijn32tab))).modify 7 (putInCod (cells3Cod Rows.laid_math_bits_deBruijn64tab))).push (.cells #[.string ⟨#[105, 110, 118, 97, 108, 105, 100, 32, 115, 121, 110, 116, 97, 120]⟩] 404)).push (.cells #[.string ⟨#[118, 97, 108, 117, 101, 32, 111, 117, 116, 32, 111, 102, 32, 114, 97, 110, 103, 101]⟩] 404)) },
    rfl, by kernel_rfl, by kernel_rfl, by kernel_rfl, laidMet_of_run' 8 (by kernel_rfl) (by kernel_rfl), fun _ _ => ⟨[], by kernel_rfl⟩⟩
end Go.Proofs.YthokdbcpkmcieaaGreatDoor
