/- The walk of Once. -/
import Derived.Test.YthokdbcpkmcieaaBrdX
namespace Go.Proofs.Ythokdbcpkmcieaa
open Go Go.RowKit
theorem isEmptyB (r : ByteArray) (h : 0 < r.size) : r.toList.isEmpty = false := by
  rw [ByteArray.toList_eq]
  have h' : r.size = r.data.toList.length := (Array.length_toList (xs := r.data)).symm
  rw [h'] at h
  cases hl : r.data.toList with
  | nil => rw [hl] at h; simp at h
  | cons x l => rfl
/-- A board hears a frame. -/
theorem hears_as {bb : Nat} {b b' : Brd} {q out : List UInt8} (h : bhearF b (frameF q) = (b', out)) (hq : q.length ≤ 80) (w : World) (hb : BrdAt w bb b) :
    Calls Try.prog 23 #[.pointer (some ⟨bb, 0, none⟩), .string (txt (frameF q))] w fun e w' => e = .returned (.string (txt out)) ∧ BrdAt w' bb b' ∧ w.grownBy w' (some bb) := by
  have hfl := frameF_le q
  have := bbHear_any bb b (txt (frameF q)) w hb (by rw [txtB_size]; omega)
  rw [txtB_list, h] at this
  exact this
theorem frames_as (q : List UInt8) (h1 : 1 ≤ q.length) (h2 : q.length ≤ 80) (w : World) : Calls Try.prog 13 #[.string (txt q)] w fun e w' => e = .returned (.tuple #[.string (txt (frameF q)), .int .i64 0]) ∧ Below w.heap.size w w' := by
  have := bframe_any (txt q) w (by rw [txtB_size]; exact h1) (by rw [txtB_size]; exact h2)
  rw [txtB_list] at this
  exact this
set_option maxRecDepth 100000 in
set_option maxHeartbeats 4000000 in
theorem once_any (ca : Option Addr) (cn cc : Nat) (times number : Int) (w : World) (hcn : cn ≤ 9223372036854775807) (ht1 : -9223372036854775808 ≤ times) (ht2 : times ≤ 9223372036854775807) (hn1 : -9223372036854775808 ≤ number) (hn2 : number ≤ 9223372036854775807) (hc : IntsIn w ca cn) :
    Calls Try.prog 6 #[.slice ca cn cc, .int .i64 times, .int .i64 number] w fun e w' => e = .returned (.bool true) ∧ Below w.heap.size w w' := by
  have HC := hideIt hc
  have HPT := hideIt (fun w' => pick_any times 5 ht1 ht2 (by decide) (by decide) w')
  have HPN := hideIt (fun w' => pick_any number 256 hn1 hn2 (by decide) (by decide) w')
  clear hc
  go_enter Try.func6, Try.ntmps6
  go_wp2_with fail
  refine (newBoard_any w).mono ?_
  rintro e w1 ⟨bb, rfl, hbb, hB1, hb1⟩
  have HASK : Hid (∀ w', BrdAt w' bb brd0 → Calls Try.prog 19 #[.pointer (some ⟨bb, 0, none⟩), .string ⟨#[0, 5, 0, 1]⟩] w' fun e w'' => e = .returned (.tuple #[.string ⟨#[1]⟩, .bool true]) ∧ BrdAt w'' bb once1 ∧ w'.grownBy w'' (some bb)) := fun w' h' => ask_of bb brd0 once1 [0, 5, 0, 1] [0, 5, 0, 1] w' h' (by decide) (by decide) open_0 (by decide) (by decide) rfl
  have HI1 := hideIt (And.intro hB1 hb1)
  clear hB1 hb1
  go_wp2_with fail
  refine (HASK.out w1 HI1.out.1).mono ?_
  rintro e w2 ⟨rfl, hB2, hG2⟩
  have HI2 := hideIt (And.intro hB2 (grown_to_below HI1.out.2 hG2 hbb))
  clear hB2 hG2 HASK HI1
  go_wp2_with fail
  refine (data_any ca cn cc 9 w2 hcn (by decide) (by decide) (HC.out.below HI2.out.2)).mono ?_
  rintro e w3 ⟨D, hD, rfl, hb3⟩
  have HI3 := hideIt (And.intro (HI2.out.1.below hb3) (HI2.out.2.trans (hb3.mono HI2.out.2.size)))
  clear hb3 HI2
  have HPG : Hid (∀ w', Calls Try.prog 20 #[.int .i64 1, .int .i64 4, .string (txt D)] w' fun e w'' => e = .returned (.string (txt ([0, 5, 1, 2, 4] ++ D))) ∧ Below w'.heap.size w' w'') := fun w' => page_any 1 4 (by decide) (by decide) D hD w'
  have hml := page_len 0 5 1 4 D hD
  have HFR := hideIt (fun w' => frames_as ([0, 5, 1, 2, 4] ++ D) (by omega) (by omega) w')
  have HH2 := hideIt (fun w' h' => hears_as (bb := bb) (once_2 D hD) (by omega) w' h')
  have HH3 := hideIt (fun w' h' => hears_as (bb := bb) (once_again D hD) (by omega) w' h')
  have HEL : Hid (∀ w', BrdAt w' bb (once3 D) → Calls Try.prog 23 #[.pointer (some ⟨bb, 0, none⟩), .string (txt (frameF [0, 6, 2, 4]))] w' fun e w'' => e = .returned (.string ⟨#[]⟩) ∧ BrdAt w'' bb (once3 D) ∧ w'.grownBy w'' (some bb)) := fun w' h' => hears_as (bb := bb) (once_else D) (by decide) w' h'
  have HFE : Hid (∀ w', Calls Try.prog 13 #[.string ⟨#[0, 6, 2, 4]⟩] w' fun e w'' => e = .returned (.tuple #[.string (txt (frameF [0, 6, 2, 4])), .int .i64 0]) ∧ Below w'.heap.size w' w'') := fun w' => frames_as [0, 6, 2, 4] (by decide) (by decide) w'
  have HFL2 := hideIt (fun w' (h' : BrdAt w' bb (once2 D)) => bbFlash_any bb (once2 D) w' h')
  have HFL3 := hideIt (fun w' (h' : BrdAt w' bb (once3 D)) => bbFlash_any bb (once3 D) w' h')
  have HCUT : Hid (∀ w', BrdAt w' bb (once2 D) → Calls Try.prog 22 #[.pointer (some ⟨bb, 0, none⟩), .int .i64 0, .int .i64 255] w' fun e w'' => e = .returned (.tuple #[]) ∧ BrdAt w'' bb (once3 D) ∧ w'.grownBy w'' (some bb)) := fun w' h' => bbCut_any bb (once2 D) 0 255 (by decide) (by decide) w' h'
  have HON : Hid (∀ w', BrdAt w' bb (once3 D) → Calls Try.prog 24 #[.pointer (some ⟨bb, 0, none⟩)] w' fun e w'' => e = .returned (.bool true) ∧ w'' = w') := fun w' h' => bbOn_any bb (once3 D) w' h'
  have HBU : Hid (∀ w', BrdAt w' bb (once3 D) → Calls Try.prog 26 #[.pointer (some ⟨bb, 0, none⟩)] w' fun e w'' => e = .returned (.int .i64 16) ∧ Below w'.heap.size w' w'') := fun w' h' => by
    have := bbBurnt_any bb (once3 D) w' h'
    rw [show bitsF (once3 D).mem = 16 from once_bits D hD] at this
    exact this
  have HLA : Hid (∀ (k : Nat) (E : List UInt8), E.length = 64 → k < 256 → k ≠ 1 → k ≠ 2 → ∀ w', BrdAt w' bb (once3 D) → Calls Try.prog 23 #[.pointer (some ⟨bb, 0, none⟩), .string (txt (frameF ([0, 5, UInt8.ofNat k, 2, 3] ++ E)))] w' fun e w'' => e = .returned (.string ⟨#[]⟩) ∧ BrdAt w'' bb (once3 D) ∧ w'.grownBy w'' (some bb)) := fun k E hE hk h1 h2 w' h' => by
    have hx : ∀ c : Nat, c < 256 → k ≠ c → UInt8.ofNat k ≠ UInt8.ofNat c := fun c hc hne he => hne (by have := congrArg UInt8.toNat he; rw [UInt8.toNat_ofNat', UInt8.toNat_ofNat'] at this; omega)
    exact hears_as (bb := bb) (once_late D E hE (UInt8.ofNat k) (hx 1 (by decide) h1) (hx 2 (by decide) h2)) (by rw [page_len _ _ _ _ _ hE]; omega) w' h'
  have hmm : (once2 D).mem.take 1024 = (once3 D).mem.take 1024 := rfl
  rw [hmm] at HFL2
  have hTe : (txt (frameF [0, 5, 1, 1])).toList.isEmpty = false := isEmptyB _ (by rw [txtB_size]; have := frameB_len [0, 5, 1, 1]; omega)
  obtain ⟨M, hM⟩ : ∃ M, txt ([0, 5, 1, 2, 4] ++ D) = M := ⟨_, rfl⟩
  obtain ⟨SF, hSF⟩ : ∃ SF, txt (frameF ([0, 5, 1, 2, 4] ++ D)) = SF := ⟨_, rfl⟩
  obtain ⟨T, hT⟩ : ∃ T, txt (frameF [0, 5, 1, 1]) = T := ⟨_, rfl⟩
  obtain ⟨FE, hFE⟩ : ∃ FE, txt (frameF [0, 6, 2, 4]) = FE := ⟨_, rfl⟩
  obtain ⟨FL, hFL⟩ : ∃ FL, txt ((once3 D).mem.take 1024) = FL := ⟨_, rfl⟩
  obtain ⟨DD, hDD⟩ : ∃ DD, txt D = DD := ⟨_, rfl⟩
  rw [hM] at HPG HFR
  rw [hSF] at HFR HH2 HH3
  rw [hT] at HH2 HH3 hTe
  rw [hFE] at HEL HFE
  rw [hFL] at HFL2 HFL3
  rw [hDD] at HPG ⊢
  clear hM hSF hT hFE hFL hDD hmm hml
  go_wp2_with fail
  refine (HPG.out w3).mono ?_
  rintro e w4 ⟨rfl, hb4⟩
  have HI4 := hideIt (And.intro (HI3.out.1.below hb4) (HI3.out.2.trans (hb4.mono HI3.out.2.size)))
  clear hb4 HI3 HPG
  go_wp2_with fail
  refine (HFR.out w4).mono ?_
  rintro e w5 ⟨rfl, hb5⟩
  have HI5 := hideIt (And.intro (HI4.out.1.below hb5) (HI4.out.2.trans (hb5.mono HI4.out.2.size)))
  clear hb5 HI4 HFR
  go_wp2_with fail
  refine (HH2.out w5 HI5.out.1).mono ?_
  rintro e w6 ⟨rfl, hB6, hG6⟩
  have HI6 := hideIt (And.intro hB6 (grown_to_below HI5.out.2 hG6 hbb))
  clear hB6 hG6 HI5 HH2
  go_wp2_with fail
  refine (HFL2.out w6 HI6.out.1).mono ?_
  rintro e w7 ⟨rfl, hb7⟩
  have HI7 := hideIt (And.intro (HI6.out.1.below hb7) (HI6.out.2.trans (hb7.mono HI6.out.2.size)))
  clear hb7 HI6 HFL2
  go_wp2_with fail
  refine (HCUT.out w7 HI7.out.1).mono ?_
  rintro e w8 ⟨rfl, hB8, hG8⟩
  have HI8 := hideIt (And.intro hB8 (grown_to_below HI7.out.2 hG8 hbb))
  clear hB8 hG8 HI7 HCUT
  go_wp2_with fail
  go_loopw [14] (fun i wr => ∃ j : Nat, j ≤ 5 ∧ i = .int .i64 j ∧ BrdAt wr bb (once3 D) ∧ Below w.heap.size w wr) (fun i _ => 5 - (intOf i).toNat)
  case atStart => exact ⟨0, by omega, rfl, HI8.out.1, HI8.out.2⟩
  case round =>
    obtain ⟨j, hj, rfl, hBr, hbr⟩ := hrel
    have HI9 := hideIt (And.intro hBr hbr)
    clear hBr hbr HI8
    go_wp2_with fail
    refine (HPT.out wr).mono ?_
    rintro e wt ⟨k, hk, rfl, rfl⟩
    by_cases hjk : j ≤ k
    · have hjki : (j : Int) ≤ (k : Int) := by omega
      go_wp2_with fail
      refine (HH3.out wt HI9.out.1).mono ?_
      rintro e w10 ⟨rfl, hB10, hG10⟩
      have HI10 := hideIt (And.intro hB10 (grown_to_below HI9.out.2 hG10 hbb))
      clear hB10 hG10 HI9
      go_wp2_with fail
      refine (HON.out w10 HI10.out.1).mono ?_
      rintro e w11 ⟨rfl, rfl⟩
      go_wp2
      go_roundw
      case rel => exact ⟨j + 1, by omega, by go_num, HI10.out.1, HI10.out.2⟩
      case measure => simp [intOf]; omega
    · have hjki : ¬ (j : Int) ≤ (k : Int) := by omega
      go_wp2_with fail
      refine (HPN.out wt).mono ?_
      rintro e w10 ⟨n, hn, rfl, rfl⟩
      by_cases hq : n ≠ 1 ∧ n ≠ 2
      · have e1 : ((n : Int) != 1) = true := by have := hq.1; simp; omega
        have e2 : ((n : Int) != 2) = true := by have := hq.2; simp; omega
        go_wp2_with fail
        refine (data_any ca cn cc 8 w10 hcn (by decide) (by decide) (HC.out.below HI9.out.2)).mono ?_
        rintro e w11 ⟨E, hE, rfl, hb11⟩
        have HI11 := hideIt (And.intro (HI9.out.1.below hb11) (HI9.out.2.trans (hb11.mono HI9.out.2.size)))
        have HPG2 := hideIt (page_any n 3 hn (by decide) E hE w11)
        have hl2 := page_len 0 5 (UInt8.ofNat n) 3 E hE
        have HFR2 : Hid (∀ w', Calls Try.prog 13 #[.string (txt ([0, 5, UInt8.ofNat n, 2, 3] ++ E))] w' fun e w'' => e = .returned (.tuple #[.string (txt (frameF ([0, 5, UInt8.ofNat n, 2, 3] ++ E))), .int .i64 0]) ∧ Below w'.heap.size w' w'') := fun w' => frames_as ([0, 5, UInt8.ofNat n, 2, 3] ++ E) (by omega) (by omega) w'
        have HL2 := hideIt (fun w' h' => HLA.out n E hE hn hq.1 hq.2 w' h')
        have hPG2' : Calls Try.prog 20 #[.int .i64 (n : Int), .int .i64 3, .string (txt E)] w11 fun e w' => e = .returned (.string (txt ([0, 5, UInt8.ofNat n, 2, 3] ++ E))) ∧ Below w11.heap.size w11 w' := HPG2.out
        obtain ⟨M2, hM2⟩ : ∃ M2, txt ([0, 5, UInt8.ofNat n, 2, 3] ++ E) = M2 := ⟨_, rfl⟩
        obtain ⟨F2, hF2⟩ : ∃ F2, txt (frameF ([0, 5, UInt8.ofNat n, 2, 3] ++ E)) = F2 := ⟨_, rfl⟩
        obtain ⟨E2, hE2⟩ : ∃ E2, txt E = E2 := ⟨_, rfl⟩
        rw [hM2] at HFR2 hPG2'
        rw [hF2] at HFR2 HL2
        rw [hE2] at hPG2' ⊢
        have HPG3 := hideIt hPG2'
        clear hb11 HPG2 hPG2' hM2 hF2 hE2 hl2 hq
        go_wp2_with fail
        refine HPG3.out.mono ?_
        rintro e w12 ⟨rfl, hb12⟩
        have HI12 := hideIt (And.intro (HI11.out.1.below hb12) (HI11.out.2.trans (hb12.mono HI11.out.2.size)))
        clear hb12
        go_wp2_with fail
        refine (HFR2.out w12).mono ?_
        rintro e w13 ⟨rfl, hb13⟩
        have HI13 := hideIt (And.intro (HI12.out.1.below hb13) (HI12.out.2.trans (hb13.mono HI12.out.2.size)))
        clear hb13
        go_wp2_with fail
        refine (HL2.out w13 HI13.out.1).mono ?_
        rintro e w14 ⟨rfl, hB14, hG14⟩
        have HX := hideIt (And.intro hB14 (grown_to_below HI13.out.2 hG14 hbb))
        clear hB14 hG14
        go_wp2_with fail
        refine (HFE.out w14).mono ?_
        rintro e w20 ⟨rfl, hb20⟩
        have HI20 := hideIt (And.intro (HX.out.1.below hb20) (HX.out.2.trans (hb20.mono HX.out.2.size)))
        clear hb20
        go_wp2_with fail
        refine (HEL.out w20 HI20.out.1).mono ?_
        rintro e w21 ⟨rfl, hB21, hG21⟩
        have HI21 := hideIt (And.intro hB21 (grown_to_below HI20.out.2 hG21 hbb))
        clear hB21 hG21
        go_wp2_with fail
        refine (HON.out w21 HI21.out.1).mono ?_
        rintro e w22 ⟨rfl, rfl⟩
        go_wp2_with fail
        refine (HFL3.out w22 HI21.out.1).mono ?_
        rintro e w23 ⟨rfl, hb23⟩
        have HI23 := hideIt (And.intro (HI21.out.1.below hb23) (HI21.out.2.trans (hb23.mono HI21.out.2.size)))
        clear hb23
        go_wp2_with fail
        refine (HBU.out w23 HI23.out.1).mono ?_
        rintro e w24 ⟨rfl, hb24⟩
        have HI24 := hideIt (HI23.out.2.trans (hb24.mono HI23.out.2.size))
        clear hb24
        go_wp2
        go_ret
        exact ⟨rfl, HI24.out⟩
      · have hq' : n = 1 ∨ n = 2 := by omega
        have HX := hideIt HI9.out
        rcases hq' with rfl | rfl
        all_goals
          go_wp2_with fail
          refine (HFE.out w10).mono ?_
          rintro e w20 ⟨rfl, hb20⟩
          have HI20 := hideIt (And.intro (HX.out.1.below hb20) (HX.out.2.trans (hb20.mono HX.out.2.size)))
          clear hb20
          go_wp2_with fail
          refine (HEL.out w20 HI20.out.1).mono ?_
          rintro e w21 ⟨rfl, hB21, hG21⟩
          have HI21 := hideIt (And.intro hB21 (grown_to_below HI20.out.2 hG21 hbb))
          clear hB21 hG21
          go_wp2_with fail
          refine (HON.out w21 HI21.out.1).mono ?_
          rintro e w22 ⟨rfl, rfl⟩
          go_wp2_with fail
          refine (HFL3.out w22 HI21.out.1).mono ?_
          rintro e w23 ⟨rfl, hb23⟩
          have HI23 := hideIt (And.intro (HI21.out.1.below hb23) (HI21.out.2.trans (hb23.mono HI21.out.2.size)))
          clear hb23
          go_wp2_with fail
          refine (HBU.out w23 HI23.out.1).mono ?_
          rintro e w24 ⟨rfl, hb24⟩
          have HI24 := hideIt (HI23.out.2.trans (hb24.mono HI23.out.2.size))
          clear hb24
          go_wp2
          go_ret
          exact ⟨rfl, HI24.out⟩
end Go.Proofs.Ythokdbcpkmcieaa
