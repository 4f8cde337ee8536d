/- The walk of Torn. -/
import Derived.Test.YthokdbcpkmcieaaBrdY
namespace Go.Proofs.Ythokdbcpkmcieaa
open Go Go.RowKit
/-- Bytes of pages that are as they were. -/
theorem same_byte {M N : List UInt8} (j : Nat) (_hj : j < 1024) (h : pageF M (j / 64) = pageF N (j / 64)) : M.getD j 0 = N.getD j 0 := by
  have h1 := win_get M (64 * (j / 64)) 64 (j % 64)
  have h2 := win_get N (64 * (j / 64)) 64 (j % 64)
  rw [if_pos (Nat.mod_lt _ (by decide)), show 64 * (j / 64) + j % 64 = j by omega] at h1 h2
  rw [List.getD_eq_getElem?_getD, List.getD_eq_getElem?_getD, ← h1, ← h2]
  show ((pageF M (j / 64))[j % 64]?).getD 0 = ((pageF N (j / 64))[j % 64]?).getD 0
  rw [h]
theorem txt_byte (l : List UInt8) (j : Nat) (h : j < (txt l).size) : (txt l)[j] = l.getD j 0 := by
  have := ba_get (txt l) j h
  rw [txtB_list] at this
  exact this.symm
theorem txt_take_byte (M : List UInt8) (j : Nat) (h : j < (txt (M.take 1024)).size) (hj : j < 1024) : (txt (M.take 1024))[j] = M.getD j 0 := by
  rw [txt_byte]
  simp only [List.getD_eq_getElem?_getD]
  rw [List.getElem?_take_of_lt hj]
theorem baB_eq {x y : ByteArray} (e : x.data.toList = y.data.toList) : x = y := by
  apply ByteArray.ext
  exact Array.toList_inj.1 e
theorem txt_page (M : List UInt8) : (txt (M.take 1024)).extract 128 192 = txt (pageF M 2) := by
  apply baB_eq
  rw [ByteArray.data_extract, Array.toList_extract, List.extract_eq_take_drop, txtB_list, txtB_list]
  show (List.drop 128 (M.take 1024)).take (192 - 128) = (M.drop (64 * 2)).take 64
  apply List.ext_getElem?
  intro i
  by_cases h : i < 64
  · rw [List.getElem?_take_of_lt h, List.getElem?_take_of_lt h, List.getElem?_drop, List.getElem?_drop, List.getElem?_take_of_lt (by omega)]
  · rw [List.getElem?_take_eq_none (by omega), List.getElem?_take_eq_none (by omega)]
theorem bytes_ne {x y : ByteArray} (h : ¬ x = y) : (x.toList == y.toList) = false := by
  apply beq_false_of_ne
  intro e
  rw [ByteArray.toList_eq, ByteArray.toList_eq] at e
  exact h (baB_eq e)
/-- What Torn's last part looks at. -/
structure TornB (AA BB : ByteArray) (was f : ByteArray) (is : Int) (on : Bool) (now : ByteArray) : Prop where
  fs : f.size = 1024
  ws : was.size = 1024
  same : ∀ j (h1 : j < f.size) (h2 : j < was.size), j / 64 ≠ 2 → f[j] = was[j]
  nw : f.extract 128 192 = now
  vis : is = 128 ∨ is = 132
  own : is = 132 → now = AA ∨ now = BB
  onn : on = true → now = BB ∧ is = 132
theorem torn3_size (A B : List UInt8) (hA : A.length = 64) (hB : B.length = 64) : (txt ((torn3 A B).mem.take 1024)).size = 1024 := by
  have h : (torn3 A B).mem.length = 1264 := (torn3_is A B hA hB).1.len
  rw [txtB_size, List.length_take, h]
  rfl
theorem tornB_of {A B : List UInt8} {b' : Brd} (h' : TornM A B b'.mem b'.on) (hwl : (txt ((torn3 A B).mem.take 1024)).size = 1024) : TornB (txt A) (txt B) (txt ((torn3 A B).mem.take 1024)) (txt (b'.mem.take 1024)) (bitsF b'.mem : Int) b'.on (txt (pageF b'.mem 2)) := by
  obtain ⟨k, hu, _⟩ := h'.used
  have hl := hu.len
  have hb := h'.bits
  have hfl : (txt (b'.mem.take 1024)).size = 1024 := by rw [txtB_size, List.length_take, hl]; rfl
  refine ⟨hfl, hwl, fun j h1 h2 hne => ?_, txt_page _, ?_, fun e => ?_, fun e => ?_⟩
  · have hj : j < 1024 := by rw [hwl] at h2; exact h2
    rw [txt_take_byte _ j h1 hj, txt_take_byte _ j h2 hj]
    exact same_byte j hj (h'.pages (j / 64) (by omega) hne)
  · rw [hb]; split
    · right; rfl
    · left; rfl
  · rw [hb] at e
    have hbt : burntF b'.mem 2 = true := by
      cases hx : burntF b'.mem 2 with
      | true => rfl
      | false => rw [hx] at e; exact absurd e (by decide)
    rcases h'.own hbt with h | h
    · left; rw [h]
    · right; rw [h]
  · obtain ⟨h1, h2⟩ := h'.on e
    rw [h1, hb, h2]
    exact ⟨rfl, rfl⟩
set_option maxRecDepth 100000 in
set_option maxHeartbeats 4000000 in
theorem torn_any (ca : Option Addr) (cn cc : Nat) (da : Option Addr) (dn dc : Nat) (strokes mask : Int) (w : World) (hcn : cn ≤ 9223372036854775807) (hdn : dn ≤ 9223372036854775807) (hs1 : -9223372036854775808 ≤ strokes) (hs2 : strokes ≤ 9223372036854775807) (hc : IntsIn w ca cn) (hd : IntsIn w da dn) :
    Calls Try.prog 5 #[.slice ca cn cc, .slice da dn dc, .int .i64 strokes, .int .i64 mask] w fun e w' => e = .returned (.bool true) ∧ Below w.heap.size w w' := by
  have HC := hideIt (And.intro hc hd)
  have HPS := hideIt (fun w' => pick_any strokes 140 hs1 hs2 (by decide) (by decide) w')
  clear hc hd
  go_enter Try.func5, Try.ntmps5
  go_wp2_with fail
  refine (newBoard_any w).mono ?_
  rintro e w1 ⟨bb, rfl, hbb, hB1, hb1⟩
  have HI1 := hideIt (And.intro hB1 hb1)
  clear hB1 hb1
  go_wp2_with fail
  refine (data_any ca cn cc 3 w1 hcn (by decide) (by decide) (HC.out.1.below HI1.out.2)).mono ?_
  rintro e w2 ⟨A, hA, rfl, hb2⟩
  have HI2 := hideIt (And.intro (HI1.out.1.below hb2) (HI1.out.2.trans (hb2.mono HI1.out.2.size)))
  clear hb2 HI1
  obtain ⟨AA, hAA⟩ : ∃ AA, txt A = AA := ⟨_, rfl⟩
  rw [hAA]
  go_wp2_with fail
  refine (data_any da dn dc 200 w2 hdn (by decide) (by decide) (HC.out.2.below HI2.out.2)).mono ?_
  rintro e w3 ⟨B, hB, rfl, hb3⟩
  have HI3 := hideIt (And.intro (HI2.out.1.below hb3) (HI2.out.2.trans (hb3.mono HI2.out.2.size)))
  clear hb3 HI2
  obtain ⟨BB, hBB⟩ : ∃ BB, txt B = BB := ⟨_, rfl⟩
  rw [hBB]
  have HASK : Hid (∀ w', BrdAt w' bb brd0 → Calls Try.prog 19 #[.pointer (some ⟨bb, 0, none⟩), .string ⟨#[0, 5, 0, 1]⟩] w' fun e w'' => e = .returned (.tuple #[.string ⟨#[1]⟩, .bool true]) ∧ BrdAt w'' bb once1 ∧ w'.grownBy w'' (some bb)) := fun w' h' => ask_of bb brd0 once1 [0, 5, 0, 1] [0, 5, 0, 1] w' h' (by decide) (by decide) open_0 (by decide) (by decide) rfl
  have HP1 : Hid (∀ w', Calls Try.prog 20 #[.int .i64 1, .int .i64 2, .string (txt A)] w' fun e w'' => e = .returned (.string (txt ([0, 5, 1, 2, 2] ++ A))) ∧ Below w'.heap.size w' w'') := fun w' => page_any 1 2 (by decide) (by decide) A hA w'
  have HP2 : Hid (∀ w', Calls Try.prog 20 #[.int .i64 2, .int .i64 7, .string (txt B)] w' fun e w'' => e = .returned (.string (txt ([0, 5, 2, 2, 7] ++ B))) ∧ Below w'.heap.size w' w'') := fun w' => page_any 2 7 (by decide) (by decide) B hB w'
  have HP3 : Hid (∀ w', Calls Try.prog 20 #[.int .i64 3, .int .i64 2, .string (txt B)] w' fun e w'' => e = .returned (.string (txt ([0, 5, 3, 2, 2] ++ B))) ∧ Below w'.heap.size w' w'') := fun w' => page_any 3 2 (by decide) (by decide) B hB w'
  have HP4 : Hid (∀ w', Calls Try.prog 20 #[.int .i64 10, .int .i64 2, .string (txt A)] w' fun e w'' => e = .returned (.string (txt ([0, 5, 10, 2, 2] ++ A))) ∧ Below w'.heap.size w' w'') := fun w' => page_any 10 2 (by decide) (by decide) A hA w'
  have HA1 : Hid (∀ w', BrdAt w' bb once1 → Calls Try.prog 19 #[.pointer (some ⟨bb, 0, none⟩), .string (txt ([0, 5, 1, 2, 2] ++ A))] w' fun e w'' => e = .returned (.tuple #[.string ⟨#[1]⟩, .bool true]) ∧ BrdAt w'' bb (torn2 A) ∧ w'.grownBy w'' (some bb)) := fun w' h' => ask_of bb once1 (torn2 A) ([0, 5, 1, 2, 2] ++ A) [0, 5, 1, 1] w' h' (by rw [page_len _ _ _ _ _ hA]; decide) (by rw [page_len _ _ _ _ _ hA]; decide) (torn_2 A hA) (by decide) (by decide) rfl
  have HA2 : Hid (∀ w', BrdAt w' bb (torn2 A) → Calls Try.prog 19 #[.pointer (some ⟨bb, 0, none⟩), .string (txt ([0, 5, 2, 2, 7] ++ B))] w' fun e w'' => e = .returned (.tuple #[.string ⟨#[1]⟩, .bool true]) ∧ BrdAt w'' bb (torn3 A B) ∧ w'.grownBy w'' (some bb)) := fun w' h' => ask_of bb (torn2 A) (torn3 A B) ([0, 5, 2, 2, 7] ++ B) [0, 5, 2, 1] w' h' (by rw [page_len _ _ _ _ _ hB]; decide) (by rw [page_len _ _ _ _ _ hB]; decide) (torn_3 A B hA hB) (by decide) (by decide) rfl
  have HFR := hideIt (fun w' => frames_as ([0, 5, 3, 2, 2] ++ B) (by rw [page_len _ _ _ _ _ hB]; decide) (by rw [page_len _ _ _ _ _ hB]; decide) w')
  have HFL := hideIt (fun w' (h' : BrdAt w' bb (torn3 A B)) => bbFlash_any bb (torn3 A B) w' h')
  have HCUT : Hid (∀ (k : Nat), k < 140 → ∀ w', BrdAt w' bb (torn3 A B) → Calls Try.prog 22 #[.pointer (some ⟨bb, 0, none⟩), .int .i64 (k : Int), .int .i64 mask] w' fun e w'' => e = .returned (.tuple #[]) ∧ BrdAt w'' bb (torn4 A B k (mk8 mask)) ∧ w'.grownBy w'' (some bb)) := fun k hk w' h' => by
    have := bbCut_any bb (torn3 A B) (k : Int) mask (by omega) (by omega) w' h'
    rw [torn_cut] at this
    exact this
  have HHE : Hid (∀ (k : Nat), ∃ b' : Brd, TornM A B b'.mem b'.on ∧ ∀ w', BrdAt w' bb (torn4 A B k (mk8 mask)) → Calls Try.prog 23 #[.pointer (some ⟨bb, 0, none⟩), .string (txt (frameF ([0, 5, 3, 2, 2] ++ B)))] w' fun e w'' => (∃ o, e = .returned (.string (txt o))) ∧ BrdAt w'' bb b' ∧ w'.grownBy w'' (some bb)) := fun k => by
    obtain ⟨b', out, h1, h2⟩ := torn_hear A B k (mk8 mask) hA hB
    exact ⟨b', h2, fun w' h' => (hears_as (bb := bb) h1 (by rw [page_len _ _ _ _ _ hB]; decide) w' h').mono fun e w'' ⟨e1, e2, e3⟩ => ⟨⟨out, e1⟩, e2, e3⟩⟩
  have hwl := torn3_size A B hA hB
  have HSB : Hid (∀ b' : Brd, TornM A B b'.mem b'.on → TornB (txt A) (txt B) (txt ((torn3 A B).mem.take 1024)) (txt (b'.mem.take 1024)) (bitsF b'.mem : Int) b'.on (txt (pageF b'.mem 2))) := fun b' h' => tornB_of h' hwl
  rw [hAA] at HP1 HP4 HSB
  rw [hBB] at HP2 HP3 HSB
  obtain ⟨M1, hM1⟩ : ∃ M, txt ([0, 5, 1, 2, 2] ++ A) = M := ⟨_, rfl⟩
  obtain ⟨M2, hM2⟩ : ∃ M, txt ([0, 5, 2, 2, 7] ++ B) = M := ⟨_, rfl⟩
  obtain ⟨M3, hM3⟩ : ∃ M, txt ([0, 5, 3, 2, 2] ++ B) = M := ⟨_, rfl⟩
  obtain ⟨F3, hF3⟩ : ∃ M, txt (frameF ([0, 5, 3, 2, 2] ++ B)) = M := ⟨_, rfl⟩
  obtain ⟨WS, hWS⟩ : ∃ M, txt ((torn3 A B).mem.take 1024) = M := ⟨_, rfl⟩
  rw [hM1] at HP1 HA1
  rw [hM2] at HP2 HA2
  rw [hM3] at HP3 HFR
  rw [hF3] at HFR HHE
  rw [hWS] at HFL HSB hwl
  clear hM1 hM2 hM3 hF3 hWS
  go_wp2_with fail
  refine (HASK.out w3 HI3.out.1).mono ?_
  rintro e w4 ⟨rfl, hB4, hG4⟩
  have HI4 := hideIt (And.intro hB4 (grown_to_below HI3.out.2 hG4 hbb))
  clear hB4 hG4 HASK HI3
  go_wp2_with fail
  refine (HP1.out w4).mono ?_
  rintro e w5 ⟨rfl, hb5⟩
  have HI5 := hideIt (And.intro (HI4.out.1.below hb5) (HI4.out.2.trans (hb5.mono HI4.out.2.size)))
  clear hb5 HI4 HP1
  go_wp2_with fail
  refine (HA1.out w5 HI5.out.1).mono ?_
  rintro e w6 ⟨rfl, hB6, hG6⟩
  have HI6 := hideIt (And.intro hB6 (grown_to_below HI5.out.2 hG6 hbb))
  clear hB6 hG6 HA1 HI5
  go_wp2_with fail
  refine (HP2.out w6).mono ?_
  rintro e w7 ⟨rfl, hb7⟩
  have HI7 := hideIt (And.intro (HI6.out.1.below hb7) (HI6.out.2.trans (hb7.mono HI6.out.2.size)))
  clear hb7 HI6 HP2
  go_wp2_with fail
  refine (HA2.out w7 HI7.out.1).mono ?_
  rintro e w8 ⟨rfl, hB8, hG8⟩
  have HI8 := hideIt (And.intro hB8 (grown_to_below HI7.out.2 hG8 hbb))
  clear hB8 hG8 HA2 HI7
  go_wp2_with fail
  refine (HFL.out w8 HI8.out.1).mono ?_
  rintro e w9 ⟨rfl, hb9⟩
  have HI9 := hideIt (And.intro (HI8.out.1.below hb9) (HI8.out.2.trans (hb9.mono HI8.out.2.size)))
  clear hb9 HI8 HFL
  go_wp2_with fail
  refine (HPS.out w9).mono ?_
  rintro e w10 ⟨k, hk, rfl, rfl⟩
  go_wp2_with fail
  refine (HCUT.out k hk w10 HI9.out.1).mono ?_
  rintro e w11 ⟨rfl, hB11, hG11⟩
  have HI11 := hideIt (And.intro hB11 (grown_to_below HI9.out.2 hG11 hbb))
  clear hB11 hG11 HI9 HPS
  go_wp2_with fail
  refine (HP3.out w11).mono ?_
  rintro e w12 ⟨rfl, hb12⟩
  have HI12 := hideIt (And.intro (HI11.out.1.below hb12) (HI11.out.2.trans (hb12.mono HI11.out.2.size)))
  clear hb12 HI11 HP3
  go_wp2_with fail
  refine (HFR.out w12).mono ?_
  rintro e w13 ⟨rfl, hb13⟩
  have HI13 := hideIt (And.intro (HI12.out.1.below hb13) (HI12.out.2.trans (hb13.mono HI12.out.2.size)))
  clear hb13 HI12 HFR
  obtain ⟨b', hTM, hHear⟩ := HHE.out k
  have HTB := hideIt (HSB.out b' hTM)
  have HHR := hideIt hHear
  obtain ⟨b7, h7, b8, h8⟩ := torn_again hTM hA
  have HO9 : Hid (∀ w', BrdAt w' bb (bootF b') → Calls Try.prog 19 #[.pointer (some ⟨bb, 0, none⟩), .string ⟨#[0, 5, 9, 1]⟩] w' fun e w'' => e = .returned (.tuple #[.string ⟨#[1]⟩, .bool true]) ∧ BrdAt w'' bb (torn6 b'.mem) ∧ w'.grownBy w'' (some bb)) := fun w' h' => ask_of bb (bootF b') (torn6 b'.mem) [0, 5, 9, 1] [0, 5, 9, 1] w' h' (by decide) (by decide) (torn_open b') (by decide) (by decide) rfl
  have HA10 : Hid (∀ w', BrdAt w' bb (torn6 b'.mem) → Calls Try.prog 19 #[.pointer (some ⟨bb, 0, none⟩), .string (txt ([0, 5, 10, 2, 2] ++ A))] w' fun e w'' => e = .returned (.tuple #[.string ⟨#[1]⟩, .bool true]) ∧ BrdAt w'' bb b7 ∧ w'.grownBy w'' (some bb)) := fun w' h' => ask_of bb (torn6 b'.mem) b7 ([0, 5, 10, 2, 2] ++ A) [0, 5, 10, 1] w' h' (by rw [page_len _ _ _ _ _ hA]; decide) (by rw [page_len _ _ _ _ _ hA]; decide) h7 (by decide) (by decide) rfl
  have HA11 : Hid (∀ w', BrdAt w' bb b7 → Calls Try.prog 19 #[.pointer (some ⟨bb, 0, none⟩), .string ⟨#[0, 5, 11, 3, 2]⟩] w' fun e w'' => e = .returned (.tuple #[.string (⟨#[1]⟩ ++ AA), .bool true]) ∧ BrdAt w'' bb b8 ∧ w'.grownBy w'' (some bb)) := fun w' h' => by
    have hx := ask_of bb b7 b8 [0, 5, 11, 3, 2] ([0, 5, 11, 1] ++ A) w' h' (by decide) (by decide) h8 (by simp) (by simp [hA]) rfl
    have e : txt (([0, 5, 11, 1] ++ A).drop 3) = ⟨#[1]⟩ ++ AA := by
      rw [← hAA]
      exact (txtB_cat [1] A).symm
    rw [e] at hx
    exact hx
  have HFX := hideIt (fun w' (h' : BrdAt w' bb (bootF b')) => bbFlash_any bb (bootF b') w' h')
  have HBX := hideIt (fun w' (h' : BrdAt w' bb (bootF b')) => bbBurnt_any bb (bootF b') w' h')
  have HOX := hideIt (fun w' (h' : BrdAt w' bb b') => bbOn_any bb b' w' h')
  have hbm : (bootF b').mem = b'.mem := rfl
  rw [hbm] at HFX HBX
  have hAs : AA.size = 64 := by rw [← hAA, txtB_size, hA]
  obtain ⟨M4, hM4⟩ : ∃ M, txt ([0, 5, 10, 2, 2] ++ A) = M := ⟨_, rfl⟩
  obtain ⟨FX, hFX⟩ : ∃ M, txt (b'.mem.take 1024) = M := ⟨_, rfl⟩
  obtain ⟨IS, hIS⟩ : ∃ M : Int, (bitsF b'.mem : Int) = M := ⟨_, rfl⟩
  obtain ⟨ON, hON⟩ : ∃ M, b'.on = M := ⟨_, rfl⟩
  obtain ⟨NW, hNW⟩ : ∃ M, txt (pageF b'.mem 2) = M := ⟨_, rfl⟩
  rw [hM4] at HP4 HA10
  rw [hFX] at HTB HFX
  rw [hIS] at HTB HBX
  rw [hON] at HTB HOX
  rw [hNW] at HTB
  clear hTM hHear HHE HSB h7 h8 hM4 hFX hIS hON hNW hbm
  go_wp2_with fail
  refine (HHR.out w13 HI13.out.1).mono ?_
  rintro e w14 ⟨⟨o, rfl⟩, hB14, hG14⟩
  have HI14 := hideIt (And.intro hB14 (grown_to_below HI13.out.2 hG14 hbb))
  clear hB14 hG14 HI13 HHR
  go_wp2_with fail
  refine (HOX.out w14 HI14.out.1).mono ?_
  rintro e w15 ⟨rfl, rfl⟩
  go_wp2_with fail
  refine (bbBoot_any bb b' w15 HI14.out.1).mono ?_
  rintro e w16 ⟨rfl, hB16, hG16⟩
  have HI16 := hideIt (And.intro hB16 (grown_to_below HI14.out.2 hG16 hbb))
  clear hB16 hG16 HI14
  go_wp2_with fail
  refine (HFX.out w16 HI16.out.1).mono ?_
  rintro e w17 ⟨rfl, hb17⟩
  have HI17 := hideIt (And.intro (HI16.out.1.below hb17) (HI16.out.2.trans (hb17.mono HI16.out.2.size)))
  clear hb17 HI16
  go_wp2_with fail
  refine (HBX.out w17 HI17.out.1).mono ?_
  rintro e w18 ⟨rfl, hb18⟩
  have HI18 := hideIt (And.intro (HI17.out.1.below hb18) (HI17.out.2.trans (hb18.mono HI17.out.2.size)))
  clear hb18 HI17 HFX HBX HOX
  have hfsI : (FX.size : Int) = 1024 := by have := HTB.out.fs; omega
  have hwsI : (WS.size : Int) = 1024 := by omega
  have hisv := HTB.out.vis
  rcases hisv with rfl | rfl
  · cases ON with
    | true => exact absurd (HTB.out.onn rfl).2 (by decide)
    | false =>
      go_wp2_with fail
      go_loopw [24] (fun i wr => ∃ j : Nat, j ≤ 1024 ∧ i = .int .i64 j ∧ BrdAt wr bb (bootF b') ∧ Below w.heap.size w wr) (fun i _ => 1024 - (intOf i).toNat)
      case atStart => exact ⟨0, by omega, rfl, HI18.out.1, HI18.out.2⟩
      case round =>
        obtain ⟨j, hj, rfl, hBr, hbr⟩ := hrel
        have HJ := hideIt (And.intro hBr hbr)
        clear hBr hbr HI18
        by_cases hlt : j < 1024
        · have hji : (j : Int) < 1024 := by omega
          have hjf : j < FX.size := by omega
          have hjw : j < WS.size := by omega
          by_cases h2 : j / 64 = 2
          · have htd : Int.tdiv (j : Int) 64 = 2 := by rw [Int.tdiv_eq_ediv_of_nonneg (by omega)]; omega
            go_wp2
            go_quiet (fail)
            go_wp2
            go_roundw
            case rel => exact ⟨j + 1, by omega, by go_num, HJ.out.1.kept rfl (Nat.le_refl _), below_drewN HJ.out.2 _⟩
            case measure => simp [intOf]; omega
          · have hs := HTB.out.same j hjf hjw h2
            obtain ⟨q, htd, htn, hq0, hq1⟩ : ∃ q : Int, Int.tdiv (j : Int) 64 = q ∧ (q != 2) = true ∧ 0 ≤ q ∧ q ≤ 16 := by
              refine ⟨_, rfl, ?_⟩
              rw [Int.tdiv_eq_ediv_of_nonneg (by omega)]
              exact ⟨by simp; omega, by omega, by omega⟩
            go_wp2
            go_quiet (fail)
            go_wp2
            go_roundw
            case rel => exact ⟨j + 1, by omega, by go_num, HJ.out.1.kept rfl (Nat.le_refl _), below_drewN HJ.out.2 _⟩
            case measure => simp [intOf]; omega
        · have hjn : ¬ (j : Int) < 1024 := by omega
          go_wp2_with fail
          refine (HO9.out wr HJ.out.1).mono ?_
          rintro e w30 ⟨rfl, hB30, hG30⟩
          have HI30 := hideIt (And.intro hB30 (grown_to_below HJ.out.2 hG30 hbb))
          clear hB30 hG30
          go_wp2_with fail
          refine (HP4.out w30).mono ?_
          rintro e w31 ⟨rfl, hb31⟩
          have HI31 := hideIt (And.intro (HI30.out.1.below hb31) (HI30.out.2.trans (hb31.mono HI30.out.2.size)))
          clear hb31
          go_wp2_with fail
          refine (HA10.out w31 HI31.out.1).mono ?_
          rintro e w32 ⟨rfl, hB32, hG32⟩
          have HI32 := hideIt (And.intro hB32 (grown_to_below HI31.out.2 hG32 hbb))
          clear hB32 hG32
          go_wp2_with fail
          refine (HA11.out w32 HI32.out.1).mono ?_
          rintro e w33 ⟨rfl, hB33, hG33⟩
          have HI33 := hideIt (grown_to_below HI32.out.2 hG33 hbb)
          clear hB33 hG33
          go_wp2
          go_ret
          exact ⟨rfl, HI33.out⟩
  · cases ON with
    | true =>
      have hnw := HTB.out.nw.trans (HTB.out.onn rfl).1
      go_wp2_with fail
      go_loopw [24] (fun i wr => ∃ j : Nat, j ≤ 1024 ∧ i = .int .i64 j ∧ BrdAt wr bb (bootF b') ∧ Below w.heap.size w wr) (fun i _ => 1024 - (intOf i).toNat)
      case atStart => exact ⟨0, by omega, rfl, HI18.out.1, HI18.out.2⟩
      case round =>
        obtain ⟨j, hj, rfl, hBr, hbr⟩ := hrel
        have HJ := hideIt (And.intro hBr hbr)
        clear hBr hbr HI18
        by_cases hlt : j < 1024
        · have hji : (j : Int) < 1024 := by omega
          have hjf : j < FX.size := by omega
          have hjw : j < WS.size := by omega
          by_cases h2 : j / 64 = 2
          · have htd : Int.tdiv (j : Int) 64 = 2 := by rw [Int.tdiv_eq_ediv_of_nonneg (by omega)]; omega
            go_wp2
            go_quiet (fail)
            go_wp2
            go_roundw
            case rel => exact ⟨j + 1, by omega, by go_num, HJ.out.1.kept rfl (Nat.le_refl _), below_drewN HJ.out.2 _⟩
            case measure => simp [intOf]; omega
          · have hs := HTB.out.same j hjf hjw h2
            obtain ⟨q, htd, htn, hq0, hq1⟩ : ∃ q : Int, Int.tdiv (j : Int) 64 = q ∧ (q != 2) = true ∧ 0 ≤ q ∧ q ≤ 16 := by
              refine ⟨_, rfl, ?_⟩
              rw [Int.tdiv_eq_ediv_of_nonneg (by omega)]
              exact ⟨by simp; omega, by omega, by omega⟩
            go_wp2
            go_quiet (fail)
            go_wp2
            go_roundw
            case rel => exact ⟨j + 1, by omega, by go_num, HJ.out.1.kept rfl (Nat.le_refl _), below_drewN HJ.out.2 _⟩
            case measure => simp [intOf]; omega
        · have hjn : ¬ (j : Int) < 1024 := by omega
          by_cases hab : BB = AA
          · subst hab
            go_wp2_with fail
            refine (HO9.out wr HJ.out.1).mono ?_
            rintro e w30 ⟨rfl, hB30, hG30⟩
            have HI30 := hideIt (And.intro hB30 (grown_to_below HJ.out.2 hG30 hbb))
            clear hB30 hG30
            go_wp2_with fail
            refine (HP4.out w30).mono ?_
            rintro e w31 ⟨rfl, hb31⟩
            have HI31 := hideIt (And.intro (HI30.out.1.below hb31) (HI30.out.2.trans (hb31.mono HI30.out.2.size)))
            clear hb31
            go_wp2_with fail
            refine (HA10.out w31 HI31.out.1).mono ?_
            rintro e w32 ⟨rfl, hB32, hG32⟩
            have HI32 := hideIt (And.intro hB32 (grown_to_below HI31.out.2 hG32 hbb))
            clear hB32 hG32
            go_wp2_with fail
            refine (HA11.out w32 HI32.out.1).mono ?_
            rintro e w33 ⟨rfl, hB33, hG33⟩
            have HI33 := hideIt (grown_to_below HI32.out.2 hG33 hbb)
            clear hB33 hG33
            go_wp2
            go_ret
            exact ⟨rfl, HI33.out⟩
          · have hne : (BB.toList == AA.toList) = false := bytes_ne hab
            go_wp2_with fail
            refine (HO9.out wr HJ.out.1).mono ?_
            rintro e w30 ⟨rfl, hB30, hG30⟩
            have HI30 := hideIt (And.intro hB30 (grown_to_below HJ.out.2 hG30 hbb))
            clear hB30 hG30
            go_wp2_with fail
            refine (HP4.out w30).mono ?_
            rintro e w31 ⟨rfl, hb31⟩
            have HI31 := hideIt (And.intro (HI30.out.1.below hb31) (HI30.out.2.trans (hb31.mono HI30.out.2.size)))
            clear hb31
            go_wp2_with fail
            refine (HA10.out w31 HI31.out.1).mono ?_
            rintro e w32 ⟨rfl, hB32, hG32⟩
            have HI32 := hideIt (And.intro hB32 (grown_to_below HI31.out.2 hG32 hbb))
            clear hB32 hG32
            go_wp2_with fail
            refine (HA11.out w32 HI32.out.1).mono ?_
            rintro e w33 ⟨rfl, hB33, hG33⟩
            have HI33 := hideIt (grown_to_below HI32.out.2 hG33 hbb)
            clear hB33 hG33
            go_wp2
            go_ret
            exact ⟨rfl, HI33.out⟩
    | false =>
      go_wp2_with fail
      go_loopw [24] (fun i wr => ∃ j : Nat, j ≤ 1024 ∧ i = .int .i64 j ∧ BrdAt wr bb (bootF b') ∧ Below w.heap.size w wr) (fun i _ => 1024 - (intOf i).toNat)
      case atStart => exact ⟨0, by omega, rfl, HI18.out.1, HI18.out.2⟩
      case round =>
        obtain ⟨j, hj, rfl, hBr, hbr⟩ := hrel
        have HJ := hideIt (And.intro hBr hbr)
        clear hBr hbr HI18
        by_cases hlt : j < 1024
        · have hji : (j : Int) < 1024 := by omega
          have hjf : j < FX.size := by omega
          have hjw : j < WS.size := by omega
          by_cases h2 : j / 64 = 2
          · have htd : Int.tdiv (j : Int) 64 = 2 := by rw [Int.tdiv_eq_ediv_of_nonneg (by omega)]; omega
            go_wp2
            go_quiet (fail)
            go_wp2
            go_roundw
            case rel => exact ⟨j + 1, by omega, by go_num, HJ.out.1.kept rfl (Nat.le_refl _), below_drewN HJ.out.2 _⟩
            case measure => simp [intOf]; omega
          · have hs := HTB.out.same j hjf hjw h2
            obtain ⟨q, htd, htn, hq0, hq1⟩ : ∃ q : Int, Int.tdiv (j : Int) 64 = q ∧ (q != 2) = true ∧ 0 ≤ q ∧ q ≤ 16 := by
              refine ⟨_, rfl, ?_⟩
              rw [Int.tdiv_eq_ediv_of_nonneg (by omega)]
              exact ⟨by simp; omega, by omega, by omega⟩
            go_wp2
            go_quiet (fail)
            go_wp2
            go_roundw
            case rel => exact ⟨j + 1, by omega, by go_num, HJ.out.1.kept rfl (Nat.le_refl _), below_drewN HJ.out.2 _⟩
            case measure => simp [intOf]; omega
        · have hjn : ¬ (j : Int) < 1024 := by omega
          rcases HTB.out.own rfl with e | e
          · have hnw := HTB.out.nw.trans e
            go_wp2_with fail
            refine (HO9.out wr HJ.out.1).mono ?_
            rintro e w30 ⟨rfl, hB30, hG30⟩
            have HI30 := hideIt (And.intro hB30 (grown_to_below HJ.out.2 hG30 hbb))
            clear hB30 hG30
            go_wp2_with fail
            refine (HP4.out w30).mono ?_
            rintro e w31 ⟨rfl, hb31⟩
            have HI31 := hideIt (And.intro (HI30.out.1.below hb31) (HI30.out.2.trans (hb31.mono HI30.out.2.size)))
            clear hb31
            go_wp2_with fail
            refine (HA10.out w31 HI31.out.1).mono ?_
            rintro e w32 ⟨rfl, hB32, hG32⟩
            have HI32 := hideIt (And.intro hB32 (grown_to_below HI31.out.2 hG32 hbb))
            clear hB32 hG32
            go_wp2_with fail
            refine (HA11.out w32 HI32.out.1).mono ?_
            rintro e w33 ⟨rfl, hB33, hG33⟩
            have HI33 := hideIt (grown_to_below HI32.out.2 hG33 hbb)
            clear hB33 hG33
            go_wp2
            go_ret
            exact ⟨rfl, HI33.out⟩
          · have hnw := HTB.out.nw.trans e
            by_cases hab : BB = AA
            · subst hab
              go_wp2_with fail
              refine (HO9.out wr HJ.out.1).mono ?_
              rintro e w30 ⟨rfl, hB30, hG30⟩
              have HI30 := hideIt (And.intro hB30 (grown_to_below HJ.out.2 hG30 hbb))
              clear hB30 hG30
              go_wp2_with fail
              refine (HP4.out w30).mono ?_
              rintro e w31 ⟨rfl, hb31⟩
              have HI31 := hideIt (And.intro (HI30.out.1.below hb31) (HI30.out.2.trans (hb31.mono HI30.out.2.size)))
              clear hb31
              go_wp2_with fail
              refine (HA10.out w31 HI31.out.1).mono ?_
              rintro e w32 ⟨rfl, hB32, hG32⟩
              have HI32 := hideIt (And.intro hB32 (grown_to_below HI31.out.2 hG32 hbb))
              clear hB32 hG32
              go_wp2_with fail
              refine (HA11.out w32 HI32.out.1).mono ?_
              rintro e w33 ⟨rfl, hB33, hG33⟩
              have HI33 := hideIt (grown_to_below HI32.out.2 hG33 hbb)
              clear hB33 hG33
              go_wp2
              go_ret
              exact ⟨rfl, HI33.out⟩
            · have hne : (BB.toList == AA.toList) = false := bytes_ne hab
              go_wp2_with fail
              refine (HO9.out wr HJ.out.1).mono ?_
              rintro e w30 ⟨rfl, hB30, hG30⟩
              have HI30 := hideIt (And.intro hB30 (grown_to_below HJ.out.2 hG30 hbb))
              clear hB30 hG30
              go_wp2_with fail
              refine (HP4.out w30).mono ?_
              rintro e w31 ⟨rfl, hb31⟩
              have HI31 := hideIt (And.intro (HI30.out.1.below hb31) (HI30.out.2.trans (hb31.mono HI30.out.2.size)))
              clear hb31
              go_wp2_with fail
              refine (HA10.out w31 HI31.out.1).mono ?_
              rintro e w32 ⟨rfl, hB32, hG32⟩
              have HI32 := hideIt (And.intro hB32 (grown_to_below HI31.out.2 hG32 hbb))
              clear hB32 hG32
              go_wp2_with fail
              refine (HA11.out w32 HI32.out.1).mono ?_
              rintro e w33 ⟨rfl, hB33, hG33⟩
              have HI33 := hideIt (grown_to_below HI32.out.2 hG33 hbb)
              clear hB33 hG33
              go_wp2
              go_ret
              exact ⟨rfl, HI33.out⟩
end Go.Proofs.Ythokdbcpkmcieaa
