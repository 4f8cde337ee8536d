/- The assembler: lay. The assembler whole: its pure state, its memory. -/
import Derived.Test.YthokdbcpkmcieaaGreatDoorA26
import Derived.Test.YthokdbcpkmcieaaGreatDoorA15
namespace Go.Proofs.YthokdbcpkmcieaaGreatDoor
open Go Go.RowKit Go.Shelf Go.WideMaps Go.Maps
/-- A row of 1024 truths. -/
structure BRow (w : World) (b : Nat) (l : List Bool) : Prop where
  at_ : w.heap[b]? = some (.cells (l.map Value.bool).toArray 4 (0, 0))
  len : l.length = 1024
theorem BRow.cell {w : World} {b : Nat} {l : List Bool} (h : BRow w b l) (i : Nat) (hi : i < l.length) : w.cell? ⟨b, i, none⟩ = some (.bool l[i]) := by
  rw [cell_of_row _ _ _ _ _ (0, 0) h.at_]
  simp [hi]
theorem BRow.fz {w : World} {b : Nat} {l : List Bool} (h : BRow w b l) (i : Nat) : w.frozen? ⟨b, i, none⟩ = false := frozen_of_row _ _ _ _ _ h.at_
theorem BRow.lt {w : World} {b : Nat} {l : List Bool} (h : BRow w b l) : b < w.heap.size := (Array.getElem?_eq_some_iff.1 h.at_).1
theorem BRow.kept {w w' : World} {b : Nat} {l : List Bool} (h : BRow w b l) (e : w'.heap[b]? = w.heap[b]?) : BRow w' b l := ⟨e.trans h.at_, h.len⟩
theorem BRow.put {w : World} {b : Nat} {l : List Bool} (h : BRow w b l) (i : Nat) (x : Bool) : BRow (w.setCell ⟨b, i, none⟩ (.bool x)) b (l.set i x) := by
  refine ⟨?_, by rw [List.length_set]; exact h.len⟩
  rw [heap_setCell_same w b i _ _ (.bool x) h.at_]
  simp [List.map_set]
/-- The bytes from p on, j of them, are laid. -/
def setR (l : List Bool) (p : Nat) : Nat → List Bool
  | 0 => l
  | j + 1 => (setR l p j).set (p + j) true
theorem setR_len (l : List Bool) (p : Nat) : ∀ j, (setR l p j).length = l.length
  | 0 => rfl
  | j + 1 => by
    unfold setR
    rw [List.length_set, setR_len l p j]
/-- What is wrong with laying so many bytes there. -/
def spanF (pl size : Nat) (laid : List Bool) : Option Int := if 1024 < pl + size then some 6 else if true ∈ (laid.drop pl).take size then some 7 else none
/-- Only these three blocks have changed. -/
structure Chg3 (w w' : World) (a b c : Nat) : Prop where
  os : w'.os = w.os
  tape : w'.tape = w.tape
  output : w'.output = w.output
  size : w.heap.size ≤ w'.heap.size
  block : ∀ k, k < w.heap.size → k ≠ a → k ≠ b → k ≠ c → w'.heap[k]? = w.heap[k]?
theorem Chg3.of_below {w w' : World} (a b c : Nat) (h : Below w.heap.size w w') : Chg3 w w' a b c := ⟨h.os, h.tape, h.output, h.size, fun k hk _ _ _ => h.block k hk⟩
theorem Chg3.set {w w' : World} {a b c : Nat} (h : Chg3 w w' a b c) (k : Nat) (hk : k = a ∨ k = b ∨ k = c) (i : Nat) (v : Value) : Chg3 w (w'.setCell ⟨k, i, none⟩ v) a b c :=
  ⟨h.os, h.tape, h.output, by simpa [World.setCell] using h.size, fun j hj h1 h2 h3 => (heap_setCell_other w' ⟨k, i, none⟩ j v (by show j ≠ k; omega)).trans (h.block j hj h1 h2 h3)⟩
theorem AS.place {w : World} {ab : Nat} {i0 i1 i2 : Value} {nb n : Nat} {nm : List UInt8 → Option Int} {pl : Int} (h : AS w ab i0 i1 i2 nb n nm pl) (z : Int) : AS (w.setCell ⟨ab, 4, none⟩ (.int .i64 z)) ab i0 i1 i2 nb n nm z :=
  ⟨(World.cell?_setCell_other _ _ _ _ (by simp)).trans h.c0, (World.cell?_setCell_other _ _ _ _ (by simp)).trans h.c1, (World.cell?_setCell_other _ _ _ _ (by simp)).trans h.c2, (World.cell?_setCell_other _ _ _ _ (by simp)).trans h.c3, World.cell?_setCell_same _ _ _ h.c4, fun j => by simpa using h.fz j, MapAt.at1B h.nms (heap_setCell_other w ⟨ab, 4, none⟩ nb _ h.ne), h.ne⟩
theorem Chg3.drewN {w w' : World} {a b c : Nat} (h : Chg3 w w' a b c) (m : Nat) : Chg3 w (w'.drewN m) a b c := ⟨h.os, h.tape, h.output, h.size, h.block⟩
/-- In the midst of laying. -/
structure LayMid (w wr : World) (ab lk sk nb n : Nat) (i0 i1 i2 : Value) (nm : List UInt8 → Option Int) (pl : Nat) (laid starts : List Bool) (tk : Nat) (j : Nat) : Prop where
  st : AS wr ab i0 i1 i2 nb n nm (pl : Int)
  laid : BRow wr lk (setR laid pl j)
  starts : BRow wr sk starts
  chg : Chg3 w wr ab lk sk
  task : wr.cell? ⟨w.heap.size, 3, none⟩ = some (.int .i64 (tk : Int))
  lt : w.heap.size < wr.heap.size
theorem LayMid.step {w wr : World} {ab lk sk nb n : Nat} {i0 i1 i2 : Value} {nm : List UInt8 → Option Int} {pl : Nat} {laid starts : List Bool} {tk j : Nat} (h : LayMid w wr ab lk sk nb n i0 i1 i2 nm pl laid starts tk j) (hd : ab ≠ lk ∧ ab ≠ sk ∧ lk ≠ sk ∧ nb ≠ lk ∧ nb ≠ sk) (hl : lk < w.heap.size) : LayMid w (wr.setCell ⟨lk, pl + j, none⟩ (.bool true)) ab lk sk nb n i0 i1 i2 nm pl laid starts tk (j + 1) :=
  ⟨h.st.kept (heap_setCell_other _ _ _ _ hd.1) (heap_setCell_other _ _ _ _ hd.2.2.2.1), h.laid.put _ true, h.starts.kept (heap_setCell_other _ _ _ _ (fun e => hd.2.2.1 e.symm)), h.chg.set lk (.inr (.inl rfl)) _ _, (World.cell?_setCell_other _ _ _ _ (by simp <;> omega)).trans h.task, by simpa [World.setCell] using h.lt⟩
/-- What lay leaves. -/
def LayEnd (w : World) (ab lk sk nb n : Nat) (i0 i1 i2 : Value) (nm : List UInt8 → Option Int) (pl size : Nat) (laid starts : List Bool) (tk : Nat) (l0 : Int) (e : Ending) (w' : World) : Prop :=
  e = okO (spanF pl size laid) l0 ∧ Chg3 w w' ab lk sk ∧ (spanF pl size laid = none → AS w' ab i0 i1 i2 nb n nm ((pl + size : Nat) : Int) ∧ BRow w' lk (setR laid pl size) ∧ BRow w' sk (if tk = 6 then starts.set pl true else starts))
set_option maxRecDepth 100000 in
set_option maxHeartbeats 8000000 in
theorem lay_st (w : World) (ab lk sk c1 c2 : Nat) (i0 : Value) (nb n : Nat) (nm : List UInt8 → Option Int) (pl : Nat) (laid starts : List Bool) (l0 p0 : Int) (lb : ByteArray) (tk : Nat) (nmS : ByteArray) (va : Option Addr) (vn vc : Nat) (cd : Int) (ka : Option Addr) (kn kc sz : Nat) (h : AS w ab i0 (.slice (some ⟨lk, 0, none⟩) 1024 c1) (.slice (some ⟨sk, 0, none⟩) 1024 c2) nb n nm (pl : Int)) (hL : BRow w lk laid) (hS : BRow w sk starts) (hd : ab ≠ lk ∧ ab ≠ sk ∧ lk ≠ sk ∧ nb ≠ lk ∧ nb ≠ sk) (hc1 : 1024 ≤ c1 ∧ c1 ≤ maxLen) (hv : vn ≤ 1000000) (hp : pl ≤ 1024) (hz : sz ≤ 100) (h6 : tk = 6 → 1 ≤ sz) :
    Calls Tryz.prog 172 #[.pointer (some ⟨ab, 0, none⟩), .agg #[.int .i64 l0, .int .i64 p0, .string lb, .int .i64 (tk : Int), .string nmS, .slice va vn vc, .int .u8 cd, .slice ka kn kc, .int .i64 (sz : Int)]] w (LayEnd w ab lk sk nb n i0 (.slice (some ⟨lk, 0, none⟩) 1024 c1) (.slice (some ⟨sk, 0, none⟩) 1024 c2) nm pl (sizeS tk vn sz) laid starts tk l0) := by
  obtain ⟨W, hW, hBW, hWz, hSS⟩ := st_box w l0 p0 lb (tk : Int) nmS (.slice va vn vc) cd (.slice ka kn kc) (sz : Int)
  have hA := h.below hBW
  obtain ⟨SZ, hSZ⟩ : ∃ SZ, sizeS tk vn sz = SZ := ⟨_, rfl⟩
  have HZ : Hid (Calls Tryz.prog 107 #[.agg #[.int .i64 l0, .int .i64 p0, .string lb, .int .i64 (tk : Int), .string nmS, .slice va vn vc, .int .u8 cd, .slice ka kn kc, .int .i64 (sz : Int)]] W.drew fun e w' => e = .returned (.int .i64 (SZ : Int)) ∧ Below W.heap.size W w') := (stSize_any W.drew l0 p0 lb tk nmS va vn vc cd ka kn kc sz hv).mono fun e w' ⟨h1, h2⟩ => ⟨by rw [h1, hSZ], ⟨h2.os, h2.tape, h2.output, h2.size, h2.block⟩⟩
  have hSZl : SZ ≤ 2000000 := by
    rw [← hSZ]
    unfold sizeS
    split
    · omega
    · split
      · omega
      · split <;> omega
  have hSZ6 : tk = 6 → 1 ≤ SZ := fun e => by
    rw [← hSZ, e]
    exact h6 e
  rw [hSZ]
  have HSB : Hid (∀ w', Below W.heap.size W w' → (w'.cell? ⟨ab, 4, none⟩ = some (.int .i64 (pl : Int)) ∧ w'.cell? ⟨w.heap.size, 0, none⟩ = some (.int .i64 l0) ∧ w'.cell? ⟨w.heap.size, 1, none⟩ = some (.int .i64 p0) ∧ w'.cell? ⟨w.heap.size, 2, none⟩ = some (.string lb) ∧ w'.cell? ⟨w.heap.size, 3, none⟩ = some (.int .i64 (tk : Int)) ∧ w'.cell? ⟨w.heap.size, 4, none⟩ = some (.string nmS) ∧ w'.cell? ⟨w.heap.size, 5, none⟩ = some (.slice va vn vc) ∧ w'.cell? ⟨w.heap.size, 6, none⟩ = some (.int .u8 cd) ∧ w'.cell? ⟨w.heap.size, 7, none⟩ = some (.slice ka kn kc) ∧ w'.cell? ⟨w.heap.size, 8, none⟩ = some (.int .i64 (sz : Int)))) := fun w' hb => by
    have e := hb.block w.heap.size (by omega)
    have hcc : ∀ j, w'.cell? ⟨w.heap.size, j, none⟩ = W.cell? ⟨w.heap.size, j, none⟩ := fun j => World.cell?_of_block (a := ⟨w.heap.size, j, none⟩) e
    exact ⟨(hA.below hb).c4, (hcc 0).trans hSS.c0, (hcc 1).trans hSS.c1, (hcc 2).trans hSS.c2, (hcc 3).trans hSS.c3, (hcc 4).trans hSS.c4, (hcc 5).trans hSS.c5, (hcc 6).trans hSS.c6, (hcc 7).trans hSS.c7, (hcc 8).trans hSS.c8⟩
  have hBd : Below W.heap.size W W.drew := (Below.refl _ _).drew
  have hpi : (pl : Int) ≤ 1024 := by omega
  have hszi : (SZ : Int) ≤ 2000000 := by omega
  have HLK0 := hideIt hL.lt
  have HB := hideIt hBW
  have HH := hideIt (And.intro h (And.intro hL hS))
  clear hBW hSS hA hSZ h hL hS
  go_enter Tryz.func172, Tryz.ntmps172
  go_wp2_with fail
  go_region_held3 (fun w' => w'.cell? ⟨ab, 4, none⟩ = some (.int .i64 (pl : Int)) ∧ w'.cell? ⟨w.heap.size, 0, none⟩ = some (.int .i64 l0) ∧ w'.cell? ⟨w.heap.size, 1, none⟩ = some (.int .i64 p0) ∧ w'.cell? ⟨w.heap.size, 2, none⟩ = some (.string lb) ∧ w'.cell? ⟨w.heap.size, 3, none⟩ = some (.int .i64 (tk : Int)) ∧ w'.cell? ⟨w.heap.size, 4, none⟩ = some (.string nmS) ∧ w'.cell? ⟨w.heap.size, 5, none⟩ = some (.slice va vn vc) ∧ w'.cell? ⟨w.heap.size, 6, none⟩ = some (.int .u8 cd) ∧ w'.cell? ⟨w.heap.size, 7, none⟩ = some (.slice ka kn kc) ∧ w'.cell? ⟨w.heap.size, 8, none⟩ = some (.int .i64 (sz : Int))) (first | exact HSB.out _ hBd | exact HSB.out _ hB1)
    (first | (go_at_call 107; refine HZ.out.mono ?_; rintro e w1 ⟨rfl, hB1⟩))
  all_goals
    have hB01 := HB.out.trans (hB1.mono HB.out.size)
    obtain ⟨_, s0, _, _, s3, _, _, _, _, _⟩ := HSB.out w1 hB1
    have hA1 := HH.out.1.below hB01
    have hL1 := HH.out.2.1.kept (hB01.block _ HH.out.2.1.lt)
    have hS1 := HH.out.2.2.kept (hB01.block _ HH.out.2.2.lt)
    have a1 := hA1.c1
    have a2 := hA1.c2
    have a4 := hA1.c4
    have hwl : w.heap.size < w1.heap.size := by have := hB1.size; omega
    have HW1 := hideIt (And.intro hA1 (And.intro hL1 (And.intro hS1 hB01)))
    obtain ⟨BH, hBH⟩ : ∃ BH : Nat, pl + SZ = BH := ⟨_, rfl⟩
    have hBHi : (pl : Int) + (SZ : Int) = (BH : Int) := by omega
    have hplB : (pl : Int) ≤ (BH : Int) := by omega
    have hwB : IntKind.i64.wrap (BH : Int) = (BH : Int) := by rw [IntKind.wrap_i64]; omega
    have HBH := hideIt hBH
    clear hA1 hL1 hS1 hB01 hB1 hBd HSB HZ HH hBH
    by_cases hbig : 1024 < BH
    · have hbi : (1024 : Int) < (BH : Int) := by omega
      go_wp2
      refine ⟨rfl, ?_, Chg3.of_below _ _ _ HW1.out.2.2.2, fun e => ?_⟩
      · unfold spanF
        rw [HBH.out, if_pos hbig]
        rfl
      · unfold spanF at e
        rw [HBH.out, if_pos hbig] at e
        cases e
    · have hbi : ¬ (1024 : Int) < (BH : Int) := by omega
      have hB1024 : (BH : Int) ≤ 1024 := by omega
      have hc1i : (1024 : Int) ≤ (c1 : Int) := by omega
      have hc1j : (c1 : Int) ≤ 9223372036854775807 := by have := hc1.2; unfold maxLen at this; omega
      have hBc1 : (BH : Int) ≤ (c1 : Int) := by omega
      have hsub : BH - pl = SZ := by have := HBH.out; omega
      obtain ⟨o, ho, hop⟩ : ∃ o : Nat, (if c1 = pl then (some ⟨lk, 0, none⟩ : Option Addr) else some ⟨lk, pl, none⟩) = some ⟨lk, o, none⟩ ∧ (SZ ≠ 0 → o = pl) := by
        by_cases he : c1 = pl
        · exact ⟨0, if_pos he, fun hz => by have := HBH.out; omega⟩
        · exact ⟨pl, if_neg he, fun _ => rfl⟩
      obtain ⟨R, hR⟩ : ∃ R, (laid.drop pl).take SZ = R := ⟨_, rfl⟩
      have hRl : R.length = SZ := by
        rw [← hR, List.length_take, List.length_drop, HW1.out.2.1.len]
        have := HBH.out
        omega
      have HC : Hid (∀ m, Calls Tryz.prog 219 #[.slice (some ⟨lk, o, none⟩) SZ (c1 - pl), .bool true] (w1.drewN m) fun e w' => e = .returned (.bool (decide (true ∈ R))) ∧ w' = w1.drewN m) := fun m => by
        have q := hasB_any lk o (c1 - pl) R (w1.drewN m) (fun i hi => by
          have hL1 := HW1.out.2.1
          have hb := HBH.out
          have hi2 : pl + i < laid.length := by rw [hL1.len]; omega
          have := hL1.cell (pl + i) hi2
          rw [hop (by omega)]
          refine this.trans ?_
          congr 2
          simp [← hR]) (by omega)
        rw [hRl] at q
        exact q
      have hLF : spanF pl SZ laid = if true ∈ R then some 7 else none := by
        unfold spanF
        rw [HBH.out, if_neg hbig, hR]
      have HR := hideIt (And.intro hLF hop)
      have hSZi : (SZ : Int) ≤ 1024 := by omega
      clear hR hRl hLF hop
      go_wp2_with fail
      go_quiet (fail)
      go_wp2_with fail
      refine (HC.out _).mono ?_
      rintro e w2 ⟨rfl, rfl⟩
      by_cases hin : true ∈ R
      · have hdt : decide (true ∈ R) = true := decide_eq_true hin
        have HI := hideIt hin
        clear hin
        go_wp2
        refine ⟨rfl, ?_, Chg3.of_below _ _ _ (below_drewN HW1.out.2.2.2 _), fun e => ?_⟩
        · rw [HR.out.1, if_pos HI.out]
          rfl
        · rw [HR.out.1, if_pos HI.out] at e
          cases e
      · have hdt : decide (true ∈ R) = false := decide_eq_false hin
        have HI := hideIt hin
        clear hin HC
        have H0 : Hid (∀ m, LayMid w (w1.drewN m) ab lk sk nb n i0 (.slice (some ⟨lk, 0, none⟩) 1024 c1) (.slice (some ⟨sk, 0, none⟩) 1024 c2) nm pl laid starts tk 0) := fun m => ⟨HW1.out.1.kept rfl rfl, HW1.out.2.1.kept rfl, HW1.out.2.2.1.kept rfl, Chg3.of_below _ _ _ (below_drewN HW1.out.2.2.2 _), s3, hwl⟩
        have HLW : Hid (lk < w.heap.size) := HLK0.out
        go_wp2_with fail
        go_loopw [39] (fun i wr => ∃ j : Nat, j ≤ SZ ∧ i = .int .i64 j ∧ LayMid w wr ab lk sk nb n i0 (.slice (some ⟨lk, 0, none⟩) 1024 c1) (.slice (some ⟨sk, 0, none⟩) 1024 c2) nm pl laid starts tk j) (fun i _ => SZ - (intOf i).toNat)
        case atStart => exact ⟨0, Nat.zero_le _, rfl, H0.out _⟩
        case round =>
          clear a1 a2 a4 s0 s3 HW1 H0 hwl
          obtain ⟨j, hj, rfl, hm⟩ := hrel
          by_cases hlt : j < SZ
          · have hji : (j : Int) < (SZ : Int) := by omega
            have ho2 := HR.out.2 (by omega)
            have hBB := HBH.out
            have hin : pl + j < (setR laid pl j).length := by rw [hm.laid.len]; omega
            obtain ⟨x, cj⟩ : ∃ x, wr.cell? ⟨lk, o + j, none⟩ = some (.bool x) := ⟨_, by rw [ho2]; exact hm.laid.cell (pl + j) hin⟩
            have fj : wr.frozen? ⟨lk, o + j, none⟩ = false := hm.laid.fz _
            have HM := hideIt (show LayMid w (wr.setCell ⟨lk, o + j, none⟩ (.bool true)) ab lk sk nb n i0 (.slice (some ⟨lk, 0, none⟩) 1024 c1) (.slice (some ⟨sk, 0, none⟩) 1024 c2) nm pl laid starts tk (j + 1) by rw [ho2]; exact hm.step hd HLW.out)
            clear hm hin ho2 hBB
            go_wp2
            go_roundw
            case rel => exact ⟨j + 1, by omega, by go_num, HM.out⟩
            case measure => simp [intOf]; omega
          · have hji : ¬ (j : Int) < (SZ : Int) := by omega
            have hjS : j = SZ := by omega
            rw [hjS] at hm hji ⊢
            have s3 := hm.task
            have a2 := hm.st.c2
            have a4 := hm.st.c4
            have fa := hm.st.fz 4
            have hwl := hm.lt
            have HM := hideIt hm
            clear hm hjS hlt hj
            by_cases htk : tk = 6
            · have hti : (tk : Int) = 6 := by omega
              have h1 := hSZ6 htk
              have hpl : (pl : Int) < 1024 := by have := HBH.out; omega
              have hsin : pl < starts.length := by rw [HM.out.starts.len]; omega
              obtain ⟨x, cs⟩ : ∃ x, wr.cell? ⟨sk, pl, none⟩ = some (.bool x) := ⟨_, HM.out.starts.cell pl hsin⟩
              have fs := HM.out.starts.fz pl
              have HTK := hideIt htk
              clear htk hsin hSZ6
              go_wp2_with fail
              go_region
              all_goals
                go_wp2
                go_end0
                refine ⟨?_, ?_, fun _ => ⟨?_, ?_, ?_⟩⟩
                · rw [HR.out.1, if_neg HI.out]
                  rfl
                · exact ((Chg3.set HM.out.chg sk (.inr (.inr rfl)) _ _).drewN 1).set ab (.inl rfl) _ _
                · rw [HBH.out]
                  exact (AS.place (HM.out.st.kept (heap_setCell_other wr ⟨sk, pl, none⟩ ab (.bool true) hd.2.1) (heap_setCell_other wr ⟨sk, pl, none⟩ nb (.bool true) hd.2.2.2.2)) (BH : Int)).kept rfl rfl
                · exact HM.out.laid.kept ((heap_setCell_other _ _ _ _ (fun e => hd.1 e.symm)).trans (heap_setCell_other wr ⟨sk, pl, none⟩ lk (.bool true) hd.2.2.1))
                · rw [if_pos HTK.out]
                  exact (HM.out.starts.put pl true).kept (heap_setCell_other _ _ _ _ (fun e => hd.2.1 e.symm))
            · have hti : ¬ (tk : Int) = 6 := by omega
              have HTK := hideIt htk
              clear htk hSZ6
              go_wp2
              go_end0
              refine ⟨?_, ?_, fun _ => ⟨?_, ?_, ?_⟩⟩
              · rw [HR.out.1, if_neg HI.out]
                rfl
              · exact HM.out.chg.set ab (.inl rfl) _ _
              · rw [HBH.out]
                exact AS.place HM.out.st _
              · exact HM.out.laid.kept (heap_setCell_other _ _ _ _ (fun e => hd.1 e.symm))
              · rw [if_neg HTK.out]
                exact HM.out.starts.kept (heap_setCell_other _ _ _ _ (fun e => hd.2.1 e.symm))
end Go.Proofs.YthokdbcpkmcieaaGreatDoor
namespace Go.Proofs.YthokdbcpkmcieaaGreatDoor
open Go Go.RowKit Go.Shelf Go.WideMaps Go.Maps
/-- What the assembler knows. -/
structure Asm where
  nm : List UInt8 → Option Int
  n : Nat
  pl : Nat
  laid : List Bool
  starts : List Bool
  bytes : List UInt8
/-- A name gets its meaning. -/
def Asm.put (a : Asm) (k : ByteArray) (z : Int) : Asm := { a with nm := fun x => if x = k.data.toList then some z else a.nm x, n := if (a.nm k.data.toList).isSome then a.n else a.n + 1 }
structure Asm.Ok (a : Asm) : Prop where
  pl : a.pl ≤ 1024
  n : a.n ≤ 1000
  nm : ∀ l z, a.nm l = some z → -1000000 ≤ z ∧ z ≤ 1000000
/-- What comes of a statement when it is read. -/
def settleF (a : Asm) (lb : ByteArray) (x : Stm) : Except Int Asm :=
  if cuF a.nm lb x.task x.name x.vals = false then .error 3
  else match cgF a.nm a.n (givenS lb x.task x.name) with
    | some k => .error k
    | none =>
      if tooS x.vals = true then .error 6
      else
        let b := if lb = ⟨#[]⟩ then a else a.put lb (a.pl : Int)
        if x.task = 1 then match nmbF b.nm (a.pl : Int) (x.vals.headD []) 0 1023 with
          | some z => .ok { b with pl := z.toNat }
          | none => .error 6
        else if x.task = 4 then match nmbF b.nm (a.pl : Int) (x.vals.headD []) 0 (1024 - (a.pl : Int)) with
          | some z => .ok { b with pl := a.pl + z.toNat }
          | none => .error 6
        else if x.task = 5 then match nmbF b.nm (a.pl : Int) (x.vals.headD []) (-1000000) 1000000 with
          | some z => .ok (b.put x.name z)
          | none => .error 6
        else match spanF a.pl (sizeS x.task x.vals.length x.ins.size) a.laid with
          | some k => .error k
          | none => .ok { b with pl := a.pl + sizeS x.task x.vals.length x.ins.size, laid := setR a.laid a.pl (sizeS x.task x.vals.length x.ins.size), starts := if x.task = 6 then a.starts.set a.pl true else a.starts }
/-- Where the assembler lies. -/
structure AMem where
  ab : Nat
  ik : Nat
  lk : Nat
  sk : Nat
  nb : Nat
  c0 : Nat
  c1 : Nat
  c2 : Nat
structure AMem.Ok (m : AMem) : Prop where
  d : m.ab ≠ m.lk ∧ m.ab ≠ m.sk ∧ m.lk ≠ m.sk ∧ m.nb ≠ m.lk ∧ m.nb ≠ m.sk
  e : m.ik ≠ m.ab ∧ m.ik ≠ m.lk ∧ m.ik ≠ m.sk ∧ m.ik ≠ m.nb
  h0 : 1024 ≤ m.c0 ∧ m.c0 ≤ maxLen
  h1 : 1024 ≤ m.c1 ∧ m.c1 ≤ maxLen
  h2 : 1024 ≤ m.c2 ∧ m.c2 ≤ maxLen
def iV (b c : Nat) : Value := .slice (some ⟨b, 0, none⟩) 1024 c
/-- A row of 1024 bytes. -/
structure YRow (w : World) (b : Nat) (l : List UInt8) : Prop where
  at_ : w.heap[b]? = some (.cells (l.map fun x => Value.int .u8 (x.toNat : Int)).toArray 5 (0, 0))
  len : l.length = 1024
theorem YRow.kept {w w' : World} {b : Nat} {l : List UInt8} (h : YRow w b l) (e : w'.heap[b]? = w.heap[b]?) : YRow w' b l := ⟨e.trans h.at_, h.len⟩
theorem YRow.lt {w : World} {b : Nat} {l : List UInt8} (h : YRow w b l) : b < w.heap.size := (Array.getElem?_eq_some_iff.1 h.at_).1
structure AsmAt (w : World) (m : AMem) (a : Asm) : Prop where
  st : AS w m.ab (iV m.ik m.c0) (iV m.lk m.c1) (iV m.sk m.c2) m.nb a.n a.nm (a.pl : Int)
  bytes : YRow w m.ik a.bytes
  laid : BRow w m.lk a.laid
  starts : BRow w m.sk a.starts
theorem AsmAt.nlt {w : World} {m : AMem} {a : Asm} (h : AsmAt w m a) : m.nb < w.heap.size := MapAt.lt h.st.nms
theorem AsmAt.below {w w' : World} {m : AMem} {a : Asm} (h : AsmAt w m a) (hb : Below w.heap.size w w') : AsmAt w' m a := ⟨h.st.below hb, h.bytes.kept (hb.block _ h.bytes.lt), h.laid.kept (hb.block _ h.laid.lt), h.starts.kept (hb.block _ h.starts.lt)⟩
theorem AsmAt.kept {w w' : World} {m : AMem} {a : Asm} (h : AsmAt w m a) (e : ∀ k, k = m.ab ∨ k = m.ik ∨ k = m.lk ∨ k = m.sk ∨ k = m.nb → w'.heap[k]? = w.heap[k]?) : AsmAt w' m a := ⟨h.st.kept (e _ (.inl rfl)) (e _ (by simp)), h.bytes.kept (e _ (by simp)), h.laid.kept (e _ (by simp)), h.starts.kept (e _ (by simp))⟩
/-- Only the assembler's own blocks have changed. -/
structure ChgM (w w' : World) (m : AMem) : Prop where
  os : w'.os = w.os
  tape : w'.tape = w.tape
  output : w'.output = w.output
  size : w.heap.size ≤ w'.heap.size
  block : ∀ k, k < w.heap.size → k ≠ m.ab → k ≠ m.ik → k ≠ m.lk → k ≠ m.sk → k ≠ m.nb → w'.heap[k]? = w.heap[k]?
theorem ChgM.refl (w : World) (m : AMem) : ChgM w w m := ⟨rfl, rfl, rfl, Nat.le_refl _, fun _ _ _ _ _ _ _ => rfl⟩
theorem ChgM.trans {w w1 w2 : World} {m : AMem} (h : ChgM w w1 m) (h2 : ChgM w1 w2 m) : ChgM w w2 m := ⟨h2.os.trans h.os, h2.tape.trans h.tape, h2.output.trans h.output, Nat.le_trans h.size h2.size, fun k a b c d e f => (h2.block k (Nat.lt_of_lt_of_le a h.size) b c d e f).trans (h.block k a b c d e f)⟩
theorem ChgM.below {w w1 : World} (m : AMem) (h : Below w.heap.size w w1) : ChgM w w1 m := ⟨h.os, h.tape, h.output, h.size, fun k a _ _ _ _ _ => h.block k a⟩
theorem ChgM.of3 {w w1 : World} {m : AMem} (h : Chg3 w w1 m.ab m.lk m.sk) : ChgM w w1 m := ⟨h.os, h.tape, h.output, h.size, fun k a b _ d e _ => h.block k a b d e⟩
theorem ChgM.grown {w w1 : World} {m : AMem} (h : w.grownBy w1 (some m.nb)) : ChgM w w1 m := ⟨h.os, h.tape, h.output, h.size, fun k a _ _ _ _ f => h.block k a (fun e => f (Option.some.inj e))⟩
theorem ChgM.set {w w1 : World} {m : AMem} (h : ChgM w w1 m) (k i : Nat) (v : Value) (hk : k = m.ab ∨ k = m.ik ∨ k = m.lk ∨ k = m.sk) : ChgM w (w1.setCell ⟨k, i, none⟩ v) m :=
  ⟨h.os, h.tape, h.output, by simpa [World.setCell] using h.size, fun j a b c d e f => (heap_setCell_other w1 ⟨k, i, none⟩ j v (by show j ≠ k; omega)).trans (h.block j a b c d e f)⟩
theorem ChgM.drewN {w w' : World} {m : AMem} (h : ChgM w w' m) (n : Nat) : ChgM w (w'.drewN n) m := ⟨h.os, h.tape, h.output, h.size, h.block⟩
/-- A name is laid into the map. -/
theorem put_names {w w' : World} {nb : Nat} {a : Asm} {k : ByteArray} {z : Int} (h : MapAt Tryz.prog 9 w' nb (putN a.n ((fun l => (a.nm l).map fun x => Value.int .i64 x) k.data.toList)) (putF (fun l => (a.nm l).map fun x => .int .i64 x) k.data.toList (.int .i64 z))) (hw : w' = w) : NamesAt w nb (a.put k z).n (a.put k z).nm := by
  subst hw
  unfold NamesAt
  have e1 : putN a.n ((a.nm k.data.toList).map fun x => Value.int .i64 x) = (a.put k z).n := by
    unfold Asm.put putN
    cases a.nm k.data.toList <;> rfl
  rw [← e1]
  refine MapAt.ext h (fun l => ?_)
  unfold putF Asm.put
  simp only
  split <;> rfl
theorem AsmAt.put {w w' : World} {m : AMem} {a : Asm} {k : ByteArray} {z : Int} (h : AsmAt w m a) (hm : m.Ok) (hn : NamesAt w' m.nb (a.put k z).n (a.put k z).nm) (hg : w.grownBy w' (some m.nb)) : AsmAt w' m (a.put k z) := by
  have hab : w'.heap[m.ab]? = w.heap[m.ab]? := hg.block _ h.st.lt (fun e => h.st.ne (Option.some.inj e).symm)
  have hc : ∀ j, w'.cell? ⟨m.ab, j, none⟩ = w.cell? ⟨m.ab, j, none⟩ := fun j => World.cell?_of_block (a := ⟨m.ab, j, none⟩) hab
  have hd := hm.d
  have he := hm.e
  exact ⟨⟨(hc 0).trans h.st.c0, (hc 1).trans h.st.c1, (hc 2).trans h.st.c2, (hc 3).trans h.st.c3, (hc 4).trans h.st.c4, fun j => (World.frozen?_of_block (a := ⟨m.ab, j, none⟩) hab).trans (h.st.fz j), hn, h.st.ne⟩, h.bytes.kept (hg.block _ h.bytes.lt (fun e => he.2.2.2 (Option.some.inj e))), h.laid.kept (hg.block _ h.laid.lt (fun e => hd.2.2.2.1 (Option.some.inj e).symm)), h.starts.kept (hg.block _ h.starts.lt (fun e => hd.2.2.2.2 (Option.some.inj e).symm))⟩
theorem Asm.Ok.put {a : Asm} (h : a.Ok) (k : ByteArray) (z : Int) (hz : -1000000 ≤ z ∧ z ≤ 1000000) (hn : a.n ≤ 999) : (a.put k z).Ok := by
  refine ⟨h.pl, ?_, fun l y e => ?_⟩
  · unfold Asm.put
    simp only
    split <;> omega
  · unfold Asm.put at e
    simp only at e
    split at e
    · cases e
      exact hz
    · exact h.nm l y e
theorem VAt.keptM {w w' : World} {base : Nat} {v : Value} {es : List (List Trm)} (h : VAt w base v es) (hb : ∀ j, base ≤ j → j < w.heap.size → w'.heap[j]? = w.heap[j]?) : VAt w' base v es := by
  obtain ⟨vs, h1, h2⟩ := h
  exact ⟨vs, own_at h1 (fun j hj => hb j (h1.lt j hj).1 (h1.lt j hj).2), h2.kept (fun j a b _ => hb j a b) (fun _ _ e => e)⟩
/-- What a term comes to is bounded. -/
theorem trm_ok {a : Asm} (h : ∀ l z, a.nm l = some z → -1000000 ≤ z ∧ z ≤ 1000000) {es : List (List Trm)} (ht : tooS es = false) (hz : ∀ e ∈ es, ∀ t ∈ e, 0 ≤ t.num) {e : List Trm} (he : e ∈ es) {t : Trm} (hte : t ∈ e) {p : Nat} (hp : p ≤ 1024) : -1000000 ≤ trmN a.nm (p : Int) t ∧ trmN a.nm (p : Int) t ≤ 1000000 := by
  unfold trmN
  split
  · cases hn : a.nm t.name.data.toList with
    | none => simp
    | some z => exact h _ _ hn
  · split
    · omega
    · have h0 := hz e he t hte
      have : decide (65535 < t.num) = false := by
        unfold tooS at ht
        rw [List.any_eq_false] at ht
        have h2 := ht e he
        unfold tooE at h2
        rw [Bool.not_eq_true, List.any_eq_false] at h2
        simpa using h2 t hte
      have h3 := of_decide_eq_false this
      omega
end Go.Proofs.YthokdbcpkmcieaaGreatDoor
