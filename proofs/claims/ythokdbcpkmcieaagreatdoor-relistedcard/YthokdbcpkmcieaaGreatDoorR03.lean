/- The walk of instruction.Decode at the one code whose second operand adds its byte first. The plain part: what the program reads and writes of an operand, and what the document's answer shows of it, are the same. Decode's answer, as a plain function of the bytes and the place. Operands as they are written in a line: their pieces, tokens, and what the parser makes of them. -/
import Derived.Test.YthokdbcpkmcieaaGreatDoorR02
import Derived.Test.YthokdbcpkmcieaaGreatDoorR01
namespace Go.Proofs.YthokdbcpkmcieaaGreatDoor
open Go Go.RowKit Go.Shelf Go.WideMaps Go.Maps
theorem swap_cells (l : List Opn) (h : l.length = 2) : ((allCells l).set 3 (.int .u16 (l.getD 1 opn0).added)).set 8 (.int .u16 (l.getD 0 opn0).added) = allCells (swap01 l) := by
  match l, h with
  | [a, b], _ => rfl
set_option maxRecDepth 100000 in
set_option maxHeartbeats 4000000 in
theorem dec_swap (code : ByteArray) (at' m : Int) (w : World) (h : 0 < code.size) (hc2 : code.size ≤ maxLen) (hm : w.cell? ⟨0, 0, none⟩ = some (.int .i64 m)) (h0 : 0 < w.heap.size) (k n : Nat) (rc rf : Int) (rt nm ls : ByteArray) (ps : List ByteArray) (l0 : List Opn)
    (hr : RowIs (code[0].toNat : Int) k n rc rf rt nm ls ps l0) (sl : List Opn) (sz : Int) (h1 : (readTo l0 (code.extract 1 code.size) false n).1 = sl) (h2 : (code.size : Int) - ((readTo l0 (code.extract 1 code.size) false n).2.1.size : Int) = sz) (h3 : (readTo l0 (code.extract 1 code.size) false n).2.2 = false)
    (hrc : (rc == 133) = true) (hn2 : n = 2) (hf : ∀ k, k < n → (((swap01 sl).getD k opn0).at (behindN at' sz)).Fine) (hws : ∀ k, k < n → (writS (((swap01 sl).getD k opn0).at (behindN at' sz))).size ≤ 2000) :
    Calls Tryz.prog 30 #[.string code, .int .i64 at'] w fun e w' => e = .returned (.tuple #[.string ((nm ++ ⟨#[32]⟩) ++ ⟨(Lib.join ((swap01 sl).map fun o => (writS (o.at (behindN at' sz))).data.toList) [44]).toArray⟩), .int .i64 sz]) ∧ Below w.heap.size w w' := by
  have hne : code.toList.isEmpty = false := by rw [isEmpty_iff]; simp only [decide_eq_false_iff_not]; omega
  have HF := hideIt (fun w => find_hit (code[0].toNat : Int) w k hr.hk hr.hh hr.hf rc rf rt hr.e1 hr.e2 hr.e3)
  have HP := hideIt (fun w kb hown hm h0 => parts_ops rc rf (code[0].toNat : Int) m rt nm ls ps n kb w hown hr.hs hr.hls hm h0 hr.hcut hr.hps hr.hn hr.hn0 (by have := hr.hn1; omega) hr.hpl hr.hkd l0 hr.hl0)
  have HR := hideIt (fun base g cap w hown => read_at base g cap n l0 code w hr.len (by have := hr.hn1; omega) hown hr.kinds h hc2 sl sz false h1 h2 h3)
  have hll : sl.length = n := by rw [← h1, readTo_len]; exact hr.len
  obtain ⟨bh, hbh⟩ : ∃ bh, behindN at' sz = bh := ⟨_, rfl⟩
  rw [hbh] at hf hws ⊢
  obtain ⟨R, hR⟩ : ∃ R : ByteArray, (nm ++ ⟨#[32]⟩) ++ ⟨(Lib.join ((swap01 sl).map fun o => (writS (o.at bh)).data.toList) [44]).toArray⟩ = R := ⟨_, rfl⟩
  have HLI := hideIt (fun base g cap w hown => line_some base g cap n (swap01 sl) nm bh w (by simp only [swap01, List.length_set]; exact hll) hr.hn0 (by have := hr.hn1; omega) hown hf hr.hnm hws)
  rw [hR] at HLI ⊢
  have HBH : Hid (IntKind.u16.wrap (IntKind.u16.wrap at' + IntKind.u16.wrap sz) = bh) := hbh
  have hn1 := hr.hn1
  subst hn2
  have HLL := hideIt hll
  obtain ⟨a0, ha0⟩ : ∃ a, (sl.getD 0 opn0).added = a := ⟨_, rfl⟩
  obtain ⟨a1, ha1⟩ : ∃ a, (sl.getD 1 opn0).added = a := ⟨_, rfl⟩
  have HA0 := hideIt ha0
  have HA1 := hideIt ha1
  have hsw := swap_cells sl hll
  rw [ha0, ha1] at hsw
  have HSW := hideIt hsw
  clear hr h1 h2 h3 hf hws hbh hR hll ha0 ha1 hsw
  go_enter Tryz.func30, Tryz.ntmps30
  go_wp2_with fail
  refine (HF.out _).mono ?_
  rintro e w1 ⟨rfl, hb1⟩
  have hs1 := hb1.size
  have hm1 : ∀ o, (w1.alloc o).cell? ⟨0, 0, none⟩ = some (.int .i64 m) := fun o => by rw [World.cell?_alloc_old _ _ _ (by simp; omega), hb1.cell (by simp; omega)]; exact hm
  go_wp2_with fail
  go_region_with (first | (go_at_call 59; refine (kinds_any _).mono ?_; rintro e wk ⟨rfl, hok, hbk⟩; have hok' : wk.ownsMap Tryz.prog 9 (plainElem Tryz.prog 111) (w1.heap.size + 1) 17 kindsD := (by simpa using hok); have k0 : wk.cell? ⟨w1.heap.size, 0, none⟩ = some (.int .u8 rc) := (by rw [hbk.cell (by simp)]; simp); have k1 : wk.cell? ⟨w1.heap.size, 1, none⟩ = some (.int .u8 rf) := (by rw [hbk.cell (by simp)]; simp); have k2 : wk.cell? ⟨w1.heap.size, 2, none⟩ = some (.string rt) := (by rw [hbk.cell (by simp)]; simp); have km : wk.cell? ⟨0, 0, none⟩ = some (.int .i64 m) := (by rw [hbk.cell (by simp)]; exact hm1 _); have kz : 0 < wk.heap.size := (by have := hbk.size; simp at this; omega); have kb' : Below (w1.heap.size + 1) (w1.alloc (.cells #[.int .u8 rc, .int .u8 rf, .string rt] 101)) wk := (by have hx := hbk.mono (B' := w1.heap.size + 1) (by simp); exact ⟨hx.os, hx.tape, hx.output, hx.size, hx.block⟩)) | (go_at_call 58; refine (HP.out _ _ (by exact hok') (by exact km) (by exact kz)).mono ?_; rintro e w2 ⟨g, cap, rfl, hrow, hb2⟩))
  all_goals
    have hzk : w1.heap.size + 1 ≤ wk.heap.size := by have := kb'.size; simpa using this
    have hb2' := kb'.trans (hb2.mono (B' := w1.heap.size + 1) hzk)
    have hs2 : w1.heap.size + 1 ≤ w2.heap.size := by have := hb2'.size; simpa using this
    have hrow' : w2.ownsRow (w1.heap.size + 1) 114 5 (.slice (some ⟨g, 0, none⟩) 2 cap) 2 (allCells l0) := own_base hrow hzk
    have hg := (hrow'.lt g rfl).1
    clear hb2 hrow k0 k1 k2 km kb' hbk hok hok'
    go_wp2_with fail
    refine (HR.out (w1.heap.size + 1) g cap _ hrow').mono ?_
    rintro e w3 ⟨rfl, hrow3, hg3⟩
    have hb3 : Below (w1.heap.size + 1) w2 w3 := ⟨hg3.os, hg3.tape, hg3.output, hg3.size, fun j hj => hg3.block j (by omega) (by simp; omega)⟩
    have HB := hideIt (((hb1.alloc hs1 _).trans (hb2'.mono (by omega))).trans (hb3.mono (B' := w.heap.size) (by omega)))
    have cr : w3.cell? ⟨w1.heap.size, 0, none⟩ = some (.int .u8 rc) := by rw [hb3.cell (by simp), hb2'.cell (by simp)]; simp
    have hcs0 := (allCells_at sl 0 (by rw [HLL.out]; omega)).2.2.2.1
    have hcs1 := (allCells_at sl 1 (by rw [HLL.out]; omega)).2.2.2.1
    rw [HA0.out] at hcs0
    rw [HA1.out] at hcs1
    have ca : w3.cell? ⟨g, 3, none⟩ = some (.int .u16 a0) := by rw [hrow3.cellAt 3 (by omega)]; exact hcs0
    have cb : w3.cell? ⟨g, 8, none⟩ = some (.int .u16 a1) := by rw [hrow3.cellAt 8 (by omega)]; exact hcs1
    have fa : w3.frozen? ⟨g, 3, none⟩ = false := hrow3.frozenAt 3
    have fb : w3.frozen? ⟨g, 8, none⟩ = false := hrow3.frozenAt 8
    have st1 := hrow3.stored 3 (.int .u16 a1)
    have st2 := st1.1.stored 8 (.int .u16 a0)
    rw [HSW.out] at st2
    have HB2 := hideIt ((HB.out.grown (B := w.heap.size) st1.2 HB.out.size (fun k hk => by cases hk; omega)).grown st2.2 (by have := HB.out.size; have := st1.2.size; omega) (fun k hk => by cases hk; omega))
    have H3 := hideIt st2.1
    clear hrow' hrow3 hg3 hb3 hb2' st1 st2 hcs0 hcs1
    go_wp2_with fail
    go_region
    all_goals
      go_wp2_with fail
      rw [HBH.out]
      refine (HLI.out (w1.heap.size + 1) g cap _ (by exact H3.out)).mono ?_
      rintro e w4 ⟨rfl, hb4⟩
      go_wp2
      go_ret2
      exact ⟨rfl, HB2.out.drew.trans (hb4.mono HB2.out.size)⟩
end Go.Proofs.YthokdbcpkmcieaaGreatDoor
namespace Go.Proofs.YthokdbcpkmcieaaGreatDoor
open Go Go.RowKit
theorem ba_ext {a b : ByteArray} (h : a.data.toList = b.data.toList) : a = b := by
  apply ByteArray.ext
  exact Array.ext' h
theorem extract_extract' (s : ByteArray) (a b c : Nat) : (s.extract a b).extract c (b - a) = s.extract (a + c) b := by
  apply ba_ext
  rw [Lib.extract_data, Lib.extract_data, Lib.extract_data]
  rw [List.drop_take, List.drop_drop, List.take_take]
  congr 1
  omega
theorem bAt_list (b : ByteArray) (i : Nat) : bAt b i = ((b.data.toList.getD i 0).toNat : Int) := by
  unfold bAt
  rw [Array.getD_eq_getD_getElem?, List.getD_eq_getElem?_getD, Array.getElem?_toList]
theorem bAt_extract (s : ByteArray) (p q i : Nat) (h : p + i < q) : bAt (s.extract p q) i = bAt s (p + i) := by
  rw [bAt_list, bAt_list, Lib.extract_data]
  rw [List.getD_eq_getElem?_getD, List.getD_eq_getElem?_getD, List.getElem?_take, if_pos (by omega), List.getElem?_drop]
/-- The number that an operand of this kind reads off its bytes. -/
def addOf (k : Nat) (b : ByteArray) : Int := if k ≤ 8 then 0 else if k = 10 ∨ k = 14 then bits BinOp.or IntKind.u16 (bAt b 0 * 256) (bAt b 1) else bAt b 0
theorem readB_ok (s : ByteArray) (p : Nat) (h : p < s.size) (sh : Bool) : readB (s.extract p s.size) sh = (bAt s p, s.extract (p + 1) s.size, sh) := by
  have hz : (s.extract p s.size).size = s.size - p := by rw [ByteArray.size_extract]; omega
  have h0 : 0 < (s.extract p s.size).size := by omega
  unfold readB
  rw [dif_pos h0, bAt_eq _ _ h0, bAt_extract s p s.size 0 (by omega), hz, extract_extract' s p s.size 1]
  rfl
theorem opSize_small (k : Nat) (h : k ≤ 8) : opSize k = 0 := by
  match k, h with
  | 0, _ => rfl
  | 1, _ => rfl
  | 2, _ => rfl
  | 3, _ => rfl
  | 4, _ => rfl
  | 5, _ => rfl
  | 6, _ => rfl
  | 7, _ => rfl
  | 8, _ => rfl
theorem opSize_big (k : Nat) (h : ¬ k ≤ 8) (h17 : k < 17) : opSize k = if k = 10 ∨ k = 14 then 2 else 1 := by
  match k, h, h17 with
  | 9, _, _ => rfl
  | 10, _, _ => rfl
  | 11, _, _ => rfl
  | 12, _, _ => rfl
  | 13, _, _ => rfl
  | 14, _, _ => rfl
  | 15, _, _ => rfl
  | 16, _, _ => rfl
  | n + 17, _, h => exact absurd h (by omega)
theorem readOne_ok (k : Nat) (h17 : k < 17) (s : ByteArray) (p : Nat) (h : p + opSize k ≤ s.size) : readOne k (s.extract p s.size) false = (addOf k (s.extract p (p + opSize k)), s.extract (p + opSize k) s.size, false) := by
  unfold readOne addOf
  by_cases h8 : k ≤ 8
  · rw [if_pos h8, if_pos h8, opSize_small k h8]; rfl
  · rw [if_neg h8, if_neg h8]
    rw [opSize_big k h8 h17] at h ⊢
    by_cases hw : k = 10 ∨ k = 14
    · rw [if_pos hw] at h ⊢
      rw [if_pos hw, if_pos hw]
      unfold readW
      rw [readB_ok s p (by omega)]
      simp only
      rw [readB_ok s (p + 1) (by omega), bAt_extract s p (p + 2) 0 (by omega), bAt_extract s p (p + 2) 1 (by omega)]
      rfl
    · rw [if_neg hw] at h ⊢
      rw [if_neg hw, if_neg hw, readB_ok s p (by omega), bAt_extract s p (p + 1) 0 (by omega)]
      rfl
theorem readB_short (r : ByteArray) (sh : Bool) (h : r.size = 0) : readB r sh = (0, r, true) := by
  unfold readB; rw [dif_neg (by omega)]
theorem readB_keeps (r : ByteArray) : (readB r true).2.2 = true := by
  unfold readB; split <;> rfl
theorem readOne_keeps (k : Nat) (r : ByteArray) : (readOne k r true).2.2 = true := by
  unfold readOne
  split
  · rfl
  · split
    · unfold readW
      simp only
      rw [readB_keeps]
      exact readB_keeps _
    · exact readB_keeps r
theorem readOne_short (k : Nat) (h17 : k < 17) (r : ByteArray) (sh : Bool) (h : r.size < opSize k) : (readOne k r sh).2.2 = true := by
  unfold readOne
  by_cases h8 : k ≤ 8
  · rw [opSize_small k h8] at h; omega
  · rw [if_neg h8]
    rw [opSize_big k h8 h17] at h
    by_cases hw : k = 10 ∨ k = 14
    · rw [if_pos hw] at h ⊢
      unfold readW
      by_cases hz : r.size = 0
      · rw [readB_short r sh hz]
        exact readB_keeps r
      · have h1 : r.size = 1 := by omega
        have h0 : 0 < r.size := by omega
        have e : readB r sh = ((r[0].toNat : Int), r.extract 1 r.size, sh) := by unfold readB; rw [dif_pos h0]
        rw [e]
        simp only
        rw [readB_short _ _ (by rw [ByteArray.size_extract]; omega)]
    · rw [if_neg hw] at h ⊢
      rw [readB_short r sh (by omega)]
/-- The operand as it stands ahead of the reading and behind it. -/
def opA (own : Int) (ks : List Nat) (code : ByteArray) (i j : Nat) : Opn := ⟨ks.getD j 0, opText (ks.getD j 0), own, if j < i then addOf (ks.getD j 0) (code.extract (posAt ks j) (posAt ks j + opSize (ks.getD j 0))) else 0, 0⟩
def lAt (own : Int) (ks : List Nat) (code : ByteArray) (i : Nat) : List Opn := (List.range ks.length).map (opA own ks code i)
theorem lAt_get (own : Int) (ks : List Nat) (code : ByteArray) (i j : Nat) (h : j < ks.length) : (lAt own ks code i).getD j opn0 = opA own ks code i j := by
  unfold lAt
  rw [List.getD_eq_getElem?_getD, List.getElem?_map, List.getElem?_range h]
  rfl
theorem lAt_set (own : Int) (ks : List Nat) (code : ByteArray) (i : Nat) (h : i < ks.length) : (lAt own ks code i).set i ((opA own ks code i i).put (addOf (ks.getD i 0) (code.extract (posAt ks i) (posAt ks i + opSize (ks.getD i 0))))) = lAt own ks code (i + 1) := by
  apply List.ext_getElem?
  intro j
  rw [List.getElem?_set]
  simp only [lAt, List.length_map, List.length_range, List.getElem?_map]
  by_cases hj : j < ks.length
  · rw [List.getElem?_range hj]
    by_cases e : i = j
    · subst e; simp [hj, opA, Opn.put]
    · simp only [e, if_false, Option.map_some, opA]
      by_cases h1 : j < i
      · rw [if_pos h1, if_pos (by omega)]
      · rw [if_neg h1, if_neg (by omega)]
  · rw [List.getElem?_eq_none (by simpa using hj)]
    simp
    intro e; omega
theorem posAt_zero (ks : List Nat) : posAt ks 0 = 1 := rfl
theorem readTo_ok (own : Int) (ks : List Nat) (code : ByteArray) (hk : ∀ j, j < ks.length → ks.getD j 0 < 17) : ∀ i, i ≤ ks.length → posAt ks i ≤ code.size →
    readTo (lAt own ks code 0) (code.extract 1 code.size) false i = (lAt own ks code i, code.extract (posAt ks i) code.size, false)
  | 0, _, _ => rfl
  | i + 1, hi, hp => by
    have hs := posAt_snoc ks i (by omega)
    have ih := readTo_ok own ks code hk i (by omega) (by omega)
    simp only [readTo, ih]
    rw [lAt_get own ks code i i (by omega)]
    show (_ : List Opn × ByteArray × Bool) = _
    rw [show (opA own ks code i i).kind = ks.getD i 0 from rfl, readOne_ok (ks.getD i 0) (hk i (by omega)) code (posAt ks i) (by omega)]
    simp only
    rw [lAt_set own ks code i (by omega), hs]
theorem readTo_short (own : Int) (ks : List Nat) (code : ByteArray) (h1 : 1 ≤ code.size) (hk : ∀ j, j < ks.length → ks.getD j 0 < 17) : ∀ i, i ≤ ks.length → code.size < posAt ks i →
    (readTo (lAt own ks code 0) (code.extract 1 code.size) false i).2.2 = true
  | 0, _, hp => by rw [posAt_zero] at hp; omega
  | i + 1, hi, hp => by
    have hs := posAt_snoc ks i (by omega)
    by_cases hq : code.size < posAt ks i
    · have ih := readTo_short own ks code h1 hk i (by omega) hq
      simp only [readTo]
      rw [ih]
      exact readOne_keeps _ _
    · have ih := readTo_ok own ks code hk i (by omega) (by omega)
      simp only [readTo, ih]
      rw [lAt_get own ks code i i (by omega)]
      show (readOne (ks.getD i 0) _ _).2.2 = true
      exact readOne_short _ (hk i (by omega)) _ _ (by rw [ByteArray.size_extract]; omega)
theorem wraps_u16' (n : Int) (h0 : 0 ≤ n) (h1 : n < 2 ^ 16) : IntKind.u16.wrap n = n := by rw [IntKind.wrap_u16]; omega
theorem wrap_i8 (a : Int) (h0 : 0 ≤ a) (h1 : a ≤ 255) : IntKind.i8.wrap a = if (127 : Int) < a then a - (256 : Int) else a := by
  have key : ∀ n : Fin 256, IntKind.i8.wrap (n.val : Int) = if (127 : Int) < (n.val : Int) then (n.val : Int) - (256 : Int) else (n.val : Int) := by decide +kernel
  obtain ⟨n, rfl⟩ := Int.eq_ofNat_of_zero_le h0
  exact key ⟨n, by omega⟩
theorem and_page (h : Nat) (hh : h < 65536) : h &&& 63488 = 2048 * (h / 2048) := by
  apply Nat.eq_of_testBit_eq
  intro i
  rw [Nat.testBit_and, show 2048 * (h / 2048) = 2 ^ 11 * (h / 2 ^ 11) from rfl, Nat.testBit_two_pow_mul, Nat.testBit_div_two_pow]
  by_cases hi : i < 16
  · have key : ∀ i : Fin 16, Nat.testBit 63488 i.val = decide (11 ≤ i.val) := by decide
    have := key ⟨i, hi⟩
    simp only at this
    rw [this]
    by_cases h11 : 11 ≤ i
    · simp [h11]
    · simp [h11]
  · have e : h.testBit i = false := Nat.testBit_lt_two_pow (Nat.lt_of_lt_of_le hh (by
      have : (2 : Nat) ^ 16 ≤ 2 ^ i := Nat.pow_le_pow_right (by decide) (by omega)
      omega))
    rw [e]
    by_cases h11 : 11 ≤ i
    · rw [show i - 11 + 11 = i by omega, e]; simp
    · omega
theorem or_bytes (p q : Int) (p0 : 0 ≤ p) (p1 : p ≤ 255) (q0 : 0 ≤ q) (q1 : q ≤ 255) : bits BinOp.or IntKind.u16 (p * 256) q = (256 : Int) * p + q := by
  rw [bits_join .u16 16 (by decide) wraps_u16' 8]
  all_goals omega
end Go.Proofs.YthokdbcpkmcieaaGreatDoor
namespace Go.Proofs.YthokdbcpkmcieaaGreatDoor
open Go Go.RowKit
def rowIx (c : Int) : Nat := (List.range 111).findIdx (hit c)
def cutOf (c : Int) : List UInt8 × List UInt8 × Bool := Lib.cut (rowAt (rowIx c)).2.2 [32]
def psOf (c : Int) : List ByteArray := pieces ⟨(cutOf c).2.1.toArray⟩
def ksOf (c : Int) : List Nat := (psOf c).map fun t => (kindI t).toNat
def ownOf (c : Int) : Int := bits BinOp.and IntKind.u8 c ((rowAt (rowIx c)).2.1 : Int)
theorem fi_le (n : Nat) (p : Nat → Bool) : (List.range n).findIdx p ≤ n := by
  have := List.findIdx_le_length (p := p) (xs := List.range n)
  simpa using this
theorem fi_at (n : Nat) (p : Nat → Bool) (h : (List.range n).findIdx p < n) : p ((List.range n).findIdx p) = true := by
  have hw : (List.range n).findIdx p < (List.range n).length := by simpa using h
  have := List.findIdx_getElem (w := hw)
  simpa using this
theorem fi_not (n : Nat) (p : Nat → Bool) (j : Nat) (h : j < (List.range n).findIdx p) : p j = false := by
  have := List.not_of_lt_findIdx h
  simpa using this
theorem row_lt (c : Int) (hr : rowIx c ≠ 111) : rowIx c < 111 := by
  have : rowIx c ≤ 111 := fi_le 111 (hit c)
  omega
theorem row_hit (c : Int) (hr : rowIx c ≠ 111) : hit c (rowIx c) = true := fi_at 111 (hit c) (row_lt c hr)
theorem row_first (c : Int) : ∀ j, j < rowIx c → hit c j = false := fun j h => fi_not 111 (hit c) j h
theorem posAt_all (ks : List Nat) : posAt ks ks.length = sizeOf' ks := by unfold posAt sizeOf'; rw [List.take_length]
theorem ks_len (c : Int) : (ksOf c).length = (psOf c).length := by unfold ksOf; rw [List.length_map]
theorem opText_size (k : Nat) : (opText k).size ≤ 1000 := by
  by_cases h : k < 17
  · have key : ∀ k : Fin 17, (opText k.val).size ≤ 1000 := by decide +kernel
    exact key ⟨k, h⟩
  · unfold opText
    rw [List.getD_eq_getElem?_getD, List.getElem?_eq_none (by simp; omega)]
    exact Nat.zero_le _
theorem addOf_bd (k : Nat) (b : ByteArray) : 0 ≤ addOf k b ∧ addOf k b ≤ 65535 := by
  have hb0 := bAt_bd b 0
  have hb1 := bAt_bd b 1
  unfold addOf
  split
  · omega
  · split
    · rw [or_bytes _ _ hb0.1 hb0.2 hb1.1 hb1.2]
      omega
    · omega
/-- What the closed look asks of a code with operands. -/
def okOpD (c : Int) : Bool := decide (1 ≤ (psOf c).length) && decide ((psOf c).length ≤ 3) &&
  (psOf c).all (fun t => decide (t.size ≤ 1000) && decide (0 ≤ kindI t) && decide (opText (kindI t).toNat = t) && decide ((kindI t).toNat < 17)) && decide (0 ≤ ownOf c) && ((ksOf c).all fun k => decide (k ≠ 7 ∧ k ≠ 8) || decide (ownOf c < 8)) &&
  decide ((((rowAt (rowIx c)).1 : Int) == 133) = (c == 133)) && (!(c == 133) || decide (ksOf c = [11, 11])) && decide ((cutOf c).2.1.length < 1000)
def okPlD (c : Int) : Bool := decide ((cutOf c).2.1 = []) && !(((rowAt (rowIx c)).1 : Int) == 133)
def okD (c : Int) : Bool := if rowIx c = 111 then true else decide ((rowAt (rowIx c)).2.2.length < 1000) && (if (cutOf c).2.2 then okOpD c else okPlD c)
set_option maxRecDepth 100000 in
theorem all_okD : (List.range 256).all (fun c => okD (c : Int)) = true := by decide +kernel
theorem okD_of (x : UInt8) : okD (x.toNat : Int) = true := by
  have := x.toNat_lt
  exact List.all_eq_true.1 all_okD x.toNat (List.mem_range.2 (by omega))
structure OpD (c : Int) : Prop where
  n0 : 1 ≤ (psOf c).length
  n1 : (psOf c).length ≤ 3
  ps : ∀ t ∈ psOf c, t.size ≤ 1000 ∧ 0 ≤ kindI t ∧ opText (kindI t).toNat = t ∧ (kindI t).toNat < 17
  own0 : 0 ≤ ownOf c
  own : ∀ k ∈ ksOf c, (k ≠ 7 ∧ k ≠ 8) ∨ ownOf c < 8
  same : (((rowAt (rowIx c)).1 : Int) == 133) = (c == 133)
  swap : (c == 133) = true → ksOf c = [11, 11]
  short : (cutOf c).2.1.length < 1000
theorem opD_of (c : Int) (h : okOpD c = true) : OpD c := by
  simp only [okOpD, Bool.and_eq_true, decide_eq_true_eq, List.all_eq_true, Bool.or_eq_true, Bool.not_eq_true'] at h
  obtain ⟨⟨⟨⟨⟨⟨⟨h1, h2⟩, h3⟩, h4⟩, h5⟩, h6⟩, h7⟩, h8⟩ := h
  exact ⟨h1, h2, fun t ht => by have := h3 t ht; exact ⟨this.1.1.1, this.1.1.2, this.1.2, this.2⟩, h4, h5, h6, fun hc => h7.resolve_left (by rw [hc]; simp), h8⟩
theorem OpD.kind {c : Int} (h : OpD c) (j : Nat) (hj : j < (ksOf c).length) : (ksOf c).getD j 0 < 17 := by
  have hj' : j < (psOf c).length := by rw [← ks_len]; exact hj
  have := (h.ps _ (List.getElem_mem hj')).2.2.2
  unfold ksOf
  rw [List.getD_eq_getElem?_getD, List.getElem?_map, List.getElem?_eq_getElem hj']
  exact this
theorem OpD.l0 {c : Int} (h : OpD c) (code : ByteArray) : (psOf c).map (opn (ownOf c)) = lAt (ownOf c) (ksOf c) code 0 := by
  apply List.ext_getElem?
  intro j
  rw [List.getElem?_map]
  unfold lAt
  rw [List.getElem?_map]
  by_cases hj : j < (psOf c).length
  · have hk : j < (ksOf c).length := by rw [ks_len]; exact hj
    rw [List.getElem?_eq_getElem hj, List.getElem?_range hk]
    have ht := h.ps _ (List.getElem_mem hj)
    have hg : (ksOf c).getD j 0 = (kindI (psOf c)[j]).toNat := by
      unfold ksOf
      rw [List.getD_eq_getElem?_getD, List.getElem?_map, List.getElem?_eq_getElem hj]
      rfl
    simp only [Option.map_some, opn, opA, Nat.not_lt_zero, if_false, hg, ht.2.2.1]
  · rw [List.getElem?_eq_none (by omega), List.getElem?_eq_none (by rw [List.length_range, ks_len]; omega)]
    rfl
theorem OpD.row {c : Int} (h : OpD c) (hr : rowIx c ≠ 111) (hlen : (rowAt (rowIx c)).2.2.length < 1000) (hcut : (cutOf c).2.2 = true) (code : ByteArray) :
    RowIs c (rowIx c) (ksOf c).length ((rowAt (rowIx c)).1 : Int) ((rowAt (rowIx c)).2.1 : Int) ⟨(rowAt (rowIx c)).2.2.toArray⟩ ⟨(cutOf c).1.toArray⟩ ⟨(cutOf c).2.1.toArray⟩ (psOf c) (lAt (ownOf c) (ksOf c) code 0) where
  hk := row_lt c hr
  hh := row_hit c hr
  hf := row_first c
  e1 := rfl
  e2 := rfl
  e3 := rfl
  hs := hlen
  hls := h.short
  hcut := by
    show Lib.cut (rowAt (rowIx c)).2.2 [32] = ((cutOf c).1, (cutOf c).2.1, true)
    rw [← hcut]; rfl
  hps := rfl
  hn := (ks_len c).symm
  hn0 := by rw [ks_len]; exact h.n0
  hn1 := by rw [ks_len]; exact h.n1
  hpl := fun t ht => (h.ps t ht).1
  hkd := fun t ht => (h.ps t ht).2.1
  hk17 := fun t ht => (h.ps t ht).2.2.2
  hl0 := h.l0 code
  hnm := by
    have : (cutOf c).1.length ≤ (rowAt (rowIx c)).2.2.length := by
      unfold cutOf Lib.cut
      split
      · exact List.length_take_le' _ _
      · exact Nat.le_refl _
    show (cutOf c).1.toArray.size ≤ 1000
    rw [List.size_toArray]
    omega
theorem writS_size (o : Opn) (h : o.Fine) : (writS o).size ≤ 2000 := by
  have hn := h.name
  unfold writS
  split
  · omega
  · split
    · rw [ByteArray.size_append]
      have := itoaS_size o.own h.own0 (h.own1 (by omega))
      omega
    · repeat' split
      all_goals exact Nat.le_of_ble_eq_true rfl
/-- A line: a name, a blank, the operands with commas between them. -/
def lineF (nm : ByteArray) (l : List Opn) (bh : Int) : ByteArray := (nm ++ ⟨#[32]⟩) ++ ⟨(Lib.join (l.map fun o => (writS (o.at bh)).data.toList) [44]).toArray⟩
/-- The operands as they are written. -/
def opsF (c : Int) (code : ByteArray) : List Opn := if (c == 133) = true then swap01 (lAt (ownOf c) (ksOf c) code (ksOf c).length) else lAt (ownOf c) (ksOf c) code (ksOf c).length
/-- What Decode answers. -/
def decA (code : ByteArray) (at' : Int) : ByteArray × Nat :=
  if h : 0 < code.size then
    if rowIx (code[0].toNat : Int) = 111 then (⟨#[]⟩, 0)
    else if (cutOf (code[0].toNat : Int)).2.2 = false then (⟨(cutOf (code[0].toNat : Int)).1.toArray⟩, 1)
    else if sizeOf' (ksOf (code[0].toNat : Int)) ≤ code.size then (lineF ⟨(cutOf (code[0].toNat : Int)).1.toArray⟩ (opsF (code[0].toNat : Int) code) (behindN at' (sizeOf' (ksOf (code[0].toNat : Int)) : Nat)), sizeOf' (ksOf (code[0].toNat : Int)))
    else (⟨#[]⟩, 0)
  else (⟨#[]⟩, 0)
theorem opA_fine (own : Int) (ks : List Nat) (code : ByteArray) (i j : Nat) (bh : Int) (hk : ks.getD j 0 < 17) (own0 : 0 ≤ own) (h78 : ks.getD j 0 = 7 ∨ ks.getD j 0 = 8 → own < 100) : ((opA own ks code i j).at bh).Fine := by
  have ha := addOf_bd (ks.getD j 0) (code.extract (posAt ks j) (posAt ks j + opSize (ks.getD j 0)))
  refine ⟨hk, own0, h78, ?_, ?_, opText_size _⟩
  · show 0 ≤ (if j < i then _ else (0 : Int))
    split
    · exact ha.1
    · omega
  · show (if j < i then _ else (0 : Int)) ≤ 65535
    split
    · exact ha.2
    · omega
theorem whole_p (code : ByteArray) (at' : Int) (h : 0 < code.size) (hc2 : code.size ≤ maxLen) (k : Nat) (rc rf : Int) (rt nm ls : ByteArray) (ps : List ByteArray) (ks : List Nat) (own : Int)
    (hrow : RowIs (code[0].toNat : Int) k ks.length rc rf rt nm ls ps (lAt own ks code 0)) (hk17 : ∀ j, j < ks.length → ks.getD j 0 < 17) (hsz : sizeOf' ks ≤ code.size) (hrc : (rc == 133) = false)
    (own0 : 0 ≤ own) (h78 : ∀ j, j < ks.length → ks.getD j 0 = 7 ∨ ks.getD j 0 = 8 → own < 100) (w : World) (m : Int) (hm : w.cell? ⟨0, 0, none⟩ = some (.int .i64 m)) (h0 : 0 < w.heap.size) :
    Calls Tryz.prog 30 #[.string code, .int .i64 at'] w fun e w' => e = .returned (.tuple #[.string (lineF nm (lAt own ks code ks.length) (behindN at' (sizeOf' ks : Nat))), .int .i64 (sizeOf' ks : Nat)]) ∧ Below w.heap.size w w' := by
  have hrt := readTo_ok own ks code hk17 ks.length (Nat.le_refl _) (by rw [posAt_all]; exact hsz)
  have hsize : (code.size : Int) - ((code.extract (posAt ks ks.length) code.size).size : Int) = (sizeOf' ks : Int) := by
    rw [posAt_all, ByteArray.size_extract]; omega
  refine dec_whole code at' m w h hc2 hm h0 _ _ _ _ _ _ _ _ _ hrow _ _ (by rw [hrt]) (by rw [hrt]; exact hsize) (by rw [hrt]) hrc ?_ ?_
  · intro j hj
    rw [lAt_get _ _ _ _ j hj]
    exact opA_fine own ks code _ j _ (hk17 j hj) own0 (h78 j hj)
  · intro j hj
    rw [lAt_get _ _ _ _ j hj]
    exact writS_size _ (opA_fine own ks code _ j _ (hk17 j hj) own0 (h78 j hj))
theorem swap_p (code : ByteArray) (at' : Int) (h : 0 < code.size) (hc2 : code.size ≤ maxLen) (k : Nat) (rc rf : Int) (rt nm ls : ByteArray) (ps : List ByteArray) (own : Int)
    (hrow : RowIs (code[0].toNat : Int) k 2 rc rf rt nm ls ps (lAt own [11, 11] code 0)) (hsz : 3 ≤ code.size) (hrc : (rc == 133) = true) (own0 : 0 ≤ own)
    (w : World) (m : Int) (hm : w.cell? ⟨0, 0, none⟩ = some (.int .i64 m)) (h0 : 0 < w.heap.size) :
    Calls Tryz.prog 30 #[.string code, .int .i64 at'] w fun e w' => e = .returned (.tuple #[.string (lineF nm (swap01 (lAt own [11, 11] code 2)) (behindN at' ((3 : Nat) : Int))), .int .i64 ((3 : Nat) : Int)]) ∧ Below w.heap.size w w' := by
  have hk17 : ∀ j, j < ([11, 11] : List Nat).length → ([11, 11] : List Nat).getD j 0 < 17 := by
    intro j hj
    match j, hj with
    | 0, _ => exact (by decide : (11 : Nat) < 17)
    | 1, _ => exact (by decide : (11 : Nat) < 17)
  have hrt := readTo_ok own [11, 11] code hk17 2 (Nat.le_refl _) (by show 3 ≤ code.size; exact hsz)
  have hsize : (code.size : Int) - ((code.extract 3 code.size).size : Int) = ((3 : Nat) : Int) := by
    rw [ByteArray.size_extract]; omega
  have hsw : swap01 (lAt own [11, 11] code 2) = [⟨11, opText 11, own, addOf 11 (code.extract 2 3), 0⟩, ⟨11, opText 11, own, addOf 11 (code.extract 1 2), 0⟩] := rfl
  have key := dec_swap code at' m w h hc2 hm h0 k 2 rc rf rt nm ls ps _ hrow (lAt own [11, 11] code 2) ((3 : Nat) : Int) (by rw [hrt]) (by rw [hrt]; exact hsize) (by rw [hrt]) hrc rfl
  have ha1 := addOf_bd 11 (code.extract 1 2)
  have ha2 := addOf_bd 11 (code.extract 2 3)
  have hno : ¬ ((11 : Nat) = 7 ∨ (11 : Nat) = 8) := by omega
  have hF : ∀ j, j < 2 → (((swap01 (lAt own [11, 11] code 2)).getD j opn0).at (behindN at' ((3 : Nat) : Int))).Fine := by
    intro j hj
    rw [hsw]
    match j, hj with
    | 0, _ => exact ⟨by show 11 < 17; omega, own0, fun h' => (hno h').elim, ha2.1, ha2.2, opText_size 11⟩
    | 1, _ => exact ⟨by show 11 < 17; omega, own0, fun h' => (hno h').elim, ha1.1, ha1.2, opText_size 11⟩
  exact key hF (fun j hj => writS_size _ (hF j hj))
theorem decode_any (code : ByteArray) (at' : Int) (hc2 : code.size ≤ maxLen) (w : World) (m : Int) (hm : w.cell? ⟨0, 0, none⟩ = some (.int .i64 m)) (h0 : 0 < w.heap.size) :
    Calls Tryz.prog 30 #[.string code, .int .i64 at'] w fun e w' => e = .returned (.tuple #[.string (decA code at').1, .int .i64 ((decA code at').2 : Nat)]) ∧ Below w.heap.size w w' := by
  unfold decA
  by_cases h : 0 < code.size
  · rw [dif_pos h]
    have hok := okD_of code[0]
    unfold okD at hok
    by_cases hr : rowIx (code[0].toNat : Int) = 111
    · rw [if_pos hr]
      exact dec_miss code at' w h (fun j hj => fi_not 111 (hit _) j (by show j < rowIx _; omega))
    · rw [if_neg hr]
      rw [if_neg hr] at hok
      simp only [Bool.and_eq_true, decide_eq_true_eq] at hok
      obtain ⟨hlen, hrest⟩ := hok
      cases hcut : (cutOf (code[0].toNat : Int)).2.2 with
      | false =>
        rw [hcut] at hrest
        simp only [Bool.false_eq_true, if_false, okPlD, Bool.and_eq_true, decide_eq_true_eq, Bool.not_eq_true'] at hrest
        rw [if_pos rfl]
        refine dec_plain code at' m w h hc2 hm h0 _ (row_lt _ hr) (row_hit _ hr) (row_first _) _ _ _ _ rfl rfl rfl hlen ?_ hrest.2
        show Lib.cut (rowAt (rowIx (code[0].toNat : Int))).2.2 [32] = ((cutOf (code[0].toNat : Int)).1, [], false)
        exact Prod.ext rfl (Prod.ext hrest.1 hcut)
      | true =>
        rw [hcut] at hrest
        have ho := opD_of _ hrest
        rw [if_neg (by decide)]
        have hrow := ho.row hr hlen hcut code
        by_cases hsz : sizeOf' (ksOf (code[0].toNat : Int)) ≤ code.size
        · rw [if_pos hsz]
          cases h133 : ((code[0].toNat : Int) == 133) with
          | false =>
            have e : opsF (code[0].toNat : Int) code = lAt (ownOf (code[0].toNat : Int)) (ksOf (code[0].toNat : Int)) code (ksOf (code[0].toNat : Int)).length := by unfold opsF; rw [h133]; rfl
            rw [e]
            refine whole_p code at' h hc2 _ _ _ _ _ _ _ _ _ hrow (fun j hj => ho.kind j hj) hsz (by rw [ho.same]; exact h133) ho.own0 (fun j hj h78 => ?_) w m hm h0
            have hmem : (ksOf (code[0].toNat : Int)).getD j 0 ∈ ksOf (code[0].toNat : Int) := by
              rw [List.getD_eq_getElem?_getD, List.getElem?_eq_getElem hj]
              exact List.getElem_mem hj
            rcases ho.own _ hmem with h' | h'
            · omega
            · omega
          | true =>
            have hks := ho.swap h133
            have hown0 := ho.own0
            have hsame := ho.same
            have e : opsF (code[0].toNat : Int) code = swap01 (lAt (ownOf (code[0].toNat : Int)) (ksOf (code[0].toNat : Int)) code (ksOf (code[0].toNat : Int)).length) := by unfold opsF; rw [h133]; rfl
            rw [e]
            rw [hks] at hrow hsz ⊢
            exact swap_p code at' h hc2 _ _ _ _ _ _ _ _ hrow hsz (by rw [hsame]; exact h133) hown0 w m hm h0
        · rw [if_neg hsz]
          refine dec_short code at' m w h hc2 hm h0 _ _ _ _ _ _ _ _ _ hrow ?_
          exact readTo_short _ _ code h (fun j hj => ho.kind j hj) _ (Nat.le_refl _) (by rw [posAt_all]; omega)
  · rw [dif_neg h]
    have he : code.toList.isEmpty = true := by rw [isEmpty_iff]; simp only [decide_eq_true_eq]; omega
    refine (dec_empty code at' w he).mono ?_
    rintro e w' ⟨rfl, rfl⟩
    exact ⟨rfl, Below.refl _ _⟩
set_option maxHeartbeats 400000 in
theorem bDecode_any (code : ByteArray) (at' : Int) (hc2 : code.size ≤ maxLen) (w : World) (m : Int) (hm : w.cell? ⟨0, 0, none⟩ = some (.int .i64 m)) (h0 : 0 < w.heap.size) :
    Calls Tryz.prog 13 #[.string code, .int .i64 at'] w fun e w' => e = .returned (.tuple #[.string (decA code at').1, .int .i64 ((decA code at').2 : Nat)]) ∧ Below w.heap.size w w' := by
  have HS := hideIt (decode_any code at' hc2 w m hm h0)
  obtain ⟨R, hR⟩ : ∃ R, (decA code at').1 = R := ⟨_, rfl⟩
  obtain ⟨S, hS⟩ : ∃ S : Int, ((decA code at').2 : Nat) = S := ⟨_, rfl⟩
  rw [hR, hS] at HS ⊢
  clear hR hS
  go_enter Tryz.func13, Tryz.ntmps13
  go_wp2_with fail
  refine HS.out.mono ?_
  rintro e w1 ⟨rfl, hb⟩
  go_wp2
  go_ret2
  exact ⟨rfl, hb⟩
end Go.Proofs.YthokdbcpkmcieaaGreatDoor
namespace Go.Proofs.YthokdbcpkmcieaaGreatDoor
open Go Go.RowKit
theorem hd_all (P : UInt8 → Prop) (h : ∀ m : Fin 16, P ((#[48, 49, 50, 51, 52, 53, 54, 55, 56, 57, 65, 66, 67, 68, 69, 70] : Array UInt8).getD m.val 0)) (x : Int) : P (hd x) := by
  have : (x % 16).toNat < 16 := by omega
  exact h ⟨(x % 16).toNat, this⟩
theorem hd_w (x : Int) : isW (hd x) = true := hd_all (fun c => isW c = true) (by decide) x
theorem hd_cap (x : Int) : capB (hd x) = hd x := hd_all (fun c => capB c = c) (by decide) x
theorem hd_ne (x : Int) : hd x ≠ 59 ∧ hd x ≠ 10 := hd_all (fun c => c ≠ 59 ∧ c ≠ 10) (by decide) x
theorem hd_in (x : Int) : ([48, 49, 50, 51, 52, 53, 54, 55, 56, 57, 65, 66, 67, 68, 69, 70] : List UInt8).contains (hd x) = true := hd_all (fun c => ([48, 49, 50, 51, 52, 53, 54, 55, 56, 57, 65, 66, 67, 68, 69, 70] : List UInt8).contains c = true) (by decide) x
theorem hd_dv (x : Int) : (dv (hd x) : Int) = x % 16 := by
  have key : ∀ m : Fin 16, dv ((#[48, 49, 50, 51, 52, 53, 54, 55, 56, 57, 65, 66, 67, 68, 69, 70] : Array UInt8).getD m.val 0) = m.val := by decide
  have h : (x % 16).toNat < 16 := by omega
  have := key ⟨(x % 16).toNat, h⟩
  show ((dv ((#[48, 49, 50, 51, 52, 53, 54, 55, 56, 57, 65, 66, 67, 68, 69, 70] : Array UInt8).getD (x % 16).toNat 0) : Nat) : Int) = _
  rw [this]
  show ((x % 16).toNat : Int) = _
  omega
theorem num_h (l : List UInt8) (hl : 0 < l.length ∧ l.length ≤ 4) (hc : ∀ c ∈ l, ([48, 49, 50, 51, 52, 53, 54, 55, 56, 57, 65, 66, 67, 68, 69, 70] : List UInt8).contains c = true) (hv : (numV 16 l : Int) ≤ 65535) : numOf (48 :: 88 :: l) = some (numV 16 l : Int) := by
  have e : digOf (48 :: 88 :: l) = (l, 16, 4, [48, 49, 50, 51, 52, 53, 54, 55, 56, 57, 65, 66, 67, 68, 69, 70]) := by
    unfold digOf
    have : Lib.hasPrefix (48 :: 88 :: l) [48, 88] = true := by simp [Lib.hasPrefix]
    rw [this]
    rfl
  unfold numOf
  rw [e]
  simp only
  rw [if_neg, if_neg (by omega)]
  · congr 1
    omega
  · rintro (h | h)
    · rw [h] at hl; simp at hl
    · have : (l.all fun c => ([48, 49, 50, 51, 52, 53, 54, 55, 56, 57, 65, 66, 67, 68, 69, 70] : List UInt8).contains c) = true := List.all_eq_true.2 hc
      rw [this] at h
      cases h
theorem num_h2 (x : Int) (h0 : 0 ≤ x) (h1 : x ≤ 255) : numOf [48, 88, hd (x / 16), hd x] = some x := by
  have e : (numV 16 [hd (x / 16), hd x] : Int) = x := by
    have a := hd_dv (x / 16)
    have b := hd_dv x
    show ((16 * (16 * 0 + dv (hd (x / 16))) + dv (hd x) : Nat) : Int) = x
    omega
  rw [num_h [hd (x / 16), hd x] (by simp) (by intro c hc; simp at hc; rcases hc with rfl | rfl <;> exact hd_in _) (by omega), e]
theorem num_h4 (x : Int) (h0 : 0 ≤ x) (h1 : x ≤ 65535) : numOf [48, 88, hd (x / 4096), hd (x / 256), hd (x / 16), hd x] = some x := by
  have e : (numV 16 [hd (x / 4096), hd (x / 256), hd (x / 16), hd x] : Int) = x := by
    have a := hd_dv (x / 4096)
    have b := hd_dv (x / 256)
    have c := hd_dv (x / 16)
    have d := hd_dv x
    show ((16 * (16 * (16 * (16 * 0 + dv (hd (x / 4096))) + dv (hd (x / 256))) + dv (hd (x / 16))) + dv (hd x) : Nat) : Int) = x
    omega
  rw [num_h [hd (x / 4096), hd (x / 256), hd (x / 16), hd x] (by simp) (by intro c hc; simp at hc; rcases hc with rfl | rfl | rfl | rfl <;> exact hd_in _) (by omega), e]
/-- The number that an operand stands for in a line. -/
def numO (o : Opn) : Int := if o.kind ≤ 6 then 0 else if o.kind ≤ 8 then o.own else if o.kind ≤ 14 then o.added else if o.kind = 15 then nearN o.behind o.added else pageN o.behind o.own o.added
def px2 (x : Int) : List UInt8 := [48, 88, hd (x / 16), hd x]
def px4 (x : Int) : List UInt8 := [48, 88, hd (x / 4096), hd (x / 256), hd (x / 16), hd x]
/-- The pieces of an operand, in capitals. -/
def pcsO (o : Opn) : List (List UInt8) :=
  if o.kind = 0 then [[65]] else if o.kind = 1 then [[65, 66]] else if o.kind = 2 then [[67]] else if o.kind = 3 then [[68, 80, 84, 82]]
  else if o.kind = 4 then [[64], [65], [43], [68, 80, 84, 82]] else if o.kind = 5 then [[64], [65], [43], [80, 67]] else if o.kind = 6 then [[64], [68, 80, 84, 82]]
  else if o.kind = 7 then [[64], [82, hd o.own]] else if o.kind = 8 then [[82, hd o.own]]
  else if o.kind = 9 then [[35], px2 (numO o)] else if o.kind = 10 then [[35], px4 (numO o)] else if o.kind ≤ 12 then [px2 (numO o)] else if o.kind = 13 then [[47], px2 (numO o)] else [px4 (numO o)]
def wT (l : List UInt8) : Tok := ⟨1, ⟨l.toArray⟩, 0⟩
def sT (c : UInt8) : Tok := ⟨3, ⟨#[c]⟩, 0⟩
def nT (l : List UInt8) (v : Int) : Tok := ⟨2, ⟨l.toArray⟩, v⟩
/-- The tokens of an operand. -/
def tksO (o : Opn) : List Tok :=
  if o.kind = 0 then [wT [65]] else if o.kind = 1 then [wT [65, 66]] else if o.kind = 2 then [wT [67]] else if o.kind = 3 then [wT [68, 80, 84, 82]]
  else if o.kind = 4 then [sT 64, wT [65], sT 43, wT [68, 80, 84, 82]] else if o.kind = 5 then [sT 64, wT [65], sT 43, wT [80, 67]] else if o.kind = 6 then [sT 64, wT [68, 80, 84, 82]]
  else if o.kind = 7 then [sT 64, wT [82, hd o.own]] else if o.kind = 8 then [wT [82, hd o.own]]
  else if o.kind = 9 then [sT 35, nT (px2 (numO o)) (numO o)] else if o.kind = 10 then [sT 35, nT (px4 (numO o)) (numO o)] else if o.kind ≤ 12 then [nT (px2 (numO o)) (numO o)] else if o.kind = 13 then [sT 47, nT (px2 (numO o)) (numO o)] else [nT (px4 (numO o)) (numO o)]
/-- What is known of an operand that stands in a line. -/
structure OpL (o : Opn) : Prop where
  kind : o.kind < 17
  name : o.name = opText o.kind
  own7 : o.kind = 7 → 0 ≤ o.own ∧ o.own < 2
  own8 : o.kind = 8 → 0 ≤ o.own ∧ o.own < 8
  num0 : 0 ≤ numO o
  num1 : numO o ≤ 65535
  byte : o.kind = 9 ∨ o.kind = 11 ∨ o.kind = 12 ∨ o.kind = 13 → numO o ≤ 255
theorem capS_ba (l : List UInt8) : capS ⟨l.toArray⟩ = ⟨(l.map capB).toArray⟩ := by
  unfold capS
  simp
theorem px2_w (x : Int) : (px2 x).all isW = true := by simp [px2, hd_w]; decide
theorem px4_w (x : Int) : (px4 x).all isW = true := by simp [px4, hd_w]; decide
theorem tok_px2 (x : Int) (h0 : 0 ≤ x) (h1 : x ≤ 255) : pieceK 48 ⟨(px2 x).toArray⟩ = some (some (nT (px2 x) x)) := pieceK_num 48 _ x (by decide) (by decide) (num_h2 x h0 h1)
theorem tok_px4 (x : Int) (h0 : 0 ≤ x) (h1 : x ≤ 65535) : pieceK 48 ⟨(px4 x).toArray⟩ = some (some (nT (px4 x) x)) := pieceK_num 48 _ x (by decide) (by decide) (num_h4 x h0 h1)
theorem kind_cases {k : Nat} (h : k < 17) : k = 0 ∨ k = 1 ∨ k = 2 ∨ k = 3 ∨ k = 4 ∨ k = 5 ∨ k = 6 ∨ k = 7 ∨ k = 8 ∨ k = 9 ∨ k = 10 ∨ k = 11 ∨ k = 12 ∨ k = 13 ∨ k = 14 ∨ k = 15 ∨ k = 16 := by omega
theorem own_cases {x : Int} (h : 0 ≤ x ∧ x < 8) : x = 0 ∨ x = 1 ∨ x = 2 ∨ x = 3 ∨ x = 4 ∨ x = 5 ∨ x = 6 ∨ x = 7 := by omega
/-- The operand's text in capitals is its pieces, one behind the other. -/
theorem writ_pcs (o : Opn) (h : OpL o) : (writS o).data.toList.map capB = (pcsO o).flatten := by
  obtain ⟨k, nm', own, add, bh⟩ := o
  have hn : nm' = opText k := h.name
  subst hn
  have h7 := h.own7
  have h8 := h.own8
  have hk := h.kind
  clear h
  simp only at h7 h8 hk
  rcases kind_cases hk with rfl | rfl | rfl | rfl | rfl | rfl | rfl | rfl | rfl | rfl | rfl | rfl | rfl | rfl | rfl | rfl | rfl
  · show (opText 0).data.toList.map capB = ([[65]] : List (List UInt8)).flatten
    decide
  · show (opText 1).data.toList.map capB = ([[65, 66]] : List (List UInt8)).flatten
    decide
  · show (opText 2).data.toList.map capB = ([[67]] : List (List UInt8)).flatten
    decide
  · show (opText 3).data.toList.map capB = ([[68, 80, 84, 82]] : List (List UInt8)).flatten
    decide
  · show (opText 4).data.toList.map capB = ([[64], [65], [43], [68, 80, 84, 82]] : List (List UInt8)).flatten
    decide
  · show (opText 5).data.toList.map capB = ([[64], [65], [43], [80, 67]] : List (List UInt8)).flatten
    decide
  · show (opText 6).data.toList.map capB = ([[64], [68, 80, 84, 82]] : List (List UInt8)).flatten
    decide
  · have h7 := h7 rfl
    rcases (show own = 0 ∨ own = 1 by omega) with rfl | rfl
    · show (opText 7 ++ itoaS 0).data.toList.map capB = ([[64], [82, hd 0]] : List (List UInt8)).flatten
      decide +kernel
    · show (opText 7 ++ itoaS 1).data.toList.map capB = ([[64], [82, hd 1]] : List (List UInt8)).flatten
      decide +kernel
  · rcases own_cases (h8 rfl) with rfl | rfl | rfl | rfl | rfl | rfl | rfl | rfl
    · show (opText 8 ++ itoaS 0).data.toList.map capB = ([[82, hd 0]] : List (List UInt8)).flatten
      decide +kernel
    · show (opText 8 ++ itoaS 1).data.toList.map capB = ([[82, hd 1]] : List (List UInt8)).flatten
      decide +kernel
    · show (opText 8 ++ itoaS 2).data.toList.map capB = ([[82, hd 2]] : List (List UInt8)).flatten
      decide +kernel
    · show (opText 8 ++ itoaS 3).data.toList.map capB = ([[82, hd 3]] : List (List UInt8)).flatten
      decide +kernel
    · show (opText 8 ++ itoaS 4).data.toList.map capB = ([[82, hd 4]] : List (List UInt8)).flatten
      decide +kernel
    · show (opText 8 ++ itoaS 5).data.toList.map capB = ([[82, hd 5]] : List (List UInt8)).flatten
      decide +kernel
    · show (opText 8 ++ itoaS 6).data.toList.map capB = ([[82, hd 6]] : List (List UInt8)).flatten
      decide +kernel
    · show (opText 8 ++ itoaS 7).data.toList.map capB = ([[82, hd 7]] : List (List UInt8)).flatten
      decide +kernel
  all_goals (simp [writS, pcsO, numO, px2, px4, hd_cap]; try decide)
theorem pcs_ok (o : Opn) (h : OpL o) : pcOk (pcsO o) = true ∧ (pcsO o).length ≤ 4 ∧ ∀ p ∈ pcsO o, p ≠ [] := by
  obtain ⟨k, nm', own, add, bh⟩ := o
  have hk := h.kind
  clear h
  simp only at hk
  rcases kind_cases hk with rfl | rfl | rfl | rfl | rfl | rfl | rfl | rfl | rfl | rfl | rfl | rfl | rfl | rfl | rfl | rfl | rfl
  all_goals (simp [pcsO, pcOk, px2, px4, hd_w]; try decide)
theorem pcs_toks (o : Opn) (h : OpL o) : toksP (pcsO o) = some (tksO o) := by
  have n0 := h.num0
  have n1 := h.num1
  have nb := h.byte
  have e2 : numO o ≤ 255 → toksP [px2 (numO o)] = some [nT (px2 (numO o)) (numO o)] := fun hb => by
    have := tok_px2 (numO o) n0 hb
    simp only [toksP]
    rw [show (px2 (numO o)).headD 0 = 48 from rfl, this]
    rfl
  have e4 : toksP [px4 (numO o)] = some [nT (px4 (numO o)) (numO o)] := by
    have := tok_px4 (numO o) n0 n1
    simp only [toksP]
    rw [show (px4 (numO o)).headD 0 = 48 from rfl, this]
    rfl
  have ew : ∀ (c : UInt8) (l : List UInt8), ¬ c.toNat = 32 → isD c = false → isW c = true → toksP [c :: l] = some [wT (c :: l)] := fun c l a1 a2 a3 => by
    simp only [toksP]
    rw [show (c :: l).headD 0 = c from rfl, pieceK_word c _ a1 a2 a3]
    rfl
  have es : ∀ (c : UInt8) (k : List (List UInt8)) (t : List Tok), ¬ c.toNat = 32 → isD c = false → isW c = false → toksP k = some t → toksP ([c] :: k) = some (sT c :: t) := fun c k t a1 a2 a3 a4 => by
    simp only [toksP]
    rw [show [c].headD 0 = c from rfl, pieceK_sign c _ a1 a2 a3, a4]
    rfl
  have ew2 : ∀ (c : UInt8) (l : List UInt8) (k : List (List UInt8)) (t : List Tok), ¬ c.toNat = 32 → isD c = false → isW c = true → toksP k = some t → toksP ((c :: l) :: k) = some (wT (c :: l) :: t) := fun c l k t a1 a2 a3 a4 => by
    simp only [toksP]
    rw [show (c :: l).headD 0 = c from rfl, pieceK_word c _ a1 a2 a3, a4]
    rfl
  have eD : toksP [[68, 80, 84, 82]] = some [wT [68, 80, 84, 82]] := ew 68 _ (by decide) (by decide) (by decide)
  have eR : toksP [[82, hd o.own]] = some [wT [82, hd o.own]] := ew 82 _ (by decide) (by decide) (by decide)
  unfold pcsO tksO
  rcases kind_cases h.kind with k | k | k | k | k | k | k | k | k | k | k | k | k | k | k | k | k
  all_goals rw [k]
  · exact ew 65 _ (by decide) (by decide) (by decide)
  · exact ew 65 _ (by decide) (by decide) (by decide)
  · exact ew 67 _ (by decide) (by decide) (by decide)
  · exact eD
  · exact es 64 _ _ (by decide) (by decide) (by decide) (ew2 65 _ _ _ (by decide) (by decide) (by decide) (es 43 _ _ (by decide) (by decide) (by decide) eD))
  · exact es 64 _ _ (by decide) (by decide) (by decide) (ew2 65 _ _ _ (by decide) (by decide) (by decide) (es 43 _ _ (by decide) (by decide) (by decide) (ew 80 _ (by decide) (by decide) (by decide))))
  · exact es 64 _ _ (by decide) (by decide) (by decide) eD
  · exact es 64 _ _ (by decide) (by decide) (by decide) eR
  · exact eR
  · exact es 35 _ _ (by decide) (by decide) (by decide) (e2 (nb (by omega)))
  · exact es 35 _ _ (by decide) (by decide) (by decide) e4
  · exact e2 (nb (by omega))
  · exact e2 (nb (by omega))
  · exact es 47 _ _ (by decide) (by decide) (by decide) (e2 (nb (by omega)))
  · exact e4
  · exact e4
  · exact e4
end Go.Proofs.YthokdbcpkmcieaaGreatDoor
