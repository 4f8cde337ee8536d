/- The walks of line and Listing. Coded, plainly: ORG and a line that is known. Relisted, plainly: each line of a listing is a source of its instruction. -/
import Derived.Test.YthokdbcpkmcieaaGreatDoorR06
import Derived.Laws.Concat
import Derived.Test.YthokdbcpkmcieaaGreatDoorA39
namespace Go.Proofs.YthokdbcpkmcieaaGreatDoor
open Go Go.RowKit Go.Shelf Go.WideMaps Go.Maps
/-- Decode's answer at bytes that lie in the flash: none, or a line that is known. -/
theorem dec_ln2 (code : ByteArray) (p : Nat) (hp : p + code.size ≤ 1024) : ((decA code (p : Int)).2 = 0 ∧ (decA code (p : Int)).1 = ⟨#[]⟩) ∨ ∃ x, LnOk code p (decA code (p : Int)).1 (decA code (p : Int)).2 x := by
  unfold decA
  by_cases h : 0 < code.size
  · rw [dif_pos h]
    by_cases hr : rowIx (code[0].toNat : Int) = 111
    · rw [if_pos hr]
      exact .inl ⟨rfl, rfl⟩
    · rw [if_neg hr]
      cases hcut : (cutOf (code[0].toNat : Int)).2.2 with
      | false =>
        rw [if_pos rfl]
        exact .inr (ln_plain code p h hr hcut)
      | true =>
        rw [if_neg (by decide)]
        by_cases hsz : sizeOf' (ksOf (code[0].toNat : Int)) ≤ code.size
        · rw [if_pos hsz]
          exact .inr (ln_ops code p h code[0] rfl hr hcut hsz (by omega))
        · rw [if_neg hsz]
          exact .inl ⟨rfl, rfl⟩
  · rw [dif_neg h]
    exact .inl ⟨rfl, rfl⟩
/-- The text of a listing's line. -/
def lineW (B : List UInt8) (L : List Bool) (p : Nat) : ByteArray := if (decA (codeAt B L p) (p : Int)).2 = 0 then ⟨#[63]⟩ else (decA (codeAt B L p) (p : Int)).1
def lineT (B : List UInt8) (L : List Bool) (p : Nat) : ByteArray := ((⟨#[hd ((p : Int) / 4096), hd ((p : Int) / 256), hd ((p : Int) / 16), hd (p : Int)]⟩ : ByteArray) ++ ⟨#[32]⟩) ++ lineW B L p
theorem ldN_le (L : List Bool) (p : Nat) : ldN L p ≤ 3 ∧ ldN L p ≤ L.length - p := by
  unfold ldN
  have h1 : (((L.drop p).take 3).takeWhile id).length ≤ ((L.drop p).take 3).length := (List.takeWhile_prefix _).length_le
  rw [List.length_take, List.length_drop] at h1
  omega
theorem codeAt_size {B : List UInt8} {L : List Bool} (hb : B.length = 1024) (hl : L.length = 1024) (p : Nat) : (codeAt B L p).size = ldN L p := by
  show ((B.drop p).take (ldN L p)).toArray.size = _
  rw [List.size_toArray, List.length_take, List.length_drop]
  have := ldN_le L p
  omega
theorem lineW_size {B : List UInt8} {L : List Bool} (hb : B.length = 1024) (hl : L.length = 1024) (p : Nat) (hp : p < 1024) : (lineW B L p).size ≤ 100 := by
  unfold lineW
  split
  · exact (by decide : (1 : Nat) ≤ 100)
  · rename_i h
    have hs := codeAt_size hb hl p
    have := ldN_le L p
    rcases dec_ln2 (codeAt B L p) p (by omega) with ⟨h1, _⟩ | ⟨x, hx⟩
    · exact absurd h1 h
    · exact hx.size
set_option maxRecDepth 100000 in
set_option maxHeartbeats 4000000 in
theorem lline_any (bb bo bc lb lo lc sb so sc : Nat) (B : List UInt8) (L S : List Bool) (p : Nat) (hp : p < 1024) (m : Int) (w : World) (h : ImgR w bb bo lb lo sb so B L S) (hbc : 1024 ≤ bc ∧ bc ≤ maxLen) (hm : w.cell? ⟨0, 0, none⟩ = some (.int .i64 m)) :
    Calls Tryz.prog 67 #[imV bb bo bc lb lo lc sb so sc, .int .i64 (p : Int)] w fun e w' => e = .returned (.string (lineT B L p)) ∧ Below w.heap.size w w' := by
  obtain ⟨W, hW, hB, hz, u0, u1, u2⟩ := im_box w (.slice (some ⟨bb, bo, none⟩) 1024 bc) (.slice (some ⟨lb, lo, none⟩) 1024 lc) (.slice (some ⟨sb, so, none⟩) 1024 sc)
  have h0 : 0 < w.heap.size := World.block_lt_of_cell? _ _ hm
  have hbl := h.bl
  have hll := h.ll
  have hcs : (codeAt B L p).size ≤ 3 := by rw [codeAt_size hbl hll]; exact (ldN_le L p).1
  have hws := lineW_size hbl hll p hp
  have HL := hideIt (laidFrom_any bb bo bc lb lo lc sb so sc B L S p hp W (h.below hB) hbc)
  obtain ⟨C, hC⟩ : ∃ C, codeAt B L p = C := ⟨_, rfl⟩
  obtain ⟨T, hT⟩ : ∃ T, lineW B L p = T := ⟨_, rfl⟩
  have hTd : T = if (decA C (p : Int)).2 = 0 then ⟨#[63]⟩ else (decA C (p : Int)).1 := by rw [← hT, ← hC]; rfl
  rw [hC] at hcs HL
  rw [hT] at hws
  have HD : Hid (∀ w' : World, Below W.heap.size W w' → Calls Tryz.prog 30 #[.string C, .int .i64 (p : Int)] w' fun e w2 => e = .returned (.tuple #[.string (decA C (p : Int)).1, .int .i64 ((decA C (p : Int)).2 : Nat)]) ∧ Below w'.heap.size w' w2) := fun w' hb => by
    have hb' := hB.trans (hb.mono hB.size)
    exact decode_any C (p : Int) (by unfold maxLen; omega) w' m ((World.cell?_of_block (a := ⟨0, 0, none⟩) (hb'.block 0 h0)).trans hm) (Nat.lt_of_lt_of_le h0 hb'.size)
  obtain ⟨D1, hD1⟩ : ∃ D1, (decA C (p : Int)).1 = D1 := ⟨_, rfl⟩
  obtain ⟨D2, hD2⟩ : ∃ D2, (decA C (p : Int)).2 = D2 := ⟨_, rfl⟩
  rw [hD1, hD2] at hTd HD
  have hpi : (p : Int) ≤ 65535 := by omega
  have hwp : IntKind.u16.wrap (p : Int) = (p : Int) := by rw [IntKind.wrap_u16]; omega
  have HX : Hid (∀ w' : World, Calls Tryz.prog 112 #[.int .u16 (p : Int), .int .i64 4] w' fun e w2 => e = .returned (.string ⟨#[hd ((p : Int) / 4096), hd ((p : Int) / 256), hd ((p : Int) / 16), hd (p : Int)]⟩) ∧ Below w'.heap.size w' w2) := fun w' => hex4_any (p : Int) (by omega) hpi w'
  have hgoal : lineT B L p = ((⟨#[hd ((p : Int) / 4096), hd ((p : Int) / 256), hd ((p : Int) / 16), hd (p : Int)]⟩ : ByteArray) ++ ⟨#[32]⟩) ++ T := by unfold lineT; rw [hT]
  rw [hgoal]
  obtain ⟨X0, hX0⟩ : ∃ X0 : ByteArray, ⟨#[hd ((p : Int) / 4096), hd ((p : Int) / 256), hd ((p : Int) / 16), hd (p : Int)]⟩ = X0 := ⟨_, rfl⟩
  have hx0 : X0.size = 4 := by rw [← hX0]; rfl
  rw [hX0] at HX ⊢
  obtain ⟨X1, hX1⟩ : ∃ X1, X0 ++ (⟨#[32]⟩ : ByteArray) = X1 := ⟨_, rfl⟩
  have hx1 : X1.size = 5 := by rw [← hX1, ByteArray.size_append, hx0]; rfl
  have bx0 : (X0.size : Int) ≤ 4 := by omega
  have bx1 : (X1.size : Int) ≤ 5 := by omega
  have bT : (T.size : Int) ≤ 100 := by omega
  have HB := hideIt hB
  rw [hX1]
  clear h hm hC hT hD1 hD2 hgoal hX0 hB hcs hws hbl hll
  by_cases hd2 : D2 = 0
  · rw [if_pos hd2] at hTd
    have g0 : ((D2 : Int) == 0) = true := by simp; omega
    subst hTd
    go_enter Tryz.func67, Tryz.ntmps67
    go_wp2_with (first | (go_at_call 111; refine HL.out.mono ?_; rintro e w1 ⟨rfl, hb1⟩; have HB1 := hideIt hb1; clear hb1) | (go_at_call 30; refine (HD.out _ HB1.out).mono ?_; rintro e w2 ⟨rfl, hb2⟩; have HB2 := hideIt (HB1.out.trans (hb2.mono HB1.out.size)); clear hb2) | (go_at_call 112; refine (HX.out _).mono ?_; rintro e w3 ⟨rfl, hb3⟩))
    go_ret
    have e2 := HB.out.trans (HB2.out.mono HB.out.size)
    exact ⟨rfl, e2.trans (hb3.mono e2.size)⟩
  · rw [if_neg hd2] at hTd
    have g0 : ((D2 : Int) == 0) = false := by simp; omega
    have g1 : ¬ (D2 : Int) = 0 := by omega
    subst hTd
    go_enter Tryz.func67, Tryz.ntmps67
    go_wp2_with (first | (go_at_call 111; refine HL.out.mono ?_; rintro e w1 ⟨rfl, hb1⟩; have HB1 := hideIt hb1; clear hb1) | (go_at_call 30; refine (HD.out _ HB1.out).mono ?_; rintro e w2 ⟨rfl, hb2⟩; have HB2 := hideIt (HB1.out.trans (hb2.mono HB1.out.size)); clear hb2) | (go_at_call 112; refine (HX.out _).mono ?_; rintro e w3 ⟨rfl, hb3⟩))
    go_ret
    have e2 := HB.out.trans (HB2.out.mono HB.out.size)
    exact ⟨rfl, e2.trans (hb3.mono e2.size)⟩
/-- The lines of the first places. -/
def lsF (B : List UInt8) (L S : List Bool) (k : Nat) : List ByteArray := ((List.range k).filter fun j => S.getD j false).map (lineT B L)
theorem lsF_len (B : List UInt8) (L S : List Bool) (k : Nat) : (lsF B L S k).length ≤ k := by
  unfold lsF
  rw [List.length_map]
  have := List.length_filter_le (fun j => S.getD j false) (List.range k)
  rw [List.length_range] at this
  exact this
theorem lsF_snoc (B : List UInt8) (L S : List Bool) (k : Nat) : lsF B L S (k + 1) = lsF B L S k ++ (if S.getD k false = true then [lineT B L k] else []) := by
  unfold lsF
  rw [List.range_succ, List.filter_append, List.map_append]
  have e : List.filter (fun j => S.getD j false) [k] = if S.getD k false = true then [k] else [] := by
    rw [List.filter_cons, List.filter_nil]
  rw [e]
  congr 1
  split <;> rfl
set_option maxRecDepth 100000 in
set_option maxHeartbeats 4000000 in
theorem listing_any (bb bo bc lb lo lc sb so sc : Nat) (B : List UInt8) (L S : List Bool) (m : Int) (w : World) (h : ImgR w bb bo lb lo sb so B L S) (hbc : 1024 ≤ bc ∧ bc ≤ maxLen) (hm : w.cell? ⟨0, 0, none⟩ = some (.int .i64 m)) :
    Calls Tryz.prog 32 #[imV bb bo bc lb lo lc sb so sc] w fun e w' => ∃ v, e = .returned (.tuple #[v, .int .i64 0]) ∧ w'.ownsRow w.heap.size 9 1 v (lsF B L S 1024).length (strV (lsF B L S 1024)) ∧ Below w.heap.size w w' := by
  obtain ⟨i0, hi, hz0, hz1, hz2⟩ := info_parts Tryz.infoStrB
  obtain ⟨W, hW, hB, hz, u0, u1, u2⟩ := im_box w (.slice (some ⟨bb, bo, none⟩) 1024 bc) (.slice (some ⟨lb, lo, none⟩) 1024 lc) (.slice (some ⟨sb, so, none⟩) 1024 sc)
  have h0 : 0 < w.heap.size := World.block_lt_of_cell? _ _ hm
  have hsl := h.sl
  have HI : Hid (Calls Tryz.prog 66 #[imV bb bo bc lb lo lc sb so sc] W fun e w' => e = .returned (.bool true) ∧ Below W.heap.size W w') := (isWhole_any (some ⟨bb, bo, none⟩) (some ⟨lb, lo, none⟩) (some ⟨sb, so, none⟩) 1024 bc 1024 lc 1024 sc (by unfold maxLen; omega) (by unfold maxLen; omega) (by unfold maxLen; omega) W)
  have HL : Hid (∀ (w' : World) (p : Nat), Below w.heap.size w w' → p < 1024 → Calls Tryz.prog 67 #[imV bb bo bc lb lo lc sb so sc, .int .i64 (p : Int)] w' fun e w2 => e = .returned (.string (lineT B L p)) ∧ Below w'.heap.size w' w2) := fun w' p hb hp =>
    lline_any bb bo bc lb lo lc sb so sc B L S p hp m w' (h.below hb) hbc ((World.cell?_of_block (a := ⟨0, 0, none⟩) (hb.block 0 h0)).trans hm)
  have KV : Hid (∀ w' : World, Below W.heap.size W w' → w'.cell? ⟨w.heap.size, 0, none⟩ = some (.slice (some ⟨bb, bo, none⟩) 1024 bc) ∧ w'.cell? ⟨w.heap.size, 1, none⟩ = some (.slice (some ⟨lb, lo, none⟩) 1024 lc) ∧ w'.cell? ⟨w.heap.size, 2, none⟩ = some (.slice (some ⟨sb, so, none⟩) 1024 sc)) := fun w' hb =>
    ⟨(World.cell?_of_block (a := ⟨w.heap.size, 0, none⟩) (hb.block w.heap.size (by omega))).trans u0, (World.cell?_of_block (a := ⟨w.heap.size, 1, none⟩) (hb.block w.heap.size (by omega))).trans u1, (World.cell?_of_block (a := ⟨w.heap.size, 2, none⟩) (hb.block w.heap.size (by omega))).trans u2⟩
  have HH := hideIt h
  have HB := hideIt hB
  clear h hB hm
  go_enter Tryz.func32, Tryz.ntmps32
  go_upto_region 5 with (first | (go_at_call 66; refine HI.out.mono ?_; rintro e w1 ⟨rfl, hb1⟩; obtain ⟨v0, v1, v2⟩ := KV.out _ hb1; have HB1 := hideIt (HB.out.trans (hb1.mono HB.out.size)); have hzw := hb1.size; clear hb1))
  have VV := hideIt (And.intro v0 (And.intro v1 v2))
  clear u0 u1 u2 hW v0 v1 v2
  go_loopw [4, 13] (fun v i wz => ∃ k : Nat, k ≤ 1024 ∧ i = .int .i64 (k : Int) ∧ wz.ownsRow w1.heap.size 9 1 v (lsF B L S k).length (strV (lsF B L S k)) ∧ Below w1.heap.size w1 wz) (fun _ i _ => 1024 - (intOf i).toNat)
  case atStart => exact ⟨0, Nat.zero_le _, rfl, World.ownsRow_nil _ _ _ _, Below.refl _ _⟩
  case round =>
    obtain ⟨k, hk, rfl, hrow, hbz⟩ := hrel
    have hbw : Below w.heap.size w wr := HB1.out.trans (hbz.mono HB1.out.size)
    have HBW := hideIt hbw
    have HBZ := hideIt hbz
    obtain ⟨p0, p1, p2⟩ := VV.out
    have v0 := (World.cell?_of_block (a := ⟨w.heap.size, 0, none⟩) (hbz.block w.heap.size (by omega))).trans p0
    have v1 := (World.cell?_of_block (a := ⟨w.heap.size, 1, none⟩) (hbz.block w.heap.size (by omega))).trans p1
    have v2 := (World.cell?_of_block (a := ⟨w.heap.size, 2, none⟩) (hbz.block w.heap.size (by omega))).trans p2
    clear p0 p1 p2
    have hzz := hbz.size
    have HROW := hideIt hrow
    have hln := lsF_len B L S k
    have hsn := lsF_snoc B L S k
    by_cases hk4 : k < 1024
    · have d1 : (k : Int) < 1024 := by omega
      obtain ⟨x, hx⟩ : ∃ x, S[k]? = some x := ⟨_, List.getElem?_eq_getElem (by omega)⟩
      have cs : wr.cell? ⟨sb, so + k, none⟩ = some (.bool x) := by
        obtain ⟨hi2, e2⟩ := List.getElem?_eq_some_iff.1 hx
        rw [(HH.out.below hbw).s k hi2, e2]
      have hgd : S.getD k false = x := by rw [List.getD_eq_getElem?_getD, hx]; rfl
      rw [hgd] at hsn
      clear hrow hbw hbz hx hgd
      cases x with
      | false =>
        rw [if_neg (by decide), List.append_nil] at hsn
        have HSN := hideIt hsn
        clear hsn
        go_wp2
        go_roundw
        case rel => exact ⟨k + 1, by omega, by go_num, by rw [HSN.out]; exact HROW.out, HBZ.out⟩
        case measure => simp [intOf]; omega
      | true =>
        rw [if_pos rfl] at hsn
        have HSN := hideIt hsn
        obtain ⟨T, hT⟩ : ∃ T, lineT B L k = T := ⟨_, rfl⟩
        have HLK := hideIt (HL.out wr k HBW.out hk4)
        rw [hT] at HLK
        have HT := hideIt hT
        obtain ⟨n, hn⟩ : ∃ n, (lsF B L S k).length = n := ⟨_, rfl⟩
        have HN := hideIt hn
        rw [hn] at HROW hln
        clear hsn hT hn
        go_wp2_with (first | (go_at_call 67; refine HLK.out.mono ?_; rintro e w2 ⟨rfl, hb2⟩; have hrow2 := HROW.out.below3 hb2; have hz2' := hb2.size; have HB2 := hideIt hb2; clear hb2) | (at_builtin; refine wpList_append_own _ rfl _ _ 22 rfl w1.heap.size 9 i0 _ 1 16 Tryz.underlying22 hi hz0 hz1 hz2 rfl (by decide) _ _ _ rfl (hrow2.alloc _) ⟨w2.heap.size, 0, none⟩ 1 1 [.string T] rfl rfl ?c1 ?c2 ?c3 ?c4 ?c5 ?_))
        case c1 =>
          intro j u hj
          match j, hj with
          | 0, hj => simp at hj; subst hj; simp [Addr.add]
        case c2 => intro u hu; simp at hu; subst hu; rfl
        case c3 => unfold maxLen; omega
        case c4 => omega
        case c5 => simp; omega
        intro v' wn hown' hgrow _
        have hbn : Below w1.heap.size w1 wn := ((HBZ.out.trans (HB2.out.mono hzz)).alloc (by omega) _).grown hgrow (by simp; omega) (own_ge hrow2)
        have hrn : wn.ownsRow w1.heap.size 9 1 v' (lsF B L S (k + 1)).length (strV (lsF B L S (k + 1))) := by
          rw [HSN.out, List.length_append, HN.out, HT.out]
          unfold strV at hown' ⊢
          rw [List.map_append]
          exact hown'
        have HRN := hideIt (And.intro hrn hbn)
        clear hown' hgrow hrow2 hrn hbn
        go_wp2
        go_roundw
        case rel => exact ⟨k + 1, by omega, by go_num, HRN.out.1, HRN.out.2⟩
        case measure => simp [intOf]; omega
    · have d1 : ¬ (k : Int) < 1024 := by omega
      have hke : k = 1024 := by omega
      have hfin : wr.ownsRow w.heap.size 9 1 u4 (lsF B L S 1024).length (strV (lsF B L S 1024)) := by
        rw [hke] at hrow
        exact own_base hrow (by omega)
      have HF := hideIt hfin
      clear hrow hfin hke hbw hbz hsn hln
      go_wp2
      go_ret2
      exact ⟨_, rfl, HF.out, HBW.out⟩
set_option maxRecDepth 100000 in
set_option maxHeartbeats 1000000 in
theorem bListing_any (bb bo bc lb lo lc sb so sc : Nat) (B : List UInt8) (L S : List Bool) (m : Int) (w : World) (h : ImgR w bb bo lb lo sb so B L S) (hbc : 1024 ≤ bc ∧ bc ≤ maxLen) (hm : w.cell? ⟨0, 0, none⟩ = some (.int .i64 m)) :
    Calls Tryz.prog 18 #[imV bb bo bc lb lo lc sb so sc] w fun e w' => ∃ v, e = .returned (.tuple #[v, .int .i64 0]) ∧ w'.ownsRow w.heap.size 9 1 v (lsF B L S 1024).length (strV (lsF B L S 1024)) ∧ Below w.heap.size w w' := by
  obtain ⟨W, hW, hB, hz, u0, u1, u2⟩ := im_box w (.slice (some ⟨bb, bo, none⟩) 1024 bc) (.slice (some ⟨lb, lo, none⟩) 1024 lc) (.slice (some ⟨sb, so, none⟩) 1024 sc)
  have h0 : 0 < w.heap.size := World.block_lt_of_cell? _ _ hm
  have HL := hideIt (listing_any bb bo bc lb lo lc sb so sc B L S m W (h.below hB) hbc ((World.cell?_of_block (a := ⟨0, 0, none⟩) (hB.block 0 h0)).trans hm))
  have HB := hideIt hB
  clear h hB hm
  go_enter Tryz.func18, Tryz.ntmps18
  go_wp2_with (first | (go_at_call 32; refine HL.out.mono ?_; rintro e w1 ⟨v, rfl, hrow, hb1⟩; have H1 := hideIt (And.intro hrow hb1); clear hrow hb1))
  go_ret2
  exact ⟨v, rfl, own_base H1.out.1 (by omega), HB.out.trans (H1.out.2.mono HB.out.size)⟩
end Go.Proofs.YthokdbcpkmcieaaGreatDoor
namespace Go.Proofs.YthokdbcpkmcieaaGreatDoor
open Go Go.RowKit Go.Shelf Go.WideMaps Go.Maps
/-- The digits of a number. -/
def okDg (n : Nat) : Bool := !((decF 3 n).data.toList.isEmpty) && (decF 3 n).data.toList.all isD && decide ((decF 3 n).data.toList.map capB = (decF 3 n).data.toList) && decide (numOf (decF 3 n).data.toList = some (n : Int)) && !((decF 3 n).data.toList.contains 59) && !((decF 3 n).data.toList.contains 10)
set_option maxRecDepth 100000 in
theorem ok_dg : (List.range 1024).all okDg = true := by decide +kernel
theorem org_any (n : Nat) (h : n < 1024) : NoNL (txO n) ∧ parseL (txO n) = some (noB, orgS n) := by
  have hq := List.all_eq_true.1 ok_dg n (List.mem_range.2 h)
  unfold okDg at hq
  simp only [Bool.and_eq_true, decide_eq_true_eq, Bool.not_eq_true'] at hq
  obtain ⟨⟨⟨⟨⟨h1, h2⟩, h3⟩, h4⟩, h5⟩, h6⟩ := hq
  have hl : (txO n).data.toList = [111, 114, 103, 32] ++ (decF 3 n).data.toList := by
    unfold txO
    rw [app_list]
  obtain ⟨D, hD⟩ : ∃ D, (decF 3 n).data.toList = D := ⟨_, rfl⟩
  rw [hD] at h1 h2 h3 h4 h5 h6 hl
  have hDne : D ≠ [] := by intro e; rw [e] at h1; simp at h1
  have h59 : (59 : UInt8) ∉ D := fun hm => by rw [List.contains_iff_mem.2 hm] at h5; cases h5
  have h10 : (10 : UInt8) ∉ D := fun hm => by rw [List.contains_iff_mem.2 hm] at h6; cases h6
  have hw : D.all isW = true := List.all_eq_true.2 fun c hc => isW_of_digit c (List.all_eq_true.1 h2 c hc)
  have hfl : (txO n).data.toList.map capB = ([[79, 82, 71], [32], D] : List (List UInt8)).flatten := by
    rw [hl, List.map_append, h3]
    simp
    decide
  have hok : pcOk [[79, 82, 71], [32], D] = true := by
    have hD1 : pcOk [D] = true := by simp [pcOk, hw, hDne]
    exact pc_word (by decide) (by decide) (by decide) (pc_sign (by decide) hD1)
  have htk : toksP [[79, 82, 71], [32], D] = some [wT [79, 82, 71], nT D (n : Int)] := by
    have hd0 : isD (D.headD 0) = true := by
      cases D with
      | nil => exact absurd rfl hDne
      | cons c l => exact List.all_eq_true.1 h2 c List.mem_cons_self
    have hd1 : ¬ (D.headD 0).toNat = 32 := fun e => by
      unfold isD at hd0
      rw [e] at hd0
      simp at hd0
    simp only [toksP]
    rw [show ([79, 82, 71] : List UInt8).headD 0 = 79 from rfl, show ([32] : List UInt8).headD 0 = 32 from rfl, pieceK_word 79 _ (by decide) (by decide) (by decide), pieceK_blank 32 _ (by decide), pieceK_num (D.headD 0) ⟨D.toArray⟩ (n : Int) hd1 hd0 h4]
    rfl
  refine ⟨?_, ?_⟩
  · unfold NoNL
    rw [hl, List.mem_append]
    rintro (e | e)
    · revert e
      decide
    · exact h10 e
  · rw [parseL_pcs (ps := [[79, 82, 71], [32], D]) (ts := [wT [79, 82, 71], nT D (n : Int)]) ?_ hfl hok ?_ htk]
    · have hx : pExpr [nT D (n : Int), endT] = some ([numT (n : Int)], [endT]) := by
        refine pExpr_num _ (n : Int) ?_ rfl rfl endT [] (.inr rfl)
        intro e
        have e2 := congrArg (fun b : ByteArray => b.data.toList) e
        have e3 : D = [36] := e2
        rw [e3] at h2
        revert h2
        decide
      have hv : pVals 1 [nT D (n : Int), endT] = some ([[numT (n : Int)]], [endT]) := by
        unfold pVals
        rw [hx]
        rfl
      have hT : pTask [wT [79, 82, 71], nT D (n : Int), endT] = some (orgS n, [endT]) := by
        simp only [pTask]
        rw [if_neg (by decide), if_neg (by decide), if_neg (by decide +kernel)]
        have hd : dirO (wT [79, 82, 71]).text.data.toList = some 1 := by decide
        rw [hd]
        simp only
        rw [if_neg (by decide), hv]
        rfl
      have hL : pLabel [wT [79, 82, 71], nT D (n : Int), endT] = some (⟨#[]⟩, [wT [79, 82, 71], nT D (n : Int), endT]) := by
        simp only [pLabel]
        rw [if_pos]
        refine .inr fun e => ?_
        have e2 := congrArg (fun b : ByteArray => b.data.toList) e
        have e3 : D = [58] := e2
        rw [e3] at h2
        revert h2
        decide
      show (pLabel [wT [79, 82, 71], nT D (n : Int), endT]).bind _ = _
      rw [hL]
      simp only [Option.bind_some]
      rw [hT]
      rfl
    · rw [hl, List.mem_append]
      rintro (e | e)
      · revert e
        decide
      · exact h59 e
    · have : (txO n).size = (txO n).data.toList.length := (Array.length_toList).symm
      rw [this, hl]
      simp
theorem settle_orgA (n : Nat) (h : n < 1024) : settleF asm0 noB (orgS n) = .ok (asmP n) := by
  have hcu : cuF asm0.nm noB (orgS n).task (orgS n).name (orgS n).vals = true := rfl
  have hcg : cgF asm0.nm asm0.n (givenS noB (orgS n).task (orgS n).name) = none := rfl
  have ht : tooS (orgS n).vals = false := by
    show ([[nm (n : Int)]] : List (List Trm)).any tooE = false
    unfold tooE nm
    simp
    omega
  have hv : nmbF asm0.nm (asm0.pl : Int) ((orgS n).vals.headD []) 0 1023 = some (n : Int) := one_num _ _ _ _ _ (by omega) (by omega)
  unfold settleF
  rw [if_neg (by simp [hcu]), hcg]
  simp only
  rw [if_neg (by simp [ht]), if_pos (show (orgS n).task = 1 from rfl), if_pos (show noB = ⟨#[]⟩ from rfl), hv]
  rfl
/-- ORG, then one known line. -/
theorem asm_one {code : ByteArray} {p n : Nat} {s : ByteArray} {x : Stm} (h : LnOk code p s n x) (hp : p + n ≤ 1024) (hp2 : p ≤ 1023) : ∃ b, asmF (txO p ++ (NL ++ s)) = .ok b ∧ b.laid = layB p n ∧ b.bytes = byt p ((bI code).take n) := by
  have ho := org_any p (by omega)
  have hn1 := h.n1
  have hd := decF_size 3 p
  have hsz : (txO p ++ (NL ++ s)).size ≤ 2000 := by
    rw [ByteArray.size_append, ByteArray.size_append]
    have h1 : (txO p).size ≤ 8 := by
      unfold txO
      rw [ByteArray.size_append]
      have : (⟨#[111, 114, 103, 32]⟩ : ByteArray).size = 4 := rfl
      omega
    have h2 : NL.size = 1 := rfl
    have := h.size
    omega
  rw [asmF_asmL hsz, linesF_cons ho.1, linesF_last h.nl]
  have hlaid : (asmP p).laid = layB p 0 := by show bF = _; rw [layB_zero p (by omega)]
  have hcu : cuF (asmP p).nm noB x.task x.name x.vals = true := by
    refine cuF_free ?_ (by rw [h.task]; rfl)
    rw [h.task, h.used]
    rfl
  have hcg : cgF (asmP p).nm (asmP p).n (givenS noB x.task x.name) = none := by rw [h.task]; rfl
  have hsp : spanF (asmP p).pl n (asmP p).laid = none := by
    unfold spanF
    rw [show (asmP p).pl = p from rfl, hlaid, if_neg (by omega)]
    have := layB_free p 0 n
    rw [Nat.add_zero] at this
    rw [if_neg this]
  obtain ⟨b, hb⟩ : ∃ b : Asm, b = { asmP p with pl := p + n, laid := setR (asmP p).laid p n, starts := (asmP p).starts.set p true } := ⟨_, rfl⟩
  have hset : settleF (asmP p) noB x = .ok b := by
    unfold settleF
    rw [if_neg (by simp [hcu]), hcg]
    simp only
    have hs : sizeS x.task x.vals.length x.ins.size = n := by
      unfold sizeS
      rw [h.task, h.ins]
      rfl
    rw [if_neg (by simp [h.great]), if_neg (by rw [h.task]; decide), if_neg (by rw [h.task]; decide), if_neg (by rw [h.task]; decide), hs, hsp, if_pos h.task, hb]
    rfl
  have hrd : rdL 0 asm0 [txO p, s] = .ok ([⟨1, 0, noB, orgS p⟩, ⟨2, p, noB, x⟩], b) := by
    simp only [rdL, ho.2, settle_orgA p (by omega), h.parse, hset]
    rfl
  unfold asmL
  rw [hrd]
  have hf1 : fillF b 0 (orgS p) = .ok b := rfl
  have hbb : b.bytes = b255 := by rw [hb]; rfl
  have hbn : b.nm = (asmP p).nm := by rw [hb]
  have hf2 : fillF b p x = .ok { b with bytes := putAt b.bytes p ((bI code).take n) } := by
    unfold fillF
    have hs : sizeS x.task x.vals.length x.ins.size = n := by
      unfold sizeS
      rw [h.task, h.ins]
      rfl
    rw [hs, if_neg (by omega), h.used, if_neg (by simp), h.bytes b.nm]
  refine ⟨{ b with bytes := putAt b.bytes p ((bI code).take n) }, ?_, ?_, ?_⟩
  · simp only [flL, hf1, hf2]
  · show b.laid = _
    rw [hb]
    show setR (asmP p).laid p n = _
    rw [hlaid]
    have := layB_setR p 0 n (by omega)
    rw [Nat.add_zero, Nat.zero_add] at this
    exact this
  · show putAt b.bytes p ((bI code).take n) = _
    rw [hbb, ← byt_nil p (by omega)]
    have := byt_put p [] ((bI code).take n) (by
      have := bI_len code
      have := h.le
      simp
      omega)
    simpa using this
theorem layB_at (p n k : Nat) (hk : k < 1024) (hp : p + n ≤ 1024) : (layB p n)[k]? = some (decide (p ≤ k) && decide (k < p + n)) := by
  unfold layB
  by_cases h1 : k < p
  · rw [List.getElem?_append_left (by simpa using h1), List.getElem?_replicate, if_pos h1, decide_eq_false (by omega : ¬ p ≤ k)]
    rfl
  · rw [List.getElem?_append_right (by simp; omega), List.length_replicate, decide_eq_true (by omega : p ≤ k)]
    by_cases h2 : k - p < n
    · rw [List.getElem?_append_left (by simpa using h2), List.getElem?_replicate, if_pos h2, decide_eq_true (by omega : k < p + n)]
      rfl
    · rw [List.getElem?_append_right (by simp; omega), List.length_replicate, List.getElem?_replicate, if_pos (by omega), decide_eq_false (by omega : ¬ k < p + n)]
      rfl
theorem byt_at (code : ByteArray) (p n k : Nat) (hp : p ≤ k) (hk : k < p + n) (hn : n ≤ code.size) : (byt p ((bI code).take n))[k]? = some (code.data.toList.getD (k - p) 0) := by
  have hl := bI_len code
  have hq : k - p < code.data.toList.length := by rw [Array.length_toList]; show k - p < code.size; omega
  have he : ((bI code).take n).map toB = code.data.toList.take n := by
    unfold bI
    rw [← List.map_take, List.map_map]
    have : ∀ c : UInt8, (toB ∘ fun x : UInt8 => (x.toNat : Int)) c = c := fun c => by
      show UInt8.ofNat ((c.toNat : Int).toNat) = c
      simp
    rw [List.map_congr_left (g := id) (fun c _ => this c), List.map_id]
  unfold byt
  rw [List.getElem?_append_right (by simp; omega), List.length_replicate, he, List.getElem?_append_left (by rw [List.length_take]; omega), List.getElem?_take, if_pos (by omega), List.getElem?_eq_getElem hq, List.getD_eq_getElem?_getD, List.getElem?_eq_getElem hq]
  rfl
end Go.Proofs.YthokdbcpkmcieaaGreatDoor
namespace Go.Proofs.YthokdbcpkmcieaaGreatDoor
open Go Go.RowKit Go.Shelf Go.WideMaps Go.Maps
theorem takeW_all : ∀ (l : List Bool) (j : Nat), j < (l.takeWhile id).length → l[j]? = some true
  | [], j, h => by simp at h
  | x :: l, j, h => by
    cases x with
    | false => simp at h
    | true =>
      cases j with
      | zero => rfl
      | succ j =>
        have := takeW_all l j (by simpa using h)
        simpa using this
theorem takeW_ge : ∀ (l : List Bool) (n : Nat), (∀ j, j < n → l[j]? = some true) → n ≤ (l.takeWhile id).length
  | _, 0, _ => Nat.zero_le _
  | [], n + 1, h => by have := h 0 (by omega); simp at this
  | x :: l, n + 1, h => by
    have hx : x = true := by have := h 0 (by omega); simpa using this
    subst hx
    have := takeW_ge l n (fun j hj => by have := h (j + 1) (by omega); simpa using this)
    simpa using this
theorem ldN_laid {L : List Bool} {p j : Nat} (h : j < ldN L p) : L[p + j]? = some true := by
  have := takeW_all _ _ h
  rw [List.getElem?_take] at this
  split at this
  · rw [List.getElem?_drop] at this
    exact this
  · cases this
theorem ldN_ge {L : List Bool} {p n : Nat} (hn : n ≤ 3) (h : ∀ k, k < n → L[p + k]? = some true) : n ≤ ldN L p := by
  refine takeW_ge _ n (fun j hj => ?_)
  rw [List.getElem?_take, if_pos (by omega), List.getElem?_drop]
  exact h j hj
theorem codeAt_get {B : List UInt8} {L : List Bool} {p j : Nat} (h : j < ldN L p) : (codeAt B L p).data.toList[j]? = B[p + j]? := by
  show (((B.drop p).take (ldN L p)).toArray.toList)[j]? = _
  rw [List.getElem?_take, if_pos h, List.getElem?_drop]
set_option maxRecDepth 100000 in
theorem ln_long : (List.range 256).all (fun c => decide (rowIx (c : Int) = 111) || (decide (2 ≤ (cutOf (c : Int)).1.length) && ((cutOf (c : Int)).2.2 || decide (3 ≤ (cutOf (c : Int)).1.length)))) = true := by decide +kernel
theorem decA_long (code : ByteArray) (at' : Int) (h : (decA code at').2 ≠ 0) : 3 ≤ (decA code at').1.size := by
  unfold decA at h ⊢
  by_cases hs : 0 < code.size
  · rw [dif_pos hs] at h ⊢
    have hx := (code[0]).toNat_lt
    have hq := List.all_eq_true.1 ln_long code[0].toNat (List.mem_range.2 (by omega))
    by_cases hr : rowIx (code[0].toNat : Int) = 111
    · rw [if_pos hr] at h
      exact absurd rfl h
    · rw [if_neg hr] at h ⊢
      rw [decide_eq_false hr, Bool.false_or, Bool.and_eq_true, decide_eq_true_eq] at hq
      cases hcut : (cutOf (code[0].toNat : Int)).2.2 with
      | false =>
        rw [if_pos rfl]
        rw [hcut, Bool.false_or, decide_eq_true_eq] at hq
        show 3 ≤ (cutOf (code[0].toNat : Int)).1.toArray.size
        rw [List.size_toArray]
        exact hq.2
      | true =>
        rw [hcut, if_neg (by decide)] at h
        rw [if_neg (by decide)]
        by_cases hz : sizeOf' (ksOf (code[0].toNat : Int)) ≤ code.size
        · rw [if_pos hz]
          show 3 ≤ (lineF _ _ _).size
          unfold lineF
          rw [ByteArray.size_append, ByteArray.size_append]
          have e1 : (⟨(cutOf (code[0].toNat : Int)).1.toArray⟩ : ByteArray).size = (cutOf (code[0].toNat : Int)).1.length := by
            show (cutOf (code[0].toNat : Int)).1.toArray.size = _
            rw [List.size_toArray]
          have e2 : (⟨#[32]⟩ : ByteArray).size = 1 := rfl
          have := hq.1
          omega
        · rw [if_neg hz] at h
          exact absurd rfl h
  · rw [dif_neg hs] at h
    exact absurd rfl h
/-- What a start says of its line. -/
structure StartOk (b : Asm) (i : Nat) (b2 : Asm) (n : Nat) : Prop where
  lt : i < 1024
  laid : b.laid[i]? = some true
  long : 3 ≤ (lineW b.bytes b.laid i).size
  size : (lineW b.bytes b.laid i).size ≤ 100
  asm : asmF (txO i ++ (NL ++ lineW b.bytes b.laid i)) = .ok b2
  laid2 : b2.laid = layB i n
  fits : i + n ≤ 1024
  same : ∀ k, i ≤ k → k < i + n → b.laid[k]? = some true ∧ b2.bytes[k]? = b.bytes[k]?
theorem start_ok {src : ByteArray} {b : Asm} (h : asmF src = .ok b) {i : Nat} (hi : b.starts[i]? = some true) : ∃ b2 n, StartOk b i b2 n := by
  obtain ⟨hl, hs, hb, hall⟩ := asm_starts h
  obtain ⟨n, n1, n2, n3, c, c1, c2, c3⟩ := hall i hi
  have hcd := cd_of c c2
  have hn3 : n ≤ 3 := by have := hcd.size; omega
  have hge := ldN_ge hn3 n3
  have hsz := codeAt_size hb hl i
  have hle := ldN_le b.laid i
  obtain ⟨code, hcode⟩ : ∃ code, codeAt b.bytes b.laid i = code := ⟨_, rfl⟩
  have hget := fun j (hj : j < ldN b.laid i) => codeAt_get (B := b.bytes) hj
  rw [hcode] at hsz hget
  have h0 : 0 < code.size := by omega
  have hc0 : code[0] = c := by
    have := hget 0 (by omega)
    rw [Nat.add_zero, c1] at this
    have e : code.data.toList[0]? = some code[0] := ba_get code 0 h0
    rw [e] at this
    exact Option.some.inj this
  have hdn : (decA code (i : Int)).2 = n := by
    unfold decA
    rw [dif_pos h0, hc0, if_neg c2]
    cases hcut : (cutOf (c.toNat : Int)).2.2 with
    | false =>
      rw [if_pos rfl]
      rw [← c3]
      unfold kdOf
      rw [hcut]
      rfl
    | true =>
      rw [if_neg (by decide)]
      have hk : kdOf (c.toNat : Int) = ksOf (c.toNat : Int) := by unfold kdOf; rw [hcut]; rfl
      rw [hk] at c3
      rw [if_pos (by omega)]
      exact c3
  have hW : lineW b.bytes b.laid i = (decA code (i : Int)).1 := by
    unfold lineW
    rw [hcode, hdn, if_neg (by omega)]
  rcases dec_ln2 code i (by omega) with ⟨e, _⟩ | ⟨x, hx⟩
  · omega
  · have hlong := decA_long code (i : Int) (by omega)
    rw [hdn] at hx
    obtain ⟨b2, a1, a2, a3⟩ := asm_one hx n2 (by omega)
    refine ⟨b2, n, ⟨by omega, ?_, by rw [hW]; exact hlong, by rw [hW]; exact hx.size, by rw [hW]; exact a1, a2, n2, fun k k1 k2 => ?_⟩⟩
    · have := n3 0 (by omega)
      simpa using this
    · refine ⟨?_, ?_⟩
      · have := n3 (k - i) (by omega)
        rw [show i + (k - i) = k by omega] at this
        exact this
      · rw [a3, byt_at code i n k k1 k2 (by omega)]
        have := hget (k - i) (by omega)
        rw [show i + (k - i) = k by omega] at this
        rw [← this]
        have hq : k - i < code.data.toList.length := by rw [Array.length_toList]; show k - i < code.size; omega
        rw [List.getD_eq_getElem?_getD, List.getElem?_eq_getElem hq]
        rfl
/-- The lines of a listing, one by one. -/
theorem lsF_prefix (B : List UInt8) (L S : List Bool) (k : Nat) : ∀ n, k ≤ n → ∃ r, lsF B L S n = lsF B L S k ++ r
  | 0, h => ⟨[], by rw [List.append_nil, show k = 0 by omega]⟩
  | n + 1, h => by
    by_cases e : k = n + 1
    · exact ⟨[], by rw [List.append_nil, e]⟩
    · obtain ⟨r, hr⟩ := lsF_prefix B L S k n (by omega)
      rw [lsF_snoc, hr]
      exact ⟨_, List.append_assoc _ _ _⟩
theorem lsF_at {B : List UInt8} {L S : List Bool} {i : Nat} (hi : i < 1024) (hs : S[i]? = some true) : (lsF B L S 1024)[(lsF B L S i).length]? = some (lineT B L i) ∧ (lsF B L S i).length < (lsF B L S 1024).length ∧ (lsF B L S (i + 1)).length = (lsF B L S i).length + 1 := by
  have hg : S.getD i false = true := by rw [List.getD_eq_getElem?_getD, hs]; rfl
  have h1 : lsF B L S (i + 1) = lsF B L S i ++ [lineT B L i] := by rw [lsF_snoc, if_pos hg]
  obtain ⟨r, hr⟩ := lsF_prefix B L S (i + 1) 1024 (by omega)
  have hl : (lsF B L S (i + 1)).length = (lsF B L S i).length + 1 := by rw [h1, List.length_append]; rfl
  refine ⟨?_, ?_, hl⟩
  · rw [hr, h1, List.append_assoc, List.getElem?_append_right (Nat.le_refl _), Nat.sub_self]
    rfl
  · rw [hr, List.length_append, hl]
    omega
theorem lsF_no {B : List UInt8} {L S : List Bool} {i : Nat} (hs : S[i]? = some false) : lsF B L S (i + 1) = lsF B L S i := by
  have hg : S.getD i false = false := by rw [List.getD_eq_getElem?_getD, hs]; rfl
  rw [lsF_snoc, if_neg (by rw [hg]; decide), List.append_nil]
theorem lineT_cut (B : List UInt8) (L : List Bool) (p : Nat) : (lineT B L p).extract 5 (lineT B L p).size = lineW B L p ∧ (lineT B L p).size = 5 + (lineW B L p).size := by
  unfold lineT
  refine ⟨?_, ?_⟩
  · exact ByteArray.extract_append_eq_right rfl ByteArray.size_append
  · rw [ByteArray.size_append]
    rfl
theorem ImgAt.img {w w' : World} {a : Asm} {ik lk sk : Nat} (h : ImgAt w a ik lk sk w') : ImgR w' ik 0 lk 0 sk 0 a.bytes a.laid a.starts :=
  ⟨fun k hk => by rw [Nat.zero_add]; exact h.1.cell k hk, fun k hk => by rw [Nat.zero_add]; exact h.2.1.cell k hk, fun k hk => by rw [Nat.zero_add]; exact h.2.2.1.cell k hk, h.1.len, h.2.1.len, h.2.2.1.len, h.1.lt, h.2.1.lt, h.2.2.1.lt⟩
end Go.Proofs.YthokdbcpkmcieaaGreatDoor
