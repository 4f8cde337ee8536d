/- Decode: the program's answer and the document's answer are the same, at every text and every place. -/
import Derived.Test.YthokdbcpkmcieaaDoorPure3
namespace Go.Proofs.YthokdbcpkmcieaaDoor
open Go Go.RowKit
/-- Both answers are this text and this number. -/
def Same (code : ByteArray) (at' : Int) (R : ByteArray) (S : Int) : Prop :=
  (∀ (w : World) (m : Int), w.cell? ⟨0, 0, none⟩ = some (.int .i64 m) → 0 < w.heap.size → Calls Tryd.prog 6 #[.string code, .int .i64 at'] w fun e w' => e = .returned (.tuple #[.string R, .int .i64 S]) ∧ Below w.heap.size w w') ∧
  (∀ (w : World), Calls Tryd.prog 5 #[.string code, .int .i64 at'] w fun e w' => e = .returned (.tuple #[.string R, .int .i64 S]) ∧ Below w.heap.size w w')
theorem posAt_all (ks : List Nat) : posAt ks ks.length = sizeOf' ks := by unfold posAt sizeOf'; rw [List.take_length]
theorem ks_len (c : Int) : (ksOf c).length = (psOf c).length := by unfold ksOf; rw [List.length_map]
theorem ps_ks (c : Int) (h : OpsC c) : psOf c = (ksOf c).map opText := by
  unfold ksOf
  rw [List.map_map]
  have : (psOf c).map (opText ∘ fun t => (kindI t).toNat) = (psOf c).map id := List.map_congr_left fun t ht => (h.ps t ht).2.2.1
  rw [this, List.map_id]
theorem ks_kind (c : Int) (h : OpsC c) (j : Nat) (hj : j < (ksOf c).length) : okKind c ((ksOf c).getD j 0) = true := by
  have hj' : j < (psOf c).length := by rw [← ks_len]; exact hj
  have := (h.ps _ (List.getElem_mem hj')).2.2.2
  unfold ksOf
  rw [List.getD_eq_getElem?_getD, List.getElem?_map, List.getElem?_eq_getElem hj']
  exact this
theorem l0_is (c : Int) (h : OpsC c) (code : ByteArray) : (psOf c).map (opn (ownOf c)) = lAt (ownOf c) (ksOf c) code 0 := by
  apply List.ext_getElem?
  intro j
  rw [List.getElem?_map]
  unfold lAt
  rw [List.getElem?_map]
  by_cases hj : j < (psOf c).length
  · have hk : j < (ksOf c).length := by rw [ks_len]; exact hj
    rw [List.getElem?_eq_getElem hj, List.getElem?_range hk]
    have ht := h.ps _ (List.getElem_mem hj)
    have hg : (ksOf c).getD j 0 = (kindI (psOf c)[j]).toNat := by
      unfold ksOf
      rw [List.getD_eq_getElem?_getD, List.getElem?_map, List.getElem?_eq_getElem hj]
      rfl
    simp only [Option.map_some, opn, opA, Nat.not_lt_zero, if_false, hg, ht.2.2.1]
  · rw [List.getElem?_eq_none (by omega), List.getElem?_eq_none (by rw [List.length_range, ks_len]; omega)]
    rfl
theorem row_is (c : Int) (hr : rowIx c ≠ 111) (hlen : (rowAt (rowIx c)).2.2.length < 1000) (hcut : (cutOf c).2.2 = true) (h : OpsC c) (code : ByteArray) :
    RowIs c (rowIx c) (ksOf c).length ((rowAt (rowIx c)).1 : Int) ((rowAt (rowIx c)).2.1 : Int) ⟨(rowAt (rowIx c)).2.2.toArray⟩ ⟨(cutOf c).1.toArray⟩ ⟨(cutOf c).2.1.toArray⟩ (psOf c) (lAt (ownOf c) (ksOf c) code 0) where
  hk := row_lt c hr
  hh := row_hit c hr
  hf := row_first c
  e1 := rfl
  e2 := rfl
  e3 := rfl
  hs := hlen
  hls := h.short
  hcut := by
    show Lib.cut (rowAt (rowIx c)).2.2 [32] = ((cutOf c).1, (cutOf c).2.1, true)
    rw [← hcut]; rfl
  hps := rfl
  hn := (ks_len c).symm
  hn0 := by rw [ks_len]; exact h.n0
  hn1 := by rw [ks_len]; exact h.n1
  hpl := fun t ht => (h.ps t ht).1
  hkd := fun t ht => (h.ps t ht).2.1
  hk17 := fun t ht => (okKind_of c _ (h.ps t ht).2.2.2 h.num0).1
  hl0 := l0_is c h code
  hnm := by
    have : (cutOf c).1.length ≤ (rowAt (rowIx c)).2.2.length := by
      unfold cutOf Lib.cut
      split
      · exact List.length_take_le' _ _
      · exact Nat.le_refl _
    show (cutOf c).1.toArray.size ≤ 1000
    rw [List.size_toArray]
    omega
theorem ent_ops (c : Int) (hent : okEnt c = true) (h : OpsC c) : EntOps c (entOf c) (numOf c) (ksOf c) (ksOf c).length where
  is := cls_ent c hent
  ops := h.texts
  len := rfl
  n0 := by rw [ks_len]; exact h.n0
  n1 := by rw [ks_len]; exact h.n1
  kinds := fun j hj => (okKind_of c _ (ks_kind c h j hj) h.num0).1
theorem piece_size (ks : List Nat) (code : ByteArray) (h : sizeOf' ks ≤ code.size) (j : Nat) (hj : j < ks.length) : (code.extract (posAt ks j) (posAt ks j + opSize (ks.getD j 0))).size = opSize (ks.getD j 0) := by
  have := posAt_le ks j hj
  rw [ByteArray.size_extract]
  omega
theorem same_short (code : ByteArray) (at' : Int) (h : 0 < code.size) (hc2 : code.size ≤ maxLen) (hr : rowIx (code[0].toNat : Int) ≠ 111) (hlen : (rowAt (rowIx (code[0].toNat : Int))).2.2.length < 1000) (hcut : (cutOf (code[0].toNat : Int)).2.2 = true) (hent : okEnt (code[0].toNat : Int) = true) (ho : OpsC (code[0].toNat : Int))
    (hsz : ¬ sizeOf' (ksOf (code[0].toNat : Int)) ≤ code.size) : Same code at' ⟨#[]⟩ 0 := by
  refine ⟨fun w m hm h0 => ?_, fun w => rdec_short code at' w h _ _ _ _ (ent_ops _ hent ho) (by omega)⟩
  refine dec_short code at' m w h hc2 hm h0 _ _ _ _ _ _ _ _ _ (row_is _ hr hlen hcut ho code) ?_
  exact readTo_short _ _ code h (fun j hj => (okKind_of _ _ (ks_kind _ ho j hj) ho.num0).1) _ (Nat.le_refl _) (by rw [posAt_all]; omega)
theorem opText_size (k : Nat) : (opText k).size ≤ 1000 := by
  by_cases h : k < 17
  · have key : ∀ k : Fin 17, (opText k.val).size ≤ 1000 := by decide +kernel
    exact key ⟨k, h⟩
  · unfold opText
    rw [List.getD_eq_getElem?_getD, List.getElem?_eq_none (by simp; omega)]
    exact Nat.zero_le _
theorem pag_bd (h c a : Int) (h0 : 0 ≤ h) (h1 : h ≤ 65535) (c0 : 0 ≤ c) (c1 : c ≤ 255) (a0 : 0 ≤ a) (a1 : a ≤ 255) : pagN h c a ≤ 65535 := by
  unfold pagN; omega
theorem whole_core (code : ByteArray) (at' : Int) (h : 0 < code.size) (hc2 : code.size ≤ maxLen) (k : Nat) (rc rf : Int) (rt nm ls : ByteArray) (ps : List ByteArray) (ks : List Nat) (own number : Int) (en : Ent)
    (hrow : RowIs (code[0].toNat : Int) k ks.length rc rf rt nm ls ps (lAt own ks code 0)) (heo : EntOps (code[0].toNat : Int) en number ks ks.length) (hsz : sizeOf' ks ≤ code.size) (h133 : ((code[0].toNat : Int) == 133) = false) (hrc : (rc == 133) = false) (hname : ⟨en.2.2.1.toArray⟩ = nm)
    (num0 : 0 ≤ number) (num1 : number ≤ 255) (own0 : 0 ≤ own) (hkk : ∀ j, j < ks.length → ((ks.getD j 0 ≠ 7 ∧ ks.getD j 0 ≠ 8) ∨ (own = number ∧ 0 ≤ number ∧ number < 8)) ∧ (ks.getD j 0 = 16 → own = (code[0].toNat : Int) / 32 * 32)) :
    Same code at' (refS nm ks code number (code[0].toNat : Int) (rBehind at' (sizeOf' ks)) ks.length) (sizeOf' ks : Int) := by
  have hcb : 0 ≤ (code[0].toNat : Int) ∧ (code[0].toNat : Int) ≤ 255 := by have := (code[0]).toNat_lt; omega
  have hrt := readTo_ok own ks code heo.kinds ks.length (Nat.le_refl _) (by rw [posAt_all]; exact hsz)
  have hbb := rBehind_bd at' (sizeOf' ks)
  have hsize : (code.size : Int) - ((code.extract (posAt ks ks.length) code.size).size : Int) = (sizeOf' ks : Int) := by
    rw [posAt_all, ByteArray.size_extract]; omega
  have hws : ∀ j, j < ks.length → writS ((opA own ks code ks.length j).at (rBehind at' (sizeOf' ks))) = shownS (ks.getD j 0) (code.extract (posAt ks j) (posAt ks j + opSize (ks.getD j 0))) number (code[0].toNat : Int) (rBehind at' (sizeOf' ks)) := by
    intro j hj
    have hk := hkk j hj
    have e : (opA own ks code ks.length j).at (rBehind at' (sizeOf' ks)) = ⟨ks.getD j 0, opText (ks.getD j 0), own, addOf (ks.getD j 0) (code.extract (posAt ks j) (posAt ks j + opSize (ks.getD j 0))), rBehind at' (sizeOf' ks)⟩ := by
      simp only [opA, Opn.at, hj, if_true]
    rw [e]
    exact writ_shown _ (heo.kinds j hj) _ _ _ _ _ hk.1 hk.2 hcb.1 hcb.2 hbb.1 hbb.2
  refine ⟨fun w m hm h0 => ?_, fun w => ?_⟩
  · rw [← line_same nm own ks code number (code[0].toNat : Int) (rBehind at' (sizeOf' ks)) heo.n0 heo.n1 hws]
    have hb : behindN at' (sizeOf' ks : Int) = rBehind at' (sizeOf' ks) := behind_same _ _
    rw [← hb]
    refine dec_whole code at' m w h hc2 hm h0 _ _ _ _ _ _ _ _ _ hrow _ _ (by rw [hrt]) (by rw [hrt]; exact hsize) (by rw [hrt]) hrc ?_ ?_
    · intro j hj
      rw [hb, lAt_get _ _ _ _ j hj]
      have hk := hkk j hj
      have ha := addOf_bd (ks.getD j 0) (code.extract (posAt ks j) (posAt ks j + opSize (ks.getD j 0)))
      refine ⟨heo.kinds j hj, own0, fun h78 => ?_, ?_, ?_, ?_⟩
      · show own < 100
        have h78' : ks.getD j 0 = 7 ∨ ks.getD j 0 = 8 := h78
        rcases hk.1 with h' | h'
        · omega
        · omega
      · simp only [opA, Opn.at, hj, if_true]; exact ha.1
      · simp only [opA, Opn.at, hj, if_true]; exact ha.2
      · show (opText (ks.getD j 0)).size ≤ 1000
        exact opText_size _
    · intro j hj
      rw [hb, lAt_get _ _ _ _ j hj, hws j hj]
      exact Nat.le_trans (shownS_size _ (heo.kinds j hj) _ _ _ _) (by decide)
  · refine rdec_ops code at' w h hc2 en number ks _ heo hsz h133 nm hname hrow.hnm num0 (by omega) ?_
    intro j hj _
    have := bAt_bd (code.extract (posAt ks j) (posAt ks j + opSize (ks.getD j 0))) 0
    exact pag_bd _ _ _ hbb.1 hbb.2 hcb.1 hcb.2 this.1 this.2
theorem no_eleven (h : (11 : Nat) = 7 ∨ (11 : Nat) = 8) : False := by omega
theorem swap_core (code : ByteArray) (at' : Int) (h : 0 < code.size) (hc2 : code.size ≤ maxLen) (k : Nat) (rc rf : Int) (rt nm ls : ByteArray) (ps : List ByteArray) (own number : Int) (en : Ent)
    (hrow : RowIs (code[0].toNat : Int) k 2 rc rf rt nm ls ps (lAt own [11, 11] code 0)) (heo : EntOps (code[0].toNat : Int) en number [11, 11] 2) (hsz : 3 ≤ code.size) (h133 : ((code[0].toNat : Int) == 133) = true) (hrc : (rc == 133) = true) (hname : ⟨en.2.2.1.toArray⟩ = nm)
    (num0 : 0 ≤ number) (num1 : number ≤ 255) (own0 : 0 ≤ own) :
    ∃ R S, Same code at' R S := by
  have hcb : 0 ≤ (code[0].toNat : Int) ∧ (code[0].toNat : Int) ≤ 255 := by have := (code[0]).toNat_lt; omega
  have hrt := readTo_ok own [11, 11] code heo.kinds 2 (Nat.le_refl _) (by show 3 ≤ code.size; exact hsz)
  have hb : behindN at' ((3 : Nat) : Int) = rBehind at' 3 := behind_same _ _
  have hsize : (code.size : Int) - ((code.extract 3 code.size).size : Int) = ((3 : Nat) : Int) := by
    rw [ByteArray.size_extract]; omega
  have hsw : swap01 (lAt own [11, 11] code 2) = [⟨11, opText 11, own, addOf 11 (code.extract 2 3), 0⟩, ⟨11, opText 11, own, addOf 11 (code.extract 1 2), 0⟩] := rfl
  have hx : writS ((⟨11, opText 11, own, addOf 11 (code.extract 2 3), 0⟩ : Opn).at (rBehind at' 3)) = shownS 11 (code.extract 2 3) number (code[0].toNat : Int) (rBehind at' 3) := rfl
  have hy : writS ((⟨11, opText 11, own, addOf 11 (code.extract 1 2), 0⟩ : Opn).at (rBehind at' 3)) = shownS 11 (code.extract 1 2) number (code[0].toNat : Int) (rBehind at' 3) := rfl
  refine ⟨(((nm ++ ⟨#[32]⟩) ++ shownS 11 (code.extract 2 3) number (code[0].toNat : Int) (rBehind at' 3)) ++ ⟨#[44]⟩) ++ shownS 11 (code.extract 1 2) number (code[0].toNat : Int) (rBehind at' 3), 3, fun w m hm h0 => ?_, fun w => ?_⟩
  · rw [← join_text2, ← hx, ← hy, ← hb]
    have key := dec_swap code at' m w h hc2 hm h0 k 2 rc rf rt nm ls ps _ hrow (lAt own [11, 11] code 2) ((3 : Nat) : Int) (by rw [hrt]) (by rw [hrt]; exact hsize) (by rw [hrt]) hrc rfl
    rw [hsw] at key
    refine key ?_ ?_
    · intro j hj
      have ha1 := addOf_bd 11 (code.extract 1 2)
      have ha2 := addOf_bd 11 (code.extract 2 3)
      match j, hj with
      | 0, _ => exact ⟨by show 11 < 17; omega, own0, fun h' => (no_eleven h').elim, ha2.1, ha2.2, opText_size 11⟩
      | 1, _ => exact ⟨by show 11 < 17; omega, own0, fun h' => (no_eleven h').elim, ha1.1, ha1.2, opText_size 11⟩
    · intro j hj
      match j, hj with
      | 0, _ => exact (by decide : (4 : Nat) ≤ 2000)
      | 1, _ => exact (by decide : (4 : Nat) ≤ 2000)
  · exact rdec_swap code at' w h hc2 en number heo hsz h133 nm hname hrow.hnm num0 (by omega) _ rfl _ _ rfl rfl
theorem same_any (code : ByteArray) (at' : Int) (hc2 : code.size ≤ maxLen) : ∃ R S, Same code at' R S := by
  by_cases h : 0 < code.size
  · have hok := ok_of code[0]
    by_cases hr : rowIx (code[0].toNat : Int) = 111
    · obtain ⟨h1, h2⟩ := cls_none _ hok hr
      exact ⟨⟨#[]⟩, 0, fun w _ _ _ => dec_miss code at' w h h1, fun w => rdec_none code at' w h h2⟩
    · obtain ⟨hent, hlen, hrest⟩ := cls_some _ hok hr
      cases hcut : (cutOf (code[0].toNat : Int)).2.2 with
      | false =>
        rw [hcut] at hrest
        obtain ⟨p1, p2, p3, p4⟩ := cls_plain _ hrest
        refine ⟨⟨(cutOf (code[0].toNat : Int)).1.toArray⟩, 1, fun w m hm h0 => ?_, fun w => ?_⟩
        · refine dec_plain code at' m w h hc2 hm h0 _ (row_lt _ hr) (row_hit _ hr) (row_first _) _ _ _ _ rfl rfl rfl hlen ?_ p4
          show Lib.cut (rowAt (rowIx (code[0].toNat : Int))).2.2 [32] = ((cutOf (code[0].toNat : Int)).1, [], false)
          exact Prod.ext rfl (Prod.ext p3 hcut)
        · rw [← p2]
          exact rdec_plain code at' w h hc2 _ _ (cls_ent _ hent) p1
      | true =>
        rw [hcut] at hrest
        have ho := cls_ops _ hrest
        by_cases hsz : sizeOf' (ksOf (code[0].toNat : Int)) ≤ code.size
        · have hrow := row_is _ hr hlen hcut ho code
          have heo := ent_ops _ hent ho
          have hname : (⟨(entOf (code[0].toNat : Int)).2.2.1.toArray⟩ : ByteArray) = ⟨(cutOf (code[0].toNat : Int)).1.toArray⟩ := by rw [ho.name]
          have hsame := ho.same
          have hkk : ∀ j, j < (ksOf (code[0].toNat : Int)).length → (((ksOf (code[0].toNat : Int)).getD j 0 ≠ 7 ∧ (ksOf (code[0].toNat : Int)).getD j 0 ≠ 8) ∨ (ownOf (code[0].toNat : Int) = numOf (code[0].toNat : Int) ∧ 0 ≤ numOf (code[0].toNat : Int) ∧ numOf (code[0].toNat : Int) < 8)) ∧ ((ksOf (code[0].toNat : Int)).getD j 0 = 16 → ownOf (code[0].toNat : Int) = (code[0].toNat : Int) / 32 * 32) :=
            fun j hj => (okKind_of _ _ (ks_kind _ ho j hj) ho.num0).2
          have hnum0 := ho.num0
          have hnum1 := ho.num1
          have hown0 := ho.own0
          have hswap := ho.swap
          clear ho hrest
          generalize ksOf (code[0].toNat : Int) = ks at *
          generalize ownOf (code[0].toNat : Int) = own at *
          generalize numOf (code[0].toNat : Int) = number at *
          generalize entOf (code[0].toNat : Int) = en at *
          generalize (⟨(cutOf (code[0].toNat : Int)).1.toArray⟩ : ByteArray) = nm at *
          generalize rowAt (rowIx (code[0].toNat : Int)) = row at *
          cases h133 : ((code[0].toNat : Int) == 133) with
          | false => exact ⟨_, _, whole_core code at' h hc2 _ _ _ _ nm _ _ ks own number en hrow heo hsz h133 (by rw [hsame]; exact h133) hname hnum0 hnum1 hown0 hkk⟩
          | true =>
            have hks := hswap h133
            subst hks
            exact swap_core code at' h hc2 _ _ _ _ nm _ _ own number en hrow heo hsz h133 (by rw [hsame]; exact h133) hname hnum0 hnum1 hown0
        · exact ⟨_, _, same_short code at' h hc2 hr hlen hcut hent ho hsz⟩
  · have he : code.toList.isEmpty = true := by rw [isEmpty_iff]; simp only [decide_eq_true_eq]; omega
    exact ⟨⟨#[]⟩, 0, fun w _ _ _ => same_below (dec_empty code at' w he), fun w => same_below (rdec_empty code at' w he)⟩
end Go.Proofs.YthokdbcpkmcieaaDoor
