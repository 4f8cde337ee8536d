/- The walk of Framed. -/
import Derived.Test.YthokdbcpkmcieaaFra1
import Derived.Laws.AppendOwnNone
namespace Go.Proofs.Ythokdbcpkmcieaa
open Go Go.RowKit
theorem baE_drop (s : ByteArray) (k : Nat) : (s.extract k s.size).data.toList = s.data.toList.drop k := by
  rw [ByteArray.data_extract, Array.toList_extract]
  have h : s.size = s.data.toList.length := (Array.length_toList (xs := s.data)).symm
  rw [h, List.extract_eq_take_drop, List.take_of_length_le]
  rw [List.length_drop]
  exact Nat.le_refl _
theorem baE_take (s : ByteArray) (k : Nat) : (s.extract 0 k).data.toList = s.data.toList.take k := by
  rw [ByteArray.data_extract, Array.toList_extract, List.extract_eq_take_drop]
  simp
/-- append of one row of the call's own to another. -/
theorem wpList_append_row {P : Program} {w : World} {ops : Array Oper} {rest : List Oper} {o : Oper} {a : Act} {Q : Exit → Act → World → Prop} (hgd : o.guard = none) (s x : Operand) (t : TypeId)
    (ho : o.op = .call { callee := .builtin .append, args := #[s, x], argTypes := #[t, t] })
    (base : Nat) (e : TypeId) (i : TypeInfo) (z : Value) (bytes : Nat) (ht : P.underlying t = some (.slice e)) (hi : P.info? e = some i) (hz : i.zero = some z) (hsize : i.size = 1) (hby : i.bytes = bytes) (hzs : z.cells.size = 1)
    (v : Value) (n : Nat) (xs : List Value) (hs : a.eval s = v) (hown : w.ownsRow base e 1 v n xs)
    (b2 : Nat) (v2 : Value) (n2 : Nat) (ys : List Value) (hx : a.eval x = v2) (hown2 : w.ownsRow b2 e 1 v2 n2 ys) (h1 : ∀ u ∈ ys, u.oneCell' = true)
    (h63 : n + n2 ≤ maxLen) (hbytes : (n + n2) * bytes ≤ 140737488355328) (hbase : base ≤ w.heap.size)
    (h : ∀ v' w', w'.ownsRow base e 1 v' (n + n2) (xs ++ ys) → w.grownBy w' v.ownBlock → (v'.ownBlock = v.ownBlock ∨ v'.ownBlock = some w.heap.size) → wpList P ops Q rest (a.put o.dst v') w') : wpList P ops Q (o :: rest) a w := by
  have hown3 := hown2
  rcases hown2 with ⟨hl, ⟨rfl, rfl⟩ | ⟨g, cap, cur, rfl, hg, h3, h4⟩⟩
  · obtain rfl : ys = [] := List.eq_nil_of_length_eq_zero (by simpa using hl)
    refine wpList_append_own_none hgd s x t ho base e i 1 ht hi v n xs hs hown hx (h v w (by simpa using hown) ⟨rfl, rfl, rfl, Nat.le_refl _, fun _ _ _ => rfl⟩ (.inl rfl))
  · refine wpList_append_own_at w hgd s x t ho base e i z 1 bytes ht hi hz hsize hby hzs (by decide) v n xs hs hown ⟨g, 0, none⟩ n2 cap ys hx (by simpa using hl) (hown3.cells (g := g) rfl) h1 h63 hbytes hbase (fun v' w' r1 r2 _ r4 => h v' w' r1 r2 r4)
theorem strs_one (l : List (List UInt8)) : ∀ u ∈ strs l, u.oneCell' = true := by
  intro u hu
  obtain ⟨m, _, rfl⟩ := List.mem_map.1 hu
  rfl
theorem strs_len (l : List (List UInt8)) : (strs l).length = l.length := by simp [strs]
theorem strs_append (a b : List (List UInt8)) : strs (a ++ b) = strs a ++ strs b := by simp [strs]
theorem frameF_len (l : List UInt8) : 2 ≤ (frameF l).length ∧ (frameF l).length ≤ 2 * l.length + 6 := by
  have := escL_len (l ++ chkB l)
  have hc : (l ++ chkB l).length = l.length + 2 := by simp [chkB]
  rw [hc] at this
  simp [frameF]
  omega
theorem txt_size (l : List UInt8) : (txt l).size = l.length := by simp [txt, ByteArray.size]
theorem txt_toList (l : List UInt8) : (txt l).data.toList = l := by simp [txt]
theorem txt_ba (s : ByteArray) : txt s.data.toList = s := by simp [txt]
/-- The ear, what has come out and what is still to be heard. -/
structure FR (w wr : World) (eb base : Nat) (m : List UInt8) (A : ByteArray) (st : EarS) (out : List (List UInt8)) (v : Value) : Prop where
  ear : EarAt wr eb st
  row : wr.ownsRow base 9 1 v out.length (strs out)
  all : out ++ (hearF st A.data.toList).2 = [m, m]
  sz : A.size ≤ 1000
  below : Below w.heap.size w wr
  bs : base ≤ wr.heap.size
  eb1 : w.heap.size ≤ eb
  eb2 : eb < base
/-- One part heard. -/
theorem FR.step {w wr w1 wn : World} {eb base : Nat} {m : List UInt8} {A : ByteArray} {st : EarS} {out : List (List UInt8)} {v v' : Value} (h : FR w wr eb base m A st out v) (k : Nat) (hE : EarAt w1 eb (hearF st (A.extract 0 k).data.toList).1) (hg : wr.grownBy w1 (some eb))
    (hown : wn.ownsRow base 9 1 v' (out.length + (hearF st (A.extract 0 k).data.toList).2.length) (strs out ++ strs (hearF st (A.extract 0 k).data.toList).2)) (hgr : w1.grownBy wn v.ownBlock) :
    FR w wn eb base m (A.extract k A.size) (hearF st (A.extract 0 k).data.toList).1 (out ++ (hearF st (A.extract 0 k).data.toList).2) v' := by
  have hz := hg.size
  have hz2 := hgr.size
  have hb := h.bs
  have he1 := h.eb1
  have he2 := h.eb2
  refine ⟨hE.kept (hgr.block eb hE.lt (fun e => by have := (h.row.lt eb e.symm).1; omega)) hz2, ?_, ?_, ?_, ?_, by omega, he1, he2⟩
  · rw [List.length_append, strs_append]; exact hown
  · have := h.all
    rw [← List.take_append_drop k A.data.toList, hearF_append] at this
    rw [List.append_assoc, baE_take, baE_drop]
    exact this
  · have := h.sz
    simp only [ByteArray.size_extract]
    omega
  · have hB := h.below
    have hz0 := hB.size
    refine ⟨(hgr.os.trans hg.os).trans hB.os, (hgr.tape.trans hg.tape).trans hB.tape, (hgr.output.trans hg.output).trans hB.output, by omega, fun j hj => ?_⟩
    rw [hgr.block j (by omega) (fun e => by have := (h.row.lt j e.symm).1; omega), hg.block j (by omega) (by simp; omega), hB.block j hj]
theorem isEmpty_iffE (r : ByteArray) : r.toList.isEmpty = decide (r.size = 0) := by
  rw [ByteArray.toList_eq]
  have h : r.size = r.data.toList.length := (Array.length_toList (xs := r.data)).symm
  rw [h]
  cases r.data.toList with
  | nil => rfl
  | cons x l => rfl
theorem grown_below {w w1 w2 : World} {eb : Nat} (h : Below w.heap.size w w1) (hg : w1.grownBy w2 (some eb)) (he : w.heap.size ≤ eb) : Below w.heap.size w w2 :=
  ⟨hg.os.trans h.os, hg.tape.trans h.tape, hg.output.trans h.output, Nat.le_trans h.size hg.size, fun j hj => by rw [hg.block j (Nat.lt_of_lt_of_le hj h.size) (by simp; omega), h.block j hj]⟩
theorem two_rows {w : World} {base : Nat} {v : Value} {m : List UInt8} (h : w.ownsRow base 9 1 v 2 (strs [m, m])) : ∃ g cap, v = .slice (some ⟨g, 0, none⟩) 2 cap ∧ w.cell? ⟨g, 0, none⟩ = some (.string (txt m)) ∧ w.cell? ⟨g, 1, none⟩ = some (.string (txt m)) := by
  obtain ⟨g, cap, rfl, _⟩ := own_some h (by decide)
  refine ⟨g, cap, rfl, ?_, ?_⟩
  · have := h.cells (g := g) rfl 0 _ rfl
    rwa [Addr.add_lit, Nat.zero_add] at this
  · have := h.cells (g := g) rfl 1 _ rfl
    rwa [Addr.add_lit, Nat.zero_add] at this
set_option maxRecDepth 100000 in
set_option maxHeartbeats 8000000 in
theorem framed_any (msg noise : ByteArray) (ca : Option Addr) (cn cc : Nat) (w : World) (hmsg : msg.size ≤ 4000000) (hnoise : noise.size ≤ 4000000) (hcn : cn ≤ 4000000)
    (hcut : ∀ i, i < cn → ∃ cb coff z, ca = some ⟨cb, coff, none⟩ ∧ cb < w.heap.size ∧ w.cell? ⟨cb, coff + i, none⟩ = some (.int .i64 z) ∧ -9223372036854775808 ≤ z ∧ z ≤ 9223372036854775807) :
    Calls Try.prog 4 #[.string msg, .string noise, .slice ca cn cc] w fun e w' => e = .returned (.bool true) ∧ Below w.heap.size w w' := by
  obtain ⟨i0, hi, hz0, hz1, hz2⟩ := info_of Try.infoStr
  have HCUT := hideIt hcut
  clear hcut
  go_enter Try.func4, Try.ntmps4
  go_upto_if 17 with fail
  go_cut [7] (fun s wx => ∃ m : ByteArray, s = .string m ∧ 1 ≤ m.size ∧ m.size ≤ 4000000 ∧ wx = w)
  case first =>
    by_cases he : msg.size = 0
    · have hb : msg.toList.isEmpty = true := by rw [isEmpty_iffE]; simpa using he
      rw [hb]
      go_wp2
      go_meet
      case rel => exact ⟨_, rfl, by decide, by decide, rfl⟩
    · have hb : msg.toList.isEmpty = false := by rw [isEmpty_iffE]; simpa using he
      rw [hb]
      go_wp2
      go_meet
      case rel =>
        exact ⟨_, rfl, by omega, hmsg, rfl⟩
  case rest =>
    obtain ⟨m, rfl, hm1, hm2, rfl⟩ := hcut
    go_upto_if 20 with fail
    go_cut [7] (fun s wx => ∃ m : ByteArray, s = .string m ∧ 1 ≤ m.size ∧ m.size ≤ 80 ∧ wx = wc)
    case first =>
      by_cases hl : 80 < m.size
      · have hl' : decide ((80 : Int) < (m.size : Int)) = true := by simp; omega
        rw [hl']
        go_wp2
        go_meet
        case rel => exact ⟨_, rfl, by simp only [ByteArray.size_extract]; omega, by simp only [ByteArray.size_extract]; omega, rfl⟩
      · have hl' : decide ((80 : Int) < (m.size : Int)) = false := by simp; omega
        rw [hl']
        go_wp2
        go_meet
        case rel => exact ⟨_, rfl, hm1, by omega, rfl⟩
    case rest =>
      clear hm1 hm2 m
      obtain ⟨m, rfl, hm1, hm2, rfl⟩ := hcut
      have hlen : m.data.toList.length = m.size := by rw [Array.length_toList]; rfl
      have hfl := frameF_len m.data.toList
      have hne : m.data.toList ≠ [] := fun e => by rw [e] at hlen; simp at hlen; omega
      have htwo := hear_two m.data.toList hne (by omega)
      obtain ⟨l, hl⟩ : ∃ l, m.data.toList = l := ⟨_, rfl⟩
      have HM := hideIt (show txt l = m by rw [← hl]; exact txt_ba m)
      have HF := hideIt (bframe_any m wc hm1 hm2)
      rw [hl] at HF hfl htwo hlen
      obtain ⟨S, hS⟩ : ∃ S, txt (frameF l) = S := ⟨_, rfl⟩
      have hSl : S.data.toList = frameF l := by rw [← hS]; exact txt_toList _
      have hSs : S.size = (frameF l).length := by rw [← hS]; exact txt_size _
      have hS2 : decide ((S.size : Int) < 2) = false := by simp; omega
      have hS3 : (S.size : Int) ≤ 300 := by omega
      have hS4 : (1 : Int) ≤ (S.size : Int) := by omega
      have HTW := hideIt (show (hearF ⟨1, []⟩ (S ++ S.extract 1 S.size).data.toList).2 = [l, l] by rw [ByteArray.data_append, Array.toList_append, baE_drop, hSl, List.drop_one]; exact htwo)
      have HSZ := hideIt (show (S ++ S.extract 1 S.size).size ≤ 1000 by rw [ByteArray.size_append, ByteArray.size_extract]; omega)
      rw [hS] at HF
      clear hl hS hSl hSs htwo hfl hne hlen
      go_wp2_with fail
      refine HF.out.mono ?_
      rintro e w1 ⟨rfl, hB1⟩
      have HB1 := hideIt hB1
      clear hB1 HF
      go_wp2_with fail
      refine (listen_any _).mono ?_
      rintro e w2 ⟨rfl, hE2, hB2, hz2⟩
      obtain ⟨eb, heb⟩ : ∃ eb, w1.heap.size = eb := ⟨_, rfl⟩
      rw [heb] at hE2 hB2 hz2 ⊢
      have hbig : wc.heap.size ≤ eb := by rw [← heb]; exact HB1.out.size
      have HB2 := hideIt (show Below wc.heap.size wc w2 from HB1.out.trans (by have := hB2.mono (B' := wc.heap.size) hbig; exact ⟨this.os, this.tape, this.output, this.size, this.block⟩))
      have HE2 := hideIt hE2
      clear hE2 hB2 hz2 heb HB1
      go_wp2_with fail
      refine (bhear_any eb _ noise _ HE2.out hnoise).mono ?_
      rintro e w3 ⟨v3, rfl, hE3, hR3, hG3⟩
      obtain ⟨st3, hst3⟩ : ∃ st, (hearF ⟨0, []⟩ noise.data.toList).1 = st := ⟨_, rfl⟩
      rw [hst3] at hE3
      obtain ⟨va3, vm3, vc3, rfl⟩ := slice_ofR hR3
      have HB3 := hideIt (show Below wc.heap.size wc w3 from grown_below HB2.out hG3 hbig)
      have HE3 := hideIt hE3
      clear hE3 hR3 hG3 hst3 HB2 HE2
      go_wp2_with fail
      refine (flag_any _).mono ?_
      rintro e w4 ⟨rfl, hB4⟩
      have HB4 := hideIt (show Below wc.heap.size wc w4 from HB3.out.trans (by have := hB4.mono (B' := wc.heap.size) HB3.out.size; exact ⟨this.os, this.tape, this.output, this.size, this.block⟩))
      have HE4 := hideIt (HE3.out.kept (hB4.block eb HE3.out.lt) hB4.size)
      clear hB4 HB3 HE3
      go_wp2_with fail
      refine (bhear_any eb _ (txt [126]) _ HE4.out (by rw [txt_size]; decide)).mono ?_
      rintro e w5 ⟨v5, rfl, hE5, hR5, hG5⟩
      rw [txt_toList, hear_126any] at hE5
      obtain ⟨va5, vm5, vc5, rfl⟩ := slice_ofR hR5
      have HB5 := hideIt (show Below wc.heap.size wc w5 from grown_below HB4.out hG5 hbig)
      have HE5 := hideIt hE5
      clear hE5 hR5 hG5 HB4 HE4
      go_wp2_with fail
      go_loopw [11, 12, 13] (fun a g i wr => ∃ (k : Nat) (A : ByteArray) (st : EarS) (out : List (List UInt8)), k ≤ cn ∧ i = .int .i64 k ∧ a = .string A ∧ FR wc wr eb w5.heap.size l A st out g) (fun _ _ i _ => cn - (intOf i).toNat)
      case atStart => exact ⟨0, _, _, [], Nat.zero_le _, rfl, rfl, ⟨HE5.out, World.ownsRow_nil _ _ _ _, HTW.out, HSZ.out, HB5.out, Nat.le_refl _, hbig, HE5.out.lt⟩⟩
      case round =>
        obtain ⟨k, A, st, out, hk, rfl, rfl, hFR⟩ := hrel
        have hAs := hFR.sz
        have hol : out.length ≤ 2 := by
          have := congrArg List.length hFR.all
          simp at this
          omega
        have hcount := hFR.all
        obtain ⟨va, vm, vc, rfl⟩ := slice_ofR hFR.row
        have HFR := hideIt hFR
        clear hFR
        by_cases hgo : k < cn ∧ 0 < A.size
        · obtain ⟨hlt, hA0⟩ := hgo
          have hlt' : (k : Int) < (cn : Int) := by omega
          have hA0' : (0 : Int) < (A.size : Int) := by omega
          have hA1' : (A.size : Int) ≤ 1000 := by omega
          obtain ⟨cb, coff, z, rfl, hcb, hcz, hz3, hz4⟩ := HCUT.out k hlt
          have hcr : wr.cell? ⟨cb, coff + k, none⟩ = some (.int .i64 z) := by rw [HFR.out.below.cell (by simpa using hcb)]; exact hcz
          have HP := hideIt (fun w' => pick_any z (A.size + 1) hz3 hz4 (by omega) (by omega) w')
          clear hcz hcount
          go_wp2_with fail
          refine (HP.out _).mono ?_
          rintro e w6 ⟨n, hn, rfl, rfl⟩
          have hn' : (n : Int) ≤ (A.size : Int) := by omega
          have HH := hideIt (bhear_any eb st (A.extract 0 n) w6 HFR.out.ear (by rw [ByteArray.size_extract]; omega))
          go_wp2_with fail
          refine HH.out.mono ?_
          rintro e w7 ⟨v7, rfl, hE7, hR7, hG7⟩
          obtain ⟨va7, vm7, vc7, rfl⟩ := slice_ofR hR7
          have hc7 := hearF_count st (A.extract 0 n).data.toList
          have hRg : w7.ownsRow w5.heap.size 9 1 (.slice va vm vc) out.length (strs out) := own_atE HFR.out.row (fun j hj => hG7.block j (HFR.out.row.lt j hj).2 (by have h1 := (HFR.out.row.lt j hj).1; have h2 := HFR.out.eb2; simp; omega))
          have hl7 : (hearF st (A.extract 0 n).data.toList).2.length ≤ 1000 := by
            have : (A.extract 0 n).data.toList.length ≤ A.size := by rw [baE_take, List.length_take, Array.length_toList]; exact Nat.min_le_right _ _
            omega
          have hbs7 : w5.heap.size ≤ w7.heap.size := Nat.le_trans HFR.out.bs hG7.size
          have HE7 := hideIt hE7
          have HR7 := hideIt hR7
          have HG7 := hideIt hG7
          have HRg := hideIt hRg
          clear hE7 hR7 hG7 hRg hc7 HH HP
          go_wp2_with (at_builtin; refine wpList_append_row rfl _ _ 22 rfl w5.heap.size 9 i0 _ 16 Try.underlying22 hi hz0 hz1 hz2 rfl _ out.length (strs out) rfl HRg.out w6.heap.size _ _ _ rfl HR7.out (strs_one _) (by unfold maxLen; omega) (by omega) hbs7 ?_; intro v' wn hown hgr _; obtain ⟨va', vm', vc', rfl⟩ := slice_ofR hown; have HS := hideIt (HFR.out.step n HE7.out HG7.out hown hgr); clear hown hgr)
          go_roundw
          case rel => exact ⟨k + 1, _, _, _, by omega, by go_num, rfl, HS.out⟩
          case measure => simp [intOf]; omega
        · have hend : (decide ((k : Int) < (cn : Int)) = false) ∨ ((k : Int) < (cn : Int) ∧ A.size = 0) := by
            by_cases hx : k < cn
            · right; exact ⟨by omega, by omega⟩
            · left; exact decide_eq_false (by omega)
          have HH := hideIt (bhear_any eb st A wr HFR.out.ear (by omega))
          have HFIN : Hid (∀ (w7 wn : World) (v' : Value), EarAt w7 eb (hearF st A.data.toList).1 → wr.grownBy w7 (some eb) → wn.ownsRow w5.heap.size 9 1 v' (out.length + (hearF st A.data.toList).2.length) (strs out ++ strs (hearF st A.data.toList).2) → w7.grownBy wn (Value.slice va vm vc).ownBlock →
              (∃ g cap, v' = .slice (some ⟨g, 0, none⟩) 2 cap ∧ wn.cell? ⟨g, 0, none⟩ = some (.string m) ∧ wn.cell? ⟨g, 1, none⟩ = some (.string m)) ∧ Below wc.heap.size wc wn) := by
            intro w7 wn v' hE hG hown hgr
            refine ⟨?_, ?_⟩
            · rw [← HM.out]
              rw [← strs_append, ← List.length_append, hcount] at hown
              exact two_rows hown
            · have hB := HFR.out.below
              have h1 := HFR.out.bs
              have h2 := HFR.out.eb2
              have h3 := HFR.out.eb1
              have h4 := hB.size
              have h5 := hG.size
              have h6 := hgr.size
              refine ⟨(hgr.os.trans hG.os).trans hB.os, (hgr.tape.trans hG.tape).trans hB.tape, (hgr.output.trans hG.output).trans hB.output, by omega, fun j hj => ?_⟩
              rw [hgr.block j (by omega) (fun e => by have := (HFR.out.row.lt j e.symm).1; omega), hG.block j (by omega) (by simp; omega), hB.block j hj]
          have hc7 : (hearF st A.data.toList).2.length ≤ 2 := by
            have := congrArg List.length hcount
            simp at this
            omega
          obtain ⟨Q, hQ⟩ : ∃ Q, hearF st A.data.toList = Q := ⟨_, rfl⟩
          rw [hQ] at HH HFIN hc7
          clear hcount hQ hgo
          have hend2 : (decide ((k : Int) < (cn : Int)) = false ∧ decide (k < cn) = false) ∨ ((k : Int) < (cn : Int) ∧ A = ⟨#[]⟩) := hend.imp (fun h => ⟨h, decide_eq_false (by have := of_decide_eq_false h; omega)⟩) (fun h => ⟨h.1, ByteArray.size_eq_zero_iff.1 h.2⟩)
          clear hend
          rcases hend2 with ⟨hx, hx2⟩ | ⟨hx, rfl⟩
          all_goals
            go_wp2_with fail
            refine HH.out.mono ?_
            rintro e w7 ⟨v7, rfl, hE7, hR7, hG7⟩
            obtain ⟨va7, vm7, vc7, rfl⟩ := slice_ofR hR7
            have hRg : w7.ownsRow w5.heap.size 9 1 (.slice va vm vc) out.length (strs out) := own_atE HFR.out.row (fun j hj => hG7.block j (HFR.out.row.lt j hj).2 (by have h1 := (HFR.out.row.lt j hj).1; have h2 := HFR.out.eb2; simp; omega))
            have hbs7 : w5.heap.size ≤ w7.heap.size := Nat.le_trans HFR.out.bs hG7.size
            have HE7 := hideIt hE7
            have HR7 := hideIt hR7
            have HG7 := hideIt hG7
            have HRg := hideIt hRg
            clear hE7 hR7 hG7 hRg HH
            go_wp2_with (at_builtin; refine wpList_append_row rfl _ _ 22 rfl w5.heap.size 9 i0 _ 16 Try.underlying22 hi hz0 hz1 hz2 rfl _ out.length (strs out) rfl HRg.out wr.heap.size _ _ _ rfl HR7.out (strs_one _) (by unfold maxLen; omega) (by omega) hbs7 ?_; intro v' wn hown hgr _; obtain ⟨⟨g, cap, rfl, hd0, hd1⟩, hBn⟩ := HFIN.out w7 wn v' HE7.out HG7.out hown hgr; have HBn := hideIt hBn; clear hown hgr hBn)
            go_ret
            exact ⟨rfl, HBn.out⟩
end Go.Proofs.Ythokdbcpkmcieaa
