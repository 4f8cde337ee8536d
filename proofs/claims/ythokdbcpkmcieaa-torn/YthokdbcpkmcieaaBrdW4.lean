/- The walk of a page's burning. -/
import Derived.Test.YthokdbcpkmcieaaBrdW3
namespace Go.Proofs.Ythokdbcpkmcieaa
open Go Go.RowKit
theorem runS_put {os : List (Option UInt8)} {p : Pow} {m : List UInt8} {i : Nat} (h : i + os.length ≤ m.length) : ∃ l, (runS p m i os).2.1 = put m i l ∧ l.length ≤ os.length := by
  by_cases hp : lasts p os.length
  · refine ⟨_, by rw [runS_lasts os p m i h hp], ?_⟩
    rw [wants_len _ _ (win_len _ _ _ h)]
    exact Nat.le_refl _
  · obtain ⟨l, e1, e2, e3, _⟩ := runS_false h hp
    exact ⟨l, by rw [e1], by omega⟩
theorem Used.page {m l : List UInt8} {k i : Nat} (h : Used m k) (hi : i + l.length ≤ 1024) : Used (put m i l) k := by
  have hlen := h.len
  have hb : i + l.length ≤ m.length := by omega
  have hle := h.le
  have hs : ∀ j, j < 60 → slotF (put m i l) j = slotF m j := fun j hj => by rw [slot_win, slot_win, win_put_other _ _ _ hb _ _ (by omega)]
  exact ⟨by rw [put_len _ _ _ hb]; exact hlen, h.le, fun j hj => by rw [hs j (by omega)]; exact h.full j hj, fun j h1 h2 => by rw [hs j h2]; exact h.free j h1 h2⟩
theorem used_runS {os : List (Option UInt8)} {p p' : Pow} {m m' : List UInt8} {i k : Nat} {b : Bool} (h : Used m k) (hi : i + os.length ≤ 1024) (e : runS p m i os = (p', m', b)) : Used m' k := by
  have hlen := h.len
  obtain ⟨l, e1, e2⟩ := runS_put (os := os) (p := p) (m := m) (i := i) (by omega)
  rw [e] at e1
  simp only at e1
  rw [e1]
  exact h.page (by omega)
theorem used_write {p p' : Pow} {m m' r : List UInt8} {k : Nat} (h : Used m k) (hk : k < 60) (hr : r.length = 4) (hne : r ≠ blankL) (e : writeF p m r = (p', m', true)) : Used m' (k + 1) := by
  have hlen := h.len
  by_cases hp : lasts p 4
  · rw [writeF_lasts h hk hr hp] at e
    simp only [Prod.mk.injEq] at e
    rw [← e.2.1]
    obtain ⟨h1, h2, h3, h4⟩ := h.puts (l := r) hk (by omega)
    rcases h.next hk h1 h2 with ⟨e', _⟩ | ⟨_, h'⟩
    · exact absurd ((slot_put_rec h hk hr).symm.trans e') hne
    · exact h'
  · obtain ⟨a, b, c, d, rfl⟩ := four hr
    obtain ⟨l, e1, _⟩ := writeF_fails (r := [a, b, c, d]) h hk rfl hp
    rw [e1] at e
    simp at e
set_option maxRecDepth 100000 in
set_option maxHeartbeats 8000000 in
theorem burnPage_any (bb : Nat) (p : Pow) (mem : List UInt8) (n : UInt8) (bs : ByteArray) (k : Nat) (w : World) (h : StoAt w bb p mem) (hu : Used mem k) (hk : k + 2 ≤ 60) (hn : n < 16) (hbs : bs.size = 64) :
    Calls Try.prog 72 #[.pointer (some ⟨bb, 4, none⟩), .int .u8 (n.toNat : Int), .string bs, .pointer (some ⟨bb, 1, none⟩)] w (StoEnd w bb (burnPageF p mem n bs.data.toList)) := by
  have hlt := h.lt
  have hnn := u16 hn
  have hni : (n.toNat : Int) < 16 := by omega
  have hlb : bs.data.toList.length = 64 := by rw [Array.length_toList]; exact hbs
  obtain ⟨bl, hbl⟩ : ∃ bl, bs.data.toList = bl := ⟨_, rfl⟩
  have hget : ∀ j (hj : j < 64), bl.getD j 0 = bs[j]'(by omega) := fun j hj => by rw [← hbl]; exact ba_get bs j (by omega)
  rw [hbl] at hlb ⊢
  have HE := hideIt (show burnPageF p mem n bl = thenS (thenS (thenS (writeF p mem (recF mem n 1)) fun p m => runS p m (64 * n.toNat) (List.replicate 64 none)) fun p m => runS p m (64 * n.toNat) (bl.map some)) fun p m => writeF p m (recF m n 2) from rfl)
  have HS := hideIt h
  have HU := hideIt hu
  have HW1 := hideIt (fun w' (h' : StoAt w' bb p mem) => write_any bb p mem (recF mem n 1) k w' h' hu (by omega) rfl)
  obtain ⟨q1, hq1⟩ : ∃ q1, writeF p mem (recF mem n 1) = q1 := ⟨_, rfl⟩
  rw [hq1] at HE HW1
  obtain ⟨p1, m1, ok1⟩ := q1
  have HQ1 := hideIt hq1
  clear h hu hq1
  go_enter Try.func72, Try.ntmps72
  go_wp2_with fail
  refine (record_one bb n mem w).mono ?_
  rintro e w1 ⟨rfl, hb1⟩
  go_wp2_with fail
  refine (HW1.out w1 (HS.out.below hb1)).mono ?_
  rintro e w2 ⟨he, hs2, hw2⟩
  have HWI := hideIt ((Within.below (o := 1) (n := 1267) hb1 hlt).trans hw2)
  have HS2 := hideIt hs2
  clear hs2 hw2 hb1 HW1
  cases ok1 with
  | false =>
    obtain rfl := endS_no he
    go_wp2
    refine ⟨rfl, ?_⟩
    rw [HE.out, then_no rfl, then_no rfl, then_no rfl]
    exact ⟨rfl, HS2.out, HWI.out⟩
  | true =>
    obtain rfl := endS_yes he
    have hu1 : Used m1 (k + 1) := used_write HU.out (by omega) rfl (rec_ne_blank _ _ _ hn) HQ1.out
    have HU1 := hideIt hu1
    rw [then_ok rfl] at HE
    obtain ⟨os1, hos1⟩ : ∃ os1 : List (Option UInt8), List.replicate 64 none = os1 := ⟨_, rfl⟩
    have hol1 : os1.length = 64 := by rw [← hos1]; simp
    have hog1 : ∀ j, os1.getD j none = none := fun j => by rw [← hos1, List.getD_eq_getElem?_getD, List.getElem?_replicate]; split <;> rfl
    rw [hos1] at HE
    clear hu1 HU HQ1 HS hos1 he
    go_wp2_with fail
    go_loopw [22] (fun i wr => ∃ j : Nat, j ≤ 64 ∧ i = .int .i64 j ∧ ∃ p' m', runS p1 m1 (64 * n.toNat) (os1.take j) = (p', m', true) ∧ StoAt wr bb p' m' ∧ Within w wr bb 1 1267) (fun i _ => 64 - (intOf i).toNat)
    case atStart => exact ⟨0, by omega, rfl, p1, m1, by simp [runS], HS2.out, HWI.out⟩
    case round =>
      obtain ⟨j, hj, rfl, p', m', hrun, hst, hwi⟩ := hrel
      by_cases hj4 : j < 64
      · obtain ⟨hm1, hm2⟩ := runS_more (by omega) hrun
        rw [hog1] at hm1 hm2
        have HB := hideIt (fun w' (h' : StoAt w' bb p' m') => erase_any bb p' m' (64 * n.toNat + j) w' h' (by omega))
        rw [show 4 + (64 * n.toNat + j) = 4 + n.toNat * 64 + j by omega] at HB
        have hss : ((strokeF p' (m'.getD (64 * n.toNat + j) 0) 255).1, m'.set (64 * n.toNat + j) (strokeF p' (m'.getD (64 * n.toNat + j) 0) 255).2.1, (strokeF p' (m'.getD (64 * n.toNat + j) 0) 255).2.2) = stepS p' m' (64 * n.toNat + j) none := rfl
        rw [hss] at HB
        obtain ⟨q, hq⟩ : ∃ q, stepS p' m' (64 * n.toNat + j) none = q := ⟨_, rfl⟩
        rw [hq] at HB hm1 hm2
        obtain ⟨p2, m2, ok⟩ := q
        have hji : (j : Int) < 64 := by omega
        have HM := hideIt (And.intro hm1 (And.intro hm2 (And.intro hst hwi)))
        clear hm1 hm2 hst hwi hss hq hrun
        go_wp2_with fail
        refine (HB.out _ HM.out.2.2.1).mono ?_
        rintro e wz ⟨he, h1, h2⟩
        have HZ := hideIt (And.intro h1 h2)
        clear h1 h2
        cases ok with
        | false =>
          obtain rfl := endS_no he
          go_wp2
          refine ⟨rfl, ?_⟩
          rw [HE.out, HM.out.2.1 (by first | rfl | trivial), then_no rfl, then_no rfl]
          exact ⟨rfl, HZ.out.1, HM.out.2.2.2.trans HZ.out.2⟩
        | true =>
          obtain rfl := endS_yes he
          go_wp2
          go_roundw
          case rel => exact ⟨j + 1, by omega, by go_num, p2, m2, HM.out.1, HZ.out.1, HM.out.2.2.2.trans HZ.out.2⟩
          case measure => simp [intOf]; omega
      · obtain rfl : j = 64 := by omega
        rw [show os1.take 64 = os1 by rw [← hol1, List.take_length]] at hrun
        have HU2 := hideIt (used_runS HU1.out (by omega) hrun)
        rw [hrun, then_ok rfl] at HE
        clear HU1 HWI HS2
        have HWI := hideIt hwi
        have HS2 := hideIt hst
        clear hwi hst hrun
        obtain ⟨os2, hos2⟩ : ∃ os2 : List (Option UInt8), bl.map some = os2 := ⟨_, rfl⟩
        have hol2 : os2.length = 64 := by rw [← hos2]; simpa using hlb
        have hog2 : ∀ j (hj : j < 64), os2.getD j none = some (bs[j]'(by omega)) := fun j hj => by
          rw [← hget j hj, ← hos2, List.getD_eq_getElem?_getD, List.getElem?_map, List.getD_eq_getElem?_getD, List.getElem?_eq_getElem (by omega)]
          rfl
        rw [hos2] at HE
        clear hos2 hget
        rw [show ((64 : Nat) : Int) = 64 from rfl]
        go_wp2_with fail
        go_loopw [32] (fun i wr => ∃ j : Nat, j ≤ 64 ∧ i = .int .i64 j ∧ ∃ p2 m2, runS p' m' (64 * n.toNat) (os2.take j) = (p2, m2, true) ∧ StoAt wr bb p2 m2 ∧ Within w wr bb 1 1267) (fun i _ => 64 - (intOf i).toNat)
        case atStart => exact ⟨0, by omega, rfl, p', m', by simp [runS], HS2.out, HWI.out⟩
        case round =>
          rename_i hrel
          obtain ⟨j, hj, rfl, p2, m2, hrun, hst, hwi⟩ := hrel
          by_cases hj4 : j < 64
          · obtain ⟨x, hx⟩ : ∃ x, bs[j]'(by omega) = x := ⟨_, rfl⟩
            obtain ⟨hm1, hm2⟩ := runS_more (by omega) hrun
            rw [hog2 j hj4, hx] at hm1 hm2
            have HB := hideIt (fun w' (h' : StoAt w' bb p2 m2) => burn_any bb p2 m2 (64 * n.toNat + j) x w' h' (by omega))
            rw [show 4 + (64 * n.toNat + j) = 4 + n.toNat * 64 + j by omega] at HB
            have hss : ((strokeF p2 (m2.getD (64 * n.toNat + j) 0) (m2.getD (64 * n.toNat + j) 0 &&& x)).1, m2.set (64 * n.toNat + j) (strokeF p2 (m2.getD (64 * n.toNat + j) 0) (m2.getD (64 * n.toNat + j) 0 &&& x)).2.1, (strokeF p2 (m2.getD (64 * n.toNat + j) 0) (m2.getD (64 * n.toNat + j) 0 &&& x)).2.2) = stepS p2 m2 (64 * n.toNat + j) (some x) := rfl
            rw [hss] at HB
            obtain ⟨q, hq⟩ : ∃ q, stepS p2 m2 (64 * n.toNat + j) (some x) = q := ⟨_, rfl⟩
            rw [hq] at HB hm1 hm2
            obtain ⟨p3, m3, ok⟩ := q
            have hji : (j : Int) < 64 := by omega
            have hjs : (j : Int) < (bs.size : Int) := by omega
            have HM := hideIt (And.intro hm1 (And.intro hm2 (And.intro hst hwi)))
            clear hm1 hm2 hst hwi hss hq hrun hog1 hog2
            cases ok with
            | true =>
              go_wp2_with fail
              go_region_with (go_at_call 76; refine (HB.out wr.drew (HM.out.2.2.1.kept rfl (Nat.le_refl _))).mono ?_; rintro e wz ⟨he, h1, h2⟩; obtain rfl := endS_yes he)
              all_goals
                have HZ := hideIt (And.intro h1 h2)
                clear h1 h2 he
                go_wp2
                go_roundw
                case rel =>
                  refine ⟨j + 1, by omega, by go_num, p3, m3, HM.out.1, HZ.out.1, HM.out.2.2.2.trans ?_⟩
                  exact ⟨⟨HZ.out.2.grown.os, HZ.out.2.grown.tape, HZ.out.2.grown.output, HZ.out.2.grown.size, HZ.out.2.grown.block⟩, HZ.out.2.cells, HZ.out.2.fz⟩
                case measure => simp [intOf]; omega
            | false =>
              have hent : ∀ args w, (callFunc 76 args).run Try.prog w = .ok (.enter 76 args) w := enters_of Try.func76 (by kernel_rfl) rfl
              have HX : Hid (∀ w', StoAt w' bb p3 m3 → Within wr.drew w' bb 1 1267 → StoEnd w bb (burnPageF p mem n bl) (.panicked [{ v := .iface 103 (.agg #[]), recovered := false }]) w') := by
                intro w' h1 h2
                rw [HE.out, HM.out.2.1 rfl, then_no rfl]
                exact ⟨rfl, h1, HM.out.2.2.2.trans ⟨⟨h2.grown.os, h2.grown.tape, h2.grown.output, h2.grown.size, h2.grown.block⟩, h2.cells, h2.fz⟩⟩
              go_wp2_with fail
              go_region_law (refine step_diesV (.tuple #[]) 76 #[.pointer (some ⟨bb, 1, none⟩), .pointer (some ⟨bb, 4 + n.toNat * 64 + j, none⟩), .int .u8 (x.toNat : Int)] rfl (by simp [go_sem, hent]) _ (HB.out wr.drew (HM.out.2.2.1.kept rfl (Nat.le_refl _))) (fun e w' hh => ⟨_, endS_no hh.1, rfl, HX.out w' hh.2.1 hh.2.2⟩) ?_; intro HFF)
              all_goals exact HFF.out.elim
          · obtain rfl : j = 64 := by omega
            rw [show os2.take 64 = os2 by rw [← hol2, List.take_length]] at hrun
            have HU3 := hideIt (used_runS HU2.out (by omega) hrun)
            rw [hrun, then_ok rfl] at HE
            have HW2 := hideIt (fun w' (h' : StoAt w' bb p2 m2) => write_any bb p2 m2 (recF m2 n 2) (k + 1) w' h' HU3.out (by omega) rfl)
            have HR2 := hideIt (fun w' (h' : StoAt w' bb p2 m2) => record_two bb p2 m2 n w' h' hn)
            have HM := hideIt (And.intro hst hwi)
            have hlr := hst.lt
            obtain ⟨q2, hq2⟩ : ∃ q2, writeF p2 m2 (recF m2 n 2) = q2 := ⟨_, rfl⟩
            rw [hq2] at HE HW2
            obtain ⟨p4, m4, ok4⟩ := q2
            clear hrun hst hwi hq2 hog1 hog2
            go_wp2_with fail
            refine (HR2.out _ HM.out.1).mono ?_
            rintro e w5 ⟨rfl, hb5⟩
            go_wp2_with fail
            refine (HW2.out w5 (HM.out.1.below hb5)).mono ?_
            rintro e w6 ⟨he, hs6, hw6⟩
            have HZ := hideIt (And.intro hs6 (HM.out.2.trans ((Within.below (o := 1) (n := 1267) hb5 hlr).trans hw6)))
            clear hs6 hw6 hb5
            cases ok4 with
            | false =>
              obtain rfl := endS_no he
              go_wp2
              refine ⟨rfl, ?_⟩
              rw [HE.out]
              exact ⟨rfl, HZ.out.1, HZ.out.2⟩
            | true =>
              obtain rfl := endS_yes he
              go_wp2
              go_end0
              rw [HE.out]
              exact ⟨rfl, HZ.out.1, HZ.out.2⟩
end Go.Proofs.Ythokdbcpkmcieaa
