/- The document's host: Hear. -/
import Derived.Test.YthokdbcpkmcieaaGreatRhB
namespace Go.Proofs.YthokdbcpkmcieaaGreat
open Go Go.RowKit
attribute [local go_sem ↓] Go.wp_at_zero Go.wp_at_succ
theorem rask_ear (d : RHst) (what : UInt8) (rest : List UInt8) : (raskD d what rest).ear = d.ear := rfl
theorem rpage_ear (d : RHst) (what : UInt8) : (rpageD d what).ear = d.ear := by
  unfold rpageD
  split <;> rfl
theorem rnext_ear (d : RHst) : (rnextD d).ear = d.ear := by
  unfold rnextD
  split
  · rfl
  · split
    · exact rpage_ear _ _
    · exact rpage_ear _ _
theorem rtakes_ear (d : RHst) (y : Bool) (bs : List UInt8) : (rtakesD d y bs).ear = d.ear := by
  unfold rtakesD
  split
  · exact rpage_ear _ _
  split
  · rfl
  split
  · rfl
  split
  · exact rnext_ear _
  split
  · exact rpage_ear _ _
  · exact rnext_ear _
set_option maxRecDepth 100000 in
set_option maxHeartbeats 8000000 in
theorem rhHear_any (hb wb bb : Nat) (h : Hst) (d : RHst) (bs : ByteArray) (w : World) (m : RHM w hb wb bb d) (s : SameH h d) (k : HOk h) (ek : EarOk h.ear) (hbs : d.ear.s.length + bs.size ≤ 4000000000000) :
    Calls Tryz.prog 64 #[.pointer (some ⟨hb, 0, none⟩), .string bs] w fun e w' => e = .returned (.tuple #[]) ∧ (∃ d', RHM w' hb wb bb d' ∧ SameH (hearH h bs.data.toList) d' ∧ d'.ear = (rHearF d.ear bs.data.toList).1) ∧ w.grownBy w' (some hb) := by
  have hlen : bs.data.toList.length = bs.size := by rw [Array.length_toList]; rfl
  have hct := rHearF_count d.ear bs.data.toList
  have hml := hearF_msgs ek bs.data.toList
  obtain ⟨hsE, hsM⟩ := sameE_hear s.ear bs.data.toList
  rw [hlen] at hct
  have HE := hideIt (rhear_o hb 13 d.ear bs w m.ear hbs)
  have HF : Hid (hearH h bs.data.toList = (hearF h.ear bs.data.toList).2.foldl hearsH (setEarH h (hearF h.ear bs.data.toList).1)) := rfl
  rw [← hsM] at HE hct
  obtain ⟨es, hes⟩ : ∃ es, (hearF h.ear bs.data.toList).1 = es := ⟨_, rfl⟩
  obtain ⟨qs, hqs⟩ : ∃ qs, (hearF h.ear bs.data.toList).2 = qs := ⟨_, rfl⟩
  obtain ⟨rr, hrr⟩ : ∃ rr, (rHearF d.ear bs.data.toList).1 = rr := ⟨_, rfl⟩
  rw [hes, hqs] at HF
  rw [hqs] at HE hct hml
  rw [hrr] at HE hsE ⊢
  rw [hes] at hsE
  have hqi : (qs.length : Int) ≤ 4000000000000 := by omega
  have HML := hideIt hml
  have HM := hideIt m
  have hs1 : SameH (setEarH h es) { d with ear := rr } := ⟨s.state, hsE, fun e => by have g := s.go e; exact ⟨g.left, g.pos, g.ses, g.msg, g.num, g.what, g.said, g.ticks, g.ready, g.burnt, g.p3, g.p4, g.p5⟩, ⟨s.ok.few, s.ok.pages, s.ok.pos, s.ok.ses, s.ok.num, s.ok.msg, s.ok.what, s.ok.said, s.ok.ticks, s.ok.burnt, s.ok.st⟩⟩
  have HK := hideIt (And.intro hs1 (k.setEar es))
  have hlt := m.lt
  clear m k s hs1 hct hml hes hqs hrr hlen hsE hsM ek
  go_enter Tryz.func64, Tryz.ntmps64
  go_wp2_with fail
  refine HE.out.mono ?_
  rintro e w1 ⟨v, rfl, hE1, hR1, hW1⟩
  have hM1 : RHM w1 hb wb bb { d with ear := rr } := by
    have m := HM.out
    have hc : ∀ j, j < 13 ∨ 15 ≤ j → w1.cell? ⟨hb, j, none⟩ = w.cell? ⟨hb, j, none⟩ := fun j hj => hW1.cells j (by omega)
    have hz := hW1.grown.size
    have b1 : w1.heap[wb]? = w.heap[wb]? := hW1.grown.block wb m.ll.1 (by have := m.ne.1; simpa using this)
    have b2 : w1.heap[bb]? = w.heap[bb]? := hW1.grown.block bb m.ll.2 (by have := m.ne.2; simpa using this)
    obtain ⟨u, u1, u2⟩ := m.c0
    obtain ⟨t, t1, t2⟩ := m.c1
    exact ⟨(hc 2 (by omega)).trans m.c2, (hc 3 (by omega)).trans m.c3, (hc 4 (by omega)).trans m.c4, (hc 5 (by omega)).trans m.c5, (hc 6 (by omega)).trans m.c6, (hc 7 (by omega)).trans m.c7, (hc 8 (by omega)).trans m.c8, (hc 9 (by omega)).trans m.c9, (hc 10 (by omega)).trans m.c10, (hc 11 (by omega)).trans m.c11, (hc 12 (by omega)).trans m.c12, ⟨u, (hc 0 (by omega)).trans u1, u2.kept b1⟩, ⟨t, (hc 1 (by omega)).trans t1, t2.kept b2⟩, hE1, m.ne, ⟨Nat.lt_of_lt_of_le m.ll.1 hz, Nat.lt_of_lt_of_le m.ll.2 hz⟩⟩
  obtain ⟨va, vm, vc, rfl⟩ := slice_ofR hR1
  have hvm : vm = qs.length := slice_lenB hR1
  subst hvm
  have HI := hideIt (And.intro hM1 (And.intro hR1 hW1.grown))
  clear hE1 hR1 hW1 hM1 HE HM
  go_wp2_with fail
  go_loopw [5] (fun i wr => ∃ (j : Nat) (h' : Hst) (d' : RHst), j ≤ qs.length ∧ i = .int .i64 j ∧ (qs.take j).foldl hearsH (setEarH h es) = h' ∧ RHM wr hb wb bb d' ∧ SameH h' d' ∧ HOk h' ∧ d'.ear = rr ∧ wr.ownsRow w.heap.size 9 1 (.slice va qs.length vc) qs.length (strs qs) ∧ w.grownBy wr (some hb)) (fun i _ => qs.length - (intOf i).toNat)
  case atStart => exact ⟨0, setEarH h es, { d with ear := rr }, Nat.zero_le _, rfl, rfl, HI.out.1, HK.out.1, HK.out.2, rfl, HI.out.2.1, HI.out.2.2⟩
  case round =>
    clear HI
    obtain ⟨j, h', d', hj, rfl, hfo, hM, hSa, hOk, hde, hR, hG⟩ := hrel
    by_cases hlj : j < qs.length
    · have hji : (j : Int) < (qs.length : Int) := by omega
      have hqm := HML.out _ (getD_mem hlj)
      obtain ⟨q, hq⟩ : ∃ q, qs.getD j [] = q := ⟨_, rfl⟩
      have hnx := fold_next hlj hfo
      rw [hq] at hqm hnx
      obtain ⟨g, rfl, cj⟩ := row_cellB hR hlj
      rw [hq] at cj
      have c12 := hM.c12
      have hst := hSa.ok.st
      have hSn := same_hears hSa hOk q
      have hOn := hOk.hearsH q
      obtain ⟨Q, hQ⟩ : ∃ Q, txt q = Q := ⟨_, rfl⟩
      have hQs : Q.size = q.length := by rw [← hQ, txt_size]
      have hQi : (Q.size : Int) ≤ 80 := by omega
      rw [hQ] at cj
      by_cases h0 : d'.state = 0
      · have f := going_facts hSa hOk h0
        rw [h0] at c12
        replace c12 : wr.cell? ⟨hb, 12, none⟩ = some (.int .i64 0) := c12
        have c6 := hM.c6
        have c7 := hM.c7
        obtain ⟨X, hX⟩ : ∃ X, d'.what = X := ⟨_, rfl⟩
        have hLG : 4 + yesLen (d'.msg.getD 3 0) = longD X := by rw [← hX]; exact long_is f
        have hXl : X ≤ 255 := by rw [← hX]; exact hSa.ok.what
        rw [hX] at c7
        obtain ⟨MS, hMS⟩ : ∃ MS, txt d'.msg = MS := ⟨_, rfl⟩
        have hMSs : MS.size = d'.msg.length := by rw [← hMS, txt_size]
        have hfl := f.long
        have hMi : (MS.size : Int) ≤ 69 := by omega
        have hMj : (3 : Int) ≤ (MS.size : Int) := by omega
        have hMt := txt_take hMS 3
        rw [hMS] at c6
        by_cases hq4 : q.length < 4
        · have han : answerToH d'.msg q = none := by unfold answerToH; rw [if_neg (by omega)]
          have hrd : rhearsD d' q = d' := by unfold rhearsD; rw [if_neg (by simp [h0]), han]
          rw [hrd] at hSn
          have hlt4 : (Q.size : Int) < 4 := by omega
          have hd4 : decide ((Q.size : Int) < 4) = true := by simp; omega
          have HX := hideIt (And.intro hnx (And.intro hM (And.intro hSn (And.intro hOn (And.intro hde (And.intro hR hG))))))
          clear hnx hM hSn hSa hOn hOk hde hR hG hfo hq hQ hQs f han hrd hX hMS hMSs hLG hMt
          go_wp2
          go_quiet (fail)
          go_wp2
          go_roundw
          case rel => exact ⟨j + 1, _, d', by omega, by go_num, HX.out.1, HX.out.2.1.drewN _, HX.out.2.2.1, HX.out.2.2.2.1, HX.out.2.2.2.2.1, HX.out.2.2.2.2.2.1, ⟨HX.out.2.2.2.2.2.2.os, HX.out.2.2.2.2.2.2.tape, HX.out.2.2.2.2.2.2.output, HX.out.2.2.2.2.2.2.size, HX.out.2.2.2.2.2.2.block⟩⟩
          case measure => simp [intOf]; omega
        · have hge4 : ¬ (Q.size : Int) < 4 := by omega
          have hd4 : decide ((Q.size : Int) < 4) = false := by simp; omega
          have hQ3 : (3 : Int) ≤ (Q.size : Int) := by omega
          have hQt := txt_take hQ 3
          by_cases hpre : q.take 3 = d'.msg.take 3
          · rw [← hpre] at hMt
            obtain ⟨PX, hPX⟩ : ∃ PX, txt (q.take 3) = PX := ⟨_, rfl⟩
            rw [hPX] at hMt hQt
            have h3Q : 3 < Q.size := by omega
            obtain ⟨sd, hsd⟩ : ∃ sd, q.getD 3 0 = sd := ⟨_, rfl⟩
            have hQ3s : Q[3] = sd := (txt_at hQ h3Q).trans hsd
            have hsl := sd.toNat_lt
            have hcond : 4 ≤ q.length ∧ q.take 3 = d'.msg.take 3 := ⟨by omega, hpre⟩
            have hQ4j : (4 : Int) ≤ (Q.size : Int) := by omega
            have hQ4 := txt_drop hQ 4
            obtain ⟨RD, hRD⟩ : ∃ RD, txt (q.drop 4) = RD := ⟨_, rfl⟩
            rw [hRD] at hQ4
            by_cases h2 : sd = 2
            · subst h2
              by_cases hl4 : q.length = 4
              · have han : answerToH d'.msg q = some (false, []) := by
                  unfold answerToH
                  rw [if_pos hcond, if_neg (fun e => by rw [hsd] at e; exact absurd e.1 (by decide)), if_pos ⟨hsd, hl4⟩]
                have hQe : (Q.size : Int) = 4 := by omega
                by_cases hx3 : X = 3
                · subst hx3
                  replace c7 : wr.cell? ⟨hb, 7, none⟩ = some (.int .i64 3) := c7
                  have hrd : rhearsD d' q = rtakesD d' false [] := by unfold rhearsD; rw [if_neg (by simp [h0]), han]
                  rw [hrd] at hSn
                  have HT : Hid (∀ n, Calls Tryz.prog 87 #[.pointer (some ⟨hb, 0, none⟩), .bool false, .string (txt [])] (wr.drewN n) fun e w' => e = .returned (.tuple #[]) ∧ RHM w' hb wb bb (rtakesD d' false []) ∧ wr.grownBy w' (some hb)) := fun n => (rtakes_any hb wb bb h' d' q false [] _ (hM.drewN n) hSa f han).mono fun e w' ⟨p1, p2, p3⟩ => ⟨p1, p2, grown_of_drewN p3⟩
                  have hde2 : (rtakesD d' false []).ear = d'.ear := rtakes_ear _ _ _
                  have HX := hideIt (And.intro hnx (And.intro hSn (And.intro hOn (And.intro (hde2.trans hde) (And.intro hR hG)))))
                  have hte : txt [] = (⟨#[]⟩ : ByteArray) := rfl
                  rw [hte] at HT
                  clear hnx hM hSn hSa hOn hOk hde hR hG hfo hq hQ hQs f han hrd hde2 hX hMS hMSs hLG hpre hPX hcond hsd hRD hl4 hte
                  go_wp2
                  go_quiet (fail)
                  go_wp2_with fail
                  refine (HT.out _).mono ?_
                  rintro e w2 ⟨rfl, p1, p2⟩
                  have HW := hideIt (And.intro p1 p2)
                  clear p1 p2
                  go_wp2
                  go_roundw
                  case rel => exact ⟨j + 1, _, _, by omega, by go_num, HX.out.1, HW.out.1, HX.out.2.1, HX.out.2.2.1, HX.out.2.2.2.1, grown_rowB HX.out.2.2.2.2.1 HW.out.2 hlt, HX.out.2.2.2.2.2.trans HW.out.2⟩
                  case measure => simp [intOf]; omega
                · have hn3 : ((X : Int) == 3) = false := by simp; omega
                  by_cases hx4 : X = 4
                  · subst hx4
                    replace c7 : wr.cell? ⟨hb, 7, none⟩ = some (.int .i64 4) := c7
                    have hrd : rhearsD d' q = rtakesD d' false [] := by unfold rhearsD; rw [if_neg (by simp [h0]), han]
                    rw [hrd] at hSn
                    have HT : Hid (∀ n, Calls Tryz.prog 87 #[.pointer (some ⟨hb, 0, none⟩), .bool false, .string (txt [])] (wr.drewN n) fun e w' => e = .returned (.tuple #[]) ∧ RHM w' hb wb bb (rtakesD d' false []) ∧ wr.grownBy w' (some hb)) := fun n => (rtakes_any hb wb bb h' d' q false [] _ (hM.drewN n) hSa f han).mono fun e w' ⟨p1, p2, p3⟩ => ⟨p1, p2, grown_of_drewN p3⟩
                    have hde2 : (rtakesD d' false []).ear = d'.ear := rtakes_ear _ _ _
                    have HX := hideIt (And.intro hnx (And.intro hSn (And.intro hOn (And.intro (hde2.trans hde) (And.intro hR hG)))))
                    have hte : txt [] = (⟨#[]⟩ : ByteArray) := rfl
                    rw [hte] at HT
                    clear hnx hM hSn hSa hOn hOk hde hR hG hfo hq hQ hQs f han hrd hde2 hX hMS hMSs hLG hpre hPX hcond hsd hRD hl4 hte
                    go_wp2
                    go_quiet (fail)
                    go_wp2_with fail
                    refine (HT.out _).mono ?_
                    rintro e w2 ⟨rfl, p1, p2⟩
                    have HW := hideIt (And.intro p1 p2)
                    clear p1 p2
                    go_wp2
                    go_roundw
                    case rel => exact ⟨j + 1, _, _, by omega, by go_num, HX.out.1, HW.out.1, HX.out.2.1, HX.out.2.2.1, HX.out.2.2.2.1, grown_rowB HX.out.2.2.2.2.1 HW.out.2 hlt, HX.out.2.2.2.2.2.trans HW.out.2⟩
                    case measure => simp [intOf]; omega
                  · have hn4 : ((X : Int) == 4) = false := by simp; omega
                    have hrd : rhearsD d' q = rtakesD d' false [] := by unfold rhearsD; rw [if_neg (by simp [h0]), han]
                    rw [hrd] at hSn
                    have HT : Hid (∀ n, Calls Tryz.prog 87 #[.pointer (some ⟨hb, 0, none⟩), .bool false, .string (txt [])] (wr.drewN n) fun e w' => e = .returned (.tuple #[]) ∧ RHM w' hb wb bb (rtakesD d' false []) ∧ wr.grownBy w' (some hb)) := fun n => (rtakes_any hb wb bb h' d' q false [] _ (hM.drewN n) hSa f han).mono fun e w' ⟨p1, p2, p3⟩ => ⟨p1, p2, grown_of_drewN p3⟩
                    have hde2 : (rtakesD d' false []).ear = d'.ear := rtakes_ear _ _ _
                    have HX := hideIt (And.intro hnx (And.intro hSn (And.intro hOn (And.intro (hde2.trans hde) (And.intro hR hG)))))
                    have hte : txt [] = (⟨#[]⟩ : ByteArray) := rfl
                    rw [hte] at HT
                    clear hnx hM hSn hSa hOn hOk hde hR hG hfo hq hQ hQs f han hrd hde2 hX hMS hMSs hLG hpre hPX hcond hsd hRD hl4 hte
                    go_wp2
                    go_quiet (fail)
                    go_wp2_with fail
                    refine (HT.out _).mono ?_
                    rintro e w2 ⟨rfl, p1, p2⟩
                    have HW := hideIt (And.intro p1 p2)
                    clear p1 p2
                    go_wp2
                    go_roundw
                    case rel => exact ⟨j + 1, _, _, by omega, by go_num, HX.out.1, HW.out.1, HX.out.2.1, HX.out.2.2.1, HX.out.2.2.2.1, grown_rowB HX.out.2.2.2.2.1 HW.out.2 hlt, HX.out.2.2.2.2.2.trans HW.out.2⟩
                    case measure => simp [intOf]; omega
              · have han : answerToH d'.msg q = none := by
                  unfold answerToH
                  rw [if_pos hcond, if_neg (fun e => by rw [hsd] at e; exact absurd e.1 (by decide)), if_neg (fun e => hl4 e.2)]
                have hQe : ((Q.size : Int) == 4) = false := by simp; omega
                by_cases hx3 : X = 3
                · subst hx3
                  replace c7 : wr.cell? ⟨hb, 7, none⟩ = some (.int .i64 3) := c7
                  have hrd : rhearsD d' q = d' := by unfold rhearsD; rw [if_neg (by simp [h0]), han]
                  rw [hrd] at hSn
                  have HX := hideIt (And.intro hnx (And.intro hM (And.intro hSn (And.intro hOn (And.intro hde (And.intro hR hG))))))
                  clear hnx hM hSn hSa hOn hOk hde hR hG hfo hq hQ hQs f han hrd hX hMS hMSs hLG hpre hPX hcond hsd hRD hl4
                  go_wp2
                  go_quiet (fail)
                  go_wp2
                  go_roundw
                  case rel => exact ⟨j + 1, _, d', by omega, by go_num, HX.out.1, HX.out.2.1.drewN _, HX.out.2.2.1, HX.out.2.2.2.1, HX.out.2.2.2.2.1, HX.out.2.2.2.2.2.1, ⟨HX.out.2.2.2.2.2.2.os, HX.out.2.2.2.2.2.2.tape, HX.out.2.2.2.2.2.2.output, HX.out.2.2.2.2.2.2.size, HX.out.2.2.2.2.2.2.block⟩⟩
                  case measure => simp [intOf]; omega
                · have hn3 : ((X : Int) == 3) = false := by simp; omega
                  by_cases hx4 : X = 4
                  · subst hx4
                    replace c7 : wr.cell? ⟨hb, 7, none⟩ = some (.int .i64 4) := c7
                    have hrd : rhearsD d' q = d' := by unfold rhearsD; rw [if_neg (by simp [h0]), han]
                    rw [hrd] at hSn
                    have HX := hideIt (And.intro hnx (And.intro hM (And.intro hSn (And.intro hOn (And.intro hde (And.intro hR hG))))))
                    clear hnx hM hSn hSa hOn hOk hde hR hG hfo hq hQ hQs f han hrd hX hMS hMSs hLG hpre hPX hcond hsd hRD hl4
                    go_wp2
                    go_quiet (fail)
                    go_wp2
                    go_roundw
                    case rel => exact ⟨j + 1, _, d', by omega, by go_num, HX.out.1, HX.out.2.1.drewN _, HX.out.2.2.1, HX.out.2.2.2.1, HX.out.2.2.2.2.1, HX.out.2.2.2.2.2.1, ⟨HX.out.2.2.2.2.2.2.os, HX.out.2.2.2.2.2.2.tape, HX.out.2.2.2.2.2.2.output, HX.out.2.2.2.2.2.2.size, HX.out.2.2.2.2.2.2.block⟩⟩
                    case measure => simp [intOf]; omega
                  · have hn4 : ((X : Int) == 4) = false := by simp; omega
                    have hrd : rhearsD d' q = d' := by unfold rhearsD; rw [if_neg (by simp [h0]), han]
                    rw [hrd] at hSn
                    have HX := hideIt (And.intro hnx (And.intro hM (And.intro hSn (And.intro hOn (And.intro hde (And.intro hR hG))))))
                    clear hnx hM hSn hSa hOn hOk hde hR hG hfo hq hQ hQs f han hrd hX hMS hMSs hLG hpre hPX hcond hsd hRD hl4
                    go_wp2
                    go_quiet (fail)
                    go_wp2
                    go_roundw
                    case rel => exact ⟨j + 1, _, d', by omega, by go_num, HX.out.1, HX.out.2.1.drewN _, HX.out.2.2.1, HX.out.2.2.2.1, HX.out.2.2.2.2.1, HX.out.2.2.2.2.2.1, ⟨HX.out.2.2.2.2.2.2.os, HX.out.2.2.2.2.2.2.tape, HX.out.2.2.2.2.2.2.output, HX.out.2.2.2.2.2.2.size, HX.out.2.2.2.2.2.2.block⟩⟩
                    case measure => simp [intOf]; omega
            · have hs2 : ((sd.toNat : Int) == 2) = false := toNat_ne (c := 2) h2
              by_cases h1 : sd = 1
              · subst h1
                by_cases hle : q.length = longD X
                · have han : answerToH d'.msg q = some (true, q.drop 4) := by
                    unfold answerToH
                    rw [if_pos hcond, if_pos ⟨hsd, by rw [hLG]; exact hle⟩]
                  by_cases hx3 : X = 3
                  · subst hx3
                    replace c7 : wr.cell? ⟨hb, 7, none⟩ = some (.int .i64 3) := c7
                    have hlg : longD 3 = 68 := rfl
                    rw [hlg] at hle
                    have hQe : (Q.size : Int) = 68 := by omega
                    have hrd : rhearsD d' q = rtakesD d' true (q.drop 4) := by unfold rhearsD; rw [if_neg (by simp [h0]), han]
                    rw [hrd] at hSn
                    have HT : Hid (∀ n, Calls Tryz.prog 87 #[.pointer (some ⟨hb, 0, none⟩), .bool true, .string (txt (q.drop 4))] (wr.drewN n) fun e w' => e = .returned (.tuple #[]) ∧ RHM w' hb wb bb (rtakesD d' true (q.drop 4)) ∧ wr.grownBy w' (some hb)) := fun n => (rtakes_any hb wb bb h' d' q true (q.drop 4) _ (hM.drewN n) hSa f han).mono fun e w' ⟨p1, p2, p3⟩ => ⟨p1, p2, grown_of_drewN p3⟩
                    have hde2 : (rtakesD d' true (q.drop 4)).ear = d'.ear := rtakes_ear _ _ _
                    have HX := hideIt (And.intro hnx (And.intro hSn (And.intro hOn (And.intro (hde2.trans hde) (And.intro hR hG)))))
                    rw [hRD] at HT
                    clear hnx hM hSn hSa hOn hOk hde hR hG hfo hq hQ hQs f han hrd hde2 hX hMS hMSs hLG hpre hPX hcond hsd hRD hle hlg
                    go_wp2
                    go_quiet (fail)
                    go_wp2_with fail
                    refine (HT.out _).mono ?_
                    rintro e w2 ⟨rfl, p1, p2⟩
                    have HW := hideIt (And.intro p1 p2)
                    clear p1 p2
                    go_wp2
                    go_roundw
                    case rel => exact ⟨j + 1, _, _, by omega, by go_num, HX.out.1, HW.out.1, HX.out.2.1, HX.out.2.2.1, HX.out.2.2.2.1, grown_rowB HX.out.2.2.2.2.1 HW.out.2 hlt, HX.out.2.2.2.2.2.trans HW.out.2⟩
                    case measure => simp [intOf]; omega
                  · have hn3 : ((X : Int) == 3) = false := by simp; omega
                    by_cases hx4 : X = 4
                    · subst hx4
                      replace c7 : wr.cell? ⟨hb, 7, none⟩ = some (.int .i64 4) := c7
                      have hlg : longD 4 = 6 := rfl
                      rw [hlg] at hle
                      have hQe : (Q.size : Int) = 6 := by omega
                      have hrd : rhearsD d' q = rtakesD d' true (q.drop 4) := by unfold rhearsD; rw [if_neg (by simp [h0]), han]
                      rw [hrd] at hSn
                      have HT : Hid (∀ n, Calls Tryz.prog 87 #[.pointer (some ⟨hb, 0, none⟩), .bool true, .string (txt (q.drop 4))] (wr.drewN n) fun e w' => e = .returned (.tuple #[]) ∧ RHM w' hb wb bb (rtakesD d' true (q.drop 4)) ∧ wr.grownBy w' (some hb)) := fun n => (rtakes_any hb wb bb h' d' q true (q.drop 4) _ (hM.drewN n) hSa f han).mono fun e w' ⟨p1, p2, p3⟩ => ⟨p1, p2, grown_of_drewN p3⟩
                      have hde2 : (rtakesD d' true (q.drop 4)).ear = d'.ear := rtakes_ear _ _ _
                      have HX := hideIt (And.intro hnx (And.intro hSn (And.intro hOn (And.intro (hde2.trans hde) (And.intro hR hG)))))
                      rw [hRD] at HT
                      clear hnx hM hSn hSa hOn hOk hde hR hG hfo hq hQ hQs f han hrd hde2 hX hMS hMSs hLG hpre hPX hcond hsd hRD hle hlg
                      go_wp2
                      go_quiet (fail)
                      go_wp2_with fail
                      refine (HT.out _).mono ?_
                      rintro e w2 ⟨rfl, p1, p2⟩
                      have HW := hideIt (And.intro p1 p2)
                      clear p1 p2
                      go_wp2
                      go_roundw
                      case rel => exact ⟨j + 1, _, _, by omega, by go_num, HX.out.1, HW.out.1, HX.out.2.1, HX.out.2.2.1, HX.out.2.2.2.1, grown_rowB HX.out.2.2.2.2.1 HW.out.2 hlt, HX.out.2.2.2.2.2.trans HW.out.2⟩
                      case measure => simp [intOf]; omega
                    · have hn4 : ((X : Int) == 4) = false := by simp; omega
                      have hlg : longD X = 4 := by unfold longD; rw [if_neg hx3, if_neg hx4]
                      rw [hlg] at hle
                      have hQe : (Q.size : Int) = 4 := by omega
                      have hrd : rhearsD d' q = rtakesD d' true (q.drop 4) := by unfold rhearsD; rw [if_neg (by simp [h0]), han]
                      rw [hrd] at hSn
                      have HT : Hid (∀ n, Calls Tryz.prog 87 #[.pointer (some ⟨hb, 0, none⟩), .bool true, .string (txt (q.drop 4))] (wr.drewN n) fun e w' => e = .returned (.tuple #[]) ∧ RHM w' hb wb bb (rtakesD d' true (q.drop 4)) ∧ wr.grownBy w' (some hb)) := fun n => (rtakes_any hb wb bb h' d' q true (q.drop 4) _ (hM.drewN n) hSa f han).mono fun e w' ⟨p1, p2, p3⟩ => ⟨p1, p2, grown_of_drewN p3⟩
                      have hde2 : (rtakesD d' true (q.drop 4)).ear = d'.ear := rtakes_ear _ _ _
                      have HX := hideIt (And.intro hnx (And.intro hSn (And.intro hOn (And.intro (hde2.trans hde) (And.intro hR hG)))))
                      rw [hRD] at HT
                      clear hnx hM hSn hSa hOn hOk hde hR hG hfo hq hQ hQs f han hrd hde2 hX hMS hMSs hLG hpre hPX hcond hsd hRD hle hlg
                      go_wp2
                      go_quiet (fail)
                      go_wp2_with fail
                      refine (HT.out _).mono ?_
                      rintro e w2 ⟨rfl, p1, p2⟩
                      have HW := hideIt (And.intro p1 p2)
                      clear p1 p2
                      go_wp2
                      go_roundw
                      case rel => exact ⟨j + 1, _, _, by omega, by go_num, HX.out.1, HW.out.1, HX.out.2.1, HX.out.2.2.1, HX.out.2.2.2.1, grown_rowB HX.out.2.2.2.2.1 HW.out.2 hlt, HX.out.2.2.2.2.2.trans HW.out.2⟩
                      case measure => simp [intOf]; omega
                · have han : answerToH d'.msg q = none := by
                    unfold answerToH
                    rw [if_pos hcond, if_neg (fun e => hle (by rw [← hLG]; exact e.2)), if_neg (fun e => by rw [hsd] at e; exact absurd e.1 (by decide))]
                  by_cases hx3 : X = 3
                  · subst hx3
                    replace c7 : wr.cell? ⟨hb, 7, none⟩ = some (.int .i64 3) := c7
                    have hlg : longD 3 = 68 := rfl
                    rw [hlg] at hle
                    have hQe : ((Q.size : Int) == 68) = false := by simp; omega
                    have hrd : rhearsD d' q = d' := by unfold rhearsD; rw [if_neg (by simp [h0]), han]
                    rw [hrd] at hSn
                    have HX := hideIt (And.intro hnx (And.intro hM (And.intro hSn (And.intro hOn (And.intro hde (And.intro hR hG))))))
                    clear hnx hM hSn hSa hOn hOk hde hR hG hfo hq hQ hQs f han hrd hX hMS hMSs hLG hpre hPX hcond hsd hRD hle hlg
                    go_wp2
                    go_quiet (fail)
                    go_wp2
                    go_roundw
                    case rel => exact ⟨j + 1, _, d', by omega, by go_num, HX.out.1, HX.out.2.1.drewN _, HX.out.2.2.1, HX.out.2.2.2.1, HX.out.2.2.2.2.1, HX.out.2.2.2.2.2.1, ⟨HX.out.2.2.2.2.2.2.os, HX.out.2.2.2.2.2.2.tape, HX.out.2.2.2.2.2.2.output, HX.out.2.2.2.2.2.2.size, HX.out.2.2.2.2.2.2.block⟩⟩
                    case measure => simp [intOf]; omega
                  · have hn3 : ((X : Int) == 3) = false := by simp; omega
                    by_cases hx4 : X = 4
                    · subst hx4
                      replace c7 : wr.cell? ⟨hb, 7, none⟩ = some (.int .i64 4) := c7
                      have hlg : longD 4 = 6 := rfl
                      rw [hlg] at hle
                      have hQe : ((Q.size : Int) == 6) = false := by simp; omega
                      have hrd : rhearsD d' q = d' := by unfold rhearsD; rw [if_neg (by simp [h0]), han]
                      rw [hrd] at hSn
                      have HX := hideIt (And.intro hnx (And.intro hM (And.intro hSn (And.intro hOn (And.intro hde (And.intro hR hG))))))
                      clear hnx hM hSn hSa hOn hOk hde hR hG hfo hq hQ hQs f han hrd hX hMS hMSs hLG hpre hPX hcond hsd hRD hle hlg
                      go_wp2
                      go_quiet (fail)
                      go_wp2
                      go_roundw
                      case rel => exact ⟨j + 1, _, d', by omega, by go_num, HX.out.1, HX.out.2.1.drewN _, HX.out.2.2.1, HX.out.2.2.2.1, HX.out.2.2.2.2.1, HX.out.2.2.2.2.2.1, ⟨HX.out.2.2.2.2.2.2.os, HX.out.2.2.2.2.2.2.tape, HX.out.2.2.2.2.2.2.output, HX.out.2.2.2.2.2.2.size, HX.out.2.2.2.2.2.2.block⟩⟩
                      case measure => simp [intOf]; omega
                    · have hn4 : ((X : Int) == 4) = false := by simp; omega
                      have hlg : longD X = 4 := by unfold longD; rw [if_neg hx3, if_neg hx4]
                      rw [hlg] at hle
                      have hQe : ((Q.size : Int) == 4) = false := by simp; omega
                      have hrd : rhearsD d' q = d' := by unfold rhearsD; rw [if_neg (by simp [h0]), han]
                      rw [hrd] at hSn
                      have HX := hideIt (And.intro hnx (And.intro hM (And.intro hSn (And.intro hOn (And.intro hde (And.intro hR hG))))))
                      clear hnx hM hSn hSa hOn hOk hde hR hG hfo hq hQ hQs f han hrd hX hMS hMSs hLG hpre hPX hcond hsd hRD hle hlg
                      go_wp2
                      go_quiet (fail)
                      go_wp2
                      go_roundw
                      case rel => exact ⟨j + 1, _, d', by omega, by go_num, HX.out.1, HX.out.2.1.drewN _, HX.out.2.2.1, HX.out.2.2.2.1, HX.out.2.2.2.2.1, HX.out.2.2.2.2.2.1, ⟨HX.out.2.2.2.2.2.2.os, HX.out.2.2.2.2.2.2.tape, HX.out.2.2.2.2.2.2.output, HX.out.2.2.2.2.2.2.size, HX.out.2.2.2.2.2.2.block⟩⟩
                      case measure => simp [intOf]; omega
              · have hs1 : ((sd.toNat : Int) == 1) = false := toNat_ne (c := 1) h1
                have han : answerToH d'.msg q = none := by
                  unfold answerToH
                  rw [if_pos hcond, if_neg (fun e => h1 (hsd.symm.trans e.1)), if_neg (fun e => h2 (hsd.symm.trans e.1))]
                by_cases hx3 : X = 3
                · subst hx3
                  replace c7 : wr.cell? ⟨hb, 7, none⟩ = some (.int .i64 3) := c7
                  have hrd : rhearsD d' q = d' := by unfold rhearsD; rw [if_neg (by simp [h0]), han]
                  rw [hrd] at hSn
                  have HX := hideIt (And.intro hnx (And.intro hM (And.intro hSn (And.intro hOn (And.intro hde (And.intro hR hG))))))
                  clear hnx hM hSn hSa hOn hOk hde hR hG hfo hq hQ hQs f han hrd hX hMS hMSs hLG hpre hPX hcond hsd hRD
                  go_wp2
                  go_quiet (fail)
                  go_wp2
                  go_roundw
                  case rel => exact ⟨j + 1, _, d', by omega, by go_num, HX.out.1, HX.out.2.1.drewN _, HX.out.2.2.1, HX.out.2.2.2.1, HX.out.2.2.2.2.1, HX.out.2.2.2.2.2.1, ⟨HX.out.2.2.2.2.2.2.os, HX.out.2.2.2.2.2.2.tape, HX.out.2.2.2.2.2.2.output, HX.out.2.2.2.2.2.2.size, HX.out.2.2.2.2.2.2.block⟩⟩
                  case measure => simp [intOf]; omega
                · have hn3 : ((X : Int) == 3) = false := by simp; omega
                  by_cases hx4 : X = 4
                  · subst hx4
                    replace c7 : wr.cell? ⟨hb, 7, none⟩ = some (.int .i64 4) := c7
                    have hrd : rhearsD d' q = d' := by unfold rhearsD; rw [if_neg (by simp [h0]), han]
                    rw [hrd] at hSn
                    have HX := hideIt (And.intro hnx (And.intro hM (And.intro hSn (And.intro hOn (And.intro hde (And.intro hR hG))))))
                    clear hnx hM hSn hSa hOn hOk hde hR hG hfo hq hQ hQs f han hrd hX hMS hMSs hLG hpre hPX hcond hsd hRD
                    go_wp2
                    go_quiet (fail)
                    go_wp2
                    go_roundw
                    case rel => exact ⟨j + 1, _, d', by omega, by go_num, HX.out.1, HX.out.2.1.drewN _, HX.out.2.2.1, HX.out.2.2.2.1, HX.out.2.2.2.2.1, HX.out.2.2.2.2.2.1, ⟨HX.out.2.2.2.2.2.2.os, HX.out.2.2.2.2.2.2.tape, HX.out.2.2.2.2.2.2.output, HX.out.2.2.2.2.2.2.size, HX.out.2.2.2.2.2.2.block⟩⟩
                    case measure => simp [intOf]; omega
                  · have hn4 : ((X : Int) == 4) = false := by simp; omega
                    have hrd : rhearsD d' q = d' := by unfold rhearsD; rw [if_neg (by simp [h0]), han]
                    rw [hrd] at hSn
                    have HX := hideIt (And.intro hnx (And.intro hM (And.intro hSn (And.intro hOn (And.intro hde (And.intro hR hG))))))
                    clear hnx hM hSn hSa hOn hOk hde hR hG hfo hq hQ hQs f han hrd hX hMS hMSs hLG hpre hPX hcond hsd hRD
                    go_wp2
                    go_quiet (fail)
                    go_wp2
                    go_roundw
                    case rel => exact ⟨j + 1, _, d', by omega, by go_num, HX.out.1, HX.out.2.1.drewN _, HX.out.2.2.1, HX.out.2.2.2.1, HX.out.2.2.2.2.1, HX.out.2.2.2.2.2.1, ⟨HX.out.2.2.2.2.2.2.os, HX.out.2.2.2.2.2.2.tape, HX.out.2.2.2.2.2.2.output, HX.out.2.2.2.2.2.2.size, HX.out.2.2.2.2.2.2.block⟩⟩
                    case measure => simp [intOf]; omega
          · have han : answerToH d'.msg q = none := by unfold answerToH; rw [if_neg (fun e => hpre e.2)]
            have hrd : rhearsD d' q = d' := by unfold rhearsD; rw [if_neg (by simp [h0]), han]
            rw [hrd] at hSn
            have hne := txt_neR hpre
            obtain ⟨PX, hPX⟩ : ∃ PX, txt (q.take 3) = PX := ⟨_, rfl⟩
            obtain ⟨PY, hPY⟩ : ∃ PY, txt (d'.msg.take 3) = PY := ⟨_, rfl⟩
            rw [hPX] at hne hQt
            rw [hPY] at hne hMt
            have HX := hideIt (And.intro hnx (And.intro hM (And.intro hSn (And.intro hOn (And.intro hde (And.intro hR hG))))))
            clear hnx hM hSn hSa hOn hOk hde hR hG hfo hq hQ hQs f han hrd hX hMS hMSs hLG hpre hPX hPY
            go_wp2
            go_quiet (fail)
            go_wp2
            go_roundw
            case rel => exact ⟨j + 1, _, d', by omega, by go_num, HX.out.1, HX.out.2.1.drewN _, HX.out.2.2.1, HX.out.2.2.2.1, HX.out.2.2.2.2.1, HX.out.2.2.2.2.2.1, ⟨HX.out.2.2.2.2.2.2.os, HX.out.2.2.2.2.2.2.tape, HX.out.2.2.2.2.2.2.output, HX.out.2.2.2.2.2.2.size, HX.out.2.2.2.2.2.2.block⟩⟩
            case measure => simp [intOf]; omega
      · have hrd : rhearsD d' q = d' := by unfold rhearsD; rw [if_pos h0]
        rw [hrd] at hSn
        obtain ⟨X, hX⟩ : ∃ X, d'.state = X := ⟨_, rfl⟩
        rw [hX] at c12 h0 hst
        have hX0 : ((X : Int) == 0) = false := by simp; omega
        have hX1 : ((X : Int) != 0) = true := by simp; omega
        have HX := hideIt (And.intro hnx (And.intro hM (And.intro hSn (And.intro hOn (And.intro hde (And.intro hR hG))))))
        clear hnx hM hSn hSa hOn hOk hde hR hG hfo hq hQ hrd hX hQs
        go_wp2
        go_quiet (fail)
        go_wp2
        go_roundw
        case rel => exact ⟨j + 1, _, d', by omega, by go_num, HX.out.1, HX.out.2.1.drewN _, HX.out.2.2.1, HX.out.2.2.2.1, HX.out.2.2.2.2.1, HX.out.2.2.2.2.2.1, ⟨HX.out.2.2.2.2.2.2.os, HX.out.2.2.2.2.2.2.tape, HX.out.2.2.2.2.2.2.output, HX.out.2.2.2.2.2.2.size, HX.out.2.2.2.2.2.2.block⟩⟩
        case measure => simp [intOf]; omega
    · have hje : j = qs.length := by omega
      have hji : ¬ (j : Int) < (qs.length : Int) := by omega
      rw [hje, List.take_length] at hfo
      have HX := hideIt (And.intro hfo (And.intro hM (And.intro hSa (And.intro hde hG))))
      clear hfo hM hSa hOk hde hG hR hje
      go_wp2
      go_end0
      exact ⟨rfl, ⟨d', HX.out.2.1, by rw [HF.out, HX.out.1]; exact HX.out.2.2.1, HX.out.2.2.2.1⟩, HX.out.2.2.2.2⟩
end Go.Proofs.YthokdbcpkmcieaaGreat
