/- The walk of the document's hears: what comes next; all of it. -/
import Derived.Test.YthokdbcpkmcieaaGreatRBoC
namespace Go.Proofs.YthokdbcpkmcieaaGreat
open Go Go.RowKit
attribute [local go_sem ↓] Go.wp_at_zero Go.wp_at_succ
theorem rdoF_out (p : Pow) (m : List UInt8) (a : UInt8) (rest : List UInt8) : 1 ≤ (doF p m a rest).2.length ∧ (doF p m a rest).2.length ≤ 65 := by
  unfold doF
  repeat' split
  all_goals simp
  rename_i h
  have : (pageF m (rest.getD 0 0).toNat).length ≤ 64 := by unfold pageF; rw [List.length_take]; omega
  simpa using this
set_option maxRecDepth 100000 in
set_option maxHeartbeats 8000000 in
/-- The next number: it is done. -/
theorem rhears_do (rb fb jb : Nat) (p : Pow) (mem : List UInt8) (r : REar) (t : RTk) (q : List UInt8) (k : Nat) (w : World) (h : RBd w rb fb jb true p mem r t) (ha : askOk q = true) (h3 : q.getD 3 0 ≠ 1) (hk : t.kn = true) (hs : t.ses = q.take 2) (hn2 : (q.getD 2 0).toNat = (t.last + 1) % 256) (hu : Used mem k)
    (d : (Pow × List UInt8 × Bool) × List UInt8) (hd : doF p mem (q.getD 3 0) (q.drop 4) = d) :
    Calls Tryz.prog 80 #[.pointer (some ⟨rb, 0, none⟩), .string (txt q)] w fun e w' => e = .returned (.string (if d.1.2.2 = true then txt (frameF (q.take 3 ++ d.2)) else ⟨#[]⟩)) ∧ RBd w' rb fb jb d.1.2.2 (if d.1.2.2 = true then d.1.1 else pow0) d.1.2.1 r ⟨true, t.ses, (q.getD 2 0).toNat, if d.1.2.2 = true then frameF (q.take 3 ++ d.2) else []⟩ ∧ G3 w w' rb fb jb := by
  obtain ⟨hl4, hl⟩ := ask_len.2 ha
  obtain ⟨S, hS⟩ : ∃ S, txt q = S := ⟨_, rfl⟩
  have hsz : S.size = q.length := by rw [← hS, txt_size]
  have hql := asksF_le (q.getD 3 0)
  have h3S : 3 < S.size := by omega
  have h2S : 2 < S.size := by omega
  have HD := hideIt (fun w' (h' : RSto w' rb fb jb true p mem) => rdoes_any rb fb jb p mem q k w' h' hu ha)
  rw [hd] at HD
  have hdo := rdoF_out p mem (q.getD 3 0) (q.drop 4)
  rw [hd] at hdo
  obtain ⟨x, hx⟩ : ∃ x, q.getD 3 0 = x := ⟨_, rfl⟩
  obtain ⟨nu, hnu⟩ : ∃ nu, q.getD 2 0 = nu := ⟨_, rfl⟩
  have hS3 : S[3] = x := (txt_at hS h3S).trans hx
  have hS2 : S[2] = nu := (txt_at hS h2S).trans hnu
  have hxl := x.toNat_lt
  have hnl := nu.toNat_lt
  have HA := hideIt (fun w' => rasks_any x w')
  rw [hx] at hl h3 hql
  rw [hnu] at hn2 ⊢
  obtain ⟨n, hn⟩ : ∃ n, asksF x = n := ⟨_, rfl⟩
  rw [hn] at HA hl hql
  have hSn : (S.size : Int) = (n : Int) := by omega
  have hSi : (S.size : Int) ≤ 69 := by omega
  have h4i : (4 : Int) ≤ (S.size : Int) := by omega
  have h1 : ((x.toNat : Int) == 1) = false := toNat_ne h3
  have hT2 := txt_take hS 2
  have hT3 := txt_take hS 3
  have c2 := h.sto.c2
  have c7 := h.c7
  have c8 := h.c8
  have c9 := h.c9
  have c10 := h.c10
  have hll := h.ll
  have f9 := h.sto.fz rb 9 (.inl rfl)
  have f10 := h.sto.fz rb 10 (.inl rfl)
  have hrl := h.sto.lt.1
  have HR4 : Hid (∀ m, RBd (((w.drewN m).setCell ⟨rb, 9, none⟩ (.int .i64 (nu.toNat : Int))).setCell ⟨rb, 10, none⟩ (.string ⟨#[]⟩)) rb fb jb true p mem r ⟨t.kn, t.ses, nu.toNat, []⟩ ∧ G3 w (((w.drewN m).setCell ⟨rb, 9, none⟩ (.int .i64 (nu.toNat : Int))).setCell ⟨rb, 10, none⟩ (.string ⟨#[]⟩)) rb fb jb) := fun m =>
    ⟨((h.kept (w' := w.drewN m) (fun _ _ => rfl) (Nat.le_refl _)).setLast nu.toNat (by omega)).setAns [] (by simp), ((G3.refl w rb fb jb).drewN m).trans ((G3.set _ rb fb jb 9 (.int .i64 (nu.toNat : Int))).trans (G3.set _ rb fb jb 10 (.string (txt []))))⟩
  rw [hs] at c8
  rw [hk] at c7 HR4
  have hl3 : (q.take 3 ++ d.2).length ≤ 68 ∧ 1 ≤ (q.take 3 ++ d.2).length := by rw [List.length_append, List.length_take]; omega
  have HFm : Hid (∀ w', Calls Tryz.prog 17 #[.string (txt (q.take 3) ++ txt d.2)] w' fun e w'' => e = .returned (.tuple #[.string (txt (frameF (q.take 3 ++ d.2))), .int .i64 0]) ∧ Below w'.heap.size w' w'') := fun w' => by
    have := rframe_any (txt (q.take 3 ++ d.2)) w' (by rw [txt_size]; omega) (by rw [txt_size]; omega)
    rw [txt_toList] at this
    rw [txt_append]
    exact this
  have hfl := frameF_len (q.take 3 ++ d.2)
  have hs3 : (txt (q.take 3)).size = 3 := by rw [txt_size, List.length_take]; omega
  have hs1 : (txt d.2).size = d.2.length := txt_size _
  have hsd : ((txt d.2).size : Int) ≤ 65 := by omega
  have hz1 := isEmpty_no (txt d.2) (by rw [hs1]; omega)
  have hni : ((nu.toNat : Int) == (t.last : Int)) = false := by simp; omega
  obtain ⟨la, hla⟩ : ∃ la, t.last = la := ⟨_, rfl⟩
  have hremT : Int.tmod ((la : Int) + 1) 256 = (nu.toNat : Int) := by rw [Int.tmod_eq_emod_of_nonneg (by omega)]; omega
  have hrem : ((la : Int) + 1) % 256 = (nu.toNat : Int) := by omega
  obtain ⟨S2, hS2'⟩ : ∃ S2, txt (q.take 2) = S2 := ⟨_, rfl⟩
  obtain ⟨S3, hS3'⟩ : ∃ S3, txt (q.take 3) = S3 := ⟨_, rfl⟩
  obtain ⟨F, hF⟩ : ∃ F, frameF (q.take 3 ++ d.2) = F := ⟨_, rfl⟩
  obtain ⟨FT, hFT⟩ : ∃ FT, txt F = FT := ⟨_, rfl⟩
  obtain ⟨dd, Y⟩ := d
  obtain ⟨YT, hYT⟩ : ∃ YT, txt Y = YT := ⟨_, rfl⟩
  simp only at hF HFm hfl hs1 hsd hz1 HD ⊢
  rw [hS2'] at c8 hT2
  rw [hS3'] at HFm hT3 hs3
  rw [hF] at HFm hfl ⊢
  rw [hFT] at HFm ⊢
  rw [hYT] at HFm hs1 hsd hz1
  rw [hla] at c9 hni hll
  rw [hS] at HD ⊢
  have HFT := hideIt (And.intro hFT (And.intro hfl.2 hl3.1))
  have HYT := hideIt hYT
  have HSZ := hideIt hSn
  clear h hS hsz ha hl4 hl hx hnu h3 hn hS2' hS3' hF hFT hfl hs hk hn2 hla hd hdo hl3 hu hs1 hYT
  obtain ⟨p2, m2, ok⟩ := dd
  cases ok
  · simp only [Bool.false_eq_true, if_false] at HD ⊢
    go_enter Tryz.func80, Tryz.ntmps80
    go_wp2_with fail
    refine (HA.out _).mono ?_
    rintro e w1 ⟨rfl, rfl⟩
    go_wp2
    go_quiet (fail)
    go_wp2_with fail
    refine (HD.out _ (HR4.out _).1.sto).mono ?_
    rintro e w2 ⟨rfl, hst, hK⟩
    have HR5 := hideIt (And.intro ((HR4.out _).1.k3 hst hK) ((HR4.out _).2.trans hK.g3))
    clear hst hK
    have he2 : txt [] = (⟨#[]⟩ : ByteArray) := rfl
    rw [he2]
    go_wp2
    go_ret
    exact ⟨rfl, HR5.out.1, HR5.out.2⟩
  · simp only [if_true] at HD ⊢
    go_enter Tryz.func80, Tryz.ntmps80
    go_wp2_with fail
    refine (HA.out _).mono ?_
    rintro e w1 ⟨rfl, rfl⟩
    go_wp2
    go_quiet (fail)
    go_wp2_with fail
    refine (HD.out _ (HR4.out _).1.sto).mono ?_
    rintro e w2 ⟨rfl, hst, hK⟩
    have HR5 := hideIt (And.intro ((HR4.out _).1.k3 hst hK) ((HR4.out _).2.trans hK.g3))
    clear hst hK
    rw [HYT.out]
    go_wp2_with fail
    refine (HFm.out _).mono ?_
    rintro e w3 ⟨rfl, hB3⟩
    have HR6 := hideIt (And.intro (HR5.out.1.below hB3) (HR5.out.2.trans (G3.of_below rb fb jb hB3)))
    clear hB3 HR5
    have d10 := HR6.out.1.c10
    have g10 := HR6.out.1.sto.fz rb 10 (.inl rfl)
    have hrl3 := HR6.out.1.sto.lt.1
    clear c7 c8 c9 c10 f9 f10 hrl
    go_wp2
    go_ret
    refine ⟨rfl, ?_, HR6.out.2.trans (G3.set _ _ _ _ _ _)⟩
    have := HR6.out.1.setAns F (by have := HFT.out.2; omega)
    rw [HFT.out.1] at this
    exact this
theorem two_of {l : List UInt8} (h : l.length = 2) : ∃ a b, l = [a, b] := by
  match l, h with
  | [a, b], _ => exact ⟨a, b, rfl⟩
/-- Two bytes make a session. -/
theorem ses_eq {a b : List UInt8} (ha : a.length = 2) (hb : b.length = 2) (h : sesOf a = sesOf b) : a = b := by
  obtain ⟨a0, a1, rfl⟩ := two_of ha
  obtain ⟨b0, b1, rfl⟩ := two_of hb
  · · have h0 := a0.toNat_lt
      have h1 := a1.toNat_lt
      have h2 := b0.toNat_lt
      have h3 := b1.toNat_lt
      simp only [sesOf, List.getD_eq_getElem?_getD] at h
      simp at h
      have e0 : a0 = b0 := UInt8.toNat_inj.1 (by omega)
      have e1 : a1 = b1 := UInt8.toNat_inj.1 (by omega)
      rw [e0, e1]
theorem ses_take {q : List UInt8} (h : 2 ≤ q.length) : sesOf (q.take 2) = sesOf q := by
  match q, h with
  | a :: b :: l, _ => rfl
theorem num_next (a b : UInt8) : a = b + 1 ↔ a.toNat = (b.toNat + 1) % 256 := by
  rw [← UInt8.toNat_inj, UInt8.toNat_add]
  rfl
/-- A message to the document's board: as the plain board answers. -/
theorem rhears_any (rb fb jb : Nat) (p : Pow) (mem : List UInt8) (r : REar) (t : Talk) (rt : RTk) (q : List UInt8) (k : Nat) (w : World) (h : RBd w rb fb jb true p mem r rt) (hs : SameT t rt) (hu : Used mem k) (hq : q.length ≤ 1000) (a : Pow × List UInt8 × Talk × List UInt8 × Bool) (hA : answerF p mem t q = a) :
    Calls Tryz.prog 80 #[.pointer (some ⟨rb, 0, none⟩), .string (txt q)] w fun e w' => e = .returned (.string (txt a.2.2.2.1)) ∧ (∃ rt', RBd w' rb fb jb a.2.2.2.2 (if a.2.2.2.2 = true then a.1 else pow0) a.2.1 r rt' ∧ (a.2.2.2.2 = true → SameT a.2.2.1 rt')) ∧ G3 w w' rb fb jb := by
  have he : txt [] = (⟨#[]⟩ : ByteArray) := rfl
  unfold answerF at hA
  by_cases ha : askOk q = false
  · rw [if_pos ha] at hA
    subst hA
    exact (rhears_none rb fb jb p mem q w h.sto ha hq).mono fun e w' ⟨h1, h2⟩ => by subst h2; exact ⟨h1, ⟨rt, h, fun _ => hs⟩, G3.refl _ _ _ _⟩
  rw [if_neg ha] at hA
  have ha' : askOk q = true := by simpa using ha
  have hl4 := (ask_len.2 ha').1
  by_cases h1 : q.getD 3 0 = 1
  · have hl : q.length = 4 := by have := (ask_len.2 ha').2; rw [h1] at this; exact this
    rw [if_neg (fun e => e.1 h1), if_neg (fun e => e.1 h1), if_neg (fun e => e.1 h1)] at hA
    have hd : doF p mem (q.getD 3 0) (q.drop 4) = ((p, mem, true), [1]) := by rw [h1]; rfl
    rw [h1] at hd
    simp only [h1, if_true, hd] at hA
    subst hA
    exact (rhears_open rb fb jb p mem r rt q w h h1 hl).mono fun e w' ⟨e1, e2, e3⟩ => ⟨e1, ⟨_, e2, fun _ => ⟨rfl, fun _ => ⟨by rw [List.length_take]; omega, ses_take (by omega), rfl, rfl⟩⟩⟩, e3⟩
  · by_cases h2 : t.opn = false ∨ sesOf q ≠ t.ses
    · rw [if_pos ⟨h1, h2⟩] at hA
      subst hA
      have hno : rt.kn = false ∨ rt.ses ≠ q.take 2 := by
        cases ho : t.opn
        · left; rw [hs.1]; exact ho
        · right
          rcases h2 with h2 | h2
          · rw [ho] at h2; cases h2
          · intro e
            obtain ⟨_, g2, _⟩ := hs.2 ho
            rw [e, ses_take (by omega)] at g2
            exact h2 g2
      exact (rhears_shut rb fb jb p mem r rt q w h ha' h1 hno).mono fun e w' ⟨e1, m, e2⟩ => by subst e2; exact ⟨e1, ⟨rt, h.kept (fun _ _ => rfl) (Nat.le_refl _), fun _ => hs⟩, (G3.refl _ _ _ _).drewN m⟩
    rw [if_neg (fun e => h2 e.2)] at hA
    have ho : t.opn = true := by
      cases ho : t.opn
      · exact absurd (.inl ho) h2
      · rfl
    have hses : sesOf q = t.ses := Classical.byContradiction fun e => h2 (.inr e)
    obtain ⟨g1, g2, g3, g4⟩ := hs.2 ho
    have hkn : rt.kn = true := by rw [hs.1]; exact ho
    have hse : rt.ses = q.take 2 := ses_eq g1 (by rw [List.length_take]; omega) (by rw [g2, ses_take (by omega)]; exact hses.symm)
    by_cases h5 : q.getD 2 0 = t.num
    · rw [if_pos ⟨h1, h5⟩] at hA
      subst hA
      have hn : (q.getD 2 0).toNat = rt.last := by rw [g3, h5]
      refine (rhears_old rb fb jb p mem r rt q w h ha' h1 hkn hse (.inl hn)).mono fun e w' ⟨e1, m, e2⟩ => ?_
      subst e2
      rw [if_pos hn, g4] at e1
      exact ⟨e1, ⟨rt, h.kept (fun _ _ => rfl) (Nat.le_refl _), fun _ => hs⟩, (G3.refl _ _ _ _).drewN m⟩
    rw [if_neg (fun e => h5 e.2)] at hA
    have hnn : (q.getD 2 0).toNat ≠ rt.last := fun e => h5 (UInt8.toNat_inj.1 (e.trans g3))
    by_cases h6 : q.getD 2 0 ≠ t.num + 1
    · rw [if_pos ⟨h1, h6⟩] at hA
      subst hA
      refine (rhears_old rb fb jb p mem r rt q w h ha' h1 hkn hse (.inr (fun e => h6 ((num_next _ _).2 (by rw [g3] at e; exact e))))).mono fun e w' ⟨e1, m, e2⟩ => ?_
      subst e2
      rw [if_neg hnn] at e1
      exact ⟨e1, ⟨rt, h.kept (fun _ _ => rfl) (Nat.le_refl _), fun _ => hs⟩, (G3.refl _ _ _ _).drewN m⟩
    rw [if_neg (fun e => h6 e.2)] at hA
    have h6' : q.getD 2 0 = t.num + 1 := Classical.byContradiction h6
    obtain ⟨d, hd⟩ : ∃ d, doF p mem (q.getD 3 0) (q.drop 4) = d := ⟨_, rfl⟩
    simp only [hd, if_neg h1] at hA
    refine (rhears_do rb fb jb p mem r rt q k w h ha' h1 hkn hse (by rw [g3]; exact (num_next _ _).1 h6') hu d hd).mono fun e w' ⟨e1, e2, e3⟩ => ?_
    obtain ⟨⟨p2, m2, ok⟩, out⟩ := d
    cases ok
    · simp only [Bool.false_eq_true, if_false] at hA e1 e2
      subst hA
      exact ⟨e1, ⟨_, e2, fun e => by cases e⟩, e3⟩
    · simp only [if_true] at hA e1 e2
      subst hA
      exact ⟨e1, ⟨_, e2, fun _ => ⟨ho.symm, fun _ => ⟨g1, g2, rfl, rfl⟩⟩⟩, e3⟩
end Go.Proofs.YthokdbcpkmcieaaGreat
