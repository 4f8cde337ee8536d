/- The document's board: Hear, NewBoard, Cut, Boot, On, Flash. -/
import Derived.Test.YthokdbcpkmcieaaGreatBoJ
import Derived.Test.YthokdbcpkmcieaaGreatBoG
import Derived.Test.YthokdbcpkmcieaaGreatBoF
namespace Go.Proofs.YthokdbcpkmcieaaGreat
open Go Go.RowKit
attribute [local go_sem ↓] Go.wp_at_zero Go.wp_at_succ
/-- The two boards know the same of those who speak to them. -/
def SameT (t : Talk) (r : RTk) : Prop := r.kn = t.opn ∧ (t.opn = true → r.ses.length = 2 ∧ sesOf r.ses = t.ses ∧ r.last = t.num.toNat ∧ r.ans = t.ans)
theorem isEmpty_no (r : ByteArray) (h : 0 < r.size) : r.toList.isEmpty = false := by
  rw [ByteArray.toList_eq]
  cases hr : r.data.toList with
  | nil =>
    have : r.size = r.data.toList.length := by rw [Array.length_toList]; rfl
    rw [this, hr] at h
    simp at h
  | cons a l => rfl
theorem txt_take {q : List UInt8} {S : ByteArray} (hS : txt q = S) (k : Nat) : S.extract 0 k = txt (q.take k) := by
  subst hS
  have := baE_take (txt q) k
  rw [txt_toList] at this
  rw [← this, txt_ba]
/-- Off: nothing. -/
theorem rhears_off (rb fb jb : Nat) (p : Pow) (mem : List UInt8) (q : List UInt8) (w : World) (h : RSto w rb fb jb false p mem) :
    Calls Tryz.prog 80 #[.pointer (some ⟨rb, 0, none⟩), .string (txt q)] w fun e w' => e = .returned (.string ⟨#[]⟩) ∧ w' = w := by
  have c2 := h.c2
  obtain ⟨S, hS⟩ : ∃ S, txt q = S := ⟨_, rfl⟩
  rw [hS]
  clear h hS
  go_enter Tryz.func80, Tryz.ntmps80
  go_wp2
  go_ret
  exact ⟨rfl, rfl⟩
set_option maxRecDepth 100000 in
set_option maxHeartbeats 4000000 in
theorem rhears_none (rb fb jb : Nat) (p : Pow) (mem : List UInt8) (q : List UInt8) (w : World) (h : RSto w rb fb jb true p mem) (ha : askOk q = false) (hq : q.length ≤ 1000) :
    Calls Tryz.prog 80 #[.pointer (some ⟨rb, 0, none⟩), .string (txt q)] w fun e w' => e = .returned (.string ⟨#[]⟩) ∧ w' = w := by
  have c2 := h.c2
  have hno : ¬ (4 ≤ q.length ∧ q.length = asksF (q.getD 3 0)) := fun e => by rw [ask_len.1 e] at ha; cases ha
  obtain ⟨S, hS⟩ : ∃ S, txt q = S := ⟨_, rfl⟩
  have hsz : S.size = q.length := by rw [← hS, txt_size]
  have hSi : (S.size : Int) ≤ 1000 := by omega
  rw [hS]
  by_cases h4 : 4 ≤ q.length
  · have hlt : ¬ (S.size : Int) < 4 := by omega
    have h3S : 3 < S.size := by omega
    obtain ⟨x, hx⟩ : ∃ x, q.getD 3 0 = x := ⟨_, rfl⟩
    have hS3 : S[3] = x := (txt_at hS h3S).trans hx
    have HA := hideIt (fun w' => rasks_any x w')
    have hxl := x.toNat_lt
    obtain ⟨n, hn⟩ : ∃ n, asksF x = n := ⟨_, rfl⟩
    rw [hn] at HA
    rw [hx, hn] at hno
    have hne : ((S.size : Int) == (n : Int)) = false := by simp; omega
    have hne2 : ((S.size : Int) != (n : Int)) = true := by simp; omega
    have h3i : (3 : Int) < (S.size : Int) := by omega
    clear h hS hsz hno ha hq h4 hx hn
    go_enter Tryz.func80, Tryz.ntmps80
    go_wp2_with fail
    refine (HA.out _).mono ?_
    rintro e w1 ⟨rfl, rfl⟩
    go_wp2
    go_ret
    exact ⟨rfl, rfl⟩
  · have hlt : (S.size : Int) < 4 := by omega
    clear h hS hsz hno ha hq h4
    go_enter Tryz.func80, Tryz.ntmps80
    go_wp2
    go_ret
    exact ⟨rfl, rfl⟩
set_option maxRecDepth 100000 in
set_option maxHeartbeats 8000000 in
/-- OPEN. -/
theorem rhears_open (rb fb jb : Nat) (p : Pow) (mem : List UInt8) (r : REar) (t : RTk) (q : List UInt8) (w : World) (h : RBd w rb fb jb true p mem r t) (h3 : q.getD 3 0 = 1) (hl : q.length = 4) :
    Calls Tryz.prog 80 #[.pointer (some ⟨rb, 0, none⟩), .string (txt q)] w fun e w' => e = .returned (.string (txt (frameF (q.take 3 ++ [1])))) ∧ RBd w' rb fb jb true p mem r ⟨true, q.take 2, (q.getD 2 0).toNat, frameF (q.take 3 ++ [1])⟩ ∧ G3 w w' rb fb jb := by
  obtain ⟨S, hS⟩ : ∃ S, txt q = S := ⟨_, rfl⟩
  have hsz : S.size = 4 := by rw [← hS, txt_size, hl]
  have h3S : 3 < S.size := by omega
  have h2S : 2 < S.size := by omega
  have hS3 : S[3] = 1 := (txt_at hS h3S).trans h3
  obtain ⟨nu, hnu⟩ : ∃ nu, q.getD 2 0 = nu := ⟨_, rfl⟩
  have hS2 : S[2] = nu := (txt_at hS h2S).trans hnu
  have hnl := nu.toNat_lt
  have HA := hideIt (fun w' => rasks_any 1 w')
  have hone : ((1 : UInt8).toNat : Int) = 1 := rfl
  have hasn : (asksF 1 : Int) = 4 := rfl
  rw [hone, hasn] at HA
  have HD := hideIt (fun w' => rdoes_open rb q w' h3 (by omega) (by omega))
  have hT2 := txt_take hS 2
  have hT3 := txt_take hS 3
  have hl2 : (q.take 2).length ≤ 2 := by rw [List.length_take]; omega
  have hl3 : (q.take 3 ++ [1]).length = 4 := by rw [List.length_append, List.length_take]; simp; omega
  have HFm : Hid (∀ w', Calls Tryz.prog 17 #[.string (txt (q.take 3) ++ txt [1])] w' fun e w'' => e = .returned (.tuple #[.string (txt (frameF (q.take 3 ++ [1]))), .int .i64 0]) ∧ Below w'.heap.size w' w'') := fun w' => by
    have := rframe_any (txt (q.take 3 ++ [1])) w' (by rw [txt_size]; omega) (by rw [txt_size]; omega)
    rw [txt_toList] at this
    rw [txt_append]
    exact this
  have hfl := frameF_len (q.take 3 ++ [1])
  have hs3 : (txt (q.take 3)).size = 3 := by rw [txt_size, List.length_take]; omega
  have hs1 : (txt [1]).size = 1 := rfl
  have hz1 := isEmpty_no (txt [1]) (by rw [hs1]; omega)
  -- the worlds
  have r1 := h.setKn true
  have r2 := r1.setSes (q.take 2) hl2
  have r3 := r2.setLast nu.toNat (by omega)
  have r4 := r3.setAns [] (by simp)
  have G : G3 w _ rb fb jb := (G3.set w rb fb jb 7 (.bool true)).trans ((G3.set _ rb fb jb 8 (.string (txt (q.take 2)))).trans ((G3.set _ rb fb jb 9 (.int .i64 (nu.toNat : Int))).trans (G3.set _ rb fb jb 10 (.string (txt [])))))
  have HR4 := hideIt (And.intro r4 G)
  have c2 := h.sto.c2
  have c7 := h.c7
  have c8 := h.c8
  have c9 := h.c9
  have c10 := h.c10
  have f7 := h.sto.fz rb 7 (.inl rfl)
  have f8 := h.sto.fz rb 8 (.inl rfl)
  have f9 := h.sto.fz rb 9 (.inl rfl)
  have f10 := h.sto.fz rb 10 (.inl rfl)
  have hrl := h.sto.lt.1
  have he : txt [] = (⟨#[]⟩ : ByteArray) := rfl
  rw [hS, hnu]
  rw [hS] at HD
  rw [he] at HR4
  obtain ⟨F, hF⟩ : ∃ F, frameF (q.take 3 ++ [1]) = F := ⟨_, rfl⟩
  rw [hF] at HFm hfl ⊢
  obtain ⟨S2, hS2'⟩ : ∃ S2, txt (q.take 2) = S2 := ⟨_, rfl⟩
  obtain ⟨S3, hS3'⟩ : ∃ S3, txt (q.take 3) = S3 := ⟨_, rfl⟩
  obtain ⟨Y, hY⟩ : ∃ Y, txt [1] = Y := ⟨_, rfl⟩
  obtain ⟨FT, hFT⟩ : ∃ FT, txt F = FT := ⟨_, rfl⟩
  rw [hS2'] at HR4 hT2
  rw [hS3'] at HFm hT3 hs3
  rw [hY] at HD HFm hs1 hz1
  rw [hFT] at HFm ⊢
  have HFT := hideIt (And.intro hFT hfl.2)
  have HL3 := hideIt hl3
  clear h r1 r2 r3 r4 G hS h3 hl hnu hl2 hl3 hF hS2' hS3' hY hFT hfl he hasn hone
  go_enter Tryz.func80, Tryz.ntmps80
  go_wp2_with fail
  refine (HA.out _).mono ?_
  rintro e w1 ⟨rfl, rfl⟩
  go_wp2_with fail
  refine (HD.out _).mono ?_
  rintro e w2 ⟨rfl, hB2⟩
  have HR5 := hideIt (And.intro (HR4.out.1.below hB2) (HR4.out.2.trans (G3.of_below rb fb jb hB2)))
  clear hB2 HR4
  go_wp2_with fail
  refine (HFm.out _).mono ?_
  rintro e w3 ⟨rfl, hB3⟩
  have HR6 := hideIt (And.intro (HR5.out.1.below hB3) (HR5.out.2.trans (G3.of_below rb fb jb hB3)))
  clear hB3 HR5
  have d10 := HR6.out.1.c10
  have g10 := HR6.out.1.sto.fz rb 10 (.inl rfl)
  have hrl3 := HR6.out.1.sto.lt.1
  clear c7 c8 c9 c10 f7 f8 f9 f10 hrl
  go_wp2
  go_ret
  refine ⟨rfl, ?_, HR6.out.2.trans (G3.set _ _ _ _ _ _)⟩
  have := HR6.out.1.setAns F (by have := HFT.out.2; have := HL3.out; omega)
  rw [HFT.out.1] at this
  exact this
end Go.Proofs.YthokdbcpkmcieaaGreat
namespace Go.Proofs.YthokdbcpkmcieaaGreat
open Go Go.RowKit
attribute [local go_sem ↓] Go.wp_at_zero Go.wp_at_succ
theorem asksF_le (x : UInt8) : asksF x ≤ 69 := by
  unfold asksF
  repeat' split
  all_goals omega
theorem toNat_ne {x c : UInt8} (h : x ≠ c) : ((x.toNat : Int) == (c.toNat : Int)) = false := by
  have : ¬ x.toNat = c.toNat := fun e => h (UInt8.toNat_inj.1 e)
  simp; omega
set_option maxRecDepth 100000 in
set_option maxHeartbeats 8000000 in
/-- Nobody known, or of another session: nothing. -/
theorem rhears_shut (rb fb jb : Nat) (p : Pow) (mem : List UInt8) (r : REar) (t : RTk) (q : List UInt8) (w : World) (h : RBd w rb fb jb true p mem r t) (ha : askOk q = true) (h3 : q.getD 3 0 ≠ 1) (hno : t.kn = false ∨ t.ses ≠ q.take 2) :
    Calls Tryz.prog 80 #[.pointer (some ⟨rb, 0, none⟩), .string (txt q)] w fun e w' => e = .returned (.string ⟨#[]⟩) ∧ ∃ m, w' = w.drewN m := by
  obtain ⟨hl4, hl⟩ := ask_len.2 ha
  obtain ⟨S, hS⟩ : ∃ S, txt q = S := ⟨_, rfl⟩
  have hsz : S.size = q.length := by rw [← hS, txt_size]
  have hql := asksF_le (q.getD 3 0)
  have h3S : 3 < S.size := by omega
  have h2S : 2 < S.size := by omega
  obtain ⟨x, hx⟩ : ∃ x, q.getD 3 0 = x := ⟨_, rfl⟩
  obtain ⟨nu, hnu⟩ : ∃ nu, q.getD 2 0 = nu := ⟨_, rfl⟩
  have hS3 : S[3] = x := (txt_at hS h3S).trans hx
  have hS2 : S[2] = nu := (txt_at hS h2S).trans hnu
  have hxl := x.toNat_lt
  have hnl := nu.toNat_lt
  have HA := hideIt (fun w' => rasks_any x w')
  rw [hx] at hl h3 hql
  obtain ⟨n, hn⟩ : ∃ n, asksF x = n := ⟨_, rfl⟩
  rw [hn] at HA hl hql
  have hSn : (S.size : Int) = (n : Int) := by omega
  have hSi : (S.size : Int) ≤ 69 := by omega
  have h4i : (4 : Int) ≤ (S.size : Int) := by omega
  have h1 : ((x.toNat : Int) == 1) = false := toNat_ne h3
  have hT2 := txt_take hS 2
  have c2 := h.sto.c2
  have c7 := h.c7
  have c8 := h.c8
  have hne : t.ses ≠ q.take 2 → ((txt t.ses).toList == (txt (q.take 2)).toList) = false := fun e => txt_neR e
  obtain ⟨S2, hS2'⟩ : ∃ S2, txt (q.take 2) = S2 := ⟨_, rfl⟩
  obtain ⟨SS, hSS⟩ : ∃ SS, txt t.ses = SS := ⟨_, rfl⟩
  rw [hS2'] at hne hT2
  rw [hSS] at hne c8
  rw [hS]
  obtain ⟨kn, ses, last, ans⟩ := t
  simp only at c7 hno hne
  have HSZ := hideIt hSn
  clear h hS hsz ha hl4 hl hx hnu h3 hn hS2' hSS
  rcases hno with hk | hk
  · subst hk
    go_enter Tryz.func80, Tryz.ntmps80
    go_wp2_with fail
    refine (HA.out _).mono ?_
    rintro e w1 ⟨rfl, rfl⟩
    go_wp2
    go_quiet (fail)
    go_wp2
    go_ret
    exact ⟨rfl, _, rfl⟩
  · have hne' := hne hk
    clear hne hk
    cases kn
    all_goals
      go_enter Tryz.func80, Tryz.ntmps80
      go_wp2_with fail
      refine (HA.out _).mono ?_
      rintro e w1 ⟨rfl, rfl⟩
      go_wp2
      go_quiet (fail)
      go_wp2
      go_ret
      exact ⟨rfl, _, rfl⟩
set_option maxRecDepth 100000 in
set_option maxHeartbeats 8000000 in
/-- The same number again: the same answer. A number that is not next: nothing. -/
theorem rhears_old (rb fb jb : Nat) (p : Pow) (mem : List UInt8) (r : REar) (t : RTk) (q : List UInt8) (w : World) (h : RBd w rb fb jb true p mem r t) (ha : askOk q = true) (h3 : q.getD 3 0 ≠ 1) (hk : t.kn = true) (hs : t.ses = q.take 2) (hno : (q.getD 2 0).toNat = t.last ∨ (q.getD 2 0).toNat ≠ (t.last + 1) % 256) :
    Calls Tryz.prog 80 #[.pointer (some ⟨rb, 0, none⟩), .string (txt q)] w fun e w' => e = .returned (.string (if (q.getD 2 0).toNat = t.last then txt t.ans else ⟨#[]⟩)) ∧ ∃ m, w' = w.drewN m := by
  obtain ⟨hl4, hl⟩ := ask_len.2 ha
  obtain ⟨S, hS⟩ : ∃ S, txt q = S := ⟨_, rfl⟩
  have hsz : S.size = q.length := by rw [← hS, txt_size]
  have hql := asksF_le (q.getD 3 0)
  have h3S : 3 < S.size := by omega
  have h2S : 2 < S.size := by omega
  obtain ⟨x, hx⟩ : ∃ x, q.getD 3 0 = x := ⟨_, rfl⟩
  obtain ⟨nu, hnu⟩ : ∃ nu, q.getD 2 0 = nu := ⟨_, rfl⟩
  have hS3 : S[3] = x := (txt_at hS h3S).trans hx
  have hS2 : S[2] = nu := (txt_at hS h2S).trans hnu
  have hxl := x.toNat_lt
  have hnl := nu.toNat_lt
  have HA := hideIt (fun w' => rasks_any x w')
  rw [hx] at hl h3 hql
  rw [hnu] at hno ⊢
  obtain ⟨n, hn⟩ : ∃ n, asksF x = n := ⟨_, rfl⟩
  rw [hn] at HA hl hql
  have hSn : (S.size : Int) = (n : Int) := by omega
  have hSi : (S.size : Int) ≤ 69 := by omega
  have h4i : (4 : Int) ≤ (S.size : Int) := by omega
  have h1 : ((x.toNat : Int) == 1) = false := toNat_ne h3
  have hT2 := txt_take hS 2
  have c2 := h.sto.c2
  have c7 := h.c7
  have c8 := h.c8
  have c9 := h.c9
  have c10 := h.c10
  have hll := h.ll
  rw [hs] at c8
  rw [hk] at c7
  obtain ⟨S2, hS2'⟩ : ∃ S2, txt (q.take 2) = S2 := ⟨_, rfl⟩
  rw [hS2'] at c8 hT2
  obtain ⟨AN, hAN⟩ : ∃ AN, txt t.ans = AN := ⟨_, rfl⟩
  obtain ⟨la, hla⟩ : ∃ la, t.last = la := ⟨_, rfl⟩
  rw [hAN] at c10 ⊢
  rw [hla] at c9 hno hll ⊢
  rw [hS]
  have HSZ := hideIt hSn
  clear h hS hsz ha hl4 hl hx hnu h3 hn hS2' hAN hla hs hk
  by_cases hn0 : nu.toNat = la
  · rw [if_pos hn0]
    have hni : (nu.toNat : Int) = (la : Int) := by omega
    clear hno
    go_enter Tryz.func80, Tryz.ntmps80
    go_wp2_with fail
    refine (HA.out _).mono ?_
    rintro e w1 ⟨rfl, rfl⟩
    go_wp2
    go_quiet (fail)
    go_wp2
    go_ret
    exact ⟨rfl, _, rfl⟩
  · rw [if_neg hn0]
    have hne : ((nu.toNat : Int) == (la : Int)) = false := by simp; omega
    have hn1 : nu.toNat ≠ (la + 1) % 256 := by omega
    obtain ⟨l1, hl1⟩ : ∃ l1, (la + 1) % 256 = l1 := ⟨_, rfl⟩
    have hrem : ((la : Int) + 1) % 256 = (l1 : Int) := by omega
    have hremT : Int.tmod ((la : Int) + 1) 256 = (l1 : Int) := by rw [Int.tmod_eq_emod_of_nonneg (by omega)]; exact hrem
    have hne1 : ((nu.toNat : Int) == (l1 : Int)) = false := by simp; omega
    have hl1b : (l1 : Int) ≤ 255 := by omega
    clear hno hn0 hn1 hl1
    go_enter Tryz.func80, Tryz.ntmps80
    go_wp2_with fail
    refine (HA.out _).mono ?_
    rintro e w1 ⟨rfl, rfl⟩
    go_wp2
    go_quiet (fail)
    go_wp2
    go_ret
    exact ⟨rfl, _, rfl⟩
end Go.Proofs.YthokdbcpkmcieaaGreat
namespace Go.Proofs.YthokdbcpkmcieaaGreat
open Go Go.RowKit
attribute [local go_sem ↓] Go.wp_at_zero Go.wp_at_succ
theorem rdoF_out (p : Pow) (m : List UInt8) (a : UInt8) (rest : List UInt8) : 1 ≤ (doF p m a rest).2.length ∧ (doF p m a rest).2.length ≤ 65 := by
  unfold doF
  repeat' split
  all_goals simp
  rename_i h
  have : (pageF m (rest.getD 0 0).toNat).length ≤ 64 := by unfold pageF; rw [List.length_take]; omega
  simpa using this
set_option maxRecDepth 100000 in
set_option maxHeartbeats 8000000 in
/-- The next number: it is done. -/
theorem rhears_do (rb fb jb : Nat) (p : Pow) (mem : List UInt8) (r : REar) (t : RTk) (q : List UInt8) (k : Nat) (w : World) (h : RBd w rb fb jb true p mem r t) (ha : askOk q = true) (h3 : q.getD 3 0 ≠ 1) (hk : t.kn = true) (hs : t.ses = q.take 2) (hn2 : (q.getD 2 0).toNat = (t.last + 1) % 256) (hu : Used mem k)
    (d : (Pow × List UInt8 × Bool) × List UInt8) (hd : doF p mem (q.getD 3 0) (q.drop 4) = d) :
    Calls Tryz.prog 80 #[.pointer (some ⟨rb, 0, none⟩), .string (txt q)] w fun e w' => e = .returned (.string (if d.1.2.2 = true then txt (frameF (q.take 3 ++ d.2)) else ⟨#[]⟩)) ∧ RBd w' rb fb jb d.1.2.2 (if d.1.2.2 = true then d.1.1 else pow0) d.1.2.1 r ⟨true, t.ses, (q.getD 2 0).toNat, if d.1.2.2 = true then frameF (q.take 3 ++ d.2) else []⟩ ∧ G3 w w' rb fb jb := by
  obtain ⟨hl4, hl⟩ := ask_len.2 ha
  obtain ⟨S, hS⟩ : ∃ S, txt q = S := ⟨_, rfl⟩
  have hsz : S.size = q.length := by rw [← hS, txt_size]
  have hql := asksF_le (q.getD 3 0)
  have h3S : 3 < S.size := by omega
  have h2S : 2 < S.size := by omega
  have HD := hideIt (fun w' (h' : RSto w' rb fb jb true p mem) => rdoes_any rb fb jb p mem q k w' h' hu ha)
  rw [hd] at HD
  have hdo := rdoF_out p mem (q.getD 3 0) (q.drop 4)
  rw [hd] at hdo
  obtain ⟨x, hx⟩ : ∃ x, q.getD 3 0 = x := ⟨_, rfl⟩
  obtain ⟨nu, hnu⟩ : ∃ nu, q.getD 2 0 = nu := ⟨_, rfl⟩
  have hS3 : S[3] = x := (txt_at hS h3S).trans hx
  have hS2 : S[2] = nu := (txt_at hS h2S).trans hnu
  have hxl := x.toNat_lt
  have hnl := nu.toNat_lt
  have HA := hideIt (fun w' => rasks_any x w')
  rw [hx] at hl h3 hql
  rw [hnu] at hn2 ⊢
  obtain ⟨n, hn⟩ : ∃ n, asksF x = n := ⟨_, rfl⟩
  rw [hn] at HA hl hql
  have hSn : (S.size : Int) = (n : Int) := by omega
  have hSi : (S.size : Int) ≤ 69 := by omega
  have h4i : (4 : Int) ≤ (S.size : Int) := by omega
  have h1 : ((x.toNat : Int) == 1) = false := toNat_ne h3
  have hT2 := txt_take hS 2
  have hT3 := txt_take hS 3
  have c2 := h.sto.c2
  have c7 := h.c7
  have c8 := h.c8
  have c9 := h.c9
  have c10 := h.c10
  have hll := h.ll
  have f9 := h.sto.fz rb 9 (.inl rfl)
  have f10 := h.sto.fz rb 10 (.inl rfl)
  have hrl := h.sto.lt.1
  have HR4 : Hid (∀ m, RBd (((w.drewN m).setCell ⟨rb, 9, none⟩ (.int .i64 (nu.toNat : Int))).setCell ⟨rb, 10, none⟩ (.string ⟨#[]⟩)) rb fb jb true p mem r ⟨t.kn, t.ses, nu.toNat, []⟩ ∧ G3 w (((w.drewN m).setCell ⟨rb, 9, none⟩ (.int .i64 (nu.toNat : Int))).setCell ⟨rb, 10, none⟩ (.string ⟨#[]⟩)) rb fb jb) := fun m =>
    ⟨((h.kept (w' := w.drewN m) (fun _ _ => rfl) (Nat.le_refl _)).setLast nu.toNat (by omega)).setAns [] (by simp), ((G3.refl w rb fb jb).drewN m).trans ((G3.set _ rb fb jb 9 (.int .i64 (nu.toNat : Int))).trans (G3.set _ rb fb jb 10 (.string (txt []))))⟩
  rw [hs] at c8
  rw [hk] at c7 HR4
  have hl3 : (q.take 3 ++ d.2).length ≤ 68 ∧ 1 ≤ (q.take 3 ++ d.2).length := by rw [List.length_append, List.length_take]; omega
  have HFm : Hid (∀ w', Calls Tryz.prog 17 #[.string (txt (q.take 3) ++ txt d.2)] w' fun e w'' => e = .returned (.tuple #[.string (txt (frameF (q.take 3 ++ d.2))), .int .i64 0]) ∧ Below w'.heap.size w' w'') := fun w' => by
    have := rframe_any (txt (q.take 3 ++ d.2)) w' (by rw [txt_size]; omega) (by rw [txt_size]; omega)
    rw [txt_toList] at this
    rw [txt_append]
    exact this
  have hfl := frameF_len (q.take 3 ++ d.2)
  have hs3 : (txt (q.take 3)).size = 3 := by rw [txt_size, List.length_take]; omega
  have hs1 : (txt d.2).size = d.2.length := txt_size _
  have hsd : ((txt d.2).size : Int) ≤ 65 := by omega
  have hz1 := isEmpty_no (txt d.2) (by rw [hs1]; omega)
  have hni : ((nu.toNat : Int) == (t.last : Int)) = false := by simp; omega
  obtain ⟨la, hla⟩ : ∃ la, t.last = la := ⟨_, rfl⟩
  have hremT : Int.tmod ((la : Int) + 1) 256 = (nu.toNat : Int) := by rw [Int.tmod_eq_emod_of_nonneg (by omega)]; omega
  have hrem : ((la : Int) + 1) % 256 = (nu.toNat : Int) := by omega
  obtain ⟨S2, hS2'⟩ : ∃ S2, txt (q.take 2) = S2 := ⟨_, rfl⟩
  obtain ⟨S3, hS3'⟩ : ∃ S3, txt (q.take 3) = S3 := ⟨_, rfl⟩
  obtain ⟨F, hF⟩ : ∃ F, frameF (q.take 3 ++ d.2) = F := ⟨_, rfl⟩
  obtain ⟨FT, hFT⟩ : ∃ FT, txt F = FT := ⟨_, rfl⟩
  obtain ⟨dd, Y⟩ := d
  obtain ⟨YT, hYT⟩ : ∃ YT, txt Y = YT := ⟨_, rfl⟩
  simp only at hF HFm hfl hs1 hsd hz1 HD ⊢
  rw [hS2'] at c8 hT2
  rw [hS3'] at HFm hT3 hs3
  rw [hF] at HFm hfl ⊢
  rw [hFT] at HFm ⊢
  rw [hYT] at HFm hs1 hsd hz1
  rw [hla] at c9 hni hll
  rw [hS] at HD ⊢
  have HFT := hideIt (And.intro hFT (And.intro hfl.2 hl3.1))
  have HYT := hideIt hYT
  have HSZ := hideIt hSn
  clear h hS hsz ha hl4 hl hx hnu h3 hn hS2' hS3' hF hFT hfl hs hk hn2 hla hd hdo hl3 hu hs1 hYT
  obtain ⟨p2, m2, ok⟩ := dd
  cases ok
  · simp only [Bool.false_eq_true, if_false] at HD ⊢
    go_enter Tryz.func80, Tryz.ntmps80
    go_wp2_with fail
    refine (HA.out _).mono ?_
    rintro e w1 ⟨rfl, rfl⟩
    go_wp2
    go_quiet (fail)
    go_wp2_with fail
    refine (HD.out _ (HR4.out _).1.sto).mono ?_
    rintro e w2 ⟨rfl, hst, hK⟩
    have HR5 := hideIt (And.intro ((HR4.out _).1.k3 hst hK) ((HR4.out _).2.trans hK.g3))
    clear hst hK
    have he2 : txt [] = (⟨#[]⟩ : ByteArray) := rfl
    rw [he2]
    go_wp2
    go_ret
    exact ⟨rfl, HR5.out.1, HR5.out.2⟩
  · simp only [if_true] at HD ⊢
    go_enter Tryz.func80, Tryz.ntmps80
    go_wp2_with fail
    refine (HA.out _).mono ?_
    rintro e w1 ⟨rfl, rfl⟩
    go_wp2
    go_quiet (fail)
    go_wp2_with fail
    refine (HD.out _ (HR4.out _).1.sto).mono ?_
    rintro e w2 ⟨rfl, hst, hK⟩
    have HR5 := hideIt (And.intro ((HR4.out _).1.k3 hst hK) ((HR4.out _).2.trans hK.g3))
    clear hst hK
    rw [HYT.out]
    go_wp2_with fail
    refine (HFm.out _).mono ?_
    rintro e w3 ⟨rfl, hB3⟩
    have HR6 := hideIt (And.intro (HR5.out.1.below hB3) (HR5.out.2.trans (G3.of_below rb fb jb hB3)))
    clear hB3 HR5
    have d10 := HR6.out.1.c10
    have g10 := HR6.out.1.sto.fz rb 10 (.inl rfl)
    have hrl3 := HR6.out.1.sto.lt.1
    clear c7 c8 c9 c10 f9 f10 hrl
    go_wp2
    go_ret
    refine ⟨rfl, ?_, HR6.out.2.trans (G3.set _ _ _ _ _ _)⟩
    have := HR6.out.1.setAns F (by have := HFT.out.2; omega)
    rw [HFT.out.1] at this
    exact this
theorem two_of {l : List UInt8} (h : l.length = 2) : ∃ a b, l = [a, b] := by
  match l, h with
  | [a, b], _ => exact ⟨a, b, rfl⟩
/-- Two bytes make a session. -/
theorem ses_eq {a b : List UInt8} (ha : a.length = 2) (hb : b.length = 2) (h : sesOf a = sesOf b) : a = b := by
  obtain ⟨a0, a1, rfl⟩ := two_of ha
  obtain ⟨b0, b1, rfl⟩ := two_of hb
  · · have h0 := a0.toNat_lt
      have h1 := a1.toNat_lt
      have h2 := b0.toNat_lt
      have h3 := b1.toNat_lt
      simp only [sesOf, List.getD_eq_getElem?_getD] at h
      simp at h
      have e0 : a0 = b0 := UInt8.toNat_inj.1 (by omega)
      have e1 : a1 = b1 := UInt8.toNat_inj.1 (by omega)
      rw [e0, e1]
theorem ses_take {q : List UInt8} (h : 2 ≤ q.length) : sesOf (q.take 2) = sesOf q := by
  match q, h with
  | a :: b :: l, _ => rfl
theorem num_next (a b : UInt8) : a = b + 1 ↔ a.toNat = (b.toNat + 1) % 256 := by
  rw [← UInt8.toNat_inj, UInt8.toNat_add]
  rfl
/-- A message to the document's board: as the plain board answers. -/
theorem rhears_any (rb fb jb : Nat) (p : Pow) (mem : List UInt8) (r : REar) (t : Talk) (rt : RTk) (q : List UInt8) (k : Nat) (w : World) (h : RBd w rb fb jb true p mem r rt) (hs : SameT t rt) (hu : Used mem k) (hq : q.length ≤ 1000) (a : Pow × List UInt8 × Talk × List UInt8 × Bool) (hA : answerF p mem t q = a) :
    Calls Tryz.prog 80 #[.pointer (some ⟨rb, 0, none⟩), .string (txt q)] w fun e w' => e = .returned (.string (txt a.2.2.2.1)) ∧ (∃ rt', RBd w' rb fb jb a.2.2.2.2 (if a.2.2.2.2 = true then a.1 else pow0) a.2.1 r rt' ∧ (a.2.2.2.2 = true → SameT a.2.2.1 rt')) ∧ G3 w w' rb fb jb := by
  have he : txt [] = (⟨#[]⟩ : ByteArray) := rfl
  unfold answerF at hA
  by_cases ha : askOk q = false
  · rw [if_pos ha] at hA
    subst hA
    exact (rhears_none rb fb jb p mem q w h.sto ha hq).mono fun e w' ⟨h1, h2⟩ => by subst h2; exact ⟨h1, ⟨rt, h, fun _ => hs⟩, G3.refl _ _ _ _⟩
  rw [if_neg ha] at hA
  have ha' : askOk q = true := by simpa using ha
  have hl4 := (ask_len.2 ha').1
  by_cases h1 : q.getD 3 0 = 1
  · have hl : q.length = 4 := by have := (ask_len.2 ha').2; rw [h1] at this; exact this
    rw [if_neg (fun e => e.1 h1), if_neg (fun e => e.1 h1), if_neg (fun e => e.1 h1)] at hA
    have hd : doF p mem (q.getD 3 0) (q.drop 4) = ((p, mem, true), [1]) := by rw [h1]; rfl
    rw [h1] at hd
    simp only [h1, if_true, hd] at hA
    subst hA
    exact (rhears_open rb fb jb p mem r rt q w h h1 hl).mono fun e w' ⟨e1, e2, e3⟩ => ⟨e1, ⟨_, e2, fun _ => ⟨rfl, fun _ => ⟨by rw [List.length_take]; omega, ses_take (by omega), rfl, rfl⟩⟩⟩, e3⟩
  · by_cases h2 : t.opn = false ∨ sesOf q ≠ t.ses
    · rw [if_pos ⟨h1, h2⟩] at hA
      subst hA
      have hno : rt.kn = false ∨ rt.ses ≠ q.take 2 := by
        cases ho : t.opn
        · left; rw [hs.1]; exact ho
        · right
          rcases h2 with h2 | h2
          · rw [ho] at h2; cases h2
          · intro e
            obtain ⟨_, g2, _⟩ := hs.2 ho
            rw [e, ses_take (by omega)] at g2
            exact h2 g2
      exact (rhears_shut rb fb jb p mem r rt q w h ha' h1 hno).mono fun e w' ⟨e1, m, e2⟩ => by subst e2; exact ⟨e1, ⟨rt, h.kept (fun _ _ => rfl) (Nat.le_refl _), fun _ => hs⟩, (G3.refl _ _ _ _).drewN m⟩
    rw [if_neg (fun e => h2 e.2)] at hA
    have ho : t.opn = true := by
      cases ho : t.opn
      · exact absurd (.inl ho) h2
      · rfl
    have hses : sesOf q = t.ses := Classical.byContradiction fun e => h2 (.inr e)
    obtain ⟨g1, g2, g3, g4⟩ := hs.2 ho
    have hkn : rt.kn = true := by rw [hs.1]; exact ho
    have hse : rt.ses = q.take 2 := ses_eq g1 (by rw [List.length_take]; omega) (by rw [g2, ses_take (by omega)]; exact hses.symm)
    by_cases h5 : q.getD 2 0 = t.num
    · rw [if_pos ⟨h1, h5⟩] at hA
      subst hA
      have hn : (q.getD 2 0).toNat = rt.last := by rw [g3, h5]
      refine (rhears_old rb fb jb p mem r rt q w h ha' h1 hkn hse (.inl hn)).mono fun e w' ⟨e1, m, e2⟩ => ?_
      subst e2
      rw [if_pos hn, g4] at e1
      exact ⟨e1, ⟨rt, h.kept (fun _ _ => rfl) (Nat.le_refl _), fun _ => hs⟩, (G3.refl _ _ _ _).drewN m⟩
    rw [if_neg (fun e => h5 e.2)] at hA
    have hnn : (q.getD 2 0).toNat ≠ rt.last := fun e => h5 (UInt8.toNat_inj.1 (e.trans g3))
    by_cases h6 : q.getD 2 0 ≠ t.num + 1
    · rw [if_pos ⟨h1, h6⟩] at hA
      subst hA
      refine (rhears_old rb fb jb p mem r rt q w h ha' h1 hkn hse (.inr (fun e => h6 ((num_next _ _).2 (by rw [g3] at e; exact e))))).mono fun e w' ⟨e1, m, e2⟩ => ?_
      subst e2
      rw [if_neg hnn] at e1
      exact ⟨e1, ⟨rt, h.kept (fun _ _ => rfl) (Nat.le_refl _), fun _ => hs⟩, (G3.refl _ _ _ _).drewN m⟩
    rw [if_neg (fun e => h6 e.2)] at hA
    have h6' : q.getD 2 0 = t.num + 1 := Classical.byContradiction h6
    obtain ⟨d, hd⟩ : ∃ d, doF p mem (q.getD 3 0) (q.drop 4) = d := ⟨_, rfl⟩
    simp only [hd, if_neg h1] at hA
    refine (rhears_do rb fb jb p mem r rt q k w h ha' h1 hkn hse (by rw [g3]; exact (num_next _ _).1 h6') hu d hd).mono fun e w' ⟨e1, e2, e3⟩ => ?_
    obtain ⟨⟨p2, m2, ok⟩, out⟩ := d
    cases ok
    · simp only [Bool.false_eq_true, if_false] at hA e1 e2
      subst hA
      exact ⟨e1, ⟨_, e2, fun e => by cases e⟩, e3⟩
    · simp only [if_true] at hA e1 e2
      subst hA
      exact ⟨e1, ⟨_, e2, fun _ => ⟨ho.symm, fun _ => ⟨g1, g2, rfl, rfl⟩⟩⟩, e3⟩
end Go.Proofs.YthokdbcpkmcieaaGreat
namespace Go.Proofs.YthokdbcpkmcieaaGreat
open Go Go.RowKit
attribute [local go_sem ↓] Go.wp_at_zero Go.wp_at_succ
/-- The document's board at rb, fb, jb does as the plain board b; its ear has kept at most u bytes. -/
structure RB (w : World) (rb fb jb : Nat) (b : Brd) (u : Nat) : Prop where
  is : ∃ r rt, RBd w rb fb jb b.on b.pow b.mem r rt ∧ (b.on = true → SameE b.ear r ∧ SameT b.talk rt) ∧ r.s.length ≤ u
  ok : TOk b.mem b.talk
  eok : EarOk b.ear
theorem RB.kept {w w' : World} {rb fb jb : Nat} {b : Brd} {u : Nat} (h : RB w rb fb jb b u) (hb : ∀ k, k = rb ∨ k = fb ∨ k = jb → w'.heap[k]? = w.heap[k]?) (hz : w.heap.size ≤ w'.heap.size) : RB w' rb fb jb b u := by
  obtain ⟨r, rt, h1, h2, h3⟩ := h.is
  exact ⟨⟨r, rt, h1.kept hb hz, h2, h3⟩, h.ok, h.eok⟩
theorem RB.lt {w : World} {rb fb jb : Nat} {b : Brd} {u : Nat} (h : RB w rb fb jb b u) : rb < w.heap.size ∧ fb < w.heap.size ∧ jb < w.heap.size := by
  obtain ⟨r, rt, h1, _⟩ := h.is
  exact h1.sto.lt
theorem RB.below {w w' : World} {rb fb jb : Nat} {b : Brd} {u : Nat} (h : RB w rb fb jb b u) (hb : Below w.heap.size w w') : RB w' rb fb jb b u :=
  h.kept (fun k e => hb.block k (by have := h.lt; rcases e with rfl | rfl | rfl <;> omega)) hb.size
theorem RB.le {w : World} {rb fb jb : Nat} {b : Brd} {u v : Nat} (h : RB w rb fb jb b u) (huv : u ≤ v) : RB w rb fb jb b v := by
  obtain ⟨r, rt, h1, h2, h3⟩ := h.is
  exact ⟨⟨r, rt, h1, h2, Nat.le_trans h3 huv⟩, h.ok, h.eok⟩
theorem tok0 {m : List UInt8} (h : ∃ k, Used m k) : TOk m talk0 := ⟨h, by decide, by decide⟩
theorem eok0 : EarOk ear0 := ⟨by decide, by decide⟩
/-- Behind j messages: what the document's board has said, and what it is. -/
structure RInv (w wr : World) (rb fb jb : Nat) (a : Pow × List UInt8 × Talk × List UInt8 × Bool) (r : REar) (base : Nat) (v : Value) (qs : List (List UInt8)) : Prop where
  brd : ∃ rt, RBd wr rb fb jb a.2.2.2.2 (if a.2.2.2.2 = true then a.1 else pow0) a.2.1 r rt ∧ (a.2.2.2.2 = true → SameT a.2.2.1 rt)
  ok : TOk a.2.1 a.2.2.1
  row : wr.ownsRow base 9 1 v qs.length (strs qs)
  g : G3 w wr rb fb jb
theorem G3.row {w w' : World} {rb fb jb base : Nat} {v : Value} {n : Nat} {xs : List Value} (h : G3 w w' rb fb jb) (hr : w.ownsRow base 9 1 v n xs) (hb : rb < base ∧ fb < base ∧ jb < base) : w'.ownsRow base 9 1 v n xs :=
  own_atE hr (fun j hj => h.block j (hr.lt j hj).2 (by have := (hr.lt j hj).1; omega) (by have := (hr.lt j hj).1; omega) (by have := (hr.lt j hj).1; omega))
theorem getD_mem {qs : List (List UInt8)} {j : Nat} (hj : j < qs.length) : qs.getD j [] ∈ qs := by
  rw [List.getD_eq_getElem?_getD, List.getElem?_eq_getElem hj]
  exact List.getElem_mem hj
/-- One message more, the power being there or not. -/
def nextA (a : Pow × List UInt8 × Talk × List UInt8 × Bool) (q : List UInt8) : Pow × List UInt8 × Talk × List UInt8 × Bool := if a.2.2.2.2 = true then stepA a.1 a.2.1 a.2.2.1 q a.2.2.2.1 else a
theorem answers_stop : ∀ (x y : List (List UInt8)) (p : Pow) (m : List UInt8) (t : Talk) (out : List UInt8), (answersF p m t x out).2.2.2.2 = false → answersF p m t (x ++ y) out = answersF p m t x out
  | [], y, p, m, t, out, h => by cases h
  | q :: x, y, p, m, t, out, h => by
    rw [List.cons_append, answersF, answersF]
    rw [answersF] at h
    split
    · rename_i hok
      rw [if_pos hok] at h
      exact answers_stop x y _ _ _ _ h
    · rfl
theorem answers_next (p : Pow) (m : List UInt8) (t : Talk) (qs : List (List UInt8)) (j : Nat) (hj : j < qs.length) : answersF p m t (qs.take (j + 1)) [] = nextA (answersF p m t (qs.take j) []) (qs.getD j []) := by
  obtain ⟨a, ha⟩ : ∃ a, answersF p m t (qs.take j) [] = a := ⟨_, rfl⟩
  rw [ha]
  unfold nextA
  obtain ⟨p', m', t', o', ok⟩ := a
  cases ok
  · have e : qs.take (j + 1) = qs.take j ++ [qs.getD j []] := by
      rw [List.take_add_one, List.getElem?_eq_getElem hj, List.getD_eq_getElem?_getD, List.getElem?_eq_getElem hj]
      rfl
    rw [e, answers_stop _ _ _ _ _ _ (by rw [ha]), ha]
    rfl
  · rw [if_pos rfl]
    exact (answers_more hj ha).1
theorem stepA_ok {p : Pow} {m : List UInt8} {t : Talk} {q out : List UInt8} (h : TOk m t) : TOk (stepA p m t q out).2.1 (stepA p m t q out).2.2.1 ∧ (stepA p m t q out).2.2.2.1.length ≤ out.length + 200 := by
  have h1 := answerF_ok (p := p) (q := q) h
  unfold stepA
  split
  · exact ⟨h1.1, by simp; exact h1.2⟩
  · exact ⟨h1.1, by simp⟩
theorem nextA_ok {a : Pow × List UInt8 × Talk × List UInt8 × Bool} {q : List UInt8} (h : TOk a.2.1 a.2.2.1) : TOk (nextA a q).2.1 (nextA a q).2.2.1 ∧ (nextA a q).2.2.2.1.length ≤ a.2.2.2.1.length + 200 := by
  unfold nextA
  split
  · exact stepA_ok h
  · exact ⟨h, by omega⟩
theorem answers_len (p : Pow) (m : List UInt8) (t : Talk) (qs : List (List UInt8)) (h : TOk m t) : ∀ j, j ≤ qs.length → TOk (answersF p m t (qs.take j) []).2.1 (answersF p m t (qs.take j) []).2.2.1 ∧ (answersF p m t (qs.take j) []).2.2.2.1.length ≤ 200 * j
  | 0, _ => by simpa [answersF] using h
  | j + 1, hj => by
    have ih := answers_len p m t qs h j (by omega)
    have := nextA_ok (q := qs.getD j []) ih.1
    rw [answers_next _ _ _ _ _ (by omega)]
    exact ⟨this.1, by omega⟩
theorem answer_dead {p : Pow} {m : List UInt8} {t : Talk} {q : List UInt8} {a1 : Pow} {a2 : List UInt8} {a3 : Talk} {a4 : List UInt8} (h : answerF p m t q = (a1, a2, a3, a4, false)) : a4 = [] := by
  unfold answerF at h
  simp only at h
  split at h
  · simp at h
  split at h
  · simp at h
  split at h
  · simp at h
  split at h
  · simp at h
  split at h
  · simp at h
  · simp only [Prod.mk.injEq] at h
    exact h.2.2.2.1.symm
theorem slice_lenB {w : World} {base : Nat} {e : TypeId} {size n m c : Nat} {a : Option Addr} {xs : List Value} (h : w.ownsRow base e size (.slice a m c) n xs) : m = n := by
  obtain ⟨_, ⟨h1, rfl⟩ | ⟨g, cap, cur, h1, _⟩⟩ := h
  · cases h1; rfl
  · cases h1; rfl
theorem row_cellB {w : World} {base vc j : Nat} {va : Option Addr} {qs : List (List UInt8)} (h : w.ownsRow base 9 1 (.slice va qs.length vc) qs.length (strs qs)) (hj : j < qs.length) : ∃ g, va = some ⟨g, 0, none⟩ ∧ w.cell? ⟨g, j, none⟩ = some (.string (txt (qs.getD j []))) := by
  obtain ⟨g, cap, hv, _⟩ := own_some h (by omega)
  cases hv
  refine ⟨g, rfl, ?_⟩
  have := h.cells (g := g) rfl j (.string (txt (qs.getD j []))) (by simp [strs, List.getD_eq_getElem?_getD, List.getElem?_eq_getElem hj])
  rwa [Addr.add_lit, Nat.zero_add] at this
/-- One call of hears, the power being there or not. -/
theorem rhears_next (rb fb jb : Nat) (a : Pow × List UInt8 × Talk × List UInt8 × Bool) (r : REar) (q : List UInt8) (w : World) (hb : ∃ rt, RBd w rb fb jb a.2.2.2.2 (if a.2.2.2.2 = true then a.1 else pow0) a.2.1 r rt ∧ (a.2.2.2.2 = true → SameT a.2.2.1 rt)) (ho : TOk a.2.1 a.2.2.1) (hq : q.length ≤ 1000) :
    Calls Tryz.prog 80 #[.pointer (some ⟨rb, 0, none⟩), .string (txt q)] w fun e w' => ∃ s, e = .returned (.string (txt s)) ∧ s.length ≤ 200 ∧ (nextA a q).2.2.2.1 = a.2.2.2.1 ++ s ∧ (∃ rt, RBd w' rb fb jb (nextA a q).2.2.2.2 (if (nextA a q).2.2.2.2 = true then (nextA a q).1 else pow0) (nextA a q).2.1 r rt ∧ ((nextA a q).2.2.2.2 = true → SameT (nextA a q).2.2.1 rt)) ∧ G3 w w' rb fb jb := by
  obtain ⟨p', m', t', o', ok⟩ := a
  obtain ⟨rt, h1, h2⟩ := hb
  cases ok
  · simp only [Bool.false_eq_true, if_false] at h1
    refine (rhears_off rb fb jb pow0 m' q w h1.sto).mono ?_
    rintro e w' ⟨rfl, rfl⟩
    exact ⟨[], rfl, by simp, by simp [nextA], ⟨rt, by simpa [nextA] using h1, by simp [nextA]⟩, G3.refl _ _ _ _⟩
  · simp only [if_true] at h1
    obtain ⟨k, hu⟩ := ho.used
    obtain ⟨⟨a1, a2, a3, a4, a5⟩, ha⟩ : ∃ a, answerF p' m' t' q = a := ⟨_, rfl⟩
    have hl := (answerF_ok (p := p') (q := q) ho).2
    simp only at hl
    rw [ha] at hl
    refine (rhears_any rb fb jb p' m' r t' rt q k w h1 (h2 rfl) hu hq _ ha).mono ?_
    rintro e w' ⟨rfl, ⟨rt2, h3, h4⟩, hg⟩
    cases a5
    · have ed := answer_dead ha
      subst ed
      have en : nextA (p', m', t', o', true) q = (a1, a2, a3, o', false) := by simp [nextA, stepA, ha]
      rw [en]
      exact ⟨[], rfl, by simp, by simp, ⟨rt2, h3, h4⟩, hg⟩
    · have en : nextA (p', m', t', o', true) q = (a1, a2, a3, o' ++ a4, true) := by simp [nextA, stepA, ha]
      rw [en]
      exact ⟨a4, rfl, hl, rfl, ⟨rt2, h3, h4⟩, hg⟩
set_option maxRecDepth 100000 in
set_option maxHeartbeats 8000000 in
/-- Hear of the document's board. -/
theorem rbhear_any (rb fb jb : Nat) (b : Brd) (u v : Nat) (bs : ByteArray) (w : World) (h : RB w rb fb jb b u) (hbs : u + bs.size ≤ 4000000000000) (huv : u ≤ v) (hv : ∀ r : REar, r.s.length ≤ u → (rHearF r bs.data.toList).1.s.length ≤ v) :
    Calls Tryz.prog 54 #[.pointer (some ⟨rb, 0, none⟩), .string bs] w fun e w' => e = .returned (.string (txt (bhearF b bs.data.toList).2)) ∧ RB w' rb fb jb (bhearF b bs.data.toList).1 v ∧ G3 w w' rb fb jb := by
  obtain ⟨r, rt, h1, h2, h3⟩ := h.is
  have hok := h.ok
  have heok := h.eok
  have hlen : bs.data.toList.length = bs.size := by rw [Array.length_toList]; rfl
  cases hon : b.on
  · have hB : bhearF b bs.data.toList = (b, []) := by unfold bhearF; rw [if_pos hon]
    rw [hB]
    have c2 := h1.sto.c2
    rw [hon] at c2
    have HH := hideIt (h.le huv)
    clear hv h h1 h2 h3 hok heok hB
    go_enter Tryz.func54, Tryz.ntmps54
    go_wp2
    go_ret
    exact ⟨rfl, HH.out, G3.refl _ _ _ _⟩
  · rw [hon] at h1
    obtain ⟨hE, hT⟩ := h2 hon
    obtain ⟨hsE, hsM⟩ := sameE_hear hE bs.data.toList
    have hml := hearF_msgs heok bs.data.toList
    have HEO := hideIt (hearF_ok heok bs.data.toList)
    have HEAR := hideIt (rhear_o rb 5 r bs w h1.ear (by omega))
    have hrl := hv r h3
    have hct := rHearF_count r bs.data.toList
    rw [hlen] at hct
    obtain ⟨r2, hr2⟩ : ∃ r2, (rHearF r bs.data.toList).1 = r2 := ⟨_, rfl⟩
    rw [← hsM] at HEAR hct
    rw [hr2] at HEAR hsE hrl
    have HY := hideIt (fun p m t o => bhear_yes (b := b) (l := bs.data.toList) (p := p) (m := m) (t := t) (o := o) hon)
    have HN := hideIt (fun p m t o => bhear_no (b := b) (l := bs.data.toList) (p := p) (m := m) (t := t) (o := o) hon)
    obtain ⟨qs, hqs⟩ : ∃ qs, (hearF b.ear bs.data.toList).2 = qs := ⟨_, rfl⟩
    obtain ⟨es, hes⟩ : ∃ es, (hearF b.ear bs.data.toList).1 = es := ⟨_, rfl⟩
    rw [hqs] at HEAR hml HY HN hct
    rw [hes] at hsE HY HEO
    have c2 := h1.sto.c2
    have hlt := h1.sto.lt
    have hqn : qs.length ≤ 4000000000000 := by omega
    have hqi : (qs.length : Int) ≤ 4000000000000 := by omega
    have HL := hideIt (answers_len b.pow b.mem b.talk qs hok)
    have HML := hideIt hml
    have HSE := hideIt (And.intro hsE hrl)
    have HH1 := hideIt (And.intro h1 (And.intro hT hok))
    have HB3 := hideIt hlt
    clear hv huv h h1 h2 h3 hok heok hE hT hsE hsM hml hrl hct hr2 hqs hes
    go_enter Tryz.func54, Tryz.ntmps54
    go_wp2_with fail
    refine HEAR.out.mono ?_
    rintro e w1 ⟨rv, rfl, hear1, hrow1, hw1⟩
    have hbd1 : ∃ rt, RBd w1 rb fb jb true b.pow b.mem r2 rt ∧ SameT b.talk rt := by
      obtain ⟨h1, hT, _⟩ := HH1.out
      refine ⟨rt, ?_, hT⟩
      have hc : ∀ j, j < 5 ∨ 7 ≤ j → w1.cell? ⟨rb, j, none⟩ = w.cell? ⟨rb, j, none⟩ := fun j hj => hw1.cells j (by omega)
      have hbk : ∀ k, k ≠ rb → k < w.heap.size → w1.heap[k]? = w.heap[k]? := fun k hk hkl => hw1.grown.block k hkl (by simpa using hk)
      have hz := hw1.grown.size
      obtain ⟨n1, n2, n3⟩ := h1.sto.ne
      refine ⟨?_, hear1, (hc 7 (by omega)).trans h1.c7, (hc 8 (by omega)).trans h1.c8, (hc 9 (by omega)).trans h1.c9, (hc 10 (by omega)).trans h1.c10, h1.ll, h1.sl, h1.al⟩
      have hs := h1.sto
      refine ⟨?_, ?_, (hc 2 (by omega)).trans hs.c2, (hc 3 (by omega)).trans hs.c3, ?_, hs.fl.kept (hbk fb (fun e => n1 e.symm) hs.lt.2.1), hs.jl.kept (hbk jb (fun e => n2 e.symm) hs.lt.2.2), hs.len, hs.pl, ?_, ⟨by omega, by omega, by omega⟩, hs.ne⟩
      · obtain ⟨c, a, b, e⟩ := hs.c0; exact ⟨c, a, b, (hc 0 (by omega)).trans e⟩
      · obtain ⟨c, a, b, e⟩ := hs.c1; exact ⟨c, a, b, (hc 1 (by omega)).trans e⟩
      · obtain ⟨z, e, f⟩ := hs.c4; exact ⟨z, (hc 4 (by omega)).trans e, f⟩
      · intro k j e
        by_cases hk : k = rb
        · subst hk; rw [hw1.fz j]; exact hs.fz _ j (.inl rfl)
        · have hkl : k < w.heap.size := by rcases e with rfl | rfl | rfl <;> omega
          rw [World.frozen?_of_block (a := ⟨k, j, none⟩) (hbk k hk hkl)]
          exact hs.fz k j e
    have HI : Hid (RInv w w1 rb fb jb (b.pow, b.mem, b.talk, [], true) r2 w.heap.size rv qs) := by
      obtain ⟨rt1, hb1, ht1⟩ := hbd1
      exact ⟨⟨rt1, hb1, fun _ => ht1⟩, HH1.out.2.2, hrow1, G3.grown fb jb hw1.grown⟩
    obtain ⟨va, vm, vc, rfl⟩ := slice_ofR hrow1
    have hvm : vm = qs.length := slice_lenB hrow1
    subst hvm
    clear hear1 hrow1 hw1 hbd1 HEAR
    go_wp2_with fail
    go_loopw [5, 7] (fun o i wr => ∃ (j : Nat) (s : List UInt8), j ≤ qs.length ∧ i = .int .i64 j ∧ o = .string (txt s) ∧ (answersF b.pow b.mem b.talk (qs.take j) []).2.2.2.1 = s ∧ RInv w wr rb fb jb (answersF b.pow b.mem b.talk (qs.take j) []) r2 w.heap.size (.slice va qs.length vc) qs) (fun _ i _ => qs.length - (intOf i).toNat)
    case atStart => exact ⟨0, [], Nat.zero_le _, rfl, rfl, rfl, HI.out⟩
    case round =>
      obtain ⟨j, s, hj, rfl, rfl, hs, hI⟩ := hrel
      have hsl := (HL.out j hj).2
      rw [hs] at hsl
      by_cases hlt : j < qs.length
      · have hji : (j : Int) < (qs.length : Int) := by omega
        have hN := answers_next b.pow b.mem b.talk qs j hlt
        have hqm := HML.out _ (getD_mem hlt)
        obtain ⟨q, hq⟩ : ∃ q, qs.getD j [] = q := ⟨_, rfl⟩
        rw [hq] at hN hqm
        obtain ⟨g, hg⟩ : ∃ g, va = some ⟨g, 0, none⟩ ∧ wr.cell? ⟨g, j, none⟩ = some (.string (txt q)) := by
          obtain ⟨g, hg1, hg2⟩ := row_cellB hI.row hlt
          exact ⟨g, hg1, by rw [hg2, hq]⟩
        obtain ⟨rfl, cj⟩ := hg
        have HC := hideIt (rhears_next rb fb jb _ r2 q wr hI.brd hI.ok (by omega))
        rw [← hN, hs] at HC
        have HI2 := hideIt hI
        obtain ⟨Q, hQ⟩ : ∃ Q, txt q = Q := ⟨_, rfl⟩
        rw [hQ] at HC cj
        have hss : (txt s).size = s.length := txt_size s
        obtain ⟨ST, hST⟩ : ∃ ST, txt s = ST := ⟨_, rfl⟩
        rw [hST] at hss ⊢
        have hSi : (ST.size : Int) ≤ 800000000000000 := by omega
        have HST := hideIt hST
        clear hN hqm hq hI hs hQ hST hss HI
        go_wp2_with fail
        refine HC.out.mono ?_
        rintro e w2 ⟨x, rfl, hx, hout, hbd, hG⟩
        have hxs : (txt x).size = x.length := txt_size x
        obtain ⟨XT, hXT⟩ : ∃ XT, txt x = XT := ⟨_, rfl⟩
        rw [hXT] at hxs ⊢
        have hXi : (XT.size : Int) ≤ 200 := by omega
        have hcat : ST ++ XT = txt (s ++ x) := by rw [← HST.out, ← hXT, txt_append]
        have HZ := hideIt (And.intro hout (And.intro hbd (And.intro hG hcat)))
        clear hout hbd hG hcat hXT hxs hx HC
        go_wp2
        go_roundw
        case rel =>
          refine ⟨j + 1, s ++ x, by omega, by go_num, by rw [HZ.out.2.2.2], HZ.out.1, ?_⟩
          exact ⟨HZ.out.2.1, (HL.out (j + 1) (by omega)).1, HZ.out.2.2.1.row HI2.out.row HB3.out, HI2.out.g.trans HZ.out.2.2.1⟩
        case measure => simp [intOf]; omega
      · have hjn : ¬ (j : Int) < (qs.length : Int) := by omega
        have hje : j = qs.length := by omega
        rw [hje, List.take_length] at hs hI
        have HX := hideIt (And.intro hs hI)
        clear hs hI hje
        go_wp2
        go_ret
        obtain ⟨hs, hI⟩ := HX.out
        obtain ⟨⟨p', m', t', o', ok⟩, ha⟩ : ∃ a, answersF b.pow b.mem b.talk qs [] = a := ⟨_, rfl⟩
        rw [ha] at hs hI
        obtain ⟨rt', hb', ht'⟩ := hI.brd
        simp only at hs
        subst hs
        cases ok
        · rw [HN.out _ _ _ _ ha]
          refine ⟨rfl, ⟨⟨r2, rt', hb', (fun e => by cases e), ?_⟩, ?_, ?_⟩, hI.g⟩
          · exact HSE.out.2
          · exact tok0 hI.ok.used
          · exact eok0
        · rw [HY.out _ _ _ _ ha]
          refine ⟨rfl, ⟨⟨r2, rt', hb', (fun _ => ⟨HSE.out.1, ht' rfl⟩), ?_⟩, hI.ok, HEO.out⟩, hI.g⟩
          exact HSE.out.2
end Go.Proofs.YthokdbcpkmcieaaGreat
namespace Go.Proofs.YthokdbcpkmcieaaGreat
open Go Go.RowKit
attribute [local go_sem ↓] Go.wp_at_zero Go.wp_at_succ
/-- The cells of a new board behind its two lists. -/
def newL : List Value := [.bool true, .int .i64 (-1), .int .i64 0, .bool false, .string ⟨#[]⟩, .bool false, .string ⟨#[]⟩, .int .i64 0, .string ⟨#[]⟩]
/-- A board that is being made: at the first new block; its two rows so far. -/
structure RNew (w wr : World) (n m : Nat) (v u : Value) : Prop where
  c0 : wr.cell? ⟨w.heap.size, 0, none⟩ = some v
  c1 : wr.cell? ⟨w.heap.size, 1, none⟩ = some u
  cs : ∀ j x, newL[j]? = some x → wr.cell? ⟨w.heap.size, j + 2, none⟩ = some x
  fz : ∀ j, wr.frozen? ⟨w.heap.size, j, none⟩ = false
  r0 : wr.ownsRow (w.heap.size + 1) 5 1 v n (byteVs (List.replicate n 255))
  r1 : wr.ownsRow (w.heap.size + 1) 5 1 u m (byteVs (List.replicate m 255))
  ap : ∀ g, v.ownBlock = some g → u.ownBlock ≠ some g
  below : Below w.heap.size w wr
  lt : w.heap.size < wr.heap.size
theorem byteVs_snoc (n : Nat) : byteVs (List.replicate n 255) ++ [.int .u8 255] = byteVs (List.replicate (n + 1) 255) := by
  rw [List.replicate_succ', byteVs, byteVs, List.map_append]
  rfl
theorem own_set {w : World} {base e : Nat} {size n b j : Nat} {v x : Value} {xs : List Value} (h : w.ownsRow base e size v n xs) (hb : b < base) : (w.setCell ⟨b, j, none⟩ x).ownsRow base e size v n xs :=
  own_atE h (fun k hk => Below.heap_setCell _ _ _ _ (by have := (h.lt k hk).1; simp; omega))
theorem RNew.step0 {w wr wn : World} {n : Nat} {v v' : Value} {o : Obj} (h : RNew w wr n 0 v (.slice none 0 0)) (hown : wn.ownsRow (w.heap.size + 1) 5 1 v' (n + 1) (byteVs (List.replicate n 255) ++ [.int .u8 255])) (hgr : (wr.alloc o).grownBy wn v.ownBlock) :
    wn.cell? ⟨w.heap.size, 0, none⟩ = some v ∧ wn.frozen? ⟨w.heap.size, 0, none⟩ = false ∧ RNew w (wn.setCell ⟨w.heap.size, 0, none⟩ v') (n + 1) 0 v' (.slice none 0 0) := by
  have hlt := h.lt
  have hz : wr.heap.size + 1 ≤ wn.heap.size := by have := hgr.size; simpa using this
  have key : ∀ k, k ≤ w.heap.size → wn.heap[k]? = wr.heap[k]? := fun k hk => by
    rw [hgr.block k (by simp; omega) (fun e => by have := (h.r0.lt k e.symm).1; omega), Below.heap_alloc _ _ _ (by omega)]
  have hc : ∀ j, wn.cell? ⟨w.heap.size, j, none⟩ = wr.cell? ⟨w.heap.size, j, none⟩ := fun j => World.cell?_of_block (a := ⟨w.heap.size, j, none⟩) (key _ (Nat.le_refl _))
  have hf : ∀ j, wn.frozen? ⟨w.heap.size, j, none⟩ = false := fun j => (World.frozen?_of_block (a := ⟨w.heap.size, j, none⟩) (key _ (Nat.le_refl _))).trans (h.fz j)
  refine ⟨(hc 0).trans h.c0, hf 0, ?_⟩
  rw [byteVs_snoc] at hown
  refine ⟨World.cell?_setCell_same _ _ _ ((hc 0).trans h.c0), (World.cell?_setCell_other _ _ _ _ (by simp)).trans ((hc 1).trans h.c1), fun j x hx => (World.cell?_setCell_other _ _ _ _ (by simp)).trans ((hc _).trans (h.cs j x hx)), fun j => by simp [hf j], own_set hown (by omega), World.ownsRow_nil _ _ _ _, fun g _ e => by simp [Value.ownBlock] at e, ?_, by simp [World.setCell]; omega⟩
  exact ⟨hgr.os.trans h.below.os, hgr.tape.trans h.below.tape, hgr.output.trans h.below.output, by simp [World.setCell]; omega, fun k hk => (heap_setCell_other wn ⟨w.heap.size, 0, none⟩ k v' (by simp; omega)).trans ((key k (by omega)).trans (h.below.block k hk))⟩
theorem RNew.step1 {w wr wn : World} {m : Nat} {v u u' : Value} {o : Obj} (h : RNew w wr 1024 m v u) (hown : wn.ownsRow (w.heap.size + 1) 5 1 u' (m + 1) (byteVs (List.replicate m 255) ++ [.int .u8 255])) (hgr : (wr.alloc o).grownBy wn u.ownBlock) (hloc : u'.ownBlock = u.ownBlock ∨ u'.ownBlock = some (wr.alloc o).heap.size) :
    wn.cell? ⟨w.heap.size, 1, none⟩ = some u ∧ wn.frozen? ⟨w.heap.size, 1, none⟩ = false ∧ RNew w (wn.setCell ⟨w.heap.size, 1, none⟩ u') 1024 (m + 1) v u' := by
  have hlt := h.lt
  have hz : wr.heap.size + 1 ≤ wn.heap.size := by have := hgr.size; simpa using this
  have key : ∀ k, k ≤ w.heap.size → wn.heap[k]? = wr.heap[k]? := fun k hk => by
    rw [hgr.block k (by simp; omega) (fun e => by have := (h.r1.lt k e.symm).1; omega), Below.heap_alloc _ _ _ (by omega)]
  have hc : ∀ j, wn.cell? ⟨w.heap.size, j, none⟩ = wr.cell? ⟨w.heap.size, j, none⟩ := fun j => World.cell?_of_block (a := ⟨w.heap.size, j, none⟩) (key _ (Nat.le_refl _))
  have hf : ∀ j, wn.frozen? ⟨w.heap.size, j, none⟩ = false := fun j => (World.frozen?_of_block (a := ⟨w.heap.size, j, none⟩) (key _ (Nat.le_refl _))).trans (h.fz j)
  have hv : wn.ownsRow (w.heap.size + 1) 5 1 v 1024 (byteVs (List.replicate 1024 255)) := own_atE h.r0 (fun k hk => by
    have hkl := (h.r0.lt k hk).2
    rw [hgr.block k (by simp; omega) (fun e => h.ap k hk e.symm), Below.heap_alloc _ _ _ hkl])
  refine ⟨(hc 1).trans h.c1, hf 1, ?_⟩
  rw [byteVs_snoc] at hown
  refine ⟨(World.cell?_setCell_other _ _ _ _ (by simp)).trans ((hc 0).trans h.c0), World.cell?_setCell_same _ _ _ ((hc 1).trans h.c1), fun j x hx => (World.cell?_setCell_other _ _ _ _ (by simp)).trans ((hc _).trans (h.cs j x hx)), fun j => by simp [hf j], own_set hv (by omega), own_set hown (by omega), fun g hg e => ?_, ?_, by simp [World.setCell]; omega⟩
  · rcases hloc with e2 | e2
    · exact h.ap g hg (e2.symm.trans e)
    · rw [e] at e2
      have := (h.r0.lt g hg).2
      simp at e2
      omega
  exact ⟨hgr.os.trans h.below.os, hgr.tape.trans h.below.tape, hgr.output.trans h.below.output, by simp [World.setCell]; omega, fun k hk => (heap_setCell_other wn ⟨w.heap.size, 1, none⟩ k u' (by simp; omega)).trans ((key k (by omega)).trans (h.below.block k hk))⟩
theorem own_frozen {w : World} {base g n cap : Nat} {l : List Value} (h : w.ownsRow base 5 1 (.slice (some ⟨g, 0, none⟩) n cap) n l) (j : Nat) : w.frozen? ⟨g, j, none⟩ = false := by
  obtain ⟨_, ⟨h1, _⟩ | ⟨g', cap', cur, h1, hg, hh, _⟩⟩ := h
  · cases h1
  · cases h1
    simp [World.frozen?, hh]
theorem own_cap {w : World} {base g n cap : Nat} {l : List Value} (h : w.ownsRow base 5 1 (.slice (some ⟨g, 0, none⟩) n cap) n l) : n ≤ cap ∧ cap ≤ 9223372036854775807 := by
  obtain ⟨_, ⟨h1, _⟩ | ⟨g', cap', cur, h1, hg, hh, h3, h4, _⟩⟩ := h
  · cases h1
  · cases h1
    unfold maxLen at h4
    exact ⟨h3, by omega⟩
/-- A new board of the document, its two lists behind it. -/
def RNewIs (w' : World) (rb : Nat) : Prop := ∃ fb jb, rb < fb ∧ rb < jb ∧ RB w' rb fb jb brd0 0
theorem RNew.board {w wr : World} {v u : Value} (h : RNew w wr 1024 240 v u) : RNewIs wr w.heap.size := by
  obtain ⟨fb, c, rfl, h1, h2⟩ := own_some h.r0 (by omega)
  obtain ⟨jb, c', rfl, h3, h4⟩ := own_some h.r1 (by omega)
  have k0 := own_cap h.r0
  have k1 := own_cap h.r1
  have hne : fb ≠ jb := fun e => h.ap fb rfl (by rw [e]; rfl)
  have hmt : mem0.take 1024 = List.replicate 1024 255 := by unfold mem0; rw [List.take_replicate]; rfl
  have hmd : mem0.drop 1024 = List.replicate 240 255 := by unfold mem0; rw [List.drop_replicate]
  refine ⟨fb, jb, by omega, by omega, ⟨⟨⟨false, []⟩, ⟨false, [], 0, []⟩, ⟨⟨⟨c, k0.1, k0.2, h.c0⟩, ⟨c', k1.1, k1.2, h.c1⟩, h.cs 0 _ rfl, h.cs 1 _ rfl, ⟨0, h.cs 2 _ rfl, fun e => by cases e⟩, by rw [show brd0.mem = mem0 from rfl, hmt]; exact own_bytes h.r0, by rw [show brd0.mem = mem0 from rfl, hmd]; exact own_bytes h.r1, mem0_len, by decide, ?_, ⟨h.lt, h2, h4⟩, ⟨by omega, by omega, hne⟩⟩, ⟨h.cs 3 _ rfl, h.cs 4 _ rfl, h.fz, h.lt⟩, h.cs 5 _ rfl, h.cs 6 _ rfl, h.cs 7 _ rfl, h.cs 8 _ rfl, by decide, by decide, by decide⟩, fun _ => ⟨.inl ⟨rfl, rfl⟩, rfl, fun e => by cases e⟩, by simp⟩, tok0 ⟨0, used_0⟩, eok0⟩⟩
  intro b j e
  rcases e with rfl | rfl | rfl
  · exact h.fz j
  · exact own_frozen h.r0 j
  · exact own_frozen h.r1 j
set_option maxRecDepth 100000 in
set_option maxHeartbeats 4000000 in
theorem rnew_any (w : World) : Calls Tryz.prog 8 #[] w fun e w' => e = .returned (.pointer (some ⟨w.heap.size, 0, none⟩)) ∧ RNewIs w' w.heap.size ∧ Below w.heap.size w w' := by
  obtain ⟨i0, hi, hz0, hz1, hz2⟩ := info_of Tryz.infoU8
  go_enter Tryz.func8, Tryz.ntmps8
  go_wp2_with fail
  go_loopw [2] (fun i wr => ∃ (j : Nat) (v : Value), j ≤ 1024 ∧ i = .int .i64 j ∧ RNew w wr j 0 v (.slice none 0 0)) (fun i _ => 1024 - (intOf i).toNat)
  case atStart =>
    refine ⟨0, .slice none 0 0, by omega, rfl, ?_⟩
    have hc : ∀ j x, ([Value.slice none 0 0, Value.slice none 0 0] ++ newL)[j]? = some x → (w.alloc (.cells ([Value.slice none 0 0, Value.slice none 0 0] ++ newL).toArray 80)).cell? ⟨w.heap.size, j, none⟩ = some x := fun j x hx => by
      rw [cell_of_row _ _ j _ _ (0, 0) (heap_alloc_new w _)]
      simpa using hx
    refine ⟨hc 0 _ rfl, hc 1 _ rfl, fun j x hx => hc (j + 2) x (by simpa using hx), fun j => ?_, World.ownsRow_nil _ _ _ _, World.ownsRow_nil _ _ _ _, fun g hg => by simp [Value.ownBlock] at hg, (Below.refl _ _).alloc (Nat.le_refl _) _, by simp⟩
    rw [World.frozen?_alloc_mark w _ 80 0 0 j]
    simp
  case round =>
    obtain ⟨j, v, hj, rfl, hN⟩ := hrel
    have hbl := hN.lt
    by_cases hlt : j < 1024
    · have hji : (j : Int) < 1024 := by omega
      have c0 := hN.c0
      obtain ⟨va, vm, vc, rfl⟩ := slice_ofR hN.r0
      have HN := hideIt hN
      clear hN
      go_wp2_with (at_builtin; refine wpList_append_own_at _ rfl _ _ 24 rfl (w.heap.size + 1) 5 i0 _ 1 1 Tryz.underlying24 hi hz0 hz1 hz2 rfl (by decide) _ j _ rfl (HN.out.r0.alloc _) ⟨wr.heap.size, 0, none⟩ 1 1 [.int .u8 255] rfl rfl (cell_one_new _ _ _) (by intro u hu; simp at hu; subst hu; rfl) (by unfold maxLen; omega) (by omega) (by rw [World.alloc_size]; omega) ?_; intro v' wn hown hgr _ hloc; obtain ⟨a', n', c', rfl⟩ := slice_ofR hown; obtain ⟨d0, f0, hN2⟩ := HN.out.step0 hown hgr; have HN2 := hideIt hN2; have hlw : w.heap.size < wn.heap.size := (by have := hgr.size; simp at this; omega); clear hown hgr hloc hN2 c0)
      go_roundw
      case rel => exact ⟨j + 1, _, by omega, by go_num, HN2.out⟩
      case measure => simp [intOf]; omega
    · have hje : j = 1024 := by omega
      have hjn : ¬ (j : Int) < 1024 := by omega
      rw [hje] at hN
      have HN := hideIt hN
      clear hN hje
      go_wp2_with fail
      go_loopw [3] (fun i wr => ∃ (j : Nat) (u : Value), j ≤ 240 ∧ i = .int .i64 j ∧ RNew w wr 1024 j v u) (fun i _ => 240 - (intOf i).toNat)
      case atStart => exact ⟨0, _, by omega, rfl, HN.out⟩
      case round =>
        clear HN
        obtain ⟨j, u, hj, rfl, hN⟩ := hrel
        have hbl := hN.lt
        by_cases hlt : j < 240
        · have hji : (j : Int) < 240 := by omega
          have c1 := hN.c1
          obtain ⟨va, vm, vc, rfl⟩ := slice_ofR hN.r1
          have HN := hideIt hN
          clear hN
          go_wp2_with (at_builtin; refine wpList_append_own_at _ rfl _ _ 24 rfl (w.heap.size + 1) 5 i0 _ 1 1 Tryz.underlying24 hi hz0 hz1 hz2 rfl (by decide) _ j _ rfl (HN.out.r1.alloc _) ⟨wr.heap.size, 0, none⟩ 1 1 [.int .u8 255] rfl rfl (cell_one_new _ _ _) (by intro u hu; simp at hu; subst hu; rfl) (by unfold maxLen; omega) (by omega) (by rw [World.alloc_size]; omega) ?_; intro v' wn hown hgr _ hloc; obtain ⟨a', n', c', rfl⟩ := slice_ofR hown; obtain ⟨d0, f0, hN2⟩ := HN.out.step1 hown hgr hloc; have HN2 := hideIt hN2; have hlw : w.heap.size < wn.heap.size := (by have := hgr.size; simp at this; omega); clear hown hgr hloc hN2 c1)
          go_roundw
          case rel => exact ⟨j + 1, _, by omega, by go_num, HN2.out⟩
          case measure => simp [intOf]; omega
        · have hje : j = 240 := by omega
          have hjn : ¬ (j : Int) < 240 := by omega
          rw [hje] at hN
          have HN := hideIt hN
          clear hN hje
          go_wp2
          go_ret
          exact ⟨rfl, HN.out.board, HN.out.below⟩
end Go.Proofs.YthokdbcpkmcieaaGreat
namespace Go.Proofs.YthokdbcpkmcieaaGreat
open Go Go.RowKit
attribute [local go_sem ↓] Go.wp_at_zero Go.wp_at_succ
theorem RSto.begun {w : World} {rb fb jb : Nat} {on : Bool} {p : Pow} {mem : List UInt8} (h : RSto w rb fb jb on p mem) : RSto ((w.setCell ⟨rb, 2, none⟩ (.bool true)).setCell ⟨rb, 3, none⟩ (.int .i64 (-1))) rb fb jb true pow0 mem := by
  obtain ⟨n1, n2, n3⟩ := h.ne
  have hc : ∀ j, j ≠ 2 → j ≠ 3 → ((w.setCell ⟨rb, 2, none⟩ (.bool true)).setCell ⟨rb, 3, none⟩ (.int .i64 (-1))).cell? ⟨rb, j, none⟩ = w.cell? ⟨rb, j, none⟩ := fun j h2 h3 => by
    rw [World.cell?_setCell_other _ _ _ _ (by simp <;> omega), World.cell?_setCell_other _ _ _ _ (by simp <;> omega)]
  have hz : ((w.setCell ⟨rb, 2, none⟩ (.bool true)).setCell ⟨rb, 3, none⟩ (.int .i64 (-1))).heap.size = w.heap.size := by simp [World.setCell]
  refine ⟨?_, ?_, ?_, ?_, ?_, bytes_set_other (bytes_set_other h.fl (fun e => n1 e.symm)) (fun e => n1 e.symm), bytes_set_other (bytes_set_other h.jl (fun e => n2 e.symm)) (fun e => n2 e.symm), h.len, by decide, fun b j e => by simp [h.fz b j e], by rw [hz]; exact h.lt, h.ne⟩
  · obtain ⟨c, a, b, e⟩ := h.c0; exact ⟨c, a, b, (hc 0 (by omega) (by omega)).trans e⟩
  · obtain ⟨c, a, b, e⟩ := h.c1; exact ⟨c, a, b, (hc 1 (by omega) (by omega)).trans e⟩
  · rw [World.cell?_setCell_other _ _ _ _ (by simp)]
    exact World.cell?_setCell_same _ _ _ h.c2
  · exact World.cell?_setCell_same _ _ _ ((World.cell?_setCell_other _ _ _ _ (by simp)).trans h.c3)
  · obtain ⟨z, e, _⟩ := h.c4; exact ⟨z, (hc 4 (by omega) (by omega)).trans e, fun e => by cases e⟩
theorem RSto.cutTo {w : World} {rb fb jb : Nat} {p : Pow} {mem : List UInt8} (h : RSto w rb fb jb true p mem) (n : Nat) (hn : n ≤ 9223372036854775807) (k : UInt8) : RSto ((w.setCell ⟨rb, 3, none⟩ (.int .i64 (n : Int))).setCell ⟨rb, 4, none⟩ (.int .i64 (k.toNat : Int))) rb fb jb true ⟨true, n, k⟩ mem := by
  obtain ⟨n1, n2, n3⟩ := h.ne
  have hc : ∀ j, j ≠ 3 → j ≠ 4 → ((w.setCell ⟨rb, 3, none⟩ (.int .i64 (n : Int))).setCell ⟨rb, 4, none⟩ (.int .i64 (k.toNat : Int))).cell? ⟨rb, j, none⟩ = w.cell? ⟨rb, j, none⟩ := fun j h2 h3 => by
    rw [World.cell?_setCell_other _ _ _ _ (by simp <;> omega), World.cell?_setCell_other _ _ _ _ (by simp <;> omega)]
  have hz : ((w.setCell ⟨rb, 3, none⟩ (.int .i64 (n : Int))).setCell ⟨rb, 4, none⟩ (.int .i64 (k.toNat : Int))).heap.size = w.heap.size := by simp [World.setCell]
  refine ⟨?_, ?_, (hc 2 (by omega) (by omega)).trans h.c2, ?_, ⟨(k.toNat : Int), ?_, fun _ => rfl⟩, bytes_set_other (bytes_set_other h.fl (fun e => n1 e.symm)) (fun e => n1 e.symm), bytes_set_other (bytes_set_other h.jl (fun e => n2 e.symm)) (fun e => n2 e.symm), h.len, hn, fun b j e => by simp [h.fz b j e], by rw [hz]; exact h.lt, h.ne⟩
  · obtain ⟨c, a, b, e⟩ := h.c0; exact ⟨c, a, b, (hc 0 (by omega) (by omega)).trans e⟩
  · obtain ⟨c, a, b, e⟩ := h.c1; exact ⟨c, a, b, (hc 1 (by omega) (by omega)).trans e⟩
  · rw [World.cell?_setCell_other _ _ _ _ (by simp)]
    exact World.cell?_setCell_same _ _ _ h.c3
  · obtain ⟨z, e, _⟩ := h.c4
    exact World.cell?_setCell_same _ _ _ ((World.cell?_setCell_other _ _ _ _ (by simp)).trans e)
theorem mask_is (m : Int) : Int.tmod (Int.tmod m 256 + 256) 256 = ((mk8 m).toNat : Int) ∧ -256 < Int.tmod m 256 ∧ Int.tmod m 256 < 256 := by
  have hk : ((mk8 m).toNat : Int) = m % 256 := by
    unfold mk8
    rw [UInt8.toNat_ofNat']
    omega
  have h3 : Int.tmod m 256 = m % 256 ∨ Int.tmod m 256 = m % 256 - 256 := by
    rw [Int.tmod_eq_emod]
    split
    · left; omega
    · right; rfl
  have h4 : -256 < Int.tmod m 256 ∧ Int.tmod m 256 < 256 := ⟨Int.lt_tmod_of_pos m (by decide), Int.tmod_lt_of_pos m (by decide)⟩
  rw [hk, Int.tmod_eq_emod_of_nonneg (by omega)]
  omega
set_option maxRecDepth 100000 in
set_option maxHeartbeats 2000000 in
theorem rcut_any (rb fb jb : Nat) (b : Brd) (u : Nat) (n m : Int) (hn1 : -9223372036854775808 ≤ n) (hn2 : n ≤ 9223372036854775807) (w : World) (h : RB w rb fb jb b u) :
    Calls Tryz.prog 24 #[.pointer (some ⟨rb, 0, none⟩), .int .i64 n, .int .i64 m] w fun e w' => e = .returned (.tuple #[]) ∧ RB w' rb fb jb (cutF b n (mk8 m)) u ∧ G3 w w' rb fb jb := by
  obtain ⟨r, rt, h1, h2, h3⟩ := h.is
  have hok := h.ok
  have heok := h.eok
  cases hon : b.on
  · have hB : cutF b n (mk8 m) = b := by unfold cutF; rw [if_neg (by rw [hon]; simp)]
    rw [hB]
    have c2 := h1.sto.c2
    rw [hon] at c2
    have HH := hideIt h
    clear h h1 h2 h3 hok heok hB
    go_enter Tryz.func24, Tryz.ntmps24
    go_wp2
    go_end0
    exact ⟨rfl, HH.out, G3.refl _ _ _ _⟩
  · have hB : cutF b n (mk8 m) = ⟨true, ⟨true, n.toNat, mk8 m⟩, b.mem, b.ear, b.talk⟩ := by unfold cutF; rw [if_pos hon]
    rw [hB]
    rw [hon] at h1
    have c2 := h1.sto.c2
    have c3 := h1.sto.c3
    obtain ⟨z4, c4, _⟩ := h1.sto.c4
    have f3 := h1.sto.fz rb 3 (.inl rfl)
    have f4 := h1.sto.fz rb 4 (.inl rfl)
    obtain ⟨hmk, hmk1, hmk2⟩ := mask_is m
    obtain ⟨z3, hz3⟩ : ∃ z3 : Int, (if b.pow.cut = true then (b.pow.left : Int) else -1) = z3 := ⟨_, rfl⟩
    rw [hz3] at c3
    have hmax : max n 0 = (n.toNat : Int) := by omega
    have hs2 := h1.sto.cutTo n.toNat (by omega) (mk8 m)
    have hk2 : K3 w ((w.setCell ⟨rb, 3, none⟩ (.int .i64 (n.toNat : Int))).setCell ⟨rb, 4, none⟩ (.int .i64 ((mk8 m).toNat : Int))) rb fb jb := (K3.set w rb fb jb rb 3 _ (.inl rfl) (fun _ => by omega)).trans (K3.set _ rb fb jb rb 4 _ (.inl rfl) (fun _ => by omega))
    have HR := hideIt (And.intro (h1.k3 hs2 hk2) hk2.g3)
    obtain ⟨M, hM⟩ : ∃ M, ((mk8 m).toNat : Int) = M := ⟨_, rfl⟩
    obtain ⟨N, hN⟩ : ∃ N, (n.toNat : Int) = N := ⟨_, rfl⟩
    obtain ⟨Y, hY⟩ : ∃ Y, Int.tmod m 256 = Y := ⟨_, rfl⟩
    rw [hY] at hmk hmk1 hmk2
    rw [hM] at HR hmk
    rw [hN] at HR hmax
    have hMb : 0 ≤ M ∧ M < 256 := by rw [← hM]; have := (mk8 m).toNat_lt; omega
    have HH := hideIt (And.intro (h2 hon) (And.intro h3 (And.intro hok heok)))
    clear h h1 h2 h3 hok heok hB hs2 hk2 hM hN hz3
    go_enter Tryz.func24, Tryz.ntmps24
    go_wp2
    go_end0
    exact ⟨rfl, ⟨⟨r, rt, HR.out.1, fun _ => HH.out.1, HH.out.2.1⟩, HH.out.2.2.1, HH.out.2.2.2⟩, HR.out.2⟩
set_option maxRecDepth 100000 in
set_option maxHeartbeats 2000000 in
theorem rboot_any (rb fb jb : Nat) (b : Brd) (u : Nat) (w : World) (h : RB w rb fb jb b u) :
    Calls Tryz.prog 26 #[.pointer (some ⟨rb, 0, none⟩)] w fun e w' => e = .returned (.tuple #[]) ∧ RB w' rb fb jb (bootF b) u ∧ G3 w w' rb fb jb := by
  obtain ⟨r, rt, h1, h2, h3⟩ := h.is
  have hused := h.ok.used
  have c2 := h1.sto.c2
  have c3 := h1.sto.c3
  obtain ⟨z3, hz3⟩ : ∃ z3 : Int, (if b.pow.cut = true then (b.pow.left : Int) else -1) = z3 := ⟨_, rfl⟩
  rw [hz3] at c3
  have c5 := h1.ear.c0
  have c6 := h1.ear.c1
  have c7 := h1.c7
  have f2 := h1.sto.fz rb 2 (.inl rfl)
  have f3 := h1.sto.fz rb 3 (.inl rfl)
  have f5 := h1.sto.fz rb 5 (.inl rfl)
  have f6 := h1.sto.fz rb 6 (.inl rfl)
  have f7 := h1.sto.fz rb 7 (.inl rfl)
  have hrl := h1.sto.lt.1
  have hs2 := h1.sto.begun
  have hk2 : K3 w ((w.setCell ⟨rb, 2, none⟩ (.bool true)).setCell ⟨rb, 3, none⟩ (.int .i64 (-1))) rb fb jb := (K3.set w rb fb jb rb 2 _ (.inl rfl) (fun _ => by omega)).trans (K3.set _ rb fb jb rb 3 _ (.inl rfl) (fun _ => by omega))
  have r2 := (h1.k3 hs2 hk2).setKn false
  have G2 := hk2.g3.trans (G3.set _ rb fb jb 7 (.bool false))
  obtain ⟨W2, hW2⟩ : ∃ W2, ((w.setCell ⟨rb, 2, none⟩ (.bool true)).setCell ⟨rb, 3, none⟩ (.int .i64 (-1))).setCell ⟨rb, 7, none⟩ (.bool false) = W2 := ⟨_, rfl⟩
  rw [hW2] at r2 G2
  have r3 : RBd ((W2.setCell ⟨rb, 5, none⟩ (.bool false)).setCell ⟨rb, 6, none⟩ (.string ⟨#[]⟩)) rb fb jb true pow0 b.mem ⟨false, []⟩ ⟨false, rt.ses, rt.last, rt.ans⟩ := by
    have hc : ∀ j, 7 ≤ j → ((W2.setCell ⟨rb, 5, none⟩ (.bool false)).setCell ⟨rb, 6, none⟩ (.string ⟨#[]⟩)).cell? ⟨rb, j, none⟩ = W2.cell? ⟨rb, j, none⟩ := fun j hj => by
      rw [World.cell?_setCell_other _ _ _ _ (by simp <;> omega), World.cell?_setCell_other _ _ _ _ (by simp <;> omega)]
    refine ⟨(r2.sto.setRest 5 _ (by omega)).setRest 6 _ (by omega), ⟨?_, ?_, fun j => by simp [r2.sto.fz rb j (.inl rfl)], by simpa [World.setCell] using r2.sto.lt.1⟩, (hc 7 (by omega)).trans r2.c7, (hc 8 (by omega)).trans r2.c8, (hc 9 (by omega)).trans r2.c9, (hc 10 (by omega)).trans r2.c10, r2.ll, r2.sl, r2.al⟩
    · rw [World.cell?_setCell_other _ _ _ _ (by simp)]; exact World.cell?_setCell_same _ _ _ r2.ear.c0
    · exact World.cell?_setCell_same _ _ _ ((World.cell?_setCell_other _ _ _ _ (by simp)).trans r2.ear.c1)
  have G3' := G2.trans ((G3.set W2 rb fb jb 5 (.bool false)).trans (G3.set _ rb fb jb 6 (.string ⟨#[]⟩)))
  have HR := hideIt (And.intro r3 G3')
  rw [← hW2] at HR
  have HU := hideIt hused
  obtain ⟨S6, hS6⟩ : ∃ S6, txt r.s = S6 := ⟨_, rfl⟩
  rw [hS6] at c6
  clear h h1 h2 h3 hs2 hk2 r2 G2 r3 G3' hW2 hz3 hused hS6
  go_enter Tryz.func26, Tryz.ntmps26
  go_wp2
  go_end0
  exact ⟨rfl, ⟨⟨_, _, HR.out.1, fun _ => ⟨.inl ⟨rfl, rfl⟩, rfl, fun e => by cases e⟩, by simp⟩, tok0 HU.out, eok0⟩, HR.out.2⟩
theorem ron_any (rb fb jb : Nat) (b : Brd) (u : Nat) (w : World) (h : RB w rb fb jb b u) :
    Calls Tryz.prog 28 #[.pointer (some ⟨rb, 0, none⟩)] w fun e w' => e = .returned (.bool b.on) ∧ w' = w := by
  obtain ⟨r, rt, h1, _⟩ := h.is
  have c2 := h1.sto.c2
  clear h h1
  go_enter Tryz.func28, Tryz.ntmps28
  go_wp2
  go_ret
  exact ⟨rfl, rfl⟩
theorem rflash_any (rb fb jb : Nat) (b : Brd) (u : Nat) (w : World) (h : RB w rb fb jb b u) :
    Calls Tryz.prog 30 #[.pointer (some ⟨rb, 0, none⟩)] w fun e w' => e = .returned (.string (txt (b.mem.take 1024))) ∧ w' = w := by
  obtain ⟨r, rt, h1, _⟩ := h.is
  obtain ⟨c, hc1, hc2, c0⟩ := h1.sto.c0
  have hcv := h1.sto.conv (lb := fb) (n := 1024) (o := 0) (.inl ⟨rfl, rfl, rfl⟩) 0 1024 c (by omega)
  have hw : win b.mem (0 + 0) 1024 = b.mem.take 1024 := by unfold win; simp
  rw [hw] at hcv
  obtain ⟨T, hT⟩ : ∃ T, txt (b.mem.take 1024) = T := ⟨_, rfl⟩
  rw [hT] at hcv ⊢
  clear h h1 hw hT
  go_enter Tryz.func30, Tryz.ntmps30
  go_wp2
  go_ret
  exact ⟨rfl, rfl⟩
theorem rbits_any (rb fb jb : Nat) (b : Brd) (u : Nat) (w : World) (h : RB w rb fb jb b u) :
    Calls Tryz.prog 32 #[.pointer (some ⟨rb, 0, none⟩)] w fun e w' => e = .returned (.int .i64 (bitsF b.mem : Int)) ∧ Below w.heap.size w w' := by
  obtain ⟨r, rt, h1, _⟩ := h.is
  exact rBurnt_any rb fb jb b.on b.pow b.mem w h1.sto
end Go.Proofs.YthokdbcpkmcieaaGreat
