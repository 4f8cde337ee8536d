/- The walk of the document's hears. -/
import Derived.Test.YthokdbcpkmcieaaGreatRBoA
namespace Go.Proofs.YthokdbcpkmcieaaGreat
open Go Go.RowKit
attribute [local go_sem ↓] Go.wp_at_zero Go.wp_at_succ
/-- The two boards know the same of those who speak to them. -/
def SameT (t : Talk) (r : RTk) : Prop := r.kn = t.opn ∧ (t.opn = true → r.ses.length = 2 ∧ sesOf r.ses = t.ses ∧ r.last = t.num.toNat ∧ r.ans = t.ans)
theorem isEmpty_no (r : ByteArray) (h : 0 < r.size) : r.toList.isEmpty = false := by
  rw [ByteArray.toList_eq]
  cases hr : r.data.toList with
  | nil =>
    have : r.size = r.data.toList.length := by rw [Array.length_toList]; rfl
    rw [this, hr] at h
    simp at h
  | cons a l => rfl
theorem txt_take {q : List UInt8} {S : ByteArray} (hS : txt q = S) (k : Nat) : S.extract 0 k = txt (q.take k) := by
  subst hS
  have := baE_take (txt q) k
  rw [txt_toList] at this
  rw [← this, txt_ba]
/-- Off: nothing. -/
theorem rhears_off (rb fb jb : Nat) (p : Pow) (mem : List UInt8) (q : List UInt8) (w : World) (h : RSto w rb fb jb false p mem) :
    Calls Tryz.prog 80 #[.pointer (some ⟨rb, 0, none⟩), .string (txt q)] w fun e w' => e = .returned (.string ⟨#[]⟩) ∧ w' = w := by
  have c2 := h.c2
  obtain ⟨S, hS⟩ : ∃ S, txt q = S := ⟨_, rfl⟩
  rw [hS]
  clear h hS
  go_enter Tryz.func80, Tryz.ntmps80
  go_wp2
  go_ret
  exact ⟨rfl, rfl⟩
set_option maxRecDepth 100000 in
set_option maxHeartbeats 4000000 in
theorem rhears_none (rb fb jb : Nat) (p : Pow) (mem : List UInt8) (q : List UInt8) (w : World) (h : RSto w rb fb jb true p mem) (ha : askOk q = false) (hq : q.length ≤ 1000) :
    Calls Tryz.prog 80 #[.pointer (some ⟨rb, 0, none⟩), .string (txt q)] w fun e w' => e = .returned (.string ⟨#[]⟩) ∧ w' = w := by
  have c2 := h.c2
  have hno : ¬ (4 ≤ q.length ∧ q.length = asksF (q.getD 3 0)) := fun e => by rw [ask_len.1 e] at ha; cases ha
  obtain ⟨S, hS⟩ : ∃ S, txt q = S := ⟨_, rfl⟩
  have hsz : S.size = q.length := by rw [← hS, txt_size]
  have hSi : (S.size : Int) ≤ 1000 := by omega
  rw [hS]
  by_cases h4 : 4 ≤ q.length
  · have hlt : ¬ (S.size : Int) < 4 := by omega
    have h3S : 3 < S.size := by omega
    obtain ⟨x, hx⟩ : ∃ x, q.getD 3 0 = x := ⟨_, rfl⟩
    have hS3 : S[3] = x := (txt_at hS h3S).trans hx
    have HA := hideIt (fun w' => rasks_any x w')
    have hxl := x.toNat_lt
    obtain ⟨n, hn⟩ : ∃ n, asksF x = n := ⟨_, rfl⟩
    rw [hn] at HA
    rw [hx, hn] at hno
    have hne : ((S.size : Int) == (n : Int)) = false := by simp; omega
    have hne2 : ((S.size : Int) != (n : Int)) = true := by simp; omega
    have h3i : (3 : Int) < (S.size : Int) := by omega
    clear h hS hsz hno ha hq h4 hx hn
    go_enter Tryz.func80, Tryz.ntmps80
    go_wp2_with fail
    refine (HA.out _).mono ?_
    rintro e w1 ⟨rfl, rfl⟩
    go_wp2
    go_ret
    exact ⟨rfl, rfl⟩
  · have hlt : (S.size : Int) < 4 := by omega
    clear h hS hsz hno ha hq h4
    go_enter Tryz.func80, Tryz.ntmps80
    go_wp2
    go_ret
    exact ⟨rfl, rfl⟩
set_option maxRecDepth 100000 in
set_option maxHeartbeats 8000000 in
/-- OPEN. -/
theorem rhears_open (rb fb jb : Nat) (p : Pow) (mem : List UInt8) (r : REar) (t : RTk) (q : List UInt8) (w : World) (h : RBd w rb fb jb true p mem r t) (h3 : q.getD 3 0 = 1) (hl : q.length = 4) :
    Calls Tryz.prog 80 #[.pointer (some ⟨rb, 0, none⟩), .string (txt q)] w fun e w' => e = .returned (.string (txt (frameF (q.take 3 ++ [1])))) ∧ RBd w' rb fb jb true p mem r ⟨true, q.take 2, (q.getD 2 0).toNat, frameF (q.take 3 ++ [1])⟩ ∧ G3 w w' rb fb jb := by
  obtain ⟨S, hS⟩ : ∃ S, txt q = S := ⟨_, rfl⟩
  have hsz : S.size = 4 := by rw [← hS, txt_size, hl]
  have h3S : 3 < S.size := by omega
  have h2S : 2 < S.size := by omega
  have hS3 : S[3] = 1 := (txt_at hS h3S).trans h3
  obtain ⟨nu, hnu⟩ : ∃ nu, q.getD 2 0 = nu := ⟨_, rfl⟩
  have hS2 : S[2] = nu := (txt_at hS h2S).trans hnu
  have hnl := nu.toNat_lt
  have HA := hideIt (fun w' => rasks_any 1 w')
  have hone : ((1 : UInt8).toNat : Int) = 1 := rfl
  have hasn : (asksF 1 : Int) = 4 := rfl
  rw [hone, hasn] at HA
  have HD := hideIt (fun w' => rdoes_open rb q w' h3 (by omega) (by omega))
  have hT2 := txt_take hS 2
  have hT3 := txt_take hS 3
  have hl2 : (q.take 2).length ≤ 2 := by rw [List.length_take]; omega
  have hl3 : (q.take 3 ++ [1]).length = 4 := by rw [List.length_append, List.length_take]; simp; omega
  have HFm : Hid (∀ w', Calls Tryz.prog 17 #[.string (txt (q.take 3) ++ txt [1])] w' fun e w'' => e = .returned (.tuple #[.string (txt (frameF (q.take 3 ++ [1]))), .int .i64 0]) ∧ Below w'.heap.size w' w'') := fun w' => by
    have := rframe_any (txt (q.take 3 ++ [1])) w' (by rw [txt_size]; omega) (by rw [txt_size]; omega)
    rw [txt_toList] at this
    rw [txt_append]
    exact this
  have hfl := frameF_len (q.take 3 ++ [1])
  have hs3 : (txt (q.take 3)).size = 3 := by rw [txt_size, List.length_take]; omega
  have hs1 : (txt [1]).size = 1 := rfl
  have hz1 := isEmpty_no (txt [1]) (by rw [hs1]; omega)
  -- the worlds
  have r1 := h.setKn true
  have r2 := r1.setSes (q.take 2) hl2
  have r3 := r2.setLast nu.toNat (by omega)
  have r4 := r3.setAns [] (by simp)
  have G : G3 w _ rb fb jb := (G3.set w rb fb jb 7 (.bool true)).trans ((G3.set _ rb fb jb 8 (.string (txt (q.take 2)))).trans ((G3.set _ rb fb jb 9 (.int .i64 (nu.toNat : Int))).trans (G3.set _ rb fb jb 10 (.string (txt [])))))
  have HR4 := hideIt (And.intro r4 G)
  have c2 := h.sto.c2
  have c7 := h.c7
  have c8 := h.c8
  have c9 := h.c9
  have c10 := h.c10
  have f7 := h.sto.fz rb 7 (.inl rfl)
  have f8 := h.sto.fz rb 8 (.inl rfl)
  have f9 := h.sto.fz rb 9 (.inl rfl)
  have f10 := h.sto.fz rb 10 (.inl rfl)
  have hrl := h.sto.lt.1
  have he : txt [] = (⟨#[]⟩ : ByteArray) := rfl
  rw [hS, hnu]
  rw [hS] at HD
  rw [he] at HR4
  obtain ⟨F, hF⟩ : ∃ F, frameF (q.take 3 ++ [1]) = F := ⟨_, rfl⟩
  rw [hF] at HFm hfl ⊢
  obtain ⟨S2, hS2'⟩ : ∃ S2, txt (q.take 2) = S2 := ⟨_, rfl⟩
  obtain ⟨S3, hS3'⟩ : ∃ S3, txt (q.take 3) = S3 := ⟨_, rfl⟩
  obtain ⟨Y, hY⟩ : ∃ Y, txt [1] = Y := ⟨_, rfl⟩
  obtain ⟨FT, hFT⟩ : ∃ FT, txt F = FT := ⟨_, rfl⟩
  rw [hS2'] at HR4 hT2
  rw [hS3'] at HFm hT3 hs3
  rw [hY] at HD HFm hs1 hz1
  rw [hFT] at HFm ⊢
  have HFT := hideIt (And.intro hFT hfl.2)
  have HL3 := hideIt hl3
  clear h r1 r2 r3 r4 G hS h3 hl hnu hl2 hl3 hF hS2' hS3' hY hFT hfl he hasn hone
  go_enter Tryz.func80, Tryz.ntmps80
  go_wp2_with fail
  refine (HA.out _).mono ?_
  rintro e w1 ⟨rfl, rfl⟩
  go_wp2_with fail
  refine (HD.out _).mono ?_
  rintro e w2 ⟨rfl, hB2⟩
  have HR5 := hideIt (And.intro (HR4.out.1.below hB2) (HR4.out.2.trans (G3.of_below rb fb jb hB2)))
  clear hB2 HR4
  go_wp2_with fail
  refine (HFm.out _).mono ?_
  rintro e w3 ⟨rfl, hB3⟩
  have HR6 := hideIt (And.intro (HR5.out.1.below hB3) (HR5.out.2.trans (G3.of_below rb fb jb hB3)))
  clear hB3 HR5
  have d10 := HR6.out.1.c10
  have g10 := HR6.out.1.sto.fz rb 10 (.inl rfl)
  have hrl3 := HR6.out.1.sto.lt.1
  clear c7 c8 c9 c10 f7 f8 f9 f10 hrl
  go_wp2
  go_ret
  refine ⟨rfl, ?_, HR6.out.2.trans (G3.set _ _ _ _ _ _)⟩
  have := HR6.out.1.setAns F (by have := HFT.out.2; have := HL3.out; omega)
  rw [HFT.out.1] at this
  exact this
end Go.Proofs.YthokdbcpkmcieaaGreat
