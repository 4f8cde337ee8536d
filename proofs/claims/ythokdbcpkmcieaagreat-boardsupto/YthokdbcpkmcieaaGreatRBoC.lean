/- The walk of the document's hears: all but OPEN. -/
import Derived.Test.YthokdbcpkmcieaaGreatRBoB
namespace Go.Proofs.YthokdbcpkmcieaaGreat
open Go Go.RowKit
attribute [local go_sem ↓] Go.wp_at_zero Go.wp_at_succ
theorem asksF_le (x : UInt8) : asksF x ≤ 69 := by
  unfold asksF
  repeat' split
  all_goals omega
theorem toNat_ne {x c : UInt8} (h : x ≠ c) : ((x.toNat : Int) == (c.toNat : Int)) = false := by
  have : ¬ x.toNat = c.toNat := fun e => h (UInt8.toNat_inj.1 e)
  simp; omega
set_option maxRecDepth 100000 in
set_option maxHeartbeats 8000000 in
/-- Nobody known, or of another session: nothing. -/
theorem rhears_shut (rb fb jb : Nat) (p : Pow) (mem : List UInt8) (r : REar) (t : RTk) (q : List UInt8) (w : World) (h : RBd w rb fb jb true p mem r t) (ha : askOk q = true) (h3 : q.getD 3 0 ≠ 1) (hno : t.kn = false ∨ t.ses ≠ q.take 2) :
    Calls Tryz.prog 80 #[.pointer (some ⟨rb, 0, none⟩), .string (txt q)] w fun e w' => e = .returned (.string ⟨#[]⟩) ∧ ∃ m, w' = w.drewN m := by
  obtain ⟨hl4, hl⟩ := ask_len.2 ha
  obtain ⟨S, hS⟩ : ∃ S, txt q = S := ⟨_, rfl⟩
  have hsz : S.size = q.length := by rw [← hS, txt_size]
  have hql := asksF_le (q.getD 3 0)
  have h3S : 3 < S.size := by omega
  have h2S : 2 < S.size := by omega
  obtain ⟨x, hx⟩ : ∃ x, q.getD 3 0 = x := ⟨_, rfl⟩
  obtain ⟨nu, hnu⟩ : ∃ nu, q.getD 2 0 = nu := ⟨_, rfl⟩
  have hS3 : S[3] = x := (txt_at hS h3S).trans hx
  have hS2 : S[2] = nu := (txt_at hS h2S).trans hnu
  have hxl := x.toNat_lt
  have hnl := nu.toNat_lt
  have HA := hideIt (fun w' => rasks_any x w')
  rw [hx] at hl h3 hql
  obtain ⟨n, hn⟩ : ∃ n, asksF x = n := ⟨_, rfl⟩
  rw [hn] at HA hl hql
  have hSn : (S.size : Int) = (n : Int) := by omega
  have hSi : (S.size : Int) ≤ 69 := by omega
  have h4i : (4 : Int) ≤ (S.size : Int) := by omega
  have h1 : ((x.toNat : Int) == 1) = false := toNat_ne h3
  have hT2 := txt_take hS 2
  have c2 := h.sto.c2
  have c7 := h.c7
  have c8 := h.c8
  have hne : t.ses ≠ q.take 2 → ((txt t.ses).toList == (txt (q.take 2)).toList) = false := fun e => txt_neR e
  obtain ⟨S2, hS2'⟩ : ∃ S2, txt (q.take 2) = S2 := ⟨_, rfl⟩
  obtain ⟨SS, hSS⟩ : ∃ SS, txt t.ses = SS := ⟨_, rfl⟩
  rw [hS2'] at hne hT2
  rw [hSS] at hne c8
  rw [hS]
  obtain ⟨kn, ses, last, ans⟩ := t
  simp only at c7 hno hne
  have HSZ := hideIt hSn
  clear h hS hsz ha hl4 hl hx hnu h3 hn hS2' hSS
  rcases hno with hk | hk
  · subst hk
    go_enter Tryz.func80, Tryz.ntmps80
    go_wp2_with fail
    refine (HA.out _).mono ?_
    rintro e w1 ⟨rfl, rfl⟩
    go_wp2
    go_quiet (fail)
    go_wp2
    go_ret
    exact ⟨rfl, _, rfl⟩
  · have hne' := hne hk
    clear hne hk
    cases kn
    all_goals
      go_enter Tryz.func80, Tryz.ntmps80
      go_wp2_with fail
      refine (HA.out _).mono ?_
      rintro e w1 ⟨rfl, rfl⟩
      go_wp2
      go_quiet (fail)
      go_wp2
      go_ret
      exact ⟨rfl, _, rfl⟩
set_option maxRecDepth 100000 in
set_option maxHeartbeats 8000000 in
/-- The same number again: the same answer. A number that is not next: nothing. -/
theorem rhears_old (rb fb jb : Nat) (p : Pow) (mem : List UInt8) (r : REar) (t : RTk) (q : List UInt8) (w : World) (h : RBd w rb fb jb true p mem r t) (ha : askOk q = true) (h3 : q.getD 3 0 ≠ 1) (hk : t.kn = true) (hs : t.ses = q.take 2) (hno : (q.getD 2 0).toNat = t.last ∨ (q.getD 2 0).toNat ≠ (t.last + 1) % 256) :
    Calls Tryz.prog 80 #[.pointer (some ⟨rb, 0, none⟩), .string (txt q)] w fun e w' => e = .returned (.string (if (q.getD 2 0).toNat = t.last then txt t.ans else ⟨#[]⟩)) ∧ ∃ m, w' = w.drewN m := by
  obtain ⟨hl4, hl⟩ := ask_len.2 ha
  obtain ⟨S, hS⟩ : ∃ S, txt q = S := ⟨_, rfl⟩
  have hsz : S.size = q.length := by rw [← hS, txt_size]
  have hql := asksF_le (q.getD 3 0)
  have h3S : 3 < S.size := by omega
  have h2S : 2 < S.size := by omega
  obtain ⟨x, hx⟩ : ∃ x, q.getD 3 0 = x := ⟨_, rfl⟩
  obtain ⟨nu, hnu⟩ : ∃ nu, q.getD 2 0 = nu := ⟨_, rfl⟩
  have hS3 : S[3] = x := (txt_at hS h3S).trans hx
  have hS2 : S[2] = nu := (txt_at hS h2S).trans hnu
  have hxl := x.toNat_lt
  have hnl := nu.toNat_lt
  have HA := hideIt (fun w' => rasks_any x w')
  rw [hx] at hl h3 hql
  rw [hnu] at hno ⊢
  obtain ⟨n, hn⟩ : ∃ n, asksF x = n := ⟨_, rfl⟩
  rw [hn] at HA hl hql
  have hSn : (S.size : Int) = (n : Int) := by omega
  have hSi : (S.size : Int) ≤ 69 := by omega
  have h4i : (4 : Int) ≤ (S.size : Int) := by omega
  have h1 : ((x.toNat : Int) == 1) = false := toNat_ne h3
  have hT2 := txt_take hS 2
  have c2 := h.sto.c2
  have c7 := h.c7
  have c8 := h.c8
  have c9 := h.c9
  have c10 := h.c10
  have hll := h.ll
  rw [hs] at c8
  rw [hk] at c7
  obtain ⟨S2, hS2'⟩ : ∃ S2, txt (q.take 2) = S2 := ⟨_, rfl⟩
  rw [hS2'] at c8 hT2
  obtain ⟨AN, hAN⟩ : ∃ AN, txt t.ans = AN := ⟨_, rfl⟩
  obtain ⟨la, hla⟩ : ∃ la, t.last = la := ⟨_, rfl⟩
  rw [hAN] at c10 ⊢
  rw [hla] at c9 hno hll ⊢
  rw [hS]
  have HSZ := hideIt hSn
  clear h hS hsz ha hl4 hl hx hnu h3 hn hS2' hAN hla hs hk
  by_cases hn0 : nu.toNat = la
  · rw [if_pos hn0]
    have hni : (nu.toNat : Int) = (la : Int) := by omega
    clear hno
    go_enter Tryz.func80, Tryz.ntmps80
    go_wp2_with fail
    refine (HA.out _).mono ?_
    rintro e w1 ⟨rfl, rfl⟩
    go_wp2
    go_quiet (fail)
    go_wp2
    go_ret
    exact ⟨rfl, _, rfl⟩
  · rw [if_neg hn0]
    have hne : ((nu.toNat : Int) == (la : Int)) = false := by simp; omega
    have hn1 : nu.toNat ≠ (la + 1) % 256 := by omega
    obtain ⟨l1, hl1⟩ : ∃ l1, (la + 1) % 256 = l1 := ⟨_, rfl⟩
    have hrem : ((la : Int) + 1) % 256 = (l1 : Int) := by omega
    have hremT : Int.tmod ((la : Int) + 1) 256 = (l1 : Int) := by rw [Int.tmod_eq_emod_of_nonneg (by omega)]; exact hrem
    have hne1 : ((nu.toNat : Int) == (l1 : Int)) = false := by simp; omega
    have hl1b : (l1 : Int) ≤ 255 := by omega
    clear hno hn0 hn1 hl1
    go_enter Tryz.func80, Tryz.ntmps80
    go_wp2_with fail
    refine (HA.out _).mono ?_
    rintro e w1 ⟨rfl, rfl⟩
    go_wp2
    go_quiet (fail)
    go_wp2
    go_ret
    exact ⟨rfl, _, rfl⟩
end Go.Proofs.YthokdbcpkmcieaaGreat
