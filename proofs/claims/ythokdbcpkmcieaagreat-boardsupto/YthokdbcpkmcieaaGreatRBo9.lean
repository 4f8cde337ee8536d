/- Walks of the document's board: does. -/
import Derived.Test.YthokdbcpkmcieaaGreatRBo8
namespace Go.Proofs.YthokdbcpkmcieaaGreat
open Go Go.RowKit
attribute [local go_sem ↓] Go.wp_at_zero Go.wp_at_succ
theorem txt_at {q : List UInt8} {j : Nat} {S : ByteArray} (hS : txt q = S) (hj : j < S.size) : S[j] = q.getD j 0 := by
  subst hS
  have := ba_get (txt q) j hj
  rw [txt_toList] at this
  exact this.symm
set_option maxRecDepth 100000 in
set_option maxHeartbeats 4000000 in
theorem rdoes_open (rb : Nat) (q : List UInt8) (w : World) (h3 : q.getD 3 0 = 1) (hl : 4 ≤ q.length) (hx : q.length ≤ 1000) :
    Calls Tryz.prog 98 #[.pointer (some ⟨rb, 0, none⟩), .string (txt q)] w fun e w' => e = .returned (.string (txt [1])) ∧ Below w.heap.size w w' := by
  obtain ⟨wa, hwa, wb, hwb, cv1, cv2, hB⟩ := two_words w
  obtain ⟨S, hS⟩ : ∃ S, txt q = S := ⟨_, rfl⟩
  have hsz : S.size = q.length := by rw [← hS, txt_size]
  have h3S : 3 < S.size := by omega
  have hS3 : S[3] = 1 := (txt_at hS h3S).trans h3
  have hSi : (S.size : Int) ≤ 1000 := by omega
  have h3i : (3 : Int) < (S.size : Int) := by omega
  rw [hS]
  have HB := hideIt hB
  clear hB hsz hS h3
  go_enter Tryz.func98, Tryz.ntmps98
  go_wp2
  go_ret
  exact ⟨rfl, HB.out⟩
set_option maxRecDepth 100000 in
set_option maxHeartbeats 4000000 in
theorem rdoes_state (rb fb jb : Nat) (on : Bool) (p : Pow) (mem q : List UInt8) (w : World) (h : RSto w rb fb jb on p mem) (h3 : q.getD 3 0 = 4) (hl : 4 ≤ q.length) (hx : q.length ≤ 1000) :
    Calls Tryz.prog 98 #[.pointer (some ⟨rb, 0, none⟩), .string (txt q)] w fun e w' => e = .returned (.string (txt [1, UInt8.ofNat (bitsF mem / 256), UInt8.ofNat (bitsF mem % 256)])) ∧ Below w.heap.size w w' := by
  obtain ⟨wa, hwa, wb, hwb, cv1, cv2, hB⟩ := two_words w
  obtain ⟨S, hS⟩ : ∃ S, txt q = S := ⟨_, rfl⟩
  have hsz : S.size = q.length := by rw [← hS, txt_size]
  have h3S : 3 < S.size := by omega
  have hS3 : S[3] = 4 := (txt_at hS h3S).trans h3
  have hSi : (S.size : Int) ≤ 1000 := by omega
  have h3i : (3 : Int) < (S.size : Int) := by omega
  have HC := hideIt (rBurnt_any rb fb jb on p mem wb (h.below hB))
  have hbl : bitsF mem < 65536 := bitsS_lt mem 16
  have HT := hideIt (fun w' => two_any (bitsF mem) hbl w')
  have hout : txt [1, UInt8.ofNat (bitsF mem / 256), UInt8.ofNat (bitsF mem % 256)] = txt [1] ++ txt [UInt8.ofNat (bitsF mem / 256), UInt8.ofNat (bitsF mem % 256)] := by rw [txt_append]; rfl
  rw [hS, hout]
  have hs1 : (txt [1]).size = 1 := rfl
  have hs2 : (txt [UInt8.ofNat (bitsF mem / 256), UInt8.ofNat (bitsF mem % 256)]).size = 2 := rfl
  obtain ⟨T, hT⟩ : ∃ T, txt [UInt8.ofNat (bitsF mem / 256), UInt8.ofNat (bitsF mem % 256)] = T := ⟨_, rfl⟩
  obtain ⟨Y, hY⟩ : ∃ Y, txt [1] = Y := ⟨_, rfl⟩
  obtain ⟨C, hC⟩ : ∃ C, bitsF mem = C := ⟨_, rfl⟩
  rw [hT] at HT hs2 ⊢
  rw [hY] at cv1 hs1 ⊢
  rw [hC] at HT HC
  have HB := hideIt hB
  clear hB hsz hS h3 hT hY hC hout hbl h
  go_enter Tryz.func98, Tryz.ntmps98
  go_wp2_with fail
  refine HC.out.mono ?_
  rintro e w1 ⟨rfl, hB1⟩
  have HB1 := hideIt (HB.out.trans (hB1.mono HB.out.size))
  clear hB1
  go_wp2_with fail
  refine (HT.out _).mono ?_
  rintro e w2 ⟨rfl, hB2⟩
  have HB2 := hideIt (HB1.out.trans (hB2.mono HB1.out.size))
  clear hB2
  go_wp2
  go_ret
  exact ⟨rfl, HB2.out⟩
set_option maxRecDepth 100000 in
set_option maxHeartbeats 4000000 in
theorem rdoes_read (rb fb jb : Nat) (on : Bool) (p : Pow) (mem q : List UInt8) (w : World) (h : RSto w rb fb jb on p mem) (h3 : q.getD 3 0 = 3) (hl : 5 ≤ q.length) (hx : q.length ≤ 1000) :
    Calls Tryz.prog 98 #[.pointer (some ⟨rb, 0, none⟩), .string (txt q)] w fun e w' => e = .returned (.string (txt (if q.getD 4 0 < 16 ∧ burntF mem (q.getD 4 0) = true then 1 :: pageF mem (q.getD 4 0).toNat else [2]))) ∧ Below w.heap.size w w' := by
  obtain ⟨wa, hwa, wb, hwb, cv1, cv2, hB⟩ := two_words w
  obtain ⟨S, hS⟩ : ∃ S, txt q = S := ⟨_, rfl⟩
  have hsz : S.size = q.length := by rw [← hS, txt_size]
  have h3S : 3 < S.size := by omega
  have h4S : 4 < S.size := by omega
  obtain ⟨g, hg⟩ : ∃ g, q.getD 4 0 = g := ⟨_, rfl⟩
  have hS3 : S[3] = 3 := (txt_at hS h3S).trans h3
  have hS4 : S[4] = g := (txt_at hS h4S).trans hg
  have hSi : (S.size : Int) ≤ 1000 := by omega
  have h3i : (3 : Int) < (S.size : Int) := by omega
  have h4i : (4 : Int) < (S.size : Int) := by omega
  have hgl := g.toNat_lt
  rw [hS, hg]
  have HB := hideIt hB
  by_cases hg16 : g < 16
  · have hgn := u16 hg16
    have hgi : (g.toNat : Int) < 16 := by omega
    have HC := hideIt (rburnt_any rb fb jb on p mem g wb (h.below hB) hg16)
    have HH := hideIt h
    by_cases hb : burntF mem g = true
    · rw [if_pos ⟨hg16, hb⟩]
      rw [hb] at HC
      have HP := hideIt (fun w' (h' : RSto w' rb fb jb on p mem) => rpage_any rb fb jb on p mem g.toNat w' h' hgn)
      have hpl : (pageF mem g.toNat).length = 64 := win_len mem (64 * g.toNat) 64 (by rw [h.len]; omega)
      have hout : txt (1 :: pageF mem g.toNat) = txt [1] ++ txt (pageF mem g.toNat) := by rw [txt_append]; rfl
      rw [hout]
      have hs1 : (txt [1]).size = 1 := rfl
      have hs2 : (txt (pageF mem g.toNat)).size = 64 := by rw [txt_size, hpl]
      obtain ⟨T, hT⟩ : ∃ T, txt (pageF mem g.toNat) = T := ⟨_, rfl⟩
      obtain ⟨Y, hY⟩ : ∃ Y, txt [1] = Y := ⟨_, rfl⟩
      rw [hT] at HP hs2 ⊢
      rw [hY] at cv1 hs1 ⊢
      clear hB hsz hS h3 hT hY hout h hpl hg hg16 hb
      go_enter Tryz.func98, Tryz.ntmps98
      go_wp2_with fail
      refine HC.out.mono ?_
      rintro e w1 ⟨rfl, hB1⟩
      have HB1 := hideIt (HB.out.trans (hB1.mono HB.out.size))
      clear hB1
      go_wp2_with fail
      refine (HP.out _ (HH.out.below HB1.out)).mono ?_
      rintro e w2 ⟨rfl, rfl⟩
      go_wp2
      go_ret
      exact ⟨rfl, HB1.out⟩
    · have hbf : burntF mem g = false := by simpa using hb
      rw [if_neg (fun e => hb e.2)]
      rw [hbf] at HC
      clear hB hsz hS h3 h hg hg16 hb
      go_enter Tryz.func98, Tryz.ntmps98
      go_wp2_with fail
      refine HC.out.mono ?_
      rintro e w1 ⟨rfl, hB1⟩
      have HB1 := hideIt (HB.out.trans (hB1.mono HB.out.size))
      clear hB1
      go_wp2
      go_ret
      exact ⟨rfl, HB1.out⟩
  · rw [if_neg (fun e => hg16 e.1)]
    have hgi : ¬ (g.toNat : Int) < 16 := by
      intro e
      exact hg16 (UInt8.lt_iff_toNat_lt.2 (by show g.toNat < 16; omega))
    have hgi2 : (16 : Int) ≤ (g.toNat : Int) := by omega
    clear hB hsz hS h3 h hg hg16
    go_enter Tryz.func98, Tryz.ntmps98
    go_wp2
    go_ret
    exact ⟨rfl, HB.out⟩
theorem txt_drop {q : List UInt8} {S : ByteArray} (hS : txt q = S) (k : Nat) : S.extract k S.size = txt (q.drop k) := by
  subst hS
  have := baE_drop (txt q) k
  rw [txt_toList] at this
  rw [← this, txt_ba]
set_option maxRecDepth 100000 in
set_option maxHeartbeats 4000000 in
theorem rdoes_full (rb fb jb : Nat) (p : Pow) (mem q : List UInt8) (k : Nat) (w : World) (h : RSto w rb fb jb true p mem) (hu : Used mem k) (h3 : q.getD 3 0 = 2) (hl : q.length = 69) (hok : ¬ (q.getD 4 0 < 16 ∧ 2 ≤ roomF mem)) :
    Calls Tryz.prog 98 #[.pointer (some ⟨rb, 0, none⟩), .string (txt q)] w fun e w' => e = .returned (.string (txt [2])) ∧ Below w.heap.size w w' := by
  obtain ⟨wa, hwa, wb, hwb, cv1, cv2, hB⟩ := two_words w
  obtain ⟨S, hS⟩ : ∃ S, txt q = S := ⟨_, rfl⟩
  have hsz : S.size = 69 := by rw [← hS, txt_size, hl]
  have h3S : 3 < S.size := by omega
  have h4S : 4 < S.size := by omega
  obtain ⟨g, hg⟩ : ∃ g, q.getD 4 0 = g := ⟨_, rfl⟩
  have hS3 : S[3] = 2 := (txt_at hS h3S).trans h3
  have hS4 : S[4] = g := (txt_at hS h4S).trans hg
  have hgl := g.toNat_lt
  rw [hS]
  rw [hg] at hok
  have HFR := hideIt (rfree_any rb fb jb true p mem wb (h.below hB))
  rw [roomF_used hu] at HFR hok
  obtain ⟨RM, hRM⟩ : ∃ RM, 60 - k = RM := ⟨_, rfl⟩
  obtain ⟨AT, hAT⟩ : ∃ AT, atS mem 60 = AT := ⟨_, rfl⟩
  rw [hRM] at HFR hok
  rw [hAT] at HFR
  have hrl : (RM : Int) ≤ 60 := by omega
  have HB := hideIt hB
  have hcase : (16 : Int) ≤ (g.toNat : Int) ∨ ((g.toNat : Int) < 16 ∧ (RM : Int) < 2) := by
    by_cases e : g.toNat < 16
    · right
      refine ⟨by omega, ?_⟩
      have : ¬ 2 ≤ RM := fun h2 => hok ⟨UInt8.lt_iff_toNat_lt.2 (by show g.toNat < 16; exact e), h2⟩
      omega
    · left; omega
  clear hB hS h3 h hg hRM hAT hu hl hok
  rcases hcase with hc | ⟨hc, hc2⟩
  all_goals
    go_enter Tryz.func98, Tryz.ntmps98
    go_wp2_with fail
    refine HFR.out.mono ?_
    rintro e w1 ⟨rfl, hB1⟩
    have HB1 := hideIt (HB.out.trans (hB1.mono HB.out.size))
    clear hB1
    go_wp2
    go_ret
    exact ⟨rfl, HB1.out⟩
end Go.Proofs.YthokdbcpkmcieaaGreat
