/- Walks of the document's board: does, a page. -/
import Derived.Test.YthokdbcpkmcieaaGreatRBo9
namespace Go.Proofs.YthokdbcpkmcieaaGreat
open Go Go.RowKit
attribute [local go_sem ↓] Go.wp_at_zero Go.wp_at_succ
set_option maxRecDepth 100000 in
set_option maxHeartbeats 4000000 in
theorem rdoes_page (rb fb jb : Nat) (p : Pow) (mem q : List UInt8) (k : Nat) (w : World) (h : RSto w rb fb jb true p mem) (hu : Used mem k) (h3 : q.getD 3 0 = 2) (hl : q.length = 69) (hok : q.getD 4 0 < 16 ∧ 2 ≤ roomF mem) :
    Calls Tryz.prog 98 #[.pointer (some ⟨rb, 0, none⟩), .string (txt q)] w fun e w' => e = .returned (.string (txt (if (burnPageF p mem (q.getD 4 0) (q.drop 5)).2.2 = true then [1] else []))) ∧ RSto w' rb fb jb (burnPageF p mem (q.getD 4 0) (q.drop 5)).2.2 (if (burnPageF p mem (q.getD 4 0) (q.drop 5)).2.2 = true then (burnPageF p mem (q.getD 4 0) (q.drop 5)).1 else pow0) (burnPageF p mem (q.getD 4 0) (q.drop 5)).2.1 ∧ K3 w w' rb fb jb := by
  obtain ⟨wa, hwa, wb, hwb, cv1, cv2, hB⟩ := two_words w
  obtain ⟨S, hS⟩ : ∃ S, txt q = S := ⟨_, rfl⟩
  have hsz : S.size = 69 := by rw [← hS, txt_size, hl]
  have h3S : 3 < S.size := by omega
  have h4S : 4 < S.size := by omega
  obtain ⟨g, hg⟩ : ∃ g, q.getD 4 0 = g := ⟨_, rfl⟩
  have hS3 : S[3] = 2 := (txt_at hS h3S).trans h3
  have hS4 : S[4] = g := (txt_at hS h4S).trans hg
  have hgl := g.toNat_lt
  have hS5 : S.extract 5 S.size = txt (q.drop 5) := txt_drop hS 5
  rw [hS]
  rw [hg] at hok ⊢
  obtain ⟨hg16, hrm⟩ := hok
  have hgn := u16 hg16
  have hgi : (g.toNat : Int) < 16 := by omega
  have hwg : IntKind.i64.wrap (g.toNat : Int) = (g.toNat : Int) := by rw [IntKind.wrap_i64]; omega
  rw [roomF_used hu] at hrm
  have HFR := hideIt (rfree_any rb fb jb true p mem wb (h.below hB))
  rw [roomF_used hu] at HFR
  have HBU := hideIt (fun w' (h' : RSto w' rb fb jb true p mem) => rburn_any rb fb jb p mem k g (q.drop 5) w' h' hu (by omega) hg16 (by rw [List.length_drop, hl]))
  obtain ⟨D, hD⟩ : ∃ D, txt (q.drop 5) = D := ⟨_, rfl⟩
  obtain ⟨r, hr⟩ : ∃ r, burnPageF p mem g (q.drop 5) = r := ⟨_, rfl⟩
  obtain ⟨RM, hRM⟩ : ∃ RM, 60 - k = RM := ⟨_, rfl⟩
  obtain ⟨AT, hAT⟩ : ∃ AT, atS mem 60 = AT := ⟨_, rfl⟩
  rw [hD] at HBU hS5
  rw [hr] at HBU ⊢
  rw [hRM] at HFR hrm
  rw [hAT] at HFR
  have hrl : (RM : Int) ≤ 60 := by omega
  have hrmi : (2 : Int) ≤ (RM : Int) := by omega
  have HB := hideIt hB
  have HH := hideIt h
  clear hB hS h3 h hg hg16 hD hr hRM hAT hu hl hrm
  obtain ⟨p2, m2, ok⟩ := r
  have hsl : S.extract 5 69 = D := by rw [← hS5, hsz]
  cases ok
  all_goals
    go_enter Tryz.func98, Tryz.ntmps98
    go_wp2_with fail
    refine HFR.out.mono ?_
    rintro e w1 ⟨rfl, hB1⟩
    have HB1 := hideIt (HB.out.trans (hB1.mono HB.out.size))
    clear hB1
    go_wp2_with fail
    go_region_with (go_at_call 117; refine (HBU.out w1.drew ((HH.out.below HB1.out).kept (fun _ _ => rfl) (Nat.le_refl _))).mono ?_; rintro e wz ⟨rfl, h1, h2⟩)
    all_goals
      have HZ := hideIt (And.intro h1 h2)
      clear h1 h2
      go_wp2
      go_ret
      exact ⟨rfl, HZ.out.1, (K3.of_below rb fb jb HH.out.lt.1 HB1.out).trans HZ.out.2.undrew⟩
end Go.Proofs.YthokdbcpkmcieaaGreat
