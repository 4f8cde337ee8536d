/- Walks of what a board does: isAsking, doPage, doRead, do. -/
import Derived.Test.YthokdbcpkmcieaaBrdW8
namespace Go.Proofs.Ythokdbcpkmcieaa
open Go Go.RowKit
theorem txtB_size (l : List UInt8) : (txt l).size = l.length := by simp [txt, ByteArray.size]
theorem txtB_cat (a b : List UInt8) : txt a ++ txt b = txt (a ++ b) := by
  apply ByteArray.ext
  rw [ByteArray.data_append]
  simp [txt]
theorem u8_lt (n : UInt8) (c : Nat) (hc : c < 256) : ((n.toNat : Int) < (c : Int)) ↔ n < UInt8.ofNat c := by
  rw [UInt8.lt_iff_toNat_lt, UInt8.toNat_ofNat']
  omega
theorem u8_eq (n : UInt8) (c : Nat) (hc : c < 256) : ((n.toNat : Int) == (c : Int)) = decide (n = UInt8.ofNat c) := by
  have : (UInt8.ofNat c).toNat = c := by rw [UInt8.toNat_ofNat']; omega
  have h := int_eq n (UInt8.ofNat c)
  rw [this] at h
  exact h
set_option maxHeartbeats 1000000 in
theorem isPage_any (n : UInt8) (w : World) : Calls Try.prog 70 #[.int .u8 (n.toNat : Int)] w fun e w' => e = .returned (.bool (decide (n < 16))) ∧ w' = w := by
  have h : decide (n < 16) = decide ((n.toNat : Int) < 16) := by
    have : ((n.toNat : Int) < 16) ↔ n < 16 := u8_lt n 16 (by decide)
    by_cases hn : n < 16
    · rw [decide_eq_true hn, decide_eq_true (this.2 hn)]
    · rw [decide_eq_false hn, decide_eq_false (fun e => hn (this.1 e))]
  rw [h]
  go_enter Try.func70, Try.ntmps70
  go_wp2
  go_ret
  exact ⟨rfl, rfl⟩
/-- The ending of what gives a text, or gives up. -/
def endT (ok : Bool) (out : List UInt8) : Ending := if ok = true then .returned (.string (txt out)) else failE
theorem endT_no {e : Ending} {o : List UInt8} (h : e = endT false o) : e = .panicked [{ v := .iface 103 (.agg #[]), recovered := false }] := h
theorem endT_yes {e : Ending} {o : List UInt8} (h : e = endT true o) : e = .returned (.string (txt o)) := h
def StrEnd (w : World) (bb : Nat) (r : Pow × List UInt8 × Bool) (out : List UInt8) (e : Ending) (w' : World) : Prop := e = endT r.2.2 out ∧ StoAt w' bb r.1 r.2.1 ∧ Within w w' bb 1 1267
def doPageF (p : Pow) (m : List UInt8) (n : UInt8) (bs : List UInt8) : (Pow × List UInt8 × Bool) × List UInt8 := if n < 16 ∧ 2 ≤ roomF m then (burnPageF p m n bs, [1]) else ((p, m, true), [2])
set_option maxRecDepth 100000 in
set_option maxHeartbeats 4000000 in
theorem doPage_any (bb : Nat) (p : Pow) (mem : List UInt8) (n : UInt8) (bs : ByteArray) (k : Nat) (w : World) (h : StoAt w bb p mem) (hu : Used mem k) (hbs : bs.size = 64) :
    Calls Try.prog 66 #[.pointer (some ⟨bb, 0, none⟩), .int .u8 (n.toNat : Int), .string bs] w (StrEnd w bb (doPageF p mem n bs.data.toList).1 (doPageF p mem n bs.data.toList).2) := by
  have hlt := h.lt
  by_cases hn : n < 16
  · have HR := hideIt (room_any bb p mem w h)
    have hrm := roomF_used hu
    have hle := hu.le
    by_cases hr : 2 ≤ roomF mem
    · have e : doPageF p mem n bs.data.toList = (burnPageF p mem n bs.data.toList, [1]) := by unfold doPageF; rw [if_pos ⟨hn, hr⟩]
      rw [e]
      have HB := hideIt (fun w' (h' : StoAt w' bb p mem) => burnPage_any bb p mem n bs k w' h' hu (by omega) hn hbs)
      have hri : decide ((roomF mem : Int) < 2) = false := decide_eq_false (by omega)
      have HS := hideIt h
      obtain ⟨q, hq⟩ : ∃ q, burnPageF p mem n bs.data.toList = q := ⟨_, rfl⟩
      rw [hq] at HB ⊢
      obtain ⟨p1, m1, ok⟩ := q
      obtain ⟨rm, hrm2⟩ : ∃ rm, roomF mem = rm := ⟨_, rfl⟩
      rw [hrm2] at HR hri
      clear h hu hq e hrm hr hrm2
      go_enter Try.func66, Try.ntmps66
      go_wp2_with fail
      refine (isPage_any n _).mono ?_
      rintro e w1 ⟨rfl, rfl⟩
      rw [decide_eq_true hn]
      go_wp2_with fail
      refine HR.out.mono ?_
      rintro e w2 ⟨rfl, hb2⟩
      have HB2 := hideIt hb2
      clear hb2
      cases ok with
      | true =>
        go_wp2_with fail
        go_region_with (go_at_call 72; refine (HB.out w2.drew ((HS.out.below HB2.out).kept rfl (Nat.le_refl _))).mono ?_; rintro e wz ⟨he, h1, h2⟩; obtain rfl := endS_yes he)
        all_goals
          have HZ := hideIt (And.intro h1 ((Within.below (o := 1) (n := 1267) (below_drewN HB2.out 1) hlt).trans h2))
          clear h1 h2 he
          go_wp2
          go_ret
          exact ⟨rfl, HZ.out.1, HZ.out.2⟩
      | false =>
        have hent : ∀ args w, (callFunc 72 args).run Try.prog w = .ok (.enter 72 args) w := enters_of Try.func72 (by kernel_rfl) rfl
        have HX : Hid (∀ w', StoAt w' bb p1 m1 → Within w2.drew w' bb 1 1267 → StrEnd w1 bb (p1, m1, false) [1] (.panicked [{ v := .iface 103 (.agg #[]), recovered := false }]) w') := by
          intro w' h1 h2
          exact ⟨rfl, h1, (Within.below (o := 1) (n := 1267) (below_drewN HB2.out 1) hlt).trans h2⟩
        go_wp2_with fail
        go_region_law (refine step_diesV (.tuple #[]) 72 #[.pointer (some ⟨bb, 4, none⟩), .int .u8 (n.toNat : Int), .string bs, .pointer (some ⟨bb, 1, none⟩)] rfl (by simp [go_sem, hent]) _ (HB.out w2.drew ((HS.out.below HB2.out).kept rfl (Nat.le_refl _))) (fun e w' hh => ⟨_, endS_no hh.1, rfl, HX.out w' hh.2.1 hh.2.2⟩) ?_; intro HFF)
        all_goals exact HFF.out.elim
    · have e : doPageF p mem n bs.data.toList = ((p, mem, true), [2]) := by unfold doPageF; rw [if_neg (fun e => hr e.2)]
      rw [e]
      have hri : decide ((roomF mem : Int) < 2) = true := decide_eq_true (by omega)
      have HS := hideIt h
      clear h hu e hrm
      go_enter Try.func66, Try.ntmps66
      go_wp2_with fail
      refine (isPage_any n _).mono ?_
      rintro e w1 ⟨rfl, rfl⟩
      rw [decide_eq_true hn]
      go_wp2_with fail
      refine HR.out.mono ?_
      rintro e w2 ⟨rfl, hb2⟩
      have HB2 := hideIt hb2
      clear hb2
      go_wp2
      go_ret
      exact ⟨rfl, HS.out.below HB2.out, Within.below HB2.out hlt⟩
  · have e : doPageF p mem n bs.data.toList = ((p, mem, true), [2]) := by unfold doPageF; rw [if_neg (fun e => hn e.1)]
    rw [e]
    have HS := hideIt h
    clear h hu e
    go_enter Try.func66, Try.ntmps66
    go_wp2_with fail
    refine (isPage_any n _).mono ?_
    rintro e w1 ⟨rfl, rfl⟩
    rw [decide_eq_false hn]
    go_wp2
    go_ret
    exact ⟨rfl, HS.out, Within.refl _ _ _ _⟩
def doReadF (m : List UInt8) (n : UInt8) : List UInt8 := if n < 16 ∧ burntF m n = true then 1 :: pageF m n.toNat else [2]
theorem conv_page {w : World} {bb : Nat} {p : Pow} {mem : List UInt8} (h : StoAt w bb p mem) (n : Nat) (hn : n < 16) : (convert 65 9 (.slice (some ⟨bb, 4 + n * 64, none⟩) 64 64)).run Try.prog w = .ok (.string (txt (pageF mem n))) w := by
  have hl := page_length h.len n hn
  have := run_convert_bytes_back (P := Try.prog) w 65 9 5 ⟨bb, 4 + n * 64, none⟩ 64 (pageF mem n) Try.underlying65 Try.underlying5 Try.underlying9 (fun j hj => by
    have hc := h.page n hn j hj
    rw [List.getD_eq_getElem?_getD, List.getElem?_eq_getElem hj] at hc
    rw [Addr.add_lit]
    exact hc)
  rw [hl] at this
  exact this
set_option maxRecDepth 100000 in
set_option maxHeartbeats 4000000 in
theorem doRead_any (bb : Nat) (p : Pow) (mem : List UInt8) (n : UInt8) (w : World) (h : StoAt w bb p mem) :
    Calls Try.prog 67 #[.pointer (some ⟨bb, 0, none⟩), .int .u8 (n.toNat : Int)] w (StrEnd w bb (p, mem, true) (doReadF mem n)) := by
  have hlt := h.lt
  by_cases hn : n < 16
  · have hnn := u16 hn
    have hni : (n.toNat : Int) < 16 := by omega
    have HR := hideIt (isBurnt_any bb p mem n w h hn)
    have HS := hideIt h
    by_cases hr : burntF mem n = true
    · have e : doReadF mem n = 1 :: pageF mem n.toNat := by unfold doReadF; rw [if_pos ⟨hn, hr⟩]
      rw [e]
      rw [hr] at HR
      have HC := hideIt (fun w' (h' : StoAt w' bb p mem) => conv_page h' n.toNat hnn)
      have hts : (txt (pageF mem n.toNat)).size = 64 := by rw [txtB_size]; exact page_length h.len n.toNat hnn
      obtain ⟨pg, hpg⟩ : ∃ pg, pageF mem n.toNat = pg := ⟨_, rfl⟩
      rw [hpg] at HC hts ⊢
      clear h e hpg
      go_enter Try.func67, Try.ntmps67
      go_wp2_with fail
      refine (isPage_any n _).mono ?_
      rintro e w1 ⟨rfl, rfl⟩
      rw [decide_eq_true hn]
      go_wp2_with fail
      refine HR.out.mono ?_
      rintro e w2 ⟨rfl, hb2⟩
      have hcv := HC.out w2 (HS.out.below hb2)
      have HB2 := hideIt hb2
      clear hb2 HC HR
      go_wp2
      go_ret
      refine ⟨?_, HS.out.below HB2.out, Within.below HB2.out hlt⟩
      show Ending.returned (.string (txt [1] ++ txt pg)) = _
      rw [txtB_cat]
      rfl
    · have hrf : burntF mem n = false := by simpa using hr
      have e : doReadF mem n = [2] := by unfold doReadF; rw [if_neg (fun e => hr e.2)]
      rw [e]
      rw [hrf] at HR
      clear h e
      go_enter Try.func67, Try.ntmps67
      go_wp2_with fail
      refine (isPage_any n _).mono ?_
      rintro e w1 ⟨rfl, rfl⟩
      rw [decide_eq_true hn]
      go_wp2_with fail
      refine HR.out.mono ?_
      rintro e w2 ⟨rfl, hb2⟩
      have HB2 := hideIt hb2
      clear hb2 HR
      go_wp2
      go_ret
      exact ⟨rfl, HS.out.below HB2.out, Within.below HB2.out hlt⟩
  · have e : doReadF mem n = [2] := by unfold doReadF; rw [if_neg (fun e => hn e.1)]
    rw [e]
    have HS := hideIt h
    clear h e
    go_enter Try.func67, Try.ntmps67
    go_wp2_with fail
    refine (isPage_any n _).mono ?_
    rintro e w1 ⟨rfl, rfl⟩
    rw [decide_eq_false hn]
    go_wp2
    go_ret
    exact ⟨rfl, HS.out, Within.refl _ _ _ _⟩
set_option maxRecDepth 100000 in
set_option maxHeartbeats 4000000 in
theorem isAsking_any (q : ByteArray) (w : World) (hq : q.size ≤ 4000000) :
    Calls Try.prog 61 #[.string q] w fun e w' => e = .returned (.bool (askOk q.data.toList)) ∧ w' = w := by
  have hlen : q.data.toList.length = q.size := by rw [Array.length_toList]; rfl
  by_cases h4 : q.size < 4
  · have e : askOk q.data.toList = false := by unfold askOk; rw [if_pos (by omega)]
    rw [e]
    have hi : (q.size : Int) < 4 := by omega
    go_enter Try.func61, Try.ntmps61
    go_wp2
    go_ret
    exact ⟨rfl, rfl⟩
  · have hi : decide ((q.size : Int) < 4) = false := decide_eq_false (by omega)
    have h3 : (3 : Int) < (q.size : Int) := by omega
    have hg : q.data.toList.getD 3 0 = q[3]'(by omega) := ba_get q 3 (by omega)
    have hk : askOk q.data.toList = if q[3]'(by omega) = 1 ∨ q[3]'(by omega) = 4 then decide (q.size = 4) else if q[3]'(by omega) = 2 then decide (q.size = 69) else if q[3]'(by omega) = 3 then decide (q.size = 5) else false := by
      unfold askOk
      rw [if_neg (by omega), hg, hlen]
    rw [hk]
    obtain ⟨x, hx⟩ : ∃ x, q[3]'(by omega) = x := ⟨_, rfl⟩
    rw [hx]
    clear hk hg
    have hl : ∀ c : Nat, ((q.size : Int) - 4 == (c : Int)) = decide (q.size = c + 4) := fun c => by
      by_cases h : q.size = c + 4
      · rw [decide_eq_true h]; simp; omega
      · rw [decide_eq_false h]; simp; omega
    have hl0 : ((q.size : Int) - 4 == 0) = decide (q.size = 4) := hl 0
    have hl65 : ((q.size : Int) - 4 == 65) = decide (q.size = 69) := hl 65
    have hl1 : ((q.size : Int) - 4 == 1) = decide (q.size = 5) := hl 1
    clear hl
    by_cases h1 : x = 1
    · subst h1
      rw [if_pos (.inl rfl)]
      go_enter Try.func61, Try.ntmps61
      go_wp2
      go_ret
      exact ⟨rfl, rfl⟩
    by_cases h4' : x = 4
    · subst h4'
      rw [if_pos (.inr rfl)]
      go_enter Try.func61, Try.ntmps61
      go_wp2
      go_ret
      exact ⟨rfl, rfl⟩
    by_cases h2 : x = 2
    · subst h2
      rw [if_neg (by decide), if_pos rfl]
      go_enter Try.func61, Try.ntmps61
      go_wp2
      go_ret
      exact ⟨rfl, rfl⟩
    by_cases h3' : x = 3
    · subst h3'
      rw [if_neg (by decide), if_neg (by decide), if_pos rfl]
      go_enter Try.func61, Try.ntmps61
      go_wp2
      go_ret
      exact ⟨rfl, rfl⟩
    · rw [if_neg (fun e => e.elim h1 h4'), if_neg h2, if_neg h3']
      have hx1 : ((x.toNat : Int) == 1) = false := (u8_eq x 1 (by decide)).trans (decide_eq_false h1)
      have hx2 : ((x.toNat : Int) == 2) = false := (u8_eq x 2 (by decide)).trans (decide_eq_false h2)
      have hx3 : ((x.toNat : Int) == 3) = false := (u8_eq x 3 (by decide)).trans (decide_eq_false h3')
      have hx4 : ((x.toNat : Int) == 4) = false := (u8_eq x 4 (by decide)).trans (decide_eq_false h4')
      clear h1 h2 h3' h4'
      go_enter Try.func61, Try.ntmps61
      go_wp2
      go_ret
      exact ⟨rfl, rfl⟩
end Go.Proofs.Ythokdbcpkmcieaa
