/- The walk of do. -/
import Derived.Test.YthokdbcpkmcieaaBrdW9
namespace Go.Proofs.Ythokdbcpkmcieaa
open Go Go.RowKit
theorem baB_drop (s : ByteArray) (k : Nat) : (s.extract k s.size).data.toList = s.data.toList.drop k := by
  rw [ByteArray.data_extract, Array.toList_extract]
  have h : s.size = s.data.toList.length := (Array.length_toList (xs := s.data)).symm
  rw [h, List.extract_eq_take_drop, List.take_of_length_le]
  rw [List.length_drop]
  exact Nat.le_refl _
theorem baB_take (s : ByteArray) (k : Nat) : (s.extract 0 k).data.toList = s.data.toList.take k := by
  rw [ByteArray.data_extract, Array.toList_extract, List.extract_eq_take_drop]
  simp
theorem do_page (p : Pow) (m : List UInt8) (rest : List UInt8) : doF p m 2 rest = doPageF p m (rest.getD 0 0) (rest.drop 1) := rfl
theorem do_read (p : Pow) (m : List UInt8) (rest : List UInt8) : doF p m 3 rest = ((p, m, true), doReadF m (rest.getD 0 0)) := rfl
theorem do_state (p : Pow) (m : List UInt8) (rest : List UInt8) : doF p m 4 rest = ((p, m, true), [1, UInt8.ofNat (bitsF m / 256), UInt8.ofNat (bitsF m % 256)]) := rfl
set_option maxRecDepth 100000 in
set_option maxHeartbeats 1000000 in
theorem do_two_yes (bb : Nat) (p : Pow) (mem : List UInt8) (rest : ByteArray) (k : Nat) (w : World) (h : StoAt w bb p mem) (hu : Used mem k) (hrs : rest.size = 65) (hok : (doF p mem 2 rest.data.toList).1.2.2 = true) :
    Calls Try.prog 62 #[.pointer (some ⟨bb, 0, none⟩), .int .u8 2, .string rest] w (StrEnd w bb (doF p mem 2 rest.data.toList).1 (doF p mem 2 rest.data.toList).2) := by
  have hlt := h.lt
  have hg : rest.data.toList.getD 0 0 = rest[0]'(by omega) := ba_get rest 0 (by omega)
  have HP := hideIt (fun w' (h' : StoAt w' bb p mem) => doPage_any bb p mem (rest[0]'(by omega)) (rest.extract 1 rest.size) k w' h' hu (by simp only [ByteArray.size_extract]; omega))
  rw [do_page, hg, ← baB_drop rest 1] at hok ⊢
  obtain ⟨q, hq⟩ : ∃ q, doPageF p mem (rest[0]'(by omega)) (rest.extract 1 rest.size).data.toList = q := ⟨_, rfl⟩
  rw [hq] at HP hok ⊢
  obtain ⟨⟨p1, m1, ok⟩, out⟩ := q
  simp only at HP hok ⊢
  subst hok
  obtain ⟨x, hx⟩ : ∃ x, rest[0]'(by omega) = x := ⟨_, rfl⟩
  rw [hx] at HP
  simp only [hrs] at HP
  have HS := hideIt h
  clear hq h hu hg
  go_enter Try.func62, Try.ntmps62
  go_wp2_with fail
  go_region_with (go_at_call 66; refine (HP.out w.drew (HS.out.kept rfl (Nat.le_refl _))).mono ?_; rintro e wz ⟨he, h1, h2⟩; obtain rfl := endT_yes he)
  all_goals
    have HZ := hideIt (And.intro h1 ((Within.below (o := 1) (n := 1267) (below_drewN (Below.refl _ _) 1) hlt).trans h2))
    clear h1 h2 he
    go_wp2
    go_ret
    exact ⟨rfl, HZ.out.1, HZ.out.2⟩
set_option maxRecDepth 100000 in
set_option maxHeartbeats 1000000 in
theorem do_two_no (bb : Nat) (p : Pow) (mem : List UInt8) (rest : ByteArray) (k : Nat) (w : World) (h : StoAt w bb p mem) (hu : Used mem k) (hrs : rest.size = 65) (hok : (doF p mem 2 rest.data.toList).1.2.2 = false) :
    Calls Try.prog 62 #[.pointer (some ⟨bb, 0, none⟩), .int .u8 2, .string rest] w (StrEnd w bb (doF p mem 2 rest.data.toList).1 (doF p mem 2 rest.data.toList).2) := by
  have hlt := h.lt
  have hg : rest.data.toList.getD 0 0 = rest[0]'(by omega) := ba_get rest 0 (by omega)
  have HP := hideIt (fun w' (h' : StoAt w' bb p mem) => doPage_any bb p mem (rest[0]'(by omega)) (rest.extract 1 rest.size) k w' h' hu (by simp only [ByteArray.size_extract]; omega))
  rw [do_page, hg, ← baB_drop rest 1] at hok ⊢
  obtain ⟨q, hq⟩ : ∃ q, doPageF p mem (rest[0]'(by omega)) (rest.extract 1 rest.size).data.toList = q := ⟨_, rfl⟩
  rw [hq] at HP hok ⊢
  obtain ⟨⟨p1, m1, ok⟩, out⟩ := q
  simp only at HP hok ⊢
  subst hok
  obtain ⟨x, hx⟩ : ∃ x, rest[0]'(by omega) = x := ⟨_, rfl⟩
  rw [hx] at HP
  simp only [hrs] at HP
  have HS := hideIt h
  clear hq h hu hg
  have hent : ∀ args w, (callFunc 66 args).run Try.prog w = .ok (.enter 66 args) w := enters_of Try.func66 (by kernel_rfl) rfl
  have HX : Hid (∀ w', StoAt w' bb p1 m1 → Within w.drew w' bb 1 1267 → StrEnd w bb (p1, m1, false) out (.panicked [{ v := .iface 103 (.agg #[]), recovered := false }]) w') := by
    intro w' h1 h2
    exact ⟨rfl, h1, (Within.below (o := 1) (n := 1267) (below_drewN (Below.refl _ _) 1) hlt).trans h2⟩
  go_enter Try.func62, Try.ntmps62
  go_wp2_with fail
  go_region_law (refine step_diesV (.string ⟨#[]⟩) 66 #[.pointer (some ⟨bb, 0, none⟩), .int .u8 (x.toNat : Int), .string (rest.extract 1 65)] rfl (by simp [go_sem, hent]) _ (HP.out w.drew (HS.out.kept rfl (Nat.le_refl _))) (fun e w' hh => ⟨_, endT_no hh.1, rfl, HX.out w' hh.2.1 hh.2.2⟩) ?_; intro HFF)
  all_goals exact HFF.out.elim
set_option maxRecDepth 100000 in
set_option maxHeartbeats 1000000 in
theorem do_three (bb : Nat) (p : Pow) (mem : List UInt8) (rest : ByteArray) (w : World) (h : StoAt w bb p mem) (hrs : rest.size = 1) :
    Calls Try.prog 62 #[.pointer (some ⟨bb, 0, none⟩), .int .u8 3, .string rest] w (StrEnd w bb (doF p mem 3 rest.data.toList).1 (doF p mem 3 rest.data.toList).2) := by
  have hlt := h.lt
  have hg : rest.data.toList.getD 0 0 = rest[0]'(by omega) := ba_get rest 0 (by omega)
  have HP := hideIt (doRead_any bb p mem (rest[0]'(by omega)) w h)
  rw [do_read, hg]
  obtain ⟨x, hx⟩ : ∃ x, rest[0]'(by omega) = x := ⟨_, rfl⟩
  rw [hx] at HP ⊢
  obtain ⟨out, hout⟩ : ∃ out, doReadF mem x = out := ⟨_, rfl⟩
  rw [hout] at HP ⊢
  clear h hg hout
  go_enter Try.func62, Try.ntmps62
  go_wp2_with fail
  refine HP.out.mono ?_
  rintro e wz ⟨he, h1, h2⟩
  obtain rfl := endT_yes he
  have HZ := hideIt (And.intro h1 h2)
  clear h1 h2 he
  go_wp2
  go_ret
  exact ⟨rfl, HZ.out.1, HZ.out.2⟩
set_option maxRecDepth 100000 in
set_option maxHeartbeats 1000000 in
theorem do_four (bb : Nat) (p : Pow) (mem : List UInt8) (rest : ByteArray) (w : World) (h : StoAt w bb p mem) :
    Calls Try.prog 62 #[.pointer (some ⟨bb, 0, none⟩), .int .u8 4, .string rest] w (StrEnd w bb (doF p mem 4 rest.data.toList).1 (doF p mem 4 rest.data.toList).2) := by
  have hlt := h.lt
  have HP := hideIt (burntPages_any bb p mem w h)
  have hbl : bitsF mem < 65536 := bitsS_lt mem 16
  rw [do_state]
  obtain ⟨c, hc⟩ : ∃ c, bitsF mem = c := ⟨_, rfl⟩
  rw [hc] at HP hbl ⊢
  have HS := hideIt h
  have HC := hideIt (fun w' => conv_row (l := [UInt8.ofNat (c / 256), UInt8.ofNat (c % 256)]) (n := 2) rfl (own_two w' w'.heap.size (Nat.le_refl _) (UInt8.ofNat (c / 256)) (UInt8.ofNat (c % 256))))
  have k1 : (UInt8.ofNat (c / 256)).toNat = c / 256 := by rw [UInt8.toNat_ofNat']; omega
  have k2 : (UInt8.ofNat (c % 256)).toNat = c % 256 := by rw [UInt8.toNat_ofNat']; omega
  rw [k1, k2, show ((c / 256 : Nat) : Int) = (c : Int) / 256 by omega, show ((c % 256 : Nat) : Int) = (c : Int) % 256 by omega] at HC
  have hts : (txt [UInt8.ofNat (c / 256), UInt8.ofNat (c % 256)]).size = 2 := txtB_size _
  obtain ⟨st, hst⟩ : ∃ st, [UInt8.ofNat (c / 256), UInt8.ofNat (c % 256)] = st := ⟨_, rfl⟩
  have hss : ([1, UInt8.ofNat (c / 256), UInt8.ofNat (c % 256)] : List UInt8) = [1] ++ st := by rw [← hst]; rfl
  rw [hst] at HC hts
  rw [hss]
  clear h hc k1 k2 hst hss
  go_enter Try.func62, Try.ntmps62
  go_wp2_with fail
  refine HP.out.mono ?_
  rintro e w1 ⟨rfl, hb1⟩
  have hcv := HC.out w1
  have HZ := hideIt hb1
  clear hb1 HC HP
  go_wp2
  go_ret
  refine ⟨?_, HS.out.below (HZ.out.trans ((Below.refl _ _).alloc HZ.out.size _)), Within.below (HZ.out.trans ((Below.refl _ _).alloc HZ.out.size _)) hlt⟩
  show Ending.returned (.string (txt [1] ++ txt st)) = _
  rw [txtB_cat]
  rfl
set_option maxRecDepth 100000 in
set_option maxHeartbeats 1000000 in
theorem do_else (bb : Nat) (p : Pow) (mem : List UInt8) (asked : UInt8) (rest : ByteArray) (w : World) (h : StoAt w bb p mem) (e2 : asked ≠ 2) (e3 : asked ≠ 3) (e4 : asked ≠ 4) :
    Calls Try.prog 62 #[.pointer (some ⟨bb, 0, none⟩), .int .u8 (asked.toNat : Int), .string rest] w (StrEnd w bb (doF p mem asked rest.data.toList).1 (doF p mem asked rest.data.toList).2) := by
  have hx2 : ((asked.toNat : Int) == 2) = false := (u8_eq asked 2 (by decide)).trans (decide_eq_false e2)
  have hx3 : ((asked.toNat : Int) == 3) = false := (u8_eq asked 3 (by decide)).trans (decide_eq_false e3)
  have hx4 : ((asked.toNat : Int) == 4) = false := (u8_eq asked 4 (by decide)).trans (decide_eq_false e4)
  have hd : doF p mem asked rest.data.toList = ((p, mem, true), [1]) := by unfold doF; rw [if_neg e2, if_neg e3, if_neg e4]
  rw [hd]
  have HS := hideIt h
  clear h e2 e3 e4 hd
  go_enter Try.func62, Try.ntmps62
  go_wp2
  go_ret
  exact ⟨rfl, HS.out, Within.refl _ _ _ _⟩
theorem do_any (bb : Nat) (p : Pow) (mem : List UInt8) (asked : UInt8) (rest : ByteArray) (k : Nat) (w : World) (h : StoAt w bb p mem) (hu : Used mem k) (h2 : asked = 2 → rest.size = 65) (h3 : asked = 3 → rest.size = 1) :
    Calls Try.prog 62 #[.pointer (some ⟨bb, 0, none⟩), .int .u8 (asked.toNat : Int), .string rest] w (StrEnd w bb (doF p mem asked rest.data.toList).1 (doF p mem asked rest.data.toList).2) := by
  by_cases e2 : asked = 2
  · subst e2
    by_cases hok : (doF p mem 2 rest.data.toList).1.2.2 = true
    · exact do_two_yes bb p mem rest k w h hu (h2 rfl) hok
    · exact do_two_no bb p mem rest k w h hu (h2 rfl) (by simpa using hok)
  · by_cases e3 : asked = 3
    · subst e3; exact do_three bb p mem rest w h (h3 rfl)
    · by_cases e4 : asked = 4
      · subst e4; exact do_four bb p mem rest w h
      · exact do_else bb p mem asked rest w h e2 e3 e4
end Go.Proofs.Ythokdbcpkmcieaa
