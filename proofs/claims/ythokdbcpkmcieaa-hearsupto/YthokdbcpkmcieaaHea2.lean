/- The walk of Hears. -/
import Derived.Test.YthokdbcpkmcieaaHea1
namespace Go.Proofs.Ythokdbcpkmcieaa
open Go Go.RowKit
/-- The first word that the law sends: "ok". -/
def okL : List UInt8 := [111, 107]
theorem ok_heard : (hearF ⟨0, []⟩ (frameF okL)).2.length = 1 := by decide +kernel
theorem same_start : SameE ⟨0, []⟩ ⟨false, []⟩ := .inl ⟨rfl, rfl⟩
/-- The cells of a list of texts that came in. -/
def TextsAt (w : World) (a : Option Addr) (l : List ByteArray) : Prop := ∀ i (h : i < l.length), ∃ b off, a = some ⟨b, off, none⟩ ∧ b < w.heap.size ∧ w.cell? ⟨b, off + i, none⟩ = some (.string l[i])
def sumSize (l : List ByteArray) : Nat := (l.map ByteArray.size).sum
theorem sumSize_take (l : List ByteArray) (k : Nat) (h : k < l.length) : sumSize (l.take (k + 1)) = sumSize (l.take k) + l[k].size := by
  unfold sumSize
  rw [List.take_add_one, List.getElem?_eq_getElem h, List.map_append, List.sum_append]
  simp
theorem sumSize_le (l : List ByteArray) (k : Nat) : sumSize (l.take k) ≤ sumSize l := by
  have h : sumSize l = sumSize (l.take k) + sumSize (l.drop k) := by
    unfold sumSize
    rw [← List.sum_append, ← List.map_append, List.take_append_drop]
  omega
theorem size_le_sum (l : List ByteArray) (k : Nat) (h : k < l.length) : l[k].size ≤ sumSize l := by
  have h1 := sumSize_take l k h
  have h2 := sumSize_le l (k + 1)
  omega
theorem TextsAt.below {w w' : World} {a : Option Addr} {l : List ByteArray} (h : TextsAt w a l) (hb : Below w.heap.size w w') {i : Nat} (hi : i < l.length) : ∃ b off, a = some ⟨b, off, none⟩ ∧ w'.cell? ⟨b, off + i, none⟩ = some (.string l[i]) := by
  obtain ⟨b, off, h1, h2, h3⟩ := h i hi
  exact ⟨b, off, h1, by rw [hb.cell (by simpa using h2)]; exact h3⟩
theorem Try.zeroREar : (Try.prog.info? 32).map (fun i => i.zero) = some (some (.agg #[.bool false, .string ⟨#[]⟩])) := by kernel_rfl
theorem zeroREar_at (w : World) (t : TypeId) : REarAt (w.alloc (.cells #[.bool false, .string ⟨#[]⟩] t)) w.heap.size ⟨false, []⟩ := by
  have hc : ∀ j, (w.alloc (.cells #[.bool false, .string ⟨#[]⟩] t)).cell? ⟨w.heap.size, j, none⟩ = #[.bool false, .string ⟨#[]⟩][j]? := fun j => World.cell?_alloc_mark w _ t (0, 0) j
  exact ⟨hc 0, hc 1, fun j => by rw [World.frozen?_alloc_mark w _ t 0 0 j]; simp, by simp⟩
theorem zeroBook_at {w w' : World} (t : TypeId) (hb : Below (w.heap.size + 1) (w.alloc (.cells #[.slice none 0 0, .slice none 0 0] t)) w') (hz : w.heap.size + 5 ≤ w'.heap.size) : BookS w' w.heap.size (w.heap.size + 5) w'.heap.size (.slice none 0 0) [] ∧ w'.cell? ⟨w.heap.size, 1, none⟩ = some (.slice none 0 0) := by
  have hc : ∀ j, (w.alloc (.cells #[.slice none 0 0, .slice none 0 0] t)).cell? ⟨w.heap.size, j, none⟩ = #[.slice none 0 0, .slice none 0 0][j]? := fun j => World.cell?_alloc_mark w _ t (0, 0) j
  have hk := hb.block w.heap.size (by omega)
  refine ⟨⟨(World.cell?_of_block hk).trans (hc 0), (World.frozen?_of_block hk).trans (by rw [World.frozen?_alloc_mark w _ t 0 0 0]; simp), by omega, hz, World.ownsRow_nil _ _ _ _, fun g hg => by simp [Value.ownBlock] at hg, fun e he => by simp at he, fun e he => by simp at he⟩, (World.cell?_of_block hk).trans (hc 1)⟩
theorem drewBook {w : World} {B0 top cnt : Nat} (h : ∃ sv es, BookS w B0 (B0 + 5) top sv es ∧ es.length = cnt) (q : Nat) : ∃ sv es, BookS (w.drewN q) B0 (B0 + 5) top sv es ∧ es.length = cnt := by
  obtain ⟨sv, es, h1, h2⟩ := h
  exact ⟨sv, es, h1.kept rfl (fun _ _ _ => rfl), h2⟩
theorem slice_len {w : World} {base : Nat} {e : TypeId} {size n m c : Nat} {a : Option Addr} {xs : List Value} (h : w.ownsRow base e size (.slice a m c) n xs) : m = n := by
  obtain ⟨_, ⟨h1, rfl⟩ | ⟨g, cap, cur, h1, _⟩⟩ := h
  · cases h1; rfl
  · cases h1; rfl
theorem HS.le {w wr : World} {B0 cnt used used' : Nat} (h : HS w wr B0 cnt used) (hu : used ≤ used') : HS w wr B0 cnt used' :=
  ⟨h.book, h.img, by obtain ⟨s, r, h1, h2, h3, h4⟩ := h.one; exact ⟨s, r, h1, h2, h3, by omega⟩, by obtain ⟨s, r, h1, h2, h3, h4⟩ := h.two; exact ⟨s, r, h1, h2, h3, by omega⟩, h.below, h.at0, h.size⟩
theorem frames_any (m : ByteArray) (hx : m.size ≤ 4000000) : ∃ S c, (∀ w, Calls Try.prog 13 #[.string m] w fun e w' => e = .returned (.tuple #[.string S, .int .i64 c]) ∧ Below w.heap.size w w') ∧ ∀ w, Calls Try.prog 8 #[.string m] w fun e w' => e = .returned (.tuple #[.string S, .int .i64 c]) ∧ Below w.heap.size w w' := by
  by_cases h : 1 ≤ m.size ∧ m.size ≤ 80
  · exact ⟨_, 0, fun w => bframe_any m w h.1 h.2, fun w => rframe_any m w h.1 h.2⟩
  · have hb : m.size < 1 ∨ 80 < m.size := by omega
    exact ⟨⟨#[]⟩, 8, fun w => (bframe_bad m w hb hx).mono fun e w' ⟨h1, h2⟩ => ⟨h1, by rw [h2]; exact Below.refl _ _⟩, fun w => (rframe_bad m w hb hx).mono fun e w' ⟨h1, h2⟩ => ⟨h1, by rw [h2]; exact Below.refl _ _⟩⟩
theorem hs_start {w w1 w2 : World} {B0 : Nat} {t1 t2 : TypeId} (hB0 : w.heap.size = B0) (hE1 : EarAt w1 (w.alloc (.cells #[.slice none 0 0, .slice none 0 0] t1)).heap.size ⟨0, []⟩) (hB1 : Below (w.alloc (.cells #[.slice none 0 0, .slice none 0 0] t1)).heap.size (w.alloc (.cells #[.slice none 0 0, .slice none 0 0] t1)) w1) (hz1 : w1.heap.size = B0 + 2)
    (hE2 : EarAt w2 w1.heap.size ⟨0, []⟩) (hB2 : Below w1.heap.size w1 w2) (hz2 : w2.heap.size = B0 + 3) : HS w ((w2.alloc (.cells #[.bool false, .string ⟨#[]⟩] t2)).alloc (.cells #[.bool false, .string ⟨#[]⟩] t2)) B0 0 0 ∧ EarAt ((w2.alloc (.cells #[.bool false, .string ⟨#[]⟩] t2)).alloc (.cells #[.bool false, .string ⟨#[]⟩] t2)) (B0 + 1) ⟨0, []⟩ ∧ REarAt ((w2.alloc (.cells #[.bool false, .string ⟨#[]⟩] t2)).alloc (.cells #[.bool false, .string ⟨#[]⟩] t2)) (B0 + 3) ⟨false, []⟩ := by
  subst hB0
  have hk3 : ∀ o : Obj, ∀ j, j < w2.heap.size + 1 → ((w2.alloc (.cells #[.bool false, .string ⟨#[]⟩] t2)).alloc o).heap[j]? = (w2.alloc (.cells #[.bool false, .string ⟨#[]⟩] t2)).heap[j]? := fun o j hj => Below.heap_alloc _ _ _ (by rw [World.alloc_size]; exact hj)
  have hk2 : ∀ o : Obj, ∀ j, j < w2.heap.size → (w2.alloc o).heap[j]? = w2.heap[j]? := fun o j hj => Below.heap_alloc _ _ _ hj
  have hsz : ((w2.alloc (.cells #[.bool false, .string ⟨#[]⟩] t2)).alloc (.cells #[.bool false, .string ⟨#[]⟩] t2)).heap.size = w.heap.size + 5 := by rw [World.alloc_size, World.alloc_size, hz2]
  have hB : Below (w.heap.size + 1) (w.alloc (.cells #[.slice none 0 0, .slice none 0 0] t1)) ((w2.alloc (.cells #[.bool false, .string ⟨#[]⟩] t2)).alloc (.cells #[.bool false, .string ⟨#[]⟩] t2)) := by
    rw [World.alloc_size] at hB1
    refine ((hB1.trans (hB2.mono (by omega))).alloc (by omega) _).alloc (by rw [World.alloc_size]; omega) _
  have hbk := zeroBook_at t1 hB (by omega)
  rw [World.alloc_size] at hE1
  rw [hz1] at hE2
  have hX : EarAt ((w2.alloc (.cells #[.bool false, .string ⟨#[]⟩] t2)).alloc (.cells #[.bool false, .string ⟨#[]⟩] t2)) (w.heap.size + 1) ⟨0, []⟩ := hE1.kept (by rw [hk3 _ _ (by omega), hk2 _ _ (by omega), hB2.block _ (by omega)]) (by omega)
  have hY : REarAt ((w2.alloc (.cells #[.bool false, .string ⟨#[]⟩] t2)).alloc (.cells #[.bool false, .string ⟨#[]⟩] t2)) (w.heap.size + 3) ⟨false, []⟩ := by
    have := zeroREar_at w2 t2
    rw [hz2] at this
    exact this.kept (hk3 _ _ (by omega)) (by simp)
  refine ⟨⟨⟨_, _, hbk.1, rfl⟩, hbk.2, ⟨_, _, hX, hY, same_start, Nat.le_refl _⟩, ⟨_, _, hE2.kept ?_ ?_, ?_, same_start, Nat.le_refl _⟩, ?_, rfl, by omega⟩, hX, hY⟩
  · rw [hk3 _ _ (by omega), hk2 _ _ (by omega)]
  · omega
  · have := zeroREar_at (w2.alloc (.cells #[.bool false, .string ⟨#[]⟩] t2)) t2
    rw [World.alloc_size, hz2] at this
    exact this
  · exact ((Below.refl _ _).alloc (Nat.le_refl _) _).trans (hB.mono (by omega))
set_option maxRecDepth 100000 in
set_option maxHeartbeats 8000000 in
theorem hears_any (ma pa : Option Addr) (mc pc : Nat) (ml pl : List ByteArray) (w : World) (hm : TextsAt w ma ml) (hp : TextsAt w pa pl) (hml : ml.length ≤ 1048576) (hms : sumSize ml ≤ 1048576) (hpl : pl.length ≤ 1048576) (hps : sumSize pl ≤ 1048576) :
    Calls Try.prog 3 #[.slice ma ml.length mc, .slice pa pl.length pc] w fun e w' => e = .returned (.bool true) ∧ Below w.heap.size w w' := by
  obtain ⟨B0, hB0⟩ : ∃ B0, w.heap.size = B0 := ⟨_, rfl⟩
  have HM := hideIt hm
  have HP := hideIt hp
  have HL := hideIt (fun w' => listen_any w')
  have HF := hideIt (fun w' => rframe_any ⟨#[111, 107]⟩ w' (by decide) (by decide))
  obtain ⟨mn, hmn⟩ : ∃ n, ml.length = n := ⟨_, rfl⟩
  obtain ⟨pn, hpn⟩ : ∃ n, pl.length = n := ⟨_, rfl⟩
  rw [hmn] at hml ⊢
  rw [hpn] at hpl ⊢
  clear hm hp
  go_enter Try.func3, Try.ntmps3
  go_wp2_with fail
  refine (HL.out _).mono ?_
  rintro e w1 ⟨rfl, hE1, hB1, hz1⟩
  have hz1' : w1.heap.size = B0 + 2 := by rw [hz1, World.alloc_size, hB0]
  have HQ1 := hideIt (And.intro hE1 hB1)
  clear hE1 hB1 hz1
  go_wp2_with fail
  refine (HL.out _).mono ?_
  rintro e w2 ⟨rfl, hE2, hB2, hz2⟩
  have hz2' : w2.heap.size = B0 + 3 := by rw [hz2, hz1']
  have HQ2 := hideIt (And.intro hE2 hB2)
  clear hE2 hB2 hz2
  have hzr1 : ∀ w', (zeroValue 32).run Try.prog w' = .ok (.agg #[.bool false, .string ⟨#[]⟩]) w' := fun w' => run_zero Try.zeroREar w'
  have hH0 := hs_start (t2 := 32) hB0 HQ1.out.1 HQ1.out.2 hz1' HQ2.out.1 HQ2.out.2 hz2'
  have HH0 := hideIt hH0
  clear hH0 HQ1 HQ2
  go_wp2_with fail
  obtain ⟨w3, hw3⟩ : ∃ w3, (w2.alloc (.cells #[.bool false, .string ⟨#[]⟩] 32)).alloc (.cells #[.bool false, .string ⟨#[]⟩] 32) = w3 := ⟨_, rfl⟩
  rw [hw3] at HH0 ⊢
  clear hw3 hz1' hz2' hzr1
  refine (HF.out _).mono ?_
  rintro e w4 ⟨rfl, hB4⟩
  obtain ⟨FM, hFM⟩ : ∃ FM, txt (frameF (⟨#[111, 107]⟩ : ByteArray).data.toList) = FM := ⟨_, rfl⟩
  have hFl : FM.data.toList = frameF okL := by rw [← hFM, txt_toList]; rfl
  have hFs : FM.size ≤ 100 := by rw [← hFM, txt_size]; decide
  rw [hFM]
  have hH4 := HH0.out.1.grow hB4
  have HH4 := hideIt hH4
  have hEs := HH0.out.2.1.kept (hB4.block _ HH0.out.2.1.lt) hB4.size
  have hRr := HH0.out.2.2.kept (hB4.block _ HH0.out.2.2.lt) hB4.size
  have hSame := same_start
  obtain ⟨s, hs⟩ : ∃ s : EarS, (⟨0, []⟩ : EarS) = s := ⟨_, rfl⟩
  obtain ⟨r, hr⟩ : ∃ r : REar, (⟨false, []⟩ : REar) = r := ⟨_, rfl⟩
  have hrl : r.s.length ≤ 0 := by rw [← hr]; exact Nat.le_refl _
  rw [hs] at hEs hSame
  rw [hr] at hRr hSame
  have hsame := sameE_hear hSame FM.data.toList
  have hcnt1 : (hearF s FM.data.toList).2.length ≤ 100 := by have := hearF_count s FM.data.toList; rw [Array.length_toList] at this; exact Nat.le_trans this hFs
  have hrl2 : (rHearF r FM.data.toList).1.s.length ≤ 0 + FM.size := by have := rHearF_len r FM.data.toList; rw [Array.length_toList] at this; exact Nat.le_trans this (by show r.s.length + FM.size ≤ _; omega)
  have hone : (hearF s FM.data.toList).2.length = 1 := by rw [← hs, hFl]; exact ok_heard
  have HBH := hideIt (bhear_any (B0 + 1) s FM w4 hEs (by omega))
  obtain ⟨R1, hR1⟩ : ∃ R1, hearF s FM.data.toList = R1 := ⟨_, rfl⟩
  obtain ⟨R2, hR2⟩ : ∃ R2, rHearF r FM.data.toList = R2 := ⟨_, rfl⟩
  have HRH := hideIt (fun w' (h : REarAt w' (B0 + 3) r) => rhear_any (B0 + 3) r FM w' h (by omega))
  rw [hR1, hR2] at hsame
  rw [hR1] at HBH hcnt1 hone
  rw [hR2] at HRH hrl2
  have hz4 := hH4.size
  have HE := hideIt (And.intro hRr (And.intro hsame hrl2))
  clear hH4 hEs hRr hSame hrl hsame hrl2 hR1 hR2 hFl hFM HH0 hB4 hs hr
  go_wp2_with fail
  refine HBH.out.mono ?_
  rintro e w5 ⟨v1, rfl, hE5, hR5, hG5⟩
  obtain ⟨va, vn, vc, rfl⟩ := slice_ofR hR5
  have HF5 := hideIt (HRH.out w5 (HE.out.1.kept (hG5.block _ (by omega) (by simp)) hG5.size))
  have HQ5 := hideIt (And.intro hE5 (And.intro hR5 hG5))
  clear hE5 hR5 hG5 HBH HRH
  go_wp2_with fail
  refine HF5.out.mono ?_
  rintro e w6 ⟨v2, rfl, hE6, hR6, hG6⟩
  obtain ⟨ua, un, uc, rfl⟩ := slice_ofR hR6
  have hbk := HH4.out.bookAt HQ5.out.2.2 hG6 (by omega) (by omega) (by omega) (by omega)
  have hRow : w6.ownsRow w4.heap.size 9 1 (.slice va vn vc) R1.2.length (strs R1.2) := own_atE HQ5.out.2.1 (fun j hj => hG6.block j (HQ5.out.2.1.lt j hj).2 (by have := (HQ5.out.2.1.lt j hj).1; simp; omega))
  have HSM := hideIt (sameStrings_any w6 w4.heap.size w5.heap.size (.slice va vn vc) (.slice ua un uc) R1.2 hRow (by rw [HE.out.2.1.2]; exact hR6) (by omega))
  have hun : un = 1 := by
    have := slice_len hR6
    rw [← HE.out.2.1.2] at this
    omega
  subst hun
  have HKP := hideIt (fun q => keep_of (w2 := w6.drewN q) (B0 := B0) (top := w4.heap.size) (l := R1.2) (drewBook hbk.1 q) (by omega) (by omega) hRow (Nat.le_trans HQ5.out.2.2.size hG6.size) hbk.2)
  have HQ6 := hideIt (And.intro hE6 hG6)
  clear hbk hRow hE6 hR6 hG6 HF5
  go_wp2_with fail
  refine HSM.out.mono ?_
  rintro e w7 ⟨rfl, q, rfl⟩
  go_wp2_with fail
  refine (HKP.out q).mono ?_
  rintro e w8 ⟨rfl, hbk8, hbut8, himg8⟩
  have hH8 := HH4.out.stepOne (n := FM.size) ⟨HQ5.out.2.2, HQ6.out.2, ⟨hbut8.os, hbut8.tape, hbut8.output, hbut8.size, hbut8.block⟩, Below.refl _ _⟩ HQ5.out.1 HQ6.out.1 HE.out.2.1.1 HE.out.2.2 hbk8 himg8
  have HH8 := hideIt hH8
  clear hH8 hbk8 hbut8 himg8 HKP HSM HQ5 HQ6 HE HH4
  have hH8 : HS w w8 B0 1 100 := HH8.out.le (by omega)
  have HH := hideIt hH8
  clear HH8 hH8
  go_wp2_with fail
  go_loopw [14, 15] (fun ok i wr => ok = .bool true ∧ ∃ k : Nat, k ≤ mn ∧ i = .int .i64 k ∧ HS w wr B0 1 100) (fun _ i _ => mn - (intOf i).toNat)
  case atStart => exact ⟨rfl, 0, Nat.zero_le _, rfl, HH.out⟩
  case round =>
    obtain ⟨rfl, k, hk, rfl, hH⟩ := hrel
    clear HH
    have HH := hideIt hH
    by_cases hlt : k < mn
    · obtain ⟨b, off, rfl, hcu⟩ := HM.out.below hH.below (i := k) (by omega)
      have hus := size_le_sum ml k (by omega)
      obtain ⟨u, hu⟩ : ∃ u, ml[k]'(by omega) = u := ⟨_, rfl⟩
      rw [hu] at hcu hus
      obtain ⟨S, c, hf1, hf2⟩ := frames_any u (by omega)
      have HF1 := hideIt hf1
      have HF2 := hideIt hf2
      have hbk : b < wr.heap.size := by have := World.block_lt_of_cell? _ _ hcu; simpa using this
      have hii : (k : Int) < (mn : Int) := by omega
      clear hf1 hf2 hH hu
      go_wp2_with fail
      refine (HF1.out _).mono ?_
      rintro e w5 ⟨rfl, hb5⟩
      have hcu5 : w5.cell? ⟨b, off + k, none⟩ = some (.string u) := (World.cell?_of_block (hb5.block b hbk)).trans hcu
      have HB5 := hideIt hb5
      clear hb5
      go_wp2_with fail
      refine (HF2.out _).mono ?_
      rintro e w6 ⟨rfl, hb6⟩
      have HH6 := hideIt ((HH.out.grow HB5.out).grow hb6)
      clear hb6 HB5 HH
      go_wp2
      go_roundw
      case rel => exact ⟨rfl, k + 1, by omega, by go_num, HH6.out⟩
      case measure => simp [intOf]; omega
    · have hkk : k = mn := by omega
      subst hkk
      clear hH
      go_wp2_with fail
      go_loopw [12, 13, 14, 20] (fun l1 l2 ok i wr => ok = .bool true ∧ (∃ a b c, l1 = .slice a b c) ∧ (∃ a b c, l2 = .slice a b c) ∧ ∃ j : Nat, j ≤ pn ∧ i = .int .i64 j ∧ HS w wr B0 (1 + j) (100 + sumSize (pl.take j))) (fun _ _ _ i _ => pn - (intOf i).toNat)
      case atStart => exact ⟨rfl, ⟨_, _, _, rfl⟩, ⟨_, _, _, rfl⟩, 0, Nat.zero_le _, rfl, HH.out⟩
      case round =>
      rename_i hrel
      clear HH
      obtain ⟨rfl, ⟨p1, p2, p3, rfl⟩, ⟨p4, p5, p6, rfl⟩, j, hj, rfl, hH⟩ := hrel
      have HH := hideIt hH
      have hzr := hH.size
      by_cases hlt2 : j < pn
      · obtain ⟨b, off, hpa, hb0, hc0⟩ := HP.out j (by omega)
        subst hpa
        have hcu : wr.cell? ⟨b, off + j, none⟩ = some (.string (pl[j]'(by omega))) := by rw [hH.below.cell (by simpa using hb0)]; exact hc0
        have hus := size_le_sum pl j (by omega)
        have hsl := sumSize_le pl (j + 1)
        have hst := sumSize_take pl j (by omega)
        obtain ⟨u, hu⟩ : ∃ u, pl[j]'(by omega) = u := ⟨_, rfl⟩
        rw [hu] at hcu hus hst hc0
        have hus : u.size ≤ 1048576 := by omega
        have hsb : sumSize (pl.take j) + u.size ≤ 1048576 := by omega
        have hii : (j : Int) < (pn : Int) := by omega
        have hbB : b < B0 := by omega
        clear hH hst hsl hc0
        by_cases hm3 : j % 3 = 2
        · have hcm : ((j : Int) % 3 == 2) = true := by simp; omega
          obtain ⟨s, r, hEs, hRr, hSame, hrl⟩ := HH.out.two
          have hsame := sameE_hear hSame u.data.toList
          have hcnt1 : (hearF s u.data.toList).2.length ≤ 1048576 := by have := hearF_count s u.data.toList; rw [Array.length_toList] at this; exact Nat.le_trans this hus
          have hrl2 : (rHearF r u.data.toList).1.s.length ≤ 100 + sumSize (pl.take j) + u.size := by have := rHearF_len r u.data.toList; rw [Array.length_toList] at this; exact Nat.le_trans this (by show r.s.length + u.size ≤ _; omega)
          have HBH := hideIt (bhear_any (B0 + 2) s u wr hEs (by omega))
          obtain ⟨R1, hR1⟩ : ∃ R1, hearF s u.data.toList = R1 := ⟨_, rfl⟩
          obtain ⟨R2, hR2⟩ : ∃ R2, rHearF r u.data.toList = R2 := ⟨_, rfl⟩
          have HRH := hideIt (fun w' (h : REarAt w' (B0 + 4) r) => rhear_any (B0 + 4) r u w' h (by omega))
          rw [hR1, hR2] at hsame
          rw [hR1] at HBH hcnt1
          rw [hR2] at HRH hrl2
          have HE := hideIt (And.intro hRr (And.intro hsame hrl2))
          clear hEs hRr hSame hrl hsame hrl2 hR1 hR2
          go_wp2_with fail
          refine HBH.out.mono ?_
          rintro e w5 ⟨v1, rfl, hE5, hR5, hG5⟩
          obtain ⟨va, vn, vc, rfl⟩ := slice_ofR hR5
          have HF5 := hideIt (HRH.out w5 (HE.out.1.kept (hG5.block _ (by omega) (by simp)) hG5.size))
          have hcu5 : w5.cell? ⟨b, off + j, none⟩ = some (.string u) := (World.cell?_of_block (hG5.block b (by omega) (by simp; omega))).trans hcu
          have HQ5 := hideIt (And.intro hE5 (And.intro hR5 hG5))
          clear hE5 hR5 hG5 HBH HRH
          go_wp2_with fail
          refine HF5.out.mono ?_
          rintro e w6 ⟨v2, rfl, hE6, hR6, hG6⟩
          obtain ⟨ua, un, uc, rfl⟩ := slice_ofR hR6
          have hbk := HH.out.bookAt HQ5.out.2.2 hG6 (by omega) (by omega) (by omega) (by omega)
          have hRow : w6.ownsRow wr.heap.size 9 1 (.slice va vn vc) R1.2.length (strs R1.2) := own_atE HQ5.out.2.1 (fun j hj => hG6.block j (HQ5.out.2.1.lt j hj).2 (by have := (HQ5.out.2.1.lt j hj).1; simp; omega))
          have HSM := hideIt (sameStrings_any w6 wr.heap.size w5.heap.size (.slice va vn vc) (.slice ua un uc) R1.2 hRow (by rw [HE.out.2.1.2]; exact hR6) (by omega))
          have HKP := hideIt (fun q => keep_of (w2 := w6.drewN q) (B0 := B0) (top := wr.heap.size) (l := R1.2) (drewBook hbk.1 q) (by omega) (by omega) hRow (Nat.le_trans HQ5.out.2.2.size hG6.size) hbk.2)
          have HQ6 := hideIt (And.intro hE6 hG6)
          clear hbk hRow hE6 hR6 hG6 HF5 hcu hcu5
          go_wp2_with fail
          refine HSM.out.mono ?_
          rintro e w7 ⟨rfl, q, rfl⟩
          go_wp2_with fail
          refine (HKP.out q).mono ?_
          rintro e w8 ⟨rfl, hbk8, hbut8, himg8⟩
          have HLK := hideIt (looks_of hbk8 (by omega) himg8)
          have HQ8 := hideIt (And.intro hbk8 (And.intro hbut8 himg8))
          clear hbk8 hbut8 himg8 HKP HSM
          go_wp2_with fail
          refine HLK.out.mono ?_
          rintro e w9 ⟨rfl, hb9⟩
          have hH9 := HH.out.stepTwo (n := u.size) ⟨HQ5.out.2.2, HQ6.out.2, ⟨HQ8.out.2.1.os, HQ8.out.2.1.tape, HQ8.out.2.1.output, HQ8.out.2.1.size, HQ8.out.2.1.block⟩, hb9⟩ HQ5.out.1 HQ6.out.1 HE.out.2.1.1 HE.out.2.2 HQ8.out.1 HQ8.out.2.2
          have HH9 := hideIt hH9
          clear hH9 hb9 HLK HQ8 HQ5 HQ6 HE
          go_wp2
          go_roundw
          case rel =>
            refine ⟨rfl, ⟨_, _, _, rfl⟩, ⟨_, _, _, rfl⟩, j + 1, by omega, by go_num, ?_⟩
            rw [sumSize_take pl j (by omega), hu, ← Nat.add_assoc, ← Nat.add_assoc]
            exact HH9.out
          case measure => simp [intOf]; omega
        · have hcm : ((j : Int) % 3 == 2) = false := by simp; omega
          obtain ⟨s, r, hEs, hRr, hSame, hrl⟩ := HH.out.one
          have hsame := sameE_hear hSame u.data.toList
          have hcnt1 : (hearF s u.data.toList).2.length ≤ 1048576 := by have := hearF_count s u.data.toList; rw [Array.length_toList] at this; exact Nat.le_trans this hus
          have hrl2 : (rHearF r u.data.toList).1.s.length ≤ 100 + sumSize (pl.take j) + u.size := by have := rHearF_len r u.data.toList; rw [Array.length_toList] at this; exact Nat.le_trans this (by show r.s.length + u.size ≤ _; omega)
          have HBH := hideIt (bhear_any (B0 + 1) s u wr hEs (by omega))
          obtain ⟨R1, hR1⟩ : ∃ R1, hearF s u.data.toList = R1 := ⟨_, rfl⟩
          obtain ⟨R2, hR2⟩ : ∃ R2, rHearF r u.data.toList = R2 := ⟨_, rfl⟩
          have HRH := hideIt (fun w' (h : REarAt w' (B0 + 3) r) => rhear_any (B0 + 3) r u w' h (by omega))
          rw [hR1, hR2] at hsame
          rw [hR1] at HBH hcnt1
          rw [hR2] at HRH hrl2
          have HE := hideIt (And.intro hRr (And.intro hsame hrl2))
          clear hEs hRr hSame hrl hsame hrl2 hR1 hR2
          go_wp2_with fail
          refine HBH.out.mono ?_
          rintro e w5 ⟨v1, rfl, hE5, hR5, hG5⟩
          obtain ⟨va, vn, vc, rfl⟩ := slice_ofR hR5
          have HF5 := hideIt (HRH.out w5 (HE.out.1.kept (hG5.block _ (by omega) (by simp)) hG5.size))
          have hcu5 : w5.cell? ⟨b, off + j, none⟩ = some (.string u) := (World.cell?_of_block (hG5.block b (by omega) (by simp; omega))).trans hcu
          have HQ5 := hideIt (And.intro hE5 (And.intro hR5 hG5))
          clear hE5 hR5 hG5 HBH HRH
          go_wp2_with fail
          refine HF5.out.mono ?_
          rintro e w6 ⟨v2, rfl, hE6, hR6, hG6⟩
          obtain ⟨ua, un, uc, rfl⟩ := slice_ofR hR6
          have hbk := HH.out.bookAt HQ5.out.2.2 hG6 (by omega) (by omega) (by omega) (by omega)
          have hRow : w6.ownsRow wr.heap.size 9 1 (.slice va vn vc) R1.2.length (strs R1.2) := own_atE HQ5.out.2.1 (fun j hj => hG6.block j (HQ5.out.2.1.lt j hj).2 (by have := (HQ5.out.2.1.lt j hj).1; simp; omega))
          have HSM := hideIt (sameStrings_any w6 wr.heap.size w5.heap.size (.slice va vn vc) (.slice ua un uc) R1.2 hRow (by rw [HE.out.2.1.2]; exact hR6) (by omega))
          have HKP := hideIt (fun q => keep_of (w2 := w6.drewN q) (B0 := B0) (top := wr.heap.size) (l := R1.2) (drewBook hbk.1 q) (by omega) (by omega) hRow (Nat.le_trans HQ5.out.2.2.size hG6.size) hbk.2)
          have HQ6 := hideIt (And.intro hE6 hG6)
          clear hbk hRow hE6 hR6 hG6 HF5 hcu hcu5
          go_wp2_with fail
          refine HSM.out.mono ?_
          rintro e w7 ⟨rfl, q, rfl⟩
          go_wp2_with fail
          refine (HKP.out q).mono ?_
          rintro e w8 ⟨rfl, hbk8, hbut8, himg8⟩
          have HLK := hideIt (looks_of hbk8 (by omega) himg8)
          have HQ8 := hideIt (And.intro hbk8 (And.intro hbut8 himg8))
          clear hbk8 hbut8 himg8 HKP HSM
          go_wp2_with fail
          refine HLK.out.mono ?_
          rintro e w9 ⟨rfl, hb9⟩
          have hH9 := HH.out.stepOne (n := u.size) ⟨HQ5.out.2.2, HQ6.out.2, ⟨HQ8.out.2.1.os, HQ8.out.2.1.tape, HQ8.out.2.1.output, HQ8.out.2.1.size, HQ8.out.2.1.block⟩, hb9⟩ HQ5.out.1 HQ6.out.1 HE.out.2.1.1 HE.out.2.2 HQ8.out.1 HQ8.out.2.2
          have HH9 := hideIt hH9
          clear hH9 hb9 HLK HQ8 HQ5 HQ6 HE
          go_wp2
          go_roundw
          case rel =>
            refine ⟨rfl, ⟨_, _, _, rfl⟩, ⟨_, _, _, rfl⟩, j + 1, by omega, by go_num, ?_⟩
            rw [sumSize_take pl j (by omega), hu, ← Nat.add_assoc, ← Nat.add_assoc]
            exact HH9.out
          case measure => simp [intOf]; omega
      · have hjj : j = pn := by omega
        subst hjj
        have HW := hideIt hH.below
        clear hH
        go_wp2
        go_ret
        exact ⟨rfl, HW.out⟩
end Go.Proofs.Ythokdbcpkmcieaa
