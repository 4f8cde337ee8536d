/- The walk of the board's Hear, where it is on. -/
import Derived.Test.YthokdbcpkmcieaaBrdE
namespace Go.Proofs.Ythokdbcpkmcieaa
open Go Go.RowKit
theorem bhear_yes {b : Brd} {l : List UInt8} {p : Pow} {m : List UInt8} {t : Talk} {o : List UInt8} (ho : b.on = true) (h : answersF b.pow b.mem b.talk (hearF b.ear l).2 [] = (p, m, t, o, true)) : bhearF b l = (⟨true, p, m, (hearF b.ear l).1, t⟩, o) := by
  unfold bhearF
  rw [if_neg (by rw [ho]; simp)]
  simp only [h, if_true]
theorem bhear_no {b : Brd} {l : List UInt8} {p : Pow} {m : List UInt8} {t : Talk} {o : List UInt8} (ho : b.on = true) (h : answersF b.pow b.mem b.talk (hearF b.ear l).2 [] = (p, m, t, o, false)) : bhearF b l = (⟨false, pow0, m, ear0, talk0⟩, o) := by
  unfold bhearF
  rw [if_neg (by rw [ho]; simp)]
  simp only [h]
  simp
set_option maxRecDepth 100000 in
set_option maxHeartbeats 4000000 in
theorem hear_on (bb : Nat) (b : Brd) (bs : ByteArray) (w : World) (h : BrdAt w bb b) (ho : b.on = true) (hbs : bs.size ≤ 4000000) :
    Calls Try.prog 38 #[.pointer (some ⟨bb, 0, none⟩), .string bs] w fun e w' => e = .returned (.string (txt (bhearF b bs.data.toList).2)) ∧ BrdAt w' bb (bhearF b bs.data.toList).1 ∧ w.grownBy w' (some bb) := by
  have hmf : ∀ (fn : Fn) (first cap : Array Value) (w : World), (Instr.makeFunc fn first cap).run Try.prog w = .ok (.func fn first cap) w := fun _ _ _ _ => rfl
  have c0 := h.c0
  rw [ho] at c0
  have hlt := h.sto.lt
  have hlen : bs.data.toList.length = bs.size := by rw [Array.length_toList]; rfl
  have hcnt := hearF_count b.ear bs.data.toList
  have hmsg := hearF_msgs h.ear.ok bs.data.toList
  have HE := hideIt (fun w' (h' : EarO w' bb 1268 b.ear) => hear_o bb 1268 b.ear bs w' h' hbs)
  have HY := hideIt (fun p m t o => bhear_yes (b := b) (l := bs.data.toList) (p := p) (m := m) (t := t) (o := o) ho)
  have HN := hideIt (fun p m t o => bhear_no (b := b) (l := bs.data.toList) (p := p) (m := m) (t := t) (o := o) ho)
  obtain ⟨R, hR⟩ : ∃ R, bhearF b bs.data.toList = R := ⟨_, rfl⟩
  rw [hR] at HY HN ⊢
  obtain ⟨X, he⟩ : ∃ X, hearF b.ear bs.data.toList = X := ⟨_, rfl⟩
  rw [he] at HE HY HN hcnt hmsg
  obtain ⟨ea, qs⟩ := X
  simp only at HE HY HN hcnt hmsg
  have HH := hideIt h
  clear h hR he
  go_enter_defers Try.func38, Try.ntmps38
  go_wp2_with fail
  obtain ⟨W3, hW3⟩ : ∃ W3, ((w.alloc (.cells #[.pointer (some ⟨bb, 0, none⟩)] 97)).alloc (.cells #[.string ⟨#[]⟩] 9)).alloc (.cells #[.pointer none, .slice none 0 0] 101) = W3 := ⟨_, rfl⟩
  have hz3 : W3.heap.size = w.heap.size + 3 := by rw [← hW3]; simp
  have hB3 : Below w.heap.size w W3 := by rw [← hW3]; exact (((Below.refl _ _).alloc (Nat.le_refl _) _).alloc (by simp) _).alloc (by simp; omega) _
  have hP3 : W3.heap[w.heap.size]? = some (.cells #[.pointer (some ⟨bb, 0, none⟩)] 97) := by
    rw [← hW3, Below.heap_alloc _ _ _ (by simp; omega), Below.heap_alloc _ _ _ (by simp)]; exact heap_alloc_new _ _
  have hR3 : W3.heap[w.heap.size + 1]? = some (.cells #[.string ⟨#[]⟩] 9) := by
    rw [← hW3, Below.heap_alloc _ _ _ (by simp)]
    have := heap_alloc_new (w.alloc (.cells #[.pointer (some ⟨bb, 0, none⟩)] 97)) (.cells #[.string ⟨#[]⟩] 9)
    rwa [World.alloc_size] at this
  have hF3 : Lib.IsBuilderF 101 5 (w.heap.size + 1 + 1) (w.heap.size + 1 + 1) (Lib.byteCells []) W3 := by
    have := Lib.IsBuilderF.of (Lib.fresh_isBuilder 101 5 ((w.alloc (.cells #[.pointer (some ⟨bb, 0, none⟩)] 97)).alloc (.cells #[.string ⟨#[]⟩] 9)))
    rw [World.alloc_size, World.alloc_size, hW3] at this
    exact this
  have hb3 : BrdAt W3 bb b := HH.out.below hB3
  rw [hW3]
  refine (HE.out W3 hb3.ear).mono ?_
  rintro e w1 ⟨v, rfl, hE1, hV1, hG1⟩
  rw [hz3] at hV1
  have hI : HInv w w1 bb b.pow b.mem b.talk [] ea v qs := by
    have hbo : ∀ k, k < W3.heap.size → k ≠ bb → w1.heap[k]? = W3.heap[k]? := fun k hk hne => hG1.grown.block k hk (by simp; omega)
    refine ⟨?_, hb3.sto.same (fun j h1 h2 => hG1.cells j (by omega)) hG1.fz hG1.grown.size, hE1, hb3.talk.same (fun j h1 h2 => hG1.cells j (by omega)) hG1.fz, ⟨hb3.used, hb3.ses, hb3.al⟩, (hbo _ (by omega) (by omega)).trans hP3, (hbo _ (by omega) (by omega)).trans hR3, IsBuilderF_kept hF3 hG1.grown (fun r e => by cases e; omega), hV1, ?_⟩
    · rw [hG1.cells 0 (by omega), hb3.c0, ho]
    · exact World.grownBy.trans ⟨hB3.os, hB3.tape, hB3.output, hB3.size, fun k hk _ => hB3.block k hk⟩ hG1.grown
  obtain ⟨va, vm, vc, rfl⟩ := slice_ofR hV1
  have hvm : vm = qs.length := by
    obtain ⟨_, ⟨hv, h0⟩ | ⟨g, cap, cur, hv, _⟩⟩ := hV1
    · cases hv; exact h0.symm
    · cases hv; rfl
  subst hvm
  have HI := hideIt hI
  clear hI hE1 hV1 hG1 hb3 hF3 hR3 hP3 hB3 hz3 hW3 HE HH c0
  go_wp2_with fail
  go_loopw [21] (fun i wr => ∃ j : Nat, j ≤ qs.length ∧ i = .int .i64 j ∧ ∃ p' m' t' o', answersF b.pow b.mem b.talk (qs.take j) [] = (p', m', t', o', true) ∧ o'.length ≤ 200 * j ∧ HInv w wr bb p' m' t' o' ea (.slice va qs.length vc) qs) (fun i _ => qs.length - (intOf i).toNat)
  case atStart => exact ⟨0, Nat.zero_le _, rfl, _, _, _, _, rfl, by simp, HI.out⟩
  case round =>
    obtain ⟨j, hj, rfl, p', m', t', o', hA, hol, hI⟩ := hrel
    clear HI
    by_cases hlt2 : j < qs.length
    · obtain ⟨g, cap, hv, hg1, hg2⟩ := own_some hI.row (by omega)
      cases hv
      have cq : wr.cell? ⟨g, j, none⟩ = some (.string (txt (qs.getD j []))) := by
        have h1 : (strs qs)[j]? = some (.string (txt (qs.getD j []))) := by
          unfold strs
          rw [List.getElem?_map, List.getElem?_eq_getElem hlt2, List.getD_eq_getElem?_getD, List.getElem?_eq_getElem hlt2]
          rfl
        have := hI.row.cells (g := g) rfl j _ h1
        rwa [Addr.add_lit, Nat.zero_add] at this
      have hql : (qs.getD j []).length ≤ 80 := by
        rw [List.getD_eq_getElem?_getD, List.getElem?_eq_getElem hlt2]
        exact hmsg _ (List.getElem_mem _)
      obtain ⟨hm1, hm2⟩ := answers_more hlt2 hA
      obtain ⟨q, hq⟩ : ∃ q, qs.getD j [] = q := ⟨_, rfl⟩
      rw [hq] at cq hql hm1 hm2
      have htq : (txt q).data.toList = q := by simp [txt]
      obtain ⟨ku, hku⟩ := hI.ok.used
      have HA := hideIt (answer_any bb p' m' t' (txt q) ku wr hI.sto hku hI.talk hI.ok.ses (by rw [txtB_size]; omega))
      rw [htq] at HA
      have hkk := answerF_ok (p := p') (q := q) hI.ok
      obtain ⟨r, hr⟩ : ∃ r, answerF p' m' t' q = r := ⟨_, rfl⟩
      unfold stepA at hm1 hm2
      rw [hr] at HA hm1 hm2 hkk
      obtain ⟨p2, m2, t2, o2, ok⟩ := r
      simp only at hm1 hm2 hkk
      have hji : (j : Int) < (qs.length : Int) := by omega
      have cP : wr.cell? ⟨w.heap.size, 0, none⟩ = some (.pointer (some ⟨bb, 0, none⟩)) := cell_of_row _ _ 0 _ _ (0, 0) hI.bP
      have HII := hideIt (And.intro hI (And.intro hm1 (And.intro hm2 hkk)))
      clear hI hA hm1 hm2 hkk hr hku htq hq
      go_wp2_with fail
      refine HA.out.mono ?_
      rintro e w2 ⟨hend, hs2, ht2, hk2⟩
      have HI2 := hideIt (HII.out.1.answered hlt hs2 ht2 hk2 HII.out.2.2.2.1)
      clear hs2 ht2 hk2
      cases ok with
      | false =>
        obtain rfl := endT_no hend
        go_wp2_with fail
        refine leaves_cons (f := 49) (args := #[.pointer (some ⟨w.heap.size, 0, none⟩), .pointer (some ⟨w.heap.size + 1 + 1, 0, none⟩), .pointer (some ⟨w.heap.size + 1, 0, none⟩)]) (by simp) (by simp [go_sem]) ?_
        refine (catch_fail bb w.heap.size (w.heap.size + 1 + 1) (w.heap.size + 1) _ o' w2 HI2.out.brd HI2.out.bP HI2.out.bR HI2.out.bF (by omega) (by omega) (by omega)).mono ?_
        rintro e u' w4 ⟨rfl, rfl, h1, h2, h3, h4, h5, h6, h7⟩
        have hfin := HN.out p2 m2 t2 o' (HII.out.2.2.1 (by first | rfl | trivial))
        refine ⟨_, res_hear (r0 := w.heap.size + 1) rfl h2, by rw [hfin], by rw [hfin]; exact h1, ?_⟩
        have hg := HI2.out.gr
        refine ⟨h4.trans hg.os, h5.trans hg.tape, h6.trans hg.output, Nat.le_trans hg.size h3, fun k hk hne => ?_⟩
        rw [h7 k hk (fun e => hne (by rw [e])), hg.block k hk hne]
      | true =>
        obtain rfl := endT_yes hend
        have hsz := HI2.out.bFlt
        go_wp2_with fail
        refine (writeString_any (w.heap.size + 1 + 1) (w.heap.size + 1 + 1) (Lib.byteCells o') (txt o2) w2 HI2.out.bF (by rw [Lib.byteCells_length, txtB_size]; have := HII.out.2.2.2.2; omega) (by omega)).mono ?_
        rintro e w3 ⟨rfl, hF3, hb3, hk3⟩
        have HI3 := hideIt (HI2.out.written (x := o2) hlt (by rw [Lib.byteCells_append]; exact .inr hF3) hb3 hk3)
        clear hF3 hb3 hk3
        go_wp2
        go_roundw
        case rel =>
          refine ⟨j + 1, by omega, by go_num, p2, m2, t2, o' ++ o2, ?_, ?_, HI3.out⟩
          · have := HII.out.2.1
            simpa using this
          · rw [List.length_append]
            have := HII.out.2.2.2.2
            omega
        case measure => simp [intOf]; omega
    · have hjl : j = qs.length := by omega
      rw [hjl, List.take_length] at hA
      have hfin := HY.out p' m' t' o' hA
      have hsz := hI.bFlt
      have hjn : ¬ (j : Int) < (qs.length : Int) := by omega
      have HII := hideIt hI
      clear hI hA
      go_wp2_with fail
      refine (Try.Builder_String_any_k (w.heap.size + 1 + 1) (w.heap.size + 1 + 1) o' wr HII.out.bF (by omega)).mono ?_
      rintro e w4 ⟨rfl, _, hb4, _⟩
      have hR4 : w4.heap[w.heap.size + 1]? = some (.cells #[.string ⟨#[]⟩] 9) := (hb4.block _ (by omega)).trans HII.out.bR
      have cR : w4.cell? ⟨w.heap.size + 1, 0, none⟩ = some (.string ⟨#[]⟩) := cell_of_row _ _ 0 _ _ (0, 0) hR4
      have fR := frozen_of_row w4 (w.heap.size + 1) 0 _ _ hR4
      have htx : (⟨o'.toArray⟩ : ByteArray) = txt o' := rfl
      rw [htx]
      have HB4 := hideIt hb4
      clear hb4 hR4
      go_wp2_with fail
      refine leaves_cons (f := 49) (args := #[.pointer (some ⟨w.heap.size, 0, none⟩), .pointer (some ⟨w.heap.size + 1 + 1, 0, none⟩), .pointer (some ⟨w.heap.size + 1, 0, none⟩)]) (by simp) (by simp [go_sem]) ?_
      refine (catch_idle w.heap.size (w.heap.size + 1 + 1) (w.heap.size + 1) _).mono ?_
      rintro e u' w5 ⟨rfl, rfl, rfl⟩
      refine ⟨_, res_hear (r0 := w.heap.size + 1) rfl (World.cell?_setCell_same _ _ _ cR), by rw [hfin], ?_, ?_⟩
      · rw [hfin]
        exact HII.out.brd.kept (by rw [Below.heap_setCell _ _ _ _ (by simp; omega), HB4.out.block bb (by omega)]) (by have := HB4.out.size; simpa [World.setCell] using this)
      · have hg := HII.out.gr
        have hb := HB4.out
        refine ⟨hb.os.trans hg.os, hb.tape.trans hg.tape, hb.output.trans hg.output, by have h1 := hb.size; have h2 := hg.size; simp [World.setCell]; omega, fun k hk hne => ?_⟩
        rw [Below.heap_setCell _ _ _ _ (by simp; omega), hb.block k (by omega), hg.block k hk hne]
end Go.Proofs.Ythokdbcpkmcieaa
