/- The walk of the document's Hear. -/
import Derived.Test.YthokdbcpkmcieaaRef3
namespace Go.Proofs.Ythokdbcpkmcieaa
open Go Go.RowKit
structure REarAt (w : World) (eb : Nat) (r : REar) : Prop where
  c0 : w.cell? ⟨eb, 0, none⟩ = some (.bool r.on)
  c1 : w.cell? ⟨eb, 1, none⟩ = some (.string (txt r.s))
  fz : ∀ j, w.frozen? ⟨eb, j, none⟩ = false
  lt : eb < w.heap.size
theorem REarAt.kept {w w' : World} {eb : Nat} {r : REar} (h : REarAt w eb r) (e : w'.heap[eb]? = w.heap[eb]?) (hz : w.heap.size ≤ w'.heap.size) : REarAt w' eb r :=
  ⟨(World.cell?_of_block e).trans h.c0, (World.cell?_of_block e).trans h.c1, fun j => (World.frozen?_of_block e).trans (h.fz j), Nat.lt_of_lt_of_le h.lt hz⟩
theorem REarAt.more {w : World} {eb : Nat} {r : REar} (h : REarAt w eb r) (s' : List UInt8) : REarAt (w.setCell ⟨eb, 1, none⟩ (.string (txt s'))) eb ⟨r.on, s'⟩ :=
  ⟨by rw [World.cell?_setCell_other _ _ _ _ (by simp)]; exact h.c0, World.cell?_setCell_same _ _ _ h.c1, fun j => by simp [h.fz j], by simpa [World.setCell] using h.lt⟩
theorem REarAt.reset {w : World} {eb : Nat} {r : REar} (h : REarAt w eb r) : REarAt ((w.setCell ⟨eb, 0, none⟩ (.bool true)).setCell ⟨eb, 1, none⟩ (.string ⟨#[]⟩)) eb ⟨true, []⟩ :=
  ⟨by rw [World.cell?_setCell_other _ _ _ _ (by simp)]; exact World.cell?_setCell_same _ _ _ h.c0, World.cell?_setCell_same _ _ _ (by rw [World.cell?_setCell_other _ _ _ _ (by simp)]; exact h.c1), fun j => by simp [h.fz j], by simpa [World.setCell] using h.lt⟩
theorem rHearF_count (r : REar) (l : List UInt8) : (rHearF r l).2.length ≤ l.length := by
  have key : ∀ (l : List UInt8) (p : REar × List (List UInt8)), (l.foldl rHearB p).2.length ≤ p.2.length + l.length := by
    intro l
    induction l with
    | nil => intro p; simp
    | cons b l ih =>
      intro p
      simp only [List.foldl_cons, List.length_cons]
      have h := ih (rHearB p b)
      have : (rHearB p b).2.length ≤ p.2.length + 1 := by
        unfold rHearB
        repeat' split
        all_goals simp
      omega
  have := key l (r, [])
  unfold rHearF
  simpa using this
theorem below_row {w w' : World} {base : Nat} {e : TypeId} {size n : Nat} {v : Value} {xs : List Value} (h : w.ownsRow base e size v n xs) (hb : Below w.heap.size w w') : w'.ownsRow base e size v n xs :=
  own_atE h (fun j hj => hb.block j (h.lt j hj).2)
theorem grown_of_below {w w1 w2 : World} {r : Option Nat} (h : w.grownBy w1 r) (hb : Below w1.heap.size w1 w2) : w.grownBy w2 r :=
  ⟨hb.os.trans h.os, hb.tape.trans h.tape, hb.output.trans h.output, Nat.le_trans h.size hb.size, fun k hk hne => (hb.block k (Nat.lt_of_lt_of_le hk h.size)).trans (h.block k hk hne)⟩
theorem rhear_step {w w1 wn : World} {eb : Nat} {st : REar} {out : List (List UInt8)} {v v' : Value} {o : Obj} {t' : List UInt8} (hE : REarAt w1 eb st) (hR : w1.ownsRow w.heap.size 9 1 v out.length (strs out)) (hG : w.grownBy w1 (some eb))
    (hown : wn.ownsRow w.heap.size 9 1 v' (out.length + 1) (strs out ++ [.string (txt t')])) (hgr : (w1.alloc o).grownBy wn v.ownBlock) (hlt : eb < w.heap.size) :
    REarAt wn eb st ∧ wn.ownsRow w.heap.size 9 1 v' (out.length + 1) (strs out ++ [.string (txt t')]) ∧ w.grownBy wn (some eb) := by
  have hz := hG.size
  have hz2 : w1.heap.size + 1 ≤ wn.heap.size := by have := hgr.size; simpa using this
  have key : ∀ k, k < w.heap.size → wn.heap[k]? = w1.heap[k]? := fun k hk => by
    rw [hgr.block k (by simp; omega) (fun e => by have := (hR.lt k e.symm).1; omega), Below.heap_alloc _ _ _ (by omega)]
  refine ⟨hE.kept (key eb hlt) (by omega), hown, ?_⟩
  exact ⟨hgr.os.trans hG.os, hgr.tape.trans hG.tape, hgr.output.trans hG.output, by omega, fun k hk hne => (key k hk).trans (hG.block k hk hne)⟩
set_option maxRecDepth 100000 in
set_option maxHeartbeats 4000000 in
theorem rhear_any (eb : Nat) (s : REar) (bs : ByteArray) (w : World) (h : REarAt w eb s) (hbs : s.s.length + bs.size ≤ 4000000) :
    Calls Try.prog 10 #[.pointer (some ⟨eb, 0, none⟩), .string bs] w fun e w' => ∃ v, e = .returned v ∧ REarAt w' eb (rHearF s bs.data.toList).1 ∧ w'.ownsRow w.heap.size 9 1 v (rHearF s bs.data.toList).2.length (strs (rHearF s bs.data.toList).2) ∧ w.grownBy w' (some eb) := by
  obtain ⟨i0, hi, hz0, hz1, hz2⟩ := info_of Try.infoStr
  have hltw := h.lt
  have hlen : bs.data.toList.length = bs.size := by rw [Array.length_toList]; rfl
  go_enter Try.func10, Try.ntmps10
  go_wp2_with fail
  go_loopw [5, 6] (fun v i wr => ∃ k : Nat, k ≤ bs.size ∧ i = .int .i64 k ∧ REarAt wr eb (rHearF s (bs.data.toList.take k)).1 ∧ wr.ownsRow w.heap.size 9 1 v (rHearF s (bs.data.toList.take k)).2.length (strs (rHearF s (bs.data.toList.take k)).2) ∧ w.grownBy wr (some eb)) (fun _ i _ => bs.size - (intOf i).toNat)
  case atStart => exact ⟨0, Nat.zero_le _, rfl, h, World.ownsRow_nil _ _ _ _, grown_refl _ _⟩
  case round =>
    obtain ⟨k, hk, rfl, hE, hR, hG⟩ := hrel
    by_cases hlt : k < bs.size
    · have hN : rHearF s (bs.data.toList.take (k + 1)) = rHearB (rHearF s (bs.data.toList.take k)) bs[k] := by
        rw [take_succ _ k (by omega), rHearF_snoc, ba_get bs k hlt]
      have hcn := rHearF_count s (bs.data.toList.take k)
      have hsl := rHearF_len s (bs.data.toList.take k)
      rw [List.length_take] at hcn hsl
      obtain ⟨p, hp⟩ : ∃ p, rHearF s (bs.data.toList.take k) = p := ⟨_, rfl⟩
      rw [hp] at hE hR hN hcn hsl
      obtain ⟨st, out⟩ := p
      simp only at hE hR hcn hsl
      obtain ⟨b, hb⟩ : ∃ b, bs[k] = b := ⟨_, rfl⟩
      rw [hb] at hN
      obtain ⟨va, vm, vc, rfl⟩ := slice_ofR hR
      have hel := hE.lt
      clear hp h
      have hSs : (txt st.s).size = st.s.length := txt_size _
      by_cases h6 : b = 126
      · subst h6
        have HM := hideIt (fun w' => message_any (txt st.s) w' (by rw [hSs]; omega))
        rw [txt_toList] at HM
        obtain ⟨on, ss⟩ := st
        simp only at HM hN hE
        have HE := hideIt hE
        have HR := hideIt hR
        have HG := hideIt hG
        have c0 := hE.c0
        have c1 := hE.c1
        have hgz := hG.size
        obtain ⟨S, hS⟩ : ∃ S, txt ss = S := ⟨_, rfl⟩
        simp only at c0 c1
        rw [hS] at HM c1
        cases hmm : msgF ss with
        | none =>
          rw [hmm] at HM
          have HN := hideIt (show rHearF s (bs.data.toList.take (k + 1)) = (⟨true, []⟩, out) by rw [hN]; unfold rHearB; rw [if_pos rfl]; simp only [hmm])
          clear hN hE hG hR hSs hsl hmm hS
          go_wp2_with fail
          refine (HM.out _).mono ?_
          rintro e w1 ⟨rfl, hB1⟩
          have hE1 : REarAt w1 eb ⟨on, ss⟩ := HE.out.kept (hB1.block eb HE.out.lt) hB1.size
          have HR1 := hideIt (below_row HR.out hB1)
          have HG1 := hideIt (grown_of_below HG.out hB1)
          have d0 := hE1.c0
          have d1 := hE1.c1
          have f0 := hE1.fz 0
          have f1 := hE1.fz 1
          have hel1 := hE1.lt
          have HE1 := hideIt hE1
          simp only at d0
          clear hE1 hB1 HE HR HG HM c0 c1
          cases on
          all_goals
            unfold msgR
            go_wp2
            go_roundw
            case rel =>
              refine ⟨k + 1, by omega, by go_num, ?_, ?_, ?_⟩
              · rw [HN.out]; exact HE1.out.reset
              · rw [HN.out]
                exact own_atE HR1.out (fun j hj => heap_reset _ _ _ (by have := (HR1.out.lt j hj).1; omega))
              · exact HG1.out.trans ((grown_set _ _ _ _).trans (grown_set _ _ _ _))
            case measure => simp [intOf]; omega
        | some m =>
          rw [hmm] at HM
          cases on
          · have HN := hideIt (show rHearF s (bs.data.toList.take (k + 1)) = (⟨true, []⟩, out) by rw [hN]; unfold rHearB; rw [if_pos rfl]; simp only [hmm]; rfl)
            clear hN hE hG hR hSs hsl hmm hS
            go_wp2_with fail
            refine (HM.out _).mono ?_
            rintro e w1 ⟨rfl, hB1⟩
            have hE1 : REarAt w1 eb ⟨false, ss⟩ := HE.out.kept (hB1.block eb HE.out.lt) hB1.size
            have HR1 := hideIt (below_row HR.out hB1)
            have HG1 := hideIt (grown_of_below HG.out hB1)
            have d0 := hE1.c0
            have d1 := hE1.c1
            have f0 := hE1.fz 0
            have f1 := hE1.fz 1
            have hel1 := hE1.lt
            have HE1 := hideIt hE1
            simp only at d0
            clear hE1 hB1 HE HR HG HM c0 c1
            unfold msgR
            go_wp2
            go_roundw
            case rel =>
              refine ⟨k + 1, by omega, by go_num, ?_, ?_, ?_⟩
              · rw [HN.out]; exact HE1.out.reset
              · rw [HN.out]
                exact own_atE HR1.out (fun j hj => heap_reset _ _ _ (by have := (HR1.out.lt j hj).1; omega))
              · exact HG1.out.trans ((grown_set _ _ _ _).trans (grown_set _ _ _ _))
            case measure => simp [intOf]; omega
          · have HN := hideIt (show rHearF s (bs.data.toList.take (k + 1)) = (⟨true, []⟩, out ++ [m]) by rw [hN]; unfold rHearB; rw [if_pos rfl]; simp only [hmm]; rfl)
            clear hN hE hG hR hSs hsl hmm hS
            go_wp2_with fail
            refine (HM.out _).mono ?_
            rintro e w1 ⟨rfl, hB1⟩
            have hE1 : REarAt w1 eb ⟨true, ss⟩ := HE.out.kept (hB1.block eb HE.out.lt) hB1.size
            have hR1 := below_row HR.out hB1
            have HR1 := hideIt hR1
            have HG1 := hideIt (grown_of_below HG.out hB1)
            have hbase : w.heap.size ≤ w1.heap.size := Nat.le_trans hgz hB1.size
            have d0 := hE1.c0
            have d1 := hE1.c1
            have f0 := hE1.fz 0
            have f1 := hE1.fz 1
            have hel1 := hE1.lt
            have HE1 := hideIt hE1
            simp only at d0
            clear hE1 hB1 HE HR HG HM c0 c1 hR1
            unfold msgR
            go_wp2_with (at_builtin; refine wpList_append_own_at _ rfl _ _ 22 rfl w.heap.size 9 i0 _ 1 16 Try.underlying22 hi hz0 hz1 hz2 rfl (by decide) _ out.length _ rfl (HR1.out.alloc _) ⟨w1.heap.size, 0, none⟩ 1 1 [.string (txt m)] rfl rfl (cell_one_new _ _ _) (by intro u hu; simp at hu; subst hu; rfl) (by unfold maxLen; omega) (by omega) (by rw [World.alloc_size]; omega) ?_; intro v' wn hown hgr _ hloc; obtain ⟨a', n', c', rfl⟩ := slice_ofR hown; have hst := rhear_step HE1.out HR1.out HG1.out hown hgr (by omega); have HS := hideIt hst; have fn0 := hst.1.fz 0; have fn1 := hst.1.fz 1; have cn0 := hst.1.c0; have cn1 := hst.1.c1; have hnl := hst.1.lt; clear hst hown hgr hloc d0 d1 f0 f1)
            go_roundw
            case rel =>
              refine ⟨k + 1, by omega, by go_num, ?_, ?_, ?_⟩
              · rw [HN.out]; exact HS.out.1.reset
              · rw [HN.out]
                simp only [List.length_append, List.length_cons, List.length_nil, strs, List.map_append, List.map_cons, List.map_nil]
                exact own_atE HS.out.2.1 (fun j hj => heap_reset _ _ _ (by have := (HS.out.2.1.lt j hj).1; omega))
              · exact HS.out.2.2.trans ((grown_set _ _ _ _).trans (grown_set _ _ _ _))
            case measure => simp [intOf]; omega
      · have hb6 : ((b.toNat : Int) != 126) = true := by
          have : ¬ b.toNat = 126 := fun e => h6 (UInt8.toNat_inj.1 e)
          simp; omega
        have HN := hideIt (show rHearF s (bs.data.toList.take (k + 1)) = (⟨st.on, st.s ++ [b]⟩, out) by rw [hN]; unfold rHearB; rw [if_neg h6])
        have hone := one_at bs k hlt
        rw [hb] at hone
        obtain ⟨S, hS⟩ : ∃ S, txt st.s = S := ⟨_, rfl⟩
        have hSi : (S.size : Int) ≤ 4000000 := by rw [← hS, hSs]; omega
        have HT := hideIt (show S ++ txt [b] = txt (st.s ++ [b]) by rw [← hS, txt_append])
        have hTs : ((txt [b]).size : Int) ≤ 2 := by rw [txt_size]; simp
        obtain ⟨T, hT⟩ : ∃ T, txt [b] = T := ⟨_, rfl⟩
        rw [hT] at hone hTs HT
        have c1 := hE.c1
        rw [hS] at c1
        have f1 := hE.fz 1
        have HE := hideIt hE
        have HR := hideIt hR
        have HG := hideIt hG
        have hcat1 : (k : Int) + 1 ≤ (bs.size : Int) := by omega
        clear hN hE hR hG hS hT hSs hsl hcn h6
        go_wp2
        go_region
        all_goals
          go_wp2
          go_roundw
          case rel =>
            refine ⟨k + 1, by omega, by go_num, ?_, ?_, ?_⟩
            · rw [HN.out, HT.out]; exact (HE.out.more _).kept rfl (Nat.le_refl _)
            · rw [HN.out]
              exact own_atE HR.out (fun j hj => Below.heap_setCell _ _ _ _ (by have := (HR.out.lt j hj).1; simp; omega))
            · exact grown_drew (HG.out.trans (grown_set _ _ _ _))
          case measure => simp [intOf]; omega
    · have hkk : k = bs.size := by omega
      rw [hkk, ← hlen, List.take_length] at hE hR
      have HQ := hideIt (And.intro hE (And.intro hR hG))
      obtain ⟨va, vm, vc, rfl⟩ := slice_ofR hR
      clear hE hR hG
      go_wp2
      go_ret
      exact ⟨_, rfl, HQ.out.1, HQ.out.2.1, HQ.out.2.2⟩
end Go.Proofs.Ythokdbcpkmcieaa
