/- The walk of Hear, the ear at any place of a block. -/
import Derived.Test.YthokdbcpkmcieaaEarO2
namespace Go.Proofs.Ythokdbcpkmcieaa
open Go Go.RowKit
theorem EarO.reset {w : World} {eb o : Nat} {s : EarS} (h : EarO w eb o s) : EarO ((w.setCell ⟨eb, o, none⟩ (.int .i64 1)).setCell ⟨eb, o + 83, none⟩ (.int .i64 0)) eb o ⟨1, []⟩ := by
  have h83 : (w.setCell ⟨eb, o, none⟩ (.int .i64 1)).cell? ⟨eb, o + 83, none⟩ = some (.int .i64 (s.ks.length : Int)) := by
    rw [World.cell?_setCell_other _ _ _ _ (by simp)]; exact h.c83
  refine ⟨?_, World.cell?_setCell_same _ _ _ h83, fun i hi => ?_, fun i hi => by simp at hi, fun j => by simp [h.fz j], by simpa [World.setCell] using h.lt, ⟨(by decide : 1 ≤ 2), by simp⟩⟩
  · rw [World.cell?_setCell_other _ _ _ _ (by simp)]; exact World.cell?_setCell_same _ _ _ h.c0
  · rw [World.cell?_setCell_other _ _ _ _ (by simp <;> omega), World.cell?_setCell_other _ _ _ _ (by simp)]; exact h.cb i hi
/-- A message more in the list: the ear is as it was. -/
theorem hear_stepO {w w1 wn : World} {eb o : Nat} {st : EarS} {out : List (List UInt8)} {v v' : Value} {ob : Obj} (hE : EarO w1 eb o st) (hR : w1.drew.ownsRow w.heap.size 9 1 v out.length (strs out)) (hG : Within w w1 eb o 84) {t' : List UInt8}
    (hown : wn.ownsRow w.heap.size 9 1 v' (out.length + 1) (strs out ++ [.string (txt t')])) (hgr : (w1.drew.alloc ob).grownBy wn v.ownBlock) (hlt : eb < w.heap.size) :
    EarO wn eb o st ∧ wn.ownsRow w.heap.size 9 1 v' (out.length + 1) (strs out ++ [.string (txt t')]) ∧ Within w wn eb o 84 := by
  have hz := hG.grown.size
  have hz2 : w1.heap.size + 1 ≤ wn.heap.size := by have := hgr.size; simpa using this
  have key : ∀ k, k < w.heap.size → wn.heap[k]? = w1.heap[k]? := fun k hk => by
    rw [hgr.block k (by simp; omega) (fun e => by have := (hR.lt k e.symm).1; omega), Below.heap_alloc _ _ _ (by show k < w1.heap.size; omega)]
    rfl
  refine ⟨hE.kept (key eb hlt) (by omega), hown, ?_⟩
  exact ⟨⟨hgr.os.trans hG.grown.os, hgr.tape.trans hG.grown.tape, hgr.output.trans hG.grown.output, by omega, fun k hk hne => (key k hk).trans (hG.grown.block k hk hne)⟩, fun j hj => (World.cell?_of_block (a := ⟨eb, j, none⟩) (key eb hlt)).trans (hG.cells j hj), fun j => (World.frozen?_of_block (a := ⟨eb, j, none⟩) (key eb hlt)).trans (hG.fz j)⟩
set_option maxRecDepth 100000 in
set_option maxHeartbeats 4000000 in
theorem hear_o (eb o : Nat) (s : EarS) (bs : ByteArray) (w : World) (h : EarO w eb o s) (hbs : bs.size ≤ 4000000) :
    Calls Try.prog 30 #[.pointer (some ⟨eb, o, none⟩), .string bs] w fun e w' => ∃ v, e = .returned v ∧ EarO w' eb o (hearF s bs.data.toList).1 ∧ w'.ownsRow w.heap.size 9 1 v (hearF s bs.data.toList).2.length (strs (hearF s bs.data.toList).2) ∧ Within w w' eb o 84 := by
  obtain ⟨i0, hi, hz0, hz1, hz2⟩ := info_of Try.infoStr
  have hltw := h.lt
  have hlen : bs.data.toList.length = bs.size := by rw [Array.length_toList]; rfl
  go_enter Try.func30, Try.ntmps30
  go_wp2_with fail
  go_loopw [5, 9] (fun v i wr => ∃ k : Nat, k ≤ bs.size ∧ i = .int .i64 k ∧ EarO wr eb o (hearF s (bs.data.toList.take k)).1 ∧ wr.ownsRow w.heap.size 9 1 v (hearF s (bs.data.toList.take k)).2.length (strs (hearF s (bs.data.toList.take k)).2) ∧ Within w wr eb o 84) (fun _ i _ => bs.size - (intOf i).toNat)
  case atStart => exact ⟨0, Nat.zero_le _, rfl, h, World.ownsRow_nil _ _ _ _, Within.refl _ _ _ _⟩
  case round =>
    obtain ⟨k, hk, rfl, hE, hR, hG⟩ := hrel
    by_cases hlt : k < bs.size
    · have hN : hearF s (bs.data.toList.take (k + 1)) = hearB (hearF s (bs.data.toList.take k)) bs[k] := by
        rw [take_succ _ k (by omega), hearF_snoc, ba_get bs k hlt]
      have hcn := hearF_count s (bs.data.toList.take k)
      rw [List.length_take] at hcn
      obtain ⟨p, hp⟩ : ∃ p, hearF s (bs.data.toList.take k) = p := ⟨_, rfl⟩
      rw [hp] at hE hR hN hcn
      obtain ⟨st, out⟩ := p
      simp only at hE hR hcn
      obtain ⟨b, hb⟩ : ∃ b, bs[k] = b := ⟨_, rfl⟩
      rw [hb] at hN
      obtain ⟨va, vm, vc, rfl⟩ := slice_ofR hR
      clear hp h
      by_cases h6 : b = 126
      · subst h6
        have HI := hideIt (fun w' (he : EarO w' eb o st) => isWhole_o eb o st w' he)
        have HG := hideIt hG
        by_cases hw : wholeF st = true
        · have hN2 : hearB (st, out) 126 = (⟨1, []⟩, out ++ [st.ks.take (st.ks.length - 2)]) := by unfold hearB; rw [if_pos rfl]; simp only; rw [if_pos hw]
          have HN := hideIt (hN.trans hN2)
          have hge : 3 ≤ st.ks.length := by
            unfold wholeF hasC at hw
            simp only [Bool.and_eq_true, decide_eq_true_eq] at hw
            exact hw.2.1
          obtain ⟨n, hn⟩ : ∃ n, st.ks.length = n + 2 := ⟨st.ks.length - 2, by omega⟩
          have hle := hE.ok.len
          obtain ⟨t, ht⟩ : ∃ t, st.ks.take (st.ks.length - 2) = t := ⟨_, rfl⟩
          have htl : t.length = n := by rw [← ht, List.length_take]; omega
          have htb : BytesAt wr eb (o + 1) t := by rw [← ht]; exact hE.ck.take _
          have HE := hideIt hE
          clear hN hN2 hE hG
          go_wp2_with fail
          refine (HI.out _ HE.out).mono ?_
          rintro e w1 ⟨rfl, m, rfl⟩
          obtain ⟨w1, hw1⟩ : ∃ w1, wr.drewN m = w1 := ⟨_, rfl⟩
          have e1 : w1.heap = wr.heap := by rw [← hw1]; rfl
          have hE1 : EarO w1 eb o st := HE.out.kept (by rw [e1]) (by rw [e1]; exact Nat.le_refl _)
          have hR1 : w1.drew.ownsRow w.heap.size 9 1 (.slice va vm vc) out.length (strs out) := own_atE hR (fun j _ => by show w1.heap[j]? = _; rw [e1])
          have hG1 : Within w w1 eb o 84 := by rw [← hw1]; exact HG.out.drewN m
          have htb1 : BytesAt w1.drew eb (o + 1) t := htb.kept (by show w1.heap[eb]? = _; rw [e1])
          rw [hw1]
          clear hw1 HE HG hR
          have c83 := hE1.c83
          rw [hn] at c83
          have f0 := hE1.fz o
          have f83 := hE1.fz (o + 83)
          have hcv : (convert 65 9 (.slice (some ⟨eb, o + 1, none⟩) n 82)).run Try.prog w1.drew = .ok (.string (txt t)) w1.drew := by
            have := run_convert_bytes_back (P := Try.prog) w1.drew 65 9 5 ⟨eb, o + 1, none⟩ 82 t Try.underlying65 Try.underlying5 Try.underlying9 (fun j hj => by
              have hc := htb1 j hj
              rw [List.getD_eq_getElem?_getD, List.getElem?_eq_getElem hj] at hc
              have ha : (⟨eb, o + 1, none⟩ : Addr).add j = ⟨eb, o + 1 + j, none⟩ := by unfold Addr.add; split <;> simp_all
              rw [ha]
              exact hc)
            rw [htl] at this
            exact this
          have hno : (n : Int) ≤ 82 := by omega
          have hwr : IntKind.i64.wrap (n : Int) = (n : Int) := by rw [IntKind.wrap_i64]; omega
          have HE1 := hideIt hE1
          have HR1 := hideIt hR1
          have HG1 := hideIt hG1
          have hel := hE1.lt
          have HT := hideIt ht
          have hbase : w.heap.size ≤ w1.heap.size := hG1.grown.size
          clear hE1 hR1 hG1 htb htb1 ht e1
          rw [hw]
          go_wp2_with fail
          go_region_law (refine step_append_own rfl (.tmp 23) (.tmp 34) 22 rfl w.heap.size 9 i0 _ 1 16 Try.underlying22 hi hz0 hz1 hz2 rfl (by decide) (.slice va vm vc) out.length (strs out) (by simp [Act.eval]) (by exact HR1.out.alloc _) ⟨w1.heap.size, 0, none⟩ 1 1 [.string (txt t)] (by simp [Act.eval]) rfl (cell_one_new _ _ _) (by intro u hu; simp at hu; subst hu; rfl) (by unfold maxLen; omega) (by omega) (by simp; omega) ?_; intro v' wn hown hgr hloc; obtain ⟨va', vn', vc', rfl⟩ := slice_ofR hown)
          all_goals
            have hst := hear_stepO HE1.out HR1.out HG1.out hown hgr (by omega)
            have HS := hideIt hst
            have fn0 := hst.1.fz o
            have fn83 := hst.1.fz (o + 83)
            have cn0 := hst.1.c0
            have cn83 := hst.1.c83
            have hnl := hst.1.lt
            clear hst hown hgr hloc c83 f0 f83
            go_wp2
            go_roundw
            case rel =>
              refine ⟨k + 1, by omega, by go_num, ?_, ?_, ?_⟩
              · rw [HN.out]; exact HS.out.1.reset
              · rw [HN.out, HT.out]
                simp only [List.length_append, List.length_cons, List.length_nil, strs, List.map_append, List.map_cons, List.map_nil]
                exact own_atE HS.out.2.1 (fun j hj => heap_reset _ _ _ (by have := (HS.out.2.1.lt j hj).1; omega))
              · exact HS.out.2.2.trans ((Within.set _ _ _ _ _ _ (by omega) (by omega)).trans (Within.set _ _ _ _ _ _ (by omega) (by omega)))
            case measure => simp [intOf]; omega
        · have hwf : wholeF st = false := by simpa using hw
          have hN2 : hearB (st, out) 126 = (⟨1, []⟩, out) := by unfold hearB; rw [if_pos rfl]; simp only; rw [if_neg hw]
          have HN := hideIt (hN.trans hN2)
          have HE := hideIt hE
          clear hN hN2 hE hG
          go_wp2_with fail
          refine (HI.out _ HE.out).mono ?_
          rintro e w1 ⟨rfl, m, rfl⟩
          obtain ⟨w1, hw1⟩ : ∃ w1, wr.drewN m = w1 := ⟨_, rfl⟩
          have e1 : w1.heap = wr.heap := by rw [← hw1]; rfl
          have hE1 : EarO w1 eb o st := HE.out.kept (by rw [e1]) (by rw [e1]; exact Nat.le_refl _)
          have hR1 : w1.ownsRow w.heap.size 9 1 (.slice va vm vc) out.length (strs out) := own_atE hR (fun j _ => by rw [e1])
          have hG1 : Within w w1 eb o 84 := by rw [← hw1]; exact HG.out.drewN m
          rw [hw1]
          clear hw1 HE HG hR
          have c83 := hE1.c83
          have c0 := hE1.c0
          have f0 := hE1.fz o
          have f83 := hE1.fz (o + 83)
          have hel := hE1.lt
          have HE1 := hideIt hE1
          have HR1 := hideIt hR1
          have HG1 := hideIt hG1
          clear hE1 hR1 hG1 e1
          rw [hwf]
          go_wp2
          go_roundw
          case rel =>
            refine ⟨k + 1, by omega, by go_num, ?_, ?_, ?_⟩
            · rw [HN.out]; exact HE1.out.reset
            · rw [HN.out]
              exact own_atE HR1.out (fun j hj => heap_reset _ _ _ (by have := (HR1.out.lt j hj).1; omega))
            · exact HG1.out.trans ((Within.set _ _ _ _ _ _ (by omega) (by omega)).trans (Within.set _ _ _ _ _ _ (by omega) (by omega)))
          case measure => simp [intOf]; omega
      · have hb6 : ((b.toNat : Int) != 126) = true := by
          have : ¬ b.toNat = 126 := fun e => h6 (UInt8.toNat_inj.1 e)
          simp; omega
        have hN2 : hearB (st, out) b = (takeF st b, out) := by unfold hearB; rw [if_neg h6]
        have HN := hideIt (hN.trans hN2)
        have HE := hideIt hE
        have HR := hideIt hR
        have HG := hideIt hG
        clear hN hN2 hE hR hG
        go_wp2_with fail
        refine (take_o eb o st b _ HE.out).mono ?_
        rintro e w1 ⟨rfl, hE1, hg1⟩
        go_wp2
        go_roundw
        case rel =>
          refine ⟨k + 1, by omega, by go_num, ?_, ?_, HG.out.trans hg1⟩
          · rw [HN.out]; exact hE1
          · rw [HN.out]
            exact own_atE HR.out (fun j hj => hg1.grown.block j (HR.out.lt j hj).2 (by have := (HR.out.lt j hj).1; simp; omega))
        case measure => simp [intOf]; omega
    · have hkk : k = bs.size := by omega
      rw [hkk, ← hlen, List.take_length] at hE hR
      have HQ := hideIt (And.intro hE (And.intro hR hG))
      obtain ⟨va, vm, vc, rfl⟩ := slice_ofR hR
      clear hE hR hG
      go_wp2
      go_ret
      exact ⟨_, rfl, HQ.out.1, HQ.out.2.1, HQ.out.2.2⟩
end Go.Proofs.Ythokdbcpkmcieaa
