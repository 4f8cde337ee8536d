/- The walk of Hear. -/
import Derived.Test.YthokdbcpkmcieaaEarW3
import Derived.Test.YthokdbcpkmcieaaStep
import Derived.Laws.IdiomStrings
namespace Go.Proofs.Ythokdbcpkmcieaa
open Go Go.RowKit
/-- A list of bytes as a text. -/
def txt (l : List UInt8) : ByteArray := ⟨l.toArray⟩
def strs (l : List (List UInt8)) : List Value := l.map fun m => .string (txt m)
theorem ba_get (s : ByteArray) (j : Nat) (h : j < s.size) : s.data.toList.getD j 0 = s[j] := by
  have h' : j < s.data.size := h
  rw [List.getD_eq_getElem?_getD, Array.getElem?_toList, Array.getElem?_eq_getElem h']
  rfl
theorem slice_ofR {w : World} {base : Nat} {e : TypeId} {size n : Nat} {v : Value} {xs : List Value} (h : w.ownsRow base e size v n xs) : ∃ a m c, v = .slice a m c := by
  obtain ⟨_, ⟨rfl, _⟩ | ⟨g, cap, cur, rfl, _⟩⟩ := h
  · exact ⟨_, _, _, rfl⟩
  · exact ⟨_, _, _, rfl⟩
theorem Try.infoStr : (Try.prog.info? 9).map (fun i => (i.zero, i.size, i.bytes)) = some (some (.string ⟨#[]⟩), 1, 16) := by kernel_rfl
theorem info_of {P : Program} {t : TypeId} {z : Option Value} {s b : Nat} (h : (P.info? t).map (fun i => (i.zero, i.size, i.bytes)) = some (z, s, b)) : ∃ i, P.info? t = some i ∧ i.zero = z ∧ i.size = s ∧ i.bytes = b := by
  cases hi : P.info? t with
  | none => rw [hi] at h; cases h
  | some i =>
    rw [hi] at h
    simp at h
    exact ⟨i, rfl, h.1, h.2.1, h.2.2⟩
theorem own_atE {w w' : World} {base : Nat} {e : TypeId} {size n : Nat} {v : Value} {xs : List Value} (h : w.ownsRow base e size v n xs) (hb : ∀ j, v.ownBlock = some j → w'.heap[j]? = w.heap[j]?) : w'.ownsRow base e size v n xs := by
  obtain ⟨h1, h2 | ⟨g, cap, cur, rfl, hg, h3, h4⟩⟩ := h
  · exact ⟨h1, .inl h2⟩
  · exact ⟨h1, .inr ⟨g, cap, cur, rfl, hg, (hb g rfl).trans h3, h4⟩⟩
theorem grown_drewN {w w' : World} {r : Option Nat} (h : w.grownBy w' r) (m : Nat) : w.grownBy (w'.drewN m) r := ⟨h.os, h.tape, h.output, h.size, h.block⟩
theorem heap_reset {w : World} {eb : Nat} {u v : Value} (j : Nat) (o1 o2 : Nat) (h : j ≠ eb) : ((w.setCell ⟨eb, o1, none⟩ u).setCell ⟨eb, o2, none⟩ v).heap[j]? = w.heap[j]? := by
  rw [Below.heap_setCell _ _ _ _ (by simpa using h), Below.heap_setCell _ _ _ _ (by simpa using h)]
theorem EarAt.reset {w : World} {eb : Nat} {s : EarS} (h : EarAt w eb s) : EarAt ((w.setCell ⟨eb, 0, none⟩ (.int .i64 1)).setCell ⟨eb, 83, none⟩ (.int .i64 0)) eb ⟨1, []⟩ := by
  have h83 : (w.setCell ⟨eb, 0, none⟩ (.int .i64 1)).cell? ⟨eb, 83, none⟩ = some (.int .i64 (s.ks.length : Int)) := by
    rw [World.cell?_setCell_other _ _ _ _ (by simp)]; exact h.c83
  refine ⟨?_, World.cell?_setCell_same _ _ _ h83, fun i hi => ?_, fun i hi => by simp at hi, fun j => by simp [h.fz j], by simpa [World.setCell] using h.lt, ⟨(by decide : 1 ≤ 2), by simp⟩⟩
  · rw [World.cell?_setCell_other _ _ _ _ (by simp)]; exact World.cell?_setCell_same _ _ _ h.c0
  · rw [World.cell?_setCell_other _ _ _ _ (by simp <;> omega), World.cell?_setCell_other _ _ _ _ (by simp)]; exact h.cb i hi
/-- A message more in the list: the ear is as it was. -/
theorem hear_step {w w1 wn : World} {eb : Nat} {st : EarS} {out : List (List UInt8)} {v v' : Value} {o : Obj} (hE : EarAt w1 eb st) (hR : w1.drew.ownsRow w.heap.size 9 1 v out.length (strs out)) (hG : w.grownBy w1 (some eb)) {t' : List UInt8}
    (hown : wn.ownsRow w.heap.size 9 1 v' (out.length + 1) (strs out ++ [.string (txt t')])) (hgr : (w1.drew.alloc o).grownBy wn v.ownBlock) (hlt : eb < w.heap.size) :
    EarAt wn eb st ∧ wn.ownsRow w.heap.size 9 1 v' (out.length + 1) (strs out ++ [.string (txt t')]) ∧ w.grownBy wn (some eb) := by
  have hz := hG.size
  have hz2 : w1.heap.size + 1 ≤ wn.heap.size := by have := hgr.size; simpa using this
  have key : ∀ k, k < w.heap.size → wn.heap[k]? = w1.heap[k]? := fun k hk => by
    rw [hgr.block k (by simp; omega) (fun e => by have := (hR.lt k e.symm).1; omega), Below.heap_alloc _ _ _ (by show k < w1.heap.size; omega)]
    rfl
  refine ⟨hE.kept (key eb hlt) (by omega), hown, ?_⟩
  exact ⟨hgr.os.trans hG.os, hgr.tape.trans hG.tape, hgr.output.trans hG.output, by omega, fun k hk hne => (key k hk).trans (hG.block k hk hne)⟩
set_option maxRecDepth 100000 in
set_option maxHeartbeats 4000000 in
theorem hear_any (eb : Nat) (s : EarS) (bs : ByteArray) (w : World) (h : EarAt w eb s) (hbs : bs.size ≤ 4000000) :
    Calls Try.prog 30 #[.pointer (some ⟨eb, 0, none⟩), .string bs] w fun e w' => ∃ v, e = .returned v ∧ EarAt w' eb (hearF s bs.data.toList).1 ∧ w'.ownsRow w.heap.size 9 1 v (hearF s bs.data.toList).2.length (strs (hearF s bs.data.toList).2) ∧ w.grownBy w' (some eb) := by
  obtain ⟨i0, hi, hz0, hz1, hz2⟩ := info_of Try.infoStr
  have hltw := h.lt
  have hlen : bs.data.toList.length = bs.size := by rw [Array.length_toList]; rfl
  go_enter Try.func30, Try.ntmps30
  go_wp2_with fail
  go_loopw [5, 9] (fun v i wr => ∃ k : Nat, k ≤ bs.size ∧ i = .int .i64 k ∧ EarAt wr eb (hearF s (bs.data.toList.take k)).1 ∧ wr.ownsRow w.heap.size 9 1 v (hearF s (bs.data.toList.take k)).2.length (strs (hearF s (bs.data.toList.take k)).2) ∧ w.grownBy wr (some eb)) (fun _ i _ => bs.size - (intOf i).toNat)
  case atStart => exact ⟨0, Nat.zero_le _, rfl, h, World.ownsRow_nil _ _ _ _, grown_refl _ _⟩
  case round =>
    obtain ⟨k, hk, rfl, hE, hR, hG⟩ := hrel
    by_cases hlt : k < bs.size
    · have hN : hearF s (bs.data.toList.take (k + 1)) = hearB (hearF s (bs.data.toList.take k)) bs[k] := by
        rw [take_succ _ k (by omega), hearF_snoc, ba_get bs k hlt]
      have hcn := hearF_count s (bs.data.toList.take k)
      rw [List.length_take] at hcn
      obtain ⟨p, hp⟩ : ∃ p, hearF s (bs.data.toList.take k) = p := ⟨_, rfl⟩
      rw [hp] at hE hR hN hcn
      obtain ⟨st, out⟩ := p
      simp only at hE hR hcn
      obtain ⟨b, hb⟩ : ∃ b, bs[k] = b := ⟨_, rfl⟩
      rw [hb] at hN
      obtain ⟨va, vm, vc, rfl⟩ := slice_ofR hR
      clear hp h
      by_cases h6 : b = 126
      · subst h6
        have HI := hideIt (fun w' (he : EarAt w' eb st) => isWhole_any eb st w' he)
        have HG := hideIt hG
        by_cases hw : wholeF st = true
        · have hN2 : hearB (st, out) 126 = (⟨1, []⟩, out ++ [st.ks.take (st.ks.length - 2)]) := by unfold hearB; rw [if_pos rfl]; simp only; rw [if_pos hw]
          have HN := hideIt (hN.trans hN2)
          have hge : 3 ≤ st.ks.length := by
            unfold wholeF hasC at hw
            simp only [Bool.and_eq_true, decide_eq_true_eq] at hw
            exact hw.2.1
          obtain ⟨n, hn⟩ : ∃ n, st.ks.length = n + 2 := ⟨st.ks.length - 2, by omega⟩
          have hle := hE.ok.len
          obtain ⟨t, ht⟩ : ∃ t, st.ks.take (st.ks.length - 2) = t := ⟨_, rfl⟩
          have htl : t.length = n := by rw [← ht, List.length_take]; omega
          have htb : BytesAt wr eb 1 t := by rw [← ht]; exact hE.ck.take _
          have HE := hideIt hE
          clear hN hN2 hE hG
          go_wp2_with fail
          refine (HI.out _ HE.out).mono ?_
          rintro e w1 ⟨rfl, m, rfl⟩
          obtain ⟨w1, hw1⟩ : ∃ w1, wr.drewN m = w1 := ⟨_, rfl⟩
          have e1 : w1.heap = wr.heap := by rw [← hw1]; rfl
          have hE1 : EarAt w1 eb st := HE.out.kept (by rw [e1]) (by rw [e1]; exact Nat.le_refl _)
          have hR1 : w1.drew.ownsRow w.heap.size 9 1 (.slice va vm vc) out.length (strs out) := own_atE hR (fun j _ => by show w1.heap[j]? = _; rw [e1])
          have hG1 : w.grownBy w1 (some eb) := by rw [← hw1]; exact grown_drewN HG.out m
          have htb1 : BytesAt w1.drew eb 1 t := htb.kept (by show w1.heap[eb]? = _; rw [e1])
          rw [hw1]
          clear hw1 HE HG hR
          have c83 := hE1.c83
          rw [hn] at c83
          have f0 := hE1.fz 0
          have f83 := hE1.fz 83
          have hcv : (convert 65 9 (.slice (some ⟨eb, 1, none⟩) n 82)).run Try.prog w1.drew = .ok (.string (txt t)) w1.drew := by
            have := run_convert_bytes_back (P := Try.prog) w1.drew 65 9 5 ⟨eb, 1, none⟩ 82 t Try.underlying65 Try.underlying5 Try.underlying9 (fun j hj => by
              have hc := htb1 j hj
              rw [List.getD_eq_getElem?_getD, List.getElem?_eq_getElem hj] at hc
              have ha : (⟨eb, 1, none⟩ : Addr).add j = ⟨eb, 1 + j, none⟩ := by unfold Addr.add; split <;> simp_all
              rw [ha]
              exact hc)
            rw [htl] at this
            exact this
          have hno : (n : Int) ≤ 82 := by omega
          have hwr : IntKind.i64.wrap (n : Int) = (n : Int) := by rw [IntKind.wrap_i64]; omega
          have HE1 := hideIt hE1
          have HR1 := hideIt hR1
          have HG1 := hideIt hG1
          have hel := hE1.lt
          have HT := hideIt ht
          have hbase : w.heap.size ≤ w1.heap.size := hG1.size
          clear hE1 hR1 hG1 htb htb1 ht e1
          rw [hw]
          go_wp2_with fail
          go_region_law (refine step_append_own rfl (.tmp 23) (.tmp 34) 22 rfl w.heap.size 9 i0 _ 1 16 Try.underlying22 hi hz0 hz1 hz2 rfl (by decide) (.slice va vm vc) out.length (strs out) (by simp [Act.eval]) (by exact HR1.out.alloc _) ⟨w1.heap.size, 0, none⟩ 1 1 [.string (txt t)] (by simp [Act.eval]) rfl (cell_one_new _ _ _) (by intro u hu; simp at hu; subst hu; rfl) (by unfold maxLen; omega) (by omega) (by simp; omega) ?_; intro v' wn hown hgr hloc; obtain ⟨va', vn', vc', rfl⟩ := slice_ofR hown)
          all_goals
            have hst := hear_step HE1.out HR1.out HG1.out hown hgr (by omega)
            have HS := hideIt hst
            have fn0 := hst.1.fz 0
            have fn83 := hst.1.fz 83
            have cn0 := hst.1.c0
            have cn83 := hst.1.c83
            have hnl := hst.1.lt
            clear hst hown hgr hloc c83 f0 f83
            go_wp2
            go_roundw
            case rel =>
              refine ⟨k + 1, by omega, by go_num, ?_, ?_, ?_⟩
              · rw [HN.out]; exact HS.out.1.reset
              · rw [HN.out, HT.out]
                simp only [List.length_append, List.length_cons, List.length_nil, strs, List.map_append, List.map_cons, List.map_nil]
                exact own_atE HS.out.2.1 (fun j hj => heap_reset _ _ _ (by have := (HS.out.2.1.lt j hj).1; omega))
              · exact HS.out.2.2.trans ((grown_set _ _ _ _).trans (grown_set _ _ _ _))
            case measure => simp [intOf]; omega
        · have hwf : wholeF st = false := by simpa using hw
          have hN2 : hearB (st, out) 126 = (⟨1, []⟩, out) := by unfold hearB; rw [if_pos rfl]; simp only; rw [if_neg hw]
          have HN := hideIt (hN.trans hN2)
          have HE := hideIt hE
          clear hN hN2 hE hG
          go_wp2_with fail
          refine (HI.out _ HE.out).mono ?_
          rintro e w1 ⟨rfl, m, rfl⟩
          obtain ⟨w1, hw1⟩ : ∃ w1, wr.drewN m = w1 := ⟨_, rfl⟩
          have e1 : w1.heap = wr.heap := by rw [← hw1]; rfl
          have hE1 : EarAt w1 eb st := HE.out.kept (by rw [e1]) (by rw [e1]; exact Nat.le_refl _)
          have hR1 : w1.ownsRow w.heap.size 9 1 (.slice va vm vc) out.length (strs out) := own_atE hR (fun j _ => by rw [e1])
          have hG1 : w.grownBy w1 (some eb) := by rw [← hw1]; exact grown_drewN HG.out m
          rw [hw1]
          clear hw1 HE HG hR
          have c83 := hE1.c83
          have c0 := hE1.c0
          have f0 := hE1.fz 0
          have f83 := hE1.fz 83
          have hel := hE1.lt
          have HE1 := hideIt hE1
          have HR1 := hideIt hR1
          have HG1 := hideIt hG1
          clear hE1 hR1 hG1 e1
          rw [hwf]
          go_wp2
          go_roundw
          case rel =>
            refine ⟨k + 1, by omega, by go_num, ?_, ?_, ?_⟩
            · rw [HN.out]; exact HE1.out.reset
            · rw [HN.out]
              exact own_atE HR1.out (fun j hj => heap_reset _ _ _ (by have := (HR1.out.lt j hj).1; omega))
            · exact HG1.out.trans ((grown_set _ _ _ _).trans (grown_set _ _ _ _))
          case measure => simp [intOf]; omega
      · have hb6 : ((b.toNat : Int) != 126) = true := by
          have : ¬ b.toNat = 126 := fun e => h6 (UInt8.toNat_inj.1 e)
          simp; omega
        have hN2 : hearB (st, out) b = (takeF st b, out) := by unfold hearB; rw [if_neg h6]
        have HN := hideIt (hN.trans hN2)
        have HE := hideIt hE
        have HR := hideIt hR
        have HG := hideIt hG
        clear hN hN2 hE hR hG
        go_wp2_with fail
        refine (take_any eb st b _ HE.out).mono ?_
        rintro e w1 ⟨rfl, hE1, hg1⟩
        go_wp2
        go_roundw
        case rel =>
          refine ⟨k + 1, by omega, by go_num, ?_, ?_, HG.out.trans hg1⟩
          · rw [HN.out]; exact hE1
          · rw [HN.out]
            exact own_atE HR.out (fun j hj => hg1.block j (HR.out.lt j hj).2 (by have := (HR.out.lt j hj).1; simp; omega))
        case measure => simp [intOf]; omega
    · have hkk : k = bs.size := by omega
      rw [hkk, ← hlen, List.take_length] at hE hR
      have HQ := hideIt (And.intro hE (And.intro hR hG))
      obtain ⟨va, vm, vc, rfl⟩ := slice_ofR hR
      clear hE hR hG
      go_wp2
      go_ret
      exact ⟨_, rfl, HQ.out.1, HQ.out.2.1, HQ.out.2.2⟩
end Go.Proofs.Ythokdbcpkmcieaa
