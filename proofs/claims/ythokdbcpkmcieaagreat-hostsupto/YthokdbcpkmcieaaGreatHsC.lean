/- The program's host: Hear; images. -/
import Derived.Test.YthokdbcpkmcieaaGreatHsB
namespace Go.Proofs.YthokdbcpkmcieaaGreat
open Go Go.RowKit
attribute [local go_sem ↓] Go.wp_at_zero Go.wp_at_succ
/-- The five ways an answer is taken. -/
theorem htake_any (hb lb : Nat) (h : Hst) (k : HOk h) (h0 : h.take ≠ 0) (y : Bool) (bs : List UInt8) (hy : h.take = 2 → y = true → bs.length = 2) : ∃ f, takeV hb h.take = .func (.func f) #[.pointer (some ⟨hb, 0, none⟩)] #[] ∧ Enters Tryz.prog f ∧ ∀ w, HstM w hb lb h → Calls Tryz.prog f #[.pointer (some ⟨hb, 0, none⟩), .agg #[.bool y, .string (txt bs)]] w fun e w' => e = .returned (.tuple #[]) ∧ HstM w' hb lb (takesH h y bs) ∧ w.grownBy w' (some hb) := by
  have htk := k.tk
  have hc : h.take = 1 ∨ h.take = 2 ∨ h.take = 3 ∨ h.take = 4 ∨ h.take = 5 := by omega
  rcases hc with e | e | e | e | e
  · exact ⟨_, by rw [e]; rfl, enters_of Tryz.func53 (by kernel_rfl) rfl, fun w m => htakeOpen_any hb lb h y bs w m k.b e⟩
  · exact ⟨_, by rw [e]; rfl, enters_of Tryz.func78 (by kernel_rfl) rfl, fun w m => htakeState_any hb lb h y bs w m k.b e (hy e)⟩
  · exact ⟨_, by rw [e]; rfl, enters_of Tryz.func129 (by kernel_rfl) rfl, fun w m => htakePage_any hb lb h y bs w m k.b e (k.left (by omega))⟩
  · exact ⟨_, by rw [e]; rfl, enters_of Tryz.func114 (by kernel_rfl) rfl, fun w m => htakeFound_any hb lb h y bs w m k.b e (k.left (by omega))⟩
  · exact ⟨_, by rw [e]; rfl, enters_of Tryz.func138 (by kernel_rfl) rfl, fun w m => htakeBurnt_any hb lb h y bs w m k.b e (k.left (by omega))⟩
theorem answer_state {h : Hst} (k : HOk h) {m : List UInt8} {y : Bool} {bs : List UInt8} (e : answerToH h.asked m = some (y, bs)) : h.take = 2 → y = true → bs.length = 2 := by
  intro ht hy
  subst hy
  unfold answerToH at e
  split at e
  · split at e
    · rename_i hc
      simp only [Option.some.injEq, Prod.mk.injEq, true_and] at e
      rw [← e, List.length_drop]
      have := hc.2
      rw [k.w2 ht] at this
      have h2 : yesLen 4 = 2 := by decide
      omega
    · split at e
      · simp at e
      · cases e
  · cases e
theorem fold_stop : ∀ (l : List (List UInt8)) (h : Hst), h.take = 0 → l.foldl hearsH h = h
  | [], _, _ => rfl
  | m :: l, h, e => by
    have : hearsH h m = h := by unfold hearsH; rw [if_pos e]
    rw [List.foldl_cons, this]
    exact fold_stop l h e
theorem fold_take {l : List (List UInt8)} {j : Nat} {h h' : Hst} (e : (l.take j).foldl hearsH h = h') (h0 : h'.take = 0) : l.foldl hearsH h = h' := by
  have : l.foldl hearsH h = (l.drop j).foldl hearsH ((l.take j).foldl hearsH h) := by rw [← List.foldl_append, List.take_append_drop]
  rw [this, e, fold_stop _ _ h0]
theorem fold_next {l : List (List UInt8)} {j : Nat} {h h' : Hst} (hj : j < l.length) (e : (l.take j).foldl hearsH h = h') : (l.take (j + 1)).foldl hearsH h = hearsH h' (l.getD j []) := by
  rw [List.take_add_one, List.getElem?_eq_getElem hj, List.foldl_append, e, List.getD_eq_getElem?_getD, List.getElem?_eq_getElem hj]
  rfl
theorem below_rowC {w w' : World} {base : Nat} {e : TypeId} {size n : Nat} {v : Value} {xs : List Value} (h : w.ownsRow base e size v n xs) (hb : Below w.heap.size w w') : w'.ownsRow base e size v n xs :=
  own_atE h (fun j hj => hb.block j (h.lt j hj).2)
theorem grown_rowB {w w' : World} {base : Nat} {e : TypeId} {size n : Nat} {v : Value} {xs : List Value} {hb : Nat} (h : w.ownsRow base e size v n xs) (hg : w.grownBy w' (some hb)) (hl : hb < base) : w'.ownsRow base e size v n xs :=
  own_atE h (fun j hj => hg.block j (h.lt j hj).2 (by have := (h.lt j hj).1; simp; omega))
set_option maxRecDepth 100000 in
set_option maxHeartbeats 4000000 in
theorem hhear_any (hb lb : Nat) (h : Hst) (bs : ByteArray) (w : World) (m : HstM w hb lb h) (k : HOk h) (hbs : bs.size ≤ 4000000) :
    Calls Tryz.prog 86 #[.pointer (some ⟨hb, 0, none⟩), .string bs] w fun e w' => e = .returned (.tuple #[]) ∧ HstM w' hb lb (hearH h bs.data.toList) ∧ w.grownBy w' (some hb) := by
  have hlen : bs.data.toList.length = bs.size := by rw [Array.length_toList]; rfl
  have hct := hearF_count h.ear bs.data.toList
  have hml := hearF_msgs m.ear.ok bs.data.toList
  rw [hlen] at hct
  have HE := hideIt (hear_o hb 4 h.ear bs w m.ear (Nat.le_trans hbs (by decide)))
  have HF : Hid (hearH h bs.data.toList = (hearF h.ear bs.data.toList).2.foldl hearsH (setEarH h (hearF h.ear bs.data.toList).1)) := rfl
  obtain ⟨es, hes⟩ : ∃ es, (hearF h.ear bs.data.toList).1 = es := ⟨_, rfl⟩
  obtain ⟨qs, hqs⟩ : ∃ qs, (hearF h.ear bs.data.toList).2 = qs := ⟨_, rfl⟩
  rw [hes, hqs] at HE HF
  rw [hqs] at hct hml
  have hqi : (qs.length : Int) ≤ 4000000 := by omega
  have HML := hideIt hml
  have HM := hideIt m
  have HK := hideIt (k.setEar es)
  have hlt := m.lt
  have hq0 := fn_eq_nil
  have hq1 := fn_eq_some
  clear m k hct hml hes hqs hlen
  go_enter Tryz.func86, Tryz.ntmps86
  go_wp2_with fail
  refine HE.out.mono ?_
  rintro e w1 ⟨v, rfl, hE1, hR1, hW1⟩
  have hM1 : HstM w1 hb lb (setEarH h es) := by
    have m := HM.out
    have hc : ∀ j, j < 4 ∨ 88 ≤ j → w1.cell? ⟨hb, j, none⟩ = w.cell? ⟨hb, j, none⟩ := fun j hj => hW1.cells j (by omega)
    have hz := hW1.grown.size
    have hbl : w1.heap[lb]? = w.heap[lb]? := hW1.grown.block lb m.ll (by have := m.ne; simpa using this)
    obtain ⟨u, u1, u2⟩ := m.c2
    exact ⟨(hc 0 (by omega)).trans m.c0, (hc 1 (by omega)).trans m.c1, (hc 3 (by omega)).trans m.c3, (hc 88 (by omega)).trans m.c88, (hc 89 (by omega)).trans m.c89, (hc 90 (by omega)).trans m.c90, (hc 91 (by omega)).trans m.c91, (hc 92 (by omega)).trans m.c92, ⟨u, (hc 2 (by omega)).trans u1, u2.kept (fun _ => hbl)⟩, hE1, m.ne, Nat.lt_of_lt_of_le m.ll hz⟩
  obtain ⟨va, vm, vc, rfl⟩ := slice_ofR hR1
  have hvm : vm = qs.length := slice_lenB hR1
  subst hvm
  have HI := hideIt (And.intro hM1 (And.intro hR1 hW1.grown))
  clear hE1 hR1 hW1 hM1 HE HM
  go_wp2_with fail
  go_loopw [14] (fun i wr => ∃ (j : Nat) (h' : Hst), j ≤ qs.length ∧ i = .int .i64 j ∧ (qs.take j).foldl hearsH (setEarH h es) = h' ∧ HstM wr hb lb h' ∧ HOk h' ∧ wr.ownsRow w.heap.size 9 1 (.slice va qs.length vc) qs.length (strs qs) ∧ w.grownBy wr (some hb)) (fun i _ => qs.length - (intOf i).toNat)
  case atStart => exact ⟨0, _, Nat.zero_le _, rfl, rfl, HI.out.1, HK.out, HI.out.2.1, HI.out.2.2⟩
  case round =>
    clear HI
    obtain ⟨j, h', hj, rfl, hfo, hM, hOk, hR, hG⟩ := hrel
    by_cases hlj : j < qs.length
    · have hji : (j : Int) < (qs.length : Int) := by omega
      have hqm := HML.out _ (getD_mem hlj)
      obtain ⟨q, hq⟩ : ∃ q, qs.getD j [] = q := ⟨_, rfl⟩
      have hnx := fold_next hlj hfo
      rw [hq] at hqm hnx
      obtain ⟨g, rfl, cj⟩ := row_cellB hR hlj
      rw [hq] at cj
      have c89 := hM.c89
      have c88 := hM.c88
      by_cases h0 : h'.take = 0
      · have hst := fold_take hfo h0
        rw [h0] at c89
        replace c89 : wr.cell? ⟨hb, 89, none⟩ = some .nilFunc := c89
        have HX := hideIt (And.intro hst (And.intro hM hG))
        clear hst hM hG hfo hOk hR hnx h0 hq
        go_wp2
        (try simp only [Exit.inBlock, Exit.then])
        refine bodyPost_ret (results_none rfl _ _ _) rfl ?_
        exact ⟨rfl, by rw [HF.out, HX.out.1]; exact HX.out.2.1, HX.out.2.2⟩
      · have HA := hideIt (fun w' => hanswer_any h'.asked q hOk.b.long (by omega) w')
        obtain ⟨an, han⟩ : ∃ an, answerToH h'.asked q = an := ⟨_, rfl⟩
        rw [han] at HA
        cases an with
        | none =>
          obtain ⟨V, hV⟩ := takeV_func hb h'.take (by omega)
          rw [hV] at c89
          have hhe : hearsH h' q = h' := by unfold hearsH; rw [if_neg h0, han]
          rw [hhe] at hnx
          have HX := hideIt (And.intro hnx (And.intro hM (And.intro hOk (And.intro hR hG))))
          obtain ⟨Q, hQ⟩ : ∃ Q, txt q = Q := ⟨_, rfl⟩
          obtain ⟨AS, hAS⟩ : ∃ AS, txt h'.asked = AS := ⟨_, rfl⟩
          rw [hQ] at HA cj
          rw [hAS] at HA c88
          unfold ansV at HA
          clear hnx hM hOk hR hG hhe han hV h0 hq hfo hQ hAS
          go_wp2_with fail
          refine (HA.out _).mono ?_
          rintro e w2 ⟨rfl, hB2⟩
          have HY := hideIt hB2
          clear hB2
          go_wp2
          go_roundw
          case rel => exact ⟨j + 1, h', by omega, by go_num, HX.out.1, HX.out.2.1.below (HY.out.alloc HY.out.size _), HX.out.2.2.1, below_rowC HX.out.2.2.2.1 (HY.out.alloc HY.out.size _), HX.out.2.2.2.2.trans (below_to_grown (HY.out.alloc HY.out.size _) _)⟩
          case measure => simp [intOf]; omega
        | some an =>
          obtain ⟨y, rs⟩ := an
          obtain ⟨V, hV, hEnt, hTk⟩ := htake_any hb lb h' hOk h0 y rs (answer_state hOk han)
          rw [hV] at c89
          have hhe : hearsH h' q = takesH h' y rs := by unfold hearsH; rw [if_neg h0, han]
          rw [hhe] at hnx
          have hOk2 := hOk.takesH h0 y rs
          have HX := hideIt (And.intro hnx (And.intro hM (And.intro hOk2 (And.intro hR hG))))
          have hent : ∀ args w, (callFunc V args).run Tryz.prog w = .ok (.enter V args) w := hEnt
          have HT : Hid (∀ w', HstM w' hb lb h' → Calls Tryz.prog V #[.pointer (some ⟨hb, 0, none⟩), .agg #[.bool y, .string (txt rs)]] w' fun e w'' => ∃ v, e = .returned v ∧ (v = .tuple #[] ∧ HstM w'' hb lb (takesH h' y rs) ∧ w'.grownBy w'' (some hb))) := fun w' m' => (hTk w' m').mono fun e w'' ⟨e1, e2, e3⟩ => ⟨_, e1, rfl, e2, e3⟩
          obtain ⟨Q, hQ⟩ : ∃ Q, txt q = Q := ⟨_, rfl⟩
          obtain ⟨AS, hAS⟩ : ∃ AS, txt h'.asked = AS := ⟨_, rfl⟩
          rw [hQ] at HA cj
          rw [hAS] at HA c88
          unfold ansV at HA
          have hlr := hM.lt
          clear hnx hM hOk hOk2 hR hG hhe han hV h0 hq hfo hQ hAS hTk
          go_wp2_with fail
          refine (HA.out _).mono ?_
          rintro e w2 ⟨rfl, hB2⟩
          obtain ⟨W, hW, hBW, a0, a1⟩ := ans_cells w2 y (txt rs)
          have hBW2 : Below wr.heap.size wr W := hB2.trans (hBW.mono hB2.size)
          have d89 := (World.cell?_of_block (a := ⟨hb, 89, none⟩) (hBW2.block hb hlr)).trans c89
          have HY := hideIt hBW2
          clear hB2 hBW hBW2
          go_wp2_with fail
          go_region_law (refine step_returns V #[.pointer (some ⟨hb, 0, none⟩), .agg #[.bool y, .string (txt rs)]] rfl (by simp [execOp, resolve, invoke, go_sem, hent]) _ _ (HT.out _ (by exact HX.out.2.1.below HY.out.drew)) (fun e w' hh => hh) ?_; rintro xv w3 ⟨rfl, hm3, hg3⟩)
          all_goals
            have HW := hideIt (And.intro hm3 (And.intro (grown_rowB (below_rowC HX.out.2.2.2.1 HY.out.drew) hg3 hlt) (HX.out.2.2.2.2.trans ((below_to_grown HY.out.drew _).trans hg3))))
            clear hm3 hg3
            go_wp2
            go_roundw
            case rel => exact ⟨j + 1, _, by omega, by go_num, HX.out.1, HW.out.1, HX.out.2.2.1, HW.out.2.1, HW.out.2.2⟩
            case measure => simp [intOf]; omega
    · have hje : j = qs.length := by omega
      have hji : ¬ (j : Int) < (qs.length : Int) := by omega
      rw [hje, List.take_length] at hfo
      have HX := hideIt (And.intro hfo (And.intro hM hG))
      clear hfo hM hG hOk hR hje
      go_wp2
      go_end0
      exact ⟨rfl, by rw [HF.out, HX.out.1]; exact HX.out.2.1, HX.out.2.2⟩
end Go.Proofs.YthokdbcpkmcieaaGreat
namespace Go.Proofs.YthokdbcpkmcieaaGreat
open Go Go.RowKit
attribute [local go_sem ↓] Go.wp_at_zero Go.wp_at_succ
/-- An image. -/
structure Img where
  bytes : List UInt8
  laid : List Bool
  starts : List Bool
def wholeI (i : Img) : Bool := decide (i.bytes.length = 1024) && (decide (i.laid.length = 1024) && decide (i.starts.length = 1024))
def laidP (i : Img) (k : Nat) : List Bool := (i.laid.drop (64 * k)).take 64
def bytesP (i : Img) (k : Nat) : List UInt8 := (i.bytes.drop (64 * k)).take 64
/-- The pages of which a byte is laid, of the first k. -/
def wantS (i : Img) : Nat → List Pg
  | 0 => []
  | k + 1 => wantS i k ++ (if true ∈ laidP i k then [⟨UInt8.ofNat k, bytesP i k⟩] else [])
def wantI (i : Img) : List Pg := wantS i 16
theorem wantS_len (i : Img) : ∀ k, (wantS i k).length ≤ k
  | 0 => Nat.le_refl _
  | k + 1 => by
    have := wantS_len i k
    unfold wantS
    split <;> simp <;> omega
/-- A slice in memory: its cells. -/
structure SlV (w : World) (v : Value) (xs : List Value) : Prop where
  is : ∃ a cap, v = .slice a xs.length cap ∧ xs.length ≤ cap ∧ cap ≤ 9223372036854775807 ∧ (0 < xs.length → ∃ b off, a = some ⟨b, off, none⟩ ∧ b < w.heap.size ∧ ∀ i (hi : i < xs.length), w.cell? ⟨b, off + i, none⟩ = some xs[i])
theorem SlV.below {w w' : World} {v : Value} {xs : List Value} (h : SlV w v xs) (hb : Below w.heap.size w w') : SlV w' v xs := by
  obtain ⟨a, cap, h1, h2, h3, h4⟩ := h.is
  refine ⟨a, cap, h1, h2, h3, fun hl => ?_⟩
  obtain ⟨b, off, e1, e2, e3⟩ := h4 hl
  exact ⟨b, off, e1, Nat.lt_of_lt_of_le e2 hb.size, fun i hi => (World.cell?_of_block (a := ⟨b, off + i, none⟩) (hb.block b e2)).trans (e3 i hi)⟩
def boolVs (l : List Bool) : List Value := l.map .bool
/-- An image in memory. -/
structure ImgAt (w : World) (v0 v1 v2 : Value) (i : Img) : Prop where
  b : SlV w v0 (byteVs i.bytes)
  l : SlV w v1 (boolVs i.laid)
  s : SlV w v2 (boolVs i.starts)
theorem ImgAt.below {w w' : World} {v0 v1 v2 : Value} {i : Img} (h : ImgAt w v0 v1 v2 i) (hb : Below w.heap.size w w') : ImgAt w' v0 v1 v2 i := ⟨h.b.below hb, h.l.below hb, h.s.below hb⟩
theorem img_cells (w : World) (v0 v1 v2 : Value) : ∃ W, w.alloc (.cells #[v0, v1, v2] 27) = W ∧ Below w.heap.size w W ∧ w.heap.size < W.heap.size ∧ W.cell? ⟨w.heap.size, 0, none⟩ = some v0 ∧ W.cell? ⟨w.heap.size, 1, none⟩ = some v1 ∧ W.cell? ⟨w.heap.size, 2, none⟩ = some v2 := by
  refine ⟨_, rfl, (Below.refl _ _).alloc (Nat.le_refl _) _, by simp, ?_, ?_, ?_⟩
  all_goals
    rw [cell_of_row _ _ _ _ _ (0, 0) (heap_alloc_new w _)]
    rfl
theorem eq1024 (n : Nat) : ((n : Int) == 1024) = decide (n = 1024) := by
  by_cases h : n = 1024
  · subst h; rfl
  · rw [decide_eq_false h]; simp; omega
set_option maxRecDepth 100000 in
set_option maxHeartbeats 2000000 in
theorem imgWhole_any (a0 a1 a2 : Option Addr) (n0 n1 n2 c0 c1 c2 : Nat) (h0 : n0 ≤ 9223372036854775807) (h1 : n1 ≤ 9223372036854775807) (h2 : n2 ≤ 9223372036854775807) (w : World) :
    Calls Tryz.prog 50 #[.agg #[.slice a0 n0 c0, .slice a1 n1 c1, .slice a2 n2 c2]] w fun e w' => e = .returned (.bool (decide (n0 = 1024) && (decide (n1 = 1024) && decide (n2 = 1024)))) ∧ Below w.heap.size w w' := by
  obtain ⟨W, hW, hB, hz, k0, k1, k2⟩ := img_cells w (.slice a0 n0 c0) (.slice a1 n1 c1) (.slice a2 n2 c2)
  have q0 := eq1024 n0
  have q1 := eq1024 n1
  have q2 := eq1024 n2
  have HB := hideIt hB
  clear hB
  by_cases e0 : n0 = 1024
  · rw [decide_eq_true e0] at q0 ⊢
    by_cases e1 : n1 = 1024
    · rw [decide_eq_true e1] at q1 ⊢
      by_cases e2 : n2 = 1024
      · rw [decide_eq_true e2] at q2 ⊢
        subst e0 e1 e2
        go_enter Tryz.func50, Tryz.ntmps50
        go_wp2
        go_ret
        exact ⟨rfl, HB.out⟩
      · rw [decide_eq_false e2] at q2 ⊢
        subst e0 e1
        clear e2
        go_enter Tryz.func50, Tryz.ntmps50
        go_wp2
        go_ret
        exact ⟨rfl, HB.out⟩
    · rw [decide_eq_false e1] at q1 ⊢
      subst e0
      clear e1
      go_enter Tryz.func50, Tryz.ntmps50
      go_wp2
      go_ret
      exact ⟨rfl, HB.out⟩
  · rw [decide_eq_false e0] at q0 ⊢
    clear e0
    go_enter Tryz.func50, Tryz.ntmps50
    go_wp2
    go_ret
    exact ⟨rfl, HB.out⟩
set_option maxRecDepth 100000 in
set_option maxHeartbeats 2000000 in
theorem rwhole_any (a0 a1 a2 : Option Addr) (n0 n1 n2 c0 c1 c2 : Nat) (h0 : n0 ≤ 9223372036854775807) (h1 : n1 ≤ 9223372036854775807) (h2 : n2 ≤ 9223372036854775807) (w : World) :
    Calls Tryz.prog 11 #[.agg #[.slice a0 n0 c0, .slice a1 n1 c1, .slice a2 n2 c2]] w fun e w' => e = .returned (.bool (decide (n0 = 1024) && (decide (n1 = 1024) && decide (n2 = 1024)))) ∧ Below w.heap.size w w' := by
  obtain ⟨W, hW, hB, hz, k0, k1, k2⟩ := img_cells w (.slice a0 n0 c0) (.slice a1 n1 c1) (.slice a2 n2 c2)
  have q0 := eq1024 n0
  have q1 := eq1024 n1
  have q2 := eq1024 n2
  have HB := hideIt hB
  clear hB
  by_cases e0 : n0 = 1024
  · rw [decide_eq_true e0] at q0 ⊢
    by_cases e1 : n1 = 1024
    · rw [decide_eq_true e1] at q1 ⊢
      by_cases e2 : n2 = 1024
      · rw [decide_eq_true e2] at q2 ⊢
        subst e0 e1 e2
        go_enter Tryz.func11, Tryz.ntmps11
        go_wp2
        go_ret
        exact ⟨rfl, HB.out⟩
      · rw [decide_eq_false e2] at q2 ⊢
        subst e0 e1
        clear e2
        go_enter Tryz.func11, Tryz.ntmps11
        go_wp2
        go_ret
        exact ⟨rfl, HB.out⟩
    · rw [decide_eq_false e1] at q1 ⊢
      subst e0
      clear e1
      go_enter Tryz.func11, Tryz.ntmps11
      go_wp2
      go_ret
      exact ⟨rfl, HB.out⟩
  · rw [decide_eq_false e0] at q0 ⊢
    clear e0
    go_enter Tryz.func11, Tryz.ntmps11
    go_wp2
    go_ret
    exact ⟨rfl, HB.out⟩
/-- A place among the list, or less than none. -/
def IdxIs (z : Int) (l : List Bool) : Prop := (0 ≤ z ↔ true ∈ l) ∧ -1 ≤ z
set_option maxRecDepth 100000 in
set_option maxHeartbeats 2000000 in
theorem indexB_any (b off cap : Nat) (l : List Bool) (w : World) (hc : ∀ i (hi : i < l.length), w.cell? ⟨b, off + i, none⟩ = some (.bool l[i])) (hl : l.length ≤ 1000) :
    Calls Tryz.prog 94 #[.slice (some ⟨b, off, none⟩) l.length cap, .bool true] w fun e w' => ∃ z : Int, e = .returned (.int .i64 z) ∧ IdxIs z l ∧ w' = w := by
  have HC := hideIt hc
  clear hc
  have hli : (l.length : Int) ≤ 1000 := by omega
  go_enter Tryz.func94, Tryz.ntmps94
  go_wp2_with fail
  go_loopw [8] (fun i wr => ∃ j : Nat, j ≤ l.length ∧ i = .int .i64 j ∧ true ∉ l.take j ∧ wr = w) (fun i _ => l.length - (intOf i).toNat)
  case atStart => exact ⟨0, Nat.zero_le _, rfl, by simp, rfl⟩
  case round =>
    obtain ⟨j, hj, rfl, hno, rfl⟩ := hrel
    by_cases hlj : j < l.length
    · have hji : (j : Int) < (l.length : Int) := by omega
      have cj := HC.out j hlj
      obtain ⟨x, hx⟩ : ∃ x, l[j] = x := ⟨_, rfl⟩
      rw [hx] at cj
      cases x
      · have hn2 : true ∉ l.take (j + 1) := by
          rw [List.take_add_one, List.getElem?_eq_getElem hlj, hx]
          simpa using hno
        have HN := hideIt hn2
        clear hn2 hno hx
        go_wp2
        go_roundw
        case rel => exact ⟨j + 1, by omega, by go_num, HN.out, by first | rfl | trivial⟩
        case measure => simp [intOf]; omega
      · have hin : true ∈ l := by rw [← hx]; exact List.getElem_mem hlj
        have HN := hideIt hin
        clear hin hno hx
        go_wp2
        go_ret
        exact ⟨(j : Int), rfl, ⟨⟨fun _ => HN.out, fun _ => by omega⟩, by omega⟩, rfl⟩
    · have hji : ¬ (j : Int) < (l.length : Int) := by omega
      have hnl : true ∉ l := by rw [show l.take j = l from List.take_of_length_le (by omega)] at hno; exact hno
      have HN := hideIt hnl
      clear hnl hno
      go_wp2
      go_ret
      exact ⟨-1, rfl, ⟨⟨fun e => absurd e (by omega), fun e => absurd e HN.out⟩, by omega⟩, rfl⟩
set_option maxRecDepth 100000 in
set_option maxHeartbeats 2000000 in
theorem containsB_any (b off cap : Nat) (l : List Bool) (w : World) (hc : ∀ i (hi : i < l.length), w.cell? ⟨b, off + i, none⟩ = some (.bool l[i])) (hl : l.length ≤ 1000) :
    Calls Tryz.prog 74 #[.slice (some ⟨b, off, none⟩) l.length cap, .bool true] w fun e w' => e = .returned (.bool (decide (true ∈ l))) ∧ w' = w := by
  have HI := hideIt (indexB_any b off cap l w hc hl)
  clear hc
  go_enter Tryz.func74, Tryz.ntmps74
  go_wp2_with fail
  refine HI.out.mono ?_
  rintro e w1 ⟨z, rfl, hz, rfl⟩
  have HZ := hideIt (show decide (0 ≤ z) = decide (true ∈ l) from decide_eq_decide.2 hz.1)
  have hz1 := hz.2
  clear hz
  go_wp2
  go_ret
  exact ⟨by rw [← HZ.out]; rfl, rfl⟩
end Go.Proofs.YthokdbcpkmcieaaGreat
namespace Go.Proofs.YthokdbcpkmcieaaGreat
open Go Go.RowKit
attribute [local go_sem ↓] Go.wp_at_zero Go.wp_at_succ
def pgCells (p : Pg) : List Value := [.int .u8 (p.n.toNat : Int), .string (txt p.bs)]
theorem Tryz.infoPg : (Tryz.prog.info? 139).map (fun i => (i.zero, i.size, i.bytes)) = some (some (.agg #[.int .u8 0, .string ⟨#[]⟩]), 2, 24) := by kernel_rfl
theorem laidP_get (i : Img) (k q : Nat) (hq : q < (laidP i k).length) (h : 64 * k + q < i.laid.length) : (laidP i k)[q] = i.laid[64 * k + q] := by
  simp only [laidP, List.getElem_take, List.getElem_drop]
theorem bytesP_get (i : Img) (k q : Nat) (hq : q < (bytesP i k).length) (h : 64 * k + q < i.bytes.length) : (bytesP i k)[q] = i.bytes[64 * k + q] := by
  simp only [bytesP, List.getElem_take, List.getElem_drop]
theorem page_len64 {α : Type} {l : List α} (hl : l.length = 1024) (k : Nat) (hk : k < 16) : ((l.drop (64 * k)).take 64).length = 64 := by
  rw [List.length_take, List.length_drop]
  omega
set_option maxRecDepth 100000 in
set_option maxHeartbeats 4000000 in
theorem wanted_any (a0 a1 : Option Addr) (c0 c1 : Nat) (v2 : Value) (i : Img) (w : World) (hi0 : SlV w (.slice a0 1024 c0) (byteVs i.bytes)) (hi1 : SlV w (.slice a1 1024 c1) (boolVs i.laid)) (hb : i.bytes.length = 1024) (hl : i.laid.length = 1024) :
    Calls Tryz.prog 51 #[.agg #[.slice a0 1024 c0, .slice a1 1024 c1, v2]] w fun e w' => ∃ v, e = .returned v ∧ w'.ownsRow (w.heap.size + 1) 139 2 v (wantI i).length ((wantI i).flatMap pgCells) ∧ Below w.heap.size w w' := by
  obtain ⟨j0, gi, gz0, gz1, gz2⟩ := info_of Tryz.infoPg
  obtain ⟨ax, cx, e0, hc01, hc02, h0⟩ := hi0.is
  have hbl : (byteVs i.bytes).length = 1024 := by rw [byteVs_len, hb]
  rw [hbl] at e0 hc01
  cases e0
  obtain ⟨b0, off0, rfl, hb0, k0⟩ := h0 (by omega)
  obtain ⟨ay, cy, e1, hc11, hc12, h1⟩ := hi1.is
  have hll : (boolVs i.laid).length = 1024 := by unfold boolVs; rw [List.length_map, hl]
  rw [hll] at e1 hc11
  cases e1
  obtain ⟨b1, off1, rfl, hb1, k1⟩ := h1 (by omega)
  have HK0 : Hid (∀ q (hq : q < i.bytes.length), w.cell? ⟨b0, off0 + q, none⟩ = some (.int .u8 (i.bytes[q].toNat : Int))) := fun q hq => by
    have := k0 q (by rw [hbl]; omega)
    rw [this]
    simp [byteVs]
  have HK1 : Hid (∀ q (hq : q < i.laid.length), w.cell? ⟨b1, off1 + q, none⟩ = some (.bool i.laid[q])) := fun q hq => by
    have := k1 q (by rw [hll]; omega)
    rw [this]
    simp [boolVs]
  obtain ⟨W, hW, hB, hz, m0, m1, m2⟩ := img_cells w (.slice (some ⟨b0, off0, none⟩) 1024 c0) (.slice (some ⟨b1, off1, none⟩) 1024 c1) v2
  have hWz : W.heap.size = w.heap.size + 1 := by rw [← hW]; simp
  have HB := hideIt hB
  have hci0 : (1024 : Int) ≤ (c0 : Int) := by omega
  have hci1 : (1024 : Int) ≤ (c1 : Int) := by omega
  have hcj0 : (c0 : Int) ≤ 9223372036854775807 := by omega
  have hcj1 : (c1 : Int) ≤ 9223372036854775807 := by omega
  clear hi0 hi1 h0 h1 k0 k1 hbl hll hB
  go_enter Tryz.func51, Tryz.ntmps51
  go_wp2_with fail
  go_loopw [3, 7] (fun v x wr => ∃ j : Nat, j ≤ 16 ∧ x = .int .i64 j ∧ wr.ownsRow (w.heap.size + 1) 139 2 v (wantS i j).length ((wantS i j).flatMap pgCells) ∧ Below W.heap.size W wr) (fun _ x _ => 16 - (intOf x).toNat)
  case atStart => exact ⟨0, by omega, rfl, World.ownsRow_nil _ _ _ _, Below.refl _ _⟩
  case round =>
    obtain ⟨j, hj, rfl, hR, hBr⟩ := hrel
    have hwl := wantS_len i j
    obtain ⟨va, vm, vc, rfl⟩ := slice_ofR hR
    have hrz := hBr.size
    by_cases hlt : j < 16
    · have hji : (j : Int) < 16 := by omega
      have p0 := (World.cell?_of_block (a := ⟨w.heap.size, 0, none⟩) (hBr.block w.heap.size hz)).trans m0
      have p1 := (World.cell?_of_block (a := ⟨w.heap.size, 1, none⟩) (hBr.block w.heap.size hz)).trans m1
      have hBall : Below w.heap.size w wr := HB.out.trans (hBr.mono HB.out.size)
      obtain ⟨B, hBe⟩ : ∃ B, 64 * j = B := ⟨_, rfl⟩
      have hll := page_len64 hl j hlt
      have hbl := page_len64 hb j hlt
      have HCT := hideIt (containsB_any b1 (off1 + B) (c1 - B) (laidP i j) wr (fun q hq => by
        have hq64 : q < 64 := by have := hq; unfold laidP at this; rw [hll] at this; exact this
        rw [laidP_get i j q hq (by omega), show off1 + B + q = off1 + (64 * j + q) by omega, World.cell?_of_block (a := ⟨b1, off1 + (64 * j + q), none⟩) (hBall.block b1 hb1)]
        exact HK1.out (64 * j + q) (by omega)) (by unfold laidP; omega))
      have hl64 : (laidP i j).length = 64 := hll
      rw [hl64] at HCT
      have hcv : (convert 24 9 (.slice (some ⟨b0, off0 + B, none⟩) 64 (c0 - B))).run Tryz.prog wr = .ok (.string (txt (bytesP i j))) wr := by
        have := run_convert_bytes_back (P := Tryz.prog) wr 24 9 5 ⟨b0, off0 + B, none⟩ (c0 - B) (bytesP i j) Tryz.underlying24 Tryz.underlying5 Tryz.underlying9 (fun q hq => by
          have hq64 : q < 64 := by have := hq; unfold bytesP at this; rw [hbl] at this; exact this
          rw [Addr.add_lit, bytesP_get i j q hq (by omega), show off0 + B + q = off0 + (64 * j + q) by omega, World.cell?_of_block (a := ⟨b0, off0 + (64 * j + q), none⟩) (hBall.block b0 hb0)]
          exact HK0.out (64 * j + q) (by omega))
        have hbl' : (bytesP i j).length = 64 := hbl
        rw [hbl'] at this
        exact this
      have hN : wantS i (j + 1) = wantS i j ++ (if true ∈ laidP i j then [⟨UInt8.ofNat j, bytesP i j⟩] else []) := rfl
      have hmul : (j : Int) * 64 = (B : Int) := by omega
      have hB0 : (0 : Int) ≤ (B : Int) := by omega
      have hBl : (B : Int) ≤ 960 := by omega
      have hwB : IntKind.i64.wrap (B : Int) = (B : Int) := by rw [IntKind.wrap_i64]; omega
      have hwj : IntKind.u8.wrap (j : Int) = (j : Int) := by rw [IntKind.wrap_u8]; omega
      have h64 : B + 64 - B = 64 := by omega
      obtain ⟨X, hX⟩ : ∃ X, txt (bytesP i j) = X := ⟨_, rfl⟩
      rw [hX] at hcv
      have HX := hideIt hX
      have HR := hideIt hR
      have HBR := hideIt hBr
      have hnu : (UInt8.ofNat j).toNat = j := by rw [UInt8.toNat_ofNat']; omega
      by_cases hin : true ∈ laidP i j
      · rw [decide_eq_true hin] at HCT
        rw [if_pos hin] at hN
        have HN := hideIt hN
        clear hN hin hR hBr hBall hl64 hll hbl hX hBe
        go_wp2_with fail
        refine HCT.out.mono ?_
        rintro e w2 ⟨rfl, rfl⟩
        go_wp2_with (at_builtin; refine wpList_append_own_at _ rfl _ _ 90 rfl (w.heap.size + 1) 139 j0 _ 2 24 Tryz.underlying90 gi gz0 gz1 gz2 rfl (by decide) _ _ _ rfl (HR.out.alloc _) ⟨w2.heap.size, 0, none⟩ 1 1 [.int .u8 (j : Int), .string X] rfl rfl (cells_new _ _ _) (by intro u hu; simp at hu; rcases hu with rfl | rfl <;> rfl) (by unfold maxLen; omega) (by omega) (by rw [World.alloc_size]; omega) ?_; intro v' wn hown hgr _ hloc; obtain ⟨a', n', c', rfl⟩ := slice_ofR hown; have HO := hideIt (And.intro hown hgr); clear hown hgr hloc)
        go_roundw
        case rel =>
          refine ⟨j + 1, by omega, by go_num, ?_, ?_⟩
          · rw [HN.out]
            simp only [List.length_append, List.length_cons, List.length_nil, List.flatMap_append, List.flatMap_cons, List.flatMap_nil, pgCells, hnu, HX.out, List.append_nil]
            exact HO.out.1
          · have hz2 := HO.out.2.size
            refine ⟨HO.out.2.os.trans HBR.out.os, HO.out.2.tape.trans HBR.out.tape, HO.out.2.output.trans HBR.out.output, by simp at hz2; omega, fun k hk => ?_⟩
            rw [HO.out.2.block k (by simp; omega) (fun e => by have := (HR.out.lt k e.symm).1; omega), Below.heap_alloc _ _ _ (by omega)]
            exact HBR.out.block k hk
        case measure => simp [intOf]; omega
      · rw [decide_eq_false hin] at HCT
        rw [if_neg hin, List.append_nil] at hN
        have HN := hideIt hN
        clear hN hin hR hBr hBall hl64 hll hbl hX hBe
        go_wp2_with fail
        refine HCT.out.mono ?_
        rintro e w2 ⟨rfl, rfl⟩
        go_wp2
        go_roundw
        case rel => exact ⟨j + 1, by omega, by go_num, by rw [HN.out]; exact HR.out, HBR.out⟩
        case measure => simp [intOf]; omega
    · have hje : j = 16 := by omega
      have hjn : ¬ (j : Int) < 16 := by omega
      rw [hje] at hR
      have HR := hideIt (And.intro hR (HB.out.trans (hBr.mono HB.out.size)))
      clear hR hBr hje
      go_wp2
      go_ret
      exact ⟨_, rfl, HR.out.1, HR.out.2⟩
end Go.Proofs.YthokdbcpkmcieaaGreat
