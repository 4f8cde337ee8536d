/- The walks of the document's Hear, Cut, Boot, On, Flash. -/
import Derived.Test.YthokdbcpkmcieaaGreatRBoD
import Derived.Test.YthokdbcpkmcieaaGreatBoG
import Derived.Test.YthokdbcpkmcieaaGreatBoF
namespace Go.Proofs.YthokdbcpkmcieaaGreat
open Go Go.RowKit
attribute [local go_sem ↓] Go.wp_at_zero Go.wp_at_succ
/-- The document's board at rb, fb, jb does as the plain board b; its ear has kept at most u bytes. -/
structure RB (w : World) (rb fb jb : Nat) (b : Brd) (u : Nat) : Prop where
  is : ∃ r rt, RBd w rb fb jb b.on b.pow b.mem r rt ∧ (b.on = true → SameE b.ear r ∧ SameT b.talk rt) ∧ r.s.length ≤ u
  ok : TOk b.mem b.talk
  eok : EarOk b.ear
theorem RB.kept {w w' : World} {rb fb jb : Nat} {b : Brd} {u : Nat} (h : RB w rb fb jb b u) (hb : ∀ k, k = rb ∨ k = fb ∨ k = jb → w'.heap[k]? = w.heap[k]?) (hz : w.heap.size ≤ w'.heap.size) : RB w' rb fb jb b u := by
  obtain ⟨r, rt, h1, h2, h3⟩ := h.is
  exact ⟨⟨r, rt, h1.kept hb hz, h2, h3⟩, h.ok, h.eok⟩
theorem RB.lt {w : World} {rb fb jb : Nat} {b : Brd} {u : Nat} (h : RB w rb fb jb b u) : rb < w.heap.size ∧ fb < w.heap.size ∧ jb < w.heap.size := by
  obtain ⟨r, rt, h1, _⟩ := h.is
  exact h1.sto.lt
theorem RB.below {w w' : World} {rb fb jb : Nat} {b : Brd} {u : Nat} (h : RB w rb fb jb b u) (hb : Below w.heap.size w w') : RB w' rb fb jb b u :=
  h.kept (fun k e => hb.block k (by have := h.lt; rcases e with rfl | rfl | rfl <;> omega)) hb.size
theorem RB.le {w : World} {rb fb jb : Nat} {b : Brd} {u v : Nat} (h : RB w rb fb jb b u) (huv : u ≤ v) : RB w rb fb jb b v := by
  obtain ⟨r, rt, h1, h2, h3⟩ := h.is
  exact ⟨⟨r, rt, h1, h2, Nat.le_trans h3 huv⟩, h.ok, h.eok⟩
theorem tok0 {m : List UInt8} (h : ∃ k, Used m k) : TOk m talk0 := ⟨h, by decide, by decide⟩
theorem eok0 : EarOk ear0 := ⟨by decide, by decide⟩
/-- Behind j messages: what the document's board has said, and what it is. -/
structure RInv (w wr : World) (rb fb jb : Nat) (a : Pow × List UInt8 × Talk × List UInt8 × Bool) (r : REar) (base : Nat) (v : Value) (qs : List (List UInt8)) : Prop where
  brd : ∃ rt, RBd wr rb fb jb a.2.2.2.2 (if a.2.2.2.2 = true then a.1 else pow0) a.2.1 r rt ∧ (a.2.2.2.2 = true → SameT a.2.2.1 rt)
  ok : TOk a.2.1 a.2.2.1
  row : wr.ownsRow base 9 1 v qs.length (strs qs)
  g : G3 w wr rb fb jb
theorem G3.row {w w' : World} {rb fb jb base : Nat} {v : Value} {n : Nat} {xs : List Value} (h : G3 w w' rb fb jb) (hr : w.ownsRow base 9 1 v n xs) (hb : rb < base ∧ fb < base ∧ jb < base) : w'.ownsRow base 9 1 v n xs :=
  own_atE hr (fun j hj => h.block j (hr.lt j hj).2 (by have := (hr.lt j hj).1; omega) (by have := (hr.lt j hj).1; omega) (by have := (hr.lt j hj).1; omega))
theorem getD_mem {qs : List (List UInt8)} {j : Nat} (hj : j < qs.length) : qs.getD j [] ∈ qs := by
  rw [List.getD_eq_getElem?_getD, List.getElem?_eq_getElem hj]
  exact List.getElem_mem hj
/-- One message more, the power being there or not. -/
def nextA (a : Pow × List UInt8 × Talk × List UInt8 × Bool) (q : List UInt8) : Pow × List UInt8 × Talk × List UInt8 × Bool := if a.2.2.2.2 = true then stepA a.1 a.2.1 a.2.2.1 q a.2.2.2.1 else a
theorem answers_stop : ∀ (x y : List (List UInt8)) (p : Pow) (m : List UInt8) (t : Talk) (out : List UInt8), (answersF p m t x out).2.2.2.2 = false → answersF p m t (x ++ y) out = answersF p m t x out
  | [], y, p, m, t, out, h => by cases h
  | q :: x, y, p, m, t, out, h => by
    rw [List.cons_append, answersF, answersF]
    rw [answersF] at h
    split
    · rename_i hok
      rw [if_pos hok] at h
      exact answers_stop x y _ _ _ _ h
    · rfl
theorem answers_next (p : Pow) (m : List UInt8) (t : Talk) (qs : List (List UInt8)) (j : Nat) (hj : j < qs.length) : answersF p m t (qs.take (j + 1)) [] = nextA (answersF p m t (qs.take j) []) (qs.getD j []) := by
  obtain ⟨a, ha⟩ : ∃ a, answersF p m t (qs.take j) [] = a := ⟨_, rfl⟩
  rw [ha]
  unfold nextA
  obtain ⟨p', m', t', o', ok⟩ := a
  cases ok
  · have e : qs.take (j + 1) = qs.take j ++ [qs.getD j []] := by
      rw [List.take_add_one, List.getElem?_eq_getElem hj, List.getD_eq_getElem?_getD, List.getElem?_eq_getElem hj]
      rfl
    rw [e, answers_stop _ _ _ _ _ _ (by rw [ha]), ha]
    rfl
  · rw [if_pos rfl]
    exact (answers_more hj ha).1
theorem stepA_ok {p : Pow} {m : List UInt8} {t : Talk} {q out : List UInt8} (h : TOk m t) : TOk (stepA p m t q out).2.1 (stepA p m t q out).2.2.1 ∧ (stepA p m t q out).2.2.2.1.length ≤ out.length + 200 := by
  have h1 := answerF_ok (p := p) (q := q) h
  unfold stepA
  split
  · exact ⟨h1.1, by simp; exact h1.2⟩
  · exact ⟨h1.1, by simp⟩
theorem nextA_ok {a : Pow × List UInt8 × Talk × List UInt8 × Bool} {q : List UInt8} (h : TOk a.2.1 a.2.2.1) : TOk (nextA a q).2.1 (nextA a q).2.2.1 ∧ (nextA a q).2.2.2.1.length ≤ a.2.2.2.1.length + 200 := by
  unfold nextA
  split
  · exact stepA_ok h
  · exact ⟨h, by omega⟩
theorem answers_len (p : Pow) (m : List UInt8) (t : Talk) (qs : List (List UInt8)) (h : TOk m t) : ∀ j, j ≤ qs.length → TOk (answersF p m t (qs.take j) []).2.1 (answersF p m t (qs.take j) []).2.2.1 ∧ (answersF p m t (qs.take j) []).2.2.2.1.length ≤ 200 * j
  | 0, _ => by simpa [answersF] using h
  | j + 1, hj => by
    have ih := answers_len p m t qs h j (by omega)
    have := nextA_ok (q := qs.getD j []) ih.1
    rw [answers_next _ _ _ _ _ (by omega)]
    exact ⟨this.1, by omega⟩
theorem answer_dead {p : Pow} {m : List UInt8} {t : Talk} {q : List UInt8} {a1 : Pow} {a2 : List UInt8} {a3 : Talk} {a4 : List UInt8} (h : answerF p m t q = (a1, a2, a3, a4, false)) : a4 = [] := by
  unfold answerF at h
  simp only at h
  split at h
  · simp at h
  split at h
  · simp at h
  split at h
  · simp at h
  split at h
  · simp at h
  split at h
  · simp at h
  · simp only [Prod.mk.injEq] at h
    exact h.2.2.2.1.symm
theorem slice_lenB {w : World} {base : Nat} {e : TypeId} {size n m c : Nat} {a : Option Addr} {xs : List Value} (h : w.ownsRow base e size (.slice a m c) n xs) : m = n := by
  obtain ⟨_, ⟨h1, rfl⟩ | ⟨g, cap, cur, h1, _⟩⟩ := h
  · cases h1; rfl
  · cases h1; rfl
theorem row_cellB {w : World} {base vc j : Nat} {va : Option Addr} {qs : List (List UInt8)} (h : w.ownsRow base 9 1 (.slice va qs.length vc) qs.length (strs qs)) (hj : j < qs.length) : ∃ g, va = some ⟨g, 0, none⟩ ∧ w.cell? ⟨g, j, none⟩ = some (.string (txt (qs.getD j []))) := by
  obtain ⟨g, cap, hv, _⟩ := own_some h (by omega)
  cases hv
  refine ⟨g, rfl, ?_⟩
  have := h.cells (g := g) rfl j (.string (txt (qs.getD j []))) (by simp [strs, List.getD_eq_getElem?_getD, List.getElem?_eq_getElem hj])
  rwa [Addr.add_lit, Nat.zero_add] at this
/-- One call of hears, the power being there or not. -/
theorem rhears_next (rb fb jb : Nat) (a : Pow × List UInt8 × Talk × List UInt8 × Bool) (r : REar) (q : List UInt8) (w : World) (hb : ∃ rt, RBd w rb fb jb a.2.2.2.2 (if a.2.2.2.2 = true then a.1 else pow0) a.2.1 r rt ∧ (a.2.2.2.2 = true → SameT a.2.2.1 rt)) (ho : TOk a.2.1 a.2.2.1) (hq : q.length ≤ 1000) :
    Calls Tryz.prog 80 #[.pointer (some ⟨rb, 0, none⟩), .string (txt q)] w fun e w' => ∃ s, e = .returned (.string (txt s)) ∧ s.length ≤ 200 ∧ (nextA a q).2.2.2.1 = a.2.2.2.1 ++ s ∧ (∃ rt, RBd w' rb fb jb (nextA a q).2.2.2.2 (if (nextA a q).2.2.2.2 = true then (nextA a q).1 else pow0) (nextA a q).2.1 r rt ∧ ((nextA a q).2.2.2.2 = true → SameT (nextA a q).2.2.1 rt)) ∧ G3 w w' rb fb jb := by
  obtain ⟨p', m', t', o', ok⟩ := a
  obtain ⟨rt, h1, h2⟩ := hb
  cases ok
  · simp only [Bool.false_eq_true, if_false] at h1
    refine (rhears_off rb fb jb pow0 m' q w h1.sto).mono ?_
    rintro e w' ⟨rfl, rfl⟩
    exact ⟨[], rfl, by simp, by simp [nextA], ⟨rt, by simpa [nextA] using h1, by simp [nextA]⟩, G3.refl _ _ _ _⟩
  · simp only [if_true] at h1
    obtain ⟨k, hu⟩ := ho.used
    obtain ⟨⟨a1, a2, a3, a4, a5⟩, ha⟩ : ∃ a, answerF p' m' t' q = a := ⟨_, rfl⟩
    have hl := (answerF_ok (p := p') (q := q) ho).2
    simp only at hl
    rw [ha] at hl
    refine (rhears_any rb fb jb p' m' r t' rt q k w h1 (h2 rfl) hu hq _ ha).mono ?_
    rintro e w' ⟨rfl, ⟨rt2, h3, h4⟩, hg⟩
    cases a5
    · have ed := answer_dead ha
      subst ed
      have en : nextA (p', m', t', o', true) q = (a1, a2, a3, o', false) := by simp [nextA, stepA, ha]
      rw [en]
      exact ⟨[], rfl, by simp, by simp, ⟨rt2, h3, h4⟩, hg⟩
    · have en : nextA (p', m', t', o', true) q = (a1, a2, a3, o' ++ a4, true) := by simp [nextA, stepA, ha]
      rw [en]
      exact ⟨a4, rfl, hl, rfl, ⟨rt2, h3, h4⟩, hg⟩
set_option maxRecDepth 100000 in
set_option maxHeartbeats 8000000 in
/-- Hear of the document's board. -/
theorem rbhear_any (rb fb jb : Nat) (b : Brd) (u v : Nat) (bs : ByteArray) (w : World) (h : RB w rb fb jb b u) (hbs : u + bs.size ≤ 4000000) (huv : u ≤ v) (hv : ∀ r : REar, r.s.length ≤ u → (rHearF r bs.data.toList).1.s.length ≤ v) :
    Calls Tryz.prog 54 #[.pointer (some ⟨rb, 0, none⟩), .string bs] w fun e w' => e = .returned (.string (txt (bhearF b bs.data.toList).2)) ∧ RB w' rb fb jb (bhearF b bs.data.toList).1 v ∧ G3 w w' rb fb jb := by
  obtain ⟨r, rt, h1, h2, h3⟩ := h.is
  have hok := h.ok
  have heok := h.eok
  have hlen : bs.data.toList.length = bs.size := by rw [Array.length_toList]; rfl
  cases hon : b.on
  · have hB : bhearF b bs.data.toList = (b, []) := by unfold bhearF; rw [if_pos hon]
    rw [hB]
    have c2 := h1.sto.c2
    rw [hon] at c2
    have HH := hideIt (h.le huv)
    clear hv h h1 h2 h3 hok heok hB
    go_enter Tryz.func54, Tryz.ntmps54
    go_wp2
    go_ret
    exact ⟨rfl, HH.out, G3.refl _ _ _ _⟩
  · rw [hon] at h1
    obtain ⟨hE, hT⟩ := h2 hon
    obtain ⟨hsE, hsM⟩ := sameE_hear hE bs.data.toList
    have hml := hearF_msgs heok bs.data.toList
    have HEO := hideIt (hearF_ok heok bs.data.toList)
    have HEAR := hideIt (rhear_o rb 5 r bs w h1.ear (by omega))
    have hrl := hv r h3
    have hct := rHearF_count r bs.data.toList
    rw [hlen] at hct
    obtain ⟨r2, hr2⟩ : ∃ r2, (rHearF r bs.data.toList).1 = r2 := ⟨_, rfl⟩
    rw [← hsM] at HEAR hct
    rw [hr2] at HEAR hsE hrl
    have HY := hideIt (fun p m t o => bhear_yes (b := b) (l := bs.data.toList) (p := p) (m := m) (t := t) (o := o) hon)
    have HN := hideIt (fun p m t o => bhear_no (b := b) (l := bs.data.toList) (p := p) (m := m) (t := t) (o := o) hon)
    obtain ⟨qs, hqs⟩ : ∃ qs, (hearF b.ear bs.data.toList).2 = qs := ⟨_, rfl⟩
    obtain ⟨es, hes⟩ : ∃ es, (hearF b.ear bs.data.toList).1 = es := ⟨_, rfl⟩
    rw [hqs] at HEAR hml HY HN hct
    rw [hes] at hsE HY HEO
    have c2 := h1.sto.c2
    have hlt := h1.sto.lt
    have hqn : qs.length ≤ 4000000 := by omega
    have hqi : (qs.length : Int) ≤ 4000000 := by omega
    have HL := hideIt (answers_len b.pow b.mem b.talk qs hok)
    have HML := hideIt hml
    have HSE := hideIt (And.intro hsE hrl)
    have HH1 := hideIt (And.intro h1 (And.intro hT hok))
    have HB3 := hideIt hlt
    clear hv huv h h1 h2 h3 hok heok hE hT hsE hsM hml hrl hct hr2 hqs hes
    go_enter Tryz.func54, Tryz.ntmps54
    go_wp2_with fail
    refine HEAR.out.mono ?_
    rintro e w1 ⟨rv, rfl, hear1, hrow1, hw1⟩
    have hbd1 : ∃ rt, RBd w1 rb fb jb true b.pow b.mem r2 rt ∧ SameT b.talk rt := by
      obtain ⟨h1, hT, _⟩ := HH1.out
      refine ⟨rt, ?_, hT⟩
      have hc : ∀ j, j < 5 ∨ 7 ≤ j → w1.cell? ⟨rb, j, none⟩ = w.cell? ⟨rb, j, none⟩ := fun j hj => hw1.cells j (by omega)
      have hbk : ∀ k, k ≠ rb → k < w.heap.size → w1.heap[k]? = w.heap[k]? := fun k hk hkl => hw1.grown.block k hkl (by simpa using hk)
      have hz := hw1.grown.size
      obtain ⟨n1, n2, n3⟩ := h1.sto.ne
      refine ⟨?_, hear1, (hc 7 (by omega)).trans h1.c7, (hc 8 (by omega)).trans h1.c8, (hc 9 (by omega)).trans h1.c9, (hc 10 (by omega)).trans h1.c10, h1.ll, h1.sl, h1.al⟩
      have hs := h1.sto
      refine ⟨?_, ?_, (hc 2 (by omega)).trans hs.c2, (hc 3 (by omega)).trans hs.c3, ?_, hs.fl.kept (hbk fb (fun e => n1 e.symm) hs.lt.2.1), hs.jl.kept (hbk jb (fun e => n2 e.symm) hs.lt.2.2), hs.len, hs.pl, ?_, ⟨by omega, by omega, by omega⟩, hs.ne⟩
      · obtain ⟨c, a, b, e⟩ := hs.c0; exact ⟨c, a, b, (hc 0 (by omega)).trans e⟩
      · obtain ⟨c, a, b, e⟩ := hs.c1; exact ⟨c, a, b, (hc 1 (by omega)).trans e⟩
      · obtain ⟨z, e, f⟩ := hs.c4; exact ⟨z, (hc 4 (by omega)).trans e, f⟩
      · intro k j e
        by_cases hk : k = rb
        · subst hk; rw [hw1.fz j]; exact hs.fz _ j (.inl rfl)
        · have hkl : k < w.heap.size := by rcases e with rfl | rfl | rfl <;> omega
          rw [World.frozen?_of_block (a := ⟨k, j, none⟩) (hbk k hk hkl)]
          exact hs.fz k j e
    have HI : Hid (RInv w w1 rb fb jb (b.pow, b.mem, b.talk, [], true) r2 w.heap.size rv qs) := by
      obtain ⟨rt1, hb1, ht1⟩ := hbd1
      exact ⟨⟨rt1, hb1, fun _ => ht1⟩, HH1.out.2.2, hrow1, G3.grown fb jb hw1.grown⟩
    obtain ⟨va, vm, vc, rfl⟩ := slice_ofR hrow1
    have hvm : vm = qs.length := slice_lenB hrow1
    subst hvm
    clear hear1 hrow1 hw1 hbd1 HEAR
    go_wp2_with fail
    go_loopw [5, 7] (fun o i wr => ∃ (j : Nat) (s : List UInt8), j ≤ qs.length ∧ i = .int .i64 j ∧ o = .string (txt s) ∧ (answersF b.pow b.mem b.talk (qs.take j) []).2.2.2.1 = s ∧ RInv w wr rb fb jb (answersF b.pow b.mem b.talk (qs.take j) []) r2 w.heap.size (.slice va qs.length vc) qs) (fun _ i _ => qs.length - (intOf i).toNat)
    case atStart => exact ⟨0, [], Nat.zero_le _, rfl, rfl, rfl, HI.out⟩
    case round =>
      obtain ⟨j, s, hj, rfl, rfl, hs, hI⟩ := hrel
      have hsl := (HL.out j hj).2
      rw [hs] at hsl
      by_cases hlt : j < qs.length
      · have hji : (j : Int) < (qs.length : Int) := by omega
        have hN := answers_next b.pow b.mem b.talk qs j hlt
        have hqm := HML.out _ (getD_mem hlt)
        obtain ⟨q, hq⟩ : ∃ q, qs.getD j [] = q := ⟨_, rfl⟩
        rw [hq] at hN hqm
        obtain ⟨g, hg⟩ : ∃ g, va = some ⟨g, 0, none⟩ ∧ wr.cell? ⟨g, j, none⟩ = some (.string (txt q)) := by
          obtain ⟨g, hg1, hg2⟩ := row_cellB hI.row hlt
          exact ⟨g, hg1, by rw [hg2, hq]⟩
        obtain ⟨rfl, cj⟩ := hg
        have HC := hideIt (rhears_next rb fb jb _ r2 q wr hI.brd hI.ok (by omega))
        rw [← hN, hs] at HC
        have HI2 := hideIt hI
        obtain ⟨Q, hQ⟩ : ∃ Q, txt q = Q := ⟨_, rfl⟩
        rw [hQ] at HC cj
        have hss : (txt s).size = s.length := txt_size s
        obtain ⟨ST, hST⟩ : ∃ ST, txt s = ST := ⟨_, rfl⟩
        rw [hST] at hss ⊢
        have hSi : (ST.size : Int) ≤ 800000000 := by omega
        have HST := hideIt hST
        clear hN hqm hq hI hs hQ hST hss HI
        go_wp2_with fail
        refine HC.out.mono ?_
        rintro e w2 ⟨x, rfl, hx, hout, hbd, hG⟩
        have hxs : (txt x).size = x.length := txt_size x
        obtain ⟨XT, hXT⟩ : ∃ XT, txt x = XT := ⟨_, rfl⟩
        rw [hXT] at hxs ⊢
        have hXi : (XT.size : Int) ≤ 200 := by omega
        have hcat : ST ++ XT = txt (s ++ x) := by rw [← HST.out, ← hXT, txt_append]
        have HZ := hideIt (And.intro hout (And.intro hbd (And.intro hG hcat)))
        clear hout hbd hG hcat hXT hxs hx HC
        go_wp2
        go_roundw
        case rel =>
          refine ⟨j + 1, s ++ x, by omega, by go_num, by rw [HZ.out.2.2.2], HZ.out.1, ?_⟩
          exact ⟨HZ.out.2.1, (HL.out (j + 1) (by omega)).1, HZ.out.2.2.1.row HI2.out.row HB3.out, HI2.out.g.trans HZ.out.2.2.1⟩
        case measure => simp [intOf]; omega
      · have hjn : ¬ (j : Int) < (qs.length : Int) := by omega
        have hje : j = qs.length := by omega
        rw [hje, List.take_length] at hs hI
        have HX := hideIt (And.intro hs hI)
        clear hs hI hje
        go_wp2
        go_ret
        obtain ⟨hs, hI⟩ := HX.out
        obtain ⟨⟨p', m', t', o', ok⟩, ha⟩ : ∃ a, answersF b.pow b.mem b.talk qs [] = a := ⟨_, rfl⟩
        rw [ha] at hs hI
        obtain ⟨rt', hb', ht'⟩ := hI.brd
        simp only at hs
        subst hs
        cases ok
        · rw [HN.out _ _ _ _ ha]
          refine ⟨rfl, ⟨⟨r2, rt', hb', (fun e => by cases e), ?_⟩, ?_, ?_⟩, hI.g⟩
          · exact HSE.out.2
          · exact tok0 hI.ok.used
          · exact eok0
        · rw [HY.out _ _ _ _ ha]
          refine ⟨rfl, ⟨⟨r2, rt', hb', (fun _ => ⟨HSE.out.1, ht' rfl⟩), ?_⟩, hI.ok, HEO.out⟩, hI.g⟩
          exact HSE.out.2
end Go.Proofs.YthokdbcpkmcieaaGreat
