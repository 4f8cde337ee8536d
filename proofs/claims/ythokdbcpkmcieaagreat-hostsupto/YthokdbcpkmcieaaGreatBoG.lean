/- Walks of the program's board: Hear, New. -/
import Derived.Test.YthokdbcpkmcieaaGreatBoF
import Derived.Test.YthokdbcpkmcieaaGreatShelfB
import Derived.Defers
import Derived.Recover
import Derived.Test.YthokdbcpkmcieaaGreatBoC
import Derived.Test.YthokdbcpkmcieaaGreatBoA
namespace Go.Proofs.YthokdbcpkmcieaaGreat
open Go Go.RowKit
set_option maxHeartbeats 2000000 in
set_option maxRecDepth 100000 in
theorem catch_idle (p0 f0 r0 : Nat) (w : World) :
    CallsD Tryz.prog 68 #[.pointer (some ⟨p0, 0, none⟩), .pointer (some ⟨f0, 0, none⟩), .pointer (some ⟨r0, 0, none⟩)] .returning w fun e u' w' => e = .returned (.tuple #[]) ∧ u' = .returning ∧ w' = w := by
  refine callsD_of_wpS Tryz.func68 rfl fun c₀ cs hu => ?_
  simp only [Tryz.ntmps68, List.size_toArray, List.length_cons, List.length_nil, Nat.reduceAdd, Nat.reduceSub, Array.replicate_succ, Array.replicate_zero, List.push_toArray, List.append_toArray, List.nil_append, List.cons_append]
  apply wpS_seq
  apply wpS_region
  simp [wpOpsS, go_sem, recoverD, hu, Exit.thenS]
  refine wpS_of_wp ?_
  go_wp2_with fail
  cases c₀
  simp_all [bodyPostS, results, Tryz.results68]
theorem IsBuilderF_kept {T e : TypeId} {B b : Nat} {bs : List Value} {w w' : World} {row : Option Nat} (h : Lib.IsBuilderF T e B b bs w) (hg : w.grownBy w' row) (hr : ∀ r, row = some r → r < B) : Lib.IsBuilderF T e B b bs w' := by
  have key : ∀ p, Lib.BuilderAtF T e B b p bs w → Lib.BuilderAtF T e B b p bs w' := by
    rintro p ⟨hB, v, hb, hown, hne⟩
    refine ⟨hB, v, ?_, hown.kept hg ?_, hne⟩
    · rw [hg.block b (Array.getElem?_eq_some_iff.1 hb).1 (fun e => by have := hr b e.symm; omega)]; exact hb
    · cases ho : v.ownBlock with
      | none => exact .inl rfl
      | some g => exact .inr (fun e => by have h1 := (hown.lt g ho).1; have h2 := hr g e.symm; omega)
  exact h.elim (fun x => .inl (key _ x)) (fun x => .inr (key _ x))
set_option maxHeartbeats 2000000 in
set_option maxRecDepth 100000 in
theorem catch_fail (bb p0 f0 r0 : Nat) (b : Brd) (out : List UInt8) (w : World) (hb : BrdAt w bb b) (hP : w.heap[p0]? = some (.cells #[.pointer (some ⟨bb, 0, none⟩)] 124)) (hR : w.heap[r0]? = some (.cells #[.string ⟨#[]⟩] 9))
    (hF : Lib.IsBuilderF 127 5 f0 f0 (Lib.byteCells out) w) (h1 : bb < p0) (h2 : p0 < r0) (h3 : r0 < f0) :
    CallsD Tryz.prog 68 #[.pointer (some ⟨p0, 0, none⟩), .pointer (some ⟨f0, 0, none⟩), .pointer (some ⟨r0, 0, none⟩)] (.panicking [{ v := .iface 129 (.agg #[]), recovered := false }]) w fun e u' w' => e = .returned (.tuple #[]) ∧ u' = .panicking [{ v := .iface 129 (.agg #[]), recovered := true }] ∧ BrdAt w' bb ⟨false, pow0, b.mem, ear0, talk0⟩ ∧ w'.cell? ⟨r0, 0, none⟩ = some (.string (txt out)) ∧ w.heap.size ≤ w'.heap.size ∧ w'.os = w.os ∧ w'.tape = w.tape ∧ w'.output = w.output ∧ ∀ k, k < p0 → k ≠ bb → w'.heap[k]? = w.heap[k]? := by
  have cP : w.cell? ⟨p0, 0, none⟩ = some (.pointer (some ⟨bb, 0, none⟩)) := cell_of_row _ _ 0 _ _ (0, 0) hP
  have hlP := (Array.getElem?_eq_some_iff.1 hP).1
  have hlR := (Array.getElem?_eq_some_iff.1 hR).1
  have hta : ∀ W : World, (Instr.typeAssert (.iface 129 (.agg #[])) 20 129 true).run Tryz.prog W = .ok (.tuple #[.agg #[], .bool true]) W := fun W => by kernel_rfl
  refine callsD_of_wpS Tryz.func68 rfl fun c₀ cs hu => ?_
  simp only [Tryz.ntmps68, List.size_toArray, List.length_cons, List.length_nil, Nat.reduceAdd, Nat.reduceSub, Array.replicate_succ, Array.replicate_zero, List.push_toArray, List.append_toArray, List.nil_append, List.cons_append]
  apply wpS_seq
  apply wpS_region
  simp [wpOpsS, go_sem, recoverD, hu, Exit.thenS]
  refine wpS_of_wp ?_
  go_wp2_with fail
  refine (begin_any bb b false _ (hb.below ((Below.refl _ _).alloc (Nat.le_refl _) _))).mono ?_
  rintro e w1 ⟨rfl, hb1, hg1⟩
  have hz1 : w.heap.size + 1 ≤ w1.heap.size := by have := hg1.size; simpa using this
  have hk1 : ∀ k, k < w.heap.size → k ≠ bb → w1.heap[k]? = w.heap[k]? := fun k hk hne => by
    rw [hg1.block k (by simp; omega) (by simp; omega), Below.heap_alloc _ _ _ hk]
  have hF1 := IsBuilderF_kept (hF.alloc (.cells #[] 129)) hg1 (fun r e => by cases e; omega)
  have hlF : f0 < w.heap.size := by
    rcases hF with h | h
    · obtain ⟨_, v, hbk, _⟩ := h; exact (Array.getElem?_eq_some_iff.1 hbk).1
    · obtain ⟨_, v, hbk, _⟩ := h; exact (Array.getElem?_eq_some_iff.1 hbk).1
  go_wp2_with fail
  refine (Tryz.Builder_String_any_k f0 f0 out w1 hF1 (by omega)).mono ?_
  rintro e w2 ⟨rfl, _, hb2, _⟩
  have hR2 : w2.heap[r0]? = some (.cells #[.string ⟨#[]⟩] 9) := by rw [hb2.block r0 h3, hk1 r0 hlR (by omega)]; exact hR
  have cR : w2.cell? ⟨r0, 0, none⟩ = some (.string ⟨#[]⟩) := cell_of_row _ _ 0 _ _ (0, 0) hR2
  have fR := frozen_of_row w2 r0 0 _ _ hR2
  have HQ : Hid (BrdAt (w2.setCell ⟨r0, 0, none⟩ (.string (txt out))) bb ⟨false, pow0, b.mem, ear0, talk0⟩ ∧ (w2.setCell ⟨r0, 0, none⟩ (.string (txt out))).cell? ⟨r0, 0, none⟩ = some (.string (txt out)) ∧ w.heap.size ≤ (w2.setCell ⟨r0, 0, none⟩ (.string (txt out))).heap.size ∧ (w2.setCell ⟨r0, 0, none⟩ (.string (txt out))).os = w.os ∧ (w2.setCell ⟨r0, 0, none⟩ (.string (txt out))).tape = w.tape ∧ (w2.setCell ⟨r0, 0, none⟩ (.string (txt out))).output = w.output ∧ ∀ k, k < p0 → k ≠ bb → (w2.setCell ⟨r0, 0, none⟩ (.string (txt out))).heap[k]? = w.heap[k]?) := by
    have hbo : (w2.setCell ⟨r0, 0, none⟩ (.string (txt out))).heap[bb]? = w1.heap[bb]? := by
      rw [Below.heap_setCell _ _ _ _ (by simp; omega), hb2.block bb (by omega)]
    have hsz2 : w1.heap.size ≤ (w2.setCell ⟨r0, 0, none⟩ (.string (txt out))).heap.size := by have := hb2.size; simpa [World.setCell] using this
    refine ⟨hb1.kept hbo hsz2, World.cell?_setCell_same _ _ _ cR, by omega, ?_, ?_, ?_, fun k hk hne => ?_⟩
    · exact (hb2.os.trans hg1.os)
    · exact (hb2.tape.trans hg1.tape)
    · exact (hb2.output.trans hg1.output)
    · rw [Below.heap_setCell _ _ _ _ (by simp; omega), hb2.block k (by omega), hk1 k (by omega) hne]
  clear hb1 hg1 hk1 hF1 hb2 hR2 hb hF hP hR
  have htx : (⟨out.toArray⟩ : ByteArray) = txt out := rfl
  rw [htx]
  go_wp2
  exact ⟨rfl, _, rfl, _, results_none rfl _ _ _, rfl, rfl, HQ.out⟩
end Go.Proofs.YthokdbcpkmcieaaGreat
namespace Go.Proofs.YthokdbcpkmcieaaGreat
open Go Go.RowKit
theorem res_hear {tmps : Array Value} {r0 : Nat} {v : Value} {w : World} (ht : tmps.getD 4 undef = .pointer (some ⟨r0, 0, none⟩)) (hc : w.cell? ⟨r0, 0, none⟩ = some v) : (results Tryz.f46 tmps).run Tryz.prog w = .ok v w := by
  have ht' : tmps[4]?.getD undef = .pointer (some ⟨r0, 0, none⟩) := by simpa using ht
  simp [results, Tryz.results46, go_sem, ht', hc]
set_option maxRecDepth 100000 in
set_option maxHeartbeats 2000000 in
theorem hear_off (bb : Nat) (b : Brd) (bs : ByteArray) (w : World) (h : BrdAt w bb b) (ho : b.on = false) :
    Calls Tryz.prog 46 #[.pointer (some ⟨bb, 0, none⟩), .string bs] w fun e w' => e = .returned (.string (txt [])) ∧ BrdAt w' bb b ∧ w.grownBy w' (some bb) := by
  have c0 := h.c0
  rw [ho] at c0
  have hlt := h.sto.lt
  have HH := hideIt h
  clear h
  go_enter_defers Tryz.func46, Tryz.ntmps46
  go_wp2
  have hB : Below w.heap.size w ((w.alloc (.cells #[.pointer (some ⟨bb, 0, none⟩)] 124)).alloc (.cells #[.string ⟨#[]⟩] 9)) := ((Below.refl _ _).alloc (Nat.le_refl _) _).alloc (by simp) _
  refine ⟨_, res_hear (r0 := w.heap.size + 1) (v := .string ⟨#[]⟩) rfl ?_, rfl, HH.out.below hB, ⟨hB.os, hB.tape, hB.output, hB.size, fun k hk _ => hB.block k hk⟩⟩
  have := heap_alloc_new (w.alloc (.cells #[.pointer (some ⟨bb, 0, none⟩)] 124)) (.cells #[.string ⟨#[]⟩] 9)
  rw [World.alloc_size] at this
  exact cell_of_row _ _ 0 _ _ (0, 0) this
/-- Messages are no longer than a frame's. -/
theorem hear_msgs : ∀ (l : List UInt8) (p : EarS × List (List UInt8)), EarOk p.1 → (∀ q ∈ p.2, q.length ≤ 80) → ∀ q ∈ (l.foldl hearB p).2, q.length ≤ 80
  | [], p, _, h => h
  | x :: l, p, ho, h => by
    refine hear_msgs l (hearB p x) (hearB_ok ho x) ?_
    unfold hearB
    split
    · simp only
      split
      · intro q hq
        rcases List.mem_append.1 hq with h1 | h1
        · exact h q h1
        · have h2 : q = p.1.ks.take (p.1.ks.length - 2) := by simpa using h1
          rw [h2, List.length_take]
          have := ho.len
          omega
      · exact h
    · exact h
theorem hearF_msgs {s : EarS} (h : EarOk s) (l : List UInt8) : ∀ q ∈ (hearF s l).2, q.length ≤ 80 := hear_msgs l (s, []) h (fun q hq => by simp at hq)
/-- Between two messages. -/
structure HInv (w wr : World) (bb : Nat) (p : Pow) (m : List UInt8) (t : Talk) (o : List UInt8) (e : EarS) (v : Value) (qs : List (List UInt8)) : Prop where
  c0 : wr.cell? ⟨bb, 0, none⟩ = some (.bool true)
  sto : StoAt wr bb p m
  ear : EarO wr bb 1268 e
  talk : TalkAt wr bb t
  ok : TOk m t
  bP : wr.heap[w.heap.size]? = some (.cells #[.pointer (some ⟨bb, 0, none⟩)] 124)
  bR : wr.heap[w.heap.size + 1]? = some (.cells #[.string ⟨#[]⟩] 9)
  bF : Lib.IsBuilderF 127 5 (w.heap.size + 1 + 1) (w.heap.size + 1 + 1) (Lib.byteCells o) wr
  row : wr.ownsRow (w.heap.size + 3) 9 1 v qs.length (strs qs)
  gr : w.grownBy wr (some bb)
theorem HInv.brd {w wr : World} {bb : Nat} {p : Pow} {m : List UInt8} {t : Talk} {o : List UInt8} {e : EarS} {v : Value} {qs : List (List UInt8)} (h : HInv w wr bb p m t o e v qs) : BrdAt wr bb ⟨true, p, m, e, t⟩ := ⟨h.c0, h.sto, h.ear, h.talk, h.ok.used, h.ok.ses, h.ok.al⟩
theorem HInv.bFlt {w wr : World} {bb : Nat} {p : Pow} {m : List UInt8} {t : Talk} {o : List UInt8} {e : EarS} {v : Value} {qs : List (List UInt8)} (h : HInv w wr bb p m t o e v qs) : w.heap.size + 1 + 1 < wr.heap.size := by
  rcases h.bF with h | h
  · obtain ⟨_, v, hbk, _⟩ := h; exact (Array.getElem?_eq_some_iff.1 hbk).1
  · obtain ⟨_, v, hbk, _⟩ := h; exact (Array.getElem?_eq_some_iff.1 hbk).1
/-- An answer has been made (or the power has failed). -/
theorem HInv.answered {w wr w2 : World} {bb : Nat} {p p2 : Pow} {m m2 : List UInt8} {t t2 : Talk} {o : List UInt8} {e : EarS} {v : Value} {qs : List (List UInt8)} (h : HInv w wr bb p m t o e v qs) (hbb : bb < w.heap.size) (hs : StoAt w2 bb p2 m2) (ht : TalkAt w2 bb t2) (hk : KeptE wr w2 bb) (hok : TOk m2 t2) : HInv w w2 bb p2 m2 t2 o e v qs := by
  have hl := h.bFlt
  refine ⟨(hk.cells 0 (.inl rfl)).trans h.c0, hs, h.ear.same (fun j h1 h2 => hk.cells j (.inr ⟨h1, by omega⟩)) hk.fz hk.grown.size, ht, hok, ?_, ?_, IsBuilderF_kept h.bF hk.grown (fun r e => by cases e; omega), ?_, h.gr.trans hk.grown⟩
  · rw [hk.grown.block _ (by omega) (by simp; omega)]; exact h.bP
  · rw [hk.grown.block _ (by omega) (by simp; omega)]; exact h.bR
  · exact own_atE h.row (fun j hj => hk.grown.block j (h.row.lt j hj).2 (by have := (h.row.lt j hj).1; simp; omega))
/-- .. and written. -/
theorem HInv.written {w w2 w3 : World} {bb : Nat} {p : Pow} {m : List UInt8} {t : Talk} {o x : List UInt8} {e : EarS} {v : Value} {qs : List (List UInt8)} (h : HInv w w2 bb p m t o e v qs) (hbb : bb < w.heap.size)
    (hF : Lib.IsBuilderF 127 5 (w.heap.size + 1 + 1) (w.heap.size + 1 + 1) (Lib.byteCells (o ++ x)) w3) (hb : Below (w.heap.size + 1 + 1) w2 w3) (hk : Lib.OthersKept 5 (some (w.heap.size + 1 + 1)) w2 w3) : HInv w w3 bb p m t (o ++ x) e v qs := by
  have hl := h.bFlt
  have hbo := hb.block bb (by omega)
  refine ⟨(World.cell?_of_block (a := ⟨bb, 0, none⟩) hbo).trans h.c0, h.sto.kept hbo hb.size, h.ear.kept hbo hb.size, h.talk.kept hbo, h.ok, (hb.block _ (by omega)).trans h.bP, (hb.block _ (by omega)).trans h.bR, hF, ?_, ?_⟩
  · refine own_atE h.row (fun j hj => ?_)
    obtain ⟨_, ⟨hv, _⟩ | ⟨g, cap, cur, hv, hg, h3, h4⟩⟩ := h.row
    · rw [hv] at hj; simp [Value.ownBlock] at hj
    · rw [hv] at hj
      have : g = j := by simpa [Value.ownBlock] using hj
      subst this
      rw [h3]
      exact hk g _ h3 (by simp; omega) (fun c fz he => by cases he)
  · have hg := h.gr
    refine ⟨hb.os.trans hg.os, hb.tape.trans hg.tape, hb.output.trans hg.output, Nat.le_trans hg.size hb.size, fun k hk' hne => ?_⟩
    rw [hb.block k (by omega), hg.block k hk' hne]
end Go.Proofs.YthokdbcpkmcieaaGreat
namespace Go.Proofs.YthokdbcpkmcieaaGreat
open Go Go.RowKit
theorem bhear_yes {b : Brd} {l : List UInt8} {p : Pow} {m : List UInt8} {t : Talk} {o : List UInt8} (ho : b.on = true) (h : answersF b.pow b.mem b.talk (hearF b.ear l).2 [] = (p, m, t, o, true)) : bhearF b l = (⟨true, p, m, (hearF b.ear l).1, t⟩, o) := by
  unfold bhearF
  rw [if_neg (by rw [ho]; simp)]
  simp only [h, if_true]
theorem bhear_no {b : Brd} {l : List UInt8} {p : Pow} {m : List UInt8} {t : Talk} {o : List UInt8} (ho : b.on = true) (h : answersF b.pow b.mem b.talk (hearF b.ear l).2 [] = (p, m, t, o, false)) : bhearF b l = (⟨false, pow0, m, ear0, talk0⟩, o) := by
  unfold bhearF
  rw [if_neg (by rw [ho]; simp)]
  simp only [h]
  simp
set_option maxRecDepth 100000 in
set_option maxHeartbeats 4000000 in
theorem hear_on (bb : Nat) (b : Brd) (bs : ByteArray) (w : World) (h : BrdAt w bb b) (ho : b.on = true) (hbs : bs.size ≤ 4000000) :
    Calls Tryz.prog 46 #[.pointer (some ⟨bb, 0, none⟩), .string bs] w fun e w' => e = .returned (.string (txt (bhearF b bs.data.toList).2)) ∧ BrdAt w' bb (bhearF b bs.data.toList).1 ∧ w.grownBy w' (some bb) := by
  have hmf : ∀ (fn : Fn) (first cap : Array Value) (w : World), (Instr.makeFunc fn first cap).run Tryz.prog w = .ok (.func fn first cap) w := fun _ _ _ _ => rfl
  have c0 := h.c0
  rw [ho] at c0
  have hlt := h.sto.lt
  have hlen : bs.data.toList.length = bs.size := by rw [Array.length_toList]; rfl
  have hcnt := hearF_count b.ear bs.data.toList
  have hmsg := hearF_msgs h.ear.ok bs.data.toList
  have HE := hideIt (fun w' (h' : EarO w' bb 1268 b.ear) => hear_o bb 1268 b.ear bs w' h' (Nat.le_trans hbs (by decide)))
  have HY := hideIt (fun p m t o => bhear_yes (b := b) (l := bs.data.toList) (p := p) (m := m) (t := t) (o := o) ho)
  have HN := hideIt (fun p m t o => bhear_no (b := b) (l := bs.data.toList) (p := p) (m := m) (t := t) (o := o) ho)
  obtain ⟨R, hR⟩ : ∃ R, bhearF b bs.data.toList = R := ⟨_, rfl⟩
  rw [hR] at HY HN ⊢
  obtain ⟨X, he⟩ : ∃ X, hearF b.ear bs.data.toList = X := ⟨_, rfl⟩
  rw [he] at HE HY HN hcnt hmsg
  obtain ⟨ea, qs⟩ := X
  simp only at HE HY HN hcnt hmsg
  have HH := hideIt h
  clear h hR he
  go_enter_defers Tryz.func46, Tryz.ntmps46
  go_wp2_with fail
  obtain ⟨W3, hW3⟩ : ∃ W3, ((w.alloc (.cells #[.pointer (some ⟨bb, 0, none⟩)] 124)).alloc (.cells #[.string ⟨#[]⟩] 9)).alloc (.cells #[.pointer none, .slice none 0 0] 127) = W3 := ⟨_, rfl⟩
  have hz3 : W3.heap.size = w.heap.size + 3 := by rw [← hW3]; simp
  have hB3 : Below w.heap.size w W3 := by rw [← hW3]; exact (((Below.refl _ _).alloc (Nat.le_refl _) _).alloc (by simp) _).alloc (by simp; omega) _
  have hP3 : W3.heap[w.heap.size]? = some (.cells #[.pointer (some ⟨bb, 0, none⟩)] 124) := by
    rw [← hW3, Below.heap_alloc _ _ _ (by simp; omega), Below.heap_alloc _ _ _ (by simp)]; exact heap_alloc_new _ _
  have hR3 : W3.heap[w.heap.size + 1]? = some (.cells #[.string ⟨#[]⟩] 9) := by
    rw [← hW3, Below.heap_alloc _ _ _ (by simp)]
    have := heap_alloc_new (w.alloc (.cells #[.pointer (some ⟨bb, 0, none⟩)] 124)) (.cells #[.string ⟨#[]⟩] 9)
    rwa [World.alloc_size] at this
  have hF3 : Lib.IsBuilderF 127 5 (w.heap.size + 1 + 1) (w.heap.size + 1 + 1) (Lib.byteCells []) W3 := by
    have := Lib.IsBuilderF.of (Lib.fresh_isBuilder 127 5 ((w.alloc (.cells #[.pointer (some ⟨bb, 0, none⟩)] 124)).alloc (.cells #[.string ⟨#[]⟩] 9)))
    rw [World.alloc_size, World.alloc_size, hW3] at this
    exact this
  have hb3 : BrdAt W3 bb b := HH.out.below hB3
  rw [hW3]
  refine (HE.out W3 hb3.ear).mono ?_
  rintro e w1 ⟨v, rfl, hE1, hV1, hG1⟩
  rw [hz3] at hV1
  have hI : HInv w w1 bb b.pow b.mem b.talk [] ea v qs := by
    have hbo : ∀ k, k < W3.heap.size → k ≠ bb → w1.heap[k]? = W3.heap[k]? := fun k hk hne => hG1.grown.block k hk (by simp; omega)
    refine ⟨?_, hb3.sto.same (fun j h1 h2 => hG1.cells j (by omega)) hG1.fz hG1.grown.size, hE1, hb3.talk.same (fun j h1 h2 => hG1.cells j (by omega)) hG1.fz, ⟨hb3.used, hb3.ses, hb3.al⟩, (hbo _ (by omega) (by omega)).trans hP3, (hbo _ (by omega) (by omega)).trans hR3, IsBuilderF_kept hF3 hG1.grown (fun r e => by cases e; omega), hV1, ?_⟩
    · rw [hG1.cells 0 (by omega), hb3.c0, ho]
    · exact World.grownBy.trans ⟨hB3.os, hB3.tape, hB3.output, hB3.size, fun k hk _ => hB3.block k hk⟩ hG1.grown
  obtain ⟨va, vm, vc, rfl⟩ := slice_ofR hV1
  have hvm : vm = qs.length := by
    obtain ⟨_, ⟨hv, h0⟩ | ⟨g, cap, cur, hv, _⟩⟩ := hV1
    · cases hv; exact h0.symm
    · cases hv; rfl
  subst hvm
  have HI := hideIt hI
  clear hI hE1 hV1 hG1 hb3 hF3 hR3 hP3 hB3 hz3 hW3 HE HH c0
  go_wp2_with fail
  go_loopw [21] (fun i wr => ∃ j : Nat, j ≤ qs.length ∧ i = .int .i64 j ∧ ∃ p' m' t' o', answersF b.pow b.mem b.talk (qs.take j) [] = (p', m', t', o', true) ∧ o'.length ≤ 200 * j ∧ HInv w wr bb p' m' t' o' ea (.slice va qs.length vc) qs) (fun i _ => qs.length - (intOf i).toNat)
  case atStart => exact ⟨0, Nat.zero_le _, rfl, _, _, _, _, rfl, by simp, HI.out⟩
  case round =>
    obtain ⟨j, hj, rfl, p', m', t', o', hA, hol, hI⟩ := hrel
    clear HI
    by_cases hlt2 : j < qs.length
    · obtain ⟨g, cap, hv, hg1, hg2⟩ := own_some hI.row (by omega)
      cases hv
      have cq : wr.cell? ⟨g, j, none⟩ = some (.string (txt (qs.getD j []))) := by
        have h1 : (strs qs)[j]? = some (.string (txt (qs.getD j []))) := by
          unfold strs
          rw [List.getElem?_map, List.getElem?_eq_getElem hlt2, List.getD_eq_getElem?_getD, List.getElem?_eq_getElem hlt2]
          rfl
        have := hI.row.cells (g := g) rfl j _ h1
        rwa [Addr.add_lit, Nat.zero_add] at this
      have hql : (qs.getD j []).length ≤ 80 := by
        rw [List.getD_eq_getElem?_getD, List.getElem?_eq_getElem hlt2]
        exact hmsg _ (List.getElem_mem _)
      obtain ⟨hm1, hm2⟩ := answers_more hlt2 hA
      obtain ⟨q, hq⟩ : ∃ q, qs.getD j [] = q := ⟨_, rfl⟩
      rw [hq] at cq hql hm1 hm2
      have htq : (txt q).data.toList = q := by simp [txt]
      obtain ⟨ku, hku⟩ := hI.ok.used
      have HA := hideIt (answer_any bb p' m' t' (txt q) ku wr hI.sto hku hI.talk hI.ok.ses (by rw [txtB_size]; omega))
      rw [htq] at HA
      have hkk := answerF_ok (p := p') (q := q) hI.ok
      obtain ⟨r, hr⟩ : ∃ r, answerF p' m' t' q = r := ⟨_, rfl⟩
      unfold stepA at hm1 hm2
      rw [hr] at HA hm1 hm2 hkk
      obtain ⟨p2, m2, t2, o2, ok⟩ := r
      simp only at hm1 hm2 hkk
      have hji : (j : Int) < (qs.length : Int) := by omega
      have cP : wr.cell? ⟨w.heap.size, 0, none⟩ = some (.pointer (some ⟨bb, 0, none⟩)) := cell_of_row _ _ 0 _ _ (0, 0) hI.bP
      have HII := hideIt (And.intro hI (And.intro hm1 (And.intro hm2 hkk)))
      clear hI hA hm1 hm2 hkk hr hku htq hq
      go_wp2_with fail
      refine HA.out.mono ?_
      rintro e w2 ⟨hend, hs2, ht2, hk2⟩
      have HI2 := hideIt (HII.out.1.answered hlt hs2 ht2 hk2 HII.out.2.2.2.1)
      clear hs2 ht2 hk2
      cases ok with
      | false =>
        obtain rfl := endT_no hend
        go_wp2_with fail
        refine leaves_cons (f := 68) (args := #[.pointer (some ⟨w.heap.size, 0, none⟩), .pointer (some ⟨w.heap.size + 1 + 1, 0, none⟩), .pointer (some ⟨w.heap.size + 1, 0, none⟩)]) (by simp) (by simp [go_sem]) ?_
        refine (catch_fail bb w.heap.size (w.heap.size + 1 + 1) (w.heap.size + 1) _ o' w2 HI2.out.brd HI2.out.bP HI2.out.bR HI2.out.bF (by omega) (by omega) (by omega)).mono ?_
        rintro e u' w4 ⟨rfl, rfl, h1, h2, h3, h4, h5, h6, h7⟩
        have hfin := HN.out p2 m2 t2 o' (HII.out.2.2.1 (by first | rfl | trivial))
        refine ⟨_, res_hear (r0 := w.heap.size + 1) rfl h2, by rw [hfin], by rw [hfin]; exact h1, ?_⟩
        have hg := HI2.out.gr
        refine ⟨h4.trans hg.os, h5.trans hg.tape, h6.trans hg.output, Nat.le_trans hg.size h3, fun k hk hne => ?_⟩
        rw [h7 k hk (fun e => hne (by rw [e])), hg.block k hk hne]
      | true =>
        obtain rfl := endT_yes hend
        have hsz := HI2.out.bFlt
        go_wp2_with fail
        refine (writeString_any (w.heap.size + 1 + 1) (w.heap.size + 1 + 1) (Lib.byteCells o') (txt o2) w2 HI2.out.bF (by rw [Lib.byteCells_length, txtB_size]; have := HII.out.2.2.2.2; omega) (by omega)).mono ?_
        rintro e w3 ⟨rfl, hF3, hb3, hk3⟩
        have HI3 := hideIt (HI2.out.written (x := o2) hlt (by rw [Lib.byteCells_append]; exact .inr hF3) hb3 hk3)
        clear hF3 hb3 hk3
        go_wp2
        go_roundw
        case rel =>
          refine ⟨j + 1, by omega, by go_num, p2, m2, t2, o' ++ o2, ?_, ?_, HI3.out⟩
          · have := HII.out.2.1
            simpa using this
          · rw [List.length_append]
            have := HII.out.2.2.2.2
            omega
        case measure => simp [intOf]; omega
    · have hjl : j = qs.length := by omega
      rw [hjl, List.take_length] at hA
      have hfin := HY.out p' m' t' o' hA
      have hsz := hI.bFlt
      have hjn : ¬ (j : Int) < (qs.length : Int) := by omega
      have HII := hideIt hI
      clear hI hA
      go_wp2_with fail
      refine (Tryz.Builder_String_any_k (w.heap.size + 1 + 1) (w.heap.size + 1 + 1) o' wr HII.out.bF (by omega)).mono ?_
      rintro e w4 ⟨rfl, _, hb4, _⟩
      have hR4 : w4.heap[w.heap.size + 1]? = some (.cells #[.string ⟨#[]⟩] 9) := (hb4.block _ (by omega)).trans HII.out.bR
      have cR : w4.cell? ⟨w.heap.size + 1, 0, none⟩ = some (.string ⟨#[]⟩) := cell_of_row _ _ 0 _ _ (0, 0) hR4
      have fR := frozen_of_row w4 (w.heap.size + 1) 0 _ _ hR4
      have htx : (⟨o'.toArray⟩ : ByteArray) = txt o' := rfl
      rw [htx]
      have HB4 := hideIt hb4
      clear hb4 hR4
      go_wp2_with fail
      refine leaves_cons (f := 68) (args := #[.pointer (some ⟨w.heap.size, 0, none⟩), .pointer (some ⟨w.heap.size + 1 + 1, 0, none⟩), .pointer (some ⟨w.heap.size + 1, 0, none⟩)]) (by simp) (by simp [go_sem]) ?_
      refine (catch_idle w.heap.size (w.heap.size + 1 + 1) (w.heap.size + 1) _).mono ?_
      rintro e u' w5 ⟨rfl, rfl, rfl⟩
      refine ⟨_, res_hear (r0 := w.heap.size + 1) rfl (World.cell?_setCell_same _ _ _ cR), by rw [hfin], ?_, ?_⟩
      · rw [hfin]
        exact HII.out.brd.kept (by rw [Below.heap_setCell _ _ _ _ (by simp; omega), HB4.out.block bb (by omega)]) (by have := HB4.out.size; simpa [World.setCell] using this)
      · have hg := HII.out.gr
        have hb := HB4.out
        refine ⟨hb.os.trans hg.os, hb.tape.trans hg.tape, hb.output.trans hg.output, by have h1 := hb.size; have h2 := hg.size; simp [World.setCell]; omega, fun k hk hne => ?_⟩
        rw [Below.heap_setCell _ _ _ _ (by simp; omega), hb.block k (by omega), hg.block k hk hne]
end Go.Proofs.YthokdbcpkmcieaaGreat
namespace Go.Proofs.YthokdbcpkmcieaaGreat
open Go Go.RowKit
theorem Tryz.infoStore : (Tryz.prog.info? 64).map (·.size) = some 1264 := by kernel_rfl
theorem BytesAt.set {w : World} {g off : Nat} {l : List UInt8} (h : BytesAt w g off l) (i : Nat) (x : UInt8) (hi : i < l.length) : BytesAt (w.setCell ⟨g, off + i, none⟩ (.int .u8 (x.toNat : Int))) g off (l.set i x) := by
  intro k hk
  simp only [List.length_set] at hk
  by_cases e : k = i
  · subst e
    rw [World.cell?_setCell_same _ _ _ (h k hk)]
    simp [List.getD_eq_getElem?_getD, hk]
  · rw [World.cell?_setCell_other _ _ _ _ (by simp <;> omega), h k hk]
    simp only [List.getD_eq_getElem?_getD]
    rw [List.getElem?_set_ne (fun e' => e e'.symm)]
theorem getD_set (l : List UInt8) (i k : Nat) (x : UInt8) (hi : i < l.length) : (l.set i x).getD k 0 = if k = i then x else l.getD k 0 := by
  simp only [List.getD_eq_getElem?_getD, List.getElem?_set]
  by_cases h : i = k
  · subst h; simp [hi]
  · rw [if_neg h, if_neg (fun e => h e.symm)]
/-- The local store while it is laid. -/
structure NewS (w wr : World) (mem : List UInt8) : Prop where
  len : mem.length = 1264
  at_ : BytesAt wr (w.heap.size + 1) 0 mem
  fz : ∀ j, wr.frozen? ⟨w.heap.size + 1, j, none⟩ = false
  out : ∀ j, j < 1264 → (wr.cell? ⟨w.heap.size, 0 + j, none⟩).isSome = true ∧ wr.frozen? ⟨w.heap.size, 0 + j, none⟩ = false
  below : Below w.heap.size w wr
  sz : w.heap.size + 2 ≤ wr.heap.size
theorem NewS.alloc {w wr : World} {mem : List UInt8} (h : NewS w wr mem) (o : Obj) : NewS w (wr.alloc o) mem := by
  have hz := h.sz
  have e1 : (wr.alloc o).heap[w.heap.size + 1]? = wr.heap[w.heap.size + 1]? := Below.heap_alloc _ _ _ (by omega)
  have e0 : (wr.alloc o).heap[w.heap.size]? = wr.heap[w.heap.size]? := Below.heap_alloc _ _ _ (by omega)
  exact ⟨h.len, h.at_.kept e1, fun j => (World.frozen?_of_block (a := ⟨w.heap.size + 1, j, none⟩) e1).trans (h.fz j), fun j hj => by rw [World.cell?_of_block (a := ⟨w.heap.size, 0 + j, none⟩) e0, World.frozen?_of_block (a := ⟨w.heap.size, 0 + j, none⟩) e0]; exact h.out j hj, h.below.alloc (by omega) _, by simp; omega⟩
theorem NewS.set {w wr : World} {mem : List UInt8} (h : NewS w wr mem) (i : Nat) (hi : i < 1264) : NewS w (wr.setCell ⟨w.heap.size + 1, i, none⟩ (.int .u8 255)) (mem.set i 255) := by
  have hl := h.len
  have := h.at_.set i 255 (by omega)
  rw [Nat.zero_add] at this
  refine ⟨by simp [hl], this, fun j => by simp [h.fz j], fun j hj => ?_, h.below.setCell (p := ⟨w.heap.size + 1, i, none⟩) (by simp) _, by have := h.sz; simpa [World.setCell] using this⟩
  rw [World.cell?_setCell_other _ _ _ _ (by simp)]
  simp only [World.frozen?_setCell]
  exact h.out j hj
theorem NewS.cell {w wr : World} {mem : List UInt8} (h : NewS w wr mem) (i : Nat) (hi : i < 1264) : ∃ v, wr.cell? ⟨w.heap.size + 1, i, none⟩ = some v := by
  have := h.at_ i (by rw [h.len]; exact hi)
  rw [Nat.zero_add] at this
  exact ⟨_, this⟩
theorem zeroStore (w : World) : NewS w ((w.alloc (.cells Tryz.zeroCells64 64)).alloc (.cells Tryz.zeroCells64 64)) (List.replicate 1264 0) := by
  have hz : Tryz.zeroCells64 = Array.replicate 1264 (.int .u8 0) := by kernel_rfl
  rw [hz]
  have h1 := heap_alloc_new (w.alloc (.cells (Array.replicate 1264 (.int .u8 0)) 64)) (.cells (Array.replicate 1264 (.int .u8 0)) 64)
  rw [World.alloc_size] at h1
  have h0 := heap_alloc2_old w (.cells (Array.replicate 1264 (.int .u8 0)) 64) (.cells (Array.replicate 1264 (.int .u8 0)) 64)
  refine ⟨List.length_replicate, fun i hi => ?_, fun j => frozen_of_row _ _ j _ _ h1, fun j hj => ⟨?_, frozen_of_row _ _ _ _ _ h0⟩, ((Below.refl _ _).alloc (Nat.le_refl _) _).alloc (by simp) _, by simp⟩
  · rw [List.length_replicate] at hi
    rw [cell_of_row _ _ _ _ _ (0, 0) h1, Nat.zero_add, List.getD_eq_getElem?_getD, List.getElem?_replicate, if_pos hi, Array.getElem?_replicate, if_pos hi]
    rfl
  · rw [cell_of_row _ _ _ _ _ (0, 0) h0, Nat.zero_add, Array.getElem?_replicate, if_pos hj]
    rfl
theorem results_cell_mid {P : Program} {fn : Func} {p : Tmp} {ty : TypeId} (h : fn.results = #[.cell p ty]) (tmps : Array Value) (w : World) (g : Nat) (cs : List Value) (d : TypeDesc)
    (hp : tmps.getD p undef = .pointer (some ⟨g, 0, none⟩)) (hc : w.rangeAt g 0 cs) (hu : P.underlying ty = some d) (hd : d.isRow = true) (hi : (P.info? ty).map (·.size) = some cs.length) : (results fn tmps).run P w = .ok (.agg cs.toArray) w := by
  have hp' : tmps[p]?.getD undef = .pointer (some ⟨g, 0, none⟩) := by simpa using hp
  simp [results, h, hp', asAddr, run_loadVar_mid w g 0 ty cs d hc hu hd hi]
set_option maxRecDepth 100000 in
set_option maxHeartbeats 4000000 in
theorem newStore_any (w : World) : Calls Tryz.prog 42 #[] w fun e w' => e = .returned (.agg (byteVs mem0).toArray) ∧ Below w.heap.size w w' := by
  have HZ := hideIt (zeroStore w)
  go_enter Tryz.func42, Tryz.ntmps42
  go_wp2_with fail
  go_loopw [5] (fun i wr => ∃ j : Nat, j ≤ 60 ∧ i = .int .i64 j ∧ ∃ mem, NewS w wr mem ∧ ∀ k, 1024 ≤ k → k < 1024 + 4 * j → mem.getD k 0 = 255) (fun i _ => 60 - (intOf i).toNat)
  case atStart => exact ⟨0, by omega, rfl, _, HZ.out, fun k h1 h2 => by omega⟩
  case round =>
    obtain ⟨j, hj, rfl, mem, hN, hv⟩ := hrel
    clear HZ
    by_cases hlt : j < 60
    · have hji : (j : Int) < 60 := by omega
      have HN := hideIt (And.intro hN hv)
      clear hN hv
      go_wp2_with fail
      refine (blank_any _).mono ?_
      rintro e w1 ⟨rfl, hw1⟩
      have HN1 := hideIt (HN.out.1.alloc (.cells #[.int .u8 255, .int .u8 255, .int .u8 255, .int .u8 255] 61))
      rw [← hw1] at HN1
      clear hw1
      obtain ⟨v0, d0⟩ := HN1.out.cell (1024 + j * 4) (by omega)
      obtain ⟨v1, d1⟩ := HN1.out.cell (1024 + j * 4 + 1) (by omega)
      obtain ⟨v2, d2⟩ := HN1.out.cell (1024 + j * 4 + 2) (by omega)
      obtain ⟨v3, d3⟩ := HN1.out.cell (1024 + j * 4 + 3) (by omega)
      have f0 := HN1.out.fz (1024 + j * 4)
      have f1 := HN1.out.fz (1024 + j * 4 + 1)
      have f2 := HN1.out.fz (1024 + j * 4 + 2)
      have f3 := HN1.out.fz (1024 + j * 4 + 3)
      go_wp2
      go_roundw
      case rel =>
        have hl := HN1.out.len
        refine ⟨j + 1, by omega, by go_num, _, (((HN1.out.set (1024 + j * 4) (by omega)).set (1024 + j * 4 + 1) (by omega)).set (1024 + j * 4 + 2) (by omega)).set (1024 + j * 4 + 3) (by omega), fun k h1 h2 => ?_⟩
        rw [getD_set _ _ _ _ (by simp; omega), getD_set _ _ _ _ (by simp; omega), getD_set _ _ _ _ (by simp; omega), getD_set _ _ _ _ (by omega)]
        by_cases hk : k < 1024 + 4 * j
        · rw [if_neg (by omega), if_neg (by omega), if_neg (by omega), if_neg (by omega)]
          exact HN.out.2 k h1 hk
        · have : k = 1024 + j * 4 ∨ k = 1024 + j * 4 + 1 ∨ k = 1024 + j * 4 + 2 ∨ k = 1024 + j * 4 + 3 := by omega
          rcases this with rfl | rfl | rfl | rfl <;> simp
      case measure => simp [intOf]; omega
    · have hjn : ¬ (j : Int) < 60 := by omega
      have HN := hideIt (show NewS w wr mem ∧ ∀ k, 1024 ≤ k → k < 1264 → mem.getD k 0 = 255 from ⟨hN, fun k h1 h2 => hv k h1 (by omega)⟩)
      clear hN hv
      go_wp2_with fail
      go_loopw [13] (fun i wr => ∃ j : Nat, j ≤ 16 ∧ i = .int .i64 j ∧ ∃ mem, NewS w wr mem ∧ (∀ k, 1024 ≤ k → k < 1264 → mem.getD k 0 = 255) ∧ ∀ k, k < 64 * j → mem.getD k 0 = 255) (fun i _ => 16 - (intOf i).toNat)
      case atStart => exact ⟨0, by omega, rfl, _, HN.out.1, HN.out.2, fun k h => by omega⟩
      case round =>
        rename_i hrel
        obtain ⟨i, hi, rfl, mem2, hN2, hv2, hv3⟩ := hrel
        clear HN
        by_cases hlt2 : i < 16
        · have hii : (i : Int) < 16 := by omega
          have HN := hideIt (And.intro hN2 (And.intro hv2 hv3))
          clear hN2 hv2 hv3
          go_wp2_with fail
          go_loopw [16] (fun x wr => ∃ j : Nat, j ≤ 64 ∧ x = .int .i64 j ∧ ∃ mem, NewS w wr mem ∧ (∀ k, 1024 ≤ k → k < 1264 → mem.getD k 0 = 255) ∧ ∀ k, k < 64 * i + j → mem.getD k 0 = 255) (fun i _ => 64 - (intOf i).toNat)
          case atStart => exact ⟨0, by omega, rfl, _, HN.out.1, HN.out.2.1, fun k h => HN.out.2.2 k (by omega)⟩
          case round =>
            rename_i hrel
            obtain ⟨z, hz, rfl, mem3, hN3, hv4, hv5⟩ := hrel
            clear HN
            by_cases hlt3 : z < 64
            · have hzi : (z : Int) < 64 := by omega
              obtain ⟨v0, d0⟩ := hN3.cell (i * 64 + z) (by omega)
              have f0 := hN3.fz (i * 64 + z)
              have HN := hideIt (And.intro hN3 (And.intro hv4 hv5))
              clear hN3 hv4 hv5
              go_wp2
              go_roundw
              case rel =>
                have hl := HN.out.1.len
                refine ⟨z + 1, by omega, by go_num, _, HN.out.1.set (i * 64 + z) (by omega), fun k h1 h2 => ?_, fun k h => ?_⟩
                · rw [getD_set _ _ _ _ (by omega), if_neg (by omega)]
                  exact HN.out.2.1 k h1 h2
                · rw [getD_set _ _ _ _ (by omega)]
                  by_cases hk : k = i * 64 + z
                  · rw [if_pos hk]
                  · rw [if_neg hk]; exact HN.out.2.2 k (by omega)
              case measure => simp [intOf]; omega
            · have hzn : ¬ (z : Int) < 64 := by omega
              have HN := hideIt (And.intro hN3 (And.intro hv4 (show ∀ k, k < 64 * (i + 1) → mem3.getD k 0 = 255 from fun k h => hv5 k (by omega))))
              clear hN3 hv4 hv5
              go_wp2
              go_roundw
              case rel => exact ⟨i + 1, by omega, by go_num, _, HN.out⟩
              case measure => simp [intOf]; omega
        · have hin : ¬ (i : Int) < 16 := by omega
          have hall : mem2 = mem0 := by
            have hl := hN2.len
            apply List.ext_getElem?
            intro k
            by_cases hk : k < 1264
            · have h255 : mem2.getD k 0 = 255 := by
                by_cases h1 : k < 1024
                · exact hv3 k (by omega)
                · exact hv2 k (by omega) hk
              rw [List.getD_eq_getElem?_getD, List.getElem?_eq_getElem (by omega)] at h255
              rw [List.getElem?_eq_getElem (by omega)]
              unfold mem0
              rw [List.getElem?_replicate, if_pos hk]
              congr 1
            · rw [List.getElem?_eq_none (by omega), List.getElem?_eq_none (by unfold mem0; rw [List.length_replicate]; omega)]
          subst hall
          have hlm : (byteVs mem0).length = 1264 := by rw [byteVs_len]; exact hN2.len
          have hrg := hN2.at_.range
          have hth : wr.there w.heap.size 0 1264 := hN2.out
          have HB := hideIt hN2.below
          have h1c := byteVs_one mem0
          have HTH := hideIt hth
          have HRG := hideIt hrg
          clear hN2 hv2 hv3 hth hrg
          have hst : (storeCells ⟨w.heap.size, 0, none⟩ (byteVs mem0)).run Tryz.prog wr = .ok () (wr.setCells w.heap.size 0 (byteVs mem0)) := run_storeCells_cells (P := Tryz.prog) w.heap.size 0 (byteVs mem0) 0 wr (fun j hj => by have := (HTH.out j (by omega)).1; simpa using this) (fun j hj => by have := (HTH.out j (by omega)).2; simpa using this) h1c
          go_wp2_with (refine wpList_load_mid rfl 64 (.tmp 1) rfl (w.heap.size + 1) 0 rfl (byteVs mem0) _ HRG.out Tryz.underlying64 rfl (by rw [hlm]; exact Tryz.infoStore) ?_)
          have hra : (wr.setCells w.heap.size 0 (byteVs mem0)).rangeAt w.heap.size 0 (byteVs mem0) := World.rangeAt_setCells_same wr w.heap.size 0 (byteVs mem0) (by rw [hlm]; exact HTH.out)
          refine bodyPost_ret (results_cell_mid rfl _ _ w.heap.size (byteVs mem0) _ rfl hra Tryz.underlying64 rfl (by rw [hlm]; exact Tryz.infoStore)) rfl ?_
          refine ⟨rfl, ?_⟩
          have hset : ∀ (vs : List Value) (o : Nat) (X : World), Below w.heap.size w X → Below w.heap.size w (X.setCells w.heap.size o vs) := by
            intro vs
            induction vs with
            | nil => intro o X h; exact h
            | cons v vs ih => intro o X h; exact ih (o + 1) _ (h.setCell (p := ⟨w.heap.size, o, none⟩) (Nat.le_refl _) _)
          exact hset _ _ _ HB.out
end Go.Proofs.YthokdbcpkmcieaaGreat
namespace Go.Proofs.YthokdbcpkmcieaaGreat
open Go Go.RowKit
def talkL : List Value := [.int .i64 0] ++ (List.replicate 82 (.int .u8 0) ++ [.int .i64 0, .bool false, .int .u16 0, .int .u8 0, .string ⟨#[]⟩])
def brdL : List Value := [.bool true, .bool false, .int .i64 0, .int .u8 0] ++ (byteVs mem0 ++ talkL)
theorem Tryz.infoBoard : (Tryz.prog.info? 73).map (·.size) = some 1356 := by kernel_rfl
theorem Tryz.infoBoard2 : (Tryz.prog.info? 76).map (·.size) = some 1356 := by kernel_rfl
theorem mem0_len : mem0.length = 1264 := List.length_replicate
theorem talkL_len : talkL.length = 88 := by decide
theorem brdL_len : brdL.length = 1356 := by
  unfold brdL
  rw [List.length_append, List.length_append, byteVs_len, mem0_len, talkL_len]
  rfl
theorem talkL_one : ∀ v ∈ talkL, v.oneCell' = true := by
  intro v hv
  unfold talkL at hv
  rcases List.mem_append.1 hv with h | h
  · simp at h; subst h; rfl
  · rcases List.mem_append.1 h with h | h
    · rw [(List.mem_replicate.1 h).2]; rfl
    · simp at h
      rcases h with rfl | rfl | rfl | rfl | rfl <;> rfl
theorem brdL_one : ∀ v ∈ brdL, v.oneCell' = true := by
  intro v hv
  unfold brdL at hv
  rcases List.mem_append.1 hv with h | h
  · simp at h
    rcases h with rfl | rfl | rfl | rfl <;> rfl
  · rcases List.mem_append.1 h with h | h
    · exact byteVs_one _ v h
    · exact talkL_one v h
theorem zero_board : Tryz.zeroCells73.toList = [Value.bool false, .bool false, .int .i64 0, .int .u8 0] ++ (List.replicate 1264 (Value.int .u8 0) ++ talkL) := by kernel_rfl
theorem built_board (parts : List (Nat × Value)) : Tryz.prog.built 73 parts = Instr.fill (fun i => (#[(0, 1), (1, 3), (4, 1264), (1268, 88)] : Array (Nat × Nat))[i]?) Tryz.zeroCells73 parts := by kernel_rfl
theorem fold_set : ∀ (vs : List Value) (off k : Nat) (cs : Array Value), off + k + vs.length ≤ cs.size → ((vs.zipIdx k).foldl (fun (cs : Array Value) (x : Value × Nat) => cs.setIfInBounds (off + x.2) x.1) cs).toList = cs.toList.take (off + k) ++ (vs ++ cs.toList.drop (off + k + vs.length))
  | [], off, k, cs, _ => by simp
  | v :: vs, off, k, cs, h => by
    simp only [List.length_cons] at h
    rw [List.zipIdx_cons, List.foldl_cons, fold_set vs off (k + 1) _ (by simp; omega)]
    simp only [Array.toList_setIfInBounds]
    have hk : off + k < cs.toList.length := by rw [Array.length_toList]; omega
    obtain ⟨l, hl⟩ : ∃ l, cs.toList = l := ⟨_, rfl⟩
    rw [hl] at hk ⊢
    have h1 : (l.set (off + k) v).drop (off + (k + 1) + vs.length) = l.drop (off + k + (vs.length + 1)) := by
      rw [List.drop_set_of_lt (by omega)]
      congr 1
      omega
    have h2 : (l.set (off + k) v).take (off + (k + 1)) = l.take (off + k) ++ [v] := by
      rw [show off + (k + 1) = off + k + 1 by omega, List.take_add_one, List.getElem?_set_self hk, List.take_set_of_le (by omega)]
      rfl
    rw [h1, h2]
    simp
theorem fold_set0 (vs cs : Array Value) (off : Nat) (h : off + vs.size ≤ cs.size) : vs.zipIdx.foldl (fun (cs : Array Value) (x : Value × Nat) => cs.setIfInBounds (off + x.2) x.1) cs = (cs.toList.take off ++ (vs.toList ++ cs.toList.drop (off + vs.size))).toArray := by
  have := fold_set vs.toList off 0 cs (by rw [Array.length_toList]; omega)
  simp only [Nat.add_zero, Array.length_toList] at this
  rw [← this, ← Array.foldl_toList, Array.toList_zipIdx]
theorem fills (place : Nat → Option (Nat × Nat)) (cs : Array Value) (i : Nat) (v : Value) (rest : List (Nat × Value)) (off size : Nat) (hp : place i = some (off, size)) (hs : v.cells.size = size) (hf : off + size ≤ cs.size) : Instr.fill place cs ((i, v) :: rest) = Instr.fill place (cs.toList.take off ++ (v.cells.toList ++ cs.toList.drop (off + size))).toArray rest := by
  rw [Instr.fill, hp]
  simp only
  rw [if_neg (by simp; omega)]
  congr 1
  have := fold_set0 v.cells cs off (by omega)
  rw [hs] at this
  rw [← this]
theorem splice (H R T M : List Value) (n k : Nat) (hn : H.length = n) (hk : R.length = k) : List.take n (H ++ (R ++ T)) ++ (M ++ List.drop (n + k) (H ++ (R ++ T))) = H ++ (M ++ T) := by
  have h1 : List.take n (H ++ (R ++ T)) = H := by rw [← hn]; exact List.take_left
  have h2 : List.drop (n + k) (H ++ (R ++ T)) = T := by
    rw [← List.append_assoc, ← hn, ← hk, ← List.length_append]
    exact List.drop_left
  rw [h1, h2]
theorem built_brd : Tryz.prog.built 73 [(0, .bool true), (2, .agg (byteVs mem0).toArray)] = some brdL.toArray := by
  rw [built_board]
  have hsz : Tryz.zeroCells73.size = 1356 := by kernel_rfl
  have e1 := fills (fun i => (#[(0, 1), (1, 3), (4, 1264), (1268, 88)] : Array (Nat × Nat))[i]?) Tryz.zeroCells73 0 (.bool true) [(2, .agg (byteVs mem0).toArray)] 0 1 rfl rfl (by omega)
  have hm : (Value.agg (byteVs mem0).toArray).cells.size = 1264 := by
    show (byteVs mem0).toArray.size = 1264
    rw [List.size_toArray, byteVs_len, mem0_len]
  rw [e1, zero_board]
  have h2 : (List.take 0 ([Value.bool false, .bool false, .int .i64 0, .int .u8 0] ++ (List.replicate 1264 (Value.int .u8 0) ++ talkL)) ++ ((Value.bool true).cells.toList ++ List.drop (0 + 1) ([Value.bool false, .bool false, .int .i64 0, .int .u8 0] ++ (List.replicate 1264 (Value.int .u8 0) ++ talkL)))) = [Value.bool true, .bool false, .int .i64 0, .int .u8 0] ++ (List.replicate 1264 (Value.int .u8 0) ++ talkL) := rfl
  rw [h2]
  have hl : ([Value.bool true, .bool false, .int .i64 0, .int .u8 0] ++ (List.replicate 1264 (Value.int .u8 0) ++ talkL)).toArray.size = 1356 := by
    rw [List.size_toArray, List.length_append, List.length_append, List.length_replicate, talkL_len]; rfl
  rw [fills _ _ 2 _ _ 4 1264 rfl hm (by omega)]
  rw [Instr.fill]
  have h3 : (Value.agg (byteVs mem0).toArray).cells.toList = byteVs mem0 := rfl
  rw [h3, splice _ _ _ _ 4 1264 rfl List.length_replicate]
  rfl
theorem built_board2 (parts : List (Nat × Value)) : Tryz.prog.built 76 parts = Instr.fill (fun i => (#[(0, 1356)] : Array (Nat × Nat))[i]?) Tryz.zeroCells76 parts := by kernel_rfl
theorem built_brd2 : Tryz.prog.built 76 [(0, .agg brdL.toArray)] = some brdL.toArray := by
  rw [built_board2]
  have hsz : Tryz.zeroCells76.size = 1356 := by kernel_rfl
  have hm : (Value.agg brdL.toArray).cells.size = 1356 := by
    show brdL.toArray.size = 1356
    rw [List.size_toArray, brdL_len]
  rw [fills _ _ 0 _ _ 0 1356 rfl hm (by omega), Instr.fill]
  have h3 : (Value.agg brdL.toArray).cells.toList = brdL := rfl
  have h4 : List.drop (0 + 1356) Tryz.zeroCells76.toList = [] := List.drop_eq_nil_of_le (by rw [Array.length_toList, hsz]; exact Nat.le_refl _)
  rw [h3, h4, List.append_nil]
  rfl
theorem wpList_builtAs {P : Program} {ops : Array Oper} {rest : List Oper} {o : Oper} {a : Act} {w : World} {Q : Exit → Act → World → Prop} (hg : o.guard = none) (t : TypeId) (parts : Array (Nat × Operand)) (ho : o.op = .build t parts) (vs : List (Nat × Value)) (hvs : (parts.map fun (i, x) => (i, a.eval x)).toList = vs) (cells : Array Value) (hb : P.built t vs = some cells)
    (h : wpList P ops Q rest (a.put o.dst (.agg cells)) w) : wpList P ops Q (o :: rest) a w := by
  refine wpList_build hg t parts ho (by rw [hvs, hb]; rfl) ?_
  rw [hvs, hb]
  exact h
end Go.Proofs.YthokdbcpkmcieaaGreat
namespace Go.Proofs.YthokdbcpkmcieaaGreat
open Go Go.RowKit
theorem fold_brd : Array.foldl (fun (cs : Array Value) (x : Value × Nat) => cs.setIfInBounds (4 + x.snd) x.fst) (Tryz.zeroCells73.setIfInBounds 0 (.bool true)) (byteVs mem0).toArray.zipIdx 0 1264 = brdL.toArray := by
  have hsz : Tryz.zeroCells73.size = 1356 := by kernel_rfl
  have hms : (byteVs mem0).toArray.size = 1264 := by rw [List.size_toArray, byteVs_len, mem0_len]
  have h1 := fold_set0 (byteVs mem0).toArray (Tryz.zeroCells73.setIfInBounds 0 (.bool true)) 4 (by rw [hms, Array.size_setIfInBounds, hsz]; decide)
  rw [show (byteVs mem0).toArray.zipIdx.size = 1264 by simpa using hms] at h1
  rw [h1, hms]
  refine congrArg List.toArray ?_
  rw [Array.toList_setIfInBounds, zero_board]
  show List.take 4 ([Value.bool true, .bool false, .int .i64 0, .int .u8 0] ++ (List.replicate 1264 (Value.int .u8 0) ++ talkL)) ++ (byteVs mem0 ++ List.drop (4 + 1264) ([Value.bool true, .bool false, .int .i64 0, .int .u8 0] ++ (List.replicate 1264 (Value.int .u8 0) ++ talkL))) = brdL
  rw [splice _ _ _ _ 4 1264 rfl List.length_replicate]
  rfl
set_option maxRecDepth 100000 in
set_option maxHeartbeats 1000000 in
theorem new_any (w : World) : Calls Tryz.prog 16 #[] w fun e w' => e = .returned (.agg brdL.toArray) ∧ Below w.heap.size w w' := by
  have hfd := fold_brd
  have HNS := hideIt (fun w' => newStore_any w')
  have hms : (byteVs mem0).toArray.size = 1264 := by rw [List.size_toArray, byteVs_len, mem0_len]
  have hbl := brdL_len
  have hb1 := brdL_one
  obtain ⟨M, hM⟩ : ∃ M, (byteVs mem0).toArray = M := ⟨_, rfl⟩
  obtain ⟨N, hN⟩ : ∃ N, brdL = N := ⟨_, rfl⟩
  rw [hM] at hfd HNS hms
  rw [hN] at hfd hbl hb1 ⊢
  clear hM hN
  go_enter Tryz.func16, Tryz.ntmps16
  go_wp2_with fail
  refine (HNS.out _).mono ?_
  rintro e w1 ⟨rfl, hbw⟩
  have hz : Tryz.zeroCells73.size = 1356 := by kernel_rfl
  have hh : w1.heap[w.heap.size]? = some (.cells Tryz.zeroCells73 73) := (hbw.block w.heap.size (by simp)).trans (heap_alloc_new w _)
  have hth : w1.there w.heap.size 0 1356 := fun j hj => by
    refine ⟨?_, frozen_of_row _ _ _ _ _ hh⟩
    rw [cell_of_row _ _ _ _ _ (0, 0) hh, Nat.zero_add, Array.getElem?_eq_getElem (by omega)]
    rfl
  have HB : Hid (Below w.heap.size w w1) := ((Below.refl _ _).alloc (Nat.le_refl _) _).trans (hbw.mono (by simp))
  have hst : (storeCells ⟨w.heap.size, 0, none⟩ N).run Tryz.prog w1 = .ok () (w1.setCells w.heap.size 0 N) := run_storeCells_cells (P := Tryz.prog) w.heap.size 0 N 0 w1 (fun j hj => by have := (hth j (by rw [hbl] at hj; exact hj)).1; simpa using this) (fun j hj => by have := (hth j (by rw [hbl] at hj; exact hj)).2; simpa using this) hb1
  have HTH := hideIt hth
  clear hbw hh hth hz hb1
  go_wp2_with fail
  have hra : (w1.setCells w.heap.size 0 N).rangeAt w.heap.size 0 N := World.rangeAt_setCells_same w1 w.heap.size 0 N (by rw [hbl]; exact HTH.out)
  refine bodyPost_ret (results_cell_mid rfl _ _ w.heap.size N _ rfl hra Tryz.underlying73 rfl (by rw [hbl]; exact Tryz.infoBoard)) rfl ?_
  refine ⟨rfl, ?_⟩
  have hset : ∀ (vs : List Value) (o : Nat) (X : World), Below w.heap.size w X → Below w.heap.size w (X.setCells w.heap.size o vs) := by
    intro vs
    induction vs with
    | nil => intro o X h; exact h
    | cons v vs ih => intro o X h; exact ih (o + 1) _ (h.setCell (p := ⟨w.heap.size, o, none⟩) (Nat.le_refl _) _)
  exact hset _ _ _ HB.out
theorem brdL_mid (i : Nat) (hi : i < 1264) : brdL[4 + i]? = some (.int .u8 255) := by
  unfold brdL
  rw [List.getElem?_append_right (by simp), List.getElem?_append_left (by rw [byteVs_len, mem0_len]; simp; omega)]
  simp only [List.length_cons, List.length_nil]
  rw [show 4 + i - (0 + 1 + 1 + 1 + 1) = i by omega]
  unfold byteVs mem0
  rw [List.getElem?_map, List.getElem?_replicate, if_pos hi]
  rfl
theorem brdL_end (j : Nat) : brdL[1268 + j]? = talkL[j]? := by
  unfold brdL
  rw [List.getElem?_append_right (by simp; omega), List.getElem?_append_right (by rw [byteVs_len, mem0_len]; simp; omega)]
  rw [byteVs_len, mem0_len]
  simp only [List.length_cons, List.length_nil]
  rw [show 1268 + j - (0 + 1 + 1 + 1 + 1) - 1264 = j by omega]
theorem brd0_at (w : World) (t : TypeId) : BrdAt (w.alloc (.cells brdL.toArray t)) w.heap.size brd0 := by
  have hh := heap_alloc_new w (.cells brdL.toArray t)
  have hc : ∀ j, (w.alloc (.cells brdL.toArray t)).cell? ⟨w.heap.size, j, none⟩ = brdL[j]? := fun j => by
    rw [cell_of_row _ _ _ _ _ (0, 0) hh]; simp
  have hf : ∀ j, (w.alloc (.cells brdL.toArray t)).frozen? ⟨w.heap.size, j, none⟩ = false := fun j => frozen_of_row _ _ _ _ _ hh
  have hl : w.heap.size < (w.alloc (.cells brdL.toArray t)).heap.size := by simp
  refine ⟨(hc 0).trans rfl, ⟨(hc 1).trans rfl, (hc 2).trans rfl, (hc 3).trans rfl, fun i hi => ?_, mem0_len, (by decide : 0 ≤ 9223372036854775807), hf, hl⟩, ⟨?_, ?_, fun i hi => ?_, fun i hi => by simp [brd0, ear0] at hi, hf, hl, ⟨(by decide : 0 ≤ 2), by simp [brd0, ear0]⟩⟩, ⟨?_, ?_, ?_, ?_, hf⟩, ⟨0, used_0⟩, (by decide : 0 < 65536), (by decide : 0 ≤ 200)⟩
  · have hi' : i < 1264 := by rw [← mem0_len]; exact hi
    rw [hc, brdL_mid i hi']
    show some (Value.int .u8 255) = some (.int .u8 ((mem0.getD i 0).toNat : Int))
    unfold mem0
    rw [List.getD_eq_getElem?_getD, List.getElem?_replicate, if_pos hi']
    rfl
  · rw [hc]; exact brdL_end 0
  · rw [hc]; exact brdL_end 83
  · rw [hc, show 1268 + 1 + i = 1268 + (1 + i) by omega, brdL_end]
    rw [List.getElem?_eq_getElem (by rw [talkL_len]; omega)]
    exact ⟨_, rfl⟩
  · rw [hc]; exact brdL_end 84
  · rw [hc]; exact brdL_end 85
  · rw [hc]; exact brdL_end 86
  · rw [hc]; exact brdL_end 87
set_option maxRecDepth 100000 in
set_option maxHeartbeats 1000000 in
theorem newBoard_any (w : World) : Calls Tryz.prog 7 #[] w fun e w' => ∃ bb, e = .returned (.pointer (some ⟨bb, 0, none⟩)) ∧ w.heap.size ≤ bb ∧ BrdAt w' bb brd0 ∧ Below w.heap.size w w' := by
  have HNS := hideIt (fun w' => new_any w')
  have HBA := hideIt (fun w' => brd0_at w' 76)
  have hbl := brdL_len
  have hfl : List.foldl (fun (cs : Array Value) (x : Value × Nat) => cs.setIfInBounds x.snd x.fst) Tryz.zeroCells76 brdL.zipIdx = brdL.toArray := by
    have hsz : Tryz.zeroCells76.size = 1356 := by kernel_rfl
    have h1 := fold_set brdL 0 0 Tryz.zeroCells76 (by rw [hsz, brdL_len]; decide)
    simp only [Nat.zero_add] at h1
    have h4 : List.drop brdL.length Tryz.zeroCells76.toList = [] := List.drop_eq_nil_of_le (by rw [Array.length_toList, hsz, brdL_len]; exact Nat.le_refl _)
    rw [h4, List.append_nil, List.take_zero, List.nil_append] at h1
    exact Array.toList_inj.1 h1
  obtain ⟨N, hN⟩ : ∃ N, brdL = N := ⟨_, rfl⟩
  rw [hN] at HNS HBA hbl hfl
  clear hN
  go_enter Tryz.func7, Tryz.ntmps7
  go_wp2_with fail
  refine (HNS.out _).mono ?_
  rintro e w1 ⟨rfl, hb1⟩
  have HB := hideIt hb1
  clear hb1
  go_wp2_with fail
  go_ret
  exact ⟨w1.heap.size, rfl, HB.out.size, HBA.out w1, HB.out.alloc HB.out.size _⟩
end Go.Proofs.YthokdbcpkmcieaaGreat
namespace Go.Proofs.YthokdbcpkmcieaaGreat
open Go Go.RowKit
theorem hear_any_b (bb : Nat) (b : Brd) (bs : ByteArray) (w : World) (h : BrdAt w bb b) (hbs : bs.size ≤ 4000000) :
    Calls Tryz.prog 46 #[.pointer (some ⟨bb, 0, none⟩), .string bs] w fun e w' => e = .returned (.string (txt (bhearF b bs.data.toList).2)) ∧ BrdAt w' bb (bhearF b bs.data.toList).1 ∧ w.grownBy w' (some bb) := by
  by_cases ho : b.on = true
  · exact hear_on bb b bs w h ho hbs
  · have hof : b.on = false := by simpa using ho
    have e : bhearF b bs.data.toList = (b, []) := by unfold bhearF; rw [if_pos hof]
    rw [e]
    exact hear_off bb b bs w h hof
set_option maxHeartbeats 1000000 in
theorem bbHear_any (bb : Nat) (b : Brd) (bs : ByteArray) (w : World) (h : BrdAt w bb b) (hbs : bs.size ≤ 4000000) :
    Calls Tryz.prog 18 #[.pointer (some ⟨bb, 0, none⟩), .string bs] w fun e w' => e = .returned (.string (txt (bhearF b bs.data.toList).2)) ∧ BrdAt w' bb (bhearF b bs.data.toList).1 ∧ w.grownBy w' (some bb) := by
  have HC := hideIt (hear_any_b bb b bs w h hbs)
  obtain ⟨R, hR⟩ : ∃ R, bhearF b bs.data.toList = R := ⟨_, rfl⟩
  rw [hR] at HC ⊢
  have c0 := h.c0
  clear h hR
  go_enter Tryz.func18, Tryz.ntmps18
  go_wp2_with fail
  refine HC.out.mono ?_
  rintro e w1 ⟨rfl, h1, h2⟩
  have HQ := hideIt (And.intro h1 h2)
  clear h1 h2
  go_wp2
  go_ret
  exact ⟨rfl, HQ.out.1, HQ.out.2⟩
set_option maxHeartbeats 1000000 in
theorem bbCut_any (bb : Nat) (b : Brd) (n m : Int) (hn1 : -9223372036854775808 ≤ n) (hn2 : n ≤ 9223372036854775807) (w : World) (h : BrdAt w bb b) : Calls Tryz.prog 23 #[.pointer (some ⟨bb, 0, none⟩), .int .i64 n, .int .i64 m] w fun e w' => e = .returned (.tuple #[]) ∧ BrdAt w' bb (cutF b n (mk8 m)) ∧ w.grownBy w' (some bb) := by
  have HC := hideIt (cut_any bb b n m hn1 hn2 w h)
  have c0 := h.c0
  clear h
  go_enter Tryz.func23, Tryz.ntmps23
  go_wp2_with fail
  refine HC.out.mono ?_
  rintro e w1 ⟨rfl, h1, h2⟩
  have HQ := hideIt (And.intro h1 h2)
  clear h1 h2
  go_wp2
  go_end0
  exact ⟨rfl, HQ.out.1, HQ.out.2⟩
set_option maxHeartbeats 1000000 in
theorem bbBoot_any (bb : Nat) (b : Brd) (w : World) (h : BrdAt w bb b) : Calls Tryz.prog 25 #[.pointer (some ⟨bb, 0, none⟩)] w fun e w' => e = .returned (.tuple #[]) ∧ BrdAt w' bb (bootF b) ∧ w.grownBy w' (some bb) := by
  have HC := hideIt (boot_any bb b w h)
  have c0 := h.c0
  clear h
  go_enter Tryz.func25, Tryz.ntmps25
  go_wp2_with fail
  refine HC.out.mono ?_
  rintro e w1 ⟨rfl, h1, h2⟩
  have HQ := hideIt (And.intro h1 h2)
  clear h1 h2
  go_wp2
  go_end0
  exact ⟨rfl, HQ.out.1, HQ.out.2⟩
set_option maxHeartbeats 1000000 in
theorem bbOn_any (bb : Nat) (b : Brd) (w : World) (h : BrdAt w bb b) : Calls Tryz.prog 27 #[.pointer (some ⟨bb, 0, none⟩)] w fun e w' => e = .returned (.bool b.on) ∧ w' = w := by
  have HC := hideIt (on_any bb b w h)
  have c0 := h.c0
  clear h
  go_enter Tryz.func27, Tryz.ntmps27
  go_wp2_with fail
  refine HC.out.mono ?_
  rintro e w1 ⟨rfl, rfl⟩
  go_wp2
  go_ret
  exact ⟨rfl, rfl⟩
set_option maxHeartbeats 1000000 in
theorem bbFlash_any (bb : Nat) (b : Brd) (w : World) (h : BrdAt w bb b) : Calls Tryz.prog 29 #[.pointer (some ⟨bb, 0, none⟩)] w fun e w' => e = .returned (.string (txt (b.mem.take 1024))) ∧ Below w.heap.size w w' := by
  have HC := hideIt (flash_any bb b w h)
  have c0 := h.c0
  clear h
  go_enter Tryz.func29, Tryz.ntmps29
  go_wp2_with fail
  refine HC.out.mono ?_
  rintro e w1 ⟨rfl, hb⟩
  go_wp2
  go_ret
  exact ⟨rfl, hb⟩
set_option maxHeartbeats 1000000 in
theorem bbBurnt_any (bb : Nat) (b : Brd) (w : World) (h : BrdAt w bb b) : Calls Tryz.prog 31 #[.pointer (some ⟨bb, 0, none⟩)] w fun e w' => e = .returned (.int .i64 (bitsF b.mem : Int)) ∧ Below w.heap.size w w' := by
  have HC := hideIt (burnt_any bb b w h)
  have c0 := h.c0
  clear h
  go_enter Tryz.func31, Tryz.ntmps31
  go_wp2_with fail
  refine HC.out.mono ?_
  rintro e w1 ⟨rfl, hb⟩
  go_wp2
  go_ret
  exact ⟨rfl, hb⟩
theorem txtB_list (l : List UInt8) : (txt l).data.toList = l := by simp [txt]
theorem grown_to_below {w w1 w2 : World} {eb : Nat} (h : Below w.heap.size w w1) (hg : w1.grownBy w2 (some eb)) (he : w.heap.size ≤ eb) : Below w.heap.size w w2 :=
  ⟨hg.os.trans h.os, hg.tape.trans h.tape, hg.output.trans h.output, Nat.le_trans h.size hg.size, fun j hj => by rw [hg.block j (Nat.lt_of_lt_of_le hj h.size) (by simp; omega), h.block j hj]⟩
theorem below_to_grown {w w1 : World} (h : Below w.heap.size w w1) (r : Option Nat) : w.grownBy w1 r := ⟨h.os, h.tape, h.output, h.size, fun k hk _ => h.block k hk⟩
end Go.Proofs.YthokdbcpkmcieaaGreat
