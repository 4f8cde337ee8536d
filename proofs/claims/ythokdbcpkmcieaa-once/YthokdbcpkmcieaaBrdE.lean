/- The walk of the board's Hear. -/
import Derived.Test.YthokdbcpkmcieaaBrdD
import Derived.Test.YthokdbcpkmcieaaBrdV
namespace Go.Proofs.Ythokdbcpkmcieaa
open Go Go.RowKit
theorem res_hear {tmps : Array Value} {r0 : Nat} {v : Value} {w : World} (ht : tmps.getD 4 undef = .pointer (some ⟨r0, 0, none⟩)) (hc : w.cell? ⟨r0, 0, none⟩ = some v) : (results Try.f38 tmps).run Try.prog w = .ok v w := by
  have ht' : tmps[4]?.getD undef = .pointer (some ⟨r0, 0, none⟩) := by simpa using ht
  simp [results, Try.results38, go_sem, ht', hc]
set_option maxRecDepth 100000 in
set_option maxHeartbeats 2000000 in
theorem hear_off (bb : Nat) (b : Brd) (bs : ByteArray) (w : World) (h : BrdAt w bb b) (ho : b.on = false) :
    Calls Try.prog 38 #[.pointer (some ⟨bb, 0, none⟩), .string bs] w fun e w' => e = .returned (.string (txt [])) ∧ BrdAt w' bb b ∧ w.grownBy w' (some bb) := by
  have c0 := h.c0
  rw [ho] at c0
  have hlt := h.sto.lt
  have HH := hideIt h
  clear h
  go_enter_defers Try.func38, Try.ntmps38
  go_wp2
  have hB : Below w.heap.size w ((w.alloc (.cells #[.pointer (some ⟨bb, 0, none⟩)] 97)).alloc (.cells #[.string ⟨#[]⟩] 9)) := ((Below.refl _ _).alloc (Nat.le_refl _) _).alloc (by simp) _
  refine ⟨_, res_hear (r0 := w.heap.size + 1) (v := .string ⟨#[]⟩) rfl ?_, rfl, HH.out.below hB, ⟨hB.os, hB.tape, hB.output, hB.size, fun k hk _ => hB.block k hk⟩⟩
  have := heap_alloc_new (w.alloc (.cells #[.pointer (some ⟨bb, 0, none⟩)] 97)) (.cells #[.string ⟨#[]⟩] 9)
  rw [World.alloc_size] at this
  exact cell_of_row _ _ 0 _ _ (0, 0) this
/-- Messages are no longer than a frame's. -/
theorem hear_msgs : ∀ (l : List UInt8) (p : EarS × List (List UInt8)), EarOk p.1 → (∀ q ∈ p.2, q.length ≤ 80) → ∀ q ∈ (l.foldl hearB p).2, q.length ≤ 80
  | [], p, _, h => h
  | x :: l, p, ho, h => by
    refine hear_msgs l (hearB p x) (hearB_ok ho x) ?_
    unfold hearB
    split
    · simp only
      split
      · intro q hq
        rcases List.mem_append.1 hq with h1 | h1
        · exact h q h1
        · have h2 : q = p.1.ks.take (p.1.ks.length - 2) := by simpa using h1
          rw [h2, List.length_take]
          have := ho.len
          omega
      · exact h
    · exact h
theorem hearF_msgs {s : EarS} (h : EarOk s) (l : List UInt8) : ∀ q ∈ (hearF s l).2, q.length ≤ 80 := hear_msgs l (s, []) h (fun q hq => by simp at hq)
/-- Between two messages. -/
structure HInv (w wr : World) (bb : Nat) (p : Pow) (m : List UInt8) (t : Talk) (o : List UInt8) (e : EarS) (v : Value) (qs : List (List UInt8)) : Prop where
  c0 : wr.cell? ⟨bb, 0, none⟩ = some (.bool true)
  sto : StoAt wr bb p m
  ear : EarO wr bb 1268 e
  talk : TalkAt wr bb t
  ok : TOk m t
  bP : wr.heap[w.heap.size]? = some (.cells #[.pointer (some ⟨bb, 0, none⟩)] 97)
  bR : wr.heap[w.heap.size + 1]? = some (.cells #[.string ⟨#[]⟩] 9)
  bF : Lib.IsBuilderF 101 5 (w.heap.size + 1 + 1) (w.heap.size + 1 + 1) (Lib.byteCells o) wr
  row : wr.ownsRow (w.heap.size + 3) 9 1 v qs.length (strs qs)
  gr : w.grownBy wr (some bb)
theorem HInv.brd {w wr : World} {bb : Nat} {p : Pow} {m : List UInt8} {t : Talk} {o : List UInt8} {e : EarS} {v : Value} {qs : List (List UInt8)} (h : HInv w wr bb p m t o e v qs) : BrdAt wr bb ⟨true, p, m, e, t⟩ := ⟨h.c0, h.sto, h.ear, h.talk, h.ok.used, h.ok.ses, h.ok.al⟩
theorem HInv.bFlt {w wr : World} {bb : Nat} {p : Pow} {m : List UInt8} {t : Talk} {o : List UInt8} {e : EarS} {v : Value} {qs : List (List UInt8)} (h : HInv w wr bb p m t o e v qs) : w.heap.size + 1 + 1 < wr.heap.size := by
  rcases h.bF with h | h
  · obtain ⟨_, v, hbk, _⟩ := h; exact (Array.getElem?_eq_some_iff.1 hbk).1
  · obtain ⟨_, v, hbk, _⟩ := h; exact (Array.getElem?_eq_some_iff.1 hbk).1
/-- An answer has been made (or the power has failed). -/
theorem HInv.answered {w wr w2 : World} {bb : Nat} {p p2 : Pow} {m m2 : List UInt8} {t t2 : Talk} {o : List UInt8} {e : EarS} {v : Value} {qs : List (List UInt8)} (h : HInv w wr bb p m t o e v qs) (hbb : bb < w.heap.size) (hs : StoAt w2 bb p2 m2) (ht : TalkAt w2 bb t2) (hk : KeptE wr w2 bb) (hok : TOk m2 t2) : HInv w w2 bb p2 m2 t2 o e v qs := by
  have hl := h.bFlt
  refine ⟨(hk.cells 0 (.inl rfl)).trans h.c0, hs, h.ear.same (fun j h1 h2 => hk.cells j (.inr ⟨h1, by omega⟩)) hk.fz hk.grown.size, ht, hok, ?_, ?_, IsBuilderF_kept h.bF hk.grown (fun r e => by cases e; omega), ?_, h.gr.trans hk.grown⟩
  · rw [hk.grown.block _ (by omega) (by simp; omega)]; exact h.bP
  · rw [hk.grown.block _ (by omega) (by simp; omega)]; exact h.bR
  · exact own_atE h.row (fun j hj => hk.grown.block j (h.row.lt j hj).2 (by have := (h.row.lt j hj).1; simp; omega))
/-- .. and written. -/
theorem HInv.written {w w2 w3 : World} {bb : Nat} {p : Pow} {m : List UInt8} {t : Talk} {o x : List UInt8} {e : EarS} {v : Value} {qs : List (List UInt8)} (h : HInv w w2 bb p m t o e v qs) (hbb : bb < w.heap.size)
    (hF : Lib.IsBuilderF 101 5 (w.heap.size + 1 + 1) (w.heap.size + 1 + 1) (Lib.byteCells (o ++ x)) w3) (hb : Below (w.heap.size + 1 + 1) w2 w3) (hk : Lib.OthersKept 5 (some (w.heap.size + 1 + 1)) w2 w3) : HInv w w3 bb p m t (o ++ x) e v qs := by
  have hl := h.bFlt
  have hbo := hb.block bb (by omega)
  refine ⟨(World.cell?_of_block (a := ⟨bb, 0, none⟩) hbo).trans h.c0, h.sto.kept hbo hb.size, h.ear.kept hbo hb.size, h.talk.kept hbo, h.ok, (hb.block _ (by omega)).trans h.bP, (hb.block _ (by omega)).trans h.bR, hF, ?_, ?_⟩
  · refine own_atE h.row (fun j hj => ?_)
    obtain ⟨_, ⟨hv, _⟩ | ⟨g, cap, cur, hv, hg, h3, h4⟩⟩ := h.row
    · rw [hv] at hj; simp [Value.ownBlock] at hj
    · rw [hv] at hj
      have : g = j := by simpa [Value.ownBlock] using hj
      subst this
      rw [h3]
      exact hk g _ h3 (by simp; omega) (fun c fz he => by cases he)
  · have hg := h.gr
    refine ⟨hb.os.trans hg.os, hb.tape.trans hg.tape, hb.output.trans hg.output, Nat.le_trans hg.size hb.size, fun k hk' hne => ?_⟩
    rw [hb.block k (by omega), hg.block k hk' hne]
end Go.Proofs.Ythokdbcpkmcieaa
