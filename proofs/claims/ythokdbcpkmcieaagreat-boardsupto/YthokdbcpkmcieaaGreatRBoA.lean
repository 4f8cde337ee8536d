/- The document's board whole; the walk of hears. -/
import Derived.Test.YthokdbcpkmcieaaGreatRBo9p
import Derived.Test.YthokdbcpkmcieaaGreatBoH
namespace Go.Proofs.YthokdbcpkmcieaaGreat
open Go Go.RowKit
attribute [local go_sem ↓] Go.wp_at_zero Go.wp_at_succ
/-- What the document's board knows of those who speak to it. -/
structure RTk where
  kn : Bool
  ses : List UInt8
  last : Nat
  ans : List UInt8
structure RBd (w : World) (rb fb jb : Nat) (on : Bool) (p : Pow) (mem : List UInt8) (r : REar) (t : RTk) : Prop where
  sto : RSto w rb fb jb on p mem
  ear : REarO w rb 5 r
  c7 : w.cell? ⟨rb, 7, none⟩ = some (.bool t.kn)
  c8 : w.cell? ⟨rb, 8, none⟩ = some (.string (txt t.ses))
  c9 : w.cell? ⟨rb, 9, none⟩ = some (.int .i64 (t.last : Int))
  c10 : w.cell? ⟨rb, 10, none⟩ = some (.string (txt t.ans))
  ll : t.last ≤ 255
  sl : t.ses.length ≤ 2
  al : t.ans.length ≤ 400
/-- Of the old blocks these three alone have changed. -/
structure G3 (w w' : World) (rb fb jb : Nat) : Prop where
  os : w'.os = w.os
  tape : w'.tape = w.tape
  output : w'.output = w.output
  size : w.heap.size ≤ w'.heap.size
  block : ∀ k, k < w.heap.size → k ≠ rb → k ≠ fb → k ≠ jb → w'.heap[k]? = w.heap[k]?
theorem G3.refl (w : World) (rb fb jb : Nat) : G3 w w rb fb jb := ⟨rfl, rfl, rfl, Nat.le_refl _, fun _ _ _ _ _ => rfl⟩
theorem G3.trans {w w1 w2 : World} {rb fb jb : Nat} (h : G3 w w1 rb fb jb) (g : G3 w1 w2 rb fb jb) : G3 w w2 rb fb jb :=
  ⟨g.os.trans h.os, g.tape.trans h.tape, g.output.trans h.output, Nat.le_trans h.size g.size, fun k hk a b c => (g.block k (Nat.lt_of_lt_of_le hk h.size) a b c).trans (h.block k hk a b c)⟩
theorem K3.g3 {w w' : World} {rb fb jb : Nat} (h : K3 w w' rb fb jb) : G3 w w' rb fb jb := ⟨h.os, h.tape, h.output, h.size, h.block⟩
theorem G3.of_below {w w' : World} (rb fb jb : Nat) (h : Below w.heap.size w w') : G3 w w' rb fb jb := ⟨h.os, h.tape, h.output, h.size, fun k hk _ _ _ => h.block k hk⟩
theorem G3.set (w : World) (rb fb jb j : Nat) (v : Value) : G3 w (w.setCell ⟨rb, j, none⟩ v) rb fb jb :=
  ⟨rfl, rfl, rfl, Nat.le_of_eq (by simp [World.setCell]), fun k _ h _ _ => heap_setCell_other w ⟨rb, j, none⟩ k v h⟩
theorem G3.grown {w w' : World} {rb : Nat} (fb jb : Nat) (h : w.grownBy w' (some rb)) : G3 w w' rb fb jb := ⟨h.os, h.tape, h.output, h.size, fun k hk a _ _ => h.block k hk (by simpa using a)⟩
theorem G3.drewN {w w' : World} {rb fb jb : Nat} (h : G3 w w' rb fb jb) (m : Nat) : G3 w (w'.drewN m) rb fb jb := ⟨h.os, h.tape, h.output, h.size, h.block⟩
theorem RSto.setRest {w : World} {rb fb jb : Nat} {on : Bool} {p : Pow} {mem : List UInt8} (h : RSto w rb fb jb on p mem) (j : Nat) (v : Value) (hj : 5 ≤ j) : RSto (w.setCell ⟨rb, j, none⟩ v) rb fb jb on p mem := by
  obtain ⟨n1, n2, n3⟩ := h.ne
  have hc : ∀ i, i < 5 → (w.setCell ⟨rb, j, none⟩ v).cell? ⟨rb, i, none⟩ = w.cell? ⟨rb, i, none⟩ := fun i hi => World.cell?_setCell_other _ _ _ _ (by simp <;> omega)
  have hz : (w.setCell ⟨rb, j, none⟩ v).heap.size = w.heap.size := by simp [World.setCell]
  refine ⟨?_, ?_, (hc 2 (by omega)).trans h.c2, (hc 3 (by omega)).trans h.c3, ?_, bytes_set_other h.fl (fun e => n1 e.symm), bytes_set_other h.jl (fun e => n2 e.symm), h.len, h.pl, fun b j e => by simp [h.fz b j e], by rw [hz]; exact h.lt, h.ne⟩
  · obtain ⟨c, a, b, e⟩ := h.c0; exact ⟨c, a, b, (hc 0 (by omega)).trans e⟩
  · obtain ⟨c, a, b, e⟩ := h.c1; exact ⟨c, a, b, (hc 1 (by omega)).trans e⟩
  · obtain ⟨z, e, f⟩ := h.c4; exact ⟨z, (hc 4 (by omega)).trans e, f⟩
theorem REarO.setRest {w : World} {rb : Nat} {r : REar} (h : REarO w rb 5 r) (j : Nat) (v : Value) (hj : 7 ≤ j) : REarO (w.setCell ⟨rb, j, none⟩ v) rb 5 r :=
  ⟨(World.cell?_setCell_other _ _ _ _ (by simp <;> omega)).trans h.c0, (World.cell?_setCell_other _ _ _ _ (by simp <;> omega)).trans h.c1, fun i => by simp [h.fz i], by simpa [World.setCell] using h.lt⟩
theorem RBd.setKn {w : World} {rb fb jb : Nat} {on : Bool} {p : Pow} {mem : List UInt8} {r : REar} {t : RTk} (h : RBd w rb fb jb on p mem r t) (b : Bool) : RBd (w.setCell ⟨rb, 7, none⟩ (.bool b)) rb fb jb on p mem r ⟨b, t.ses, t.last, t.ans⟩ :=
  ⟨h.sto.setRest 7 _ (by omega), h.ear.setRest 7 _ (by omega), World.cell?_setCell_same _ _ _ h.c7, (World.cell?_setCell_other _ _ _ _ (by simp)).trans h.c8, (World.cell?_setCell_other _ _ _ _ (by simp)).trans h.c9, (World.cell?_setCell_other _ _ _ _ (by simp)).trans h.c10, h.ll, h.sl, h.al⟩
theorem RBd.setSes {w : World} {rb fb jb : Nat} {on : Bool} {p : Pow} {mem : List UInt8} {r : REar} {t : RTk} (h : RBd w rb fb jb on p mem r t) (s : List UInt8) (hs : s.length ≤ 2) : RBd (w.setCell ⟨rb, 8, none⟩ (.string (txt s))) rb fb jb on p mem r ⟨t.kn, s, t.last, t.ans⟩ :=
  ⟨h.sto.setRest 8 _ (by omega), h.ear.setRest 8 _ (by omega), (World.cell?_setCell_other _ _ _ _ (by simp)).trans h.c7, World.cell?_setCell_same _ _ _ h.c8, (World.cell?_setCell_other _ _ _ _ (by simp)).trans h.c9, (World.cell?_setCell_other _ _ _ _ (by simp)).trans h.c10, h.ll, hs, h.al⟩
theorem RBd.setLast {w : World} {rb fb jb : Nat} {on : Bool} {p : Pow} {mem : List UInt8} {r : REar} {t : RTk} (h : RBd w rb fb jb on p mem r t) (n : Nat) (hn : n ≤ 255) : RBd (w.setCell ⟨rb, 9, none⟩ (.int .i64 (n : Int))) rb fb jb on p mem r ⟨t.kn, t.ses, n, t.ans⟩ :=
  ⟨h.sto.setRest 9 _ (by omega), h.ear.setRest 9 _ (by omega), (World.cell?_setCell_other _ _ _ _ (by simp)).trans h.c7, (World.cell?_setCell_other _ _ _ _ (by simp)).trans h.c8, World.cell?_setCell_same _ _ _ h.c9, (World.cell?_setCell_other _ _ _ _ (by simp)).trans h.c10, hn, h.sl, h.al⟩
theorem RBd.setAns {w : World} {rb fb jb : Nat} {on : Bool} {p : Pow} {mem : List UInt8} {r : REar} {t : RTk} (h : RBd w rb fb jb on p mem r t) (a : List UInt8) (ha : a.length ≤ 400) : RBd (w.setCell ⟨rb, 10, none⟩ (.string (txt a))) rb fb jb on p mem r ⟨t.kn, t.ses, t.last, a⟩ :=
  ⟨h.sto.setRest 10 _ (by omega), h.ear.setRest 10 _ (by omega), (World.cell?_setCell_other _ _ _ _ (by simp)).trans h.c7, (World.cell?_setCell_other _ _ _ _ (by simp)).trans h.c8, (World.cell?_setCell_other _ _ _ _ (by simp)).trans h.c9, World.cell?_setCell_same _ _ _ h.c10, h.ll, h.sl, ha⟩
theorem RBd.below {w w' : World} {rb fb jb : Nat} {on : Bool} {p : Pow} {mem : List UInt8} {r : REar} {t : RTk} (h : RBd w rb fb jb on p mem r t) (hb : Below w.heap.size w w') : RBd w' rb fb jb on p mem r t := by
  have e := hb.block rb h.sto.lt.1
  have hc : ∀ j, w'.cell? ⟨rb, j, none⟩ = w.cell? ⟨rb, j, none⟩ := fun j => World.cell?_of_block (a := ⟨rb, j, none⟩) e
  exact ⟨h.sto.below hb, h.ear.kept e hb.size, (hc 7).trans h.c7, (hc 8).trans h.c8, (hc 9).trans h.c9, (hc 10).trans h.c10, h.ll, h.sl, h.al⟩
theorem RBd.kept {w w' : World} {rb fb jb : Nat} {on : Bool} {p : Pow} {mem : List UInt8} {r : REar} {t : RTk} (h : RBd w rb fb jb on p mem r t) (hb : ∀ b, b = rb ∨ b = fb ∨ b = jb → w'.heap[b]? = w.heap[b]?) (hz : w.heap.size ≤ w'.heap.size) : RBd w' rb fb jb on p mem r t := by
  have e := hb rb (.inl rfl)
  have hc : ∀ j, w'.cell? ⟨rb, j, none⟩ = w.cell? ⟨rb, j, none⟩ := fun j => World.cell?_of_block (a := ⟨rb, j, none⟩) e
  exact ⟨h.sto.kept hb hz, h.ear.kept e hz, (hc 7).trans h.c7, (hc 8).trans h.c8, (hc 9).trans h.c9, (hc 10).trans h.c10, h.ll, h.sl, h.al⟩
/-- Strokes change nothing else of the board. -/
theorem RBd.k3 {w w' : World} {rb fb jb : Nat} {on on' : Bool} {p p' : Pow} {mem mem' : List UInt8} {r : REar} {t : RTk} (h : RBd w rb fb jb on p mem r t) (hs : RSto w' rb fb jb on' p' mem') (hk : K3 w w' rb fb jb) : RBd w' rb fb jb on' p' mem' r t :=
  ⟨hs, ⟨(hk.rest 5 (by omega)).trans h.ear.c0, (hk.rest 6 (by omega)).trans h.ear.c1, fun j => hs.fz rb j (.inl rfl), hs.lt.1⟩, (hk.rest 7 (by omega)).trans h.c7, (hk.rest 8 (by omega)).trans h.c8, (hk.rest 9 (by omega)).trans h.c9, (hk.rest 10 (by omega)).trans h.c10, h.ll, h.sl, h.al⟩
/-- What is done, of any kind. -/
theorem rdoes_any (rb fb jb : Nat) (p : Pow) (mem q : List UInt8) (k : Nat) (w : World) (h : RSto w rb fb jb true p mem) (hu : Used mem k) (ha : askOk q = true) :
    Calls Tryz.prog 98 #[.pointer (some ⟨rb, 0, none⟩), .string (txt q)] w fun e w' => e = .returned (.string (txt (if (doF p mem (q.getD 3 0) (q.drop 4)).1.2.2 = true then (doF p mem (q.getD 3 0) (q.drop 4)).2 else []))) ∧ RSto w' rb fb jb (doF p mem (q.getD 3 0) (q.drop 4)).1.2.2 (if (doF p mem (q.getD 3 0) (q.drop 4)).1.2.2 = true then (doF p mem (q.getD 3 0) (q.drop 4)).1.1 else pow0) (doF p mem (q.getD 3 0) (q.drop 4)).1.2.1 ∧ K3 w w' rb fb jb := by
  obtain ⟨hl4, hl⟩ := ask_len.2 ha
  have hg : (q.drop 4).getD 0 0 = q.getD 4 0 := by simp [List.getD_eq_getElem?_getD]
  have hd : (q.drop 4).drop 1 = q.drop 5 := by simp [List.drop_drop]
  unfold asksF at hl
  split at hl
  · rename_i e
    rcases e with e | e
    · rw [e]
      have : doF p mem 1 (q.drop 4) = ((p, mem, true), [1]) := rfl
      rw [this]
      exact (rdoes_open rb q w e (by omega) (by omega)).mono fun e w' ⟨h1, h2⟩ => ⟨h1, h.below h2, K3.of_below rb fb jb h.lt.1 h2⟩
    · rw [e]
      have : doF p mem 4 (q.drop 4) = ((p, mem, true), [1, UInt8.ofNat (bitsF mem / 256), UInt8.ofNat (bitsF mem % 256)]) := rfl
      rw [this]
      exact (rdoes_state rb fb jb true p mem q w h e (by omega) (by omega)).mono fun e w' ⟨h1, h2⟩ => ⟨h1, h.below h2, K3.of_below rb fb jb h.lt.1 h2⟩
  · split at hl
    · rename_i e
      rw [e]
      have : doF p mem 3 (q.drop 4) = ((p, mem, true), if q.getD 4 0 < 16 ∧ burntF mem (q.getD 4 0) = true then 1 :: pageF mem (q.getD 4 0).toNat else [2]) := by
        unfold doF
        rw [if_neg (by decide), if_pos rfl, hg]
      rw [this]
      exact (rdoes_read rb fb jb true p mem q w h e (by omega) (by omega)).mono fun e w' ⟨h1, h2⟩ => ⟨h1, h.below h2, K3.of_below rb fb jb h.lt.1 h2⟩
    · split at hl
      · rename_i e
        rw [e]
        by_cases hok : q.getD 4 0 < 16 ∧ 2 ≤ roomF mem
        · have : doF p mem 2 (q.drop 4) = (burnPageF p mem (q.getD 4 0) (q.drop 5), [1]) := by
            unfold doF
            rw [if_pos rfl, hg, if_pos hok, hd]
          rw [this]
          exact rdoes_page rb fb jb p mem q k w h hu e hl hok
        · have : doF p mem 2 (q.drop 4) = ((p, mem, true), [2]) := by
            unfold doF
            rw [if_pos rfl, hg, if_neg hok]
          rw [this]
          exact (rdoes_full rb fb jb p mem q k w h hu e hl hok).mono fun e w' ⟨h1, h2⟩ => ⟨h1, h.below h2, K3.of_below rb fb jb h.lt.1 h2⟩
      · omega
end Go.Proofs.YthokdbcpkmcieaaGreat
