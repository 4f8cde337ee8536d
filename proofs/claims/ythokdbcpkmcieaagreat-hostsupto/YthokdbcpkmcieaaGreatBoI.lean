/- The document's board: strokes, pages, records. -/
import Derived.Test.YthokdbcpkmcieaaGreatBoB
import Derived.Test.YthokdbcpkmcieaaGreatBoD
import Derived.BigRegion
namespace Go.Proofs.YthokdbcpkmcieaaGreat
open Go Go.RowKit
/-- The document's board at block rb, its flash at fb, its journal at jb. -/
structure RSto (w : World) (rb fb jb : Nat) (on : Bool) (p : Pow) (mem : List UInt8) : Prop where
  c0 : ∃ c : Nat, 1024 ≤ c ∧ c ≤ 9223372036854775807 ∧ w.cell? ⟨rb, 0, none⟩ = some (.slice (some ⟨fb, 0, none⟩) 1024 c)
  c1 : ∃ c : Nat, 240 ≤ c ∧ c ≤ 9223372036854775807 ∧ w.cell? ⟨rb, 1, none⟩ = some (.slice (some ⟨jb, 0, none⟩) 240 c)
  c2 : w.cell? ⟨rb, 2, none⟩ = some (.bool on)
  c3 : w.cell? ⟨rb, 3, none⟩ = some (.int .i64 (if p.cut = true then (p.left : Int) else -1))
  c4 : ∃ z : Int, w.cell? ⟨rb, 4, none⟩ = some (.int .i64 z) ∧ (p.cut = true → z = (p.mask.toNat : Int))
  fl : BytesAt w fb 0 (mem.take 1024)
  jl : BytesAt w jb 0 (mem.drop 1024)
  len : mem.length = 1264
  pl : p.left ≤ 9223372036854775807
  fz : ∀ b j, b = rb ∨ b = fb ∨ b = jb → w.frozen? ⟨b, j, none⟩ = false
  lt : rb < w.heap.size ∧ fb < w.heap.size ∧ jb < w.heap.size
  ne : rb ≠ fb ∧ rb ≠ jb ∧ fb ≠ jb
/-- Of the old blocks these three alone have changed, and of the board's cells the first five. -/
structure K3 (w w' : World) (rb fb jb : Nat) : Prop where
  os : w'.os = w.os
  tape : w'.tape = w.tape
  output : w'.output = w.output
  size : w.heap.size ≤ w'.heap.size
  block : ∀ k, k < w.heap.size → k ≠ rb → k ≠ fb → k ≠ jb → w'.heap[k]? = w.heap[k]?
  rest : ∀ j, 5 ≤ j → w'.cell? ⟨rb, j, none⟩ = w.cell? ⟨rb, j, none⟩
theorem K3.refl (w : World) (rb fb jb : Nat) : K3 w w rb fb jb := ⟨rfl, rfl, rfl, Nat.le_refl _, fun _ _ _ _ _ => rfl, fun _ _ => rfl⟩
theorem K3.trans {w w1 w2 : World} {rb fb jb : Nat} (h : K3 w w1 rb fb jb) (g : K3 w1 w2 rb fb jb) : K3 w w2 rb fb jb :=
  ⟨g.os.trans h.os, g.tape.trans h.tape, g.output.trans h.output, Nat.le_trans h.size g.size, fun k hk a b c => (g.block k (Nat.lt_of_lt_of_le hk h.size) a b c).trans (h.block k hk a b c), fun j hj => (g.rest j hj).trans (h.rest j hj)⟩
theorem K3.of_below {w w' : World} (rb fb jb : Nat) (hr : rb < w.heap.size) (h : Below w.heap.size w w') : K3 w w' rb fb jb :=
  ⟨h.os, h.tape, h.output, h.size, fun k hk _ _ _ => h.block k hk, fun j _ => World.cell?_of_block (a := ⟨rb, j, none⟩) (h.block rb hr)⟩
theorem K3.set (w : World) (rb fb jb b j : Nat) (v : Value) (hb : b = rb ∨ b = fb ∨ b = jb) (hj : b = rb → j < 5) : K3 w (w.setCell ⟨b, j, none⟩ v) rb fb jb := by
  refine ⟨rfl, rfl, rfl, Nat.le_of_eq (by simp [World.setCell]), fun k _ h1 h2 h3 => ?_, fun i hi => ?_⟩
  · have hne : k ≠ b := by rcases hb with rfl | rfl | rfl <;> assumption
    exact heap_setCell_other w ⟨b, j, none⟩ k v hne
  · refine World.cell?_setCell_other _ _ _ _ ?_
    intro e
    have e1 := congrArg Addr.block e
    have e2 := congrArg Addr.off e
    simp at e1 e2
    have := hj (by first | exact e1.symm | exact e1)
    omega
theorem RSto.kept {w w' : World} {rb fb jb : Nat} {on : Bool} {p : Pow} {mem : List UInt8} (h : RSto w rb fb jb on p mem) (hb : ∀ b, b = rb ∨ b = fb ∨ b = jb → w'.heap[b]? = w.heap[b]?) (hz : w.heap.size ≤ w'.heap.size) : RSto w' rb fb jb on p mem := by
  have hc : ∀ j, w'.cell? ⟨rb, j, none⟩ = w.cell? ⟨rb, j, none⟩ := fun j => World.cell?_of_block (a := ⟨rb, j, none⟩) (hb rb (.inl rfl))
  refine ⟨?_, ?_, (hc 2).trans h.c2, (hc 3).trans h.c3, ?_, h.fl.kept (hb fb (.inr (.inl rfl))), h.jl.kept (hb jb (.inr (.inr rfl))), h.len, h.pl, fun b j e => (World.frozen?_of_block (a := ⟨b, j, none⟩) (hb b e)).trans (h.fz b j e), ⟨Nat.lt_of_lt_of_le h.lt.1 hz, Nat.lt_of_lt_of_le h.lt.2.1 hz, Nat.lt_of_lt_of_le h.lt.2.2 hz⟩, h.ne⟩
  · obtain ⟨c, a, b, e⟩ := h.c0; exact ⟨c, a, b, (hc 0).trans e⟩
  · obtain ⟨c, a, b, e⟩ := h.c1; exact ⟨c, a, b, (hc 1).trans e⟩
  · obtain ⟨z, e, f⟩ := h.c4; exact ⟨z, (hc 4).trans e, f⟩
theorem RSto.below {w w' : World} {rb fb jb : Nat} {on : Bool} {p : Pow} {mem : List UInt8} (h : RSto w rb fb jb on p mem) (hb : Below w.heap.size w w') : RSto w' rb fb jb on p mem :=
  h.kept (fun b e => hb.block b (e.elim (fun e => e ▸ h.lt.1) (fun e => e.elim (fun e => e ▸ h.lt.2.1) (fun e => e ▸ h.lt.2.2)))) hb.size
/-- Which of the two lists, how long it is, where it lies in the one list. -/
def Part3 (fb jb lb n o : Nat) : Prop := (lb = fb ∧ n = 1024 ∧ o = 0) ∨ (lb = jb ∧ n = 240 ∧ o = 1024)
theorem RSto.byte {w : World} {rb fb jb lb n o : Nat} {on : Bool} {p : Pow} {mem : List UInt8} (h : RSto w rb fb jb on p mem) (hp : Part3 fb jb lb n o) (i : Nat) (hi : i < n) : w.cell? ⟨lb, i, none⟩ = some (.int .u8 ((mem.getD (o + i) 0).toNat : Int)) := by
  have hl := h.len
  rcases hp with ⟨rfl, rfl, rfl⟩ | ⟨rfl, rfl, rfl⟩
  · have := h.fl i (by rw [List.length_take, hl]; omega)
    rw [Nat.zero_add] at this
    rw [this, Nat.zero_add]
    simp only [List.getD_eq_getElem?_getD]
    rw [List.getElem?_take_of_lt hi]
  · have := h.jl i (by rw [List.length_drop, hl]; omega)
    rw [Nat.zero_add] at this
    rw [this]
    simp only [List.getD_eq_getElem?_getD]
    rw [List.getElem?_drop]
theorem bytes_set0 {w : World} {b : Nat} {l : List UInt8} (h : BytesAt w b 0 l) (i : Nat) (x : UInt8) (hi : i < l.length) : BytesAt (w.setCell ⟨b, i, none⟩ (.int .u8 (x.toNat : Int))) b 0 (l.set i x) := by
  intro k hk
  simp only [List.length_set] at hk
  rw [Nat.zero_add]
  have c := h k hk
  rw [Nat.zero_add] at c
  by_cases e : k = i
  · subst e
    rw [World.cell?_setCell_same _ _ _ c]
    simp [List.getD_eq_getElem?_getD, hk]
  · rw [World.cell?_setCell_other _ _ _ _ (by simp <;> omega), c]
    simp only [List.getD_eq_getElem?_getD]
    rw [List.getElem?_set_ne (fun e' => e e'.symm)]
theorem bytes_set_other {w : World} {b c i : Nat} {l : List UInt8} {v : Value} (h : BytesAt w b 0 l) (hne : b ≠ c) : BytesAt (w.setCell ⟨c, i, none⟩ v) b 0 l := fun k hk => by
  rw [World.cell?_setCell_other _ _ _ _ (by intro e; have := congrArg Addr.block e; simp at this; omega)]
  exact h k hk
theorem RSto.setByte {w : World} {rb fb jb lb n o : Nat} {on : Bool} {p : Pow} {mem : List UInt8} (h : RSto w rb fb jb on p mem) (hp : Part3 fb jb lb n o) (i : Nat) (hi : i < n) (x : UInt8) : RSto (w.setCell ⟨lb, i, none⟩ (.int .u8 (x.toNat : Int))) rb fb jb on p (mem.set (o + i) x) := by
  have hl := h.len
  obtain ⟨n1, n2, n3⟩ := h.ne
  have hlr : lb ≠ rb := by rcases hp with ⟨rfl, _⟩ | ⟨rfl, _⟩ <;> omega
  have hc : ∀ j, (w.setCell ⟨lb, i, none⟩ (.int .u8 (x.toNat : Int))).cell? ⟨rb, j, none⟩ = w.cell? ⟨rb, j, none⟩ := fun j => World.cell?_setCell_other _ _ _ _ (by intro e; have := congrArg Addr.block e; simp at this; omega)
  have hz : (w.setCell ⟨lb, i, none⟩ (.int .u8 (x.toNat : Int))).heap.size = w.heap.size := by simp [World.setCell]
  refine ⟨?_, ?_, (hc 2).trans h.c2, (hc 3).trans h.c3, ?_, ?_, ?_, by simp [hl], h.pl, fun b j e => by simp [h.fz b j e], by rw [hz]; exact h.lt, h.ne⟩
  · obtain ⟨c, a, b, e⟩ := h.c0; exact ⟨c, a, b, (hc 0).trans e⟩
  · obtain ⟨c, a, b, e⟩ := h.c1; exact ⟨c, a, b, (hc 1).trans e⟩
  · obtain ⟨z, e, f⟩ := h.c4; exact ⟨z, (hc 4).trans e, f⟩
  · rcases hp with ⟨rfl, rfl, rfl⟩ | ⟨rfl, rfl, rfl⟩
    · have := bytes_set0 h.fl i x (by rw [List.length_take, hl]; omega)
      rw [Nat.zero_add, List.take_set]
      exact this
    · rw [List.take_set_of_le (by omega)]
      exact bytes_set_other h.fl n3
  · rcases hp with ⟨rfl, rfl, rfl⟩ | ⟨rfl, rfl, rfl⟩
    · rw [Nat.zero_add, List.drop_set_of_lt hi]
      exact bytes_set_other h.jl (fun e => n3 e.symm)
    · have := bytes_set0 h.jl i x (by rw [List.length_drop, hl]; omega)
      rw [List.drop_set, if_neg (by omega), show 1024 + i - 1024 = i by omega]
      exact this
theorem RSto.setLeft {w : World} {rb fb jb : Nat} {on : Bool} {p : Pow} {mem : List UInt8} (h : RSto w rb fb jb on p mem) (hcut : p.cut = true) (n : Nat) (hn : n ≤ 9223372036854775807) : RSto (w.setCell ⟨rb, 3, none⟩ (.int .i64 (n : Int))) rb fb jb on ⟨p.cut, n, p.mask⟩ mem := by
  obtain ⟨n1, n2, n3⟩ := h.ne
  have hc : ∀ j, j ≠ 3 → (w.setCell ⟨rb, 3, none⟩ (.int .i64 (n : Int))).cell? ⟨rb, j, none⟩ = w.cell? ⟨rb, j, none⟩ := fun j hj => World.cell?_setCell_other _ _ _ _ (by simp <;> omega)
  have hz : (w.setCell ⟨rb, 3, none⟩ (.int .i64 (n : Int))).heap.size = w.heap.size := by simp [World.setCell]
  refine ⟨?_, ?_, (hc 2 (by omega)).trans h.c2, ?_, ?_, bytes_set_other h.fl (fun e => n1 e.symm), bytes_set_other h.jl (fun e => n2 e.symm), h.len, hn, fun b j e => by simp [h.fz b j e], by rw [hz]; exact h.lt, h.ne⟩
  · obtain ⟨c, a, b, e⟩ := h.c0; exact ⟨c, a, b, (hc 0 (by omega)).trans e⟩
  · obtain ⟨c, a, b, e⟩ := h.c1; exact ⟨c, a, b, (hc 1 (by omega)).trans e⟩
  · simp only [hcut, if_true]
    exact World.cell?_setCell_same _ _ _ h.c3
  · obtain ⟨z, e, f⟩ := h.c4; exact ⟨z, (hc 4 (by omega)).trans e, f⟩
/-- The power is off. -/
theorem RSto.off {w : World} {rb fb jb : Nat} {on : Bool} {p : Pow} {mem : List UInt8} (h : RSto w rb fb jb on p mem) : RSto ((w.setCell ⟨rb, 2, none⟩ (.bool false)).setCell ⟨rb, 3, none⟩ (.int .i64 (-1))) rb fb jb false pow0 mem := by
  obtain ⟨n1, n2, n3⟩ := h.ne
  have hc : ∀ j, j ≠ 2 → j ≠ 3 → ((w.setCell ⟨rb, 2, none⟩ (.bool false)).setCell ⟨rb, 3, none⟩ (.int .i64 (-1))).cell? ⟨rb, j, none⟩ = w.cell? ⟨rb, j, none⟩ := fun j h2 h3 => by
    rw [World.cell?_setCell_other _ _ _ _ (by simp <;> omega), World.cell?_setCell_other _ _ _ _ (by simp <;> omega)]
  have hz : ((w.setCell ⟨rb, 2, none⟩ (.bool false)).setCell ⟨rb, 3, none⟩ (.int .i64 (-1))).heap.size = w.heap.size := by simp [World.setCell]
  refine ⟨?_, ?_, ?_, ?_, ?_, bytes_set_other (bytes_set_other h.fl (fun e => n1 e.symm)) (fun e => n1 e.symm), bytes_set_other (bytes_set_other h.jl (fun e => n2 e.symm)) (fun e => n2 e.symm), h.len, by decide, fun b j e => by simp [h.fz b j e], by rw [hz]; exact h.lt, h.ne⟩
  · obtain ⟨c, a, b, e⟩ := h.c0; exact ⟨c, a, b, (hc 0 (by omega) (by omega)).trans e⟩
  · obtain ⟨c, a, b, e⟩ := h.c1; exact ⟨c, a, b, (hc 1 (by omega) (by omega)).trans e⟩
  · rw [World.cell?_setCell_other _ _ _ _ (by simp)]
    exact World.cell?_setCell_same _ _ _ h.c2
  · exact World.cell?_setCell_same _ _ _ ((World.cell?_setCell_other _ _ _ _ (by simp)).trans h.c3)
  · obtain ⟨z, e, _⟩ := h.c4; exact ⟨z, (hc 4 (by omega) (by omega)).trans e, fun e => by cases e⟩
/-- What strokes leave: the answer goes by whether the power lasts. -/
def REnd (w : World) (rb fb jb : Nat) (r : Pow × List UInt8 × Bool) (e : Ending) (w' : World) : Prop := e = .returned (.bool r.2.2) ∧ RSto w' rb fb jb r.2.2 (if r.2.2 = true then r.1 else pow0) r.2.1 ∧ K3 w w' rb fb jb
end Go.Proofs.YthokdbcpkmcieaaGreat
namespace Go.Proofs.YthokdbcpkmcieaaGreat
open Go Go.RowKit
set_option maxRecDepth 100000 in
set_option maxHeartbeats 2000000 in
theorem rstroke_any (rb fb jb lb n o lc : Nat) (p : Pow) (mem : List UInt8) (i : Nat) (x : UInt8) (w : World) (h : RSto w rb fb jb true p mem) (hp : Part3 fb jb lb n o) (hi : i < n) :
    Calls Tryz.prog 131 #[.pointer (some ⟨rb, 0, none⟩), .slice (some ⟨lb, 0, none⟩) n lc, .int .i64 (i : Int), .int .u8 (x.toNat : Int)] w (REnd w rb fb jb ((strokeF p (mem.getD (o + i) 0) x).1, mem.set (o + i) (strokeF p (mem.getD (o + i) 0) x).2.1, (strokeF p (mem.getD (o + i) 0) x).2.2)) := by
  have c3 := h.c3
  have c2 := h.c2
  obtain ⟨z, c4, hz4⟩ := h.c4
  have ci := h.byte hp i hi
  have hlb : lb = rb ∨ lb = fb ∨ lb = jb := by rcases hp with ⟨e, _⟩ | ⟨e, _⟩ <;> simp [e]
  have hne : ¬ lb = rb := by
    obtain ⟨n1, n2, _⟩ := h.ne
    rcases hp with ⟨e, _⟩ | ⟨e, _⟩ <;> omega
  have hn : n ≤ 1024 := by rcases hp with ⟨_, e, _⟩ | ⟨_, e, _⟩ <;> omega
  have f2 := h.fz rb 2 (.inl rfl)
  have f3 := h.fz rb 3 (.inl rfl)
  have fi := h.fz lb i hlb
  have hii : (i : Int) < (n : Int) := by omega
  have hne' : ¬ rb = lb := fun e => hne e.symm
  obtain ⟨c, hc⟩ : ∃ c, mem.getD (o + i) 0 = c := ⟨_, rfl⟩
  rw [hc] at ci ⊢
  by_cases hcut : p.cut = false
  · have e : strokeF p c x = (p, x, true) := by unfold strokeF; rw [if_pos hcut]
    rw [e]
    rw [hcut] at c3
    replace c3 : w.cell? ⟨rb, 3, none⟩ = some (.int .i64 (-1)) := c3
    have HR := hideIt (And.intro (h.setByte hp i hi x) (K3.set w rb fb jb lb i (.int .u8 (x.toNat : Int)) hlb (fun e => absurd e hne)))
    clear h e hp hlb hc hz4 c4
    go_enter Tryz.func131, Tryz.ntmps131
    go_wp2
    go_ret
    exact ⟨rfl, HR.out.1, HR.out.2⟩
  · have hct : p.cut = true := by simpa using hcut
    rw [hct] at c3
    replace c3 : w.cell? ⟨rb, 3, none⟩ = some (.int .i64 (p.left : Int)) := c3
    by_cases h0 : p.left = 0
    · have e : strokeF p c x = (p, mixF c x p.mask, false) := by unfold strokeF mixF; rw [if_neg hcut, if_pos h0]
      rw [e]
      rw [h0] at c3
      replace c3 : w.cell? ⟨rb, 3, none⟩ = some (.int .i64 0) := c3
      rw [hz4 hct] at c4
      have hml := p.mask.toNat_lt
      have hwm : IntKind.u8.wrap (p.mask.toNat : Int) = (p.mask.toNat : Int) := by rw [IntKind.wrap_u8]; omega
      obtain ⟨y, hy⟩ : ∃ y, (c ^^^ x).toNat = y := ⟨_, rfl⟩
      obtain ⟨z, hz2⟩ : ∃ z, ((c ^^^ x) &&& p.mask).toNat = z := ⟨_, rfl⟩
      obtain ⟨u, hu⟩ : ∃ u, (mixF c x p.mask).toNat = u := ⟨_, rfl⟩
      have hx1 : bits .xor .u8 (c.toNat : Int) (x.toNat : Int) = (y : Int) := by rw [← hy]; exact xor_b c x
      have hx2 : bits .and .u8 (y : Int) (p.mask.toNat : Int) = (z : Int) := by rw [← hy, ← hz2]; exact and_b (c ^^^ x) p.mask
      have hx3 : bits .xor .u8 (c.toNat : Int) (z : Int) = (u : Int) := by rw [← hu, ← hz2]; exact xor_b c ((c ^^^ x) &&& p.mask)
      have HR := hideIt (And.intro (h.setByte hp i hi (mixF c x p.mask)).off ((K3.set w rb fb jb lb i (.int .u8 ((mixF c x p.mask).toNat : Int)) hlb (fun e => absurd e hne)).trans ((K3.set _ rb fb jb rb 2 (.bool false) (.inl rfl) (fun _ => by omega)).trans (K3.set _ rb fb jb rb 3 (.int .i64 (-1)) (.inl rfl) (fun _ => by omega)))))
      rw [hu] at HR
      clear h e hc hy hz2 hu hp hlb hz4
      go_enter Tryz.func131, Tryz.ntmps131
      go_wp2
      go_region
      all_goals
        go_wp2
        go_ret
        exact ⟨rfl, HR.out.1.kept (fun _ _ => rfl) (Nat.le_refl _), ⟨HR.out.2.os, HR.out.2.tape, HR.out.2.output, HR.out.2.size, HR.out.2.block, HR.out.2.rest⟩⟩
    · have e : strokeF p c x = (⟨p.cut, p.left - 1, p.mask⟩, x, true) := by unfold strokeF; rw [if_neg hcut, if_neg h0]
      obtain ⟨k, hk⟩ : ∃ k, p.left = k + 1 := ⟨p.left - 1, by omega⟩
      rw [e, hk, show k + 1 - 1 = k by omega]
      have hpl := h.pl
      rw [hk] at c3
      replace c3 : w.cell? ⟨rb, 3, none⟩ = some (.int .i64 ((k : Int) + 1)) := c3.trans (by simp)
      have hz' : (((k : Int) + 1) == 0) = false := by simp; omega
      have hzp : 0 < (k : Int) + 1 := by omega
      have HR := hideIt (And.intro ((h.setLeft hct k (by omega)).setByte hp i hi x) ((K3.set w rb fb jb rb 3 (.int .i64 (k : Int)) (.inl rfl) (fun _ => by omega)).trans (K3.set _ rb fb jb lb i (.int .u8 (x.toNat : Int)) hlb (fun e => absurd e hne))))
      clear h e hc hp hlb hz4 c4
      go_enter Tryz.func131, Tryz.ntmps131
      go_wp2
      go_ret
      exact ⟨rfl, HR.out.1, HR.out.2⟩
end Go.Proofs.YthokdbcpkmcieaaGreat
namespace Go.Proofs.YthokdbcpkmcieaaGreat
open Go Go.RowKit
/-- Bytes of one of the two lists, from a place on, as a text. -/
theorem RSto.conv {w : World} {rb fb jb lb n o : Nat} {on : Bool} {p : Pow} {mem : List UInt8} (h : RSto w rb fb jb on p mem) (hp : Part3 fb jb lb n o) (i m cap : Nat) (him : i + m ≤ n) : (convert 24 9 (.slice (some ⟨lb, i, none⟩) m cap)).run Tryz.prog w = .ok (.string (txt (win mem (o + i) m))) w := by
  have hl := h.len
  have ho : o + n ≤ 1264 := by rcases hp with ⟨_, rfl, rfl⟩ | ⟨_, rfl, rfl⟩ <;> omega
  have hw : (win mem (o + i) m).length = m := win_len mem (o + i) m (by omega)
  have := run_convert_bytes_back (P := Tryz.prog) w 24 9 5 ⟨lb, i, none⟩ cap (win mem (o + i) m) Tryz.underlying24 Tryz.underlying5 Tryz.underlying9 (fun j hj => by
    rw [hw] at hj
    have hc := h.byte hp (i + j) (by omega)
    rw [Addr.add_lit, hc]
    have hg := win_get mem (o + i) m j
    rw [if_pos hj, List.getElem?_eq_getElem (by omega)] at hg
    rw [List.getD_eq_getElem?_getD, show o + (i + j) = o + i + j by omega, ← hg]
    rfl)
  rw [hw] at this
  exact this
set_option maxRecDepth 100000 in
set_option maxHeartbeats 2000000 in
theorem rpage_any (rb fb jb : Nat) (on : Bool) (p : Pow) (mem : List UInt8) (n : Nat) (w : World) (h : RSto w rb fb jb on p mem) (hn : n < 16) :
    Calls Tryz.prog 100 #[.pointer (some ⟨rb, 0, none⟩), .int .i64 (n : Int)] w fun e w' => e = .returned (.string (txt (pageF mem n))) ∧ w' = w := by
  obtain ⟨c, hc1, hc2, c0⟩ := h.c0
  have hcv := h.conv (lb := fb) (n := 1024) (o := 0) (.inl ⟨rfl, rfl, rfl⟩) (n * 64) 64 (c - n * 64) (by omega)
  rw [show 0 + n * 64 = 64 * n by omega, ← page_win] at hcv
  obtain ⟨T, hT⟩ : ∃ T, txt (pageF mem n) = T := ⟨_, rfl⟩
  rw [hT] at hcv ⊢
  have hcv' : (convert 24 9 (.slice (some ⟨fb, n * 64, none⟩) ((n + 1) * 64 - n * 64) (c - n * 64))).run Tryz.prog w = .ok (.string T) w := by
    rw [show (n + 1) * 64 - n * 64 = 64 by omega]
    exact hcv
  have hni : (n : Int) < 16 := by omega
  have hci : (1024 : Int) ≤ (c : Int) := by omega
  clear h hT hcv
  go_enter Tryz.func100, Tryz.ntmps100
  go_wp2
  go_ret
  exact ⟨rfl, rfl⟩
theorem rec_txt (n k : UInt8) (l : List UInt8) (c : Nat) (h : crcN l = c) : txt [n, k] ++ txt [UInt8.ofNat (c / 256), UInt8.ofNat (c % 256)] = txt ([n, k] ++ chkB l) := by
  rw [txt_append, ← h]
  rfl
set_option maxRecDepth 100000 in
set_option maxHeartbeats 2000000 in
theorem rrecord_one (rb : Nat) (n : UInt8) (mem : List UInt8) (w : World) :
    Calls Tryz.prog 84 #[.pointer (some ⟨rb, 0, none⟩), .int .i64 (n.toNat : Int), .int .i64 1] w fun e w' => e = .returned (.string (txt (recF mem n 1))) ∧ Below w.heap.size w w' := by
  have hnl := n.toNat_lt
  have hwn : IntKind.u8.wrap (n.toNat : Int) = (n.toNat : Int) := by rw [IntKind.wrap_u8]; omega
  have hcv := conv_row rfl (own_new w w.heap.size (Nat.le_refl _) [n, 1] (by simp) (by simp))
  have hcv2 : (convert 24 9 (.slice (some ⟨w.heap.size, 0, none⟩) 2 2)).run Tryz.prog (w.alloc (.cells #[.int .u8 (n.toNat : Int), .int .u8 1] 5)) = .ok (.string (txt [n, 1])) (w.alloc (.cells #[.int .u8 (n.toNat : Int), .int .u8 1] 5)) := hcv
  obtain ⟨c, hc⟩ : ∃ c, crcN [n, 1] = c := ⟨_, rfl⟩
  have hcl : c < 65536 := by rw [← hc]; exact crcN_lt _
  have HC : Hid (∀ w', Calls Tryz.prog 45 #[.string (txt [n, 1])] w' fun e w'' => e = .returned (.int .i64 (c : Int)) ∧ w'' = w') := fun w' => by
    have := rcheck_any (txt [n, 1]) w' (by rw [txt_size]; simp)
    rw [txt_toList, hc] at this
    exact this
  have HT := hideIt (fun w' => two_any c hcl w')
  have hr : txt (recF mem n 1) = txt [n, 1] ++ txt [UInt8.ofNat (c / 256), UInt8.ofNat (c % 256)] := (rec_txt n 1 [n, 1] c hc).symm
  rw [hr]
  have hs1 : (txt [n, 1]).size = 2 := rfl
  have hs2 : (txt [UInt8.ofNat (c / 256), UInt8.ofNat (c % 256)]).size = 2 := rfl
  obtain ⟨S, hS⟩ : ∃ S, txt [n, 1] = S := ⟨_, rfl⟩
  obtain ⟨T, hT⟩ : ∃ T, txt [UInt8.ofNat (c / 256), UInt8.ofNat (c % 256)] = T := ⟨_, rfl⟩
  rw [hS] at hcv2 HC hs1 ⊢
  rw [hT] at HT hs2 ⊢
  clear hcv hr hS hT hc
  have HB := hideIt (show Below w.heap.size w (w.alloc (.cells #[.int .u8 (n.toNat : Int), .int .u8 1] 5)) from (Below.refl _ _).alloc (Nat.le_refl _) _)
  go_enter Tryz.func84, Tryz.ntmps84
  go_wp2_with fail
  refine (HC.out _).mono ?_
  rintro e w1 ⟨rfl, rfl⟩
  go_wp2_with fail
  refine (HT.out _).mono ?_
  rintro e w2 ⟨rfl, hB2⟩
  have HB2 := hideIt (HB.out.trans (hB2.mono (by simp)))
  clear hB2
  go_wp2
  go_ret
  exact ⟨rfl, HB2.out⟩
set_option maxRecDepth 100000 in
set_option maxHeartbeats 2000000 in
theorem rrecord_two (rb fb jb : Nat) (on : Bool) (p : Pow) (mem : List UInt8) (n : UInt8) (w : World) (h : RSto w rb fb jb on p mem) (hn : n < 16) :
    Calls Tryz.prog 84 #[.pointer (some ⟨rb, 0, none⟩), .int .i64 (n.toNat : Int), .int .i64 2] w fun e w' => e = .returned (.string (txt (recF mem n 2))) ∧ Below w.heap.size w w' := by
  have hnl := n.toNat_lt
  have hn16 := u16 hn
  have hwn : IntKind.u8.wrap (n.toNat : Int) = (n.toNat : Int) := by rw [IntKind.wrap_u8]; omega
  have hcv := conv_row rfl (own_new w w.heap.size (Nat.le_refl _) [n, 2] (by simp) (by simp))
  have hcv2 : (convert 24 9 (.slice (some ⟨w.heap.size, 0, none⟩) 2 2)).run Tryz.prog (w.alloc (.cells #[.int .u8 (n.toNat : Int), .int .u8 2] 5)) = .ok (.string (txt [n, 2])) (w.alloc (.cells #[.int .u8 (n.toNat : Int), .int .u8 2] 5)) := hcv
  have hBw : Below w.heap.size w (w.alloc (.cells #[.int .u8 (n.toNat : Int), .int .u8 2] 5)) := (Below.refl _ _).alloc (Nat.le_refl _) _
  have HP := hideIt (rpage_any rb fb jb on p mem n.toNat _ (h.below hBw) hn16)
  have hpl : (pageF mem n.toNat).length = 64 := win_len mem (64 * n.toNat) 64 (by rw [h.len]; omega)
  obtain ⟨c, hc⟩ : ∃ c, crcN ([n, 2] ++ pageF mem n.toNat) = c := ⟨_, rfl⟩
  have hcl : c < 65536 := by rw [← hc]; exact crcN_lt _
  have HC : Hid (∀ w', Calls Tryz.prog 45 #[.string (txt [n, 2] ++ txt (pageF mem n.toNat))] w' fun e w'' => e = .returned (.int .i64 (c : Int)) ∧ w'' = w') := fun w' => by
    have := rcheck_any (txt [n, 2] ++ txt (pageF mem n.toNat)) w' (by rw [txt_append, txt_size]; simp [hpl])
    rw [txt_append, txt_toList, hc] at this
    rw [txt_append]
    exact this
  have HT := hideIt (fun w' => two_any c hcl w')
  have hof : recF mem n 2 = [n, 2] ++ chkB ([n, 2] ++ pageF mem n.toNat) := rec_two rfl
  have hr : txt (recF mem n 2) = txt [n, 2] ++ txt [UInt8.ofNat (c / 256), UInt8.ofNat (c % 256)] := by rw [hof]; exact (rec_txt n 2 _ c hc).symm
  rw [hr]
  have hs1 : (txt [n, 2]).size = 2 := rfl
  have hs2 : (txt [UInt8.ofNat (c / 256), UInt8.ofNat (c % 256)]).size = 2 := rfl
  have hs3 : (txt (pageF mem n.toNat)).size = 64 := by rw [txt_size, hpl]
  obtain ⟨S, hS⟩ : ∃ S, txt [n, 2] = S := ⟨_, rfl⟩
  obtain ⟨T, hT⟩ : ∃ T, txt [UInt8.ofNat (c / 256), UInt8.ofNat (c % 256)] = T := ⟨_, rfl⟩
  obtain ⟨G, hG⟩ : ∃ G, txt (pageF mem n.toNat) = G := ⟨_, rfl⟩
  rw [hS] at hcv2 HC hs1 ⊢
  rw [hT] at HT hs2 ⊢
  rw [hG] at HP HC hs3
  have HB := hideIt hBw
  clear hcv hr hS hT hc hof hpl hG hBw h hn
  go_enter Tryz.func84, Tryz.ntmps84
  go_wp2_with fail
  refine HP.out.mono ?_
  rintro e w0 ⟨rfl, rfl⟩
  go_wp2_with fail
  refine (HC.out _).mono ?_
  rintro e w1 ⟨rfl, rfl⟩
  go_wp2_with fail
  refine (HT.out _).mono ?_
  rintro e w2 ⟨rfl, hB2⟩
  have HB2 := hideIt (HB.out.trans (hB2.mono (by simp)))
  clear hB2
  go_wp2
  go_ret
  exact ⟨rfl, HB2.out⟩
end Go.Proofs.YthokdbcpkmcieaaGreat
namespace Go.Proofs.YthokdbcpkmcieaaGreat
open Go Go.RowKit
theorem txt_inj {a b : List UInt8} (h : txt a = txt b) : a = b := by rw [← txt_toList a, h, txt_toList]
theorem txt_neR {a b : List UInt8} (h : a ≠ b) : ((txt a).toList == (txt b).toList) = false := by
  apply beq_false_of_ne
  intro e
  rw [ByteArray.toList_eq, ByteArray.toList_eq, txt_toList, txt_toList] at e
  exact h e
theorem rec_differ (m : List UInt8) (n : UInt8) : recF m n 1 ≠ recF m n 2 := by
  intro e
  have := congrArg (fun l => l.getD 1 0) e
  exact absurd this (by show ¬ (1 : UInt8) = 2; decide)
set_option maxRecDepth 100000 in
set_option maxHeartbeats 2000000 in
theorem rburnt_any (rb fb jb : Nat) (on : Bool) (p : Pow) (mem : List UInt8) (n : UInt8) (w : World) (h : RSto w rb fb jb on p mem) (hn : n < 16) :
    Calls Tryz.prog 60 #[.pointer (some ⟨rb, 0, none⟩), .int .i64 (n.toNat : Int)] w fun e w' => e = .returned (.bool (burntF mem n)) ∧ Below w.heap.size w w' := by
  have H := hideIt h
  have HN := hideIt hn
  have HR1 := hideIt (fun w' => rrecord_one rb n mem w')
  have HR2 := hideIt (fun w' (h' : RSto w' rb fb jb on p mem) => rrecord_two rb fb jb on p mem n w' h' hn)
  have HD := hideIt (rec_differ mem n)
  clear h hn
  go_enter Tryz.func60, Tryz.ntmps60
  go_wp2_with fail
  refine (HR1.out w).mono ?_
  rintro e w1 ⟨rfl, hB1⟩
  have HB1 := hideIt hB1
  clear hB1
  go_wp2_with fail
  refine (HR2.out w1 (H.out.below HB1.out)).mono ?_
  rintro e w2 ⟨rfl, hB2⟩
  have HB2 := hideIt (HB1.out.trans (hB2.mono HB1.out.size))
  clear hB2 HB1 HR1 HR2
  obtain ⟨R1, hR1⟩ : ∃ R1, txt (recF mem n 1) = R1 := ⟨_, rfl⟩
  obtain ⟨R2, hR2⟩ : ∃ R2, txt (recF mem n 2) = R2 := ⟨_, rfl⟩
  have HQ1 := hideIt hR1
  have HQ2 := hideIt hR2
  rw [hR1, hR2]
  clear hR1 hR2
  go_wp2_with fail
  go_loopw [5, 8] (fun b i wr => ∃ j : Nat, j ≤ 60 ∧ i = .int .i64 j ∧ b = .bool (burntS mem n j) ∧ wr = w2) (fun _ i _ => 60 - (intOf i).toNat)
  case atStart => exact ⟨0, by omega, rfl, rfl, rfl⟩
  case round =>
    obtain ⟨j, hj, rfl, rfl, rfl⟩ := hrel
    by_cases hlt : j < 60
    · have hji : (j : Int) < 60 := by omega
      have hs := H.out.below HB2.out
      obtain ⟨c, hc1, hc2, c1⟩ := hs.c1
      have hcv := hs.conv (lb := jb) (n := 240) (o := 1024) (.inr ⟨rfl, rfl, rfl⟩) (4 * j) 4 (c - 4 * j) (by omega)
      rw [← slot_win] at hcv
      have hci : (240 : Int) ≤ (c : Int) := by omega
      by_cases e1 : slotF mem j = recF mem n 1
      · have hb : burntS mem n (j + 1) = false := by unfold burntS; rw [if_pos e1]
        rw [e1, HQ1.out] at hcv
        have hq : (R1.toList == R2.toList) = false := by rw [← HQ1.out, ← HQ2.out]; exact txt_neR HD.out
        have HBB := hideIt hb
        clear hs hb e1
        go_wp2
        go_roundw
        case rel => exact ⟨j + 1, by omega, by go_num, by rw [HBB.out], trivial⟩
        case measure => simp [intOf]; omega
      · by_cases e2 : slotF mem j = recF mem n 2
        · have hb : burntS mem n (j + 1) = true := by unfold burntS; rw [if_neg e1, if_pos e2]
          rw [e2, HQ2.out] at hcv
          have hq : (R2.toList == R1.toList) = false := by rw [← HQ1.out, ← HQ2.out]; exact txt_neR (fun e => HD.out e.symm)
          have HBB := hideIt hb
          clear hs hb e1 e2
          go_wp2
          go_roundw
          case rel => exact ⟨j + 1, by omega, by go_num, by rw [HBB.out], trivial⟩
          case measure => simp [intOf]; omega
        · have hb : burntS mem n (j + 1) = burntS mem n j := by rw [burntS, if_neg e1, if_neg e2]
          have hq1 := txt_neR e1
          have hq2 := txt_neR e2
          obtain ⟨S, hS⟩ : ∃ S, txt (slotF mem j) = S := ⟨_, rfl⟩
          rw [hS, HQ1.out] at hq1
          rw [hS, HQ2.out] at hq2
          rw [hS] at hcv
          have HBB := hideIt hb
          clear hs hb e1 e2 hS
          go_wp2
          go_roundw
          case rel => exact ⟨j + 1, by omega, by go_num, by rw [HBB.out], trivial⟩
          case measure => simp [intOf]; omega
    · have hjn : ¬ (j : Int) < 60 := by omega
      have hje : j = 60 := by omega
      have HJ := hideIt hje
      clear hje
      go_wp2
      go_ret
      exact ⟨by rw [HJ.out]; rfl, HB2.out⟩
end Go.Proofs.YthokdbcpkmcieaaGreat
namespace Go.Proofs.YthokdbcpkmcieaaGreat
open Go Go.RowKit
/-- The first record that has room, of the first k; less than none: there is none. -/
def atS (m : List UInt8) : Nat → Int
  | 0 => -1
  | k + 1 => if slotF m k = blankL then (if atS m k < 0 then 4 * (k : Int) else atS m k) else atS m k
theorem atS_ge (m : List UInt8) : ∀ k, -1 ≤ atS m k ∧ atS m k ≤ 4 * (k : Int)
  | 0 => by simp [atS]
  | k + 1 => by
    have := atS_ge m k
    unfold atS
    split
    · split <;> omega
    · omega
set_option maxRecDepth 100000 in
set_option maxHeartbeats 4000000 in
theorem rfree_any (rb fb jb : Nat) (on : Bool) (p : Pow) (mem : List UInt8) (w : World) (h : RSto w rb fb jb on p mem) :
    Calls Tryz.prog 116 #[.pointer (some ⟨rb, 0, none⟩)] w fun e w' => e = .returned (.tuple #[.int .i64 (roomF mem : Int), .int .i64 (atS mem 60)]) ∧ Below w.heap.size w w' := by
  have H := hideIt h
  clear h
  go_enter Tryz.func116, Tryz.ntmps116
  go_wp2_with fail
  go_loopw [4, 5, 6] (fun n a i wr => ∃ j : Nat, j ≤ 60 ∧ i = .int .i64 j ∧ n = .int .i64 (roomS mem j : Int) ∧ a = .int .i64 (atS mem j) ∧ Below w.heap.size w wr) (fun _ _ i _ => 60 - (intOf i).toNat)
  case atStart => exact ⟨0, by omega, rfl, rfl, rfl, Below.refl _ _⟩
  case round =>
    obtain ⟨j, hj, rfl, rfl, rfl, hB⟩ := hrel
    have hrl := roomS_le mem j
    obtain ⟨ha1, ha2⟩ := atS_ge mem j
    by_cases hlt : j < 60
    · have hji : (j : Int) < 60 := by omega
      have hs := H.out.below hB
      obtain ⟨c, hc1, hc2, c1⟩ := hs.c1
      have hlr := hs.lt.1
      have hBn : Below wr.heap.size wr (wr.alloc (.cells #[.int .u8 255, .int .u8 255, .int .u8 255, .int .u8 255] 5)).drew := ((Below.refl _ _).alloc (Nat.le_refl _) _).drew
      have hcvA := (hs.kept (w' := wr.drew) (fun _ _ => rfl) (Nat.le_refl _)).conv (lb := jb) (n := 240) (o := 1024) (.inr ⟨rfl, rfl, rfl⟩) (4 * j) 4 (c - 4 * j) (by omega)
      have hcvB := (hs.below hBn).conv (lb := jb) (n := 240) (o := 1024) (.inr ⟨rfl, rfl, rfl⟩) (4 * j) 4 (c - 4 * j) (by omega)
      rw [← slot_win] at hcvA hcvB
      have hcvC : (convert 24 9 (.slice (some ⟨wr.heap.size, 0, none⟩) 4 4)).run Tryz.prog (wr.alloc (.cells #[.int .u8 255, .int .u8 255, .int .u8 255, .int .u8 255] 5)).drew = .ok (.string (txt blankL)) (wr.alloc (.cells #[.int .u8 255, .int .u8 255, .int .u8 255, .int .u8 255] 5)).drew :=
        conv_row (l := blankL) rfl (own_new wr wr.heap.size (Nat.le_refl _) blankL (by decide) (by decide)).drew
      have hci : (240 : Int) ≤ (c : Int) := by omega
      have HBn := hideIt (hB.trans (hBn.mono hB.size))
      by_cases e1 : slotF mem j = blankL
      · have hr : roomS mem (j + 1) = roomS mem j + 1 := by rw [roomS, if_pos e1]
        rw [e1] at hcvA hcvB
        obtain ⟨S, hS⟩ : ∃ S, txt blankL = S := ⟨_, rfl⟩
        rw [hS] at hcvA hcvB hcvC
        obtain ⟨rm, hrm⟩ : ∃ rm, roomS mem j = rm := ⟨_, rfl⟩
        obtain ⟨am, ham⟩ : ∃ am, atS mem j = am := ⟨_, rfl⟩
        rw [hrm] at hr hrl ⊢
        rw [ham] at ha1 ha2 ⊢
        by_cases hneg : am < 0
        · have hat : atS mem (j + 1) = 4 * (j : Int) := by rw [atS, if_pos e1, ham, if_pos hneg]
          have HRR := hideIt (And.intro hr hat)
          clear hs hB hBn hr hat e1 hS hrm ham
          go_wp2
          go_region
          all_goals
            go_wp2
            go_roundw
            case rel => exact ⟨j + 1, by omega, by go_num, by rw [HRR.out.1]; go_num, by rw [HRR.out.2], HBn.out⟩
            case measure => simp [intOf]; omega
        · have hat : atS mem (j + 1) = am := by rw [atS, if_pos e1, ham, if_neg hneg]
          have HRR := hideIt (And.intro hr hat)
          clear hs hB hBn hr hat e1 hS hrm ham
          go_wp2
          go_region
          all_goals
            go_wp2
            go_roundw
            case rel => exact ⟨j + 1, by omega, by go_num, by rw [HRR.out.1]; go_num, by rw [HRR.out.2], HBn.out⟩
            case measure => simp [intOf]; omega
      · have hr : roomS mem (j + 1) = roomS mem j := by rw [roomS, if_neg e1]; rfl
        have hat : atS mem (j + 1) = atS mem j := by rw [atS, if_neg e1]
        have hq := txt_neR e1
        obtain ⟨S, hS⟩ : ∃ S, txt (slotF mem j) = S := ⟨_, rfl⟩
        obtain ⟨T, hT⟩ : ∃ T, txt blankL = T := ⟨_, rfl⟩
        rw [hS] at hcvA hcvB hq
        rw [hT] at hcvC hq
        have HRR := hideIt (And.intro hr hat)
        clear hs hB hBn hr hat e1 hS hT
        go_wp2
        go_region
        all_goals
          go_wp2
          go_roundw
          case rel => exact ⟨j + 1, by omega, by go_num, by rw [HRR.out.1], by rw [HRR.out.2], HBn.out⟩
          case measure => simp [intOf]; omega
    · have hjn : ¬ (j : Int) < 60 := by omega
      have hje : j = 60 := by omega
      have HJ := hideIt hje
      have HB := hideIt hB
      clear hje hB
      go_wp2
      go_ret2
      exact ⟨by rw [HJ.out]; rfl, HB.out⟩
end Go.Proofs.YthokdbcpkmcieaaGreat
