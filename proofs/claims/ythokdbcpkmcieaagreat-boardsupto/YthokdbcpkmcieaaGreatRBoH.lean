/- The law's boards: the program's and the document's together. -/
import Derived.Test.YthokdbcpkmcieaaGreatRBoG
import Derived.Test.YthokdbcpkmcieaaGreatBoG
namespace Go.Proofs.YthokdbcpkmcieaaGreat
open Go Go.RowKit
attribute [local go_sem ↓] Go.wp_at_zero Go.wp_at_succ
/-- Where a pair of boards lies: the program's at x, the document's at rb, fb, jb. -/
structure Bo where
  x : Nat
  rb : Nat
  fb : Nat
  jb : Nat
def Bo.own (o : Bo) : List Nat := [o.x, o.rb, o.fb, o.jb]
/-- Of the old blocks those of the list alone have changed. -/
structure Chg (w w' : World) (S : List Nat) : Prop where
  os : w'.os = w.os
  tape : w'.tape = w.tape
  output : w'.output = w.output
  size : w.heap.size ≤ w'.heap.size
  block : ∀ k, k < w.heap.size → k ∉ S → w'.heap[k]? = w.heap[k]?
theorem Chg.refl (w : World) (S : List Nat) : Chg w w S := ⟨rfl, rfl, rfl, Nat.le_refl _, fun _ _ _ => rfl⟩
theorem Chg.trans {w w1 w2 : World} {S : List Nat} (h : Chg w w1 S) (g : Chg w1 w2 S) : Chg w w2 S :=
  ⟨g.os.trans h.os, g.tape.trans h.tape, g.output.trans h.output, Nat.le_trans h.size g.size, fun k hk a => (g.block k (Nat.lt_of_lt_of_le hk h.size) a).trans (h.block k hk a)⟩
theorem Chg.of_below {w w' : World} (S : List Nat) (h : Below w.heap.size w w') : Chg w w' S := ⟨h.os, h.tape, h.output, h.size, fun k hk _ => h.block k hk⟩
theorem Chg.of_grown {w w' : World} {b : Nat} {S : List Nat} (h : w.grownBy w' (some b)) (hb : b ∈ S) : Chg w w' S := ⟨h.os, h.tape, h.output, h.size, fun k hk a => h.block k hk (by simp; intro e; exact a (by rw [e]; exact hb))⟩
theorem Chg.of_g3 {w w' : World} {rb fb jb : Nat} {S : List Nat} (h : G3 w w' rb fb jb) (h1 : rb ∈ S) (h2 : fb ∈ S) (h3 : jb ∈ S) : Chg w w' S :=
  ⟨h.os, h.tape, h.output, h.size, fun k hk a => h.block k hk (fun e => a (e ▸ h1)) (fun e => a (e ▸ h2)) (fun e => a (e ▸ h3))⟩
theorem Chg.drewN {w w' : World} {S : List Nat} (h : Chg w w' S) (m : Nat) : Chg w (w'.drewN m) S := ⟨h.os, h.tape, h.output, h.size, h.block⟩
/-- Both boards at o do as the plain board b. -/
structure Pr (w : World) (o : Bo) (b : Brd) (u : Nat) : Prop where
  px : BrdAt w o.x b
  ry : RB w o.rb o.fb o.jb b u
  ne : o.x ≠ o.rb ∧ o.x ≠ o.fb ∧ o.x ≠ o.jb
theorem Pr.lt {w : World} {o : Bo} {b : Brd} {u : Nat} (h : Pr w o b u) : ∀ k ∈ o.own, k < w.heap.size := by
  have h1 := h.px.sto.lt
  have h2 := h.ry.lt
  intro k hk
  simp only [Bo.own, List.mem_cons, List.not_mem_nil, or_false] at hk
  rcases hk with rfl | rfl | rfl | rfl <;> omega
theorem Pr.kept {w w' : World} {o : Bo} {b : Brd} {u : Nat} (h : Pr w o b u) (hb : ∀ k ∈ o.own, w'.heap[k]? = w.heap[k]?) (hz : w.heap.size ≤ w'.heap.size) : Pr w' o b u :=
  ⟨h.px.kept (hb _ (by simp [Bo.own])) hz, h.ry.kept (fun k e => hb k (by rcases e with rfl | rfl | rfl <;> simp [Bo.own])) hz, h.ne⟩
theorem Pr.chg {w w' : World} {o : Bo} {b : Brd} {u : Nat} {S : List Nat} (h : Pr w o b u) (hc : Chg w w' S) (hd : ∀ k ∈ o.own, k ∉ S) : Pr w' o b u :=
  h.kept (fun k hk => hc.block k (h.lt k hk) (hd k hk)) hc.size
theorem Pr.below {w w' : World} {o : Bo} {b : Brd} {u : Nat} (h : Pr w o b u) (hb : Below w.heap.size w w') : Pr w' o b u :=
  h.kept (fun k hk => hb.block k (h.lt k hk)) hb.size
theorem Pr.le {w : World} {o : Bo} {b : Brd} {u v : Nat} (h : Pr w o b u) (huv : u ≤ v) : Pr w o b v := ⟨h.px, h.ry.le huv, h.ne⟩
/-- The law's world at wb, its list of boards at gb, the i-th of them at o. -/
structure LF (w : World) (wb gb cap i : Nat) (o : Bo) (b : Brd) (u : Nat) : Prop where
  c3 : w.cell? ⟨wb, 3, none⟩ = some (.slice (some ⟨gb, 0, none⟩) 2 cap)
  cx : w.cell? ⟨gb, i * 3, none⟩ = some (.pointer (some ⟨o.x, 0, none⟩))
  cy : w.cell? ⟨gb, i * 3 + 1, none⟩ = some (.pointer (some ⟨o.rb, 0, none⟩))
  pr : Pr w o b u
  hw : wb ∉ o.own
  hg : gb ∉ o.own
  hi : i < 2
theorem LF.chg {w w' : World} {wb gb cap i : Nat} {o : Bo} {b b' : Brd} {u v : Nat} {S : List Nat} (h : LF w wb gb cap i o b u) (hc : Chg w w' S) (h1 : wb ∉ S) (h2 : gb ∉ S) (hp : Pr w' o b' v) : LF w' wb gb cap i o b' v := by
  have l1 : wb < w.heap.size := World.block_lt_of_cell? _ _ h.c3
  have l2 : gb < w.heap.size := World.block_lt_of_cell? _ _ h.cx
  exact ⟨(World.cell?_of_block (a := ⟨wb, 3, none⟩) (hc.block wb l1 h1)).trans h.c3, (World.cell?_of_block (a := ⟨gb, i * 3, none⟩) (hc.block gb l2 h2)).trans h.cx, (World.cell?_of_block (a := ⟨gb, i * 3 + 1, none⟩) (hc.block gb l2 h2)).trans h.cy, hp, h.hw, h.hg, h.hi⟩
theorem LF.below {w w' : World} {wb gb cap i : Nat} {o : Bo} {b : Brd} {u : Nat} (h : LF w wb gb cap i o b u) (hb : Below w.heap.size w w') : LF w' wb gb cap i o b u :=
  h.chg (Chg.of_below [] hb) (by simp) (by simp) (h.pr.below hb)
/-- The first board of a pair has done something. -/
theorem Pr.first {w w1 : World} {o : Bo} {b : Brd} {u : Nat} (h : Pr w o b u) (hg : w.grownBy w1 (some o.x)) : RB w1 o.rb o.fb o.jb b u := by
  obtain ⟨n1, n2, n3⟩ := h.ne
  have hl := h.ry.lt
  exact h.ry.kept (fun k e => hg.block k (by rcases e with rfl | rfl | rfl <;> omega) (by rcases e with rfl | rfl | rfl <;> simp <;> omega)) hg.size
/-- The second one has done the same. -/
theorem Pr.second {w1 w2 : World} {o : Bo} {b : Brd} {u : Nat} (hx : BrdAt w1 o.x b) (hn : o.x ≠ o.rb ∧ o.x ≠ o.fb ∧ o.x ≠ o.jb) (hy : RB w2 o.rb o.fb o.jb b u) (hg : G3 w1 w2 o.rb o.fb o.jb) : Pr w2 o b u :=
  ⟨hx.kept (hg.block o.x hx.sto.lt hn.1 hn.2.1 hn.2.2) hg.size, hy, hn⟩
set_option maxRecDepth 100000 in
set_option maxHeartbeats 4000000 in
theorem lhears_any (wb gb cap i : Nat) (o : Bo) (b : Brd) (u v : Nat) (S : ByteArray) (w : World) (h : LF w wb gb cap i o b u) (hs : u + S.size ≤ 4000000) (huv : u ≤ v) (hv : ∀ r : REar, r.s.length ≤ u → (rHearF r S.data.toList).1.s.length ≤ v) :
    Calls Tryz.prog 22 #[.pointer (some ⟨wb, 0, none⟩), .int .i64 (i : Int), .string S] w fun e w' => (∃ T, e = .returned (.tuple #[.string T, .bool true])) ∧ (∃ b', Pr w' o b' v) ∧ Chg w w' o.own := by
  have c3 := h.c3
  have cx := h.cx
  have hii : (i : Int) < 2 := by have := h.hi; omega
  have HX := hideIt (bbHear_any o.x b S w h.pr.px (by omega))
  have HY := hideIt (fun w1 (hg : w.grownBy w1 (some o.x)) => rbhear_any o.rb o.fb o.jb b u v S w1 (h.pr.first hg) hs huv hv)
  obtain ⟨T, hT⟩ : ∃ T, txt (bhearF b S.data.toList).2 = T := ⟨_, rfl⟩
  rw [hT] at HX HY
  obtain ⟨b', hb'⟩ : ∃ b', (bhearF b S.data.toList).1 = b' := ⟨_, rfl⟩
  rw [hb'] at HX HY
  have HH := hideIt h
  have hl1 : wb < w.heap.size := World.block_lt_of_cell? _ _ h.c3
  have hl2 : gb < w.heap.size := World.block_lt_of_cell? _ _ h.cx
  clear h hT hb' hv
  go_enter Tryz.func22, Tryz.ntmps22
  go_wp2_with fail
  refine HX.out.mono ?_
  rintro e w1 ⟨rfl, hx1, hg1⟩
  have k1 : Chg w w1 o.own := Chg.of_grown hg1 (by simp [Bo.own])
  have d3 : w1.cell? ⟨wb, 3, none⟩ = some (.slice (some ⟨gb, 0, none⟩) 2 cap) := (World.cell?_of_block (a := ⟨wb, 3, none⟩) (k1.block wb hl1 HH.out.hw)).trans c3
  have dy : w1.cell? ⟨gb, i * 3 + 1, none⟩ = some (.pointer (some ⟨o.rb, 0, none⟩)) := (World.cell?_of_block (a := ⟨gb, i * 3 + 1, none⟩) (k1.block gb hl2 HH.out.hg)).trans HH.out.cy
  have HG := hideIt (And.intro hx1 (And.intro hg1 k1))
  clear hx1 hg1 k1 c3 cx
  go_wp2_with fail
  refine (HY.out _ HG.out.2.1).mono ?_
  rintro e w2 ⟨rfl, hy2, hg2⟩
  have HZ := hideIt (And.intro hy2 hg2)
  clear hy2 hg2
  go_wp2
  go_ret2
  refine ⟨⟨_, rfl⟩, ⟨b', Pr.second HG.out.1 HH.out.pr.ne HZ.out.1 HZ.out.2⟩, HG.out.2.2.trans (Chg.of_g3 HZ.out.2 ?_ ?_ ?_)⟩
  all_goals simp [Bo.own]
end Go.Proofs.YthokdbcpkmcieaaGreat
