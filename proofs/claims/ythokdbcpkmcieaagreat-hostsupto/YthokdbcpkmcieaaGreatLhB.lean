/- The law's hosts: both of them together; the law's whole state. -/
import Derived.Test.YthokdbcpkmcieaaGreatLhA
import Derived.Test.YthokdbcpkmcieaaGreatHsD
import Derived.Test.YthokdbcpkmcieaaGreatRhD
import Derived.Test.YthokdbcpkmcieaaGreatRBoL
namespace Go.Proofs.YthokdbcpkmcieaaGreat
open Go Go.RowKit
attribute [local go_sem ↓] Go.wp_at_zero Go.wp_at_succ
/-- Of the old blocks those alone have changed of which F tells. -/
structure ChgP (w w' : World) (F : Nat → Prop) : Prop where
  os : w'.os = w.os
  tape : w'.tape = w.tape
  output : w'.output = w.output
  size : w.heap.size ≤ w'.heap.size
  block : ∀ k, k < w.heap.size → ¬ F k → w'.heap[k]? = w.heap[k]?
theorem ChgP.refl (w : World) (F : Nat → Prop) : ChgP w w F := ⟨rfl, rfl, rfl, Nat.le_refl _, fun _ _ _ => rfl⟩
theorem ChgP.trans {w w1 w2 : World} {F : Nat → Prop} (h : ChgP w w1 F) (g : ChgP w1 w2 F) : ChgP w w2 F :=
  ⟨g.os.trans h.os, g.tape.trans h.tape, g.output.trans h.output, Nat.le_trans h.size g.size, fun k hk a => (g.block k (Nat.lt_of_lt_of_le hk h.size) a).trans (h.block k hk a)⟩
theorem ChgP.mono {w w' : World} {F G : Nat → Prop} (h : ChgP w w' F) (hg : ∀ k, F k → G k) : ChgP w w' G := ⟨h.os, h.tape, h.output, h.size, fun k hk a => h.block k hk (fun e => a (hg k e))⟩
theorem ChgP.of_below {w w' : World} (F : Nat → Prop) (h : Below w.heap.size w w') : ChgP w w' F := ⟨h.os, h.tape, h.output, h.size, fun k hk _ => h.block k hk⟩
theorem ChgP.of_chg {w w' : World} {S : List Nat} {F : Nat → Prop} (h : Chg w w' S) (hS : ∀ k ∈ S, F k) : ChgP w w' F := ⟨h.os, h.tape, h.output, h.size, fun k hk a => h.block k hk (fun e => a (hS k e))⟩
theorem ChgP.of_grown {w w' : World} {b : Nat} {F : Nat → Prop} (h : w.grownBy w' (some b)) (hb : F b) : ChgP w w' F := ⟨h.os, h.tape, h.output, h.size, fun k hk a => h.block k hk (by simp; intro e; exact a (by rw [e]; exact hb))⟩
/-- A pair of hosts that do the same: the program's at hx, the document's at hy; their blocks are those of which F tells. -/
structure HoAt (w : World) (hx hy : Nat) (F : Nat → Prop) (u : Nat) : Prop where
  is : ∃ lb wb bb h d, HstM w hx lb h ∧ RHM w hy wb bb d ∧ SameH h d ∧ HOk h ∧ EarOk h.ear ∧ d.ear.s.length ≤ u ∧ (hy ≠ hx ∧ wb ≠ hx ∧ bb ≠ hx ∧ lb ≠ hy) ∧ (F hx ∧ F lb ∧ F hy ∧ F wb ∧ F bb)
theorem HoAt.kept {w w' : World} {hx hy : Nat} {F : Nat → Prop} {u : Nat} (h : HoAt w hx hy F u) (hb : ∀ k, k < w.heap.size → F k → w'.heap[k]? = w.heap[k]?) (hz : w.heap.size ≤ w'.heap.size) : HoAt w' hx hy F u := by
  obtain ⟨lb, wb, bb, h, d, m, r, s, k, e, l, n, f0, f1, f2, f3, f4⟩ := h.is
  exact ⟨lb, wb, bb, h, d, m.kept (hb _ m.lt f0) (hb _ m.ll f1) hz, r.kept (hb _ r.lt f2) (hb _ r.ll.1 f3) (hb _ r.ll.2 f4) hz, s, k, e, l, n, f0, f1, f2, f3, f4⟩
theorem HoAt.below {w w' : World} {hx hy : Nat} {F : Nat → Prop} {u : Nat} (h : HoAt w hx hy F u) (hb : Below w.heap.size w w') : HoAt w' hx hy F u := h.kept (fun k hk _ => hb.block k hk) hb.size
theorem HoAt.chg {w w' : World} {hx hy : Nat} {F G : Nat → Prop} {u : Nat} (h : HoAt w hx hy F u) (hc : ChgP w w' G) (hd : ∀ k, F k → ¬ G k) : HoAt w' hx hy F u := h.kept (fun k hk f => hc.block k hk (hd k f)) hc.size
theorem HoAt.le {w : World} {hx hy : Nat} {F : Nat → Prop} {u v : Nat} (h : HoAt w hx hy F u) (huv : u ≤ v) : HoAt w hx hy F v := by
  obtain ⟨lb, wb, bb, h, d, m, r, s, k, e, l, n, f⟩ := h.is
  exact ⟨lb, wb, bb, h, d, m, r, s, k, e, Nat.le_trans l huv, n, f⟩
/-- The law's world at wb, its list of hosts at gh, the i-th of them. -/
structure LH (w : World) (wb gh n cap i hx hy : Nat) (F : Nat → Prop) (u : Nat) : Prop where
  c4 : w.cell? ⟨wb, 4, none⟩ = some (.slice (some ⟨gh, 0, none⟩) n cap)
  cx : w.cell? ⟨gh, i * 3, none⟩ = some (.pointer (some ⟨hx, 0, none⟩))
  cy : w.cell? ⟨gh, i * 3 + 1, none⟩ = some (.pointer (some ⟨hy, 0, none⟩))
  ho : HoAt w hx hy F u
  nw : ¬ F wb
  ng : ¬ F gh
  hi : i < n
  hn : n ≤ 4
theorem LH.chg {w w' : World} {wb gh n cap i hx hy : Nat} {F G : Nat → Prop} {u v : Nat} (h : LH w wb gh n cap i hx hy F u) (hc : ChgP w w' G) (h1 : ¬ G wb) (h2 : ¬ G gh) (hp : HoAt w' hx hy F v) : LH w' wb gh n cap i hx hy F v :=
  ⟨(World.cell?_of_block (a := ⟨wb, 4, none⟩) (hc.block wb (World.block_lt_of_cell? _ _ h.c4) h1)).trans h.c4, (World.cell?_of_block (a := ⟨gh, i * 3, none⟩) (hc.block gh (World.block_lt_of_cell? _ _ h.cx) h2)).trans h.cx, (World.cell?_of_block (a := ⟨gh, i * 3 + 1, none⟩) (hc.block gh (World.block_lt_of_cell? _ _ h.cx) h2)).trans h.cy, hp, h.nw, h.ng, h.hi, h.hn⟩
theorem say_len {h : Hst} (k : HOk h) : (sayH h).2.length ≤ 200 := by
  unfold sayH
  split
  · simp
  · have := (frameF_len h.asked).2
    have := k.b.long.2
    show (frameF h.asked).length ≤ 200
    omega
set_option maxRecDepth 100000 in
set_option maxHeartbeats 4000000 in
theorem lsays_any (wb gh n cap i hx hy : Nat) (F : Nat → Prop) (u : Nat) (w : World) (h : LH w wb gh n cap i hx hy F u) :
    Calls Tryz.prog 33 #[.pointer (some ⟨wb, 0, none⟩), .int .i64 (i : Int)] w fun e w' => (∃ T : ByteArray, e = .returned (.tuple #[.string T, .bool true]) ∧ T.size ≤ 200) ∧ HoAt w' hx hy F u ∧ ChgP w w' F := by
  have c4 := h.c4
  have cx := h.cx
  have hii : (i : Int) < (n : Int) := by have := h.hi; omega
  have hni : (n : Int) ≤ 4 := by have := h.hn; omega
  obtain ⟨lb, wb2, bb, hp, d, hm, hr, hs, hk, he, hl, hne, f0, f1, f2, f3, f4⟩ := h.ho.is
  obtain ⟨ss, st⟩ := same_say hs hk
  have HX := hideIt (bhSay_any hx lb hp w hm hk)
  have HY := hideIt (fun w1 (m1 : RHM w1 hy wb2 bb d) => rhSay_any hy wb2 bb d w1 m1 hs.ok (fun e => by
    have ht : hp.take ≠ 0 := fun e2 => hk.going.1 e2 (by rw [← hs.state]; exact e)
    have := (hs.go ht).msg
    have := hk.b.long
    simp_all
    omega))
  rw [← st] at HY
  have HSL := hideIt (say_len hk)
  obtain ⟨T, hT⟩ : ∃ T, txt (sayH hp).2 = T := ⟨_, rfl⟩
  have hTs : T.size ≤ 200 := by rw [← hT, txt_size]; exact HSL.out
  rw [hT] at HX HY
  have HH := hideIt h
  have HM := hideIt (And.intro hm hr)
  have HE : Hid (EarOk (sayH hp).1.ear ∧ (rsayD d).1.ear.s.length ≤ u) := by
    have e1 : (sayH hp).1.ear = hp.ear := by unfold sayH; split <;> rfl
    have e2 : (rsayD d).1.ear = d.ear := by unfold rsayD; split <;> rfl
    rw [e1, e2]
    exact ⟨he, hl⟩
  have HS := hideIt (And.intro ss hk.sayH)
  have HF := hideIt (And.intro f0 (And.intro f1 (And.intro f2 (And.intro f3 f4))))
  clear h hT hm hr hs hk he hl ss st HSL f0 f1 f2 f3 f4
  go_enter Tryz.func33, Tryz.ntmps33
  go_wp2_with fail
  refine HX.out.mono ?_
  rintro e w1 ⟨rfl, hx1, hg1⟩
  have k1 : ChgP w w1 F := ChgP.of_grown hg1 HF.out.1
  have d4 : w1.cell? ⟨wb, 4, none⟩ = some (.slice (some ⟨gh, 0, none⟩) n cap) := (World.cell?_of_block (a := ⟨wb, 4, none⟩) (k1.block wb (World.block_lt_of_cell? _ _ c4) HH.out.nw)).trans c4
  have dy : w1.cell? ⟨gh, i * 3 + 1, none⟩ = some (.pointer (some ⟨hy, 0, none⟩)) := (World.cell?_of_block (a := ⟨gh, i * 3 + 1, none⟩) (k1.block gh (World.block_lt_of_cell? _ _ cx) HH.out.ng)).trans HH.out.cy
  have r1 : RHM w1 hy wb2 bb d := HM.out.2.kept (hg1.block _ HM.out.2.lt (by simpa using hne.1)) (hg1.block _ HM.out.2.ll.1 (by simpa using hne.2.1)) (hg1.block _ HM.out.2.ll.2 (by simpa using hne.2.2.1)) hg1.size
  have HG := hideIt (And.intro hx1 (And.intro r1 k1))
  clear hx1 hg1 k1 r1 c4 cx
  go_wp2_with fail
  refine (HY.out _ HG.out.2.1).mono ?_
  rintro e w2 ⟨rfl, hy2, hg2⟩
  have HZ := hideIt (And.intro hy2 hg2)
  clear hy2 hg2
  go_wp2
  go_ret2
  have g2 := HZ.out.2
  have m2 := HG.out.1.kept (g2.block hx HG.out.1.lt (by simpa using fun e => hne.1 e.symm)) (g2.block lb HG.out.1.ll (by simpa using hne.2.2.2)) g2.size
  exact ⟨⟨T, rfl, hTs⟩, ⟨lb, wb2, bb, _, _, m2, HZ.out.1, HS.out.1, HS.out.2, HE.out.1, HE.out.2, hne, HF.out⟩, HG.out.2.2.trans (ChgP.of_grown g2 HF.out.2.2.1)⟩
end Go.Proofs.YthokdbcpkmcieaaGreat
namespace Go.Proofs.YthokdbcpkmcieaaGreat
open Go Go.RowKit
attribute [local go_sem ↓] Go.wp_at_zero Go.wp_at_succ
theorem hear_earF (l : List (List UInt8)) : ∀ h : Hst, (l.foldl hearsH h).ear = h.ear := by
  induction l with
  | nil => intro h; rfl
  | cons m l ih =>
    intro h
    rw [List.foldl_cons, ih]
    unfold hearsH
    split
    · rfl
    · split
      · unfold takesH goOnH endPageH askPageH askReadH
        repeat (first | rfl | split | (unfold goOnH askPageH askReadH))
      · rfl
set_option maxRecDepth 100000 in
set_option maxHeartbeats 4000000 in
theorem ltold_any (wb gh n cap i hx hy : Nat) (F : Nat → Prop) (u : Nat) (S : ByteArray) (w : World) (h : LH w wb gh n cap i hx hy F u) (hs : u + S.size ≤ 4000000000000 ∧ S.size ≤ 4000000) :
    Calls Tryz.prog 35 #[.pointer (some ⟨wb, 0, none⟩), .int .i64 (i : Int), .string S] w fun e w' => e = .returned (.bool true) ∧ HoAt w' hx hy F (u + S.size) ∧ ChgP w w' F := by
  have c4 := h.c4
  have cx := h.cx
  have hii : (i : Int) < (n : Int) := by have := h.hi; omega
  have hni : (n : Int) ≤ 4 := by have := h.hn; omega
  have hlen : S.data.toList.length = S.size := by rw [Array.length_toList]; rfl
  obtain ⟨lb, wb2, bb, hp, d, hm, hr, hsm, hk, he, hl, hne, f0, f1, f2, f3, f4⟩ := h.ho.is
  have HX := hideIt (bhHear_any hx lb hp S w hm hk hs.2)
  have HY := hideIt (fun w1 (m1 : RHM w1 hy wb2 bb d) => rhHear_any hy wb2 bb hp d S w1 m1 hsm hk he (by omega))
  have HE : Hid (EarOk (hearH hp S.data.toList).ear ∧ HOk (hearH hp S.data.toList) ∧ (rHearF d.ear S.data.toList).1.s.length ≤ u + S.size) := by
    have e1 : (hearH hp S.data.toList).ear = (hearF hp.ear S.data.toList).1 := by unfold hearH; rw [hear_earF]; rfl
    rw [e1]
    exact ⟨hearF_ok he _, hk.hearH _, by have := rHearF_len d.ear S.data.toList; omega⟩
  have HS1 := hideIt (fun w1 (m1 : HstM w1 hx lb (hearH hp S.data.toList)) => bhState_any hx lb _ w1 m1)
  have HS2 := hideIt (fun d' w1 (m1 : RHM w1 hy wb2 bb d') => rhState_any hy wb2 bb d' w1 m1)
  have HH := hideIt h
  have HM := hideIt (And.intro hm hr)
  have HF := hideIt (And.intro f0 (And.intro f1 (And.intro f2 (And.intro f3 f4))))
  obtain ⟨h', hh'⟩ : ∃ h', hearH hp S.data.toList = h' := ⟨_, rfl⟩
  rw [hh'] at HX HE HS1
  simp only [hh'] at HY
  clear h hm hr hsm hk he hl f0 f1 f2 f3 f4 hh' hs hlen
  go_enter Tryz.func35, Tryz.ntmps35
  go_wp2_with fail
  refine HX.out.mono ?_
  rintro e w1 ⟨rfl, hx1, hg1⟩
  have k1 : ChgP w w1 F := ChgP.of_grown hg1 HF.out.1
  have cy := HH.out.cy
  have lw := World.block_lt_of_cell? _ _ c4
  have lg := World.block_lt_of_cell? _ _ cx
  have e1 := k1.block wb lw HH.out.nw
  have e2 := k1.block gh lg HH.out.ng
  have d4 : w1.cell? ⟨wb, 4, none⟩ = some (.slice (some ⟨gh, 0, none⟩) n cap) := (World.cell?_of_block (a := ⟨wb, 4, none⟩) e1).trans c4
  have dx : w1.cell? ⟨gh, i * 3, none⟩ = some (.pointer (some ⟨hx, 0, none⟩)) := (World.cell?_of_block (a := ⟨gh, i * 3, none⟩) e2).trans cx
  have dy : w1.cell? ⟨gh, i * 3 + 1, none⟩ = some (.pointer (some ⟨hy, 0, none⟩)) := (World.cell?_of_block (a := ⟨gh, i * 3 + 1, none⟩) e2).trans cy
  have r1 : RHM w1 hy wb2 bb d := HM.out.2.kept (hg1.block _ HM.out.2.lt (by simpa using hne.1)) (hg1.block _ HM.out.2.ll.1 (by simpa using hne.2.1)) (hg1.block _ HM.out.2.ll.2 (by simpa using hne.2.2.1)) hg1.size
  have HG := hideIt (And.intro hx1 (And.intro r1 k1))
  clear hx1 hg1 k1 r1 c4 cx cy e1 e2 lw lg
  go_wp2_with fail
  refine (HY.out _ HG.out.2.1).mono ?_
  rintro e w2 ⟨rfl, ⟨d', hy2, hs2, hd2⟩, hg2⟩
  have k2 : ChgP w1 w2 F := ChgP.of_grown hg2 HF.out.2.2.1
  have lw := World.block_lt_of_cell? _ _ d4
  have lg := World.block_lt_of_cell? _ _ dx
  have e1 := k2.block wb lw HH.out.nw
  have e2 := k2.block gh lg HH.out.ng
  have x4 : w2.cell? ⟨wb, 4, none⟩ = some (.slice (some ⟨gh, 0, none⟩) n cap) := (World.cell?_of_block (a := ⟨wb, 4, none⟩) e1).trans d4
  have xx : w2.cell? ⟨gh, i * 3, none⟩ = some (.pointer (some ⟨hx, 0, none⟩)) := (World.cell?_of_block (a := ⟨gh, i * 3, none⟩) e2).trans dx
  have xy : w2.cell? ⟨gh, i * 3 + 1, none⟩ = some (.pointer (some ⟨hy, 0, none⟩)) := (World.cell?_of_block (a := ⟨gh, i * 3 + 1, none⟩) e2).trans dy
  have m2 := HG.out.1.kept (hg2.block hx HG.out.1.lt (by simpa using fun e => hne.1 e.symm)) (hg2.block lb HG.out.1.ll (by simpa using hne.2.2.2)) hg2.size
  have hst := hs2.state
  have HZ := hideIt (And.intro m2 (And.intro hy2 (And.intro hs2 (And.intro hd2 k2))))
  clear m2 hy2 hs2 hd2 hg2 k2 d4 dx dy e1 e2 lw lg
  go_wp2_with fail
  refine (HS1.out _ HZ.out.1).mono ?_
  rintro e w3 ⟨rfl, rfl⟩
  go_wp2_with fail
  refine (HS2.out d' _ HZ.out.2.1).mono ?_
  rintro e w4 ⟨rfl, rfl⟩
  have hsti : (d'.state : Int) = (h'.state : Int) := by rw [hst]
  go_wp2
  go_ret
  obtain ⟨z1, z2, z3, z4, z5⟩ := HZ.out
  refine ⟨?_, ⟨lb, wb2, bb, _, _, z1, z2, z3, HE.out.2.1, HE.out.1, by rw [z4]; exact HE.out.2.2, hne, HF.out⟩, HG.out.2.2.trans z5⟩
  simp
theorem bhear_len {b : Brd} (h : TOk b.mem b.talk) (l : List UInt8) : (bhearF b l).2.length ≤ 200 * l.length := by
  have h1 := (answers_len b.pow b.mem b.talk (hearF b.ear l).2 h (hearF b.ear l).2.length (Nat.le_refl _)).2
  rw [List.take_length] at h1
  have h2 := hearF_count b.ear l
  unfold bhearF
  split
  · simp
  · simp only
    split <;> (simp only; omega)
set_option maxRecDepth 100000 in
set_option maxHeartbeats 4000000 in
theorem lhears_b (wb gb cap i : Nat) (o : Bo) (b : Brd) (u : Nat) (S : ByteArray) (w : World) (h : LF w wb gb cap i o b u) (hs : u + S.size ≤ 4000000000000 ∧ S.size ≤ 4000000) :
    Calls Tryz.prog 22 #[.pointer (some ⟨wb, 0, none⟩), .int .i64 (i : Int), .string S] w fun e w' => (∃ T : ByteArray, e = .returned (.tuple #[.string T, .bool true]) ∧ T.size ≤ 200 * S.size) ∧ (∃ b', Pr w' o b' (u + S.size)) ∧ Chg w w' o.own := by
  have c3 := h.c3
  have cx := h.cx
  have hii : (i : Int) < 2 := by have := h.hi; omega
  have hlen : S.data.toList.length = S.size := by rw [Array.length_toList]; rfl
  have HX := hideIt (bbHear_any o.x b S w h.pr.px (by omega))
  have HY := hideIt (fun w1 (hg : w.grownBy w1 (some o.x)) => rbhear_any o.rb o.fb o.jb b u (u + S.size) S w1 (h.pr.first hg) hs.1 (by omega) (fun r hr => by have := rHearF_len r S.data.toList; omega))
  have hTl := bhear_len h.pr.ry.ok S.data.toList
  rw [hlen] at hTl
  obtain ⟨T, hT⟩ : ∃ T, txt (bhearF b S.data.toList).2 = T := ⟨_, rfl⟩
  have hTs : T.size ≤ 200 * S.size := by rw [← hT, txt_size]; exact hTl
  rw [hT] at HX HY
  obtain ⟨b', hb'⟩ : ∃ b', (bhearF b S.data.toList).1 = b' := ⟨_, rfl⟩
  rw [hb'] at HX HY
  have HH := hideIt h
  have hl1 : wb < w.heap.size := World.block_lt_of_cell? _ _ h.c3
  have hl2 : gb < w.heap.size := World.block_lt_of_cell? _ _ h.cx
  have HTS := hideIt hTs
  clear h hT hb' hTl hTs
  go_enter Tryz.func22, Tryz.ntmps22
  go_wp2_with fail
  refine HX.out.mono ?_
  rintro e w1 ⟨rfl, hx1, hg1⟩
  have k1 : Chg w w1 o.own := Chg.of_grown hg1 (by simp [Bo.own])
  have d3 : w1.cell? ⟨wb, 3, none⟩ = some (.slice (some ⟨gb, 0, none⟩) 2 cap) := (World.cell?_of_block (a := ⟨wb, 3, none⟩) (k1.block wb hl1 HH.out.hw)).trans c3
  have dy : w1.cell? ⟨gb, i * 3 + 1, none⟩ = some (.pointer (some ⟨o.rb, 0, none⟩)) := (World.cell?_of_block (a := ⟨gb, i * 3 + 1, none⟩) (k1.block gb hl2 HH.out.hg)).trans HH.out.cy
  have HG := hideIt (And.intro hx1 (And.intro hg1 k1))
  clear hx1 hg1 k1 c3 cx
  go_wp2_with fail
  refine (HY.out _ HG.out.2.1).mono ?_
  rintro e w2 ⟨rfl, hy2, hg2⟩
  have HZ := hideIt (And.intro hy2 hg2)
  clear hy2 hg2
  go_wp2
  go_ret2
  refine ⟨⟨_, rfl, HTS.out⟩, ⟨b', Pr.second HG.out.1 HH.out.pr.ne HZ.out.1 HZ.out.2⟩, HG.out.2.2.trans (Chg.of_g3 HZ.out.2 ?_ ?_ ?_)⟩
  all_goals simp [Bo.own]
end Go.Proofs.YthokdbcpkmcieaaGreat
namespace Go.Proofs.YthokdbcpkmcieaaGreat
open Go Go.RowKit
/-- One of the law's hosts: the program's, the document's, what is on its way. -/
structure HR where
  x : Nat
  y : Nat
  v : Value
def hrCells (r : HR) : List Value := [.pointer (some ⟨r.x, 0, none⟩), .pointer (some ⟨r.y, 0, none⟩), r.v]
theorem flat_get : ∀ (l : List HR) (i j : Nat) (hi : i < l.length), j < 3 → (l.flatMap hrCells)[i * 3 + j]? = (hrCells l[i])[j]?
  | [], i, j, hi, _ => absurd hi (Nat.not_lt_zero _)
  | r :: l, 0, j, _, hj => by
    rw [List.flatMap_cons, List.getElem?_append_left (by simp only [hrCells, List.length_cons, List.length_nil]; omega)]
    simp
  | r :: l, i + 1, j, hi, hj => by
    rw [List.flatMap_cons, List.getElem?_append_right (by simp only [hrCells, List.length_cons, List.length_nil]; omega)]
    have : (i + 1) * 3 + j - (hrCells r).length = i * 3 + j := by simp only [hrCells, List.length_cons, List.length_nil]; omega
    rw [this, flat_get l i j (by simpa using hi) hj]
    simp
theorem flat_set : ∀ (l : List HR) (i : Nat) (hi : i < l.length) (v : Value), (l.flatMap hrCells).set (i * 3 + 2) v = (l.set i ⟨l[i].x, l[i].y, v⟩).flatMap hrCells
  | [], i, hi, _ => absurd hi (Nat.not_lt_zero _)
  | r :: l, 0, _, v => by
    rw [List.flatMap_cons, List.set_append_left _ _ (by simp only [hrCells, List.length_cons, List.length_nil]; omega)]
    simp [hrCells]
  | r :: l, i + 1, hi, v => by
    rw [List.flatMap_cons, List.set_append_right _ _ (by simp only [hrCells, List.length_cons, List.length_nil]; omega)]
    have : (i + 1) * 3 + 2 - (hrCells r).length = i * 3 + 2 := by simp only [hrCells, List.length_cons, List.length_nil]; omega
    rw [this, flat_set l i (by simpa using hi) v]
    simp
theorem own_put3 {w : World} {B : Nat} {e : TypeId} {size n : Nat} {g cap : Nat} {xs : List Value} (h : w.ownsRow B e size (.slice (some ⟨g, 0, none⟩) n cap) n xs) {k : Nat} (u : Value) : (w.setCell ⟨g, k, none⟩ u).ownsRow B e size (.slice (some ⟨g, 0, none⟩) n cap) n (xs.set k u) := by
  obtain ⟨hl, ⟨e1, _⟩ | ⟨g', cap', cur, e1, hg, hh, h3, h4, h5, h6⟩⟩ := h
  · cases e1
  · cases e1
    refine ⟨by rw [List.length_set]; exact hl, .inr ⟨g, cap, cur.setIfInBounds k u, rfl, hg, heap_setCell_same w g k cur e u hh, h3, h4, by rw [Array.size_setIfInBounds]; exact h5, ?_⟩⟩
    rw [Array.toList_setIfInBounds, List.take_set, h6]
/-- The law's state. -/
structure HW (w wr : World) (wb gb gcap : Nat) (o : Nat → Bo) (col : Nat → Nat) (bv : Nat → Value) (hs : List HR) (hv i0 i1 i2 : Value) (im : Img) (nb : Nat → Nat) (u : Nat) : Prop where
  c0 : wr.cell? ⟨wb, 0, none⟩ = some i0
  c1 : wr.cell? ⟨wb, 1, none⟩ = some i1
  c2 : wr.cell? ⟨wb, 2, none⟩ = some i2
  c3 : wr.cell? ⟨wb, 3, none⟩ = some (.slice (some ⟨gb, 0, none⟩) 2 gcap)
  c4 : wr.cell? ⟨wb, 4, none⟩ = some hv
  fw : ∀ j, wr.frozen? ⟨wb, j, none⟩ = false
  gx : ∀ i, i < 2 → wr.cell? ⟨gb, i * 3, none⟩ = some (.pointer (some ⟨(o i).x, 0, none⟩))
  gy : ∀ i, i < 2 → wr.cell? ⟨gb, i * 3 + 1, none⟩ = some (.pointer (some ⟨(o i).rb, 0, none⟩))
  gv : ∀ i, i < 2 → wr.cell? ⟨gb, i * 3 + 2, none⟩ = some (bv i)
  fg : ∀ j, wr.frozen? ⟨gb, j, none⟩ = false
  row : wr.ownsRow (wb + 1) 89 3 hv hs.length (hs.flatMap hrCells)
  pr : ∀ i, i < 2 → ∃ b, Pr wr (o i) b u
  bw : ∀ i, i < 2 → ∃ n, n ≤ nb (20 + i) ∧ Way wr (bv i) n 200
  ho : ∀ i (h : i < hs.length), HoAt wr hs[i].x hs[i].y (fun k => col k = 30 + i) u
  hw : ∀ i (h : i < hs.length), ∃ n, n ≤ nb (40 + i) ∧ Way wr hs[i].v n 40000
  img : ImgAt wr i0 i1 i2 im
  few : hs.length ≤ 4
  kw : col wb = 1
  kg : col gb = 2
  kh : ∀ g, hv.ownBlock = some g → col g = 3
  kb : ∀ i, i < 2 → ∀ k ∈ (o i).own, col k = 10 + i
  kv : ∀ i, i < 2 → ∀ g, (bv i).ownBlock = some g → col g = 20 + i ∧ g < wr.heap.size
  ks : ∀ i (h : i < hs.length) g, hs[i].v.ownBlock = some g → col g = 40 + i ∧ g < wr.heap.size
  ki : ∀ g, (i0.ownBlock = some g ∨ i1.ownBlock = some g ∨ i2.ownBlock = some g) → col g = 4 ∧ g < wr.heap.size
  old : ∀ k, k < w.heap.size → col k = 0
  below : Below w.heap.size w wr
section
variable {w wr w' : World} {wb gb gcap : Nat} {o : Nat → Bo} {col : Nat → Nat} {bv : Nat → Value} {hs : List HR} {hv i0 i1 i2 : Value} {im : Img} {nb : Nat → Nat} {u v : Nat}
theorem SlV.keptC {w w' : World} {v : Value} {xs : List Value} (h : SlV w v xs) (hb : ∀ g, g < w.heap.size → v.ownBlock = some g → w'.heap[g]? = w.heap[g]?) (hz : w.heap.size ≤ w'.heap.size) : SlV w' v xs := by
  obtain ⟨a, cap, h1, h2, h3, h4⟩ := h.is
  refine ⟨a, cap, h1, h2, h3, fun hl => ?_⟩
  obtain ⟨b, off, e1, e2, e3⟩ := h4 hl
  have e := hb b e2 (by rw [h1, e1]; rfl)
  exact ⟨b, off, e1, Nat.lt_of_lt_of_le e2 hz, fun i hi => (World.cell?_of_block (a := ⟨b, off + i, none⟩) e).trans (e3 i hi)⟩
/-- Blocks of colours of boards, hosts and ways alone have changed. -/
theorem HW.upd (h : HW w wr wb gb gcap o col bv hs hv i0 i1 i2 im nb u) (C : Nat → Prop) (hC : ∀ c, C c → 10 ≤ c) (hc : ChgP wr w' (fun k => C (col k))) (huv : u ≤ v)
    (pr' : ∀ i, i < 2 → C (10 + i) → ∃ b, Pr w' (o i) b v) (bw' : ∀ i, i < 2 → C (20 + i) → ∃ n, n ≤ nb (20 + i) ∧ Way w' (bv i) n 200)
    (ho' : ∀ i (h : i < hs.length), C (30 + i) → HoAt w' hs[i].x hs[i].y (fun k => col k = 30 + i) v) (hw' : ∀ i (h : i < hs.length), C (40 + i) → ∃ n, n ≤ nb (40 + i) ∧ Way w' hs[i].v n 40000) :
    HW w w' wb gb gcap o col bv hs hv i0 i1 i2 im nb v := by
  have hz := hc.size
  have hwl : wb < wr.heap.size := World.block_lt_of_cell? _ _ h.c3
  have hgl : gb < wr.heap.size := World.block_lt_of_cell? _ _ (h.gx 0 (by decide))
  have low : ∀ {c}, c < 10 → ¬ C c := fun hc e => by have := hC _ e; omega
  have ew : w'.heap[wb]? = wr.heap[wb]? := hc.block wb hwl (by rw [h.kw]; exact low (by decide))
  have eg : w'.heap[gb]? = wr.heap[gb]? := hc.block gb hgl (by rw [h.kg]; exact low (by decide))
  have cw : ∀ j, w'.cell? ⟨wb, j, none⟩ = wr.cell? ⟨wb, j, none⟩ := fun j => World.cell?_of_block (a := ⟨wb, j, none⟩) ew
  have cg : ∀ j, w'.cell? ⟨gb, j, none⟩ = wr.cell? ⟨gb, j, none⟩ := fun j => World.cell?_of_block (a := ⟨gb, j, none⟩) eg
  have same : ∀ k c, k < wr.heap.size → col k = c → ¬ C c → w'.heap[k]? = wr.heap[k]? := fun k c hk e hn => hc.block k hk (by rw [e]; exact hn)
  refine ⟨(cw 0).trans h.c0, (cw 1).trans h.c1, (cw 2).trans h.c2, (cw 3).trans h.c3, (cw 4).trans h.c4, fun j => (World.frozen?_of_block (a := ⟨wb, j, none⟩) ew).trans (h.fw j), fun i hi => (cg _).trans (h.gx i hi), fun i hi => (cg _).trans (h.gy i hi), fun i hi => (cg _).trans (h.gv i hi), fun j => (World.frozen?_of_block (a := ⟨gb, j, none⟩) eg).trans (h.fg j), ?_, ?_, ?_, ?_, ?_, ?_, h.few, h.kw, h.kg, h.kh, h.kb, fun i hi g e => ⟨(h.kv i hi g e).1, Nat.lt_of_lt_of_le (h.kv i hi g e).2 hz⟩, fun i hi g e => ⟨(h.ks i hi g e).1, Nat.lt_of_lt_of_le (h.ks i hi g e).2 hz⟩, fun g e => ⟨(h.ki g e).1, Nat.lt_of_lt_of_le (h.ki g e).2 hz⟩, h.old, ?_⟩
  · exact own_atE h.row (fun g hg => same g 3 (h.row.lt g hg).2 (h.kh g hg) (low (by decide)))
  · intro i hi
    by_cases e : C (10 + i)
    · exact pr' i hi e
    · obtain ⟨b, hb⟩ := h.pr i hi
      exact ⟨b, (hb.kept (fun k hk => same k _ (hb.lt k hk) (h.kb i hi k hk) e) hz).le huv⟩
  · intro i hi
    by_cases e : C (20 + i)
    · exact bw' i hi e
    · obtain ⟨n, hn, hb⟩ := h.bw i hi
      exact ⟨n, hn, hb.kept (fun g hg eg => same g _ hg (h.kv i hi g eg).1 e) hz⟩
  · intro i hi
    by_cases e : C (30 + i)
    · exact ho' i hi e
    · exact ((h.ho i hi).kept (fun k hk ek => same k _ hk ek e) hz).le huv
  · intro i hi
    by_cases e : C (40 + i)
    · exact hw' i hi e
    · obtain ⟨n, hn, hb⟩ := h.hw i hi
      exact ⟨n, hn, hb.kept (fun g hg eg => same g _ hg (h.ks i hi g eg).1 e) hz⟩
  · exact ⟨h.img.b.keptC (fun g hg e => same g 4 hg (h.ki g (.inl e)).1 (low (by decide))) hz, h.img.l.keptC (fun g hg e => same g 4 hg (h.ki g (.inr (.inl e))).1 (low (by decide))) hz, h.img.s.keptC (fun g hg e => same g 4 hg (h.ki g (.inr (.inr e))).1 (low (by decide))) hz⟩
  · exact ⟨hc.os.trans h.below.os, hc.tape.trans h.below.tape, hc.output.trans h.below.output, Nat.le_trans h.below.size hz, fun k hk => (same k 0 (Nat.lt_of_lt_of_le hk h.below.size) (h.old k hk) (low (by decide))).trans (h.below.block k hk)⟩
theorem HW.grow (h : HW w wr wb gb gcap o col bv hs hv i0 i1 i2 im nb u) (hb : Below wr.heap.size wr w') : HW w w' wb gb gcap o col bv hs hv i0 i1 i2 im nb u :=
  h.upd (fun _ => False) (fun _ e => e.elim) (ChgP.of_below _ hb) (Nat.le_refl _) (fun _ _ e => e.elim) (fun _ _ e => e.elim) (fun _ _ e => e.elim) (fun _ _ e => e.elim)
theorem HW.le (h : HW w wr wb gb gcap o col bv hs hv i0 i1 i2 im nb u) (huv : u ≤ v) : HW w wr wb gb gcap o col bv hs hv i0 i1 i2 im nb v :=
  h.upd (fun _ => False) (fun _ e => e.elim) (ChgP.refl _ _) huv (fun _ _ e => e.elim) (fun _ _ e => e.elim) (fun _ _ e => e.elim) (fun _ _ e => e.elim)
theorem HW.board (h : HW w wr wb gb gcap o col bv hs hv i0 i1 i2 im nb u) (i : Nat) (hi : i < 2) : ∃ b, LF wr wb gb gcap i (o i) b u := by
  obtain ⟨b, hb⟩ := h.pr i hi
  exact ⟨b, h.c3, h.gx i hi, h.gy i hi, hb, fun e => by have := h.kb i hi _ e; rw [h.kw] at this; omega, fun e => by have := h.kb i hi _ e; rw [h.kg] at this; omega, hi⟩
/-- A board has done something. -/
theorem HW.actB (h : HW w wr wb gb gcap o col bv hs hv i0 i1 i2 im nb u) (i : Nat) (hi : i < 2) (hp : ∃ b', Pr w' (o i) b' v) (hc : Chg wr w' (o i).own) (huv : u ≤ v) : HW w w' wb gb gcap o col bv hs hv i0 i1 i2 im nb v := by
  refine h.upd (fun c => c = 10 + i) (fun c e => by omega) ⟨hc.os, hc.tape, hc.output, hc.size, fun k hk e => hc.block k hk (fun m => e (h.kb i hi k m))⟩ huv ?_ (fun j hj e => by omega) (fun j hj e => by have := h.few; omega) (fun j hj e => by have := h.few; omega)
  intro j _ e
  have ej : j = i := by omega
  subst ej
  exact hp
/-- A host has done something. -/
theorem HW.actH (h : HW w wr wb gb gcap o col bv hs hv i0 i1 i2 im nb u) (i : Nat) (hi : i < hs.length) (hp : HoAt w' hs[i].x hs[i].y (fun k => col k = 30 + i) v) (hc : ChgP wr w' (fun k => col k = 30 + i)) (huv : u ≤ v) : HW w w' wb gb gcap o col bv hs hv i0 i1 i2 im nb v := by
  refine h.upd (fun c => c = 30 + i) (fun c e => by omega) hc huv (fun j hj e => by omega) (fun j hj e => by omega) ?_ (fun j hj e => by have := h.few; omega)
  intro j hj e
  have ej : j = i := by omega
  subst ej
  exact hp
theorem HW.host (h : HW w wr wb gb gcap o col bv hs hv i0 i1 i2 im nb u) (i : Nat) (hi : i < hs.length) : ∃ gh hcap, hv = .slice (some ⟨gh, 0, none⟩) hs.length hcap ∧ LH wr wb gh hs.length hcap i hs[i].x hs[i].y (fun k => col k = 30 + i) u ∧ wr.cell? ⟨gh, i * 3 + 2, none⟩ = some hs[i].v ∧ (∀ j, wr.frozen? ⟨gh, j, none⟩ = false) ∧ col gh = 3 := by
  obtain ⟨gh, hcap, rfl, h1, h2⟩ := own_some h.row (by omega)
  have hc : ∀ j x, (hs.flatMap hrCells)[j]? = some x → wr.cell? ⟨gh, j, none⟩ = some x := fun j x hx => by
    have := h.row.cells (g := gh) rfl j x hx
    rwa [Addr.add_lit, Nat.zero_add] at this
  have hk := h.kh gh rfl
  refine ⟨gh, hcap, rfl, ⟨h.c4, hc _ _ ?_, hc _ _ ?_, h.ho i hi, by simp only [h.kw]; omega, by simp only [hk]; omega, hi, h.few⟩, hc _ _ ?_, fun j => ?_, hk⟩
  · have := flat_get hs i 0 hi (by decide)
    rwa [Nat.add_zero] at this
  · exact flat_get hs i 1 hi (by decide)
  · exact flat_get hs i 2 hi (by decide)
  · obtain ⟨_, ⟨e1, _⟩ | ⟨g', cap', cur, e1, hg, hh, _⟩⟩ := h.row
    · cases e1
    · cases e1
      exact frozen_of_row _ _ _ _ _ hh
end
end Go.Proofs.YthokdbcpkmcieaaGreat
namespace Go.Proofs.YthokdbcpkmcieaaGreat
open Go Go.RowKit
theorem HoAt.recol {w : World} {hx hy : Nat} {F G : Nat → Prop} {u : Nat} (h : HoAt w hx hy F u) (hg : ∀ k, k < w.heap.size → F k → G k) : HoAt w hx hy G u := by
  obtain ⟨lb, wb, bb, h, d, m, r, s, k, e, l, n, f0, f1, f2, f3, f4⟩ := h.is
  exact ⟨lb, wb, bb, h, d, m, r, s, k, e, l, n, hg _ m.lt f0, hg _ m.ll f1, hg _ r.lt f2, hg _ r.ll.1 f3, hg _ r.ll.2 f4⟩
/-- The blocks from n on have the colour c. -/
def recol (col : Nat → Nat) (n c : Nat) : Nat → Nat := fun k => if k < n then col k else c
theorem recol_lt {col : Nat → Nat} {n c k : Nat} (h : k < n) : recol col n c k = col k := if_pos h
theorem recol_ge {col : Nat → Nat} {n c k : Nat} (h : n ≤ k) : recol col n c k = c := if_neg (by omega)
section
variable {w wr w' : World} {wb gb gcap : Nat} {o : Nat → Bo} {col : Nat → Nat} {bv : Nat → Value} {hs : List HR} {hv i0 i1 i2 : Value} {im : Img} {nb : Nat → Nat} {u v : Nat}
theorem HW.recol (h : HW w wr wb gb gcap o col bv hs hv i0 i1 i2 im nb u) (c : Nat) : HW w wr wb gb gcap o (recol col wr.heap.size c) bv hs hv i0 i1 i2 im nb u := by
  have hwl : wb < wr.heap.size := World.block_lt_of_cell? _ _ h.c3
  have hgl : gb < wr.heap.size := World.block_lt_of_cell? _ _ (h.gx 0 (by decide))
  exact ⟨h.c0, h.c1, h.c2, h.c3, h.c4, h.fw, h.gx, h.gy, h.gv, h.fg, h.row, h.pr, h.bw, fun i hi => (h.ho i hi).recol (fun k hk e => by rw [recol_lt hk]; exact e), h.hw, h.img, h.few, by rw [recol_lt hwl]; exact h.kw, by rw [recol_lt hgl]; exact h.kg, fun g e => by rw [recol_lt (h.row.lt g e).2]; exact h.kh g e, fun i hi k hk => by obtain ⟨b, hb⟩ := h.pr i hi; rw [recol_lt (hb.lt k hk)]; exact h.kb i hi k hk, fun i hi g e => ⟨by rw [recol_lt (h.kv i hi g e).2]; exact (h.kv i hi g e).1, (h.kv i hi g e).2⟩, fun i hi g e => ⟨by rw [recol_lt (h.ks i hi g e).2]; exact (h.ks i hi g e).1, (h.ks i hi g e).2⟩, fun g e => ⟨by rw [recol_lt (h.ki g e).2]; exact (h.ki g e).1, (h.ki g e).2⟩, fun k hk => by rw [recol_lt (Nat.lt_of_lt_of_le hk h.below.size)]; exact h.old k hk, h.below⟩
/-- A board's way is stored. -/
theorem HW.setB {wn : World} (h : HW w wr wb gb gcap o col bv hs hv i0 i1 i2 im nb u) (i : Nat) (hi : i < 2) (hc : ChgP wr wn (fun k => col k = 20 + i)) (x : Value) (n : Nat) (hn : n ≤ nb (20 + i)) (hx : Way wn x n 200) (hk : ∀ g, x.ownBlock = some g → col g = 20 + i ∧ g < wn.heap.size) :
    HW w (wn.setCell ⟨gb, i * 3 + 2, none⟩ x) wb gb gcap o col (fun j => if j = i then x else bv j) hs hv i0 i1 i2 im nb u := by
  have hz : (wn.setCell ⟨gb, i * 3 + 2, none⟩ x).heap.size = wn.heap.size := by simp [World.setCell]
  have hzz : wr.heap.size ≤ (wn.setCell ⟨gb, i * 3 + 2, none⟩ x).heap.size := by rw [hz]; exact hc.size
  have nes : ∀ {k c}, col k = c → c ≠ 2 → (wn.setCell ⟨gb, i * 3 + 2, none⟩ x).heap[k]? = wn.heap[k]? := fun {k c} e hc => heap_setCell_other wn ⟨gb, i * 3 + 2, none⟩ k x (fun e2 => by have e3 : k = gb := e2; rw [e3, h.kg] at e; exact hc e.symm)
  have ne : ∀ {k c}, k < wr.heap.size → col k = c → c ≠ 2 → c ≠ 20 + i → (wn.setCell ⟨gb, i * 3 + 2, none⟩ x).heap[k]? = wr.heap[k]? := fun {k c} hk e h2 h3 => (nes e h2).trans (hc.block k hk (fun e2 => h3 (e.symm.trans e2)))
  have hwl : wb < wr.heap.size := World.block_lt_of_cell? _ _ h.c3
  have hgl : gb < wr.heap.size := World.block_lt_of_cell? _ _ (h.gx 0 (by decide))
  have ew := ne hwl h.kw (by decide) (by omega)
  have eg : wn.heap[gb]? = wr.heap[gb]? := hc.block gb hgl (by rw [h.kg]; omega)
  have cw : ∀ j, (wn.setCell ⟨gb, i * 3 + 2, none⟩ x).cell? ⟨wb, j, none⟩ = wr.cell? ⟨wb, j, none⟩ := fun j => World.cell?_of_block (a := ⟨wb, j, none⟩) ew
  have cg : ∀ j, wn.cell? ⟨gb, j, none⟩ = wr.cell? ⟨gb, j, none⟩ := fun j => World.cell?_of_block (a := ⟨gb, j, none⟩) eg
  refine ⟨(cw 0).trans h.c0, (cw 1).trans h.c1, (cw 2).trans h.c2, (cw 3).trans h.c3, (cw 4).trans h.c4, fun j => (World.frozen?_of_block (a := ⟨wb, j, none⟩) ew).trans (h.fw j), fun j hj => (World.cell?_setCell_other _ _ _ _ (by simp <;> omega)).trans ((cg _).trans (h.gx j hj)), fun j hj => (World.cell?_setCell_other _ _ _ _ (by simp <;> omega)).trans ((cg _).trans (h.gy j hj)), ?_, fun j => by have := (World.frozen?_of_block (a := ⟨gb, j, none⟩) eg).trans (h.fg j); simp [this], own_atE h.row (fun g hg => ne (h.row.lt g hg).2 (h.kh g hg) (by decide) (by omega)), ?_, ?_, ?_, ?_, ?_, h.few, h.kw, h.kg, h.kh, h.kb, ?_, fun j hj g e => ⟨(h.ks j hj g e).1, Nat.lt_of_lt_of_le (h.ks j hj g e).2 hzz⟩, fun g e => ⟨(h.ki g e).1, Nat.lt_of_lt_of_le (h.ki g e).2 hzz⟩, h.old, ?_⟩
  · intro j hj
    by_cases e : j = i
    · subst e
      simp only [if_true]
      exact World.cell?_setCell_same _ _ _ ((cg _).trans (h.gv j hj))
    · simp only [if_neg e]
      exact (World.cell?_setCell_other _ _ _ _ (by simp <;> omega)).trans ((cg _).trans (h.gv j hj))
  · intro j hj
    obtain ⟨b, hb⟩ := h.pr j hj
    exact ⟨b, hb.kept (fun k hk => ne (hb.lt k hk) (h.kb j hj k hk) (by omega) (by omega)) hzz⟩
  · intro j hj
    by_cases e : j = i
    · subst e
      simp only [if_true]
      exact ⟨n, hn, hx.kept (fun g _ e => nes (hk g e).1 (by omega)) (by rw [hz]; exact Nat.le_refl _)⟩
    · simp only [if_neg e]
      obtain ⟨m, hm, hb⟩ := h.bw j hj
      exact ⟨m, hm, hb.kept (fun g hg e => ne hg (h.kv j hj g e).1 (by omega) (by omega)) hzz⟩
  · intro j hj
    exact (h.ho j hj).kept (fun k hk e => ne hk e (by omega) (by omega)) hzz
  · intro j hj
    obtain ⟨m, hm, hb⟩ := h.hw j hj
    exact ⟨m, hm, hb.kept (fun g hg e => ne hg (h.ks j hj g e).1 (by omega) (by omega)) hzz⟩
  · exact ⟨h.img.b.keptC (fun g hg e => ne hg (h.ki g (.inl e)).1 (by decide) (by omega)) hzz, h.img.l.keptC (fun g hg e => ne hg (h.ki g (.inr (.inl e))).1 (by decide) (by omega)) hzz, h.img.s.keptC (fun g hg e => ne hg (h.ki g (.inr (.inr e))).1 (by decide) (by omega)) hzz⟩
  · intro j hj g e
    rw [hz]
    by_cases ej : j = i
    · subst ej
      simp only [if_true] at e
      exact hk g e
    · simp only [if_neg ej] at e
      exact ⟨(h.kv j hj g e).1, Nat.lt_of_lt_of_le (h.kv j hj g e).2 hc.size⟩
  · exact ⟨hc.os.trans h.below.os, hc.tape.trans h.below.tape, hc.output.trans h.below.output, Nat.le_trans h.below.size hzz, fun k hk => (ne (Nat.lt_of_lt_of_le hk h.below.size) (h.old k hk) (by decide) (by omega)).trans (h.below.block k hk)⟩
/-- A host's way is stored. -/
theorem HW.setH {wn : World} {gh hcap : Nat} (h : HW w wr wb gb gcap o col bv hs (.slice (some ⟨gh, 0, none⟩) hs.length hcap) i0 i1 i2 im nb u) (i : Nat) (hi : i < hs.length) (hc : ChgP wr wn (fun k => col k = 40 + i)) (x : Value) (n : Nat) (hn : n ≤ nb (40 + i)) (hx : Way wn x n 40000) (hk : ∀ g, x.ownBlock = some g → col g = 40 + i ∧ g < wn.heap.size) :
    HW w (wn.setCell ⟨gh, i * 3 + 2, none⟩ x) wb gb gcap o col bv (hs.set i ⟨hs[i].x, hs[i].y, x⟩) (.slice (some ⟨gh, 0, none⟩) hs.length hcap) i0 i1 i2 im nb u := by
  have hgh := h.kh gh rfl
  have hz : (wn.setCell ⟨gh, i * 3 + 2, none⟩ x).heap.size = wn.heap.size := by simp [World.setCell]
  have hzz : wr.heap.size ≤ (wn.setCell ⟨gh, i * 3 + 2, none⟩ x).heap.size := by rw [hz]; exact hc.size
  have hfew := h.few
  have nes : ∀ {k c}, col k = c → c ≠ 3 → (wn.setCell ⟨gh, i * 3 + 2, none⟩ x).heap[k]? = wn.heap[k]? := fun {k c} e hc => heap_setCell_other wn ⟨gh, i * 3 + 2, none⟩ k x (fun e2 => by have e3 : k = gh := e2; rw [e3, hgh] at e; exact hc e.symm)
  have ne : ∀ {k c}, k < wr.heap.size → col k = c → c ≠ 3 → c ≠ 40 + i → (wn.setCell ⟨gh, i * 3 + 2, none⟩ x).heap[k]? = wr.heap[k]? := fun {k c} hk e h2 h3 => (nes e h2).trans (hc.block k hk (fun e2 => h3 (e.symm.trans e2)))
  have hwl : wb < wr.heap.size := World.block_lt_of_cell? _ _ h.c3
  have hgl : gb < wr.heap.size := World.block_lt_of_cell? _ _ (h.gx 0 (by decide))
  have ew := ne hwl h.kw (by decide) (by omega)
  have eg := ne hgl h.kg (by decide) (by omega)
  have eh : wn.heap[gh]? = wr.heap[gh]? := hc.block gh (h.row.lt gh rfl).2 (by rw [hgh]; omega)
  have cw : ∀ j, (wn.setCell ⟨gh, i * 3 + 2, none⟩ x).cell? ⟨wb, j, none⟩ = wr.cell? ⟨wb, j, none⟩ := fun j => World.cell?_of_block (a := ⟨wb, j, none⟩) ew
  have cg : ∀ j, (wn.setCell ⟨gh, i * 3 + 2, none⟩ x).cell? ⟨gb, j, none⟩ = wr.cell? ⟨gb, j, none⟩ := fun j => World.cell?_of_block (a := ⟨gb, j, none⟩) eg
  have hl : (hs.set i ⟨hs[i].x, hs[i].y, x⟩).length = hs.length := List.length_set
  refine ⟨(cw 0).trans h.c0, (cw 1).trans h.c1, (cw 2).trans h.c2, (cw 3).trans h.c3, (cw 4).trans h.c4, fun j => (World.frozen?_of_block (a := ⟨wb, j, none⟩) ew).trans (h.fw j), fun j hj => (cg _).trans (h.gx j hj), fun j hj => (cg _).trans (h.gy j hj), fun j hj => (cg _).trans (h.gv j hj), fun j => (World.frozen?_of_block (a := ⟨gb, j, none⟩) eg).trans (h.fg j), ?_, ?_, ?_, ?_, ?_, ?_, by rw [hl]; exact h.few, h.kw, h.kg, h.kh, h.kb, fun j hj g e => ⟨(h.kv j hj g e).1, Nat.lt_of_lt_of_le (h.kv j hj g e).2 hzz⟩, ?_, fun g e => ⟨(h.ki g e).1, Nat.lt_of_lt_of_le (h.ki g e).2 hzz⟩, h.old, ?_⟩
  · rw [hl, ← flat_set hs i hi x]
    exact own_put3 (own_atE h.row (fun g hg => by
      have e : gh = g := by simpa [Value.ownBlock] using hg
      rw [← e]
      exact eh)) x
  · intro j hj
    obtain ⟨b, hb⟩ := h.pr j hj
    exact ⟨b, hb.kept (fun k hk => ne (hb.lt k hk) (h.kb j hj k hk) (by omega) (by omega)) hzz⟩
  · intro j hj
    obtain ⟨m, hm, hb⟩ := h.bw j hj
    exact ⟨m, hm, hb.kept (fun g hg e => ne hg (h.kv j hj g e).1 (by omega) (by omega)) hzz⟩
  · intro j hj
    have hj' : j < hs.length := by omega
    have e1 : (hs.set i ⟨hs[i].x, hs[i].y, x⟩)[j].x = hs[j].x ∧ (hs.set i ⟨hs[i].x, hs[i].y, x⟩)[j].y = hs[j].y := by
      rw [List.getElem_set]
      split
      · subst_vars; exact ⟨rfl, rfl⟩
      · exact ⟨rfl, rfl⟩
    rw [e1.1, e1.2]
    exact (h.ho j hj').kept (fun k hk e => ne hk e (by omega) (by omega)) hzz
  · intro j hj
    have hj' : j < hs.length := by omega
    rw [List.getElem_set]
    split
    · rename_i ei
      subst ei
      exact ⟨n, hn, hx.kept (fun g _ e => nes (hk g e).1 (by omega)) (by rw [hz]; exact Nat.le_refl _)⟩
    · obtain ⟨m, hm, hb⟩ := h.hw j hj'
      exact ⟨m, hm, hb.kept (fun g hg e => ne hg (h.ks j hj' g e).1 (by omega) (by omega)) hzz⟩
  · exact ⟨h.img.b.keptC (fun g hg e => ne hg (h.ki g (.inl e)).1 (by decide) (by omega)) hzz, h.img.l.keptC (fun g hg e => ne hg (h.ki g (.inr (.inl e))).1 (by decide) (by omega)) hzz, h.img.s.keptC (fun g hg e => ne hg (h.ki g (.inr (.inr e))).1 (by decide) (by omega)) hzz⟩
  · intro j hj g e
    have hj' : j < hs.length := by omega
    rw [hz]
    rw [List.getElem_set] at e
    split at e
    · rename_i ei
      subst ei
      exact hk g e
    · exact ⟨(h.ks j hj' g e).1, Nat.lt_of_lt_of_le (h.ks j hj' g e).2 hc.size⟩
  · exact ⟨hc.os.trans h.below.os, hc.tape.trans h.below.tape, hc.output.trans h.below.output, Nat.le_trans h.below.size hzz, fun k hk => (ne (Nat.lt_of_lt_of_le hk h.below.size) (h.old k hk) (by decide) (by omega)).trans (h.below.block k hk)⟩
/-- What was nb at most is m at most. -/
theorem HW.more {m : Nat → Nat} (h : HW w wr wb gb gcap o col bv hs hv i0 i1 i2 im nb u) (hb : ∀ i, i < 2 → ∀ n, n ≤ nb (20 + i) → Way wr (bv i) n 200 → n ≤ m (20 + i)) (hh : ∀ i (hi : i < hs.length) n, n ≤ nb (40 + i) → Way wr hs[i].v n 40000 → n ≤ m (40 + i)) : HW w wr wb gb gcap o col bv hs hv i0 i1 i2 im m u :=
  ⟨h.c0, h.c1, h.c2, h.c3, h.c4, h.fw, h.gx, h.gy, h.gv, h.fg, h.row, h.pr, fun i hi => by obtain ⟨n, hn, hw⟩ := h.bw i hi; exact ⟨n, hb i hi n hn hw, hw⟩, h.ho, fun i hi => by obtain ⟨n, hn, hw⟩ := h.hw i hi; exact ⟨n, hh i hi n hn hw, hw⟩, h.img, h.few, h.kw, h.kg, h.kh, h.kb, h.kv, h.ks, h.ki, h.old, h.below⟩
end
end Go.Proofs.YthokdbcpkmcieaaGreat
namespace Go.Proofs.YthokdbcpkmcieaaGreat
open Go Go.RowKit
/-- While an act goes on, two ways may be longer by one. -/
def nbM (bi i : Nat) : Nat → Nat := fun c => if c = 20 + bi ∨ c = 40 + i then 13 else 12
def nbR : Nat → Nat := fun _ => 12
theorem nbM_b (bi i : Nat) : nbM bi i (20 + bi) = 13 := if_pos (.inl rfl)
theorem nbM_h (bi i : Nat) : nbM bi i (40 + i) = 13 := if_pos (.inr rfl)
theorem nbM_ge (bi i c : Nat) : 12 ≤ nbM bi i c := by unfold nbM; split <;> omega
/-- The law's state at rest, with n hosts. -/
def HSt (w wr : World) (wb gb gcap : Nat) (o : Nat → Bo) (n : Nat) (i0 i1 i2 : Value) (im : Img) (u : Nat) : Prop := ∃ col bv hs hv, hs.length = n ∧ HW w wr wb gb gcap o col bv hs hv i0 i1 i2 im nbR u
section
variable {w wr : World} {wb gb gcap : Nat} {o : Nat → Bo} {col : Nat → Nat} {bv : Nat → Value} {hs : List HR} {hv i0 i1 i2 : Value} {im : Img} {nb : Nat → Nat} {u v : Nat}
theorem HW.begin (h : HW w wr wb gb gcap o col bv hs hv i0 i1 i2 im nbR u) (bi i : Nat) : HW w wr wb gb gcap o col bv hs hv i0 i1 i2 im (nbM bi i) u :=
  h.more (fun _ _ _ hn _ => Nat.le_trans hn (nbM_ge bi i _)) (fun _ _ _ hn _ => Nat.le_trans hn (nbM_ge bi i _))
theorem way_lenB {w : World} {a : Option Addr} {n c m M : Nat} (h : Way w (.slice a n c) m M) : m = n := by
  obtain ⟨a', cap, e, _⟩ := h.is
  cases e
  rfl
/-- A list from its sixth on. -/
theorem Way.rest {w : World} {g off n c M : Nat} (h : Way w (.slice (some ⟨g, off, none⟩) n c) n M) (hn : 12 < n) : Way w (.slice (some ⟨g, off + 6, none⟩) (n - 6) (c - 6)) (n - 6) M := by
  obtain ⟨a, cap, e, h1, h2, h3⟩ := h.is
  cases e
  obtain ⟨g', off', e, hg, h4, h5⟩ := h3 (by omega)
  cases e
  refine ⟨_, _, rfl, by omega, by omega, fun _ => ⟨g, off + 6, rfl, hg, fun j hj => ?_, fun j hj => ?_⟩⟩
  · rw [Nat.add_assoc]
    exact h4 (6 + j) (by omega)
  · rw [Nat.add_assoc]
    exact h5 (6 + j) (by omega)
/-- What the act ends with, if neither way is too long. -/
theorem HW.rest0 {bi i : Nat} (h : HW w wr wb gb gcap o col bv hs hv i0 i1 i2 im (nbM bi i) u) (hbi : bi < 2) (hx : ∀ (hi : i < hs.length) n, Way wr hs[i].v n 40000 → n ≤ 12) (hy : ∀ n, Way wr (bv bi) n 200 → n ≤ 12) : HSt w wr wb gb gcap o hs.length i0 i1 i2 im u := by
  refine ⟨col, bv, hs, hv, rfl, h.more (fun j hj n hn hw => ?_) (fun j hj n hn hw => ?_)⟩
  · show n ≤ 12
    by_cases e : j = bi
    · subst e
      exact hy n hw
    · have : nbM bi i (20 + j) = 12 := if_neg (by omega)
      omega
  · show n ≤ 12
    by_cases e : j = i
    · subst e
      exact hx hj n hw
    · have := h.few
      have : nbM bi i (40 + j) = 12 := if_neg (by omega)
      omega
variable {gh hcap bi i : Nat}
theorem HW.tail00 (h : HW w wr wb gb gcap o col bv hs hv i0 i1 i2 im (nbM bi i) u) (hi : i < hs.length) (hbi : bi < 2) {xa ya : Option Addr} {nx xc ny yc : Nat} (ex : hs[i].v = .slice xa nx xc) (ey : bv bi = .slice ya ny yc) (hx : nx ≤ 12) (hy : ny ≤ 12) : HSt w wr wb gb gcap o hs.length i0 i1 i2 im u :=
  h.rest0 hbi (fun _ n hw => by rw [ex] at hw; rw [way_lenB hw]; exact hx) (fun n hw => by rw [ey] at hw; rw [way_lenB hw]; exact hy)
theorem HW.trimH (h : HW w wr wb gb gcap o col bv hs (.slice (some ⟨gh, 0, none⟩) hs.length hcap) i0 i1 i2 im (nbM bi i) u) (hi : i < hs.length) {g off nx xc : Nat} (ex : hs[i].v = .slice (some ⟨g, off, none⟩) nx xc) (hx : 12 < nx) :
    HW w (wr.setCell ⟨gh, i * 3 + 2, none⟩ (.slice (some ⟨g, off + 6, none⟩) (nx - 6) (xc - 6))) wb gb gcap o col bv (hs.set i ⟨hs[i].x, hs[i].y, .slice (some ⟨g, off + 6, none⟩) (nx - 6) (xc - 6)⟩) (.slice (some ⟨gh, 0, none⟩) hs.length hcap) i0 i1 i2 im (nbM bi i) u := by
  obtain ⟨m, hm, hw⟩ := h.hw i hi
  rw [nbM_h] at hm
  have hk := h.ks i hi g (by rw [ex]; rfl)
  rw [ex] at hw
  have := way_lenB hw
  subst this
  exact h.setH i hi (ChgP.refl _ _) _ (m - 6) (by rw [nbM_h]; omega) (hw.rest hx) (fun g' e => by
    have e' : g = g' := by simpa [Value.ownBlock] using e
    rw [← e']
    exact hk)
theorem HW.trimB (h : HW w wr wb gb gcap o col bv hs hv i0 i1 i2 im (nbM bi i) u) (hbi : bi < 2) {g off ny yc : Nat} (ey : bv bi = .slice (some ⟨g, off, none⟩) ny yc) (hy : 12 < ny) :
    HW w (wr.setCell ⟨gb, bi * 3 + 2, none⟩ (.slice (some ⟨g, off + 6, none⟩) (ny - 6) (yc - 6))) wb gb gcap o col (fun j => if j = bi then .slice (some ⟨g, off + 6, none⟩) (ny - 6) (yc - 6) else bv j) hs hv i0 i1 i2 im (nbM bi i) u := by
  obtain ⟨m, hm, hw⟩ := h.bw bi hbi
  rw [nbM_b] at hm
  have hk := h.kv bi hbi g (by rw [ey]; rfl)
  rw [ey] at hw
  have := way_lenB hw
  subst this
  exact h.setB bi hbi (ChgP.refl _ _) _ (m - 6) (by rw [nbM_b]; omega) (hw.rest hy) (fun g' e => by
    have e' : g = g' := by simpa [Value.ownBlock] using e
    rw [← e']
    exact hk)
theorem HW.le13 (h : HW w wr wb gb gcap o col bv hs hv i0 i1 i2 im (nbM bi i) u) (hi : i < hs.length) (hbi : bi < 2) : (∃ xa nx xc, hs[i].v = .slice xa nx xc ∧ nx ≤ 13 ∧ (12 < nx → ∃ g off, xa = some ⟨g, off, none⟩ ∧ nx ≤ xc ∧ xc ≤ maxLen)) ∧ (∃ ya ny yc, bv bi = .slice ya ny yc ∧ ny ≤ 13 ∧ (12 < ny → ∃ g off, ya = some ⟨g, off, none⟩ ∧ ny ≤ yc ∧ yc ≤ maxLen)) := by
  obtain ⟨m, hm, hw⟩ := h.hw i hi
  obtain ⟨k, hk, hv⟩ := h.bw bi hbi
  rw [nbM_h] at hm
  rw [nbM_b] at hk
  obtain ⟨a, cap, e, h1, h2, h3⟩ := hw.is
  obtain ⟨a', cap', e', h1', h2', h3'⟩ := hv.is
  refine ⟨⟨a, m, cap, e, hm, fun hl => ?_⟩, ⟨a', k, cap', e', hk, fun hl => ?_⟩⟩
  · obtain ⟨g, off, q, _⟩ := h3 (by omega)
    exact ⟨g, off, q, h1, h2⟩
  · obtain ⟨g, off, q, _⟩ := h3' (by omega)
    exact ⟨g, off, q, h1', h2'⟩
theorem HW.tail10 (h : HW w wr wb gb gcap o col bv hs (.slice (some ⟨gh, 0, none⟩) hs.length hcap) i0 i1 i2 im (nbM bi i) u) (hi : i < hs.length) (hbi : bi < 2) {g off : Nat} {ya : Option Addr} {nx xc ny yc : Nat} (ex : hs[i].v = .slice (some ⟨g, off, none⟩) nx xc) (ey : bv bi = .slice ya ny yc) (hx : 12 < nx) (h13 : nx ≤ 13) (hy : ny ≤ 12) :
    HSt w (wr.setCell ⟨gh, i * 3 + 2, none⟩ (.slice (some ⟨g, off + 6, none⟩) (nx - 6) (xc - 6))) wb gb gcap o hs.length i0 i1 i2 im u := by
  have h1 := h.trimH hi ex hx
  have hl : (hs.set i ⟨hs[i].x, hs[i].y, .slice (some ⟨g, off + 6, none⟩) (nx - 6) (xc - 6)⟩).length = hs.length := List.length_set
  have := h1.tail00 (xa := some ⟨g, off + 6, none⟩) (nx := nx - 6) (xc := xc - 6) (by rw [hl]; exact hi) hbi (by rw [List.getElem_set]; simp) ey (by omega) hy
  rwa [hl] at this
theorem HW.tail01 (h : HW w wr wb gb gcap o col bv hs hv i0 i1 i2 im (nbM bi i) u) (hi : i < hs.length) (hbi : bi < 2) {g off : Nat} {xa : Option Addr} {nx xc ny yc : Nat} (ex : hs[i].v = .slice xa nx xc) (ey : bv bi = .slice (some ⟨g, off, none⟩) ny yc) (hx : nx ≤ 12) (hy : 12 < ny) (h13 : ny ≤ 13) :
    HSt w (wr.setCell ⟨gb, bi * 3 + 2, none⟩ (.slice (some ⟨g, off + 6, none⟩) (ny - 6) (yc - 6))) wb gb gcap o hs.length i0 i1 i2 im u :=
  (h.trimB hbi ey hy).tail00 (ya := some ⟨g, off + 6, none⟩) (ny := ny - 6) (yc := yc - 6) hi hbi ex (by simp) hx (by omega)
theorem HW.tail11 (h : HW w wr wb gb gcap o col bv hs (.slice (some ⟨gh, 0, none⟩) hs.length hcap) i0 i1 i2 im (nbM bi i) u) (hi : i < hs.length) (hbi : bi < 2) {g off g2 off2 nx xc ny yc : Nat} (ex : hs[i].v = .slice (some ⟨g, off, none⟩) nx xc) (ey : bv bi = .slice (some ⟨g2, off2, none⟩) ny yc) (hx : 12 < nx) (hx13 : nx ≤ 13) (hy : 12 < ny) (h13 : ny ≤ 13) :
    HSt w ((wr.setCell ⟨gh, i * 3 + 2, none⟩ (.slice (some ⟨g, off + 6, none⟩) (nx - 6) (xc - 6))).setCell ⟨gb, bi * 3 + 2, none⟩ (.slice (some ⟨g2, off2 + 6, none⟩) (ny - 6) (yc - 6))) wb gb gcap o hs.length i0 i1 i2 im u := by
  have h1 := h.trimH hi ex hx
  have hl : (hs.set i ⟨hs[i].x, hs[i].y, .slice (some ⟨g, off + 6, none⟩) (nx - 6) (xc - 6)⟩).length = hs.length := List.length_set
  have := h1.tail01 (xa := some ⟨g, off + 6, none⟩) (nx := nx - 6) (xc := xc - 6) (by rw [hl]; exact hi) hbi (by rw [List.getElem_set]; simp) ey (by omega) hy h13
  rwa [hl] at this
end
end Go.Proofs.YthokdbcpkmcieaaGreat
namespace Go.Proofs.YthokdbcpkmcieaaGreat
open Go Go.RowKit
attribute [local go_sem ↓] Go.wp_at_zero Go.wp_at_succ
theorem tick_ear (h : Hst) : (tickH h).ear = h.ear := by
  unfold tickH
  repeat (first | rfl | split)
theorem rtick_ear (d : RHst) : (rtickD d).ear = d.ear := by
  unfold rtickD
  repeat (first | rfl | split)
theorem HoAt.tick {w : World} {hx hy : Nat} {F : Nat → Prop} {u : Nat} (h : HoAt w hx hy F u) : Calls Tryz.prog 37 #[.pointer (some ⟨hx, 0, none⟩)] w fun e w1 => e = .returned (.tuple #[]) ∧ ChgP w w1 F ∧ Calls Tryz.prog 38 #[.pointer (some ⟨hy, 0, none⟩)] w1 fun e w2 => e = .returned (.tuple #[]) ∧ HoAt w2 hx hy F u ∧ ChgP w1 w2 F := by
  obtain ⟨lb, wb, bb, h, d, m, r, s, k, e, l, n, f0, f1, f2, f3, f4⟩ := h.is
  refine (bhTick_any hx lb h w m k).mono fun e1 w1 ⟨h1, m1, g1⟩ => ⟨h1, ChgP.of_grown g1 f0, ?_⟩
  have r1 : RHM w1 hy wb bb d := r.kept (g1.block _ r.lt (by simpa using n.1)) (g1.block _ r.ll.1 (by simpa using n.2.1)) (g1.block _ r.ll.2 (by simpa using n.2.2.1)) g1.size
  refine (rhTick_any hy wb bb d w1 r1 s.ok).mono fun e2 w2 ⟨h2, m2, g2⟩ => ⟨h2, ?_, ChgP.of_grown g2 f2⟩
  have m1' := m1.kept (g2.block hx m1.lt (by simpa using fun e => n.1 e.symm)) (g2.block lb m1.ll (by simpa using n.2.2.2)) g2.size
  exact ⟨lb, wb, bb, _, _, m1', m2, same_tick s k, k.tickH, by rw [tick_ear]; exact e, by rw [rtick_ear]; exact l, n, f0, f1, f2, f3, f4⟩
theorem HoAt.state {w : World} {hx hy : Nat} {F : Nat → Prop} {u : Nat} (h : HoAt w hx hy F u) : ∃ s : Nat, (Calls Tryz.prog 39 #[.pointer (some ⟨hx, 0, none⟩)] w fun e w' => e = .returned (.int .i64 (s : Int)) ∧ w' = w) ∧ (Calls Tryz.prog 40 #[.pointer (some ⟨hy, 0, none⟩)] w fun e w' => e = .returned (.int .i64 (s : Int)) ∧ w' = w) := by
  obtain ⟨lb, wb, bb, h, d, m, r, s, k, e, l, n, f0, f1, f2, f3, f4⟩ := h.is
  refine ⟨h.state, bhState_any hx lb h w m, ?_⟩
  rw [← s.state]
  exact rhState_any hy wb bb d w r
section
variable {w wr : World} {wb gb gcap : Nat} {o : Nat → Bo} {col : Nat → Nat} {bv : Nat → Value} {hs : List HR} {hv i0 i1 i2 : Value} {im : Img} {nb : Nat → Nat} {u v : Nat}
set_option maxRecDepth 100000 in
set_option maxHeartbeats 4000000 in
theorem ltalks_any (i bi t : Nat) (hi : i < hs.length) (hbi : bi < 2) (ht : t ≤ 60) (h : HW w wr wb gb gcap o col bv hs hv i0 i1 i2 im nb u) (hu : u ≤ 3000000000000) :
    Calls Tryz.prog 41 #[.pointer (some ⟨wb, 0, none⟩), .int .i64 (bi : Int), .int .i64 (i : Int), .int .i64 (t : Int)] wr fun e w' => e = .returned (.bool true) ∧ HW w w' wb gb gcap o col bv hs hv i0 i1 i2 im nb (u + 2412000) := by
  have HH := hideIt h
  have hti : (t : Int) ≤ 60 := by omega
  have hii : (i : Int) < (hs.length : Int) := by omega
  have hni : (hs.length : Int) ≤ 4 := by have := h.few; omega
  clear h
  go_enter Tryz.func41, Tryz.ntmps41
  go_wp2_with fail
  go_loopw [9] (fun x wq => ∃ j : Nat, j ≤ t ∧ x = .int .i64 j ∧ HW w wq wb gb gcap o col bv hs hv i0 i1 i2 im nb (u + 40200 * j)) (fun x _ => t - (intOf x).toNat)
  case atStart => exact ⟨0, Nat.zero_le _, rfl, HH.out⟩
  case round =>
    clear HH
    obtain ⟨j, hj, rfl, hS⟩ := hrel
    by_cases hlt : j < t
    · have hji : (j : Int) < (t : Int) := by omega
      obtain ⟨gh, hcap, rfl, hLH, _, _, _⟩ := hS.host i hi
      have HS := hideIt hS
      have HSA := hideIt (lsays_any wb gh hs.length hcap i _ _ _ _ _ hLH)
      clear hS hLH
      go_wp2_with fail
      refine HSA.out.mono ?_
      rintro e w1 ⟨⟨T, rfl, hT⟩, hp1, hc1⟩
      have h1 := HS.out.actH i hi hp1 hc1 (Nat.le_refl _)
      obtain ⟨b, hLF⟩ := h1.board bi hbi
      have HHE := hideIt (lhears_b wb gb gcap bi (o bi) b _ T w1 hLF ⟨by omega, by omega⟩)
      have H1 := hideIt h1
      clear h1 hLF hp1 hc1 HS HSA
      go_wp2_with fail
      refine HHE.out.mono ?_
      rintro e w2 ⟨⟨R, rfl, hR⟩, hp2, hc2⟩
      have h2 := H1.out.actB bi hbi hp2 hc2 (by omega)
      obtain ⟨gh2, hcap2, e2, hLH2, _, _, _⟩ := h2.host i hi
      cases e2
      have HT := hideIt (ltold_any wb gh hs.length hcap i _ _ _ _ R w2 hLH2 ⟨by omega, by omega⟩)
      have H2 := hideIt h2
      clear h2 hLH2 hp2 hc2 H1 HHE
      go_wp2_with fail
      refine HT.out.mono ?_
      rintro e w3 ⟨rfl, hp3, hc3⟩
      have h3 := (H2.out.actH i hi hp3 hc3 (by omega)).le (v := u + 40200 * (j + 1)) (by omega)
      obtain ⟨gh3, hcap3, e3, hLH3, _, _, _⟩ := h3.host i hi
      cases e3
      have H3 := hideIt h3
      clear hp3 hc3 H2 HT
      by_cases hTe : T = ⟨#[]⟩
      · subst hTe
        have c4 := hLH3.c4
        have cx := hLH3.cx
        have HK := hideIt hLH3.ho.tick
        have HN := hideIt hLH3
        clear hLH3 h3
        go_wp2_with fail
        refine HK.out.mono ?_
        rintro e w4 ⟨rfl, hc4, hk4⟩
        have e1 := hc4.block wb (World.block_lt_of_cell? _ _ c4) HN.out.nw
        have e2 := hc4.block gh (World.block_lt_of_cell? _ _ cx) HN.out.ng
        have d4 := (World.cell?_of_block (a := ⟨wb, 4, none⟩) e1).trans c4
        have dy := (World.cell?_of_block (a := ⟨gh, i * 3 + 1, none⟩) e2).trans HN.out.cy
        have HK4 := hideIt hk4
        have HC4 := hideIt hc4
        clear hk4 hc4 e1 e2 c4 cx
        go_wp2_with fail
        refine HK4.out.mono ?_
        rintro e w5 ⟨rfl, hp5, hc5⟩
        have H5 := hideIt (H3.out.actH i hi hp5 (HC4.out.trans hc5) (Nat.le_refl _))
        clear hp5 hc5
        go_wp2
        go_roundw
        case rel => exact ⟨j + 1, by omega, by go_num, H5.out⟩
        case measure => simp [intOf]; omega
      · have hemp : T.toList.isEmpty = false := by
          rw [ByteArray.toList_eq]
          cases h : T.data.toList with
          | nil => exact absurd (by cases T; simp at h; simp [h]) hTe
          | cons a b => rfl
        clear hLH3 h3
        go_wp2
        go_roundw
        case rel => exact ⟨j + 1, by omega, by go_num, H3.out⟩
        case measure => simp [intOf]; omega
    · have hje : j = t := by omega
      have hjn : ¬ (j : Int) < (t : Int) := by omega
      have HS := hideIt (hS.le (v := u + 2412000) (by omega))
      clear hS
      go_wp2
      go_ret
      exact ⟨rfl, HS.out⟩
end
end Go.Proofs.YthokdbcpkmcieaaGreat
