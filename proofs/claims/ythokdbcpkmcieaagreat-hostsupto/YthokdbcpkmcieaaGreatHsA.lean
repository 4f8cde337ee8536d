/- The program's host: plain functions, memory, what it asks. -/
import Derived.Test.YthokdbcpkmcieaaGreatBoC
import Derived.Test.YthokdbcpkmcieaaGreatBoK
import Derived.Test.YthokdbcpkmcieaaGreatBoG
import Derived.Laws.EntriesVeiled
namespace Go.Proofs.YthokdbcpkmcieaaGreat
/-- A page that is wanted. -/
structure Pg where
  n : UInt8
  bs : List UInt8
/-- The host: its state; its session; the pages that are left; what the board's State said; its ear; the message that was asked last; what is done with the answer (0 none is waited for, 1 OPEN, 2 STATE, 3 PAGE, 4 READ of a page that was burnt, 5 READ behind a PAGE); was it fetched; how often said; ticks. -/
structure Hst where
  state : Nat
  ses : Nat
  left : List Pg
  burnt : Nat
  ear : EarS
  asked : List UInt8
  take : Nat
  said : Bool
  tries : Nat
  ticks : Nat
def saysH (h : Hst) : Hst := ⟨h.state, h.ses, h.left, h.burnt, h.ear, h.asked, h.take, false, h.tries + 1, 0⟩
def headH (ses : Nat) (num what : UInt8) : List UInt8 := [UInt8.ofNat (ses / 256), UInt8.ofNat (ses % 256), num, what]
def askH (h : Hst) (num what : UInt8) (rest : List UInt8) (tk : Nat) : Hst := saysH ⟨h.state, h.ses, h.left, h.burnt, h.ear, headH h.ses num what ++ rest, tk, h.said, 0, h.ticks⟩
def endH (h : Hst) (s : Nat) : Hst := ⟨s, h.ses, h.left, h.burnt, h.ear, h.asked, 0, h.said, h.tries, h.ticks⟩
def nextH (h : Hst) (what : UInt8) (rest : List UInt8) (tk : Nat) : Hst := askH h (h.asked.getD 2 0 + 1) what rest tk
def firstH (h : Hst) : Pg := h.left.getD 0 ⟨0, []⟩
def isInH (p : Pg) (burnt : Nat) : Bool := burnt / 2 ^ p.n.toNat % 2 == 1
def askPageH (h : Hst) : Hst := nextH h 2 ((firstH h).n :: (firstH h).bs) 3
def askReadH (h : Hst) (tk : Nat) : Hst := nextH h 3 [(firstH h).n] tk
def goOnH (h : Hst) : Hst := if h.left.length = 0 then endH h 1 else if isInH (firstH h) h.burnt = true then askReadH h 4 else askPageH h
def endPageH (h : Hst) : Hst := goOnH ⟨h.state, h.ses, h.left.drop 1, h.burnt, h.ear, h.asked, h.take, h.said, h.tries, h.ticks⟩
def setBurntH (h : Hst) (b : Nat) : Hst := ⟨h.state, h.ses, h.left, b, h.ear, h.asked, h.take, h.said, h.tries, h.ticks⟩
/-- What is done with an answer. -/
def takesH (h : Hst) (yes : Bool) (bs : List UInt8) : Hst :=
  if h.take = 1 then (if yes = true then nextH h 4 [] 2 else endH h 2)
  else if h.take = 2 then (if yes = true then goOnH (setBurntH h ((bs.getD 0 0).toNat * 256 + (bs.getD 1 0).toNat)) else endH h 2)
  else if h.take = 3 then (if yes = true then askReadH h 5 else endH h 2)
  else if h.take = 4 then (if yes = true ∧ bs = (firstH h).bs then endPageH h else askPageH h)
  else (if yes = true ∧ bs = (firstH h).bs then endPageH h else endH h 2)
def yesLen (what : UInt8) : Nat := if what = 3 then 64 else if what = 4 then 2 else 0
/-- Is a message the answer to what was asked? Yes or No, and what stands behind. -/
def answerToH (asked m : List UInt8) : Option (Bool × List UInt8) :=
  if 4 ≤ m.length ∧ m.take 3 = asked.take 3 then
    (if m.getD 3 0 = 1 ∧ m.length = 4 + yesLen (asked.getD 3 0) then some (true, m.drop 4)
     else if m.getD 3 0 = 2 ∧ m.length = 4 then some (false, []) else none)
  else none
def hearsH (h : Hst) (m : List UInt8) : Hst := if h.take = 0 then h else match answerToH h.asked m with | some (y, bs) => takesH h y bs | none => h
def setEarH (h : Hst) (e : EarS) : Hst := ⟨h.state, h.ses, h.left, h.burnt, e, h.asked, h.take, h.said, h.tries, h.ticks⟩
def hearH (h : Hst) (l : List UInt8) : Hst := (hearF h.ear l).2.foldl hearsH (setEarH h (hearF h.ear l).1)
def sayH (h : Hst) : Hst × List UInt8 := if h.take = 0 ∨ h.said = true then (h, []) else (⟨h.state, h.ses, h.left, h.burnt, h.ear, h.asked, h.take, true, h.tries, h.ticks⟩, frameF h.asked)
def setTicksH (h : Hst) (n : Nat) : Hst := ⟨h.state, h.ses, h.left, h.burnt, h.ear, h.asked, h.take, h.said, h.tries, n⟩
def tickH (h : Hst) : Hst :=
  if h.take = 0 then h
  else if h.ticks + 1 < 3 then setTicksH h (h.ticks + 1)
  else if h.tries < 5 then saysH (setTicksH h (h.ticks + 1))
  else endH (setTicksH h (h.ticks + 1)) 2
/-- What goes on holding, whatever is waited for. -/
structure HB (h : Hst) : Prop where
  ses : h.ses < 65536
  burnt : h.burnt < 65536
  st : h.state ≤ 2
  pages : ∀ p ∈ h.left, p.n < 16 ∧ p.bs.length = 64
  long : 4 ≤ h.asked.length ∧ h.asked.length ≤ 69
  tries : h.tries ≤ 5
  ticks : h.ticks ≤ 3
  few : h.left.length ≤ 16
/-- What goes on holding. -/
structure HOk (h : Hst) : Prop where
  b : HB h
  tk : h.take ≤ 5
  going : h.take = 0 ↔ h.state ≠ 0
  left : 3 ≤ h.take → 0 < h.left.length
  w1 : h.take = 1 → h.asked.getD 3 0 = 1
  w2 : h.take = 2 → h.asked.getD 3 0 = 4
  w3 : h.take = 3 → h.asked.getD 3 0 = 2
  w4 : h.take = 4 ∨ h.take = 5 → h.asked.getD 3 0 = 3
  t2 : h.take ≠ 0 → h.ticks ≤ 2
theorem first_mem {h : Hst} (hl : 0 < h.left.length) : firstH h ∈ h.left := by
  unfold firstH
  rw [List.getD_eq_getElem?_getD, List.getElem?_eq_getElem hl]
  exact List.getElem_mem hl
theorem HB.endH {h : Hst} (k : HB h) (s : Nat) (h1 : s = 1 ∨ s = 2) : HOk (endH h s) := by
  have hs : s ≤ 2 ∧ s ≠ 0 := by omega
  exact ⟨⟨k.ses, k.burnt, hs.1, k.pages, k.long, k.tries, k.ticks, k.few⟩, by simp [Proofs.YthokdbcpkmcieaaGreat.endH], by simp [Proofs.YthokdbcpkmcieaaGreat.endH, hs.2], by simp [Proofs.YthokdbcpkmcieaaGreat.endH], by simp [Proofs.YthokdbcpkmcieaaGreat.endH], by simp [Proofs.YthokdbcpkmcieaaGreat.endH], by simp [Proofs.YthokdbcpkmcieaaGreat.endH], by simp [Proofs.YthokdbcpkmcieaaGreat.endH], by simp [Proofs.YthokdbcpkmcieaaGreat.endH]⟩
theorem HB.askH {h : Hst} (k : HB h) (hst : h.state = 0) (num what : UInt8) (rest : List UInt8) (tk : Nat) (h1 : 1 ≤ tk) (h5 : tk ≤ 5) (hl : 3 ≤ tk → 0 < h.left.length) (hr : rest.length ≤ 65) (w1 : tk = 1 → what = 1) (w2 : tk = 2 → what = 4) (w3 : tk = 3 → what = 2) (w4 : tk = 4 ∨ tk = 5 → what = 3) : HOk (askH h num what rest tk) := by
  have hw : (headH h.ses num what ++ rest).getD 3 0 = what := rfl
  refine ⟨⟨k.ses, k.burnt, k.st, k.pages, ?_, ?_, ?_, k.few⟩, h5, ?_, hl, fun e => hw.trans (w1 e), fun e => hw.trans (w2 e), fun e => hw.trans (w3 e), fun e => hw.trans (w4 e), fun _ => ?_⟩
  · show 4 ≤ (headH h.ses num what ++ rest).length ∧ (headH h.ses num what ++ rest).length ≤ 69
    rw [List.length_append]
    show 4 ≤ 4 + rest.length ∧ 4 + rest.length ≤ 69
    omega
  · show 0 + 1 ≤ 5
    omega
  · show 0 ≤ 3
    omega
  · show tk = 0 ↔ h.state ≠ 0
    omega
  · show 0 ≤ 2
    omega
theorem HB.nextH {h : Hst} (k : HB h) (hst : h.state = 0) (what : UInt8) (rest : List UInt8) (tk : Nat) (h1 : 1 ≤ tk) (h5 : tk ≤ 5) (hl : 3 ≤ tk → 0 < h.left.length) (hr : rest.length ≤ 65) (w1 : tk = 1 → what = 1) (w2 : tk = 2 → what = 4) (w3 : tk = 3 → what = 2) (w4 : tk = 4 ∨ tk = 5 → what = 3) : HOk (nextH h what rest tk) := k.askH hst _ what rest tk h1 h5 hl hr w1 w2 w3 w4
theorem HB.askPageH {h : Hst} (k : HB h) (hst : h.state = 0) (hl : 0 < h.left.length) : HOk (askPageH h) := by
  have hp := (k.pages _ (first_mem hl)).2
  exact k.nextH hst 2 _ 3 (by omega) (by omega) (fun _ => hl) (by simp [hp]) (by omega) (by omega) (fun _ => rfl) (by omega)
theorem HB.askReadH {h : Hst} (k : HB h) (hst : h.state = 0) (hl : 0 < h.left.length) (tk : Nat) (ht : tk = 4 ∨ tk = 5) : HOk (askReadH h tk) :=
  k.nextH hst 3 _ tk (by omega) (by omega) (fun _ => hl) (by simp) (by omega) (by omega) (by omega) (fun _ => rfl)
theorem HB.goOnH {h : Hst} (k : HB h) (hst : h.state = 0) : HOk (goOnH h) := by
  unfold Proofs.YthokdbcpkmcieaaGreat.goOnH
  split
  · exact k.endH 1 (.inl rfl)
  · split
    · exact k.askReadH hst (by omega) 4 (.inl rfl)
    · exact k.askPageH hst (by omega)
theorem HB.endPageH {h : Hst} (k : HB h) (hst : h.state = 0) : HOk (endPageH h) := by
  refine HB.goOnH ⟨k.ses, k.burnt, k.st, fun p hp => k.pages p (List.mem_of_mem_drop hp), k.long, k.tries, k.ticks, ?_⟩ hst
  show (h.left.drop 1).length ≤ 16
  rw [List.length_drop]
  have := k.few
  omega
theorem HOk.takesH {h : Hst} (k : HOk h) (h0 : h.take ≠ 0) (y : Bool) (bs : List UInt8) : HOk (takesH h y bs) := by
  have hst : h.state = 0 := Classical.byContradiction fun e => h0 (k.going.2 e)
  have ht := k.tk
  unfold Proofs.YthokdbcpkmcieaaGreat.takesH
  split
  · split
    · exact k.b.nextH hst 4 [] 2 (by omega) (by omega) (by omega) (by simp) (by omega) (fun _ => rfl) (by omega) (by omega)
    · exact k.b.endH 2 (.inr rfl)
  · split
    · split
      · refine HB.goOnH ⟨k.b.ses, ?_, k.b.st, k.b.pages, k.b.long, k.b.tries, k.b.ticks, k.b.few⟩ hst
        have h1 := (bs.getD 0 0).toNat_lt
        have h2 := (bs.getD 1 0).toNat_lt
        show (bs.getD 0 0).toNat * 256 + (bs.getD 1 0).toNat < 65536
        omega
      · exact k.b.endH 2 (.inr rfl)
    · split
      · split
        · exact k.b.askReadH hst (k.left (by omega)) 5 (.inr rfl)
        · exact k.b.endH 2 (.inr rfl)
      · split
        · split
          · exact k.b.endPageH hst
          · exact k.b.askPageH hst (k.left (by omega))
        · split
          · exact k.b.endPageH hst
          · exact k.b.endH 2 (.inr rfl)
theorem HOk.hearsH {h : Hst} (k : HOk h) (m : List UInt8) : HOk (hearsH h m) := by
  unfold Proofs.YthokdbcpkmcieaaGreat.hearsH
  split
  · exact k
  · rename_i h0
    split
    · exact k.takesH h0 _ _
    · exact k
theorem HOk.fold : ∀ (l : List (List UInt8)) {h : Hst}, HOk h → HOk (l.foldl Proofs.YthokdbcpkmcieaaGreat.hearsH h)
  | [], _, k => k
  | m :: l, _, k => HOk.fold l (k.hearsH m)
theorem HOk.setEar {h : Hst} (k : HOk h) (e : EarS) : HOk (setEarH h e) := ⟨⟨k.b.ses, k.b.burnt, k.b.st, k.b.pages, k.b.long, k.b.tries, k.b.ticks, k.b.few⟩, k.tk, k.going, k.left, k.w1, k.w2, k.w3, k.w4, k.t2⟩
theorem HOk.hearH {h : Hst} (k : HOk h) (l : List UInt8) : HOk (hearH h l) := HOk.fold _ (k.setEar _)
theorem HOk.sayH {h : Hst} (k : HOk h) : HOk (sayH h).1 := by
  unfold Proofs.YthokdbcpkmcieaaGreat.sayH
  split
  · exact k
  · exact ⟨⟨k.b.ses, k.b.burnt, k.b.st, k.b.pages, k.b.long, k.b.tries, k.b.ticks, k.b.few⟩, k.tk, k.going, k.left, k.w1, k.w2, k.w3, k.w4, k.t2⟩
theorem HOk.tickH {h : Hst} (k : HOk h) : HOk (tickH h) := by
  unfold Proofs.YthokdbcpkmcieaaGreat.tickH
  split
  · exact k
  · rename_i h0
    have h2 := k.t2 h0
    split
    · rename_i h3
      exact ⟨⟨k.b.ses, k.b.burnt, k.b.st, k.b.pages, k.b.long, k.b.tries, by show h.ticks + 1 ≤ 3; omega, k.b.few⟩, k.tk, k.going, k.left, k.w1, k.w2, k.w3, k.w4, fun _ => by show h.ticks + 1 ≤ 2; omega⟩
    · split
      · rename_i h4
        exact ⟨⟨k.b.ses, k.b.burnt, k.b.st, k.b.pages, k.b.long, by show h.tries + 1 ≤ 5; omega, by show 0 ≤ 3; omega, k.b.few⟩, k.tk, k.going, k.left, k.w1, k.w2, k.w3, k.w4, fun _ => by show 0 ≤ 2; omega⟩
      · exact HB.endH (h := setTicksH h (h.ticks + 1)) ⟨k.b.ses, k.b.burnt, k.b.st, k.b.pages, k.b.long, k.b.tries, by show h.ticks + 1 ≤ 3; omega, k.b.few⟩ 2 (.inr rfl)
end Go.Proofs.YthokdbcpkmcieaaGreat
namespace Go.Proofs.YthokdbcpkmcieaaGreat
open Go Go.RowKit
/-- What is done with an answer, as it is kept. -/
def takeV (hb : Nat) (t : Nat) : Value :=
  if t = 0 then .nilFunc
  else if t = 1 then .func (.func 53) #[.pointer (some ⟨hb, 0, none⟩)] #[]
  else if t = 2 then .func (.func 78) #[.pointer (some ⟨hb, 0, none⟩)] #[]
  else if t = 3 then .func (.func 129) #[.pointer (some ⟨hb, 0, none⟩)] #[]
  else if t = 4 then .func (.func 114) #[.pointer (some ⟨hb, 0, none⟩)] #[]
  else .func (.func 138) #[.pointer (some ⟨hb, 0, none⟩)] #[]
/-- The pages that are left, at block lb. -/
structure LeftAt (w : World) (lb : Nat) (v : Value) (l : List Pg) : Prop where
  is : ∃ a cap, v = .slice a l.length cap ∧ l.length ≤ cap ∧ cap ≤ 9223372036854775807 ∧ (0 < l.length → ∃ off, a = some ⟨lb, off, none⟩ ∧ ∀ i (hi : i < l.length), w.cell? ⟨lb, off + i * 2, none⟩ = some (.int .u8 (l[i].n.toNat : Int)) ∧ w.cell? ⟨lb, off + i * 2 + 1, none⟩ = some (.string (txt l[i].bs)))
theorem LeftAt.kept {w w' : World} {lb : Nat} {v : Value} {l : List Pg} (h : LeftAt w lb v l) (e : 0 < l.length → w'.heap[lb]? = w.heap[lb]?) : LeftAt w' lb v l := by
  obtain ⟨a, cap, h1, h2, h3, h4⟩ := h.is
  refine ⟨a, cap, h1, h2, h3, fun hl => ?_⟩
  obtain ⟨off, e1, e2⟩ := h4 hl
  refine ⟨off, e1, fun i hi => ?_⟩
  obtain ⟨k1, k2⟩ := e2 i hi
  exact ⟨(World.cell?_of_block (a := ⟨lb, off + i * 2, none⟩) (e hl)).trans k1, (World.cell?_of_block (a := ⟨lb, off + i * 2 + 1, none⟩) (e hl)).trans k2⟩
theorem LeftAt.set {w : World} {lb hb j : Nat} {v x : Value} {l : List Pg} (h : LeftAt w lb v l) (hne : lb ≠ hb) : LeftAt (w.setCell ⟨hb, j, none⟩ x) lb v l :=
  h.kept (fun _ => heap_setCell_other w ⟨hb, j, none⟩ lb x hne)
/-- The host at block hb, its pages at block lb. -/
structure HstM (w : World) (hb lb : Nat) (h : Hst) : Prop where
  c0 : w.cell? ⟨hb, 0, none⟩ = some (.int .i64 (h.state : Int))
  c1 : w.cell? ⟨hb, 1, none⟩ = some (.int .u16 (h.ses : Int))
  c3 : w.cell? ⟨hb, 3, none⟩ = some (.int .u16 (h.burnt : Int))
  c88 : w.cell? ⟨hb, 88, none⟩ = some (.string (txt h.asked))
  c89 : w.cell? ⟨hb, 89, none⟩ = some (takeV hb h.take)
  c90 : w.cell? ⟨hb, 90, none⟩ = some (.bool h.said)
  c91 : w.cell? ⟨hb, 91, none⟩ = some (.int .i64 (h.tries : Int))
  c92 : w.cell? ⟨hb, 92, none⟩ = some (.int .i64 (h.ticks : Int))
  c2 : ∃ v, w.cell? ⟨hb, 2, none⟩ = some v ∧ LeftAt w lb v h.left
  ear : EarO w hb 4 h.ear
  ne : lb ≠ hb
  ll : lb < w.heap.size
theorem HstM.fz {w : World} {hb lb : Nat} {h : Hst} (m : HstM w hb lb h) (j : Nat) : w.frozen? ⟨hb, j, none⟩ = false := m.ear.fz j
theorem HstM.lt {w : World} {hb lb : Nat} {h : Hst} (m : HstM w hb lb h) : hb < w.heap.size := m.ear.lt
theorem EarO.setRest {w : World} {hb o j : Nat} {s : EarS} {v : Value} (h : EarO w hb o s) (hj : j < o ∨ o + 84 ≤ j) : EarO (w.setCell ⟨hb, j, none⟩ v) hb o s :=
  h.same (fun k h1 h2 => World.cell?_setCell_other _ _ _ _ (by simp <;> omega)) (fun k => by simp) (by simp [World.setCell])
theorem HstM.kept {w w' : World} {hb lb : Nat} {h : Hst} (m : HstM w hb lb h) (e : w'.heap[hb]? = w.heap[hb]?) (e2 : w'.heap[lb]? = w.heap[lb]?) (hz : w.heap.size ≤ w'.heap.size) : HstM w' hb lb h := by
  have hc : ∀ j, w'.cell? ⟨hb, j, none⟩ = w.cell? ⟨hb, j, none⟩ := fun j => World.cell?_of_block (a := ⟨hb, j, none⟩) e
  obtain ⟨v, v1, v2⟩ := m.c2
  exact ⟨(hc 0).trans m.c0, (hc 1).trans m.c1, (hc 3).trans m.c3, (hc 88).trans m.c88, (hc 89).trans m.c89, (hc 90).trans m.c90, (hc 91).trans m.c91, (hc 92).trans m.c92, ⟨v, (hc 2).trans v1, v2.kept (fun _ => e2)⟩, m.ear.kept e hz, m.ne, Nat.lt_of_lt_of_le m.ll hz⟩
theorem HstM.below {w w' : World} {hb lb : Nat} {h : Hst} (m : HstM w hb lb h) (b : Below w.heap.size w w') : HstM w' hb lb h :=
  m.kept (b.block hb m.lt) (b.block lb m.ll) b.size
theorem HstM.setState {w : World} {hb lb : Nat} {h : Hst} (m : HstM w hb lb h) (x : Nat) : HstM (w.setCell ⟨hb, 0, none⟩ (.int .i64 (x : Int))) hb lb ⟨x, h.ses, h.left, h.burnt, h.ear, h.asked, h.take, h.said, h.tries, h.ticks⟩ :=
  ⟨World.cell?_setCell_same _ _ _ m.c0, (World.cell?_setCell_other _ _ _ _ (by simp)).trans m.c1, (World.cell?_setCell_other _ _ _ _ (by simp)).trans m.c3, (World.cell?_setCell_other _ _ _ _ (by simp)).trans m.c88, (World.cell?_setCell_other _ _ _ _ (by simp)).trans m.c89, (World.cell?_setCell_other _ _ _ _ (by simp)).trans m.c90, (World.cell?_setCell_other _ _ _ _ (by simp)).trans m.c91, (World.cell?_setCell_other _ _ _ _ (by simp)).trans m.c92, (by obtain ⟨v, v1, v2⟩ := m.c2; exact ⟨v, (World.cell?_setCell_other _ _ _ _ (by simp)).trans v1, v2.set m.ne⟩), m.ear.setRest (by omega), m.ne, by simpa [World.setCell] using m.ll⟩
theorem HstM.setSes {w : World} {hb lb : Nat} {h : Hst} (m : HstM w hb lb h) (x : Nat) : HstM (w.setCell ⟨hb, 1, none⟩ (.int .u16 (x : Int))) hb lb ⟨h.state, x, h.left, h.burnt, h.ear, h.asked, h.take, h.said, h.tries, h.ticks⟩ :=
  ⟨(World.cell?_setCell_other _ _ _ _ (by simp)).trans m.c0, World.cell?_setCell_same _ _ _ m.c1, (World.cell?_setCell_other _ _ _ _ (by simp)).trans m.c3, (World.cell?_setCell_other _ _ _ _ (by simp)).trans m.c88, (World.cell?_setCell_other _ _ _ _ (by simp)).trans m.c89, (World.cell?_setCell_other _ _ _ _ (by simp)).trans m.c90, (World.cell?_setCell_other _ _ _ _ (by simp)).trans m.c91, (World.cell?_setCell_other _ _ _ _ (by simp)).trans m.c92, (by obtain ⟨v, v1, v2⟩ := m.c2; exact ⟨v, (World.cell?_setCell_other _ _ _ _ (by simp)).trans v1, v2.set m.ne⟩), m.ear.setRest (by omega), m.ne, by simpa [World.setCell] using m.ll⟩
theorem HstM.setBurnt {w : World} {hb lb : Nat} {h : Hst} (m : HstM w hb lb h) (x : Nat) : HstM (w.setCell ⟨hb, 3, none⟩ (.int .u16 (x : Int))) hb lb ⟨h.state, h.ses, h.left, x, h.ear, h.asked, h.take, h.said, h.tries, h.ticks⟩ :=
  ⟨(World.cell?_setCell_other _ _ _ _ (by simp)).trans m.c0, (World.cell?_setCell_other _ _ _ _ (by simp)).trans m.c1, World.cell?_setCell_same _ _ _ m.c3, (World.cell?_setCell_other _ _ _ _ (by simp)).trans m.c88, (World.cell?_setCell_other _ _ _ _ (by simp)).trans m.c89, (World.cell?_setCell_other _ _ _ _ (by simp)).trans m.c90, (World.cell?_setCell_other _ _ _ _ (by simp)).trans m.c91, (World.cell?_setCell_other _ _ _ _ (by simp)).trans m.c92, (by obtain ⟨v, v1, v2⟩ := m.c2; exact ⟨v, (World.cell?_setCell_other _ _ _ _ (by simp)).trans v1, v2.set m.ne⟩), m.ear.setRest (by omega), m.ne, by simpa [World.setCell] using m.ll⟩
theorem HstM.setAsked {w : World} {hb lb : Nat} {h : Hst} (m : HstM w hb lb h) (x : List UInt8) : HstM (w.setCell ⟨hb, 88, none⟩ (.string (txt x))) hb lb ⟨h.state, h.ses, h.left, h.burnt, h.ear, x, h.take, h.said, h.tries, h.ticks⟩ :=
  ⟨(World.cell?_setCell_other _ _ _ _ (by simp)).trans m.c0, (World.cell?_setCell_other _ _ _ _ (by simp)).trans m.c1, (World.cell?_setCell_other _ _ _ _ (by simp)).trans m.c3, World.cell?_setCell_same _ _ _ m.c88, (World.cell?_setCell_other _ _ _ _ (by simp)).trans m.c89, (World.cell?_setCell_other _ _ _ _ (by simp)).trans m.c90, (World.cell?_setCell_other _ _ _ _ (by simp)).trans m.c91, (World.cell?_setCell_other _ _ _ _ (by simp)).trans m.c92, (by obtain ⟨v, v1, v2⟩ := m.c2; exact ⟨v, (World.cell?_setCell_other _ _ _ _ (by simp)).trans v1, v2.set m.ne⟩), m.ear.setRest (by omega), m.ne, by simpa [World.setCell] using m.ll⟩
theorem HstM.setTake {w : World} {hb lb : Nat} {h : Hst} (m : HstM w hb lb h) (x : Nat) : HstM (w.setCell ⟨hb, 89, none⟩ (takeV hb x)) hb lb ⟨h.state, h.ses, h.left, h.burnt, h.ear, h.asked, x, h.said, h.tries, h.ticks⟩ :=
  ⟨(World.cell?_setCell_other _ _ _ _ (by simp)).trans m.c0, (World.cell?_setCell_other _ _ _ _ (by simp)).trans m.c1, (World.cell?_setCell_other _ _ _ _ (by simp)).trans m.c3, (World.cell?_setCell_other _ _ _ _ (by simp)).trans m.c88, World.cell?_setCell_same _ _ _ m.c89, (World.cell?_setCell_other _ _ _ _ (by simp)).trans m.c90, (World.cell?_setCell_other _ _ _ _ (by simp)).trans m.c91, (World.cell?_setCell_other _ _ _ _ (by simp)).trans m.c92, (by obtain ⟨v, v1, v2⟩ := m.c2; exact ⟨v, (World.cell?_setCell_other _ _ _ _ (by simp)).trans v1, v2.set m.ne⟩), m.ear.setRest (by omega), m.ne, by simpa [World.setCell] using m.ll⟩
theorem HstM.setSaid {w : World} {hb lb : Nat} {h : Hst} (m : HstM w hb lb h) (x : Bool) : HstM (w.setCell ⟨hb, 90, none⟩ (.bool x)) hb lb ⟨h.state, h.ses, h.left, h.burnt, h.ear, h.asked, h.take, x, h.tries, h.ticks⟩ :=
  ⟨(World.cell?_setCell_other _ _ _ _ (by simp)).trans m.c0, (World.cell?_setCell_other _ _ _ _ (by simp)).trans m.c1, (World.cell?_setCell_other _ _ _ _ (by simp)).trans m.c3, (World.cell?_setCell_other _ _ _ _ (by simp)).trans m.c88, (World.cell?_setCell_other _ _ _ _ (by simp)).trans m.c89, World.cell?_setCell_same _ _ _ m.c90, (World.cell?_setCell_other _ _ _ _ (by simp)).trans m.c91, (World.cell?_setCell_other _ _ _ _ (by simp)).trans m.c92, (by obtain ⟨v, v1, v2⟩ := m.c2; exact ⟨v, (World.cell?_setCell_other _ _ _ _ (by simp)).trans v1, v2.set m.ne⟩), m.ear.setRest (by omega), m.ne, by simpa [World.setCell] using m.ll⟩
theorem HstM.setTries {w : World} {hb lb : Nat} {h : Hst} (m : HstM w hb lb h) (x : Nat) : HstM (w.setCell ⟨hb, 91, none⟩ (.int .i64 (x : Int))) hb lb ⟨h.state, h.ses, h.left, h.burnt, h.ear, h.asked, h.take, h.said, x, h.ticks⟩ :=
  ⟨(World.cell?_setCell_other _ _ _ _ (by simp)).trans m.c0, (World.cell?_setCell_other _ _ _ _ (by simp)).trans m.c1, (World.cell?_setCell_other _ _ _ _ (by simp)).trans m.c3, (World.cell?_setCell_other _ _ _ _ (by simp)).trans m.c88, (World.cell?_setCell_other _ _ _ _ (by simp)).trans m.c89, (World.cell?_setCell_other _ _ _ _ (by simp)).trans m.c90, World.cell?_setCell_same _ _ _ m.c91, (World.cell?_setCell_other _ _ _ _ (by simp)).trans m.c92, (by obtain ⟨v, v1, v2⟩ := m.c2; exact ⟨v, (World.cell?_setCell_other _ _ _ _ (by simp)).trans v1, v2.set m.ne⟩), m.ear.setRest (by omega), m.ne, by simpa [World.setCell] using m.ll⟩
theorem HstM.setTicks {w : World} {hb lb : Nat} {h : Hst} (m : HstM w hb lb h) (x : Nat) : HstM (w.setCell ⟨hb, 92, none⟩ (.int .i64 (x : Int))) hb lb ⟨h.state, h.ses, h.left, h.burnt, h.ear, h.asked, h.take, h.said, h.tries, x⟩ :=
  ⟨(World.cell?_setCell_other _ _ _ _ (by simp)).trans m.c0, (World.cell?_setCell_other _ _ _ _ (by simp)).trans m.c1, (World.cell?_setCell_other _ _ _ _ (by simp)).trans m.c3, (World.cell?_setCell_other _ _ _ _ (by simp)).trans m.c88, (World.cell?_setCell_other _ _ _ _ (by simp)).trans m.c89, (World.cell?_setCell_other _ _ _ _ (by simp)).trans m.c90, (World.cell?_setCell_other _ _ _ _ (by simp)).trans m.c91, World.cell?_setCell_same _ _ _ m.c92, (by obtain ⟨v, v1, v2⟩ := m.c2; exact ⟨v, (World.cell?_setCell_other _ _ _ _ (by simp)).trans v1, v2.set m.ne⟩), m.ear.setRest (by omega), m.ne, by simpa [World.setCell] using m.ll⟩
theorem HstM.setLeft {w : World} {hb lb : Nat} {h : Hst} (m : HstM w hb lb h) (x : List Pg) (v : Value) (hv : LeftAt w lb v x) : HstM (w.setCell ⟨hb, 2, none⟩ v) hb lb ⟨h.state, h.ses, x, h.burnt, h.ear, h.asked, h.take, h.said, h.tries, h.ticks⟩ := by
  obtain ⟨v0, e0, _⟩ := m.c2
  exact ⟨(World.cell?_setCell_other _ _ _ _ (by simp)).trans m.c0, (World.cell?_setCell_other _ _ _ _ (by simp)).trans m.c1, (World.cell?_setCell_other _ _ _ _ (by simp)).trans m.c3, (World.cell?_setCell_other _ _ _ _ (by simp)).trans m.c88, (World.cell?_setCell_other _ _ _ _ (by simp)).trans m.c89, (World.cell?_setCell_other _ _ _ _ (by simp)).trans m.c90, (World.cell?_setCell_other _ _ _ _ (by simp)).trans m.c91, (World.cell?_setCell_other _ _ _ _ (by simp)).trans m.c92, ⟨v, World.cell?_setCell_same _ _ _ e0, hv.set m.ne⟩, m.ear.setRest (by omega), m.ne, by simpa [World.setCell] using m.ll⟩
end Go.Proofs.YthokdbcpkmcieaaGreat
namespace Go.Proofs.YthokdbcpkmcieaaGreat
open Go Go.RowKit
attribute [local go_sem ↓] Go.wp_at_zero Go.wp_at_succ
theorem takeV_func (hb t : Nat) (h : 1 ≤ t) : ∃ f, takeV hb t = .func (.func f) #[.pointer (some ⟨hb, 0, none⟩)] #[] := by
  unfold takeV
  rw [if_neg (by omega)]
  repeat' split
  all_goals exact ⟨_, rfl⟩
theorem setg (w : World) (b j : Nat) (v : Value) : w.grownBy (w.setCell ⟨b, j, none⟩ v) (some b) := grown_set _ _ _ _
set_option maxRecDepth 100000 in
set_option maxHeartbeats 2000000 in
theorem hsay_any (hb lb : Nat) (h : Hst) (w : World) (m : HstM w hb lb h) (ht : h.tries ≤ 5) :
    Calls Tryz.prog 75 #[.pointer (some ⟨hb, 0, none⟩)] w fun e w' => e = .returned (.tuple #[]) ∧ HstM w' hb lb (saysH h) ∧ w.grownBy w' (some hb) := by
  have c90 := m.c90
  have c91 := m.c91
  have c92 := m.c92
  have f90 := m.fz 90
  have f91 := m.fz 91
  have f92 := m.fz 92
  have e1 : ((h.tries + 1 : Nat) : Int) = (h.tries : Int) + 1 := by omega
  have e2 : ((0 : Nat) : Int) = 0 := rfl
  have HR := hideIt (And.intro (((m.setSaid false).setTries (h.tries + 1)).setTicks 0) ((setg w hb 90 (.bool false)).trans ((setg _ hb 91 (.int .i64 ((h.tries + 1 : Nat) : Int))).trans (setg _ hb 92 (.int .i64 ((0 : Nat) : Int))))))
  rw [e1, e2] at HR
  obtain ⟨T, hT⟩ : ∃ T, h.tries = T := ⟨_, rfl⟩
  rw [hT] at c91 ht
  have HT := hideIt hT
  rw [hT] at HR
  clear m e1 e2 hT
  go_enter Tryz.func75, Tryz.ntmps75
  go_wp2
  go_end0
  exact ⟨rfl, by unfold saysH; rw [HT.out]; exact HR.out.1, HR.out.2⟩
set_option maxRecDepth 100000 in
set_option maxHeartbeats 2000000 in
theorem hend_any (hb lb : Nat) (h : Hst) (s : Nat) (w : World) (m : HstM w hb lb h) :
    Calls Tryz.prog 76 #[.pointer (some ⟨hb, 0, none⟩), .int .i64 (s : Int)] w fun e w' => e = .returned (.tuple #[]) ∧ HstM w' hb lb (endH h s) ∧ w.grownBy w' (some hb) := by
  have c0 := m.c0
  have c89 := m.c89
  have f0 := m.fz 0
  have f89 := m.fz 89
  obtain ⟨V, hV⟩ : ∃ V, takeV hb h.take = V := ⟨_, rfl⟩
  rw [hV] at c89
  have HR := hideIt (And.intro ((m.setState s).setTake 0) ((setg w hb 0 (.int .i64 (s : Int))).trans (setg _ hb 89 (takeV hb 0))))
  have e0 : takeV hb 0 = .nilFunc := rfl
  rw [e0] at HR
  clear m hV e0
  go_enter Tryz.func76, Tryz.ntmps76
  go_wp2
  go_end0
  exact ⟨rfl, HR.out.1, HR.out.2⟩
set_option maxRecDepth 100000 in
set_option maxHeartbeats 4000000 in
theorem hask_any (hb lb : Nat) (h : Hst) (num what : UInt8) (rest : List UInt8) (tk : Nat) (w : World) (m : HstM w hb lb h) (hs : h.ses < 65536) (hr : rest.length ≤ 1000) (h1 : 1 ≤ tk) :
    Calls Tryz.prog 52 #[.pointer (some ⟨hb, 0, none⟩), .int .u8 (num.toNat : Int), .int .u8 (what.toNat : Int), .string (txt rest), takeV hb tk] w fun e w' => e = .returned (.tuple #[]) ∧ HstM w' hb lb (askH h num what rest tk) ∧ w.grownBy w' (some hb) := by
  have c1 := m.c1
  have c88 := m.c88
  have c89 := m.c89
  have c91 := m.c91
  have f88 := m.fz 88
  have f89 := m.fz 89
  have f91 := m.fz 91
  have hlt := m.lt
  have hb1 : h.ses / 256 < 256 := by omega
  have hb2 : h.ses % 256 < 256 := by omega
  have hcv : (convert 24 9 (.slice (some ⟨w.heap.size, 0, none⟩) 4 4)).run Tryz.prog (w.alloc (.cells #[.int .u8 ((h.ses : Int) / 256), .int .u8 ((h.ses : Int) % 256), .int .u8 (num.toNat : Int), .int .u8 (what.toNat : Int)] 5)).drew = .ok (.string (txt (headH h.ses num what))) (w.alloc (.cells #[.int .u8 ((h.ses : Int) / 256), .int .u8 ((h.ses : Int) % 256), .int .u8 (num.toNat : Int), .int .u8 (what.toNat : Int)] 5)).drew := by
    have := conv_row (l := headH h.ses num what) (n := 4) rfl (own_new w w.heap.size (Nat.le_refl _) (headH h.ses num what) (by simp [headH]) (by simp [headH])).drew
    have hv : (byteVs (headH h.ses num what)).toArray = #[.int .u8 ((h.ses : Int) / 256), .int .u8 ((h.ses : Int) % 256), .int .u8 (num.toNat : Int), .int .u8 (what.toNat : Int)] := by
      have e1 : (UInt8.ofNat (h.ses / 256)).toNat = h.ses / 256 := by rw [UInt8.toNat_ofNat']; omega
      have e2 : (UInt8.ofNat (h.ses % 256)).toNat = h.ses % 256 := by rw [UInt8.toNat_ofNat']; omega
      simp only [headH, byteVs, List.map_cons, List.map_nil, e1, e2]
      simp
    rw [hv] at this
    exact this
  have hB : Below w.heap.size w (w.alloc (.cells #[.int .u8 ((h.ses : Int) / 256), .int .u8 ((h.ses : Int) % 256), .int .u8 (num.toNat : Int), .int .u8 (what.toNat : Int)] 5)).drew := ((Below.refl _ _).alloc (Nat.le_refl _) _).drew
  have hcat : txt (headH h.ses num what) ++ txt rest = txt (headH h.ses num what ++ rest) := txt_append _ _
  have hs4 : (txt (headH h.ses num what)).size = 4 := rfl
  have hsr : ((txt rest).size : Int) ≤ 1000 := by rw [txt_size]; omega
  obtain ⟨w1, hw1⟩ : ∃ w1, (w.alloc (.cells #[.int .u8 ((h.ses : Int) / 256), .int .u8 ((h.ses : Int) % 256), .int .u8 (num.toNat : Int), .int .u8 (what.toNat : Int)] 5)).drew = w1 := ⟨_, rfl⟩
  rw [hw1] at hcv hB
  have m1 := m.below hB
  have r3 : HstM (((w1.setCell ⟨hb, 88, none⟩ (.string (txt (headH h.ses num what ++ rest)))).setCell ⟨hb, 89, none⟩ (takeV hb tk)).setCell ⟨hb, 91, none⟩ (.int .i64 ((0 : Nat) : Int))) hb lb ⟨h.state, h.ses, h.left, h.burnt, h.ear, headH h.ses num what ++ rest, tk, h.said, 0, h.ticks⟩ := ((m1.setAsked (headH h.ses num what ++ rest)).setTake tk).setTries 0
  have HS := hideIt (fun w' (m' : HstM w' hb lb ⟨h.state, h.ses, h.left, h.burnt, h.ear, headH h.ses num what ++ rest, tk, h.said, 0, h.ticks⟩) => hsay_any hb lb ⟨h.state, h.ses, h.left, h.burnt, h.ear, headH h.ses num what ++ rest, tk, h.said, 0, h.ticks⟩ w' m' (by show 0 ≤ 5; omega))
  have G3' := (below_to_grown hB (some hb)).trans ((setg w1 hb 88 (.string (txt (headH h.ses num what ++ rest)))).trans ((setg _ hb 89 (takeV hb tk)).trans (setg _ hb 91 (.int .i64 ((0 : Nat) : Int)))))
  have HR := hideIt (And.intro r3 G3')
  have d88 := m1.c88
  have d89 := m1.c89
  have d91 := m1.c91
  have g88 := m1.fz 88
  have g89 := m1.fz 89
  have g91 := m1.fz 91
  have hl1 := m1.lt
  obtain ⟨V0, hV0⟩ : ∃ V0, takeV hb h.take = V0 := ⟨_, rfl⟩
  rw [hV0] at c89 d89
  obtain ⟨V, hV⟩ := takeV_func hb tk h1
  rw [hV] at HR ⊢
  have e0 : ((0 : Nat) : Int) = 0 := rfl
  rw [e0, ← hcat] at HR
  obtain ⟨HD, hHD⟩ : ∃ HD, txt (headH h.ses num what) = HD := ⟨_, rfl⟩
  obtain ⟨RS, hRS⟩ : ∃ RS, txt rest = RS := ⟨_, rfl⟩
  rw [hHD] at HR hcv hs4
  rw [hRS] at HR hsr ⊢
  clear m m1 r3 G3' hB hcat hV hV0 hHD hRS e0
  go_enter Tryz.func52, Tryz.ntmps52
  go_wp2
  go_region
  all_goals
    clear hw1 c88 c89 c91 f88 f89 f91 hlt
    go_wp2_with fail
    refine (HS.out _ HR.out.1).mono ?_
    rintro e w2 ⟨rfl, h2, h3⟩
    have HZ := hideIt (And.intro h2 (HR.out.2.trans h3))
    clear h2 h3
    go_wp2
    go_end0
    exact ⟨rfl, HZ.out.1, HZ.out.2⟩
end Go.Proofs.YthokdbcpkmcieaaGreat
namespace Go.Proofs.YthokdbcpkmcieaaGreat
open Go Go.RowKit
attribute [local go_sem ↓] Go.wp_at_zero Go.wp_at_succ
theorem and_one16 (c : Nat) (hc : c < 65536) : bits .and .u16 (c : Int) 1 = ((c % 2 : Nat) : Int) := by
  have h1 : (BitVec.ofInt 16 (c : Int)).toNat = c := by
    rw [BitVec.toNat_ofInt]
    omega
  have h2 : (BitVec.ofInt 16 1).toNat = 1 := by decide
  show IntKind.u16.wrap ((BitVec.ofInt 16 (c : Int) &&& BitVec.ofInt 16 1).toNat : Int) = _
  rw [BitVec.toNat_and, h1, h2, Nat.and_one_is_mod, IntKind.wrap_u16]
  omega
theorem wrap_succ (x : UInt8) : IntKind.u8.wrap ((x.toNat : Int) + 1) = ((x + 1).toNat : Int) := by
  have hx := x.toNat_lt
  have e : (x + 1).toNat = (x.toNat + 1) % 256 := by rw [UInt8.toNat_add]; rfl
  rw [IntKind.wrap_u8, e]
  omega
set_option maxRecDepth 100000 in
set_option maxHeartbeats 2000000 in
theorem hnext_any (hb lb : Nat) (h : Hst) (what : UInt8) (rest : List UInt8) (tk : Nat) (w : World) (m : HstM w hb lb h) (hs : h.ses < 65536) (hl : 4 ≤ h.asked.length ∧ h.asked.length ≤ 69) (hr : rest.length ≤ 1000) (h1 : 1 ≤ tk) :
    Calls Tryz.prog 77 #[.pointer (some ⟨hb, 0, none⟩), .int .u8 (what.toNat : Int), .string (txt rest), takeV hb tk] w fun e w' => e = .returned (.tuple #[]) ∧ HstM w' hb lb (nextH h what rest tk) ∧ w.grownBy w' (some hb) := by
  have c88 := m.c88
  have HA := hideIt (hask_any hb lb h (h.asked.getD 2 0 + 1) what rest tk w m hs hr h1)
  obtain ⟨S, hS⟩ : ∃ S, txt h.asked = S := ⟨_, rfl⟩
  have hsz : S.size = h.asked.length := by rw [← hS, txt_size]
  have h2S : 2 < S.size := by omega
  obtain ⟨x, hx⟩ : ∃ x, h.asked.getD 2 0 = x := ⟨_, rfl⟩
  have hS2 : S[2] = x := (txt_at hS h2S).trans hx
  have hwx := wrap_succ x
  have hSi : (S.size : Int) ≤ 69 := by omega
  have h2i : (2 : Int) < (S.size : Int) := by omega
  rw [hS] at c88
  rw [hx] at HA
  obtain ⟨V, hV⟩ := takeV_func hb tk h1
  obtain ⟨RS, hRS⟩ : ∃ RS, txt rest = RS := ⟨_, rfl⟩
  rw [hV, hRS] at HA ⊢
  have HX := hideIt hx
  clear m hS hsz hl hx hV hRS
  go_enter Tryz.func77, Tryz.ntmps77
  go_wp2_with fail
  refine HA.out.mono ?_
  rintro e w1 ⟨rfl, h1, h2⟩
  have HZ := hideIt (And.intro h1 h2)
  clear h1 h2
  go_wp2
  go_end0
  exact ⟨rfl, by unfold nextH; rw [HX.out]; exact HZ.out.1, HZ.out.2⟩
set_option maxRecDepth 100000 in
set_option maxHeartbeats 2000000 in
theorem hname_any (n : UInt8) (bs : ByteArray) (w : World) : Calls Tryz.prog 126 #[.agg #[.int .u8 (n.toNat : Int), .string bs]] w fun e w' => e = .returned (.string (txt [n])) ∧ Below w.heap.size w w' := by
  obtain ⟨w1, hw1⟩ : ∃ w1, w.alloc (.cells #[.int .u8 (n.toNat : Int), .string bs] 139) = w1 := ⟨_, rfl⟩
  have k0 : w1.cell? ⟨w.heap.size, 0, none⟩ = some (.int .u8 (n.toNat : Int)) := by rw [← hw1, cell_of_row _ _ _ _ _ (0, 0) (heap_alloc_new w _)]; rfl
  have hcv := conv_one w1 n
  have HB := hideIt (show Below w.heap.size w (w1.alloc (.cells #[.int .u8 (n.toNat : Int)] 5)) by rw [← hw1]; exact ((Below.refl _ _).alloc (Nat.le_refl _) _).alloc (by simp) _)
  obtain ⟨T, hT⟩ : ∃ T, txt [n] = T := ⟨_, rfl⟩
  rw [hT] at hcv ⊢
  clear hT
  go_enter Tryz.func126, Tryz.ntmps126
  go_wp2
  go_ret
  exact ⟨rfl, HB.out⟩
set_option maxRecDepth 100000 in
set_option maxHeartbeats 2000000 in
theorem hsize_any (x : UInt8) (w : World) : Calls Tryz.prog 121 #[.int .u8 (x.toNat : Int)] w fun e w' => e = .returned (.int .i64 (yesLen x : Int)) ∧ w' = w := by
  by_cases h3 : x = 3
  · subst h3
    go_enter Tryz.func121, Tryz.ntmps121
    go_wp2
    go_ret
    exact ⟨rfl, rfl⟩
  by_cases h4 : x = 4
  · subst h4
    go_enter Tryz.func121, Tryz.ntmps121
    go_wp2
    go_ret
    exact ⟨rfl, rfl⟩
  have e : yesLen x = 0 := by unfold yesLen; simp [h3, h4]
  have n3 : ((x.toNat : Int) == 3) = false := toNat_ne (c := 3) h3
  have n4 : ((x.toNat : Int) == 4) = false := toNat_ne (c := 4) h4
  rw [e]
  clear h3 h4 e
  go_enter Tryz.func121, Tryz.ntmps121
  go_wp2
  go_ret
  exact ⟨rfl, rfl⟩
set_option maxRecDepth 100000 in
set_option maxHeartbeats 2000000 in
theorem hisRead_any (n : UInt8) (bs : List UInt8) (y : Bool) (rd : List UInt8) (w : World) : Calls Tryz.prog 127 #[.agg #[.int .u8 (n.toNat : Int), .string (txt bs)], .agg #[.bool y, .string (txt rd)]] w fun e w' => e = .returned (.bool (decide (y = true ∧ rd = bs))) ∧ Below w.heap.size w w' := by
  obtain ⟨w1, hw1⟩ : ∃ w1, w.alloc (.cells #[.int .u8 (n.toNat : Int), .string (txt bs)] 139) = w1 := ⟨_, rfl⟩
  obtain ⟨w2, hw2⟩ : ∃ w2, w1.alloc (.cells #[.bool y, .string (txt rd)] 142) = w2 := ⟨_, rfl⟩
  have k0 : w2.cell? ⟨w.heap.size, 1, none⟩ = some (.string (txt bs)) := by
    rw [← hw2, ← hw1]
    have : ((w.alloc (.cells #[.int .u8 (n.toNat : Int), .string (txt bs)] 139)).alloc (.cells #[.bool y, .string (txt rd)] 142)).heap[w.heap.size]? = some (.cells #[.int .u8 (n.toNat : Int), .string (txt bs)] 139) := by rw [Below.heap_alloc _ _ _ (by simp)]; exact heap_alloc_new w _
    rw [cell_of_row _ _ _ _ _ (0, 0) this]; rfl
  have k1 : w2.cell? ⟨w1.heap.size, 0, none⟩ = some (.bool y) := by rw [← hw2, cell_of_row _ _ _ _ _ (0, 0) (heap_alloc_new w1 _)]; rfl
  have k2 : w2.cell? ⟨w1.heap.size, 1, none⟩ = some (.string (txt rd)) := by rw [← hw2, cell_of_row _ _ _ _ _ (0, 0) (heap_alloc_new w1 _)]; rfl
  have HB := hideIt (show Below w.heap.size w w2 by rw [← hw2, ← hw1]; exact ((Below.refl _ _).alloc (Nat.le_refl _) _).alloc (by simp) _)
  by_cases he : rd = bs
  · subst he
    obtain ⟨T, hT⟩ : ∃ T, txt rd = T := ⟨_, rfl⟩
    rw [hT] at hw1 hw2 k0 k2 ⊢
    clear hT
    cases y
    all_goals
      go_enter Tryz.func127, Tryz.ntmps127
      go_wp2
      go_ret
      exact ⟨by simp, HB.out⟩
  · have hne := txt_neR he
    have hd : decide (y = true ∧ rd = bs) = false := by simp [he]
    rw [hd]
    obtain ⟨T, hT⟩ : ∃ T, txt rd = T := ⟨_, rfl⟩
    obtain ⟨U, hU⟩ : ∃ U, txt bs = U := ⟨_, rfl⟩
    rw [hT] at hw2 k2 hne ⊢
    rw [hU] at hw1 k0 hne ⊢
    clear hT hU hd he
    cases y
    all_goals
      go_enter Tryz.func127, Tryz.ntmps127
      go_wp2
      go_ret
      exact ⟨rfl, HB.out⟩
set_option maxRecDepth 100000 in
set_option maxHeartbeats 2000000 in
theorem hisIn_any (p : Pg) (b : Nat) (hn : p.n < 16) (hb : b < 65536) (w : World) : Calls Tryz.prog 112 #[.agg #[.int .u8 (p.n.toNat : Int), .string (txt p.bs)], .int .u16 (b : Int)] w fun e w' => e = .returned (.bool (isInH p b)) ∧ Below w.heap.size w w' := by
  have hn16 := u16 hn
  obtain ⟨N, hN⟩ : ∃ N, p.n.toNat = N := ⟨_, rfl⟩
  rw [hN] at hn16 ⊢
  have hNi : (N : Int) < 16 := by omega
  have hq : b / 2 ^ N < 65536 := Nat.lt_of_le_of_lt (Nat.div_le_self _ _) hb
  have hdiv : (b : Int) / 2 ^ N = ((b / 2 ^ N : Nat) : Int) := by rw [Int.natCast_ediv, Int.natCast_pow]; rfl
  have hand := and_one16 (b / 2 ^ N) hq
  rw [← hdiv] at hand
  have HX := hideIt (show Ending.returned (Value.bool (bits .and .u16 ((b : Int) / 2 ^ N) 1 == 1)) = Ending.returned (Value.bool (isInH p b)) by
    rw [hand]
    unfold isInH
    rw [hN]
    congr 2
    obtain ⟨r, hr⟩ : ∃ r, b / 2 ^ N % 2 = r := ⟨_, rfl⟩
    rw [hr]
    have hr2 : r = 0 ∨ r = 1 := by omega
    rcases hr2 with rfl | rfl <;> rfl)
  have HB := hideIt (show Below w.heap.size w (w.alloc (.cells #[.int .u8 (N : Int), .string (txt p.bs)] 139)) from (Below.refl _ _).alloc (Nat.le_refl _) _)
  clear hand hdiv hq hN hn
  go_enter Tryz.func112, Tryz.ntmps112
  go_wp2
  go_ret
  exact ⟨HX.out, HB.out⟩
end Go.Proofs.YthokdbcpkmcieaaGreat
namespace Go.Proofs.YthokdbcpkmcieaaGreat
open Go Go.RowKit
attribute [local go_sem ↓] Go.wp_at_zero Go.wp_at_succ
/-- The first of the pages that are left, in memory. -/
theorem HstM.first {w : World} {hb lb : Nat} {h : Hst} (m : HstM w hb lb h) (hl : 0 < h.left.length) : ∃ off cap, w.cell? ⟨hb, 2, none⟩ = some (.slice (some ⟨lb, off, none⟩) h.left.length cap) ∧ h.left.length ≤ cap ∧ cap ≤ 9223372036854775807 ∧ w.cell? ⟨lb, off, none⟩ = some (.int .u8 ((firstH h).n.toNat : Int)) ∧ w.cell? ⟨lb, off + 1, none⟩ = some (.string (txt (firstH h).bs)) := by
  obtain ⟨v, v1, v2⟩ := m.c2
  obtain ⟨a, cap, rfl, h2, h3, h4⟩ := v2.is
  obtain ⟨off, rfl, h5⟩ := h4 hl
  obtain ⟨k1, k2⟩ := h5 0 hl
  have e : firstH h = h.left[0] := by unfold firstH; rw [List.getD_eq_getElem?_getD, List.getElem?_eq_getElem hl]; rfl
  rw [e]
  exact ⟨off, cap, v1, h2, h3, by simpa using k1, by simpa using k2⟩
set_option maxRecDepth 100000 in
set_option maxHeartbeats 2000000 in
theorem haskRead_any (hb lb : Nat) (h : Hst) (tk : Nat) (w : World) (m : HstM w hb lb h) (k : HB h) (hl : 0 < h.left.length) (h1 : 1 ≤ tk) :
    Calls Tryz.prog 113 #[.pointer (some ⟨hb, 0, none⟩), takeV hb tk] w fun e w' => e = .returned (.tuple #[]) ∧ HstM w' hb lb (askReadH h tk) ∧ w.grownBy w' (some hb) := by
  obtain ⟨off, cap, c2, hc1, hc2, k0, k1⟩ := m.first hl
  have HN := hideIt (fun w' => hname_any (firstH h).n (txt (firstH h).bs) w')
  have HA := hideIt (fun w' (m' : HstM w' hb lb h) => hnext_any hb lb h 3 [(firstH h).n] tk w' m' k.ses k.long (by simp) h1)
  have h3 : ((3 : UInt8).toNat : Int) = 3 := rfl
  rw [h3] at HA
  obtain ⟨V, hV⟩ := takeV_func hb tk h1
  rw [hV] at HA ⊢
  obtain ⟨T, hT⟩ : ∃ T, txt [(firstH h).n] = T := ⟨_, rfl⟩
  rw [hT] at HN HA
  obtain ⟨N, hN⟩ : ∃ N, (firstH h).n.toNat = N := ⟨_, rfl⟩
  obtain ⟨U, hU⟩ : ∃ U, txt (firstH h).bs = U := ⟨_, rfl⟩
  rw [hN] at HN k0
  rw [hU] at HN k1
  obtain ⟨L, hL⟩ : ∃ L, h.left.length = L := ⟨_, rfl⟩
  rw [hL] at c2 hl hc1
  have hLi : (0 : Int) < (L : Int) := by omega
  have HM := hideIt m
  clear m hV hT hN hU hL h3
  go_enter Tryz.func113, Tryz.ntmps113
  go_wp2_with fail
  refine (HN.out _).mono ?_
  rintro e w1 ⟨rfl, hB1⟩
  have HB1 := hideIt hB1
  clear hB1
  go_wp2_with fail
  refine (HA.out _ (HM.out.below HB1.out)).mono ?_
  rintro e w2 ⟨rfl, h1, h2⟩
  have HZ := hideIt (And.intro h1 ((below_to_grown HB1.out (some hb)).trans h2))
  clear h1 h2
  go_wp2
  go_end0
  exact ⟨rfl, HZ.out.1, HZ.out.2⟩
set_option maxRecDepth 100000 in
set_option maxHeartbeats 4000000 in
theorem haskPage_any (hb lb : Nat) (h : Hst) (w : World) (m : HstM w hb lb h) (k : HB h) (hl : 0 < h.left.length) :
    Calls Tryz.prog 115 #[.pointer (some ⟨hb, 0, none⟩)] w fun e w' => e = .returned (.tuple #[]) ∧ HstM w' hb lb (askPageH h) ∧ w.grownBy w' (some hb) := by
  obtain ⟨off, cap, c2, hc1, hc2, k0, k1⟩ := m.first hl
  have hp := (k.pages _ (first_mem hl)).2
  have HN := hideIt (fun w' => hname_any (firstH h).n (txt (firstH h).bs) w')
  have HA := hideIt (fun w' (m' : HstM w' hb lb h) => hnext_any hb lb h 2 ((firstH h).n :: (firstH h).bs) 3 w' m' k.ses k.long (by simp [hp]) (by omega))
  have h3 : ((2 : UInt8).toNat : Int) = 2 := rfl
  have hcat : txt ((firstH h).n :: (firstH h).bs) = txt [(firstH h).n] ++ txt (firstH h).bs := by rw [txt_append]; rfl
  have hV : takeV hb 3 = .func (.func 129) #[.pointer (some ⟨hb, 0, none⟩)] #[] := rfl
  rw [h3, hcat, hV] at HA
  have hs1 : (txt [(firstH h).n]).size = 1 := rfl
  have hs2 : (txt (firstH h).bs).size = 64 := by rw [txt_size, hp]
  obtain ⟨T, hT⟩ : ∃ T, txt [(firstH h).n] = T := ⟨_, rfl⟩
  rw [hT] at HN HA hs1
  obtain ⟨N, hN⟩ : ∃ N, (firstH h).n.toNat = N := ⟨_, rfl⟩
  obtain ⟨U, hU⟩ : ∃ U, txt (firstH h).bs = U := ⟨_, rfl⟩
  rw [hN] at HN k0
  rw [hU] at HN k1 HA hs2
  obtain ⟨L, hL⟩ : ∃ L, h.left.length = L := ⟨_, rfl⟩
  rw [hL] at c2 hl hc1
  have hLi : (0 : Int) < (L : Int) := by omega
  have hlt := m.lt
  have hll := m.ll
  have HM := hideIt m
  clear m hV hT hN hU hL h3 hcat hp
  go_enter Tryz.func115, Tryz.ntmps115
  go_wp2_with fail
  go_region_with (first | (go_at_call 126; refine (HN.out _).mono ?_; rintro e wx ⟨rfl, hBx⟩; have d2 := (World.cell?_of_block (a := ⟨hb, 2, none⟩) (hBx.block hb (by exact hlt))).trans (by exact c2); have d1 := (World.cell?_of_block (a := ⟨lb, off + 1, none⟩) (hBx.block lb (by exact hll))).trans (by exact k1)) | (go_at_call 77; refine (HA.out _ (by exact (HM.out.below (w' := wx) ⟨hBx.os, hBx.tape, hBx.output, hBx.size, hBx.block⟩))).mono ?_; rintro e wz ⟨rfl, h1, h2⟩))
  all_goals
    have HZ := hideIt (And.intro h1 ((below_to_grown (w := w) ⟨hBx.os, hBx.tape, hBx.output, hBx.size, hBx.block⟩ (some hb)).trans h2))
    clear h1 h2 hBx d1 d2
    go_wp2
    go_end0
    exact ⟨rfl, HZ.out.1, HZ.out.2⟩
end Go.Proofs.YthokdbcpkmcieaaGreat
namespace Go.Proofs.YthokdbcpkmcieaaGreat
open Go Go.RowKit
attribute [local go_sem ↓] Go.wp_at_zero Go.wp_at_succ
theorem HstM.slice {w : World} {hb lb : Nat} {h : Hst} (m : HstM w hb lb h) : ∃ a cap, w.cell? ⟨hb, 2, none⟩ = some (.slice a h.left.length cap) ∧ h.left.length ≤ cap ∧ cap ≤ 9223372036854775807 := by
  obtain ⟨v, v1, v2⟩ := m.c2
  obtain ⟨a, cap, rfl, h2, h3, _⟩ := v2.is
  exact ⟨a, cap, v1, h2, h3⟩
set_option maxRecDepth 100000 in
set_option maxHeartbeats 4000000 in
theorem hgoOn_any (hb lb : Nat) (h : Hst) (w : World) (m : HstM w hb lb h) (k : HB h) :
    Calls Tryz.prog 95 #[.pointer (some ⟨hb, 0, none⟩)] w fun e w' => e = .returned (.tuple #[]) ∧ HstM w' hb lb (goOnH h) ∧ w.grownBy w' (some hb) := by
  by_cases hl : h.left.length = 0
  · obtain ⟨a, cap, c2, _, _⟩ := m.slice
    have hg : goOnH h = endH h 1 := by unfold goOnH; rw [if_pos hl]
    rw [hg]
    rw [hl] at c2
    have HE := hideIt (hend_any hb lb h 1 w m)
    have e1 : ((1 : Nat) : Int) = 1 := rfl
    rw [e1] at HE
    clear m hg hl e1
    go_enter Tryz.func95, Tryz.ntmps95
    go_wp2_with fail
    refine HE.out.mono ?_
    rintro e w1 ⟨rfl, h1, h2⟩
    have HZ := hideIt (And.intro h1 h2)
    clear h1 h2
    go_wp2
    go_end0
    exact ⟨rfl, HZ.out.1, HZ.out.2⟩
  · have hl0 : 0 < h.left.length := by omega
    obtain ⟨off, cap, c2, hc1, hc2, k0, k1⟩ := m.first hl0
    have hp := k.pages _ (first_mem hl0)
    have c3 := m.c3
    have HI := hideIt (fun w' => hisIn_any (firstH h) h.burnt hp.1 k.burnt w')
    have hbl := k.burnt
    obtain ⟨N, hN⟩ : ∃ N, (firstH h).n.toNat = N := ⟨_, rfl⟩
    obtain ⟨U, hU⟩ : ∃ U, txt (firstH h).bs = U := ⟨_, rfl⟩
    rw [hN] at HI k0
    rw [hU] at HI k1
    obtain ⟨L, hL⟩ : ∃ L, h.left.length = L := ⟨_, rfl⟩
    have HL := hideIt hL
    rw [hL] at c2 hl hc1 hl0
    have hLi : (0 : Int) < (L : Int) := by omega
    have hL0 : ((L : Int) == 0) = false := by simp; omega
    have hlt := m.lt
    have HM := hideIt m
    have HK := hideIt k
    have HH0 := hideIt hl0
    cases hb2 : isInH (firstH h) h.burnt
    · have hg : goOnH h = askPageH h := by unfold goOnH; rw [if_neg (by rw [hL]; exact hl), if_neg (by rw [hb2]; simp)]
      rw [hg]
      rw [hb2] at HI
      have HP := hideIt (fun w' (m' : HstM w' hb lb h) => haskPage_any hb lb h w' m' k (by omega))
      clear m k hN hU hL hg hb2 hp
      go_enter Tryz.func95, Tryz.ntmps95
      go_wp2_with fail
      go_region_with (go_at_call 112; refine (HI.out _).mono ?_; rintro e wx ⟨rfl, hBx⟩)
      all_goals
        have hBx' : Below w.heap.size w wx := ⟨hBx.os, hBx.tape, hBx.output, hBx.size, hBx.block⟩
        have HBX := hideIt hBx'
        clear hBx hBx'
        go_wp2_with fail
        refine (HP.out _ (HM.out.below HBX.out)).mono ?_
        rintro e w2 ⟨rfl, h1, h2⟩
        have HZ := hideIt (And.intro h1 ((below_to_grown HBX.out (some hb)).trans h2))
        clear h1 h2
        go_wp2
        go_end0
        exact ⟨rfl, HZ.out.1, HZ.out.2⟩
    · have hg : goOnH h = askReadH h 4 := by unfold goOnH; rw [if_neg (by rw [hL]; exact hl), if_pos hb2]
      rw [hg]
      rw [hb2] at HI
      have HP := hideIt (fun w' (m' : HstM w' hb lb h) => haskRead_any hb lb h 4 w' m' k (by omega) (by omega))
      have hV : takeV hb 4 = .func (.func 114) #[.pointer (some ⟨hb, 0, none⟩)] #[] := rfl
      rw [hV] at HP
      clear m k hN hU hL hg hb2 hp hV
      go_enter Tryz.func95, Tryz.ntmps95
      go_wp2_with fail
      go_region_with (go_at_call 112; refine (HI.out _).mono ?_; rintro e wx ⟨rfl, hBx⟩)
      all_goals
        have hBx' : Below w.heap.size w wx := ⟨hBx.os, hBx.tape, hBx.output, hBx.size, hBx.block⟩
        have HBX := hideIt hBx'
        clear hBx hBx'
        go_wp2_with fail
        refine (HP.out _ (HM.out.below HBX.out)).mono ?_
        rintro e w2 ⟨rfl, h1, h2⟩
        have HZ := hideIt (And.intro h1 ((below_to_grown HBX.out (some hb)).trans h2))
        clear h1 h2
        go_wp2
        go_end0
        exact ⟨rfl, HZ.out.1, HZ.out.2⟩
end Go.Proofs.YthokdbcpkmcieaaGreat
