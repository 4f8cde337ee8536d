/- The document's host: plain functions, memory, what it asks. -/
import Derived.Test.YthokdbcpkmcieaaGreatHsD
namespace Go.Proofs.YthokdbcpkmcieaaGreat
structure RHst where
  all : List Pg
  pos : Nat
  paged : Bool
  ses : List UInt8
  num : Nat
  msg : List UInt8
  what : Nat
  said : Nat
  ticks : Nat
  ready : Bool
  burnt : Nat
  state : Nat
  ear : REar
def curD (d : RHst) : Pg := d.all.getD d.pos ⟨0, []⟩
def raskD (d : RHst) (what : UInt8) (rest : List UInt8) : RHst := { d with num := (d.num + 1) % 256, what := what.toNat, msg := (d.ses ++ [UInt8.ofNat ((d.num + 1) % 256), what]) ++ rest, said := 1, ticks := 0, ready := true }
def rpageD (d : RHst) (what : UInt8) : RHst := if what = 2 then raskD { d with paged := true } 2 ([(curD d).n] ++ (curD d).bs) else raskD d what [(curD d).n]
def rnextD (d : RHst) : RHst := if d.pos = d.all.length then { d with state := 1 } else if isInH (curD d) d.burnt = true then rpageD { d with paged := false } 3 else rpageD { d with paged := false } 2
def goodD (d : RHst) (yes : Bool) (rest : List UInt8) : Bool := yes && (decide (d.what ≠ 3) || decide (rest = (curD d).bs))
def rtakesD (d : RHst) (yes : Bool) (rest : List UInt8) : RHst :=
  if d.what = 3 ∧ goodD d yes rest = false ∧ d.paged = false then rpageD d 2
  else if goodD d yes rest = false then { d with state := 2 }
  else if d.what = 1 then raskD d 4 []
  else if d.what = 4 then rnextD { d with burnt := 256 * (rest.getD 0 0).toNat + (rest.getD 1 0).toNat }
  else if d.what = 2 then rpageD d 3
  else rnextD { d with pos := d.pos + 1 }
def rhearsD (d : RHst) (m : List UInt8) : RHst := if d.state ≠ 0 then d else match answerToH d.msg m with | some (y, bs) => rtakesD d y bs | none => d
def rsayD (d : RHst) : RHst × List UInt8 := if d.ready = false ∨ d.state ≠ 0 then (d, []) else ({ d with ready := false }, frameF d.msg)
def rtickD (d : RHst) : RHst := if d.state ≠ 0 then d else if d.ticks + 1 < 3 then { d with ticks := d.ticks + 1 } else if d.said = 5 then { d with ticks := 0, state := 2 } else { d with ticks := 0, said := d.said + 1, ready := true }
/-- While they go: the two hosts know the same. -/
structure SameG (h : Hst) (d : RHst) : Prop where
  left : h.left = d.all.drop d.pos
  pos : d.pos ≤ d.all.length
  ses : d.ses = [UInt8.ofNat (h.ses / 256), UInt8.ofNat (h.ses % 256)]
  msg : d.msg = h.asked
  num : d.num = (h.asked.getD 2 0).toNat
  what : d.what = (h.asked.getD 3 0).toNat
  said : d.said = h.tries
  ticks : d.ticks = h.ticks
  ready : d.ready = !h.said
  burnt : d.burnt = h.burnt
  p3 : h.take = 3 → d.paged = true
  p4 : h.take = 4 → d.paged = false
  p5 : h.take = 5 → d.paged = true
/-- What the document's host keeps to. -/
structure DOk (d : RHst) : Prop where
  few : d.all.length ≤ 16
  pages : ∀ p ∈ d.all, p.n < 16 ∧ p.bs.length = 64
  pos : d.pos ≤ d.all.length
  ses : d.ses.length = 2
  num : d.num ≤ 255
  msg : d.msg.length ≤ 1000
  what : d.what ≤ 255
  said : d.said ≤ 5
  ticks : d.ticks ≤ 3
  burnt : d.burnt < 65536
  st : d.state ≤ 2
structure SameH (h : Hst) (d : RHst) : Prop where
  state : d.state = h.state
  ear : SameE h.ear d.ear
  go : h.take ≠ 0 → SameG h d
  ok : DOk d
theorem first_cur {h : Hst} {d : RHst} (g : SameG h d) : firstH h = curD d := by
  unfold firstH curD
  rw [g.left, List.getD_eq_getElem?_getD, List.getD_eq_getElem?_getD, List.getElem?_drop, Nat.add_zero]
theorem num_succ (x : UInt8) : UInt8.ofNat ((x.toNat + 1) % 256) = x + 1 := by
  have h : (x + 1).toNat = (x.toNat + 1) % 256 := by rw [UInt8.toNat_add]; rfl
  rw [← h, UInt8.ofNat_toNat]
theorem left_len {h : Hst} {d : RHst} (g : SameG h d) : h.left.length = d.all.length - d.pos := by rw [g.left, List.length_drop]
theorem cur_mem {d : RHst} (h : d.pos < d.all.length) : curD d ∈ d.all := by
  unfold curD
  rw [List.getD_eq_getElem?_getD, List.getElem?_eq_getElem h]
  exact List.getElem_mem h
/-- Something new is asked, by both. -/
theorem same_ask {h : Hst} {d : RHst} (g : SameG h d) (k : DOk d) (he : SameE h.ear d.ear) (hst : h.state = 0) (hds : d.state = 0) (what : UInt8) (rest : List UInt8) (tk : Nat) (pg : Bool) (h3 : tk = 3 → pg = true) (h4 : tk = 4 → pg = false) (h5 : tk = 5 → pg = true) (hr : rest.length ≤ 900) : SameH (nextH h what rest tk) (raskD { d with paged := pg } what rest) := by
  have hn : UInt8.ofNat ((d.num + 1) % 256) = h.asked.getD 2 0 + 1 := by rw [g.num]; exact num_succ _
  have hm : (d.ses ++ [UInt8.ofNat ((d.num + 1) % 256), what]) ++ rest = headH h.ses (h.asked.getD 2 0 + 1) what ++ rest := by rw [hn, g.ses]; rfl
  refine ⟨?_, he, fun _ => ⟨g.left, g.pos, g.ses, hm, ?_, ?_, rfl, rfl, rfl, g.burnt, h3, h4, h5⟩, ⟨k.few, k.pages, k.pos, k.ses, ?_, ?_, ?_, ?_, ?_, k.burnt, k.st⟩⟩
  · show d.state = h.state
    rw [hds, hst]
  · show (d.num + 1) % 256 = ((headH h.ses (h.asked.getD 2 0 + 1) what ++ rest).getD 2 0).toNat
    have : (headH h.ses (h.asked.getD 2 0 + 1) what ++ rest).getD 2 0 = h.asked.getD 2 0 + 1 := rfl
    rw [this, ← hn, UInt8.toNat_ofNat']
    omega
  · rfl
  · show (d.num + 1) % 256 ≤ 255
    omega
  · show ((d.ses ++ [UInt8.ofNat ((d.num + 1) % 256), what]) ++ rest).length ≤ 1000
    have := k.ses
    simp only [List.length_append, List.length_cons, List.length_nil]
    omega
  · show what.toNat ≤ 255
    have := what.toNat_lt
    omega
  · show 1 ≤ 5
    omega
  · show 0 ≤ 3
    omega
theorem paged_self (d : RHst) : { d with paged := d.paged } = d := rfl
theorem same_end {h : Hst} {d : RHst} (k : DOk d) (he : SameE h.ear d.ear) (s : Nat) (hs : s ≤ 2) : SameH (endH h s) { d with state := s } :=
  ⟨rfl, he, fun e => absurd rfl e, ⟨k.few, k.pages, k.pos, k.ses, k.num, k.msg, k.what, k.said, k.ticks, k.burnt, hs⟩⟩
theorem same_askPage {h : Hst} {d : RHst} (g : SameG h d) (k : DOk d) (he : SameE h.ear d.ear) (hst : h.state = 0) (hds : d.state = 0) (hl : 0 < h.left.length) : SameH (askPageH h) (rpageD d 2) := by
  have hp : d.pos < d.all.length := by have := left_len g; omega
  have hb := (k.pages _ (cur_mem hp)).2
  have e : rpageD d 2 = raskD { d with paged := true } 2 ((firstH h).n :: (firstH h).bs) := by unfold rpageD; rw [if_pos rfl, first_cur g]; rfl
  rw [e]
  exact same_ask g k he hst hds 2 _ 3 true (fun _ => rfl) (by omega) (by omega) (by rw [first_cur g]; simp [hb])
theorem same_askRead {h : Hst} {d : RHst} (g : SameG h d) (k : DOk d) (he : SameE h.ear d.ear) (hst : h.state = 0) (hds : d.state = 0) (tk : Nat) (ht : (tk = 4 ∧ d.paged = false) ∨ (tk = 5 ∧ d.paged = true)) : SameH (askReadH h tk) (rpageD d 3) := by
  have e : rpageD d 3 = raskD { d with paged := d.paged } 3 [(firstH h).n] := by unfold rpageD; rw [if_neg (by decide), first_cur g]
  rw [e]
  exact same_ask g k he hst hds 3 _ tk d.paged (by omega) (fun e => by rcases ht with h | h; exact h.2; omega) (fun e => by rcases ht with h | h; omega; exact h.2) (by simp)
theorem same_goOn {h : Hst} {d : RHst} (g : SameG h d) (k : DOk d) (he : SameE h.ear d.ear) (hst : h.state = 0) (hds : d.state = 0) : SameH (goOnH h) (rnextD d) := by
  have hl := left_len g
  have hp := g.pos
  by_cases h0 : h.left.length = 0
  · have e1 : goOnH h = endH h 1 := by unfold goOnH; rw [if_pos h0]
    have e2 : rnextD d = { d with state := 1 } := by unfold rnextD; rw [if_pos (by omega)]
    rw [e1, e2]
    exact same_end k he 1 (by omega)
  · have e1 : goOnH h = if isInH (curD d) h.burnt = true then askReadH h 4 else askPageH h := by unfold goOnH; rw [if_neg h0, first_cur g]
    have e2 : rnextD d = if isInH (curD d) h.burnt = true then rpageD { d with paged := false } 3 else rpageD { d with paged := false } 2 := by unfold rnextD; rw [if_neg (by omega), g.burnt]
    rw [e1, e2]
    have g' : SameG ⟨h.state, h.ses, h.left, h.burnt, h.ear, h.asked, 0, h.said, h.tries, h.ticks⟩ { d with paged := false } := ⟨g.left, g.pos, g.ses, g.msg, g.num, g.what, g.said, g.ticks, g.ready, g.burnt, by simp, by simp, by simp⟩
    have k' : DOk { d with paged := false } := ⟨k.few, k.pages, k.pos, k.ses, k.num, k.msg, k.what, k.said, k.ticks, k.burnt, k.st⟩
    by_cases hb : isInH (curD d) h.burnt = true
    · rw [if_pos hb, if_pos hb]
      exact same_askRead g' k' he hst hds 4 (.inl ⟨rfl, rfl⟩)
    · rw [if_neg hb, if_neg hb]
      exact same_askPage (h := ⟨h.state, h.ses, h.left, h.burnt, h.ear, h.asked, 0, h.said, h.tries, h.ticks⟩) g' k' he hst hds (by show 0 < h.left.length; omega)
theorem same_takes {h : Hst} {d : RHst} (s : SameH h d) (k : HOk h) (h0 : h.take ≠ 0) (y : Bool) (bs : List UInt8) : SameH (takesH h y bs) (rtakesD d y bs) := by
  have g := s.go h0
  have hst : h.state = 0 := Classical.byContradiction fun e => h0 (k.going.2 e)
  have hds : d.state = 0 := s.state.trans hst
  have htk := k.tk
  have hc : h.take = 1 ∨ h.take = 2 ∨ h.take = 3 ∨ h.take = 4 ∨ h.take = 5 := by omega
  have hw := g.what
  rcases hc with e | e | e | e | e
  · rw [k.w1 e] at hw
    replace hw : d.what = 1 := hw
    cases y
    · have e1 : takesH h false bs = endH h 2 := by simp [takesH, e]
      have e2 : rtakesD d false bs = { d with state := 2 } := by simp [rtakesD, goodD, hw]
      rw [e1, e2]
      exact same_end s.ok s.ear 2 (by omega)
    · have e1 : takesH h true bs = nextH h 4 [] 2 := by simp [takesH, e]
      have e2 : rtakesD d true bs = raskD d 4 [] := by simp [rtakesD, goodD, hw]
      rw [e1, e2]
      exact same_ask g s.ok s.ear hst hds 4 [] 2 d.paged (by omega) (by omega) (by omega) (by simp)
  · rw [k.w2 e] at hw
    replace hw : d.what = 4 := hw
    cases y
    · have e1 : takesH h false bs = endH h 2 := by simp [takesH, e]
      have e2 : rtakesD d false bs = { d with state := 2 } := by simp [rtakesD, goodD, hw]
      rw [e1, e2]
      exact same_end s.ok s.ear 2 (by omega)
    · have h1 := (bs.getD 0 0).toNat_lt
      have h2 := (bs.getD 1 0).toNat_lt
      obtain ⟨q, hq⟩ : ∃ q, (bs.getD 0 0).toNat * 256 + (bs.getD 1 0).toNat = q := ⟨_, rfl⟩
      have eb : 256 * (bs.getD 0 0).toNat + (bs.getD 1 0).toNat = q := by omega
      have e1 : takesH h true bs = goOnH (setBurntH h q) := by unfold takesH; rw [if_neg (by omega), if_pos e, if_pos rfl, hq]
      have e2 : rtakesD d true bs = rnextD { d with burnt := q } := by
        unfold rtakesD
        rw [if_neg (by rw [hw]; omega), if_neg (by simp [goodD, hw]), if_neg (by rw [hw]; omega), if_pos hw, eb]
      rw [e1, e2]
      refine same_goOn (h := setBurntH h q) (d := { d with burnt := q }) ⟨g.left, g.pos, g.ses, g.msg, g.num, g.what, g.said, g.ticks, g.ready, rfl, fun x => g.p3 x, fun x => g.p4 x, fun x => g.p5 x⟩ ?_ s.ear hst hds
      exact ⟨s.ok.few, s.ok.pages, s.ok.pos, s.ok.ses, s.ok.num, s.ok.msg, s.ok.what, s.ok.said, s.ok.ticks, by show q < 65536; omega, s.ok.st⟩
  · rw [k.w3 e] at hw
    replace hw : d.what = 2 := hw
    cases y
    · have e1 : takesH h false bs = endH h 2 := by simp [takesH, e]
      have e2 : rtakesD d false bs = { d with state := 2 } := by simp [rtakesD, goodD, hw]
      rw [e1, e2]
      exact same_end s.ok s.ear 2 (by omega)
    · have e1 : takesH h true bs = askReadH h 5 := by simp [takesH, e]
      have e2 : rtakesD d true bs = rpageD d 3 := by simp [rtakesD, goodD, hw]
      rw [e1, e2]
      exact same_askRead g s.ok s.ear hst hds 5 (.inr ⟨rfl, g.p3 e⟩)
  · rw [k.w4 (.inl e)] at hw
    replace hw : d.what = 3 := hw
    have hl := k.left (by omega)
    have hll := left_len g
    by_cases hcc : y = true ∧ bs = (firstH h).bs
    · have e1 : takesH h y bs = endPageH h := by simp [takesH, e, hcc]
      have e2 : rtakesD d y bs = rnextD { d with pos := d.pos + 1 } := by simp [rtakesD, goodD, hw, hcc, first_cur g]
      rw [e1, e2]
      refine same_goOn (h := ⟨h.state, h.ses, h.left.drop 1, h.burnt, h.ear, h.asked, h.take, h.said, h.tries, h.ticks⟩) (d := { d with pos := d.pos + 1 }) ⟨by show h.left.drop 1 = d.all.drop (d.pos + 1); rw [g.left, List.drop_drop], by show d.pos + 1 ≤ d.all.length; omega, g.ses, g.msg, g.num, g.what, g.said, g.ticks, g.ready, g.burnt, fun x => g.p3 x, fun x => g.p4 x, fun x => g.p5 x⟩ ?_ s.ear hst hds
      exact ⟨s.ok.few, s.ok.pages, by show d.pos + 1 ≤ d.all.length; omega, s.ok.ses, s.ok.num, s.ok.msg, s.ok.what, s.ok.said, s.ok.ticks, s.ok.burnt, s.ok.st⟩
    · have hg : goodD d y bs = false := by
        rw [first_cur g] at hcc
        unfold goodD
        rw [hw]
        cases y
        · rfl
        · have hn : ¬ bs = (curD d).bs := fun x => hcc ⟨rfl, x⟩
          simp [hn]
      have e1 : takesH h y bs = askPageH h := by unfold takesH; rw [if_neg (by omega), if_neg (by omega), if_neg (by omega), if_pos e, if_neg hcc]
      have e2 : rtakesD d y bs = rpageD d 2 := by unfold rtakesD; rw [if_pos ⟨hw, hg, g.p4 e⟩]
      rw [e1, e2]
      exact same_askPage g s.ok s.ear hst hds hl
  · rw [k.w4 (.inr e)] at hw
    replace hw : d.what = 3 := hw
    have hl := k.left (by omega)
    have hll := left_len g
    by_cases hcc : y = true ∧ bs = (firstH h).bs
    · have e1 : takesH h y bs = endPageH h := by simp [takesH, e, hcc]
      have e2 : rtakesD d y bs = rnextD { d with pos := d.pos + 1 } := by simp [rtakesD, goodD, hw, hcc, first_cur g]
      rw [e1, e2]
      refine same_goOn (h := ⟨h.state, h.ses, h.left.drop 1, h.burnt, h.ear, h.asked, h.take, h.said, h.tries, h.ticks⟩) (d := { d with pos := d.pos + 1 }) ⟨by show h.left.drop 1 = d.all.drop (d.pos + 1); rw [g.left, List.drop_drop], by show d.pos + 1 ≤ d.all.length; omega, g.ses, g.msg, g.num, g.what, g.said, g.ticks, g.ready, g.burnt, fun x => g.p3 x, fun x => g.p4 x, fun x => g.p5 x⟩ ?_ s.ear hst hds
      exact ⟨s.ok.few, s.ok.pages, by show d.pos + 1 ≤ d.all.length; omega, s.ok.ses, s.ok.num, s.ok.msg, s.ok.what, s.ok.said, s.ok.ticks, s.ok.burnt, s.ok.st⟩
    · have hg : goodD d y bs = false := by
        rw [first_cur g] at hcc
        unfold goodD
        rw [hw]
        cases y
        · rfl
        · have hn : ¬ bs = (curD d).bs := fun x => hcc ⟨rfl, x⟩
          simp [hn]
      have e1 : takesH h y bs = endH h 2 := by unfold takesH; rw [if_neg (by omega), if_neg (by omega), if_neg (by omega), if_neg (by omega), if_neg hcc]
      have e2 : rtakesD d y bs = { d with state := 2 } := by unfold rtakesD; rw [if_neg (by rw [g.p5 e]; simp), if_pos hg]
      rw [e1, e2]
      exact same_end s.ok s.ear 2 (by omega)
theorem same_hears {h : Hst} {d : RHst} (s : SameH h d) (k : HOk h) (m : List UInt8) : SameH (hearsH h m) (rhearsD d m) := by
  by_cases h0 : h.take = 0
  · have e1 : hearsH h m = h := by unfold hearsH; rw [if_pos h0]
    have e2 : rhearsD d m = d := by unfold rhearsD; rw [if_pos (by rw [s.state]; exact k.going.1 h0)]
    rw [e1, e2]
    exact s
  · have hst : h.state = 0 := Classical.byContradiction fun e => h0 (k.going.2 e)
    have hd : ¬ d.state ≠ 0 := by rw [s.state, hst]; simp
    have hm := (s.go h0).msg
    cases ha : answerToH h.asked m with
    | none =>
      have e1 : hearsH h m = h := by unfold hearsH; rw [if_neg h0, ha]
      have e2 : rhearsD d m = d := by unfold rhearsD; rw [if_neg hd, hm, ha]
      rw [e1, e2]
      exact s
    | some p =>
      have e1 : hearsH h m = takesH h p.1 p.2 := by unfold hearsH; rw [if_neg h0, ha]
      have e2 : rhearsD d m = rtakesD d p.1 p.2 := by unfold rhearsD; rw [if_neg hd, hm, ha]
      rw [e1, e2]
      exact same_takes s k h0 p.1 p.2
theorem same_fold : ∀ (l : List (List UInt8)) {h : Hst} {d : RHst}, SameH h d → HOk h → SameH (l.foldl hearsH h) (l.foldl rhearsD d)
  | [], _, _, s, _ => s
  | m :: l, _, _, s, k => same_fold l (same_hears s k m) (k.hearsH m)
theorem same_say {h : Hst} {d : RHst} (s : SameH h d) (k : HOk h) : SameH (sayH h).1 (rsayD d).1 ∧ (sayH h).2 = (rsayD d).2 := by
  by_cases h0 : h.take = 0
  · have e1 : sayH h = (h, []) := by unfold sayH; rw [if_pos (.inl h0)]
    have e2 : rsayD d = (d, []) := by unfold rsayD; rw [if_pos (.inr (by rw [s.state]; exact k.going.1 h0))]
    rw [e1, e2]
    exact ⟨s, rfl⟩
  · have g := s.go h0
    have hst : h.state = 0 := Classical.byContradiction fun e => h0 (k.going.2 e)
    cases hs : h.said
    · have e1 : sayH h = (⟨h.state, h.ses, h.left, h.burnt, h.ear, h.asked, h.take, true, h.tries, h.ticks⟩, frameF h.asked) := by unfold sayH; rw [if_neg (by rw [hs]; simp [h0])]
      have e2 : rsayD d = ({ d with ready := false }, frameF d.msg) := by unfold rsayD; rw [if_neg (by rw [g.ready, hs, s.state, hst]; simp)]
      rw [e1, e2]
      exact ⟨⟨s.state, s.ear, fun _ => ⟨g.left, g.pos, g.ses, g.msg, g.num, g.what, g.said, g.ticks, rfl, g.burnt, g.p3, g.p4, g.p5⟩, ⟨s.ok.few, s.ok.pages, s.ok.pos, s.ok.ses, s.ok.num, s.ok.msg, s.ok.what, s.ok.said, s.ok.ticks, s.ok.burnt, s.ok.st⟩⟩, by rw [g.msg]⟩
    · have e1 : sayH h = (h, []) := by unfold sayH; rw [if_pos (.inr hs)]
      have e2 : rsayD d = (d, []) := by unfold rsayD; rw [if_pos (.inl (by rw [g.ready, hs]; rfl))]
      rw [e1, e2]
      exact ⟨s, rfl⟩
theorem same_tick {h : Hst} {d : RHst} (s : SameH h d) (k : HOk h) : SameH (tickH h) (rtickD d) := by
  by_cases h0 : h.take = 0
  · have e1 : tickH h = h := by unfold tickH; rw [if_pos h0]
    have e2 : rtickD d = d := by unfold rtickD; rw [if_pos (by rw [s.state]; exact k.going.1 h0)]
    rw [e1, e2]
    exact s
  · have g := s.go h0
    have hst : h.state = 0 := Classical.byContradiction fun e => h0 (k.going.2 e)
    have hd : ¬ d.state ≠ 0 := by rw [s.state, hst]; simp
    have ht := k.b.tries
    have h2 := k.t2 h0
    have gt := g.ticks
    have gs := g.said
    by_cases h3 : h.ticks + 1 < 3
    · have e1 : tickH h = setTicksH h (h.ticks + 1) := by unfold tickH; rw [if_neg h0, if_pos h3]
      have e2 : rtickD d = { d with ticks := h.ticks + 1 } := by unfold rtickD; rw [if_neg hd, if_pos (by omega), gt]
      rw [e1, e2]
      exact ⟨s.state, s.ear, fun _ => ⟨g.left, g.pos, g.ses, g.msg, g.num, g.what, g.said, rfl, g.ready, g.burnt, g.p3, g.p4, g.p5⟩, ⟨s.ok.few, s.ok.pages, s.ok.pos, s.ok.ses, s.ok.num, s.ok.msg, s.ok.what, s.ok.said, by show h.ticks + 1 ≤ 3; omega, s.ok.burnt, s.ok.st⟩⟩
    · by_cases h4 : h.tries < 5
      · have e1 : tickH h = saysH (setTicksH h (h.ticks + 1)) := by unfold tickH; rw [if_neg h0, if_neg h3, if_pos h4]
        have e2 : rtickD d = { d with ticks := 0, said := h.tries + 1, ready := true } := by unfold rtickD; rw [if_neg hd, if_neg (by omega), if_neg (by omega), gs]
        rw [e1, e2]
        exact ⟨s.state, s.ear, fun _ => ⟨g.left, g.pos, g.ses, g.msg, g.num, g.what, rfl, rfl, rfl, g.burnt, g.p3, g.p4, g.p5⟩, ⟨s.ok.few, s.ok.pages, s.ok.pos, s.ok.ses, s.ok.num, s.ok.msg, s.ok.what, by show h.tries + 1 ≤ 5; omega, by show 0 ≤ 3; omega, s.ok.burnt, s.ok.st⟩⟩
      · have e1 : tickH h = endH (setTicksH h (h.ticks + 1)) 2 := by unfold tickH; rw [if_neg h0, if_neg h3, if_neg h4]
        have e2 : rtickD d = { d with ticks := 0, state := 2 } := by unfold rtickD; rw [if_neg hd, if_neg (by omega), if_pos (by omega)]
        rw [e1, e2]
        exact ⟨rfl, s.ear, fun e => absurd rfl e, ⟨s.ok.few, s.ok.pages, s.ok.pos, s.ok.ses, s.ok.num, s.ok.msg, s.ok.what, s.ok.said, by show 0 ≤ 3; omega, s.ok.burnt, by show 2 ≤ 2; omega⟩⟩
end Go.Proofs.YthokdbcpkmcieaaGreat
namespace Go.Proofs.YthokdbcpkmcieaaGreat
open Go Go.RowKit
/-- A list's cells at block lb, from its head. -/
structure LA (w : World) (lb : Nat) (v : Value) (xs : List Value) : Prop where
  is : ∃ a cap, v = .slice a xs.length cap ∧ xs.length ≤ cap ∧ cap ≤ 9223372036854775807 ∧ (0 < xs.length → a = some ⟨lb, 0, none⟩ ∧ ∀ i (hi : i < xs.length), w.cell? ⟨lb, i, none⟩ = some xs[i])
theorem LA.kept {w w' : World} {lb : Nat} {v : Value} {xs : List Value} (h : LA w lb v xs) (e : w'.heap[lb]? = w.heap[lb]?) : LA w' lb v xs := by
  obtain ⟨a, cap, h1, h2, h3, h4⟩ := h.is
  exact ⟨a, cap, h1, h2, h3, fun hl => ⟨(h4 hl).1, fun i hi => (World.cell?_of_block (a := ⟨lb, i, none⟩) e).trans ((h4 hl).2 i hi)⟩⟩
theorem LA.set {w : World} {lb hb j : Nat} {v x : Value} {xs : List Value} (h : LA w lb v xs) (hne : lb ≠ hb) : LA (w.setCell ⟨hb, j, none⟩ x) lb v xs := h.kept (heap_setCell_other w ⟨hb, j, none⟩ lb x hne)
def pgNs (l : List Pg) : List Value := l.map fun p => .int .i64 (p.n.toNat : Int)
def pgBs (l : List Pg) : List Value := l.map fun p => .string (txt p.bs)
theorem pgNs_len (l : List Pg) : (pgNs l).length = l.length := by simp [pgNs]
theorem pgBs_len (l : List Pg) : (pgBs l).length = l.length := by simp [pgBs]
/-- The document's host at block hb, its pages' numbers at wb, their bytes at bb. -/
structure RHM (w : World) (hb wb bb : Nat) (d : RHst) : Prop where
  c2 : w.cell? ⟨hb, 2, none⟩ = some (.int .i64 (d.pos : Int))
  c3 : w.cell? ⟨hb, 3, none⟩ = some (.bool d.paged)
  c4 : w.cell? ⟨hb, 4, none⟩ = some (.string (txt d.ses))
  c5 : w.cell? ⟨hb, 5, none⟩ = some (.int .i64 (d.num : Int))
  c6 : w.cell? ⟨hb, 6, none⟩ = some (.string (txt d.msg))
  c7 : w.cell? ⟨hb, 7, none⟩ = some (.int .i64 (d.what : Int))
  c8 : w.cell? ⟨hb, 8, none⟩ = some (.int .i64 (d.said : Int))
  c9 : w.cell? ⟨hb, 9, none⟩ = some (.int .i64 (d.ticks : Int))
  c10 : w.cell? ⟨hb, 10, none⟩ = some (.bool d.ready)
  c11 : w.cell? ⟨hb, 11, none⟩ = some (.int .i64 (d.burnt : Int))
  c12 : w.cell? ⟨hb, 12, none⟩ = some (.int .i64 (d.state : Int))
  c0 : ∃ v, w.cell? ⟨hb, 0, none⟩ = some v ∧ LA w wb v (pgNs d.all)
  c1 : ∃ v, w.cell? ⟨hb, 1, none⟩ = some v ∧ LA w bb v (pgBs d.all)
  ear : REarO w hb 13 d.ear
  ne : wb ≠ hb ∧ bb ≠ hb
  ll : wb < w.heap.size ∧ bb < w.heap.size
theorem RHM.fz {w : World} {hb wb bb : Nat} {d : RHst} (m : RHM w hb wb bb d) (j : Nat) : w.frozen? ⟨hb, j, none⟩ = false := m.ear.fz j
theorem RHM.lt {w : World} {hb wb bb : Nat} {d : RHst} (m : RHM w hb wb bb d) : hb < w.heap.size := m.ear.lt
theorem REarO.setAny {w : World} {hb o j : Nat} {r : REar} {v : Value} (h : REarO w hb o r) (h1 : j ≠ o) (h2 : j ≠ o + 1) : REarO (w.setCell ⟨hb, j, none⟩ v) hb o r :=
  ⟨(World.cell?_setCell_other _ _ _ _ (by simp <;> omega)).trans h.c0, (World.cell?_setCell_other _ _ _ _ (by simp <;> omega)).trans h.c1, fun i => by simp [h.fz i], by simpa [World.setCell] using h.lt⟩
theorem RHM.kept {w w' : World} {hb wb bb : Nat} {d : RHst} (m : RHM w hb wb bb d) (e : w'.heap[hb]? = w.heap[hb]?) (e1 : w'.heap[wb]? = w.heap[wb]?) (e2 : w'.heap[bb]? = w.heap[bb]?) (hz : w.heap.size ≤ w'.heap.size) : RHM w' hb wb bb d := by
  have hc : ∀ j, w'.cell? ⟨hb, j, none⟩ = w.cell? ⟨hb, j, none⟩ := fun j => World.cell?_of_block (a := ⟨hb, j, none⟩) e
  obtain ⟨v, v1, v2⟩ := m.c0
  obtain ⟨u, u1, u2⟩ := m.c1
  exact ⟨(hc 2).trans m.c2, (hc 3).trans m.c3, (hc 4).trans m.c4, (hc 5).trans m.c5, (hc 6).trans m.c6, (hc 7).trans m.c7, (hc 8).trans m.c8, (hc 9).trans m.c9, (hc 10).trans m.c10, (hc 11).trans m.c11, (hc 12).trans m.c12, ⟨v, (hc 0).trans v1, v2.kept e1⟩, ⟨u, (hc 1).trans u1, u2.kept e2⟩, m.ear.kept e hz, m.ne, ⟨Nat.lt_of_lt_of_le m.ll.1 hz, Nat.lt_of_lt_of_le m.ll.2 hz⟩⟩
theorem RHM.below {w w' : World} {hb wb bb : Nat} {d : RHst} (m : RHM w hb wb bb d) (b : Below w.heap.size w w') : RHM w' hb wb bb d :=
  m.kept (b.block hb m.lt) (b.block wb m.ll.1) (b.block bb m.ll.2) b.size
theorem RHM.setPos {w : World} {hb wb bb : Nat} {d : RHst} (m : RHM w hb wb bb d) (x : Nat) : RHM (w.setCell ⟨hb, 2, none⟩ (.int .i64 (x : Int))) hb wb bb { d with pos := x } :=
  ⟨World.cell?_setCell_same _ _ _ m.c2, (World.cell?_setCell_other _ _ _ _ (by simp)).trans m.c3, (World.cell?_setCell_other _ _ _ _ (by simp)).trans m.c4, (World.cell?_setCell_other _ _ _ _ (by simp)).trans m.c5, (World.cell?_setCell_other _ _ _ _ (by simp)).trans m.c6, (World.cell?_setCell_other _ _ _ _ (by simp)).trans m.c7, (World.cell?_setCell_other _ _ _ _ (by simp)).trans m.c8, (World.cell?_setCell_other _ _ _ _ (by simp)).trans m.c9, (World.cell?_setCell_other _ _ _ _ (by simp)).trans m.c10, (World.cell?_setCell_other _ _ _ _ (by simp)).trans m.c11, (World.cell?_setCell_other _ _ _ _ (by simp)).trans m.c12, (by obtain ⟨v, v1, v2⟩ := m.c0; exact ⟨v, (World.cell?_setCell_other _ _ _ _ (by simp)).trans v1, v2.set m.ne.1⟩), (by obtain ⟨v, v1, v2⟩ := m.c1; exact ⟨v, (World.cell?_setCell_other _ _ _ _ (by simp)).trans v1, v2.set m.ne.2⟩), m.ear.setAny (by omega) (by omega), m.ne, by simpa [World.setCell] using m.ll⟩
theorem RHM.setPaged {w : World} {hb wb bb : Nat} {d : RHst} (m : RHM w hb wb bb d) (x : Bool) : RHM (w.setCell ⟨hb, 3, none⟩ (.bool x)) hb wb bb { d with paged := x } :=
  ⟨(World.cell?_setCell_other _ _ _ _ (by simp)).trans m.c2, World.cell?_setCell_same _ _ _ m.c3, (World.cell?_setCell_other _ _ _ _ (by simp)).trans m.c4, (World.cell?_setCell_other _ _ _ _ (by simp)).trans m.c5, (World.cell?_setCell_other _ _ _ _ (by simp)).trans m.c6, (World.cell?_setCell_other _ _ _ _ (by simp)).trans m.c7, (World.cell?_setCell_other _ _ _ _ (by simp)).trans m.c8, (World.cell?_setCell_other _ _ _ _ (by simp)).trans m.c9, (World.cell?_setCell_other _ _ _ _ (by simp)).trans m.c10, (World.cell?_setCell_other _ _ _ _ (by simp)).trans m.c11, (World.cell?_setCell_other _ _ _ _ (by simp)).trans m.c12, (by obtain ⟨v, v1, v2⟩ := m.c0; exact ⟨v, (World.cell?_setCell_other _ _ _ _ (by simp)).trans v1, v2.set m.ne.1⟩), (by obtain ⟨v, v1, v2⟩ := m.c1; exact ⟨v, (World.cell?_setCell_other _ _ _ _ (by simp)).trans v1, v2.set m.ne.2⟩), m.ear.setAny (by omega) (by omega), m.ne, by simpa [World.setCell] using m.ll⟩
theorem RHM.setSes {w : World} {hb wb bb : Nat} {d : RHst} (m : RHM w hb wb bb d) (x : List UInt8) : RHM (w.setCell ⟨hb, 4, none⟩ (.string (txt x))) hb wb bb { d with ses := x } :=
  ⟨(World.cell?_setCell_other _ _ _ _ (by simp)).trans m.c2, (World.cell?_setCell_other _ _ _ _ (by simp)).trans m.c3, World.cell?_setCell_same _ _ _ m.c4, (World.cell?_setCell_other _ _ _ _ (by simp)).trans m.c5, (World.cell?_setCell_other _ _ _ _ (by simp)).trans m.c6, (World.cell?_setCell_other _ _ _ _ (by simp)).trans m.c7, (World.cell?_setCell_other _ _ _ _ (by simp)).trans m.c8, (World.cell?_setCell_other _ _ _ _ (by simp)).trans m.c9, (World.cell?_setCell_other _ _ _ _ (by simp)).trans m.c10, (World.cell?_setCell_other _ _ _ _ (by simp)).trans m.c11, (World.cell?_setCell_other _ _ _ _ (by simp)).trans m.c12, (by obtain ⟨v, v1, v2⟩ := m.c0; exact ⟨v, (World.cell?_setCell_other _ _ _ _ (by simp)).trans v1, v2.set m.ne.1⟩), (by obtain ⟨v, v1, v2⟩ := m.c1; exact ⟨v, (World.cell?_setCell_other _ _ _ _ (by simp)).trans v1, v2.set m.ne.2⟩), m.ear.setAny (by omega) (by omega), m.ne, by simpa [World.setCell] using m.ll⟩
theorem RHM.setNum {w : World} {hb wb bb : Nat} {d : RHst} (m : RHM w hb wb bb d) (x : Nat) : RHM (w.setCell ⟨hb, 5, none⟩ (.int .i64 (x : Int))) hb wb bb { d with num := x } :=
  ⟨(World.cell?_setCell_other _ _ _ _ (by simp)).trans m.c2, (World.cell?_setCell_other _ _ _ _ (by simp)).trans m.c3, (World.cell?_setCell_other _ _ _ _ (by simp)).trans m.c4, World.cell?_setCell_same _ _ _ m.c5, (World.cell?_setCell_other _ _ _ _ (by simp)).trans m.c6, (World.cell?_setCell_other _ _ _ _ (by simp)).trans m.c7, (World.cell?_setCell_other _ _ _ _ (by simp)).trans m.c8, (World.cell?_setCell_other _ _ _ _ (by simp)).trans m.c9, (World.cell?_setCell_other _ _ _ _ (by simp)).trans m.c10, (World.cell?_setCell_other _ _ _ _ (by simp)).trans m.c11, (World.cell?_setCell_other _ _ _ _ (by simp)).trans m.c12, (by obtain ⟨v, v1, v2⟩ := m.c0; exact ⟨v, (World.cell?_setCell_other _ _ _ _ (by simp)).trans v1, v2.set m.ne.1⟩), (by obtain ⟨v, v1, v2⟩ := m.c1; exact ⟨v, (World.cell?_setCell_other _ _ _ _ (by simp)).trans v1, v2.set m.ne.2⟩), m.ear.setAny (by omega) (by omega), m.ne, by simpa [World.setCell] using m.ll⟩
theorem RHM.setMsg {w : World} {hb wb bb : Nat} {d : RHst} (m : RHM w hb wb bb d) (x : List UInt8) : RHM (w.setCell ⟨hb, 6, none⟩ (.string (txt x))) hb wb bb { d with msg := x } :=
  ⟨(World.cell?_setCell_other _ _ _ _ (by simp)).trans m.c2, (World.cell?_setCell_other _ _ _ _ (by simp)).trans m.c3, (World.cell?_setCell_other _ _ _ _ (by simp)).trans m.c4, (World.cell?_setCell_other _ _ _ _ (by simp)).trans m.c5, World.cell?_setCell_same _ _ _ m.c6, (World.cell?_setCell_other _ _ _ _ (by simp)).trans m.c7, (World.cell?_setCell_other _ _ _ _ (by simp)).trans m.c8, (World.cell?_setCell_other _ _ _ _ (by simp)).trans m.c9, (World.cell?_setCell_other _ _ _ _ (by simp)).trans m.c10, (World.cell?_setCell_other _ _ _ _ (by simp)).trans m.c11, (World.cell?_setCell_other _ _ _ _ (by simp)).trans m.c12, (by obtain ⟨v, v1, v2⟩ := m.c0; exact ⟨v, (World.cell?_setCell_other _ _ _ _ (by simp)).trans v1, v2.set m.ne.1⟩), (by obtain ⟨v, v1, v2⟩ := m.c1; exact ⟨v, (World.cell?_setCell_other _ _ _ _ (by simp)).trans v1, v2.set m.ne.2⟩), m.ear.setAny (by omega) (by omega), m.ne, by simpa [World.setCell] using m.ll⟩
theorem RHM.setWhat {w : World} {hb wb bb : Nat} {d : RHst} (m : RHM w hb wb bb d) (x : Nat) : RHM (w.setCell ⟨hb, 7, none⟩ (.int .i64 (x : Int))) hb wb bb { d with what := x } :=
  ⟨(World.cell?_setCell_other _ _ _ _ (by simp)).trans m.c2, (World.cell?_setCell_other _ _ _ _ (by simp)).trans m.c3, (World.cell?_setCell_other _ _ _ _ (by simp)).trans m.c4, (World.cell?_setCell_other _ _ _ _ (by simp)).trans m.c5, (World.cell?_setCell_other _ _ _ _ (by simp)).trans m.c6, World.cell?_setCell_same _ _ _ m.c7, (World.cell?_setCell_other _ _ _ _ (by simp)).trans m.c8, (World.cell?_setCell_other _ _ _ _ (by simp)).trans m.c9, (World.cell?_setCell_other _ _ _ _ (by simp)).trans m.c10, (World.cell?_setCell_other _ _ _ _ (by simp)).trans m.c11, (World.cell?_setCell_other _ _ _ _ (by simp)).trans m.c12, (by obtain ⟨v, v1, v2⟩ := m.c0; exact ⟨v, (World.cell?_setCell_other _ _ _ _ (by simp)).trans v1, v2.set m.ne.1⟩), (by obtain ⟨v, v1, v2⟩ := m.c1; exact ⟨v, (World.cell?_setCell_other _ _ _ _ (by simp)).trans v1, v2.set m.ne.2⟩), m.ear.setAny (by omega) (by omega), m.ne, by simpa [World.setCell] using m.ll⟩
theorem RHM.setSaid {w : World} {hb wb bb : Nat} {d : RHst} (m : RHM w hb wb bb d) (x : Nat) : RHM (w.setCell ⟨hb, 8, none⟩ (.int .i64 (x : Int))) hb wb bb { d with said := x } :=
  ⟨(World.cell?_setCell_other _ _ _ _ (by simp)).trans m.c2, (World.cell?_setCell_other _ _ _ _ (by simp)).trans m.c3, (World.cell?_setCell_other _ _ _ _ (by simp)).trans m.c4, (World.cell?_setCell_other _ _ _ _ (by simp)).trans m.c5, (World.cell?_setCell_other _ _ _ _ (by simp)).trans m.c6, (World.cell?_setCell_other _ _ _ _ (by simp)).trans m.c7, World.cell?_setCell_same _ _ _ m.c8, (World.cell?_setCell_other _ _ _ _ (by simp)).trans m.c9, (World.cell?_setCell_other _ _ _ _ (by simp)).trans m.c10, (World.cell?_setCell_other _ _ _ _ (by simp)).trans m.c11, (World.cell?_setCell_other _ _ _ _ (by simp)).trans m.c12, (by obtain ⟨v, v1, v2⟩ := m.c0; exact ⟨v, (World.cell?_setCell_other _ _ _ _ (by simp)).trans v1, v2.set m.ne.1⟩), (by obtain ⟨v, v1, v2⟩ := m.c1; exact ⟨v, (World.cell?_setCell_other _ _ _ _ (by simp)).trans v1, v2.set m.ne.2⟩), m.ear.setAny (by omega) (by omega), m.ne, by simpa [World.setCell] using m.ll⟩
theorem RHM.setTicks {w : World} {hb wb bb : Nat} {d : RHst} (m : RHM w hb wb bb d) (x : Nat) : RHM (w.setCell ⟨hb, 9, none⟩ (.int .i64 (x : Int))) hb wb bb { d with ticks := x } :=
  ⟨(World.cell?_setCell_other _ _ _ _ (by simp)).trans m.c2, (World.cell?_setCell_other _ _ _ _ (by simp)).trans m.c3, (World.cell?_setCell_other _ _ _ _ (by simp)).trans m.c4, (World.cell?_setCell_other _ _ _ _ (by simp)).trans m.c5, (World.cell?_setCell_other _ _ _ _ (by simp)).trans m.c6, (World.cell?_setCell_other _ _ _ _ (by simp)).trans m.c7, (World.cell?_setCell_other _ _ _ _ (by simp)).trans m.c8, World.cell?_setCell_same _ _ _ m.c9, (World.cell?_setCell_other _ _ _ _ (by simp)).trans m.c10, (World.cell?_setCell_other _ _ _ _ (by simp)).trans m.c11, (World.cell?_setCell_other _ _ _ _ (by simp)).trans m.c12, (by obtain ⟨v, v1, v2⟩ := m.c0; exact ⟨v, (World.cell?_setCell_other _ _ _ _ (by simp)).trans v1, v2.set m.ne.1⟩), (by obtain ⟨v, v1, v2⟩ := m.c1; exact ⟨v, (World.cell?_setCell_other _ _ _ _ (by simp)).trans v1, v2.set m.ne.2⟩), m.ear.setAny (by omega) (by omega), m.ne, by simpa [World.setCell] using m.ll⟩
theorem RHM.setReady {w : World} {hb wb bb : Nat} {d : RHst} (m : RHM w hb wb bb d) (x : Bool) : RHM (w.setCell ⟨hb, 10, none⟩ (.bool x)) hb wb bb { d with ready := x } :=
  ⟨(World.cell?_setCell_other _ _ _ _ (by simp)).trans m.c2, (World.cell?_setCell_other _ _ _ _ (by simp)).trans m.c3, (World.cell?_setCell_other _ _ _ _ (by simp)).trans m.c4, (World.cell?_setCell_other _ _ _ _ (by simp)).trans m.c5, (World.cell?_setCell_other _ _ _ _ (by simp)).trans m.c6, (World.cell?_setCell_other _ _ _ _ (by simp)).trans m.c7, (World.cell?_setCell_other _ _ _ _ (by simp)).trans m.c8, (World.cell?_setCell_other _ _ _ _ (by simp)).trans m.c9, World.cell?_setCell_same _ _ _ m.c10, (World.cell?_setCell_other _ _ _ _ (by simp)).trans m.c11, (World.cell?_setCell_other _ _ _ _ (by simp)).trans m.c12, (by obtain ⟨v, v1, v2⟩ := m.c0; exact ⟨v, (World.cell?_setCell_other _ _ _ _ (by simp)).trans v1, v2.set m.ne.1⟩), (by obtain ⟨v, v1, v2⟩ := m.c1; exact ⟨v, (World.cell?_setCell_other _ _ _ _ (by simp)).trans v1, v2.set m.ne.2⟩), m.ear.setAny (by omega) (by omega), m.ne, by simpa [World.setCell] using m.ll⟩
theorem RHM.setBurnt {w : World} {hb wb bb : Nat} {d : RHst} (m : RHM w hb wb bb d) (x : Nat) : RHM (w.setCell ⟨hb, 11, none⟩ (.int .i64 (x : Int))) hb wb bb { d with burnt := x } :=
  ⟨(World.cell?_setCell_other _ _ _ _ (by simp)).trans m.c2, (World.cell?_setCell_other _ _ _ _ (by simp)).trans m.c3, (World.cell?_setCell_other _ _ _ _ (by simp)).trans m.c4, (World.cell?_setCell_other _ _ _ _ (by simp)).trans m.c5, (World.cell?_setCell_other _ _ _ _ (by simp)).trans m.c6, (World.cell?_setCell_other _ _ _ _ (by simp)).trans m.c7, (World.cell?_setCell_other _ _ _ _ (by simp)).trans m.c8, (World.cell?_setCell_other _ _ _ _ (by simp)).trans m.c9, (World.cell?_setCell_other _ _ _ _ (by simp)).trans m.c10, World.cell?_setCell_same _ _ _ m.c11, (World.cell?_setCell_other _ _ _ _ (by simp)).trans m.c12, (by obtain ⟨v, v1, v2⟩ := m.c0; exact ⟨v, (World.cell?_setCell_other _ _ _ _ (by simp)).trans v1, v2.set m.ne.1⟩), (by obtain ⟨v, v1, v2⟩ := m.c1; exact ⟨v, (World.cell?_setCell_other _ _ _ _ (by simp)).trans v1, v2.set m.ne.2⟩), m.ear.setAny (by omega) (by omega), m.ne, by simpa [World.setCell] using m.ll⟩
theorem RHM.setState {w : World} {hb wb bb : Nat} {d : RHst} (m : RHM w hb wb bb d) (x : Nat) : RHM (w.setCell ⟨hb, 12, none⟩ (.int .i64 (x : Int))) hb wb bb { d with state := x } :=
  ⟨(World.cell?_setCell_other _ _ _ _ (by simp)).trans m.c2, (World.cell?_setCell_other _ _ _ _ (by simp)).trans m.c3, (World.cell?_setCell_other _ _ _ _ (by simp)).trans m.c4, (World.cell?_setCell_other _ _ _ _ (by simp)).trans m.c5, (World.cell?_setCell_other _ _ _ _ (by simp)).trans m.c6, (World.cell?_setCell_other _ _ _ _ (by simp)).trans m.c7, (World.cell?_setCell_other _ _ _ _ (by simp)).trans m.c8, (World.cell?_setCell_other _ _ _ _ (by simp)).trans m.c9, (World.cell?_setCell_other _ _ _ _ (by simp)).trans m.c10, (World.cell?_setCell_other _ _ _ _ (by simp)).trans m.c11, World.cell?_setCell_same _ _ _ m.c12, (by obtain ⟨v, v1, v2⟩ := m.c0; exact ⟨v, (World.cell?_setCell_other _ _ _ _ (by simp)).trans v1, v2.set m.ne.1⟩), (by obtain ⟨v, v1, v2⟩ := m.c1; exact ⟨v, (World.cell?_setCell_other _ _ _ _ (by simp)).trans v1, v2.set m.ne.2⟩), m.ear.setAny (by omega) (by omega), m.ne, by simpa [World.setCell] using m.ll⟩
theorem RHM.wants {w : World} {hb wb bb : Nat} {d : RHst} (m : RHM w hb wb bb d) : ∃ a cap, w.cell? ⟨hb, 0, none⟩ = some (.slice a d.all.length cap) ∧ d.all.length ≤ cap ∧ cap ≤ 9223372036854775807 ∧ (d.pos < d.all.length → a = some ⟨wb, 0, none⟩ ∧ w.cell? ⟨wb, d.pos, none⟩ = some (.int .i64 ((curD d).n.toNat : Int))) := by
  obtain ⟨v, v1, v2⟩ := m.c0
  obtain ⟨a, cap, rfl, h2, h3, h4⟩ := v2.is
  rw [pgNs_len] at v1 h2
  refine ⟨a, cap, v1, h2, h3, fun hp => ?_⟩
  obtain ⟨e1, e2⟩ := h4 (by rw [pgNs_len]; omega)
  refine ⟨e1, ?_⟩
  rw [e2 d.pos (by rw [pgNs_len]; exact hp)]
  unfold curD
  rw [List.getD_eq_getElem?_getD, List.getElem?_eq_getElem hp]
  simp [pgNs]
theorem RHM.texts {w : World} {hb wb bb : Nat} {d : RHst} (m : RHM w hb wb bb d) : ∃ a cap, w.cell? ⟨hb, 1, none⟩ = some (.slice a d.all.length cap) ∧ d.all.length ≤ cap ∧ cap ≤ 9223372036854775807 ∧ (d.pos < d.all.length → a = some ⟨bb, 0, none⟩ ∧ w.cell? ⟨bb, d.pos, none⟩ = some (.string (txt (curD d).bs))) := by
  obtain ⟨v, v1, v2⟩ := m.c1
  obtain ⟨a, cap, rfl, h2, h3, h4⟩ := v2.is
  rw [pgBs_len] at v1 h2
  refine ⟨a, cap, v1, h2, h3, fun hp => ?_⟩
  obtain ⟨e1, e2⟩ := h4 (by rw [pgBs_len]; omega)
  refine ⟨e1, ?_⟩
  rw [e2 d.pos (by rw [pgBs_len]; exact hp)]
  unfold curD
  rw [List.getD_eq_getElem?_getD, List.getElem?_eq_getElem hp]
  simp [pgBs]
end Go.Proofs.YthokdbcpkmcieaaGreat
namespace Go.Proofs.YthokdbcpkmcieaaGreat
open Go Go.RowKit
attribute [local go_sem ↓] Go.wp_at_zero Go.wp_at_succ
set_option maxRecDepth 100000 in
set_option maxHeartbeats 4000000 in
theorem rask_any (hb wb bb : Nat) (d : RHst) (what : UInt8) (rest : List UInt8) (w : World) (m : RHM w hb wb bb d) (hn : d.num ≤ 255) (hs : d.ses.length = 2) (hr : rest.length ≤ 1000) :
    Calls Tryz.prog 47 #[.pointer (some ⟨hb, 0, none⟩), .int .i64 (what.toNat : Int), .string (txt rest)] w fun e w' => e = .returned (.tuple #[]) ∧ RHM w' hb wb bb (raskD d what rest) ∧ w.grownBy w' (some hb) := by
  have c5 := m.c5
  have c7 := m.c7
  have f5 := m.fz 5
  have f7 := m.fz 7
  obtain ⟨q, hq⟩ : ∃ q, (d.num + 1) % 256 = q := ⟨_, rfl⟩
  have hq255 : q ≤ 255 := by omega
  have hremT : Int.tmod ((d.num : Int) + 1) 256 = (q : Int) := by rw [Int.tmod_eq_emod_of_nonneg (by omega)]; omega
  have hrem : ((d.num : Int) + 1) % 256 = (q : Int) := by omega
  have m1 := (m.setNum q).setWhat what.toNat
  obtain ⟨W, hW⟩ : ∃ W, (w.setCell ⟨hb, 5, none⟩ (.int .i64 (q : Int))).setCell ⟨hb, 7, none⟩ (.int .i64 (what.toNat : Int)) = W := ⟨_, rfl⟩
  rw [hW] at m1
  have g1 : w.grownBy W (some hb) := by rw [← hW]; exact (setg w hb 5 _).trans (setg _ hb 7 _)
  have hql : (UInt8.ofNat q).toNat = q := by rw [UInt8.toNat_ofNat']; omega
  have hwl := what.toNat_lt
  have hwq : IntKind.u8.wrap (q : Int) = (q : Int) := by rw [IntKind.wrap_u8]; omega
  have hww : IntKind.u8.wrap (what.toNat : Int) = (what.toNat : Int) := by rw [IntKind.wrap_u8]; omega
  obtain ⟨W2, hW2⟩ : ∃ W2, W.alloc (.cells #[.int .u8 (q : Int), .int .u8 (what.toNat : Int)] 5) = W2 := ⟨_, rfl⟩
  have hcv : (convert 24 9 (.slice (some ⟨W.heap.size, 0, none⟩) 2 2)).run Tryz.prog W2.drew = .ok (.string (txt [UInt8.ofNat q, what])) W2.drew := by
    have := conv_row (l := [UInt8.ofNat q, what]) (n := 2) rfl (own_new W W.heap.size (Nat.le_refl _) [UInt8.ofNat q, what] (by simp) (by simp)).drew
    have hv : (byteVs [UInt8.ofNat q, what]).toArray = #[.int .u8 (q : Int), .int .u8 (what.toNat : Int)] := by simp [byteVs, hql]
    rw [hv, hW2] at this
    exact this
  have hB2 : Below W.heap.size W W2 := by rw [← hW2]; exact (Below.refl _ _).alloc (Nat.le_refl _) _
  have m2 := m1.below hB2
  have d4 := m1.c4
  have d5 := m1.c5
  have x4 := m2.c4
  have x5 := m2.c5
  have x6 := m2.c6
  have x8 := m2.c8
  have x9 := m2.c9
  have x10 := m2.c10
  have y6 := m2.fz 6
  have y8 := m2.fz 8
  have y9 := m2.fz 9
  have y10 := m2.fz 10
  have m3 := (((m2.setMsg ((d.ses ++ [UInt8.ofNat q, what]) ++ rest)).setSaid 1).setTicks 0).setReady true
  have g3 := g1.trans ((below_to_grown hB2 (some hb)).trans ((setg W2 hb 6 (.string (txt ((d.ses ++ [UInt8.ofNat q, what]) ++ rest)))).trans ((setg _ hb 8 (.int .i64 ((1 : Nat) : Int))).trans ((setg _ hb 9 (.int .i64 ((0 : Nat) : Int))).trans (setg _ hb 10 (.bool true))))))
  have HR := hideIt (And.intro m3 g3)
  have hcat : txt ((d.ses ++ [UInt8.ofNat q, what]) ++ rest) = txt d.ses ++ txt [UInt8.ofNat q, what] ++ txt rest := by rw [← txt_append, ← txt_append]
  have z1 : ((1 : Nat) : Int) = 1 := rfl
  have z0 : ((0 : Nat) : Int) = 0 := rfl
  rw [hcat, z1, z0] at HR
  have s1 : (txt d.ses).size = 2 := by rw [txt_size, hs]
  have s2 : (txt [UInt8.ofNat q, what]).size = 2 := rfl
  have s3 : ((txt rest).size : Int) ≤ 1000 := by rw [txt_size]; omega
  obtain ⟨SS, hSS⟩ : ∃ SS, txt d.ses = SS := ⟨_, rfl⟩
  obtain ⟨TW, hTW⟩ : ∃ TW, txt [UInt8.ofNat q, what] = TW := ⟨_, rfl⟩
  obtain ⟨RS, hRS⟩ : ∃ RS, txt rest = RS := ⟨_, rfl⟩
  rw [hSS] at HR d4 x4 s1
  rw [hTW] at HR hcv s2
  rw [hRS] at HR s3 ⊢
  have HQ := hideIt hq
  simp only at d4 d5 x4 x5 x6 x8 x9 x10
  clear m m1 m2 m3 g1 g3 hB2 hq hcat z1 z0 hSS hTW hRS hql
  go_enter Tryz.func47, Tryz.ntmps47
  go_wp2
  go_region
  all_goals
    go_wp2
    go_end0
    refine ⟨rfl, ?_, ?_⟩
    · unfold raskD
      rw [HQ.out]
      exact HR.out.1.kept rfl rfl rfl (Nat.le_refl _)
    · exact ⟨HR.out.2.os, HR.out.2.tape, HR.out.2.output, HR.out.2.size, HR.out.2.block⟩
end Go.Proofs.YthokdbcpkmcieaaGreat
namespace Go.Proofs.YthokdbcpkmcieaaGreat
open Go Go.RowKit
attribute [local go_sem ↓] Go.wp_at_zero Go.wp_at_succ
set_option maxRecDepth 100000 in
set_option maxHeartbeats 8000000 in
theorem rpage3_any (hb wb bb : Nat) (d : RHst) (w : World) (m : RHM w hb wb bb d) (k : DOk d) (hp : d.pos < d.all.length) :
    Calls Tryz.prog 102 #[.pointer (some ⟨hb, 0, none⟩), .int .i64 3] w fun e w' => e = .returned (.tuple #[]) ∧ RHM w' hb wb bb (rpageD d 3) ∧ w.grownBy w' (some hb) := by
  have hg : rpageD d 3 = raskD d 3 [(curD d).n] := by unfold rpageD; rw [if_neg (by decide)]
  rw [hg]
  obtain ⟨a, cap, c0, hc1, hc2, h0⟩ := m.wants
  obtain ⟨rfl, cn⟩ := h0 hp
  have c2 := m.c2
  have hn := u16 (k.pages _ (cur_mem hp)).1
  obtain ⟨W1, hW1⟩ : ∃ W1, w.alloc (.cells #[.int .u8 ((curD d).n.toNat : Int)] 5) = W1 := ⟨_, rfl⟩
  have hcv : (convert 24 9 (.slice (some ⟨w.heap.size, 0, none⟩) 1 1)).run Tryz.prog W1.drew = .ok (.string (txt [(curD d).n])) W1.drew := by
    rw [← hW1]
    exact conv_row (l := [(curD d).n]) (n := 1) rfl (own_first w w.heap.size (Nat.le_refl _) (curD d).n).drew
  have hB1 : Below w.heap.size w W1.drew := by rw [← hW1]; exact ((Below.refl _ _).alloc (Nat.le_refl _) _).drew
  have HA := hideIt (rask_any hb wb bb d 3 [(curD d).n] W1.drew (m.below hB1) k.num k.ses (by simp))
  have z3 : ((3 : UInt8).toNat : Int) = 3 := rfl
  rw [z3] at HA
  obtain ⟨T, hT⟩ : ∃ T, txt [(curD d).n] = T := ⟨_, rfl⟩
  obtain ⟨N, hN⟩ : ∃ N, (curD d).n.toNat = N := ⟨_, rfl⟩
  obtain ⟨L, hL⟩ : ∃ L, d.all.length = L := ⟨_, rfl⟩
  obtain ⟨P, hP⟩ : ∃ P, d.pos = P := ⟨_, rfl⟩
  rw [hT] at hcv HA
  rw [hN] at cn hW1 hn
  rw [hL] at c0 hc1 hp
  rw [hP] at c2 cn hp
  have hL16 : L ≤ 16 := by rw [← hL]; exact k.few
  have hPi : (P : Int) < (L : Int) := by omega
  have hLi : (L : Int) ≤ 16 := by omega
  have hwN : IntKind.u8.wrap (N : Int) = (N : Int) := by rw [IntKind.wrap_u8]; omega
  have HB1 := hideIt hB1
  clear m k hB1 hT hN hL hP z3 hg h0
  go_enter Tryz.func102, Tryz.ntmps102
  go_wp2
  go_region
  all_goals
    go_wp2_with fail
    refine HA.out.mono ?_
    rintro e w1 ⟨rfl, h1, h2⟩
    have HZ := hideIt (And.intro h1 ((below_to_grown HB1.out (some hb)).trans h2))
    clear h1 h2
    go_wp2
    go_end0
    exact ⟨rfl, HZ.out.1, HZ.out.2⟩
set_option maxRecDepth 100000 in
set_option maxHeartbeats 8000000 in
theorem rpage2_any (hb wb bb : Nat) (d : RHst) (w : World) (m : RHM w hb wb bb d) (k : DOk d) (hp : d.pos < d.all.length) :
    Calls Tryz.prog 102 #[.pointer (some ⟨hb, 0, none⟩), .int .i64 2] w fun e w' => e = .returned (.tuple #[]) ∧ RHM w' hb wb bb (rpageD d 2) ∧ w.grownBy w' (some hb) := by
  have hg : rpageD d 2 = raskD { d with paged := true } 2 ([(curD d).n] ++ (curD d).bs) := by unfold rpageD; rw [if_pos rfl]
  rw [hg]
  obtain ⟨a, cap, c0, hc1, hc2, h0⟩ := m.wants
  obtain ⟨rfl, cn⟩ := h0 hp
  have c2 := m.c2
  have hn := u16 (k.pages _ (cur_mem hp)).1
  have hbs := (k.pages _ (cur_mem hp)).2
  obtain ⟨W1, hW1⟩ : ∃ W1, w.alloc (.cells #[.int .u8 ((curD d).n.toNat : Int)] 5) = W1 := ⟨_, rfl⟩
  have hcv : (convert 24 9 (.slice (some ⟨w.heap.size, 0, none⟩) 1 1)).run Tryz.prog W1.drew = .ok (.string (txt [(curD d).n])) W1.drew := by
    rw [← hW1]
    exact conv_row (l := [(curD d).n]) (n := 1) rfl (own_first w w.heap.size (Nat.le_refl _) (curD d).n).drew
  have hB1 : Below w.heap.size w W1 := by rw [← hW1]; exact (Below.refl _ _).alloc (Nat.le_refl _) _
  have m1 := m.below hB1
  have x3 := m1.c3
  have y3 := m1.fz 3
  have m2 : RHM (W1.setCell ⟨hb, 3, none⟩ (.bool true)) hb wb bb { d with paged := true } := m1.setPaged true
  obtain ⟨W2, hW2⟩ : ∃ W2, W1.setCell ⟨hb, 3, none⟩ (.bool true) = W2 := ⟨_, rfl⟩
  rw [hW2] at m2
  obtain ⟨a', cap', e1, hc3, hc4, h1⟩ := m2.texts
  obtain ⟨rfl, cb⟩ := h1 hp
  have e2 := m2.c2
  replace e1 : W2.cell? ⟨hb, 1, none⟩ = some (.slice (some ⟨bb, 0, none⟩) d.all.length cap') := e1
  replace e2 : W2.cell? ⟨hb, 2, none⟩ = some (.int .i64 (d.pos : Int)) := e2
  replace cb : W2.cell? ⟨bb, d.pos, none⟩ = some (.string (txt (curD d).bs)) := cb
  replace hc3 : d.all.length ≤ cap' := hc3
  have HA : Hid (∀ n, Calls Tryz.prog 47 #[.pointer (some ⟨hb, 0, none⟩), .int .i64 2, .string (txt [(curD d).n] ++ txt (curD d).bs)] (W2.drewN n) fun e w' => e = .returned (.tuple #[]) ∧ RHM w' hb wb bb (raskD { d with paged := true } 2 ([(curD d).n] ++ (curD d).bs)) ∧ W2.grownBy w' (some hb)) := fun n => by
    have := rask_any hb wb bb { d with paged := true } 2 ([(curD d).n] ++ (curD d).bs) (W2.drewN n) (m2.kept rfl rfl rfl (Nat.le_refl _)) k.num k.ses (by simp [hbs])
    rw [← txt_append] at this
    exact this.mono fun e w' ⟨p1, p2, p3⟩ => ⟨p1, p2, ⟨p3.os, p3.tape, p3.output, p3.size, p3.block⟩⟩
  have hs1 : (txt [(curD d).n]).size = 1 := rfl
  have hs2 : (txt (curD d).bs).size = 64 := by rw [txt_size, hbs]
  obtain ⟨T, hT⟩ : ∃ T, txt [(curD d).n] = T := ⟨_, rfl⟩
  obtain ⟨U, hU⟩ : ∃ U, txt (curD d).bs = U := ⟨_, rfl⟩
  obtain ⟨N, hN⟩ : ∃ N, (curD d).n.toNat = N := ⟨_, rfl⟩
  obtain ⟨L, hL⟩ : ∃ L, d.all.length = L := ⟨_, rfl⟩
  obtain ⟨P, hP⟩ : ∃ P, d.pos = P := ⟨_, rfl⟩
  rw [hT] at hcv HA hs1
  rw [hU] at HA cb hs2
  rw [hN] at cn hW1 hn
  rw [hL] at c0 hc1 hp e1 hc3
  rw [hP] at c2 cn hp e2 cb
  have hL16 : L ≤ 16 := by rw [← hL]; exact k.few
  have hPi : (P : Int) < (L : Int) := by omega
  have hLi : (L : Int) ≤ 16 := by omega
  have hwN : IntKind.u8.wrap (N : Int) = (N : Int) := by rw [IntKind.wrap_u8]; omega
  have HG2 : Hid (w.grownBy W2 (some hb)) := by
    rw [← hW2]
    exact (below_to_grown hB1 (some hb)).trans (setg W1 hb 3 _)
  clear m m1 m2 k hB1 hT hU hN hL hP hg h0 h1 hbs
  go_enter Tryz.func102, Tryz.ntmps102
  go_wp2
  go_region
  all_goals
    go_wp2
    go_quiet (fail)
    go_wp2_with fail
    refine (HA.out _).mono ?_
    rintro e w1 ⟨rfl, h1, h2⟩
    have HZ := hideIt (And.intro h1 (HG2.out.trans h2))
    clear h1 h2
    go_wp2
    go_end0
    exact ⟨rfl, HZ.out.1, HZ.out.2⟩
end Go.Proofs.YthokdbcpkmcieaaGreat
namespace Go.Proofs.YthokdbcpkmcieaaGreat
open Go Go.RowKit
attribute [local go_sem ↓] Go.wp_at_zero Go.wp_at_succ
set_option maxRecDepth 100000 in
set_option maxHeartbeats 8000000 in
theorem rnext_any (hb wb bb : Nat) (d : RHst) (w : World) (m : RHM w hb wb bb d) (k : DOk d) :
    Calls Tryz.prog 103 #[.pointer (some ⟨hb, 0, none⟩)] w fun e w' => e = .returned (.tuple #[]) ∧ RHM w' hb wb bb (rnextD d) ∧ w.grownBy w' (some hb) := by
  obtain ⟨a, cap, c0, hc1, hc2, h0⟩ := m.wants
  have c2 := m.c2
  have hpl := k.pos
  have hfew := k.few
  have hLi : (d.all.length : Int) ≤ 16 := by omega
  by_cases hp : d.pos = d.all.length
  · have hg : rnextD d = { d with state := 1 } := by unfold rnextD; rw [if_pos hp]
    rw [hg]
    have c12 := m.c12
    have f12 := m.fz 12
    have HR := hideIt (And.intro (m.setState 1) (setg w hb 12 (.int .i64 ((1 : Nat) : Int))))
    have z1 : ((1 : Nat) : Int) = 1 := rfl
    rw [z1] at HR
    rw [hp] at c2
    clear m k h0 hg z1
    go_enter Tryz.func103, Tryz.ntmps103
    go_wp2
    go_quiet (fail)
    go_wp2
    (try simp only [Exit.inBlock, Exit.then])
    refine bodyPost_ret (results_none rfl _ _ _) rfl ?_
    exact ⟨rfl, HR.out.1.kept rfl rfl rfl (Nat.le_refl _), ⟨HR.out.2.os, HR.out.2.tape, HR.out.2.output, HR.out.2.size, HR.out.2.block⟩⟩
  · have hlt : d.pos < d.all.length := by omega
    obtain ⟨rfl, cn⟩ := h0 hlt
    have c3 := m.c3
    have f3 := m.fz 3
    have c11 := m.c11
    have k1 : DOk { d with paged := false } := ⟨k.few, k.pages, k.pos, k.ses, k.num, k.msg, k.what, k.said, k.ticks, k.burnt, k.st⟩
    have hm1 : ∀ n n', RHM (((w.drewN n).setCell ⟨hb, 3, none⟩ (.bool false)).drewN n') hb wb bb { d with paged := false } := fun n n' => ((m.kept (w' := w.drewN n) rfl rfl rfl (Nat.le_refl _)).setPaged false).kept rfl rfl rfl (Nat.le_refl _)
    have hg1 : ∀ n n', w.grownBy (((w.drewN n).setCell ⟨hb, 3, none⟩ (.bool false)).drewN n') (some hb) := fun n n' => by
      have h1 := setg (w.drewN n) hb 3 (.bool false)
      exact ⟨h1.os, h1.tape, h1.output, h1.size, h1.block⟩
    have HP3 : Hid (∀ n n', Calls Tryz.prog 102 #[.pointer (some ⟨hb, 0, none⟩), .int .i64 3] (((w.drewN n).setCell ⟨hb, 3, none⟩ (.bool false)).drewN n') fun e w' => e = .returned (.tuple #[]) ∧ RHM w' hb wb bb (rpageD { d with paged := false } 3) ∧ w.grownBy w' (some hb)) := fun n n' =>
      (rpage3_any hb wb bb { d with paged := false } _ (hm1 n n') k1 hlt).mono fun e w' ⟨p1, p2, p3⟩ => ⟨p1, p2, (hg1 n n').trans p3⟩
    have HP2 : Hid (∀ n n', Calls Tryz.prog 102 #[.pointer (some ⟨hb, 0, none⟩), .int .i64 2] (((w.drewN n).setCell ⟨hb, 3, none⟩ (.bool false)).drewN n') fun e w' => e = .returned (.tuple #[]) ∧ RHM w' hb wb bb (rpageD { d with paged := false } 2) ∧ w.grownBy w' (some hb)) := fun n n' =>
      (rpage2_any hb wb bb { d with paged := false } _ (hm1 n n') k1 hlt).mono fun e w' ⟨p1, p2, p3⟩ => ⟨p1, p2, (hg1 n n').trans p3⟩
    have hwne := m.ne.1
    have hn := u16 (k.pages _ (cur_mem hlt)).1
    have hbl := k.burnt
    obtain ⟨N, hN⟩ : ∃ N, (curD d).n.toNat = N := ⟨_, rfl⟩
    have hIn : isInH (curD d) d.burnt = (d.burnt / 2 ^ N % 2 == 1) := by unfold isInH; rw [hN]
    have hNe : rnextD d = if isInH (curD d) d.burnt = true then rpageD { d with paged := false } 3 else rpageD { d with paged := false } 2 := by unfold rnextD; rw [if_neg hp]
    rw [hIn] at hNe
    rw [hN] at cn hn
    have hdiv : (d.burnt : Int) / 2 ^ N = ((d.burnt / 2 ^ N : Nat) : Int) := by rw [Int.natCast_ediv, Int.natCast_pow]; rfl
    obtain ⟨Q, hQ⟩ : ∃ Q, d.burnt / 2 ^ N = Q := ⟨_, rfl⟩
    have hQl : Q < 65536 := by rw [← hQ]; exact Nat.lt_of_le_of_lt (Nat.div_le_self _ _) hbl
    rw [hQ] at hdiv hNe
    have hremT : Int.tmod (Q : Int) 2 = ((Q % 2 : Nat) : Int) := by rw [Int.tmod_eq_emod_of_nonneg (by omega)]; omega
    obtain ⟨L, hL⟩ : ∃ L, d.all.length = L := ⟨_, rfl⟩
    obtain ⟨P, hP⟩ : ∃ P, d.pos = P := ⟨_, rfl⟩
    rw [hL] at c0 hc1 hlt hp hLi
    rw [hP] at c2 cn hlt hp
    have hPi : (P : Int) < (L : Int) := by omega
    have hPe : ((P : Int) == (L : Int)) = false := by simp; omega
    have hNi : (N : Int) < 16 := by omega
    clear m k k1 hm1 hg1 h0 hN hIn hQ hL hP
    have hr2 : Q % 2 = 0 ∨ Q % 2 = 1 := by omega
    rcases hr2 with hr | hr
    · rw [hr] at hNe hremT
      replace hremT : Int.tmod (Q : Int) 2 = 0 := hremT
      have hrem : (Q : Int) % 2 = 0 := by omega
      have hNe' : rnextD d = rpageD { d with paged := false } 2 := by rw [hNe, if_neg (by decide)]
      rw [hNe']
      clear hNe hNe' hr
      go_enter Tryz.func103, Tryz.ntmps103
      go_wp2
      go_quiet (fail)
      go_wp2
      go_quiet (fail)
      go_wp2_with fail
      refine (HP2.out _ _).mono ?_
      rintro e w1 ⟨rfl, h1, h2⟩
      have HZ := hideIt (And.intro h1 h2)
      clear h1 h2
      go_wp2
      go_end0
      exact ⟨rfl, HZ.out.1, HZ.out.2⟩
    · rw [hr] at hNe hremT
      replace hremT : Int.tmod (Q : Int) 2 = 1 := hremT
      have hrem : (Q : Int) % 2 = 1 := by omega
      have hNe' : rnextD d = rpageD { d with paged := false } 3 := by rw [hNe, if_pos (by decide)]
      rw [hNe']
      clear hNe hNe' hr
      go_enter Tryz.func103, Tryz.ntmps103
      go_wp2
      go_quiet (fail)
      go_wp2
      go_quiet (fail)
      go_wp2_with fail
      refine (HP3.out _ _).mono ?_
      rintro e w1 ⟨rfl, h1, h2⟩
      have HZ := hideIt (And.intro h1 h2)
      clear h1 h2
      go_wp2
      go_end0
      exact ⟨rfl, HZ.out.1, HZ.out.2⟩
end Go.Proofs.YthokdbcpkmcieaaGreat
namespace Go.Proofs.YthokdbcpkmcieaaGreat
open Go Go.RowKit
attribute [local go_sem ↓] Go.wp_at_zero Go.wp_at_succ
theorem RHM.drewN {w : World} {hb wb bb : Nat} {d : RHst} (m : RHM w hb wb bb d) (n : Nat) : RHM (w.drewN n) hb wb bb d := m.kept rfl rfl rfl (Nat.le_refl _)
theorem grown_of_drewN {w w' : World} {n : Nat} {r : Option Nat} (h : (w.drewN n).grownBy w' r) : w.grownBy w' r := ⟨h.os, h.tape, h.output, h.size, h.block⟩
set_option maxRecDepth 100000 in
set_option maxHeartbeats 8000000 in
/-- No, or not what is wanted. -/
theorem rtakes_not (hb wb bb : Nat) (d : RHst) (y : Bool) (bs : List UInt8) (w : World) (m : RHM w hb wb bb d) (k : DOk d) (hg : goodD d y bs = false) (hp : d.what = 3 → d.pos < d.all.length) :
    Calls Tryz.prog 87 #[.pointer (some ⟨hb, 0, none⟩), .bool y, .string (txt bs)] w fun e w' => e = .returned (.tuple #[]) ∧ RHM w' hb wb bb (rtakesD d y bs) ∧ w.grownBy w' (some hb) := by
  have c7 := m.c7
  have c3 := m.c3
  have c12 := m.c12
  have f12 := m.fz 12
  have hwl := k.what
  have HS : Hid (∀ n, RHM ((w.drewN n).setCell ⟨hb, 12, none⟩ (.int .i64 2)) hb wb bb { d with state := 2 } ∧ w.grownBy ((w.drewN n).setCell ⟨hb, 12, none⟩ (.int .i64 2)) (some hb)) := fun n => ⟨(m.drewN n).setState 2, grown_of_drewN (setg (w.drewN n) hb 12 _)⟩
  by_cases h3 : d.what = 3
  · have hp3 := hp h3
    obtain ⟨a, cap, c1, hc1, hc2, h1⟩ := m.texts
    obtain ⟨rfl, cb⟩ := h1 hp3
    have c2 := m.c2
    have hfew := k.few
    rw [h3] at c7
    replace c7 : w.cell? ⟨hb, 7, none⟩ = some (.int .i64 3) := c7
    have HP2 : Hid (∀ n, Calls Tryz.prog 102 #[.pointer (some ⟨hb, 0, none⟩), .int .i64 2] (w.drewN n) fun e w' => e = .returned (.tuple #[]) ∧ RHM w' hb wb bb (rpageD d 2) ∧ w.grownBy w' (some hb)) := fun n => (rpage2_any hb wb bb d _ (m.drewN n) k hp3).mono fun e w' ⟨p1, p2, p3⟩ => ⟨p1, p2, grown_of_drewN p3⟩
    have hne : y = true → ((txt bs).toList == (txt (curD d).bs).toList) = false := fun hy => by
      subst hy
      refine txt_neR (fun e => ?_)
      unfold goodD at hg
      rw [h3, e] at hg
      simp at hg
    obtain ⟨L, hL⟩ : ∃ L, d.all.length = L := ⟨_, rfl⟩
    obtain ⟨P, hP⟩ : ∃ P, d.pos = P := ⟨_, rfl⟩
    obtain ⟨U, hU⟩ : ∃ U, txt (curD d).bs = U := ⟨_, rfl⟩
    obtain ⟨S, hS⟩ : ∃ S, txt bs = S := ⟨_, rfl⟩
    rw [hL] at c1 hc1 hp3 hfew
    rw [hP] at c2 cb hp3
    rw [hU] at cb hne
    rw [hS] at hne ⊢
    have hPi : (P : Int) < (L : Int) := by omega
    have hLi : (L : Int) ≤ 16 := by omega
    cases hpg : d.paged
    · have hr : rtakesD d y bs = rpageD d 2 := by unfold rtakesD; rw [if_pos ⟨h3, hg, hpg⟩]
      rw [hr]
      rw [hpg] at c3
      clear m k hg hp h1 h3 hr hpg hL hP hU hS HS
      cases y
      · clear hne
        go_enter Tryz.func87, Tryz.ntmps87
        go_wp2
        go_quiet (fail)
        go_wp2_with fail
        refine (HP2.out _).mono ?_
        rintro e w1 ⟨rfl, p1, p2⟩
        have HZ := hideIt (And.intro p1 p2)
        clear p1 p2
        go_wp2
        go_end0
        exact ⟨rfl, HZ.out.1, HZ.out.2⟩
      · have hne' := hne rfl
        clear hne
        go_enter Tryz.func87, Tryz.ntmps87
        go_wp2
        go_quiet (fail)
        go_wp2_with fail
        refine (HP2.out _).mono ?_
        rintro e w1 ⟨rfl, p1, p2⟩
        have HZ := hideIt (And.intro p1 p2)
        clear p1 p2
        go_wp2
        go_end0
        exact ⟨rfl, HZ.out.1, HZ.out.2⟩
    · have hr : rtakesD d y bs = { d with state := 2 } := by unfold rtakesD; rw [if_neg (by rw [hpg]; simp), if_pos hg]
      rw [hr]
      rw [hpg] at c3
      clear m k hg hp h1 h3 hr hpg hL hP hU hS HP2
      cases y
      · clear hne
        go_enter Tryz.func87, Tryz.ntmps87
        go_wp2
        go_quiet (fail)
        go_wp2
        go_end0
        exact ⟨rfl, (HS.out _).1, (HS.out _).2⟩
      · have hne' := hne rfl
        clear hne
        go_enter Tryz.func87, Tryz.ntmps87
        go_wp2
        go_quiet (fail)
        go_wp2
        go_end0
        exact ⟨rfl, (HS.out _).1, (HS.out _).2⟩
  · have hy : y = false := by
      cases y
      · rfl
      · unfold goodD at hg
        simp [h3] at hg
    subst hy
    have hr : rtakesD d false bs = { d with state := 2 } := by unfold rtakesD; rw [if_neg (fun e => h3 e.1), if_pos hg]
    rw [hr]
    obtain ⟨S, hS⟩ : ∃ S, txt bs = S := ⟨_, rfl⟩
    rw [hS]
    obtain ⟨X, hX⟩ : ∃ X, d.what = X := ⟨_, rfl⟩
    rw [hX] at c7 hwl h3
    have hX3 : ((X : Int) == 3) = false := by simp; omega
    clear m k hg hp hr hX hS h3
    go_enter Tryz.func87, Tryz.ntmps87
    go_wp2
    go_quiet (fail)
    go_wp2
    go_end0
    exact ⟨rfl, (HS.out _).1, (HS.out _).2⟩
end Go.Proofs.YthokdbcpkmcieaaGreat
