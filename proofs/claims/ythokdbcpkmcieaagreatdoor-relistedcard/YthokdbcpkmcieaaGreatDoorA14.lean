/- The walk of the parser's label. The walk of the parser's readTask. The walk of the parser's readTask: the directives. The walk of the parser's readTask: EQU. The walk of the parser's readTask: EQU behind a name. -/
import Derived.Test.YthokdbcpkmcieaaGreatDoorA08
import Derived.Test.YthokdbcpkmcieaaGreatDoorA13
import Derived.Test.YthokdbcpkmcieaaGreatDoorA09
namespace Go.Proofs.YthokdbcpkmcieaaGreatDoor
open Go Go.RowKit Go.Maps Go.WideMaps
def pLabel : List Tok → Option (ByteArray × List Tok)
  | [] => none
  | [t] => some (⟨#[]⟩, [t])
  | t :: u :: l => if t.kind = 0 ∨ ¬ u.text = ⟨#[58]⟩ then some (⟨#[]⟩, t :: u :: l) else if t.kind = 1 ∧ okName t.text.data.toList = true then some (t.text, l) else none
set_option maxRecDepth 100000 in
set_option maxHeartbeats 2000000 in
theorem label_any (w : World) (B pb : Nat) (b : Bk) (line : Int) (ts : List Tok) (h : PS w B pb b line ts) (hb : BookAt w b) (ha : Apart B pb b) (hne : ∀ t u l, ts = t :: u :: l → t.kind = 0 → False) :
    Calls Tryz.prog 165 #[.pointer (some ⟨pb, 0, none⟩)] w (PEnd w B pb b line (fun s => .string s) (pLabel ts)) := by
  obtain ⟨t, l, rfl⟩ := h.ne
  have HA := hideIt (isAtEnd_any w B pb b line t l h)
  cases l with
  | nil =>
    have hk : t.kind = 0 := by have := h.last; simp at this; subst this; rfl
    have e : pLabel [t] = some (⟨#[]⟩, [t]) := rfl
    rw [e]
    have hd : decide (t.kind = 0) = true := by simp [hk]
    rw [hd] at HA
    have HP := hideIt h
    clear h
    go_enter Tryz.func165, Tryz.ntmps165
    go_wp2_with (refine HA.out.mono ?_; rintro e w1 ⟨rfl, rfl⟩)
    go_ret
    exact ⟨rfl, HP.out, grown_refl _ _⟩
  | cons u l =>
    have hk : t.kind ≠ 0 := fun e => hne t u l rfl e
    have hd : decide (t.kind = 0) = false := by simp [hk]
    rw [hd] at HA
    obtain ⟨g, off, cap, k1, k2, k2', k3, k4, k5⟩ := h.tk
    have u1 := k3.2.2.2.2.1
    have hp : (1 : Int) < (l.length : Int) + 1 + 1 := by omega
    by_cases h58 : u.text = ⟨#[58]⟩
    · rw [h58] at u1
      have hbe : ((⟨#[58]⟩ : ByteArray).toList == (⟨#[58]⟩ : ByteArray).toList) = true := by simp
      have hst := h.sz t (by simp)
      by_cases hok : t.kind = 1 ∧ okName t.text.data.toList = true
      · have e : pLabel (t :: u :: l) = some (t.text, l) := by simp only [pLabel]; rw [if_neg (by simp [hk, h58]), if_pos hok]
        rw [e]
        have HN := hideIt (name_yes w B pb b line t (u :: l) h hb ha (by omega) hok.1 hok.2)
        clear h hb
        go_enter Tryz.func165, Tryz.ntmps165
        go_wp2_with fail
        refine HA.out.mono ?_
        rintro e w1 ⟨rfl, rfl⟩
        go_wp2_with fail
        refine HN.out.mono ?_
        rintro e w2 ⟨rfl, hp2, hg2⟩
        have HS := hideIt (skip_yes w2 B pb b line u l ⟨#[58]⟩ hp2 h58 (by decide))
        clear hp2
        go_wp2_with fail
        refine HS.out.mono ?_
        rintro e w3 ⟨rfl, hp3, hg3⟩
        go_wp2_with fail
        go_ret
        exact ⟨rfl, hp3, hg2.trans2 hg3⟩
      · have e : pLabel (t :: u :: l) = none := by simp only [pLabel]; rw [if_neg (by simp [hk, h58]), if_neg hok]
        rw [e]
        have hn : t.kind ≠ 1 ∨ okName t.text.data.toList = false := by
          by_cases hk1 : t.kind = 1
          · right
            cases ho : okName t.text.data.toList with
            | true => exact absurd ⟨hk1, ho⟩ hok
            | false => rfl
          · exact .inl hk1
        have HN := hideIt (name_no w B pb b line t (u :: l) h hb ha (by omega) hn)
        clear h hb
        go_enter Tryz.func165, Tryz.ntmps165
        go_wp2_with fail
        refine HA.out.mono ?_
        rintro e w1 ⟨rfl, rfl⟩
        go_wp2_with fail
        refine HN.out.mono ?_
        rintro e w2 ⟨rfl, hg2⟩
        unfold synE
        go_wp2_with fail
        exact ⟨rfl, rfl, hg2⟩
    · have hbe : (u.text.toList == [58]) = false := by rw [← show (⟨#[58]⟩ : ByteArray).toList = [58] by rw [ByteArray.toList_eq]]; exact txt_ne _ _ h58
      have e : pLabel (t :: u :: l) = some (⟨#[]⟩, t :: u :: l) := by simp only [pLabel]; rw [if_pos (.inr h58)]
      rw [e]
      have HP := hideIt h
      clear h hb
      go_enter Tryz.func165, Tryz.ntmps165
      go_wp2_with (refine HA.out.mono ?_; rintro e w1 ⟨rfl, rfl⟩)
      go_ret
      exact ⟨rfl, HP.out, grown_refl _ _⟩
end Go.Proofs.YthokdbcpkmcieaaGreatDoor
namespace Go.Proofs.YthokdbcpkmcieaaGreatDoor
open Go Go.RowKit Go.Maps Go.WideMaps
/-- What a line asks for behind its label. -/
structure Stm where
  task : Nat
  name : ByteArray
  vals : List (List Trm)
  ins : InsD
def ins0 : InsD := ⟨0, [], 0⟩
def pEqu (s : ByteArray) : List Tok → Option (Stm × List Tok)
  | [] => none
  | u :: l => if okName s.data.toList = true ∧ u.kind = 1 ∧ dirO u.text.data.toList = some 5 then (pVals 5 l).map fun x => (⟨5, s, x.1, ins0⟩, x.2) else none
def pTask : List Tok → Option (Stm × List Tok)
  | [] => none
  | t :: l =>
    if t.kind = 0 then some (⟨0, ⟨#[]⟩, [], ins0⟩, t :: l)
    else if ¬ t.kind = 1 then none
    else if hasN t.text.data.toList = true then (pIns t.text.data.toList l).map fun x => (⟨6, ⟨#[]⟩, x.1.2, x.1.1⟩, x.2)
    else match dirO t.text.data.toList with
      | some tk => if tk = 5 then pEqu t.text l else (pVals tk l).map fun x => (⟨tk, ⟨#[]⟩, x.1, ins0⟩, x.2)
      | none => pEqu t.text l
/-- What readTask comes to. -/
def TEnd (w : World) (B pb sb : Nat) (b : Bk) (line l0 p0 : Int) (lb : ByteArray) (o : Option (Stm × List Tok)) (e : Ending) (w' : World) : Prop :=
  match o with
  | none => e = synE line ∧ Grow2 w w' pb sb
  | some (x, l) => ∃ v kv, e = .returned (.tuple #[]) ∧ VAt w' w.heap.size v x.vals ∧ SS w' sb l0 p0 lb x.task x.name v x.ins.code kv x.ins.size ∧ w'.ownsRow 0 111 1 kv x.ins.kinds.length (kindCells x.ins.kinds) ∧ (∀ j, kv.ownBlock = some j → j < pb) ∧ PS w' B pb b line l ∧ Grow2 w w' pb sb
theorem VAt.lower {w : World} {base base' : Nat} {v : Value} {es : List (List Trm)} (h : VAt w base v es) (hb : base' ≤ base) : VAt w base' v es := by
  obtain ⟨vs, h1, h2⟩ := h
  refine ⟨vs, own_base h1 hb, ?_⟩
  clear h1
  induction vs generalizing es with
  | nil => cases es with
    | nil => trivial
    | cons _ _ => exact h2.elim
  | cons x vs ih => cases es with
    | nil => exact h2.elim
    | cons e es => exact ⟨⟨own_base h2.1.1 hb, h2.1.2⟩, ih h2.2⟩
theorem SS.task {w : World} {sb : Nat} {l0 p0 : Int} {lb : ByteArray} {tk : Int} {nm : ByteArray} {v : Value} {cd : Int} {kd : Value} {sz : Int} (h : SS w sb l0 p0 lb tk nm v cd kd sz) (t' : Int) : SS (w.setCell ⟨sb, 3, none⟩ (.int .i64 t')) sb l0 p0 lb t' nm v cd kd sz := by
  refine ⟨?_, ?_, ?_, World.cell?_setCell_same _ _ _ h.c3, ?_, ?_, ?_, ?_, ?_, fun j => by simp [h.fz j], by simpa [World.setCell] using h.lt⟩
  · rw [World.cell?_setCell_other _ _ _ _ (by simp)]; exact h.c0
  · rw [World.cell?_setCell_other _ _ _ _ (by simp)]; exact h.c1
  · rw [World.cell?_setCell_other _ _ _ _ (by simp)]; exact h.c2
  · rw [World.cell?_setCell_other _ _ _ _ (by simp)]; exact h.c4
  · rw [World.cell?_setCell_other _ _ _ _ (by simp)]; exact h.c5
  · rw [World.cell?_setCell_other _ _ _ _ (by simp)]; exact h.c6
  · rw [World.cell?_setCell_other _ _ _ _ (by simp)]; exact h.c7
  · rw [World.cell?_setCell_other _ _ _ _ (by simp)]; exact h.c8
theorem SS.name {w : World} {sb : Nat} {l0 p0 : Int} {lb : ByteArray} {tk : Int} {nm : ByteArray} {v : Value} {cd : Int} {kd : Value} {sz : Int} (h : SS w sb l0 p0 lb tk nm v cd kd sz) (n' : ByteArray) : SS (w.setCell ⟨sb, 4, none⟩ (.string n')) sb l0 p0 lb tk n' v cd kd sz := by
  refine ⟨?_, ?_, ?_, ?_, World.cell?_setCell_same _ _ _ h.c4, ?_, ?_, ?_, ?_, fun j => by simp [h.fz j], by simpa [World.setCell] using h.lt⟩
  · rw [World.cell?_setCell_other _ _ _ _ (by simp)]; exact h.c0
  · rw [World.cell?_setCell_other _ _ _ _ (by simp)]; exact h.c1
  · rw [World.cell?_setCell_other _ _ _ _ (by simp)]; exact h.c2
  · rw [World.cell?_setCell_other _ _ _ _ (by simp)]; exact h.c3
  · rw [World.cell?_setCell_other _ _ _ _ (by simp)]; exact h.c5
  · rw [World.cell?_setCell_other _ _ _ _ (by simp)]; exact h.c6
  · rw [World.cell?_setCell_other _ _ _ _ (by simp)]; exact h.c7
  · rw [World.cell?_setCell_other _ _ _ _ (by simp)]; exact h.c8
theorem hasN_ne {s : ByteArray} (_h : hasN s.data.toList = true) : True := trivial
set_option maxRecDepth 100000 in
set_option maxHeartbeats 4000000 in
theorem readTask_end (w : World) (B pb sb : Nat) (b : Bk) (line : Int) (t : Tok) (l : List Tok) (h : PS w B pb b line (t :: l)) (_hb : BookAt w b) (_hI : InsAt w b pb) (_hib : b.ib < pb) (_ha : Apart B pb b) (_hn : (t :: l).length ≤ 1000000) (l0 p0 : Int) (lb : ByteArray)
    (hS : SS w sb l0 p0 lb (0 : Nat) ⟨#[]⟩ (.slice none 0 0) 0 (.slice none 0 0) 0) (_hne : sb ≠ pb) (_hB : B ≤ sb) (hk : t.kind = 0) : Calls Tryz.prog 166 #[.pointer (some ⟨pb, 0, none⟩), .pointer (some ⟨sb, 0, none⟩)] w (TEnd w B pb sb b line l0 p0 lb (pTask (t :: l))) := by
  have HA := hideIt (isAtEnd_any w B pb b line t l h)
  have e : pTask (t :: l) = some (⟨0, ⟨#[]⟩, [], ins0⟩, t :: l) := by simp only [pTask]; rw [if_pos hk]
  rw [e]
  have hd : decide (t.kind = 0) = true := by simp [hk]
  rw [hd] at HA
  have HP := hideIt (And.intro h hS)
  clear h _hb _hI hS
  go_enter Tryz.func166, Tryz.ntmps166
  go_wp2_with (refine HA.out.mono ?_; rintro e w0 ⟨rfl, rfl⟩)
  refine bodyPost_ret (results_none rfl _ _ _) rfl ?_
  exact ⟨_, _, rfl, ⟨[], World.ownsRow_nil _ _ _ _, trivial⟩, HP.out.2, World.ownsRow_nil _ _ _ _, (fun j hj => by cases hj), HP.out.1, Grow2.refl _ _ _⟩
set_option maxRecDepth 100000 in
set_option maxHeartbeats 4000000 in
theorem readTask_noword (w : World) (B pb sb : Nat) (b : Bk) (line : Int) (t : Tok) (l : List Tok) (h : PS w B pb b line (t :: l)) (_hb : BookAt w b) (_hI : InsAt w b pb) (_hib : b.ib < pb) (_ha : Apart B pb b) (_hn : (t :: l).length ≤ 1000000) (l0 p0 : Int) (lb : ByteArray)
    (_hS : SS w sb l0 p0 lb (0 : Nat) ⟨#[]⟩ (.slice none 0 0) 0 (.slice none 0 0) 0) (_hne : sb ≠ pb) (_hB : B ≤ sb) (hk : ¬ t.kind = 0) (hk1 : ¬ t.kind = 1) : Calls Tryz.prog 166 #[.pointer (some ⟨pb, 0, none⟩), .pointer (some ⟨sb, 0, none⟩)] w (TEnd w B pb sb b line l0 p0 lb (pTask (t :: l))) := by
  have HA := hideIt (isAtEnd_any w B pb b line t l h)
  have e : pTask (t :: l) = none := by simp only [pTask]; rw [if_neg hk, if_pos hk1]
  rw [e]
  have hd : decide (t.kind = 0) = false := by simp [hk]
  rw [hd] at HA
  have HW := hideIt (word_no w B pb b line t l h hk1)
  clear h _hb _hI _hS
  go_enter Tryz.func166, Tryz.ntmps166
  go_wp2_with fail
  refine HA.out.mono ?_
  rintro e w0 ⟨rfl, hw0⟩
  rw [hw0]
  clear hw0 w0
  go_wp2_with fail
  refine HW.out.mono ?_
  rintro e w1 ⟨rfl, rfl⟩
  unfold synE
  go_wp2_with fail
  exact ⟨rfl, rfl, Grow2.refl _ _ _⟩
set_option maxRecDepth 100000 in
set_option maxHeartbeats 4000000 in
theorem readTask_ins (w : World) (B pb sb : Nat) (b : Bk) (line : Int) (t : Tok) (l : List Tok) (h : PS w B pb b line (t :: l)) (hb : BookAt w b) (hI : InsAt w b pb) (hib : b.ib < pb) (ha : Apart B pb b) (hn : (t :: l).length ≤ 1000000) (l0 p0 : Int) (lb : ByteArray)
    (hS : SS w sb l0 p0 lb (0 : Nat) ⟨#[]⟩ (.slice none 0 0) 0 (.slice none 0 0) 0) (hne : sb ≠ pb) (hB : B ≤ sb) (hk1 : t.kind = 1) (hh : hasN t.text.data.toList = true) : Calls Tryz.prog 166 #[.pointer (some ⟨pb, 0, none⟩), .pointer (some ⟨sb, 0, none⟩)] w (TEnd w B pb sb b line l0 p0 lb (pTask (t :: l))) := by
  have HA := hideIt (isAtEnd_any w B pb b line t l h)
  obtain ⟨R, hR⟩ : ∃ R, pIns t.text.data.toList l = R := ⟨_, rfl⟩
  have e : pTask (t :: l) = R.map fun x => (⟨6, ⟨#[]⟩, x.1.2, x.1.1⟩, x.2) := by simp only [pTask]; rw [if_neg (by omega), if_neg (by simp [hk1]), if_pos hh, hR]
  rw [e]
  have hd : decide (t.kind = 0) = false := by simp; omega
  rw [hd] at HA
  have hst := h.sz t (by simp)
  have HW := hideIt (word_yes w B pb b line t l h hk1)
  have hpB := h.lt
  have hleB := h.le
  have HBW := hideIt hb
  have HIW := hideIt hI
  have HSS := hideIt hS
  clear h hb hI hS e
  go_enter Tryz.func166, Tryz.ntmps166
  go_wp2_with fail
  refine HA.out.mono ?_
  rintro e w0 ⟨rfl, hw0⟩
  rw [hw0]
  clear hw0 w0
  go_wp2_with fail
  refine HW.out.mono ?_
  rintro e w1 ⟨rfl, hp1, hg1⟩
  have hbk1 := HBW.out.kept hg1 ha.h1 ha.h2 ha.h3
  have hG1 := Grow2.of1 hg1 sb
  have hS1 := HSS.out.grown (hg1.block sb HSS.out.lt (by simpa using hne)) hg1.size
  have hdr := dir_run w1 b t.text hbk1 (by omega)
  obtain ⟨dv, dz, hdv⟩ : ∃ (dv : Nat) (dz : Bool), dirR (dirO t.text.data.toList) = .tuple #[.int .i64 dv, .bool dz] := by
    cases dirO t.text.data.toList with
    | none => exact ⟨0, false, rfl⟩
    | some x => exact ⟨x, true, rfl⟩
  rw [hdv] at hdr
  have hhn := hasName_any w1 b t.text hbk1 (by omega)
  rw [hh] at hhn
  unfold bkV at hhn
  have HH := hideIt hhn
  have d0 := hp1.c0
  have d1 := hp1.c1
  have d2 := hp1.c2
  have d3 := hp1.c3
  have HP1 := hideIt hp1
  have HB1 := hideIt hbk1
  have HS1 := hideIt hS1
  have HI1 := hideIt (HIW.out.kept hG1 hib hB hpB)
  clear hp1 hbk1 hS1 hhn hdv
  go_wp2_with fail
  refine HH.out.mono ?_
  rintro e w2 ⟨rfl, hb2⟩
  have hG2 := hG1.trans (Grow2.ofB hb2 _ _)
  have hri := readInstruction_any w2 B pb sb b line l (HP1.out.kept (hb2.mono HP1.out.le)) (HB1.out.below hb2) (HI1.out.kept (Grow2.ofB hb2 pb sb) hib hB hpB) hib ha (by simp at hn; omega) t.text (by omega) l0 p0 lb 0 ⟨#[]⟩ 0 none 0 0 0 (HS1.out.grown (hb2.block sb HS1.out.lt) hb2.size) hne hB
  rw [hR] at hri
  cases R with
  | none =>
    have HRI := hideIt hri
    clear hri
    go_wp2_with fail
    refine HRI.out.mono ?_
    rintro e w3 ⟨rfl, hg3⟩
    unfold synE
    go_wp2_with fail
    exact ⟨rfl, rfl, hG2.trans hg3⟩
  | some x =>
    obtain ⟨⟨d, es⟩, l2⟩ := x
    have HRI := hideIt hri
    clear hri
    go_wp2_with fail
    refine HRI.out.mono ?_
    rintro e w3 ⟨v, kv, rfl, h1, h2, h3, h4, h5, h6⟩
    have HZ := hideIt (And.intro h1 (And.intro h2 (And.intro h3 (And.intro h4 (And.intro h5 h6)))))
    clear h1 h2 h3 h4 h5 h6
    go_wp2_with fail
    first
      | go_end0
      | refine bodyPost_ret (results_none rfl _ _ _) rfl ?_
    obtain ⟨h1, h2, h3, h4, h5, h6⟩ := HZ.out
    exact ⟨v, kv, rfl, h1.lower hG2.size, h2, h3, h4, h5, hG2.trans h6⟩
end Go.Proofs.YthokdbcpkmcieaaGreatDoor
namespace Go.Proofs.YthokdbcpkmcieaaGreatDoor
open Go Go.RowKit Go.Maps Go.WideMaps
set_option maxRecDepth 100000 in
set_option maxHeartbeats 4000000 in
theorem readTask_dir (w : World) (B pb sb : Nat) (b : Bk) (line : Int) (t : Tok) (l : List Tok) (h : PS w B pb b line (t :: l)) (hb : BookAt w b) (_hI : InsAt w b pb) (_hib : b.ib < pb) (ha : Apart B pb b) (hn : (t :: l).length ≤ 1000000) (l0 p0 : Int) (lb : ByteArray)
    (hS : SS w sb l0 p0 lb (0 : Nat) ⟨#[]⟩ (.slice none 0 0) 0 (.slice none 0 0) 0) (hne : sb ≠ pb) (hB : B ≤ sb) (hk1 : t.kind = 1) (hh : hasN t.text.data.toList = false) (tk : Nat) (htk : dirO t.text.data.toList = some tk) (h5 : ¬ tk = 5) : Calls Tryz.prog 166 #[.pointer (some ⟨pb, 0, none⟩), .pointer (some ⟨sb, 0, none⟩)] w (TEnd w B pb sb b line l0 p0 lb (pTask (t :: l))) := by
  have HA := hideIt (isAtEnd_any w B pb b line t l h)
  obtain ⟨R, hR⟩ : ∃ R, pVals tk l = R := ⟨_, rfl⟩
  have e : pTask (t :: l) = R.map fun x => (⟨tk, ⟨#[]⟩, x.1, ins0⟩, x.2) := by simp only [pTask]; rw [if_neg (by omega), if_neg (by simp [hk1]), if_neg (by simp [hh]), htk]; simp only; rw [if_neg h5, hR]
  rw [e]
  have hd : decide (t.kind = 0) = false := by simp; omega
  rw [hd] at HA
  have hst := h.sz t (by simp)
  have HW := hideIt (word_yes w B pb b line t l h hk1)
  have hpB := h.lt
  have hleB := h.le
  have HBW := hideIt hb
  have HSS := hideIt hS
  have i5 : ((tk : Int) == 5) = false := by simp; omega
  clear h hb _hI hS e
  go_enter Tryz.func166, Tryz.ntmps166
  go_wp2_with fail
  refine HA.out.mono ?_
  rintro e w0 ⟨rfl, hw0⟩
  rw [hw0]
  clear hw0 w0
  go_wp2_with fail
  refine HW.out.mono ?_
  rintro e w1 ⟨rfl, hp1, hg1⟩
  have hbk1 := HBW.out.kept hg1 ha.h1 ha.h2 ha.h3
  have hG1 := Grow2.of1 hg1 sb
  have hS1 := HSS.out.grown (hg1.block sb HSS.out.lt (by simpa using hne)) hg1.size
  have hdr := dir_run w1 b t.text hbk1 (by omega)
  rw [htk] at hdr
  simp only [dirR] at hdr
  have hhn := hasName_any w1 b t.text hbk1 (by omega)
  rw [hh] at hhn
  unfold bkV at hhn
  have HH := hideIt hhn
  have d0 := hp1.c0
  have d1 := hp1.c1
  have d2 := hp1.c2
  have d3 := hp1.c3
  have HP1 := hideIt hp1
  have HB1 := hideIt hbk1
  have HS1 := hideIt hS1
  clear hp1 hbk1 hS1 hhn
  go_wp2_with fail
  refine HH.out.mono ?_
  rintro e w2 ⟨rfl, hb2⟩
  have hG2 := hG1.trans (Grow2.ofB hb2 _ _)
  have hS2 := HS1.out.grown (hb2.block sb HS1.out.lt) hb2.size
  have s3 := hS2.c3
  have f3 := hS2.fz 3
  have hS3 := hS2.task tk
  have hb3 : Below B w2 (w2.setCell ⟨sb, 3, none⟩ (.int .i64 tk)) := (Below.refl _ _).setCell hB _
  have hG3 := hG2.set 3 (.int .i64 (tk : Int))
  have hp3 := (HP1.out.kept (hb2.mono HP1.out.le)).kept hb3
  have hbk3 := (HB1.out.below hb2).belowB hb3 ha.l1 ha.l2 ha.l3
  have hrv := readValues_any (w2.setCell ⟨sb, 3, none⟩ (.int .i64 tk)) B pb sb b line l hp3 hbk3 ha (by simp at hn; omega) l0 p0 lb tk ⟨#[]⟩ 0 none 0 0 0 hS3 hne hB
  rw [hR] at hrv
  clear hS2 hS3 hp3 hbk3
  cases R with
  | none =>
    have HRV := hideIt hrv
    clear hrv
    go_wp2_with fail
    refine HRV.out.mono ?_
    rintro e w4 ⟨rfl, hg4⟩
    unfold synE
    go_wp2_with fail
    exact ⟨rfl, rfl, hG3.trans hg4⟩
  | some x =>
    obtain ⟨es, l2⟩ := x
    have HRV := hideIt hrv
    clear hrv
    go_wp2_with fail
    refine HRV.out.mono ?_
    rintro e w4 ⟨v, rfl, h1, h2, h3, h4⟩
    have HZ := hideIt (And.intro h1 (And.intro h2 (And.intro h3 h4)))
    clear h1 h2 h3 h4
    go_wp2_with fail
    first
      | go_end0
      | refine bodyPost_ret (results_none rfl _ _ _) rfl ?_
    obtain ⟨h1, h2, h3, h4⟩ := HZ.out
    exact ⟨v, _, rfl, h1.lower hG3.size, h2, World.ownsRow_nil _ _ _ _, (fun j hj => by cases hj), h3, hG3.trans h4⟩
end Go.Proofs.YthokdbcpkmcieaaGreatDoor
namespace Go.Proofs.YthokdbcpkmcieaaGreatDoor
open Go Go.RowKit Go.Maps Go.WideMaps
theorem dir_run0 (w : World) (b : Bk) (s : ByteArray) (h : BookAt w b) (hs : s.size ≤ 1000000) : (Instr.lookup 248 (.map (some b.db)) (.string s) false).run Tryz.prog w = .ok (.int .i64 ((dirO s.data.toList).getD 0 : Nat)) w := by
  have hkey : keyOf Tryz.prog 9 (.string s) = some (.string s.data.toList) := keyOf_string_mk Tryz.underlying9 (by unfold maxLen; omega)
  rw [h.dirs.look strK Tryz.underlying248 (zeroTask _) hkey false]
  cases dirO s.data.toList <;> rfl
set_option maxRecDepth 100000 in
set_option maxHeartbeats 4000000 in
theorem readTask_equ_bad (w : World) (B pb sb : Nat) (b : Bk) (line : Int) (t : Tok) (l : List Tok) (h : PS w B pb b line (t :: l)) (hb : BookAt w b) (_hI : InsAt w b pb) (_hib : b.ib < pb) (ha : Apart B pb b) (_hn : (t :: l).length ≤ 1000000) (l0 p0 : Int) (lb : ByteArray)
    (hS : SS w sb l0 p0 lb (0 : Nat) ⟨#[]⟩ (.slice none 0 0) 0 (.slice none 0 0) 0) (hne : sb ≠ pb) (_hB : B ≤ sb) (hk1 : t.kind = 1) (hh : hasN t.text.data.toList = false) (htk : dirO t.text.data.toList = none ∨ dirO t.text.data.toList = some 5) (hok : okName t.text.data.toList = false) : Calls Tryz.prog 166 #[.pointer (some ⟨pb, 0, none⟩), .pointer (some ⟨sb, 0, none⟩)] w (TEnd w B pb sb b line l0 p0 lb none) := by
  have HA := hideIt (isAtEnd_any w B pb b line t l h)
  have hd : decide (t.kind = 0) = false := by simp; omega
  rw [hd] at HA
  have hst := h.sz t (by simp)
  have HW := hideIt (word_yes w B pb b line t l h hk1)
  have hpB := h.lt
  have hleB := h.le
  have HBW := hideIt hb
  have HSS := hideIt hS
  obtain ⟨dv, dz, hdv, hdz⟩ : ∃ (dv : Nat) (dz : Bool), dirR (dirO t.text.data.toList) = .tuple #[.int .i64 dv, .bool dz] ∧ (dz = true → dv = 5) := by
    rcases htk with h' | h'
    · rw [h']; exact ⟨0, false, rfl, (fun h => by cases h)⟩
    · rw [h']; exact ⟨5, true, rfl, fun _ => rfl⟩
  have HDV := hideIt hdv
  have HDZ := hideIt hdz
  clear h hb _hI hS hdv hdz
  go_enter Tryz.func166, Tryz.ntmps166
  go_wp2_with fail
  refine HA.out.mono ?_
  rintro e w0 ⟨rfl, hw0⟩
  rw [hw0]
  clear hw0 w0
  go_wp2_with fail
  refine HW.out.mono ?_
  rintro e w1 ⟨rfl, hp1, hg1⟩
  have hbk1 := HBW.out.kept hg1 ha.h1 ha.h2 ha.h3
  have hG1 := Grow2.of1 hg1 sb
  have hS1 := HSS.out.grown (hg1.block sb HSS.out.lt (by simpa using hne)) hg1.size
  have hdr := dir_run w1 b t.text hbk1 (by omega)
  rw [HDV.out] at hdr
  have hhn := hasName_any w1 b t.text hbk1 (by omega)
  rw [hh] at hhn
  unfold bkV at hhn
  have HH := hideIt hhn
  have d0 := hp1.c0
  have d1 := hp1.c1
  have d2 := hp1.c2
  have d3 := hp1.c3
  have HP1 := hideIt hp1
  have HB1 := hideIt hbk1
  have HS1 := hideIt hS1
  clear hp1 hbk1 hS1 hhn
  go_wp2_with fail
  refine HH.out.mono ?_
  rintro e w2 ⟨rfl, hb2⟩
  have hG2 := hG1.trans (Grow2.ofB hb2 _ _)
  have hS2 := HS1.out.grown (hb2.block sb HS1.out.lt) hb2.size
  have hp2 := HP1.out.kept (hb2.mono HP1.out.le)
  have hbk2 := HB1.out.below hb2
  have hcn := checkName_any w2 B pb b line l t.text hp2 hbk2 (by omega)
  rw [ret_of_bad _ _ hok] at hcn
  have HC := hideIt hcn
  clear hcn hp2 hbk2 hS2
  have close : ∀ (w3 : World), Below w2.heap.size w2 w3 → Grow2 w w3 pb sb := fun w3 hb3 => hG2.trans (Grow2.ofB hb3 _ _)
  have HCL := hideIt close
  clear close
  cases dz with
  | true =>
    have h5 := HDZ.out rfl
    subst h5
    go_wp2_with fail
    refine HC.out.mono ?_
    rintro e w3 ⟨rfl, hb3⟩
    unfold synE
    go_wp2_with fail
    exact ⟨rfl, rfl, HCL.out _ hb3⟩
  | false =>
    go_wp2_with fail
    refine HC.out.mono ?_
    rintro e w3 ⟨rfl, hb3⟩
    unfold synE
    go_wp2_with fail
    exact ⟨rfl, rfl, HCL.out _ hb3⟩
end Go.Proofs.YthokdbcpkmcieaaGreatDoor
namespace Go.Proofs.YthokdbcpkmcieaaGreatDoor
open Go Go.RowKit Go.Maps Go.WideMaps
set_option maxRecDepth 100000 in
set_option maxHeartbeats 4000000 in
theorem readTask_equ_noword (w : World) (B pb sb : Nat) (b : Bk) (line : Int) (t : Tok) (u : Tok) (l2 : List Tok) (h : PS w B pb b line (t :: u :: l2)) (hb : BookAt w b) (_hI : InsAt w b pb) (_hib : b.ib < pb) (ha : Apart B pb b) (_hn : (t :: u :: l2).length ≤ 1000000) (l0 p0 : Int) (lb : ByteArray)
    (hS : SS w sb l0 p0 lb (0 : Nat) ⟨#[]⟩ (.slice none 0 0) 0 (.slice none 0 0) 0) (hne : sb ≠ pb) (hB : B ≤ sb) (hk1 : t.kind = 1) (hh : hasN t.text.data.toList = false) (htk : dirO t.text.data.toList = none ∨ dirO t.text.data.toList = some 5) (hok : okName t.text.data.toList = true) (hu : ¬ u.kind = 1) : Calls Tryz.prog 166 #[.pointer (some ⟨pb, 0, none⟩), .pointer (some ⟨sb, 0, none⟩)] w (TEnd w B pb sb b line l0 p0 lb none) := by
  have HA := hideIt (isAtEnd_any w B pb b line t (u :: l2) h)
  have hd : decide (t.kind = 0) = false := by simp; omega
  rw [hd] at HA
  have hst := h.sz t (by simp)
  have HW := hideIt (word_yes w B pb b line t (u :: l2) h hk1)
  have hpB := h.lt
  have hleB := h.le
  have HBW := hideIt hb
  have HSS := hideIt hS
  obtain ⟨dv, dz, hdv, hdz⟩ : ∃ (dv : Nat) (dz : Bool), dirR (dirO t.text.data.toList) = .tuple #[.int .i64 dv, .bool dz] ∧ (dz = true → dv = 5) := by
    rcases htk with h' | h'
    · rw [h']; exact ⟨0, false, rfl, (fun h => by cases h)⟩
    · rw [h']; exact ⟨5, true, rfl, fun _ => rfl⟩
  have HDV := hideIt hdv
  have HDZ := hideIt hdz
  clear h hb _hI hS hdv hdz
  go_enter Tryz.func166, Tryz.ntmps166
  go_wp2_with fail
  refine HA.out.mono ?_
  rintro e w0 ⟨rfl, hw0⟩
  rw [hw0]
  clear hw0 w0
  go_wp2_with fail
  refine HW.out.mono ?_
  rintro e w1 ⟨rfl, hp1, hg1⟩
  have hbk1 := HBW.out.kept hg1 ha.h1 ha.h2 ha.h3
  have hG1 := Grow2.of1 hg1 sb
  have hS1 := HSS.out.grown (hg1.block sb HSS.out.lt (by simpa using hne)) hg1.size
  have hdr := dir_run w1 b t.text hbk1 (by omega)
  rw [HDV.out] at hdr
  have hhn := hasName_any w1 b t.text hbk1 (by omega)
  rw [hh] at hhn
  unfold bkV at hhn
  have HH := hideIt hhn
  have d0 := hp1.c0
  have d1 := hp1.c1
  have d2 := hp1.c2
  have d3 := hp1.c3
  have HP1 := hideIt hp1
  have HB1 := hideIt hbk1
  have HS1 := hideIt hS1
  clear hp1 hbk1 hS1 hhn
  go_wp2_with fail
  refine HH.out.mono ?_
  rintro e w2 ⟨rfl, hb2⟩
  have hG2 := hG1.trans (Grow2.ofB hb2 _ _)
  have hS2 := HS1.out.grown (hb2.block sb HS1.out.lt) hb2.size
  have hp2 := HP1.out.kept (hb2.mono HP1.out.le)
  have hbk2 := HB1.out.below hb2
  have hcn := checkName_any w2 B pb b line (u :: l2) t.text hp2 hbk2 (by omega)
  rw [ret_of_ok _ _ hok] at hcn
  have HC := hideIt hcn
  have HP2 := hideIt hp2
  have HB2 := hideIt hbk2
  have HS2 := hideIt hS2
  have hent : ∀ args w, (callFunc 209 args).run Tryz.prog w = .ok (.enter 209 args) w := enters_of Tryz.func209 (by kernel_rfl) rfl
  clear hcn hp2 hbk2 hS2
  cases dz with
  | true =>
    have h5 := HDZ.out rfl
    subst h5
    rcases htk with h' | h'
    · rw [h'] at HDV; exact absurd HDV.out (by simp [dirR])
    · have : okName t.text.data.toList = false := by unfold okName; rw [h']; rfl
      rw [this] at hok; cases hok
  | false =>
    go_wp2_with fail
    refine HC.out.mono ?_
    rintro e w3 ⟨rfl, hb3⟩
    have hS3 := HS2.out.grown (hb3.block sb HS2.out.lt) hb3.size
    have s3 := hS3.c3
    have s4 := hS3.c4
    have f3 := hS3.fz 3
    have f4 := hS3.fz 4
    have hsl3 := hS3.lt
    have hS4 := (hS3.task 5).name t.text
    have hbx : Below B w3 ((w3.setCell ⟨sb, 3, none⟩ (.int .i64 5)).setCell ⟨sb, 4, none⟩ (.string t.text)) := ((Below.refl _ _).setCell hB _).setCell hB _
    have hG4 := ((hG2.trans (Grow2.ofB hb3 _ _)).set 3 (.int .i64 5)).set 4 (.string t.text)
    have hp4 := (HP2.out.kept (hb3.mono HP2.out.le)).kept hbx
    have hbk4 := (HB2.out.below hb3).belowB hbx ha.l1 ha.l2 ha.l3
    have H4 := hideIt (And.intro hS4 (And.intro hp4 hbk4))
    have d33 := hp4.c3
    clear hS3 hS4 hbx hp4 hbk4
    go_wp2_with fail
    obtain ⟨W, hW⟩ : ∃ W, (w3.setCell ⟨sb, 3, none⟩ (.int .i64 5)).setCell ⟨sb, 4, none⟩ (.string t.text) = W := ⟨_, rfl⟩
    rw [hW] at H4 hG4 d33 ⊢
    clear hW s3 s4 f3 f4
    have HW4 := hideIt (word_no W.drew B pb b line u l2 (H4.out.2.1.kept (Below.refl _ _).drew) hu)
    have hlk := dir_run0 W.drew b ⟨#[]⟩ (H4.out.2.2.below (Below.refl _ _).drew) (by decide)
    go_region_law (refine step_diesV (.string ⟨#[]⟩) 209 #[.pointer (some ⟨pb, 0, none⟩)] rfl (by simp [go_sem, hent]) _ HW4.out (fun e w' hh => ⟨_, hh.1, rfl, rfl, by rw [hh.2]; exact hG4.trans (Grow2.ofB (Below.refl _ _).drew _ _)⟩) ?_; intro HF)
    all_goals exact HF.out.elim
set_option maxRecDepth 100000 in
set_option maxHeartbeats 4000000 in
theorem readTask_equ_word (w : World) (B pb sb : Nat) (b : Bk) (line : Int) (t : Tok) (u : Tok) (l2 : List Tok) (h : PS w B pb b line (t :: u :: l2)) (hb : BookAt w b) (_hI : InsAt w b pb) (_hib : b.ib < pb) (ha : Apart B pb b) (hn : (t :: u :: l2).length ≤ 1000000) (l0 p0 : Int) (lb : ByteArray)
    (hS : SS w sb l0 p0 lb (0 : Nat) ⟨#[]⟩ (.slice none 0 0) 0 (.slice none 0 0) 0) (hne : sb ≠ pb) (hB : B ≤ sb) (hk1 : t.kind = 1) (hh : hasN t.text.data.toList = false) (htk : dirO t.text.data.toList = none ∨ dirO t.text.data.toList = some 5) (hok : okName t.text.data.toList = true) (hu : u.kind = 1) : Calls Tryz.prog 166 #[.pointer (some ⟨pb, 0, none⟩), .pointer (some ⟨sb, 0, none⟩)] w (TEnd w B pb sb b line l0 p0 lb (if dirO u.text.data.toList = some 5 then (pVals 5 l2).map fun x => (⟨5, t.text, x.1, ins0⟩, x.2) else none)) := by
  have hsu := h.sz u (by simp)
  obtain ⟨T0, hT0⟩ : ∃ T0, (if dirO u.text.data.toList = some 5 then (pVals 5 l2).map fun x => ((⟨5, t.text, x.1, ins0⟩ : Stm), x.2) else none) = T0 := ⟨_, rfl⟩
  rw [hT0]
  have HT0 := hideIt hT0
  clear hT0
  have HA := hideIt (isAtEnd_any w B pb b line t (u :: l2) h)
  have hd : decide (t.kind = 0) = false := by simp; omega
  rw [hd] at HA
  have hst := h.sz t (by simp)
  have HW := hideIt (word_yes w B pb b line t (u :: l2) h hk1)
  have hpB := h.lt
  have hleB := h.le
  have HBW := hideIt hb
  have HSS := hideIt hS
  obtain ⟨dv, dz, hdv, hdz⟩ : ∃ (dv : Nat) (dz : Bool), dirR (dirO t.text.data.toList) = .tuple #[.int .i64 dv, .bool dz] ∧ (dz = true → dv = 5) := by
    rcases htk with h' | h'
    · rw [h']; exact ⟨0, false, rfl, (fun h => by cases h)⟩
    · rw [h']; exact ⟨5, true, rfl, fun _ => rfl⟩
  have HDV := hideIt hdv
  have HDZ := hideIt hdz
  clear h hb _hI hS hdv hdz
  go_enter Tryz.func166, Tryz.ntmps166
  go_wp2_with fail
  refine HA.out.mono ?_
  rintro e w0 ⟨rfl, hw0⟩
  rw [hw0]
  clear hw0 w0
  go_wp2_with fail
  refine HW.out.mono ?_
  rintro e w1 ⟨rfl, hp1, hg1⟩
  have hbk1 := HBW.out.kept hg1 ha.h1 ha.h2 ha.h3
  have hG1 := Grow2.of1 hg1 sb
  have hS1 := HSS.out.grown (hg1.block sb HSS.out.lt (by simpa using hne)) hg1.size
  have hdr := dir_run w1 b t.text hbk1 (by omega)
  rw [HDV.out] at hdr
  have hhn := hasName_any w1 b t.text hbk1 (by omega)
  rw [hh] at hhn
  unfold bkV at hhn
  have HH := hideIt hhn
  have d0 := hp1.c0
  have d1 := hp1.c1
  have d2 := hp1.c2
  have d3 := hp1.c3
  have HP1 := hideIt hp1
  have HB1 := hideIt hbk1
  have HS1 := hideIt hS1
  clear hp1 hbk1 hS1 hhn
  go_wp2_with fail
  refine HH.out.mono ?_
  rintro e w2 ⟨rfl, hb2⟩
  have hG2 := hG1.trans (Grow2.ofB hb2 _ _)
  have hS2 := HS1.out.grown (hb2.block sb HS1.out.lt) hb2.size
  have hp2 := HP1.out.kept (hb2.mono HP1.out.le)
  have hbk2 := HB1.out.below hb2
  have hcn := checkName_any w2 B pb b line (u :: l2) t.text hp2 hbk2 (by omega)
  rw [ret_of_ok _ _ hok] at hcn
  have HC := hideIt hcn
  have HP2 := hideIt hp2
  have HB2 := hideIt hbk2
  have HS2 := hideIt hS2
  clear hcn hp2 hbk2 hS2
  cases dz with
  | true =>
    have h5 := HDZ.out rfl
    subst h5
    rcases htk with h' | h'
    · rw [h'] at HDV; exact absurd HDV.out (by simp [dirR])
    · have : okName t.text.data.toList = false := by unfold okName; rw [h']; rfl
      rw [this] at hok; cases hok
  | false =>
    go_wp2_with fail
    refine HC.out.mono ?_
    rintro e w3 ⟨rfl, hb3⟩
    have hS3 := HS2.out.grown (hb3.block sb HS2.out.lt) hb3.size
    have s3 := hS3.c3
    have s4 := hS3.c4
    have f3 := hS3.fz 3
    have f4 := hS3.fz 4
    have hsl3 := hS3.lt
    have hS4 := (hS3.task 5).name t.text
    have hbx : Below B w3 ((w3.setCell ⟨sb, 3, none⟩ (.int .i64 5)).setCell ⟨sb, 4, none⟩ (.string t.text)) := ((Below.refl _ _).setCell hB _).setCell hB _
    have hG4 := ((hG2.trans (Grow2.ofB hb3 _ _)).set 3 (.int .i64 5)).set 4 (.string t.text)
    have hp4 := (HP2.out.kept (hb3.mono HP2.out.le)).kept hbx
    have hbk4 := (HB2.out.below hb3).belowB hbx ha.l1 ha.l2 ha.l3
    have H4 := hideIt (And.intro hS4 (And.intro hp4 hbk4))
    have d33 := hp4.c3
    clear hS3 hS4 hbx hp4 hbk4
    go_wp2_with fail
    obtain ⟨W, hW⟩ : ∃ W, (w3.setCell ⟨sb, 3, none⟩ (.int .i64 5)).setCell ⟨sb, 4, none⟩ (.string t.text) = W := ⟨_, rfl⟩
    rw [hW] at H4 hG4 d33 ⊢
    clear hW s3 s4 f3 f4
    have HW4 := hideIt (word_yes W.drew B pb b line u l2 (H4.out.2.1.kept (Below.refl _ _).drew) hu)
    have HBK := hideIt (fun (w4 : World) (hg : W.drew.grownBy w4 (some pb)) => dir_run0 w4 b u.text ((H4.out.2.2.below (Below.refl _ _).drew).kept hg ha.h1 ha.h2 ha.h3) (by omega))
    obtain ⟨dd, hdd⟩ : ∃ dd, (dirO u.text.data.toList).getD 0 = dd := ⟨_, rfl⟩
    rw [hdd] at HBK
    go_region_with (go_at_call 209; refine HW4.out.mono ?_; rintro e w4 ⟨rfl, hp5, hg5⟩; have hlk := HBK.out w4 hg5; have d34 := hp5.c3)
    all_goals
      have hGx := hG4.trans ((Grow2.ofB (Below.refl W.heap.size _).drew pb sb).trans (Grow2.of1 hg5 sb))
      have hsW : sb < W.heap.size := H4.out.1.lt
      have hSx := H4.out.1.grown (hg5.block sb hsW (by simpa using hne)) hg5.size
      have hbkx := (H4.out.2.2.below (Below.refl _ _).drew).kept hg5 ha.h1 ha.h2 ha.h3
      have hpx := hp5
      clear hlk d34 hp5
      by_cases h55 : dd = 5
      · subst h55
        have hd5 : dirO u.text.data.toList = some 5 := by
          cases hq : dirO u.text.data.toList with
          | none => rw [hq] at hdd; cases hdd
          | some z => rw [hq] at hdd; simp at hdd; rw [hdd]
        obtain ⟨R, hRv⟩ : ∃ R, pVals 5 l2 = R := ⟨_, rfl⟩
        have HE0 := hideIt (show T0 = R.map fun x => ((⟨5, t.text, x.1, ins0⟩ : Stm), x.2) by rw [← HT0.out, if_pos hd5, hRv])
        have hrv := readValues_any w4 B pb sb b line l2 hpx hbkx ha (by simp at hn; omega) l0 p0 lb 5 t.text 0 none 0 0 0 hSx hne hB
        rw [hRv] at hrv
        clear hpx hbkx hSx
        cases R with
        | none =>
          have HRV := hideIt hrv
          clear hrv
          go_wp2_with fail
          refine HRV.out.mono ?_
          rintro e w5 ⟨rfl, hg5⟩
          unfold synE
          go_wp2_with fail
          rw [HE0.out]
          exact ⟨rfl, rfl, hGx.trans hg5⟩
        | some x =>
          obtain ⟨es, l3⟩ := x
          have HRV := hideIt hrv
          clear hrv
          go_wp2_with fail
          refine HRV.out.mono ?_
          rintro e w5 ⟨v, rfl, h1, h2, h3, h4⟩
          have HZ := hideIt (And.intro h1 (And.intro h2 (And.intro h3 h4)))
          clear h1 h2 h3 h4
          go_wp2_with fail
          first
            | go_end0
            | refine bodyPost_ret (results_none rfl _ _ _) rfl ?_
          rw [HE0.out]
          obtain ⟨h1, h2, h3, h4⟩ := HZ.out
          exact ⟨v, _, rfl, h1.lower hGx.size, h2, World.ownsRow_nil _ _ _ _, (fun j hj => by cases hj), h3, hGx.trans h4⟩
      · have i5 : ((dd : Int) == 5) = false := by simp; omega
        have hd5 : ¬ dirO u.text.data.toList = some 5 := fun e => by rw [e] at hdd; exact h55 hdd.symm
        have HE0 := hideIt (show T0 = none by rw [← HT0.out, if_neg hd5])
        have HG := hideIt (giveUp_any w4 B pb b line l2 hpx)
        clear hpx hbkx hSx
        go_wp2_with fail
        refine HG.out.mono ?_
        rintro e w5 ⟨rfl, rfl⟩
        unfold synE
        go_wp2_with fail
        rw [HE0.out]
        exact ⟨rfl, rfl, hGx⟩
end Go.Proofs.YthokdbcpkmcieaaGreatDoor
