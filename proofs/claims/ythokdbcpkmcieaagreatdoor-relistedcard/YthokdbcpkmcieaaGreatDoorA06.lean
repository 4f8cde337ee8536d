/- Walks of the parser's checkName and name. The walk of the parser's term. -/
import Derived.Test.YthokdbcpkmcieaaGreatDoorA05
namespace Go.Proofs.YthokdbcpkmcieaaGreatDoor
open Go Go.RowKit Go.Maps Go.WideMaps
/-- May it be a name? -/
def okName (l : List UInt8) : Bool := !(dirO l).isSome && !(fixO l).isSome && !hasN l && l != [80, 67]
/-- The parser's blocks are none of the book's. -/
structure Apart (B pb : Nat) (b : Bk) : Prop where
  l1 : b.cb < B
  l2 : b.fb < B
  l3 : b.db < B
  h1 : b.cb ≠ pb
  h2 : b.fb ≠ pb
  h3 : b.db ≠ pb
def dirR (o : Option Nat) : Value := match o with
  | some x => .tuple #[.int .i64 x, .bool true]
  | none => .tuple #[.int .i64 0, .bool false]
theorem look_dir (o : Option Nat) : lookV true (.int .i64 0) (o.map fun t => .int .i64 t) = dirR o := by cases o <;> rfl
theorem dir_run (w : World) (b : Bk) (s : ByteArray) (h : BookAt w b) (hs : s.size ≤ 1000000) : (Instr.lookup 248 (.map (some b.db)) (.string s) true).run Tryz.prog w = .ok (dirR (dirO s.data.toList)) w := by
  have hkey : keyOf Tryz.prog 9 (.string s) = some (.string s.data.toList) := keyOf_string_mk Tryz.underlying9 (by unfold maxLen; omega)
  rw [h.dirs.look strK Tryz.underlying248 (zeroTask _) hkey true, look_dir]
theorem eq_pc (s : ByteArray) : (s.toList == [80, 67]) = (s.data.toList == [80, 67]) := by
  rw [ByteArray.toList_eq]
set_option maxRecDepth 100000 in
set_option maxHeartbeats 2000000 in
theorem checkName_any (w : World) (B pb : Nat) (b : Bk) (line : Int) (ts : List Tok) (s : ByteArray) (h : PS w B pb b line ts) (hb : BookAt w b) (hs : s.size ≤ 1000000) :
    Calls Tryz.prog 213 #[.pointer (some ⟨pb, 0, none⟩), .string s] w fun e w' => (e = if okName s.data.toList = true then .returned (.string s) else synE line) ∧ Below w.heap.size w w' := by
  have HD := hideIt (dir_run w b s hb hs)
  have HF := hideIt (fixed_any w b s hb hs)
  have HB := hideIt hb
  have HP := hideIt h
  have hdr := dir_run w b s hb hs
  have c0 := h.c0
  have c1 := h.c1
  have c2 := h.c2
  have c3 := h.c3
  have hle := h.le
  have hlt : pb < w.heap.size := Nat.lt_of_lt_of_le h.lt h.le
  unfold bkV at HF
  have hpc := eq_pc s
  clear h hb
  cases hd : dirO s.data.toList with
  | some x =>
    rw [hd] at hdr
    have e1 : okName s.data.toList = false := by unfold okName; rw [hd]; rfl
    rw [e1]
    simp only [dirR] at hdr
    go_enter Tryz.func213, Tryz.ntmps213
    go_wp2_with fail
    refine HF.out.mono ?_
    rintro e w1 ⟨rfl, hb1⟩
    have hz := hb1.size
    obtain ⟨y, z, hy⟩ : ∃ y z, fixR (fixO s.data.toList) = .tuple #[fixV y, .bool z] := by
      cases fixO s.data.toList with
      | none => exact ⟨_, _, rfl⟩
      | some y => exact ⟨_, _, rfl⟩
    rw [hy]
    simp only [fixV]
    go_wp2_with fail
    refine (giveUp_any _ B pb b line ts ((HP.out.kept (hb1.mono hle)).kept ((Below.refl _ _).alloc (Nat.le_trans hle hz) _))).mono ?_
    rintro e w2 ⟨rfl, rfl⟩
    unfold synE
    go_wp2_with fail
    exact ⟨rfl, by simp [synE], hb1.alloc hz _⟩
  | none =>
    rw [hd] at hdr
    simp only [dirR] at hdr
    have HH := hideIt (fun (w' : World) (hbw : Below w.heap.size w w') => hasName_any w' b s (HB.out.below hbw) hs)
    unfold bkV at HH
    cases hf : fixO s.data.toList with
    | some y =>
      obtain ⟨y1, y2⟩ := y
      have e1 : okName s.data.toList = false := by unfold okName; rw [hd, hf]; rfl
      rw [e1]
      rw [hf] at HF
      simp only [fixR, fixV] at HF
      go_enter Tryz.func213, Tryz.ntmps213
      go_wp2_with fail
      refine HF.out.mono ?_
      rintro e w1 ⟨rfl, hb1⟩
      have hz := hb1.size
      go_wp2_with fail
      refine (giveUp_any _ B pb b line ts ((HP.out.kept (hb1.mono hle)).kept ((Below.refl _ _).alloc (Nat.le_trans hle hz) _))).mono ?_
      rintro e w2 ⟨rfl, rfl⟩
      unfold synE
      go_wp2_with fail
      exact ⟨rfl, by simp [synE], hb1.alloc hz _⟩
    | none =>
      rw [hf] at HF
      simp only [fixR, fixV] at HF
      cases hh : hasN s.data.toList with
      | true =>
        have e1 : okName s.data.toList = false := by unfold okName; rw [hd, hf, hh]; rfl
        rw [e1]
        rw [hh] at HH
        go_enter Tryz.func213, Tryz.ntmps213
        go_wp2_with fail
        refine HF.out.mono ?_
        rintro e w1 ⟨rfl, hb1⟩
        have hz := hb1.size
        have hp1 := (HP.out.kept (hb1.mono hle)).kept ((Below.refl _ _).alloc (Nat.le_trans hle hz) (.cells #[.int .i64 0, .int .i64 0] 324))
        have d0 := hp1.c0
        have d1 := hp1.c1
        have d2 := hp1.c2
        have H1 := hideIt hp1
        have hb1' := hb1.alloc hz (.cells #[.int .i64 0, .int .i64 0] 324)
        clear hp1
        go_wp2_with fail
        refine (HH.out _ hb1').mono ?_
        rintro e w2 ⟨rfl, hb2⟩
        go_wp2_with fail
        refine (giveUp_any _ B pb b line ts (H1.out.kept (hb2.mono H1.out.le))).mono ?_
        rintro e w3 ⟨rfl, rfl⟩
        unfold synE
        go_wp2_with fail
        exact ⟨rfl, by simp [synE], hb1'.trans (hb2.mono hb1'.size)⟩
      | false =>
        rw [hh] at HH
        cases hq : (s.data.toList == [80, 67]) with
        | true =>
          have e1 : okName s.data.toList = false := by unfold okName; rw [hd, hf, hh, bne, hq]; rfl
          rw [e1]
          rw [hq] at hpc
          go_enter Tryz.func213, Tryz.ntmps213
          go_wp2_with fail
          refine HF.out.mono ?_
          rintro e w1 ⟨rfl, hb1⟩
          have hz := hb1.size
          have hp1 := (HP.out.kept (hb1.mono hle)).kept ((Below.refl _ _).alloc (Nat.le_trans hle hz) (.cells #[.int .i64 0, .int .i64 0] 324))
          have d0 := hp1.c0
          have d1 := hp1.c1
          have d2 := hp1.c2
          have H1 := hideIt hp1
          have hb1' := hb1.alloc hz (.cells #[.int .i64 0, .int .i64 0] 324)
          clear hp1
          go_wp2_with fail
          refine (HH.out _ hb1').mono ?_
          rintro e w2 ⟨rfl, hb2⟩
          go_wp2_with fail
          refine (giveUp_any _ B pb b line ts (H1.out.kept (hb2.mono H1.out.le))).mono ?_
          rintro e w3 ⟨rfl, rfl⟩
          unfold synE
          go_wp2_with fail
          exact ⟨rfl, by simp [synE], hb1'.trans (hb2.mono hb1'.size)⟩
        | false =>
          have e1 : okName s.data.toList = true := by unfold okName; rw [hd, hf, hh, bne, hq]; rfl
          rw [e1]
          rw [hq] at hpc
          go_enter Tryz.func213, Tryz.ntmps213
          go_wp2_with fail
          refine HF.out.mono ?_
          rintro e w1 ⟨rfl, hb1⟩
          have hz := hb1.size
          have hp1 := (HP.out.kept (hb1.mono hle)).kept ((Below.refl _ _).alloc (Nat.le_trans hle hz) (.cells #[.int .i64 0, .int .i64 0] 324))
          have d0 := hp1.c0
          have d1 := hp1.c1
          have d2 := hp1.c2
          have H1 := hideIt hp1
          have hb1' := hb1.alloc hz (.cells #[.int .i64 0, .int .i64 0] 324)
          clear hp1
          go_wp2_with fail
          refine (HH.out _ hb1').mono ?_
          rintro e w2 ⟨rfl, hb2⟩
          go_wp2_with fail
          go_ret
          exact ⟨by simp, hb1'.trans (hb2.mono hb1'.size)⟩
theorem ret_of_ok (s : ByteArray) (line : Int) (h : okName s.data.toList = true) : (if okName s.data.toList = true then Ending.returned (.string s) else synE line) = .returned (.string s) := by rw [if_pos h]
theorem ret_of_bad (s : ByteArray) (line : Int) (h : okName s.data.toList = false) : (if okName s.data.toList = true then Ending.returned (.string s) else synE line) = synE line := by rw [if_neg (by simp [h])]
set_option maxRecDepth 100000 in
set_option maxHeartbeats 1000000 in
/-- A name is read. -/
theorem name_yes (w : World) (B pb : Nat) (b : Bk) (line : Int) (t : Tok) (l : List Tok) (h : PS w B pb b line (t :: l)) (hb : BookAt w b) (ha : Apart B pb b) (hs : t.text.size ≤ 1000000) (hk : t.kind = 1) (ho : okName t.text.data.toList = true) :
    Calls Tryz.prog 207 #[.pointer (some ⟨pb, 0, none⟩)] w fun e w' => e = .returned (.string t.text) ∧ PS w' B pb b line l ∧ w.grownBy w' (some pb) := by
  have HW := hideIt (word_yes w B pb b line t l h hk)
  have HB := hideIt hb
  clear h hb
  go_enter Tryz.func207, Tryz.ntmps207
  go_wp2_with fail
  refine HW.out.mono ?_
  rintro e w1 ⟨rfl, hp1, hg1⟩
  have hc := checkName_any w1 B pb b line l t.text hp1 (HB.out.kept hg1 ha.h1 ha.h2 ha.h3) hs
  rw [ret_of_ok _ _ ho] at hc
  have HC := hideIt hc
  have HP := hideIt hp1
  clear hc hp1
  go_wp2_with fail
  refine HC.out.mono ?_
  rintro e w2 ⟨rfl, hb2⟩
  go_wp2_with fail
  go_ret
  exact ⟨rfl, HP.out.kept (hb2.mono HP.out.le), grown_trans hg1 (grown_of_below hb2)⟩
set_option maxRecDepth 100000 in
set_option maxHeartbeats 1000000 in
theorem name_no (w : World) (B pb : Nat) (b : Bk) (line : Int) (t : Tok) (l : List Tok) (h : PS w B pb b line (t :: l)) (hb : BookAt w b) (ha : Apart B pb b) (hs : t.text.size ≤ 1000000) (hn : t.kind ≠ 1 ∨ okName t.text.data.toList = false) :
    Calls Tryz.prog 207 #[.pointer (some ⟨pb, 0, none⟩)] w fun e w' => e = synE line ∧ w.grownBy w' (some pb) := by
  by_cases hk : t.kind = 1
  · have ho : okName t.text.data.toList = false := by
      rcases hn with h' | h'
      · exact absurd hk h'
      · exact h'
    have HW := hideIt (word_yes w B pb b line t l h hk)
    have HB := hideIt hb
    clear h hb
    go_enter Tryz.func207, Tryz.ntmps207
    go_wp2_with fail
    refine HW.out.mono ?_
    rintro e w1 ⟨rfl, hp1, hg1⟩
    have hc := checkName_any w1 B pb b line l t.text hp1 (HB.out.kept hg1 ha.h1 ha.h2 ha.h3) hs
    rw [ret_of_bad _ _ ho] at hc
    have HC := hideIt hc
    clear hc hp1
    go_wp2_with fail
    refine HC.out.mono ?_
    rintro e w2 ⟨rfl, hb2⟩
    unfold synE
    go_wp2_with fail
    exact ⟨rfl, rfl, grown_trans hg1 (grown_of_below hb2)⟩
  · have HW := hideIt (word_no w B pb b line t l h hk)
    clear h
    go_enter Tryz.func207, Tryz.ntmps207
    go_wp2_with fail
    refine HW.out.mono ?_
    rintro e w1 ⟨rfl, rfl⟩
    unfold synE
    go_wp2_with fail
    exact ⟨rfl, rfl, ⟨rfl, rfl, rfl, Nat.le_refl _, fun _ _ _ => rfl⟩⟩
end Go.Proofs.YthokdbcpkmcieaaGreatDoor
namespace Go.Proofs.YthokdbcpkmcieaaGreatDoor
open Go Go.RowKit Go.Maps Go.WideMaps
structure Trm where
  minus : Bool
  name : ByteArray
  here : Bool
  num : Int
def Trm.cells (t : Trm) : List Value := [.bool t.minus, .string t.name, .bool t.here, .int .i64 t.num]
def trmV (t : Trm) : Value := .agg #[.bool t.minus, .string t.name, .bool t.here, .int .i64 t.num]
def pTerm : List Tok → Option (Trm × List Tok)
  | [] => none
  | t :: l =>
    if t.text = ⟨#[36]⟩ then some (⟨false, ⟨#[]⟩, true, 0⟩, l)
    else if t.kind = 2 then some (⟨false, ⟨#[]⟩, false, t.num⟩, l)
    else if t.kind = 1 ∧ okName t.text.data.toList = true then some (⟨false, t.text, false, 0⟩, l)
    else none
/-- What a step of the parser that may give up comes to. -/
def PEnd {α : Type} (w : World) (B pb : Nat) (b : Bk) (line : Int) (val : α → Value) (o : Option (α × List Tok)) (e : Ending) (w' : World) : Prop :=
  match o with
  | some (x, l) => e = .returned (val x) ∧ PS w' B pb b line l ∧ w.grownBy w' (some pb)
  | none => e = synE line ∧ w.grownBy w' (some pb)
theorem last_kind {t : Tok} {l : List Tok} (h : (t :: l).getLast? = some endT) (hne : t.kind ≠ 0) : l ≠ [] := by
  intro e
  subst e
  simp at h
  subst h
  exact hne rfl
theorem grown_refl (w : World) (r : Option Nat) : w.grownBy w r := ⟨rfl, rfl, rfl, Nat.le_refl _, fun _ _ _ => rfl⟩
theorem grown_cell {w w1 : World} {r : Nat} (hg : w.grownBy w1 (some r)) (a : Addr) (h : a.block < w.heap.size) (hne : a.block ≠ r) : w1.cell? a = w.cell? a := World.cell?_of_block (hg.block a.block h (by simpa using hne))
theorem grown_frozen {w w1 : World} {r : Nat} (hg : w.grownBy w1 (some r)) (a : Addr) (h : a.block < w.heap.size) (hne : a.block ≠ r) : w1.frozen? a = w.frozen? a := World.frozen?_of_block (hg.block a.block h (by simpa using hne))
theorem grown_fresh {w w1 : World} {r : Option Nat} (hg : w.grownBy w1 r) {a : Addr} (h : w.heap.size ≤ a.block) (v : Value) : w.grownBy (w1.setCell a v) r :=
  ⟨hg.os, hg.tape, hg.output, by simpa [World.setCell] using hg.size, fun k hk hne => by rw [Below.heap_setCell _ _ _ _ (by omega)]; exact hg.block k hk hne⟩
theorem grown_alloc {w w1 : World} {r : Option Nat} (hg : w.grownBy w1 r) (o : Obj) : w.grownBy (w1.alloc o) r :=
  ⟨hg.os, hg.tape, hg.output, Nat.le_trans hg.size (by simp), fun k hk hne => by rw [Below.heap_alloc _ _ _ (Nat.lt_of_lt_of_le hk hg.size)]; exact hg.block k hk hne⟩
theorem _root_.Go.World.grownBy.trans2 {w w1 w2 : World} {r : Option Nat} (h : w.grownBy w1 r) (k : w1.grownBy w2 r) : w.grownBy w2 r :=
  ⟨k.os.trans h.os, k.tape.trans h.tape, k.output.trans h.output, Nat.le_trans h.size k.size, fun i hi hb => (k.block i (Nat.lt_of_lt_of_le hi h.size) hb).trans (h.block i hi hb)⟩
set_option maxRecDepth 100000 in
set_option maxHeartbeats 2000000 in
theorem term_any (w : World) (B pb : Nat) (b : Bk) (line : Int) (ts : List Tok) (h : PS w B pb b line ts) (hb : BookAt w b) (ha : Apart B pb b) :
    Calls Tryz.prog 280 #[.pointer (some ⟨pb, 0, none⟩)] w (PEnd w B pb b line trmV (pTerm ts)) := by
  obtain ⟨t, l, rfl⟩ := h.ne
  have hbw : ∀ ob, Below w.heap.size w (w.alloc ob) := fun ob => (Below.refl _ _).alloc (Nat.le_refl _) _
  have HLE := hideIt h.le
  have hlt : pb < w.heap.size := Nat.lt_of_lt_of_le h.lt h.le
  have hpk : ∀ ob, PS (w.alloc ob) B pb b line (t :: l) := fun ob => h.kept ((hbw ob).mono h.le)
  have HW := hideIt hbw
  by_cases h1 : t.text = ⟨#[36]⟩
  · have e : pTerm (t :: l) = some (⟨false, ⟨#[]⟩, true, 0⟩, l) := by simp only [pTerm]; rw [if_pos h1]
    rw [e]
    have HS := hideIt (fun ob => skip_yes (w.alloc ob) B pb b line t l ⟨#[36]⟩ (hpk ob) h1 (by decide))
    clear h e hbw hpk
    go_enter Tryz.func280, Tryz.ntmps280
    go_wp2_with fail
    refine (HS.out _).mono ?_
    rintro e w1 ⟨rfl, hp1, hg1⟩
    have HP := hideIt hp1
    have hz := hg1.size
    have q0 : w1.cell? ⟨w.heap.size, 0, none⟩ = some (.bool false) := by rw [grown_cell hg1 _ (by simp) (by simp; omega)]; simp
    have q1 : w1.cell? ⟨w.heap.size, 1, none⟩ = some (.string ⟨#[]⟩) := by rw [grown_cell hg1 _ (by simp) (by simp; omega)]; simp
    have q2 : w1.cell? ⟨w.heap.size, 2, none⟩ = some (.bool false) := by rw [grown_cell hg1 _ (by simp) (by simp; omega)]; simp
    have q3 : w1.cell? ⟨w.heap.size, 3, none⟩ = some (.int .i64 0) := by rw [grown_cell hg1 _ (by simp) (by simp; omega)]; simp
    have f0 : w1.frozen? ⟨w.heap.size, 0, none⟩ = false := by rw [grown_frozen hg1 _ (by simp) (by simp; omega)]; simp
    have f1 : w1.frozen? ⟨w.heap.size, 1, none⟩ = false := by rw [grown_frozen hg1 _ (by simp) (by simp; omega)]; simp
    have f2 : w1.frozen? ⟨w.heap.size, 2, none⟩ = false := by rw [grown_frozen hg1 _ (by simp) (by simp; omega)]; simp
    have f3 : w1.frozen? ⟨w.heap.size, 3, none⟩ = false := by rw [grown_frozen hg1 _ (by simp) (by simp; omega)]; simp
    have hzz : w.heap.size < w1.heap.size := by simp at hz; omega
    clear hp1
    go_wp2_with fail
    refine bodyPost_ret (v := trmV ⟨false, ⟨#[]⟩, true, 0⟩) (by simp [results, Tryz.results280, go_sem, trmV, q0, q1, q2, q3]) rfl ⟨rfl, ?_, ?_⟩
    · have hle := HP.out.le
      refine HP.out.kept ?_
      repeat (first | exact Below.refl _ _ | refine Below.setCell ?_ (by simpa using HLE.out) _)
    · repeat (first | exact (grown_of_below (HW.out _)).trans2 hg1 | refine grown_fresh ?_ (by simp) _)
  · have HS := hideIt (fun ob => skip_no (w.alloc ob) B pb b line t l ⟨#[36]⟩ (hpk ob) h1)
    obtain ⟨g, off, cap, k1, k2, k2', k3, k4, k5'⟩ := h.tk
    have k5 : g < w.heap.size := Nat.lt_of_lt_of_le k5' h.le
    have t0 := k3.1
    have hp : (0 : Int) < (l.length : Int) + 1 := by omega
    have hfd := tok_num
    by_cases h2 : t.kind = 2
    · have e : pTerm (t :: l) = some (⟨false, ⟨#[]⟩, false, t.num⟩, l) := by simp only [pTerm]; rw [if_neg h1, if_pos h2]
      rw [e]
      have HN := hideIt (fun ob => next_any (w.alloc ob) B pb b line t l (hpk ob) (last_kind h.last (by omega)))
      unfold tokV at HN
      have i2 : ((t.kind : Int) == 2) = true := by simp [h2]
      clear h e hbw hpk
      go_enter Tryz.func280, Tryz.ntmps280
      go_wp2_with fail
      refine (HS.out _).mono ?_
      rintro e w0 ⟨rfl, hw0⟩
      rw [hw0]
      clear hw0 w0
      go_wp2_with fail
      refine (HN.out _).mono ?_
      rintro e w1 ⟨rfl, hp1, hg1⟩
      have HP := hideIt hp1
      have hz := hg1.size
      have q0 : w1.cell? ⟨w.heap.size, 0, none⟩ = some (.bool false) := by rw [grown_cell hg1 _ (by simp) (by simp; omega)]; simp
      have q1 : w1.cell? ⟨w.heap.size, 1, none⟩ = some (.string ⟨#[]⟩) := by rw [grown_cell hg1 _ (by simp) (by simp; omega)]; simp
      have q2 : w1.cell? ⟨w.heap.size, 2, none⟩ = some (.bool false) := by rw [grown_cell hg1 _ (by simp) (by simp; omega)]; simp
      have q3 : w1.cell? ⟨w.heap.size, 3, none⟩ = some (.int .i64 0) := by rw [grown_cell hg1 _ (by simp) (by simp; omega)]; simp
      have f0 : w1.frozen? ⟨w.heap.size, 0, none⟩ = false := by rw [grown_frozen hg1 _ (by simp) (by simp; omega)]; simp
      have f1 : w1.frozen? ⟨w.heap.size, 1, none⟩ = false := by rw [grown_frozen hg1 _ (by simp) (by simp; omega)]; simp
      have f2 : w1.frozen? ⟨w.heap.size, 2, none⟩ = false := by rw [grown_frozen hg1 _ (by simp) (by simp; omega)]; simp
      have f3 : w1.frozen? ⟨w.heap.size, 3, none⟩ = false := by rw [grown_frozen hg1 _ (by simp) (by simp; omega)]; simp
      have hzz : w.heap.size < w1.heap.size := by simp at hz; omega
      clear hp1
      go_wp2_with fail
      refine bodyPost_ret (v := trmV ⟨false, ⟨#[]⟩, false, t.num⟩) (by simp [results, Tryz.results280, go_sem, trmV, q0, q1, q2, q3]) rfl ⟨rfl, ?_, ?_⟩
      · have hle := HP.out.le
        refine HP.out.kept ?_
        repeat (first | exact Below.refl _ _ | refine Below.setCell ?_ (by simpa using HLE.out) _)
      · repeat (first | exact (grown_of_below (HW.out _)).trans2 hg1 | refine grown_fresh ?_ (by simp) _)
    · have i2 : ((t.kind : Int) == 2) = false := by simp; omega
      have hsz : t.text.size ≤ 1000000 := Nat.le_trans (h.sz t (by simp)) (by omega)
      by_cases h3 : t.kind = 1 ∧ okName t.text.data.toList = true
      · have e : pTerm (t :: l) = some (⟨false, t.text, false, 0⟩, l) := by simp only [pTerm]; rw [if_neg h1, if_neg h2, if_pos h3]
        rw [e]
        have HN := hideIt (fun ob => name_yes (w.alloc ob) B pb b line t l (hpk ob) (hb.below (hbw ob)) ha hsz h3.1 h3.2)
        clear h e hbw hpk
        go_enter Tryz.func280, Tryz.ntmps280
        go_wp2_with fail
        refine (HS.out _).mono ?_
        rintro e w0 ⟨rfl, hw0⟩
        rw [hw0]
        clear hw0 w0
        go_wp2_with fail
        refine (HN.out _).mono ?_
        rintro e w1 ⟨rfl, hp1, hg1⟩
        have HP := hideIt hp1
        have hz := hg1.size
        have q0 : w1.cell? ⟨w.heap.size, 0, none⟩ = some (.bool false) := by rw [grown_cell hg1 _ (by simp) (by simp; omega)]; simp
        have q1 : w1.cell? ⟨w.heap.size, 1, none⟩ = some (.string ⟨#[]⟩) := by rw [grown_cell hg1 _ (by simp) (by simp; omega)]; simp
        have q2 : w1.cell? ⟨w.heap.size, 2, none⟩ = some (.bool false) := by rw [grown_cell hg1 _ (by simp) (by simp; omega)]; simp
        have q3 : w1.cell? ⟨w.heap.size, 3, none⟩ = some (.int .i64 0) := by rw [grown_cell hg1 _ (by simp) (by simp; omega)]; simp
        have f0 : w1.frozen? ⟨w.heap.size, 0, none⟩ = false := by rw [grown_frozen hg1 _ (by simp) (by simp; omega)]; simp
        have f1 : w1.frozen? ⟨w.heap.size, 1, none⟩ = false := by rw [grown_frozen hg1 _ (by simp) (by simp; omega)]; simp
        have f2 : w1.frozen? ⟨w.heap.size, 2, none⟩ = false := by rw [grown_frozen hg1 _ (by simp) (by simp; omega)]; simp
        have f3 : w1.frozen? ⟨w.heap.size, 3, none⟩ = false := by rw [grown_frozen hg1 _ (by simp) (by simp; omega)]; simp
        have hzz : w.heap.size < w1.heap.size := by simp at hz; omega
        clear hp1
        go_wp2_with fail
        refine bodyPost_ret (v := trmV ⟨false, t.text, false, 0⟩) (by simp [results, Tryz.results280, go_sem, trmV, q0, q1, q2, q3]) rfl ⟨rfl, ?_, ?_⟩
        · have hle := HP.out.le
          refine HP.out.kept ?_
          repeat (first | exact Below.refl _ _ | refine Below.setCell ?_ (by simpa using HLE.out) _)
        · repeat (first | exact (grown_of_below (HW.out _)).trans2 hg1 | refine grown_fresh ?_ (by simp) _)
      · have e : pTerm (t :: l) = none := by simp only [pTerm]; rw [if_neg h1, if_neg h2, if_neg h3]
        rw [e]
        have hn : t.kind ≠ 1 ∨ okName t.text.data.toList = false := by
          by_cases hk : t.kind = 1
          · right
            cases ho : okName t.text.data.toList with
            | true => exact absurd ⟨hk, ho⟩ h3
            | false => rfl
          · exact .inl hk
        have HN := hideIt (fun ob => name_no (w.alloc ob) B pb b line t l (hpk ob) (hb.below (hbw ob)) ha hsz hn)
        clear h e hbw hpk
        go_enter Tryz.func280, Tryz.ntmps280
        go_wp2_with fail
        refine (HS.out _).mono ?_
        rintro e w0 ⟨rfl, hw0⟩
        rw [hw0]
        clear hw0 w0
        go_wp2_with fail
        refine (HN.out _).mono ?_
        rintro e w1 ⟨rfl, hg1⟩
        unfold synE
        go_wp2_with fail
        exact ⟨rfl, rfl, (grown_of_below (HW.out _)).trans2 hg1⟩
end Go.Proofs.YthokdbcpkmcieaaGreatDoor
