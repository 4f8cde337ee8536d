/- The book's entries as keys; walks of lookedUp and newEntry. The walk of Find. An instruction's operands in memory: their kinds and their expressions; one operand more. -/
import Derived.Test.YthokdbcpkmcieaaGreatDoorA05
import Derived.DeepKeys4
import Derived.Test.YthokdbcpkmcieaaGreatDoorA07
import Derived.Deep.DeepCutAuto
import Derived.Test.YthokdbcpkmcieaaGreatDoorA10
namespace Go.Proofs.YthokdbcpkmcieaaGreatDoor
open Go Go.RowKit Go.Maps Go.WideMaps
/-- An entry, as a value. -/
def entV (s : ByteArray) (n a b c : Int) : Value := .agg #[.string s, .int .i64 n, .int .i64 a, .int .i64 b, .int .i64 c]
/-- .. as a key's bytes. -/
def entK (s : ByteArray) (n a b c : Int) : List UInt8 := keyBytes [.string s.data.toList, .int .i64 n, .int .i64 a, .int .i64 b, .int .i64 c]
theorem Tryz.laidOut : laidOutB Tryz.prog = true := by kernel_rfl
theorem Tryz.entRow : 292 < Tryz.prog.types.size := by decide +kernel
theorem Tryz.entTy3 : Tryz.prog.keyTypeAt 3 292 = true := by kernel_rfl
theorem entLaw : KeyLaw Tryz.prog 292 := deep_law_laid Tryz.laidOut (m := 3) (Nat.le_of_ble_eq_true rfl) Tryz.entRow Tryz.entTy3 (by kernel_rfl)
theorem entKeyed : Keyed Tryz.prog 292 := Keyed.of_law entLaw
theorem small_wf (n : Int) (h0 : 0 ≤ n) (h1 : n ≤ 1000000) : (Lit.int .i64 n).wf = true := WalkArith.wf_i64 (by omega)
/-- What such a struct reads as, as a key, whatever the program. -/
theorem entKey_of {P : Program} {E S I A K : TypeId} {f0 f1 f2 : Field} {N : Nat} (hN : P.types.size = N + 4) (hT : P.keyType E = true) (uE : P.underlying E = some (.struct #[f0, f1, f2])) (e0 : f0.type = S) (e1 : f1.type = I) (e2 : f2.type = A) (o0 : f0.offset = 0) (o1 : f1.offset = 1) (o2 : f2.offset = 2)
    (n0 : (f0.name != "_") = true) (n1 : (f1.name != "_") = true) (n2 : (f2.name != "_") = true) (uS : P.underlying S = some .string) (uI : P.underlying I = some (.int .i64)) (uA : P.underlying A = some (.array 3 K)) (uK : P.underlying K = some (.int .i64))
    (cE : P.cellsOf E = 5) (cS : P.cellsOf S = 1) (cI : P.cellsOf I = 1) (cA : P.cellsOf A = 3) (cK : P.cellsOf K = 1)
    (s : ByteArray) (n a b c : Int) (hs : s.size ≤ 1000000) (hn : (Lit.int .i64 n).wf = true) (ha : (Lit.int .i64 a).wf = true) (hb : (Lit.int .i64 b).wf = true) (hc : (Lit.int .i64 c).wf = true) : keyOf P E (entV s n a b c) = some (.string (entK s n a b c)) := by
  have hsz : s.size ≤ maxLen := by unfold maxLen; omega
  unfold keyOf
  rw [uE]
  simp only [hT, hN, Value.formed, uE, entV, Value.cells, Program.keyLits, cE]
  simp [e0, e1, e2, o0, o1, o2, n0, n1, n2, uS, uI, uA, uK, cS, cI, cA, cK, hsz, hn, ha, hb, hc, entK, List.range, List.range.loop]
theorem Tryz.entType : Tryz.prog.keyType 292 = true := by kernel_rfl
theorem Tryz.entN : Tryz.prog.types.size = Tryz.prog.types.size - 4 + 4 := (Nat.sub_add_cancel (Nat.le_trans (by decide) (Nat.le_of_lt Tryz.entRow))).symm
theorem entKey (s : ByteArray) (n a b c : Int) (hs : s.size ≤ 1000000) (hn : (Lit.int .i64 n).wf = true) (ha : (Lit.int .i64 a).wf = true) (hb : (Lit.int .i64 b).wf = true) (hc : (Lit.int .i64 c).wf = true) : keyOf Tryz.prog 292 (entV s n a b c) = some (.string (entK s n a b c)) :=
  entKey_of Tryz.entN Tryz.entType Tryz.underlying292 rfl rfl rfl rfl rfl rfl (by decide) (by decide) (by decide) Tryz.underlying9 Tryz.underlying3 Tryz.underlying290 Tryz.underlying111 (by kernel_rfl) (by kernel_rfl) (by kernel_rfl) (by kernel_rfl) (by kernel_rfl) s n a b c hs hn ha hb hc
/-- The kind under which an operand is looked up. -/
def lkN (k : Nat) : Nat := if k = 10 then 9 else if k = 12 ∨ k = 14 ∨ k = 15 ∨ k = 16 then 11 else k
set_option maxRecDepth 100000 in
set_option maxHeartbeats 1000000 in
theorem lookedUp_any (k : Nat) (w : World) :
    Calls Tryz.prog 243 #[.int .i64 k] w fun e w' => e = .returned (.int .i64 (lkN k : Nat)) ∧ w' = w := by
  by_cases h10 : k = 10
  · subst h10
    go_enter Tryz.func243, Tryz.ntmps243
    go_wp2
    go_ret
    exact ⟨rfl, rfl⟩
  · have i10 : ((k : Int) == 10) = false := by simp; omega
    by_cases h12 : k = 12
    · subst h12
      go_enter Tryz.func243, Tryz.ntmps243
      go_wp2
      go_ret
      exact ⟨rfl, rfl⟩
    · have i12 : ((k : Int) == 12) = false := by simp; omega
      by_cases h14 : k = 14
      · subst h14
        go_enter Tryz.func243, Tryz.ntmps243
        go_wp2
        go_ret
        exact ⟨rfl, rfl⟩
      · have i14 : ((k : Int) == 14) = false := by simp; omega
        by_cases h15 : k = 15
        · subst h15
          go_enter Tryz.func243, Tryz.ntmps243
          go_wp2
          go_ret
          exact ⟨rfl, rfl⟩
        · have i15 : ((k : Int) == 15) = false := by simp; omega
          by_cases h16 : k = 16
          · subst h16
            go_enter Tryz.func243, Tryz.ntmps243
            go_wp2
            go_ret
            exact ⟨rfl, rfl⟩
          · have i16 : ((k : Int) == 16) = false := by simp; omega
            have e : lkN k = k := by unfold lkN; rw [if_neg h10, if_neg (by omega)]
            rw [e]
            go_enter Tryz.func243, Tryz.ntmps243
            go_wp2
            go_ret
            exact ⟨rfl, rfl⟩
def kindCells (ks : List Nat) : List Value := ks.map fun k => .int .i64 (k : Nat)
/-- The entry of a name and its operands' kinds. -/
def entOf (s : ByteArray) (ks : List Nat) : Value := entV s ks.length (match ks[0]? with | some k => (lkN k : Nat) | none => 0) (match ks[1]? with | some k => (lkN k : Nat) | none => 0) (match ks[2]? with | some k => (lkN k : Nat) | none => 0)
set_option maxRecDepth 100000 in
set_option maxHeartbeats 2000000 in
theorem newEntry_any (s : ByteArray) (base : Nat) (v : Value) (ks : List Nat) (w : World) (hk : ks.length ≤ 3) (hrow : w.ownsRow base 111 1 v ks.length (kindCells ks)) :
    Calls Tryz.prog 201 #[.string s, v] w fun e w' => e = .returned (entOf s ks) ∧ Below w.heap.size w w' := by
  have HL := hideIt lookedUp_any
  match ks, hk with
  | [], _ =>
    obtain ⟨a, cap, rfl⟩ : ∃ a cap, v = .slice a 0 cap := by
      obtain ⟨_, ⟨rfl, _⟩ | ⟨g, cap, cur, rfl, _⟩⟩ := hrow
      · exact ⟨none, 0, rfl⟩
      · exact ⟨_, _, rfl⟩
    go_enter Tryz.func201, Tryz.ntmps201
    go_wp2_with fail
    refine wp_loop_rounds 1 ?_
    rw [rounds_succ]
    go_wp2_with fail
    refine bodyPost_ret (v := entOf s []) (by simp [results, Tryz.results201, go_sem, entOf, entV]) rfl ⟨rfl, ?_⟩
    exact ((Below.refl _ _).alloc (Nat.le_refl _) _).alloc (by simp) _
  | [a], _ =>
    obtain ⟨g, cap, rfl⟩ : ∃ g cap, v = .slice (some ⟨g, 0, none⟩) 1 cap := by
      obtain ⟨_, ⟨_, h'⟩ | ⟨g, cap, cur, rfl, _⟩⟩ := id hrow
      · simp at h'
      · exact ⟨_, _, rfl⟩
    have hgl := (hrow.lt g rfl).2
    have k0 : w.cell? ⟨g, 0, none⟩ = some (.int .i64 (a : Nat)) := by rw [hrow.cellAt 0 (by simp)]; rfl
    obtain ⟨x0, hx0⟩ : ∃ x, lkN a = x := ⟨_, rfl⟩
    have HL0 := hideIt (fun w => show Calls Tryz.prog 243 #[.int .i64 (a : Nat)] w fun e w' => e = .returned (.int .i64 (x0 : Nat)) ∧ w' = w by rw [← hx0]; exact HL.out a w)
    have he : entOf s [a] = entV s 1 x0 0 0 := by simp only [entOf, List.getElem?_cons_zero, List.getElem?_cons_succ, List.getElem?_nil, List.length_cons, List.length_nil, hx0]; rfl
    rw [he]
    clear hrow he hx0
    go_enter Tryz.func201, Tryz.ntmps201
    go_wp2_with fail
    refine wp_loop_rounds 2 ?_
    rw [rounds_succ]
    go_wp2_with fail
    refine (HL0.out _).mono ?_
    rintro e w1 ⟨rfl, rfl⟩
    go_wp2_with fail
    rw [rounds_succ]
    go_wp2_with fail
    refine bodyPost_ret (v := entV s 1 x0 0 0) (by simp [results, Tryz.results201, go_sem, entV]) rfl ⟨rfl, ?_⟩
    exact ((Below.refl _ _).alloc (Nat.le_refl _) _).alloc (by simp) _
  | [a, b], _ =>
    obtain ⟨g, cap, rfl⟩ : ∃ g cap, v = .slice (some ⟨g, 0, none⟩) 2 cap := by
      obtain ⟨_, ⟨_, h'⟩ | ⟨g, cap, cur, rfl, _⟩⟩ := id hrow
      · simp at h'
      · exact ⟨_, _, rfl⟩
    have hgl := (hrow.lt g rfl).2
    have k0 : w.cell? ⟨g, 0, none⟩ = some (.int .i64 (a : Nat)) := by rw [hrow.cellAt 0 (by simp)]; rfl
    obtain ⟨x0, hx0⟩ : ∃ x, lkN a = x := ⟨_, rfl⟩
    have HL0 := hideIt (fun w => show Calls Tryz.prog 243 #[.int .i64 (a : Nat)] w fun e w' => e = .returned (.int .i64 (x0 : Nat)) ∧ w' = w by rw [← hx0]; exact HL.out a w)
    have k1 : w.cell? ⟨g, 1, none⟩ = some (.int .i64 (b : Nat)) := by rw [hrow.cellAt 1 (by simp)]; rfl
    obtain ⟨x1, hx1⟩ : ∃ x, lkN b = x := ⟨_, rfl⟩
    have HL1 := hideIt (fun w => show Calls Tryz.prog 243 #[.int .i64 (b : Nat)] w fun e w' => e = .returned (.int .i64 (x1 : Nat)) ∧ w' = w by rw [← hx1]; exact HL.out b w)
    have he : entOf s [a, b] = entV s 2 x0 x1 0 := by simp only [entOf, List.getElem?_cons_zero, List.getElem?_cons_succ, List.getElem?_nil, List.length_cons, List.length_nil, hx0, hx1]; rfl
    rw [he]
    clear hrow he hx0 hx1
    go_enter Tryz.func201, Tryz.ntmps201
    go_wp2_with fail
    refine wp_loop_rounds 3 ?_
    rw [rounds_succ]
    go_wp2_with fail
    refine (HL0.out _).mono ?_
    rintro e w1 ⟨rfl, rfl⟩
    go_wp2_with fail
    rw [rounds_succ]
    go_wp2_with fail
    refine (HL1.out _).mono ?_
    rintro e w1 ⟨rfl, rfl⟩
    go_wp2_with fail
    rw [rounds_succ]
    go_wp2_with fail
    refine bodyPost_ret (v := entV s 2 x0 x1 0) (by simp [results, Tryz.results201, go_sem, entV]) rfl ⟨rfl, ?_⟩
    exact ((Below.refl _ _).alloc (Nat.le_refl _) _).alloc (by simp) _
  | [a, b, c], _ =>
    obtain ⟨g, cap, rfl⟩ : ∃ g cap, v = .slice (some ⟨g, 0, none⟩) 3 cap := by
      obtain ⟨_, ⟨_, h'⟩ | ⟨g, cap, cur, rfl, _⟩⟩ := id hrow
      · simp at h'
      · exact ⟨_, _, rfl⟩
    have hgl := (hrow.lt g rfl).2
    have k0 : w.cell? ⟨g, 0, none⟩ = some (.int .i64 (a : Nat)) := by rw [hrow.cellAt 0 (by simp)]; rfl
    obtain ⟨x0, hx0⟩ : ∃ x, lkN a = x := ⟨_, rfl⟩
    have HL0 := hideIt (fun w => show Calls Tryz.prog 243 #[.int .i64 (a : Nat)] w fun e w' => e = .returned (.int .i64 (x0 : Nat)) ∧ w' = w by rw [← hx0]; exact HL.out a w)
    have k1 : w.cell? ⟨g, 1, none⟩ = some (.int .i64 (b : Nat)) := by rw [hrow.cellAt 1 (by simp)]; rfl
    obtain ⟨x1, hx1⟩ : ∃ x, lkN b = x := ⟨_, rfl⟩
    have HL1 := hideIt (fun w => show Calls Tryz.prog 243 #[.int .i64 (b : Nat)] w fun e w' => e = .returned (.int .i64 (x1 : Nat)) ∧ w' = w by rw [← hx1]; exact HL.out b w)
    have k2 : w.cell? ⟨g, 2, none⟩ = some (.int .i64 (c : Nat)) := by rw [hrow.cellAt 2 (by simp)]; rfl
    obtain ⟨x2, hx2⟩ : ∃ x, lkN c = x := ⟨_, rfl⟩
    have HL2 := hideIt (fun w => show Calls Tryz.prog 243 #[.int .i64 (c : Nat)] w fun e w' => e = .returned (.int .i64 (x2 : Nat)) ∧ w' = w by rw [← hx2]; exact HL.out c w)
    have he : entOf s [a, b, c] = entV s 3 x0 x1 x2 := by simp only [entOf, List.getElem?_cons_zero, List.getElem?_cons_succ, List.length_cons, List.length_nil, hx0, hx1, hx2]; rfl
    rw [he]
    clear hrow he hx0 hx1 hx2
    go_enter Tryz.func201, Tryz.ntmps201
    go_wp2_with fail
    refine wp_loop_rounds 4 ?_
    rw [rounds_succ]
    go_wp2_with fail
    refine (HL0.out _).mono ?_
    rintro e w1 ⟨rfl, rfl⟩
    go_wp2_with fail
    rw [rounds_succ]
    go_wp2_with fail
    refine (HL1.out _).mono ?_
    rintro e w1 ⟨rfl, rfl⟩
    go_wp2_with fail
    rw [rounds_succ]
    go_wp2_with fail
    refine (HL2.out _).mono ?_
    rintro e w1 ⟨rfl, rfl⟩
    go_wp2_with fail
    rw [rounds_succ]
    go_wp2_with fail
    refine bodyPost_ret (v := entV s 3 x0 x1 x2) (by simp [results, Tryz.results201, go_sem, entV]) rfl ⟨rfl, ?_⟩
    exact ((Below.refl _ _).alloc (Nat.le_refl _) _).alloc (by simp) _
end Go.Proofs.YthokdbcpkmcieaaGreatDoor
namespace Go.Proofs.YthokdbcpkmcieaaGreatDoor
open Go Go.RowKit Go.Maps Go.WideMaps
/-- An instruction of the book: its code, its operands' kinds, how many bytes it has. -/
structure InsD where
  code : Nat
  kinds : List Nat
  size : Nat
/-- The texts of a row's operands. -/
def rowOps (t : List UInt8) : List ByteArray := match Lib.cut t [32] with
  | (_, l, true) => pieces ⟨l.toArray⟩
  | _ => []
/-- A row's name, its operands' kinds. -/
def rowKd (t : List UInt8) : List Nat := (rowOps t).map fun p => (kindI p).toNat
/-- How many bytes an instruction with such operands has. -/
def sizeK (ks : List Nat) : Nat := 1 + (ks.map fun k => if k ≤ 8 then 0 else if k = 10 ∨ k = 14 then 2 else 1).sum
def insR (r : Nat × Nat × List UInt8) : InsD := ⟨r.1, rowKd r.2.2, sizeK (rowKd r.2.2)⟩
/-- Is it the row that is meant? -/
def meant (s : List UInt8) (ks : List Nat) (r : Nat × Nat × List UInt8) : Bool := rowNm r.2.2 == s && ((rowKd r.2.2).map lkN == ks.map lkN)
def insO (s : List UInt8) (ks : List Nat) : Option InsD := (rowsL.reverse.find? (meant s ks)).map insR
def entKof (s : ByteArray) (ks : List Nat) : List UInt8 := entK s ks.length (match ks[0]? with | some k => (lkN k : Nat) | none => 0) (match ks[1]? with | some k => (lkN k : Nat) | none => 0) (match ks[2]? with | some k => (lkN k : Nat) | none => 0)
def insV (c : Int) (v : Value) (n : Int) : Value := .agg #[.int .u8 c, v, .int .i64 n]
/-- What the map of instructions holds. -/
def InsAt (w : World) (b : Bk) (B : Nat) : Prop := ∃ f n, MapAt Tryz.prog 292 w b.ib n f ∧ ∀ (s : ByteArray) (ks : List Nat), s.size ≤ 1000000 → ks.length ≤ 3 → (∀ k ∈ ks, k ≤ 100) →
  match insO s.data.toList ks with
  | none => f (entKof s ks) = none
  | some d => ∃ v, f (entKof s ks) = some (insV d.code v d.size) ∧ w.ownsRow 0 111 1 v d.kinds.length (kindCells d.kinds) ∧ ∀ j, v.ownBlock = some j → j < B
theorem lkN_le (k : Nat) (h : k ≤ 100) : lkN k ≤ 100 := by
  unfold lkN
  split
  · omega
  · split <;> omega
theorem entOf_key (s : ByteArray) (ks : List Nat) (hs : s.size ≤ 1000000) (hk : ks.length ≤ 3) (hks : ∀ k ∈ ks, k ≤ 100) : keyOf Tryz.prog 292 (entOf s ks) = some (.string (entKof s ks)) := by
  have key : ∀ i : Nat, (Lit.int .i64 (match ks[i]? with | some k => ((lkN k : Nat) : Int) | none => 0)).wf = true := by
    intro i
    cases h : ks[i]? with
    | none => exact small_wf 0 (by omega) (by omega)
    | some k =>
      have := lkN_le k (hks k (List.mem_of_getElem? h))
      exact small_wf ((lkN k : Nat) : Int) (by omega) (by omega)
  exact entKey s _ _ _ _ hs (small_wf _ (by omega) (by omega)) (key 0) (key 1) (key 2)
theorem zeroIns (w : World) : (zeroValue 128).run Tryz.prog w = .ok (insV 0 (.slice none 0 0) 0) w := by kernel_rfl
/-- What Find gives. -/
def FEnd (w : World) (B : Nat) (o : Option InsD) (e : Ending) (w' : World) : Prop :=
  Below w.heap.size w w' ∧ match o with
  | some d => ∃ v, e = .returned (.tuple #[insV d.code v d.size, .bool true]) ∧ w.ownsRow 0 111 1 v d.kinds.length (kindCells d.kinds) ∧ ∀ j, v.ownBlock = some j → j < B
  | none => ∃ (c : Int) (va : Option Addr) (vn vc : Nat) (m : Int), e = .returned (.tuple #[insV c (.slice va vn vc) m, .bool false])
/-- Where the instruction that was found lies, and the result's own place. -/
structure FQ (w wq : World) (sb : Nat) (c : Int) (v : Value) (m : Int) : Prop where
  q0 : wq.cell? ⟨sb, 0, none⟩ = some (.int .u8 c)
  q1 : wq.cell? ⟨sb, 1, none⟩ = some v
  q2 : wq.cell? ⟨sb, 2, none⟩ = some (.int .i64 m)
  r0 : wq.cell? ⟨w.heap.size + 1, 0, none⟩ = some (.int .u8 0)
  r1 : wq.cell? ⟨w.heap.size + 1, 1, none⟩ = some (.slice none 0 0)
  r2 : wq.cell? ⟨w.heap.size + 1, 2, none⟩ = some (.int .i64 0)
  g0 : wq.frozen? ⟨w.heap.size + 1, 0, none⟩ = false
  g1 : wq.frozen? ⟨w.heap.size + 1, 1, none⟩ = false
  g2 : wq.frozen? ⟨w.heap.size + 1, 2, none⟩ = false
  bel : Below w.heap.size w wq
  lt : sb < wq.heap.size
  ge : w.heap.size + 2 ≤ sb
theorem fb_one {w wx : World} {o1 o2 : Obj} (h : Below ((w.alloc o1).alloc o2).drew.heap.size ((w.alloc o1).alloc o2).drew wx) : Below w.heap.size w wx := (((Below.refl _ _).alloc (Nat.le_refl _) _).alloc (by simp) _).drew.trans (h.mono (by simp; omega))
theorem fb_two {w wx : World} {o1 o2 o3 : Obj} (h : Below (((w.alloc o1).alloc o2).alloc o3).drew.heap.size (((w.alloc o1).alloc o2).alloc o3).drew wx) : Below w.heap.size w wx := ((((Below.refl _ _).alloc (Nat.le_refl _) _).alloc (by simp) _).alloc (by simp; omega) _).drew.trans (h.mono (by simp; omega))
theorem at_new {w : World} {cs : Array Value} {t : TypeId} {k j : Nat} (hk : k = w.heap.size) : (w.alloc (.cells cs t)).cell? ⟨k, j, none⟩ = cs[j]? ∧ (w.alloc (.cells cs t)).frozen? ⟨k, j, none⟩ = false := by
  subst hk
  simp
theorem fb_al {w wx : World} (h : Below w.heap.size w wx) (o : Obj) : Below w.heap.size w (wx.alloc o) := h.alloc h.size o
theorem fd_cells {w wx : World} {o1 o2 : Obj} (h : Below (((w.alloc o1).alloc o2).alloc (.cells #[.int .u8 0, .slice none 0 0, .int .i64 0] 128)).drew.heap.size (((w.alloc o1).alloc o2).alloc (.cells #[.int .u8 0, .slice none 0 0, .int .i64 0] 128)).drew wx) :
    wx.cell? ⟨w.heap.size + 2, 0, none⟩ = some (.int .u8 0) ∧ wx.cell? ⟨w.heap.size + 2, 1, none⟩ = some (.slice none 0 0) ∧ wx.cell? ⟨w.heap.size + 2, 2, none⟩ = some (.int .i64 0) ∧ wx.frozen? ⟨w.heap.size + 2, 0, none⟩ = false ∧ wx.frozen? ⟨w.heap.size + 2, 1, none⟩ = false ∧ wx.frozen? ⟨w.heap.size + 2, 2, none⟩ = false := by
  refine ⟨?_, ?_, ?_, ?_, ?_, ?_⟩
  · rw [h.cell (by simp)]; exact (at_new (by simp)).1
  · rw [h.cell (by simp)]; exact (at_new (by simp)).1
  · rw [h.cell (by simp)]; exact (at_new (by simp)).1
  · rw [h.frozen (by simp)]; exact (at_new (by simp)).2
  · rw [h.frozen (by simp)]; exact (at_new (by simp)).2
  · rw [h.frozen (by simp)]; exact (at_new (by simp)).2
theorem bx_one {w wx : World} {x y z : Value} {t : TypeId} {o2 : Obj} (h : Below ((w.alloc (.cells #[x, y, z] t)).alloc o2).drew.heap.size ((w.alloc (.cells #[x, y, z] t)).alloc o2).drew wx) : wx.cell? ⟨w.heap.size, 1, none⟩ = some y := by
  rw [h.cell (by simp; omega)]
  exact (World.cell?_alloc_old _ _ _ (by simp)).trans (at_new rfl).1
theorem bx_two {w wx : World} {x y z : Value} {t : TypeId} {o2 o3 : Obj} (h : Below (((w.alloc (.cells #[x, y, z] t)).alloc o2).alloc o3).drew.heap.size (((w.alloc (.cells #[x, y, z] t)).alloc o2).alloc o3).drew wx) : wx.cell? ⟨w.heap.size, 1, none⟩ = some y := by
  rw [h.cell (by simp; omega)]
  exact ((World.cell?_alloc_old _ _ _ (by simp; omega)).trans (World.cell?_alloc_old _ _ _ (by simp))).trans (at_new rfl).1
theorem lt_one {w wx : World} {o1 o2 : Obj} (h : Below ((w.alloc o1).alloc o2).drew.heap.size ((w.alloc o1).alloc o2).drew wx) : w.heap.size < wx.heap.size := by
  have := h.size
  simp at this
  omega
theorem lt_two {w wx : World} {o1 o2 o3 : Obj} (h : Below (((w.alloc o1).alloc o2).alloc o3).drew.heap.size (((w.alloc o1).alloc o2).alloc o3).drew wx) : w.heap.size < wx.heap.size := by
  have := h.size
  simp at this
  omega
theorem fq_one {w wx : World} {o1 : Obj} (c : Int) (v : Value) (m : Int) (h : Below ((w.alloc o1).alloc (.cells #[.int .u8 0, .slice none 0 0, .int .i64 0] 128)).drew.heap.size ((w.alloc o1).alloc (.cells #[.int .u8 0, .slice none 0 0, .int .i64 0] 128)).drew wx) : FQ w (wx.alloc (.cells #[.int .u8 c, v, .int .i64 m] 128)) wx.heap.size c v m := by
  have hz : w.heap.size + 2 ≤ wx.heap.size := by have := h.size; simpa using this
  have h1 := h.alloc h.size (.cells #[.int .u8 c, v, .int .i64 m] 128)
  refine ⟨by simp, by simp, by simp, ?_, ?_, ?_, ?_, ?_, ?_, (fb_one h).alloc (by omega) _, by simp, hz⟩
  · rw [h1.cell (by simp)]; simp
  · rw [h1.cell (by simp)]; simp
  · rw [h1.cell (by simp)]; simp
  · rw [h1.frozen (by simp)]; simp
  · rw [h1.frozen (by simp)]; simp
  · rw [h1.frozen (by simp)]; simp
theorem fq_two {w wx : World} {o1 : Obj} (c : Int) (v : Value) (m : Int) (h : Below (((w.alloc o1).alloc (.cells #[.int .u8 0, .slice none 0 0, .int .i64 0] 128)).alloc (.cells #[.int .u8 0, .slice none 0 0, .int .i64 0] 128)).drew.heap.size (((w.alloc o1).alloc (.cells #[.int .u8 0, .slice none 0 0, .int .i64 0] 128)).alloc (.cells #[.int .u8 0, .slice none 0 0, .int .i64 0] 128)).drew wx) (m0 : wx.cell? ⟨w.heap.size + 2, 0, none⟩ = some (.int .u8 0)) (m1 : wx.cell? ⟨w.heap.size + 2, 1, none⟩ = some (.slice none 0 0)) (m2 : wx.cell? ⟨w.heap.size + 2, 2, none⟩ = some (.int .i64 0)) :
    FQ w (((wx.setCell ⟨w.heap.size + 2, 0, none⟩ (.int .u8 c)).setCell ⟨w.heap.size + 2, 1, none⟩ v).setCell ⟨w.heap.size + 2, 2, none⟩ (.int .i64 m)) (w.heap.size + 2) c v m := by
  have hz : w.heap.size + 3 ≤ wx.heap.size := by have := h.size; simpa using this
  have h2 : Below (w.heap.size + 2) ((w.alloc o1).alloc (.cells #[.int .u8 0, .slice none 0 0, .int .i64 0] 128)) (((wx.setCell ⟨w.heap.size + 2, 0, none⟩ (.int .u8 c)).setCell ⟨w.heap.size + 2, 1, none⟩ v).setCell ⟨w.heap.size + 2, 2, none⟩ (.int .i64 m)) :=
    (((((Below.refl _ _).alloc (by simp) _).drew.trans (h.mono (by simp))).setCell (by simp) _).setCell (by simp) _).setCell (by simp) _
  refine ⟨?_, ?_, ?_, ?_, ?_, ?_, ?_, ?_, ?_, (((Below.refl _ _).alloc (Nat.le_refl _) _).alloc (by simp) _).trans (h2.mono (by omega)), by simp [World.setCell]; omega, Nat.le_refl _⟩
  · rw [World.cell?_setCell_other _ _ _ _ (by simp), World.cell?_setCell_other _ _ _ _ (by simp)]
    exact World.cell?_setCell_same _ _ _ m0
  · rw [World.cell?_setCell_other _ _ _ _ (by simp)]
    exact World.cell?_setCell_same _ _ _ (by rw [World.cell?_setCell_other _ _ _ _ (by simp)]; exact m1)
  · exact World.cell?_setCell_same _ _ _ (by rw [World.cell?_setCell_other _ _ _ _ (by simp), World.cell?_setCell_other _ _ _ _ (by simp)]; exact m2)
  · rw [h2.cell (by simp)]; simp
  · rw [h2.cell (by simp)]; simp
  · rw [h2.cell (by simp)]; simp
  · rw [h2.frozen (by simp)]; simp
  · rw [h2.frozen (by simp)]; simp
  · rw [h2.frozen (by simp)]; simp
/-- What is asked of the book, by the operands that stand there. -/
def findO (s : List UInt8) (ks : List Nat) : Option InsD := if 3 < ks.length then none else insO s ks
set_option maxRecDepth 100000 in
set_option maxHeartbeats 4000000 in
theorem find_book (w : World) (b : Bk) (B base : Nat) (s : ByteArray) (v : Value) (ks : List Nat) (hI : InsAt w b B) (hs : s.size ≤ 1000000) (hn : ks.length ≤ 1000000) (hks : ∀ k ∈ ks, k ≤ 100) (hrow : w.ownsRow base 111 1 v ks.length (kindCells ks)) :
    Calls Tryz.prog 249 #[bkV b, .string s, v] w (FEnd w B (findO s.data.toList ks)) := by
  obtain ⟨a, cap, rfl⟩ : ∃ a cap, v = .slice a ks.length cap := by
    obtain ⟨_, ⟨rfl, h'⟩ | ⟨g, cap, cur, rfl, _⟩⟩ := id hrow
    · exact ⟨none, 0, by rw [h']⟩
    · exact ⟨_, _, rfl⟩
  unfold bkV
  by_cases h3 : (3 : Int) < (ks.length : Int)
  · have e : findO s.data.toList ks = none := by unfold findO; rw [if_pos (by omega)]
    rw [e]
    go_enter Tryz.func249, Tryz.ntmps249
    go_wp2_with fail
    refine bodyPost_ret (v := .tuple #[insV 0 (.slice none 0 0) 0, .bool false]) (by simp [results, Tryz.results249, go_sem, insV]) rfl ⟨?_, _, _, _, _, _, rfl⟩
    exact ((Below.refl _ _).alloc (Nat.le_refl _) _).alloc (by simp) _
  · have e : findO s.data.toList ks = insO s.data.toList ks := by unfold findO; rw [if_neg (by omega)]
    rw [e]
    obtain ⟨f, n, hf, hall⟩ := hI
    have hkey := entOf_key s ks hs (by omega) hks
    have hv := hall s ks hs (by omega) hks
    have HN := hideIt (fun w' (hbw : Below w.heap.size w w') => newEntry_any s base _ ks w' (by omega) (hrow.below3 hbw))
    have HK := hideIt hkey
    have HM := hideIt hf
    obtain ⟨E, hE⟩ : ∃ E, entOf s ks = E := ⟨_, rfl⟩
    rw [hE] at HN HK
    clear hall hrow hkey hf hE e hn hks
    obtain ⟨O, hO⟩ : ∃ O, insO s.data.toList ks = O := ⟨_, rfl⟩
    rw [hO] at hv ⊢
    obtain ⟨c, va, vn, vc, m, z, hlk, hz1, hz2⟩ : ∃ (c : Int) (va : Option Addr) (vn vc : Nat) (m : Int) (z : Bool), lookV true (insV 0 (.slice none 0 0) 0) (f (entKof s ks)) = .tuple #[insV c (.slice va vn vc) m, .bool z] ∧ (z = true → ∃ d, O = some d ∧ c = (d.code : Int) ∧ m = (d.size : Int) ∧ w.ownsRow 0 111 1 (.slice va vn vc) d.kinds.length (kindCells d.kinds) ∧ ∀ j, (Value.slice va vn vc).ownBlock = some j → j < B) ∧ (z = false → O = none) := by
      cases O with
      | none => exact ⟨_, _, _, _, _, false, by rw [hv]; rfl, (fun h => by cases h), fun _ => rfl⟩
      | some d =>
        obtain ⟨v, h1, h2, h3⟩ := hv
        obtain ⟨va, vn, vc, rfl⟩ : ∃ va vn vc, v = .slice va vn vc := by
          obtain ⟨_, ⟨rfl, _⟩ | ⟨g, cap, cur, rfl, _⟩⟩ := h2
          · exact ⟨_, _, _, rfl⟩
          · exact ⟨_, _, _, rfl⟩
        exact ⟨_, va, vn, vc, _, true, by rw [h1]; rfl, fun _ => ⟨d, rfl, rfl, rfl, h2, h3⟩, fun h => by cases h⟩
    have hr0 : ∀ w', Below w.heap.size w w' → (Instr.lookup 243 (.map (some b.ib)) E true).run Tryz.prog w' = .ok (.tuple #[.agg #[.int .u8 c, .slice va vn vc, .int .i64 m], .bool z]) w' := fun w' hbw => by
      rw [(HM.out.below hbw HM.out.lt).look entKeyed Tryz.underlying243 (zeroIns w') HK.out true, hlk]
      rfl
    have HR := hideIt hr0
    have HZ1 := hideIt hz1
    have HZ2 := hideIt hz2
    have hn1 := HN.out (((w.alloc (.cells #[.map (some b.cb), .map (some b.ib), .map (some b.fb)] 246)).alloc (.cells #[.int .u8 0, .slice none 0 0, .int .i64 0] 128)).drew) (((Below.refl _ _).alloc (Nat.le_refl _) _).alloc (by simp) _).drew
    have hn2 := (HN.out ((((w.alloc (.cells #[.map (some b.cb), .map (some b.ib), .map (some b.fb)] 246)).alloc (.cells #[.int .u8 0, .slice none 0 0, .int .i64 0] 128)).alloc (.cells #[.int .u8 0, .slice none 0 0, .int .i64 0] 128)).drew) ((((Below.refl _ _).alloc (Nat.le_refl _) _).alloc (by simp) _).alloc (by simp; omega) _).drew).mono (fun e w' hh => And.intro hh.1 (And.intro hh.2 (fd_cells hh.2)))
    have HN1 := hideIt hn1
    have HN2 := hideIt hn2
    clear hv hlk hz1 hz2 hr0 hn1 hn2 HM HK HN hO
    go_enter Tryz.func249, Tryz.ntmps249
    go_wp2_with fail
    go_cut [8, 9] (fun s8 s9 wx => ∃ sb, s8 = .pointer (some ⟨sb, 0, none⟩) ∧ s9 = .bool z ∧ FQ w wx sb c (.slice va vn vc) m)
    case first =>
      clear HZ1 HZ2
      go_region_with (first | (go_at_call 201; refine HN1.out.mono ?_; rintro e wx ⟨rfl, hbx⟩; have bx := bx_one hbx; have lx := lt_one hbx; have hr := HR.out wx (fb_one hbx); have hr2 := fun o => HR.out (wx.alloc o) (fb_al (fb_one hbx) o)) | (go_at_call 201; refine HN2.out.mono ?_; rintro e wx ⟨rfl, hbx, m0, m1, m2, m3, m4, m5⟩; have bx := bx_two hbx; have lx := lt_two hbx; have hr := HR.out wx (fb_two hbx)))
      all_goals
        go_wp2_with fail
        go_meet
        first
          | exact ⟨_, rfl, rfl, fq_one c (.slice va vn vc) m hbx⟩
          | exact ⟨_, rfl, rfl, fq_two c (.slice va vn vc) m hbx m0 m1 m2⟩
    case rest =>
    obtain ⟨sb, rfl, rfl, hQ⟩ := hcut
    obtain ⟨q0, q1, q2, r0, r1, r2, g0, g1, g2, hbl, hsl, hsz⟩ := hQ
    go_wp2_with fail
    refine bodyPost_ret (v := .tuple #[insV c (.slice va vn vc) m, .bool z]) (by simp [results, Tryz.results249, go_sem, insV, r0, r1, r2]) rfl ⟨?_, ?_⟩
    · exact ((hbl.setCell (by simp) _).setCell (by simp) _).setCell (by simp) _
    · cases z with
      | true =>
        obtain ⟨d, rfl, rfl, rfl, h2, h3⟩ := HZ1.out rfl
        exact ⟨_, rfl, h2, h3⟩
      | false =>
        have hh := HZ2.out rfl
        subst hh
        exact ⟨_, _, _, _, _, rfl⟩
end Go.Proofs.YthokdbcpkmcieaaGreatDoor
namespace Go.Proofs.YthokdbcpkmcieaaGreatDoor
open Go Go.RowKit Go.Maps Go.WideMaps
structure KV (w : World) (base : Nat) (v6 : Value) (ks : List Nat) (v : Value) (es : List (List Trm)) (vs : List Value) : Prop where
  kr : w.ownsRow base 111 1 v6 ks.length (kindCells ks)
  vr : w.ownsRow base 259 1 v es.length vs
  ee : EachE w base v vs es
  e6 : ∀ x ∈ vs, ∀ j, v6.ownBlock = some j → x.ownBlock ≠ some j
  s6 : ∀ j, v6.ownBlock = some j → v.ownBlock ≠ some j
theorem KV.kept {w w' : World} {base : Nat} {v6 : Value} {ks : List Nat} {v : Value} {es : List (List Trm)} {vs : List Value} (h : KV w base v6 ks v es vs) (hb : ∀ j, base ≤ j → j < w.heap.size → w'.heap[j]? = w.heap[j]?) : KV w' base v6 ks v es vs :=
  ⟨own_at h.kr (fun j hj => hb j (h.kr.lt j hj).1 (h.kr.lt j hj).2), own_at h.vr (fun j hj => hb j (h.vr.lt j hj).1 (h.vr.lt j hj).2), h.ee.kept (fun j h1 h2 _ => hb j h1 h2) (fun _ _ h => h), h.e6, h.s6⟩
theorem EachE.mem {w : World} {base : Nat} {v : Value} : ∀ {vs : List Value} {es : List (List Trm)}, EachE w base v vs es → ∀ x ∈ vs, ∃ e, w.ownsRow base 261 4 x (List.length e) (trmCells e)
  | [], [], _, x, hx => by cases hx
  | y :: vs, e :: es, h, x, hx => by
    rcases List.mem_cons.1 hx with rfl | hx
    · exact ⟨e, h.1.1⟩
    · exact EachE.mem h.2 x hx
  | [], _ :: _, h, _, _ => h.elim
  | _ :: _, [], h, _, _ => h.elim
theorem EachE.kept2 {w w' : World} {base : Nat} {v v' : Value} : ∀ {vs : List Value} {es : List (List Trm)}, EachE w base v vs es → (∀ x ∈ vs, ∀ j, x.ownBlock = some j → j < w.heap.size → w'.heap[j]? = w.heap[j]?) → (∀ j, j < w.heap.size → v.ownBlock ≠ some j → v'.ownBlock ≠ some j) → EachE w' base v' vs es
  | [], [], _, _, _ => trivial
  | x :: vs, e :: es, h, h1, h2 => by
    obtain ⟨⟨a, b⟩, c⟩ := h
    refine ⟨⟨own_at a (fun j hj => h1 x (by simp) j hj (a.lt j hj).2), fun j hj => h2 j (a.lt j hj).2 (b j hj)⟩, EachE.kept2 c (fun y hy => h1 y (List.mem_cons_of_mem _ hy)) h2⟩
  | [], _ :: _, h, _, _ => h.elim
  | _ :: _, [], h, _, _ => h.elim
/-- The kinds have one more. -/
theorem kv_kind {w3 w4 : World} {base : Nat} {v6 v6' : Value} {ks : List Nat} {k : Nat} {v : Value} {es : List (List Trm)} {vs : List Value} {o : Obj} (h : KV w3 base v6 ks v es vs) (_hb : base ≤ w3.heap.size)
    (hown : w4.ownsRow base 111 1 v6' (ks.length + 1) (kindCells ks ++ [.int .i64 k])) (hgr : (w3.alloc o).grownBy w4 v6.ownBlock) (hloc : v6'.ownBlock = v6.ownBlock ∨ v6'.ownBlock = some (w3.alloc o).heap.size) : KV w4 base v6' (ks ++ [k]) v es vs := by
  have hk : ∀ j, j < w3.heap.size → v6.ownBlock ≠ some j → w4.heap[j]? = w3.heap[j]? := fun j hj hv => by
    rw [hgr.block j (by simp; omega) (fun e => hv e.symm), Below.heap_alloc _ _ _ hj]
  have h6 : ∀ j, v6'.ownBlock = some j → v6.ownBlock = some j ∨ w3.heap.size < j + 1 := fun j hj => by
    rcases hloc with h' | h'
    · left; rw [← h']; exact hj
    · right; rw [h'] at hj; simp at hj; omega
  refine ⟨?_, own_at h.vr (fun j hj => hk j (h.vr.lt j hj).2 (fun e => h.s6 j e hj)), h.ee.kept2 (fun x hx j hj hjl => hk j hjl (fun e => h.e6 x hx j e hj)) (fun _ _ h => h), fun x hx j hj e => ?_, fun j hj e => ?_⟩
  · rw [List.length_append]
    have : kindCells (ks ++ [k]) = kindCells ks ++ [.int .i64 k] := by simp [kindCells]
    rw [this]
    exact hown
  · rcases h6 j hj with h' | h'
    · exact h.e6 x hx j h' e
    · obtain ⟨e', he'⟩ := h.ee.mem x hx
      have := (he'.lt j e).2
      omega
  · rcases h6 j hj with h' | h'
    · exact h.s6 j h' e
    · have := (h.vr.lt j e).2
      omega
/-- The expressions have one more. -/
theorem kv_val {w4 wn : World} {base : Nat} {v6 : Value} {ks : List Nat} {v v' x : Value} {es : List (List Trm)} {e : List Trm} {vs : List Value} {o : Obj} (h : KV w4 base v6 ks v es vs) (hx : w4.ownsRow base 261 4 x e.length (trmCells e)) (hx1 : ∀ j, x.ownBlock = some j → v.ownBlock ≠ some j) (hx2 : ∀ j, v6.ownBlock = some j → x.ownBlock ≠ some j)
    (hown : wn.ownsRow base 259 1 v' (es.length + 1) (vs ++ [x])) (hgr : (w4.alloc o).grownBy wn v.ownBlock) (hloc : v'.ownBlock = v.ownBlock ∨ v'.ownBlock = some (w4.alloc o).heap.size) : KV wn base v6 ks v' (es ++ [e]) (vs ++ [x]) := by
  have hk : ∀ j, j < w4.heap.size → v.ownBlock ≠ some j → wn.heap[j]? = w4.heap[j]? := fun j hj hv => by
    rw [hgr.block j (by simp; omega) (fun e => hv e.symm), Below.heap_alloc _ _ _ hj]
  have hv' : ∀ j, j < w4.heap.size → v.ownBlock ≠ some j → v'.ownBlock ≠ some j := fun j hj hjv e => by
    rcases hloc with h' | h'
    · rw [h'] at e; exact hjv e
    · rw [h'] at e; simp at e; omega
  refine ⟨own_at h.kr (fun j hj => hk j (h.kr.lt j hj).2 (h.s6 j hj)), ?_, EachE.snoc ⟨own_at hx (fun j hj => hk j (hx.lt j hj).2 (hx1 j hj)), fun j hj => hv' j (hx.lt j hj).2 (hx1 j hj)⟩ (h.ee.kept (fun j _ hj hjv => hk j hj hjv) hv'), fun y hy j hj => ?_, fun j hj => hv' j (h.kr.lt j hj).2 (h.s6 j hj)⟩
  · rw [List.length_append]; exact hown
  · rcases List.mem_append.1 hy with hy | hy
    · exact h.e6 y hy j hj
    · simp at hy
      subst hy
      exact hx2 j hj
end Go.Proofs.YthokdbcpkmcieaaGreatDoor
