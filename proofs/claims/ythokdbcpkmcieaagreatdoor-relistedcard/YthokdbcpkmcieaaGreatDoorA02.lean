/- What the operands add: the functions of the table's first column, each by its kind. Operands as plain data, their cells in memory, and what reading the bytes behind a code makes of them. The walk of strings.Trim at a set of two ASCII bytes or more. The walk of ParseInt at base sixteen: up to four digits in capitals. The walk of ParseInt at base ten, up to five digits; ParseInt at either base. -/
import Derived.Test.YthokdbcpkmcieaaGreatDoorA01
import Derived.WalkSpells
import Derived.Shelf.Abstract
import Derived.BigRegion
import Derived.BigGuard
import Derived.BigCall
namespace Go.Proofs.YthokdbcpkmcieaaGreatDoor
open Go Go.RowKit Go.Shelf
/-- One byte of the rest. -/
def readB (r : ByteArray) (sh : Bool) : Int × ByteArray × Bool := if h : 0 < r.size then ((r[0].toNat : Int), r.extract 1 r.size, sh) else (0, r, true)
def readW (r : ByteArray) (sh : Bool) : Int × ByteArray × Bool := (bits BinOp.or IntKind.u16 ((readB r sh).1 * 256) (readB (readB r sh).2.1 (readB r sh).2.2).1, (readB (readB r sh).2.1 (readB r sh).2.2).2)
/-- What an operand of this kind reads. -/
def readOne (k : Nat) (r : ByteArray) (sh : Bool) : Int × ByteArray × Bool := if k ≤ 8 then (0, r, sh) else if k = 10 ∨ k = 14 then readW r sh else readB r sh
/-- The function of this kind. -/
def addF (k : Nat) : Nat := if k ≤ 8 then 139 else if k = 10 ∨ k = 14 then 147 else 144
/-- The reading's two cells. -/
structure Reads (w : World) (b : Nat) (r : ByteArray) (sh : Bool) : Prop where
  c0 : w.cell? ⟨b, 0, none⟩ = some (.string r)
  c1 : w.cell? ⟨b, 1, none⟩ = some (.bool sh)
  f0 : w.frozen? ⟨b, 0, none⟩ = false
  f1 : w.frozen? ⟨b, 1, none⟩ = false
set_option maxHeartbeats 400000 in
theorem nothing_any (v : Value) (w : World) :
    Calls Tryz.prog 139 #[v] w fun e w' => e = .returned (.int .u16 0) ∧ w' = w := by
  go_enter Tryz.func139, Tryz.ntmps139
  go_wp2
  go_ret
  exact ⟨rfl, rfl⟩
theorem wrap_byte (x : UInt8) : IntKind.u16.wrap (x.toNat : Int) = x.toNat := by
  have := x.toNat_lt
  unfold IntKind.wrap
  simp [IntKind.bits]
  omega
theorem grown_set (w : World) (b o : Nat) (u : Value) : w.grownBy (w.setCell ⟨b, o, none⟩ u) (some b) :=
  ⟨rfl, rfl, rfl, by simp [World.setCell], fun k _ hk => Below.heap_setCell _ _ _ _ (fun e => hk (by rw [e]))⟩
theorem isEmpty_iff (r : ByteArray) : r.toList.isEmpty = decide (r.size = 0) := by
  rw [ByteArray.toList_eq]
  have h : r.size = r.data.toList.length := (Array.length_toList (xs := r.data)).symm
  rw [h]
  cases r.data.toList with
  | nil => rfl
  | cons x l => rfl
theorem Reads.set0 {w : World} {b : Nat} {r : ByteArray} {sh : Bool} (h : Reads w b r sh) (r' : ByteArray) : Reads (w.setCell ⟨b, 0, none⟩ (.string r')) b r' sh :=
  ⟨World.cell?_setCell_same _ _ _ h.c0, by rw [World.cell?_setCell_other _ _ _ _ (by simp)]; exact h.c1, by simp [h.f0], by simp [h.f1]⟩
theorem Reads.set1 {w : World} {b : Nat} {r : ByteArray} {sh : Bool} (h : Reads w b r sh) (sh' : Bool) : Reads (w.setCell ⟨b, 1, none⟩ (.bool sh')) b r sh' :=
  ⟨by rw [World.cell?_setCell_other _ _ _ _ (by simp)]; exact h.c0, World.cell?_setCell_same _ _ _ h.c1, by simp [h.f0], by simp [h.f1]⟩
set_option maxHeartbeats 400000 in
theorem oneByte_any (b : Nat) (r : ByteArray) (sh : Bool) (w : World) (h : Reads w b r sh) :
    Calls Tryz.prog 144 #[.pointer (some ⟨b, 0, none⟩)] w fun e w' => e = .returned (.int .u16 (readB r sh).1) ∧ Reads w' b (readB r sh).2.1 (readB r sh).2.2 ∧ w.grownBy w' (some b) := by
  have HR : Hid (Reads w b r sh) := h
  obtain ⟨c0, c1, f0, f1⟩ := h
  by_cases hp : 0 < r.size
  · have e : readB r sh = ((r[0].toNat : Int), r.extract 1 r.size, sh) := by unfold readB; rw [dif_pos hp]
    have hs : r.toList.isEmpty = false := by rw [isEmpty_iff]; simp only [decide_eq_false_iff_not]; omega
    rw [e]
    have HW : Hid (IntKind.u16.wrap (r[0].toNat : Int) = r[0].toNat) := wrap_byte _
    clear e
    go_enter Tryz.func144, Tryz.ntmps144
    go_wp2
    go_ret
    refine ⟨?_, HR.out.set0 _, grown_set _ _ _ _⟩
    show Ending.returned (.int .u16 (IntKind.u16.wrap (r[0].toNat : Int))) = _
    rw [HW.out]
  · have e : readB r sh = (0, r, true) := by unfold readB; rw [dif_neg hp]
    have hs : r.toList.isEmpty = true := by rw [isEmpty_iff]; simp only [decide_eq_true_eq]; omega
    rw [e]
    clear e
    go_enter Tryz.func144, Tryz.ntmps144
    go_wp2
    go_ret
    exact ⟨rfl, HR.out.set1 _, grown_set _ _ _ _⟩
theorem grown_trans {w w1 w2 : World} {b : Nat} (h : w.grownBy w1 (some b)) (k : w1.grownBy w2 (some b)) : w.grownBy w2 (some b) :=
  ⟨k.os.trans h.os, k.tape.trans h.tape, k.output.trans h.output, Nat.le_trans h.size k.size, fun i hi hb => (k.block i (Nat.lt_of_lt_of_le hi h.size) hb).trans (h.block i hi hb)⟩
theorem readB_bound (r : ByteArray) (sh : Bool) : 0 ≤ (readB r sh).1 ∧ (readB r sh).1 ≤ 255 := by
  unfold readB
  split
  · have := (r[0]).toNat_lt; simp only; omega
  · simp
set_option maxHeartbeats 400000 in
theorem twoBytes_any (b : Nat) (r : ByteArray) (sh : Bool) (w : World) (h : Reads w b r sh) :
    Calls Tryz.prog 147 #[.pointer (some ⟨b, 0, none⟩)] w fun e w' => e = .returned (.int .u16 (readW r sh).1) ∧ Reads w' b (readW r sh).2.1 (readW r sh).2.2 ∧ w.grownBy w' (some b) := by
  have HR : Hid (Reads w b r sh) := h
  unfold readW
  have HB := readB_bound r sh
  obtain ⟨p, hp⟩ : ∃ p, readB r sh = p := ⟨_, rfl⟩
  obtain ⟨q, hq⟩ : ∃ q, readB p.2.1 p.2.2 = q := ⟨_, rfl⟩
  rw [hp] at HB
  rw [hp, hq]
  have HP : Hid (readB r sh = p) := hp
  have HQ : Hid (readB p.2.1 p.2.2 = q) := hq
  have b0 := HB.1
  have b1 := HB.2
  clear hp hq h HB
  go_enter Tryz.func147, Tryz.ntmps147
  go_wp2_with fail
  refine (oneByte_any b r sh _ HR.out).mono ?_
  rintro e w1 ⟨rfl, h1, g1⟩
  rw [HP.out] at h1 ⊢
  have H1 : Hid (Reads w1 b p.2.1 p.2.2) := h1
  have G1 : Hid (w.grownBy w1 (some b)) := g1
  clear h1 g1
  go_wp2_with fail
  refine (oneByte_any b p.2.1 p.2.2 _ H1.out).mono ?_
  rintro e w2 ⟨rfl, h2, g2⟩
  rw [HQ.out] at h2 ⊢
  have H2 : Hid (Reads w2 b q.2.1 q.2.2) := h2
  have G2 : Hid (w1.grownBy w2 (some b)) := g2
  clear h2 g2
  go_wp2
  go_ret
  exact ⟨rfl, H2.out, grown_trans G1.out G2.out⟩
theorem adds_any (k : Nat) (b : Nat) (r : ByteArray) (sh : Bool) (w : World) (h : Reads w b r sh) :
    Calls Tryz.prog (addF k) #[.pointer (some ⟨b, 0, none⟩)] w fun e w' => e = .returned (.int .u16 (readOne k r sh).1) ∧ Reads w' b (readOne k r sh).2.1 (readOne k r sh).2.2 ∧ w.grownBy w' (some b) := by
  unfold addF readOne
  split
  · refine (nothing_any _ _).mono ?_
    rintro e w' ⟨rfl, rfl⟩
    exact ⟨rfl, h, ⟨rfl, rfl, rfl, Nat.le_refl _, fun _ _ _ => rfl⟩⟩
  · split
    · exact twoBytes_any b r sh w h
    · exact oneByte_any b r sh w h
theorem addF_enters (k : Nat) (args : Array Value) (w : World) : (callFunc (addF k) args).run Tryz.prog w = .ok (.enter (addF k) args) w := by
  unfold addF
  split
  · exact enters_of Tryz.func139 (by kernel_rfl) rfl args w
  · split
    · exact enters_of Tryz.func147 (by kernel_rfl) rfl args w
    · exact enters_of Tryz.func144 (by kernel_rfl) rfl args w
theorem addF_cell (k : Nat) (h : k < 17) : waysCells[3 * k + 1]? = some (fv (addF k)) := by
  match k, h with
  | 0, _ => rfl
  | 1, _ => rfl
  | 2, _ => rfl
  | 3, _ => rfl
  | 4, _ => rfl
  | 5, _ => rfl
  | 6, _ => rfl
  | 7, _ => rfl
  | 8, _ => rfl
  | 9, _ => rfl
  | 10, _ => rfl
  | 11, _ => rfl
  | 12, _ => rfl
  | 13, _ => rfl
  | 14, _ => rfl
  | 15, _ => rfl
  | 16, _ => rfl
  | n + 17, h => exact absurd h (by omega)
end Go.Proofs.YthokdbcpkmcieaaGreatDoor
namespace Go.Proofs.YthokdbcpkmcieaaGreatDoor
open Go Go.RowKit
/-- An operand. -/
structure Opn where
  kind : Nat
  name : ByteArray
  own : Int
  added : Int
  behind : Int
def Opn.cells (o : Opn) : List Value := [.int .i64 o.kind, .string o.name, .int .u8 o.own, .int .u16 o.added, .int .u16 o.behind]
def Opn.put (o : Opn) (a : Int) : Opn := { o with added := a }
def opn0 : Opn := ⟨0, ⟨#[]⟩, 0, 0, 0⟩
def allCells (l : List Opn) : List Value := l.flatMap Opn.cells
theorem allCells_len (l : List Opn) : (allCells l).length = l.length * 5 := by
  induction l with
  | nil => rfl
  | cons o l ih => simp only [allCells, List.flatMap_cons, List.length_append, List.length_cons] at ih ⊢; rw [ih]; simp [Opn.cells]; omega
theorem allCells_at (l : List Opn) : ∀ (k : Nat), k < l.length → (allCells l)[k * 5]? = some (.int .i64 (l.getD k opn0).kind) ∧ (allCells l)[k * 5 + 1]? = some (.string (l.getD k opn0).name) ∧
    (allCells l)[k * 5 + 2]? = some (.int .u8 (l.getD k opn0).own) ∧ (allCells l)[k * 5 + 3]? = some (.int .u16 (l.getD k opn0).added) ∧ (allCells l)[k * 5 + 4]? = some (.int .u16 (l.getD k opn0).behind) := by
  induction l with
  | nil => intro k h; simp at h
  | cons o l ih =>
    intro k h
    cases k with
    | zero => simp [allCells, Opn.cells]
    | succ k =>
      have := ih k (by simpa using h)
      simp only [List.getD_cons_succ]
      have e : ∀ i, (allCells (o :: l))[(k + 1) * 5 + i]? = (allCells l)[k * 5 + i]? := by
        intro i
        rw [show (k + 1) * 5 + i = k * 5 + i + 1 + 1 + 1 + 1 + 1 by omega]
        simp [allCells, Opn.cells]
      have e0 := e 0
      simp only [Nat.add_zero] at e0
      rw [e0, e 1, e 2, e 3, e 4]
      exact this
theorem allCells_set (l : List Opn) : ∀ (k : Nat) (a : Int), k < l.length → (allCells l).set (k * 5 + 3) (.int .u16 a) = allCells (l.set k ((l.getD k opn0).put a)) := by
  induction l with
  | nil => intro k a h; simp at h
  | cons o l ih =>
    intro k a h
    cases k with
    | zero => simp [allCells, Opn.cells, Opn.put]
    | succ k =>
      have := ih k a (by simpa using h)
      simp only [List.getD_cons_succ, List.set_cons_succ]
      rw [show (k + 1) * 5 + 3 = k * 5 + 3 + 1 + 1 + 1 + 1 + 1 by omega]
      simp only [allCells, List.flatMap_cons, Opn.cells, List.cons_append, List.nil_append, List.set_cons_succ] at this ⊢
      rw [this]
/-- The state behind k operands: the operands, the rest of the bytes, whether a byte was missing. -/
def readTo (l : List Opn) (r : ByteArray) (sh : Bool) : Nat → List Opn × ByteArray × Bool
  | 0 => (l, r, sh)
  | k + 1 =>
    let p := readTo l r sh k
    let q := readOne (p.1.getD k opn0).kind p.2.1 p.2.2
    (p.1.set k ((p.1.getD k opn0).put q.1), q.2.1, q.2.2)
theorem readTo_len (l : List Opn) (r : ByteArray) (sh : Bool) (k : Nat) : (readTo l r sh k).1.length = l.length := by
  induction k with
  | zero => rfl
  | succ k ih => simp only [readTo, List.length_set]; exact ih
theorem getD_set (l : List Opn) (i k : Nat) (x : Opn) : (l.set i x).getD k opn0 = if i = k ∧ k < l.length then x else l.getD k opn0 := by
  rw [List.getD_eq_getElem?_getD, List.getElem?_set, List.getD_eq_getElem?_getD]
  by_cases h : i = k
  · subst h
    by_cases h2 : i < l.length
    · simp [h2]
    · simp [h2]
  · simp [h]
theorem readTo_kind (l : List Opn) (r : ByteArray) (sh : Bool) (k j : Nat) : ((readTo l r sh k).1.getD j opn0).kind = (l.getD j opn0).kind := by
  induction k with
  | zero => rfl
  | succ k ih =>
    simp only [readTo, getD_set]
    split
    · rename_i h; obtain ⟨rfl, _⟩ := h; exact ih
    · exact ih
theorem readB_size (r : ByteArray) (sh : Bool) : (readB r sh).2.1.size ≤ r.size := by
  unfold readB
  split
  · simp only [ByteArray.size_extract]; omega
  · exact Nat.le_refl _
theorem readOne_size (k : Nat) (r : ByteArray) (sh : Bool) : (readOne k r sh).2.1.size ≤ r.size := by
  unfold readOne
  split
  · exact Nat.le_refl _
  · split
    · exact Nat.le_trans (readB_size _ _) (readB_size _ _)
    · exact readB_size _ _
theorem readTo_size (l : List Opn) (r : ByteArray) (sh : Bool) (k : Nat) : (readTo l r sh k).2.1.size ≤ r.size := by
  induction k with
  | zero => exact Nat.le_refl _
  | succ k ih => exact Nat.le_trans (readOne_size _ _ _) ih
end Go.Proofs.YthokdbcpkmcieaaGreatDoor
namespace Go.Proofs.YthokdbcpkmcieaaGreatDoor
open Go Go.RowKit
theorem set_info : (Tryz.prog.info? 355).map (·.size) = some 256 := by kernel_rfl
theorem set_zero : ∀ w, (zeroValue 355).run Tryz.prog w = .ok (.agg (Array.replicate 256 (.bool false))) w := fun w => by kernel_rfl
set_option maxRecDepth 100000 in
set_option maxHeartbeats 2000000 in
theorem trim_any (C : ByteArray) (s : ByteArray) (w : World) (hs : s.size ≤ 1000000) (hC : 2 ≤ C.size) (hC2 : C.size ≤ 1000) (hasc : ∀ (j : Nat) b, C.data.toList[j]? = some b → b.toNat < 128) :
    Calls Tryz.prog 245 #[.string s, .string C] w fun e w' => ∃ r, e = .returned (.string r) ∧ Below w.heap.size w w' ∧ (r.toList.isEmpty = allIn C.data.toList s) := by
  by_cases hz : s.size = 0
  · have h1 : s.toList.isEmpty = true := by rw [isEmpty_iff]; simp [hz]
    go_enter Tryz.func245, Tryz.ntmps245
    go_wp2
    go_ret
    exact ⟨s, rfl, Below.refl _ _, by rw [h1, allIn_empty _ _ hz]⟩
  · have h1 : s.toList.isEmpty = false := by rw [isEmpty_iff]; simp [hz]
    have h2 : C.toList.isEmpty = false := by rw [isEmpty_iff, decide_eq_false_iff_not]; omega
    have h3 : ((C.size : Int) == 1) = false := by simp; omega
    have HM := hideIt (fun w => Tryz.strings_makeASCIISet set_zero C w (by omega) hasc)
    obtain ⟨arr, harr⟩ : ∃ arr, Lib.setCells C.data.toList = arr := ⟨_, rfl⟩
    have hat : ∀ x : UInt8, arr[x.toNat]? = some (.bool (C.data.toList.contains x)) := fun x => by rw [← harr]; exact Lib.setCells_at _ _
    have hone : arr.all (·.oneCell') = true := by rw [← harr]; exact Lib.setCells_one _
    have hsz : arr.size = 256 := by rw [← harr]; exact Lib.setCells_size _
    have hinfo : (Tryz.prog.info? 355).map (·.size) = some arr.size := by rw [hsz]; exact set_info
    rw [harr] at HM
    have HAT := hideIt hat
    clear hat harr hasc
    go_enter Tryz.func245, Tryz.ntmps245
    go_wp2_with fail
    refine (HM.out _).mono ?_
    rintro e w1 ⟨rfl, rfl⟩
    have hsc := run_storeCells_new (P := Tryz.prog) (w.alloc (.cells arr 355)) 355 Tryz.zeroCells355 arr (by rw [hsz]; exact set_info) (by rw [hsz]; kernel_rfl) hone
    rw [show (w.alloc (.cells arr 355)).heap.size = w.heap.size + 1 by simp] at hsc
    have hcell : ∀ x : UInt8, ((w.alloc (.cells arr 355)).alloc (.cells arr 355)).cell? ⟨w.heap.size + 1, x.toNat, none⟩ = some (.bool (C.data.toList.contains x)) := fun x => by
      rw [World.cell?_alloc_at _ _ _ _ (by simp)]
      exact HAT.out x
    have HCE := hideIt hcell
    clear hcell
    go_wp2_with fail
    refine (trimRight_any C.data.toList s (w.heap.size + 1) _ hs HCE.out).mono ?_
    rintro e w2 ⟨r, rfl, rfl, hr1, hr2, hr3⟩
    have HR := hideIt (And.intro hr1 (And.intro hr2 hr3))
    clear hr1 hr2 hr3
    go_wp2_with fail
    refine (trimLeft_any C.data.toList r (w.heap.size + 1) _ (by have := HR.out.1; omega) HCE.out).mono ?_
    rintro e w3 ⟨t, rfl, rfl, ht1, ht2, ht3⟩
    have HT := hideIt (And.intro ht1 (And.intro ht2 ht3))
    clear ht1 ht2 ht3
    go_wp2
    go_ret
    refine ⟨t, rfl, ((Below.refl _ _).alloc (Nat.le_refl _) _).alloc (by simp) _, ?_⟩
    rw [← HR.out.2.1, ← HT.out.2.1, isEmpty_iff]
    rcases HT.out.2.2 with h | h
    · rw [allIn_empty _ _ h]; simp [h]
    · rw [h]
      simp only [decide_eq_false_iff_not]
      intro h0
      rw [allIn_empty _ _ h0] at h
      cases h
end Go.Proofs.YthokdbcpkmcieaaGreatDoor
namespace Go.Proofs.YthokdbcpkmcieaaGreatDoor
open Go Go.RowKit
/-- A digit's value. -/
def dv (c : UInt8) : Nat := if c.toNat ≤ 57 then c.toNat - 48 else c.toNat - 55
/-- The number that digits spell. -/
def numV (base : Nat) (l : List UInt8) : Nat := l.foldl (fun n c => base * n + dv c) 0
def isHx (c : UInt8) : Prop := (48 ≤ c.toNat ∧ c.toNat ≤ 57) ∨ (65 ≤ c.toNat ∧ c.toNat ≤ 70)
theorem numV_snoc (base : Nat) (l : List UInt8) (c : UInt8) : numV base (l ++ [c]) = base * numV base l + dv c := by simp [numV, List.foldl_append]
theorem take_snoc (l : List UInt8) (k : Nat) (c : UInt8) (h : l[k]? = some c) : l.take (k + 1) = l.take k ++ [c] := by
  rw [List.take_add_one, h]
  rfl
theorem lower_hex (c : Int) (h1 : 65 ≤ c) (h2 : c ≤ 70) : bits BinOp.or IntKind.u8 c 32 = c + 32 := by
  obtain ⟨n, hn, rfl⟩ : ∃ n : Nat, n < 6 ∧ c = 65 + n := ⟨(c - 65).toNat, by omega, by omega⟩
  have key : ∀ n : Fin 6, bits BinOp.or IntKind.u8 (65 + (n.val : Int)) 32 = 65 + (n.val : Int) + 32 := by decide
  exact key ⟨n, hn⟩
theorem dv_hex (c : UInt8) (h : isHx c) : dv c ≤ 15 := by
  unfold isHx at h
  unfold dv
  split <;> omega
set_option maxRecDepth 100000 in
set_option maxHeartbeats 4000000 in
theorem pu16_any (s : ByteArray) (w : World) (h0 : 0 < s.size) (h4 : s.size ≤ 4) (hall : ∀ j (h : j < s.size), isHx s[j]) :
    Calls Tryz.prog 295 #[.string s, .int .i64 16, .int .i64 32] w fun e w' => e = .returned (.tuple #[.int .u64 (numV 16 s.data.toList : Nat), .nilIface]) ∧ Below w.heap.size w w' := by
  obtain ⟨w1, cap, hrun, hcells, hfro, hb1, hsz⟩ := bytes_of s w
  have HC := hideIt hcells
  have HA := hideIt hall
  have HL := hideIt (fun c w => Tryz.internal_strconv_lower c w)
  have hemp : s.toList.isEmpty = false := by rw [isEmpty_iff, decide_eq_false_iff_not]; omega
  have hmv : IntKind.u64.wrap (IntKind.u64.wrap 4294967296 - 1) = 4294967295 := by
    rw [IntKind.wrap_u64, IntKind.wrap_u64]
    decide
  clear hcells hfro hall
  go_enter Tryz.func295, Tryz.ntmps295
  go_wp2_with fail
  go_loopw [12, 13, 101] (fun vu vn vi wr => ∃ (k : Nat) (a : Int), vu = .bool false ∧ vn = .int .u64 a ∧ vi = .int .i64 k ∧ wr = w1 ∧ k ≤ s.size ∧ Hid (a = (numV 16 (s.data.toList.take k) : Nat)) ∧ 0 ≤ a ∧ a ≤ 65535 ∧ Hid ((k ≤ 0 → a ≤ 0) ∧ (k ≤ 1 → a ≤ 15) ∧ (k ≤ 2 → a ≤ 255) ∧ (k ≤ 3 → a ≤ 4095))) (fun _ _ vi _ => s.size - (intOf vi).toNat)
  case atStart => exact ⟨0, 0, by simp, by simp, by simp, by simp, by omega, hideIt (by simp [numV]), by omega, by omega, hideIt (by omega)⟩
  case round =>
    obtain ⟨k, a, rfl, rfl, rfl, rfl, hk, hN, ha0, ha1, ha2⟩ := hrel
    by_cases hlt : k < s.size
    · have ck := HC.out k hlt
      have hx := HA.out k hlt
      have HG := hideIt (ba_get s k hlt)
      obtain ⟨c, hc⟩ : ∃ c, s[k] = c := ⟨_, rfl⟩
      rw [hc] at ck hx HG
      have ha3 : a ≤ 4095 := by have := ha2.out; omega
      have hsn := take_snoc _ _ _ HG.out
      have HT := hideIt hsn
      clear hc hsn
      rcases hx with ⟨h1, h2⟩ | ⟨h1, h2⟩
      · have i1 : (48 : Int) ≤ (c.toNat : Int) := by omega
        have i2 : (c.toNat : Int) ≤ (57 : Int) := by omega
        have i3 : ¬ ((c.toNat : Int) = 95) := by omega
        have i3b : ((c.toNat : Int) == 95) = false := by simp; omega
        have i4 : (c.toNat : Int) - 48 < 16 := by omega
        have i5 : ¬ (1152921504606846976 ≤ a) := by omega
        have hd : (dv c : Int) = (c.toNat : Int) - 48 := by unfold dv; rw [if_pos h2]; omega
        have HD := hideIt hd
        clear hd
        go_wp2_with fail
        go_roundw
        case rel =>
          have hz : a * 16 + ((c.toNat : Int) - 48) = ((numV 16 (s.data.toList.take (k + 1)) : Nat) : Int) := by
            rw [HT.out, numV_snoc]
            have e1 := hN.out
            have e2 := HD.out
            omega
          refine ⟨k + 1, a * 16 + ((c.toNat : Int) - 48), by simp, ?_, by go_num, by simp, by omega, hideIt hz, by omega, by omega, hideIt (by have := ha2.out; omega)⟩
          go_num
        case measure => simp [intOf]; omega
      · have i1 : (48 : Int) ≤ (c.toNat : Int) := by omega
        have i2 : ¬ ((c.toNat : Int) ≤ (57 : Int)) := by omega
        have i3b : ((c.toNat : Int) == 95) = false := by simp; omega
        have i5 : ¬ (1152921504606846976 ≤ a) := by omega
        have hlo : bits BinOp.or IntKind.u8 (c.toNat : Int) 32 = (c.toNat : Int) + 32 := lower_hex _ (by omega) (by omega)
        have HLC := hideIt (fun w => show Calls Tryz.prog 314 #[.int .u8 (c.toNat : Int)] w fun e w' => e = .returned (.int .u8 ((c.toNat : Int) + 32)) ∧ w' = w by
          have := HL.out (c.toNat : Int) w
          rw [hlo] at this
          exact this)
        have i6 : (97 : Int) ≤ (c.toNat : Int) + 32 := by omega
        have i7 : (c.toNat : Int) + 32 ≤ 122 := by omega
        have i4 : (c.toNat : Int) + 32 - 97 + 10 < 16 := by omega
        have hd : (dv c : Int) = (c.toNat : Int) + 32 - 97 + 10 := by unfold dv; rw [if_neg (by omega)]; omega
        have HD := hideIt hd
        clear hd hlo
        go_wp2_with (refine (HLC.out _).mono ?_; rintro e w2 ⟨rfl, rfl⟩)
        go_roundw
        case rel =>
          have hz : a * 16 + ((c.toNat : Int) + 32 - 97 + 10) = ((numV 16 (s.data.toList.take (k + 1)) : Nat) : Int) := by
            rw [HT.out, numV_snoc]
            have e1 := hN.out
            have e2 := HD.out
            omega
          refine ⟨k + 1, a * 16 + ((c.toNat : Int) + 32 - 97 + 10), by simp, ?_, by go_num, by simp, by omega, hideIt hz, by omega, by omega, hideIt (by have := ha2.out; omega)⟩
          go_num
        case measure => simp [intOf]; omega
    · have hkn : k = s.size := by omega
      clear ha2
      go_wp2
      go_ret2
      refine ⟨?_, hb1⟩
      rw [hN.out, hkn, List.take_of_length_le (by rw [Array.length_toList]; exact Nat.le_refl _)]
      rfl
end Go.Proofs.YthokdbcpkmcieaaGreatDoor
namespace Go.Proofs.YthokdbcpkmcieaaGreatDoor
open Go Go.RowKit
set_option maxRecDepth 100000 in
set_option maxHeartbeats 4000000 in
theorem pu10_any (s : ByteArray) (w : World) (h0 : 0 < s.size) (h4 : s.size ≤ 5) (hall : ∀ j (h : j < s.size), isD s[j] = true) :
    Calls Tryz.prog 295 #[.string s, .int .i64 10, .int .i64 32] w fun e w' => e = .returned (.tuple #[.int .u64 (numV 10 s.data.toList : Nat), .nilIface]) ∧ Below w.heap.size w w' := by
  obtain ⟨w1, cap, hrun, hcells, hfro, hb1, hsz⟩ := bytes_of s w
  have HC := hideIt hcells
  have HA := hideIt hall
  have hemp : s.toList.isEmpty = false := by rw [isEmpty_iff, decide_eq_false_iff_not]; omega
  have hmv : IntKind.u64.wrap (IntKind.u64.wrap 4294967296 - 1) = 4294967295 := by
    rw [IntKind.wrap_u64, IntKind.wrap_u64]
    decide
  clear hcells hfro hall
  go_enter Tryz.func295, Tryz.ntmps295
  go_wp2_with fail
  go_loopw [12, 13, 101] (fun vu vn vi wr => ∃ (k : Nat) (a : Int), vu = .bool false ∧ vn = .int .u64 a ∧ vi = .int .i64 k ∧ wr = w1 ∧ k ≤ s.size ∧ Hid (a = (numV 10 (s.data.toList.take k) : Nat)) ∧ 0 ≤ a ∧ a ≤ 99999 ∧ Hid ((k ≤ 0 → a ≤ 0) ∧ (k ≤ 1 → a ≤ 9) ∧ (k ≤ 2 → a ≤ 99) ∧ (k ≤ 3 → a ≤ 999) ∧ (k ≤ 4 → a ≤ 9999))) (fun _ _ vi _ => s.size - (intOf vi).toNat)
  case atStart => exact ⟨0, 0, by simp, by simp, by simp, by simp, by omega, hideIt (by simp [numV]), by omega, by omega, hideIt (by omega)⟩
  case round =>
    obtain ⟨k, a, rfl, rfl, rfl, rfl, hk, hN, ha0, ha1, ha2⟩ := hrel
    by_cases hlt : k < s.size
    · have ck := HC.out k hlt
      have hx := HA.out k hlt
      have HG := hideIt (ba_get s k hlt)
      obtain ⟨c, hc⟩ : ∃ c, s[k] = c := ⟨_, rfl⟩
      rw [hc] at ck hx HG
      have ha3 : a ≤ 9999 := by have := ha2.out; omega
      have hsn := take_snoc _ _ _ HG.out
      have HT := hideIt hsn
      clear hc hsn
      have ⟨h1, h2⟩ : 48 ≤ c.toNat ∧ c.toNat ≤ 57 := by simpa [isD] using hx
      clear hx
      have _ := trivial
      · have i1 : (48 : Int) ≤ (c.toNat : Int) := by omega
        have i2 : (c.toNat : Int) ≤ (57 : Int) := by omega
        have i3 : ¬ ((c.toNat : Int) = 95) := by omega
        have i3b : ((c.toNat : Int) == 95) = false := by simp; omega
        have i4 : (c.toNat : Int) - 48 < 10 := by omega
        have i5 : ¬ (1844674407370955162 ≤ a) := by omega
        have hd : (dv c : Int) = (c.toNat : Int) - 48 := by unfold dv; rw [if_pos h2]; omega
        have HD := hideIt hd
        clear hd
        go_wp2_with fail
        go_roundw
        case rel =>
          have hz : a * 10 + ((c.toNat : Int) - 48) = ((numV 10 (s.data.toList.take (k + 1)) : Nat) : Int) := by
            rw [HT.out, numV_snoc]
            have e1 := hN.out
            have e2 := HD.out
            omega
          refine ⟨k + 1, a * 10 + ((c.toNat : Int) - 48), by simp, ?_, by go_num, by simp, by omega, hideIt hz, by omega, by omega, hideIt (by have := ha2.out; omega)⟩
          go_num
        case measure => simp [intOf]; omega
    · have hkn : k = s.size := by omega
      clear ha2
      go_wp2
      go_ret2
      refine ⟨?_, hb1⟩
      rw [hN.out, hkn, List.take_of_length_le (by rw [Array.length_toList]; exact Nat.le_refl _)]
      rfl
theorem isHx_plain (c : UInt8) (h : isHx c) : ((c.toNat : Int) == 43) = false ∧ ((c.toNat : Int) == 45) = false := by
  unfold isHx at h
  constructor <;> (simp; omega)
set_option maxRecDepth 100000 in
set_option maxHeartbeats 4000000 in
theorem pi_any (base : Int) (s : ByteArray) (v : Nat) (w : World) (h0 : 0 < s.size) (hv : v ≤ 100000) (hfirst : isHx s[0])
    (hpu : ∀ w, Calls Tryz.prog 295 #[.string s, .int .i64 base, .int .i64 32] w fun e w' => e = .returned (.tuple #[.int .u64 (v : Nat), .nilIface]) ∧ Below w.heap.size w w') :
    Calls Tryz.prog 276 #[.string s, .int .i64 base, .int .i64 32] w fun e w' => e = .returned (.tuple #[.int .i64 (v : Nat), .nilIface]) ∧ Below w.heap.size w w' := by
  have HP := hideIt hpu
  have hemp : s.toList.isEmpty = false := by rw [isEmpty_iff, decide_eq_false_iff_not]; omega
  obtain ⟨p1, p2⟩ := isHx_plain _ hfirst
  obtain ⟨c, hc⟩ : ∃ c, s[0] = c := ⟨_, rfl⟩
  rw [hc] at p1 p2
  have q1 : ¬ ((2147483648 : Int) ≤ (v : Int)) := by omega
  have hwr : IntKind.i64.wrap (v : Int) = v := wrap_small _ (by omega) (by omega)
  clear hpu hfirst
  obtain ⟨x, hx⟩ : ∃ x : Int, (v : Int) = x := ⟨_, rfl⟩
  rw [hx] at q1 hwr ⊢
  simp only [hx] at HP
  clear hx hv
  go_enter Tryz.func276, Tryz.ntmps276
  go_wp2_with fail
  refine (HP.out _).mono ?_
  rintro e w1 ⟨rfl, hb⟩
  go_wp2_with fail
  go_ret2
  exact ⟨rfl, hb⟩
set_option maxRecDepth 100000 in
set_option maxHeartbeats 1000000 in
theorem parseInt_any (base : Int) (s : ByteArray) (v : Nat) (w : World) (h0 : 0 < s.size) (hv : v ≤ 100000) (hfirst : isHx s[0])
    (hpu : ∀ w, Calls Tryz.prog 295 #[.string s, .int .i64 base, .int .i64 32] w fun e w' => e = .returned (.tuple #[.int .u64 (v : Nat), .nilIface]) ∧ Below w.heap.size w w') :
    Calls Tryz.prog 246 #[.string s, .int .i64 base, .int .i64 32] w fun e w' => e = .returned (.tuple #[.int .i64 (v : Nat), .nilIface]) ∧ Below w.heap.size w w' := by
  have HP := hideIt (fun w => pi_any base s v w h0 hv hfirst hpu)
  go_enter Tryz.func246, Tryz.ntmps246
  go_wp2_with (refine (HP.out _).mono ?_; rintro e w1 ⟨rfl, hb⟩)
  go_ret2
  exact ⟨rfl, hb⟩
end Go.Proofs.YthokdbcpkmcieaaGreatDoor
