/- What the operands add: the functions of the table's first column, each by its kind. -/
import Derived.Test.YthokdbcpkmcieaaDoorWays
import Derived.WalkSpells
import Derived.Shelf.Abstract
namespace Go.Proofs.YthokdbcpkmcieaaDoor
open Go Go.RowKit Go.Shelf
/-- One byte of the rest. -/
def readB (r : ByteArray) (sh : Bool) : Int × ByteArray × Bool := if h : 0 < r.size then ((r[0].toNat : Int), r.extract 1 r.size, sh) else (0, r, true)
def readW (r : ByteArray) (sh : Bool) : Int × ByteArray × Bool := (bits BinOp.or IntKind.u16 ((readB r sh).1 * 256) (readB (readB r sh).2.1 (readB r sh).2.2).1, (readB (readB r sh).2.1 (readB r sh).2.2).2)
/-- What an operand of this kind reads. -/
def readOne (k : Nat) (r : ByteArray) (sh : Bool) : Int × ByteArray × Bool := if k ≤ 8 then (0, r, sh) else if k = 10 ∨ k = 14 then readW r sh else readB r sh
/-- The function of this kind. -/
def addF (k : Nat) : Nat := if k ≤ 8 then 27 else if k = 10 ∨ k = 14 then 35 else 32
/-- The reading's two cells. -/
structure Reads (w : World) (b : Nat) (r : ByteArray) (sh : Bool) : Prop where
  c0 : w.cell? ⟨b, 0, none⟩ = some (.string r)
  c1 : w.cell? ⟨b, 1, none⟩ = some (.bool sh)
  f0 : w.frozen? ⟨b, 0, none⟩ = false
  f1 : w.frozen? ⟨b, 1, none⟩ = false
set_option maxHeartbeats 400000 in
theorem nothing_any (v : Value) (w : World) :
    Calls Tryd.prog 27 #[v] w fun e w' => e = .returned (.int .u16 0) ∧ w' = w := by
  go_enter Tryd.func27, Tryd.ntmps27
  go_wp2
  go_ret
  exact ⟨rfl, rfl⟩
theorem wrap_byte (x : UInt8) : IntKind.u16.wrap (x.toNat : Int) = x.toNat := by
  have := x.toNat_lt
  unfold IntKind.wrap
  simp [IntKind.bits]
  omega
theorem grown_set (w : World) (b o : Nat) (u : Value) : w.grownBy (w.setCell ⟨b, o, none⟩ u) (some b) :=
  ⟨rfl, rfl, rfl, by simp [World.setCell], fun k _ hk => Below.heap_setCell _ _ _ _ (fun e => hk (by rw [e]))⟩
theorem isEmpty_iff (r : ByteArray) : r.toList.isEmpty = decide (r.size = 0) := by
  rw [ByteArray.toList_eq]
  have h : r.size = r.data.toList.length := (Array.length_toList (xs := r.data)).symm
  rw [h]
  cases r.data.toList with
  | nil => rfl
  | cons x l => rfl
theorem Reads.set0 {w : World} {b : Nat} {r : ByteArray} {sh : Bool} (h : Reads w b r sh) (r' : ByteArray) : Reads (w.setCell ⟨b, 0, none⟩ (.string r')) b r' sh :=
  ⟨World.cell?_setCell_same _ _ _ h.c0, by rw [World.cell?_setCell_other _ _ _ _ (by simp)]; exact h.c1, by simp [h.f0], by simp [h.f1]⟩
theorem Reads.set1 {w : World} {b : Nat} {r : ByteArray} {sh : Bool} (h : Reads w b r sh) (sh' : Bool) : Reads (w.setCell ⟨b, 1, none⟩ (.bool sh')) b r sh' :=
  ⟨by rw [World.cell?_setCell_other _ _ _ _ (by simp)]; exact h.c0, World.cell?_setCell_same _ _ _ h.c1, by simp [h.f0], by simp [h.f1]⟩
set_option maxHeartbeats 400000 in
theorem oneByte_any (b : Nat) (r : ByteArray) (sh : Bool) (w : World) (h : Reads w b r sh) :
    Calls Tryd.prog 32 #[.pointer (some ⟨b, 0, none⟩)] w fun e w' => e = .returned (.int .u16 (readB r sh).1) ∧ Reads w' b (readB r sh).2.1 (readB r sh).2.2 ∧ w.grownBy w' (some b) := by
  have HR : Hid (Reads w b r sh) := h
  obtain ⟨c0, c1, f0, f1⟩ := h
  by_cases hp : 0 < r.size
  · have e : readB r sh = ((r[0].toNat : Int), r.extract 1 r.size, sh) := by unfold readB; rw [dif_pos hp]
    have hs : r.toList.isEmpty = false := by rw [isEmpty_iff]; simp only [decide_eq_false_iff_not]; omega
    rw [e]
    have HW : Hid (IntKind.u16.wrap (r[0].toNat : Int) = r[0].toNat) := wrap_byte _
    clear e
    go_enter Tryd.func32, Tryd.ntmps32
    go_wp2
    go_ret
    refine ⟨?_, HR.out.set0 _, grown_set _ _ _ _⟩
    show Ending.returned (.int .u16 (IntKind.u16.wrap (r[0].toNat : Int))) = _
    rw [HW.out]
  · have e : readB r sh = (0, r, true) := by unfold readB; rw [dif_neg hp]
    have hs : r.toList.isEmpty = true := by rw [isEmpty_iff]; simp only [decide_eq_true_eq]; omega
    rw [e]
    clear e
    go_enter Tryd.func32, Tryd.ntmps32
    go_wp2
    go_ret
    exact ⟨rfl, HR.out.set1 _, grown_set _ _ _ _⟩
theorem grown_trans {w w1 w2 : World} {b : Nat} (h : w.grownBy w1 (some b)) (k : w1.grownBy w2 (some b)) : w.grownBy w2 (some b) :=
  ⟨k.os.trans h.os, k.tape.trans h.tape, k.output.trans h.output, Nat.le_trans h.size k.size, fun i hi hb => (k.block i (Nat.lt_of_lt_of_le hi h.size) hb).trans (h.block i hi hb)⟩
theorem readB_bound (r : ByteArray) (sh : Bool) : 0 ≤ (readB r sh).1 ∧ (readB r sh).1 ≤ 255 := by
  unfold readB
  split
  · have := (r[0]).toNat_lt; simp only; omega
  · simp
set_option maxHeartbeats 400000 in
theorem twoBytes_any (b : Nat) (r : ByteArray) (sh : Bool) (w : World) (h : Reads w b r sh) :
    Calls Tryd.prog 35 #[.pointer (some ⟨b, 0, none⟩)] w fun e w' => e = .returned (.int .u16 (readW r sh).1) ∧ Reads w' b (readW r sh).2.1 (readW r sh).2.2 ∧ w.grownBy w' (some b) := by
  have HR : Hid (Reads w b r sh) := h
  unfold readW
  have HB := readB_bound r sh
  obtain ⟨p, hp⟩ : ∃ p, readB r sh = p := ⟨_, rfl⟩
  obtain ⟨q, hq⟩ : ∃ q, readB p.2.1 p.2.2 = q := ⟨_, rfl⟩
  rw [hp] at HB
  rw [hp, hq]
  have HP : Hid (readB r sh = p) := hp
  have HQ : Hid (readB p.2.1 p.2.2 = q) := hq
  have b0 := HB.1
  have b1 := HB.2
  clear hp hq h HB
  go_enter Tryd.func35, Tryd.ntmps35
  go_wp2_with fail
  refine (oneByte_any b r sh _ HR.out).mono ?_
  rintro e w1 ⟨rfl, h1, g1⟩
  rw [HP.out] at h1 ⊢
  have H1 : Hid (Reads w1 b p.2.1 p.2.2) := h1
  have G1 : Hid (w.grownBy w1 (some b)) := g1
  clear h1 g1
  go_wp2_with fail
  refine (oneByte_any b p.2.1 p.2.2 _ H1.out).mono ?_
  rintro e w2 ⟨rfl, h2, g2⟩
  rw [HQ.out] at h2 ⊢
  have H2 : Hid (Reads w2 b q.2.1 q.2.2) := h2
  have G2 : Hid (w1.grownBy w2 (some b)) := g2
  clear h2 g2
  go_wp2
  go_ret
  exact ⟨rfl, H2.out, grown_trans G1.out G2.out⟩
theorem adds_any (k : Nat) (b : Nat) (r : ByteArray) (sh : Bool) (w : World) (h : Reads w b r sh) :
    Calls Tryd.prog (addF k) #[.pointer (some ⟨b, 0, none⟩)] w fun e w' => e = .returned (.int .u16 (readOne k r sh).1) ∧ Reads w' b (readOne k r sh).2.1 (readOne k r sh).2.2 ∧ w.grownBy w' (some b) := by
  unfold addF readOne
  split
  · refine (nothing_any _ _).mono ?_
    rintro e w' ⟨rfl, rfl⟩
    exact ⟨rfl, h, ⟨rfl, rfl, rfl, Nat.le_refl _, fun _ _ _ => rfl⟩⟩
  · split
    · exact twoBytes_any b r sh w h
    · exact oneByte_any b r sh w h
theorem addF_enters (k : Nat) (args : Array Value) (w : World) : (callFunc (addF k) args).run Tryd.prog w = .ok (.enter (addF k) args) w := by
  unfold addF
  split
  · exact enters_of Tryd.func27 (by kernel_rfl) rfl args w
  · split
    · exact enters_of Tryd.func35 (by kernel_rfl) rfl args w
    · exact enters_of Tryd.func32 (by kernel_rfl) rfl args w
theorem addF_cell (k : Nat) (h : k < 17) : waysCells[3 * k + 1]? = some (fv (addF k)) := by
  match k, h with
  | 0, _ => rfl
  | 1, _ => rfl
  | 2, _ => rfl
  | 3, _ => rfl
  | 4, _ => rfl
  | 5, _ => rfl
  | 6, _ => rfl
  | 7, _ => rfl
  | 8, _ => rfl
  | 9, _ => rfl
  | 10, _ => rfl
  | 11, _ => rfl
  | 12, _ => rfl
  | 13, _ => rfl
  | 14, _ => rfl
  | 15, _ => rfl
  | 16, _ => rfl
  | n + 17, h => exact absurd h (by omega)
end Go.Proofs.YthokdbcpkmcieaaDoor
