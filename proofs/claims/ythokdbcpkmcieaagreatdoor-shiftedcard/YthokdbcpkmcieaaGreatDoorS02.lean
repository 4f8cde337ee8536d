/- The lines of Shifted. -/
import Derived.Test.YthokdbcpkmcieaaGreatDoorS01
namespace Go.Proofs.YthokdbcpkmcieaaGreatDoor
open Go Go.RowKit Go.Shelf Go.WideMaps Go.Maps
def txB (l : List UInt8) : ByteArray := ⟨l.toArray⟩
def itB : Nat → Item
  | 0 => ⟨txB [110, 111, 112], noB, stm6 [] 0 [] 1, [0]⟩
  | 1 => ⟨txB [109, 111, 118, 32, 97, 44, 35, 55], noB, stm6 [[nm 0], [nm 7]] 116 [0, 9] 2, [116, 7]⟩
  | 2 => ⟨txB [105, 110, 99, 32, 114, 51], noB, stm6 [[nm 3]] 8 [8] 1, [11]⟩
  | 3 => ⟨txB [112, 117, 115, 104, 32, 49, 54], noB, stm6 [[nm 16]] 192 [11] 2, [192, 16]⟩
  | 4 => ⟨txB [99, 112, 108, 32, 99], noB, stm6 [[nm 0]] 179 [2] 1, [179]⟩
  | 5 => ⟨txB [109, 111, 118, 120, 32, 97, 44, 64, 100, 112, 116, 114], noB, stm6 [[nm 0], [nm 0]] 224 [0, 6] 1, [224]⟩
  | 6 => ⟨txB [120, 99, 104, 32, 97, 44, 64, 114, 49], noB, stm6 [[nm 0], [nm 1]] 198 [0, 7] 1, [199]⟩
  | _ => ⟨txB [109, 117, 108, 32, 97, 98], noB, stm6 [[nm 0]] 164 [1] 1, [164]⟩
def itS : Item := ⟨txB [115, 106, 109, 112, 32, 36, 43, 52], noB, stm6 [[⟨false, noB, true, 0⟩, nm 4]] 128 [15] 2, [128, 2]⟩
def lbD (i : Nat) : ByteArray := txB [76] ++ decF 3 i
def txD (i k : Nat) : ByteArray := txB [108] ++ decF 3 i ++ txB [58, 32, 100, 106, 110, 122, 32, 114] ++ decF 3 k ++ txB [44, 108] ++ decF 3 i
def itD (i k : Nat) : Item := ⟨txD i k, lbD i, stm6 [[nm k], [⟨false, lbD i, false, 0⟩]] 216 [8, 15] 2, [216 + k, 254]⟩
/-- Is it that statement? -/
def samS (o : Option (ByteArray × Stm)) (q : ByteArray × Stm) : Bool := match o with
  | none => false
  | some r => decide (r.1 = q.1) && decide (r.2.task = q.2.task) && decide (r.2.name = q.2.name) && decide (r.2.vals.map (fun e => e.map encT) = q.2.vals.map (fun e => e.map encT)) && decide (r.2.ins.code = q.2.ins.code) && decide (r.2.ins.kinds = q.2.ins.kinds) && decide (r.2.ins.size = q.2.ins.size)
theorem samS_is {o : Option (ByteArray × Stm)} {q : ByteArray × Stm} (h : samS o q = true) : o = some q := by
  cases o with
  | none => cases h
  | some r =>
    unfold samS at h
    simp only [Bool.and_eq_true, decide_eq_true_eq] at h
    obtain ⟨⟨⟨⟨⟨⟨h1, h2⟩, h3⟩, h4⟩, h5⟩, h6⟩, h7⟩ := h
    rw [encS_inj (show encS r = encS q by unfold encS; rw [h1, h2, h3, h4, h5, h6, h7])]
/-- The closed facts of a line. -/
def okI (it : Item) : Bool := !(it.text.data.toList.contains 10) && decide (it.text.size ≤ 24) && samS (parseL it.text) (it.lb, it.x) && decide (it.x.task = 6) && !(tooS it.x.vals) && !((givenS it.lb it.x.task it.x.name ++ usedS it.x.vals).any longN) && (usedS it.x.vals).all (fun s => decide (it.lb ≠ noB) && decide (s = it.lb)) && decide (it.bs.length = it.x.ins.size) && decide (1 ≤ it.x.ins.size) && decide (it.x.ins.size ≤ 2)
theorem okI_ok {it : Item} (h : okI it = true) (hb : ∀ (f : List UInt8 → Option Int) (p : Nat), p ≤ 1000 → (it.lb ≠ noB → f it.lb.data.toList = some (p : Int)) → bytS f p it.x = some it.bs) : ItOk it := by
  unfold okI at h
  simp only [Bool.and_eq_true, decide_eq_true_eq, Bool.not_eq_true', List.all_eq_true] at h
  obtain ⟨⟨⟨⟨⟨⟨⟨⟨⟨h1, h2⟩, h3⟩, h4⟩, h5⟩, h6⟩, h7⟩, h8⟩, h9⟩, h10⟩ := h
  exact ⟨(fun hm => by rw [List.contains_iff_mem.2 hm] at h1; cases h1), h2, samS_is h3, h4, h5, h6, h7, h8, ⟨h9, h10⟩, hb⟩
set_option maxRecDepth 100000 in
theorem ok_base : (List.range 8).all (fun t => okI (itB t)) = true := by decide +kernel
set_option maxRecDepth 100000 in
theorem ok_sj : okI itS = true := by decide +kernel
set_option maxRecDepth 100000 in
theorem ok_dj0 : (List.range 3).all (fun i => (List.range 8).all fun k => okI (itD (0 + i) k)) = true := by decide +kernel
set_option maxRecDepth 100000 in
theorem ok_dj1 : (List.range 3).all (fun i => (List.range 8).all fun k => okI (itD (3 + i) k)) = true := by decide +kernel
set_option maxRecDepth 100000 in
theorem ok_dj2 : (List.range 3).all (fun i => (List.range 8).all fun k => okI (itD (6 + i) k)) = true := by decide +kernel
set_option maxRecDepth 100000 in
theorem ok_dj3 : (List.range 3).all (fun i => (List.range 8).all fun k => okI (itD (9 + i) k)) = true := by decide +kernel
set_option maxRecDepth 100000 in
theorem ok_dj4 : (List.range 3).all (fun i => (List.range 8).all fun k => okI (itD (12 + i) k)) = true := by decide +kernel
set_option maxRecDepth 100000 in
theorem ok_dj5 : (List.range 3).all (fun i => (List.range 8).all fun k => okI (itD (15 + i) k)) = true := by decide +kernel
set_option maxRecDepth 100000 in
theorem ok_dj6 : (List.range 3).all (fun i => (List.range 8).all fun k => okI (itD (18 + i) k)) = true := by decide +kernel
set_option maxRecDepth 100000 in
theorem ok_dj7 : (List.range 3).all (fun i => (List.range 8).all fun k => okI (itD (21 + i) k)) = true := by decide +kernel
set_option maxRecDepth 100000 in
theorem ok_dj8 : (List.range 3).all (fun i => (List.range 8).all fun k => okI (itD (24 + i) k)) = true := by decide +kernel
set_option maxRecDepth 100000 in
theorem ok_dj9 : (List.range 3).all (fun i => (List.range 8).all fun k => okI (itD (27 + i) k)) = true := by decide +kernel
theorem ok_dj : (List.range 30).all (fun i => (List.range 8).all fun k => okI (itD i k)) = true := by
  refine List.all_eq_true.2 fun i hi => ?_
  have h30 := List.mem_range.1 hi
  have hm : i % 3 ∈ List.range 3 := List.mem_range.2 (Nat.mod_lt _ (by decide))
  rcases (show i = 0 + i % 3 ∨ i = 3 + i % 3 ∨ i = 6 + i % 3 ∨ i = 9 + i % 3 ∨ i = 12 + i % 3 ∨ i = 15 + i % 3 ∨ i = 18 + i % 3 ∨ i = 21 + i % 3 ∨ i = 24 + i % 3 ∨ i = 27 + i % 3 by omega) with e | e | e | e | e | e | e | e | e | e
  · rw [e]; exact List.all_eq_true.1 ok_dj0 _ hm
  · rw [e]; exact List.all_eq_true.1 ok_dj1 _ hm
  · rw [e]; exact List.all_eq_true.1 ok_dj2 _ hm
  · rw [e]; exact List.all_eq_true.1 ok_dj3 _ hm
  · rw [e]; exact List.all_eq_true.1 ok_dj4 _ hm
  · rw [e]; exact List.all_eq_true.1 ok_dj5 _ hm
  · rw [e]; exact List.all_eq_true.1 ok_dj6 _ hm
  · rw [e]; exact List.all_eq_true.1 ok_dj7 _ hm
  · rw [e]; exact List.all_eq_true.1 ok_dj8 _ hm
  · rw [e]; exact List.all_eq_true.1 ok_dj9 _ hm
set_option maxRecDepth 100000 in
theorem lb_inj : (List.range 30).all (fun i => (List.range 30).all fun j => decide (i = j) || decide ((lbD i).data.toList ≠ (lbD j).data.toList)) = true := by decide +kernel
end Go.Proofs.YthokdbcpkmcieaaGreatDoor
