/- The lines 'org N' and the empty one. -/
import Derived.Test.YthokdbcpkmcieaaGreatDoorS03
namespace Go.Proofs.YthokdbcpkmcieaaGreatDoor
open Go Go.RowKit Go.Shelf Go.WideMaps Go.Maps
def okO1 (n : Nat) : Bool := !((txO n).data.toList.contains 10) && (match parseL (txO n) with
  | none => false
  | some r => decide (r.1 = noB) && decide (r.2.task = 1) && decide (r.2.name = noB) && decide (r.2.vals.map (fun e => e.map encT) = [[(false, noB, false, (n : Int))]]) && decide (r.2.ins.code = 0) && decide (r.2.ins.kinds = []) && decide (r.2.ins.size = 0))
set_option maxRecDepth 100000 in
theorem ok_org0 : (List.range 50).all (fun i => okO1 (0 + i)) = true := by decide +kernel
set_option maxRecDepth 100000 in
theorem ok_org1 : (List.range 50).all (fun i => okO1 (50 + i)) = true := by decide +kernel
set_option maxRecDepth 100000 in
theorem ok_org2 : (List.range 50).all (fun i => okO1 (100 + i)) = true := by decide +kernel
set_option maxRecDepth 100000 in
theorem ok_org3 : (List.range 50).all (fun i => okO1 (150 + i)) = true := by decide +kernel
set_option maxRecDepth 100000 in
theorem ok_org4 : (List.range 50).all (fun i => okO1 (200 + i)) = true := by decide +kernel
set_option maxRecDepth 100000 in
theorem ok_org5 : (List.range 50).all (fun i => okO1 (250 + i)) = true := by decide +kernel
set_option maxRecDepth 100000 in
theorem ok_org6 : (List.range 50).all (fun i => okO1 (300 + i)) = true := by decide +kernel
set_option maxRecDepth 100000 in
theorem ok_org7 : (List.range 50).all (fun i => okO1 (350 + i)) = true := by decide +kernel
set_option maxRecDepth 100000 in
theorem ok_org8 : (List.range 50).all (fun i => okO1 (400 + i)) = true := by decide +kernel
set_option maxRecDepth 100000 in
theorem ok_org9 : (List.range 50).all (fun i => okO1 (450 + i)) = true := by decide +kernel
theorem ok_org : (List.range 500).all okO1 = true := by
  refine List.all_eq_true.2 fun i hi => ?_
  have h500 := List.mem_range.1 hi
  have hm : i % 50 ∈ List.range 50 := List.mem_range.2 (Nat.mod_lt _ (by decide))
  rcases (show i = 0 + i % 50 ∨ i = 50 + i % 50 ∨ i = 100 + i % 50 ∨ i = 150 + i % 50 ∨ i = 200 + i % 50 ∨ i = 250 + i % 50 ∨ i = 300 + i % 50 ∨ i = 350 + i % 50 ∨ i = 400 + i % 50 ∨ i = 450 + i % 50 by omega) with e | e | e | e | e | e | e | e | e | e
  · rw [e]; exact List.all_eq_true.1 ok_org0 _ hm
  · rw [e]; exact List.all_eq_true.1 ok_org1 _ hm
  · rw [e]; exact List.all_eq_true.1 ok_org2 _ hm
  · rw [e]; exact List.all_eq_true.1 ok_org3 _ hm
  · rw [e]; exact List.all_eq_true.1 ok_org4 _ hm
  · rw [e]; exact List.all_eq_true.1 ok_org5 _ hm
  · rw [e]; exact List.all_eq_true.1 ok_org6 _ hm
  · rw [e]; exact List.all_eq_true.1 ok_org7 _ hm
  · rw [e]; exact List.all_eq_true.1 ok_org8 _ hm
  · rw [e]; exact List.all_eq_true.1 ok_org9 _ hm
theorem org_is (n : Nat) (h : n < 500) : NoNL (txO n) ∧ parseL (txO n) = some (noB, orgS n) := by
  have hq := List.all_eq_true.1 ok_org n (List.mem_range.2 h)
  unfold okO1 at hq
  simp only [Bool.and_eq_true, Bool.not_eq_true'] at hq
  obtain ⟨h1, h2⟩ := hq
  refine ⟨(fun hm => by rw [List.contains_iff_mem.2 hm] at h1; cases h1), ?_⟩
  revert h2
  cases parseL (txO n) with
  | none => intro h2; cases h2
  | some r =>
    intro h2
    simp only [Bool.and_eq_true, decide_eq_true_eq] at h2
    obtain ⟨⟨⟨⟨⟨⟨a1, a2⟩, a3⟩, a4⟩, a5⟩, a6⟩, a7⟩ := h2
    rw [encS_inj (show encS r = encS (noB, orgS n) by unfold encS; rw [a1, a2, a3, a4, a5, a6, a7]; rfl)]
def emptyS : Stm := ⟨0, noB, [], ins0⟩
set_option maxRecDepth 100000 in
theorem empty_is : parseL noB = some (noB, emptyS) := by
  have h : (match parseL noB with
    | none => false
    | some r => decide (r.1 = noB) && decide (r.2.task = 0) && decide (r.2.name = noB) && decide (r.2.vals.length = 0) && decide (r.2.ins.code = 0) && decide (r.2.ins.kinds = []) && decide (r.2.ins.size = 0)) = true := by decide +kernel
  revert h
  cases parseL noB with
  | none => intro h2; cases h2
  | some r =>
    intro h2
    simp only [Bool.and_eq_true, decide_eq_true_eq] at h2
    obtain ⟨⟨⟨⟨⟨⟨a1, a2⟩, a3⟩, a4⟩, a5⟩, a6⟩, a7⟩ := h2
    rw [encS_inj (show encS r = encS (noB, emptyS) by unfold encS; rw [a1, a2, a3, List.eq_nil_of_length_eq_zero a4, a5, a6, a7]; rfl)]
theorem settle_empty {a : Asm} (hn : a.n ≤ 40) (hp : a.pl ≤ 1024) : ∃ b, settleF a noB emptyS = .ok b ∧ b.nm = a.nm ∧ b.pl = a.pl ∧ b.laid = a.laid ∧ b.bytes = a.bytes := by
  have hcu : cuF a.nm noB emptyS.task emptyS.name emptyS.vals = true := rfl
  have hcg : cgF a.nm a.n (givenS noB emptyS.task emptyS.name) = none := by
    show cgF a.nm a.n [] = none
    unfold cgF
    rw [if_neg (by simp), if_neg (by simp; omega)]
  have hsp : spanF a.pl 0 a.laid = none := by
    unfold spanF
    rw [if_neg (by omega), if_neg (by simp)]
  refine ⟨{ a with pl := a.pl + 0, laid := setR a.laid a.pl 0, starts := a.starts }, ?_, rfl, rfl, rfl, rfl⟩
  unfold settleF
  rw [if_neg (by simp [hcu]), hcg]
  simp only
  rw [if_neg (by decide), if_neg (by decide), if_neg (by decide), if_neg (by decide), show sizeS emptyS.task emptyS.vals.length emptyS.ins.size = 0 from rfl, hsp]
  rfl
end Go.Proofs.YthokdbcpkmcieaaGreatDoor
