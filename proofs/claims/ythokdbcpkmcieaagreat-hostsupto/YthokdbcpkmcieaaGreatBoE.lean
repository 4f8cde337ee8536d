/- Walks of the program's board: pages. -/
import Derived.Test.YthokdbcpkmcieaaGreatBoD
import Derived.RangeFuncNested
import Derived.RangeFuncBound
import Derived.RangeFuncCalls
import Derived.RangeFuncLeaves
import Derived.RangeFuncBox
import Derived.Shelf.Abstract
import Derived.Shelf.RegionOpen
import Derived.OwnWalkIn
import Derived.TacticsInMore
import Derived.LoopNIn
import Derived.LoopIn
import Derived.Deep.WholeRow
namespace Go.Proofs.YthokdbcpkmcieaaGreat
open Go Go.RowKit Go.Shelf
attribute [local go_sem] Oper.semAt_some
/-- The records from the last one down to m. -/
def down (mem : List UInt8) (m : Nat) : List (Nat × List UInt8) := (List.range (60 - m)).map fun j => (59 - j, slotF mem (59 - j))
theorem down_succ (mem : List UInt8) (m : Nat) (hm : m < 60) : down mem m = down mem (m + 1) ++ [(m, slotF mem m)] := by
  unfold down
  rw [show 60 - m = (60 - (m + 1)) + 1 by omega, List.range_succ, List.map_append]
  simp only [List.map_cons, List.map_nil]
  rw [show 59 - (60 - (m + 1)) = m by omega]
theorem down_length (mem : List UInt8) (m : Nat) : (down mem m).length = 60 - m := by simp [down]
set_option maxRecDepth 100000 in
set_option maxHeartbeats 4000000 in
theorem back1_in (F : Fence) (n : Nat) (h7 : F.fn 132) (hro : F.round = none) (hn : 1 ≤ n) (l Bs n₀ bb : Nat) (p : Pow) (mem : List UInt8) (hb : bb < n₀) (J Jx : List (Nat × List UInt8) → World → Prop)
    (hY : ∀ pre x W, J pre W → pre.length < 60 → YieldAt F (n - 1) Tryz.prog l #[.int .i64 (x.1 : Int), recV x.2] W fun e W' =>
      (e = .returned (.bool true) ∧ J (pre ++ [x]) W' ∧ Below n₀ W W') ∨ (e = .returned (.bool false) ∧ Jx (pre ++ [x]) W'))
    (W : World) (hBs : W.cell? ⟨Bs, 0, none⟩ = some (.slice (some ⟨bb, 1028, none⟩) 60 60)) (hBn : Bs < n₀) (hS : StoAt W bb p mem) (h0 : J [] W) :
    CallsIn F n Tryz.prog 132 #[.func (.yield l) #[] #[], .pointer (some ⟨Bs, 0, none⟩)] W fun e W' => (∃ v, e = .returned v) ∧
      ((∃ ys, ys = down mem 0 ∧ J ys W') ∨ (∃ pre, (∃ k, k ≤ 60 ∧ pre = down mem k) ∧ Jx pre W')) := by
  refine callsIn_of_wp Tryz.func132 rfl h7 ?_ hro
  simp only [Tryz.ntmps132, List.size_toArray, List.length_cons, List.length_nil, Nat.reduceAdd, Nat.reduceSub, Array.replicate_succ, Array.replicate_zero, List.push_toArray, List.append_toArray, List.nil_append, List.cons_append]
  gi_wp2
  gi_loopw [3] (fun i wr => ∃ m : Nat, m ≤ 60 ∧ i = .int .i64 ((m : Int) - 1) ∧ J (down mem m) wr ∧ Below n₀ W wr) (fun i _ => (intOf i + 1).toNat)
  case atStart =>
    refine ⟨60, by omega, rfl, ?_, Below.refl _ _⟩
    exact h0
  case round =>
    obtain ⟨m, hm, rfl, hJ, hbl⟩ := hrel
    have cs : wr.cell? ⟨Bs, 0, none⟩ = some (.slice (some ⟨bb, 1028, none⟩) 60 60) := (hbl.cell (p := ⟨Bs, 0, none⟩) hBn).trans hBs
    cases m with
    | zero =>
      gi_wp2
      go_end0
      exact ⟨⟨_, rfl⟩, .inl ⟨_, rfl, hJ⟩⟩
    | succ m =>
      have hsl : BytesAt wr bb (1028 + m * 4) (slotF mem m) := (hS.slot m (by omega)).kept (hbl.block bb hb)
      obtain ⟨a0, a1, a2, a3, ha⟩ := four (slot_length hS.len m (by omega))
      rw [ha] at hsl
      obtain ⟨s0, s1, s2, s3⟩ := four_cells hsl
      obtain ⟨fn, tmps, assign, body, hy, hR⟩ := hY _ (m, [a0, a1, a2, a3]) wr hJ (by rw [down_length]; omega)
      have hd : down mem m = down mem (m + 1) ++ [(m, [a0, a1, a2, a3])] := by rw [down_succ mem m (by omega), ha]
      rw [← hd] at hR
      have hy' : (Instr.yield l #[.int .i64 (m : Int), .agg #[.int .u8 (a0.toNat : Int), .int .u8 (a1.toNat : Int), .int .u8 (a2.toNat : Int), .int .u8 (a3.toNat : Int)]]).run Tryz.prog wr = .ok (.round l fn tmps assign body) wr := hy
      have e1 : ((m + 1 : Nat) : Int) - 1 = (m : Int) := by omega
      rw [e1]
      have hmi : (m : Int) < 60 := by omega
      have hm0 : (0 : Int) ≤ (m : Int) := by omega
      have HD := hideIt hbl
      clear hsl hy hd hbl ha hJ
      gi_wp2
      refine hR.mono ?_
      rintro e W3 (⟨rfl, hJ3, hk3⟩ | ⟨rfl, hJx3⟩)
      · gi_wp2
        go_roundw
        case rel => exact ⟨m, by omega, rfl, hJ3, HD.out.trans hk3⟩
        case measure => simp [intOf]
      · gi_wp2
        refine bodyPost_ret (results_none rfl _ _ _) rfl ?_
        exact ⟨⟨_, rfl⟩, .inr ⟨_, ⟨m, by omega, rfl⟩, hJx3⟩⟩
set_option maxHeartbeats 1000000 in
theorem back_in (F : Fence) (n : Nat) (h5 : F.fn 119) (hro : F.round = none) (a : Option Addr) (len cap : Nat) (w : World) :
    CallsIn F n Tryz.prog 119 #[.slice a len cap] w fun e w' => e = .returned (.func (.func 132) #[] #[.pointer (some ⟨w.heap.size, 0, none⟩)]) ∧ w' = w.alloc (.cells #[.slice a len cap] 176) := by
  refine callsIn_of_wp Tryz.func119 rfl h5 ?_ hro
  simp only [Tryz.ntmps119, List.size_toArray, List.length_cons, List.length_nil, Nat.reduceAdd, Nat.reduceSub, Array.replicate_succ, Array.replicate_zero, List.push_toArray, List.append_toArray, List.nil_append, List.cons_append]
  gi_wp2
  go_ret
  exact ⟨rfl, rfl⟩
theorem back_stops (F : Fence) (n : Nat) (h7 : F.fn 132) (hro : F.round = none) (hn : 1 ≤ n) (Bs n₀ bb : Nat) (p : Pow) (mem : List UInt8) (w : World) (hBs : Bs < n₀) (hn₀ : n₀ ≤ w.heap.size) (hb : bb < n₀)
    (hc : w.cell? ⟨Bs, 0, none⟩ = some (.slice (some ⟨bb, 1028, none⟩) 60 60)) (hS : StoAt w bb p mem) :
    SeqStopsK F n Tryz.prog 132 #[.pointer (some ⟨Bs, 0, none⟩)] (fun x : Nat × List UInt8 => #[Value.int .i64 (x.1 : Int), .agg #[.int .u8 ((x.2[0]?.getD 0).toNat : Int), .int .u8 ((x.2[1]?.getD 0).toNat : Int), .int .u8 ((x.2[2]?.getD 0).toNat : Int), .int .u8 ((x.2[3]?.getD 0).toNat : Int)]]) (Below n₀) (fun ys => ys = down mem 0)
      (fun pre => ∃ k, k ≤ 60 ∧ pre = down mem k) 60 w := fun l J Jx W hW _ _ hY h0 =>
  back1_in F n h7 hro hn l Bs n₀ bb p mem hb J Jx hY W ((hW.cell (p := ⟨Bs, 0, none⟩) (Nat.lt_of_lt_of_le hBs hn₀)).trans hc) hBs (hS.below hW) h0
/-- A block of cells lies as it lay. -/
theorem heapIs_own {β : Type} (B : Nat) (o : Obj) (ho : o.isCells = true) : Own (fun (_ : β) W => W.heap[B]? = some o) := by
  intro s W W' row h hg hr
  rw [hg.block B (Array.getElem?_eq_some_iff.1 h).1 (fun e => by
    obtain ⟨o', h1, h2⟩ := hr B e.symm
    rw [h] at h1
    cases h1
    rw [ho] at h2
    cases h2)]
  exact h
def norm4 (l : List UInt8) : List UInt8 := [l[0]?.getD 0, l[1]?.getD 0, l[2]?.getD 0, l[3]?.getD 0]
theorem norm4_of {l : List UInt8} (h : l.length = 4) : norm4 l = l := by
  obtain ⟨a, b, c, d, rfl⟩ := four h
  rfl
def recO (l : List UInt8) : Obj := .cells #[.int .u8 ((l[0]?.getD 0).toNat : Int), .int .u8 ((l[1]?.getD 0).toNat : Int), .int .u8 ((l[2]?.getD 0).toNat : Int), .int .u8 ((l[3]?.getD 0).toNat : Int)] 61
theorem burnt_down {mem : List UInt8} {n : UInt8} : ∀ (d m : Nat), d + m = 60 → mem.length = 1264 → (∀ x ∈ down mem m, norm4 x.2 ≠ recF mem n 1 ∧ norm4 x.2 ≠ recF mem n 2) → burntF mem n = burntS mem n m
  | 0, m, hm, _, _ => by
    obtain rfl : m = 60 := by omega
    rfl
  | d + 1, m, hm, hl, h => by
    rw [down_succ mem m (by omega)] at h
    have h1 := h (m, slotF mem m) (by simp)
    rw [show norm4 (m, slotF mem m).2 = slotF mem m from norm4_of (slot_length hl m (by omega))] at h1
    rw [burnt_down d (m + 1) (by omega) hl (fun x hx => h x (List.mem_append.2 (.inl hx)))]
    rw [burntS, if_neg h1.1, if_neg h1.2]
set_option maxRecDepth 100000 in
set_option maxHeartbeats 8000000 in
theorem isBurnt_in (n0 : Nat) (hn : 6 ≤ n0) (bb : Nat) (p : Pow) (mem : List UInt8) (n : UInt8) (w : World) (h : StoAt w bb p mem) (hn16 : n < 16) :
    CallsIn Fence.wide n0 Tryz.prog 99 #[.pointer (some ⟨bb, 4, none⟩), .int .u8 (n.toNat : Int)] w fun e w' => e = .returned (.bool (burntF mem n)) ∧ Below w.heap.size w w' := by
  have hlt := h.lt
  have h1 : 1 ≤ n0 := by omega
  refine callsIn_of_wp_marks Tryz.func99 rfl trivial ?_ rfl
  simp only [Tryz.ntmps99, List.size_toArray, List.length_cons, List.length_nil, Nat.reduceAdd, Nat.reduceSub, Array.replicate_succ, Array.replicate_zero, List.push_toArray, List.append_toArray, List.nil_append, List.cons_append]
  obtain ⟨x1, y1, hr1⟩ := recF_cons mem n 1
  obtain ⟨x2, y2, hr2⟩ := recF_cons mem n 2
  have HC1 := hideIt (fun w' => record_one bb n mem w')
  have HC2 := hideIt (fun w' (h' : StoAt w' bb p mem) => record_two bb p mem n w' h' hn16)
  rw [hr1] at HC1
  rw [hr2] at HC2
  have hv1 : recV [n, 1, x1, y1] = .agg #[.int .u8 (n.toNat : Int), .int .u8 1, .int .u8 (x1.toNat : Int), .int .u8 (y1.toNat : Int)] := rfl
  have hv2 : recV [n, 2, x2, y2] = .agg #[.int .u8 (n.toNat : Int), .int .u8 2, .int .u8 (x2.toNat : Int), .int .u8 (y2.toNat : Int)] := rfl
  rw [hv1] at HC1
  rw [hv2] at HC2
  have HS := hideIt h
  clear h hv1 hv2
  gi_wp2_with fail
  refine ⟨trivial, (callsIn_wide.2 (HC1.out _)).mono ?_⟩
  rintro e w1 ⟨rfl, hb1⟩
  have hB1 : Below w.heap.size w w1 := ((Below.refl _ w).alloc (Nat.le_refl _) _).trans (hb1.mono (by simp))
  have hR1 : w1.heap[w.heap.size]? = some (.cells #[.bool false] 4) := (hb1.block w.heap.size (by simp)).trans (heap_alloc_new w _)
  have hz1 : w.heap.size < w1.heap.size := by have := hb1.size; simp at this; omega
  gi_wp2_with fail
  refine ⟨trivial, (callsIn_wide.2 (HC2.out _ (HS.out.below hB1))).mono ?_⟩
  rintro e w2 ⟨rfl, hb2⟩
  have hB2 : Below w.heap.size w w2 := hB1.trans (hb2.mono (by omega))
  have hR2 : w2.heap[w.heap.size]? = some (.cells #[.bool false] 4) := (hb2.block w.heap.size hz1).trans hR1
  have hz2 : w.heap.size < w2.heap.size := by have := hb2.size; omega
  have HW := hideIt (And.intro hB2 hR2)
  clear hB1 hR1 hb1 hb2 hB2 hR2 HC1 HC2
  gi_wp2_with (refine ⟨trivial, ?_⟩; gi_at_call 119; refine (back_in Fence.wide (n0 - 1) trivial rfl _ _ _ _).mono ?_; rintro e w' ⟨rfl, rfl⟩)
  obtain ⟨W0, hW0⟩ : ∃ W0, ((w2.alloc (.cells #[.int .u8 (n.toNat : Int), .int .u8 1, .int .u8 (x1.toNat : Int), .int .u8 (y1.toNat : Int)] 61)).alloc (.cells #[.int .u8 (n.toNat : Int), .int .u8 2, .int .u8 (x2.toNat : Int), .int .u8 (y2.toNat : Int)] 61)).alloc (.cells #[.slice (some ⟨bb, 1028, none⟩) 60 60] 176) = W0 := ⟨_, rfl⟩
  have hsz : W0.heap.size = w2.heap.size + 3 := by rw [← hW0]; simp
  have hB0 : Below w.heap.size w W0 := by rw [← hW0]; exact ((HW.out.1.alloc (by omega) _).alloc (by simp; omega) _).alloc (by simp; omega) _
  have hR0 : W0.heap[w.heap.size]? = some (.cells #[.bool false] 4) := by
    rw [← hW0, Below.heap_alloc _ _ _ (by simp; omega), Below.heap_alloc _ _ _ (by simp; omega), Below.heap_alloc _ _ _ hz2]; exact HW.out.2
  have hP1 : W0.heap[w2.heap.size]? = some (.cells #[.int .u8 (n.toNat : Int), .int .u8 1, .int .u8 (x1.toNat : Int), .int .u8 (y1.toNat : Int)] 61) := by
    rw [← hW0, Below.heap_alloc _ _ _ (by simp; omega), Below.heap_alloc _ _ _ (by simp)]; exact heap_alloc_new _ _
  have hP2 : W0.heap[w2.heap.size + 1]? = some (.cells #[.int .u8 (n.toNat : Int), .int .u8 2, .int .u8 (x2.toNat : Int), .int .u8 (y2.toNat : Int)] 61) := by
    rw [← hW0, Below.heap_alloc _ _ _ (by simp)]
    have := heap_alloc_new (w2.alloc (.cells #[.int .u8 (n.toNat : Int), .int .u8 1, .int .u8 (x1.toNat : Int), .int .u8 (y1.toNat : Int)] 61)) (.cells #[.int .u8 (n.toNat : Int), .int .u8 2, .int .u8 (x2.toNat : Int), .int .u8 (y2.toNat : Int)] 61)
    rwa [World.alloc_size] at this
  have hP3 : W0.cell? ⟨w2.heap.size + 1 + 1, 0, none⟩ = some (.slice (some ⟨bb, 1028, none⟩) 60 60) := by
    have := heap_alloc_new ((w2.alloc (.cells #[.int .u8 (n.toNat : Int), .int .u8 1, .int .u8 (x1.toNat : Int), .int .u8 (y1.toNat : Int)] 61)).alloc (.cells #[.int .u8 (n.toNat : Int), .int .u8 2, .int .u8 (x2.toNat : Int), .int .u8 (y2.toNat : Int)] 61)) (.cells #[.slice (some ⟨bb, 1028, none⟩) 60 60] 176)
    rw [World.alloc_size, World.alloc_size] at this
    rw [← hW0]
    exact cell_of_row _ _ 0 _ _ (0, 0) this
  have hS0 : StoAt W0 bb p mem := HS.out.below hB0
  have hml := hS0.len
  rw [hW0]
  clear hW0 HW
  refine wpIn_rangeFunc_ownH rfl h1 (gf := 132) (lb := #[.pointer (some ⟨w2.heap.size + 1 + 1, 0, none⟩)]) rfl trivial (enters_of Tryz.func132 (by kernel_rfl) rfl)
    (back_stops Fence.wide (n0 - 1) trivial rfl (by omega) (w2.heap.size + 1 + 1) W0.heap.size bb p mem W0 (by omega) (Nat.le_refl _) (by omega) hP3 hS0) belowK_t (belowK_b (by omega)) (Below.refl _ _) (fun _ => rfl)
    (fun pre W => (∀ x ∈ pre, norm4 x.2 ≠ recF mem n 1 ∧ norm4 x.2 ≠ recF mem n 2) ∧ Below W0.heap.size W0 W)
    (fun c pre W => (∃ v : Bool, (c = .ret ∧ ∃ pre' x, pre = pre' ++ [x] ∧ (∀ y ∈ pre', norm4 y.2 ≠ recF mem n 1 ∧ norm4 y.2 ≠ recF mem n 2) ∧ ((norm4 x.2 = recF mem n 1 ∧ v = false) ∨ (norm4 x.2 ≠ recF mem n 1 ∧ norm4 x.2 = recF mem n 2 ∧ v = true))) ∧ W.heap[w.heap.size]? = some (.cells #[.bool v] 4)) ∧ Below w.heap.size w W)
    (OwnFrom.and (ownFrom_pure _ _) (ownFrom_below (Nat.le_refl _) (by omega)))
    (fun c => OwnFrom.and (fun s X Y row hs hg hr => by
      obtain ⟨v, e1, e2⟩ := hs
      exact ⟨v, e1, heapIs_own (β := Unit) w.heap.size (.cells #[.bool v] 4) rfl () X Y row e2 hg (fun r e => (hr r e).2)⟩) (ownFrom_below (Nat.le_refl _) (by omega)))
    ⟨by simp, Below.refl _ _⟩
    (fun x a' W => ∃ Bx, W.heap[Bx]? = some (recO x.2) ∧ a' = { tmps := #[.pointer (some ⟨bb, 4, none⟩), .int .u8 (n.toNat : Int), undef, undef, .pointer (some ⟨w.heap.size, 0, none⟩), .pointer (some ⟨w2.heap.size, 0, none⟩), .pointer (some ⟨w2.heap.size + 1, 0, none⟩), undef, .pointer (some ⟨Bx, 0, none⟩), .pointer (some ⟨bb, 4, none⟩), .int .u8 (n.toNat : Int), .agg #[.int .u8 (n.toNat : Int), .int .u8 1, .int .u8 (x1.toNat : Int), .int .u8 (y1.toNat : Int)], .pointer (some ⟨bb, 4, none⟩), .int .u8 (n.toNat : Int), .agg #[.int .u8 (n.toNat : Int), .int .u8 2, .int .u8 (x2.toNat : Int), .int .u8 (y2.toNat : Int)], .pointer (some ⟨bb, 4, none⟩), .pointer (some ⟨bb, 4, none⟩), .pointer (some ⟨bb, 1028, none⟩), .slice (some ⟨bb, 1028, none⟩) 60 60, .func (.func 132) #[] #[.pointer (some ⟨w2.heap.size + 1 + 1, 0, none⟩)], .int .i64 (x.1 : Int), .agg #[.int .u8 ((x.2[0]?.getD 0).toNat : Int), .int .u8 ((x.2[1]?.getD 0).toNat : Int), .int .u8 ((x.2[2]?.getD 0).toNat : Int), .int .u8 ((x.2[3]?.getD 0).toNat : Int)], undef, undef, undef, undef, undef, undef, undef], defers := [] })
    (fun x a' _ X Y row hs hg hr => by obtain ⟨Bx, e1, e2⟩ := hs; exact ⟨Bx, heapIs_own (β := Unit) Bx (recO x.2) rfl () X Y row e1 hg (fun r e => (hr r e).2), e2⟩)
    ?assign ?body ?done ?stop
  case assign =>
    rintro l pre x W K ⟨hp, hBW⟩ hK
    gi_wp2
    exact hK _ _ ((KeepsOthers.alloc _ _).from _) ((Below.refl _ W).alloc hBW.size _) ⟨hp, hBW.alloc hBW.size _⟩ ⟨W.heap.size, heap_alloc_new W _, rfl⟩
  case body =>
    rintro l pre x a' W hl ⟨r, hr⟩ ⟨hp, hBW⟩ ⟨Bx, hBx, rfl⟩ hlt'
    have q1 := (hBW.block w.heap.size (by omega)).trans hR0
    have q2 := (hBW.block w2.heap.size (by omega)).trans hP1
    have q3 := (hBW.block (w2.heap.size + 1) (by omega)).trans hP2
    have c0 : W.cell? ⟨w.heap.size, 0, none⟩ = some (.bool false) := cell_of_row _ _ 0 _ _ (0, 0) q1
    have f0 := frozen_of_row W w.heap.size 0 _ _ q1
    have d0 : W.cell? ⟨w2.heap.size, 0, none⟩ = some (.int .u8 (n.toNat : Int)) := cell_of_row _ _ 0 _ _ (0, 0) q2
    have d1 : W.cell? ⟨w2.heap.size, 1, none⟩ = some (.int .u8 1) := cell_of_row _ _ 1 _ _ (0, 0) q2
    have d2 : W.cell? ⟨w2.heap.size, 2, none⟩ = some (.int .u8 (x1.toNat : Int)) := cell_of_row _ _ 2 _ _ (0, 0) q2
    have d3 : W.cell? ⟨w2.heap.size, 3, none⟩ = some (.int .u8 (y1.toNat : Int)) := cell_of_row _ _ 3 _ _ (0, 0) q2
    have e0 : W.cell? ⟨w2.heap.size + 1, 0, none⟩ = some (.int .u8 (n.toNat : Int)) := cell_of_row _ _ 0 _ _ (0, 0) q3
    have e1 : W.cell? ⟨w2.heap.size + 1, 1, none⟩ = some (.int .u8 2) := cell_of_row _ _ 1 _ _ (0, 0) q3
    have e2 : W.cell? ⟨w2.heap.size + 1, 2, none⟩ = some (.int .u8 (x2.toNat : Int)) := cell_of_row _ _ 2 _ _ (0, 0) q3
    have e3 : W.cell? ⟨w2.heap.size + 1, 3, none⟩ = some (.int .u8 (y2.toNat : Int)) := cell_of_row _ _ 3 _ _ (0, 0) q3
    obtain ⟨xi, xl⟩ := x
    simp only at hBx ⊢
    have hn4 : norm4 xl = [xl[0]?.getD 0, xl[1]?.getD 0, xl[2]?.getD 0, xl[3]?.getD 0] := rfl
    have hro : recO xl = .cells #[.int .u8 ((xl[0]?.getD 0).toNat : Int), .int .u8 ((xl[1]?.getD 0).toNat : Int), .int .u8 ((xl[2]?.getD 0).toNat : Int), .int .u8 ((xl[3]?.getD 0).toNat : Int)] 61 := rfl
    rw [hro] at hBx
    obtain ⟨r0, h0'⟩ : ∃ r0, xl[0]?.getD 0 = r0 := ⟨_, rfl⟩
    obtain ⟨r1, h1'⟩ : ∃ r1, xl[1]?.getD 0 = r1 := ⟨_, rfl⟩
    obtain ⟨r2, h2'⟩ : ∃ r2, xl[2]?.getD 0 = r2 := ⟨_, rfl⟩
    obtain ⟨r3, h3'⟩ : ∃ r3, xl[3]?.getD 0 = r3 := ⟨_, rfl⟩
    rw [h0', h1', h2', h3'] at hn4 hBx ⊢
    have b0 : W.cell? ⟨Bx, 0, none⟩ = some (.int .u8 (r0.toNat : Int)) := cell_of_row _ _ 0 _ _ (0, 0) hBx
    have b1 : W.cell? ⟨Bx, 1, none⟩ = some (.int .u8 (r1.toNat : Int)) := cell_of_row _ _ 1 _ _ (0, 0) hBx
    have b2 : W.cell? ⟨Bx, 2, none⟩ = some (.int .u8 (r2.toNat : Int)) := cell_of_row _ _ 2 _ _ (0, 0) hBx
    have b3 : W.cell? ⟨Bx, 3, none⟩ = some (.int .u8 (r3.toNat : Int)) := cell_of_row _ _ 3 _ _ (0, 0) hBx
    have hE1 : ∀ w', (Op.equalIn 10000 61 (.agg #[.int .u8 (r0.toNat : Int), .int .u8 (r1.toNat : Int), .int .u8 (r2.toNat : Int), .int .u8 (r3.toNat : Int)]) (.agg #[.int .u8 (n.toNat : Int), .int .u8 1, .int .u8 (x1.toNat : Int), .int .u8 (y1.toNat : Int)])).run Tryz.prog w' = .ok (decide ([r0, r1, r2, r3] = [n, 1, x1, y1])) w' := fun w' => eqRec r0 r1 r2 r3 n 1 x1 y1 w'
    have hE2 : ∀ w', (Op.equalIn 10000 61 (.agg #[.int .u8 (r0.toNat : Int), .int .u8 (r1.toNat : Int), .int .u8 (r2.toNat : Int), .int .u8 (r3.toNat : Int)]) (.agg #[.int .u8 (n.toNat : Int), .int .u8 2, .int .u8 (x2.toNat : Int), .int .u8 (y2.toNat : Int)])).run Tryz.prog w' = .ok (decide ([r0, r1, r2, r3] = [n, 2, x2, y2])) w' := fun w' => eqRec r0 r1 r2 r3 n 2 x2 y2 w'
    rw [← hn4, ← hr1] at hE1
    rw [← hn4, ← hr2] at hE2
    have hG := guardRec
    have HX := hideIt (And.intro q1 (And.intro hp hBW))
    have hB0' := hideIt (hB0.trans (hBW.mono hB0.size))
    clear q1 q2 q3 hBx hro hn4 hr1 hr2 hp hBW h0' h1' h2' h3' hP1 hP2 hP3 hR0 HS hS0 hr
    by_cases hx1 : norm4 xl = recF mem n 1
    · rw [decide_eq_true hx1] at hE1
      have HE := hideIt hx1
      clear hx1
      gi_wp2
      refine ⟨(KeepsOthers.setCell _ _ _).from _, ⟨false, ⟨rfl, pre, (xi, xl), rfl, HX.out.2.1, .inl ⟨HE.out, rfl⟩⟩, ?_⟩, hB0'.out.setCell (p := ⟨w.heap.size, 0, none⟩) (Nat.le_refl _) _⟩
      exact heap_setCell_same _ _ _ _ _ _ HX.out.1
    · rw [decide_eq_false hx1] at hE1
      have HE := hideIt hx1
      clear hx1
      by_cases hx2 : norm4 xl = recF mem n 2
      · rw [decide_eq_true hx2] at hE2
        have HE2 := hideIt hx2
        clear hx2
        gi_wp2
        refine ⟨(KeepsOthers.setCell _ _ _).from _, ⟨true, ⟨rfl, pre, (xi, xl), rfl, HX.out.2.1, .inr ⟨HE.out, HE2.out, rfl⟩⟩, ?_⟩, hB0'.out.setCell (p := ⟨w.heap.size, 0, none⟩) (Nat.le_refl _) _⟩
        exact heap_setCell_same _ _ _ _ _ _ HX.out.1
      · rw [decide_eq_false hx2] at hE2
        have HE2 := hideIt hx2
        clear hx2
        gi_wp2
        refine ⟨KeepsFrom.refl _ _, Below.refl _ _, fun y hy => ?_, HX.out.2.2⟩
        rcases List.mem_append.1 hy with hy | hy
        · exact HX.out.2.1 y hy
        · have : y = (xi, xl) := by simpa using hy
          subst this
          exact ⟨HE.out, HE2.out⟩
  case done =>
    rintro D zs W hD rfl ⟨hp, hBW⟩ hK
    have q1 := (hBW.block w.heap.size (by omega)).trans hR0
    have c0 : W.cell? ⟨w.heap.size, 0, none⟩ = some (.bool false) := cell_of_row _ _ 0 _ _ (0, 0) q1
    have f0 := frozen_of_row W w.heap.size 0 _ _ q1
    have hB1 := hB0.trans (hBW.mono hB0.size)
    have hbf : burntF mem n = false := by rw [burnt_down 60 0 rfl hml hp]; rfl
    gi_wp2
    have hK' := (KeepsOthers.setCell W ⟨w.heap.size, 0, none⟩ (.bool false)).same D _ hK rfl
    refine ⟨by simp, .inl ⟨_, _, rfl, run_takeDeferred hK', ?_⟩⟩
    have hc5 := cell_kept (World.cell?_setCell_same W ⟨w.heap.size, 0, none⟩ (.bool false) c0) (grownBy_putObj' _ D (.deferred none)) (fun r e => by cases e; exact ⟨_, hK', rfl⟩)
    refine ⟨.bool false, ?_, by rw [hbf], (hB1.setCell (p := ⟨w.heap.size, 0, none⟩) (Nat.le_refl _) _).trans (belowK_b (w := w) (Nat.le_refl _) _ D _ _ (by omega) hK' rfl rfl)⟩
    simp [results, Tryz.f99, go_sem, hc5]
  case stop =>
    rintro D c pre W hD ⟨k, hk, hpre⟩ ⟨⟨v, ⟨rfl, pre', x, hpx, hp, hv⟩, q1⟩, hB1⟩ hK
    have hbf : burntF mem n = v := by
      have hk6 : k < 60 := by
        rcases Nat.lt_or_ge k 60 with h | h
        · exact h
        · have h60 : k = 60 := by omega
          rw [h60] at hpre
          rw [hpre] at hpx
          have := congrArg List.length hpx
          simp [down] at this
      rw [hpre, down_succ mem k hk6] at hpx
      obtain ⟨e1, e2⟩ := List.append_inj' hpx rfl
      rw [← e1] at hp
      have e3 : (k, slotF mem k) = x := by simpa using e2
      rw [← e3] at hv
      rw [show norm4 (k, slotF mem k).2 = slotF mem k from norm4_of (slot_length hml k hk6)] at hv
      rw [burnt_down (60 - (k + 1)) (k + 1) (by omega) hml hp, burntS]
      rcases hv with ⟨h1, h2⟩ | ⟨h1, h2, h3⟩
      · rw [if_pos h1, h2]
      · rw [if_neg h1, if_pos h2, h3]
    have c0 : W.cell? ⟨w.heap.size, 0, none⟩ = some (.bool v) := cell_of_row _ _ 0 _ _ (0, 0) q1
    gi_wp2
    refine ⟨by simp, .inl ⟨_, _, rfl, run_takeDeferred hK, ?_⟩⟩
    have hc5 := cell_kept c0 (grownBy_putObj' _ D (.deferred none)) (fun r e => by cases e; exact ⟨_, hK, rfl⟩)
    refine ⟨.bool v, ?_, by rw [hbf], hB1.trans (belowK_b (w := w) (Nat.le_refl _) W D _ _ (by omega) hK rfl rfl)⟩
    simp [results, Tryz.f99, go_sem, hc5]
theorem isBurnt_any (bb : Nat) (p : Pow) (mem : List UInt8) (n : UInt8) (w : World) (h : StoAt w bb p mem) (hn16 : n < 16) :
    Calls Tryz.prog 99 #[.pointer (some ⟨bb, 4, none⟩), .int .u8 (n.toNat : Int)] w fun e w' => e = .returned (.bool (burntF mem n)) ∧ Below w.heap.size w w' :=
  callsIn_wide.1 (isBurnt_in 6 (by omega) bb p mem n w h hn16)
end Go.Proofs.YthokdbcpkmcieaaGreat
namespace Go.Proofs.YthokdbcpkmcieaaGreat
open Go Go.RowKit
theorem or_bit (c j : Nat) (hc : c < 2 ^ j) (hj : j < 16) : bits .or .u16 (c : Int) (IntKind.u16.wrap (2 ^ j)) = ((c + 2 ^ j : Nat) : Int) := by
  have h16 : 2 ^ j ≤ 2 ^ 15 := Nat.pow_le_pow_right (by decide) (by omega)
  have hw : IntKind.u16.wrap (2 ^ j) = ((2 ^ j : Nat) : Int) := by
    rw [IntKind.wrap_u16, Int.natCast_pow]
    have : ((2 : Int) ^ j) = ((2 ^ j : Nat) : Int) := by rw [Int.natCast_pow]; rfl
    rw [show ((2 : Nat) : Int) = 2 from rfl, this]
    omega
  rw [hw]
  have h1 : (BitVec.ofInt 16 (c : Int)).toNat = c := by
    rw [BitVec.ofInt_natCast, BitVec.toNat_ofNat]; exact Nat.mod_eq_of_lt (by omega)
  have h2 : (BitVec.ofInt 16 ((2 ^ j : Nat) : Int)).toNat = 2 ^ j := by
    rw [BitVec.ofInt_natCast, BitVec.toNat_ofNat]; exact Nat.mod_eq_of_lt (by omega)
  show IntKind.u16.wrap ((BitVec.ofInt 16 (c : Int) ||| BitVec.ofInt 16 ((2 ^ j : Nat) : Int)).toNat : Int) = _
  rw [BitVec.toNat_or, h1, h2, IntKind.wrap_u16]
  have := Nat.two_pow_add_eq_or_of_lt hc 1
  rw [Nat.mul_one] at this
  rw [Nat.or_comm, ← this]
  omega
set_option maxRecDepth 100000 in
set_option maxHeartbeats 8000000 in
theorem burntPages_any (bb : Nat) (p : Pow) (mem : List UInt8) (w : World) (h : StoAt w bb p mem) :
    Calls Tryz.prog 83 #[.pointer (some ⟨bb, 4, none⟩)] w fun e w' => e = .returned (.int .u16 (bitsF mem : Int)) ∧ Below w.heap.size w w' := by
  have HS := hideIt h
  clear h
  go_enter Tryz.func83, Tryz.ntmps83
  go_wp2_with fail
  go_loopw [3, 5] (fun c i wr => ∃ j : Nat, j ≤ 16 ∧ i = .int .u8 j ∧ c = .int .u16 (bitsS mem j : Int) ∧ Below w.heap.size w wr) (fun _ i _ => 16 - (intOf i).toNat)
  case atStart => exact ⟨0, by omega, rfl, rfl, Below.refl _ _⟩
  case round =>
    obtain ⟨j, hj, rfl, rfl, hb⟩ := hrel
    by_cases hlt : j < 16
    · have HC := hideIt (fun w' (h' : StoAt w' bb p mem) => isBurnt_any bb p mem (UInt8.ofNat j) w' h' (ofNat_lt hlt))
      rw [show (UInt8.ofNat j).toNat = j by rw [UInt8.toNat_ofNat']; omega] at HC
      have hN : bitsS mem (j + 1) = bitsS mem j + (if burntF mem (UInt8.ofNat j) = true then 2 ^ j else 0) := rfl
      have hbl := bitsS_lt mem j
      obtain ⟨v, hv⟩ : ∃ v, burntF mem (UInt8.ofNat j) = v := ⟨_, rfl⟩
      rw [hv] at HC hN
      obtain ⟨c, hc⟩ : ∃ c, bitsS mem j = c := ⟨_, rfl⟩
      rw [hc] at hN hbl ⊢
      have hji : (j : Int) < 16 := by omega
      have HN := hideIt hN
      have HB := hideIt hb
      clear hN hb hc hv
      go_wp2_with fail
      refine (HC.out _ (HS.out.below HB.out)).mono ?_
      rintro e w1 ⟨rfl, hb1⟩
      have HB1 := hideIt (HB.out.trans (hb1.mono HB.out.size))
      clear hb1
      cases v with
      | false =>
        go_wp2
        go_roundw
        case rel => exact ⟨j + 1, by omega, by go_num, by rw [HN.out]; rfl, HB1.out⟩
        case measure => simp [intOf]; omega
      | true =>
        go_wp2
        go_roundw
        case rel => exact ⟨j + 1, by omega, by go_num, by rw [HN.out, or_bit c j hbl hlt]; rfl, HB1.out⟩
        case measure => simp [intOf]; omega
    · obtain rfl : j = 16 := by omega
      have HB := hideIt hb
      clear hb
      go_wp2
      go_ret
      exact ⟨rfl, HB.out⟩
end Go.Proofs.YthokdbcpkmcieaaGreat
namespace Go.Proofs.YthokdbcpkmcieaaGreat
open Go Go.RowKit
theorem Tryz.infoPages : (Tryz.prog.info? 59).map (·.size) = some 1024 := by kernel_rfl
theorem Tryz.infoPage : (Tryz.prog.info? 58).map (·.size) = some 64 := by kernel_rfl
theorem StoAt.pages {w : World} {bb : Nat} {p : Pow} {mem : List UInt8} (h : StoAt w bb p mem) : BytesAt w bb 4 (mem.take 1024) := h.cm.take _
theorem index_pages {mem : List UInt8} (_hlen : mem.length = 1264) (j : Nat) (hj : j < 16) (w : World) :
    (Instr.index 59 (.agg (byteVs (mem.take 1024)).toArray) (.int .i64 (j : Int))).run Tryz.prog w = .ok (.agg (byteVs (pageF mem j)).toArray) w := by
  have he : List.take 64 (List.drop (j * 64) (byteVs (List.take 1024 mem))) = byteVs (pageF mem j) := by
    simp only [byteVs, pageF, ← List.map_take, ← List.map_drop]
    congr 1
    apply List.ext_getElem?
    intro i
    by_cases h : i < 64
    · rw [List.getElem?_take_of_lt h, List.getElem?_take_of_lt h, List.getElem?_drop, List.getElem?_drop, List.getElem?_take_of_lt (by omega)]
      congr 1
      omega
    · rw [List.getElem?_take_eq_none (by omega), List.getElem?_take_eq_none (by omega)]
  have ha := Tryz.isAgg58
  have hz := Tryz.sizeOf58
  unfold Instr.index
  simp [asIntOf, run_underlying Tryz.underlying59, ha, hz, part]
  rw [if_pos hj, he]
theorem take_page (mem : List UInt8) (j : Nat) : mem.take (64 * (j + 1)) = mem.take (64 * j) ++ pageF mem j := by
  unfold pageF
  rw [show 64 * (j + 1) = 64 * j + 64 by omega, List.take_add]
set_option maxRecDepth 100000 in
set_option maxHeartbeats 8000000 in
theorem bytes_any (bb : Nat) (p : Pow) (mem : List UInt8) (w : World) (h : StoAt w bb p mem) :
    Calls Tryz.prog 82 #[.pointer (some ⟨bb, 4, none⟩)] w fun e w' => e = .returned (.string (txt (mem.take 1024))) ∧ Below w.heap.size w w' := by
  obtain ⟨i0, hi, hz0, hz1, hz2⟩ := info_of Tryz.infoU8
  have hlen := h.len
  have HR := hideIt h.pages.range
  have hl : (byteVs (mem.take 1024)).length = 1024 := by rw [byteVs_len, List.length_take]; omega
  have HI := hideIt (fun j (hj : j < 16) w' => index_pages hlen j hj w')
  obtain ⟨J, hJ⟩ : ∃ J, byteVs (mem.take 1024) = J := ⟨_, rfl⟩
  rw [hJ] at HR hl HI
  clear hJ
  go_enter Tryz.func82, Tryz.ntmps82
  go_wp2_with (refine wpList_load_mid rfl 59 (.tmp 8) rfl bb 4 rfl J _ HR.out Tryz.underlying59 rfl (by rw [hl]; exact Tryz.infoPages) ?_)
  go_loopw [3, 10] (fun v i wr => ∃ j : Nat, j ≤ 16 ∧ i = .int .i64 j ∧ wr.ownsRow w.heap.size 5 1 v (64 * j) (byteVs (mem.take (64 * j))) ∧ Below w.heap.size w wr) (fun _ i _ => 16 - (intOf i).toNat)
  case atStart => exact ⟨0, by omega, rfl, World.ownsRow_nil _ _ _ _, Below.refl _ _⟩
  case round =>
    obtain ⟨j, hj, rfl, hO, hb⟩ := hrel
    obtain ⟨va, vm, vc, rfl⟩ := slice_ofR hO
    by_cases hlt : j < 16
    · have hix := HI.out j hlt
      have hpl : (byteVs (pageF mem j)).length = 64 := by rw [byteVs_len]; exact page_length hlen j hlt
      have hN : byteVs (mem.take (64 * (j + 1))) = byteVs (mem.take (64 * j)) ++ byteVs (pageF mem j) := by rw [take_page mem j, byteVs_append]
      have h1c := byteVs_one (pageF mem j)
      obtain ⟨pg, hpg⟩ : ∃ pg, byteVs (pageF mem j) = pg := ⟨_, rfl⟩
      rw [hpg] at hix hpl hN h1c
      have hji : (j : Int) < 16 := by omega
      have hst : ∀ c : Array Value, c.size = 64 → (storeCells ⟨wr.heap.size, 0, none⟩ pg).run Tryz.prog (wr.alloc (.cells c 58)) = .ok () (wr.alloc (.cells pg.toArray 58)) := fun c hc => run_storeCells_new wr 58 c pg.toArray (by rw [List.size_toArray, hpl]; exact Tryz.infoPage) (hc.trans (by simp [hpl])) (all_oneCell_toArray h1c)
      have HO := hideIt hO
      have HB := hideIt hb
      have HN := hideIt hN
      have hsz := hb.size
      clear hpg hN hO hb
      go_wp2_with (at_builtin; refine wpList_append_own_at _ rfl _ _ 24 rfl w.heap.size 5 i0 _ 1 1 Tryz.underlying24 hi hz0 hz1 hz2 rfl (by decide) _ (64 * j) _ rfl (HO.out.alloc _) ⟨wr.heap.size, 0, none⟩ 64 64 pg rfl hpl (cells_new _ _ _) h1c (by unfold maxLen; omega) (by omega) (by simp; omega) ?_; intro v' wn hown hgr _ hloc; obtain ⟨a', n', c', rfl⟩ := slice_ofR hown)
      replace hgr : (wr.alloc (.cells pg.toArray 58)).grownBy wn (Value.slice va vm vc).ownBlock := hgr
      have hz3 := hgr.size
      rw [World.alloc_size] at hz3
      have HE : Hid (wn.ownsRow w.heap.size 5 1 (.slice a' n' c') (64 * (j + 1)) (byteVs (mem.take (64 * (j + 1)))) ∧ Below w.heap.size w wn) := by
        refine ⟨?_, ?_⟩
        · rw [HN.out, show 64 * (j + 1) = 64 * j + 64 by omega]; exact hown
        · have q4 := HB.out
          refine ⟨hgr.os.trans q4.os, hgr.tape.trans q4.tape, hgr.output.trans q4.output, by omega, fun k hk => ?_⟩
          rw [hgr.block k (by rw [World.alloc_size]; omega) (fun e => by have := (HO.out.lt k e.symm).1; omega), Below.heap_alloc _ _ _ (by omega), q4.block k hk]
      clear hown hgr hloc hz3
      go_roundw
      case rel => exact ⟨j + 1, by omega, by go_num, HE.out.1, HE.out.2⟩
      case measure => simp [intOf]; omega
    · obtain rfl : j = 16 := by omega
      obtain ⟨g, cap, he, hg1, hg2⟩ := own_some hO (by decide)
      cases he
      have hcv := conv_row (l := mem.take 1024) (n := 1024) (by rw [List.length_take]; omega) hO
      have HB := hideIt hb
      clear hb hO
      go_wp2
      go_ret
      exact ⟨rfl, HB.out⟩
end Go.Proofs.YthokdbcpkmcieaaGreat
namespace Go.Proofs.YthokdbcpkmcieaaGreat
open Go Go.RowKit
theorem txtB_size (l : List UInt8) : (txt l).size = l.length := by simp [txt, ByteArray.size]
theorem txtB_cat (a b : List UInt8) : txt a ++ txt b = txt (a ++ b) := by
  apply ByteArray.ext
  rw [ByteArray.data_append]
  simp [txt]
theorem u8_lt (n : UInt8) (c : Nat) (hc : c < 256) : ((n.toNat : Int) < (c : Int)) ↔ n < UInt8.ofNat c := by
  rw [UInt8.lt_iff_toNat_lt, UInt8.toNat_ofNat']
  omega
theorem u8_eq (n : UInt8) (c : Nat) (hc : c < 256) : ((n.toNat : Int) == (c : Int)) = decide (n = UInt8.ofNat c) := by
  have : (UInt8.ofNat c).toNat = c := by rw [UInt8.toNat_ofNat']; omega
  have h := int_eq n (UInt8.ofNat c)
  rw [this] at h
  exact h
set_option maxHeartbeats 1000000 in
theorem isPage_any (n : UInt8) (w : World) : Calls Tryz.prog 123 #[.int .u8 (n.toNat : Int)] w fun e w' => e = .returned (.bool (decide (n < 16))) ∧ w' = w := by
  have h : decide (n < 16) = decide ((n.toNat : Int) < 16) := by
    have : ((n.toNat : Int) < 16) ↔ n < 16 := u8_lt n 16 (by decide)
    by_cases hn : n < 16
    · rw [decide_eq_true hn, decide_eq_true (this.2 hn)]
    · rw [decide_eq_false hn, decide_eq_false (fun e => hn (this.1 e))]
  rw [h]
  go_enter Tryz.func123, Tryz.ntmps123
  go_wp2
  go_ret
  exact ⟨rfl, rfl⟩
/-- The ending of what gives a text, or gives up. -/
def endT (ok : Bool) (out : List UInt8) : Ending := if ok = true then .returned (.string (txt out)) else failE
theorem endT_no {e : Ending} {o : List UInt8} (h : e = endT false o) : e = .panicked [{ v := .iface 129 (.agg #[]), recovered := false }] := h
theorem endT_yes {e : Ending} {o : List UInt8} (h : e = endT true o) : e = .returned (.string (txt o)) := h
def StrEnd (w : World) (bb : Nat) (r : Pow × List UInt8 × Bool) (out : List UInt8) (e : Ending) (w' : World) : Prop := e = endT r.2.2 out ∧ StoAt w' bb r.1 r.2.1 ∧ Within w w' bb 1 1267
def doPageF (p : Pow) (m : List UInt8) (n : UInt8) (bs : List UInt8) : (Pow × List UInt8 × Bool) × List UInt8 := if n < 16 ∧ 2 ≤ roomF m then (burnPageF p m n bs, [1]) else ((p, m, true), [2])
set_option maxRecDepth 100000 in
set_option maxHeartbeats 4000000 in
theorem doPage_any (bb : Nat) (p : Pow) (mem : List UInt8) (n : UInt8) (bs : ByteArray) (k : Nat) (w : World) (h : StoAt w bb p mem) (hu : Used mem k) (hbs : bs.size = 64) :
    Calls Tryz.prog 110 #[.pointer (some ⟨bb, 0, none⟩), .int .u8 (n.toNat : Int), .string bs] w (StrEnd w bb (doPageF p mem n bs.data.toList).1 (doPageF p mem n bs.data.toList).2) := by
  have hlt := h.lt
  by_cases hn : n < 16
  · have HR := hideIt (room_any bb p mem w h)
    have hrm := roomF_used hu
    have hle := hu.le
    by_cases hr : 2 ≤ roomF mem
    · have e : doPageF p mem n bs.data.toList = (burnPageF p mem n bs.data.toList, [1]) := by unfold doPageF; rw [if_pos ⟨hn, hr⟩]
      rw [e]
      have HB := hideIt (fun w' (h' : StoAt w' bb p mem) => burnPage_any bb p mem n bs k w' h' hu (by omega) hn hbs)
      have hri : decide ((roomF mem : Int) < 2) = false := decide_eq_false (by omega)
      have HS := hideIt h
      obtain ⟨q, hq⟩ : ∃ q, burnPageF p mem n bs.data.toList = q := ⟨_, rfl⟩
      rw [hq] at HB ⊢
      obtain ⟨p1, m1, ok⟩ := q
      obtain ⟨rm, hrm2⟩ : ∃ rm, roomF mem = rm := ⟨_, rfl⟩
      rw [hrm2] at HR hri
      clear h hu hq e hrm hr hrm2
      go_enter Tryz.func110, Tryz.ntmps110
      go_wp2_with fail
      refine (isPage_any n _).mono ?_
      rintro e w1 ⟨rfl, rfl⟩
      rw [decide_eq_true hn]
      go_wp2_with fail
      refine HR.out.mono ?_
      rintro e w2 ⟨rfl, hb2⟩
      have HB2 := hideIt hb2
      clear hb2
      cases ok with
      | true =>
        go_wp2_with fail
        go_region_with (go_at_call 125; refine (HB.out w2.drew ((HS.out.below HB2.out).kept rfl (Nat.le_refl _))).mono ?_; rintro e wz ⟨he, h1, h2⟩; obtain rfl := endS_yes he)
        all_goals
          have HZ := hideIt (And.intro h1 ((Within.below (o := 1) (n := 1267) (below_drewN HB2.out 1) hlt).trans h2))
          clear h1 h2 he
          go_wp2
          go_ret
          exact ⟨rfl, HZ.out.1, HZ.out.2⟩
      | false =>
        have hent : ∀ args w, (callFunc 125 args).run Tryz.prog w = .ok (.enter 125 args) w := enters_of Tryz.func125 (by kernel_rfl) rfl
        have HX : Hid (∀ w', StoAt w' bb p1 m1 → Within w2.drew w' bb 1 1267 → StrEnd w1 bb (p1, m1, false) [1] (.panicked [{ v := .iface 129 (.agg #[]), recovered := false }]) w') := by
          intro w' h1 h2
          exact ⟨rfl, h1, (Within.below (o := 1) (n := 1267) (below_drewN HB2.out 1) hlt).trans h2⟩
        go_wp2_with fail
        go_region_law (refine step_diesV (.tuple #[]) 125 #[.pointer (some ⟨bb, 4, none⟩), .int .u8 (n.toNat : Int), .string bs, .pointer (some ⟨bb, 1, none⟩)] rfl (by simp [go_sem, hent]) _ (HB.out w2.drew ((HS.out.below HB2.out).kept rfl (Nat.le_refl _))) (fun e w' hh => ⟨_, endS_no hh.1, rfl, HX.out w' hh.2.1 hh.2.2⟩) ?_; intro HFF)
        all_goals exact HFF.out.elim
    · have e : doPageF p mem n bs.data.toList = ((p, mem, true), [2]) := by unfold doPageF; rw [if_neg (fun e => hr e.2)]
      rw [e]
      have hri : decide ((roomF mem : Int) < 2) = true := decide_eq_true (by omega)
      have HS := hideIt h
      clear h hu e hrm
      go_enter Tryz.func110, Tryz.ntmps110
      go_wp2_with fail
      refine (isPage_any n _).mono ?_
      rintro e w1 ⟨rfl, rfl⟩
      rw [decide_eq_true hn]
      go_wp2_with fail
      refine HR.out.mono ?_
      rintro e w2 ⟨rfl, hb2⟩
      have HB2 := hideIt hb2
      clear hb2
      go_wp2
      go_ret
      exact ⟨rfl, HS.out.below HB2.out, Within.below HB2.out hlt⟩
  · have e : doPageF p mem n bs.data.toList = ((p, mem, true), [2]) := by unfold doPageF; rw [if_neg (fun e => hn e.1)]
    rw [e]
    have HS := hideIt h
    clear h hu e
    go_enter Tryz.func110, Tryz.ntmps110
    go_wp2_with fail
    refine (isPage_any n _).mono ?_
    rintro e w1 ⟨rfl, rfl⟩
    rw [decide_eq_false hn]
    go_wp2
    go_ret
    exact ⟨rfl, HS.out, Within.refl _ _ _ _⟩
def doReadF (m : List UInt8) (n : UInt8) : List UInt8 := if n < 16 ∧ burntF m n = true then 1 :: pageF m n.toNat else [2]
theorem conv_page {w : World} {bb : Nat} {p : Pow} {mem : List UInt8} (h : StoAt w bb p mem) (n : Nat) (hn : n < 16) : (convert 24 9 (.slice (some ⟨bb, 4 + n * 64, none⟩) 64 64)).run Tryz.prog w = .ok (.string (txt (pageF mem n))) w := by
  have hl := page_length h.len n hn
  have := run_convert_bytes_back (P := Tryz.prog) w 24 9 5 ⟨bb, 4 + n * 64, none⟩ 64 (pageF mem n) Tryz.underlying24 Tryz.underlying5 Tryz.underlying9 (fun j hj => by
    have hc := h.page n hn j hj
    rw [List.getD_eq_getElem?_getD, List.getElem?_eq_getElem hj] at hc
    rw [Addr.add_lit]
    exact hc)
  rw [hl] at this
  exact this
set_option maxRecDepth 100000 in
set_option maxHeartbeats 4000000 in
theorem doRead_any (bb : Nat) (p : Pow) (mem : List UInt8) (n : UInt8) (w : World) (h : StoAt w bb p mem) :
    Calls Tryz.prog 111 #[.pointer (some ⟨bb, 0, none⟩), .int .u8 (n.toNat : Int)] w (StrEnd w bb (p, mem, true) (doReadF mem n)) := by
  have hlt := h.lt
  by_cases hn : n < 16
  · have hnn := u16 hn
    have hni : (n.toNat : Int) < 16 := by omega
    have HR := hideIt (isBurnt_any bb p mem n w h hn)
    have HS := hideIt h
    by_cases hr : burntF mem n = true
    · have e : doReadF mem n = 1 :: pageF mem n.toNat := by unfold doReadF; rw [if_pos ⟨hn, hr⟩]
      rw [e]
      rw [hr] at HR
      have HC := hideIt (fun w' (h' : StoAt w' bb p mem) => conv_page h' n.toNat hnn)
      have hts : (txt (pageF mem n.toNat)).size = 64 := by rw [txtB_size]; exact page_length h.len n.toNat hnn
      obtain ⟨pg, hpg⟩ : ∃ pg, pageF mem n.toNat = pg := ⟨_, rfl⟩
      rw [hpg] at HC hts ⊢
      clear h e hpg
      go_enter Tryz.func111, Tryz.ntmps111
      go_wp2_with fail
      refine (isPage_any n _).mono ?_
      rintro e w1 ⟨rfl, rfl⟩
      rw [decide_eq_true hn]
      go_wp2_with fail
      refine HR.out.mono ?_
      rintro e w2 ⟨rfl, hb2⟩
      have hcv := HC.out w2 (HS.out.below hb2)
      have HB2 := hideIt hb2
      clear hb2 HC HR
      go_wp2
      go_ret
      refine ⟨?_, HS.out.below HB2.out, Within.below HB2.out hlt⟩
      show Ending.returned (.string (txt [1] ++ txt pg)) = _
      rw [txtB_cat]
      rfl
    · have hrf : burntF mem n = false := by simpa using hr
      have e : doReadF mem n = [2] := by unfold doReadF; rw [if_neg (fun e => hr e.2)]
      rw [e]
      rw [hrf] at HR
      clear h e
      go_enter Tryz.func111, Tryz.ntmps111
      go_wp2_with fail
      refine (isPage_any n _).mono ?_
      rintro e w1 ⟨rfl, rfl⟩
      rw [decide_eq_true hn]
      go_wp2_with fail
      refine HR.out.mono ?_
      rintro e w2 ⟨rfl, hb2⟩
      have HB2 := hideIt hb2
      clear hb2 HR
      go_wp2
      go_ret
      exact ⟨rfl, HS.out.below HB2.out, Within.below HB2.out hlt⟩
  · have e : doReadF mem n = [2] := by unfold doReadF; rw [if_neg (fun e => hn e.1)]
    rw [e]
    have HS := hideIt h
    clear h e
    go_enter Tryz.func111, Tryz.ntmps111
    go_wp2_with fail
    refine (isPage_any n _).mono ?_
    rintro e w1 ⟨rfl, rfl⟩
    rw [decide_eq_false hn]
    go_wp2
    go_ret
    exact ⟨rfl, HS.out, Within.refl _ _ _ _⟩
set_option maxRecDepth 100000 in
set_option maxHeartbeats 4000000 in
theorem isAsking_any (q : ByteArray) (w : World) (hq : q.size ≤ 4000000) :
    Calls Tryz.prog 91 #[.string q] w fun e w' => e = .returned (.bool (askOk q.data.toList)) ∧ w' = w := by
  have hlen : q.data.toList.length = q.size := by rw [Array.length_toList]; rfl
  by_cases h4 : q.size < 4
  · have e : askOk q.data.toList = false := by unfold askOk; rw [if_pos (by omega)]
    rw [e]
    have hi : (q.size : Int) < 4 := by omega
    go_enter Tryz.func91, Tryz.ntmps91
    go_wp2
    go_ret
    exact ⟨rfl, rfl⟩
  · have hi : decide ((q.size : Int) < 4) = false := decide_eq_false (by omega)
    have h3 : (3 : Int) < (q.size : Int) := by omega
    have hg : q.data.toList.getD 3 0 = q[3]'(by omega) := ba_get q 3 (by omega)
    have hk : askOk q.data.toList = if q[3]'(by omega) = 1 ∨ q[3]'(by omega) = 4 then decide (q.size = 4) else if q[3]'(by omega) = 2 then decide (q.size = 69) else if q[3]'(by omega) = 3 then decide (q.size = 5) else false := by
      unfold askOk
      rw [if_neg (by omega), hg, hlen]
    rw [hk]
    obtain ⟨x, hx⟩ : ∃ x, q[3]'(by omega) = x := ⟨_, rfl⟩
    rw [hx]
    clear hk hg
    have hl : ∀ c : Nat, ((q.size : Int) - 4 == (c : Int)) = decide (q.size = c + 4) := fun c => by
      by_cases h : q.size = c + 4
      · rw [decide_eq_true h]; simp; omega
      · rw [decide_eq_false h]; simp; omega
    have hl0 : ((q.size : Int) - 4 == 0) = decide (q.size = 4) := hl 0
    have hl65 : ((q.size : Int) - 4 == 65) = decide (q.size = 69) := hl 65
    have hl1 : ((q.size : Int) - 4 == 1) = decide (q.size = 5) := hl 1
    clear hl
    by_cases h1 : x = 1
    · subst h1
      rw [if_pos (.inl rfl)]
      go_enter Tryz.func91, Tryz.ntmps91
      go_wp2
      go_ret
      exact ⟨rfl, rfl⟩
    by_cases h4' : x = 4
    · subst h4'
      rw [if_pos (.inr rfl)]
      go_enter Tryz.func91, Tryz.ntmps91
      go_wp2
      go_ret
      exact ⟨rfl, rfl⟩
    by_cases h2 : x = 2
    · subst h2
      rw [if_neg (by decide), if_pos rfl]
      go_enter Tryz.func91, Tryz.ntmps91
      go_wp2
      go_ret
      exact ⟨rfl, rfl⟩
    by_cases h3' : x = 3
    · subst h3'
      rw [if_neg (by decide), if_neg (by decide), if_pos rfl]
      go_enter Tryz.func91, Tryz.ntmps91
      go_wp2
      go_ret
      exact ⟨rfl, rfl⟩
    · rw [if_neg (fun e => e.elim h1 h4'), if_neg h2, if_neg h3']
      have hx1 : ((x.toNat : Int) == 1) = false := (u8_eq x 1 (by decide)).trans (decide_eq_false h1)
      have hx2 : ((x.toNat : Int) == 2) = false := (u8_eq x 2 (by decide)).trans (decide_eq_false h2)
      have hx3 : ((x.toNat : Int) == 3) = false := (u8_eq x 3 (by decide)).trans (decide_eq_false h3')
      have hx4 : ((x.toNat : Int) == 4) = false := (u8_eq x 4 (by decide)).trans (decide_eq_false h4')
      clear h1 h2 h3' h4'
      go_enter Tryz.func91, Tryz.ntmps91
      go_wp2
      go_ret
      exact ⟨rfl, rfl⟩
end Go.Proofs.YthokdbcpkmcieaaGreat
namespace Go.Proofs.YthokdbcpkmcieaaGreat
open Go Go.RowKit
theorem baB_drop (s : ByteArray) (k : Nat) : (s.extract k s.size).data.toList = s.data.toList.drop k := by
  rw [ByteArray.data_extract, Array.toList_extract]
  have h : s.size = s.data.toList.length := (Array.length_toList (xs := s.data)).symm
  rw [h, List.extract_eq_take_drop, List.take_of_length_le]
  rw [List.length_drop]
  exact Nat.le_refl _
theorem baB_take (s : ByteArray) (k : Nat) : (s.extract 0 k).data.toList = s.data.toList.take k := by
  rw [ByteArray.data_extract, Array.toList_extract, List.extract_eq_take_drop]
  simp
theorem do_page (p : Pow) (m : List UInt8) (rest : List UInt8) : doF p m 2 rest = doPageF p m (rest.getD 0 0) (rest.drop 1) := rfl
theorem do_read (p : Pow) (m : List UInt8) (rest : List UInt8) : doF p m 3 rest = ((p, m, true), doReadF m (rest.getD 0 0)) := rfl
theorem do_state (p : Pow) (m : List UInt8) (rest : List UInt8) : doF p m 4 rest = ((p, m, true), [1, UInt8.ofNat (bitsF m / 256), UInt8.ofNat (bitsF m % 256)]) := rfl
set_option maxRecDepth 100000 in
set_option maxHeartbeats 1000000 in
theorem do_two_yes (bb : Nat) (p : Pow) (mem : List UInt8) (rest : ByteArray) (k : Nat) (w : World) (h : StoAt w bb p mem) (hu : Used mem k) (hrs : rest.size = 65) (hok : (doF p mem 2 rest.data.toList).1.2.2 = true) :
    Calls Tryz.prog 93 #[.pointer (some ⟨bb, 0, none⟩), .int .u8 2, .string rest] w (StrEnd w bb (doF p mem 2 rest.data.toList).1 (doF p mem 2 rest.data.toList).2) := by
  have hlt := h.lt
  have hg : rest.data.toList.getD 0 0 = rest[0]'(by omega) := ba_get rest 0 (by omega)
  have HP := hideIt (fun w' (h' : StoAt w' bb p mem) => doPage_any bb p mem (rest[0]'(by omega)) (rest.extract 1 rest.size) k w' h' hu (by simp only [ByteArray.size_extract]; omega))
  rw [do_page, hg, ← baB_drop rest 1] at hok ⊢
  obtain ⟨q, hq⟩ : ∃ q, doPageF p mem (rest[0]'(by omega)) (rest.extract 1 rest.size).data.toList = q := ⟨_, rfl⟩
  rw [hq] at HP hok ⊢
  obtain ⟨⟨p1, m1, ok⟩, out⟩ := q
  simp only at HP hok ⊢
  subst hok
  obtain ⟨x, hx⟩ : ∃ x, rest[0]'(by omega) = x := ⟨_, rfl⟩
  rw [hx] at HP
  simp only [hrs] at HP
  have HS := hideIt h
  clear hq h hu hg
  go_enter Tryz.func93, Tryz.ntmps93
  go_wp2_with fail
  go_region_with (go_at_call 110; refine (HP.out w.drew (HS.out.kept rfl (Nat.le_refl _))).mono ?_; rintro e wz ⟨he, h1, h2⟩; obtain rfl := endT_yes he)
  all_goals
    have HZ := hideIt (And.intro h1 ((Within.below (o := 1) (n := 1267) (below_drewN (Below.refl _ _) 1) hlt).trans h2))
    clear h1 h2 he
    go_wp2
    go_ret
    exact ⟨rfl, HZ.out.1, HZ.out.2⟩
set_option maxRecDepth 100000 in
set_option maxHeartbeats 1000000 in
theorem do_two_no (bb : Nat) (p : Pow) (mem : List UInt8) (rest : ByteArray) (k : Nat) (w : World) (h : StoAt w bb p mem) (hu : Used mem k) (hrs : rest.size = 65) (hok : (doF p mem 2 rest.data.toList).1.2.2 = false) :
    Calls Tryz.prog 93 #[.pointer (some ⟨bb, 0, none⟩), .int .u8 2, .string rest] w (StrEnd w bb (doF p mem 2 rest.data.toList).1 (doF p mem 2 rest.data.toList).2) := by
  have hlt := h.lt
  have hg : rest.data.toList.getD 0 0 = rest[0]'(by omega) := ba_get rest 0 (by omega)
  have HP := hideIt (fun w' (h' : StoAt w' bb p mem) => doPage_any bb p mem (rest[0]'(by omega)) (rest.extract 1 rest.size) k w' h' hu (by simp only [ByteArray.size_extract]; omega))
  rw [do_page, hg, ← baB_drop rest 1] at hok ⊢
  obtain ⟨q, hq⟩ : ∃ q, doPageF p mem (rest[0]'(by omega)) (rest.extract 1 rest.size).data.toList = q := ⟨_, rfl⟩
  rw [hq] at HP hok ⊢
  obtain ⟨⟨p1, m1, ok⟩, out⟩ := q
  simp only at HP hok ⊢
  subst hok
  obtain ⟨x, hx⟩ : ∃ x, rest[0]'(by omega) = x := ⟨_, rfl⟩
  rw [hx] at HP
  simp only [hrs] at HP
  have HS := hideIt h
  clear hq h hu hg
  have hent : ∀ args w, (callFunc 110 args).run Tryz.prog w = .ok (.enter 110 args) w := enters_of Tryz.func110 (by kernel_rfl) rfl
  have HX : Hid (∀ w', StoAt w' bb p1 m1 → Within w.drew w' bb 1 1267 → StrEnd w bb (p1, m1, false) out (.panicked [{ v := .iface 129 (.agg #[]), recovered := false }]) w') := by
    intro w' h1 h2
    exact ⟨rfl, h1, (Within.below (o := 1) (n := 1267) (below_drewN (Below.refl _ _) 1) hlt).trans h2⟩
  go_enter Tryz.func93, Tryz.ntmps93
  go_wp2_with fail
  go_region_law (refine step_diesV (.string ⟨#[]⟩) 110 #[.pointer (some ⟨bb, 0, none⟩), .int .u8 (x.toNat : Int), .string (rest.extract 1 65)] rfl (by simp [go_sem, hent]) _ (HP.out w.drew (HS.out.kept rfl (Nat.le_refl _))) (fun e w' hh => ⟨_, endT_no hh.1, rfl, HX.out w' hh.2.1 hh.2.2⟩) ?_; intro HFF)
  all_goals exact HFF.out.elim
set_option maxRecDepth 100000 in
set_option maxHeartbeats 1000000 in
theorem do_three (bb : Nat) (p : Pow) (mem : List UInt8) (rest : ByteArray) (w : World) (h : StoAt w bb p mem) (hrs : rest.size = 1) :
    Calls Tryz.prog 93 #[.pointer (some ⟨bb, 0, none⟩), .int .u8 3, .string rest] w (StrEnd w bb (doF p mem 3 rest.data.toList).1 (doF p mem 3 rest.data.toList).2) := by
  have hlt := h.lt
  have hg : rest.data.toList.getD 0 0 = rest[0]'(by omega) := ba_get rest 0 (by omega)
  have HP := hideIt (doRead_any bb p mem (rest[0]'(by omega)) w h)
  rw [do_read, hg]
  obtain ⟨x, hx⟩ : ∃ x, rest[0]'(by omega) = x := ⟨_, rfl⟩
  rw [hx] at HP ⊢
  obtain ⟨out, hout⟩ : ∃ out, doReadF mem x = out := ⟨_, rfl⟩
  rw [hout] at HP ⊢
  clear h hg hout
  go_enter Tryz.func93, Tryz.ntmps93
  go_wp2_with fail
  refine HP.out.mono ?_
  rintro e wz ⟨he, h1, h2⟩
  obtain rfl := endT_yes he
  have HZ := hideIt (And.intro h1 h2)
  clear h1 h2 he
  go_wp2
  go_ret
  exact ⟨rfl, HZ.out.1, HZ.out.2⟩
set_option maxRecDepth 100000 in
set_option maxHeartbeats 1000000 in
theorem do_four (bb : Nat) (p : Pow) (mem : List UInt8) (rest : ByteArray) (w : World) (h : StoAt w bb p mem) :
    Calls Tryz.prog 93 #[.pointer (some ⟨bb, 0, none⟩), .int .u8 4, .string rest] w (StrEnd w bb (doF p mem 4 rest.data.toList).1 (doF p mem 4 rest.data.toList).2) := by
  have hlt := h.lt
  have HP := hideIt (burntPages_any bb p mem w h)
  have hbl : bitsF mem < 65536 := bitsS_lt mem 16
  rw [do_state]
  obtain ⟨c, hc⟩ : ∃ c, bitsF mem = c := ⟨_, rfl⟩
  rw [hc] at HP hbl ⊢
  have HS := hideIt h
  have HC := hideIt (fun w' => conv_row (l := [UInt8.ofNat (c / 256), UInt8.ofNat (c % 256)]) (n := 2) rfl (own_two w' w'.heap.size (Nat.le_refl _) (UInt8.ofNat (c / 256)) (UInt8.ofNat (c % 256))))
  have k1 : (UInt8.ofNat (c / 256)).toNat = c / 256 := by rw [UInt8.toNat_ofNat']; omega
  have k2 : (UInt8.ofNat (c % 256)).toNat = c % 256 := by rw [UInt8.toNat_ofNat']; omega
  rw [k1, k2, show ((c / 256 : Nat) : Int) = (c : Int) / 256 by omega, show ((c % 256 : Nat) : Int) = (c : Int) % 256 by omega] at HC
  have hts : (txt [UInt8.ofNat (c / 256), UInt8.ofNat (c % 256)]).size = 2 := txtB_size _
  obtain ⟨st, hst⟩ : ∃ st, [UInt8.ofNat (c / 256), UInt8.ofNat (c % 256)] = st := ⟨_, rfl⟩
  have hss : ([1, UInt8.ofNat (c / 256), UInt8.ofNat (c % 256)] : List UInt8) = [1] ++ st := by rw [← hst]; rfl
  rw [hst] at HC hts
  rw [hss]
  clear h hc k1 k2 hst hss
  go_enter Tryz.func93, Tryz.ntmps93
  go_wp2_with fail
  refine HP.out.mono ?_
  rintro e w1 ⟨rfl, hb1⟩
  have hcv := HC.out w1
  have HZ := hideIt hb1
  clear hb1 HC HP
  go_wp2
  go_ret
  refine ⟨?_, HS.out.below (HZ.out.trans ((Below.refl _ _).alloc HZ.out.size _)), Within.below (HZ.out.trans ((Below.refl _ _).alloc HZ.out.size _)) hlt⟩
  show Ending.returned (.string (txt [1] ++ txt st)) = _
  rw [txtB_cat]
  rfl
set_option maxRecDepth 100000 in
set_option maxHeartbeats 1000000 in
theorem do_else (bb : Nat) (p : Pow) (mem : List UInt8) (asked : UInt8) (rest : ByteArray) (w : World) (h : StoAt w bb p mem) (e2 : asked ≠ 2) (e3 : asked ≠ 3) (e4 : asked ≠ 4) :
    Calls Tryz.prog 93 #[.pointer (some ⟨bb, 0, none⟩), .int .u8 (asked.toNat : Int), .string rest] w (StrEnd w bb (doF p mem asked rest.data.toList).1 (doF p mem asked rest.data.toList).2) := by
  have hx2 : ((asked.toNat : Int) == 2) = false := (u8_eq asked 2 (by decide)).trans (decide_eq_false e2)
  have hx3 : ((asked.toNat : Int) == 3) = false := (u8_eq asked 3 (by decide)).trans (decide_eq_false e3)
  have hx4 : ((asked.toNat : Int) == 4) = false := (u8_eq asked 4 (by decide)).trans (decide_eq_false e4)
  have hd : doF p mem asked rest.data.toList = ((p, mem, true), [1]) := by unfold doF; rw [if_neg e2, if_neg e3, if_neg e4]
  rw [hd]
  have HS := hideIt h
  clear h e2 e3 e4 hd
  go_enter Tryz.func93, Tryz.ntmps93
  go_wp2
  go_ret
  exact ⟨rfl, HS.out, Within.refl _ _ _ _⟩
theorem do_any (bb : Nat) (p : Pow) (mem : List UInt8) (asked : UInt8) (rest : ByteArray) (k : Nat) (w : World) (h : StoAt w bb p mem) (hu : Used mem k) (h2 : asked = 2 → rest.size = 65) (h3 : asked = 3 → rest.size = 1) :
    Calls Tryz.prog 93 #[.pointer (some ⟨bb, 0, none⟩), .int .u8 (asked.toNat : Int), .string rest] w (StrEnd w bb (doF p mem asked rest.data.toList).1 (doF p mem asked rest.data.toList).2) := by
  by_cases e2 : asked = 2
  · subst e2
    by_cases hok : (doF p mem 2 rest.data.toList).1.2.2 = true
    · exact do_two_yes bb p mem rest k w h hu (h2 rfl) hok
    · exact do_two_no bb p mem rest k w h hu (h2 rfl) (by simpa using hok)
  · by_cases e3 : asked = 3
    · subst e3; exact do_three bb p mem rest w h (h3 rfl)
    · by_cases e4 : asked = 4
      · subst e4; exact do_four bb p mem rest w h
      · exact do_else bb p mem asked rest w h e2 e3 e4
end Go.Proofs.YthokdbcpkmcieaaGreat
namespace Go.Proofs.YthokdbcpkmcieaaGreat
open Go Go.RowKit
/-- What the board at block bb knows of those who speak to it. -/
structure TalkAt (w : World) (bb : Nat) (t : Talk) : Prop where
  t0 : w.cell? ⟨bb, 1352, none⟩ = some (.bool t.opn)
  t1 : w.cell? ⟨bb, 1353, none⟩ = some (.int .u16 (t.ses : Int))
  t2 : w.cell? ⟨bb, 1354, none⟩ = some (.int .u8 (t.num.toNat : Int))
  t3 : w.cell? ⟨bb, 1355, none⟩ = some (.string (txt t.ans))
  fz : ∀ j, w.frozen? ⟨bb, j, none⟩ = false
theorem TalkAt.same {w w' : World} {bb : Nat} {t : Talk} (h : TalkAt w bb t) (e : ∀ j, 1352 ≤ j → j < 1356 → w'.cell? ⟨bb, j, none⟩ = w.cell? ⟨bb, j, none⟩) (hf : ∀ j, w'.frozen? ⟨bb, j, none⟩ = w.frozen? ⟨bb, j, none⟩) : TalkAt w' bb t :=
  ⟨(e _ (by omega) (by omega)).trans h.t0, (e _ (by omega) (by omega)).trans h.t1, (e _ (by omega) (by omega)).trans h.t2, (e _ (by omega) (by omega)).trans h.t3, fun j => (hf j).trans (h.fz j)⟩
theorem TalkAt.within {w w' : World} {bb : Nat} {t : Talk} (h : TalkAt w bb t) (hw : Within w w' bb 1 1267) : TalkAt w' bb t := h.same (fun j h1 _ => hw.cells j (by omega)) hw.fz
theorem TalkAt.kept {w w' : World} {bb : Nat} {t : Talk} (h : TalkAt w bb t) (e : w'.heap[bb]? = w.heap[bb]?) : TalkAt w' bb t :=
  h.same (fun j _ _ => World.cell?_of_block (a := ⟨bb, j, none⟩) e) (fun j => World.frozen?_of_block (a := ⟨bb, j, none⟩) e)
/-- Whether the board is on, and its ear, are as they were. -/
structure KeptE (w w' : World) (bb : Nat) : Prop where
  grown : w.grownBy w' (some bb)
  cells : ∀ j, j = 0 ∨ (1268 ≤ j ∧ j < 1352) → w'.cell? ⟨bb, j, none⟩ = w.cell? ⟨bb, j, none⟩
  fz : ∀ j, w'.frozen? ⟨bb, j, none⟩ = w.frozen? ⟨bb, j, none⟩
theorem KeptE.refl (w : World) (bb : Nat) : KeptE w w bb := ⟨grown_refl _ _, fun _ _ => rfl, fun _ => rfl⟩
theorem KeptE.trans {w w1 w2 : World} {bb : Nat} (h : KeptE w w1 bb) (h2 : KeptE w1 w2 bb) : KeptE w w2 bb :=
  ⟨h.grown.trans h2.grown, fun j hj => (h2.cells j hj).trans (h.cells j hj), fun j => (h2.fz j).trans (h.fz j)⟩
theorem Within.keptE {w w' : World} {bb : Nat} (h : Within w w' bb 1 1267) : KeptE w w' bb := ⟨h.grown, fun j hj => h.cells j (by omega), h.fz⟩
theorem KeptE.set (w : World) (bb j : Nat) (v : Value) (h1 : 1352 ≤ j) : KeptE w (w.setCell ⟨bb, j, none⟩ v) bb :=
  ⟨grown_set _ _ _ _, fun k hk => World.cell?_setCell_other _ _ _ _ (by simp <;> omega), fun k => by simp⟩
theorem KeptE.below {w w' : World} {bb : Nat} (hb : Below w.heap.size w w') (hl : bb < w.heap.size) : KeptE w w' bb := (Within.below (o := 1) (n := 1267) hb hl).keptE
theorem KeptE.drew {w w' : World} {bb : Nat} (h : KeptE w w' bb) : KeptE w w'.drew bb := ⟨grown_drew h.grown, h.cells, h.fz⟩
theorem KeptE.drewN {w w' : World} {bb : Nat} (h : KeptE w w' bb) (m : Nat) : KeptE w (w'.drewN m) bb := ⟨grown_drewN h.grown m, h.cells, h.fz⟩
def AnsEnd (w : World) (bb : Nat) (r : Pow × List UInt8 × Talk × List UInt8 × Bool) (e : Ending) (w' : World) : Prop :=
  e = endT r.2.2.2.2 r.2.2.2.1 ∧ StoAt w' bb r.1 r.2.1 ∧ TalkAt w' bb r.2.2.1 ∧ KeptE w w' bb
set_option maxRecDepth 100000 in
set_option maxHeartbeats 2000000 in
theorem answer_none (bb : Nat) (p : Pow) (mem : List UInt8) (t : Talk) (q : ByteArray) (w : World) (h : StoAt w bb p mem) (ht : TalkAt w bb t) (hq : q.size ≤ 4000000) (hk : askOk q.data.toList = false) :
    Calls Tryz.prog 73 #[.pointer (some ⟨bb, 0, none⟩), .string q] w (AnsEnd w bb (p, mem, t, [], true)) := by
  have HA := hideIt (isAsking_any q w hq)
  rw [hk] at HA
  have HS := hideIt (And.intro h ht)
  clear h ht
  go_enter Tryz.func73, Tryz.ntmps73
  go_wp2_with fail
  refine HA.out.mono ?_
  rintro e w1 ⟨rfl, rfl⟩
  go_wp2
  go_ret
  exact ⟨rfl, HS.out.1, HS.out.2, KeptE.refl _ _⟩
/-- A message that asks something: its parts. -/
theorem ask_parts {q : ByteArray} (hk : askOk q.data.toList = true) : 4 ≤ q.size ∧ q.size ≤ 69 ∧ (q.data.toList.getD 3 0 = 2 → q.size = 69) ∧ (q.data.toList.getD 3 0 = 3 → q.size = 5) := by
  have hlen : q.data.toList.length = q.size := by rw [Array.length_toList]; rfl
  unfold askOk at hk
  rw [hlen] at hk
  split at hk
  · cases hk
  · rename_i h4
    split at hk
    · rename_i h1
      have : q.size = 4 := by simpa using hk
      refine ⟨by omega, by omega, fun h => ?_, fun h => ?_⟩
      · rw [h] at h1; exact absurd h1 (by decide)
      · rw [h] at h1; exact absurd h1 (by decide)
    · split at hk
      · rename_i h2
        have : q.size = 69 := by simpa using hk
        refine ⟨by omega, by omega, fun _ => this, fun h => ?_⟩
        rw [h] at h2; exact absurd h2 (by decide)
      · rename_i h2
        split at hk
        · have : q.size = 5 := by simpa using hk
          exact ⟨by omega, by omega, fun h => absurd h h2, fun _ => this⟩
        · cases hk
set_option maxRecDepth 100000 in
set_option maxHeartbeats 2000000 in
theorem answer_still (bb : Nat) (p : Pow) (mem : List UInt8) (t : Talk) (q : ByteArray) (w : World) (h : StoAt w bb p mem) (ht : TalkAt w bb t) (_hts : t.ses < 65536) (hk : askOk q.data.toList = true) (h1 : q.data.toList.getD 3 0 ≠ 1)
    (hway : (t.opn = false ∨ sesOf q.data.toList ≠ t.ses) ∨ q.data.toList.getD 2 0 = t.num ∨ q.data.toList.getD 2 0 ≠ t.num + 1) :
    Calls Tryz.prog 73 #[.pointer (some ⟨bb, 0, none⟩), .string q] w (AnsEnd w bb (answerF p mem t q.data.toList)) := by
  obtain ⟨k1, k2, k3, k4⟩ := ask_parts hk
  have HA := hideIt (isAsking_any q w (by omega))
  rw [hk] at HA
  have g0 : q.data.toList.getD 0 0 = q[0]'(by omega) := ba_get q 0 (by omega)
  have g1 : q.data.toList.getD 1 0 = q[1]'(by omega) := ba_get q 1 (by omega)
  have g2 : q.data.toList.getD 2 0 = q[2]'(by omega) := ba_get q 2 (by omega)
  have g3 : q.data.toList.getD 3 0 = q[3]'(by omega) := ba_get q 3 (by omega)
  have hs : sesOf q.data.toList = (q[0]'(by omega)).toNat * 256 + (q[1]'(by omega)).toNat := by unfold sesOf; rw [g0, g1]
  have HF := hideIt (show answerF p mem t q.data.toList = (p, mem, t, if (t.opn = false ∨ sesOf q.data.toList ≠ t.ses) then [] else if q.data.toList.getD 2 0 = t.num then t.ans else [], true) by
    unfold answerF
    rw [if_neg (by rw [hk]; simp)]
    by_cases c1 : t.opn = false ∨ sesOf q.data.toList ≠ t.ses
    · rw [if_pos ⟨h1, c1⟩, if_pos c1]
    · rw [if_neg (fun e => c1 e.2), if_neg c1]
      by_cases c2 : q.data.toList.getD 2 0 = t.num
      · rw [if_pos ⟨h1, c2⟩, if_pos c2]
      · have c3 : q.data.toList.getD 2 0 ≠ t.num + 1 := by
          rcases hway with h | h | h
          · exact absurd h c1
          · exact absurd h c2
          · exact h
        rw [if_neg (fun e => c2 e.2), if_pos ⟨h1, c3⟩, if_neg c2])
  rw [HF.out]
  rw [g2, hs] at hway ⊢
  rw [g3] at h1
  obtain ⟨x0, hx0⟩ : ∃ x, q[0]'(by omega) = x := ⟨_, rfl⟩
  obtain ⟨x1, hx1⟩ : ∃ x, q[1]'(by omega) = x := ⟨_, rfl⟩
  obtain ⟨x2, hx2⟩ : ∃ x, q[2]'(by omega) = x := ⟨_, rfl⟩
  obtain ⟨x3, hx3⟩ : ∃ x, q[3]'(by omega) = x := ⟨_, rfl⟩
  rw [hx2, hx0, hx1] at hway ⊢
  rw [hx3] at h1
  have hl0 := x0.toNat_lt
  have hl1 := x1.toNat_lt
  have hor := or_bytes2 (x0.toNat : Int) (x1.toNat : Int) (by omega) (by omega) (by omega) (by omega)
  have hn1 : ((x3.toNat : Int) == 1) = false := (u8_eq x3 1 (by decide)).trans (decide_eq_false h1)
  have t0 := ht.t0
  have t1 := ht.t1
  have t2 := ht.t2
  have t3 := ht.t3
  have HS := hideIt (And.intro h ht)
  have q4 : (4 : Int) ≤ (q.size : Int) := by omega
  have q69 : (q.size : Int) ≤ 69 := by omega
  clear h ht HF hk g0 g1 g2 g3 hs k3 k4 h1
  by_cases c0 : t.opn = false
  · rw [if_pos (.inl c0)]
    rw [c0] at t0
    clear hway
    go_enter Tryz.func73, Tryz.ntmps73
    go_wp2_with fail
    refine HA.out.mono ?_
    rintro e w1 ⟨rfl, rfl⟩
    go_wp2
    go_quiet (fail)
    go_wp2
    go_quiet (fail)
    go_wp2
    go_ret
    exact ⟨rfl, HS.out.1.kept rfl (Nat.le_refl _), HS.out.2.kept rfl, (KeptE.refl _ _).drewN _⟩
  · have c0' : t.opn = true := by simpa using c0
    rw [c0'] at t0
    by_cases cs : x0.toNat * 256 + x1.toNat = t.ses
    · rw [if_neg (fun e => e.elim c0 (fun e => e cs))]
      have hse : ((256 : Int) * (x0.toNat : Int) + (x1.toNat : Int) != (t.ses : Int)) = false := by simp; omega
      obtain ⟨nx, hnx⟩ : ∃ nx, (t.num + 1).toNat = nx := ⟨_, rfl⟩
      have hnl := t.num.toNat_lt
      have hwr : IntKind.u8.wrap ((t.num.toNat : Int) + 1) = (nx : Int) := by
        rw [← hnx, UInt8.toNat_add, IntKind.wrap_u8]
        show _ = (((t.num.toNat + 1) % 256 : Nat) : Int)
        omega
      by_cases cn : x2 = t.num
      · rw [if_pos cn]
        have hsa : ((x2.toNat : Int) == (t.num.toNat : Int)) = true := by rw [cn]; simp
        clear hway hnx
        go_enter Tryz.func73, Tryz.ntmps73
        go_wp2_with fail
        refine HA.out.mono ?_
        rintro e w1 ⟨rfl, rfl⟩
        go_wp2
        go_quiet (fail)
        go_wp2
        go_quiet (fail)
        go_wp2
        go_ret
        exact ⟨rfl, HS.out.1.kept rfl (Nat.le_refl _), HS.out.2.kept rfl, (KeptE.refl _ _).drewN _⟩
      · rw [if_neg cn]
        have hsa : ((x2.toNat : Int) == (t.num.toNat : Int)) = false := (int_eq x2 t.num).trans (decide_eq_false cn)
        have cx : x2 ≠ t.num + 1 := by
          rcases hway with h | h | h
          · exact h.elim (fun e => absurd e c0) (fun e => absurd cs e)
          · exact absurd h cn
          · exact h
        have hnx2 : ((x2.toNat : Int) != (nx : Int)) = true := by
          have : ¬ x2.toNat = nx := fun e => cx (UInt8.toNat_inj.1 (by rw [e, hnx]))
          simp; omega
        clear hway hnx cx
        go_enter Tryz.func73, Tryz.ntmps73
        go_wp2_with fail
        refine HA.out.mono ?_
        rintro e w1 ⟨rfl, rfl⟩
        go_wp2
        go_quiet (fail)
        go_wp2
        go_quiet (fail)
        go_wp2
        go_ret
        exact ⟨rfl, HS.out.1.kept rfl (Nat.le_refl _), HS.out.2.kept rfl, (KeptE.refl _ _).drewN _⟩
    · rw [if_pos (.inr cs)]
      have hse : ((256 : Int) * (x0.toNat : Int) + (x1.toNat : Int) != (t.ses : Int)) = true := by simp; omega
      clear hway
      go_enter Tryz.func73, Tryz.ntmps73
      go_wp2_with fail
      refine HA.out.mono ?_
      rintro e w1 ⟨rfl, rfl⟩
      go_wp2
      go_quiet (fail)
      go_wp2
      go_quiet (fail)
      go_wp2
      go_ret
      exact ⟨rfl, HS.out.1.kept rfl (Nat.le_refl _), HS.out.2.kept rfl, (KeptE.refl _ _).drewN _⟩
end Go.Proofs.YthokdbcpkmcieaaGreat
namespace Go.Proofs.YthokdbcpkmcieaaGreat
open Go Go.RowKit
theorem doF_out (p : Pow) (m : List UInt8) (a : UInt8) (rest : List UInt8) (hm : m.length = 1264) : (doF p m a rest).2.length ≤ 65 := by
  unfold doF
  split
  · split <;> simp
  · split
    · simp only
      split
      · rename_i h
        have := page_length hm (rest.getD 0 0).toNat (u16 h.1)
        simp only [List.length_cons]
        omega
      · simp
    · split <;> simp
theorem StoAt.setOut {w : World} {bb : Nat} {p : Pow} {mem : List UInt8} (h : StoAt w bb p mem) (j : Nat) (hj : 1268 ≤ j) (v : Value) : StoAt (w.setCell ⟨bb, j, none⟩ v) bb p mem :=
  h.same (fun k _ hk => World.cell?_setCell_other _ _ _ _ (by simp <;> omega)) (fun k => by simp) (by simp [World.setCell])
theorem StoAt.drewN {w : World} {bb : Nat} {p : Pow} {mem : List UInt8} (h : StoAt w bb p mem) (m : Nat) : StoAt (w.drewN m) bb p mem := h.kept rfl (Nat.le_refl _)
theorem StoAt.drew {w : World} {bb : Nat} {p : Pow} {mem : List UInt8} (h : StoAt w bb p mem) : StoAt w.drew bb p mem := h.kept rfl (Nat.le_refl _)
theorem TalkAt.drewN {w : World} {bb : Nat} {t : Talk} (h : TalkAt w bb t) (m : Nat) : TalkAt (w.drewN m) bb t := h.kept rfl
theorem TalkAt.drew {w : World} {bb : Nat} {t : Talk} (h : TalkAt w bb t) : TalkAt w.drew bb t := h.kept rfl
theorem TalkAt.setOpn {w : World} {bb : Nat} {t : Talk} (h : TalkAt w bb t) (b : Bool) : TalkAt (w.setCell ⟨bb, 1352, none⟩ (.bool b)) bb ⟨b, t.ses, t.num, t.ans⟩ :=
  ⟨World.cell?_setCell_same _ _ _ h.t0, (World.cell?_setCell_other _ _ _ _ (by simp)).trans h.t1, (World.cell?_setCell_other _ _ _ _ (by simp)).trans h.t2, (World.cell?_setCell_other _ _ _ _ (by simp)).trans h.t3, fun j => by simp [h.fz j]⟩
theorem TalkAt.setSes {w : World} {bb : Nat} {t : Talk} (h : TalkAt w bb t) (s : Nat) (v : Value) (hv : v = .int .u16 (s : Int)) : TalkAt (w.setCell ⟨bb, 1353, none⟩ v) bb ⟨t.opn, s, t.num, t.ans⟩ := by
  subst hv
  exact ⟨(World.cell?_setCell_other _ _ _ _ (by simp)).trans h.t0, World.cell?_setCell_same _ _ _ h.t1, (World.cell?_setCell_other _ _ _ _ (by simp)).trans h.t2, (World.cell?_setCell_other _ _ _ _ (by simp)).trans h.t3, fun j => by simp [h.fz j]⟩
theorem TalkAt.setNum {w : World} {bb : Nat} {t : Talk} (h : TalkAt w bb t) (n : UInt8) : TalkAt (w.setCell ⟨bb, 1354, none⟩ (.int .u8 (n.toNat : Int))) bb ⟨t.opn, t.ses, n, t.ans⟩ :=
  ⟨(World.cell?_setCell_other _ _ _ _ (by simp)).trans h.t0, (World.cell?_setCell_other _ _ _ _ (by simp)).trans h.t1, World.cell?_setCell_same _ _ _ h.t2, (World.cell?_setCell_other _ _ _ _ (by simp)).trans h.t3, fun j => by simp [h.fz j]⟩
theorem TalkAt.setAns {w : World} {bb : Nat} {t : Talk} (h : TalkAt w bb t) (a : List UInt8) : TalkAt (w.setCell ⟨bb, 1355, none⟩ (.string (txt a))) bb ⟨t.opn, t.ses, t.num, a⟩ :=
  ⟨(World.cell?_setCell_other _ _ _ _ (by simp)).trans h.t0, (World.cell?_setCell_other _ _ _ _ (by simp)).trans h.t1, (World.cell?_setCell_other _ _ _ _ (by simp)).trans h.t2, World.cell?_setCell_same _ _ _ h.t3, fun j => by simp [h.fz j]⟩
theorem frame_of (q : ByteArray) (out : List UInt8) (h3 : 3 ≤ q.size) (ho : out.length ≤ 65) (w : World) : Calls Tryz.prog 92 #[.string (q.extract 0 3 ++ txt out)] w fun e w' => e = .returned (.tuple #[.string (txt (frameF (q.data.toList.take 3 ++ out))), .int .i64 0]) ∧ Below w.heap.size w w' := by
  have hs : (q.extract 0 3 ++ txt out).size = 3 + out.length := by
    rw [ByteArray.size_append, ByteArray.size_extract, txtB_size]; omega
  have hd : (q.extract 0 3 ++ txt out).data.toList = q.data.toList.take 3 ++ out := by
    rw [ByteArray.data_append, Array.toList_append, baB_take]; rfl
  have := frame_any (q.extract 0 3 ++ txt out) w (by omega) (by omega)
  rw [hd] at this
  exact this
set_option maxRecDepth 100000 in
set_option maxHeartbeats 2000000 in
theorem answer_open (bb : Nat) (p : Pow) (mem : List UInt8) (t : Talk) (q : ByteArray) (k : Nat) (w : World) (h : StoAt w bb p mem) (_hu : Used mem k) (ht : TalkAt w bb t) (hk : askOk q.data.toList = true) (h1 : q.data.toList.getD 3 0 = 1) :
    Calls Tryz.prog 73 #[.pointer (some ⟨bb, 0, none⟩), .string q] w (AnsEnd w bb (answerF p mem t q.data.toList)) := by
  obtain ⟨k1, k2, k3, k4⟩ := ask_parts hk
  have HA := hideIt (isAsking_any q w (by omega))
  rw [hk] at HA
  have hlt := h.lt
  have g0 : q.data.toList.getD 0 0 = q[0]'(by omega) := ba_get q 0 (by omega)
  have g1 : q.data.toList.getD 1 0 = q[1]'(by omega) := ba_get q 1 (by omega)
  have g2 : q.data.toList.getD 2 0 = q[2]'(by omega) := ba_get q 2 (by omega)
  have g3 : q.data.toList.getD 3 0 = q[3]'(by omega) := ba_get q 3 (by omega)
  have hs : sesOf q.data.toList = (q[0]'(by omega)).toNat * 256 + (q[1]'(by omega)).toNat := by unfold sesOf; rw [g0, g1]
  have hF : answerF p mem t q.data.toList = (p, mem, ⟨true, sesOf q.data.toList, q.data.toList.getD 2 0, frameF (q.data.toList.take 3 ++ [1])⟩, frameF (q.data.toList.take 3 ++ [1]), true) := by
    unfold answerF
    rw [if_neg (by rw [hk]; simp), if_neg (fun e => e.1 h1), if_neg (fun e => e.1 h1), if_neg (fun e => e.1 h1), h1]
    rfl
  rw [hF, g2, hs]
  rw [g3] at h1
  obtain ⟨x0, hx0⟩ : ∃ x, q[0]'(by omega) = x := ⟨_, rfl⟩
  obtain ⟨x1, hx1⟩ : ∃ x, q[1]'(by omega) = x := ⟨_, rfl⟩
  obtain ⟨x2, hx2⟩ : ∃ x, q[2]'(by omega) = x := ⟨_, rfl⟩
  rw [hx2, hx0, hx1]
  have hl0 := x0.toNat_lt
  have hl1 := x1.toNat_lt
  have hor := or_bytes2 (x0.toNat : Int) (x1.toNat : Int) (by omega) (by omega) (by omega) (by omega)
  have t0 := ht.t0
  have t1 := ht.t1
  have t2 := ht.t2
  have t3 := ht.t3
  have f0 := ht.fz 1352
  have f1 := ht.fz 1353
  have f2 := ht.fz 1354
  have f3 := ht.fz 1355
  have HS := hideIt (And.intro h ht)
  have q4 : (4 : Int) ≤ (q.size : Int) := by omega
  have q69 : (q.size : Int) ≤ 69 := by omega
  have HD : Hid (∀ w', StoAt w' bb p mem → Calls Tryz.prog 93 #[.pointer (some ⟨bb, 0, none⟩), .int .u8 1, .string (q.extract 4 q.size)] w' (StrEnd w' bb (p, mem, true) [1])) := fun w' h' => do_else bb p mem 1 (q.extract 4 q.size) w' h' (by decide) (by decide) (by decide)
  have HFR := hideIt (fun w' => frame_of q [1] (by omega) (by simp) w')
  obtain ⟨FR, hFR⟩ : ∃ FR, frameF (q.data.toList.take 3 ++ [1]) = FR := ⟨_, rfl⟩
  rw [hFR] at HFR ⊢
  have he3 : (q.extract 0 3).size = 3 := by rw [ByteArray.size_extract]; omega
  have ht1 : (txt [1]).size = 1 := rfl
  clear h ht hF hk g0 g1 g2 g3 hs k3 k4 hFR
  go_enter Tryz.func73, Tryz.ntmps73
  go_wp2_with fail
  refine HA.out.mono ?_
  rintro e w1 ⟨rfl, rfl⟩
  go_wp2_with fail
  go_quiet (fail)
  go_wp2_with fail
  go_quiet (fail)
  go_wp2_with fail
  go_region_with (first | (go_at_call 93; refine (HD.out _ ((((HS.out.1.drewN _).setOut 1352 (by omega) _).setOut 1353 (by omega) _).setOut 1354 (by omega) _).drew).mono ?_; rintro e wz ⟨he, h1, h2⟩; obtain rfl := endT_yes he; have hTz := TalkAt.within ((((HS.out.2.drewN _).setOpn true).setSes (x0.toNat * 256 + x1.toNat) _ (by congr 1; omega)).setNum x2).drew h2; have HZ := hideIt (And.intro h1 (And.intro hTz h2)); clear h1 hTz h2) | (go_at_call 92; refine (HFR.out _).mono ?_; rintro e wy ⟨rfl, hby⟩; have c5 := (HZ.out.2.1.kept (hby.block bb HZ.out.1.lt)).t3; have f5 := (HZ.out.2.1.kept (hby.block bb HZ.out.1.lt)).fz 1355))
  all_goals
    go_wp2
    go_ret
    refine ⟨rfl, (HZ.out.1.below hby).setOut 1355 (by omega) _, (HZ.out.2.1.kept (hby.block bb HZ.out.1.lt)).setAns FR, ?_⟩
    exact (((((((KeptE.refl _ bb).drewN _).trans (KeptE.set _ bb 1352 _ (by omega))).trans (KeptE.set _ bb 1353 _ (by omega))).trans (KeptE.set _ bb 1354 _ (by omega))).drew.trans HZ.out.2.2.keptE).trans (KeptE.below hby HZ.out.1.lt)).trans (KeptE.set _ bb 1355 _ (by omega))
end Go.Proofs.YthokdbcpkmcieaaGreat
