/- The walk of isBurnt: a range over slices.Backward. -/
import Derived.Test.YthokdbcpkmcieaaBrdW5
import Derived.RangeFuncNested
import Derived.RangeFuncBound
import Derived.RangeFuncCalls
import Derived.RangeFuncLeaves
import Derived.RangeFuncBox
import Derived.Shelf.Abstract
import Derived.Shelf.RegionOpen
import Derived.OwnWalkIn
import Derived.TacticsInMore
import Derived.LoopNIn
import Derived.LoopIn
namespace Go.Proofs.Ythokdbcpkmcieaa
open Go Go.RowKit Go.Shelf
attribute [local go_sem] Oper.semAt_some
/-- The records from the last one down to m. -/
def down (mem : List UInt8) (m : Nat) : List (Nat × List UInt8) := (List.range (60 - m)).map fun j => (59 - j, slotF mem (59 - j))
theorem down_succ (mem : List UInt8) (m : Nat) (hm : m < 60) : down mem m = down mem (m + 1) ++ [(m, slotF mem m)] := by
  unfold down
  rw [show 60 - m = (60 - (m + 1)) + 1 by omega, List.range_succ, List.map_append]
  simp only [List.map_cons, List.map_nil]
  rw [show 59 - (60 - (m + 1)) = m by omega]
theorem down_length (mem : List UInt8) (m : Nat) : (down mem m).length = 60 - m := by simp [down]
set_option maxRecDepth 100000 in
set_option maxHeartbeats 4000000 in
theorem back1_in (F : Fence) (n : Nat) (h7 : F.fn 73) (hro : F.round = none) (hn : 1 ≤ n) (l Bs n₀ bb : Nat) (p : Pow) (mem : List UInt8) (hb : bb < n₀) (J Jx : List (Nat × List UInt8) → World → Prop)
    (hY : ∀ pre x W, J pre W → pre.length < 60 → YieldAt F (n - 1) Try.prog l #[.int .i64 (x.1 : Int), recV x.2] W fun e W' =>
      (e = .returned (.bool true) ∧ J (pre ++ [x]) W' ∧ Below n₀ W W') ∨ (e = .returned (.bool false) ∧ Jx (pre ++ [x]) W'))
    (W : World) (hBs : W.cell? ⟨Bs, 0, none⟩ = some (.slice (some ⟨bb, 1028, none⟩) 60 60)) (hBn : Bs < n₀) (hS : StoAt W bb p mem) (h0 : J [] W) :
    CallsIn F n Try.prog 73 #[.func (.yield l) #[] #[], .pointer (some ⟨Bs, 0, none⟩)] W fun e W' => (∃ v, e = .returned v) ∧
      ((∃ ys, ys = down mem 0 ∧ J ys W') ∨ (∃ pre, (∃ k, k ≤ 60 ∧ pre = down mem k) ∧ Jx pre W')) := by
  refine callsIn_of_wp Try.func73 rfl h7 ?_ hro
  simp only [Try.ntmps73, List.size_toArray, List.length_cons, List.length_nil, Nat.reduceAdd, Nat.reduceSub, Array.replicate_succ, Array.replicate_zero, List.push_toArray, List.append_toArray, List.nil_append, List.cons_append]
  gi_wp2
  gi_loopw [3] (fun i wr => ∃ m : Nat, m ≤ 60 ∧ i = .int .i64 ((m : Int) - 1) ∧ J (down mem m) wr ∧ Below n₀ W wr) (fun i _ => (intOf i + 1).toNat)
  case atStart =>
    refine ⟨60, by omega, rfl, ?_, Below.refl _ _⟩
    exact h0
  case round =>
    obtain ⟨m, hm, rfl, hJ, hbl⟩ := hrel
    have cs : wr.cell? ⟨Bs, 0, none⟩ = some (.slice (some ⟨bb, 1028, none⟩) 60 60) := (hbl.cell (p := ⟨Bs, 0, none⟩) hBn).trans hBs
    cases m with
    | zero =>
      gi_wp2
      go_end0
      exact ⟨⟨_, rfl⟩, .inl ⟨_, rfl, hJ⟩⟩
    | succ m =>
      have hsl : BytesAt wr bb (1028 + m * 4) (slotF mem m) := (hS.slot m (by omega)).kept (hbl.block bb hb)
      obtain ⟨a0, a1, a2, a3, ha⟩ := four (slot_length hS.len m (by omega))
      rw [ha] at hsl
      obtain ⟨s0, s1, s2, s3⟩ := four_cells hsl
      obtain ⟨fn, tmps, assign, body, hy, hR⟩ := hY _ (m, [a0, a1, a2, a3]) wr hJ (by rw [down_length]; omega)
      have hd : down mem m = down mem (m + 1) ++ [(m, [a0, a1, a2, a3])] := by rw [down_succ mem m (by omega), ha]
      rw [← hd] at hR
      have hy' : (Instr.yield l #[.int .i64 (m : Int), .agg #[.int .u8 (a0.toNat : Int), .int .u8 (a1.toNat : Int), .int .u8 (a2.toNat : Int), .int .u8 (a3.toNat : Int)]]).run Try.prog wr = .ok (.round l fn tmps assign body) wr := hy
      have e1 : ((m + 1 : Nat) : Int) - 1 = (m : Int) := by omega
      rw [e1]
      have hmi : (m : Int) < 60 := by omega
      have hm0 : (0 : Int) ≤ (m : Int) := by omega
      have HD := hideIt hbl
      clear hsl hy hd hbl ha hJ
      gi_wp2
      refine hR.mono ?_
      rintro e W3 (⟨rfl, hJ3, hk3⟩ | ⟨rfl, hJx3⟩)
      · gi_wp2
        go_roundw
        case rel => exact ⟨m, by omega, rfl, hJ3, HD.out.trans hk3⟩
        case measure => simp [intOf]
      · gi_wp2
        refine bodyPost_ret (results_none rfl _ _ _) rfl ?_
        exact ⟨⟨_, rfl⟩, .inr ⟨_, ⟨m, by omega, rfl⟩, hJx3⟩⟩
set_option maxHeartbeats 1000000 in
theorem back_in (F : Fence) (n : Nat) (h5 : F.fn 69) (hro : F.round = none) (a : Option Addr) (len cap : Nat) (w : World) :
    CallsIn F n Try.prog 69 #[.slice a len cap] w fun e w' => e = .returned (.func (.func 73) #[] #[.pointer (some ⟨w.heap.size, 0, none⟩)]) ∧ w' = w.alloc (.cells #[.slice a len cap] 127) := by
  refine callsIn_of_wp Try.func69 rfl h5 ?_ hro
  simp only [Try.ntmps69, List.size_toArray, List.length_cons, List.length_nil, Nat.reduceAdd, Nat.reduceSub, Array.replicate_succ, Array.replicate_zero, List.push_toArray, List.append_toArray, List.nil_append, List.cons_append]
  gi_wp2
  go_ret
  exact ⟨rfl, rfl⟩
theorem back_stops (F : Fence) (n : Nat) (h7 : F.fn 73) (hro : F.round = none) (hn : 1 ≤ n) (Bs n₀ bb : Nat) (p : Pow) (mem : List UInt8) (w : World) (hBs : Bs < n₀) (hn₀ : n₀ ≤ w.heap.size) (hb : bb < n₀)
    (hc : w.cell? ⟨Bs, 0, none⟩ = some (.slice (some ⟨bb, 1028, none⟩) 60 60)) (hS : StoAt w bb p mem) :
    SeqStopsK F n Try.prog 73 #[.pointer (some ⟨Bs, 0, none⟩)] (fun x : Nat × List UInt8 => #[Value.int .i64 (x.1 : Int), .agg #[.int .u8 ((x.2[0]?.getD 0).toNat : Int), .int .u8 ((x.2[1]?.getD 0).toNat : Int), .int .u8 ((x.2[2]?.getD 0).toNat : Int), .int .u8 ((x.2[3]?.getD 0).toNat : Int)]]) (Below n₀) (fun ys => ys = down mem 0)
      (fun pre => ∃ k, k ≤ 60 ∧ pre = down mem k) 60 w := fun l J Jx W hW _ _ hY h0 =>
  back1_in F n h7 hro hn l Bs n₀ bb p mem hb J Jx hY W ((hW.cell (p := ⟨Bs, 0, none⟩) (Nat.lt_of_lt_of_le hBs hn₀)).trans hc) hBs (hS.below hW) h0
/-- A block of cells lies as it lay. -/
theorem heapIs_own {β : Type} (B : Nat) (o : Obj) (ho : o.isCells = true) : Own (fun (_ : β) W => W.heap[B]? = some o) := by
  intro s W W' row h hg hr
  rw [hg.block B (Array.getElem?_eq_some_iff.1 h).1 (fun e => by
    obtain ⟨o', h1, h2⟩ := hr B e.symm
    rw [h] at h1
    cases h1
    rw [ho] at h2
    cases h2)]
  exact h
def norm4 (l : List UInt8) : List UInt8 := [l[0]?.getD 0, l[1]?.getD 0, l[2]?.getD 0, l[3]?.getD 0]
theorem norm4_of {l : List UInt8} (h : l.length = 4) : norm4 l = l := by
  obtain ⟨a, b, c, d, rfl⟩ := four h
  rfl
def recO (l : List UInt8) : Obj := .cells #[.int .u8 ((l[0]?.getD 0).toNat : Int), .int .u8 ((l[1]?.getD 0).toNat : Int), .int .u8 ((l[2]?.getD 0).toNat : Int), .int .u8 ((l[3]?.getD 0).toNat : Int)] 80
theorem burnt_down {mem : List UInt8} {n : UInt8} : ∀ (d m : Nat), d + m = 60 → mem.length = 1264 → (∀ x ∈ down mem m, norm4 x.2 ≠ recF mem n 1 ∧ norm4 x.2 ≠ recF mem n 2) → burntF mem n = burntS mem n m
  | 0, m, hm, _, _ => by
    obtain rfl : m = 60 := by omega
    rfl
  | d + 1, m, hm, hl, h => by
    rw [down_succ mem m (by omega)] at h
    have h1 := h (m, slotF mem m) (by simp)
    rw [show norm4 (m, slotF mem m).2 = slotF mem m from norm4_of (slot_length hl m (by omega))] at h1
    rw [burnt_down d (m + 1) (by omega) hl (fun x hx => h x (List.mem_append.2 (.inl hx)))]
    rw [burntS, if_neg h1.1, if_neg h1.2]
set_option maxRecDepth 100000 in
set_option maxHeartbeats 8000000 in
theorem isBurnt_in (n0 : Nat) (hn : 6 ≤ n0) (bb : Nat) (p : Pow) (mem : List UInt8) (n : UInt8) (w : World) (h : StoAt w bb p mem) (hn16 : n < 16) :
    CallsIn Fence.wide n0 Try.prog 63 #[.pointer (some ⟨bb, 4, none⟩), .int .u8 (n.toNat : Int)] w fun e w' => e = .returned (.bool (burntF mem n)) ∧ Below w.heap.size w w' := by
  have hlt := h.lt
  have h1 : 1 ≤ n0 := by omega
  refine callsIn_of_wp_marks Try.func63 rfl trivial ?_ rfl
  simp only [Try.ntmps63, List.size_toArray, List.length_cons, List.length_nil, Nat.reduceAdd, Nat.reduceSub, Array.replicate_succ, Array.replicate_zero, List.push_toArray, List.append_toArray, List.nil_append, List.cons_append]
  obtain ⟨x1, y1, hr1⟩ := recF_cons mem n 1
  obtain ⟨x2, y2, hr2⟩ := recF_cons mem n 2
  have HC1 := hideIt (fun w' => record_one bb n mem w')
  have HC2 := hideIt (fun w' (h' : StoAt w' bb p mem) => record_two bb p mem n w' h' hn16)
  rw [hr1] at HC1
  rw [hr2] at HC2
  have hv1 : recV [n, 1, x1, y1] = .agg #[.int .u8 (n.toNat : Int), .int .u8 1, .int .u8 (x1.toNat : Int), .int .u8 (y1.toNat : Int)] := rfl
  have hv2 : recV [n, 2, x2, y2] = .agg #[.int .u8 (n.toNat : Int), .int .u8 2, .int .u8 (x2.toNat : Int), .int .u8 (y2.toNat : Int)] := rfl
  rw [hv1] at HC1
  rw [hv2] at HC2
  have HS := hideIt h
  clear h hv1 hv2
  gi_wp2_with fail
  refine ⟨trivial, (callsIn_wide.2 (HC1.out _)).mono ?_⟩
  rintro e w1 ⟨rfl, hb1⟩
  have hB1 : Below w.heap.size w w1 := ((Below.refl _ w).alloc (Nat.le_refl _) _).trans (hb1.mono (by simp))
  have hR1 : w1.heap[w.heap.size]? = some (.cells #[.bool false] 4) := (hb1.block w.heap.size (by simp)).trans (heap_alloc_new w _)
  have hz1 : w.heap.size < w1.heap.size := by have := hb1.size; simp at this; omega
  gi_wp2_with fail
  refine ⟨trivial, (callsIn_wide.2 (HC2.out _ (HS.out.below hB1))).mono ?_⟩
  rintro e w2 ⟨rfl, hb2⟩
  have hB2 : Below w.heap.size w w2 := hB1.trans (hb2.mono (by omega))
  have hR2 : w2.heap[w.heap.size]? = some (.cells #[.bool false] 4) := (hb2.block w.heap.size hz1).trans hR1
  have hz2 : w.heap.size < w2.heap.size := by have := hb2.size; omega
  have HW := hideIt (And.intro hB2 hR2)
  clear hB1 hR1 hb1 hb2 hB2 hR2 HC1 HC2
  gi_wp2_with (refine ⟨trivial, ?_⟩; gi_at_call 69; refine (back_in Fence.wide (n0 - 1) trivial rfl _ _ _ _).mono ?_; rintro e w' ⟨rfl, rfl⟩)
  obtain ⟨W0, hW0⟩ : ∃ W0, ((w2.alloc (.cells #[.int .u8 (n.toNat : Int), .int .u8 1, .int .u8 (x1.toNat : Int), .int .u8 (y1.toNat : Int)] 80)).alloc (.cells #[.int .u8 (n.toNat : Int), .int .u8 2, .int .u8 (x2.toNat : Int), .int .u8 (y2.toNat : Int)] 80)).alloc (.cells #[.slice (some ⟨bb, 1028, none⟩) 60 60] 127) = W0 := ⟨_, rfl⟩
  have hsz : W0.heap.size = w2.heap.size + 3 := by rw [← hW0]; simp
  have hB0 : Below w.heap.size w W0 := by rw [← hW0]; exact ((HW.out.1.alloc (by omega) _).alloc (by simp; omega) _).alloc (by simp; omega) _
  have hR0 : W0.heap[w.heap.size]? = some (.cells #[.bool false] 4) := by
    rw [← hW0, Below.heap_alloc _ _ _ (by simp; omega), Below.heap_alloc _ _ _ (by simp; omega), Below.heap_alloc _ _ _ hz2]; exact HW.out.2
  have hP1 : W0.heap[w2.heap.size]? = some (.cells #[.int .u8 (n.toNat : Int), .int .u8 1, .int .u8 (x1.toNat : Int), .int .u8 (y1.toNat : Int)] 80) := by
    rw [← hW0, Below.heap_alloc _ _ _ (by simp; omega), Below.heap_alloc _ _ _ (by simp)]; exact heap_alloc_new _ _
  have hP2 : W0.heap[w2.heap.size + 1]? = some (.cells #[.int .u8 (n.toNat : Int), .int .u8 2, .int .u8 (x2.toNat : Int), .int .u8 (y2.toNat : Int)] 80) := by
    rw [← hW0, Below.heap_alloc _ _ _ (by simp)]
    have := heap_alloc_new (w2.alloc (.cells #[.int .u8 (n.toNat : Int), .int .u8 1, .int .u8 (x1.toNat : Int), .int .u8 (y1.toNat : Int)] 80)) (.cells #[.int .u8 (n.toNat : Int), .int .u8 2, .int .u8 (x2.toNat : Int), .int .u8 (y2.toNat : Int)] 80)
    rwa [World.alloc_size] at this
  have hP3 : W0.cell? ⟨w2.heap.size + 1 + 1, 0, none⟩ = some (.slice (some ⟨bb, 1028, none⟩) 60 60) := by
    have := heap_alloc_new ((w2.alloc (.cells #[.int .u8 (n.toNat : Int), .int .u8 1, .int .u8 (x1.toNat : Int), .int .u8 (y1.toNat : Int)] 80)).alloc (.cells #[.int .u8 (n.toNat : Int), .int .u8 2, .int .u8 (x2.toNat : Int), .int .u8 (y2.toNat : Int)] 80)) (.cells #[.slice (some ⟨bb, 1028, none⟩) 60 60] 127)
    rw [World.alloc_size, World.alloc_size] at this
    rw [← hW0]
    exact cell_of_row _ _ 0 _ _ (0, 0) this
  have hS0 : StoAt W0 bb p mem := HS.out.below hB0
  have hml := hS0.len
  rw [hW0]
  clear hW0 HW
  refine wpIn_rangeFunc_ownH rfl h1 (gf := 73) (lb := #[.pointer (some ⟨w2.heap.size + 1 + 1, 0, none⟩)]) rfl trivial (enters_of Try.func73 (by kernel_rfl) rfl)
    (back_stops Fence.wide (n0 - 1) trivial rfl (by omega) (w2.heap.size + 1 + 1) W0.heap.size bb p mem W0 (by omega) (Nat.le_refl _) (by omega) hP3 hS0) belowK_t (belowK_b (by omega)) (Below.refl _ _) (fun _ => rfl)
    (fun pre W => (∀ x ∈ pre, norm4 x.2 ≠ recF mem n 1 ∧ norm4 x.2 ≠ recF mem n 2) ∧ Below W0.heap.size W0 W)
    (fun c pre W => (∃ v : Bool, (c = .ret ∧ ∃ pre' x, pre = pre' ++ [x] ∧ (∀ y ∈ pre', norm4 y.2 ≠ recF mem n 1 ∧ norm4 y.2 ≠ recF mem n 2) ∧ ((norm4 x.2 = recF mem n 1 ∧ v = false) ∨ (norm4 x.2 ≠ recF mem n 1 ∧ norm4 x.2 = recF mem n 2 ∧ v = true))) ∧ W.heap[w.heap.size]? = some (.cells #[.bool v] 4)) ∧ Below w.heap.size w W)
    (OwnFrom.and (ownFrom_pure _ _) (ownFrom_below (Nat.le_refl _) (by omega)))
    (fun c => OwnFrom.and (fun s X Y row hs hg hr => by
      obtain ⟨v, e1, e2⟩ := hs
      exact ⟨v, e1, heapIs_own (β := Unit) w.heap.size (.cells #[.bool v] 4) rfl () X Y row e2 hg (fun r e => (hr r e).2)⟩) (ownFrom_below (Nat.le_refl _) (by omega)))
    ⟨by simp, Below.refl _ _⟩
    (fun x a' W => ∃ Bx, W.heap[Bx]? = some (recO x.2) ∧ a' = { tmps := #[.pointer (some ⟨bb, 4, none⟩), .int .u8 (n.toNat : Int), undef, undef, .pointer (some ⟨w.heap.size, 0, none⟩), .pointer (some ⟨w2.heap.size, 0, none⟩), .pointer (some ⟨w2.heap.size + 1, 0, none⟩), undef, .pointer (some ⟨Bx, 0, none⟩), .pointer (some ⟨bb, 4, none⟩), .int .u8 (n.toNat : Int), .agg #[.int .u8 (n.toNat : Int), .int .u8 1, .int .u8 (x1.toNat : Int), .int .u8 (y1.toNat : Int)], .pointer (some ⟨bb, 4, none⟩), .int .u8 (n.toNat : Int), .agg #[.int .u8 (n.toNat : Int), .int .u8 2, .int .u8 (x2.toNat : Int), .int .u8 (y2.toNat : Int)], .pointer (some ⟨bb, 4, none⟩), .pointer (some ⟨bb, 4, none⟩), .pointer (some ⟨bb, 1028, none⟩), .slice (some ⟨bb, 1028, none⟩) 60 60, .func (.func 73) #[] #[.pointer (some ⟨w2.heap.size + 1 + 1, 0, none⟩)], .int .i64 (x.1 : Int), .agg #[.int .u8 ((x.2[0]?.getD 0).toNat : Int), .int .u8 ((x.2[1]?.getD 0).toNat : Int), .int .u8 ((x.2[2]?.getD 0).toNat : Int), .int .u8 ((x.2[3]?.getD 0).toNat : Int)], undef, undef, undef, undef, undef, undef, undef], defers := [] })
    (fun x a' _ X Y row hs hg hr => by obtain ⟨Bx, e1, e2⟩ := hs; exact ⟨Bx, heapIs_own (β := Unit) Bx (recO x.2) rfl () X Y row e1 hg (fun r e => (hr r e).2), e2⟩)
    ?assign ?body ?done ?stop
  case assign =>
    rintro l pre x W K ⟨hp, hBW⟩ hK
    gi_wp2
    exact hK _ _ ((KeepsOthers.alloc _ _).from _) ((Below.refl _ W).alloc hBW.size _) ⟨hp, hBW.alloc hBW.size _⟩ ⟨W.heap.size, heap_alloc_new W _, rfl⟩
  case body =>
    rintro l pre x a' W hl ⟨r, hr⟩ ⟨hp, hBW⟩ ⟨Bx, hBx, rfl⟩ hlt'
    have q1 := (hBW.block w.heap.size (by omega)).trans hR0
    have q2 := (hBW.block w2.heap.size (by omega)).trans hP1
    have q3 := (hBW.block (w2.heap.size + 1) (by omega)).trans hP2
    have c0 : W.cell? ⟨w.heap.size, 0, none⟩ = some (.bool false) := cell_of_row _ _ 0 _ _ (0, 0) q1
    have f0 := frozen_of_row W w.heap.size 0 _ _ q1
    have d0 : W.cell? ⟨w2.heap.size, 0, none⟩ = some (.int .u8 (n.toNat : Int)) := cell_of_row _ _ 0 _ _ (0, 0) q2
    have d1 : W.cell? ⟨w2.heap.size, 1, none⟩ = some (.int .u8 1) := cell_of_row _ _ 1 _ _ (0, 0) q2
    have d2 : W.cell? ⟨w2.heap.size, 2, none⟩ = some (.int .u8 (x1.toNat : Int)) := cell_of_row _ _ 2 _ _ (0, 0) q2
    have d3 : W.cell? ⟨w2.heap.size, 3, none⟩ = some (.int .u8 (y1.toNat : Int)) := cell_of_row _ _ 3 _ _ (0, 0) q2
    have e0 : W.cell? ⟨w2.heap.size + 1, 0, none⟩ = some (.int .u8 (n.toNat : Int)) := cell_of_row _ _ 0 _ _ (0, 0) q3
    have e1 : W.cell? ⟨w2.heap.size + 1, 1, none⟩ = some (.int .u8 2) := cell_of_row _ _ 1 _ _ (0, 0) q3
    have e2 : W.cell? ⟨w2.heap.size + 1, 2, none⟩ = some (.int .u8 (x2.toNat : Int)) := cell_of_row _ _ 2 _ _ (0, 0) q3
    have e3 : W.cell? ⟨w2.heap.size + 1, 3, none⟩ = some (.int .u8 (y2.toNat : Int)) := cell_of_row _ _ 3 _ _ (0, 0) q3
    obtain ⟨xi, xl⟩ := x
    simp only at hBx ⊢
    have hn4 : norm4 xl = [xl[0]?.getD 0, xl[1]?.getD 0, xl[2]?.getD 0, xl[3]?.getD 0] := rfl
    have hro : recO xl = .cells #[.int .u8 ((xl[0]?.getD 0).toNat : Int), .int .u8 ((xl[1]?.getD 0).toNat : Int), .int .u8 ((xl[2]?.getD 0).toNat : Int), .int .u8 ((xl[3]?.getD 0).toNat : Int)] 80 := rfl
    rw [hro] at hBx
    obtain ⟨r0, h0'⟩ : ∃ r0, xl[0]?.getD 0 = r0 := ⟨_, rfl⟩
    obtain ⟨r1, h1'⟩ : ∃ r1, xl[1]?.getD 0 = r1 := ⟨_, rfl⟩
    obtain ⟨r2, h2'⟩ : ∃ r2, xl[2]?.getD 0 = r2 := ⟨_, rfl⟩
    obtain ⟨r3, h3'⟩ : ∃ r3, xl[3]?.getD 0 = r3 := ⟨_, rfl⟩
    rw [h0', h1', h2', h3'] at hn4 hBx ⊢
    have b0 : W.cell? ⟨Bx, 0, none⟩ = some (.int .u8 (r0.toNat : Int)) := cell_of_row _ _ 0 _ _ (0, 0) hBx
    have b1 : W.cell? ⟨Bx, 1, none⟩ = some (.int .u8 (r1.toNat : Int)) := cell_of_row _ _ 1 _ _ (0, 0) hBx
    have b2 : W.cell? ⟨Bx, 2, none⟩ = some (.int .u8 (r2.toNat : Int)) := cell_of_row _ _ 2 _ _ (0, 0) hBx
    have b3 : W.cell? ⟨Bx, 3, none⟩ = some (.int .u8 (r3.toNat : Int)) := cell_of_row _ _ 3 _ _ (0, 0) hBx
    have hE1 : ∀ w', (Op.equalIn 10000 80 (.agg #[.int .u8 (r0.toNat : Int), .int .u8 (r1.toNat : Int), .int .u8 (r2.toNat : Int), .int .u8 (r3.toNat : Int)]) (.agg #[.int .u8 (n.toNat : Int), .int .u8 1, .int .u8 (x1.toNat : Int), .int .u8 (y1.toNat : Int)])).run Try.prog w' = .ok (decide ([r0, r1, r2, r3] = [n, 1, x1, y1])) w' := fun w' => eqRec r0 r1 r2 r3 n 1 x1 y1 w'
    have hE2 : ∀ w', (Op.equalIn 10000 80 (.agg #[.int .u8 (r0.toNat : Int), .int .u8 (r1.toNat : Int), .int .u8 (r2.toNat : Int), .int .u8 (r3.toNat : Int)]) (.agg #[.int .u8 (n.toNat : Int), .int .u8 2, .int .u8 (x2.toNat : Int), .int .u8 (y2.toNat : Int)])).run Try.prog w' = .ok (decide ([r0, r1, r2, r3] = [n, 2, x2, y2])) w' := fun w' => eqRec r0 r1 r2 r3 n 2 x2 y2 w'
    rw [← hn4, ← hr1] at hE1
    rw [← hn4, ← hr2] at hE2
    have hG := guardRec
    have HX := hideIt (And.intro q1 (And.intro hp hBW))
    have hB0' := hideIt (hB0.trans (hBW.mono hB0.size))
    clear q1 q2 q3 hBx hro hn4 hr1 hr2 hp hBW h0' h1' h2' h3' hP1 hP2 hP3 hR0 HS hS0 hr
    by_cases hx1 : norm4 xl = recF mem n 1
    · rw [decide_eq_true hx1] at hE1
      have HE := hideIt hx1
      clear hx1
      gi_wp2
      refine ⟨(KeepsOthers.setCell _ _ _).from _, ⟨false, ⟨rfl, pre, (xi, xl), rfl, HX.out.2.1, .inl ⟨HE.out, rfl⟩⟩, ?_⟩, hB0'.out.setCell (p := ⟨w.heap.size, 0, none⟩) (Nat.le_refl _) _⟩
      exact heap_setCell_same _ _ _ _ _ _ HX.out.1
    · rw [decide_eq_false hx1] at hE1
      have HE := hideIt hx1
      clear hx1
      by_cases hx2 : norm4 xl = recF mem n 2
      · rw [decide_eq_true hx2] at hE2
        have HE2 := hideIt hx2
        clear hx2
        gi_wp2
        refine ⟨(KeepsOthers.setCell _ _ _).from _, ⟨true, ⟨rfl, pre, (xi, xl), rfl, HX.out.2.1, .inr ⟨HE.out, HE2.out, rfl⟩⟩, ?_⟩, hB0'.out.setCell (p := ⟨w.heap.size, 0, none⟩) (Nat.le_refl _) _⟩
        exact heap_setCell_same _ _ _ _ _ _ HX.out.1
      · rw [decide_eq_false hx2] at hE2
        have HE2 := hideIt hx2
        clear hx2
        gi_wp2
        refine ⟨KeepsFrom.refl _ _, Below.refl _ _, fun y hy => ?_, HX.out.2.2⟩
        rcases List.mem_append.1 hy with hy | hy
        · exact HX.out.2.1 y hy
        · have : y = (xi, xl) := by simpa using hy
          subst this
          exact ⟨HE.out, HE2.out⟩
  case done =>
    rintro D zs W hD rfl ⟨hp, hBW⟩ hK
    have q1 := (hBW.block w.heap.size (by omega)).trans hR0
    have c0 : W.cell? ⟨w.heap.size, 0, none⟩ = some (.bool false) := cell_of_row _ _ 0 _ _ (0, 0) q1
    have f0 := frozen_of_row W w.heap.size 0 _ _ q1
    have hB1 := hB0.trans (hBW.mono hB0.size)
    have hbf : burntF mem n = false := by rw [burnt_down 60 0 rfl hml hp]; rfl
    gi_wp2
    have hK' := (KeepsOthers.setCell W ⟨w.heap.size, 0, none⟩ (.bool false)).same D _ hK rfl
    refine ⟨by simp, .inl ⟨_, _, rfl, run_takeDeferred hK', ?_⟩⟩
    have hc5 := cell_kept (World.cell?_setCell_same W ⟨w.heap.size, 0, none⟩ (.bool false) c0) (grownBy_putObj' _ D (.deferred none)) (fun r e => by cases e; exact ⟨_, hK', rfl⟩)
    refine ⟨.bool false, ?_, by rw [hbf], (hB1.setCell (p := ⟨w.heap.size, 0, none⟩) (Nat.le_refl _) _).trans (belowK_b (w := w) (Nat.le_refl _) _ D _ _ (by omega) hK' rfl rfl)⟩
    simp [results, Try.f63, go_sem, hc5]
  case stop =>
    rintro D c pre W hD ⟨k, hk, hpre⟩ ⟨⟨v, ⟨rfl, pre', x, hpx, hp, hv⟩, q1⟩, hB1⟩ hK
    have hbf : burntF mem n = v := by
      have hk6 : k < 60 := by
        rcases Nat.lt_or_ge k 60 with h | h
        · exact h
        · have h60 : k = 60 := by omega
          rw [h60] at hpre
          rw [hpre] at hpx
          have := congrArg List.length hpx
          simp [down] at this
      rw [hpre, down_succ mem k hk6] at hpx
      obtain ⟨e1, e2⟩ := List.append_inj' hpx rfl
      rw [← e1] at hp
      have e3 : (k, slotF mem k) = x := by simpa using e2
      rw [← e3] at hv
      rw [show norm4 (k, slotF mem k).2 = slotF mem k from norm4_of (slot_length hml k hk6)] at hv
      rw [burnt_down (60 - (k + 1)) (k + 1) (by omega) hml hp, burntS]
      rcases hv with ⟨h1, h2⟩ | ⟨h1, h2, h3⟩
      · rw [if_pos h1, h2]
      · rw [if_neg h1, if_pos h2, h3]
    have c0 : W.cell? ⟨w.heap.size, 0, none⟩ = some (.bool v) := cell_of_row _ _ 0 _ _ (0, 0) q1
    gi_wp2
    refine ⟨by simp, .inl ⟨_, _, rfl, run_takeDeferred hK, ?_⟩⟩
    have hc5 := cell_kept c0 (grownBy_putObj' _ D (.deferred none)) (fun r e => by cases e; exact ⟨_, hK, rfl⟩)
    refine ⟨.bool v, ?_, by rw [hbf], hB1.trans (belowK_b (w := w) (Nat.le_refl _) W D _ _ (by omega) hK rfl rfl)⟩
    simp [results, Try.f63, go_sem, hc5]
theorem isBurnt_any (bb : Nat) (p : Pow) (mem : List UInt8) (n : UInt8) (w : World) (h : StoAt w bb p mem) (hn16 : n < 16) :
    Calls Try.prog 63 #[.pointer (some ⟨bb, 4, none⟩), .int .u8 (n.toNat : Int)] w fun e w' => e = .returned (.bool (burntF mem n)) ∧ Below w.heap.size w w' :=
  callsIn_wide.1 (isBurnt_in 6 (by omega) bb p mem n w h hn16)
end Go.Proofs.Ythokdbcpkmcieaa
