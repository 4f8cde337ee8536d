/- A new board's cells. -/
import Derived.Test.YthokdbcpkmcieaaBrdN
namespace Go.Proofs.Ythokdbcpkmcieaa
open Go Go.RowKit
def talkL : List Value := [.int .i64 0] ++ (List.replicate 82 (.int .u8 0) ++ [.int .i64 0, .bool false, .int .u16 0, .int .u8 0, .string ⟨#[]⟩])
def brdL : List Value := [.bool true, .bool false, .int .i64 0, .int .u8 0] ++ (byteVs mem0 ++ talkL)
theorem Try.infoBoard : (Try.prog.info? 88).map (·.size) = some 1356 := by kernel_rfl
theorem Try.infoBoard2 : (Try.prog.info? 91).map (·.size) = some 1356 := by kernel_rfl
theorem mem0_len : mem0.length = 1264 := List.length_replicate
theorem talkL_len : talkL.length = 88 := by decide
theorem brdL_len : brdL.length = 1356 := by
  unfold brdL
  rw [List.length_append, List.length_append, byteVs_len, mem0_len, talkL_len]
  rfl
theorem talkL_one : ∀ v ∈ talkL, v.oneCell' = true := by
  intro v hv
  unfold talkL at hv
  rcases List.mem_append.1 hv with h | h
  · simp at h; subst h; rfl
  · rcases List.mem_append.1 h with h | h
    · rw [(List.mem_replicate.1 h).2]; rfl
    · simp at h
      rcases h with rfl | rfl | rfl | rfl | rfl <;> rfl
theorem brdL_one : ∀ v ∈ brdL, v.oneCell' = true := by
  intro v hv
  unfold brdL at hv
  rcases List.mem_append.1 hv with h | h
  · simp at h
    rcases h with rfl | rfl | rfl | rfl <;> rfl
  · rcases List.mem_append.1 h with h | h
    · exact byteVs_one _ v h
    · exact talkL_one v h
theorem zero_board : Try.zeroCells88.toList = [Value.bool false, .bool false, .int .i64 0, .int .u8 0] ++ (List.replicate 1264 (Value.int .u8 0) ++ talkL) := by kernel_rfl
theorem built_board (parts : List (Nat × Value)) : Try.prog.built 88 parts = Instr.fill (fun i => (#[(0, 1), (1, 3), (4, 1264), (1268, 88)] : Array (Nat × Nat))[i]?) Try.zeroCells88 parts := by kernel_rfl
theorem fold_set : ∀ (vs : List Value) (off k : Nat) (cs : Array Value), off + k + vs.length ≤ cs.size → ((vs.zipIdx k).foldl (fun (cs : Array Value) (x : Value × Nat) => cs.setIfInBounds (off + x.2) x.1) cs).toList = cs.toList.take (off + k) ++ (vs ++ cs.toList.drop (off + k + vs.length))
  | [], off, k, cs, _ => by simp
  | v :: vs, off, k, cs, h => by
    simp only [List.length_cons] at h
    rw [List.zipIdx_cons, List.foldl_cons, fold_set vs off (k + 1) _ (by simp; omega)]
    simp only [Array.toList_setIfInBounds]
    have hk : off + k < cs.toList.length := by rw [Array.length_toList]; omega
    obtain ⟨l, hl⟩ : ∃ l, cs.toList = l := ⟨_, rfl⟩
    rw [hl] at hk ⊢
    have h1 : (l.set (off + k) v).drop (off + (k + 1) + vs.length) = l.drop (off + k + (vs.length + 1)) := by
      rw [List.drop_set_of_lt (by omega)]
      congr 1
      omega
    have h2 : (l.set (off + k) v).take (off + (k + 1)) = l.take (off + k) ++ [v] := by
      rw [show off + (k + 1) = off + k + 1 by omega, List.take_add_one, List.getElem?_set_self hk, List.take_set_of_le (by omega)]
      rfl
    rw [h1, h2]
    simp
theorem fold_set0 (vs cs : Array Value) (off : Nat) (h : off + vs.size ≤ cs.size) : vs.zipIdx.foldl (fun (cs : Array Value) (x : Value × Nat) => cs.setIfInBounds (off + x.2) x.1) cs = (cs.toList.take off ++ (vs.toList ++ cs.toList.drop (off + vs.size))).toArray := by
  have := fold_set vs.toList off 0 cs (by rw [Array.length_toList]; omega)
  simp only [Nat.add_zero, Array.length_toList] at this
  rw [← this, ← Array.foldl_toList, Array.toList_zipIdx]
theorem fills (place : Nat → Option (Nat × Nat)) (cs : Array Value) (i : Nat) (v : Value) (rest : List (Nat × Value)) (off size : Nat) (hp : place i = some (off, size)) (hs : v.cells.size = size) (hf : off + size ≤ cs.size) : Instr.fill place cs ((i, v) :: rest) = Instr.fill place (cs.toList.take off ++ (v.cells.toList ++ cs.toList.drop (off + size))).toArray rest := by
  rw [Instr.fill, hp]
  simp only
  rw [if_neg (by simp; omega)]
  congr 1
  have := fold_set0 v.cells cs off (by omega)
  rw [hs] at this
  rw [← this]
theorem splice (H R T M : List Value) (n k : Nat) (hn : H.length = n) (hk : R.length = k) : List.take n (H ++ (R ++ T)) ++ (M ++ List.drop (n + k) (H ++ (R ++ T))) = H ++ (M ++ T) := by
  have h1 : List.take n (H ++ (R ++ T)) = H := by rw [← hn]; exact List.take_left
  have h2 : List.drop (n + k) (H ++ (R ++ T)) = T := by
    rw [← List.append_assoc, ← hn, ← hk, ← List.length_append]
    exact List.drop_left
  rw [h1, h2]
theorem built_brd : Try.prog.built 88 [(0, .bool true), (2, .agg (byteVs mem0).toArray)] = some brdL.toArray := by
  rw [built_board]
  have hsz : Try.zeroCells88.size = 1356 := by kernel_rfl
  have e1 := fills (fun i => (#[(0, 1), (1, 3), (4, 1264), (1268, 88)] : Array (Nat × Nat))[i]?) Try.zeroCells88 0 (.bool true) [(2, .agg (byteVs mem0).toArray)] 0 1 rfl rfl (by omega)
  have hm : (Value.agg (byteVs mem0).toArray).cells.size = 1264 := by
    show (byteVs mem0).toArray.size = 1264
    rw [List.size_toArray, byteVs_len, mem0_len]
  rw [e1, zero_board]
  have h2 : (List.take 0 ([Value.bool false, .bool false, .int .i64 0, .int .u8 0] ++ (List.replicate 1264 (Value.int .u8 0) ++ talkL)) ++ ((Value.bool true).cells.toList ++ List.drop (0 + 1) ([Value.bool false, .bool false, .int .i64 0, .int .u8 0] ++ (List.replicate 1264 (Value.int .u8 0) ++ talkL)))) = [Value.bool true, .bool false, .int .i64 0, .int .u8 0] ++ (List.replicate 1264 (Value.int .u8 0) ++ talkL) := rfl
  rw [h2]
  have hl : ([Value.bool true, .bool false, .int .i64 0, .int .u8 0] ++ (List.replicate 1264 (Value.int .u8 0) ++ talkL)).toArray.size = 1356 := by
    rw [List.size_toArray, List.length_append, List.length_append, List.length_replicate, talkL_len]; rfl
  rw [fills _ _ 2 _ _ 4 1264 rfl hm (by omega)]
  rw [Instr.fill]
  have h3 : (Value.agg (byteVs mem0).toArray).cells.toList = byteVs mem0 := rfl
  rw [h3, splice _ _ _ _ 4 1264 rfl List.length_replicate]
  rfl
theorem built_board2 (parts : List (Nat × Value)) : Try.prog.built 91 parts = Instr.fill (fun i => (#[(0, 1356)] : Array (Nat × Nat))[i]?) Try.zeroCells91 parts := by kernel_rfl
theorem built_brd2 : Try.prog.built 91 [(0, .agg brdL.toArray)] = some brdL.toArray := by
  rw [built_board2]
  have hsz : Try.zeroCells91.size = 1356 := by kernel_rfl
  have hm : (Value.agg brdL.toArray).cells.size = 1356 := by
    show brdL.toArray.size = 1356
    rw [List.size_toArray, brdL_len]
  rw [fills _ _ 0 _ _ 0 1356 rfl hm (by omega), Instr.fill]
  have h3 : (Value.agg brdL.toArray).cells.toList = brdL := rfl
  have h4 : List.drop (0 + 1356) Try.zeroCells91.toList = [] := List.drop_eq_nil_of_le (by rw [Array.length_toList, hsz]; exact Nat.le_refl _)
  rw [h3, h4, List.append_nil]
  rfl
theorem wpList_builtAs {P : Program} {ops : Array Oper} {rest : List Oper} {o : Oper} {a : Act} {w : World} {Q : Exit → Act → World → Prop} (hg : o.guard = none) (t : TypeId) (parts : Array (Nat × Operand)) (ho : o.op = .build t parts) (vs : List (Nat × Value)) (hvs : (parts.map fun (i, x) => (i, a.eval x)).toList = vs) (cells : Array Value) (hb : P.built t vs = some cells)
    (h : wpList P ops Q rest (a.put o.dst (.agg cells)) w) : wpList P ops Q (o :: rest) a w := by
  refine wpList_build hg t parts ho (by rw [hvs, hb]; rfl) ?_
  rw [hvs, hb]
  exact h
end Go.Proofs.Ythokdbcpkmcieaa
