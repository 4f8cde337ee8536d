/- What keepStrings leaves behind, step by step. -/
import Derived.Test.YthokdbcpkmcieaaBook2
import Derived.OneCell
namespace Go.Proofs.Ythokdbcpkmcieaa
open Go Go.RowKit
theorem own_base {w : World} {B base : Nat} {e : TypeId} {size n : Nat} {v : Value} {xs : List Value} (h : w.ownsRow B e size v n xs) (hb : base ≤ B) : w.ownsRow base e size v n xs := by
  obtain ⟨h1, h2 | ⟨g, cap, cur, rfl, hg, h3⟩⟩ := h
  · exact ⟨h1, .inl h2⟩
  · exact ⟨h1, .inr ⟨g, cap, cur, rfl, Nat.le_trans hb hg, h3⟩⟩
/-- A store into a row of the call's own. -/
theorem own_put {w : World} {B : Nat} {e : TypeId} {n : Nat} {g cap : Nat} {xs : List Value} (h : w.ownsRow B e 1 (.slice (some ⟨g, 0, none⟩) n cap) n xs) {k : Nat} (u : Value) : (w.setCell ⟨g, k, none⟩ u).ownsRow B e 1 (.slice (some ⟨g, 0, none⟩) n cap) n (xs.set k u) := by
  obtain ⟨h1, ⟨h2, _⟩ | ⟨g', cap', cur, hv, hg, hc, hn, hm, hs, ht⟩⟩ := h
  · cases h2
  · simp only [Value.slice.injEq, Option.some.injEq, Addr.mk.injEq, true_and, and_true] at hv
    obtain ⟨rfl, rfl⟩ := hv
    rw [Nat.mul_one] at hs ht
    refine ⟨by rw [List.length_set]; exact h1, .inr ⟨g, cap, cur.set! k u, rfl, hg, ?_, hn, hm, by rw [Array.set!_eq_setIfInBounds, Array.size_setIfInBounds, hs, Nat.mul_one], ?_⟩⟩
    · simp only [World.setCell, Array.getElem?_modify, if_true, hc, Option.map_some]
      rfl
    · rw [Nat.mul_one, Array.set!_eq_setIfInBounds, Array.toList_setIfInBounds, List.take_set, ht]
theorem fill_next {l : List Value} {k : Nat} {u : Value} (hk : k < l.length) : (List.replicate k u ++ l.drop k).set k u = List.replicate (k + 1) u ++ l.drop (k + 1) := by
  rw [List.set_append_right _ _ (by rw [List.length_replicate]; exact Nat.le_refl _), List.length_replicate, Nat.sub_self, List.drop_eq_getElem_cons hk, List.set_cons_zero, List.replicate_succ', List.append_assoc]
  rfl
/-- The state of keepStrings behind 'x := Strings{..}': the new entry lies in the block xb. -/
structure KS (w wx : World) (top B : Nat) (vl : Value) (n : Nat) (m : ByteArray) (xb : Nat) (va vb vc : Value) : Prop where
  below : Below top w wx
  row : wx.ownsRow B 9 1 vl n (List.replicate n (.string m))
  cell : ∀ j u, [vl, va, vb, vc, .string m][j]? = some u → wx.cell? ⟨xb, j, none⟩ = some u
  fz : ∀ j, wx.frozen? ⟨xb, j, none⟩ = false
  xlt : xb < wx.heap.size
  full : ∀ v ∈ [va, vb, vc], FullAt wx B wx.heap.size v m
  xne : ∀ v ∈ [vl, va, vb, vc], v.ownBlock ≠ some xb
  xge : top ≤ xb
  ble : B ≤ wx.heap.size
  tle : top ≤ B
theorem full_mark {w w' : World} {g : Option Nat} {B : Nat} {v : Value} {m : ByteArray} (h : FullAt w B w.heap.size v m) (hm : MarkTo w w' g 9 (.string m)) : FullAt w' B w'.heap.size v m := by
  obtain ⟨n, h1, h2, h3⟩ := h
  exact ⟨n, h1, hm.full h2, fun g hg => Nat.lt_of_lt_of_le (h3 g hg) hm.grown.size⟩
theorem KS.mark {w wx wn : World} {top B : Nat} {vl : Value} {n : Nat} {m : ByteArray} {xb : Nat} {va vb vc : Value} (h : KS w wx top B vl n m xb va vb vc) (hm : MarkTo wx wn vl.ownBlock 9 (.string m)) : KS w wn top B vl n m xb va vb vc := by
  have hxb : wn.heap[xb]? = wx.heap[xb]? := hm.grown.block xb h.xlt (fun e => h.xne vl (by simp) e.symm)
  refine ⟨?_, hm.full h.row, fun j u hu => (World.cell?_of_block hxb).trans (h.cell j u hu), fun j => (World.frozen?_of_block hxb).trans (h.fz j), Nat.lt_of_lt_of_le h.xlt hm.grown.size, fun v hv => full_mark (h.full v hv) hm, h.xne, h.xge, Nat.le_trans h.ble hm.grown.size, h.tle⟩
  have hb := h.below
  have hg := hm.grown
  exact ⟨hg.os.trans hb.os, hg.tape.trans hb.tape, hg.output.trans hb.output, Nat.le_trans hb.size hg.size, fun k hk => by
    rw [hg.block k (by have := h.ble; have := h.tle; omega) (fun e => by have := (h.row.lt k e.symm).1; have := h.tle; omega), hb.block k hk]⟩
theorem full_set {w : World} {B xb j : Nat} {v u : Value} {m : ByteArray} (h : FullAt w B w.heap.size v m) (hne : v.ownBlock ≠ some xb) : FullAt (w.setCell ⟨xb, j, none⟩ u) B (w.setCell ⟨xb, j, none⟩ u).heap.size v m := by
  obtain ⟨n, h1, h2, h3⟩ := h
  exact ⟨n, h1, ownsRow_setCell_other h2 (by simpa using hne) u, fun g hg => by simpa [World.setCell] using h3 g hg⟩
theorem cells5 {w : World} {xb : Nat} {a b c d e : Value} (h : ∀ j u, [a, b, c, d, e][j]? = some u → w.cell? ⟨xb, j, none⟩ = some u) : w.cell? ⟨xb, 0, none⟩ = some a ∧ w.cell? ⟨xb, 1, none⟩ = some b ∧ w.cell? ⟨xb, 2, none⟩ = some c ∧ w.cell? ⟨xb, 3, none⟩ = some d ∧ w.cell? ⟨xb, 4, none⟩ = some e :=
  ⟨h 0 a rfl, h 1 b rfl, h 2 c rfl, h 3 d rfl, h 4 e rfl⟩
theorem cell_set5 {w : World} {xb i : Nat} {l : List Value} {v : Value} (h : ∀ j u, l[j]? = some u → w.cell? ⟨xb, j, none⟩ = some u) (hi : i < l.length) : ∀ j u, (l.set i v)[j]? = some u → (w.setCell ⟨xb, i, none⟩ v).cell? ⟨xb, j, none⟩ = some u := by
  intro j u hu
  by_cases hj : j = i
  · subst hj
    rw [List.getElem?_set_self hi] at hu
    cases hu
    exact World.cell?_setCell_same _ _ _ (h j l[j] (List.getElem?_eq_getElem hi))
  · rw [List.getElem?_set_ne (by omega)] at hu
    rw [World.cell?_setCell_other _ _ _ _ (by simp)]
    exact h j u hu
theorem KS.set1 {w wn : World} {top B : Nat} {vl : Value} {n : Nat} {m : ByteArray} {xb : Nat} {va vb vc v' : Value} (h : KS w wn top B vl n m xb va vb vc) (hf : FullAt wn B wn.heap.size v' m) (hne : v'.ownBlock ≠ some xb) : KS w (wn.setCell ⟨xb, 1, none⟩ v') top B vl n m xb v' vb vc :=
  ⟨h.below.setCell h.xge _, ownsRow_setCell_other h.row (by simpa using h.xne vl (by simp)) _, cell_set5 h.cell (i := 1) (v := v') (by simp), fun j => by simp [h.fz j], by simpa [World.setCell] using h.xlt,
    fun v hv => by
      simp only [List.mem_cons, List.not_mem_nil, or_false] at hv
      rcases hv with rfl | rfl | rfl
      · exact full_set hf hne
      · exact full_set (h.full _ (by simp)) (h.xne _ (by simp))
      · exact full_set (h.full _ (by simp)) (h.xne _ (by simp)),
    fun v hv => by
      simp only [List.mem_cons, List.not_mem_nil, or_false] at hv
      rcases hv with rfl | rfl | rfl | rfl
      · exact h.xne _ (by simp)
      · exact hne
      · exact h.xne _ (by simp)
      · exact h.xne _ (by simp), h.xge, by simpa [World.setCell] using h.ble, h.tle⟩
theorem KS.set2 {w wn : World} {top B : Nat} {vl : Value} {n : Nat} {m : ByteArray} {xb : Nat} {va vb vc v' : Value} (h : KS w wn top B vl n m xb va vb vc) (hf : FullAt wn B wn.heap.size v' m) (hne : v'.ownBlock ≠ some xb) : KS w (wn.setCell ⟨xb, 2, none⟩ v') top B vl n m xb va v' vc :=
  ⟨h.below.setCell h.xge _, ownsRow_setCell_other h.row (by simpa using h.xne vl (by simp)) _, cell_set5 h.cell (i := 2) (v := v') (by simp), fun j => by simp [h.fz j], by simpa [World.setCell] using h.xlt,
    fun v hv => by
      simp only [List.mem_cons, List.not_mem_nil, or_false] at hv
      rcases hv with rfl | rfl | rfl
      · exact full_set (h.full _ (by simp)) (h.xne _ (by simp))
      · exact full_set hf hne
      · exact full_set (h.full _ (by simp)) (h.xne _ (by simp)),
    fun v hv => by
      simp only [List.mem_cons, List.not_mem_nil, or_false] at hv
      rcases hv with rfl | rfl | rfl | rfl
      · exact h.xne _ (by simp)
      · exact h.xne _ (by simp)
      · exact hne
      · exact h.xne _ (by simp), h.xge, by simpa [World.setCell] using h.ble, h.tle⟩
theorem KS.set3 {w wn : World} {top B : Nat} {vl : Value} {n : Nat} {m : ByteArray} {xb : Nat} {va vb vc v' : Value} (h : KS w wn top B vl n m xb va vb vc) (hf : FullAt wn B wn.heap.size v' m) (hne : v'.ownBlock ≠ some xb) : KS w (wn.setCell ⟨xb, 3, none⟩ v') top B vl n m xb va vb v' :=
  ⟨h.below.setCell h.xge _, ownsRow_setCell_other h.row (by simpa using h.xne vl (by simp)) _, cell_set5 h.cell (i := 3) (v := v') (by simp), fun j => by simp [h.fz j], by simpa [World.setCell] using h.xlt,
    fun v hv => by
      simp only [List.mem_cons, List.not_mem_nil, or_false] at hv
      rcases hv with rfl | rfl | rfl
      · exact full_set (h.full _ (by simp)) (h.xne _ (by simp))
      · exact full_set (h.full _ (by simp)) (h.xne _ (by simp))
      · exact full_set hf hne,
    fun v hv => by
      simp only [List.mem_cons, List.not_mem_nil, or_false] at hv
      rcases hv with rfl | rfl | rfl | rfl
      · exact h.xne _ (by simp)
      · exact h.xne _ (by simp)
      · exact h.xne _ (by simp)
      · exact hne, h.xge, by simpa [World.setCell] using h.ble, h.tle⟩
/-- An append of marks: what it gives. -/
theorem KS.app {w wx wn : World} {top B : Nat} {vl v' : Value} {n k : Nat} {m : ByteArray} {xb : Nat} {va vb vc : Value} {o : Obj} (h : KS w wx top B vl n m xb va vb vc) (hn : n + k ≤ 3000000)
    (hown : wn.ownsRow B 9 1 v' (n + k) (List.replicate (n + k) (.string m))) (hm : MarkTo (wx.alloc o) wn vl.ownBlock 9 (.string m)) (hloc : v'.ownBlock = vl.ownBlock ∨ v'.ownBlock = some (wx.alloc o).heap.size) :
    KS w wn top B vl n m xb va vb vc ∧ FullAt wn B wn.heap.size v' m ∧ v'.ownBlock ≠ some xb := by
  have hm2 : MarkTo wx wn vl.ownBlock 9 (.string m) := (MarkTo.of_same (World.grownBy_alloc wx o _)).trans hm
  refine ⟨h.mark hm2, ⟨n + k, hn, hown, fun g hg => (hown.lt g hg).2⟩, ?_⟩
  rcases hloc with e | e
  · rw [e]; exact h.xne vl (by simp)
  · rw [e, World.alloc_size]
    have := h.xlt
    simp
    omega
/-- The entry in the book. -/
theorem KS.done {w wx wn : World} {bb base top B : Nat} {sv sv' vl : Value} {es : List Ent} {n : Nat} {m : ByteArray} {xb : Nat} {va vb vc : Value} {o : Obj} (hB : BookS w bb base top sv es) (h : KS w wx top B vl n m xb va vb vc) (hn : n ≤ 3000000)
    (hown : wn.ownsRow base 67 5 sv' (es.length + 1) (es.flatMap entCells ++ [vl, va, vb, vc, .string m])) (hgr : (wx.alloc o).grownBy wn sv.ownBlock) (hloc : sv'.ownBlock = sv.ownBlock ∨ sv'.ownBlock = some (wx.alloc o).heap.size) :
    BookS (wn.setCell ⟨bb, 0, none⟩ sv') bb base (wn.setCell ⟨bb, 0, none⟩ sv').heap.size sv' (es ++ [⟨vl, va, vb, vc, m⟩]) ∧ ButBook bb base w (wn.setCell ⟨bb, 0, none⟩ sv') ∧ ∀ j, (wn.setCell ⟨bb, 0, none⟩ sv').cell? ⟨bb, j + 1, none⟩ = w.cell? ⟨bb, j + 1, none⟩ := by
  have hbl := hB.lt
  have hle := hB.le
  have htl := h.tle
  have hbw := h.ble
  have hz := hgr.size
  rw [World.alloc_size] at hz
  have hsvb : ∀ g, sv.ownBlock = some g → base ≤ g ∧ g < top := fun g hg => ⟨(hB.row.lt g hg).1, hB.rtop g hg⟩
  have key : ∀ k, k < wx.heap.size → sv.ownBlock ≠ some k → wn.heap[k]? = wx.heap[k]? := fun k hk hne => by
    rw [hgr.block k (by rw [World.alloc_size]; omega) (fun e => hne e.symm), Below.heap_alloc _ _ _ hk]
  have key2 : ∀ k, k ≠ bb → (wn.setCell ⟨bb, 0, none⟩ sv').heap[k]? = wn.heap[k]? := fun k hk => Below.heap_setCell _ _ _ _ (by simpa using hk)
  have hbb : wn.heap[bb]? = w.heap[bb]? := by rw [key bb (by omega) (fun e => by have := (hsvb bb e).1; omega), h.below.block bb (by omega)]
  have c0 : wn.cell? ⟨bb, 0, none⟩ = some sv := (World.cell?_of_block hbb).trans hB.c0
  have hsz : (wn.setCell ⟨bb, 0, none⟩ sv').heap.size = wn.heap.size := by simp [World.setCell]
  have hold : ∀ {v : Value} {mm : ByteArray} {lo hi : Nat}, FullAt wx lo hi v mm → base ≤ lo → hi ≤ wx.heap.size → (∀ g, v.ownBlock = some g → sv.ownBlock ≠ some g) → FullAt (wn.setCell ⟨bb, 0, none⟩ sv') base (wn.setCell ⟨bb, 0, none⟩ sv').heap.size v mm := by
    intro v mm lo hi ⟨q, h1, h2, h3⟩ hlo hhi hap
    refine ⟨q, h1, own_base (own_atE h2 (fun j hj => ?_)) hlo, fun g hg => by rw [hsz]; have := h3 g hg; omega⟩
    have := (h2.lt j hj)
    rw [key2 j (by omega), key j this.2 (hap j hj)]
  have hnew : ∀ v ∈ [vl, va, vb, vc], FullAt wx B wx.heap.size v m := by
    intro v hv
    simp only [List.mem_cons, List.not_mem_nil, or_false] at hv
    rcases hv with rfl | rfl | rfl | rfl
    · exact ⟨n, hn, h.row, fun g hg => (h.row.lt g hg).2⟩
    · exact h.full _ (by simp)
    · exact h.full _ (by simp)
    · exact h.full _ (by simp)
  have hnewb : ∀ v ∈ [vl, va, vb, vc], ∀ g, v.ownBlock = some g → B ≤ g ∧ g < wx.heap.size := by
    intro v hv g hg
    obtain ⟨q, _, h2, h3⟩ := hnew v hv
    exact ⟨(h2.lt g hg).1, h3 g hg⟩
  have holdw : ∀ e ∈ es, ∀ v ∈ entVals e, FullAt wx base top v e.m := by
    intro e he v hv
    obtain ⟨q, h1, h2, h3⟩ := hB.full e he v hv
    exact ⟨q, h1, own_atE h2 (fun j hj => h.below.block j (h3 j hj)), h3⟩
  refine ⟨⟨World.cell?_setCell_same _ _ _ c0, by simpa using (World.frozen?_of_block hbb).trans hB.f0, hbl, by rw [hsz]; omega, ?_, ?_, ?_, ?_⟩, ⟨hgr.os.trans h.below.os, hgr.tape.trans h.below.tape, hgr.output.trans h.below.output, ?_, ?_⟩, ?_⟩
  · rw [List.length_append, List.flatMap_append]
    simp only [List.length_cons, List.length_nil, List.flatMap_cons, List.flatMap_nil, List.append_nil]
    exact ownsRow_setCell_below hown (by simpa using hbl) _
  · intro g hg
    rw [hsz]
    exact (hown.lt g hg).2
  · intro e he v hv
    rcases List.mem_append.1 he with he | he
    · exact hold (holdw e he v hv) (Nat.le_refl _) (by omega) (hB.apart e he v hv)
    · simp only [List.mem_cons, List.not_mem_nil, or_false] at he
      subst he
      exact hold (hnew v hv) (by omega) (Nat.le_refl _) (fun g hg e => by have := (hnewb v hv g hg).1; have := (hsvb g e).2; omega)
  · intro e he v hv g hg
    rcases List.mem_append.1 he with he | he
    · rcases hloc with e1 | e1
      · rw [e1]; exact hB.apart e he v hv g hg
      · rw [e1, World.alloc_size]
        obtain ⟨q, _, _, h3⟩ := hB.full e he v hv
        have := h3 g hg
        simp
        omega
    · simp only [List.mem_cons, List.not_mem_nil, or_false] at he
      subst he
      have hg2 := hnewb v hv g hg
      rcases hloc with e1 | e1
      · rw [e1]
        intro e2
        have := (hsvb g e2).2
        omega
      · rw [e1, World.alloc_size]
        simp
        omega
  · rw [hsz]
    have := h.below.size
    omega
  · intro k hk hne
    rw [key2 k hne, key k (by omega) (fun e => by have := (hsvb k e).1; omega), h.below.block k (by omega)]
  · intro j
    rw [World.cell?_setCell_other _ _ _ _ (by simp)]
    exact World.cell?_of_block hbb
end Go.Proofs.Ythokdbcpkmcieaa
