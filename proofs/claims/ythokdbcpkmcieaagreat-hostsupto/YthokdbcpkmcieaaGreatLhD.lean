/- The law's copied, sameImage; one host more; the beginning. -/
import Derived.Test.YthokdbcpkmcieaaGreatLhB
namespace Go.Proofs.YthokdbcpkmcieaaGreat
open Go Go.RowKit
attribute [local go_sem ↓] Go.wp_at_zero Go.wp_at_succ
theorem Tryz.infoBoolC : (Tryz.prog.info? 4).map (fun i => (i.zero, i.size, i.bytes)) = some (some (.bool false), 1, 1) := by kernel_rfl
theorem boolVs_len (l : List Bool) : (boolVs l).length = l.length := by simp [boolVs]
theorem boolVs_one (l : List Bool) : ∀ u ∈ boolVs l, u.oneCell' = true := by
  intro u hu
  simp only [boolVs, List.mem_map] at hu
  obtain ⟨b, _, rfl⟩ := hu
  rfl
/-- A row of one's own is a list in memory. -/
theorem slv_of_row {w : World} {base e n : Nat} {v : Value} {xs : List Value} (h : w.ownsRow base e 1 v n xs) (hn : n = xs.length) : SlV w v xs := by
  subst hn
  have hc : ∀ g, v.ownBlock = some g → ∀ j u, xs[j]? = some u → w.cell? ((⟨g, 0, none⟩ : Addr).add j) = some u := fun g hg => h.cells hg
  obtain ⟨hl, ⟨rfl, h0⟩ | ⟨g, cap, cur, rfl, hg, hh, h3, h4, h5, h6⟩⟩ := h
  · exact ⟨none, 0, by rw [h0], by omega, by omega, fun e => by omega⟩
  · have hgl : g < w.heap.size := (Array.getElem?_eq_some_iff.1 hh).1
    refine ⟨_, cap, rfl, h3, by unfold maxLen at h4; omega, fun _ => ⟨g, 0, rfl, hgl, fun i hi => ?_⟩⟩
    have := hc g rfl i _ (List.getElem?_eq_getElem hi)
    rw [Addr.add_lit] at this
    exact this
/-- A copy of a list: appended to nothing. -/
theorem run_append_copy (w : World) (t ty e : TypeId) (i : TypeInfo) (z : Value) (ht : Tryz.prog.underlying t = some (.slice e)) (hi : Tryz.prog.info? e = some i) (hz : i.zero = some z) (hs1 : i.size = 1) (hb1 : i.bytes = 1) (hzs : z.cells.size = 1) (v : Value) (xs : List Value) (hv : SlV w v xs) (h1 : ∀ u ∈ xs, u.oneCell' = true) (hn : xs.length ≤ 4000000) :
    ∃ v' w', (Builtin.append_ #[t, t] ty #[.slice none 0 0, v]).run Tryz.prog w = .ok v' w' ∧ w'.ownsRow w.heap.size e 1 v' xs.length xs ∧ Below w.heap.size w w' ∧ (∀ g, v'.ownBlock = some g → g = w.heap.size) := by
  obtain ⟨a, cap, rfl, hc, hcm, hcell⟩ := hv.is
  cases a with
  | none =>
    have hx : xs = [] := by
      by_cases h : 0 < xs.length
      · obtain ⟨b, off, e, _⟩ := hcell h
        cases e
      · exact List.eq_nil_of_length_eq_zero (by omega)
    subst hx
    refine ⟨.slice none 0 0, w, ?_, World.ownsRow_nil _ _ _ _, Below.refl _ _, fun g hg => by simp [Value.ownBlock] at hg⟩
    simp [Builtin.append_, run_underlying ht, sizeOf, typeInfo, hi, Builtin.lenOf, Builtin.firstCells]
  | some ad =>
    have hnews : ∀ j u, xs[j]? = some u → w.cell? (ad.add j) = some u := fun j u hu => by
      obtain ⟨hj, rfl⟩ := List.getElem?_eq_some_iff.1 hu
      obtain ⟨b, off, e, _, h4⟩ := hcell (by omega)
      cases e
      rw [Addr.add_lit]
      exact h4 j hj
    obtain ⟨v', w', hrun, r1, r2, _, r3⟩ := run_append_own_at (P := Tryz.prog) w w.heap.size t ty e i z 1 1 ht hi hz hs1 hb1 hzs (by decide) (.slice none 0 0) 0 [] (World.ownsRow_nil _ _ _ _) ad xs.length cap xs (by omega) hnews h1 (by unfold maxLen; omega) (by omega) (Nat.le_refl _)
    rw [Nat.zero_add, List.nil_append] at r1
    refine ⟨v', w', hrun, r1, ⟨r2.os, r2.tape, r2.output, r2.size, fun k hk => r2.block k hk (by simp [Value.ownBlock])⟩, fun g hg => ?_⟩
    rcases r3 with e | e
    · rw [e] at hg
      simp [Value.ownBlock] at hg
    · rw [e] at hg
      exact (Option.some.inj hg).symm
theorem wpList_append_copy {ops : Array Oper} {rest : List Oper} {o : Oper} {a : Act} {Q : Exit → Act → World → Prop} (w : World) (hgd : o.guard = none) (s x : Operand) (t : TypeId)
    (ho : o.op = .call { callee := .builtin .append, args := #[s, x], argTypes := #[t, t] }) (e : TypeId) (i : TypeInfo) (z : Value) (ht : Tryz.prog.underlying t = some (.slice e)) (hi : Tryz.prog.info? e = some i) (hz : i.zero = some z) (hs1 : i.size = 1) (hb1 : i.bytes = 1) (hzs : z.cells.size = 1) (v : Value) (xs : List Value) (hs : a.eval s = .slice none 0 0) (hx : a.eval x = v) (hv : SlV w v xs) (h1 : ∀ u ∈ xs, u.oneCell' = true) (hn : xs.length ≤ 4000000)
    (h : ∀ v' w', w'.ownsRow w.heap.size e 1 v' xs.length xs → Below w.heap.size w w' → (∀ g, v'.ownBlock = some g → g = w.heap.size) → wpList Tryz.prog ops Q rest (a.put o.dst v') w') :
    wpList Tryz.prog ops Q (o :: rest) a w := by
  refine wpList_plain hgd fun K hK => ?_
  obtain ⟨v', w', hr, h2, h3, h5⟩ := run_append_copy w t o.type e i z ht hi hz hs1 hb1 hzs v xs hv h1 hn
  unfold Oper.wp execOp
  simp only [ho, resolve, invoke, builtin, Sem.run_bind, Sem.run_pure, Result.andThen_ok, List.map_toArray, List.map_cons, List.map_nil, hs, hx, hr]
  exact hK _ _ (h v' w' h2 h3 h5)
/-- Three rows of one's own that hold an image. -/
structure Own3 (B : Nat) (w : World) (u0 u1 u2 : Value) (im : Img) : Prop where
  b : w.ownsRow B 5 1 u0 im.bytes.length (byteVs im.bytes)
  l : w.ownsRow B 4 1 u1 im.laid.length (boolVs im.laid)
  s : w.ownsRow B 4 1 u2 im.starts.length (boolVs im.starts)
  d : ∀ g, u0.ownBlock = some g → u1.ownBlock ≠ some g
theorem Own3.img {B : Nat} {w : World} {u0 u1 u2 : Value} {im : Img} (h : Own3 B w u0 u1 u2 im) : ImgAt w u0 u1 u2 im := ⟨slv_of_row h.b (byteVs_len _).symm, slv_of_row h.l (boolVs_len _).symm, slv_of_row h.s (boolVs_len _).symm⟩
theorem Own3.below {B : Nat} {w w' : World} {u0 u1 u2 : Value} {im : Img} (h : Own3 B w u0 u1 u2 im) (hb : Below w.heap.size w w') : Own3 B w' u0 u1 u2 im := ⟨below_rowB h.b hb, below_rowB h.l hb, below_rowB h.s hb, h.d⟩
/-- An image that is not too great. -/
def ImgFew (im : Img) : Prop := im.bytes.length ≤ 2000000 ∧ im.laid.length ≤ 2000000 ∧ im.starts.length ≤ 2000000
section
variable {w wr wn : World} {wb gb gcap : Nat} {o : Nat → Bo} {col : Nat → Nat} {bv : Nat → Value} {hs : List HR} {hv hv' i0 i1 i2 : Value} {im : Img} {nb : Nat → Nat} {u : Nat} {ob : Obj}
/-- One host more. -/
theorem HW.addH (h : HW w wr wb gb gcap o col bv hs hv i0 i1 i2 im nb u) (hn : hs.length < 4) (hnew : ∀ k, wr.heap.size ≤ k → col k = 3) (x y : Nat) (hho : HoAt wr x y (fun k => col k = 30 + hs.length) u)
    (hown : wn.ownsRow (wb + 1) 89 3 hv' (hs.length + 1) (hs.flatMap hrCells ++ hrCells ⟨x, y, .slice none 0 0⟩)) (hgr : (wr.alloc ob).grownBy wn hv.ownBlock) (hloc : hv'.ownBlock = hv.ownBlock ∨ hv'.ownBlock = some (wr.alloc ob).heap.size) :
    HW w (wn.setCell ⟨wb, 4, none⟩ hv') wb gb gcap o col bv (hs ++ [⟨x, y, .slice none 0 0⟩]) hv' i0 i1 i2 im nb u := by
  have hz : (wn.setCell ⟨wb, 4, none⟩ hv').heap.size = wn.heap.size := by simp [World.setCell]
  have hz1 : wr.heap.size + 1 ≤ wn.heap.size := by have := hgr.size; simpa using this
  have hzz : wr.heap.size ≤ (wn.setCell ⟨wb, 4, none⟩ hv').heap.size := by rw [hz]; omega
  have kn : ∀ {k c}, k < wr.heap.size → col k = c → c ≠ 3 → wn.heap[k]? = wr.heap[k]? := fun {k c} hk e hc => by
    rw [hgr.block k (by simp; omega) (fun e2 => by have := h.kh k e2.symm; omega), Below.heap_alloc _ _ _ hk]
  have ne : ∀ {k c}, k < wr.heap.size → col k = c → c ≠ 1 → c ≠ 3 → (wn.setCell ⟨wb, 4, none⟩ hv').heap[k]? = wr.heap[k]? := fun {k c} hk e h1 h3 =>
    (heap_setCell_other wn ⟨wb, 4, none⟩ k hv' (fun e2 => by have e3 : k = wb := e2; rw [e3, h.kw] at e; exact h1 e.symm)).trans (kn hk e h3)
  have hwl : wb < wr.heap.size := World.block_lt_of_cell? _ _ h.c3
  have hgl : gb < wr.heap.size := World.block_lt_of_cell? _ _ (h.gx 0 (by decide))
  have ew : wn.heap[wb]? = wr.heap[wb]? := kn hwl h.kw (by decide)
  have eg := ne hgl h.kg (by decide) (by decide)
  have cw : ∀ j, j ≠ 4 → (wn.setCell ⟨wb, 4, none⟩ hv').cell? ⟨wb, j, none⟩ = wr.cell? ⟨wb, j, none⟩ := fun j hj => (World.cell?_setCell_other _ _ _ _ (by simp <;> omega)).trans (World.cell?_of_block (a := ⟨wb, j, none⟩) ew)
  have cg : ∀ j, (wn.setCell ⟨wb, 4, none⟩ hv').cell? ⟨gb, j, none⟩ = wr.cell? ⟨gb, j, none⟩ := fun j => World.cell?_of_block (a := ⟨gb, j, none⟩) eg
  have hll : (hs ++ [(⟨x, y, .slice none 0 0⟩ : HR)]).length = hs.length + 1 := by simp
  have hfew := h.few
  refine ⟨(cw 0 (by decide)).trans h.c0, (cw 1 (by decide)).trans h.c1, (cw 2 (by decide)).trans h.c2, (cw 3 (by decide)).trans h.c3, World.cell?_setCell_same _ _ _ ((World.cell?_of_block (a := ⟨wb, 4, none⟩) ew).trans h.c4), fun j => ?_, fun i hi => (cg _).trans (h.gx i hi), fun i hi => (cg _).trans (h.gy i hi), fun i hi => (cg _).trans (h.gv i hi), fun j => (World.frozen?_of_block (a := ⟨gb, j, none⟩) eg).trans (h.fg j), ?_, ?_, ?_, ?_, ?_, ?_, by omega, h.kw, h.kg, ?_, h.kb, fun i hi g e => ⟨(h.kv i hi g e).1, Nat.lt_of_lt_of_le (h.kv i hi g e).2 hzz⟩, ?_, fun g e => ⟨(h.ki g e).1, Nat.lt_of_lt_of_le (h.ki g e).2 hzz⟩, h.old, ?_⟩
  · have := (World.frozen?_of_block (a := ⟨wb, j, none⟩) ew).trans (h.fw j)
    simp [this]
  · rw [hll, List.flatMap_append]
    have : List.flatMap hrCells [(⟨x, y, .slice none 0 0⟩ : HR)] = hrCells ⟨x, y, .slice none 0 0⟩ := by simp [List.flatMap]
    rw [this]
    exact own_set hown (by omega)
  · intro i hi
    obtain ⟨b, hb⟩ := h.pr i hi
    exact ⟨b, hb.kept (fun k hk => ne (hb.lt k hk) (h.kb i hi k hk) (by omega) (by omega)) hzz⟩
  · intro i hi
    obtain ⟨n, hn, hb⟩ := h.bw i hi
    exact ⟨n, hn, hb.kept (fun g hg e => ne hg (h.kv i hi g e).1 (by omega) (by omega)) hzz⟩
  · intro i hi
    by_cases e : i < hs.length
    · rw [List.getElem_append_left e]
      exact (h.ho i e).kept (fun k hk ek => ne hk ek (by omega) (by omega)) hzz
    · have ei : i = hs.length := by omega
      subst ei
      rw [List.getElem_append_right (Nat.le_refl _)]
      simp only [Nat.sub_self, List.getElem_cons_zero]
      exact hho.kept (fun k hk ek => ne hk ek (by omega) (by omega)) hzz
  · intro i hi
    by_cases e : i < hs.length
    · rw [List.getElem_append_left e]
      obtain ⟨n, hn, hb⟩ := h.hw i e
      exact ⟨n, hn, hb.kept (fun g hg eg => ne hg (h.ks i e g eg).1 (by omega) (by omega)) hzz⟩
    · have ei : i = hs.length := by omega
      subst ei
      rw [List.getElem_append_right (Nat.le_refl _)]
      simp only [Nat.sub_self, List.getElem_cons_zero]
      exact ⟨0, Nat.zero_le _, Way.nil _ _⟩
  · exact ⟨h.img.b.keptC (fun g hg e => ne hg (h.ki g (.inl e)).1 (by decide) (by decide)) hzz, h.img.l.keptC (fun g hg e => ne hg (h.ki g (.inr (.inl e))).1 (by decide) (by decide)) hzz, h.img.s.keptC (fun g hg e => ne hg (h.ki g (.inr (.inr e))).1 (by decide) (by decide)) hzz⟩
  · intro g eg
    rcases hloc with e | e
    · exact h.kh g (e.symm.trans eg)
    · rw [eg] at e
      have e' : g = (wr.alloc ob).heap.size := Option.some.inj e
      refine hnew g ?_
      rw [e']
      simp
  · intro i hi g
    by_cases e : i < hs.length
    · rw [List.getElem_append_left e]
      exact fun eg => ⟨(h.ks i e g eg).1, Nat.lt_of_lt_of_le (h.ks i e g eg).2 hzz⟩
    · have ei : i = hs.length := by omega
      subst ei
      rw [List.getElem_append_right (Nat.le_refl _)]
      simp only [Nat.sub_self, List.getElem_cons_zero]
      exact fun eg => by simp [Value.ownBlock] at eg
  · exact ⟨hgr.os.trans h.below.os, hgr.tape.trans h.below.tape, hgr.output.trans h.below.output, Nat.le_trans h.below.size hzz, fun k hk => (ne (Nat.lt_of_lt_of_le hk h.below.size) (h.old k hk) (by decide) (by decide)).trans (h.below.block k hk)⟩
/-- The new blocks of a pair of hosts that were made since, then those of the list. -/
theorem HW.newH {w1 w2 : World} (h : HW w wr wb gb gcap o col bv hs hv i0 i1 i2 im nb u) (hn : hs.length < 4) (hb1 : Below wr.heap.size wr w2) (x y : Nat) (hho : HoAt w2 x y (fun k => w1.heap.size ≤ k) u) (h1 : wr.heap.size ≤ w1.heap.size)
    (hown : wn.ownsRow (wb + 1) 89 3 hv' (hs.length + 1) (hs.flatMap hrCells ++ hrCells ⟨x, y, .slice none 0 0⟩)) (hgr : (w2.alloc ob).grownBy wn hv.ownBlock) (hloc : hv'.ownBlock = hv.ownBlock ∨ hv'.ownBlock = some (w2.alloc ob).heap.size) :
    ∃ col', HW w (wn.setCell ⟨wb, 4, none⟩ hv') wb gb gcap o col' bv (hs ++ [⟨x, y, .slice none 0 0⟩]) hv' i0 i1 i2 im nb u := by
  have h2 := (((h.recol (30 + hs.length)).grow hb1).recol 3)
  refine ⟨_, h2.addH hn (fun k hk => recol_ge hk) x y (hho.recol (fun k hk e => ?_)) hown hgr hloc⟩
  rw [recol_lt hk]
  exact recol_ge (Nat.le_trans h1 e)
end
end Go.Proofs.YthokdbcpkmcieaaGreat
namespace Go.Proofs.YthokdbcpkmcieaaGreat
open Go Go.RowKit
attribute [local go_sem ↓] Go.wp_at_zero Go.wp_at_succ
theorem SlV.slice {w : World} {v : Value} {xs : List Value} (h : SlV w v xs) : ∃ a c, v = .slice a xs.length c := by
  obtain ⟨a, c, e, _⟩ := h.is
  exact ⟨a, c, e⟩
set_option maxRecDepth 100000 in
set_option maxHeartbeats 2000000 in
theorem sameBytes_any (va vb : Value) (l : List UInt8) (w : World) (ha : SlV w va (byteVs l)) (hb : SlV w vb (byteVs l)) (hl : l.length ≤ 4000000) :
    Calls Tryz.prog 48 #[va, vb] w fun e w' => e = .returned (.bool true) ∧ Below w.heap.size w w' := by
  obtain ⟨a, ca, rfl, _, _, hca⟩ := ha.is
  obtain ⟨b, cb, rfl, _, _, hcb⟩ := hb.is
  rw [byteVs_len]
  have HA : Hid (∀ j (hj : j < l.length), ∃ g off, a = some ⟨g, off, none⟩ ∧ w.cell? ⟨g, off + j, none⟩ = some (.int .u8 (l[j].toNat : Int))) := fun j hj => by
    obtain ⟨g, off, e, _, h⟩ := hca (by rw [byteVs_len]; omega)
    exact ⟨g, off, e, by rw [h j (by rw [byteVs_len]; exact hj)]; simp [byteVs]⟩
  have HB : Hid (∀ j (hj : j < l.length), ∃ g off, b = some ⟨g, off, none⟩ ∧ w.cell? ⟨g, off + j, none⟩ = some (.int .u8 (l[j].toNat : Int))) := fun j hj => by
    obtain ⟨g, off, e, _, h⟩ := hcb (by rw [byteVs_len]; omega)
    exact ⟨g, off, e, by rw [h j (by rw [byteVs_len]; exact hj)]; simp [byteVs]⟩
  have hli : (l.length : Int) ≤ 4000000 := by omega
  clear ha hb hca hcb
  go_enter Tryz.func48, Tryz.ntmps48
  go_wp2_with fail
  go_loopw [5] (fun i wr => ∃ j : Nat, j ≤ l.length ∧ i = .int .i64 j ∧ wr.heap = w.heap ∧ Below w.heap.size w wr) (fun i _ => l.length - (intOf i).toNat)
  case atStart => exact ⟨0, Nat.zero_le _, rfl, rfl, Below.refl _ _⟩
  case round =>
    obtain ⟨j, hj, rfl, hhe, hbl⟩ := hrel
    have HBL := hideIt (And.intro hhe hbl)
    by_cases hlj : j < l.length
    · have hji : (j : Int) < (l.length : Int) := by omega
      obtain ⟨g, off, rfl, c1⟩ := HA.out j hlj
      obtain ⟨g2, off2, rfl, c2⟩ := HB.out j hlj
      have e1 : wr.cell? ⟨g, off + j, none⟩ = w.cell? ⟨g, off + j, none⟩ := World.cell?_of_block (a := ⟨g, off + j, none⟩) (by rw [hhe])
      have e2 : wr.cell? ⟨g2, off2 + j, none⟩ = w.cell? ⟨g2, off2 + j, none⟩ := World.cell?_of_block (a := ⟨g2, off2 + j, none⟩) (by rw [hhe])
      rw [← e1] at c1
      rw [← e2] at c2
      obtain ⟨x, hx⟩ : ∃ x, l[j] = x := ⟨_, rfl⟩
      rw [hx] at c1 c2
      clear e1 e2 hx hhe hbl
      go_wp2_with fail
      go_quiet (fail)
      go_wp2
      go_roundw
      case rel => exact ⟨j + 1, by omega, by go_num, HBL.out.1, ⟨HBL.out.2.os, HBL.out.2.tape, HBL.out.2.output, HBL.out.2.size, HBL.out.2.block⟩⟩
      case measure => simp [intOf]; omega
    · have hji : ¬ (j : Int) < (l.length : Int) := by omega
      clear hhe hbl
      go_wp2
      go_ret
      exact ⟨rfl, HBL.out.2⟩
set_option maxRecDepth 100000 in
set_option maxHeartbeats 2000000 in
theorem sameBools_any (va vb : Value) (l : List Bool) (w : World) (ha : SlV w va (boolVs l)) (hb : SlV w vb (boolVs l)) (hl : l.length ≤ 4000000) :
    Calls Tryz.prog 49 #[va, vb] w fun e w' => e = .returned (.bool true) ∧ Below w.heap.size w w' := by
  obtain ⟨a, ca, rfl, _, _, hca⟩ := ha.is
  obtain ⟨b, cb, rfl, _, _, hcb⟩ := hb.is
  rw [boolVs_len]
  have HA : Hid (∀ j (hj : j < l.length), ∃ g off, a = some ⟨g, off, none⟩ ∧ w.cell? ⟨g, off + j, none⟩ = some (.bool l[j])) := fun j hj => by
    obtain ⟨g, off, e, _, h⟩ := hca (by rw [boolVs_len]; omega)
    exact ⟨g, off, e, by rw [h j (by rw [boolVs_len]; exact hj)]; simp [boolVs]⟩
  have HB : Hid (∀ j (hj : j < l.length), ∃ g off, b = some ⟨g, off, none⟩ ∧ w.cell? ⟨g, off + j, none⟩ = some (.bool l[j])) := fun j hj => by
    obtain ⟨g, off, e, _, h⟩ := hcb (by rw [boolVs_len]; omega)
    exact ⟨g, off, e, by rw [h j (by rw [boolVs_len]; exact hj)]; simp [boolVs]⟩
  have hli : (l.length : Int) ≤ 4000000 := by omega
  clear ha hb hca hcb
  go_enter Tryz.func49, Tryz.ntmps49
  go_wp2_with fail
  go_loopw [5] (fun i wr => ∃ j : Nat, j ≤ l.length ∧ i = .int .i64 j ∧ wr.heap = w.heap ∧ Below w.heap.size w wr) (fun i _ => l.length - (intOf i).toNat)
  case atStart => exact ⟨0, Nat.zero_le _, rfl, rfl, Below.refl _ _⟩
  case round =>
    obtain ⟨j, hj, rfl, hhe, hbl⟩ := hrel
    have HBL := hideIt (And.intro hhe hbl)
    by_cases hlj : j < l.length
    · have hji : (j : Int) < (l.length : Int) := by omega
      obtain ⟨g, off, rfl, c1⟩ := HA.out j hlj
      obtain ⟨g2, off2, rfl, c2⟩ := HB.out j hlj
      have e1 : wr.cell? ⟨g, off + j, none⟩ = w.cell? ⟨g, off + j, none⟩ := World.cell?_of_block (a := ⟨g, off + j, none⟩) (by rw [hhe])
      have e2 : wr.cell? ⟨g2, off2 + j, none⟩ = w.cell? ⟨g2, off2 + j, none⟩ := World.cell?_of_block (a := ⟨g2, off2 + j, none⟩) (by rw [hhe])
      rw [← e1] at c1
      rw [← e2] at c2
      obtain ⟨x, hx⟩ : ∃ x, l[j] = x := ⟨_, rfl⟩
      rw [hx] at c1 c2
      clear e1 e2 hx hhe hbl
      go_wp2_with fail
      go_quiet (fail)
      go_wp2
      go_roundw
      case rel => exact ⟨j + 1, by omega, by go_num, HBL.out.1, ⟨HBL.out.2.os, HBL.out.2.tape, HBL.out.2.output, HBL.out.2.size, HBL.out.2.block⟩⟩
      case measure => simp [intOf]; omega
    · have hji : ¬ (j : Int) < (l.length : Int) := by omega
      clear hhe hbl
      go_wp2
      go_ret
      exact ⟨rfl, HBL.out.2⟩
set_option maxRecDepth 100000 in
set_option maxHeartbeats 2000000 in
theorem sameImage_any (a0 a1 a2 b0 b1 b2 : Value) (im : Img) (w : World) (ha : ImgAt w a0 a1 a2 im) (hb : ImgAt w b0 b1 b2 im) (hf : ImgFew im) :
    Calls Tryz.prog 20 #[.agg #[a0, a1, a2], .agg #[b0, b1, b2]] w fun e w' => e = .returned (.bool true) ∧ Below w.heap.size w w' := by
  obtain ⟨x0, y0, e0⟩ := ha.b.slice
  obtain ⟨x1, y1, e1⟩ := ha.l.slice
  obtain ⟨x2, y2, e2⟩ := ha.s.slice
  obtain ⟨x3, y3, e3⟩ := hb.b.slice
  obtain ⟨x4, y4, e4⟩ := hb.l.slice
  obtain ⟨x5, y5, e5⟩ := hb.s.slice
  obtain ⟨W, hW, hB, hz, k0, k1, k2⟩ := img_cells w a0 a1 a2
  have hWz : W.heap.size = w.heap.size + 1 := by rw [← hW]; simp
  obtain ⟨V, hV, hB2, hz2, m0, m1, m2⟩ := img_cells W b0 b1 b2
  rw [hWz] at m0 m1 m2
  have hk : ∀ j v, W.cell? ⟨w.heap.size, j, none⟩ = some v → V.cell? ⟨w.heap.size, j, none⟩ = some v := fun j v h => (World.cell?_of_block (a := ⟨w.heap.size, j, none⟩) (hB2.block _ hz)).trans h
  replace k0 := hk 0 _ k0
  replace k1 := hk 1 _ k1
  replace k2 := hk 2 _ k2
  have hBV : Below w.heap.size w V := hB.trans (hB2.mono (by omega))
  have hVz : w.heap.size + 1 < V.heap.size := by omega
  have HC : Hid (∀ W' v j, Below V.heap.size V W' → j < w.heap.size + 2 → ∀ i, V.cell? ⟨j, i, none⟩ = some v → W'.cell? ⟨j, i, none⟩ = some v) := fun W' v j hb' hj i h => (World.cell?_of_block (a := ⟨j, i, none⟩) (hb'.block j (by omega))).trans h
  have hbel : ∀ W', Below V.heap.size V W' → Below w.heap.size w W' := fun W' h => hBV.trans (h.mono hBV.size)
  have HS0 := hideIt (fun W' (h' : Below V.heap.size V W') => sameBytes_any a0 b0 im.bytes W' ((ha.below (hbel W' h')).b) ((hb.below (hbel W' h')).b) (by have := hf.1; omega))
  have HS1 := hideIt (fun W' (h' : Below V.heap.size V W') => sameBools_any a1 b1 im.laid W' ((ha.below (hbel W' h')).l) ((hb.below (hbel W' h')).l) (by have := hf.2.1; omega))
  have HS2 := hideIt (fun W' (h' : Below V.heap.size V W') => sameBools_any a2 b2 im.starts W' ((ha.below (hbel W' h')).s) ((hb.below (hbel W' h')).s) (by have := hf.2.2; omega))
  have HBE := hideIt hbel
  have HB := hideIt hBV
  rw [e0, e3] at HS0
  rw [e1, e4] at HS1
  rw [e2, e5] at HS2
  subst e0 e1 e2 e3 e4 e5
  clear ha hb hB hB2 hk hBV hbel hf
  go_enter Tryz.func20, Tryz.ntmps20
  go_wp2_with fail
  refine (HS0.out V (Below.refl _ _)).mono ?_
  rintro e w1 ⟨rfl, hB1⟩
  have q1 := HC.out w1 _ w.heap.size hB1 (by omega) 1 k1
  have q2 := HC.out w1 _ (w.heap.size + 1) hB1 (by omega) 1 m1
  have HB1 := hideIt hB1
  clear hB1
  go_wp2_with fail
  refine (HS1.out w1 HB1.out).mono ?_
  rintro e w2 ⟨rfl, hB2⟩
  have hB3 := HB1.out.trans (hB2.mono HB1.out.size)
  have r1 := HC.out w2 _ w.heap.size hB3 (by omega) 2 k2
  have r2 := HC.out w2 _ (w.heap.size + 1) hB3 (by omega) 2 m2
  have HB3 := hideIt hB3
  clear hB2 hB3
  go_wp2_with fail
  refine (HS2.out w2 HB3.out).mono ?_
  rintro e w3 ⟨rfl, hB4⟩
  have HB4 := hideIt (HBE.out w3 (HB3.out.trans (hB4.mono HB3.out.size)))
  clear hB4
  go_wp2
  go_ret
  exact ⟨rfl, HB4.out⟩
end Go.Proofs.YthokdbcpkmcieaaGreat
namespace Go.Proofs.YthokdbcpkmcieaaGreat
open Go Go.RowKit
attribute [local go_sem ↓] Go.wp_at_zero Go.wp_at_succ
theorem row_slice {w : World} {base : Nat} {e : TypeId} {size n : Nat} {v : Value} {xs : List Value} (h : w.ownsRow base e size v n xs) : ∃ a c, v = .slice a n c := by
  obtain ⟨_, ⟨rfl, rfl⟩ | ⟨g, cap, cur, rfl, _⟩⟩ := h
  · exact ⟨_, _, rfl⟩
  · exact ⟨_, _, rfl⟩
theorem copy_cells (w : World) (v0 v1 v2 : Value) : ∃ W, ((w.alloc (.cells #[v0, v1, v2] 27)).alloc (.cells #[.slice none 0 0, .slice none 0 0, .slice none 0 0] 27)).alloc (.cells #[.slice none 0 0, .slice none 0 0, .slice none 0 0] 27) = W ∧ Below w.heap.size w W ∧ W.heap.size = w.heap.size + 3 ∧ W.heap[w.heap.size]? = some (.cells #[v0, v1, v2] 27) ∧ W.heap[w.heap.size + 1]? = some (.cells #[.slice none 0 0, .slice none 0 0, .slice none 0 0] 27) ∧ W.heap[w.heap.size + 2]? = some (.cells #[.slice none 0 0, .slice none 0 0, .slice none 0 0] 27) := by
  refine ⟨_, rfl, (((Below.refl _ _).alloc (Nat.le_refl _) _).alloc (by simp) _).alloc (by simp; omega) _, by simp, ?_, ?_, ?_⟩
  · rw [Below.heap_alloc _ _ _ (by simp; omega), Below.heap_alloc _ _ _ (by simp)]
    exact heap_alloc_new w _
  · rw [Below.heap_alloc _ _ _ (by simp)]
    have := heap_alloc_new (w.alloc (.cells #[v0, v1, v2] 27)) (.cells #[.slice none 0 0, .slice none 0 0, .slice none 0 0] 27)
    rwa [World.alloc_size] at this
  · have := heap_alloc_new ((w.alloc (.cells #[v0, v1, v2] 27)).alloc (.cells #[.slice none 0 0, .slice none 0 0, .slice none 0 0] 27)) (.cells #[.slice none 0 0, .slice none 0 0, .slice none 0 0] 27)
    rwa [World.alloc_size, World.alloc_size] at this
theorem copy_step {w w1 : World} {n j : Nat} {cs : Array Value} {t : TypeId} (x : Value) (hb : Below w.heap.size w w1) (hn : w.heap.size ≤ n) (h : w1.heap[n]? = some (.cells cs t)) : ∃ W1, w1.setCell ⟨n, j, none⟩ x = W1 ∧ Below w.heap.size w W1 ∧ W1.heap.size = w1.heap.size ∧ W1.heap[n]? = some (.cells (cs.setIfInBounds j x) t) ∧ ∀ k, k ≠ n → W1.heap[k]? = w1.heap[k]? := by
  have ko : ∀ k, k ≠ n → (w1.setCell ⟨n, j, none⟩ x).heap[k]? = w1.heap[k]? := fun k hk => heap_setCell_other w1 ⟨n, j, none⟩ k x hk
  have kz : (w1.setCell ⟨n, j, none⟩ x).heap.size = w1.heap.size := by simp [World.setCell]
  exact ⟨_, rfl, ⟨hb.os, hb.tape, hb.output, by rw [kz]; exact hb.size, fun k hk => (ko k (by omega)).trans (hb.block k hk)⟩, kz, heap_setCell_same w1 n j cs t x h, ko⟩
theorem own_atB {w w' : World} {B e n : Nat} {v : Value} {xs : List Value} {m : Nat} (h : w.ownsRow B e 1 v n xs) (hb : ∀ k, B ≤ k → k < w.heap.size → w'.heap[k]? = w.heap[k]?) (hm : m ≤ B) : w'.ownsRow m e 1 v n xs := by
  have h2 := own_atE (w' := w') h (fun g hg => hb g (h.lt g hg).1 (h.lt g hg).2)
  obtain ⟨hl, ⟨e1, e2⟩ | ⟨g, cap, cur, e1, hg, r⟩⟩ := h2
  · exact ⟨hl, .inl ⟨e1, e2⟩⟩
  · exact ⟨hl, .inr ⟨g, cap, cur, e1, Nat.le_trans hm hg, r⟩⟩
set_option maxRecDepth 100000 in
set_option maxHeartbeats 4000000 in
theorem copied_any (v0 v1 v2 : Value) (im : Img) (w : World) (hI : ImgAt w v0 v1 v2 im) (hf : ImgFew im) :
    Calls Tryz.prog 6 #[.agg #[v0, v1, v2]] w fun e w' => ∃ u0 u1 u2, e = .returned (.agg #[u0, u1, u2]) ∧ Own3 w.heap.size w' u0 u1 u2 im ∧ Below w.heap.size w w' := by
  obtain ⟨i0, hi, hz0, hz1, hz2⟩ := info_of Tryz.infoU8
  obtain ⟨j0, hj, hy0, hy1, hy2⟩ := info_of Tryz.infoBoolC
  obtain ⟨x0, y0, e0⟩ := hI.b.slice
  obtain ⟨x1, y1, e1⟩ := hI.l.slice
  obtain ⟨x2, y2, e2⟩ := hI.s.slice
  obtain ⟨W, hW, hB, hWz, b0, b1, b2⟩ := copy_cells w v0 v1 v2
  have k0 : W.cell? ⟨w.heap.size, 0, none⟩ = some v0 := by rw [cell_of_row _ _ _ _ _ (0, 0) b0]; rfl
  have m0 : W.cell? ⟨w.heap.size + 2, 0, none⟩ = some (.slice none 0 0) := by rw [cell_of_row _ _ _ _ _ (0, 0) b2]; rfl
  have HS := hideIt (fun W' (h' : Below w.heap.size w W') => hI.below h')
  have HB := hideIt hB
  have HF := hideIt hf
  have HBK := hideIt (And.intro b0 (And.intro b1 b2))
  have HEQ := hideIt (And.intro e0 (And.intro e1 e2))
  rw [e0, e1, e2] at hW
  rw [e0] at k0
  clear hI hB hf b0 b1 b2
  subst e0 e1 e2
  go_enter Tryz.func6, Tryz.ntmps6
  go_wp2_with (first
    | (at_builtin
       refine wpList_append_copy _ rfl _ _ 24 rfl 5 i0 _ Tryz.underlying24 hi hz0 hz1 hz2 rfl (.slice x0 (byteVs im.bytes).length y0) (byteVs im.bytes) rfl rfl (HS.out W HB.out).b (byteVs_one _) (by rw [byteVs_len]; have := HF.out.1; omega) ?_
       intro u0 w1 hr1 hB1 hl1
       obtain ⟨a0, g0, r0⟩ := row_slice hr1
       have b2 := (hB1.block (w.heap.size + 2) (by omega)).trans HBK.out.2.2
       have fz := frozen_of_row w1 (w.heap.size + 2) 0 _ _ b2
       have d0 : w1.cell? ⟨w.heap.size + 2, 0, none⟩ = some (.slice none 0 0) := by rw [cell_of_row _ _ _ _ _ (0, 0) b2]; rfl
       obtain ⟨W1, hW1, hBW1, hz1', hc1, hk1⟩ := copy_step (j := 0) u0 (HB.out.trans (hB1.mono HB.out.size)) (show w.heap.size ≤ w.heap.size + 2 by omega) b2
       have k1 : W1.cell? ⟨w.heap.size, 1, none⟩ = some (.slice x1 (boolVs im.laid).length y1) := by
         rw [cell_of_row _ _ _ _ _ (0, 0) ((hk1 _ (by omega)).trans ((hB1.block w.heap.size (by omega)).trans HBK.out.1))]
         rfl
       have m1 : W1.cell? ⟨w.heap.size + 2, 1, none⟩ = some (.slice none 0 0) := by
         rw [cell_of_row _ _ _ _ _ (0, 0) hc1]
         rfl
       have HR1 := hideIt (And.intro hr1 (And.intro hB1 hl1))
       have HW1 := hideIt (And.intro hBW1 (And.intro hc1 hk1))
       have hsz1 := hB1.size
       subst r0
       clear hr1 hB1 hl1 b2 hBW1 hc1 hk1 k0 m0)
    | (at_builtin
       refine wpList_append_copy _ rfl _ _ 25 rfl 4 j0 _ Tryz.underlying25 hj hy0 hy1 hy2 rfl (.slice x1 (boolVs im.laid).length y1) (boolVs im.laid) rfl rfl (HS.out W1 HW1.out.1).l (boolVs_one _) (by rw [boolVs_len]; have := HF.out.2.1; omega) ?_
       intro u1 w2 hr2 hB2 hl2
       obtain ⟨a1, g1, r1⟩ := row_slice hr2
       have b2 := (hB2.block (w.heap.size + 2) (by omega)).trans HW1.out.2.1
       have fz2 := frozen_of_row w2 (w.heap.size + 2) 1 _ _ b2
       have d1 : w2.cell? ⟨w.heap.size + 2, 1, none⟩ = some (.slice none 0 0) := by rw [cell_of_row _ _ _ _ _ (0, 0) b2]; rfl
       obtain ⟨W2, hW2, hBW2, hz2', hc2, hk2⟩ := copy_step (j := 1) u1 (HW1.out.1.trans (hB2.mono HW1.out.1.size)) (show w.heap.size ≤ w.heap.size + 2 by omega) b2
       have k2 : W2.cell? ⟨w.heap.size, 2, none⟩ = some (.slice x2 (boolVs im.starts).length y2) := by
         rw [cell_of_row _ _ _ _ _ (0, 0) ((hk2 _ (by omega)).trans ((hB2.block w.heap.size (by omega)).trans ((HW1.out.2.2 _ (by omega)).trans ((HR1.out.2.1.block w.heap.size (by omega)).trans HBK.out.1))))]
         rfl
       have m2 : W2.cell? ⟨w.heap.size + 2, 2, none⟩ = some (.slice none 0 0) := by
         rw [cell_of_row _ _ _ _ _ (0, 0) hc2]
         rfl
       have HR2 := hideIt (And.intro hr2 (And.intro hB2 hl2))
       have HW2 := hideIt (And.intro hBW2 (And.intro hc2 hk2))
       have hsz2 := hB2.size
       subst r1
       clear hr2 hB2 hl2 b2 hBW2 hc2 hk2 k1 m1 fz d0)
    | (at_builtin
       refine wpList_append_copy _ rfl _ _ 25 rfl 4 j0 _ Tryz.underlying25 hj hy0 hy1 hy2 rfl (.slice x2 (boolVs im.starts).length y2) (boolVs im.starts) rfl rfl (HS.out W2 HW2.out.1).s (boolVs_one _) (by rw [boolVs_len]; have := HF.out.2.2; omega) ?_
       intro u2 w3 hr3 hB3 hl3
       obtain ⟨a2, g2, r2⟩ := row_slice hr3
       have b2 := (hB3.block (w.heap.size + 2) (by omega)).trans HW2.out.2.1
       have fz3 := frozen_of_row w3 (w.heap.size + 2) 2 _ _ b2
       have d2 : w3.cell? ⟨w.heap.size + 2, 2, none⟩ = some (.slice none 0 0) := by rw [cell_of_row _ _ _ _ _ (0, 0) b2]; rfl
       obtain ⟨W3, hW3, hBW3, hz3', hc3, hk3⟩ := copy_step (j := 2) u2 (HW2.out.1.trans (hB3.mono HW2.out.1.size)) (show w.heap.size ≤ w.heap.size + 2 by omega) b2
       have n0 : W3.cell? ⟨w.heap.size + 2, 0, none⟩ = some (.slice a0 (byteVs im.bytes).length g0) := by
         rw [cell_of_row _ _ _ _ _ (0, 0) hc3]
         rfl
       have n1 : W3.cell? ⟨w.heap.size + 2, 1, none⟩ = some (.slice a1 (boolVs im.laid).length g1) := by
         rw [cell_of_row _ _ _ _ _ (0, 0) hc3]
         rfl
       have n2 : W3.cell? ⟨w.heap.size + 2, 2, none⟩ = some u2 := by
         rw [cell_of_row _ _ _ _ _ (0, 0) hc3]
         rfl
       have b1 := (hk3 (w.heap.size + 1) (by omega)).trans ((hB3.block (w.heap.size + 1) (by omega)).trans ((HW2.out.2.2 _ (by omega)).trans ((HR2.out.2.1.block (w.heap.size + 1) (by omega)).trans ((HW1.out.2.2 _ (by omega)).trans ((HR1.out.2.1.block (w.heap.size + 1) (by omega)).trans HBK.out.2.1)))))
       have p0 : W3.cell? ⟨w.heap.size + 1, 0, none⟩ = some (.slice none 0 0) := by rw [cell_of_row _ _ _ _ _ (0, 0) b1]; rfl
       have p1 : W3.cell? ⟨w.heap.size + 1, 1, none⟩ = some (.slice none 0 0) := by rw [cell_of_row _ _ _ _ _ (0, 0) b1]; rfl
       have p2 : W3.cell? ⟨w.heap.size + 1, 2, none⟩ = some (.slice none 0 0) := by rw [cell_of_row _ _ _ _ _ (0, 0) b1]; rfl
       have q0 := frozen_of_row W3 (w.heap.size + 1) 0 _ _ b1
       have q1 := frozen_of_row W3 (w.heap.size + 1) 1 _ _ b1
       have q2 := frozen_of_row W3 (w.heap.size + 1) 2 _ _ b1
       have HR3 := hideIt (And.intro hr3 (And.intro hB3 hl3))
       have HW3 := hideIt (And.intro hBW3 (And.intro b1 hk3))
       have hsz3 := hB3.size
       subst r2
       clear hr3 hB3 hl3 b2 hBW3 b1 hk3 hc3 k2 m2 fz2 d1))
  obtain ⟨V1, hV1, hBV1, hzV1, hcV1, hkV1⟩ := copy_step (j := 0) (.slice a0 (byteVs im.bytes).length g0) HW3.out.1 (show w.heap.size ≤ w.heap.size + 1 by omega) HW3.out.2.1
  obtain ⟨V2, hV2, hBV2, hzV2, hcV2, hkV2⟩ := copy_step (j := 1) (.slice a1 (boolVs im.laid).length g1) hBV1 (show w.heap.size ≤ w.heap.size + 1 by omega) hcV1
  obtain ⟨V3, hV3, hBV3, hzV3, hcV3, hkV3⟩ := copy_step (j := 2) (.slice a2 (boolVs im.starts).length g2) hBV2 (show w.heap.size ≤ w.heap.size + 1 by omega) hcV2
  rw [hV1, hV2, hV3]
  have z3 : ∀ k, w.heap.size + 3 ≤ k → V3.heap[k]? = w3.heap[k]? := fun k hk => (hkV3 k (by omega)).trans ((hkV2 k (by omega)).trans ((hkV1 k (by omega)).trans (HW3.out.2.2 k (by omega))))
  have z2 : ∀ k, w.heap.size + 3 ≤ k → k < w2.heap.size → V3.heap[k]? = w2.heap[k]? := fun k hk hl => (z3 k hk).trans ((HR3.out.2.1.block k (by omega)).trans (HW2.out.2.2 k (by omega)))
  have z1 : ∀ k, w.heap.size + 3 ≤ k → k < w1.heap.size → V3.heap[k]? = w1.heap[k]? := fun k hk hl => (z2 k hk (by omega)).trans ((HR2.out.2.1.block k (by omega)).trans (HW1.out.2.2 k (by omega)))
  have o1 := own_atB (w' := V3) (m := w.heap.size) HR1.out.1 (fun k hk hl => z1 k (by omega) hl) (by omega)
  have o2 := own_atB (w' := V3) (m := w.heap.size) HR2.out.1 (fun k hk hl => z2 k (by omega) hl) (by omega)
  have o3 := own_atB (w' := V3) (m := w.heap.size) HR3.out.1 (fun k hk _ => z3 k (by omega)) (by omega)
  refine bodyPost_ret (results_cell_mid rfl _ _ (w.heap.size + 1) [.slice a0 (byteVs im.bytes).length g0, .slice a1 (boolVs im.laid).length g1, .slice a2 (boolVs im.starts).length g2] _ rfl ?_ Tryz.underlying27 rfl (by kernel_rfl)) rfl ?_
  · intro j u hu
    rw [cell_of_row _ _ _ _ _ (0, 0) hcV3, Nat.zero_add]
    simpa using hu
  · rw [byteVs_len] at o1 ⊢
    rw [boolVs_len] at o2 ⊢
    rw [boolVs_len] at o3 ⊢
    refine ⟨_, _, _, rfl, ⟨o1, o2, o3, fun g e1 e2 => ?_⟩, hBV3⟩
    have t1 := HR1.out.2.2 g (by rw [byteVs_len]; exact e1)
    have t2 := HR2.out.2.2 g (by rw [boolVs_len]; exact e2)
    have t3 := (HR1.out.1.lt g (by rw [byteVs_len]; exact e1)).2
    omega
end Go.Proofs.YthokdbcpkmcieaaGreat
namespace Go.Proofs.YthokdbcpkmcieaaGreat
open Go Go.RowKit
attribute [local go_sem ↓] Go.wp_at_zero Go.wp_at_succ
theorem Tryz.infoLHo : (Tryz.prog.info? 89).map (fun i => (i.zero, i.size, i.bytes)) = some (some (.agg #[.pointer none, .pointer none, .slice none 0 0]), 3, 40) := by kernel_rfl
theorem nh_good (v0 v1 v2 : Value) (im : Img) (s : Int) (w : World) (hI : ImgAt w v0 v1 v2 im) (hw : wholeI im = true) :
    Calls Tryz.prog 12 #[.agg #[v0, v1, v2], .int .i64 s] w fun e w' => e = .returned (.tuple #[.pointer (some ⟨w.heap.size + 1, 0, none⟩), .int .i64 0]) ∧ HBegun w' (w.heap.size + 1) w.heap.size (hst0 im (sesN s)) ∧ Below w.heap.size w w' := by
  obtain ⟨x0, y0, rfl⟩ := hI.b.slice
  obtain ⟨x1, y1, rfl⟩ := hI.l.slice
  obtain ⟨x2, y2, rfl⟩ := hI.s.slice
  exact newHost_any x0 x1 x2 _ _ _ y0 y1 y2 im s w hI (byteVs_len _) (boolVs_len _) (boolVs_len _) hw
theorem whole_lens {im : Img} (hw : wholeI im = true) : im.bytes.length = 1024 ∧ im.laid.length = 1024 ∧ im.starts.length = 1024 := by
  unfold wholeI at hw
  simp only [Bool.and_eq_true, decide_eq_true_eq] at hw
  exact hw
theorem rnh_good (v0 v1 v2 : Value) (im : Img) (s : Int) (w : World) (hI : ImgAt w v0 v1 v2 im) (hw : wholeI im = true) :
    Calls Tryz.prog 19 #[.agg #[v0, v1, v2], .int .i64 s] w fun e w' => ∃ hb, e = .returned (.tuple #[.pointer (some ⟨hb, 0, none⟩), .int .i64 0]) ∧ RHBegun w' hb w.heap.size (raskD (dst0 im [UInt8.ofNat (sesN s / 256), UInt8.ofNat (sesN s % 256)]) 1 []) ∧ Below w.heap.size w w' := by
  obtain ⟨l0, l1, l2⟩ := whole_lens hw
  obtain ⟨x0, y0, e0⟩ := hI.b.slice
  obtain ⟨x1, y1, e1⟩ := hI.l.slice
  obtain ⟨x2, y2, e2⟩ := hI.s.slice
  rw [byteVs_len, l0] at e0
  rw [boolVs_len, l1] at e1
  rw [boolVs_len, l2] at e2
  subst e0 e1 e2
  exact rnewHost_any x0 x1 x2 y0 y1 y2 im s w hI l0 l1
theorem nh_bad (v0 v1 v2 : Value) (im : Img) (s : Int) (w : World) (hI : ImgAt w v0 v1 v2 im) (hf : ImgFew im) (hw : wholeI im = false) :
    Calls Tryz.prog 12 #[.agg #[v0, v1, v2], .int .i64 s] w fun e w' => e = .returned (.tuple #[.pointer none, .int .i64 9]) ∧ Below w.heap.size w w' := by
  obtain ⟨x0, y0, rfl⟩ := hI.b.slice
  obtain ⟨x1, y1, rfl⟩ := hI.l.slice
  obtain ⟨x2, y2, rfl⟩ := hI.s.slice
  obtain ⟨f0, f1, f2⟩ := hf
  refine newHost_bad x0 x1 x2 _ _ _ y0 y1 y2 s w ?_ ?_ ?_ ?_
  · rw [byteVs_len]; omega
  · rw [boolVs_len]; omega
  · rw [boolVs_len]; omega
  · rw [byteVs_len, boolVs_len, boolVs_len]; exact hw
theorem rnh_bad (v0 v1 v2 : Value) (im : Img) (s : Int) (w : World) (hI : ImgAt w v0 v1 v2 im) (hf : ImgFew im) (hw : wholeI im = false) :
    Calls Tryz.prog 19 #[.agg #[v0, v1, v2], .int .i64 s] w fun e w' => e = .returned (.tuple #[.pointer none, .int .i64 9]) ∧ Below w.heap.size w w' := by
  obtain ⟨x0, y0, rfl⟩ := hI.b.slice
  obtain ⟨x1, y1, rfl⟩ := hI.l.slice
  obtain ⟨x2, y2, rfl⟩ := hI.s.slice
  obtain ⟨f0, f1, f2⟩ := hf
  refine rnewHost_bad x0 x1 x2 _ _ _ y0 y1 y2 s w ?_ ?_ ?_ ?_
  · rw [byteVs_len]; omega
  · rw [boolVs_len]; omega
  · rw [boolVs_len]; omega
  · rw [byteVs_len, boolVs_len, boolVs_len]; exact hw
theorem rwh_img (v0 v1 v2 : Value) (im : Img) (w : World) (hI : ImgAt w v0 v1 v2 im) (hf : ImgFew im) :
    Calls Tryz.prog 11 #[.agg #[v0, v1, v2]] w fun e w' => e = .returned (.bool (wholeI im)) ∧ Below w.heap.size w w' := by
  obtain ⟨x0, y0, rfl⟩ := hI.b.slice
  obtain ⟨x1, y1, rfl⟩ := hI.l.slice
  obtain ⟨x2, y2, rfl⟩ := hI.s.slice
  obtain ⟨f0, f1, f2⟩ := hf
  refine (rwhole_any x0 x1 x2 _ _ _ y0 y1 y2 ?_ ?_ ?_ w).mono fun e w' ⟨h1, h2⟩ => ⟨?_, h2⟩
  · rw [byteVs_len]; omega
  · rw [boolVs_len]; omega
  · rw [boolVs_len]; omega
  · rw [h1, byteVs_len, boolVs_len, boolVs_len]
    rfl
/-- The two hosts that were made do the same. -/
theorem hoat_new {w2 w3 w4 : World} {im : Img} {s : Int} {hy : Nat} {u : Nat} (h1 : HBegun w3 (w2.heap.size + 1) w2.heap.size (hst0 im (sesN s))) (h2 : RHBegun w4 hy w3.heap.size (raskD (dst0 im [UInt8.ofNat (sesN s / 256), UInt8.ofNat (sesN s % 256)]) 1 [])) (hB : Below w3.heap.size w3 w4) (hw : wholeI im = true) : HoAt w4 (w2.heap.size + 1) hy (fun k => w2.heap.size ≤ k) u := by
  obtain ⟨l0, _, _⟩ := whole_lens hw
  obtain ⟨lb, m, hl⟩ := h1
  obtain ⟨wb, bb, r, q1, q2, q3⟩ := h2
  have hx := m.lt
  have hll := m.ll
  refine ⟨lb, wb, bb, _, _, m.below hB, r, same0 im s l0, hst0_ok im s l0, ?_, ?_, ⟨by omega, by omega, by omega, by omega⟩, by omega, hl, by omega, by omega, by omega⟩
  · exact ⟨Nat.zero_le _, Nat.zero_le _⟩
  · exact Nat.zero_le _
/-- While the law writes over its own copy. -/
structure Scrib (B C : Nat) (w w' : World) (u0 u1 : Value) (n0 n1 : Nat) : Prop where
  r0 : ∃ xs, w'.ownsRow B 5 1 u0 n0 xs
  r1 : ∃ xs, w'.ownsRow B 4 1 u1 n1 xs
  d : ∀ g, u0.ownBlock = some g → u1.ownBlock ≠ some g
  l0 : ∀ g, u0.ownBlock = some g → g < C
  l1 : ∀ g, u1.ownBlock = some g → g < C
  ch : ChgP w w' (fun k => B ≤ k ∧ k < C)
theorem Scrib.put0 {B C : Nat} {w w' : World} {u0 u1 : Value} {n0 n1 : Nat} (h : Scrib B C w w' u0 u1 n0 n1) {j : Nat} (hj : j < n0) (x : Value) : ∃ g cap, u0 = .slice (some ⟨g, 0, none⟩) n0 cap ∧ (∃ q, w'.cell? ⟨g, j, none⟩ = some q) ∧ w'.frozen? ⟨g, j, none⟩ = false ∧ (n0 : Int) ≤ 9223372036854775807 ∧ Scrib B C w (w'.setCell ⟨g, j, none⟩ x) u0 u1 n0 n1 := by
  obtain ⟨xs, r⟩ := h.r0
  obtain ⟨ys, r'⟩ := h.r1
  have r2 := r
  obtain ⟨hl, ⟨_, e2⟩ | ⟨g, cap, cur, rfl, hg, hh, h3, h4, h5, h6⟩⟩ := r
  · omega
  · have hgc := h.l0 g rfl
    refine ⟨g, cap, rfl, ⟨cur[j]'(by omega), ?_⟩, frozen_of_row _ _ _ _ _ hh, by unfold maxLen at h4; omega, ⟨_, own_put3 r2 x⟩, ⟨ys, own_atE r' (fun k hk => heap_setCell_other w' ⟨g, j, none⟩ k x (fun e => h.d g rfl (by rw [← show k = g from e]; exact hk)))⟩, h.d, h.l0, h.l1, ⟨h.ch.os, h.ch.tape, h.ch.output, by simpa [World.setCell] using h.ch.size, fun k hk hne => (heap_setCell_other w' ⟨g, j, none⟩ k x (fun e => hne (by rw [show k = g from e]; exact ⟨hg, hgc⟩))).trans (h.ch.block k hk hne)⟩⟩
    rw [cell_of_row w' g _ cur _ (0, 0) hh, Array.getElem?_eq_getElem]
theorem Scrib.put1 {B C : Nat} {w w' : World} {u0 u1 : Value} {n0 n1 : Nat} (h : Scrib B C w w' u0 u1 n0 n1) {j : Nat} (hj : j < n1) (x : Value) : ∃ g cap, u1 = .slice (some ⟨g, 0, none⟩) n1 cap ∧ (∃ q, w'.cell? ⟨g, j, none⟩ = some q) ∧ w'.frozen? ⟨g, j, none⟩ = false ∧ (n1 : Int) ≤ 9223372036854775807 ∧ Scrib B C w (w'.setCell ⟨g, j, none⟩ x) u0 u1 n0 n1 := by
  obtain ⟨xs, r⟩ := h.r1
  obtain ⟨ys, r'⟩ := h.r0
  have r2 := r
  obtain ⟨hl, ⟨_, e2⟩ | ⟨g, cap, cur, rfl, hg, hh, h3, h4, h5, h6⟩⟩ := r
  · omega
  · have hgc := h.l1 g rfl
    refine ⟨g, cap, rfl, ⟨cur[j]'(by omega), ?_⟩, frozen_of_row _ _ _ _ _ hh, by unfold maxLen at h4; omega, ⟨ys, own_atE r' (fun k hk => heap_setCell_other w' ⟨g, j, none⟩ k x (fun e => h.d g (by rw [← show k = g from e]; exact hk) rfl))⟩, ⟨_, own_put3 r2 x⟩, h.d, h.l0, h.l1, ⟨h.ch.os, h.ch.tape, h.ch.output, by simpa [World.setCell] using h.ch.size, fun k hk hne => (heap_setCell_other w' ⟨g, j, none⟩ k x (fun e => hne (by rw [show k = g from e]; exact ⟨hg, hgc⟩))).trans (h.ch.block k hk hne)⟩⟩
    rw [cell_of_row w' g _ cur _ (0, 0) hh, Array.getElem?_eq_getElem]
theorem Scrib.start {B : Nat} {w1 w : World} {u0 u1 u2 : Value} {im : Img} (h : Own3 B w1 u0 u1 u2 im) (hb : Below w1.heap.size w1 w) : Scrib B w1.heap.size w w u0 u1 im.bytes.length im.laid.length :=
  ⟨⟨_, below_rowB h.b hb⟩, ⟨_, below_rowB h.l hb⟩, h.d, fun g hg => (h.b.lt g hg).2, fun g hg => (h.l.lt g hg).2, ChgP.refl _ _⟩
theorem Scrib.below {C : Nat} {w0 w w' : World} {u0 u1 : Value} {n0 n1 : Nat} (h : Scrib w0.heap.size C w w' u0 u1 n0 n1) (hb : Below w0.heap.size w0 w) : Below w0.heap.size w0 w' :=
  ⟨h.ch.os.trans hb.os, h.ch.tape.trans hb.tape, h.ch.output.trans hb.output, Nat.le_trans hb.size h.ch.size, fun k hk => (h.ch.block k (by have := hb.size; omega) (fun e => by omega)).trans (hb.block k hk)⟩
end Go.Proofs.YthokdbcpkmcieaaGreat
namespace Go.Proofs.YthokdbcpkmcieaaGreat
open Go Go.RowKit
/-- The law's world at wb, with the boards that it has so far, and the image. -/
structure LI (w wr : World) (wb : Nat) (os : List Bo) (v i0 i1 i2 : Value) (im : Img) : Prop where
  lb : LB w wr wb os v
  c0 : wr.cell? ⟨wb, 0, none⟩ = some i0
  c1 : wr.cell? ⟨wb, 1, none⟩ = some i1
  c2 : wr.cell? ⟨wb, 2, none⟩ = some i2
  fw : ∀ j, wr.frozen? ⟨wb, j, none⟩ = false
  img : ImgAt wr i0 i1 i2 im
  ki : ∀ g, (i0.ownBlock = some g ∨ i1.ownBlock = some g ∨ i2.ownBlock = some g) → w.heap.size ≤ g ∧ g < wb
  up : ∀ o ∈ os, ∀ k ∈ o.own, wb < k
theorem LI.step {w wr w1 w2 wn : World} {wb bb fb jb : Nat} {os : List Bo} {v v' i0 i1 i2 : Value} {im : Img} {ob : Obj} (h : LI w wr wb os v i0 i1 i2 im) (hbb : wr.heap.size ≤ bb) (hb1 : BrdAt w1 bb brd0) (hB1 : Below wr.heap.size wr w1) (hfb : w1.heap.size < fb) (hjb : w1.heap.size < jb) (hr2 : RB w2 w1.heap.size fb jb brd0 0) (hB2 : Below w1.heap.size w1 w2)
    (hown : wn.ownsRow (wb + 1) 42 3 v' (os.length + 1) (os.flatMap boCells ++ boCells ⟨bb, w1.heap.size, fb, jb⟩)) (hgr : (w2.alloc ob).grownBy wn v.ownBlock) (hloc : v'.ownBlock = v.ownBlock ∨ v'.ownBlock = some (w2.alloc ob).heap.size) :
    LI w (wn.setCell ⟨wb, 3, none⟩ v') wb (os ++ [⟨bb, w1.heap.size, fb, jb⟩]) v' i0 i1 i2 im := by
  have hwl : wb < wr.heap.size := World.block_lt_of_cell? _ _ h.lb.c3
  have z1 := hB1.size
  have z2 := hB2.size
  have z3 : w2.heap.size + 1 ≤ wn.heap.size := by have := hgr.size; simpa using this
  have kz : (wn.setCell ⟨wb, 3, none⟩ v').heap.size = wn.heap.size := by simp [World.setCell]
  have hvb : ∀ g, v.ownBlock = some g → wb + 1 ≤ g ∧ g < wr.heap.size := fun g hg => h.lb.row.lt g hg
  have ko : ∀ k, k < wr.heap.size → v.ownBlock ≠ some k → wn.heap[k]? = wr.heap[k]? := fun k hk hne => by
    rw [hgr.block k (by simp; omega) (fun e => hne e.symm), Below.heap_alloc _ _ _ (by omega), hB2.block k (by omega), hB1.block k hk]
  have ewb : wn.heap[wb]? = wr.heap[wb]? := ko wb hwl (fun e => by have := (hvb wb e).1; omega)
  have cw : ∀ j, j ≠ 3 → (wn.setCell ⟨wb, 3, none⟩ v').cell? ⟨wb, j, none⟩ = wr.cell? ⟨wb, j, none⟩ := fun j hj => (World.cell?_setCell_other _ _ _ _ (by simp <;> omega)).trans (World.cell?_of_block (a := ⟨wb, j, none⟩) ewb)
  have ki : ∀ g, (i0.ownBlock = some g ∨ i1.ownBlock = some g ∨ i2.ownBlock = some g) → (wn.setCell ⟨wb, 3, none⟩ v').heap[g]? = wr.heap[g]? := fun g e => by
    have := (h.ki g e).2
    rw [heap_setCell_other wn ⟨wb, 3, none⟩ g v' (show g ≠ wb by omega)]
    exact ko g (by omega) (fun e => by have := (hvb g e).1; omega)
  have hzz : wr.heap.size ≤ (wn.setCell ⟨wb, 3, none⟩ v').heap.size := by rw [kz]; omega
  refine ⟨h.lb.step hbb hb1 hB1 hfb hjb hr2 hB2 hown hgr hloc, (cw 0 (by decide)).trans h.c0, (cw 1 (by decide)).trans h.c1, (cw 2 (by decide)).trans h.c2, fun j => ?_, ⟨h.img.b.keptC (fun g _ e => ki g (.inl e)) hzz, h.img.l.keptC (fun g _ e => ki g (.inr (.inl e))) hzz, h.img.s.keptC (fun g _ e => ki g (.inr (.inr e))) hzz⟩, h.ki, fun o ho k hk => ?_⟩
  · have := (World.frozen?_of_block (a := ⟨wb, j, none⟩) ewb).trans (h.fw j)
    simp [this]
  · rw [List.mem_append, List.mem_singleton] at ho
    rcases ho with ho | rfl
    · exact h.up o ho k hk
    · simp only [Bo.own, List.mem_cons, List.not_mem_nil, or_false] at hk
      rcases hk with rfl | rfl | rfl | rfl <;> omega
open Classical in
/-- The colours at the beginning. -/
noncomputable def col0 (n wb gb : Nat) (o0 o1 : Bo) : Nat → Nat := fun k => if k < n then 0 else if k < wb then 4 else if k = wb then 1 else if k = gb then 2 else if k ∈ o0.own then 10 else if k ∈ o1.own then 11 else 0
theorem LI.whole {w wr : World} {wb : Nat} {os : List Bo} {v i0 i1 i2 : Value} {im : Img} (h : LI w wr wb os v i0 i1 i2 im) (hl : os.length = 2) : ∃ gb cap o col, v = .slice (some ⟨gb, 0, none⟩) 2 cap ∧ HW w wr wb gb cap o col (fun _ => .slice none 0 0) [] (.slice none 0 0) i0 i1 i2 im nbR 0 := by
  obtain ⟨o0, o1, rfl⟩ := two_of_len hl
  have hlb := h.lb
  obtain ⟨gb, cap, rfl, h1, h2⟩ := own_some hlb.row (by simp)
  have hc : ∀ j x, (List.flatMap boCells [o0, o1])[j]? = some x → wr.cell? ⟨gb, j, none⟩ = some x := fun j x hx => by
    have := hlb.row.cells (g := gb) rfl j x hx
    rwa [Addr.add_lit, Nat.zero_add] at this
  have hfz : ∀ j, wr.frozen? ⟨gb, j, none⟩ = false := fun j => by
    obtain ⟨_, ⟨e1, _⟩ | ⟨g', cap', cur, e1, hg, hh, _⟩⟩ := hlb.row
    · cases e1
    · cases e1
      exact frozen_of_row _ _ _ _ _ hh
  have a0 := hlb.apart o0 (by simp)
  have a1 := hlb.apart o1 (by simp)
  have u0 := h.up o0 (by simp)
  have u1 := h.up o1 (by simp)
  have hd := hlb.dis
  rw [List.pairwise_cons] at hd
  have d01 := hd.1 o1 (by simp)
  have hge := hlb.ge
  have c10 : ∀ k ∈ o0.own, col0 w.heap.size wb gb o0 o1 k = 10 := fun k hk => by
    have := (a0 k hk).2.2
    have := u0 k hk
    have hgn : ¬ k = gb := fun e => (a0 k hk).2.1 (by rw [e]; rfl)
    unfold col0
    rw [if_neg (by omega), if_neg (by omega), if_neg (by omega), if_neg hgn, if_pos hk]
  have c11 : ∀ k ∈ o1.own, col0 w.heap.size wb gb o0 o1 k = 11 := fun k hk => by
    have := (a1 k hk).2.2
    have := u1 k hk
    have hgn : ¬ k = gb := fun e => (a1 k hk).2.1 (by rw [e]; rfl)
    unfold col0
    rw [if_neg (by omega), if_neg (by omega), if_neg (by omega), if_neg hgn, if_neg (fun e => d01 k e hk), if_pos hk]
  have two : ∀ {p : Nat → Prop}, p 0 → p 1 → ∀ i, i < 2 → p i := fun {p} p0 p1 i hi => by
    have : i = 0 ∨ i = 1 := by omega
    rcases this with rfl | rfl
    · exact p0
    · exact p1
  refine ⟨gb, cap, oAt o0 o1, col0 w.heap.size wb gb o0 o1, rfl, ⟨h.c0, h.c1, h.c2, hlb.c3, hlb.c4, h.fw, two (hc 0 _ rfl) (hc 3 _ rfl), two (hc 1 _ rfl) (hc 4 _ rfl), two (hc 2 _ rfl) (hc 5 _ rfl), hfz, World.ownsRow_nil _ _ _ _, two ⟨brd0, hlb.prs o0 (by simp)⟩ ⟨brd0, hlb.prs o1 (by simp)⟩, fun _ _ => ⟨0, Nat.zero_le _, Way.nil _ _⟩, fun i hi => absurd hi (Nat.not_lt_zero _), fun i hi => absurd hi (Nat.not_lt_zero _), h.img, Nat.zero_le _, ?_, ?_, fun g e => by simp [Value.ownBlock] at e, two c10 c11, fun _ _ g e => by simp [Value.ownBlock] at e, fun i hi => absurd hi (Nat.not_lt_zero _), fun g e => ?_, fun k hk => ?_, hlb.below⟩⟩
  · unfold col0
    rw [if_neg (by omega), if_neg (by omega), if_pos rfl]
  · unfold col0
    rw [if_neg (by omega), if_neg (by omega), if_neg (by omega), if_pos rfl]
  · obtain ⟨g1, g2⟩ := h.ki g e
    have : wb < wr.heap.size := World.block_lt_of_cell? _ _ hlb.c3
    refine ⟨?_, by omega⟩
    unfold col0
    rw [if_neg (by omega), if_pos g2]
  · unfold col0
    rw [if_pos hk]
theorem ActsAt.below {w w' : World} {a : Option Addr} {l : List ActD} (h : ActsAt w a l) (hb : Below w.heap.size w w') : ActsAt w' a l := fun i hi => by
  obtain ⟨sb, off, e, hsb, c0, c1, c2, c3, c4, c5, hBA⟩ := h i hi
  have eb := hb.block sb hsb
  have hc : ∀ j, w'.cell? ⟨sb, j, none⟩ = w.cell? ⟨sb, j, none⟩ := fun j => World.cell?_of_block (a := ⟨sb, j, none⟩) eb
  exact ⟨sb, off, e, Nat.lt_of_lt_of_le hsb hb.size, (hc _).trans c0, (hc _).trans c1, (hc _).trans c2, (hc _).trans c3, (hc _).trans c4, (hc _).trans c5, hBA⟩
theorem li_start {W w1 : World} {u0 u1 u2 : Value} {im : Img} (h : Own3 W.heap.size w1 u0 u1 u2 im) (hB : Below W.heap.size W w1) : LI W (w1.alloc (.cells #[u0, u1, u2, .slice none 0 0, .slice none 0 0] 35)) w1.heap.size [] (.slice none 0 0) u0 u1 u2 im := by
  have hh := heap_alloc_new w1 (.cells #[u0, u1, u2, .slice none 0 0, .slice none 0 0] 35)
  refine ⟨⟨by rw [cell_of_row _ _ _ _ _ (0, 0) hh]; rfl, by rw [cell_of_row _ _ _ _ _ (0, 0) hh]; rfl, frozen_of_row _ _ _ _ _ hh, World.ownsRow_nil _ _ _ _, fun o ho => by simp at ho, fun o ho => by simp at ho, List.Pairwise.nil, hB.alloc hB.size _, hB.size⟩, by rw [cell_of_row _ _ _ _ _ (0, 0) hh]; rfl, by rw [cell_of_row _ _ _ _ _ (0, 0) hh]; rfl, by rw [cell_of_row _ _ _ _ _ (0, 0) hh]; rfl, fun j => frozen_of_row _ _ _ _ _ hh, h.img.below ((Below.refl _ _).alloc (Nat.le_refl _) _), fun g e => ?_, fun o ho => by simp at ho⟩
  rcases e with e | e | e
  · exact h.b.lt g e
  · exact h.l.lt g e
  · exact h.s.lt g e
section
variable {w wr w' : World} {wb gb gcap : Nat} {o : Nat → Bo} {n : Nat} {i0 i1 i2 : Value} {im : Img} {u v : Nat}
theorem HSt.below (h : HSt w wr wb gb gcap o n i0 i1 i2 im u) : Below w.heap.size w wr := by
  obtain ⟨_, _, _, _, _, h⟩ := h
  exact h.below
theorem HSt.grow (h : HSt w wr wb gb gcap o n i0 i1 i2 im u) (hb : Below wr.heap.size wr w') : HSt w w' wb gb gcap o n i0 i1 i2 im u := by
  obtain ⟨a, b, c, d, e, h⟩ := h
  exact ⟨a, b, c, d, e, h.grow hb⟩
theorem HSt.le (h : HSt w wr wb gb gcap o n i0 i1 i2 im u) (huv : u ≤ v) : HSt w wr wb gb gcap o n i0 i1 i2 im v := by
  obtain ⟨a, b, c, d, e, h⟩ := h
  exact ⟨a, b, c, d, e, h.le huv⟩
theorem hst_flash (j : Nat) (hj : j < 2) (w' : World) (h : HSt w w' wb gb gcap o n i0 i1 i2 im u) : Calls Tryz.prog 14 #[.pointer (some ⟨wb, 0, none⟩), .int .i64 (j : Int), .agg #[.int .i64 6, .int .i64 0, .int .i64 0, .int .i64 0, .int .i64 0, .string ⟨#[]⟩]] w' fun e w'' => e = .returned (.bool true) ∧ HSt w w'' wb gb gcap o n i0 i1 i2 im u := by
  obtain ⟨col, bv, hs, hv, hl, hw⟩ := h
  obtain ⟨b, hb⟩ := hw.board j hj
  exact (lboard_flash wb gb gcap j (o j) b u 0 0 0 0 ⟨#[]⟩ w' hb).mono fun e w'' ⟨h1, h2, h3⟩ => ⟨h1, col, bv, hs, hv, hl, hw.actB j hj h2 h3 (Nat.le_refl _)⟩
theorem hst_burnt (j : Nat) (hj : j < 2) (w' : World) (h : HSt w w' wb gb gcap o n i0 i1 i2 im u) : Calls Tryz.prog 14 #[.pointer (some ⟨wb, 0, none⟩), .int .i64 (j : Int), .agg #[.int .i64 7, .int .i64 0, .int .i64 0, .int .i64 0, .int .i64 0, .string ⟨#[]⟩]] w' fun e w'' => e = .returned (.bool true) ∧ HSt w w'' wb gb gcap o n i0 i1 i2 im u := by
  obtain ⟨col, bv, hs, hv, hl, hw⟩ := h
  obtain ⟨b, hb⟩ := hw.board j hj
  exact (lboard_burnt wb gb gcap j (o j) b u 0 0 0 0 ⟨#[]⟩ w' hb).mono fun e w'' ⟨h1, h2, h3⟩ => ⟨h1, col, bv, hs, hv, hl, hw.actB j hj h2 h3 (Nat.le_refl _)⟩
theorem hst_on (j : Nat) (hj : j < 2) (w' : World) (h : HSt w w' wb gb gcap o n i0 i1 i2 im u) : Calls Tryz.prog 14 #[.pointer (some ⟨wb, 0, none⟩), .int .i64 (j : Int), .agg #[.int .i64 5, .int .i64 0, .int .i64 0, .int .i64 0, .int .i64 0, .string ⟨#[]⟩]] w' fun e w'' => e = .returned (.bool true) ∧ HSt w w'' wb gb gcap o n i0 i1 i2 im u := by
  obtain ⟨col, bv, hs, hv, hl, hw⟩ := h
  obtain ⟨b, hb⟩ := hw.board j hj
  exact (lboard_on wb gb gcap j (o j) b u 0 0 0 0 ⟨#[]⟩ w' hb).mono fun e w'' ⟨h1, h2, h3⟩ => ⟨h1, col, bv, hs, hv, hl, hw.actB j hj h2 h3 (Nat.le_refl _)⟩
end
end Go.Proofs.YthokdbcpkmcieaaGreat
