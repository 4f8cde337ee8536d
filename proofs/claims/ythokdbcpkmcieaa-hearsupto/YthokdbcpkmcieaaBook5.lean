/- The walk of looks, where no image is kept. -/
import Derived.Test.YthokdbcpkmcieaaBook4
namespace Go.Proofs.Ythokdbcpkmcieaa
open Go Go.RowKit
theorem flat_get (es : List Ent) : ∀ (k : Nat) (hk : k < es.length) (j : Nat) (u : Value), (entCells es[k])[j]? = some u → (es.flatMap entCells)[k * 5 + j]? = some u := by
  induction es with
  | nil => intro k hk; simp at hk
  | cons e es ih =>
    intro k hk j u hu
    rw [List.flatMap_cons]
    have hl : (entCells e).length = 5 := rfl
    cases k with
    | zero =>
      simp only [List.getElem_cons_zero] at hu
      have hj : j < 5 := by
        rcases Nat.lt_or_ge j 5 with h | h
        · exact h
        · rw [List.getElem?_eq_none (by rw [hl] at *; simpa [entCells] using h)] at hu; cases hu
      rw [Nat.zero_mul, Nat.zero_add, List.getElem?_append_left (by omega)]
      exact hu
    | succ k =>
      simp only [List.getElem_cons_succ] at hu
      rw [List.getElem?_append_right (by omega), hl, show (k + 1) * 5 + j - 5 = k * 5 + j by omega]
      exact ih k (by simpa using hk) j u hu
theorem book_cells {w : World} {bb base top : Nat} {sv : Value} {es : List Ent} (h : BookS w bb base top sv es) {k : Nat} (hk : k < es.length) : ∃ g cap, sv = .slice (some ⟨g, 0, none⟩) es.length cap ∧ g < w.heap.size ∧ w.cell? ⟨g, k * 5, none⟩ = some es[k].l ∧ w.cell? ⟨g, k * 5 + 1, none⟩ = some es[k].a ∧ w.cell? ⟨g, k * 5 + 2, none⟩ = some es[k].b ∧ w.cell? ⟨g, k * 5 + 3, none⟩ = some es[k].c ∧ w.cell? ⟨g, k * 5 + 4, none⟩ = some (.string es[k].m) := by
  obtain ⟨g, cap, rfl, h1, h2⟩ := own_some h.row (by omega)
  have key : ∀ j u, (entCells es[k])[j]? = some u → w.cell? ⟨g, k * 5 + j, none⟩ = some u := fun j u hu => by
    have := h.row.cells (g := g) rfl (k * 5 + j) u (flat_get es k hk j u hu)
    rwa [Addr.add_lit, Nat.zero_add] at this
  exact ⟨g, cap, rfl, h2, key 0 _ rfl, key 1 _ rfl, key 2 _ rfl, key 3 _ rfl, key 4 _ rfl⟩
set_option maxRecDepth 100000 in
set_option maxHeartbeats 8000000 in
theorem looks_any (w : World) (bb base top : Nat) (sv : Value) (es : List Ent) (hB : BookS w bb base top sv es) (hes : es.length ≤ 2000000) (htop : top ≤ w.heap.size) (h1 : w.cell? ⟨bb, 1, none⟩ = some (.slice none 0 0)) :
    Calls Try.prog 14 #[.pointer (some ⟨bb, 0, none⟩)] w fun e w' => e = .returned (.bool true) ∧ Below w.heap.size w w' := by
  have HB := hideIt hB
  obtain ⟨sa, sc, rfl⟩ : ∃ a c, sv = .slice a es.length c := by
    rcases hB.row with ⟨_, ⟨rfl, h0⟩ | ⟨g, cap, cur, rfl, _⟩⟩
    · exact ⟨_, _, by rw [h0]⟩
    · exact ⟨_, _, rfl⟩
  obtain ⟨N, hN⟩ : ∃ N, es.length = N := ⟨_, rfl⟩
  have hbl : bb < w.heap.size := by have := hB.lt; have := hB.le; omega
  rw [hN] at hes HB
  clear hB
  go_enter Try.func14, Try.ntmps14
  go_wp2_with fail
  go_loopw [3, 4] (fun i x wr => ∃ k : Nat, k ≤ N ∧ i = .int .i64 k ∧ Below w.heap.size w wr) (fun i _ _ => N - (intOf i).toNat)
  case atStart => exact ⟨0, Nat.zero_le _, rfl, Below.refl _ _⟩
  case round =>
    obtain ⟨k, hk, rfl, hW⟩ := hrel
    have hBr : BookS wr bb base top (.slice sa N sc) es := HB.out.kept (hW.block bb hbl) (fun j _ hj => hW.block j (by omega))
    have c0 := hBr.c0
    have hwz := hW.size
    have HW := hideIt hW
    have HBR := hideIt hBr
    by_cases hlt : k < N
    · obtain ⟨g, cap, e1, hg, y0, y1, y2, y3, y4⟩ := book_cells hBr (k := k) (by omega)
      have hful := hBr.full es[k] (List.getElem_mem _)
      simp only [Value.slice.injEq] at e1
      obtain ⟨rfl, hdrop, rfl⟩ := e1
      clear hdrop
      obtain ⟨en, hen⟩ : ∃ en, es[k]'(by omega) = en := ⟨_, rfl⟩
      rw [hen] at y0 y1 y2 y3 y4 hful
      obtain ⟨vl, va, vb, vc, m⟩ := en
      simp only at y0 y1 y2 y3 y4 hful
      have F1 := hideIt (fun w' (hb : Below wr.heap.size wr w') => fullStrings_any w' base wr.heap.size vl m (by obtain ⟨q, p1, p2, p3⟩ := hful vl (by simp [entVals]); exact ⟨q, p1, own_atE p2 (fun j hj => hb.block j (p2.lt j hj).2), fun g hg => (p2.lt g hg).2⟩))
      have F2 := hideIt (fun w' (hb : Below wr.heap.size wr w') => fullStrings_any w' base wr.heap.size va m (by obtain ⟨q, p1, p2, p3⟩ := hful va (by simp [entVals]); exact ⟨q, p1, own_atE p2 (fun j hj => hb.block j (p2.lt j hj).2), fun g hg => (p2.lt g hg).2⟩))
      have F3 := hideIt (fun w' (hb : Below wr.heap.size wr w') => fullStrings_any w' base wr.heap.size vb m (by obtain ⟨q, p1, p2, p3⟩ := hful vb (by simp [entVals]); exact ⟨q, p1, own_atE p2 (fun j hj => hb.block j (p2.lt j hj).2), fun g hg => (p2.lt g hg).2⟩))
      have F4 := hideIt (fun w' (hb : Below wr.heap.size wr w') => fullStrings_any w' base wr.heap.size vc m (by obtain ⟨q, p1, p2, p3⟩ := hful vc (by simp [entVals]); exact ⟨q, p1, own_atE p2 (fun j hj => hb.block j (p2.lt j hj).2), fun g hg => (p2.lt g hg).2⟩))
      have hii : (k : Int) < (N : Int) := by omega
      obtain ⟨l1, l2, l3, rfl⟩ : ∃ a b c, vl = .slice a b c := by obtain ⟨q, p1, p2, p3⟩ := hful vl (by simp [entVals]); exact slice_ofR p2
      obtain ⟨a1, a2, a3, rfl⟩ : ∃ a b c, va = .slice a b c := by obtain ⟨q, p1, p2, p3⟩ := hful va (by simp [entVals]); exact slice_ofR p2
      obtain ⟨b1, b2, b3, rfl⟩ : ∃ a b c, vb = .slice a b c := by obtain ⟨q, p1, p2, p3⟩ := hful vb (by simp [entVals]); exact slice_ofR p2
      obtain ⟨c1, c2, c3, rfl⟩ : ∃ a b c, vc = .slice a b c := by obtain ⟨q, p1, p2, p3⟩ := hful vc (by simp [entVals]); exact slice_ofR p2
      clear hW hBr hful hen
      have HBA := hideIt (show Below wr.heap.size wr (wr.alloc (.cells #[.slice l1 l2 l3, .slice a1 a2 a3, .slice b1 b2 b3, .slice c1 c2 c3, .string m] 67)) from (Below.refl _ _).alloc (Nat.le_refl _) _)
      go_wp2_with fail
      refine (F1.out _ HBA.out).mono ?_
      rintro e w1 ⟨rfl, rfl⟩
      go_wp2_with fail
      refine (F2.out _ HBA.out).mono ?_
      rintro e w1 ⟨rfl, rfl⟩
      go_wp2_with fail
      refine (F3.out _ HBA.out).mono ?_
      rintro e w1 ⟨rfl, rfl⟩
      go_wp2_with fail
      refine (F4.out _ HBA.out).mono ?_
      rintro e w1 ⟨rfl, rfl⟩
      go_wp2
      go_roundw
      case rel => exact ⟨k + 1, by omega, by go_num, HW.out.alloc hwz _⟩
      case measure => simp [intOf]; omega
    · have hkk : k = N := by omega
      subst hkk
      have hc1 : wr.cell? ⟨bb, 1, none⟩ = some (.slice none 0 0) := (World.cell?_of_block (hW.block bb hbl)).trans h1
      clear hW hBr
      go_wp2_with fail
      go_loopw [5] (fun i wr' => i = .int .i64 0 ∧ wr' = wr) (fun _ _ => 0)
      case atStart => exact ⟨rfl, rfl⟩
      case round =>
        rename_i hrel
        obtain ⟨rfl, rfl⟩ := hrel
        go_wp2
        go_ret
        exact ⟨rfl, HW.out⟩
end Go.Proofs.Ythokdbcpkmcieaa
