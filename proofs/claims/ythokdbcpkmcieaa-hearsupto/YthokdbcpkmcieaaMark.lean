/- Rows full of one mark: what is written full of it stays full of it, whatever more of the same mark is written. -/
import Derived.Test.YthokdbcpkmcieaaRun
import Derived.OwnWalk
import Derived.Maps.AppendAt
namespace Go.Proofs.Ythokdbcpkmcieaa
open Go Go.RowKit
/-- From w to w' only marks were written, into the row g; what is new is new. -/
structure MarkTo (w w' : World) (g : Option Nat) (e : TypeId) (t : Value) : Prop where
  grown : w.grownBy w' g
  kept : ∀ k cur, some k = g → w.heap[k]? = some (.cells cur e (0, 0)) → ∃ cur', w'.heap[k]? = some (.cells cur' e (0, 0)) ∧ cur'.size = cur.size ∧ ∀ j : Nat, cur[j]? = some t → cur'[j]? = some t
theorem MarkTo.of_same {w w' : World} {g : Option Nat} {e : TypeId} {t : Value} (h : w.grownBy w' none) : MarkTo w w' g e t :=
  ⟨⟨h.os, h.tape, h.output, h.size, fun k hk _ => h.block k hk (by simp)⟩, fun k cur _ hc => ⟨cur, by rw [h.block k (Array.getElem?_eq_some_iff.1 hc).1 (by simp)]; exact hc, rfl, fun _ hj => hj⟩⟩
theorem MarkTo.trans {a b c : World} {g : Option Nat} {e : TypeId} {t : Value} (h : MarkTo a b g e t) (k : MarkTo b c g e t) : MarkTo a c g e t :=
  ⟨h.grown.trans k.grown, fun i cur hi hc => by
    obtain ⟨cur1, h1, h2, h3⟩ := h.kept i cur hi hc
    obtain ⟨cur2, k1, k2, k3⟩ := k.kept i cur1 hi h1
    exact ⟨cur2, k1, k2.trans h2, fun j hj => k3 j (h3 j hj)⟩⟩
theorem take_rep {l : List Value} {n : Nat} {t : Value} (h : l.take n = List.replicate n t) (j : Nat) (hj : j < n) : l[j]? = some t := by
  have : (l.take n)[j]? = some t := by rw [h, List.getElem?_replicate, if_pos hj]
  rwa [List.getElem?_take, if_pos hj] at this
theorem rep_take {l : List Value} {n : Nat} {t : Value} (h : ∀ j, j < n → l[j]? = some t) : l.take n = List.replicate n t := by
  apply List.ext_getElem?
  intro j
  rw [List.getElem?_take, List.getElem?_replicate]
  by_cases hj : j < n
  · rw [if_pos hj, if_pos hj]; exact h j hj
  · rw [if_neg hj, if_neg hj]
/-- A row full of the mark stays so. -/
theorem MarkTo.full {w w' : World} {g : Option Nat} {e : TypeId} {t : Value} (h : MarkTo w w' g e t) {base : Nat} {v : Value} {n : Nat} (hv : w.ownsRow base e 1 v n (List.replicate n t)) : w'.ownsRow base e 1 v n (List.replicate n t) := by
  obtain ⟨h1, h2 | ⟨b, cap, cur, rfl, hb, hc, hn, hm, hs, ht⟩⟩ := hv
  · exact ⟨h1, .inl h2⟩
  · refine ⟨h1, .inr ?_⟩
    rw [Nat.mul_one] at hs ht
    have hlt : b < w.heap.size := (Array.getElem?_eq_some_iff.1 hc).1
    by_cases hg : some b = g
    · obtain ⟨cur', k1, k2, k3⟩ := h.kept b cur hg hc
      refine ⟨b, cap, cur', rfl, hb, k1, hn, hm, by rw [k2, hs, Nat.mul_one], ?_⟩
      rw [Nat.mul_one]
      refine rep_take (fun j hj => ?_)
      have := take_rep ht j hj
      rw [Array.getElem?_toList] at this ⊢
      exact k3 j this
    · exact ⟨b, cap, cur, rfl, hb, (h.grown.block b hlt hg).trans hc, hn, hm, by rw [hs, Nat.mul_one], by rw [Nat.mul_one]; exact ht⟩
theorem rep_app (n m : Nat) (t : Value) : List.replicate n t ++ List.replicate m t = List.replicate (n + m) t := by rw [List.replicate_append_replicate]
theorem take_rep_app (n : Nat) (u : Value) (l : List Value) : (List.replicate n u ++ l).take n = List.replicate n u := by
  rw [List.take_append_of_le_length (by rw [List.length_replicate]; exact Nat.le_refl _), List.take_replicate, Nat.min_self]
/-- append of marks onto a row that is full of them. -/
theorem run_append_marks {P : Program} (w : World) (base : Nat) (t ty e : TypeId) (i : TypeInfo) (z : Value) (bytes : Nat) (ht : P.underlying t = some (.slice e)) (hi : P.info? e = some i) (hz : i.zero = some z)
    (hsize : i.size = 1) (hby : i.bytes = bytes) (hzs : z.cells.size = 1) (u : Value) (hu : u.oneCell' = true)
    (v : Value) (n : Nat) (hown : w.ownsRow base e 1 v n (List.replicate n u))
    (a : Addr) (m c : Nat) (hm0 : 0 < m) (hnews : ∀ j x, (List.replicate m u)[j]? = some x → w.cell? (a.add j) = some x)
    (h63 : n + m ≤ maxLen) (hbytes : (n + m) * bytes ≤ 140737488355328) (hbase : base ≤ w.heap.size) :
    ∃ v' w', (Builtin.append_ #[t, t] ty #[v, .slice (some a) m c]).run P w = .ok v' w' ∧ w'.ownsRow base e 1 v' (n + m) (List.replicate (n + m) u) ∧ MarkTo w w' v.ownBlock e u ∧ (v'.ownBlock = v.ownBlock ∨ v'.ownBlock = some w.heap.size) := by
  subst hby
  have h1 : ∀ x ∈ List.replicate m u, x.oneCell' = true := fun x hx => by rw [(List.mem_replicate.1 hx).2]; exact hu
  have hl : (List.replicate m u).length = m * i.size := by rw [List.length_replicate, hsize, Nat.mul_one]
  have hsmall : n + m ≤ 9223372036854775807 := by simp only [maxLen] at h63; omega
  have grown : ∀ (old : Nat), old < n + m →
      (w.drew.alloc (.cells ((List.replicate n u).toArray ++ (List.replicate m u).toArray ++ Builtin.zeroCells z.cells (grownCap w (n + m) old e - (n + m))) e)).ownsRow base e 1
        (.slice (some ⟨w.heap.size, 0, none⟩) (n + m) (grownCap w (n + m) old e)) (n + m) (List.replicate (n + m) u) ∧
      w.grownBy (w.drew.alloc (.cells ((List.replicate n u).toArray ++ (List.replicate m u).toArray ++ Builtin.zeroCells z.cells (grownCap w (n + m) old e - (n + m))) e)) none := by
    intro old ho
    have hge := grownCap_ge w (n + m) old e
    have hcm : grownCap w (n + m) old e ≤ maxLen := grownCap_le_maxLen w (n + m) old e h63
    refine ⟨⟨by rw [List.length_replicate, Nat.mul_one], .inr ⟨w.heap.size, _, _, rfl, hbase, heap_alloc_new w.drew _, hge, hcm, ?_, ?_⟩⟩, ⟨rfl, rfl, rfl, by simp, fun k hk _ => Below.heap_alloc w.drew _ k hk⟩⟩
    · simp only [Array.size_append, List.size_toArray, size_zeroCells, hzs, List.length_replicate, Nat.mul_one]
      omega
    · rw [Nat.mul_one]
      simp only [Array.toList_append, rep_app]
      exact take_rep_app _ _ _
  rcases hown.2 with ⟨rfl, rfl⟩ | ⟨g, cap, cur, rfl, hbg, hg, hnc, hcm, hcs, htake⟩
  · have hr := run_append_nil (P := P) w t ty e i z ht hi hz a m c (List.replicate m u) hl hnews (by omega) (by omega) (by have hb := hbytes; simp only [Nat.zero_add] at hb; omega)
    have hgr := grown 0 (by omega)
    simp only [Nat.zero_add, List.replicate_zero, Array.empty_append] at hgr ⊢
    exact ⟨_, _, hr, hgr.1, .of_same hgr.2, Or.inr rfl⟩
  · rw [Nat.mul_one] at hcs htake
    by_cases hroom : n + m ≤ cap
    · have hfit : n * i.size + (List.replicate m u).length ≤ cur.size := by rw [List.length_replicate, hsize, Nat.mul_one, hcs]; exact hroom
      have hr := run_append_room (P := P) w t ty e i ht hi g n cap cur hg a m c (List.replicate m u) hl hnews h1 hroom hfit
      rw [hsize, Nat.mul_one, htake, List.length_replicate, rep_app] at hr
      have hcell : ∀ j : Nat, cur[j]? = some u → (List.replicate (n + m) u ++ cur.toList.drop (n + m)).toArray[j]? = some u := by
        intro j hj
        rw [List.getElem?_toArray]
        by_cases hjn : j < n + m
        · rw [List.getElem?_append_left (by rw [List.length_replicate]; exact hjn), List.getElem?_replicate, if_pos hjn]
        · rw [List.getElem?_append_right (by rw [List.length_replicate]; omega), List.length_replicate, List.getElem?_drop, show n + m + (j - (n + m)) = j by omega, Array.getElem?_toList]
          exact hj
      have hsz2 : (List.replicate (n + m) u ++ cur.toList.drop (n + m)).toArray.size = cap := by
        simp only [List.size_toArray, List.length_append, List.length_replicate, List.length_drop, Array.length_toList]
        omega
      refine ⟨_, _, hr, ⟨by rw [List.length_replicate, Nat.mul_one], .inr ⟨g, cap, _, rfl, hbg, setRow_heap w g cur _ e _ hg, hroom, hcm, by rw [hsz2, Nat.mul_one], ?_⟩⟩, ⟨⟨rfl, rfl, rfl, by simp, fun k _ hk => setRow_other w g k _ (fun e => hk (by simp [Value.ownBlock, e]))⟩, ?_⟩, Or.inl rfl⟩
      · rw [Nat.mul_one]
        exact take_rep_app _ _ _
      · intro k cur0 hk hc0
        simp only [Value.ownBlock, Option.some.injEq] at hk
        subst hk
        rw [hg] at hc0
        simp only [Option.some.injEq, Obj.cells.injEq, and_true] at hc0
        subst hc0
        exact ⟨_, setRow_heap w k cur _ e _ hg, by rw [hsz2, hcs], hcell⟩
    · have holds : ∀ j x, (List.replicate n u)[j]? = some x → w.cell? ((⟨g, 0, none⟩ : Addr).add j) = some x := hown.cells (g := g) rfl
      have hr := run_append_grow (P := P) w t ty e i z ht hi hz ⟨g, 0, none⟩ n cap (List.replicate n u) (by rw [List.length_replicate, hsize, Nat.mul_one]) holds a m c (List.replicate m u) hl hnews (by omega) (by omega) (growslice_fits (by omega) hbytes)
      have hgr := grown cap (by omega)
      exact ⟨_, _, hr, hgr.1, .of_same hgr.2, Or.inr rfl⟩
theorem wpList_append_marks {P : Program} (w : World) {ops : Array Oper} {rest : List Oper} {o : Oper} {a : Act} {Q : Exit → Act → World → Prop} (hgd : o.guard = none) (s x : Operand) (t : TypeId)
    (ho : o.op = .call { callee := .builtin .append, args := #[s, x], argTypes := #[t, t] })
    (base : Nat) (e : TypeId) (i : TypeInfo) (z : Value) (bytes : Nat) (ht : P.underlying t = some (.slice e)) (hi : P.info? e = some i) (hz : i.zero = some z)
    (hsize : i.size = 1) (hby : i.bytes = bytes) (hzs : z.cells.size = 1) (u : Value) (hu : u.oneCell' = true)
    (v : Value) (n : Nat) (hs : a.eval s = v) (hown : w.ownsRow base e 1 v n (List.replicate n u))
    (ad : Addr) (m c : Nat) (hx : a.eval x = .slice (some ad) m c) (hm0 : 0 < m) (hnews : ∀ j x, (List.replicate m u)[j]? = some x → w.cell? (ad.add j) = some x)
    (h63 : n + m ≤ maxLen) (hbytes : (n + m) * bytes ≤ 140737488355328) (hbase : base ≤ w.heap.size)
    (h : ∀ v' w', w'.ownsRow base e 1 v' (n + m) (List.replicate (n + m) u) → MarkTo w w' v.ownBlock e u → (v'.ownBlock = v.ownBlock ∨ v'.ownBlock = some w.heap.size) → wpList P ops Q rest (a.put o.dst v') w') :
    wpList P ops Q (o :: rest) a w := by
  refine wpList_plain hgd fun K hK => ?_
  obtain ⟨v', w', hr, h2, h3, h5⟩ := run_append_marks (P := P) w base t o.type e i z bytes ht hi hz hsize hby hzs u hu v n hown ad m c hm0 hnews h63 hbytes hbase
  unfold Oper.wp execOp
  simp only [ho, resolve, invoke, builtin, Sem.run_bind, Sem.run_pure, Result.andThen_ok, List.map_toArray, List.map_cons, List.map_nil, hs, hx, hr]
  exact hK _ _ (h v' w' h2 h3 h5)
end Go.Proofs.Ythokdbcpkmcieaa
