/- The law's ways; taken, spoilt. -/
import Derived.Test.YthokdbcpkmcieaaGreatBoL
import Derived.ArgAppend
namespace Go.Proofs.YthokdbcpkmcieaaGreat
open Go Go.RowKit
/-- A list of n texts, each of at most M bytes, with all its room. -/
structure Way (w : World) (v : Value) (n M : Nat) : Prop where
  is : ∃ a cap, v = .slice a n cap ∧ n ≤ cap ∧ cap ≤ maxLen ∧ (0 < cap → ∃ g off, a = some ⟨g, off, none⟩ ∧ g < w.heap.size ∧ (∀ j, j < cap → (w.cell? ⟨g, off + j, none⟩).isSome = true ∧ w.frozen? ⟨g, off + j, none⟩ = false) ∧ ∀ j, j < n → ∃ s : ByteArray, s.size ≤ M ∧ w.cell? ⟨g, off + j, none⟩ = some (.string s))
theorem Way.nil (w : World) (M : Nat) : Way w (.slice none 0 0) 0 M := ⟨none, 0, rfl, Nat.le_refl _, Nat.zero_le _, fun h => absurd h (Nat.lt_irrefl _)⟩
theorem Way.kept {w w' : World} {v : Value} {n M : Nat} (h : Way w v n M) (hb : ∀ g, g < w.heap.size → v.ownBlock = some g → w'.heap[g]? = w.heap[g]?) (hz : w.heap.size ≤ w'.heap.size) : Way w' v n M := by
  obtain ⟨a, cap, rfl, h1, h2, h3⟩ := h.is
  refine ⟨a, cap, rfl, h1, h2, fun hc => ?_⟩
  obtain ⟨g, off, rfl, hg, h4, h5⟩ := h3 hc
  have e := hb g hg rfl
  refine ⟨g, off, rfl, Nat.lt_of_lt_of_le hg hz, fun j hj => ?_, fun j hj => ?_⟩
  · rw [World.cell?_of_block (a := ⟨g, off + j, none⟩) e, World.frozen?_of_block (a := ⟨g, off + j, none⟩) e]
    exact h4 j hj
  · rw [World.cell?_of_block (a := ⟨g, off + j, none⟩) e]
    exact h5 j hj
theorem Way.below {w w' : World} {v : Value} {n M : Nat} (h : Way w v n M) (hb : Below w.heap.size w w') : Way w' v n M := h.kept (fun g hg _ => hb.block g hg) hb.size
/-- A row of texts of one's own is such a list. -/
theorem way_of_row {w : World} {base e : Nat} {v : Value} {n M : Nat} {xs : List Value} (h : w.ownsRow base e 1 v n xs) (hs : ∀ x ∈ xs, ∃ s : ByteArray, s.size ≤ M ∧ x = .string s) : Way w v n M := by
  have hc : ∀ g, v.ownBlock = some g → ∀ j u, xs[j]? = some u → w.cell? ((⟨g, 0, none⟩ : Addr).add j) = some u := fun g hg => h.cells hg
  obtain ⟨hl, ⟨rfl, rfl⟩ | ⟨g, cap, cur, rfl, hg, hh, h3, h4, h5, h6⟩⟩ := h
  · exact Way.nil w M
  · have hgl : g < w.heap.size := (Array.getElem?_eq_some_iff.1 hh).1
    refine ⟨_, cap, rfl, h3, h4, fun _ => ⟨g, 0, rfl, hgl, fun j hj => ⟨?_, frozen_of_row _ _ _ _ _ hh⟩, fun j hj => ?_⟩⟩
    · rw [cell_of_row w g _ cur e (0, 0) hh, Array.getElem?_eq_getElem (by omega)]
      rfl
    · have hj' : j < xs.length := by omega
      obtain ⟨s, s1, s2⟩ := hs _ (List.getElem_mem hj')
      refine ⟨s, s1, ?_⟩
      have := hc g rfl j _ (List.getElem?_eq_getElem hj')
      rw [Addr.add_lit] at this
      rw [this, s2]
/-- The texts themselves. -/
theorem Way.list {w : World} {v : Value} {n M : Nat} (h : Way w v n M) (hn : 0 < n) : ∃ g off cap, ∃ xs : List Value, v = .slice (some ⟨g, off, none⟩) n cap ∧ n ≤ cap ∧ cap ≤ maxLen ∧ g < w.heap.size ∧ xs.length = n ∧ (∀ j (hj : j < xs.length), w.cell? ⟨g, off + j, none⟩ = some xs[j] ∧ ∃ s : ByteArray, s.size ≤ M ∧ xs[j] = .string s) ∧ (∀ j, j < cap → (w.cell? ⟨g, off + j, none⟩).isSome = true ∧ w.frozen? ⟨g, off + j, none⟩ = false) := by
  obtain ⟨a, cap, rfl, h1, h2, h3⟩ := h.is
  obtain ⟨g, off, rfl, hg, h4, h5⟩ := h3 (by omega)
  have key : ∀ k, k ≤ n → ∃ xs : List Value, xs.length = k ∧ ∀ j (hj : j < xs.length), w.cell? ⟨g, off + j, none⟩ = some xs[j] ∧ ∃ s : ByteArray, s.size ≤ M ∧ xs[j] = .string s := by
    intro k
    induction k with
    | zero => intro _; exact ⟨[], rfl, fun j hj => absurd hj (Nat.not_lt_zero _)⟩
    | succ k ih =>
      intro hk
      obtain ⟨xs, q1, q2⟩ := ih (by omega)
      obtain ⟨t, t1, t2⟩ := h5 k (by omega)
      refine ⟨xs ++ [.string t], by simp [q1], fun j hj => ?_⟩
      rw [List.length_append] at hj
      simp only [List.length_cons, List.length_nil] at hj
      by_cases e : j < xs.length
      · rw [List.getElem_append_left e]
        exact q2 j e
      · have ej : j = k := by omega
        subst ej
        rw [List.getElem_append_right (by omega)]
        simp only [List.getElem_singleton]
        exact ⟨t2, t, t1, rfl⟩
  obtain ⟨xs, x1, x2⟩ := key n (Nat.le_refl _)
  exact ⟨g, off, cap, xs, rfl, h1, h2, hg, x1, x2, h4⟩
theorem Tryz.infoStr2 : (Tryz.prog.info? 9).map (fun i => (i.zero, i.size, i.bytes)) = some (some (.string ⟨#[]⟩), 1, 16) := by kernel_rfl
/-- One text more. -/
theorem run_append_way (w : World) (ty : TypeId) (v : Value) (n M : Nat) (hw : Way w v n M) (ad : Addr) (c : Nat) (s : ByteArray) (hs : w.cell? ad = some (.string s)) (hsM : s.size ≤ M) (hn : n ≤ 100) :
    ∃ v' w', (Builtin.append_ #[40, 40] ty #[v, .slice (some ad) 1 c]).run Tryz.prog w = .ok v' w' ∧ Way w' v' (n + 1) M ∧ w.grownBy w' v.ownBlock ∧ (v'.ownBlock = v.ownBlock ∨ ∃ g, v'.ownBlock = some g ∧ w.heap.size ≤ g) := by
  obtain ⟨i, hi, hz0, hz1, hz2⟩ := info_of Tryz.infoStr2
  obtain ⟨a, cap, rfl, h1, h2, h3⟩ := hw.is
  have hnews : ∀ j u, [Value.string s][j]? = some u → w.cell? (ad.add j) = some u := fun j u hu => by
    match j, hu with
    | 0, hu =>
      simp only [List.getElem?_cons_zero, Option.some.injEq] at hu
      subst hu
      have : ad.add 0 = ad := by cases ad; unfold Addr.add; split <;> simp_all
      rw [this]
      exact hs
    | j + 1, hu => simp at hu
  have h1c : ∀ u ∈ [Value.string s], u.oneCell' = true := fun u hu => by simp at hu; subst hu; rfl
  have hmx : n + 1 ≤ maxLen := by unfold maxLen; omega
  have hown : ∀ {v' w' base} {xs : List Value}, w'.ownsRow base 9 1 v' (n + 1) (xs ++ [.string s]) → (∀ x ∈ xs, ∃ s : ByteArray, s.size ≤ M ∧ x = .string s) → Way w' v' (n + 1) M := fun hr hx => way_of_row hr (fun x hm => by
    rw [List.mem_append, List.mem_singleton] at hm
    rcases hm with hm | rfl
    · exact hx x hm
    · exact ⟨s, hsM, rfl⟩)
  by_cases hc : 0 < cap
  · obtain ⟨g, off, rfl, hg, h4, h5⟩ := h3 hc
    by_cases hr : n + 1 ≤ cap
    · have hrun := run_append_room_cells (P := Tryz.prog) w 40 ty 9 i Tryz.underlying40 hi g off n cap ad 1 c [.string s] (by rw [hz1]; rfl) hnews h1c hr
        (fun j hj => by
          obtain rfl : j = 0 := by simp at hj; omega
          rw [hz1, Nat.mul_one]
          exact (h4 n (by omega)).1)
        (fun j hj => by
          obtain rfl : j = 0 := by simp at hj; omega
          rw [hz1, Nat.mul_one]
          exact (h4 n (by omega)).2)
      refine ⟨_, _, hrun, ?_, ?_, .inl rfl⟩
      · show Way (w.setCell ⟨g, off + n * i.size, none⟩ (.string s)) _ (n + 1) M
        rw [hz1, Nat.mul_one]
        obtain ⟨q, hq⟩ := Option.isSome_iff_exists.1 (h4 n (by omega)).1
        refine ⟨_, cap, rfl, hr, h2, fun _ => ⟨g, off, rfl, by simpa [World.setCell] using hg, fun j hj => ⟨?_, by simp [(h4 j hj).2]⟩, fun j hj => ?_⟩⟩
        · by_cases e : j = n
          · subst e
            rw [World.cell?_setCell_same _ _ _ hq]
            rfl
          · rw [World.cell?_setCell_other _ _ _ _ (by simp)]
            exact (h4 j hj).1
        · by_cases e : j = n
          · subst e
            exact ⟨s, hsM, World.cell?_setCell_same _ _ _ hq⟩
          · obtain ⟨t, t1, t2⟩ := h5 j (by omega)
            exact ⟨t, t1, (World.cell?_setCell_other _ _ _ _ (by simp)).trans t2⟩
      · show w.grownBy (w.setCell ⟨g, off + n * i.size, none⟩ (.string s)) _
        exact ⟨rfl, rfl, rfl, by simp [World.setCell], fun k _ hne => heap_setCell_other w ⟨g, off + n * i.size, none⟩ k _ (fun e => hne (by rw [show k = g from e]; rfl))⟩
    · have hxx : ∃ xs : List Value, xs.length = n ∧ ∀ j (hj : j < xs.length), w.cell? ⟨g, off + j, none⟩ = some xs[j] ∧ ∃ s : ByteArray, s.size ≤ M ∧ xs[j] = .string s := by
        by_cases h0 : 0 < n
        · obtain ⟨g', off', cap', xs, e, _, _, _, x1, x2, _⟩ := hw.list h0
          cases e
          exact ⟨xs, x1, x2⟩
        · exact ⟨[], by simp; omega, fun j hj => absurd hj (Nat.not_lt_zero _)⟩
      obtain ⟨xs, hxl, hx⟩ := hxx
      obtain ⟨v', w', hrun, r1, r2⟩ := run_append_arg_grows (P := Tryz.prog) w 40 ty 9 i _ 1 16 Tryz.underlying40 hi hz0 hz1 hz2 rfl (by decide) ⟨g, off, none⟩ n cap xs (by omega) (fun j u hu => by
        obtain ⟨hj, e⟩ := List.getElem?_eq_some_iff.1 hu
        rw [Addr.add_lit, (hx j hj).1, e]) ad 1 c [.string s] rfl hnews (by omega) hmx (by omega)
      refine ⟨v', w', hrun, hown r1 (fun x hm => ?_), ⟨r2.os, r2.tape, r2.output, r2.size, fun k hk _ => r2.block k hk (by simp)⟩, ?_⟩
      · obtain ⟨j, hj, e⟩ := List.getElem_of_mem hm
        rw [← e]
        exact (hx j hj).2
      · obtain ⟨_, ⟨_, e⟩ | ⟨g', cap', cur, rfl, hg', _⟩⟩ := r1
        · omega
        · exact .inr ⟨g', rfl, hg'⟩
  · have hc0 : cap = 0 := by omega
    subst hc0
    obtain rfl : n = 0 := by omega
    cases a with
    | none =>
      obtain ⟨v', w', hrun, r1, r2, _, r3⟩ := run_append_own_at (P := Tryz.prog) w w.heap.size 40 ty 9 i _ 1 16 Tryz.underlying40 hi hz0 hz1 hz2 rfl (by decide) (.slice none 0 0) 0 [] (World.ownsRow_nil _ _ _ _) ad 1 c [.string s] rfl hnews h1c hmx (by omega) (Nat.le_refl _)
      refine ⟨v', w', hrun, hown (xs := []) r1 (fun x hm => by simp at hm), r2, ?_⟩
      rcases r3 with e | e
      · exact .inl e
      · exact .inr ⟨_, e, Nat.le_refl _⟩
    | some b =>
      obtain ⟨v', w', hrun, r1, r2⟩ := run_append_arg_grows (P := Tryz.prog) w 40 ty 9 i _ 1 16 Tryz.underlying40 hi hz0 hz1 hz2 rfl (by decide) b 0 0 [] rfl (fun j u hu => by simp at hu) ad 1 c [.string s] rfl hnews (by omega) hmx (by omega)
      refine ⟨v', w', hrun, hown (xs := []) r1 (fun x hm => by simp at hm), ⟨r2.os, r2.tape, r2.output, r2.size, fun k hk _ => r2.block k hk (by simp)⟩, ?_⟩
      obtain ⟨_, ⟨_, e⟩ | ⟨g', cap', cur, rfl, hg', _⟩⟩ := r1
      · omega
      · exact .inr ⟨g', rfl, hg'⟩
theorem wpList_append_way {ops : Array Oper} {rest : List Oper} {o : Oper} {a : Act} {Q : Exit → Act → World → Prop} (w : World) (hgd : o.guard = none) (s x : Operand)
    (ho : o.op = .call { callee := .builtin .append, args := #[s, x], argTypes := #[40, 40] }) (v : Value) (n M : Nat) (hs : a.eval s = v) (hw : Way w v n M) (ad : Addr) (c : Nat) (t : ByteArray) (hx : a.eval x = .slice (some ad) 1 c) (hc : w.cell? ad = some (.string t)) (htM : t.size ≤ M) (hn : n ≤ 100)
    (h : ∀ v' w', Way w' v' (n + 1) M → w.grownBy w' v.ownBlock → (v'.ownBlock = v.ownBlock ∨ ∃ g, v'.ownBlock = some g ∧ w.heap.size ≤ g) → wpList Tryz.prog ops Q rest (a.put o.dst v') w') :
    wpList Tryz.prog ops Q (o :: rest) a w := by
  refine wpList_plain hgd fun K hK => ?_
  obtain ⟨v', w', hr, h2, h3, h5⟩ := run_append_way w o.type v n M hw ad c t hc htM hn
  unfold Oper.wp execOp
  simp only [ho, resolve, invoke, builtin, Sem.run_bind, Sem.run_pure, Result.andThen_ok, List.map_toArray, List.map_cons, List.map_nil, hs, hx, hr]
  exact hK _ _ (h v' w' h2 h3 h5)
end Go.Proofs.YthokdbcpkmcieaaGreat
namespace Go.Proofs.YthokdbcpkmcieaaGreat
open Go Go.RowKit
attribute [local go_sem ↓] Go.wp_at_zero Go.wp_at_succ
/-- What taken leaves. -/
def Taken (w w' : World) (v v' : Value) (n M : Nat) : Prop := (∃ n', n' ≤ n ∧ Way w' v' n' M) ∧ (∀ g, v'.ownBlock = some g → v.ownBlock = some g ∨ (w.heap.size ≤ g ∧ g < w'.heap.size)) ∧ Below w.heap.size w w'
theorem mem_two {α : Type} {xs : List α} {q Q : Nat} {x : α} (h : x ∈ xs.take q ++ xs.drop Q) : x ∈ xs := by
  rw [List.mem_append] at h
  rcases h with h | h
  · exact List.mem_of_mem_take h
  · exact List.mem_of_mem_drop h
theorem taken_below {w w1 w2 : World} {e : TypeId} {v : Value} {n : Nat} {xs : List Value} (hb : Below w.heap.size w w1) (ho : w1.ownsRow w.heap.size e 1 v n xs) (hg : w1.drew.grownBy w2 v.ownBlock) : Below w.heap.size w w2 :=
  ⟨hg.os.trans hb.os, hg.tape.trans hb.tape, hg.output.trans hb.output, Nat.le_trans hb.size hg.size, fun k hk => (hg.block k (Nat.lt_of_lt_of_le hk hb.size) (fun e => by have := (ho.lt k e.symm).1; omega)).trans (hb.block k hk)⟩
set_option maxRecDepth 100000 in
set_option maxHeartbeats 4000000 in
theorem taken_any (v : Value) (n M : Nat) (k : Int) (b : Bool) (w : World) (hw : Way w v n M) (hn : n ≤ 100) (hk1 : -9223372036854775808 ≤ k) (hk2 : k ≤ 9223372036854775807) :
    Calls Tryz.prog 34 #[v, .int .i64 k, .bool b] w fun e w' => ∃ s v', e = .returned (.tuple #[.string s, v']) ∧ s.size ≤ M ∧ Taken w w' v v' n M := by
  by_cases h0 : 0 < n
  · obtain ⟨g, off, cap, xs, rfl, hnc, hcm, hg, hxl, hx, hsp⟩ := hw.list h0
    have HPK := hideIt (fun w' => lpick_any k n hk1 hk2 h0 (by omega) w')
    have hn0 : ¬ (n : Int) = 0 := by omega
    have HX := hideIt hx
    have HW := hideIt hw
    clear hx hw hsp
    obtain ⟨i0, hi, hz0, hz1, hz2⟩ := info_of Tryz.infoStr2
    go_enter Tryz.func34, Tryz.ntmps34
    go_wp2_with fail
    refine (HPK.out _).mono ?_
    rintro e w1 ⟨q, hq, rfl, rfl⟩
    have hql : q < xs.length := by omega
    obtain ⟨hc, t, ht, hxt⟩ := HX.out q hql
    rw [hxt] at hc
    have hqi : (q : Int) < (n : Int) := by omega
    have hq0 : (0 : Int) ≤ (q : Int) := by omega
    have HXL := hideIt hxl
    have HQL := hideIt hql
    have HG := hideIt hg
    have hni : (n : Int) ≤ (cap : Int) := by omega
    have hcapi : (cap : Int) ≤ 9223372036854775807 := by unfold maxLen at hcm; omega
    have hqc : (q : Int) ≤ (cap : Int) := by omega
    clear hxt hxl hql hg
    cases b
    · have hnews : ∀ j u, (xs.take q)[j]? = some u → w1.cell? ((⟨g, off, none⟩ : Addr).add j) = some u := fun j u hu => by
        rw [List.getElem?_take] at hu
        split at hu
        · obtain ⟨hj, e⟩ := List.getElem?_eq_some_iff.1 hu
          rw [Addr.add_lit, (HX.out j hj).1, e]
        · cases hu
      have hstr : ∀ x ∈ xs, x.oneCell' = true := fun x hm => by
        obtain ⟨j, hj, e⟩ := List.getElem_of_mem hm
        obtain ⟨_, s, _, e2⟩ := HX.out j hj
        rw [← e, e2]
        rfl
      have HSS : Hid (∀ x ∈ xs, ∃ s : ByteArray, s.size ≤ M ∧ x = .string s) := fun x hm => by
        obtain ⟨j, hj, e⟩ := List.getElem_of_mem hm
        rw [← e]
        exact (HX.out j hj).2
      have HN := hideIt hnews
      have HST := hideIt hstr
      clear hnews hstr
      go_wp2_with (at_builtin; refine wpList_append_own_at _ rfl _ _ 40 rfl w1.heap.size 9 i0 _ 1 16 Tryz.underlying40 hi hz0 hz1 hz2 rfl (by decide) (.slice none 0 0) 0 [] rfl (World.ownsRow_nil _ _ _ _) ⟨g, off, none⟩ q cap (xs.take q) rfl (by have := HQL.out; rw [List.length_take]; omega) HN.out (fun x hm => HST.out x (List.mem_of_mem_take hm)) (by unfold maxLen; omega) (by omega) (Nat.le_refl _) ?_; intro v' wn hown hgr _ hloc; obtain ⟨a', n', c', rfl⟩ := slice_ofR hown)
      simp only [Nat.zero_add, List.nil_append] at hown
      have hgl := HG.out
      have hBn : Below w1.heap.size w1 wn := ⟨hgr.os, hgr.tape, hgr.output, hgr.size, fun j hj => hgr.block j hj (by simp [Value.ownBlock])⟩
      have c1 := (World.cell?_of_block (a := ⟨g, off + q, none⟩) (hBn.block g hgl)).trans hc
      obtain ⟨Q, hQ⟩ : ∃ Q, q + 1 = Q := ⟨_, rfl⟩
      have hQi : (q : Int) + 1 = (Q : Int) := by omega
      have hQn : (Q : Int) ≤ (n : Int) := by omega
      have hqQ : (q : Int) < (Q : Int) := by omega
      have hQ0 : (0 : Int) ≤ (Q : Int) := by omega
      have hwQ : IntKind.i64.wrap (Q : Int) = (Q : Int) := by rw [IntKind.wrap_i64]; omega
      have hnews2 : ∀ (W : World), (∀ j, j < w1.heap.size → W.heap[j]? = w1.heap[j]?) → ∀ j u, (xs.drop Q)[j]? = some u → W.cell? ((⟨g, off + Q, none⟩ : Addr).add j) = some u := fun W hWb j u hu => by
        rw [List.getElem?_drop] at hu
        obtain ⟨hj, e⟩ := List.getElem?_eq_some_iff.1 hu
        rw [Addr.add_lit, World.cell?_of_block (a := ⟨g, off + Q + j, none⟩) (hWb g hgl), Nat.add_assoc, (HX.out (Q + j) hj).1, e]
      have HN2 := hideIt hnews2
      have HO := hideIt hown
      have HB := hideIt hBn
      have HQ := hideIt hQ
      have hdl : (xs.drop Q).length = (n - Q) * 1 := by have := HXL.out; rw [List.length_drop]; omega
      have HDL := hideIt hdl
      clear hnews2 hown hgr hloc hBn hQ hdl
      by_cases hcq : cap = Q
      · have hnq : n = Q := by omega
        have hcl : xs.drop Q = [] := List.drop_eq_nil_of_le (by have := HXL.out; omega)
        have HCL := hideIt hcl
        clear hcl
        go_region_law (refine step_append_own rfl (.tmp 31) (.tmp 35) 40 rfl w1.heap.size 9 i0 _ 1 16 Tryz.underlying40 hi hz0 hz1 hz2 rfl (by decide) (.slice a' n' c') q (xs.take q) (by simp [Act.eval, Act.put]) (by exact HO.out) ⟨g, off, none⟩ 0 0 [] (by simp [Act.eval, Act.put]) rfl (by intro j u hu; simp at hu) (by intro x hm; simp at hm) (by unfold maxLen; omega) (by omega) (by exact HB.out.size) ?_; intro v2 wm hown2 hgr2 hloc2; obtain ⟨a2, n2, c2, rfl⟩ := slice_ofR hown2; have d2 := (World.cell?_of_block (a := ⟨g, off + q, none⟩) (hgr2.block g (Nat.lt_of_lt_of_le hgl HB.out.size) (fun e => by have := (HO.out.lt g e.symm).1; omega))).trans c1; have HO2 := hideIt (And.intro hown2 (And.intro hgr2 hloc2)); clear hown2 hgr2 hloc2)
        all_goals
          go_wp2
          go_ret2
          refine ⟨t, _, rfl, ht, ⟨_, ?_, way_of_row HO2.out.1 (fun x hm => HSS.out x (by simpa using List.mem_of_mem_take (by simpa using hm)))⟩, fun k hk => .inr (HO2.out.1.lt k hk), taken_below HB.out HO.out HO2.out.2.1⟩
          omega
      · have hoQ : ¬ off + Q = off := by omega
        go_region_law (refine step_append_own rfl (.tmp 31) (.tmp 35) 40 rfl w1.heap.size 9 i0 _ 1 16 Tryz.underlying40 hi hz0 hz1 hz2 rfl (by decide) (.slice a' n' c') q (xs.take q) (by simp [Act.eval, Act.put]) (by exact HO.out) ⟨g, off + Q, none⟩ (n - Q) (cap - Q) (xs.drop Q) (by simp [Act.eval, Act.put]) HDL.out (by exact HN2.out _ (fun j hj => HB.out.block j hj)) (fun x hm => HST.out x (List.mem_of_mem_drop hm)) (by unfold maxLen; omega) (by omega) (by exact HB.out.size) ?_; intro v2 wm hown2 hgr2 hloc2; obtain ⟨a2, n2, c2, rfl⟩ := slice_ofR hown2; have d2 := (World.cell?_of_block (a := ⟨g, off + q, none⟩) (hgr2.block g (Nat.lt_of_lt_of_le hgl HB.out.size) (fun e => by have := (HO.out.lt g e.symm).1; omega))).trans c1; have HO2 := hideIt (And.intro hown2 (And.intro hgr2 hloc2)); clear hown2 hgr2 hloc2)
        all_goals
          go_wp2
          go_ret2
          refine ⟨t, _, rfl, ht, ⟨_, ?_, way_of_row HO2.out.1 (fun x hm => HSS.out x (mem_two hm))⟩, fun k hk => .inr (HO2.out.1.lt k hk), taken_below HB.out HO.out HO2.out.2.1⟩
          omega
    · go_wp2
      go_ret2
      exact ⟨t, _, rfl, ht, ⟨n, Nat.le_refl _, HW.out⟩, fun g hg => .inl hg, Below.refl _ _⟩
  · obtain ⟨a, cap, rfl, _⟩ := hw.is
    obtain rfl : n = 0 := by omega
    clear hw
    go_enter Tryz.func34, Tryz.ntmps34
    go_wp2
    go_ret2
    exact ⟨⟨#[]⟩, _, rfl, Nat.zero_le _, ⟨0, Nat.le_refl _, Way.nil _ _⟩, fun g hg => by simp [Value.ownBlock] at hg, Below.refl _ _⟩
set_option maxRecDepth 100000 in
set_option maxHeartbeats 4000000 in
theorem spoilt_any (s : ByteArray) (k c : Int) (w : World) (hk1 : -9223372036854775808 ≤ k) (hk2 : k ≤ 9223372036854775807) (hs : s.size ≤ 4000000) :
    Calls Tryz.prog 36 #[.string s, .int .i64 k, .int .i64 c] w fun e w' => ∃ t : ByteArray, e = .returned (.string t) ∧ t.size = s.size ∧ Below w.heap.size w w' := by
  by_cases h0 : s.size = 0
  · have he : s = ⟨#[]⟩ := by
      obtain ⟨d⟩ := s
      have : d.size = 0 := h0
      rw [Array.size_eq_zero_iff] at this
      rw [this]
    subst he
    go_enter Tryz.func36, Tryz.ntmps36
    go_wp2
    go_ret
    exact ⟨_, rfl, rfl, Below.refl _ _⟩
  · have hne : ¬ s = ⟨#[]⟩ := fun e => h0 (by rw [e]; rfl)
    have hemp : s.toList.isEmpty = false := by
      rw [ByteArray.toList_eq]
      cases h : s.data.toList with
      | nil => exact absurd (by rw [← ByteArray.size_data, ← Array.length_toList, h]; rfl) h0
      | cons a b => rfl
    have HPK := hideIt (fun w' => lpick_any k s.size hk1 hk2 (by omega) hs w')
    go_enter Tryz.func36, Tryz.ntmps36
    go_wp2_with fail
    refine (HPK.out _).mono ?_
    rintro e w1 ⟨q, hq, rfl, rfl⟩
    obtain ⟨y, hy, hy2⟩ : ∃ y : UInt8, IntKind.u8.wrap c = (y.toNat : Int) ∧ y.toNat ≤ 255 := by
      refine ⟨UInt8.ofNat (c % 256).toNat, ?_, by have := (UInt8.ofNat (c % 256).toNat).toNat_lt; omega⟩
      rw [IntKind.wrap_u8, UInt8.toNat_ofNat']
      omega
    have hqi : (q : Int) < (s.size : Int) := by omega
    have hsz : (s.size : Int) ≤ 4000000 := by omega
    obtain ⟨Q, hQ⟩ : ∃ Q, q + 1 = Q := ⟨_, rfl⟩
    have hQi : (q : Int) + 1 = (Q : Int) := by omega
    have hQn : (Q : Int) ≤ (s.size : Int) := by omega
    have hwQ : IntKind.i64.wrap (Q : Int) = (Q : Int) := by rw [IntKind.wrap_i64]; omega
    obtain ⟨A, hA⟩ : ∃ A, s.extract 0 q = A := ⟨_, rfl⟩
    obtain ⟨B, hB⟩ : ∃ B, s.extract Q s.size = B := ⟨_, rfl⟩
    have hAs : A.size = q := by rw [← hA, ByteArray.size_extract]; omega
    have hBs : B.size = s.size - Q := by rw [← hB, ByteArray.size_extract]; omega
    obtain ⟨x, hx⟩ : ∃ x : UInt8, s[q] = x := ⟨_, rfl⟩
    have hxor : bits .xor .u8 (x.toNat : Int) (y.toNat : Int) = ((x ^^^ y).toNat : Int) := by rw [UInt8.toNat_xor]; exact xor_u8 _ _ x.toNat_lt y.toNat_lt
    obtain ⟨z, hz⟩ : ∃ z, x ^^^ y = z := ⟨_, rfl⟩
    rw [hz] at hxor
    obtain ⟨W2, hW2⟩ : ∃ W2, w1.alloc (.cells #[.int .u8 (z.toNat : Int)] 5) = W2 := ⟨_, rfl⟩
    have hcv : (convert 24 9 (.slice (some ⟨w1.heap.size, 0, none⟩) 1 1)).run Tryz.prog W2.drew = .ok (.string (txt [z])) W2.drew := by
      have := conv_row (l := [z]) (n := 1) rfl (own_new w1 w1.heap.size (Nat.le_refl _) [z] (by simp) (by simp)).drew
      have hv : (byteVs [z]).toArray = #[.int .u8 (z.toNat : Int)] := by simp [byteVs]
      rw [hv, hW2] at this
      exact this
    have hB2 : Below w1.heap.size w1 W2 := by rw [← hW2]; exact (Below.refl _ _).alloc (Nat.le_refl _) _
    obtain ⟨Z, hZ⟩ : ∃ Z, txt [z] = Z := ⟨_, rfl⟩
    have hZs : Z.size = 1 := by rw [← hZ]; rfl
    rw [hZ] at hcv
    have HB2 := hideIt hB2
    have hqs : q ≤ s.size := by omega
    have HSZ := hideIt hQ
    clear hB2 hZ hz hQ
    go_wp2_with fail
    go_region
    all_goals
      go_wp2
      go_ret
      refine ⟨_, rfl, ?_, HB2.out.drew⟩
      rw [ByteArray.size_append, ByteArray.size_append, hAs, hBs, hZs]
      have := HSZ.out
      omega
end Go.Proofs.YthokdbcpkmcieaaGreat
