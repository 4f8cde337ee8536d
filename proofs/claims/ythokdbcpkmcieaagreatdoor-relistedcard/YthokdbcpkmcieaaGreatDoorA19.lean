/- The book: the rows' parts and instructions. The book: what its maps hold behind each row. The book in the making. The walk of find: the first row that fits the code. -/
import Derived.Test.YthokdbcpkmcieaaGreatDoorA18
import Derived.Test.YthokdbcpkmcieaaGreatDoorA17
import Derived.WalkSpells
import Derived.WalkLawsBesides
namespace Go.Proofs.YthokdbcpkmcieaaGreatDoor
open Go Go.RowKit Go.Shelf Go.WideMaps Go.Maps
/-- A row's operands, as they are made. -/
def opsOf (r : Nat × Nat × List UInt8) : List Opn := (rowOps r.2.2).map fun p => ⟨(kindI p).toNat, p, bits BinOp.and IntKind.u8 r.1 r.2.1, 0, 0⟩
def rowGood (r : Nat × Nat × List UInt8) : Bool :=
  decide (r.2.2.length < 1000) && (decide ((Lib.cut r.2.2 [32]).1 = rowNm r.2.2) && (((Lib.cut r.2.2 [32]).2.2 || decide ((Lib.cut r.2.2 [32]).2.1 = [])) && (decide ((Lib.cut r.2.2 [32]).2.1.length < 1000) && ((rowOps r.2.2).all (fun p => decide (p.size ≤ 1000) && (decide (0 ≤ kindI p) && decide (kindI p < 17))) && (decide ((rowOps r.2.2).length ≤ 3) && (decide (3 - ((readTo (opsOf r) ⟨#[0, 0]⟩ false (opsOf r).length).2.1.size : Int) = (sizeK (rowKd r.2.2) : Int)) && ((Lib.cut r.2.2 [32]).2.2 == !(rowOps r.2.2).isEmpty)))))))
set_option maxRecDepth 100000 in
theorem rows_good : rowsL.all rowGood = true := by decide +kernel
structure RowGood (r : Nat × Nat × List UInt8) : Prop where
  len : r.2.2.length < 1000
  nm : (Lib.cut r.2.2 [32]).1 = rowNm r.2.2
  ls0 : (Lib.cut r.2.2 [32]).2.2 = false → (Lib.cut r.2.2 [32]).2.1 = []
  ls : (Lib.cut r.2.2 [32]).2.1.length < 1000
  ps : ∀ p ∈ rowOps r.2.2, p.size ≤ 1000 ∧ 0 ≤ kindI p ∧ kindI p < 17
  few : (rowOps r.2.2).length ≤ 3
  size : 3 - ((readTo (opsOf r) ⟨#[0, 0]⟩ false (opsOf r).length).2.1.size : Int) = (sizeK (rowKd r.2.2) : Int)
  fl : (Lib.cut r.2.2 [32]).2.2 = !(rowOps r.2.2).isEmpty
theorem row_good {r : Nat × Nat × List UInt8} (h : r ∈ rowsL) : RowGood r := by
  have := List.all_eq_true.1 rows_good r h
  unfold rowGood at this
  simp only [Bool.and_eq_true, decide_eq_true_eq, Bool.or_eq_true, List.all_eq_true, beq_iff_eq] at this
  obtain ⟨a1, a2, a3, a4, a5, a6, a7, a8⟩ := this
  exact ⟨a1, a2, fun e => a3.elim (fun a3 => by rw [e] at a3; cases a3) id, a4, a5, a6, a7, a8⟩
theorem opsOf_cells {r : Nat × Nat × List UInt8} (h : RowGood r) : (rowOps r.2.2).flatMap (opCells (bits BinOp.and IntKind.u8 r.1 r.2.1)) = allCells (opsOf r) := by
  have key : ∀ l : List ByteArray, (∀ p ∈ l, 0 ≤ kindI p) → l.flatMap (opCells (bits BinOp.and IntKind.u8 r.1 r.2.1)) = allCells (l.map fun p => ⟨(kindI p).toNat, p, bits BinOp.and IntKind.u8 r.1 r.2.1, 0, 0⟩) := by
    intro l
    induction l with
    | nil => intro _; rfl
    | cons p l ih =>
      intro hl
      have hp := hl p (by simp)
      have e := ih (fun q hq => hl q (by simp [hq]))
      simp only [allCells, List.map_cons, List.flatMap_cons] at e ⊢
      rw [e]
      simp [opCells, Opn.cells, Int.toNat_of_nonneg hp]
  exact key _ (fun p hp => (h.ps p hp).2.1)
theorem opsOf_kinds (r : Nat × Nat × List UInt8) : (opsOf r).map (·.kind) = rowKd r.2.2 := by simp [opsOf, rowKd]
theorem parts_row (r : Nat × Nat × List UInt8) (hr : RowGood r) (m : Int) (kb : Nat) (w : World) (hown : w.ownsMap Tryz.prog 9 (plainElem Tryz.prog 111) kb 17 kindsD) (hm : w.cell? ⟨0, 0, none⟩ = some (.int .i64 m)) (h0 : 0 < w.heap.size) :
    Calls Tryz.prog 58 #[.agg #[.int .u8 r.1, .int .u8 r.2.1, .string ⟨r.2.2.toArray⟩], .int .u8 r.1, .map (some kb)] w fun e w' => ∃ v, e = .returned (.tuple #[.string ⟨(rowNm r.2.2).toArray⟩, v]) ∧ w'.ownsRow w.heap.size 114 5 v (opsOf r).length (allCells (opsOf r)) ∧ Below w.heap.size w w' := by
  have hs : (⟨r.2.2.toArray⟩ : ByteArray).size < 1000 := by simpa [ByteArray.size] using hr.len
  have hlen : (opsOf r).length = (rowOps r.2.2).length := by simp [opsOf]
  rw [hlen, ← opsOf_cells hr]
  cases hfl : (Lib.cut r.2.2 [32]).2.2 with
  | false =>
    have hcut : Lib.cut r.2.2 [32] = (rowNm r.2.2, [], false) := by
      have e1 := hr.nm
      have e2 := hr.ls0 hfl
      revert e1 e2 hfl
      generalize Lib.cut r.2.2 [32] = t
      obtain ⟨x, y, z⟩ := t
      rintro hfl e1 e2
      simp only at hfl e1 e2
      rw [e1, e2, hfl]
    have he : rowOps r.2.2 = [] := by
      have := hr.fl
      rw [hfl] at this
      cases h : rowOps r.2.2 with
      | nil => rfl
      | cons a b => rw [h] at this; cases this
    refine (parts_none r.1 r.2.1 r.1 m ⟨r.2.2.toArray⟩ ⟨(rowNm r.2.2).toArray⟩ kb w hs hm h0 hcut).mono fun e w' ⟨h1, h2⟩ => ⟨_, h1, ?_, h2⟩
    rw [he]
    exact World.ownsRow_nil _ _ _ _
  | true =>
    obtain ⟨ls, hls⟩ : ∃ ls, (Lib.cut r.2.2 [32]).2.1 = ls := ⟨_, rfl⟩
    have hcut : Lib.cut r.2.2 [32] = (rowNm r.2.2, ls, true) := by
      have e1 := hr.nm
      revert e1 hls hfl
      generalize Lib.cut r.2.2 [32] = t
      obtain ⟨x, y, z⟩ := t
      rintro hfl e2 e1
      simp only at hfl e1 e2
      rw [e1, e2, hfl]
    have hps : pieces ⟨ls.toArray⟩ = rowOps r.2.2 := by
      unfold rowOps
      rw [hcut]
    have hl2 : (⟨ls.toArray⟩ : ByteArray).size < 1000 := by have := hr.ls; rw [hls] at this; simpa [ByteArray.size] using this
    exact parts_some r.1 r.2.1 r.1 m ⟨r.2.2.toArray⟩ ⟨(rowNm r.2.2).toArray⟩ ⟨ls.toArray⟩ (rowOps r.2.2) _ kb w hown hs hl2 hm h0 hcut hps rfl (by have := hr.few; omega) (fun t ht => (hr.ps t ht).1)
theorem newIns_row (r : Nat × Nat × List UInt8) (hr : RowGood r) (base : Nat) (v : Value) (w : World) (hrow : w.ownsRow base 114 5 v (opsOf r).length (allCells (opsOf r))) :
    Calls Tryz.prog 200 #[.int .u8 r.1, v] w fun e w' => ∃ kv, e = .returned (insV r.1 kv (sizeK (rowKd r.2.2) : Nat)) ∧ w'.ownsRow w.heap.size 111 1 kv (rowKd r.2.2).length (kindCells (rowKd r.2.2)) ∧ w.grownBy w' v.ownBlock := by
  have hlen : (opsOf r).length = (rowKd r.2.2).length := by rw [← opsOf_kinds, List.length_map]
  have hr2 := hrow
  obtain ⟨_, ⟨rfl, e2⟩ | ⟨g, cap, cur, rfl, _⟩⟩ := hrow
  · have he : opsOf r = [] := List.eq_nil_of_length_eq_zero e2
    have hz := hr.size
    rw [he] at hz
    have hz1 : (sizeK (rowKd r.2.2) : Int) = 1 := by rw [← hz]; rfl
    refine (newIns_nil r.1 w).mono fun e w' ⟨h1, h2⟩ => ⟨.slice none 0 0, by rw [h1, hz1], ?_, ⟨h2.os, h2.tape, h2.output, h2.size, fun k hk _ => h2.block k hk⟩⟩
    have hk0 : rowKd r.2.2 = [] := by rw [← opsOf_kinds, he]; rfl
    rw [hk0]
    exact World.ownsRow_nil _ _ _ _
  · have hn : (opsOf r).length ≤ 3 := by have := hr.few; simpa [opsOf] using this
    refine (newIns_some r.1 (opsOf r) base g cap _ w rfl (by omega) hr2 (fun k hk => ?_)).mono fun e w' ⟨kv, h1, h2, h3⟩ => ⟨kv, by rw [h1, hr.size], ?_, h3⟩
    · rw [List.getD_eq_getElem?_getD, List.getElem?_eq_getElem hk]
      have hm : (opsOf r)[k] ∈ opsOf r := List.getElem_mem hk
      show ((opsOf r)[k]).kind < 17
      obtain ⟨p, hp, e⟩ := List.mem_map.1 hm
      rw [← e]
      have := hr.ps p hp
      show (kindI p).toNat < 17
      omega
    · rw [hlen, opsOf_kinds] at h2
      exact h2
end Go.Proofs.YthokdbcpkmcieaaGreatDoor
namespace Go.Proofs.YthokdbcpkmcieaaGreatDoor
open Go Go.RowKit Go.Shelf Go.WideMaps Go.Maps
/-- How many of the first k rows have that name. -/
def cntK (k : Nat) (l : List UInt8) : Nat := ((rowsL.take k).filter fun r => rowNm r.2.2 == l).length
def cntO (k : Nat) (l : List UInt8) : Option Value := if cntK k l = 0 then none else some (.int .i64 (cntK k l : Int))
theorem cntK_le (k : Nat) (l : List UInt8) : cntK k l ≤ k := by
  unfold cntK
  have h1 := List.length_filter_le (fun r : Nat × Nat × List UInt8 => rowNm r.2.2 == l) (rowsL.take k)
  have h2 := List.length_take_le k rowsL
  omega
theorem cntK_step (k : Nat) (h : k < rowsL.length) (l : List UInt8) : cntK (k + 1) l = cntK k l + (if rowNm (rowsL[k]).2.2 = l then 1 else 0) := by
  unfold cntK
  rw [List.take_add_one, List.getElem?_eq_getElem h, List.filter_append, List.length_append]
  congr 1
  by_cases e : rowNm (rowsL[k]).2.2 = l
  · simp [e]
  · simp [e]
theorem cnt_look (k : Nat) (l : List UInt8) : lookV false (.int .i64 0) (cntO k l) = .int .i64 (cntK k l : Int) := by
  unfold cntO
  by_cases e : cntK k l = 0
  · rw [if_pos e, e]; rfl
  · rw [if_neg e]; rfl
theorem cnt_put (k : Nat) (h : k < rowsL.length) (l' : List UInt8) : putF (cntO k) (rowNm (rowsL[k]).2.2) (.int .i64 ((cntK k (rowNm (rowsL[k]).2.2) : Int) + 1)) l' = cntO (k + 1) l' := by
  unfold putF
  by_cases e : l' = rowNm (rowsL[k]).2.2
  · subst e
    rw [if_pos rfl]
    unfold cntO
    rw [cntK_step k h, if_pos rfl, if_neg (by omega)]
    rfl
  · have e3 : cntK (k + 1) l' = cntK k l' := by
      rw [cntK_step k h, if_neg (fun e2 => e e2.symm), Nat.add_zero]
    rw [if_neg e]
    unfold cntO
    rw [e3]
theorem cnt_end (l : List UInt8) : (hasN l = false ∧ cntO rowsL.length l = none) ∨ (hasN l = true ∧ ∃ c : Int, 0 < c ∧ cntO rowsL.length l = some (.int .i64 c)) := by
  unfold cntO cntK hasN
  rw [List.take_length]
  by_cases e : ((rowsL.filter fun r => rowNm r.2.2 == l).length = 0)
  · left
    refine ⟨?_, if_pos e⟩
    have := List.eq_nil_of_length_eq_zero e
    rw [List.filter_eq_nil_iff] at this
    rw [List.any_eq_false]
    exact this
  · right
    refine ⟨?_, _, ?_, if_neg e⟩
    · cases ha : rowsL.any fun r => rowNm r.2.2 == l with
      | true => rfl
      | false =>
        rw [List.any_eq_false] at ha
        exact absurd (by rw [List.filter_eq_nil_iff.2 ha]; rfl) e
    · omega
/-- The instruction that is meant, of the first k rows. -/
def insK (k : Nat) (s : List UInt8) (ks : List Nat) : Option InsD := ((rowsL.take k).reverse.find? (meant s ks)).map insR
theorem insK_step (k : Nat) (h : k < rowsL.length) (s : List UInt8) (ks : List Nat) : insK (k + 1) s ks = if meant s ks rowsL[k] = true then some (insR rowsL[k]) else insK k s ks := by
  unfold insK
  rw [List.take_add_one, List.getElem?_eq_getElem h]
  simp only [Option.toList_some, List.reverse_append, List.reverse_cons, List.reverse_nil, List.nil_append, List.cons_append, List.find?_cons]
  cases meant s ks rowsL[k] with
  | true => rfl
  | false => rfl
theorem insK_end (s : List UInt8) (ks : List Nat) : insK rowsL.length s ks = insO s ks := by
  unfold insK insO
  rw [List.take_length]
theorem entKof_of {s : ByteArray} {ks ks' : List Nat} (h : ks.map lkN = ks'.map lkN) : entKof s ks = entKof s ks' := by
  have hl : ks.length = ks'.length := by have := congrArg List.length h; simpa using this
  have hi : ∀ i : Nat, (match ks[i]? with | some k => ((lkN k : Nat) : Int) | none => 0) = (match ks'[i]? with | some k => ((lkN k : Nat) : Int) | none => 0) := fun i => by
    have := congrArg (·[i]?) h
    simp only [List.getElem?_map] at this
    cases h1 : ks[i]? with
    | none => cases h2 : ks'[i]? with
      | none => rfl
      | some b => rw [h1, h2] at this; cases this
    | some a => cases h2 : ks'[i]? with
      | none => rw [h1, h2] at this; cases this
      | some b => rw [h1, h2] at this; simp at this; simp [this]
  unfold entKof
  rw [hl]
  exact congr (congr (congrArg (entK s _) (hi 0)) (hi 1)) (hi 2)
theorem entKof_inj {s s' : ByteArray} {ks ks' : List Nat} (hs : s.size ≤ 1000000) (hs' : s'.size ≤ 1000000) (hk : ks.length ≤ 3) (hk' : ks'.length ≤ 3) (h1 : ∀ k ∈ ks, k ≤ 100) (h2 : ∀ k ∈ ks', k ≤ 100) (h : entKof s ks = entKof s' ks') : s = s' ∧ ks.map lkN = ks'.map lkN := by
  have e := entLaw.inj (entOf_key s ks hs hk h1) (by rw [h]; exact entOf_key s' ks' hs' hk' h2)
  unfold entOf entV at e
  simp only [Value.agg.injEq, Array.mk.injEq, List.cons.injEq, Value.string.injEq, Value.int.injEq, true_and, and_true] at e
  obtain ⟨e0, e1, e2, e3, e4⟩ := e
  have hl : ks.length = ks'.length := by omega
  refine ⟨e0, List.ext_getElem (by simpa using hl) (fun i p q => ?_)⟩
  simp only [List.length_map] at p q
  simp only [List.getElem_map]
  have hi : i = 0 ∨ i = 1 ∨ i = 2 := by omega
  rcases hi with rfl | rfl | rfl
  · rw [List.getElem?_eq_getElem p, List.getElem?_eq_getElem q] at e2
    exact Int.ofNat.inj e2
  · rw [List.getElem?_eq_getElem p, List.getElem?_eq_getElem q] at e3
    exact Int.ofNat.inj e3
  · rw [List.getElem?_eq_getElem p, List.getElem?_eq_getElem q] at e4
    exact Int.ofNat.inj e4
end Go.Proofs.YthokdbcpkmcieaaGreatDoor
namespace Go.Proofs.YthokdbcpkmcieaaGreatDoor
open Go Go.RowKit Go.Shelf Go.WideMaps Go.Maps
theorem MapAt.at1B {P : Program} {k : TypeId} {w w' : World} {b n : Nat} {f : List UInt8 → Option Value} (h : MapAt P k w b n f) (he : w'.heap[b]? = w.heap[b]?) : MapAt P k w' b n f := by
  obtain ⟨D, ⟨es, clock, h1, h2⟩, h3⟩ := h
  exact ⟨D, ⟨es, clock, he.trans h1, h2⟩, h3⟩
theorem own_keepB {w w' : World} {base e size n : Nat} {v : Value} {xs : List Value} (h : w.ownsRow base e size v n xs) (hb : ∀ j, v.ownBlock = some j → w'.heap[j]? = w.heap[j]?) : w'.ownsRow base e size v n xs := by
  obtain ⟨hl, ⟨e1, e2⟩ | ⟨g, cap, cur, e1, hg, hh, r⟩⟩ := h
  · exact ⟨hl, .inl ⟨e1, e2⟩⟩
  · exact ⟨hl, .inr ⟨g, cap, cur, e1, hg, (hb g (by rw [e1]; rfl)).trans hh, r⟩⟩
/-- What the map of instructions holds behind k rows. -/
def InsK (wr : World) (rb k : Nat) (f : List UInt8 → Option Value) : Prop := ∀ (s : ByteArray) (ks : List Nat), s.size ≤ 1000000 → ks.length ≤ 3 → (∀ k ∈ ks, k ≤ 100) →
  match insK k s.data.toList ks with
  | none => f (entKof s ks) = none
  | some d => ∃ v, f (entKof s ks) = some (insV d.code v d.size) ∧ wr.ownsRow 0 111 1 v d.kinds.length (kindCells d.kinds) ∧ ∀ j, v.ownBlock = some j → rb < j
theorem InsK.keep {wr w' : World} {rb k : Nat} {f : List UInt8 → Option Value} (h : InsK wr rb k f) (hb : ∀ j, rb < j → j < wr.heap.size → w'.heap[j]? = wr.heap[j]?) : InsK w' rb k f := by
  intro s ks h1 h2 h3
  have := h s ks h1 h2 h3
  split at this
  · exact this
  · obtain ⟨v, q1, q2, q3⟩ := this
    exact ⟨v, q1, own_keepB q2 (fun j hj => hb j (q3 j hj) (q2.lt j hj).2), q3⟩
theorem insK_start (wr : World) (rb : Nat) : InsK wr rb 0 (fun _ => none) := fun _ _ _ _ _ => rfl
theorem rowKd_le {r : Nat × Nat × List UInt8} (h : RowGood r) : (rowKd r.2.2).length ≤ 3 ∧ ∀ k ∈ rowKd r.2.2, k ≤ 100 := by
  refine ⟨by have := h.few; simpa [rowKd] using this, fun k hk => ?_⟩
  obtain ⟨p, hp, e⟩ := List.mem_map.1 hk
  have := h.ps p hp
  omega
theorem rowNm_le {r : Nat × Nat × List UInt8} (h : RowGood r) : (⟨(rowNm r.2.2).toArray⟩ : ByteArray).size ≤ 1000 := by
  have h1 : (rowNm r.2.2).length ≤ r.2.2.length := (List.takeWhile_sublist _).length_le
  have h2 := h.len
  show (rowNm r.2.2).toArray.size ≤ 1000
  rw [List.size_toArray]
  omega
/-- One row more. -/
theorem InsK.put {wr : World} {rb k : Nat} {f : List UInt8 → Option Value} (h : InsK wr rb k f) (hk : k < rowsL.length) (kv : Value) (hkv : wr.ownsRow 0 111 1 kv (rowKd (rowsL[k]).2.2).length (kindCells (rowKd (rowsL[k]).2.2))) (hrb : ∀ j, kv.ownBlock = some j → rb < j) :
    InsK wr rb (k + 1) (putF f (entKof ⟨(rowNm (rowsL[k]).2.2).toArray⟩ (rowKd (rowsL[k]).2.2)) (insV (rowsL[k]).1 kv (sizeK (rowKd (rowsL[k]).2.2) : Nat))) := by
  have hg := row_good (List.getElem_mem hk)
  obtain ⟨g1, g2⟩ := rowKd_le hg
  have g3 := rowNm_le hg
  intro s ks h1 h2 h3
  rw [insK_step k hk]
  have hold := h s ks h1 h2 h3
  unfold putF
  by_cases hm : meant s.data.toList ks rowsL[k] = true
  · rw [if_pos hm]
    unfold meant at hm
    simp only [Bool.and_eq_true, beq_iff_eq] at hm
    have hs : s = ⟨(rowNm (rowsL[k]).2.2).toArray⟩ := by
      rw [hm.1]
    have he : entKof s ks = entKof ⟨(rowNm (rowsL[k]).2.2).toArray⟩ (rowKd (rowsL[k]).2.2) := by
      rw [← hs]
      exact entKof_of hm.2.symm
    refine ⟨kv, ?_, hkv, hrb⟩
    rw [if_pos he]
    rfl
  · rw [if_neg hm]
    have hne : ¬ entKof s ks = entKof ⟨(rowNm (rowsL[k]).2.2).toArray⟩ (rowKd (rowsL[k]).2.2) := fun e => by
      obtain ⟨a, b⟩ := entKof_inj h1 (by omega) h2 g1 h3 g2 e
      refine hm ?_
      unfold meant
      rw [a]
      simp [b]
    rw [if_neg hne]
    exact hold
/-- The book in the making: behind kc rows counted, ki rows laid in. -/
structure NB (w wr : World) (fb bb kb rb kc ki : Nat) : Prop where
  hd : wr.heap[w.heap.size]? = some (.cells #[.map none, .map none, .map none] 246 (0, 0))
  bk : wr.heap[bb]? = some (.cells #[.map (some (w.heap.size + 1)), .map (some (w.heap.size + 2)), .map (some fb)] 246 (0, 0))
  cn : ∃ n, n ≤ kc ∧ MapAt Tryz.prog 9 wr (w.heap.size + 1) n (cntO kc)
  ins : ∃ n f, n ≤ ki ∧ MapAt Tryz.prog 292 wr (w.heap.size + 2) n f ∧ InsK wr rb ki f
  fx : ∃ n, MapAt Tryz.prog 9 wr fb n (fun l => (fixO l).map fixV)
  km : wr.ownsMap Tryz.prog 9 (plainElem (H := Unit) Tryz.prog 111) kb 17 kindsD
  rws : wr.heap[rb]? = some (.cells rowCells.toArray 101 (0, 0))
  below : Below w.heap.size w wr
  d : w.heap.size + 2 < fb ∧ fb < bb ∧ bb < kb ∧ kb < rb ∧ rb < wr.heap.size
theorem NB.upd {w wr w' : World} {fb bb kb rb kc ki kc' ki' : Nat} (h : NB w wr fb bb kb rb kc ki) (ho : w'.os = wr.os ∧ w'.tape = wr.tape ∧ w'.output = wr.output) (hz : wr.heap.size ≤ w'.heap.size)
    (hk : ∀ j, j < wr.heap.size → j ≠ w.heap.size + 1 → j ≠ w.heap.size + 2 → w'.heap[j]? = wr.heap[j]?) (cn' : ∃ n, n ≤ kc' ∧ MapAt Tryz.prog 9 w' (w.heap.size + 1) n (cntO kc')) (ins' : ∃ n f, n ≤ ki' ∧ MapAt Tryz.prog 292 w' (w.heap.size + 2) n f ∧ InsK w' rb ki' f) : NB w w' fb bb kb rb kc' ki' := by
  obtain ⟨d1, d2, d3, d4, d5⟩ := h.d
  obtain ⟨n, hf⟩ := h.fx
  refine ⟨(hk _ (by omega) (by omega) (by omega)).trans h.hd, (hk _ (by omega) (by omega) (by omega)).trans h.bk, cn', ins', ⟨n, hf.at1B (hk _ (by omega) (by omega) (by omega))⟩, ?_, (hk _ (by omega) (by omega) (by omega)).trans h.rws, ?_, ⟨d1, d2, d3, d4, by omega⟩⟩
  · obtain ⟨es, clock, h1, h2⟩ := h.km
    exact ⟨es, clock, (hk _ (by omega) (by omega) (by omega)).trans h1, h2⟩
  · exact ⟨ho.1.trans h.below.os, ho.2.1.trans h.below.tape, ho.2.2.trans h.below.output, Nat.le_trans h.below.size hz, fun k hk' => (hk k (by omega) (by omega) (by omega)).trans (h.below.block k hk')⟩
theorem NB.grow {w wr w' : World} {fb bb kb rb kc ki : Nat} (h : NB w wr fb bb kb rb kc ki) (hb : Below wr.heap.size wr w') : NB w w' fb bb kb rb kc ki := by
  obtain ⟨d1, d2, d3, d4, d5⟩ := h.d
  obtain ⟨n, hn, hc⟩ := h.cn
  obtain ⟨n2, f, hn2, hi, hK⟩ := h.ins
  exact h.upd ⟨hb.os, hb.tape, hb.output⟩ hb.size (fun j hj _ _ => hb.block j hj) ⟨n, hn, hc.at1B (hb.block _ (by omega))⟩ ⟨n2, f, hn2, hi.at1B (hb.block _ (by omega)), hK.keep (fun j _ hj => hb.block j hj)⟩
theorem NB.count {w wr w' : World} {fb bb kb rb kc ki : Nat} (h : NB w wr fb bb kb rb kc ki) (hg : wr.grownBy w' (some (w.heap.size + 1))) (cn' : ∃ n, n ≤ kc + 1 ∧ MapAt Tryz.prog 9 w' (w.heap.size + 1) n (cntO (kc + 1))) : NB w w' fb bb kb rb (kc + 1) ki := by
  obtain ⟨d1, d2, d3, d4, d5⟩ := h.d
  obtain ⟨n2, f, hn2, hi, hK⟩ := h.ins
  have key : ∀ j, j < wr.heap.size → j ≠ w.heap.size + 1 → w'.heap[j]? = wr.heap[j]? := fun j hj hne => hg.block j hj (fun e => hne (Option.some.inj e))
  exact h.upd ⟨hg.os, hg.tape, hg.output⟩ hg.size (fun j hj h1 _ => key j hj h1) cn' ⟨n2, f, hn2, hi.at1B (key _ (by omega) (by omega)), hK.keep (fun j h1 hj => key j hj (by omega))⟩
theorem NB.lay {w wr w' : World} {fb bb kb rb kc ki : Nat} (h : NB w wr fb bb kb rb kc ki) (hg : wr.grownBy w' (some (w.heap.size + 2))) (ins' : ∃ n f, n ≤ ki + 1 ∧ MapAt Tryz.prog 292 w' (w.heap.size + 2) n f ∧ InsK w' rb (ki + 1) f) : NB w w' fb bb kb rb kc (ki + 1) := by
  obtain ⟨d1, d2, d3, d4, d5⟩ := h.d
  obtain ⟨n, hn, hc⟩ := h.cn
  have key : ∀ j, j < wr.heap.size → j ≠ w.heap.size + 2 → w'.heap[j]? = wr.heap[j]? := fun j hj hne => hg.block j hj (fun e => hne (Option.some.inj e))
  exact h.upd ⟨hg.os, hg.tape, hg.output⟩ hg.size (fun j hj _ h2 => key j hj h2) ⟨n, hn, hc.at1B (key _ (by omega) (by omega))⟩ ins'
end Go.Proofs.YthokdbcpkmcieaaGreatDoor
namespace Go.Proofs.YthokdbcpkmcieaaGreatDoor
open Go.RowKit
def rowAt (k : Nat) : Nat × Nat × List UInt8 := rowsL.getD k (0, 0, [])
def hit (c : Int) (k : Nat) : Bool := bits BinOp.andNot IntKind.u8 c (rowAt k).2.1 == ((rowAt k).1 : Int)
set_option maxRecDepth 100000 in
theorem rowCells_at (k : Nat) (h : k < 111) : rowCells.toArray[3 * k]? = some (.int .u8 (rowAt k).1) ∧ rowCells.toArray[3 * k + 1]? = some (.int .u8 (rowAt k).2.1) ∧ rowCells.toArray[3 * k + 2]? = some (.string ⟨(rowAt k).2.2.toArray⟩) := by
  have key : ∀ (l : List (Nat × Nat × List UInt8)) (k : Nat), k < l.length → ∃ r, l[k]? = some r ∧ (l.flatMap fun r => [Value.int .u8 r.1, .int .u8 r.2.1, .string ⟨r.2.2.toArray⟩])[3 * k]? = some (.int .u8 r.1) ∧
      (l.flatMap fun r => [Value.int .u8 r.1, .int .u8 r.2.1, .string ⟨r.2.2.toArray⟩])[3 * k + 1]? = some (.int .u8 r.2.1) ∧
      (l.flatMap fun r => [Value.int .u8 r.1, .int .u8 r.2.1, .string ⟨r.2.2.toArray⟩])[3 * k + 2]? = some (.string ⟨r.2.2.toArray⟩) := by
    intro l
    induction l with
    | nil => intro k h; simp at h
    | cons x l ih =>
      intro k h
      cases k with
      | zero => exact ⟨x, by simp⟩
      | succ k =>
        obtain ⟨r, h0, h1, h2, h3⟩ := ih k (by simpa using h)
        refine ⟨r, by simpa using h0, ?_, ?_, ?_⟩
        · rw [show 3 * (k + 1) = 3 * k + 1 + 1 + 1 by omega]; simpa using h1
        · rw [show 3 * (k + 1) + 1 = 3 * k + 1 + 1 + 1 + 1 by omega]; simpa using h2
        · rw [show 3 * (k + 1) + 2 = 3 * k + 2 + 1 + 1 + 1 by omega]; simpa using h3
  obtain ⟨r, h0, h1, h2, h3⟩ := key rowsL k (by have : rowsL.length = 111 := by decide +kernel
                                                omega)
  have e : rowAt k = r := by unfold rowAt; rw [List.getD_eq_getElem?_getD, h0]; rfl
  rw [e]
  simp only [List.getElem?_toArray]
  exact ⟨h1, h2, h3⟩
set_option maxRecDepth 100000 in
set_option maxHeartbeats 1000000 in
theorem find_any (c : Int) (w : World) :
    Calls Tryz.prog 57 #[.int .u8 c] w fun e w' => (∃ k, k < 111 ∧ hit c k = true ∧ (∀ j, j < k → hit c j = false) ∧ e = .returned (.tuple #[.agg #[.int .u8 (rowAt k).1, .int .u8 (rowAt k).2.1, .string ⟨(rowAt k).2.2.toArray⟩], .bool true]) ∧ Below w.heap.size w w') ∨ ((∀ j, j < 111 → hit c j = false) ∧ e = .returned (.tuple #[.agg #[.int .u8 0, .int .u8 0, .string ⟨#[]⟩], .bool false]) ∧ Below w.heap.size w w') := by
  go_enter Tryz.func57, Tryz.ntmps57
  go_wp2_with (go_at_call 99; refine (rows_any _).mono ?_; rintro e w1 ⟨rfl, rfl⟩)
  go_loopw [8] (fun i wr => ∃ k : Nat, k ≤ 111 ∧ i = .int .i64 k ∧ (∀ j, j < k → hit c j = false) ∧ Below (w.heap.size + 2) ((w.alloc (.cells #[.int .u8 0, .int .u8 0, .string ⟨#[]⟩] 101)).alloc (.cells rowCells.toArray 101)) wr) (fun i _ => 111 - (intOf i).toNat)
  case atStart => exact ⟨0, by omega, rfl, fun j h => by omega, Below.refl _ _⟩
  case round =>
    obtain ⟨k, hk, rfl, hno, hb⟩ := hrel
    by_cases hlt : k < 111
    · have cc := rowCells_at k hlt
      have c0 : wr.cell? ⟨w.heap.size + 1, k * 3, none⟩ = some (.int .u8 (rowAt k).1) := by rw [hb.cell (by simp)]; simp [World.cell?_alloc_at, Nat.mul_comm k 3, cc.1]
      have c1 : wr.cell? ⟨w.heap.size + 1, k * 3 + 1, none⟩ = some (.int .u8 (rowAt k).2.1) := by rw [hb.cell (by simp)]; simp [World.cell?_alloc_at, Nat.mul_comm k 3, cc.2.1]
      have c2 : wr.cell? ⟨w.heap.size + 1, k * 3 + 2, none⟩ = some (.string ⟨(rowAt k).2.2.toArray⟩) := by rw [hb.cell (by simp)]; simp [World.cell?_alloc_at, Nat.mul_comm k 3, cc.2.2]
      have r0 : wr.cell? ⟨w.heap.size, 0, none⟩ = some (.int .u8 0) := by rw [hb.cell (by simp)]; simp
      have r1 : wr.cell? ⟨w.heap.size, 1, none⟩ = some (.int .u8 0) := by rw [hb.cell (by simp)]; simp
      have r2 : wr.cell? ⟨w.heap.size, 2, none⟩ = some (.string ⟨#[]⟩) := by rw [hb.cell (by simp)]; simp
      have f0 : wr.frozen? ⟨w.heap.size, 0, none⟩ = false := by rw [hb.frozen (by simp)]; simp
      have f1 : wr.frozen? ⟨w.heap.size, 1, none⟩ = false := by rw [hb.frozen (by simp)]; simp
      have f2 : wr.frozen? ⟨w.heap.size, 2, none⟩ = false := by rw [hb.frozen (by simp)]; simp
      have hz : w.heap.size + 2 ≤ wr.heap.size := by have := hb.size; simpa using this
      have hz0 : w.heap.size < wr.heap.size := by omega
      have hz1 : w.heap.size + 1 < wr.heap.size := by omega
      clear cc
      by_cases hh : hit c k = true
      · have ht : (bits BinOp.andNot IntKind.u8 c ((rowAt k).2.1 : Int) == ((rowAt k).1 : Int)) = true := hh
        obtain ⟨r, hr⟩ : ∃ r, rowAt k = r := ⟨_, rfl⟩
        rw [hr] at c0 c1 c2 ht
        have HR : Hid (rowAt k = r) := hr
        clear hr
        go_wp2
        refine bodyPost_ret (v := .tuple #[.agg #[.int .u8 r.1, .int .u8 r.2.1, .string ⟨r.2.2.toArray⟩], .bool true]) (by simp [results, Tryz.results57, go_sem, hz0, r0, r1, r2]) rfl (.inl ⟨k, hlt, hh, hno, by rw [HR.out], ?_⟩)
        have hb0 : Below w.heap.size w wr := (((Below.refl w.heap.size w).alloc (Nat.le_refl _) _).alloc (by simp) _).trans (hb.mono (by omega))
        repeat (first | exact hb0 | refine Below.alloc ?_ (by simp; omega) _ | refine Below.setCell ?_ (by simp) _)
      · have ht : (bits BinOp.andNot IntKind.u8 c ((rowAt k).2.1 : Int) == ((rowAt k).1 : Int)) = false := by simpa [hit] using hh
        generalize rowAt k = r at *
        go_wp2
        go_roundw
        case rel => exact ⟨k + 1, by omega, by go_num, fun j hj => by
          rcases Nat.lt_or_ge j k with h | h
          · exact hno j h
          · have : j = k := by omega
            subst this; simpa using hh, hb.alloc (by omega) _⟩
        case measure => simp [intOf]; omega
    · have r0 : wr.cell? ⟨w.heap.size, 0, none⟩ = some (.int .u8 0) := by rw [hb.cell (by simp)]; simp
      have r1 : wr.cell? ⟨w.heap.size, 1, none⟩ = some (.int .u8 0) := by rw [hb.cell (by simp)]; simp
      have r2 : wr.cell? ⟨w.heap.size, 2, none⟩ = some (.string ⟨#[]⟩) := by rw [hb.cell (by simp)]; simp
      have f0 : wr.frozen? ⟨w.heap.size, 0, none⟩ = false := by rw [hb.frozen (by simp)]; simp
      have f1 : wr.frozen? ⟨w.heap.size, 1, none⟩ = false := by rw [hb.frozen (by simp)]; simp
      have f2 : wr.frozen? ⟨w.heap.size, 2, none⟩ = false := by rw [hb.frozen (by simp)]; simp
      have hz0 : w.heap.size < wr.heap.size := by have := hb.size; simp at this; omega
      go_wp2
      refine bodyPost_ret (v := .tuple #[.agg #[.int .u8 0, .int .u8 0, .string ⟨#[]⟩], .bool false]) (by simp [results, Tryz.results57, go_sem, r0, r1, r2]) rfl (.inr ⟨fun j hj => hno j (by omega), rfl, ?_⟩)
      have hb0 : Below w.heap.size w wr := (((Below.refl w.heap.size w).alloc (Nat.le_refl _) _).alloc (by simp) _).trans (hb.mono (by omega))
      repeat (first | exact hb0 | refine Below.alloc ?_ (by simp; omega) _ | refine Below.setCell ?_ (by simp) _)
end Go.Proofs.YthokdbcpkmcieaaGreatDoor
