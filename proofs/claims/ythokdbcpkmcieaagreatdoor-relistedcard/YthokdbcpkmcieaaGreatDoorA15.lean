/- readTask, whatever stands there. The walk of the parser's parse: a line's statement. -/
import Derived.Test.YthokdbcpkmcieaaGreatDoorA14
import Derived.Test.YthokdbcpkmcieaaGreatDoorShelf
namespace Go.Proofs.YthokdbcpkmcieaaGreatDoor
open Go Go.RowKit Go.Maps Go.WideMaps
theorem readTask_any (w : World) (B pb sb : Nat) (b : Bk) (line : Int) (ts : List Tok) (h : PS w B pb b line ts) (hb : BookAt w b) (hI : InsAt w b pb) (hib : b.ib < pb) (ha : Apart B pb b) (hn : ts.length ≤ 1000000) (l0 p0 : Int) (lb : ByteArray)
    (hS : SS w sb l0 p0 lb (0 : Nat) ⟨#[]⟩ (.slice none 0 0) 0 (.slice none 0 0) 0) (hne : sb ≠ pb) (hB : B ≤ sb) :
    Calls Tryz.prog 166 #[.pointer (some ⟨pb, 0, none⟩), .pointer (some ⟨sb, 0, none⟩)] w (TEnd w B pb sb b line l0 p0 lb (pTask ts)) := by
  obtain ⟨t, l, rfl⟩ := h.ne
  by_cases hk : t.kind = 0
  · exact readTask_end w B pb sb b line t l h hb hI hib ha hn l0 p0 lb hS hne hB hk
  by_cases hk1 : t.kind = 1
  · cases hh : hasN t.text.data.toList with
    | true => exact readTask_ins w B pb sb b line t l h hb hI hib ha hn l0 p0 lb hS hne hB hk1 hh
    | false =>
      have hl := last_kind h.last hk
      obtain ⟨u, l2, rfl⟩ : ∃ u l2, l = u :: l2 := by
        cases l with
        | nil => exact absurd rfl hl
        | cons u l2 => exact ⟨u, l2, rfl⟩
      have equ : dirO t.text.data.toList = none ∨ dirO t.text.data.toList = some 5 → Calls Tryz.prog 166 #[.pointer (some ⟨pb, 0, none⟩), .pointer (some ⟨sb, 0, none⟩)] w (TEnd w B pb sb b line l0 p0 lb (pEqu t.text (u :: l2))) := by
        intro htk
        cases hok : okName t.text.data.toList with
        | false =>
          have e : pEqu t.text (u :: l2) = none := by simp only [pEqu]; rw [if_neg (by simp [hok])]
          rw [e]
          exact readTask_equ_bad w B pb sb b line t (u :: l2) h hb hI hib ha hn l0 p0 lb hS hne hB hk1 hh htk hok
        | true =>
          by_cases hu : u.kind = 1
          · have e : pEqu t.text (u :: l2) = if dirO u.text.data.toList = some 5 then (pVals 5 l2).map fun x => (⟨5, t.text, x.1, ins0⟩, x.2) else none := by
              simp only [pEqu]
              by_cases hd : dirO u.text.data.toList = some 5
              · rw [if_pos ⟨hok, hu, hd⟩, if_pos hd]
              · rw [if_neg (fun h => hd h.2.2), if_neg hd]
            rw [e]
            exact readTask_equ_word w B pb sb b line t u l2 h hb hI hib ha hn l0 p0 lb hS hne hB hk1 hh htk hok hu
          · have e : pEqu t.text (u :: l2) = none := by simp only [pEqu]; rw [if_neg (fun h => hu h.2.1)]
            rw [e]
            exact readTask_equ_noword w B pb sb b line t u l2 h hb hI hib ha hn l0 p0 lb hS hne hB hk1 hh htk hok hu
      cases hd : dirO t.text.data.toList with
      | none =>
        have e : pTask (t :: u :: l2) = pEqu t.text (u :: l2) := by simp only [pTask]; rw [if_neg hk, if_neg (by simp [hk1]), if_neg (by simp [hh]), hd]
        rw [e]
        exact equ (.inl hd)
      | some tk =>
        by_cases h5 : tk = 5
        · subst h5
          have e : pTask (t :: u :: l2) = pEqu t.text (u :: l2) := by simp only [pTask]; rw [if_neg hk, if_neg (by simp [hk1]), if_neg (by simp [hh]), hd]; simp
          rw [e]
          exact equ (.inr hd)
        · exact readTask_dir w B pb sb b line t (u :: l2) h hb hI hib ha hn l0 p0 lb hS hne hB hk1 hh tk hd h5
  · exact readTask_noword w B pb sb b line t l h hb hI hib ha hn l0 p0 lb hS hne hB hk hk1
theorem scanF_tok : ∀ (f : Nat) (r : ByteArray) (ts : List Tok), scanF f r = some ts → ∀ t ∈ ts, t.kind ≠ 0 ∧ t.text.size ≤ r.size
  | 0, r, ts, h, t, ht => by simp [scanF] at h; subst h; cases ht
  | f + 1, r, ts, h, t, ht => by
    unfold scanF at h
    by_cases hp : 0 < r.size
    · rw [dif_pos hp] at h
      obtain ⟨o, ho, h2⟩ := Option.bind_eq_some_iff.1 h
      obtain ⟨ts', h3, rfl⟩ := Option.map_eq_some_iff.1 h2
      rcases List.mem_append.1 ht with h4 | h4
      · have hsz : (pieceT r).size ≤ r.size := by unfold pieceT; rw [ByteArray.size_extract]; omega
        unfold pieceK at ho
        split at ho
        · cases ho; cases h4
        · split at ho
          · obtain ⟨v, _, rfl⟩ := Option.map_eq_some_iff.1 ho
            simp [optL] at h4
            subst h4
            exact ⟨by simp, hsz⟩
          · split at ho
            · cases ho
              simp [optL] at h4
              subst h4
              exact ⟨by simp, hsz⟩
            · cases ho
              simp [optL] at h4
              subst h4
              exact ⟨by simp, hsz⟩
      · have h5 := scanF_tok f (pieceR r) ts' h3 t h4
        have h6 := pieceR_size r hp
        exact ⟨h5.1, by omega⟩
    · rw [dif_neg hp] at h
      cases h
      cases ht
theorem scanF_len : ∀ (f : Nat) (r : ByteArray) (ts : List Tok), scanF f r = some ts → ts.length ≤ f
  | 0, r, ts, h => by simp [scanF] at h; subst h; simp
  | f + 1, r, ts, h => by
    unfold scanF at h
    by_cases hp : 0 < r.size
    · rw [dif_pos hp] at h
      obtain ⟨o, ho, h2⟩ := Option.bind_eq_some_iff.1 h
      obtain ⟨ts', h3, rfl⟩ := Option.map_eq_some_iff.1 h2
      have := scanF_len f (pieceR r) ts' h3
      cases o <;> simp [optL] <;> omega
    · rw [dif_neg hp] at h
      cases h
      simp
end Go.Proofs.YthokdbcpkmcieaaGreatDoor
namespace Go.Proofs.YthokdbcpkmcieaaGreatDoor
open Go Go.RowKit Go.Maps Go.WideMaps
/-- A line, as far as it counts. -/
def bodyOf (s : ByteArray) : ByteArray := ⟨(Lib.cut s.data.toList [59]).1.toArray⟩
def lineEnd : List Tok → Bool
  | u :: _ => decide (u.kind = 0)
  | [] => false
/-- A line's label and what it asks for. -/
def parseT (ts : List Tok) : Option (ByteArray × Stm) := (pLabel (ts ++ [endT])).bind fun x => (pTask x.2).bind fun y => if lineEnd y.2 = true then some (x.1, y.1) else none
def parseL (s : ByteArray) : Option (ByteArray × Stm) := (scanF (bodyOf s).size (capS (bodyOf s))).bind parseT
/-- The parser between two lines. -/
structure P0 (w : World) (pb : Nat) (b : Bk) : Prop where
  c0 : w.cell? ⟨pb, 0, none⟩ = some (.map (some b.cb))
  c1 : w.cell? ⟨pb, 1, none⟩ = some (.map (some b.ib))
  c2 : w.cell? ⟨pb, 2, none⟩ = some (.map (some b.fb))
  c3 : w.cell? ⟨pb, 3, none⟩ = some (.map (some b.db))
  c4 : ∃ n : Int, w.cell? ⟨pb, 4, none⟩ = some (.int .i64 n)
  c5 : ∃ (a : Option Addr) (n c : Nat), w.cell? ⟨pb, 5, none⟩ = some (.slice a n c)
  f4 : w.frozen? ⟨pb, 4, none⟩ = false
  f5 : w.frozen? ⟨pb, 5, none⟩ = false
  lt : pb < w.heap.size
theorem tokCells_len (l : List Tok) : (tokCells l).length = l.length * 3 := by
  induction l with
  | nil => rfl
  | cons x l ih => simp only [tokCells, List.flatMap_cons, List.length_append, List.length_cons] at ih ⊢; rw [ih]; simp [Tok.cells]; omega
theorem TokAt.of_row {w : World} {base g cap : Nat} : ∀ (ts pre : List Tok) (n : Nat), w.ownsRow base 296 3 (.slice (some ⟨g, 0, none⟩) n cap) n (tokCells (pre ++ ts)) → n = pre.length + ts.length → TokAt w g (pre.length * 3) ts
  | [], _, _, _, _ => trivial
  | t :: ts, pre, n, h, hn => by
    have hl := tokCells_len pre
    have hc : ∀ i, i < 3 → w.cell? ⟨g, pre.length * 3 + i, none⟩ = t.cells[i]? := by
      intro i hi
      rw [h.cellAt (pre.length * 3 + i) (by simp at hn; omega)]
      have e : tokCells (pre ++ t :: ts) = tokCells pre ++ (t.cells ++ tokCells ts) := by simp [tokCells]
      rw [e, List.getElem?_append_right (by omega), hl, Nat.add_sub_cancel_left, List.getElem?_append_left (by simp [Tok.cells]; omega)]
    refine ⟨hc 0 (by omega), hc 1 (by omega), hc 2 (by omega), ?_⟩
    have := TokAt.of_row ts (pre ++ [t]) n (by simpa using h) (by simp at hn ⊢; omega)
    rw [List.length_append, List.length_singleton, Nat.add_mul] at this
    exact this
set_option maxHeartbeats 400000 in
theorem giveUp_line (w : World) (pb : Nat) (line : Int) (c4 : w.cell? ⟨pb, 4, none⟩ = some (.int .i64 line)) :
    Calls Tryz.prog 164 #[.pointer (some ⟨pb, 0, none⟩)] w fun e w' => e = synE line ∧ w' = w := by
  go_enter Tryz.func164, Tryz.ntmps164
  go_wp2
  exact ⟨rfl, rfl, rfl⟩
theorem cut59 (s : ByteArray) (m : Int) (w : World) (hs : s.size < 1000000) (hm : w.cell? ⟨0, 0, none⟩ = some (.int .i64 m)) :
    Calls Tryz.prog 100 #[.string s, .string ⟨#[59]⟩] w fun e w' => ∃ (r : ByteArray) (z : Bool) (n : Nat), e = .returned (.tuple #[.string (bodyOf s), .string r, .bool z]) ∧ w' = w.drewN n := by
  refine (Tryz.strings_Cut s ⟨#[59]⟩ m w (by omega) hm).mono ?_
  rintro e w1 ⟨rfl, n, rfl⟩
  exact ⟨_, _, n, rfl, rfl⟩
theorem cut_len (l : List UInt8) : (Lib.cut l [59]).1.length ≤ l.length := by
  unfold Lib.cut
  split
  all_goals simp
  all_goals exact Nat.min_le_right _ _
/-- What parse comes to. -/
def LEnd (w : World) (pb : Nat) (b : Bk) (line : Int) (o : Option (ByteArray × Stm)) (e : Ending) (w' : World) : Prop :=
  match o with
  | none => e = synE line ∧ w.grownBy w' (some pb)
  | some (lb, x) => ∃ v kv, e = .returned (stV line 0 lb x.task x.name v x.ins.code kv x.ins.size) ∧ VAt w' w.heap.size v x.vals ∧ w'.ownsRow 0 111 1 kv x.ins.kinds.length (kindCells x.ins.kinds) ∧ (∀ j, kv.ownBlock = some j → j < pb) ∧ P0 w' pb b ∧ w.grownBy w' (some pb)
theorem pLabel_len {ts : List Tok} {lb : ByteArray} {l : List Tok} (h : pLabel ts = some (lb, l)) : l.length ≤ ts.length := by
  match ts with
  | [] => simp [pLabel] at h
  | [t] => simp [pLabel] at h; rw [← h.2]; exact Nat.le_refl _
  | t :: u :: ts =>
    simp only [pLabel] at h
    split at h
    · cases h; exact Nat.le_refl _
    · split at h
      · cases h; simp; omega
      · cases h
theorem pg_grown {w w6 w7 w8 : World} {pb : Nat} (h : w.grownBy w6 (some pb)) (h7 : Below w6.heap.size w6 w7) (h8 : Grow2 w7 w8 pb w6.heap.size) : w.grownBy w8 (some pb) := by
  have z6 := h.size
  have z7 := h7.size
  exact ⟨(h8.os.trans h7.os).trans h.os, (h8.tape.trans h7.tape).trans h.tape, (h8.output.trans h7.output).trans h.output, by have := h8.size; omega, fun k hk hne => by
    rw [h8.block k (by omega) (by simpa using hne) (by omega), h7.block k (by omega)]
    exact h.block k hk hne⟩
theorem set9_heap {w : World} {r k : Nat} (h : k ≠ r) (v0 v1 v2 v3 v4 v5 v6 v7 v8 : Value) : (((((((((w.setCell ⟨r, 0, none⟩ v0).setCell ⟨r, 1, none⟩ v1).setCell ⟨r, 2, none⟩ v2).setCell ⟨r, 3, none⟩ v3).setCell ⟨r, 4, none⟩ v4).setCell ⟨r, 5, none⟩ v5).setCell ⟨r, 6, none⟩ v6).setCell ⟨r, 7, none⟩ v7).setCell ⟨r, 8, none⟩ v8).heap[k]? = w.heap[k]? := by
  have e : ∀ (x : World) (j : Nat) (v : Value), (x.setCell ⟨r, j, none⟩ v).heap[k]? = x.heap[k]? := fun x j v => Below.heap_setCell _ _ _ _ (by simpa using h)
  rw [e, e, e, e, e, e, e, e, e]
abbrev Zst : Array Value := #[.int .i64 0, .int .i64 0, .string ⟨#[]⟩, .int .i64 0, .string ⟨#[]⟩, .slice none 0 0, .int .u8 0, .slice none 0 0, .int .i64 0]
set_option maxRecDepth 100000 in
set_option maxHeartbeats 4000000 in
theorem parse_any (w : World) (pb : Nat) (b : Bk) (s : ByteArray) (line m : Int) (h : P0 w pb b) (hb : BookAt w b) (hI : InsAt w b pb) (hl1 : b.cb < pb) (hl2 : b.fb < pb) (hl3 : b.db < pb) (hib : b.ib < pb) (hs : s.size ≤ 100000) (hm : w.cell? ⟨0, 0, none⟩ = some (.int .i64 m)) (_h0 : 0 < pb) :
    Calls Tryz.prog 105 #[.pointer (some ⟨pb, 0, none⟩), .string s, .int .i64 line] w (LEnd w pb b line (parseL s)) := by
  have hbs : (bodyOf s).size ≤ 100000 := by
    have := cut_len s.data.toList
    rw [Array.length_toList] at this
    show (Lib.cut s.data.toList [59]).1.toArray.size ≤ _
    rw [List.size_toArray]
    exact Nat.le_trans this hs
  obtain ⟨c0, c1, c2, c3, ⟨n4, c4⟩, ⟨a5, n5, k5, c5⟩, f4, f5, hlt⟩ := h
  obtain ⟨R, hR⟩ : ∃ R, parseL s = R := ⟨_, rfl⟩
  rw [hR]
  have HR := hideIt hR
  -- the world at the call of Cut
  have hb2 : Below (w.heap.size) (w.setCell ⟨pb, 4, none⟩ (.int .i64 line)) ((w.setCell ⟨pb, 4, none⟩ (.int .i64 line)).alloc (.cells Zst 130)) := (Below.refl _ _).alloc (by simp [World.setCell]) _
  have hg2 : w.grownBy ((w.setCell ⟨pb, 4, none⟩ (.int .i64 line)).alloc (.cells Zst 130)) (some pb) := grown_alloc (grown_set _ _ _ _) _
  have d0 : ((w.setCell ⟨pb, 4, none⟩ (.int .i64 line)).alloc (.cells Zst 130)).cell? ⟨pb, 0, none⟩ = some (.map (some b.cb)) := by rw [hb2.cell (by simpa using hlt), World.cell?_setCell_other _ _ _ _ (by simp)]; exact c0
  have d1 : ((w.setCell ⟨pb, 4, none⟩ (.int .i64 line)).alloc (.cells Zst 130)).cell? ⟨pb, 1, none⟩ = some (.map (some b.ib)) := by rw [hb2.cell (by simpa using hlt), World.cell?_setCell_other _ _ _ _ (by simp)]; exact c1
  have d2 : ((w.setCell ⟨pb, 4, none⟩ (.int .i64 line)).alloc (.cells Zst 130)).cell? ⟨pb, 2, none⟩ = some (.map (some b.fb)) := by rw [hb2.cell (by simpa using hlt), World.cell?_setCell_other _ _ _ _ (by simp)]; exact c2
  have d3 : ((w.setCell ⟨pb, 4, none⟩ (.int .i64 line)).alloc (.cells Zst 130)).cell? ⟨pb, 3, none⟩ = some (.map (some b.db)) := by rw [hb2.cell (by simpa using hlt), World.cell?_setCell_other _ _ _ _ (by simp)]; exact c3
  have d4 : ((w.setCell ⟨pb, 4, none⟩ (.int .i64 line)).alloc (.cells Zst 130)).cell? ⟨pb, 4, none⟩ = some (.int .i64 line) := by rw [hb2.cell (by simpa using hlt)]; exact World.cell?_setCell_same _ _ _ c4
  have d5 : ((w.setCell ⟨pb, 4, none⟩ (.int .i64 line)).alloc (.cells Zst 130)).cell? ⟨pb, 5, none⟩ = some (.slice a5 n5 k5) := by rw [hb2.cell (by simpa using hlt), World.cell?_setCell_other _ _ _ _ (by simp)]; exact c5
  have df : ((w.setCell ⟨pb, 4, none⟩ (.int .i64 line)).alloc (.cells Zst 130)).frozen? ⟨pb, 5, none⟩ = false := by rw [hb2.frozen (by simpa using hlt), World.frozen?_setCell]; exact f5
  have df4 : ((w.setCell ⟨pb, 4, none⟩ (.int .i64 line)).alloc (.cells Zst 130)).frozen? ⟨pb, 4, none⟩ = false := by rw [hb2.frozen (by simpa using hlt), World.frozen?_setCell]; exact f4
  have dm : ((w.setCell ⟨pb, 4, none⟩ (.int .i64 line)).alloc (.cells Zst 130)).cell? ⟨0, 0, none⟩ = some (.int .i64 m) := by rw [hb2.cell (by simp; omega), World.cell?_setCell_other _ _ _ _ (by simp)]; exact hm
  have hz2 : ((w.setCell ⟨pb, 4, none⟩ (.int .i64 line)).alloc (.cells Zst 130)).heap.size = w.heap.size + 1 := by simp [World.setCell]
  have dz : ((w.setCell ⟨pb, 4, none⟩ (.int .i64 line)).alloc (.cells Zst 130)).heap[w.heap.size]? = some (.cells Zst 130) := by
    have : w.heap.size = (w.setCell ⟨pb, 4, none⟩ (.int .i64 line)).heap.size := by simp [World.setCell]
    rw [this]
    exact heap_alloc_last _ _
  have hbk2 := hb.kept hg2 (by omega) (by omega) (by omega)
  have hI2 := hI.kept (B := pb + 1) (sb := w.heap.size) (Grow2.of1 hg2 w.heap.size) hib (by omega) (by omega)
  have HALL := hideIt (And.intro d0 (And.intro d1 (And.intro d2 (And.intro d3 (And.intro d4 (And.intro d5 (And.intro (And.intro df df4) (And.intro hz2 (And.intro dz (And.intro hbk2 (And.intro hI2 hg2)))))))))))
  have HC := hideIt (cut59 s m _ (by omega) dm)
  clear d0 d1 d2 d3 d4 d5 df df4 dm hz2 dz hbk2 hI2 hg2 hb2 f5 hb hI hm hR c0 c1 c2 c3
  go_enter Tryz.func105, Tryz.ntmps105
  go_wp2_with fail
  refine HC.out.mono ?_
  rintro e w3 ⟨r, z, nd, rfl, rfl⟩
  generalize (w.setCell ⟨pb, 4, none⟩ (.int .i64 line)).alloc (.cells Zst 130) = w2 at HALL ⊢
  obtain ⟨d0, d1, d2, d3, d4, d5, ⟨df, df4⟩, hz2, dz, hbk2, hI2, hg2⟩ := HALL.out
  have hbd : Below w2.heap.size w2 (w2.drewN nd) := below_drewN (Below.refl _ _) _
  cases hsc : scanF (bodyOf s).size (capS (bodyOf s)) with
  | none =>
    have HEN := hideIt (show R = none by rw [← HR.out]; unfold parseL; rw [hsc]; rfl)
    have hscn := scan_any (bodyOf s) (w2.drewN nd) (by omega)
    rw [hsc] at hscn
    have HSC := hideIt hscn
    clear hscn hsc
    go_wp2_with fail
    refine HSC.out.mono ?_
    rintro e w4 ⟨rfl, hb4⟩
    have hb4' : Below w2.heap.size w2 w4 := hbd.trans hb4
    have HG := hideIt (giveUp_line w4 pb line (by rw [hb4'.cell (by simp; omega)]; exact d4))
    go_wp2_with fail
    refine HG.out.mono ?_
    rintro e w5 ⟨rfl, rfl⟩
    unfold synE
    go_wp2_with fail
    rw [HEN.out]
    exact ⟨rfl, rfl, hg2.trans2 (grown_of_below hb4')⟩
  | some ts =>
    have HEN := hideIt (show R = parseT ts by rw [← HR.out]; unfold parseL; rw [hsc]; rfl)
    have hscn := scan_any (bodyOf s) (w2.drewN nd) (by omega)
    rw [hsc] at hscn
    have HSC := hideIt hscn
    have htk := scanF_tok _ _ _ hsc
    have htl := scanF_len _ _ _ hsc
    have hcs : (capS (bodyOf s)).size = (bodyOf s).size := by unfold capS; show ((bodyOf s).data.map capB).size = _; rw [Array.size_map]; rfl
    clear hscn hsc
    go_wp2_with fail
    refine HSC.out.mono ?_
    rintro e w4 ⟨g, cap, rfl, hrow4, hb4⟩
    have hb4' : Below w2.heap.size w2 w4 := hbd.trans hb4
    have hz4 := hb4'.size
    have e5 : w4.cell? ⟨pb, 5, none⟩ = some (.slice a5 n5 k5) := by rw [hb4'.cell (by simp; omega)]; exact d5
    have f5 : w4.frozen? ⟨pb, 5, none⟩ = false := by rw [hb4'.frozen (by simp; omega)]; exact df
    have f44 : w4.frozen? ⟨pb, 4, none⟩ = false := by rw [hb4'.frozen (by simp; omega)]; exact df4
    have hgl := hrow4.lt g rfl
    have hpz : pb < w4.heap.size := by omega
    obtain ⟨w5, hw5⟩ : ∃ w5, w4.setCell ⟨pb, 5, none⟩ (.slice (some ⟨g, 0, none⟩) (ts.length + 1) cap) = w5 := ⟨_, rfl⟩
    have hgn : g ≠ pb := by have := hgl.1; simp at this; omega
    have hs5 : ∀ k, k ≠ pb → w5.heap[k]? = w4.heap[k]? := fun k hk => by rw [← hw5]; exact Below.heap_setCell _ _ _ _ (by simpa using hk)
    have hz5 : w5.heap.size = w4.heap.size := by rw [← hw5]; simp [World.setCell]
    have hps : PS w5 w4.heap.size pb b line (ts ++ [endT]) := by
      obtain ⟨_, ⟨h', _⟩ | ⟨g', cap', cur, h', hg', hh', hle', hmx', _⟩⟩ := id hrow4
      · cases h'
      · cases h'
        refine ⟨?_, ?_, ?_, ?_, ?_, ?_, ?_, hpz, by omega, ⟨g, 0, cap, ?_, by simpa using hle', hmx', ?_, hgn, hgl.2⟩, by simp, fun t ht => ?_⟩
        · rw [← hw5, World.cell?_setCell_other _ _ _ _ (by simp), hb4'.cell (by simp; omega)]; exact d0
        · rw [← hw5, World.cell?_setCell_other _ _ _ _ (by simp), hb4'.cell (by simp; omega)]; exact d1
        · rw [← hw5, World.cell?_setCell_other _ _ _ _ (by simp), hb4'.cell (by simp; omega)]; exact d2
        · rw [← hw5, World.cell?_setCell_other _ _ _ _ (by simp), hb4'.cell (by simp; omega)]; exact d3
        · rw [← hw5, World.cell?_setCell_other _ _ _ _ (by simp), hb4'.cell (by simp; omega)]; exact d4
        · rw [← hw5, World.frozen?_setCell]; exact f5
        · rw [← hw5, World.frozen?_setCell]; exact f44
        · rw [← hw5, List.length_append]; exact World.cell?_setCell_same _ _ _ e5
        · have := TokAt.of_row (ts ++ [endT]) [] (ts.length + 1) hrow4 (by simp)
          exact this.kept (hs5 g hgn)
        · rcases List.mem_append.1 ht with h' | h'
          · have := (htk t h').2; omega
          · simp at h'; subst h'; show 0 ≤ 400000; omega
    have hgr5 : w2.grownBy w5 (some pb) := ⟨by rw [← hw5]; exact hb4'.os, by rw [← hw5]; exact hb4'.tape, by rw [← hw5]; exact hb4'.output, by omega, fun k hk hne => by rw [hs5 k (by simpa using hne)]; exact hb4'.block k hk⟩
    have hap : Apart w4.heap.size pb b := ⟨by omega, by omega, by omega, by omega, by omega, by omega⟩
    have hbk5 := hbk2.kept hgr5 (by omega) (by omega) (by omega)
    have hlab := label_any w5 w4.heap.size pb b line (ts ++ [endT]) hps hbk5 hap (fun t u l hh hk => by
      cases ts with
      | nil => simp at hh
      | cons t1 ts1 =>
        simp at hh
        have := (htk t1 (by simp)).1
        rw [hh.1] at this
        exact this hk)
    have hI5 := hI2.kept (B := pb + 1) (sb := w.heap.size) (Grow2.of1 hgr5 w.heap.size) hib (by omega) (by omega)
    have hdz5 : w5.heap[w.heap.size]? = some (.cells Zst 130) := by rw [hs5 _ (by omega), hb4'.block _ (by omega)]; exact dz
    have hg5 := hg2.trans2 hgr5
    have H5 := hideIt (And.intro hbk5 (And.intro hI5 (And.intro hdz5 hg5)))
    clear hbk5 hI5 hdz5 hg5 hgr5 hps hrow4 hb4 hbk2 hI2 d0 d1 d2 d3 d4 d5 df df4 dz hg2 htk HSC HC HALL
    cases hlb : pLabel (ts ++ [endT]) with
    | none =>
      have HE2 := hideIt (show R = none by rw [HEN.out]; unfold parseT; rw [hlb]; rfl)
      rw [hlb] at hlab
      have HL := hideIt hlab
      clear hlab hlb
      go_wp2_with fail
      refine HL.out.mono ?_
      rintro e w6 ⟨rfl, hg6⟩
      unfold synE
      go_wp2_with fail
      rw [HE2.out]
      exact ⟨rfl, rfl, H5.out.2.2.2.trans2 hg6⟩
    | some xl =>
      obtain ⟨lb, l⟩ := xl
      have HE2 := hideIt (show R = (pTask l).bind fun y => if lineEnd y.2 = true then some (lb, y.1) else none by rw [HEN.out]; unfold parseT; rw [hlb]; rfl)
      have hll : l.length ≤ ts.length + 1 := by have := pLabel_len hlb; simpa using this
      rw [hlb] at hlab
      have HL := hideIt hlab
      clear hlab hlb
      go_wp2_with fail
      refine HL.out.mono ?_
      rintro e w6 ⟨rfl, hp6, hg6⟩
      have hz6 := hg6.size
      have hb7 : Below w6.heap.size w6 (w6.alloc (.cells #[.int .i64 line, .int .i64 0, .string lb, .int .i64 0, .string ⟨#[]⟩, .slice none 0 0, .int .u8 0, .slice none 0 0, .int .i64 0] 130)) := (Below.refl _ _).alloc (Nat.le_refl _) _
      have hS7 : SS (w6.alloc (.cells #[.int .i64 line, .int .i64 0, .string lb, .int .i64 0, .string ⟨#[]⟩, .slice none 0 0, .int .u8 0, .slice none 0 0, .int .i64 0] 130)) w6.heap.size line 0 lb (0 : Nat) ⟨#[]⟩ (.slice none 0 0) 0 (.slice none 0 0) 0 := ⟨by simp, by simp, by simp, by simp, by simp, by simp, by simp, by simp, by simp, fun j => by simp, by simp⟩
      have hbk6 := H5.out.1.kept hg6 (by omega) (by omega) (by omega)
      have hI6 := H5.out.2.1.kept (B := pb + 1) (sb := w.heap.size) (Grow2.of1 hg6 w.heap.size) hib (by omega) (by omega)
      have hdz6 : w6.heap[w.heap.size]? = some (.cells Zst 130) := by rw [hg6.block _ (by omega) (by simp; omega)]; exact H5.out.2.2.1
      have hg06 := H5.out.2.2.2.trans2 hg6
      have hrt := readTask_any _ w4.heap.size pb w6.heap.size b line l (hp6.kept (hb7.mono (by omega))) (hbk6.below hb7) (hI6.kept (B := pb + 1) (sb := w6.heap.size) (Grow2.ofB hb7 pb w6.heap.size) hib (by omega) (by omega)) hib hap (by omega) line 0 lb hS7 (by omega) (by omega)
      have H6 := hideIt (And.intro hdz6 hg06)
      clear hbk6 hI6 hdz6 hg06 hp6 hS7 H5 HL
      cases hpt : pTask l with
      | none =>
        have HE3 := hideIt (show R = none by rw [HE2.out, hpt]; rfl)
        rw [hpt] at hrt
        have HT := hideIt hrt
        clear hrt hpt
        go_wp2_with fail
        refine HT.out.mono ?_
        rintro e w8 ⟨rfl, hg8⟩
        unfold synE
        go_wp2_with fail
        rw [HE3.out]
        exact ⟨rfl, rfl, pg_grown H6.out.2 hb7 hg8⟩
      | some yl =>
        obtain ⟨st, l2⟩ := yl
        have HE3 := hideIt (show R = if lineEnd l2 = true then some (lb, st) else none by rw [HE2.out, hpt]; rfl)
        rw [hpt] at hrt
        have HT := hideIt hrt
        clear hrt hpt
        go_wp2_with fail
        refine HT.out.mono ?_
        rintro e w8 ⟨v, kv, rfl, hV, hSS, hkr, hkb, hp8, hg8⟩
        obtain ⟨u, l3, rfl⟩ := hp8.ne
        have HA := hideIt (isAtEnd_any w8 w4.heap.size pb b line u l3 hp8)
        have HP8 := hideIt hp8
        have HGG := hideIt (pg_grown H6.out.2 hb7 hg8)
        by_cases hk : u.kind = 0
        · have HE4 := hideIt (show R = some (lb, st) by rw [HE3.out, if_pos (by simp [lineEnd, hk])])
          rw [show decide (u.kind = 0) = true by simp [hk]] at HA
          obtain ⟨va, vn, vc, rfl⟩ := hV.slice
          obtain ⟨ka, kn, kc, rfl⟩ := slice_of hkr
          have hz7 : w6.heap.size + 1 ≤ w8.heap.size := by have := hg8.size; simpa using this
          have hdz8 : w8.heap[w.heap.size]? = some (.cells Zst 130) := by rw [hg8.block _ (by simp; omega) (by omega) (by omega), hb7.block _ (by omega)]; exact H6.out.1
          have r0 : w8.cell? ⟨w.heap.size, 0, none⟩ = some (.int .i64 0) := by simp [World.cell?, hdz8]
          have r1 : w8.cell? ⟨w.heap.size, 1, none⟩ = some (.int .i64 0) := by simp [World.cell?, hdz8]
          have r2 : w8.cell? ⟨w.heap.size, 2, none⟩ = some (.string ⟨#[]⟩) := by simp [World.cell?, hdz8]
          have r3 : w8.cell? ⟨w.heap.size, 3, none⟩ = some (.int .i64 0) := by simp [World.cell?, hdz8]
          have r4 : w8.cell? ⟨w.heap.size, 4, none⟩ = some (.string ⟨#[]⟩) := by simp [World.cell?, hdz8]
          have r5 : w8.cell? ⟨w.heap.size, 5, none⟩ = some (.slice none 0 0) := by simp [World.cell?, hdz8]
          have r6 : w8.cell? ⟨w.heap.size, 6, none⟩ = some (.int .u8 0) := by simp [World.cell?, hdz8]
          have r7 : w8.cell? ⟨w.heap.size, 7, none⟩ = some (.slice none 0 0) := by simp [World.cell?, hdz8]
          have r8 : w8.cell? ⟨w.heap.size, 8, none⟩ = some (.int .i64 0) := by simp [World.cell?, hdz8]
          have rf : ∀ j, w8.frozen? ⟨w.heap.size, j, none⟩ = false := fun j => by simp [World.frozen?, hdz8]
          have g0 := rf 0
          have g1 := rf 1
          have g2 := rf 2
          have g3 := rf 3
          have g4 := rf 4
          have g5 := rf 5
          have g6 := rf 6
          have g7 := rf 7
          have g8 := rf 8
          have hrl : w.heap.size < w8.heap.size := by omega
          have HF := hideIt (And.intro hV (And.intro hkr hkb))
          obtain ⟨s0, s1, s2, s3, s4, s5, s6, s7, s8, sf, sl⟩ := hSS
          clear hV hkr hkb hp8 hg8 sf rf hdz8 hb7
          go_wp2_with fail
          refine HA.out.mono ?_
          rintro e w9 ⟨rfl, hw9⟩
          rw [hw9]
          clear hw9 w9
          go_wp2_with fail
          refine bodyPost_ret (v := stV line 0 lb st.task st.name (.slice va vn vc) st.ins.code (.slice ka kn kc) st.ins.size) (by simp [results, Tryz.results105, go_sem, stV, r0, r1, r2, r3, r4, r5, r6, r7, r8]) rfl ?_
          rw [HE4.out]
          have hps8 := HP8.out
          obtain ⟨gg, oo, cc, k1, _⟩ := hps8.tk
          have hrp : pb ≠ w.heap.size := by omega
          have hrb : w.heap.size < (w6.alloc (.cells #[.int .i64 line, .int .i64 0, .string lb, .int .i64 0, .string ⟨#[]⟩, .slice none 0 0, .int .u8 0, .slice none 0 0, .int .i64 0] 130)).heap.size := by simp; omega
          refine ⟨_, _, rfl, VAt.lower (((((((((HF.out.1.set hrb _).set hrb _).set hrb _).set hrb _).set hrb _).set hrb _).set hrb _).set hrb _).set hrb _) (by simp; omega), own_at HF.out.2.1 (fun j hj => ?_), HF.out.2.2, ⟨?_, ?_, ?_, ?_, ⟨line, ?_⟩, ⟨some ⟨gg, oo, none⟩, (u :: l3).length, cc, ?_⟩, (World.frozen?_of_block (a := ⟨pb, 4, none⟩) (set9_heap hrp _ _ _ _ _ _ _ _ _)).trans hps8.f4, (World.frozen?_of_block (a := ⟨pb, 5, none⟩) (set9_heap hrp _ _ _ _ _ _ _ _ _)).trans hps8.f5, by simp [World.setCell]; omega⟩, ?_⟩
          · exact set9_heap (by have := HF.out.2.2 j hj; omega) _ _ _ _ _ _ _ _ _
          · exact (World.cell?_of_block (a := ⟨pb, 0, none⟩) (set9_heap hrp _ _ _ _ _ _ _ _ _)).trans hps8.c0
          · exact (World.cell?_of_block (a := ⟨pb, 1, none⟩) (set9_heap hrp _ _ _ _ _ _ _ _ _)).trans hps8.c1
          · exact (World.cell?_of_block (a := ⟨pb, 2, none⟩) (set9_heap hrp _ _ _ _ _ _ _ _ _)).trans hps8.c2
          · exact (World.cell?_of_block (a := ⟨pb, 3, none⟩) (set9_heap hrp _ _ _ _ _ _ _ _ _)).trans hps8.c3
          · exact (World.cell?_of_block (a := ⟨pb, 4, none⟩) (set9_heap hrp _ _ _ _ _ _ _ _ _)).trans hps8.c4
          · exact (World.cell?_of_block (a := ⟨pb, 5, none⟩) (set9_heap hrp _ _ _ _ _ _ _ _ _)).trans k1
          · exact grown_fresh (grown_fresh (grown_fresh (grown_fresh (grown_fresh (grown_fresh (grown_fresh (grown_fresh (grown_fresh HGG.out (Nat.le_refl _) _) (Nat.le_refl _) _) (Nat.le_refl _) _) (Nat.le_refl _) _) (Nat.le_refl _) _) (Nat.le_refl _) _) (Nat.le_refl _) _) (Nat.le_refl _) _) (Nat.le_refl _) _
        · have HE4 := hideIt (show R = none by rw [HE3.out, if_neg (by simp [lineEnd, hk])])
          rw [show decide (u.kind = 0) = false by simp [hk]] at HA
          have HGU := hideIt (giveUp_any w8 w4.heap.size pb b line (u :: l3) hp8)
          clear hV hSS hkr hkb hp8 hg8
          go_wp2_with fail
          refine HA.out.mono ?_
          rintro e w9 ⟨rfl, hw9⟩
          rw [hw9]
          clear hw9 w9
          go_wp2_with fail
          refine HGU.out.mono ?_
          rintro e w9 ⟨rfl, rfl⟩
          unfold synE
          go_wp2_with fail
          rw [HE4.out]
          exact ⟨rfl, rfl, HGG.out⟩
end Go.Proofs.YthokdbcpkmcieaaGreatDoor
