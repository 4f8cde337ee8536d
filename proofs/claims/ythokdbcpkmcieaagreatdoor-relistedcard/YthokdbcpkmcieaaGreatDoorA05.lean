/- The parser's state in memory, and walks of its smallest steps. Walks of the parser's next, skip and word. The two tables as plain data: the program's rows (code, free bits, text) and the document's entries (code, how many, name, operands). The book's maps, as the parser asks them; names. -/
import Derived.Test.YthokdbcpkmcieaaGreatDoorA04
import Derived.BigRegion
namespace Go.Proofs.YthokdbcpkmcieaaGreatDoor
open Go Go.RowKit
/-- The blocks of the book's three maps and of the directives'. -/
structure Bk where
  cb : Nat
  ib : Nat
  fb : Nat
  db : Nat
/-- What the parser gives up with. -/
def synE (line : Int) : Ending := .panicked [{ v := .iface 117 (.agg #[.int .i64 2, .int .i64 line]), recovered := false }]
/-- Tokens lie in a row of memory, from a place on. -/
def TokAt (w : World) (g : Nat) : Nat → List Tok → Prop
  | _, [] => True
  | off, t :: l => w.cell? ⟨g, off, none⟩ = some (.int .i64 t.kind) ∧ w.cell? ⟨g, off + 1, none⟩ = some (.string t.text) ∧ w.cell? ⟨g, off + 2, none⟩ = some (.int .i64 t.num) ∧ TokAt w g (off + 3) l
theorem TokAt.kept {w w' : World} {g : Nat} (he : w'.heap[g]? = w.heap[g]?) : ∀ {off : Nat} {l : List Tok}, TokAt w g off l → TokAt w' g off l
  | _, [], _ => trivial
  | off, _t :: _l, h => ⟨(World.cell?_of_block (a := ⟨g, off, none⟩) he).trans h.1, (World.cell?_of_block (a := ⟨g, off + 1, none⟩) he).trans h.2.1, (World.cell?_of_block (a := ⟨g, off + 2, none⟩) he).trans h.2.2.1, TokAt.kept he h.2.2.2⟩
/-- The parser, at block pb: its maps, its line, the tokens that are still to be read. -/
structure PS (w : World) (B pb : Nat) (b : Bk) (line : Int) (ts : List Tok) : Prop where
  c0 : w.cell? ⟨pb, 0, none⟩ = some (.map (some b.cb))
  c1 : w.cell? ⟨pb, 1, none⟩ = some (.map (some b.ib))
  c2 : w.cell? ⟨pb, 2, none⟩ = some (.map (some b.fb))
  c3 : w.cell? ⟨pb, 3, none⟩ = some (.map (some b.db))
  c4 : w.cell? ⟨pb, 4, none⟩ = some (.int .i64 line)
  f5 : w.frozen? ⟨pb, 5, none⟩ = false
  f4 : w.frozen? ⟨pb, 4, none⟩ = false
  lt : pb < B
  le : B ≤ w.heap.size
  tk : ∃ g off cap, w.cell? ⟨pb, 5, none⟩ = some (.slice (some ⟨g, off, none⟩) ts.length cap) ∧ ts.length ≤ cap ∧ cap ≤ maxLen ∧ TokAt w g off ts ∧ g ≠ pb ∧ g < B
  last : ts.getLast? = some endT
  sz : ∀ t ∈ ts, t.text.size ≤ 400000
theorem PS.kept {w w' : World} {B pb : Nat} {b : Bk} {line : Int} {ts : List Tok} (h : PS w B pb b line ts) (hb : Below B w w') : PS w' B pb b line ts := by
  obtain ⟨g, off, cap, h1, h2, h2', h3, h4, h5⟩ := h.tk
  have e := hb.block pb h.lt
  exact ⟨(World.cell?_of_block (a := ⟨pb, 0, none⟩) e).trans h.c0, (World.cell?_of_block (a := ⟨pb, 1, none⟩) e).trans h.c1, (World.cell?_of_block (a := ⟨pb, 2, none⟩) e).trans h.c2, (World.cell?_of_block (a := ⟨pb, 3, none⟩) e).trans h.c3, (World.cell?_of_block (a := ⟨pb, 4, none⟩) e).trans h.c4, (World.frozen?_of_block (a := ⟨pb, 5, none⟩) e).trans h.f5, (World.frozen?_of_block (a := ⟨pb, 4, none⟩) e).trans h.f4,
    h.lt, Nat.le_trans h.le hb.size, ⟨g, off, cap, (World.cell?_of_block (a := ⟨pb, 5, none⟩) e).trans h1, h2, h2', h3.kept (hb.block g h5), h4, h5⟩, h.last, h.sz⟩
theorem PS.ne {w : World} {B pb : Nat} {b : Bk} {line : Int} {ts : List Tok} (h : PS w B pb b line ts) : ∃ t l, ts = t :: l := by
  cases ts with
  | nil => have := h.last; simp at this
  | cons t l => exact ⟨t, l, rfl⟩
/-- The next token is left behind. -/
theorem PS.step {w : World} {B pb : Nat} {b : Bk} {line : Int} {t : Tok} {l : List Tok} (h : PS w B pb b line (t :: l)) (hl : l ≠ []) {g off cap : Nat} (h1 : w.cell? ⟨pb, 5, none⟩ = some (.slice (some ⟨g, off, none⟩) (l.length + 1) (cap + 1))) :
    PS (w.setCell ⟨pb, 5, none⟩ (.slice (some ⟨g, off + 3, none⟩) l.length cap)) B pb b line l := by
  obtain ⟨g', off', cap', h1', h2, h2', h3, h4, h5⟩ := h.tk
  rw [h1'] at h1
  simp only [List.length_cons, Option.some.injEq, Value.slice.injEq, Addr.mk.injEq] at h1
  obtain ⟨⟨rfl, rfl, _⟩, _, rfl⟩ := h1
  refine ⟨?_, ?_, ?_, ?_, ?_, ?_, ?_, h.lt, by simpa [World.setCell] using h.le, ⟨g', off' + 3, cap, World.cell?_setCell_same _ _ _ h1', by simpa using h2, by omega, ?_, h4, h5⟩, ?_, fun t ht => h.sz t (List.mem_cons_of_mem _ ht)⟩
  · rw [World.cell?_setCell_other _ _ _ _ (by simp)]; exact h.c0
  · rw [World.cell?_setCell_other _ _ _ _ (by simp)]; exact h.c1
  · rw [World.cell?_setCell_other _ _ _ _ (by simp)]; exact h.c2
  · rw [World.cell?_setCell_other _ _ _ _ (by simp)]; exact h.c3
  · rw [World.cell?_setCell_other _ _ _ _ (by simp)]; exact h.c4
  · simp [h.f5]
  · simp [h.f4]
  · exact h3.2.2.2.kept (Below.heap_setCell _ _ _ _ (by simpa using h4))
  · have := h.last
    cases l with
    | nil => exact absurd rfl hl
    | cons u l => rw [List.getLast?_cons_cons] at this; exact this
set_option maxHeartbeats 400000 in
theorem giveUp_any (w : World) (B pb : Nat) (b : Bk) (line : Int) (ts : List Tok) (h : PS w B pb b line ts) :
    Calls Tryz.prog 164 #[.pointer (some ⟨pb, 0, none⟩)] w fun e w' => e = synE line ∧ w' = w := by
  have c4 := h.c4
  go_enter Tryz.func164, Tryz.ntmps164
  go_wp2
  exact ⟨rfl, rfl, rfl⟩
set_option maxHeartbeats 400000 in
theorem isAtEnd_any (w : World) (B pb : Nat) (b : Bk) (line : Int) (t : Tok) (l : List Tok) (h : PS w B pb b line (t :: l)) :
    Calls Tryz.prog 167 #[.pointer (some ⟨pb, 0, none⟩)] w fun e w' => e = .returned (.bool (decide (t.kind = 0))) ∧ w' = w := by
  obtain ⟨g, off, cap, h1, h2, h2', h3, h4, h5⟩ := h.tk
  have k0 := h3.1
  have hp : (0 : Int) < (l.length : Int) + 1 := by omega
  have hd : decide (t.kind = 0) = ((t.kind : Int) == 0) := by
    by_cases e : t.kind = 0 <;> simp [e]
  rw [hd]
  clear hd h
  go_enter Tryz.func167, Tryz.ntmps167
  go_wp2
  go_ret
  exact ⟨rfl, rfl⟩
end Go.Proofs.YthokdbcpkmcieaaGreatDoor
namespace Go.Proofs.YthokdbcpkmcieaaGreatDoor
open Go Go.RowKit
def tokV (t : Tok) : Value := .agg #[.int .i64 t.kind, .string t.text, .int .i64 t.num]
theorem grown_of_below {w w' : World} {r : Option Nat} (h : Below w.heap.size w w') : w.grownBy w' r := ⟨h.os, h.tape, h.output, h.size, fun k hk _ => h.block k hk⟩
set_option maxRecDepth 100000 in
set_option maxHeartbeats 1000000 in
theorem next_any (w : World) (B pb : Nat) (b : Bk) (line : Int) (t : Tok) (l : List Tok) (h : PS w B pb b line (t :: l)) (hl : l ≠ []) :
    Calls Tryz.prog 247 #[.pointer (some ⟨pb, 0, none⟩)] w fun e w' => e = .returned (tokV t) ∧ PS w' B pb b line l ∧ w.grownBy w' (some pb) := by
  obtain ⟨g, off, cap, h1, h2, h2', h3, h4, h5'⟩ := h.tk
  have h5 : g < w.heap.size := Nat.lt_of_lt_of_le h5' h.le
  obtain ⟨c, rfl⟩ : ∃ c, cap = c + 1 := ⟨cap - 1, by simp at h2; omega⟩
  have hll : 1 ≤ l.length := by
    cases l with
    | nil => exact absurd rfl hl
    | cons u l => simp
  have hc1 : 1 ≤ c := by simp at h2; omega
  obtain ⟨k0, k1, k2, _⟩ := h3
  have hlt : pb < w.heap.size := Nat.lt_of_lt_of_le h.lt h.le
  have HP := hideIt h
  have f5 := h.f5
  have H1 := hideIt h1
  have a0 : ∀ o o', ((w.alloc o).alloc o').cell? ⟨pb, 5, none⟩ = some (.slice (some ⟨g, off, none⟩) (l.length + 1) (c + 1)) := fun o o' => by
    rw [World.cell?_alloc_old _ _ _ (by simp; omega), World.cell?_alloc_old _ _ _ (by simp; omega)]; exact H1.out
  have HA := hideIt a0
  clear h a0
  go_enter Tryz.func247, Tryz.ntmps247
  go_wp2_with fail
  have hst := HP.out.step hl H1.out
  refine bodyPost_ret (v := tokV t) (by simp [results, Tryz.results247, go_sem, tokV]) rfl ⟨rfl, ?_, ?_⟩
  · exact hst.kept (((Below.refl _ _).alloc (by have := HP.out.le; simp [World.setCell]; omega) _).alloc (by have := HP.out.le; simp [World.setCell]; omega) _)
  · refine grown_trans (grown_set _ _ _ _) (grown_of_below (((Below.refl _ _).alloc (by simp) _).alloc (by simp) _))
theorem tok_text (k : Int) (t : ByteArray) (n : Int) (w : World) : (Instr.field 296 (.agg #[.int .i64 k, .string t, .int .i64 n]) 1).run Tryz.prog w = .ok (.string t) w := by kernel_rfl
theorem tok_num (k : Int) (t : ByteArray) (n : Int) (w : World) : (Instr.field 296 (.agg #[.int .i64 k, .string t, .int .i64 n]) 2).run Tryz.prog w = .ok (.int .i64 n) w := by kernel_rfl
theorem txt_ne (a b : ByteArray) (h : a ≠ b) : (a.toList == b.toList) = false := by
  rw [beq_eq_false_iff_ne]
  intro e
  apply h
  rw [ByteArray.toList_eq, ByteArray.toList_eq] at e
  exact ByteArray.ext (Array.ext' e)
theorem last_tail {t : Tok} {l : List Tok} (h : (t :: l).getLast? = some endT) (hne : t.text.size ≠ 0) : l ≠ [] := by
  intro e
  subst e
  simp at h
  subst h
  exact hne rfl
set_option maxRecDepth 100000 in
set_option maxHeartbeats 1000000 in
theorem skip_no (w : World) (B pb : Nat) (b : Bk) (line : Int) (t : Tok) (l : List Tok) (x : ByteArray) (h : PS w B pb b line (t :: l)) (hx : t.text ≠ x) :
    Calls Tryz.prog 208 #[.pointer (some ⟨pb, 0, none⟩), .string x] w fun e w' => e = .returned (.bool false) ∧ w' = w := by
  obtain ⟨g, off, cap, h1, h2, h2', h3, h4, h5⟩ := h.tk
  have k1 := h3.2.1
  have hp : (0 : Int) < (l.length : Int) + 1 := by omega
  have hn := txt_ne _ _ hx
  clear h hx
  go_enter Tryz.func208, Tryz.ntmps208
  go_wp2_with fail
  go_ret
  exact ⟨rfl, rfl⟩
set_option maxRecDepth 100000 in
set_option maxHeartbeats 1000000 in
theorem skip_yes (w : World) (B pb : Nat) (b : Bk) (line : Int) (t : Tok) (l : List Tok) (x : ByteArray) (h : PS w B pb b line (t :: l)) (hx : t.text = x) (hx0 : x.size ≠ 0) :
    Calls Tryz.prog 208 #[.pointer (some ⟨pb, 0, none⟩), .string x] w fun e w' => e = .returned (.bool true) ∧ PS w' B pb b line l ∧ w.grownBy w' (some pb) := by
  obtain ⟨g, off, cap, h1, h2, h2', h3, h4, h5⟩ := h.tk
  have k1 := h3.2.1
  have hp : (0 : Int) < (l.length : Int) + 1 := by omega
  have HN := hideIt (next_any w B pb b line t l h (last_tail h.last (by rw [hx]; exact hx0)))
  rw [hx] at k1
  have hn : (x.toList == x.toList) = true := by simp
  clear h
  go_enter Tryz.func208, Tryz.ntmps208
  go_wp2_with (refine HN.out.mono ?_; rintro e w1 ⟨rfl, hps, hg⟩)
  go_ret
  exact ⟨rfl, hps, hg⟩
set_option maxRecDepth 100000 in
set_option maxHeartbeats 1000000 in
theorem word_no (w : World) (B pb : Nat) (b : Bk) (line : Int) (t : Tok) (l : List Tok) (h : PS w B pb b line (t :: l)) (hk : t.kind ≠ 1) :
    Calls Tryz.prog 209 #[.pointer (some ⟨pb, 0, none⟩)] w fun e w' => e = synE line ∧ w' = w := by
  obtain ⟨g, off, cap, h1, h2, h2', h3, h4, h5⟩ := h.tk
  have k0 := h3.1
  have hp : (0 : Int) < (l.length : Int) + 1 := by omega
  have hn : ((t.kind : Int) == 1) = false := by simp; omega
  have HG := hideIt (giveUp_any w B pb b line _ h)
  clear h
  go_enter Tryz.func209, Tryz.ntmps209
  go_wp2_with (refine HG.out.mono ?_; rintro e w1 ⟨rfl, rfl⟩; unfold synE)
  exact ⟨rfl, rfl, rfl⟩
set_option maxRecDepth 100000 in
set_option maxHeartbeats 1000000 in
theorem word_yes (w : World) (B pb : Nat) (b : Bk) (line : Int) (t : Tok) (l : List Tok) (h : PS w B pb b line (t :: l)) (hk : t.kind = 1) :
    Calls Tryz.prog 209 #[.pointer (some ⟨pb, 0, none⟩)] w fun e w' => e = .returned (.string t.text) ∧ PS w' B pb b line l ∧ w.grownBy w' (some pb) := by
  obtain ⟨g, off, cap, h1, h2, h2', h3, h4, h5⟩ := h.tk
  have k0 := h3.1
  have hp : (0 : Int) < (l.length : Int) + 1 := by omega
  have hl : l ≠ [] := by
    intro e
    subst e
    have := h.last
    simp at this
    subst this
    cases hk
  have HN := hideIt (next_any w B pb b line t l h hl)
  have hn : ((t.kind : Int) == 1) = true := by simp [hk]
  unfold tokV at HN
  have hfd := tok_text
  clear h
  go_enter Tryz.func209, Tryz.ntmps209
  go_wp2_with (refine HN.out.mono ?_; rintro e w1 ⟨rfl, hps, hg⟩)
  go_ret
  exact ⟨rfl, hps, hg⟩
end Go.Proofs.YthokdbcpkmcieaaGreatDoor
namespace Go.Proofs.YthokdbcpkmcieaaGreatDoor
def rowsL : List (Nat × Nat × List UInt8) :=
  [(0, 0, [78, 79, 80]),
   (2, 0, [76, 74, 77, 80, 32, 97, 100, 100, 114]),
   (3, 0, [82, 82, 32, 65]),
   (4, 0, [73, 78, 67, 32, 65]),
   (5, 0, [73, 78, 67, 32, 100, 105, 114]),
   (6, 1, [73, 78, 67, 32, 64, 82]),
   (8, 7, [73, 78, 67, 32, 82]),
   (16, 0, [74, 66, 67, 32, 98, 105, 116, 44, 114, 101, 108]),
   (18, 0, [76, 67, 65, 76, 76, 32, 97, 100, 100, 114]),
   (19, 0, [82, 82, 67, 32, 65]),
   (20, 0, [68, 69, 67, 32, 65]),
   (21, 0, [68, 69, 67, 32, 100, 105, 114]),
   (22, 1, [68, 69, 67, 32, 64, 82]),
   (24, 7, [68, 69, 67, 32, 82]),
   (32, 0, [74, 66, 32, 98, 105, 116, 44, 114, 101, 108]),
   (34, 0, [82, 69, 84]),
   (35, 0, [82, 76, 32, 65]),
   (36, 0, [65, 68, 68, 32, 65, 44, 35, 98, 121, 116, 101]),
   (37, 0, [65, 68, 68, 32, 65, 44, 100, 105, 114]),
   (38, 1, [65, 68, 68, 32, 65, 44, 64, 82]),
   (40, 7, [65, 68, 68, 32, 65, 44, 82]),
   (48, 0, [74, 78, 66, 32, 98, 105, 116, 44, 114, 101, 108]),
   (50, 0, [82, 69, 84, 73]),
   (51, 0, [82, 76, 67, 32, 65]),
   (52, 0, [65, 68, 68, 67, 32, 65, 44, 35, 98, 121, 116, 101]),
   (53, 0, [65, 68, 68, 67, 32, 65, 44, 100, 105, 114]),
   (54, 1, [65, 68, 68, 67, 32, 65, 44, 64, 82]),
   (56, 7, [65, 68, 68, 67, 32, 65, 44, 82]),
   (64, 0, [74, 67, 32, 114, 101, 108]),
   (66, 0, [79, 82, 76, 32, 100, 105, 114, 44, 65]),
   (67, 0, [79, 82, 76, 32, 100, 105, 114, 44, 35, 98, 121, 116, 101]),
   (68, 0, [79, 82, 76, 32, 65, 44, 35, 98, 121, 116, 101]),
   (69, 0, [79, 82, 76, 32, 65, 44, 100, 105, 114]),
   (70, 1, [79, 82, 76, 32, 65, 44, 64, 82]),
   (72, 7, [79, 82, 76, 32, 65, 44, 82]),
   (80, 0, [74, 78, 67, 32, 114, 101, 108]),
   (82, 0, [65, 78, 76, 32, 100, 105, 114, 44, 65]),
   (83, 0, [65, 78, 76, 32, 100, 105, 114, 44, 35, 98, 121, 116, 101]),
   (84, 0, [65, 78, 76, 32, 65, 44, 35, 98, 121, 116, 101]),
   (85, 0, [65, 78, 76, 32, 65, 44, 100, 105, 114]),
   (86, 1, [65, 78, 76, 32, 65, 44, 64, 82]),
   (88, 7, [65, 78, 76, 32, 65, 44, 82]),
   (96, 0, [74, 90, 32, 114, 101, 108]),
   (98, 0, [88, 82, 76, 32, 100, 105, 114, 44, 65]),
   (99, 0, [88, 82, 76, 32, 100, 105, 114, 44, 35, 98, 121, 116, 101]),
   (100, 0, [88, 82, 76, 32, 65, 44, 35, 98, 121, 116, 101]),
   (101, 0, [88, 82, 76, 32, 65, 44, 100, 105, 114]),
   (102, 1, [88, 82, 76, 32, 65, 44, 64, 82]),
   (104, 7, [88, 82, 76, 32, 65, 44, 82]),
   (112, 0, [74, 78, 90, 32, 114, 101, 108]),
   (114, 0, [79, 82, 76, 32, 67, 44, 98, 105, 116]),
   (115, 0, [74, 77, 80, 32, 64, 65, 43, 68, 80, 84, 82]),
   (116, 0, [77, 79, 86, 32, 65, 44, 35, 98, 121, 116, 101]),
   (117, 0, [77, 79, 86, 32, 100, 105, 114, 44, 35, 98, 121, 116, 101]),
   (118, 1, [77, 79, 86, 32, 64, 82, 44, 35, 98, 121, 116, 101]),
   (120, 7, [77, 79, 86, 32, 82, 44, 35, 98, 121, 116, 101]),
   (128, 0, [83, 74, 77, 80, 32, 114, 101, 108]),
   (130, 0, [65, 78, 76, 32, 67, 44, 98, 105, 116]),
   (131, 0, [77, 79, 86, 67, 32, 65, 44, 64, 65, 43, 80, 67]),
   (132, 0, [68, 73, 86, 32, 65, 66]),
   (133, 0, [77, 79, 86, 32, 100, 105, 114, 44, 100, 105, 114]),
   (134, 1, [77, 79, 86, 32, 100, 105, 114, 44, 64, 82]),
   (136, 7, [77, 79, 86, 32, 100, 105, 114, 44, 82]),
   (144, 0, [77, 79, 86, 32, 68, 80, 84, 82, 44, 35, 119, 111, 114, 100]),
   (146, 0, [77, 79, 86, 32, 98, 105, 116, 44, 67]),
   (147, 0, [77, 79, 86, 67, 32, 65, 44, 64, 65, 43, 68, 80, 84, 82]),
   (148, 0, [83, 85, 66, 66, 32, 65, 44, 35, 98, 121, 116, 101]),
   (149, 0, [83, 85, 66, 66, 32, 65, 44, 100, 105, 114]),
   (150, 1, [83, 85, 66, 66, 32, 65, 44, 64, 82]),
   (152, 7, [83, 85, 66, 66, 32, 65, 44, 82]),
   (160, 0, [79, 82, 76, 32, 67, 44, 47, 98, 105, 116]),
   (162, 0, [77, 79, 86, 32, 67, 44, 98, 105, 116]),
   (163, 0, [73, 78, 67, 32, 68, 80, 84, 82]),
   (164, 0, [77, 85, 76, 32, 65, 66]),
   (166, 1, [77, 79, 86, 32, 64, 82, 44, 100, 105, 114]),
   (168, 7, [77, 79, 86, 32, 82, 44, 100, 105, 114]),
   (176, 0, [65, 78, 76, 32, 67, 44, 47, 98, 105, 116]),
   (178, 0, [67, 80, 76, 32, 98, 105, 116]),
   (179, 0, [67, 80, 76, 32, 67]),
   (180, 0, [67, 74, 78, 69, 32, 65, 44, 35, 98, 121, 116, 101, 44, 114, 101, 108]),
   (181, 0, [67, 74, 78, 69, 32, 65, 44, 100, 105, 114, 44, 114, 101, 108]),
   (182, 1, [67, 74, 78, 69, 32, 64, 82, 44, 35, 98, 121, 116, 101, 44, 114, 101, 108]),
   (184, 7, [67, 74, 78, 69, 32, 82, 44, 35, 98, 121, 116, 101, 44, 114, 101, 108]),
   (192, 0, [80, 85, 83, 72, 32, 100, 105, 114]),
   (194, 0, [67, 76, 82, 32, 98, 105, 116]),
   (195, 0, [67, 76, 82, 32, 67]),
   (196, 0, [83, 87, 65, 80, 32, 65]),
   (197, 0, [88, 67, 72, 32, 65, 44, 100, 105, 114]),
   (198, 1, [88, 67, 72, 32, 65, 44, 64, 82]),
   (200, 7, [88, 67, 72, 32, 65, 44, 82]),
   (208, 0, [80, 79, 80, 32, 100, 105, 114]),
   (210, 0, [83, 69, 84, 66, 32, 98, 105, 116]),
   (211, 0, [83, 69, 84, 66, 32, 67]),
   (212, 0, [68, 65, 32, 65]),
   (213, 0, [68, 74, 78, 90, 32, 100, 105, 114, 44, 114, 101, 108]),
   (214, 1, [88, 67, 72, 68, 32, 65, 44, 64, 82]),
   (216, 7, [68, 74, 78, 90, 32, 82, 44, 114, 101, 108]),
   (224, 0, [77, 79, 86, 88, 32, 65, 44, 64, 68, 80, 84, 82]),
   (226, 1, [77, 79, 86, 88, 32, 65, 44, 64, 82]),
   (228, 0, [67, 76, 82, 32, 65]),
   (229, 0, [77, 79, 86, 32, 65, 44, 100, 105, 114]),
   (230, 1, [77, 79, 86, 32, 65, 44, 64, 82]),
   (232, 7, [77, 79, 86, 32, 65, 44, 82]),
   (240, 0, [77, 79, 86, 88, 32, 64, 68, 80, 84, 82, 44, 65]),
   (242, 1, [77, 79, 86, 88, 32, 64, 82, 44, 65]),
   (244, 0, [67, 80, 76, 32, 65]),
   (245, 0, [77, 79, 86, 32, 100, 105, 114, 44, 65]),
   (246, 1, [77, 79, 86, 32, 64, 82, 44, 65]),
   (248, 7, [77, 79, 86, 32, 82, 44, 65]),
   (1, 224, [65, 74, 77, 80, 32, 112, 97, 103, 101]),
   (17, 224, [65, 67, 65, 76, 76, 32, 112, 97, 103, 101])]
def entsL : List (Nat × Nat × List UInt8 × List (List UInt8)) :=
  [(0, 1, [78, 79, 80], []),
   (2, 1, [76, 74, 77, 80], [[97, 100, 100, 114]]),
   (3, 1, [82, 82], [[65]]),
   (4, 1, [73, 78, 67], [[65]]),
   (5, 1, [73, 78, 67], [[100, 105, 114]]),
   (6, 2, [73, 78, 67], [[64, 82]]),
   (8, 8, [73, 78, 67], [[82]]),
   (16, 1, [74, 66, 67], [[98, 105, 116], [114, 101, 108]]),
   (18, 1, [76, 67, 65, 76, 76], [[97, 100, 100, 114]]),
   (19, 1, [82, 82, 67], [[65]]),
   (20, 1, [68, 69, 67], [[65]]),
   (21, 1, [68, 69, 67], [[100, 105, 114]]),
   (22, 2, [68, 69, 67], [[64, 82]]),
   (24, 8, [68, 69, 67], [[82]]),
   (32, 1, [74, 66], [[98, 105, 116], [114, 101, 108]]),
   (34, 1, [82, 69, 84], []),
   (35, 1, [82, 76], [[65]]),
   (36, 1, [65, 68, 68], [[65], [35, 98, 121, 116, 101]]),
   (37, 1, [65, 68, 68], [[65], [100, 105, 114]]),
   (38, 2, [65, 68, 68], [[65], [64, 82]]),
   (40, 8, [65, 68, 68], [[65], [82]]),
   (48, 1, [74, 78, 66], [[98, 105, 116], [114, 101, 108]]),
   (50, 1, [82, 69, 84, 73], []),
   (51, 1, [82, 76, 67], [[65]]),
   (52, 1, [65, 68, 68, 67], [[65], [35, 98, 121, 116, 101]]),
   (53, 1, [65, 68, 68, 67], [[65], [100, 105, 114]]),
   (54, 2, [65, 68, 68, 67], [[65], [64, 82]]),
   (56, 8, [65, 68, 68, 67], [[65], [82]]),
   (64, 1, [74, 67], [[114, 101, 108]]),
   (66, 1, [79, 82, 76], [[100, 105, 114], [65]]),
   (67, 1, [79, 82, 76], [[100, 105, 114], [35, 98, 121, 116, 101]]),
   (68, 1, [79, 82, 76], [[65], [35, 98, 121, 116, 101]]),
   (69, 1, [79, 82, 76], [[65], [100, 105, 114]]),
   (70, 2, [79, 82, 76], [[65], [64, 82]]),
   (72, 8, [79, 82, 76], [[65], [82]]),
   (80, 1, [74, 78, 67], [[114, 101, 108]]),
   (82, 1, [65, 78, 76], [[100, 105, 114], [65]]),
   (83, 1, [65, 78, 76], [[100, 105, 114], [35, 98, 121, 116, 101]]),
   (84, 1, [65, 78, 76], [[65], [35, 98, 121, 116, 101]]),
   (85, 1, [65, 78, 76], [[65], [100, 105, 114]]),
   (86, 2, [65, 78, 76], [[65], [64, 82]]),
   (88, 8, [65, 78, 76], [[65], [82]]),
   (96, 1, [74, 90], [[114, 101, 108]]),
   (98, 1, [88, 82, 76], [[100, 105, 114], [65]]),
   (99, 1, [88, 82, 76], [[100, 105, 114], [35, 98, 121, 116, 101]]),
   (100, 1, [88, 82, 76], [[65], [35, 98, 121, 116, 101]]),
   (101, 1, [88, 82, 76], [[65], [100, 105, 114]]),
   (102, 2, [88, 82, 76], [[65], [64, 82]]),
   (104, 8, [88, 82, 76], [[65], [82]]),
   (112, 1, [74, 78, 90], [[114, 101, 108]]),
   (114, 1, [79, 82, 76], [[67], [98, 105, 116]]),
   (115, 1, [74, 77, 80], [[64, 65, 43, 68, 80, 84, 82]]),
   (116, 1, [77, 79, 86], [[65], [35, 98, 121, 116, 101]]),
   (117, 1, [77, 79, 86], [[100, 105, 114], [35, 98, 121, 116, 101]]),
   (118, 2, [77, 79, 86], [[64, 82], [35, 98, 121, 116, 101]]),
   (120, 8, [77, 79, 86], [[82], [35, 98, 121, 116, 101]]),
   (128, 1, [83, 74, 77, 80], [[114, 101, 108]]),
   (130, 1, [65, 78, 76], [[67], [98, 105, 116]]),
   (131, 1, [77, 79, 86, 67], [[65], [64, 65, 43, 80, 67]]),
   (132, 1, [68, 73, 86], [[65, 66]]),
   (133, 1, [77, 79, 86], [[100, 105, 114], [100, 105, 114]]),
   (134, 2, [77, 79, 86], [[100, 105, 114], [64, 82]]),
   (136, 8, [77, 79, 86], [[100, 105, 114], [82]]),
   (144, 1, [77, 79, 86], [[68, 80, 84, 82], [35, 119, 111, 114, 100]]),
   (146, 1, [77, 79, 86], [[98, 105, 116], [67]]),
   (147, 1, [77, 79, 86, 67], [[65], [64, 65, 43, 68, 80, 84, 82]]),
   (148, 1, [83, 85, 66, 66], [[65], [35, 98, 121, 116, 101]]),
   (149, 1, [83, 85, 66, 66], [[65], [100, 105, 114]]),
   (150, 2, [83, 85, 66, 66], [[65], [64, 82]]),
   (152, 8, [83, 85, 66, 66], [[65], [82]]),
   (160, 1, [79, 82, 76], [[67], [47, 98, 105, 116]]),
   (162, 1, [77, 79, 86], [[67], [98, 105, 116]]),
   (163, 1, [73, 78, 67], [[68, 80, 84, 82]]),
   (164, 1, [77, 85, 76], [[65, 66]]),
   (166, 2, [77, 79, 86], [[64, 82], [100, 105, 114]]),
   (168, 8, [77, 79, 86], [[82], [100, 105, 114]]),
   (176, 1, [65, 78, 76], [[67], [47, 98, 105, 116]]),
   (178, 1, [67, 80, 76], [[98, 105, 116]]),
   (179, 1, [67, 80, 76], [[67]]),
   (180, 1, [67, 74, 78, 69], [[65], [35, 98, 121, 116, 101], [114, 101, 108]]),
   (181, 1, [67, 74, 78, 69], [[65], [100, 105, 114], [114, 101, 108]]),
   (182, 2, [67, 74, 78, 69], [[64, 82], [35, 98, 121, 116, 101], [114, 101, 108]]),
   (184, 8, [67, 74, 78, 69], [[82], [35, 98, 121, 116, 101], [114, 101, 108]]),
   (192, 1, [80, 85, 83, 72], [[100, 105, 114]]),
   (194, 1, [67, 76, 82], [[98, 105, 116]]),
   (195, 1, [67, 76, 82], [[67]]),
   (196, 1, [83, 87, 65, 80], [[65]]),
   (197, 1, [88, 67, 72], [[65], [100, 105, 114]]),
   (198, 2, [88, 67, 72], [[65], [64, 82]]),
   (200, 8, [88, 67, 72], [[65], [82]]),
   (208, 1, [80, 79, 80], [[100, 105, 114]]),
   (210, 1, [83, 69, 84, 66], [[98, 105, 116]]),
   (211, 1, [83, 69, 84, 66], [[67]]),
   (212, 1, [68, 65], [[65]]),
   (213, 1, [68, 74, 78, 90], [[100, 105, 114], [114, 101, 108]]),
   (214, 2, [88, 67, 72, 68], [[65], [64, 82]]),
   (216, 8, [68, 74, 78, 90], [[82], [114, 101, 108]]),
   (224, 1, [77, 79, 86, 88], [[65], [64, 68, 80, 84, 82]]),
   (226, 2, [77, 79, 86, 88], [[65], [64, 82]]),
   (228, 1, [67, 76, 82], [[65]]),
   (229, 1, [77, 79, 86], [[65], [100, 105, 114]]),
   (230, 2, [77, 79, 86], [[65], [64, 82]]),
   (232, 8, [77, 79, 86], [[65], [82]]),
   (240, 1, [77, 79, 86, 88], [[64, 68, 80, 84, 82], [65]]),
   (242, 2, [77, 79, 86, 88], [[64, 82], [65]]),
   (244, 1, [67, 80, 76], [[65]]),
   (245, 1, [77, 79, 86], [[100, 105, 114], [65]]),
   (246, 2, [77, 79, 86], [[64, 82], [65]]),
   (248, 8, [77, 79, 86], [[82], [65]])]
def pagedL : List (Nat × Nat × List UInt8 × List (List UInt8)) := [(1, 1, [65, 74, 77, 80], [[112, 97, 103, 101]]), (17, 1, [65, 67, 65, 76, 76], [[112, 97, 103, 101]])]
end Go.Proofs.YthokdbcpkmcieaaGreatDoor
namespace Go.Proofs.YthokdbcpkmcieaaGreatDoor
open Go Go.RowKit Go.Maps Go.WideMaps
/-- A row's name. -/
def rowNm (t : List UInt8) : List UInt8 := t.takeWhile fun c => c != 32
/-- Is it an instruction's name? -/
def hasN (l : List UInt8) : Bool := rowsL.any fun r => rowNm r.2.2 == l
/-- The operands that are themselves: their texts, kinds and numbers. -/
def fixL : List (List UInt8 × Nat × Nat) :=
  [([65], 0, 0), ([65, 66], 1, 0), ([67], 2, 0), ([68, 80, 84, 82], 3, 0), ([64, 65, 43, 68, 80, 84, 82], 4, 0), ([64, 65, 43, 80, 67], 5, 0), ([64, 68, 80, 84, 82], 6, 0), ([64, 82, 48], 7, 0), ([64, 82, 49], 7, 1),
   ([82, 48], 8, 0), ([82, 49], 8, 1), ([82, 50], 8, 2), ([82, 51], 8, 3), ([82, 52], 8, 4), ([82, 53], 8, 5), ([82, 54], 8, 6), ([82, 55], 8, 7)]
def fixO (l : List UInt8) : Option (Nat × Nat) := (fixL.find? fun x => x.1 == l).map (·.2)
def fixV (x : Nat × Nat) : Value := .agg #[.int .i64 x.1, .int .i64 x.2]
/-- The directives: ORG 1, DB 2, DW 3, DS 4, EQU 5. -/
def dirL : List (List UInt8 × Nat) := [([79, 82, 71], 1), ([68, 66], 2), ([68, 87], 3), ([68, 83], 4), ([69, 81, 85], 5)]
def dirO (l : List UInt8) : Option Nat := (dirL.find? fun x => x.1 == l).map (·.2)
theorem strK : Keyed Tryz.prog 9 := string_keyed Tryz.underlying9
/-- What the maps hold. -/
structure BookAt (w : World) (b : Bk) : Prop where
  counts : ∃ f n, MapAt Tryz.prog 9 w b.cb n f ∧ ∀ l, (hasN l = false ∧ f l = none) ∨ (hasN l = true ∧ ∃ c : Int, 0 < c ∧ f l = some (.int .i64 c))
  fixed : ∃ n, MapAt Tryz.prog 9 w b.fb n (fun l => (fixO l).map fixV)
  dirs : MapAt Tryz.prog 9 w b.db 5 (fun l => (dirO l).map fun t => .int .i64 t)
theorem zeroFix (w : World) : (zeroValue 324).run Tryz.prog w = .ok (fixV (0, 0)) w := by kernel_rfl
theorem zeroTask (w : World) : (zeroValue 124).run Tryz.prog w = .ok (.int .i64 0) w := by kernel_rfl
theorem zeroInt (w : World) : (zeroValue 3).run Tryz.prog w = .ok (.int .i64 0) w := by kernel_rfl
theorem BookAt.kept {w w' : World} {b : Bk} {r : Nat} (h : BookAt w b) (hg : w.grownBy w' (some r)) (h1 : b.cb ≠ r) (h2 : b.fb ≠ r) (h3 : b.db ≠ r) : BookAt w' b := by
  obtain ⟨nx, hx⟩ := h.fixed
  obtain ⟨f, n, hf, hl⟩ := h.counts
  exact ⟨⟨f, n, hf.kept hg (by simpa using h1), hl⟩, ⟨nx, hx.kept hg (by simpa using h2)⟩, h.dirs.kept hg (by simpa using h3)⟩
theorem BookAt.belowB {w w' : World} {b : Bk} {B : Nat} (h : BookAt w b) (hb : Below B w w') (l1 : b.cb < B) (l2 : b.fb < B) (l3 : b.db < B) : BookAt w' b := by
  obtain ⟨nx, hx⟩ := h.fixed
  obtain ⟨f, n, hf, hl⟩ := h.counts
  exact ⟨⟨f, n, hf.below hb l1, hl⟩, ⟨nx, hx.below hb l2⟩, h.dirs.below hb l3⟩
theorem BookAt.below {w w' : World} {b : Bk} (h : BookAt w b) (hb : Below w.heap.size w w') : BookAt w' b := by
  obtain ⟨nx, hx⟩ := h.fixed
  obtain ⟨f, n, hf, hl⟩ := h.counts
  exact ⟨⟨f, n, hf.below hb hf.lt, hl⟩, ⟨nx, hx.below hb hx.lt⟩, h.dirs.below hb h.dirs.lt⟩
def bkV (b : Bk) : Value := .agg #[.map (some b.cb), .map (some b.ib), .map (some b.fb)]
set_option maxRecDepth 100000 in
set_option maxHeartbeats 1000000 in
theorem hasName_any (w : World) (b : Bk) (s : ByteArray) (h : BookAt w b) (hs : s.size ≤ 1000000) :
    Calls Tryz.prog 210 #[bkV b, .string s] w fun e w' => e = .returned (.bool (hasN s.data.toList)) ∧ Below w.heap.size w w' := by
  obtain ⟨f, n, hf, hl⟩ := h.counts
  have hkey : keyOf Tryz.prog 9 (.string s) = some (.string s.data.toList) := keyOf_string_mk Tryz.underlying9 (by unfold maxLen; omega)
  have hr : ∀ o, (Instr.lookup 119 (.map (some b.cb)) (.string s) false).run Tryz.prog (w.alloc o) = .ok (lookV false (.int .i64 0) (f s.data.toList)) (w.alloc o) := fun o => (hf.alloc o).look strK Tryz.underlying119 (zeroInt _) hkey false
  unfold bkV
  rcases hl s.data.toList with ⟨e1, e2⟩ | ⟨e1, c, hc, e2⟩
  · rw [e1]
    rw [e2] at hr
    simp only [lookV, Bool.false_eq_true, if_false] at hr
    clear hkey e1 e2 hl
    go_enter Tryz.func210, Tryz.ntmps210
    go_wp2_with fail
    go_ret
    exact ⟨rfl, (Below.refl _ _).alloc (Nat.le_refl _) _⟩
  · rw [e1]
    rw [e2] at hr
    simp only [lookV, Bool.false_eq_true, if_false] at hr
    clear hkey e1 e2 hl
    go_enter Tryz.func210, Tryz.ntmps210
    go_wp2_with fail
    go_ret
    exact ⟨by simp , (Below.refl _ _).alloc (Nat.le_refl _) _⟩
/-- What Fixed gives. -/
def fixR (o : Option (Nat × Nat)) : Value := match o with
  | some x => .tuple #[fixV x, .bool true]
  | none => .tuple #[fixV (0, 0), .bool false]
theorem look_fix (o : Option (Nat × Nat)) : lookV true (fixV (0, 0)) (o.map fixV) = fixR o := by cases o <;> rfl
set_option maxRecDepth 100000 in
set_option maxHeartbeats 1000000 in
theorem fixed_any (w : World) (b : Bk) (s : ByteArray) (h : BookAt w b) (hs : s.size ≤ 1000000) :
    Calls Tryz.prog 251 #[bkV b, .string s] w fun e w' => e = .returned (fixR (fixO s.data.toList)) ∧ Below w.heap.size w w' := by
  have hkey : keyOf Tryz.prog 9 (.string s) = some (.string s.data.toList) := keyOf_string_mk Tryz.underlying9 (by unfold maxLen; omega)
  obtain ⟨nx, hx⟩ := h.fixed
  have hr : ∀ o o', (Instr.lookup 244 (.map (some b.fb)) (.string s) true).run Tryz.prog ((w.alloc o).alloc o') = .ok (fixR (fixO s.data.toList)) ((w.alloc o).alloc o') := fun o o' => by
    rw [((hx.alloc o).alloc o').look strK Tryz.underlying244 (zeroFix _) hkey true, look_fix]
  unfold bkV
  clear h hx
  cases hf : fixO s.data.toList with
  | none =>
    rw [hf] at hr
    simp only [fixR, fixV] at hr ⊢
    go_enter Tryz.func251, Tryz.ntmps251
    go_wp2_with fail
    refine bodyPost_ret (v := .tuple #[.agg #[.int .i64 0, .int .i64 0], .bool false]) (by simp [results, Tryz.results251, go_sem]) rfl ⟨by simp, ?_⟩
    exact (((Below.refl _ _).alloc (Nat.le_refl _) _).alloc (by simp) _).alloc (by simp; omega) _
  | some x =>
    obtain ⟨k, n⟩ := x
    rw [hf] at hr
    simp only [fixR, fixV] at hr ⊢
    go_enter Tryz.func251, Tryz.ntmps251
    go_wp2_with fail
    refine bodyPost_ret (v := .tuple #[.agg #[.int .i64 k, .int .i64 n], .bool true]) (by simp [results, Tryz.results251, go_sem]) rfl ⟨rfl, ?_⟩
    exact (((Below.refl _ _).alloc (Nat.le_refl _) _).alloc (by simp) _).alloc (by simp; omega) _
end Go.Proofs.YthokdbcpkmcieaaGreatDoor
