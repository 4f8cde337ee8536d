/- The state of the law Hears between two parts. -/
import Derived.Test.YthokdbcpkmcieaaBook5
import Derived.Test.YthokdbcpkmcieaaRef4
namespace Go.Proofs.Ythokdbcpkmcieaa
open Go Go.RowKit
structure HS (w wr : World) (B0 cnt used : Nat) : Prop where
  book : ∃ sv es, BookS wr B0 (B0 + 5) wr.heap.size sv es ∧ es.length = cnt
  img : wr.cell? ⟨B0, 1, none⟩ = some (.slice none 0 0)
  one : ∃ s r, EarAt wr (B0 + 1) s ∧ REarAt wr (B0 + 3) r ∧ SameE s r ∧ r.s.length ≤ used
  two : ∃ s r, EarAt wr (B0 + 2) s ∧ REarAt wr (B0 + 4) r ∧ SameE s r ∧ r.s.length ≤ used
  below : Below w.heap.size w wr
  at0 : B0 = w.heap.size
  size : B0 + 5 ≤ wr.heap.size
theorem HS.grow {w wr w' : World} {B0 cnt used : Nat} (h : HS w wr B0 cnt used) (hb : Below wr.heap.size wr w') : HS w w' B0 cnt used := by
  have hz := h.size
  have hz2 := hb.size
  have hk : ∀ j, j < wr.heap.size → w'.heap[j]? = wr.heap[j]? := hb.block
  refine ⟨?_, (World.cell?_of_block (hk B0 (by omega))).trans h.img, ?_, ?_, ?_, h.at0, by omega⟩
  · obtain ⟨sv, es, h1, h2⟩ := h.book
    exact ⟨sv, es, (h1.kept (hk B0 (by omega)) (fun j _ hj => hk j hj)).up hz2, h2⟩
  · obtain ⟨s, r, h1, h2, h3⟩ := h.one
    exact ⟨s, r, h1.kept (hk _ (by omega)) hz2, h2.kept (hk _ (by omega)) hz2, h3⟩
  · obtain ⟨s, r, h1, h2, h3⟩ := h.two
    exact ⟨s, r, h1.kept (hk _ (by omega)) hz2, h2.kept (hk _ (by omega)) hz2, h3⟩
  · exact h.below.trans (hb.mono h.below.size)
/-- What one part changes: two ears hear, the list is kept, the book is looked at. -/
structure Part (wr w1 w2 w4 w5 : World) (B0 x y : Nat) : Prop where
  a : wr.grownBy w1 (some x)
  b : w1.grownBy w2 (some y)
  c : ButBook B0 (B0 + 5) w2 w4
  d : Below w4.heap.size w4 w5
theorem Part.sizes {wr w1 w2 w4 w5 : World} {B0 x y : Nat} (h : Part wr w1 w2 w4 w5 B0 x y) : wr.heap.size ≤ w1.heap.size ∧ w1.heap.size ≤ w2.heap.size ∧ w2.heap.size ≤ w4.heap.size ∧ w4.heap.size ≤ w5.heap.size := ⟨h.a.size, h.b.size, h.c.size, h.d.size⟩
theorem Part.same {wr w1 w2 w4 w5 : World} {B0 x y : Nat} (h : Part wr w1 w2 w4 w5 B0 x y) (hz : B0 + 5 ≤ wr.heap.size) {j : Nat} (h2 : j < B0 + 5) (h1 : j ≠ B0) (hx : j ≠ x) (hy : j ≠ y) : w5.heap[j]? = wr.heap[j]? := by
  have hs := h.sizes
  rw [h.d.block j (by omega), h.c.block j h2 h1, h.b.block j (by omega) (by simpa using hy), h.a.block j (by omega) (by simpa using hx)]
theorem Part.first {wr w1 w2 w4 w5 : World} {B0 x y : Nat} (h : Part wr w1 w2 w4 w5 B0 x y) (hz : B0 + 5 ≤ wr.heap.size) (h2 : x < B0 + 5) (h1 : x ≠ B0) (hy : x ≠ y) : w5.heap[x]? = w1.heap[x]? := by
  have hs := h.sizes
  rw [h.d.block x (by omega), h.c.block x h2 h1, h.b.block x (by omega) (by simpa using hy)]
theorem Part.second {wr w1 w2 w4 w5 : World} {B0 x y : Nat} (h : Part wr w1 w2 w4 w5 B0 x y) (hz : B0 + 5 ≤ wr.heap.size) (h2 : y < B0 + 5) (h1 : y ≠ B0) : w5.heap[y]? = w2.heap[y]? := by
  have hs := h.sizes
  rw [h.d.block y (by omega), h.c.block y h2 h1]
theorem Part.below {w wr w1 w2 w4 w5 : World} {B0 x y : Nat} (h : Part wr w1 w2 w4 w5 B0 x y) (hb : Below w.heap.size w wr) (h0 : B0 = w.heap.size) (hx : B0 < x) (hy : B0 < y) (hz : B0 + 5 ≤ wr.heap.size) : Below w.heap.size w w5 := by
  have hs := h.sizes
  refine ⟨(((h.d.os.trans h.c.os).trans h.b.os).trans h.a.os).trans hb.os, (((h.d.tape.trans h.c.tape).trans h.b.tape).trans h.a.tape).trans hb.tape, (((h.d.output.trans h.c.output).trans h.b.output).trans h.a.output).trans hb.output, by have := hb.size; omega, fun j hj => ?_⟩
  rw [h.same hz (by omega) (by omega) (by omega) (by omega), hb.block j hj]
/-- The book as it is when the list is kept. -/
theorem HS.bookAt {w wr w1 w2 : World} {B0 cnt used x y : Nat} (h : HS w wr B0 cnt used) (ha : wr.grownBy w1 (some x)) (hb : w1.grownBy w2 (some y)) (hx1 : B0 < x) (hx2 : x < B0 + 5) (hy1 : B0 < y) (hy2 : y < B0 + 5) :
    (∃ sv es, BookS w2 B0 (B0 + 5) wr.heap.size sv es ∧ es.length = cnt) ∧ w2.cell? ⟨B0, 1, none⟩ = some (.slice none 0 0) := by
  have hz := h.size
  have hz1 := ha.size
  have key : ∀ j, j < wr.heap.size → j ≠ x → j ≠ y → w2.heap[j]? = wr.heap[j]? := fun j hj h1 h2 => by rw [hb.block j (by omega) (by simpa using h2), ha.block j hj (by simpa using h1)]
  obtain ⟨sv, es, h1, h2⟩ := h.book
  exact ⟨⟨sv, es, h1.kept (key B0 (by omega) (by omega) (by omega)) (fun j hj1 hj2 => key j hj2 (by omega) (by omega)), h2⟩, (World.cell?_of_block (key B0 (by omega) (by omega) (by omega))).trans h.img⟩
theorem HS.stepOne {w wr w1 w2 w4 w5 : World} {B0 cnt used n : Nat} (h : HS w wr B0 cnt used) (hp : Part wr w1 w2 w4 w5 B0 (B0 + 1) (B0 + 3)) {s : EarS} {r : REar} (hE : EarAt w1 (B0 + 1) s) (hR : REarAt w2 (B0 + 3) r) (hS : SameE s r) (hl : r.s.length ≤ used + n)
    (hbk : ∃ sv es, BookS w4 B0 (B0 + 5) w4.heap.size sv es ∧ es.length = cnt + 1) (hi : w4.cell? ⟨B0, 1, none⟩ = some (.slice none 0 0)) : HS w w5 B0 (cnt + 1) (used + n) := by
  have hz := h.size
  have hs := hp.sizes
  refine ⟨?_, (World.cell?_of_block (hp.d.block B0 (by omega))).trans hi, ⟨s, r, hE.kept (hp.first hz (by omega) (by omega) (by omega)) (by omega), hR.kept (hp.second hz (by omega) (by omega)) (by omega), hS, hl⟩, ?_, hp.below h.below h.at0 (by omega) (by omega) hz, h.at0, by omega⟩
  · obtain ⟨sv, es, k1, k2⟩ := hbk
    exact ⟨sv, es, (k1.kept (hp.d.block B0 (by omega)) (fun j _ hj => hp.d.block j hj)).up (by omega), k2⟩
  · obtain ⟨s', r', k1, k2, k3, k4⟩ := h.two
    exact ⟨s', r', k1.kept (hp.same hz (by omega) (by omega) (by omega) (by omega)) (by omega), k2.kept (hp.same hz (by omega) (by omega) (by omega) (by omega)) (by omega), k3, by omega⟩
theorem HS.stepTwo {w wr w1 w2 w4 w5 : World} {B0 cnt used n : Nat} (h : HS w wr B0 cnt used) (hp : Part wr w1 w2 w4 w5 B0 (B0 + 2) (B0 + 4)) {s : EarS} {r : REar} (hE : EarAt w1 (B0 + 2) s) (hR : REarAt w2 (B0 + 4) r) (hS : SameE s r) (hl : r.s.length ≤ used + n)
    (hbk : ∃ sv es, BookS w4 B0 (B0 + 5) w4.heap.size sv es ∧ es.length = cnt + 1) (hi : w4.cell? ⟨B0, 1, none⟩ = some (.slice none 0 0)) : HS w w5 B0 (cnt + 1) (used + n) := by
  have hz := h.size
  have hs := hp.sizes
  refine ⟨?_, (World.cell?_of_block (hp.d.block B0 (by omega))).trans hi, ?_, ⟨s, r, hE.kept (hp.first hz (by omega) (by omega) (by omega)) (by omega), hR.kept (hp.second hz (by omega) (by omega)) (by omega), hS, hl⟩, hp.below h.below h.at0 (by omega) (by omega) hz, h.at0, by omega⟩
  · obtain ⟨sv, es, k1, k2⟩ := hbk
    exact ⟨sv, es, (k1.kept (hp.d.block B0 (by omega)) (fun j _ hj => hp.d.block j hj)).up (by omega), k2⟩
  · obtain ⟨s', r', k1, k2, k3, k4⟩ := h.one
    exact ⟨s', r', k1.kept (hp.same hz (by omega) (by omega) (by omega) (by omega)) (by omega), k2.kept (hp.same hz (by omega) (by omega) (by omega) (by omega)) (by omega), k3, by omega⟩
/-- keepStrings and looks behind the two ears, as one contract each. -/
theorem keep_of {w2 : World} {B0 cnt top : Nat} {v1 : Value} {l : List (List UInt8)} (hbk : ∃ sv es, BookS w2 B0 (B0 + 5) top sv es ∧ es.length = cnt) (hc : cnt ≤ 2000000) (hl : l.length ≤ 2000000) (hR : w2.ownsRow top 9 1 v1 l.length (strs l)) (htop : top ≤ w2.heap.size) (hi : w2.cell? ⟨B0, 1, none⟩ = some (.slice none 0 0)) :
    Calls Try.prog 12 #[.pointer (some ⟨B0, 0, none⟩), v1] w2 fun e w' => e = .returned (.tuple #[]) ∧ (∃ sv es, BookS w' B0 (B0 + 5) w'.heap.size sv es ∧ es.length = cnt + 1) ∧ ButBook B0 (B0 + 5) w2 w' ∧ w'.cell? ⟨B0, 1, none⟩ = some (.slice none 0 0) := by
  obtain ⟨sv, es, h1, h2⟩ := hbk
  refine (keepStrings_any w2 B0 (B0 + 5) top sv es h1 (by omega) htop top v1 l.length (strs l) hR (Nat.le_refl _) htop hl).mono ?_
  rintro e w' ⟨he, ⟨sv', en, k1⟩, k2, k3⟩
  exact ⟨he, ⟨sv', _, k1, by rw [List.length_append, h2]; rfl⟩, k2, (k3 0).trans hi⟩
theorem looks_of {w4 : World} {B0 cnt : Nat} (hbk : ∃ sv es, BookS w4 B0 (B0 + 5) w4.heap.size sv es ∧ es.length = cnt) (hc : cnt ≤ 2000000) (hi : w4.cell? ⟨B0, 1, none⟩ = some (.slice none 0 0)) :
    Calls Try.prog 14 #[.pointer (some ⟨B0, 0, none⟩)] w4 fun e w' => e = .returned (.bool true) ∧ Below w4.heap.size w4 w' := by
  obtain ⟨sv, es, h1, h2⟩ := hbk
  exact looks_any w4 B0 (B0 + 5) w4.heap.size sv es h1 (by omega) (Nat.le_refl _) hi
end Go.Proofs.Ythokdbcpkmcieaa
