/- Two sources that the document fixes. What the document fixes: assembles. -/
import Derived.Test.YthokdbcpkmcieaaGreatDoorA38
namespace Go.Proofs.YthokdbcpkmcieaaGreatDoor
open Go Go.RowKit Go.Shelf Go.WideMaps Go.Maps
set_option maxRecDepth 100000 in
theorem asm_loop : (match asmF ⟨#[108, 111, 111, 112, 58, 32, 100, 106, 110, 122, 32, 114, 50, 44, 108, 111, 111, 112]⟩ with
  | .ok a => decide (a.bytes.take 3 = [218, 254, 255])
  | .error _ => false) = true := by decide +kernel
set_option maxRecDepth 100000 in
theorem asm_far : (match asmF ⟨#[110, 111, 112, 10, 115, 106, 109, 112, 32, 102, 97, 114]⟩ with
  | .ok _ => false
  | .error q => decide (q = (3, 2))) = true := by decide +kernel
end Go.Proofs.YthokdbcpkmcieaaGreatDoor
namespace Go.Proofs.YthokdbcpkmcieaaGreatDoor
open Go Go.RowKit Go.Shelf Go.WideMaps Go.Maps
/-- burnish.Assemble where an image is made, spelt out. -/
def ImgAt (w : World) (a : Asm) (ik lk sk : Nat) (w' : World) : Prop := YRow w' ik a.bytes ∧ BRow w' lk a.laid ∧ BRow w' sk a.starts ∧ w.heap.size ≤ ik ∧ w.heap.size ≤ lk ∧ w.heap.size ≤ sk
theorem bAssemble_ok (src : ByteArray) (a : Asm) (mm : Int) (w : World) (hmm : w.cell? ⟨0, 0, none⟩ = some (.int .i64 mm)) (h : asmF src = .ok a) :
    Calls Tryz.prog 15 #[.string src] w fun e w' => ∃ ik lk sk, e = .returned (.tuple #[.agg #[.slice (some ⟨ik, 0, none⟩) 1024 1024, .slice (some ⟨lk, 0, none⟩) 1024 1024, .slice (some ⟨sk, 0, none⟩) 1024 1024], .int .i64 0, .int .i64 0]) ∧ ImgAt w a ik lk sk w' ∧ Below w.heap.size w w' := by
  have := bAssemble_any src mm w hmm
  rw [h] at this
  refine this.mono fun e w' hh => ?_
  obtain ⟨h1, ik, lk, sk, h2, h3⟩ := hh
  exact ⟨ik, lk, sk, h2, h3, h1⟩
theorem bAssemble_bad (src : ByteArray) (q : Int × Nat) (mm : Int) (w : World) (hmm : w.cell? ⟨0, 0, none⟩ = some (.int .i64 mm)) (h : asmF src = .error q) :
    Calls Tryz.prog 15 #[.string src] w fun e w' => e = .returned (.tuple #[.agg #[.slice none 0 0, .slice none 0 0, .slice none 0 0], .int .i64 q.1, .int .i64 (q.2 : Int)]) ∧ Below w.heap.size w w' := by
  have := bAssemble_any src mm w hmm
  rw [h] at this
  exact this.mono fun e w' hh => ⟨hh.2, hh.1⟩
set_option maxRecDepth 100000 in
set_option maxHeartbeats 8000000 in
theorem assembles_any (mm : Int) (w : World) (hmm : w.cell? ⟨0, 0, none⟩ = some (.int .i64 mm)) :
    Calls Tryz.prog 17 #[] w fun e w' => e = .returned (.bool true) ∧ Below w.heap.size w w' := by
  obtain ⟨a, ha, hb⟩ : ∃ a, asmF ⟨#[108, 111, 111, 112, 58, 32, 100, 106, 110, 122, 32, 114, 50, 44, 108, 111, 111, 112]⟩ = .ok a ∧ a.bytes.take 3 = [218, 254, 255] := by
    have h := asm_loop
    split at h
    · rename_i a hq
      exact ⟨a, hq, of_decide_eq_true h⟩
    · cases h
  have hf : asmF ⟨#[110, 111, 112, 10, 115, 106, 109, 112, 32, 102, 97, 114]⟩ = .error (3, 2) := by
    have h := asm_far
    split at h
    · cases h
    · rename_i q hq
      rw [hq, of_decide_eq_true h]
  have h0 : 0 < w.heap.size := World.block_lt_of_cell? _ _ hmm
  have HA := hideIt (bAssemble_ok _ a mm w hmm ha)
  have HF : Hid (∀ w' : World, w'.cell? ⟨0, 0, none⟩ = some (.int .i64 mm) → Calls Tryz.prog 15 #[.string ⟨#[110, 111, 112, 10, 115, 106, 109, 112, 32, 102, 97, 114]⟩] w' fun e w2 => e = .returned (.tuple #[.agg #[.slice none 0 0, .slice none 0 0, .slice none 0 0], .int .i64 3, .int .i64 2]) ∧ Below w'.heap.size w' w2) := fun w' h => bAssemble_bad _ (3, 2) mm w' h hf
  have HC : Hid (∀ (w' : World) (ik lk sk : Nat), ImgAt w a ik lk sk w' → w'.cell? ⟨ik, 0, none⟩ = some (.int .u8 218) ∧ w'.cell? ⟨ik, 1, none⟩ = some (.int .u8 254) ∧ w'.cell? ⟨ik, 2, none⟩ = some (.int .u8 255)) := fun w' ik lk sk h => by
    have hl := h.1.len
    have hg : ∀ (i : Nat) (hi : i < a.bytes.length) (u : UInt8), ([218, 254, 255] : List UInt8)[i]? = some u → a.bytes[i] = u := fun i hi u hu => by
      rw [← hb, List.getElem?_take] at hu
      split at hu
      · rw [List.getElem?_eq_getElem hi] at hu
        exact Option.some.inj hu
      · cases hu
    have c0 := h.1.cell 0 (by omega)
    have c1 := h.1.cell 1 (by omega)
    have c2 := h.1.cell 2 (by omega)
    rw [hg 0 (by omega) 218 rfl] at c0
    rw [hg 1 (by omega) 254 rfl] at c1
    rw [hg 2 (by omega) 255 rfl] at c2
    exact ⟨c0, c1, c2⟩
  clear ha hb hf
  go_enter Tryz.func17, Tryz.ntmps17
  go_upto_region 2 with (first | (go_at_call 15; refine HA.out.mono ?_; rintro e w1 ⟨ik, lk, sk, rfl, himg, hb1⟩; have H1 := hideIt (And.intro himg hb1); clear himg hb1))
  obtain ⟨himg, hb1⟩ := H1.out
  obtain ⟨c0, c1, c2⟩ := HC.out _ _ _ _ himg
  obtain ⟨W2, hW2⟩ : ∃ W2, w1.alloc (.cells #[.slice (some ⟨ik, 0, none⟩) 1024 1024, .slice (some ⟨lk, 0, none⟩) 1024 1024, .slice (some ⟨sk, 0, none⟩) 1024 1024] 35) = W2 := ⟨_, rfl⟩
  have hB2 : Below w1.heap.size w1 W2 := by rw [← hW2]; exact (Below.refl _ _).alloc (Nat.le_refl _) _
  have hz2 : W2.heap.size = w1.heap.size + 1 := by rw [← hW2]; simp
  have hh : W2.heap[w1.heap.size]? = some (.cells #[.slice (some ⟨ik, 0, none⟩) 1024 1024, .slice (some ⟨lk, 0, none⟩) 1024 1024, .slice (some ⟨sk, 0, none⟩) 1024 1024] 35 (0, 0)) := by rw [← hW2]; exact heap_alloc_new w1 _
  rw [hW2]
  have hb02 := hb1.trans (hB2.mono hb1.size)
  have HF2 := hideIt (HF.out W2 ((World.cell?_of_block (a := ⟨0, 0, none⟩) (hb02.block 0 h0)).trans hmm))
  have hil := himg.1.lt
  have K : Hid (∀ w3 : World, Below W2.heap.size W2 w3 → w3.cell? ⟨w1.heap.size, 0, none⟩ = some (.slice (some ⟨ik, 0, none⟩) 1024 1024) ∧ (w3.cell? ⟨ik, 0, none⟩ = some (.int .u8 218) ∧ w3.cell? ⟨ik, 1, none⟩ = some (.int .u8 254) ∧ w3.cell? ⟨ik, 2, none⟩ = some (.int .u8 255)) ∧ w1.heap.size < w3.heap.size ∧ ik < w3.heap.size ∧ Below w.heap.size w w3) := fun w3 hb => by
    have hz := hb.size
    have e1 : w3.heap[ik]? = w1.heap[ik]? := (hb.block ik (by omega)).trans (hB2.block ik hil)
    have hc : ∀ j, w3.cell? ⟨ik, j, none⟩ = w1.cell? ⟨ik, j, none⟩ := fun j => World.cell?_of_block (a := ⟨ik, j, none⟩) e1
    exact ⟨by rw [cell_of_row _ _ _ _ _ (0, 0) ((hb.block w1.heap.size (by omega)).trans hh)]; rfl, ⟨(hc 0).trans c0, (hc 1).trans c1, (hc 2).trans c2⟩, by omega, by omega, hb02.trans (hb.mono hb02.size)⟩
  clear himg hb1 c0 c1 c2 hW2 hB2 hh hb02 hil hmm HC HF HA H1
  go_wp2_with (first | (go_at_call 15; refine HF2.out.mono ?_; rintro e w3 ⟨rfl, hb3⟩; obtain ⟨k0, ⟨k1, k2, k3⟩, k4, k5, k6⟩ := K.out w3 hb3; have HB3 := hideIt k6; clear hb3 k6))
  go_ret
  exact ⟨rfl, HB3.out.alloc HB3.out.size _⟩
end Go.Proofs.YthokdbcpkmcieaaGreatDoor
