/- The walk of Shifted. -/
import Derived.Test.YthokdbcpkmcieaaGreatDoorS05
import Derived.BigQuiet
import Derived.Laws.Concat
namespace Go.Proofs.YthokdbcpkmcieaaGreatDoor
open Go Go.RowKit Go.Shelf Go.WideMaps Go.Maps
/-- What the law is handed: raw numbers. -/
structure RawAt (w : World) (ra : Option Addr) (rn : Nat) (raws : List Int) : Prop where
  len : rn = raws.length
  at_ : ∀ j (h : j < raws.length), ∃ cb coff : Nat, ra = some ⟨cb, coff, none⟩ ∧ w.cell? ⟨cb, coff + j, none⟩ = some (.int .i64 raws[j]) ∧ cb < w.heap.size
  bd : ∀ r ∈ raws, -9223372036854775808 ≤ r ∧ r ≤ 9223372036854775807
theorem RawAt.below {w w' : World} {ra : Option Addr} {rn : Nat} {raws : List Int} (h : RawAt w ra rn raws) (hb : Below w.heap.size w w') : RawAt w' ra rn raws :=
  ⟨h.len, fun j hj => by
    obtain ⟨cb, coff, h1, h2, h3⟩ := h.at_ j hj
    exact ⟨cb, coff, h1, (World.cell?_of_block (a := ⟨cb, coff + j, none⟩) (hb.block cb h3)).trans h2, Nat.lt_of_lt_of_le h3 hb.size⟩, h.bd⟩
def gR (raws : List Int) (j : Nat) : Nat × Nat := (kpF (raws.getD j 0) 8, kpF ((raws.getD j 0).tdiv 8) 5)
theorem src_snoc (g : Nat → Nat × Nat) (j : Nat) : srcR (itsF g (j + 1)) = srcR (itsF g j) ++ srcR (chunk j (g j).1 (g j).2) := srcR_append _ _
/-- Two images in memory, their boxes at x1 and x2. -/
structure ShAt (w wz : World) (x1 x2 ik lk sk ik2 lk2 sk2 : Nat) (b1 b2 : Asm) : Prop where
  c1 : wz.heap[x1]? = some (.cells #[.slice (some ⟨ik, 0, none⟩) 1024 1024, .slice (some ⟨lk, 0, none⟩) 1024 1024, .slice (some ⟨sk, 0, none⟩) 1024 1024] 35 (0, 0))
  c2 : wz.heap[x2]? = some (.cells #[.slice (some ⟨ik2, 0, none⟩) 1024 1024, .slice (some ⟨lk2, 0, none⟩) 1024 1024, .slice (some ⟨sk2, 0, none⟩) 1024 1024] 35 (0, 0))
  y1 : YRow wz ik b1.bytes
  l1 : BRow wz lk b1.laid
  y2 : YRow wz ik2 b2.bytes
  l2 : BRow wz lk2 b2.laid
  blw : Below w.heap.size w wz
theorem ShAt.drewN {w wz : World} {x1 x2 ik lk sk ik2 lk2 sk2 : Nat} {b1 b2 : Asm} (h : ShAt w wz x1 x2 ik lk sk ik2 lk2 sk2 b1 b2) (m : Nat) : ShAt w (wz.drewN m) x1 x2 ik lk sk ik2 lk2 sk2 b1 b2 := ⟨h.c1, h.c2, h.y1.kept rfl, h.l1.kept rfl, h.y2.kept rfl, h.l2.kept rfl, below_drewN h.blw m⟩
theorem ShAt.drew {w wz : World} {x1 x2 ik lk sk ik2 lk2 sk2 : Nat} {b1 b2 : Asm} (h : ShAt w wz x1 x2 ik lk sk ik2 lk2 sk2 b1 b2) : ShAt w wz.drew x1 x2 ik lk sk ik2 lk2 sk2 b1 b2 := ⟨h.c1, h.c2, h.y1.kept rfl, h.l1.kept rfl, h.y2.kept rfl, h.l2.kept rfl, h.blw.drew⟩
theorem ShAt.cells {w wz : World} {x1 x2 ik lk sk ik2 lk2 sk2 : Nat} {b1 b2 : Asm} (h : ShAt w wz x1 x2 ik lk sk ik2 lk2 sk2 b1 b2) : wz.cell? ⟨x1, 0, none⟩ = some (.slice (some ⟨ik, 0, none⟩) 1024 1024) ∧ wz.cell? ⟨x1, 1, none⟩ = some (.slice (some ⟨lk, 0, none⟩) 1024 1024) ∧ wz.cell? ⟨x2, 0, none⟩ = some (.slice (some ⟨ik2, 0, none⟩) 1024 1024) ∧ wz.cell? ⟨x2, 1, none⟩ = some (.slice (some ⟨lk2, 0, none⟩) 1024 1024) :=
  ⟨by rw [cell_of_row _ _ _ _ _ (0, 0) h.c1]; rfl, by rw [cell_of_row _ _ _ _ _ (0, 0) h.c1]; rfl, by rw [cell_of_row _ _ _ _ _ (0, 0) h.c2]; rfl, by rw [cell_of_row _ _ _ _ _ (0, 0) h.c2]; rfl⟩
theorem BRow.get {w : World} {b : Nat} {l : List Bool} (h : BRow w b l) {i : Nat} {x : Bool} (e : l[i]? = some x) : w.cell? ⟨b, i, none⟩ = some (.bool x) := by
  obtain ⟨hi, e2⟩ := List.getElem?_eq_some_iff.1 e
  rw [h.cell i hi, e2]
theorem YRow.get {w : World} {b : Nat} {l : List UInt8} (h : YRow w b l) {i : Nat} {x : UInt8} (e : l[i]? = some x) : w.cell? ⟨b, i, none⟩ = some (.int .u8 (x.toNat : Int)) := by
  obtain ⟨hi, e2⟩ := List.getElem?_eq_some_iff.1 e
  rw [h.cell i hi, e2]
theorem ShAt.low {w wz : World} {x1 x2 ik lk sk ik2 lk2 sk2 n t : Nat} {b1 b2 : Asm} (h : ShAt w wz x1 x2 ik lk sk ik2 lk2 sk2 b1 b2) (e2 : b2.laid = layB n t) {k : Nat} (hk : k < n) : wz.cell? ⟨lk2, k, none⟩ = some (.bool false) := h.l2.get (by rw [e2]; exact layB_low n t k hk)
theorem ShAt.high {w wz : World} {x1 x2 ik lk sk ik2 lk2 sk2 n t : Nat} {b1 b2 : Asm} {bs : List Int} (h : ShAt w wz x1 x2 ik lk sk ik2 lk2 sk2 b1 b2) (e1 : b1.laid = layB 0 t) (e2 : b2.laid = layB n t) (f1 : b1.bytes = byt 0 bs) (f2 : b2.bytes = byt n bs) (ht : n + t ≤ 1024) (hb : n + bs.length ≤ 1024) {k : Nat} (hk : n ≤ k) (hk2 : k < 1024) : ∃ (x : Bool) (z : Int), wz.cell? ⟨lk, k - n, none⟩ = some (.bool x) ∧ wz.cell? ⟨lk2, k, none⟩ = some (.bool x) ∧ wz.cell? ⟨ik, k - n, none⟩ = some (.int .u8 z) ∧ wz.cell? ⟨ik2, k, none⟩ = some (.int .u8 z) := by
  have l1 := h.l2.len
  have l2 := h.y2.len
  obtain ⟨x, hx⟩ : ∃ x, b2.laid[k]? = some x := ⟨_, List.getElem?_eq_getElem (by omega)⟩
  obtain ⟨z, hz⟩ : ∃ z, b2.bytes[k]? = some z := ⟨_, List.getElem?_eq_getElem (by omega)⟩
  refine ⟨x, (z.toNat : Int), h.l1.get ?_, h.l2.get hx, h.y1.get ?_, h.y2.get hz⟩
  · rw [e1, ← layB_shift n t k ht hk hk2, ← e2]
    exact hx
  · rw [f1, ← byt_shift n bs k hb hk hk2, ← f2]
    exact hz
theorem box_img (w : World) (ik lk sk : Nat) : ∃ W, w.alloc (.cells #[.slice (some ⟨ik, 0, none⟩) 1024 1024, .slice (some ⟨lk, 0, none⟩) 1024 1024, .slice (some ⟨sk, 0, none⟩) 1024 1024] 35) = W ∧ Below w.heap.size w W ∧ W.heap.size = w.heap.size + 1 ∧ W.heap[w.heap.size]? = some (.cells #[.slice (some ⟨ik, 0, none⟩) 1024 1024, .slice (some ⟨lk, 0, none⟩) 1024 1024, .slice (some ⟨sk, 0, none⟩) 1024 1024] 35 (0, 0)) := ⟨_, rfl, (Below.refl _ _).alloc (Nat.le_refl _) _, by simp, heap_alloc_new w _⟩
set_option maxRecDepth 100000 in
set_option maxHeartbeats 8000000 in
theorem shifted_any (w : World) (ra : Option Addr) (rn rc : Nat) (raws : List Int) (by_ mm : Int) (h : RawAt w ra rn raws) (hr : rn ≤ 9223372036854775807) (hby : -9223372036854775808 ≤ by_ ∧ by_ ≤ 9223372036854775807) (hmm : w.cell? ⟨0, 0, none⟩ = some (.int .i64 mm)) :
    Calls Tryz.prog 6 #[.slice ra rn rc, .int .i64 by_] w fun e w' => e = .returned (.bool true) ∧ Below w.heap.size w w' := by
  obtain ⟨N, hN⟩ : ∃ N, min rn 30 = N := ⟨_, rfl⟩
  obtain ⟨G, hG⟩ : ∃ G, gR raws = G := ⟨_, rfl⟩
  have HH := hideIt (And.intro h hmm)
  have HG := hideIt hG
  have HN := hideIt hN
  have hri : (rn : Int) ≤ 9223372036854775807 := by omega
  have HPK : Hid (∀ (c : Int) (n : Nat) (w' : World), -9223372036854775808 ≤ c → c ≤ 9223372036854775807 → 1 ≤ n → n ≤ 4000000 → Calls Tryz.prog 12 #[.int .i64 c, .int .i64 (n : Int)] w' fun e w2 => e = .returned (.int .i64 (kpF c n : Int)) ∧ w2 = w') := fun c n w' a b x y => kpick_any c n a b x y w'
  clear h hmm hN hG
  go_enter Tryz.func6, Tryz.ntmps6
  go_wp2_with fail
  go_loopw [5, 6] (fun s i wr => ∃ j : Nat, j ≤ N ∧ i = .int .i64 j ∧ s = .string (srcR (itsF G j)) ∧ Below w.heap.size w wr) (fun _ i _ => N - (intOf i).toNat)
  case atStart => exact ⟨0, Nat.zero_le _, rfl, rfl, Below.refl _ _⟩
  case round =>
    obtain ⟨j, hj, rfl, rfl, hB⟩ := hrel
    have HB := hideIt hB
    have hn := HN.out
    by_cases hlt : j < N
    · have hj1 : (j : Int) < (rn : Int) := by omega
      have hj2 : (j : Int) < 30 := by omega
      have hraw := HH.out.1.below hB
      have hjl : j < raws.length := by have := hraw.len; omega
      obtain ⟨cb, coff, rfl, cj, hal⟩ := hraw.at_ j hjl
      obtain ⟨r, hrr⟩ : ∃ r, raws[j] = r := ⟨_, rfl⟩
      rw [hrr] at cj
      have hrb := hraw.bd r (by rw [← hrr]; exact List.getElem_mem hjl)
      obtain ⟨S, hS⟩ : ∃ S, srcR (itsF G j) = S := ⟨_, rfl⟩
      rw [hS]
      have HS := hideIt hS
      obtain ⟨T, hT⟩ : ∃ T, kpF r 8 = T := ⟨_, rfl⟩
      have hT8 : T < 8 := by rw [← hT]; exact kpF_lt r 8 (by omega)
      have hTi : (T : Int) < 8 := by omega
      obtain ⟨W5, hW5⟩ : ∃ W5, wr.alloc (.cells rowS 9) = W5 := ⟨_, rfl⟩
      have hB5 : Below wr.heap.size wr W5 := by rw [← hW5]; exact (Below.refl _ _).alloc (Nat.le_refl _) _
      have hz5 : W5.heap.size = wr.heap.size + 1 := by rw [← hW5]; simp
      obtain ⟨X, hX⟩ : ∃ X, (itB T).text ++ NL = X := ⟨_, rfl⟩
      have cT : W5.cell? ⟨wr.heap.size, T, none⟩ = some (.string X) := by
        have hh := heap_alloc_new wr (.cells rowS 9)
        rw [hW5] at hh
        rw [cell_of_row _ _ _ _ _ (0, 0) hh, rowS_at T hT8, hX]
      have c5 : W5.cell? ⟨cb, coff + j, none⟩ = some (.int .i64 r) := (World.cell?_of_block (a := ⟨cb, coff + j, none⟩) (hB5.block cb hal)).trans cj
      have hal5 : cb < W5.heap.size := by omega
      have HP1 : Hid (∀ w' : World, Calls Tryz.prog 12 #[.int .i64 r, .int .i64 8] w' fun e w2 => e = .returned (.int .i64 (T : Int)) ∧ w2 = w') := fun w' => by
        have := HPK.out r 8 w' hrb.1 hrb.2 (by omega) (by omega)
        rw [hT] at this
        exact this
      have HGJ : Hid (G j = (T, kpF (r.tdiv 8) 5)) := by
        show G j = _
        rw [← HG.out]
        unfold gR
        rw [List.getD_eq_getElem?_getD, List.getElem?_eq_getElem hjl, hrr]
        show (kpF r 8, kpF (r.tdiv 8) 5) = _
        rw [hT]
      have hGlt : ∀ k, (G k).1 < 8 := fun k => by rw [← HG.out]; exact kpF_lt _ 8 (by omega)
      have hSs : S.size ≤ 1500 := by
        rw [← hS]
        have h1 := src_size (itsF_ok (g := G) (n := j) (by omega) (fun k _ => hGlt k))
        have h2 := (itsF_len G j).1
        omega
      have hXs : X.size ≤ 25 := by
        rw [← hX, ByteArray.size_append]
        have := (ok_itB T hT8).size
        have h2 : NL.size = 1 := rfl
        omega
      have hSi : (S.size : Int) ≤ 1500 := by omega
      have hXi : (X.size : Int) ≤ 25 := by omega
      obtain ⟨E, hE⟩ : ∃ E, kpF (r.tdiv 8) 5 = E := ⟨_, rfl⟩
      have hE5 : E < 5 := by rw [← hE]; exact kpF_lt _ 5 (by omega)
      have hq1 : -9223372036854775808 ≤ r.tdiv 8 ∧ r.tdiv 8 ≤ 9223372036854775807 := by
        have h1 := Int.tdiv_le_tdiv (a := r) (b := 9223372036854775807) (c := 8) (by omega) hrb.2
        have h2 := Int.tdiv_le_tdiv (a := -9223372036854775808) (b := r) (c := 8) (by omega) hrb.1
        have e1 : (9223372036854775807 : Int).tdiv 8 = 1152921504606846975 := by decide
        have e2 : (-9223372036854775808 : Int).tdiv 8 = -1152921504606846976 := by decide
        omega
      have HP2 : Hid (∀ w' : World, Calls Tryz.prog 12 #[.int .i64 (r.tdiv 8), .int .i64 5] w' fun e w2 => e = .returned (.int .i64 (E : Int)) ∧ w2 = w') := fun w' => by
        have := HPK.out (r.tdiv 8) 5 w' hq1.1 hq1.2 (by omega) (by omega)
        rw [hE] at this
        exact this
      rw [hE] at HGJ
      obtain ⟨DJ, hDJ⟩ : ∃ DJ, decF 3 j = DJ := ⟨_, rfl⟩
      obtain ⟨DT, hDT⟩ : ∃ DT, decF 3 T = DT := ⟨_, rfl⟩
      have hDJs : DJ.size ≤ 4 := by rw [← hDJ]; exact decF_size 3 j
      have hDTs : DT.size ≤ 4 := by rw [← hDT]; exact decF_size 3 T
      have hDJi : (DJ.size : Int) ≤ 4 := by omega
      have hDTi : (DT.size : Int) ≤ 4 := by omega
      have HDJ : Hid (∀ w' : World, Calls Tryz.prog 16 #[.int .i64 (j : Int)] w' fun e w2 => e = .returned (.string DJ) ∧ w2 = w') := fun w' => by
        have := decimal_any 3 j (by omega) (by omega) w'
        rw [hDJ] at this
        exact this
      have HDT : Hid (∀ w' : World, Calls Tryz.prog 16 #[.int .i64 (T : Int)] w' fun e w2 => e = .returned (.string DT) ∧ w2 = w') := fun w' => by
        have := decimal_any 3 T (by omega) (by omega) w'
        rw [hDT] at this
        exact this
      have HSN : Hid (srcR (itsF G (j + 1)) = S ++ srcR (chunk j T E)) := by
        show srcR (itsF G (j + 1)) = _
        rw [src_snoc, HGJ.out, hS]
      have HD := hideIt (And.intro hDJ hDT)
      have HX := hideIt (And.intro hX hT)
      have HB5 := hideIt hB5
      clear hraw hB hS hX hT hB5 hE hDJ hDT hGlt hq1 HPK hrr
      go_upto_region 6 with (first | (go_at_call 12; refine (HP1.out _).mono ?_; rintro e w2 ⟨rfl, rfl⟩))
      obtain ⟨SX, hSX⟩ : ∃ SX, S ++ X = SX := ⟨_, rfl⟩
      have bSX : (SX.size : Int) ≤ 1525 := by
        rw [← hSX, ByteArray.size_append]
        omega
      rw [hSX]
      have HSX := hideIt hSX
      clear hSX
      by_cases h0 : E = 0
      · subst h0
        obtain ⟨Y1, hY1⟩ : ∃ Y1, SX ++ (⟨#[108]⟩ : ByteArray) = Y1 := ⟨_, rfl⟩
        have bY1 : (Y1.size : Int) ≤ 1526 := by
          rw [← hY1, ByteArray.size_append]
          have : (⟨#[108]⟩ : ByteArray).size = 1 := rfl
          have : (⟨#[58, 32, 100, 106, 110, 122, 32, 114]⟩ : ByteArray).size = 8 := rfl
          have : (⟨#[44, 108]⟩ : ByteArray).size = 2 := rfl
          have : (⟨#[10]⟩ : ByteArray).size = 1 := rfl
          omega
        obtain ⟨Y2, hY2⟩ : ∃ Y2, Y1 ++ DJ = Y2 := ⟨_, rfl⟩
        have bY2 : (Y2.size : Int) ≤ 1530 := by
          rw [← hY2, ByteArray.size_append]
          have : (⟨#[108]⟩ : ByteArray).size = 1 := rfl
          have : (⟨#[58, 32, 100, 106, 110, 122, 32, 114]⟩ : ByteArray).size = 8 := rfl
          have : (⟨#[44, 108]⟩ : ByteArray).size = 2 := rfl
          have : (⟨#[10]⟩ : ByteArray).size = 1 := rfl
          omega
        obtain ⟨Y3, hY3⟩ : ∃ Y3, Y2 ++ (⟨#[58, 32, 100, 106, 110, 122, 32, 114]⟩ : ByteArray) = Y3 := ⟨_, rfl⟩
        have bY3 : (Y3.size : Int) ≤ 1538 := by
          rw [← hY3, ByteArray.size_append]
          have : (⟨#[108]⟩ : ByteArray).size = 1 := rfl
          have : (⟨#[58, 32, 100, 106, 110, 122, 32, 114]⟩ : ByteArray).size = 8 := rfl
          have : (⟨#[44, 108]⟩ : ByteArray).size = 2 := rfl
          have : (⟨#[10]⟩ : ByteArray).size = 1 := rfl
          omega
        obtain ⟨Y4, hY4⟩ : ∃ Y4, Y3 ++ DT = Y4 := ⟨_, rfl⟩
        have bY4 : (Y4.size : Int) ≤ 1542 := by
          rw [← hY4, ByteArray.size_append]
          have : (⟨#[108]⟩ : ByteArray).size = 1 := rfl
          have : (⟨#[58, 32, 100, 106, 110, 122, 32, 114]⟩ : ByteArray).size = 8 := rfl
          have : (⟨#[44, 108]⟩ : ByteArray).size = 2 := rfl
          have : (⟨#[10]⟩ : ByteArray).size = 1 := rfl
          omega
        obtain ⟨Y5, hY5⟩ : ∃ Y5, Y4 ++ (⟨#[44, 108]⟩ : ByteArray) = Y5 := ⟨_, rfl⟩
        have bY5 : (Y5.size : Int) ≤ 1544 := by
          rw [← hY5, ByteArray.size_append]
          have : (⟨#[108]⟩ : ByteArray).size = 1 := rfl
          have : (⟨#[58, 32, 100, 106, 110, 122, 32, 114]⟩ : ByteArray).size = 8 := rfl
          have : (⟨#[44, 108]⟩ : ByteArray).size = 2 := rfl
          have : (⟨#[10]⟩ : ByteArray).size = 1 := rfl
          omega
        obtain ⟨Y6, hY6⟩ : ∃ Y6, Y5 ++ DJ = Y6 := ⟨_, rfl⟩
        have bY6 : (Y6.size : Int) ≤ 1548 := by
          rw [← hY6, ByteArray.size_append]
          have : (⟨#[108]⟩ : ByteArray).size = 1 := rfl
          have : (⟨#[58, 32, 100, 106, 110, 122, 32, 114]⟩ : ByteArray).size = 8 := rfl
          have : (⟨#[44, 108]⟩ : ByteArray).size = 2 := rfl
          have : (⟨#[10]⟩ : ByteArray).size = 1 := rfl
          omega
        obtain ⟨Y7, hY7⟩ : ∃ Y7, Y6 ++ (⟨#[10]⟩ : ByteArray) = Y7 := ⟨_, rfl⟩
        have bY7 : (Y7.size : Int) ≤ 1549 := by
          rw [← hY7, ByteArray.size_append]
          have : (⟨#[108]⟩ : ByteArray).size = 1 := rfl
          have : (⟨#[58, 32, 100, 106, 110, 122, 32, 114]⟩ : ByteArray).size = 8 := rfl
          have : (⟨#[44, 108]⟩ : ByteArray).size = 2 := rfl
          have : (⟨#[10]⟩ : ByteArray).size = 1 := rfl
          omega
        have qY1 : ∀ w : World, (Op.stringOp .add SX (⟨#[108]⟩ : ByteArray)).run Tryz.prog w = .ok (.string Y1) w := fun w => by
          have e9 := run_string_add_sum (P := Tryz.prog) (w := w) SX (⟨#[108]⟩ : ByteArray) (by
            have : (⟨#[108]⟩ : ByteArray).size = 1 := rfl
            have : (⟨#[58, 32, 100, 106, 110, 122, 32, 114]⟩ : ByteArray).size = 8 := rfl
            have : (⟨#[44, 108]⟩ : ByteArray).size = 2 := rfl
            have : (⟨#[10]⟩ : ByteArray).size = 1 := rfl
            omega)
          rw [hY1] at e9
          exact e9
        have qY2 : ∀ w : World, (Op.stringOp .add Y1 DJ).run Tryz.prog w = .ok (.string Y2) w := fun w => by
          have e9 := run_string_add_sum (P := Tryz.prog) (w := w) Y1 DJ (by
            have : (⟨#[108]⟩ : ByteArray).size = 1 := rfl
            have : (⟨#[58, 32, 100, 106, 110, 122, 32, 114]⟩ : ByteArray).size = 8 := rfl
            have : (⟨#[44, 108]⟩ : ByteArray).size = 2 := rfl
            have : (⟨#[10]⟩ : ByteArray).size = 1 := rfl
            omega)
          rw [hY2] at e9
          exact e9
        have qY3 : ∀ w : World, (Op.stringOp .add Y2 (⟨#[58, 32, 100, 106, 110, 122, 32, 114]⟩ : ByteArray)).run Tryz.prog w = .ok (.string Y3) w := fun w => by
          have e9 := run_string_add_sum (P := Tryz.prog) (w := w) Y2 (⟨#[58, 32, 100, 106, 110, 122, 32, 114]⟩ : ByteArray) (by
            have : (⟨#[108]⟩ : ByteArray).size = 1 := rfl
            have : (⟨#[58, 32, 100, 106, 110, 122, 32, 114]⟩ : ByteArray).size = 8 := rfl
            have : (⟨#[44, 108]⟩ : ByteArray).size = 2 := rfl
            have : (⟨#[10]⟩ : ByteArray).size = 1 := rfl
            omega)
          rw [hY3] at e9
          exact e9
        have qY4 : ∀ w : World, (Op.stringOp .add Y3 DT).run Tryz.prog w = .ok (.string Y4) w := fun w => by
          have e9 := run_string_add_sum (P := Tryz.prog) (w := w) Y3 DT (by
            have : (⟨#[108]⟩ : ByteArray).size = 1 := rfl
            have : (⟨#[58, 32, 100, 106, 110, 122, 32, 114]⟩ : ByteArray).size = 8 := rfl
            have : (⟨#[44, 108]⟩ : ByteArray).size = 2 := rfl
            have : (⟨#[10]⟩ : ByteArray).size = 1 := rfl
            omega)
          rw [hY4] at e9
          exact e9
        have qY5 : ∀ w : World, (Op.stringOp .add Y4 (⟨#[44, 108]⟩ : ByteArray)).run Tryz.prog w = .ok (.string Y5) w := fun w => by
          have e9 := run_string_add_sum (P := Tryz.prog) (w := w) Y4 (⟨#[44, 108]⟩ : ByteArray) (by
            have : (⟨#[108]⟩ : ByteArray).size = 1 := rfl
            have : (⟨#[58, 32, 100, 106, 110, 122, 32, 114]⟩ : ByteArray).size = 8 := rfl
            have : (⟨#[44, 108]⟩ : ByteArray).size = 2 := rfl
            have : (⟨#[10]⟩ : ByteArray).size = 1 := rfl
            omega)
          rw [hY5] at e9
          exact e9
        have qY6 : ∀ w : World, (Op.stringOp .add Y5 DJ).run Tryz.prog w = .ok (.string Y6) w := fun w => by
          have e9 := run_string_add_sum (P := Tryz.prog) (w := w) Y5 DJ (by
            have : (⟨#[108]⟩ : ByteArray).size = 1 := rfl
            have : (⟨#[58, 32, 100, 106, 110, 122, 32, 114]⟩ : ByteArray).size = 8 := rfl
            have : (⟨#[44, 108]⟩ : ByteArray).size = 2 := rfl
            have : (⟨#[10]⟩ : ByteArray).size = 1 := rfl
            omega)
          rw [hY6] at e9
          exact e9
        have qY7 : ∀ w : World, (Op.stringOp .add Y6 (⟨#[10]⟩ : ByteArray)).run Tryz.prog w = .ok (.string Y7) w := fun w => by
          have e9 := run_string_add_sum (P := Tryz.prog) (w := w) Y6 (⟨#[10]⟩ : ByteArray) (by
            have : (⟨#[108]⟩ : ByteArray).size = 1 := rfl
            have : (⟨#[58, 32, 100, 106, 110, 122, 32, 114]⟩ : ByteArray).size = 8 := rfl
            have : (⟨#[44, 108]⟩ : ByteArray).size = 2 := rfl
            have : (⟨#[10]⟩ : ByteArray).size = 1 := rfl
            omega)
          rw [hY7] at e9
          exact e9
        have HYS : Hid (S ++ srcR (chunk j T 0) = Y7) := by
          show S ++ (_ ++ (NL ++ srcR ([itD j T] ++ []))) = Y7
          show S ++ ((itB T).text ++ (NL ++ (txD j T ++ (NL ++ noB)))) = Y7
          rw [← hY7, ← hY6, ← hY5, ← hY4, ← hY3, ← hY2, ← hY1, ← HSX.out, ← HX.out.1, ← HD.out.1, ← HD.out.2]
          unfold txD
          have e : NL ++ noB = NL := ByteArray.append_empty
          rw [e]
          simp only [ByteArray.append_assoc]
          rfl
        clear hY1 hY2 hY3 hY4 hY5 hY6 hY7
        go_wp2_with (first | (go_at_call 12; refine (HP2.out _).mono ?_; rintro e w3 ⟨rfl, rfl⟩))
        go_region_held3 (fun w' => w'.cell? ⟨cb, coff + j, none⟩ = some (.int .i64 r) ∧ w' = w3.drew) (first | exact ⟨c5, rfl⟩) (first | (go_at_call 16; with_reducible refine (HDJ.out _).mono ?_; rintro e w4 ⟨rfl, rfl⟩) | (go_at_call 16; with_reducible refine (HDT.out _).mono ?_; rintro e w4 ⟨rfl, rfl⟩) | (go_at_call 12; with_reducible refine (HP1.out _).mono ?_; rintro e w4 ⟨rfl, rfl⟩))
        all_goals
          go_wp2_with (first | (go_at_call 12; refine (HP2.out _).mono ?_; rintro e w5 ⟨rfl, rfl⟩))
          go_roundw
          case rel => exact ⟨j + 1, by omega, by go_num, by rw [HSN.out, HYS.out], (HB.out.trans (HB5.out.mono HB.out.size)).drew⟩
          case measure => simp [intOf]; omega
      · have hE0 : ¬ (E : Int) = 0 := by omega
        by_cases h1 : E = 1
        · subst h1
          obtain ⟨Z, hZ⟩ : ∃ Z, SX ++ (⟨#[115, 106, 109, 112, 32, 36, 43, 52, 10]⟩ : ByteArray) = Z := ⟨_, rfl⟩
          have HYS : Hid (S ++ srcR (chunk j T 1) = Z) := by
            show S ++ ((itB T).text ++ (NL ++ (itS.text ++ (NL ++ noB)))) = Z
            rw [← hZ, ← HSX.out, ← HX.out.1]
            have e : NL ++ noB = NL := ByteArray.append_empty
            rw [e]
            simp only [ByteArray.append_assoc]
            rfl
          go_wp2_with (first | (go_at_call 12; refine (HP2.out _).mono ?_; rintro e w5 ⟨rfl, rfl⟩))
          go_roundw
          case rel => exact ⟨j + 1, by omega, by go_num, by rw [HSN.out, HYS.out], HB.out.trans (HB5.out.mono HB.out.size)⟩
          case measure => simp [intOf]; omega
        · have hE1 : ¬ (E : Int) = 1 := by omega
          have HYS : Hid (S ++ srcR (chunk j T E) = SX) := by
            show S ++ srcR (itB T :: ((if E = 0 then [itD j T] else []) ++ (if E = 1 then [itS] else []))) = SX
            rw [if_neg h0, if_neg h1]
            show S ++ ((itB T).text ++ (NL ++ noB)) = SX
            have e : NL ++ noB = NL := ByteArray.append_empty
            rw [e, HX.out.1, HSX.out]
          go_wp2_with (first | (go_at_call 12; refine (HP2.out _).mono ?_; rintro e w5 ⟨rfl, rfl⟩))
          go_roundw
          case rel => exact ⟨j + 1, by omega, by go_num, by rw [HSN.out, HYS.out], HB.out.trans (HB5.out.mono HB.out.size)⟩
          case measure => simp [intOf]; omega
    · have hjN : j = N := by omega
      rw [hjN]
      have hG8 : ∀ k, (G k).1 < 8 := fun k => by rw [← HG.out]; exact kpF_lt _ 8 (by omega)
      have hok := itsF_ok (g := G) (n := N) (by omega) (fun k _ => hG8 k)
      have hap := itsF_apt (g := G) (n := N) (by omega)
      have hln := itsF_len G N
      obtain ⟨b1, a1, l1, y1⟩ := asm_src hok hap (by omega) (by omega)
      obtain ⟨n, hnn⟩ : ∃ n, kpF by_ 500 = n := ⟨_, rfl⟩
      have hn5 : n < 500 := by rw [← hnn]; exact kpF_lt _ 500 (by omega)
      obtain ⟨b2, a2, l2, y2⟩ := asm_org hok hap (by omega) (by omega) hn5
      have hsum := sumS_le hok
      have hbl := allB_len hok
      have hss := src_size hok
      obtain ⟨SS, hSS⟩ : ∃ SS, srcR (itsF G N) = SS := ⟨_, rfl⟩
      rw [hSS] at a1 a2 hss ⊢
      obtain ⟨TT, hTT⟩ : ∃ TT, sumS (itsF G N) = TT := ⟨_, rfl⟩
      obtain ⟨BS, hBS⟩ : ∃ BS, allB (itsF G N) = BS := ⟨_, rfl⟩
      rw [hTT] at l1 l2 hbl hsum
      rw [hBS] at y1 y2 hbl
      obtain ⟨DN, hDN⟩ : ∃ DN, decF 3 n = DN := ⟨_, rfl⟩
      have hDNs : DN.size ≤ 4 := by rw [← hDN]; exact decF_size 3 n
      obtain ⟨O1, hO1⟩ : ∃ O1, (⟨#[111, 114, 103, 32]⟩ : ByteArray) ++ DN = O1 := ⟨_, rfl⟩
      obtain ⟨O2, hO2⟩ : ∃ O2, O1 ++ (⟨#[10]⟩ : ByteArray) = O2 := ⟨_, rfl⟩
      obtain ⟨O3, hO3⟩ : ∃ O3, O2 ++ SS = O3 := ⟨_, rfl⟩
      have e3 : txO n ++ (NL ++ SS) = O3 := by
        rw [← hO3, ← hO2, ← hO1, ← hDN]
        simp only [ByteArray.append_assoc]
        rfl
      rw [e3] at a2
      have z4 : (⟨#[111, 114, 103, 32]⟩ : ByteArray).size = 4 := rfl
      have z1 : (⟨#[10]⟩ : ByteArray).size = 1 := rfl
      have bO1 : (O1.size : Int) ≤ 8 := by rw [← hO1, ByteArray.size_append]; omega
      have bO2 : (O2.size : Int) ≤ 9 := by rw [← hO2, ByteArray.size_append]; omega
      have bDN : (DN.size : Int) ≤ 4 := by omega
      have bSS : (SS.size : Int) ≤ 1500 := by omega
      have HPB : Hid (∀ w' : World, Calls Tryz.prog 12 #[.int .i64 by_, .int .i64 500] w' fun e w2 => e = .returned (.int .i64 (n : Int)) ∧ w2 = w') := fun w' => by
        have := HPK.out by_ 500 w' hby.1 hby.2 (by omega) (by omega)
        rw [hnn] at this
        exact this
      have HDN : Hid (∀ w' : World, Calls Tryz.prog 16 #[.int .i64 (n : Int)] w' fun e w2 => e = .returned (.string DN) ∧ w2 = w') := fun w' => by
        have := decimal_any 3 n (by omega) (by omega) w'
        rw [hDN] at this
        exact this
      have hmm := HH.out.2
      have h0w : 0 < w.heap.size := World.block_lt_of_cell? _ _ hmm
      have MM : Hid (∀ w' : World, Below w.heap.size w w' → w'.cell? ⟨0, 0, none⟩ = some (.int .i64 mm)) := fun w' hb => (World.cell?_of_block (a := ⟨0, 0, none⟩) (hb.block 0 h0w)).trans hmm
      have HA1 : Hid (∀ w' : World, Below w.heap.size w w' → Calls Tryz.prog 15 #[.string SS] w' fun e w2 => ∃ ik lk sk, e = .returned (.tuple #[.agg #[.slice (some ⟨ik, 0, none⟩) 1024 1024, .slice (some ⟨lk, 0, none⟩) 1024 1024, .slice (some ⟨sk, 0, none⟩) 1024 1024], .int .i64 0, .int .i64 0]) ∧ ImgAt w' b1 ik lk sk w2 ∧ Below w'.heap.size w' w2) := fun w' hb => bAssemble_ok SS b1 mm w' (MM.out w' hb) a1
      have HA2 : Hid (∀ w' : World, Below w.heap.size w w' → Calls Tryz.prog 15 #[.string O3] w' fun e w2 => ∃ ik lk sk, e = .returned (.tuple #[.agg #[.slice (some ⟨ik, 0, none⟩) 1024 1024, .slice (some ⟨lk, 0, none⟩) 1024 1024, .slice (some ⟨sk, 0, none⟩) 1024 1024], .int .i64 0, .int .i64 0]) ∧ ImgAt w' b2 ik lk sk w2 ∧ Below w'.heap.size w' w2) := fun w' hb => bAssemble_ok O3 b2 mm w' (MM.out w' hb) a2
      have HAS : Hid (∀ w' : World, Below w.heap.size w w' → Calls Tryz.prog 17 #[] w' fun e w2 => e = .returned (.bool true) ∧ Below w'.heap.size w' w2) := fun w' hb => assembles_any mm w' (MM.out w' hb)
      have HLY := hideIt (And.intro l1 (And.intro l2 (And.intro y1 (And.intro y2 (And.intro hbl hsum)))))
      have HLN : Hid (N ≤ 30 ∧ (itsF G N).length ≤ 2 * N) := ⟨by omega, hln.1⟩
      clear hG8 hok hap hln a1 a2 l1 l2 y1 y2 hsum hbl hss hSS hTT hBS hDN e3 hmm HPK hB hjN hlt hj
      by_cases hrn : rn ≤ 30
      · have hNr : N = rn := by omega
        have hj1 : ¬ (N : Int) < (rn : Int) := by omega
        clear hn
        go_upto_region 12 with (first | (go_at_call 12; refine (HPB.out _).mono ?_; rintro e w2 ⟨rfl, rfl⟩) | (go_at_call 15; refine (HA1.out _ HB.out).mono ?_; rintro e w4 ⟨ik, lk, sk, rfl, him, hb4⟩))
        obtain ⟨W1, hW1, hB1, hz1, hh1⟩ := box_img w4 ik lk sk
        rw [hW1]
        have hbw4 : Below w.heap.size w w4 := HB.out.trans (hb4.mono HB.out.size)
        have hbW1 : Below w.heap.size w W1 := hbw4.trans (hB1.mono hbw4.size)
        have HA3 := hideIt (HA2.out W1 hbW1)
        have H4 := hideIt (And.intro him (And.intro hB1 (And.intro hh1 hbW1)))
        clear him hb4 hW1 hB1 hh1 hbw4 hbW1 HA1 HA2
        go_upto_region 13 with (first | (go_at_call 16; refine (HDN.out _).mono ?_; rintro e w5 ⟨rfl, rfl⟩) | (go_at_call 15; refine HA3.out.mono ?_; rintro e w6 ⟨ik2, lk2, sk2, rfl, him2, hb6⟩))
        obtain ⟨W2, hW2, hB2, hz2, hh2⟩ := box_img w6 ik2 lk2 sk2
        rw [hW2]
        have hbw6 := H4.out.2.2.2.trans (hb6.mono H4.out.2.2.2.size)
        have hbW2 : Below w.heap.size w W2 := hbw6.trans (hB2.mono hbw6.size)
        have HAS2 := hideIt (HAS.out W2 hbW2)
        have KS : Hid (∀ w7 : World, Below W2.heap.size W2 w7 → ShAt w w7 w4.heap.size w6.heap.size ik lk sk ik2 lk2 sk2 b1 b2) := fun w7 hb7 => by
          have z6 := hb6.size
          have z7 := hb7.size
          have key : ∀ k, k < w4.heap.size + 1 → w7.heap[k]? = w5.heap[k]? := fun k hk => (hb7.block k (by omega)).trans ((hB2.block k (by omega)).trans (hb6.block k (by omega)))
          have key6 : ∀ k, k < w6.heap.size → w7.heap[k]? = w6.heap[k]? := fun k hk => (hb7.block k (by omega)).trans (hB2.block k hk)
          have i1 := H4.out.1.1.lt
          have i2 := H4.out.1.2.1.lt
          have i3 := him2.1.lt
          have i4 := him2.2.1.lt
          exact ⟨(key _ (by omega)).trans H4.out.2.2.1, (hb7.block _ (by omega)).trans hh2, H4.out.1.1.kept ((key _ (by omega)).trans (H4.out.2.1.block _ i1)), H4.out.1.2.1.kept ((key _ (by omega)).trans (H4.out.2.1.block _ i2)), him2.1.kept (key6 _ i3), him2.2.1.kept (key6 _ i4), hbW2.trans (hb7.mono hbW2.size)⟩
        clear him2 hb6 hW2 hB2 hh2 hbw6 hbW2 HAS HA3
        go_upto_region 14 with (first | (go_at_call 17; refine HAS2.out.mono ?_; rintro e w7 ⟨rfl, hb7⟩))
        have hsh := KS.out w7 hb7
        have u0 : w7.cell? ⟨w4.heap.size, 0, none⟩ = some (.slice (some ⟨ik, 0, none⟩) 1024 1024) := by rw [cell_of_row _ _ _ _ _ (0, 0) hsh.c1]; rfl
        have u1 : w7.cell? ⟨w4.heap.size, 1, none⟩ = some (.slice (some ⟨lk, 0, none⟩) 1024 1024) := by rw [cell_of_row _ _ _ _ _ (0, 0) hsh.c1]; rfl
        have v0 : w7.cell? ⟨w6.heap.size, 0, none⟩ = some (.slice (some ⟨ik2, 0, none⟩) 1024 1024) := by rw [cell_of_row _ _ _ _ _ (0, 0) hsh.c2]; rfl
        have v1 : w7.cell? ⟨w6.heap.size, 1, none⟩ = some (.slice (some ⟨lk2, 0, none⟩) 1024 1024) := by rw [cell_of_row _ _ _ _ _ (0, 0) hsh.c2]; rfl
        have HSH := hideIt hsh
        clear hsh hb7 KS HAS2
        go_wp2_with fail
        go_loopw [15] (fun i wz => ∃ k : Nat, k ≤ 1024 ∧ i = .int .i64 k ∧ ShAt w wz w4.heap.size w6.heap.size ik lk sk ik2 lk2 sk2 b1 b2) (fun i _ => 1024 - (intOf i).toNat)
        case atStart => exact ⟨0, Nat.zero_le _, rfl, HSH.out⟩
        case round =>
          clear u0 u1 v0 v1 HSH
          obtain ⟨k, hk, rfl, hsh⟩ := hrel
          obtain ⟨u0, u1, v0, v1⟩ := hsh.cells
          have HSZ := hideIt hsh
          obtain ⟨l1, l2, y1, y2, hbl, hsum⟩ := HLY.out
          have hln := HLN.out
          by_cases hk4 : k < 1024
          · have hki : (k : Int) < 1024 := by omega
            by_cases hkn : k < n
            · have hkni : (k : Int) < (n : Int) := by omega
              have hkf : ((n : Int) ≤ (k : Int)) = False := eq_false (by omega)
              have hkd : decide ((n : Int) ≤ (k : Int)) = false := decide_eq_false (by omega)
              have cl := hsh.low l2 hkn
              clear hsh l1 l2 y1 y2 hbl hsum hln
              go_wp2_with fail
              go_quiet (fail)
              go_wp2
              go_roundw
              case rel => exact ⟨k + 1, by omega, by go_num, by first | exact HSZ.out.drewN _ | exact HSZ.out.drew⟩
              case measure => simp [intOf]; omega
            · have hkni : ¬ (k : Int) < (n : Int) := by omega
              have hkn2 : (n : Int) ≤ (k : Int) := by omega
              obtain ⟨x, z, p1, p2, p3, p4⟩ := hsh.high l1 l2 y1 y2 (by omega) (by omega) (k := k) (by omega) hk4
              obtain ⟨q, hq⟩ : ∃ q, k - n = q := ⟨_, rfl⟩
              rw [hq] at p1 p3
              have hqi : (k : Int) - (n : Int) = (q : Int) := by omega
              have hq4 : (q : Int) < 1024 := by omega
              have hwq : IntKind.i64.wrap (q : Int) = (q : Int) := by rw [IntKind.wrap_i64]; omega
              clear hsh l1 l2 y1 y2 hbl hsum hln hq
              go_wp2_with fail
              go_quiet (fail)
              go_wp2
              go_roundw
              case rel => exact ⟨k + 1, by omega, by go_num, by first | exact HSZ.out.drewN _ | exact HSZ.out.drew⟩
              case measure => simp [intOf]; omega
          · have hki : ¬ (k : Int) < 1024 := by omega
            clear hsh l1 l2 y1 y2 hbl hsum hln
            go_wp2
            go_ret
            exact ⟨rfl, HSZ.out.blw⟩
      · have hNr : N = 30 := by omega
        have hj1 : (30 : Int) < (rn : Int) := by omega
        have hj2 : (N : Int) = 30 := by omega
        rw [hj2]
        clear hn
        go_upto_region 12 with (first | (go_at_call 12; refine (HPB.out _).mono ?_; rintro e w2 ⟨rfl, rfl⟩) | (go_at_call 15; refine (HA1.out _ HB.out).mono ?_; rintro e w4 ⟨ik, lk, sk, rfl, him, hb4⟩))
        obtain ⟨W1, hW1, hB1, hz1, hh1⟩ := box_img w4 ik lk sk
        rw [hW1]
        have hbw4 : Below w.heap.size w w4 := HB.out.trans (hb4.mono HB.out.size)
        have hbW1 : Below w.heap.size w W1 := hbw4.trans (hB1.mono hbw4.size)
        have HA3 := hideIt (HA2.out W1 hbW1)
        have H4 := hideIt (And.intro him (And.intro hB1 (And.intro hh1 hbW1)))
        clear him hb4 hW1 hB1 hh1 hbw4 hbW1 HA1 HA2
        go_upto_region 13 with (first | (go_at_call 16; refine (HDN.out _).mono ?_; rintro e w5 ⟨rfl, rfl⟩) | (go_at_call 15; refine HA3.out.mono ?_; rintro e w6 ⟨ik2, lk2, sk2, rfl, him2, hb6⟩))
        obtain ⟨W2, hW2, hB2, hz2, hh2⟩ := box_img w6 ik2 lk2 sk2
        rw [hW2]
        have hbw6 := H4.out.2.2.2.trans (hb6.mono H4.out.2.2.2.size)
        have hbW2 : Below w.heap.size w W2 := hbw6.trans (hB2.mono hbw6.size)
        have HAS2 := hideIt (HAS.out W2 hbW2)
        have KS : Hid (∀ w7 : World, Below W2.heap.size W2 w7 → ShAt w w7 w4.heap.size w6.heap.size ik lk sk ik2 lk2 sk2 b1 b2) := fun w7 hb7 => by
          have z6 := hb6.size
          have z7 := hb7.size
          have key : ∀ k, k < w4.heap.size + 1 → w7.heap[k]? = w5.heap[k]? := fun k hk => (hb7.block k (by omega)).trans ((hB2.block k (by omega)).trans (hb6.block k (by omega)))
          have key6 : ∀ k, k < w6.heap.size → w7.heap[k]? = w6.heap[k]? := fun k hk => (hb7.block k (by omega)).trans (hB2.block k hk)
          have i1 := H4.out.1.1.lt
          have i2 := H4.out.1.2.1.lt
          have i3 := him2.1.lt
          have i4 := him2.2.1.lt
          exact ⟨(key _ (by omega)).trans H4.out.2.2.1, (hb7.block _ (by omega)).trans hh2, H4.out.1.1.kept ((key _ (by omega)).trans (H4.out.2.1.block _ i1)), H4.out.1.2.1.kept ((key _ (by omega)).trans (H4.out.2.1.block _ i2)), him2.1.kept (key6 _ i3), him2.2.1.kept (key6 _ i4), hbW2.trans (hb7.mono hbW2.size)⟩
        clear him2 hb6 hW2 hB2 hh2 hbw6 hbW2 HAS HA3
        go_upto_region 14 with (first | (go_at_call 17; refine HAS2.out.mono ?_; rintro e w7 ⟨rfl, hb7⟩))
        have hsh := KS.out w7 hb7
        have u0 : w7.cell? ⟨w4.heap.size, 0, none⟩ = some (.slice (some ⟨ik, 0, none⟩) 1024 1024) := by rw [cell_of_row _ _ _ _ _ (0, 0) hsh.c1]; rfl
        have u1 : w7.cell? ⟨w4.heap.size, 1, none⟩ = some (.slice (some ⟨lk, 0, none⟩) 1024 1024) := by rw [cell_of_row _ _ _ _ _ (0, 0) hsh.c1]; rfl
        have v0 : w7.cell? ⟨w6.heap.size, 0, none⟩ = some (.slice (some ⟨ik2, 0, none⟩) 1024 1024) := by rw [cell_of_row _ _ _ _ _ (0, 0) hsh.c2]; rfl
        have v1 : w7.cell? ⟨w6.heap.size, 1, none⟩ = some (.slice (some ⟨lk2, 0, none⟩) 1024 1024) := by rw [cell_of_row _ _ _ _ _ (0, 0) hsh.c2]; rfl
        have HSH := hideIt hsh
        clear hsh hb7 KS HAS2
        go_wp2_with fail
        go_loopw [15] (fun i wz => ∃ k : Nat, k ≤ 1024 ∧ i = .int .i64 k ∧ ShAt w wz w4.heap.size w6.heap.size ik lk sk ik2 lk2 sk2 b1 b2) (fun i _ => 1024 - (intOf i).toNat)
        case atStart => exact ⟨0, Nat.zero_le _, rfl, HSH.out⟩
        case round =>
          clear u0 u1 v0 v1 HSH
          obtain ⟨k, hk, rfl, hsh⟩ := hrel
          obtain ⟨u0, u1, v0, v1⟩ := hsh.cells
          have HSZ := hideIt hsh
          obtain ⟨l1, l2, y1, y2, hbl, hsum⟩ := HLY.out
          have hln := HLN.out
          by_cases hk4 : k < 1024
          · have hki : (k : Int) < 1024 := by omega
            by_cases hkn : k < n
            · have hkni : (k : Int) < (n : Int) := by omega
              have hkf : ((n : Int) ≤ (k : Int)) = False := eq_false (by omega)
              have hkd : decide ((n : Int) ≤ (k : Int)) = false := decide_eq_false (by omega)
              have cl := hsh.low l2 hkn
              clear hsh l1 l2 y1 y2 hbl hsum hln
              go_wp2_with fail
              go_quiet (fail)
              go_wp2
              go_roundw
              case rel => exact ⟨k + 1, by omega, by go_num, by first | exact HSZ.out.drewN _ | exact HSZ.out.drew⟩
              case measure => simp [intOf]; omega
            · have hkni : ¬ (k : Int) < (n : Int) := by omega
              have hkn2 : (n : Int) ≤ (k : Int) := by omega
              obtain ⟨x, z, p1, p2, p3, p4⟩ := hsh.high l1 l2 y1 y2 (by omega) (by omega) (k := k) (by omega) hk4
              obtain ⟨q, hq⟩ : ∃ q, k - n = q := ⟨_, rfl⟩
              rw [hq] at p1 p3
              have hqi : (k : Int) - (n : Int) = (q : Int) := by omega
              have hq4 : (q : Int) < 1024 := by omega
              have hwq : IntKind.i64.wrap (q : Int) = (q : Int) := by rw [IntKind.wrap_i64]; omega
              clear hsh l1 l2 y1 y2 hbl hsum hln hq
              go_wp2_with fail
              go_quiet (fail)
              go_wp2
              go_roundw
              case rel => exact ⟨k + 1, by omega, by go_num, by first | exact HSZ.out.drewN _ | exact HSZ.out.drew⟩
              case measure => simp [intOf]; omega
          · have hki : ¬ (k : Int) < 1024 := by omega
            clear hsh l1 l2 y1 y2 hbl hsum hln
            go_wp2
            go_ret
            exact ⟨rfl, HSZ.out.blw⟩
end Go.Proofs.YthokdbcpkmcieaaGreatDoor
