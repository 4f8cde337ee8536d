/- The document's host: NewHost. -/
import Derived.Test.YthokdbcpkmcieaaGreatRhC
import Derived.Test.YthokdbcpkmcieaaGreatBoK
namespace Go.Proofs.YthokdbcpkmcieaaGreat
open Go Go.RowKit
/-- The cells of a new host behind its two lists. -/
def newHL (ses : List UInt8) : List Value := [.int .i64 0, .bool false, .string (txt ses), .int .i64 255, .string ⟨#[]⟩, .int .i64 0, .int .i64 0, .int .i64 0, .bool false, .int .i64 0, .int .i64 0, .bool false, .string ⟨#[]⟩]
structure RHN (w wr : World) (hb : Nat) (ses : List UInt8) (v u : Value) (ns bs : List Value) : Prop where
  c0 : wr.cell? ⟨hb, 0, none⟩ = some v
  c1 : wr.cell? ⟨hb, 1, none⟩ = some u
  cs : ∀ j x, (newHL ses)[j]? = some x → wr.cell? ⟨hb, j + 2, none⟩ = some x
  fz : ∀ j, wr.frozen? ⟨hb, j, none⟩ = false
  r0 : wr.ownsRow (hb + 1) 3 1 v ns.length ns
  r1 : wr.ownsRow (hb + 1) 9 1 u bs.length bs
  ap : ∀ g, v.ownBlock = some g → u.ownBlock ≠ some g
  below : Below w.heap.size w wr
  ge : w.heap.size < hb
  lt : hb < wr.heap.size
theorem RHN.step0 {w wr wn : World} {hb : Nat} {ses : List UInt8} {v v' u : Value} {ns bs : List Value} {x : Value} {o : Obj} (h : RHN w wr hb ses v u ns bs) (hown : wn.ownsRow (hb + 1) 3 1 v' (ns.length + 1) (ns ++ [x])) (hgr : (wr.alloc o).grownBy wn v.ownBlock) (hloc : v'.ownBlock = v.ownBlock ∨ v'.ownBlock = some (wr.alloc o).heap.size) :
    wn.cell? ⟨hb, 0, none⟩ = some v ∧ wn.frozen? ⟨hb, 0, none⟩ = false ∧ RHN w (wn.setCell ⟨hb, 0, none⟩ v') hb ses v' u (ns ++ [x]) bs ∧ ∀ k, k < hb → (wn.setCell ⟨hb, 0, none⟩ v').heap[k]? = wr.heap[k]? := by
  have hlt := h.lt
  have hge := h.ge
  have hz : wr.heap.size + 1 ≤ wn.heap.size := by have := hgr.size; simpa using this
  have key : ∀ k, k ≤ hb → wn.heap[k]? = wr.heap[k]? := fun k hk => by
    rw [hgr.block k (by simp; omega) (fun e => by have := (h.r0.lt k e.symm).1; omega), Below.heap_alloc _ _ _ (by omega)]
  have hc : ∀ j, wn.cell? ⟨hb, j, none⟩ = wr.cell? ⟨hb, j, none⟩ := fun j => World.cell?_of_block (a := ⟨hb, j, none⟩) (key _ (Nat.le_refl _))
  have hf : ∀ j, wn.frozen? ⟨hb, j, none⟩ = false := fun j => (World.frozen?_of_block (a := ⟨hb, j, none⟩) (key _ (Nat.le_refl _))).trans (h.fz j)
  have hu : wn.ownsRow (hb + 1) 9 1 u bs.length bs := own_atE h.r1 (fun k hk => by
    have hkl := (h.r1.lt k hk).2
    rw [hgr.block k (by simp; omega) (fun e => h.ap k e.symm hk), Below.heap_alloc _ _ _ hkl])
  refine ⟨(hc 0).trans h.c0, hf 0, ⟨World.cell?_setCell_same _ _ _ ((hc 0).trans h.c0), (World.cell?_setCell_other _ _ _ _ (by simp)).trans ((hc 1).trans h.c1), fun j y hy => (World.cell?_setCell_other _ _ _ _ (by simp)).trans ((hc _).trans (h.cs j y hy)), fun j => by simp [hf j], ?_, own_set hu (by omega), fun g hg e => ?_, ?_, hge, by simp [World.setCell]; omega⟩, fun k hk => (heap_setCell_other wn ⟨hb, 0, none⟩ k v' (by simp; omega)).trans (key k (by omega))⟩
  · rw [List.length_append]; exact own_set hown (by omega)
  · rcases hloc with e2 | e2
    · exact h.ap g (e2.symm.trans hg) e
    · rw [hg] at e2
      have := (h.r1.lt g e).2
      simp at e2
      omega
  · exact ⟨hgr.os.trans h.below.os, hgr.tape.trans h.below.tape, hgr.output.trans h.below.output, by have := h.below.size; simp [World.setCell]; omega, fun k hk => (heap_setCell_other wn ⟨hb, 0, none⟩ k v' (by simp; omega)).trans ((key k (by omega)).trans (h.below.block k hk))⟩
theorem RHN.step1 {w wr wn : World} {hb : Nat} {ses : List UInt8} {v u u' : Value} {ns bs : List Value} {x : Value} {o : Obj} (h : RHN w wr hb ses v u ns bs) (hown : wn.ownsRow (hb + 1) 9 1 u' (bs.length + 1) (bs ++ [x])) (hgr : (wr.alloc o).grownBy wn u.ownBlock) (hloc : u'.ownBlock = u.ownBlock ∨ u'.ownBlock = some (wr.alloc o).heap.size) :
    wn.cell? ⟨hb, 1, none⟩ = some u ∧ wn.frozen? ⟨hb, 1, none⟩ = false ∧ RHN w (wn.setCell ⟨hb, 1, none⟩ u') hb ses v u' ns (bs ++ [x]) ∧ ∀ k, k < hb → (wn.setCell ⟨hb, 1, none⟩ u').heap[k]? = wr.heap[k]? := by
  have hlt := h.lt
  have hge := h.ge
  have hz : wr.heap.size + 1 ≤ wn.heap.size := by have := hgr.size; simpa using this
  have key : ∀ k, k ≤ hb → wn.heap[k]? = wr.heap[k]? := fun k hk => by
    rw [hgr.block k (by simp; omega) (fun e => by have := (h.r1.lt k e.symm).1; omega), Below.heap_alloc _ _ _ (by omega)]
  have hc : ∀ j, wn.cell? ⟨hb, j, none⟩ = wr.cell? ⟨hb, j, none⟩ := fun j => World.cell?_of_block (a := ⟨hb, j, none⟩) (key _ (Nat.le_refl _))
  have hf : ∀ j, wn.frozen? ⟨hb, j, none⟩ = false := fun j => (World.frozen?_of_block (a := ⟨hb, j, none⟩) (key _ (Nat.le_refl _))).trans (h.fz j)
  have hv : wn.ownsRow (hb + 1) 3 1 v ns.length ns := own_atE h.r0 (fun k hk => by
    have hkl := (h.r0.lt k hk).2
    rw [hgr.block k (by simp; omega) (fun e => h.ap k hk e.symm), Below.heap_alloc _ _ _ hkl])
  refine ⟨(hc 1).trans h.c1, hf 1, ⟨(World.cell?_setCell_other _ _ _ _ (by simp)).trans ((hc 0).trans h.c0), World.cell?_setCell_same _ _ _ ((hc 1).trans h.c1), fun j y hy => (World.cell?_setCell_other _ _ _ _ (by simp)).trans ((hc _).trans (h.cs j y hy)), fun j => by simp [hf j], own_set hv (by omega), ?_, fun g hg e => ?_, ?_, hge, by simp [World.setCell]; omega⟩, fun k hk => (heap_setCell_other wn ⟨hb, 1, none⟩ k u' (by simp; omega)).trans (key k (by omega))⟩
  · rw [List.length_append]; exact own_set hown (by omega)
  · rcases hloc with e2 | e2
    · exact h.ap g hg (e2.symm.trans e)
    · rw [e] at e2
      have := (h.r0.lt g hg).2
      simp at e2
      omega
  · exact ⟨hgr.os.trans h.below.os, hgr.tape.trans h.below.tape, hgr.output.trans h.below.output, by have := h.below.size; simp [World.setCell]; omega, fun k hk => (heap_setCell_other wn ⟨hb, 1, none⟩ k u' (by simp; omega)).trans ((key k (by omega)).trans (h.below.block k hk))⟩
theorem la_of_row {w : World} {base : Nat} {e : TypeId} {v : Value} {xs : List Value} (h : w.ownsRow base e 1 v xs.length xs) (lb0 : Nat) (hl0 : lb0 < w.heap.size) : ∃ lb, LA w lb v xs ∧ (lb = lb0 ∨ base ≤ lb) ∧ lb < w.heap.size := by
  by_cases hn : 0 < xs.length
  · obtain ⟨g, cap, rfl, h1, h2⟩ := own_some h hn
    have hcap : xs.length ≤ cap ∧ cap ≤ 9223372036854775807 := by
      obtain ⟨_, ⟨e, _⟩ | ⟨g', cap', cur, e, hg, hh, h3, h4, _⟩⟩ := h
      · cases e
      · cases e
        unfold maxLen at h4
        exact ⟨h3, by omega⟩
    refine ⟨g, ⟨⟨_, cap, rfl, hcap.1, hcap.2, fun _ => ⟨rfl, fun i hi => ?_⟩⟩⟩, .inr h1, h2⟩
    have q1 := h.cells (g := g) rfl i _ (List.getElem?_eq_getElem hi)
    rw [Addr.add_lit, Nat.zero_add] at q1
    exact q1
  · have hl : xs.length = 0 := by omega
    obtain ⟨_, ⟨e, _⟩ | ⟨g', cap', cur, e, hg, hh, h3, h4, _⟩⟩ := h
    · subst e
      exact ⟨lb0, ⟨⟨none, 0, by rw [hl], by omega, by omega, fun e => absurd e hn⟩⟩, .inl rfl, hl0⟩
    · subst e
      unfold maxLen at h4
      exact ⟨lb0, ⟨⟨_, cap', rfl, h3, by omega, fun e => absurd e hn⟩⟩, .inl rfl, hl0⟩
def dst0 (i : Img) (ses : List UInt8) : RHst := ⟨wantI i, 0, false, ses, 255, [], 0, 0, 0, false, 0, 0, ⟨false, []⟩⟩
theorem RHN.host {w wr : World} {hb : Nat} {ses : List UInt8} {v u : Value} {i : Img} (h : RHN w wr hb ses v u (pgNs (wantI i)) (pgBs (wantI i))) : ∃ wb bb, RHM wr hb wb bb (dst0 i ses) ∧ w.heap.size ≤ wb ∧ w.heap.size ≤ bb := by
  have hge := h.ge
  have hlt := h.lt
  obtain ⟨wb, l1, e1, t1⟩ := la_of_row h.r0 w.heap.size (by omega)
  obtain ⟨bb, l2, e2, t2⟩ := la_of_row h.r1 w.heap.size (by omega)
  refine ⟨wb, bb, ⟨h.cs 0 _ rfl, h.cs 1 _ rfl, h.cs 2 _ rfl, h.cs 3 _ rfl, h.cs 4 _ rfl, h.cs 5 _ rfl, h.cs 6 _ rfl, h.cs 7 _ rfl, h.cs 8 _ rfl, h.cs 9 _ rfl, h.cs 10 _ rfl, ⟨v, h.c0, l1⟩, ⟨u, h.c1, l2⟩, ⟨h.cs 11 _ rfl, h.cs 12 _ rfl, h.fz, hlt⟩, ⟨by omega, by omega⟩, ⟨t1, t2⟩⟩, by omega, by omega⟩
theorem same0 (i : Img) (s : Int) (hb : i.bytes.length = 1024) : SameH (hst0 i (sesN s)) (raskD (dst0 i [UInt8.ofNat (sesN s / 256), UInt8.ofNat (sesN s % 256)]) 1 []) := by
  have hz : UInt8.ofNat ((255 + 1) % 256) = 0 := rfl
  refine ⟨rfl, .inl ⟨rfl, rfl⟩, fun _ => ⟨rfl, Nat.zero_le _, rfl, ?_, ?_, ?_, rfl, rfl, rfl, rfl, fun e => by have : (1 : Nat) = 3 := e; omega, fun e => by have : (1 : Nat) = 4 := e; omega, fun e => by have : (1 : Nat) = 5 := e; omega⟩, ⟨wantS_len i 16, wantS_pages i hb 16 (Nat.le_refl _), Nat.zero_le _, rfl, ?_, ?_, ?_, ?_, ?_, ?_, ?_⟩⟩
  · show ([UInt8.ofNat (sesN s / 256), UInt8.ofNat (sesN s % 256)] ++ [UInt8.ofNat ((255 + 1) % 256), 1]) ++ [] = headH (sesN s) 0 1 ++ []
    rw [hz]
    rfl
  · show (255 + 1) % 256 = (0 : UInt8).toNat
    rfl
  · show (1 : UInt8).toNat = (1 : UInt8).toNat
    rfl
  · show (255 + 1) % 256 ≤ 255
    decide
  · show (([UInt8.ofNat (sesN s / 256), UInt8.ofNat (sesN s % 256)] ++ [UInt8.ofNat ((255 + 1) % 256), 1]) ++ ([] : List UInt8)).length ≤ 1000
    simp
  · show (1 : UInt8).toNat ≤ 255
    decide
  · show 1 ≤ 5
    decide
  · show 0 ≤ 3
    decide
  · show 0 < 65536
    decide
  · show 0 ≤ 2
    decide
end Go.Proofs.YthokdbcpkmcieaaGreat
namespace Go.Proofs.YthokdbcpkmcieaaGreat
open Go Go.RowKit
attribute [local go_sem ↓] Go.wp_at_zero Go.wp_at_succ
theorem Tryz.infoInt : (Tryz.prog.info? 3).map (fun i => (i.zero, i.size, i.bytes)) = some (some (.int .i64 0), 1, 8) := by kernel_rfl
theorem ses_mod (s : Int) : Int.tmod (Int.tmod s 65536 + 65536) 65536 = (sesN s : Int) ∧ -65536 < Int.tmod s 65536 ∧ Int.tmod s 65536 < 65536 := by
  have hk : (sesN s : Int) = s % 65536 := by unfold sesN; omega
  have h3 : Int.tmod s 65536 = s % 65536 ∨ Int.tmod s 65536 = s % 65536 - 65536 := by
    rw [Int.tmod_eq_emod]
    split
    · left; omega
    · right; rfl
  have h4 : -65536 < Int.tmod s 65536 ∧ Int.tmod s 65536 < 65536 := ⟨Int.lt_tmod_of_pos s (by decide), Int.tmod_lt_of_pos s (by decide)⟩
  rw [hk, Int.tmod_eq_emod_of_nonneg (by omega)]
  omega
/-- A host of the document at hb, its lists behind n. -/
def RHBegun (w : World) (hb n : Nat) (d : RHst) : Prop := ∃ wb bb, RHM w hb wb bb d ∧ n ≤ wb ∧ n ≤ bb ∧ n ≤ hb
theorem pgNs_snoc (l : List Pg) (p : Pg) : pgNs (l ++ [p]) = pgNs l ++ [.int .i64 (p.n.toNat : Int)] := by simp [pgNs]
theorem pgBs_snoc (l : List Pg) (p : Pg) : pgBs (l ++ [p]) = pgBs l ++ [.string (txt p.bs)] := by simp [pgBs]
set_option maxRecDepth 100000 in
set_option maxHeartbeats 8000000 in
theorem rnewHost_any (a0 a1 a2 : Option Addr) (c0 c1 c2 : Nat) (i : Img) (s : Int) (w : World) (hI : ImgAt w (.slice a0 1024 c0) (.slice a1 1024 c1) (.slice a2 1024 c2) i) (hb : i.bytes.length = 1024) (hl : i.laid.length = 1024) :
    Calls Tryz.prog 19 #[.agg #[.slice a0 1024 c0, .slice a1 1024 c1, .slice a2 1024 c2], .int .i64 s] w fun e w' => ∃ hb, e = .returned (.tuple #[.pointer (some ⟨hb, 0, none⟩), .int .i64 0]) ∧ RHBegun w' hb w.heap.size (raskD (dst0 i [UInt8.ofNat (sesN s / 256), UInt8.ofNat (sesN s % 256)]) 1 []) ∧ Below w.heap.size w w' := by
  obtain ⟨j0, gi, gz0, gz1, gz2⟩ := info_of Tryz.infoInt
  obtain ⟨W, hW, hB, hz, k0, k1, k2⟩ := img_cells w (.slice a0 1024 c0) (.slice a1 1024 c1) (.slice a2 1024 c2)
  have hWz : W.heap.size = w.heap.size + 1 := by rw [← hW]; simp
  have HWH := hideIt (rwhole_any a0 a1 a2 1024 1024 1024 c0 c1 c2 (by omega) (by omega) (by omega) W)
  have hdd : (decide ((1024 : Nat) = 1024) && (decide ((1024 : Nat) = 1024) && decide ((1024 : Nat) = 1024))) = true := by decide
  rw [hdd] at HWH
  obtain ⟨hs1, hs2, hs3⟩ := ses_mod s
  have HT := hideIt (fun w' => two_any (sesN s) (sesN_lt s) w')
  obtain ⟨i0, hi0, hz0, hz1, hz2⟩ := info_of Tryz.infoStr
  have hSNl : (sesN s : Int) < 65536 := by have := sesN_lt s; omega
  obtain ⟨SN, hSN⟩ : ∃ SN, sesN s = SN := ⟨_, rfl⟩
  rw [hSN] at hs1 HT hSNl ⊢
  obtain ⟨Y, hY⟩ : ∃ Y, Int.tmod s 65536 = Y := ⟨_, rfl⟩
  rw [hY] at hs1 hs2 hs3
  obtain ⟨ax, cx, e0, hc01, hc02, h0⟩ := hI.b.is
  have hbl : (byteVs i.bytes).length = 1024 := by rw [byteVs_len, hb]
  rw [hbl] at e0 hc01
  cases e0
  obtain ⟨b0, off0, rfl, hb0, kk0⟩ := h0 (by omega)
  obtain ⟨ay, cy, e1, hc11, hc12, h1⟩ := hI.l.is
  have hll : (boolVs i.laid).length = 1024 := by unfold boolVs; rw [List.length_map, hl]
  rw [hll] at e1 hc11
  cases e1
  obtain ⟨b1, off1, rfl, hb1, kk1⟩ := h1 (by omega)
  have HK0 : Hid (∀ q (hq : q < i.bytes.length), w.cell? ⟨b0, off0 + q, none⟩ = some (.int .u8 (i.bytes[q].toNat : Int))) := fun q hq => by
    have := kk0 q (by rw [hbl]; omega)
    rw [this]
    simp [byteVs]
  have HK1 : Hid (∀ q (hq : q < i.laid.length), w.cell? ⟨b1, off1 + q, none⟩ = some (.bool i.laid[q])) := fun q hq => by
    have := kk1 q (by rw [hll]; omega)
    rw [this]
    simp [boolVs]
  have hci0 : (1024 : Int) ≤ (c0 : Int) := by omega
  have hcj0 : (c0 : Int) ≤ 9223372036854775807 := by omega
  have HBW := hideIt hB
  obtain ⟨SS, hSS⟩ : ∃ SS, [UInt8.ofNat (SN / 256), UInt8.ofNat (SN % 256)] = SS := ⟨_, rfl⟩
  rw [hSS] at HT ⊢
  have hSSl : SS.length = 2 := by rw [← hSS]; rfl
  clear hdd hI h0 h1 kk0 kk1 hbl hll hB hSS hSN
  go_enter Tryz.func19, Tryz.ntmps19
  go_wp2_with fail
  refine HWH.out.mono ?_
  rintro e w1 ⟨rfl, hB1⟩
  have HB1 := hideIt hB1
  clear hB1
  go_wp2_with fail
  refine (HT.out _).mono ?_
  rintro e w2 ⟨rfl, hB2⟩
  have hBW2 : Below W.heap.size W w2 := HB1.out.trans (hB2.mono HB1.out.size)
  have HB2 := hideIt hBW2
  have hz2' : w.heap.size < w2.heap.size := Nat.lt_of_lt_of_le hz hBW2.size
  clear hB2 hBW2 HT HWH
  go_wp2_with fail
  go_loopw [8] (fun x wr => ∃ (j : Nat) (v u : Value), j ≤ 16 ∧ x = .int .i64 j ∧ RHN w wr w2.heap.size SS v u (pgNs (wantS i j)) (pgBs (wantS i j)) ∧ wr.heap[w.heap.size]? = W.heap[w.heap.size]?) (fun x _ => 16 - (intOf x).toNat)
  case atStart =>
    have hh := heap_alloc_new w2 (.cells ([Value.slice none 0 0, Value.slice none 0 0] ++ newHL SS).toArray 115)
    have hc : ∀ j x, ([Value.slice none 0 0, Value.slice none 0 0] ++ newHL SS)[j]? = some x → (w2.alloc (.cells ([Value.slice none 0 0, Value.slice none 0 0] ++ newHL SS).toArray 115)).cell? ⟨w2.heap.size, j, none⟩ = some x := fun j x hx => by
      rw [cell_of_row _ _ j _ _ (0, 0) hh]
      simpa using hx
    refine ⟨0, .slice none 0 0, .slice none 0 0, by omega, rfl, ⟨hc 0 _ rfl, hc 1 _ rfl, fun j x hx => hc (j + 2) x (by simpa using hx), fun j => frozen_of_row _ _ _ _ _ hh, World.ownsRow_nil _ _ _ _, World.ownsRow_nil _ _ _ _, fun g hg => by simp [Value.ownBlock] at hg, (HBW.out.trans (HB2.out.mono HBW.out.size)).alloc (by omega) _, hz2', by simp⟩, ?_⟩
    rw [Below.heap_alloc _ _ _ hz2']
    exact HB2.out.block w.heap.size hz
  case round =>
    obtain ⟨j, v, u, hj, rfl, hN, hbx⟩ := hrel
    by_cases hlt : j < 16
    · have hji : (j : Int) < 16 := by omega
      obtain ⟨B, hBe⟩ : ∃ B, 64 * j = B := ⟨_, rfl⟩
      have hmul : (j : Int) * 64 = (B : Int) := by omega
      have hmul2 : ((j : Int) + 1) * 64 = (B : Int) + 64 := by omega
      have hB0 : (0 : Int) ≤ (B : Int) := by omega
      have hBl : (B : Int) ≤ 960 := by omega
      have hwB : IntKind.i64.wrap (B : Int) = (B : Int) := by rw [IntKind.wrap_i64]; omega
      have p0 := (World.cell?_of_block (a := ⟨w.heap.size, 0, none⟩) hbx).trans k0
      have p1 := (World.cell?_of_block (a := ⟨w.heap.size, 1, none⟩) hbx).trans k1
      have hl64 : (laidP i j).length = 64 := page_len64 hl j hlt
      have HLD : Hid (∀ q, q < 64 → ∃ x, (laidP i j)[q]? = some x ∧ wr.cell? ⟨b1, off1 + (B + q), none⟩ = some (.bool x)) := fun q hq => by
        have hq' : q < (laidP i j).length := by omega
        refine ⟨(laidP i j)[q], List.getElem?_eq_getElem hq', ?_⟩
        rw [laidP_get i j q hq' (by omega), hN.below.block b1 hb1 |> World.cell?_of_block (a := ⟨b1, off1 + (B + q), none⟩)]
        have := HK1.out (64 * j + q) (by omega)
        rw [show B + q = 64 * j + q by omega]
        exact this
      have HN := hideIt (And.intro hN hbx)
      clear hN hbx
      go_wp2_with fail
      go_loopw [9, 10] (fun lv x wq => ∃ k : Nat, k ≤ 64 ∧ x = .int .i64 ((B + k : Nat) : Int) ∧ lv = .bool (decide (true ∈ (laidP i j).take k)) ∧ wq = wr) (fun _ x _ => B + 64 - (intOf x).toNat)
      case atStart => exact ⟨0, by omega, by simp, by simp, rfl⟩
      case round =>
        obtain ⟨k, hk, rfl, rfl, rfl⟩ := hrel
        by_cases hk64 : k < 64
        · obtain ⟨xb, hxb, hcx⟩ := HLD.out k hk64
          have htk : (decide (true ∈ (laidP i j).take (k + 1))) = (decide (true ∈ (laidP i j).take k) || xb) := by
            rw [List.take_add_one, hxb]
            cases xb <;> simp
          have HTK := hideIt htk
          obtain ⟨Q, hQ⟩ : ∃ Q, B + k = Q := ⟨_, rfl⟩
          have hQ1 : (Q : Int) < (B : Int) + 64 := by omega
          have hQ2 : (Q : Int) < 1024 := by omega
          have hQ0 : (0 : Int) ≤ (Q : Int) := by omega
          have hwQ : IntKind.i64.wrap ((B : Int) + 64) = (B : Int) + 64 := by rw [IntKind.wrap_i64]; omega
          rw [hQ] at hcx ⊢
          have HQ := hideIt hQ
          clear hxb htk hQ
          cases hd : decide (true ∈ (laidP i j).take k)
          · rw [hd] at HTK
            clear hd
            go_wp2
            go_roundw
            case rel =>
              refine ⟨k + 1, by omega, ?_, ?_, by trivial⟩
              · rw [← HQ.out]; go_num
              · rw [HTK.out]; rfl
            case measure => simp [intOf]; have := HQ.out; omega
          · rw [hd] at HTK
            clear hd hcx
            go_wp2
            go_roundw
            case rel =>
              refine ⟨k + 1, by omega, ?_, ?_, by trivial⟩
              · rw [← HQ.out]; go_num
              · rw [HTK.out]; rfl
            case measure => simp [intOf]; have := HQ.out; omega
        · have hke : k = 64 := by omega
          have htk : (laidP i j).take k = laidP i j := by rw [List.take_of_length_le (by omega)]
          rw [htk]
          obtain ⟨Q, hQ⟩ : ∃ Q, B + k = Q := ⟨_, rfl⟩
          have hQ1 : ¬ (Q : Int) < (B : Int) + 64 := by omega
          have hwQ : IntKind.i64.wrap ((B : Int) + 64) = (B : Int) + 64 := by rw [IntKind.wrap_i64]; omega
          rw [hQ]
          clear hQ htk hke
          have hS : wantS i (j + 1) = wantS i j ++ (if true ∈ laidP i j then [⟨UInt8.ofNat j, bytesP i j⟩] else []) := rfl
          have hnu : (UInt8.ofNat j).toNat = j := by rw [UInt8.toNat_ofNat']; omega
          have hwl := wantS_len i j
          by_cases hin : true ∈ laidP i j
          · rw [decide_eq_true hin]
            rw [if_pos hin] at hS
            have hS0 : pgNs (wantS i (j + 1)) = pgNs (wantS i j) ++ [.int .i64 (j : Int)] := by rw [hS, pgNs_snoc]; simp only [hnu]
            have hS1 : pgBs (wantS i (j + 1)) = pgBs (wantS i j) ++ [.string (txt (bytesP i j))] := by rw [hS, pgBs_snoc]
            have hL0 : (pgNs (wantS i j)).length ≤ 16 := by unfold pgNs; rw [List.length_map]; omega
            have hL1 : (pgBs (wantS i j)).length ≤ 16 := by unfold pgBs; rw [List.length_map]; omega
            have HS := hideIt (And.intro hS0 hS1)
            have HSL := hideIt (And.intro hL0 hL1)
            clear hS hS0 hS1 hL0 hL1 hin HLD
            obtain ⟨va, vm, vc, rfl⟩ := slice_ofR HN.out.1.r0
            have q0 := HN.out.1.c0
            have qlt := HN.out.1.lt
            go_wp2_with (at_builtin; refine wpList_append_own_at _ rfl _ _ 113 rfl (w2.heap.size + 1) 3 j0 _ 1 8 Tryz.underlying113 gi gz0 gz1 gz2 rfl (by decide) _ _ _ rfl (HN.out.1.r0.alloc _) ⟨wr.heap.size, 0, none⟩ 1 1 [.int .i64 (j : Int)] rfl rfl (cells_new _ _ _) (by intro u hu; simp at hu; subst hu; rfl) (by have := HSL.out; unfold maxLen; omega) (by have := HSL.out; omega) (by rw [World.alloc_size]; omega) ?_; intro v' wn hown hgr _ hloc; obtain ⟨a', n', c', rfl⟩ := slice_ofR hown; obtain ⟨t0, t1, t2, t3⟩ := HN.out.1.step0 hown hgr hloc; obtain ⟨wS, hwS⟩ : ∃ wS, wn.setCell ⟨w2.heap.size, 0, none⟩ (Value.slice a' n' c') = wS := ⟨_, rfl⟩; rw [hwS] at t2 t3; have HT0 := hideIt (And.intro t2 t3); clear hown hgr hloc t2 t3 q0)
            obtain ⟨ua, um, uc, rfl⟩ := slice_ofR HT0.out.1.r1
            have u1 := HT0.out.1.c1
            have ult := HT0.out.1.lt
            have hge := HT0.out.1.ge
            have hbx' : wS.heap[w.heap.size]? = W.heap[w.heap.size]? := (HT0.out.2 _ hge).trans HN.out.2
            have r0 := (World.cell?_of_block (a := ⟨w.heap.size, 0, none⟩) hbx').trans k0
            have hbl := page_len64 hb j hlt
            have hcv : (convert 24 9 (.slice (some ⟨b0, off0 + B, none⟩) 64 (c0 - B))).run Tryz.prog wS.drew = .ok (.string (txt (bytesP i j))) wS.drew := by
              have := run_convert_bytes_back (P := Tryz.prog) wS.drew 24 9 5 ⟨b0, off0 + B, none⟩ (c0 - B) (bytesP i j) Tryz.underlying24 Tryz.underlying5 Tryz.underlying9 (fun q hq => by
                have hq64 : q < 64 := by have := hq; unfold bytesP at this; rw [hbl] at this; exact this
                rw [Addr.add_lit, bytesP_get i j q hq (by omega), show off0 + B + q = off0 + (64 * j + q) by omega]
                refine (World.cell?_of_block (w := w) (a := ⟨b0, off0 + (64 * j + q), none⟩) (HT0.out.1.below.block b0 hb0)).trans ?_
                exact HK0.out (64 * j + q) (by omega))
              have hbl' : (bytesP i j).length = 64 := hbl
              rw [hbl'] at this
              exact this
            have h64 : B + 64 - B = 64 := by omega
            obtain ⟨X, hX⟩ : ∃ X, txt (bytesP i j) = X := ⟨_, rfl⟩
            rw [hX] at hcv HS
            obtain ⟨E, hE⟩ : ∃ E, B + 64 = E := ⟨_, rfl⟩
            have hmul3 : ((j : Int) + 1) * 64 = (E : Int) := by omega
            have hE1 : (B : Int) ≤ (E : Int) := by omega
            have hE2 : (E : Int) ≤ 1024 := by omega
            have hE3 : (E : Int) ≤ (c0 : Int) := by omega
            have hE0 : (0 : Int) ≤ (E : Int) := by omega
            have hwE : IntKind.i64.wrap (E : Int) = (E : Int) := by rw [IntKind.wrap_i64]; omega
            have hwj1 : IntKind.i64.wrap ((j : Int) + 1) = (j : Int) + 1 := by rw [IntKind.wrap_i64]; omega
            have hE4 : E - B = 64 := by omega
            have hcB : ¬ c0 = B := by omega
            clear hX hbl hbx' t0 t1 hwS p0 p1 qlt hmul2 hwQ h64 hQ1 hE
            go_region_law (refine step_append_own rfl (.tmp 58) (.tmp 68) 40 rfl (w2.heap.size + 1) 9 i0 _ 1 16 Tryz.underlying40 hi0 hz0 hz1 hz2 rfl (by decide) (.slice ua um uc) _ _ (by simp [Act.eval]) (by exact HT0.out.1.r1.alloc _) ⟨wS.heap.size, 0, none⟩ 1 1 [.string X] (by simp [Act.eval]) rfl (cell_one_new _ _ _) (by intro u hu; simp at hu; subst hu; rfl) (by have := HSL.out; unfold maxLen; omega) (by have := HSL.out; omega) (by simp; omega) ?_; intro v' wn2 hown hgr hloc; obtain ⟨va', vn', vc', rfl⟩ := slice_ofR hown; obtain ⟨t0, t1, t2, t3⟩ := HT0.out.1.step1 (o := .cells #[.string X] 9) hown ⟨hgr.os, hgr.tape, hgr.output, hgr.size, hgr.block⟩ hloc; have HT1 := hideIt (And.intro t2 t3); clear hown hgr hloc t2 t3 u1)
            all_goals
              go_wp2
              go_roundw
              case rel =>
                refine ⟨j + 1, _, _, by omega, by go_num, by rw [HS.out.1, HS.out.2]; exact HT1.out.1, (HT1.out.2 _ hge).trans ((HT0.out.2 _ hge).trans HN.out.2)⟩
              case measure => simp [intOf]; omega
          · rw [decide_eq_false hin]
            rw [if_neg hin, List.append_nil] at hS
            have HS := hideIt hS
            clear hS hin
            go_wp2
            go_roundw
            case rel => exact ⟨j + 1, v, u, by omega, by go_num, by rw [HS.out]; exact HN.out.1, HN.out.2⟩
            case measure => simp [intOf]; omega
    · have hje : j = 16 := by omega
      have hjn : ¬ (j : Int) < 16 := by omega
      subst hje
      obtain ⟨wb, bb, hM, hw1, hw2⟩ := hN.host
      have HR := hideIt (rask_any w2.heap.size wb bb (dst0 i SS) 1 [] wr hM (by show 255 ≤ 255; omega) hSSl (by simp))
      have HN := hideIt (And.intro hN.below (And.intro hw1 hw2))
      clear hN hbx hM hw1 hw2
      go_wp2_with fail
      refine HR.out.mono ?_
      rintro e w3 ⟨rfl, hR3, hG3⟩
      have HR3 := hideIt (And.intro hR3 hG3)
      clear hR3 hG3
      go_wp2
      go_ret2
      refine ⟨_, rfl, ⟨wb, bb, HR3.out.1, HN.out.2.1, HN.out.2.2, by omega⟩, ?_⟩
      have hG := HR3.out.2
      exact ⟨hG.os.trans HN.out.1.os, hG.tape.trans HN.out.1.tape, hG.output.trans HN.out.1.output, Nat.le_trans HN.out.1.size hG.size, fun k hk => (hG.block k (Nat.lt_of_lt_of_le hk HN.out.1.size) (by simp; omega)).trans (HN.out.1.block k hk)⟩
end Go.Proofs.YthokdbcpkmcieaaGreat
namespace Go.Proofs.YthokdbcpkmcieaaGreat
open Go Go.RowKit
attribute [local go_sem ↓] Go.wp_at_zero Go.wp_at_succ
set_option maxRecDepth 100000 in
set_option maxHeartbeats 4000000 in
theorem rnewHost_bad (a0 a1 a2 : Option Addr) (n0 n1 n2 c0 c1 c2 : Nat) (s : Int) (w : World) (h0 : n0 ≤ 9223372036854775807) (h1 : n1 ≤ 9223372036854775807) (h2 : n2 ≤ 9223372036854775807) (hw : (decide (n0 = 1024) && (decide (n1 = 1024) && decide (n2 = 1024))) = false) :
    Calls Tryz.prog 19 #[.agg #[.slice a0 n0 c0, .slice a1 n1 c1, .slice a2 n2 c2], .int .i64 s] w fun e w' => e = .returned (.tuple #[.pointer none, .int .i64 9]) ∧ Below w.heap.size w w' := by
  obtain ⟨W, hW, hB, hz, k0, k1, k2⟩ := img_cells w (.slice a0 n0 c0) (.slice a1 n1 c1) (.slice a2 n2 c2)
  have HWH := hideIt (rwhole_any a0 a1 a2 n0 n1 n2 c0 c1 c2 h0 h1 h2 W)
  rw [hw] at HWH
  have HBW := hideIt hB
  clear hw hB
  go_enter Tryz.func19, Tryz.ntmps19
  go_wp2_with fail
  refine HWH.out.mono ?_
  rintro e w1 ⟨rfl, hB1⟩
  have HZ := hideIt (HBW.out.trans (hB1.mono HBW.out.size))
  clear hB1
  go_wp2
  go_ret2
  exact ⟨rfl, HZ.out⟩
end Go.Proofs.YthokdbcpkmcieaaGreat
