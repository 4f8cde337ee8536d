/- The walk of readOperands. The book: newInstruction. The walk of rows: the table's block. -/
import Derived.Test.YthokdbcpkmcieaaGreatDoorA02
import Derived.BigQuiet
import Derived.Deep.QuietTactic
import Derived.Test.YthokdbcpkmcieaaGreatDoorA11
import Derived.Laws.Rows
import Derived.Test.YthokdbcpkmcieaaGreatDoorRows
import Derived.Test.YthokdbcpkmcieaaGreatDoorA01
import Derived.Test.YthokdbcpkmcieaaGreatDoorA05
namespace Go.Proofs.YthokdbcpkmcieaaGreatDoor
open Go Go.RowKit Go.Shelf
theorem cell_of_block {w : World} {b o : Nat} {c : Array Value} {t : TypeId} {v : Value} (h : w.heap[b]? = some (.cells c t (0, 0))) (hv : c[o]? = some v) : w.cell? ⟨b, o, none⟩ = some v := by
  rw [cell_of_row w b o c t (0, 0) h]; exact hv
theorem Reads.kept {w w' : World} {b g : Nat} {r : ByteArray} {sh : Bool} (h : Reads w b r sh) (hg : w.grownBy w' (some g)) (hne : b ≠ g) (hb : b < w.heap.size) : Reads w' b r sh := by
  have e := hg.block b hb (fun e => hne (Option.some.inj e))
  exact ⟨(World.cell?_of_block (a := ⟨b, 0, none⟩) e).trans h.c0, (World.cell?_of_block (a := ⟨b, 1, none⟩) e).trans h.c1, (World.frozen?_of_block (a := ⟨b, 0, none⟩) e).trans h.f0, (World.frozen?_of_block (a := ⟨b, 1, none⟩) e).trans h.f1⟩
set_option maxRecDepth 100000 in
set_option maxHeartbeats 1000000 in
theorem read_any (base g cap n : Nat) (l : List Opn) (code : ByteArray) (w : World) (hl : l.length = n) (hn : n ≤ 1000) (hown : w.ownsRow base 114 5 (.slice (some ⟨g, 0, none⟩) n cap) n (allCells l))
    (hk : ∀ k, k < n → (l.getD k opn0).kind < 17) (hc : 0 < code.size) (hc2 : code.size ≤ maxLen) :
    Calls Tryz.prog 60 #[.slice (some ⟨g, 0, none⟩) n cap, .string code] w fun e w' =>
      e = .returned (.tuple #[.int .i64 ((code.size : Int) - ((readTo l (code.extract 1 code.size) false n).2.1.size : Int)), .bool (!(readTo l (code.extract 1 code.size) false n).2.2)]) ∧
      w'.ownsRow base 114 5 (.slice (some ⟨g, 0, none⟩) n cap) n (allCells (readTo l (code.extract 1 code.size) false n).1) ∧ w.grownBy w' (some g) := by
  have hgw : g < w.heap.size := (hown.lt g rfl).2
  go_enter Tryz.func60, Tryz.ntmps60
  go_wp2_with fail
  refine (ways_any _).mono ?_
  rintro e w1 ⟨rfl, hb1⟩
  have hs1 : w.heap.size ≤ w1.heap.size := hb1.size
  go_wp2_with (refine wpList_store_row rfl 200 (.tmp 6) (.tmp 9) rfl w1.heap.size waysCells rfl rfl 200 _ (heap_alloc_last w1 _) ways_info rfl ways_one ?_; rw [World.setRow_alloc_new])
  go_loopw [15] (fun i wr => ∃ k : Nat, k ≤ n ∧ i = .int .i64 k ∧ wr.ownsRow base 114 5 (.slice (some ⟨g, 0, none⟩) n cap) n (allCells (readTo l (code.extract 1 code.size) false k).1) ∧ Reads wr (w1.heap.size + 1) (readTo l (code.extract 1 code.size) false k).2.1 (readTo l (code.extract 1 code.size) false k).2.2 ∧ wr.heap[w1.heap.size]? = some (.cells waysCells 200 (0, 0)) ∧ w.grownBy wr (some g) ∧ w1.heap.size + 2 ≤ wr.heap.size) (fun i _ => n - (intOf i).toNat)
  case atStart =>
    refine ⟨0, Nat.zero_le _, rfl, ?_, ⟨by simp [readTo], by simp [readTo], by simp, by simp⟩, ?_, ?_, by simp⟩
    · have : w1.ownsRow base 114 5 (.slice (some ⟨g, 0, none⟩) n cap) n (allCells l) := hown.kept (row := none) ⟨hb1.os, hb1.tape, hb1.output, hb1.size, fun k hk _ => hb1.block k hk⟩ (.inr (by simp [Value.ownBlock]))
      exact (this.alloc _).alloc _
    · rw [Below.heap_alloc _ _ _ (by simp)]; exact heap_alloc_last w1 _
    · have hb2 : Below w.heap.size w ((w1.alloc (.cells waysCells 200)).alloc (.cells #[.string (code.extract 1 code.size), .bool false] 203)) := (hb1.alloc hs1 _).alloc (by simp; omega) _
      exact ⟨hb2.os, hb2.tape, hb2.output, hb2.size, fun k hk _ => hb2.block k hk⟩
  case round =>
    obtain ⟨k, hkn, rfl, hrow, hrd, htab, hgr, hsz⟩ := hrel
    obtain ⟨p, hp⟩ : ∃ p, readTo l (code.extract 1 code.size) false k = p := ⟨_, rfl⟩
    rw [hp] at hrow hrd
    have HP : Hid (readTo l (code.extract 1 code.size) false k = p) := hp
    have hpl : p.1.length = n := by rw [← hp, readTo_len]; exact hl
    have HPL : Hid (p.1.length = n) := hpl
    by_cases hlt : k < n
    · have hkd : (p.1.getD k opn0).kind < 17 := by rw [← hp, readTo_kind]; exact hk k hlt
      obtain ⟨q, hq⟩ : ∃ q, (p.1.getD k opn0).kind = q := ⟨_, rfl⟩
      have HQ : Hid ((p.1.getD k opn0).kind = q) := hq
      rw [hq] at hkd
      have ck : wr.cell? ⟨g, k * 5, none⟩ = some (.int .i64 q) := by rw [hrow.cellAt (k * 5) (by omega), (allCells_at p.1 k (by omega)).1, hq]
      have ca : wr.cell? ⟨g, k * 5 + 3, none⟩ = some (.int .u16 (p.1.getD k opn0).added) := by rw [hrow.cellAt (k * 5 + 3) (by omega), (allCells_at p.1 k (by omega)).2.2.2.1]
      have cw : wr.cell? ⟨w1.heap.size, q * 3 + 1, none⟩ = some (fv (addF q)) := cell_of_block htab (by rw [Nat.mul_comm q 3]; exact addF_cell q hkd)
      have hent := addF_enters q
      clear hp hq hpl
      go_wp2_with fail
      refine (adds_any q (w1.heap.size + 1) p.2.1 p.2.2 _ hrd).mono ?_
      rintro e w2 ⟨rfl, hrd2, hg2⟩
      obtain ⟨t, ht⟩ : ∃ t, readOne q p.2.1 p.2.2 = t := ⟨_, rfl⟩
      rw [ht] at hrd2 ⊢
      have HT : Hid (readOne q p.2.1 p.2.2 = t) := ht
      have hrow2 : w2.ownsRow base 114 5 (.slice (some ⟨g, 0, none⟩) n cap) n (allCells p.1) := hrow.kept hg2 (.inr (by simp [Value.ownBlock]; omega))
      have ca2 : w2.cell? ⟨g, k * 5 + 3, none⟩ = some (.int .u16 (p.1.getD k opn0).added) := by rw [hrow2.cellAt (k * 5 + 3) (by omega), (allCells_at p.1 k (by rw [HPL.out]; exact hlt)).2.2.2.1]
      have cf2 : w2.frozen? ⟨g, k * 5 + 3, none⟩ = false := hrow2.frozenAt _
      have hst := hrow2.stored (k * 5 + 3) (.int .u16 t.1)
      have eN : readTo l (code.extract 1 code.size) false (k + 1) = (p.1.set k ((p.1.getD k opn0).put t.1), t.2.1, t.2.2) := by
        simp only [readTo, HP.out, HQ.out, HT.out]
      have HE : Hid (readTo l (code.extract 1 code.size) false (k + 1) = (p.1.set k ((p.1.getD k opn0).put t.1), t.2.1, t.2.2)) := eN
      have hz2 := hg2.size
      have hrel1 : (w2.setCell ⟨g, k * 5 + 3, none⟩ (.int .u16 t.1)).ownsRow base 114 5 (.slice (some ⟨g, 0, none⟩) n cap) n (allCells (p.1.set k ((p.1.getD k opn0).put t.1))) := by
        rw [← allCells_set p.1 k t.1 (by rw [HPL.out]; exact hlt)]; exact hst.1
      have hrel2 : Reads (w2.setCell ⟨g, k * 5 + 3, none⟩ (.int .u16 t.1)) (w1.heap.size + 1) t.2.1 t.2.2 := hrd2.kept hst.2 (by omega) (by omega)
      have hrel3 : (w2.setCell ⟨g, k * 5 + 3, none⟩ (.int .u16 t.1)).heap[w1.heap.size]? = some (.cells waysCells 200 (0, 0)) := by
        rw [hst.2.block w1.heap.size (by omega) (by simp; omega), hg2.block w1.heap.size (by omega) (by simp)]; exact htab
      have hrel4 : w.grownBy (w2.setCell ⟨g, k * 5 + 3, none⟩ (.int .u16 t.1)) (some g) := by
        refine grown_trans ⟨hg2.os.trans hgr.os, hg2.tape.trans hgr.tape, hg2.output.trans hgr.output, Nat.le_trans hgr.size hg2.size, fun j hj hne => ?_⟩ hst.2
        rw [hg2.block j (Nat.lt_of_lt_of_le hj hgr.size) (by simp; omega)]
        exact hgr.block j hj hne
      have hrel5 : w1.heap.size + 2 ≤ (w2.setCell ⟨g, k * 5 + 3, none⟩ (.int .u16 t.1)).heap.size := by have := hst.2.size; omega
      have R := And.intro hrel1 (And.intro hrel2 (And.intro hrel3 (And.intro hrel4 hrel5)))
      have HR := hideIt R
      clear hrel1 hrel2 hrel3 hrel4 hrel5 R hst hrow hrow2 hrd hrd2 htab hgr hg2 ck ca cw hent eN ht
      go_wp2
      go_roundw
      case rel =>
        have R := HR.out
        refine ⟨k + 1, by omega, by go_num, ?_, ?_, R.2.2.1, R.2.2.2.1, R.2.2.2.2⟩
        · rw [HE.out]; exact R.1
        · rw [HE.out]; exact R.2.1
      case measure => simp [intOf]; omega
    · have hkn' : k = n := by omega
      have HK : Hid (k = n) := hkn'
      have HR := hideIt (And.intro hrow hgr)
      obtain ⟨c0, c1, _, _⟩ := hrd
      have hle : p.2.1.size ≤ maxLen := by
        have := readTo_size l (code.extract 1 code.size) false k
        rw [hp] at this
        simp only [ByteArray.size_extract] at this
        omega
      clear hp hpl hkn' hrow hgr
      unfold maxLen at hc2 hle
      go_wp2
      go_quiet (fail)
      go_wp2
      go_ret2
      rw [← HK.out, HP.out]
      exact ⟨rfl, by rw [HK.out]; exact HR.out.1, ⟨HR.out.2.os, HR.out.2.tape, HR.out.2.output, HR.out.2.size, HR.out.2.block⟩⟩
end Go.Proofs.YthokdbcpkmcieaaGreatDoor
namespace Go.Proofs.YthokdbcpkmcieaaGreatDoor
open Go Go.RowKit Go.Shelf Go.WideMaps Go.Maps
set_option maxRecDepth 100000 in
set_option maxHeartbeats 2000000 in
theorem read_nilB (code : ByteArray) (w : World) (hc : 0 < code.size) (hc2 : code.size ≤ maxLen) :
    Calls Tryz.prog 60 #[.slice none 0 0, .string code] w fun e w' => e = .returned (.tuple #[.int .i64 1, .bool true]) ∧ Below w.heap.size w w' := by
  go_enter Tryz.func60, Tryz.ntmps60
  go_wp2_with fail
  refine (ways_any _).mono ?_
  rintro e w1 ⟨rfl, hb1⟩
  go_wp2_with (refine wpList_store_row rfl 200 (.tmp 6) (.tmp 9) rfl w1.heap.size waysCells rfl rfl 200 _ (heap_alloc_last w1 _) ways_info rfl ways_one ?_; rw [World.setRow_alloc_new])
  refine wp_loop_rounds 1 ?_
  rw [rounds_succ]
  unfold maxLen at hc2
  have hx : (code.extract 1 code.size).size = code.size - 1 := by rw [ByteArray.size_extract]; omega
  have HX := hideIt hx
  have hle : (code.extract 1 code.size).size ≤ 9223372036854775807 := by omega
  clear hx
  go_wp2
  go_quiet (fail)
  go_wp2
  go_ret2
  refine ⟨?_, below_drewN ((hb1.alloc hb1.size _).alloc (by have := hb1.size; simp; omega) _) _⟩
  show Ending.returned (.tuple #[.int .i64 ((code.size : Int) - ((code.size - 1 : Nat) : Int)), .bool true]) = _
  rw [show (code.size : Int) - ((code.size - 1 : Nat) : Int) = 1 by omega]
theorem Tryz.infoKindB : (Tryz.prog.info? 111).map (fun i => (i.zero, i.size, i.bytes)) = some (some (.int .i64 0), 1, 8) := by kernel_rfl
theorem alloc_sizeB (w : World) (o : Obj) : (w.alloc o).heap.size = w.heap.size + 1 := by simp
theorem cells_newB (w : World) (l : List Value) (t : TypeId) : ∀ j u, l[j]? = some u → (w.alloc (.cells l.toArray t)).cell? ((⟨w.heap.size, 0, none⟩ : Addr).add j) = some u := by
  intro j u hj
  rw [Addr.add_lit, Nat.zero_add, cell_of_row _ _ _ _ _ (0, 0) (heap_alloc_new w _)]
  simpa using hj
theorem row_sliceB {w : World} {base : Nat} {e : TypeId} {size n : Nat} {v : Value} {xs : List Value} (h : w.ownsRow base e size v n xs) : ∃ a c, v = .slice a n c := by
  obtain ⟨_, ⟨rfl, rfl⟩ | ⟨g, cap, cur, rfl, _⟩⟩ := h
  · exact ⟨_, _, rfl⟩
  · exact ⟨_, _, rfl⟩
theorem row_belowB {w w' : World} {base e : Nat} {size n g cap : Nat} {xs : List Value} (h : w.ownsRow base e size (.slice (some ⟨g, 0, none⟩) n cap) n xs) (hb : Below w.heap.size w w') : w'.ownsRow base e size (.slice (some ⟨g, 0, none⟩) n cap) n xs :=
  h.kept (row := none) ⟨hb.os, hb.tape, hb.output, hb.size, fun k hk _ => hb.block k hk⟩ (.inr (by simp [Value.ownBlock]))
/-- An instruction in the making. -/
structure NI (w wr : World) (c : Int) (kv : Value) (j : Nat) (ks : List Nat) : Prop where
  hd : wr.heap[w.heap.size]? = some (.cells #[.int .u8 0, .slice none 0 0, .int .i64 0] 128 (0, 0))
  mb : wr.heap[w.heap.size + 1]? = some (.cells #[.int .u8 c, kv, .int .i64 0] 128 (0, 0))
  row : wr.ownsRow (w.heap.size + 2) 111 1 kv j (kindCells ks)
  below : Below w.heap.size w wr
theorem NI.cell {w wr : World} {c : Int} {kv : Value} {j : Nat} {ks : List Nat} (h : NI w wr c kv j ks) (i : Nat) : wr.cell? ⟨w.heap.size + 1, i, none⟩ = #[.int .u8 c, kv, .int .i64 0][i]? := cell_of_row _ _ _ _ _ (0, 0) h.mb
theorem NI.fz {w wr : World} {c : Int} {kv : Value} {j : Nat} {ks : List Nat} (h : NI w wr c kv j ks) (i : Nat) : wr.frozen? ⟨w.heap.size + 1, i, none⟩ = false := frozen_of_row _ _ _ _ _ h.mb
theorem NI.lt {w wr : World} {c : Int} {kv : Value} {j : Nat} {ks : List Nat} (h : NI w wr c kv j ks) : w.heap.size + 1 < wr.heap.size := (Array.getElem?_eq_some_iff.1 h.mb).1
theorem NI.alloc {w wr : World} {c : Int} {kv : Value} {j : Nat} {ks : List Nat} (h : NI w wr c kv j ks) (o : Obj) : NI w (wr.alloc o) c kv j ks :=
  ⟨by rw [Below.heap_alloc _ _ _ (by have := h.lt; omega)]; exact h.hd, by rw [Below.heap_alloc _ _ _ h.lt]; exact h.mb, h.row.alloc _, h.below.alloc h.below.size _⟩
theorem NI.step {w wr wn : World} {c : Int} {kv kv' : Value} {j k : Nat} {ks : List Nat} (h : NI w wr c kv j ks) (hown : wn.ownsRow (w.heap.size + 2) 111 1 kv' (j + 1) (kindCells ks ++ [.int .i64 (k : Int)])) (hgr : wr.grownBy wn kv.ownBlock) : NI w (wn.setCell ⟨w.heap.size + 1, 1, none⟩ kv') c kv' (j + 1) (ks ++ [k]) := by
  have hlt := h.lt
  have kz : (wn.setCell ⟨w.heap.size + 1, 1, none⟩ kv').heap.size = wn.heap.size := by simp [World.setCell]
  have hz := hgr.size
  have hkb : ∀ g, kv.ownBlock = some g → w.heap.size + 2 ≤ g := fun g hg => (h.row.lt g hg).1
  have kn : ∀ k, k < w.heap.size + 2 → wn.heap[k]? = wr.heap[k]? := fun k hk => hgr.block k (by omega) (fun e => by have := hkb k e.symm; omega)
  have ks' : ∀ k, k ≠ w.heap.size + 1 → (wn.setCell ⟨w.heap.size + 1, 1, none⟩ kv').heap[k]? = wn.heap[k]? := fun k hk => heap_setCell_other wn ⟨w.heap.size + 1, 1, none⟩ k kv' hk
  refine ⟨?_, ?_, ?_, ?_⟩
  · rw [ks' _ (by omega), kn _ (by omega)]
    exact h.hd
  · exact heap_setCell_same wn _ 1 _ _ kv' ((kn _ (by omega)).trans h.mb)
  · have e : kindCells (ks ++ [k]) = kindCells ks ++ [.int .i64 (k : Int)] := by simp [kindCells]
    rw [e]
    obtain ⟨hl, ⟨e1, e2⟩ | ⟨g, cap, cur, e1, hg, hh, r⟩⟩ := hown
    · exact ⟨hl, .inl ⟨e1, e2⟩⟩
    · exact ⟨hl, .inr ⟨g, cap, cur, e1, hg, by rw [ks' g (by omega)]; exact hh, r⟩⟩
  · exact ⟨hgr.os.trans h.below.os, hgr.tape.trans h.below.tape, hgr.output.trans h.below.output, by rw [kz]; have := h.below.size; omega, fun k hk => by rw [ks' k (by omega), kn k (by omega)]; exact h.below.block k hk⟩
set_option maxRecDepth 100000 in
set_option maxHeartbeats 4000000 in
theorem newIns_some (c : Int) (l : List Opn) (base g cap n : Nat) (w : World) (hl : l.length = n) (hn : n ≤ 1000) (hrow : w.ownsRow base 114 5 (.slice (some ⟨g, 0, none⟩) n cap) n (allCells l)) (hk : ∀ k, k < n → (l.getD k opn0).kind < 17) :
    Calls Tryz.prog 200 #[.int .u8 c, .slice (some ⟨g, 0, none⟩) n cap] w fun e w' => ∃ kv, e = .returned (insV c kv (3 - ((readTo l ⟨#[0, 0]⟩ false n).2.1.size : Int))) ∧ w'.ownsRow w.heap.size 111 1 kv n (kindCells (l.map (·.kind))) ∧ w.grownBy w' (some g) := by
  obtain ⟨ki, hki, hk0, hk1, hk2⟩ := info_parts Tryz.infoKindB
  have hgw : g < w.heap.size := (hrow.lt g rfl).2
  have HL := hideIt hl
  have HROW := hideIt hrow
  have HKK := hideIt hk
  have hni : (n : Int) ≤ 1000 := by omega
  clear hl hrow hk
  go_enter Tryz.func200, Tryz.ntmps200
  go_wp2_with fail
  go_loopw [13] (fun i wr => ∃ (j : Nat) (kv : Value), j ≤ n ∧ i = .int .i64 j ∧ NI w wr c kv j ((l.take j).map (·.kind))) (fun i _ => n - (intOf i).toNat)
  case atStart =>
    refine ⟨0, .slice none 0 0, Nat.zero_le _, rfl, ?_, ?_, World.ownsRow_nil _ _ _ _, ((Below.refl _ _).alloc (Nat.le_refl _) _).alloc (by simp) _⟩
    · rw [Below.heap_alloc _ _ _ (by simp)]
      exact heap_alloc_new w _
    · have := heap_alloc_new (w.alloc (.cells #[.int .u8 0, .slice none 0 0, .int .i64 0] 128)) (.cells #[.int .u8 c, .slice none 0 0, .int .i64 0] 128)
      rwa [alloc_sizeB] at this
  case round =>
    obtain ⟨j, kv, hj, rfl, hN⟩ := hrel
    obtain ⟨ka, kc, rfl⟩ := row_sliceB hN.row
    have c1 : wr.cell? ⟨w.heap.size + 1, 1, none⟩ = some (.slice ka j kc) := hN.cell 1
    by_cases hlt : j < n
    · have hji : (j : Int) < (n : Int) := by omega
      have hr := row_belowB HROW.out hN.below
      have hjl : j < l.length := by rw [HL.out]; exact hlt
      obtain ⟨a0, a1, a2, a3, a4⟩ := allCells_at l j hjl
      have hc : ∀ i u, (allCells l)[i]? = some u → wr.cell? ⟨g, i, none⟩ = some u := fun i u hu => by
        have := hr.cells (g := g) rfl i u hu
        rwa [Addr.add_lit, Nat.zero_add] at this
      obtain ⟨op, hop⟩ : ∃ op, l.getD j opn0 = op := ⟨_, rfl⟩
      rw [hop] at a0 a1 a2 a3 a4
      have b0 := hc _ _ a0
      have b1 := hc _ _ a1
      have b2 := hc _ _ a2
      have b3 := hc _ _ a3
      have b4 := hc _ _ a4
      have hts : (l.take (j + 1)).map (·.kind) = (l.take j).map (·.kind) ++ [op.kind] := by
        rw [List.take_add_one, List.getElem?_eq_getElem hjl, List.map_append, ← hop, List.getD_eq_getElem?_getD, List.getElem?_eq_getElem hjl]
        rfl
      have HTS := hideIt hts
      have HN := hideIt hN
      have hfz := hN.fz 1
      have hlt2 := hN.lt
      clear a0 a1 a2 a3 a4 hc hr hop hts hN
      go_wp2_with (
        at_builtin
        refine wpList_append_own_at _ rfl _ _ 126 rfl (w.heap.size + 2) 111 ki _ 1 8 Tryz.underlying126 hki hk0 hk1 hk2 rfl (by decide) (.slice ka j kc) j (kindCells ((l.take j).map (·.kind))) rfl ((HN.out.row.alloc _).alloc _) ⟨wr.heap.size + 1, 0, none⟩ 1 1 [.int .i64 (op.kind : Int)] rfl rfl (by have := cells_newB (wr.alloc (.cells #[.int .i64 (op.kind : Int), .string op.name, .int .u8 op.own, .int .u16 op.added, .int .u16 op.behind] 114)) [.int .i64 (op.kind : Int)] 111; rwa [alloc_sizeB] at this) (by intro u hu; simp at hu; subst hu; rfl) (by unfold maxLen; omega) (by omega) (by simp; omega) ?_
        intro v' wn hown hgr _ hloc
        obtain ⟨va', vc', ev'⟩ := row_sliceB hown
        have hst := ((HN.out.alloc _).alloc _).step hown hgr
        have hbk : wn.heap[w.heap.size + 1]? = some (.cells #[.int .u8 c, .slice ka j kc, .int .i64 0] 128 (0, 0)) := by
          rw [hgr.block (w.heap.size + 1) (by simp; omega) (fun e => by have := (HN.out.row.lt _ e.symm).1; omega)]
          exact ((HN.out.alloc _).alloc _).mb
        have d1 : wn.cell? ⟨w.heap.size + 1, 1, none⟩ = some (.slice ka j kc) := by rw [cell_of_row _ _ _ _ _ (0, 0) hbk]; rfl
        have d2 := frozen_of_row wn (w.heap.size + 1) 1 _ _ hbk
        subst ev'
        have HST := hideIt hst
        clear hst hown hgr hloc hbk)
      go_roundw
      case rel => exact ⟨j + 1, _, by omega, by go_num, by rw [HTS.out]; exact HST.out⟩
      case measure => simp [intOf]; omega
    · have hji : ¬ (j : Int) < (n : Int) := by omega
      have ej : j = n := by omega
      subst ej
      have HN := hideIt hN
      have hlt2 := hN.lt
      clear hN
      obtain ⟨V, hV⟩ : ∃ V, wr.alloc (.cells #[.int .u8 0, .int .u8 0, .int .u8 0] 326) = V := ⟨_, rfl⟩
      have hcv : (convert 32 9 (.slice (some ⟨wr.heap.size, 0, none⟩) 3 3)).run Tryz.prog V = .ok (.string ⟨#[0, 0, 0]⟩) V := by
        have := run_convert_bytes_back (P := Tryz.prog) V 32 9 5 ⟨wr.heap.size, 0, none⟩ 3 [0, 0, 0] Tryz.underlying32 Tryz.underlying5 Tryz.underlying9 (fun k hk => by
          rw [← hV]
          refine cells_newB wr [.int .u8 0, .int .u8 0, .int .u8 0] _ k _ ?_
          have hk' : k = 0 ∨ k = 1 ∨ k = 2 := by simp at hk; omega
          rcases hk' with rfl | rfl | rfl <;> rfl)
        exact this
      have hNV := HN.out.alloc (.cells #[.int .u8 0, .int .u8 0, .int .u8 0] 326)
      rw [hV] at hNV
      have hVz : V.heap.size = wr.heap.size + 1 := by rw [← hV]; simp
      have HRD := hideIt (read_any base g cap j l ⟨#[0, 0, 0]⟩ V HL.out hn (row_belowB HROW.out hNV.below) HKK.out (by decide) (by decide))
      have hex : (⟨#[0, 0, 0]⟩ : ByteArray).extract 1 (⟨#[0, 0, 0]⟩ : ByteArray).size = ⟨#[0, 0]⟩ := by decide +kernel
      rw [hex, show ((⟨#[0, 0, 0]⟩ : ByteArray).size : Int) = 3 from rfl] at HRD
      obtain ⟨R, hR⟩ : ∃ R, readTo l ⟨#[0, 0]⟩ false j = R := ⟨_, rfl⟩
      rw [hR] at HRD
      obtain ⟨z, hz⟩ : ∃ z : Int, 3 - (R.2.1.size : Int) = z := ⟨_, rfl⟩
      rw [hz] at HRD
      have HRZ := hideIt (And.intro hR hz)
      have HNV := hideIt hNV
      have htk : (l.take j).map (·.kind) = l.map (·.kind) := by rw [List.take_of_length_le (by rw [HL.out]; exact Nat.le_refl _)]
      have HTK := hideIt htk
      clear hex hR hz hNV htk
      go_wp2_with fail
      refine HRD.out.mono ?_
      rintro e w2 ⟨rfl, _, hg2⟩
      have hlt3 := HNV.out.lt
      have e1 : w2.heap[w.heap.size + 1]? = some (.cells #[.int .u8 c, .slice ka j kc, .int .i64 0] 128 (0, 0)) := by
        rw [hg2.block _ hlt3 (fun e => by have := Option.some.inj e; omega)]
        exact HNV.out.mb
      have e0 : w2.heap[w.heap.size]? = some (.cells #[.int .u8 0, .slice none 0 0, .int .i64 0] 128 (0, 0)) := by
        rw [hg2.block _ (by omega) (fun e => by have := Option.some.inj e; omega)]
        exact HNV.out.hd
      have q0 : w2.cell? ⟨w.heap.size + 1, 0, none⟩ = some (.int .u8 c) := by rw [cell_of_row _ _ _ _ _ (0, 0) e1]; rfl
      have q1 : w2.cell? ⟨w.heap.size + 1, 1, none⟩ = some (.slice ka j kc) := by rw [cell_of_row _ _ _ _ _ (0, 0) e1]; rfl
      have q2 : w2.cell? ⟨w.heap.size + 1, 2, none⟩ = some (.int .i64 0) := by rw [cell_of_row _ _ _ _ _ (0, 0) e1]; rfl
      have q3 := frozen_of_row w2 (w.heap.size + 1) 2 _ _ e1
      have p0 : w2.cell? ⟨w.heap.size, 0, none⟩ = some (.int .u8 0) := by rw [cell_of_row _ _ _ _ _ (0, 0) e0]; rfl
      have p1 : w2.cell? ⟨w.heap.size, 1, none⟩ = some (.slice none 0 0) := by rw [cell_of_row _ _ _ _ _ (0, 0) e0]; rfl
      have p2 : w2.cell? ⟨w.heap.size, 2, none⟩ = some (.int .i64 0) := by rw [cell_of_row _ _ _ _ _ (0, 0) e0]; rfl
      have f0 := frozen_of_row w2 w.heap.size 0 _ _ e0
      have f1 := frozen_of_row w2 w.heap.size 1 _ _ e0
      have f2 := frozen_of_row w2 w.heap.size 2 _ _ e0
      have HG2 := hideIt hg2
      clear hg2 e0 e1 c1
      go_wp2_with fail
      obtain ⟨X, hX⟩ : ∃ X, (((w2.setCell ⟨w.heap.size + 1, 2, none⟩ (.int .i64 z)).setCell ⟨w.heap.size, 0, none⟩ (.int .u8 c)).setCell ⟨w.heap.size, 1, none⟩ (.slice ka j kc)).setCell ⟨w.heap.size, 2, none⟩ (.int .i64 z) = X := ⟨_, rfl⟩
      have hXk : ∀ k, k ≠ w.heap.size → k ≠ w.heap.size + 1 → X.heap[k]? = w2.heap[k]? := fun k h1 h2 => by
        rw [← hX, heap_setCell_other _ ⟨w.heap.size, 2, none⟩ k _ h1, heap_setCell_other _ ⟨w.heap.size, 1, none⟩ k _ h1, heap_setCell_other _ ⟨w.heap.size, 0, none⟩ k _ h1, heap_setCell_other _ ⟨w.heap.size + 1, 2, none⟩ k _ h2]
      have hXz : X.heap.size = w2.heap.size := by rw [← hX]; simp [World.setCell]
      have hXo : X.os = w2.os ∧ X.tape = w2.tape ∧ X.output = w2.output := by rw [← hX]; exact ⟨rfl, rfl, rfl⟩
      refine bodyPost_ret (v := insV c (.slice ka j kc) z) (by simp [results, Tryz.results200, go_sem, insV, p0, p1, p2]) rfl ?_
      rw [hX]
      have g2 := HG2.out
      have hr := HNV.out.row
      refine ⟨_, by rw [HRZ.out.1, HRZ.out.2], ?_, hXo.1.trans (g2.os.trans HNV.out.below.os), hXo.2.1.trans (g2.tape.trans HNV.out.below.tape), hXo.2.2.trans (g2.output.trans HNV.out.below.output), by rw [hXz]; exact Nat.le_trans HNV.out.below.size g2.size, fun k hk hne => ?_⟩
      · rw [← HTK.out]
        obtain ⟨hl', ⟨e1, e2⟩ | ⟨gk, cap', cur, e1, hgk, hh, r⟩⟩ := hr
        · exact ⟨hl', .inl ⟨e1, e2⟩⟩
        · have hgl : gk < V.heap.size := (Array.getElem?_eq_some_iff.1 hh).1
          exact ⟨hl', .inr ⟨gk, cap', cur, e1, by omega, by rw [hXk gk (by omega) (by omega), g2.block gk hgl (fun e => by have := Option.some.inj e; omega)]; exact hh, r⟩⟩
      · rw [hXk k (by omega) (by omega), g2.block k (Nat.lt_of_lt_of_le hk HNV.out.below.size) hne]
        exact HNV.out.below.block k hk
set_option maxRecDepth 100000 in
set_option maxHeartbeats 4000000 in
theorem newIns_nil (c : Int) (w : World) :
    Calls Tryz.prog 200 #[.int .u8 c, .slice none 0 0] w fun e w' => e = .returned (insV c (.slice none 0 0) 1) ∧ Below w.heap.size w w' := by
  have HRD := hideIt (fun w' => read_nilB ⟨#[0, 0, 0]⟩ w' (by decide) (by decide))
  go_enter Tryz.func200, Tryz.ntmps200
  go_wp2_with fail
  refine wp_loop_rounds 1 ?_
  rw [rounds_succ]
  obtain ⟨U, hU⟩ : ∃ U, (w.alloc (.cells #[.int .u8 0, .slice none 0 0, .int .i64 0] 128)).alloc (.cells #[.int .u8 c, .slice none 0 0, .int .i64 0] 128) = U := ⟨_, rfl⟩
  have hUz : U.heap.size = w.heap.size + 2 := by rw [← hU]; simp
  obtain ⟨V, hV⟩ : ∃ V, U.alloc (.cells #[.int .u8 0, .int .u8 0, .int .u8 0] 326) = V := ⟨_, rfl⟩
  have hVz : V.heap.size = w.heap.size + 3 := by rw [← hV]; simp [hUz]
  have hcv : (convert 32 9 (.slice (some ⟨w.heap.size + 2, 0, none⟩) 3 3)).run Tryz.prog V = .ok (.string ⟨#[0, 0, 0]⟩) V := by
    have := run_convert_bytes_back (P := Tryz.prog) V 32 9 5 ⟨w.heap.size + 2, 0, none⟩ 3 [0, 0, 0] Tryz.underlying32 Tryz.underlying5 Tryz.underlying9 (fun k hk => by
      rw [← hV, ← hUz]
      refine cells_newB U [.int .u8 0, .int .u8 0, .int .u8 0] _ k _ ?_
      have hk' : k = 0 ∨ k = 1 ∨ k = 2 := by simp at hk; omega
      rcases hk' with rfl | rfl | rfl <;> rfl)
    exact this
  have h0 : V.heap[w.heap.size]? = some (.cells #[.int .u8 0, .slice none 0 0, .int .i64 0] 128 (0, 0)) := by
    rw [← hV, Below.heap_alloc _ _ _ (by omega), ← hU, Below.heap_alloc _ _ _ (by simp)]
    exact heap_alloc_new w _
  have h1 : V.heap[w.heap.size + 1]? = some (.cells #[.int .u8 c, .slice none 0 0, .int .i64 0] 128 (0, 0)) := by
    rw [← hV, Below.heap_alloc _ _ _ (by omega), ← hU]
    have := heap_alloc_new (w.alloc (.cells #[.int .u8 0, .slice none 0 0, .int .i64 0] 128)) (.cells #[.int .u8 c, .slice none 0 0, .int .i64 0] 128)
    rwa [alloc_sizeB] at this
  have hBV : Below w.heap.size w V := by
    rw [← hV, ← hU]
    exact (((Below.refl _ _).alloc (Nat.le_refl _) _).alloc (by simp) _).alloc (by simp; omega) _
  have HB := hideIt (And.intro hBV (And.intro h0 h1))
  clear hBV h0 h1
  go_wp2_with fail
  refine (HRD.out _).mono ?_
  rintro e w2 ⟨rfl, hB2⟩
  have e1 := (hB2.block (w.heap.size + 1) (by omega)).trans HB.out.2.2
  have e0 := (hB2.block w.heap.size (by omega)).trans HB.out.2.1
  have q0 : w2.cell? ⟨w.heap.size + 1, 0, none⟩ = some (.int .u8 c) := by rw [cell_of_row _ _ _ _ _ (0, 0) e1]; rfl
  have q1 : w2.cell? ⟨w.heap.size + 1, 1, none⟩ = some (.slice none 0 0) := by rw [cell_of_row _ _ _ _ _ (0, 0) e1]; rfl
  have q2 : w2.cell? ⟨w.heap.size + 1, 2, none⟩ = some (.int .i64 0) := by rw [cell_of_row _ _ _ _ _ (0, 0) e1]; rfl
  have q3 := frozen_of_row w2 (w.heap.size + 1) 2 _ _ e1
  have p0 : w2.cell? ⟨w.heap.size, 0, none⟩ = some (.int .u8 0) := by rw [cell_of_row _ _ _ _ _ (0, 0) e0]; rfl
  have p1 : w2.cell? ⟨w.heap.size, 1, none⟩ = some (.slice none 0 0) := by rw [cell_of_row _ _ _ _ _ (0, 0) e0]; rfl
  have p2 : w2.cell? ⟨w.heap.size, 2, none⟩ = some (.int .i64 0) := by rw [cell_of_row _ _ _ _ _ (0, 0) e0]; rfl
  have f0 := frozen_of_row w2 w.heap.size 0 _ _ e0
  have f1 := frozen_of_row w2 w.heap.size 1 _ _ e0
  have f2 := frozen_of_row w2 w.heap.size 2 _ _ e0
  have HB2 := hideIt (HB.out.1.trans (hB2.mono HB.out.1.size))
  clear hB2 e0 e1
  go_wp2_with fail
  refine bodyPost_ret (v := insV c (.slice none 0 0) 1) (by simp [results, Tryz.results200, go_sem, insV, p0, p1, p2]) rfl ⟨rfl, ?_⟩
  exact ⟨HB2.out.os, HB2.out.tape, HB2.out.output, by simpa [World.setCell] using HB2.out.size, fun k hk => by rw [heap_setCell_other _ ⟨w.heap.size, 2, none⟩ k _ (by show k ≠ w.heap.size; omega), heap_setCell_other _ ⟨w.heap.size, 1, none⟩ k _ (by show k ≠ w.heap.size; omega), heap_setCell_other _ ⟨w.heap.size, 0, none⟩ k _ (by show k ≠ w.heap.size; omega), heap_setCell_other _ ⟨w.heap.size + 1, 2, none⟩ k _ (by show k ≠ w.heap.size + 1; omega)]; exact HB2.out.block k hk⟩
end Go.Proofs.YthokdbcpkmcieaaGreatDoor
namespace Go.Proofs.YthokdbcpkmcieaaGreatDoor
open Go.RowKit
/-- The cells of the program's table. -/
def rowCells : List Value := rowsL.flatMap fun r => [.int .u8 r.1, .int .u8 r.2.1, .string ⟨r.2.2.toArray⟩]
set_option maxRecDepth 100000 in
theorem rows_any (w : World) :
    Calls Tryz.prog 99 #[] w fun e w' => e = .returned (.slice (some ⟨w.heap.size, 0, none⟩) 111 111) ∧ w' = w.alloc (.cells rowCells.toArray 101) :=
  calls_run (.slice (some ⟨w.heap.size, 0, none⟩) 111 111) (w.alloc (.cells rowCells.toArray 101)) Tryz.func99 rfl (by kernel_rfl) ⟨rfl, rfl⟩
end Go.Proofs.YthokdbcpkmcieaaGreatDoor
