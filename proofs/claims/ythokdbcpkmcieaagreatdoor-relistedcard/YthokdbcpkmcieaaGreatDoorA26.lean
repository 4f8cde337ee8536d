/- An instruction's bytes. slices.Contains at bools; the image's rows. -/
import Derived.Test.YthokdbcpkmcieaaGreatDoorA22
import Derived.Test.YthokdbcpkmcieaaGreatDoorA23
import Derived.Test.YthokdbcpkmcieaaGreatDoorA25
namespace Go.Proofs.YthokdbcpkmcieaaGreatDoor
open Go Go.RowKit Go.Shelf Go.WideMaps Go.Maps
def intCells (l : List Int) : List Value := l.map fun z => .int .i64 z
theorem intCells_at (l : List Int) (j : Nat) (h : j < l.length) : (intCells l)[j]? = some (.int .i64 l[j]) := by
  unfold intCells
  rw [List.getElem?_map, List.getElem?_eq_getElem h]
  rfl
theorem kindCells_at (l : List Nat) (j : Nat) (h : j < l.length) : (kindCells l)[j]? = some (.int .i64 ((l[j] : Nat) : Int)) := by
  unfold kindCells
  rw [List.getElem?_map, List.getElem?_eq_getElem h]
  rfl
/-- MOV between two addresses has them the other way round. -/
def swapN (code : Nat) (ns : List Int) : List Int := if code = 133 then [ns.getD 1 0, ns.getD 0 0] else ns
/-- What is laid behind so many operands. -/
def layTo (bh : Int) (ks : List Nat) (ns : List Int) (s : LayD) : Nat → LayD
  | 0 => s
  | j + 1 => layK bh (ks.getD j 0) (ns.getD j 0) (layTo bh ks ns s j)
/-- The place behind the instruction. -/
def bhN (at_ size : Int) : Int := IntKind.u16.wrap (IntKind.u16.wrap at_ + IntKind.u16.wrap size)
def bytesI (d : InsD) (ns : List Int) (at_ : Int) : LayD := layTo (bhN at_ d.size) d.kinds (swapN d.code ns) ⟨d.code, [], false⟩ d.kinds.length
theorem layK_len (bh : Int) (k : Nat) (n : Int) (s : LayD) : (layK bh k n s).add.length ≤ s.add.length + 2 := by
  unfold layK
  repeat' split
  all_goals simp
theorem layTo_len (bh : Int) (ks : List Nat) (ns : List Int) (s : LayD) : ∀ j, (layTo bh ks ns s j).add.length ≤ s.add.length + 2 * j
  | 0 => Nat.le_refl _
  | j + 1 => by
    have h1 := layK_len bh (ks.getD j 0) (ns.getD j 0) (layTo bh ks ns s j)
    have h2 := layTo_len bh ks ns s j
    unfold layTo
    omega
theorem swapN_len {code : Nat} {ns : List Int} (h : code = 133 → ns.length = 2) : (swapN code ns).length = ns.length := by
  unfold swapN
  split
  · rename_i e
    rw [h e]
    rfl
  · rfl
/-- The instruction's box. -/
structure IBox (w : World) (sb : Nat) (cd : Int) (kd : Value) (sz : Int) : Prop where
  c0 : w.cell? ⟨sb, 0, none⟩ = some (.int .u8 cd)
  c1 : w.cell? ⟨sb, 1, none⟩ = some kd
  c2 : w.cell? ⟨sb, 2, none⟩ = some (.int .i64 sz)
  lt : sb < w.heap.size
theorem ibox_new (w : World) (cd : Int) (kd : Value) (sz : Int) : ∃ W, w.alloc (.cells #[.int .u8 cd, kd, .int .i64 sz] 128) = W ∧ Below w.heap.size w W ∧ W.heap.size = w.heap.size + 1 ∧ IBox W w.heap.size cd kd sz := by
  have hh := heap_alloc_new w (.cells #[.int .u8 cd, kd, .int .i64 sz] 128)
  refine ⟨_, rfl, (Below.refl _ _).alloc (Nat.le_refl _) _, by simp, ?_⟩
  have hc : ∀ j u, #[.int .u8 cd, kd, .int .i64 sz][j]? = some u → (w.alloc (.cells #[.int .u8 cd, kd, .int .i64 sz] 128)).cell? ⟨w.heap.size, j, none⟩ = some u := fun j u hu => by rw [cell_of_row _ _ _ _ _ (0, 0) hh]; exact hu
  exact ⟨hc 0 _ rfl, hc 1 _ rfl, hc 2 _ rfl, by simp⟩
theorem IBox.below {w w' : World} {sb : Nat} {cd : Int} {kd : Value} {sz : Int} (h : IBox w sb cd kd sz) (hb : Below w.heap.size w w') : IBox w' sb cd kd sz := by
  have hc : ∀ j, w'.cell? ⟨sb, j, none⟩ = w.cell? ⟨sb, j, none⟩ := fun j => World.cell?_of_block (a := ⟨sb, j, none⟩) (hb.block _ h.lt)
  exact ⟨(hc 0).trans h.c0, (hc 1).trans h.c1, (hc 2).trans h.c2, Nat.lt_of_lt_of_le h.lt hb.size⟩
/-- What Bytes ends with. -/
def BytesEnd (w : World) (r : LayD) (e : Ending) (w' : World) : Prop := ∃ v, e = .returned (.tuple #[v, .bool (!r.wrong)]) ∧ w'.ownsRow w.heap.size 5 1 v (r.add.length + 1) (u8Cells (r.code :: r.add)) ∧ Below w.heap.size w w'
/-- A row of kinds, which matters only where there is one. -/
structure RowK (w : World) (kd : Value) (ks : List Nat) : Prop where
  is : ∃ (a : Option Addr) (c : Nat), kd = .slice a ks.length c
  row : ks ≠ [] → w.ownsRow 0 111 1 kd ks.length (kindCells ks)
theorem RowK.below {w w' : World} {kd : Value} {ks : List Nat} (h : RowK w kd ks) (hb : Below w.heap.size w w') : RowK w' kd ks := ⟨h.is, fun hn => row_belowA (h.row hn) hb⟩
/-- The laying at its beginning, behind the table of ways. -/
structure LayIn (w wr : World) (yb base tb : Nat) (ka : Option Addr) (kn kc : Nat) (ks : List Nat) (na : Option Addr) (nn nc : Nat) (ns : List Int) : Prop where
  kinds : RowK wr (.slice ka kn kc) ks
  nums : wr.ownsRow 0 3 1 (.slice na nn nc) ns.length (intCells ns)
  tab : wr.heap[tb]? = some (.cells waysCells 200 (0, 0))
  low : (ks ≠ [] → ∀ j, (Value.slice ka kn kc).ownBlock = some j → j < yb) ∧ (∀ j, (Value.slice na nn nc).ownBlock = some j → j < yb) ∧ tb < yb
  blw : Below w.heap.size w wr
theorem LayIn.grow {w wr w' : World} {yb base tb : Nat} {ka : Option Addr} {kn kc : Nat} {ks : List Nat} {na : Option Addr} {nn nc : Nat} {ns : List Int} (h : LayIn w wr yb base tb ka kn kc ks na nn nc ns) (hg : LGrow wr w' base yb) (hy : yb < base) (hw : w.heap.size ≤ yb) : LayIn w w' yb base tb ka kn kc ks na nn nc ns :=
  ⟨⟨h.kinds.is, fun hn => row_at (h.kinds.row hn) (fun j hj => hg.block j (by have := h.low.1 hn j hj; omega) (by have := h.low.1 hn j hj; omega))⟩, row_at h.nums (fun j hj => hg.block j (by have := h.low.2.1 j hj; omega) (by have := h.low.2.1 j hj; omega)), (hg.block tb (by have := h.low.2.2; omega) (by have := h.low.2.2; omega)).trans h.tab, h.low, ⟨hg.os.trans h.blw.os, hg.tape.trans h.blw.tape, hg.output.trans h.blw.output, Nat.le_trans h.blw.size hg.size, fun k hk => (hg.block k (by omega) (by omega)).trans (h.blw.block k hk)⟩⟩
theorem row_block {w : World} {base : Nat} {e : TypeId} {size n : Nat} {v : Value} {xs : List Value} (h : w.ownsRow base e size v n xs) : ∀ j, v.ownBlock = some j → j < w.heap.size := fun j hj => (h.lt j hj).2
theorem ls_new (w : World) (cd bh : Int) : LS (w.alloc (.cells #[.int .u8 cd, .slice none 0 0, .int .u16 bh, .bool false] 282)) w.heap.size (w.heap.size + 1) cd [] bh false := by
  have hh := heap_alloc_new w (.cells #[.int .u8 cd, .slice none 0 0, .int .u16 bh, .bool false] 282)
  have hc : ∀ j u, #[.int .u8 cd, .slice none 0 0, .int .u16 bh, .bool false][j]? = some u → (w.alloc (.cells #[.int .u8 cd, .slice none 0 0, .int .u16 bh, .bool false] 282)).cell? ⟨w.heap.size, j, none⟩ = some u := fun j u hu => by rw [cell_of_row _ _ _ _ _ (0, 0) hh]; exact hu
  exact ⟨hc 0 _ rfl, ⟨none, 0, 0, hc 1 _ rfl, World.ownsRow_nil _ _ _ _⟩, hc 2 _ rfl, hc 3 _ rfl, fun j => frozen_of_row _ _ _ _ _ hh, Nat.lt_succ_self _, by simp⟩
theorem u8_one (l : List Int) : ∀ u ∈ u8Cells l, u.oneCell' = true := by
  intro u hu
  obtain ⟨x, _, rfl⟩ := List.mem_map.1 hu
  rfl
theorem run_append_rowsU (w : World) (base b2 : Nat) (ty : TypeId) (v x : Value) (n m : Nat) (xs ys : List Value) (hown : w.ownsRow base 5 1 v n xs) (hx : w.ownsRow b2 5 1 x m ys) (h1 : ∀ u ∈ ys, u.oneCell' = true) (hn : n + m ≤ 4000000) (hb : base ≤ w.heap.size) :
    ∃ v' w', (Builtin.append_ #[32, 32] ty #[v, x]).run Tryz.prog w = .ok v' w' ∧ w'.ownsRow base 5 1 v' (n + m) (xs ++ ys) ∧ w.grownBy w' v.ownBlock := by
  obtain ⟨i, hi, hz0, hz1, hz2⟩ := info_parts Tryz.infoU8
  have hc : ∀ g, x.ownBlock = some g → ∀ j u, ys[j]? = some u → w.cell? ((⟨g, 0, none⟩ : Addr).add j) = some u := fun g hg => hx.cells hg
  obtain ⟨hl, ⟨rfl, rfl⟩ | ⟨g, cap, cur, rfl, hg, hh, h3, h4, h5, h6⟩⟩ := hx
  · have hy : ys = [] := List.eq_nil_of_length_eq_zero (by simpa using hl)
    subst hy
    have hown2 := hown
    obtain ⟨hl2, ⟨rfl, rfl⟩ | ⟨g, cap, cur, rfl, hg, hh, h3, h4, h5, h6⟩⟩ := hown
    · refine ⟨.slice none 0 0, w, ?_, by simpa using hown2, ⟨rfl, rfl, rfl, Nat.le_refl _, fun _ _ _ => rfl⟩⟩
      simp [Builtin.append_, run_underlying Tryz.underlying32, sizeOf, typeInfo, hi, Builtin.lenOf, Builtin.firstCells]
    · refine ⟨.slice (some ⟨g, 0, none⟩) n cap, w, ?_, by simpa using hown2, ⟨rfl, rfl, rfl, Nat.le_refl _, fun _ _ _ => rfl⟩⟩
      simp [Builtin.append_, run_underlying Tryz.underlying32, sizeOf, typeInfo, hi, Builtin.lenOf, Builtin.firstCells, storeCells, h3]
  · obtain ⟨v', w', r0, r1, r2, _⟩ := run_append_own_at (P := Tryz.prog) w base 32 ty 5 i _ 1 1 Tryz.underlying32 hi hz0 hz1 hz2 rfl (by decide) v n xs hown ⟨g, 0, none⟩ m cap ys hl (hc g rfl) h1 (by unfold maxLen; omega) (by omega) hb
    exact ⟨v', w', r0, r1, r2⟩
theorem step_append_rowsU {ops : Array Oper} {o : Oper} {a : Act} {w : World} {K : Act → World → Prop} {Q : Exit → Act → World → Prop} {E : Prop}
    (hg : o.guard = none) (s x : Operand) (hop : o.op = Op.call { callee := Callee.builtin Builtin.append, args := #[s, x], argTypes := #[32, 32] })
    (base b2 : Nat) (v xv : Value) (n m : Nat) (xs ys : List Value) (hs : a.eval s = v) (hx : a.eval x = xv) (hown : w.ownsRow base 5 1 v n xs) (hxo : w.ownsRow b2 5 1 xv m ys) (h1 : ∀ u ∈ ys, u.oneCell' = true) (hn : n + m ≤ 4000000) (hb : base ≤ w.heap.size)
    (hK : ∀ v' w', w'.ownsRow base 5 1 v' (n + m) (xs ++ ys) → w.grownBy w' v.ownBlock → K (a.put o.dst v') w') :
    if Region.wanted o (yielded ops a.tmps) = true then Oper.wp Tryz.prog o a w K Q else E := by
  have hw : Region.wanted o (yielded ops a.tmps) = true := by simp [Region.wanted, hg]
  rw [if_pos hw]
  obtain ⟨v', w', hrun, r1, r2⟩ := run_append_rowsU w base b2 o.type v xv n m xs ys hown hxo h1 hn hb
  unfold Oper.wp
  simp [execOp, hop, resolve, invoke, builtin, hs, hx, hrun, Result.andThen]
  exact hK v' w' r1 r2
set_option maxRecDepth 100000 in
set_option maxHeartbeats 8000000 in
theorem insBytes_any (w : World) (d : InsD) (ka : Option Addr) (kn kc : Nat) (na : Option Addr) (nn nc : Nat) (ns : List Int) (at_ : Int) (hd : InsF d ns.length) (hk : RowK w (.slice ka kn kc) d.kinds) (hns : w.ownsRow 0 3 1 (.slice na nn nc) ns.length (intCells ns)) :
    Calls Tryz.prog 176 #[.agg #[.int .u8 (d.code : Int), .slice ka kn kc, .int .i64 (d.size : Int)], .slice na nn nc, .int .i64 at_] w (BytesEnd w (bytesI d ns at_)) := by
  obtain ⟨R, hR⟩ : ∃ R, bytesI d ns at_ = R := ⟨_, rfl⟩
  rw [hR]
  have HR0 := hideIt hR
  clear hR
  obtain ⟨W, hW, hBW, hWz, hIB⟩ := ibox_new w (d.code : Int) (.slice ka kn kc) (d.size : Int)
  have b0 := hIB.c0
  have b1 := hIB.c1
  have b2 := hIB.c2
  have HB := hideIt (And.intro hBW hIB)
  have HK := hideIt (And.intro hk hns)
  have HD := hideIt hd
  clear hBW hIB hk hns hd
  go_enter Tryz.func176, Tryz.ntmps176
  go_upto_if 14 with fail
  go_cut [1] (fun s wx => ∃ (na' : Option Addr) (nn' nc' : Nat), s = .slice na' nn' nc' ∧ wx.ownsRow 0 3 1 (.slice na' nn' nc') (swapN d.code ns).length (intCells (swapN d.code ns)) ∧ Below W.heap.size W wx)
  case first =>
    by_cases hc : d.code = 133
    · have hcb : ((d.code : Int) == 133) = true := by simp [hc]
      have h2 := HD.out.swap hc
      obtain ⟨z0, z1, rfl⟩ : ∃ z0 z1, ns = [z0, z1] := by
        match ns, h2 with
        | [a, b], _ => exact ⟨a, b, rfl⟩
      have hrow := HK.out.2
      have hnn : nn = 2 := row_lenB hrow rfl
      obtain ⟨g, hg, c0⟩ := row_get hrow (by simp) (show (intCells [z0, z1])[0]? = some (.int .i64 z0) from rfl)
      obtain ⟨g', hg', c1⟩ := row_get hrow (by simp) (show (intCells [z0, z1])[1]? = some (.int .i64 z1) from rfl)
      subst hnn hg
      cases hg'
      have hgl := World.block_lt_of_cell? _ _ c0
      have hl0 : g < w.heap.size := hgl
      have c0' := (World.cell?_of_block (a := ⟨g, 0, none⟩) (HB.out.1.block _ hgl)).trans c0
      have c1' := (World.cell?_of_block (a := ⟨g, 1, none⟩) (HB.out.1.block _ hgl)).trans c1
      have HCC := hideIt hc
      have hR := World.ownsRow_lit (base := 0) (e := 3) (size := 1) W #[.int .i64 z1, .int .i64 z0] 2 (by simp) (by decide) rfl
      rw [hWz] at hR
      have HR := hideIt hR
      clear hR
      clear hrow c0 c1 hc h2 hgl
      go_wp2_with fail
      go_region
      all_goals
        go_wp2_with fail
        go_meet
        refine ⟨_, _, _, rfl, ?_, ?_⟩
        · unfold swapN
          rw [if_pos HCC.out]
          exact HR.out
        · exact ((Below.refl _ _).alloc (Nat.le_refl _) _).drew
    · have hcb : ((d.code : Int) == 133) = false := by
        simp
        omega
      have hs : swapN d.code ns = ns := by unfold swapN; rw [if_neg hc]
      have HS := hideIt hs
      clear hs
      go_wp2_with fail
      go_meet
      exact ⟨_, _, _, rfl, by rw [HS.out]; exact row_belowA HK.out.2 HB.out.1, Below.refl _ _⟩
  case rest =>
  obtain ⟨na', nn', nc', rfl, hnum, hBc⟩ := hcut
  obtain ⟨NS, hNS⟩ : ∃ NS, swapN d.code ns = NS := ⟨_, rfl⟩
  have hNl : NS.length = d.kinds.length := by rw [← hNS, swapN_len HD.out.swap, HD.out.len]
  rw [hNS] at hnum
  have HNS := hideIt hNS
  have HNL := hideIt hNl
  have hib := HB.out.2.below hBc
  have hBwc : Below w.heap.size w wc := HB.out.1.trans (hBc.mono HB.out.1.size)
  have HWC := hideIt (And.intro hnum hBwc)
  obtain ⟨BH, hBH⟩ : ∃ BH, bhN at_ (d.size : Int) = BH := ⟨_, rfl⟩
  have HBH : Hid (IntKind.u16.wrap (IntKind.u16.wrap at_ + IntKind.u16.wrap (d.size : Int)) = BH) := hBH
  have HBH2 := hideIt hBH
  have HIB := hideIt hib
  clear hnum hNS hNl hBc hBwc hib hBH b0 b1 b2 HB
  go_wp2_with fail
  refine (ways_any wc).mono ?_
  rintro e w1 ⟨rfl, hb1⟩
  have hib1 := HIB.out.below hb1
  obtain ⟨W2, hW2⟩ : ∃ W2, w1.alloc (.cells waysCells 200) = W2 := ⟨_, rfl⟩
  have hb2 : Below w1.heap.size w1 W2 := by rw [← hW2]; exact (Below.refl _ _).alloc (Nat.le_refl _) _
  have hz2 : W2.heap.size = w1.heap.size + 1 := by rw [← hW2]; simp
  have htab : W2.heap[w1.heap.size]? = some (.cells waysCells 200 (0, 0)) := by rw [← hW2]; exact heap_alloc_new w1 _
  have hib2 := hib1.below hb2
  have d0 := hib2.c0
  have d1 := hib2.c1
  have d2 := hib2.c2
  have HB2 := hideIt (And.intro (HWC.out.2.trans (hb1.mono HWC.out.2.size)) (And.intro hb2 htab))
  obtain ⟨W3, hW3⟩ : ∃ W3, W2.alloc (.cells #[.int .u8 (d.code : Int), .slice none 0 0, .int .u16 (IntKind.u16.wrap (IntKind.u16.wrap at_ + IntKind.u16.wrap (d.size : Int))), .bool false] 282) = W3 := ⟨_, rfl⟩
  have hb3 : Below W2.heap.size W2 W3 := by rw [← hW3]; exact (Below.refl _ _).alloc (Nat.le_refl _) _
  have hz3 : W3.heap.size = w1.heap.size + 2 := by rw [← hW3]; simp [hz2]
  have e1 := (hib2.below hb3).c1
  have HLS : Hid (LS W3 (w1.heap.size + 1) (w1.heap.size + 2) (d.code : Int) [] BH false) := by
    have := ls_new W2 (d.code : Int) BH
    rw [hz2] at this
    rw [← hW3, HBH.out]
    exact this
  have hBw3 : Below w.heap.size w W3 := HB2.out.1.trans ((hb2.trans (hb3.mono hb2.size)).mono HB2.out.1.size)
  have hn1 := row_belowA HWC.out.1 hb1
  have hlk := fun hn => row_block (HK.out.1.row hn)
  have hln := row_block hn1
  have hws := HB2.out.1.size
  have HLI : Hid (LayIn w W3 (w1.heap.size + 1) (w1.heap.size + 2) w1.heap.size ka kn kc d.kinds na' nn' nc' NS) := ⟨HK.out.1.below hBw3, row_belowA (row_belowA hn1 hb2) hb3, (hb3.block _ (by omega)).trans HB2.out.2.2, ⟨fun hn j hj => by have := hlk hn j hj; omega, fun j hj => by have := hln j hj; omega, Nat.lt_succ_self _⟩, hBw3⟩
  have hkn : kn = d.kinds.length := by
    obtain ⟨a9, c9, e9⟩ := HK.out.1.is
    cases e9
    rfl
  have hnn' : nn' = d.kinds.length := (row_lenB HWC.out.1 rfl).trans HNL.out
  have hk3 : kn ≤ 3 := by rw [hkn, HD.out.len]; exact HD.out.le
  have hkni : (kn : Int) ≤ 3 := by omega
  have hnni : nn' = kn := by omega
  subst hnni
  have HKN := hideIt hkn
  have HWS := hideIt hws
  clear hib1 hib2 hb2 hb3 htab HIB hBw3 hn1 hlk hln hkn hnn' hws hb1 HWC HK
  have HW3 := hideIt hW3
  clear hW3
  go_upto_region 5 with (refine wpList_store_row rfl 200 (.tmp 8) (.tmp 22) rfl w1.heap.size waysCells rfl rfl 200 _ (heap_alloc_last w1 _) ways_info rfl ways_one ?_; rw [World.setRow_alloc_new])
  rw [HW3.out]
  go_wp2_with fail
  go_loopw [35] (fun i wr => ∃ j : Nat, j ≤ nn' ∧ i = .int .i64 j ∧ LS wr (w1.heap.size + 1) (w1.heap.size + 2) (layTo BH d.kinds NS ⟨d.code, [], false⟩ j).code (layTo BH d.kinds NS ⟨d.code, [], false⟩ j).add BH (layTo BH d.kinds NS ⟨d.code, [], false⟩ j).wrong ∧ LayIn w wr (w1.heap.size + 1) (w1.heap.size + 2) w1.heap.size ka nn' kc d.kinds na' nn' nc' NS) (fun i _ => nn' - (intOf i).toNat)
  case atStart => exact ⟨0, Nat.zero_le _, rfl, HLS.out, HLI.out⟩
  case round =>
    clear HLS HLI d0 d1 d2 e1 hW2 HW3 hW
    obtain ⟨j, hj, rfl, hls, hli⟩ := hrel
    by_cases hlt : j < nn'
    · have hji : (j : Int) < (nn' : Int) := by omega
      have hjk : j < d.kinds.length := by rw [← HKN.out]; exact hlt
      have hjn : j < NS.length := by rw [HNL.out]; exact hjk
      obtain ⟨g, hg, ck⟩ := row_get (hli.kinds.row (fun e => by rw [e] at hjk; cases hjk)) (by omega) (kindCells_at d.kinds j hjk)
      obtain ⟨g', hg', cn⟩ := row_get hli.nums (by omega) (intCells_at NS j hjn)
      subst hg hg'
      obtain ⟨k, hk⟩ : ∃ k, d.kinds[j] = k := ⟨_, rfl⟩
      obtain ⟨z, hz⟩ : ∃ z, NS[j] = z := ⟨_, rfl⟩
      rw [hk] at ck
      rw [hz] at cn
      have hk17 : k < 17 := HD.out.kinds k (by rw [← hk]; exact List.getElem_mem hjk)
      have hki : (k : Int) < 17 := by omega
      have ct : wr.cell? ⟨w1.heap.size, k * 3, none⟩ = some (fv (layF k)) := by
        rw [cell_of_row _ _ _ _ _ (0, 0) hli.tab, Nat.mul_comm]
        exact layF_cell k hk17
      have hlen := layTo_len BH d.kinds NS ⟨d.code, [], false⟩ j
      have HC := hideIt (lay_any wr.drew (w1.heap.size + 1) (w1.heap.size + 2) k BH z (layTo BH d.kinds NS ⟨d.code, [], false⟩ j) ⟨hls.c0, hls.c1, hls.c2, hls.c3, hls.fz, hls.lt, hls.le⟩ (by simp at hlen; omega))
      have HJ := hideIt (show layTo BH d.kinds NS ⟨d.code, [], false⟩ (j + 1) = layK BH k z (layTo BH d.kinds NS ⟨d.code, [], false⟩ j) by
        show layK BH (d.kinds.getD j 0) (NS.getD j 0) _ = _
        rw [List.getD_eq_getElem?_getD, List.getD_eq_getElem?_getD, List.getElem?_eq_getElem hjk, List.getElem?_eq_getElem hjn, hk, hz]
        rfl)
      have hent := layF_enters k
      have HLI := hideIt hli
      clear hls hli hlen hk hz hjk hjn hk17
      go_wp2_with fail
      go_region_law (first | (refine step_returns (layF k) #[.pointer (some ⟨w1.heap.size + 1, 0, none⟩), .int .i64 z] rfl (by simp [execOp, resolve, invoke, go_sem, hent]) _ (fun v w' => v = .tuple #[] ∧ LS w' (w1.heap.size + 1) (w1.heap.size + 2) (layK BH k z (layTo BH d.kinds NS ⟨d.code, [], false⟩ j)).code (layK BH k z (layTo BH d.kinds NS ⟨d.code, [], false⟩ j)).add BH (layK BH k z (layTo BH d.kinds NS ⟨d.code, [], false⟩ j)).wrong ∧ LGrow wr w' (w1.heap.size + 2) (w1.heap.size + 1)) HC.out (fun e w' hh => ⟨_, hh.1, rfl, hh.2.1, ⟨hh.2.2.os, hh.2.2.tape, hh.2.2.output, hh.2.2.size, hh.2.2.block⟩⟩) ?_; rintro v w5 ⟨rfl, hls5, hg5⟩))
      all_goals
        go_wp2_with fail
        go_roundw
        case rel => exact ⟨j + 1, by omega, by go_num, by rw [HJ.out]; exact hls5, HLI.out.grow hg5 (Nat.lt_succ_self _) (Nat.le_succ_of_le HWS.out)⟩
        case measure => simp [intOf]; omega
    · have hji : ¬ (j : Int) < (nn' : Int) := by omega
      have hjl : j = d.kinds.length := by rw [← HKN.out]; omega
      obtain ⟨L, hL⟩ : ∃ L, layTo BH d.kinds NS ⟨d.code, [], false⟩ j = L := ⟨_, rfl⟩
      have eR : R = L := by
        rw [← HR0.out, ← hL, hjl]
        unfold bytesI
        rw [HBH2.out, HNS.out]
      have hlen := layTo_len BH d.kinds NS ⟨d.code, [], false⟩ j
      rw [hL] at hls hlen
      subst eR
      have hl6 : R.add.length ≤ 1000 := by simp at hlen; omega
      obtain ⟨ya, yn, yc, c1, hrow⟩ := hls.c1
      have c0 := hls.c0
      have c3 := hls.c3
      have hyl : w1.heap.size + 1 < wr.heap.size := Nat.lt_of_lt_of_le hls.lt hls.le
      have hle := hls.le
      have HLI := hideIt hli
      have hwr := hli.blw.size
      have HO := hideIt (World.ownsRow_lit (base := w.heap.size) (e := 5) (size := 1) wr #[.int .u8 R.code] 1 hwr (by decide) rfl)
      have HROW := hideIt (hrow.alloc (.cells #[.int .u8 R.code] 5))
      have HL6 := hideIt hl6
      have hBwr := hli.blw
      have HC3 : Hid (∀ w5 : World, (wr.alloc (.cells #[.int .u8 R.code] 5)).grownBy w5 (some wr.heap.size) → w5.cell? ⟨w1.heap.size + 1, 3, none⟩ = some (.bool R.wrong) ∧ Below w.heap.size w w5) := fun w5 hg => by
        have key : ∀ k, k < wr.heap.size → w5.heap[k]? = wr.heap[k]? := fun k hk => (hg.block k (by simp; omega) (fun e => by have h9 := Option.some.inj e; omega)).trans (Below.heap_alloc _ _ _ hk)
        have hz := hg.size
        simp at hz
        exact ⟨(World.cell?_of_block (a := ⟨w1.heap.size + 1, 3, none⟩) (key _ hyl)).trans c3, ⟨hg.os.trans hBwr.os, hg.tape.trans hBwr.tape, hg.output.trans hBwr.output, by omega, fun k hk => (key k (by omega)).trans (hBwr.block k hk)⟩⟩
      have HBL := hideIt hwr
      clear hls hli hrow hL hjl hlen hlt hj hl6 hBwr
      go_wp2_with fail
      go_region_law (first | (refine step_append_rowsU rfl (.tmp 52) (.tmp 54) rfl w.heap.size (w1.heap.size + 2) _ _ 1 R.add.length [.int .u8 R.code] (u8Cells R.add) rfl rfl HO.out HROW.out (u8_one _) (by have := HL6.out; omega) (by have := HBL.out; simp; omega) ?_; intro v' w5 hown hgr; obtain ⟨a', n', c', rfl⟩ := u8_slice hown; have c3' := (HC3.out w5 ⟨hgr.os, hgr.tape, hgr.output, hgr.size, hgr.block⟩).1; have HW5 := hideIt (And.intro hown (HC3.out w5 ⟨hgr.os, hgr.tape, hgr.output, hgr.size, hgr.block⟩).2); clear hown hgr))
      all_goals
        go_wp2_with fail
        go_ret2
        refine ⟨_, rfl, ?_, HW5.out.2⟩
        have h9 := HW5.out.1
        rw [Nat.add_comm] at h9
        exact h9
end Go.Proofs.YthokdbcpkmcieaaGreatDoor
namespace Go.Proofs.YthokdbcpkmcieaaGreatDoor
open Go Go.RowKit Go.Shelf Go.WideMaps Go.Maps
/-- A place among the list, or less than none. -/
def IdxB2 (z : Int) (l : List Bool) : Prop := (0 ≤ z ↔ true ∈ l) ∧ -1 ≤ z
set_option maxRecDepth 200000 in
set_option maxHeartbeats 2000000 in
theorem idxB_any (b off cap : Nat) (l : List Bool) (w : World) (hc : ∀ i (hi : i < l.length), w.cell? ⟨b, off + i, none⟩ = some (.bool l[i])) (hl : l.length ≤ 2000) :
    Calls Tryz.prog 255 #[.slice (some ⟨b, off, none⟩) l.length cap, .bool true] w fun e w' => ∃ z : Int, e = .returned (.int .i64 z) ∧ IdxB2 z l ∧ w' = w := by
  have HC := hideIt hc
  clear hc
  have hli : (l.length : Int) ≤ 2000 := by omega
  go_enter Tryz.func255, Tryz.ntmps255
  go_wp2_with fail
  go_loopw [8] (fun i wr => ∃ j : Nat, j ≤ l.length ∧ i = .int .i64 j ∧ true ∉ l.take j ∧ wr = w) (fun i _ => l.length - (intOf i).toNat)
  case atStart => exact ⟨0, Nat.zero_le _, rfl, by simp, rfl⟩
  case round =>
    obtain ⟨j, hj, rfl, hno, rfl⟩ := hrel
    by_cases hlj : j < l.length
    · have hji : (j : Int) < (l.length : Int) := by omega
      have cj := HC.out j hlj
      obtain ⟨x, hx⟩ : ∃ x, l[j] = x := ⟨_, rfl⟩
      rw [hx] at cj
      cases x
      · have hn2 : true ∉ l.take (j + 1) := by
          rw [List.take_add_one, List.getElem?_eq_getElem hlj, hx]
          simpa using hno
        have HN := hideIt hn2
        clear hn2 hno hx
        go_wp2
        go_roundw
        case rel => exact ⟨j + 1, by omega, by go_num, HN.out, by first | rfl | trivial⟩
        case measure => simp [intOf]; omega
      · have hin : true ∈ l := by rw [← hx]; exact List.getElem_mem hlj
        have HN := hideIt hin
        clear hin hno hx
        go_wp2
        go_ret
        exact ⟨(j : Int), rfl, ⟨⟨fun _ => HN.out, fun _ => by omega⟩, by omega⟩, rfl⟩
    · have hji : ¬ (j : Int) < (l.length : Int) := by omega
      have hnl : true ∉ l := by rw [show l.take j = l from List.take_of_length_le (by omega)] at hno; exact hno
      have HN := hideIt hnl
      clear hnl hno
      go_wp2
      go_ret
      exact ⟨-1, rfl, ⟨⟨fun e => absurd e (by omega), fun e => absurd e HN.out⟩, by omega⟩, rfl⟩
set_option maxRecDepth 200000 in
set_option maxHeartbeats 2000000 in
theorem hasB_any (b off cap : Nat) (l : List Bool) (w : World) (hc : ∀ i (hi : i < l.length), w.cell? ⟨b, off + i, none⟩ = some (.bool l[i])) (hl : l.length ≤ 2000) :
    Calls Tryz.prog 219 #[.slice (some ⟨b, off, none⟩) l.length cap, .bool true] w fun e w' => e = .returned (.bool (decide (true ∈ l))) ∧ w' = w := by
  have HI := hideIt (idxB_any b off cap l w hc hl)
  clear hc
  go_enter Tryz.func219, Tryz.ntmps219
  go_wp2_with fail
  refine HI.out.mono ?_
  rintro e w1 ⟨z, rfl, hz, rfl⟩
  have HZ := hideIt (show decide (0 ≤ z) = decide (true ∈ l) from decide_eq_decide.2 hz.1)
  have hz1 := hz.2
  clear hz
  go_wp2
  go_ret
  exact ⟨by rw [← HZ.out]; rfl, rfl⟩
end Go.Proofs.YthokdbcpkmcieaaGreatDoor
