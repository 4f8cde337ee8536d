/- How an operand is written, by its kind; the walk of line. The walk of instruction.Decode. The walk of instruction.Decode where the instruction has no operands. The walk of instruction.Decode where the instruction has operands. The walk of instruction.Decode where all bytes of the operands are there. -/
import Derived.Test.YthokdbcpkmcieaaGreatDoorR01
import Derived.Test.YthokdbcpkmcieaaGreatDoorA18
import Derived.Deep.RegionWith
import Derived.Test.YthokdbcpkmcieaaGreatDoorA19
import Derived.Test.YthokdbcpkmcieaaGreatDoorA04
import Derived.BigRegion
namespace Go.Proofs.YthokdbcpkmcieaaGreatDoor
open Go Go.RowKit Go.Shelf
/-- How an operand is written. -/
def writS (o : Opn) : ByteArray :=
  if o.kind ≤ 6 then o.name else if o.kind ≤ 8 then o.name ++ itoaS o.own
  else if o.kind = 9 then ⟨#[35, 48, 120, hd (o.added / 16), hd o.added]⟩
  else if o.kind = 10 then ⟨#[35, 48, 120, hd (o.added / 4096), hd (o.added / 256), hd (o.added / 16), hd o.added]⟩
  else if o.kind ≤ 12 then ⟨#[48, 120, hd (o.added / 16), hd o.added]⟩
  else if o.kind = 13 then ⟨#[47, 48, 120, hd (o.added / 16), hd o.added]⟩
  else if o.kind = 14 then ⟨#[48, 120, hd (o.added / 4096), hd (o.added / 256), hd (o.added / 16), hd o.added]⟩
  else if o.kind = 15 then ⟨#[48, 120, hd (nearN o.behind o.added / 4096), hd (nearN o.behind o.added / 256), hd (nearN o.behind o.added / 16), hd (nearN o.behind o.added)]⟩
  else ⟨#[48, 120, hd (pageN o.behind o.own o.added / 4096), hd (pageN o.behind o.own o.added / 256), hd (pageN o.behind o.own o.added / 16), hd (pageN o.behind o.own o.added)]⟩
def writF (k : Nat) : Nat :=
  if k ≤ 6 then 140 else if k ≤ 8 then 142
  else if k = 9 then 145
  else if k = 10 then 148
  else if k ≤ 12 then 150
  else if k = 13 then 151
  else if k = 14 then 153
  else if k = 15 then 155
  else 157
/-- What is known of an operand that is written. -/
structure Opn.Fine (o : Opn) : Prop where
  kind : o.kind < 17
  own0 : 0 ≤ o.own
  own1 : o.kind = 7 ∨ o.kind = 8 → o.own < 100
  add0 : 0 ≤ o.added
  add1 : o.added ≤ 65535
  name : o.name.size ≤ 1000
theorem writ_any (o : Opn) (h : o.Fine) (w : World) :
    Calls Tryz.prog (writF o.kind) #[.agg #[.int .i64 o.kind, .string o.name, .int .u8 o.own, .int .u16 o.added, .int .u16 o.behind]] w fun e w' => e = .returned (.string (writS o)) ∧ Below w.heap.size w w' := by
  unfold writF writS
  by_cases k1 : o.kind ≤ 6
  · rw [if_pos k1, if_pos k1]; exact itself_any _ _ _ _ _ _
  rw [if_neg k1, if_neg k1]
  by_cases k2 : o.kind ≤ 8
  · rw [if_pos k2, if_pos k2]; exact numbered_any _ _ _ _ _ _ h.own0 (h.own1 (by omega)) h.name
  rw [if_neg k2, if_neg k2]
  by_cases k3 : o.kind = 9
  · rw [if_pos k3, if_pos k3]; exact byteBehindHash_any _ _ _ _ _ _ h.add0 h.add1
  rw [if_neg k3, if_neg k3]
  by_cases k4 : o.kind = 10
  · rw [if_pos k4, if_pos k4]; exact wordBehindHash_any _ _ _ _ _ _ h.add0 h.add1
  rw [if_neg k4, if_neg k4]
  by_cases k5 : o.kind ≤ 12
  · rw [if_pos k5, if_pos k5]; exact asByte_any _ _ _ _ _ _ h.add0 h.add1
  rw [if_neg k5, if_neg k5]
  by_cases k6 : o.kind = 13
  · rw [if_pos k6, if_pos k6]; exact byteBehindSlash_any _ _ _ _ _ _ h.add0 h.add1
  rw [if_neg k6, if_neg k6]
  by_cases k7 : o.kind = 14
  · rw [if_pos k7, if_pos k7]; exact asWord_any _ _ _ _ _ _ h.add0 h.add1
  rw [if_neg k7, if_neg k7]
  by_cases k8 : o.kind = 15
  · rw [if_pos k8, if_pos k8]; exact nearPlace_any _ _ _ _ _ _
  rw [if_neg k8, if_neg k8]
  exact placeInPage_any _ _ _ _ _ _
theorem writF_enters (k : Nat) (args : Array Value) (w : World) : (callFunc (writF k) args).run Tryz.prog w = .ok (.enter (writF k) args) w := by
  unfold writF
  repeat' split
  · exact enters_of Tryz.func140 (by kernel_rfl) rfl args w
  · exact enters_of Tryz.func142 (by kernel_rfl) rfl args w
  · exact enters_of Tryz.func145 (by kernel_rfl) rfl args w
  · exact enters_of Tryz.func148 (by kernel_rfl) rfl args w
  · exact enters_of Tryz.func150 (by kernel_rfl) rfl args w
  · exact enters_of Tryz.func151 (by kernel_rfl) rfl args w
  · exact enters_of Tryz.func153 (by kernel_rfl) rfl args w
  · exact enters_of Tryz.func155 (by kernel_rfl) rfl args w
  · exact enters_of Tryz.func157 (by kernel_rfl) rfl args w
theorem writF_cell (k : Nat) (h : k < 17) : waysCells[3 * k + 2]? = some (fv (writF k)) := by
  match k, h with
  | 0, _ => rfl
  | 1, _ => rfl
  | 2, _ => rfl
  | 3, _ => rfl
  | 4, _ => rfl
  | 5, _ => rfl
  | 6, _ => rfl
  | 7, _ => rfl
  | 8, _ => rfl
  | 9, _ => rfl
  | 10, _ => rfl
  | 11, _ => rfl
  | 12, _ => rfl
  | 13, _ => rfl
  | 14, _ => rfl
  | 15, _ => rfl
  | 16, _ => rfl
  | n + 17, h => exact absurd h (by omega)
set_option maxHeartbeats 400000 in
theorem line_none (nm : ByteArray) (v : Option Addr) (cap : Nat) (bh : Int) (w : World) :
    Calls Tryz.prog 61 #[.string nm, .slice v 0 cap, .int .u16 bh] w fun e w' => e = .returned (.string nm) ∧ w' = w := by
  go_enter Tryz.func61, Tryz.ntmps61
  go_wp2
  go_ret
  exact ⟨rfl, rfl⟩
def Opn.at (o : Opn) (bh : Int) : Opn := { o with behind := bh }
/-- The written operands: the first k are there, the others still empty. -/
def wrCells (l : List Opn) (bh : Int) (n k : Nat) : List Value := (List.range n).map fun j => if j < k then .string (writS ((l.getD j opn0).at bh)) else .string ⟨#[]⟩
theorem wrCells_len (l : List Opn) (bh : Int) (n k : Nat) : (wrCells l bh n k).length = n := by simp [wrCells]
theorem wrCells_set (l : List Opn) (bh : Int) (n k : Nat) : (wrCells l bh n k).set k (.string (writS ((l.getD k opn0).at bh))) = wrCells l bh n (k + 1) := by
  apply List.ext_getElem?
  intro j
  rw [List.getElem?_set]
  simp only [wrCells, List.length_map, List.length_range, List.getElem?_map]
  by_cases hj : j < n
  · rw [List.getElem?_range hj]
    by_cases e : k = j
    · subst e; simp [hj]
    · simp only [e, if_false, Option.map_some]
      by_cases h1 : j < k
      · rw [if_pos h1, if_pos (by omega)]
      · rw [if_neg h1, if_neg (by omega)]
  · rw [List.getElem?_eq_none (by simpa using hj)]
    simp
    intro e; omega
theorem wrCells_zero (l : List Opn) (bh : Int) (n : Nat) : List.replicate (n * 1) (Value.string ⟨#[]⟩) = wrCells l bh n 0 := by
  simp only [wrCells, Nat.not_lt_zero, if_false, Nat.mul_one]
  rw [List.map_const', List.length_range]
theorem Tryz.info9 : (Tryz.prog.info? 9).map (fun i => (i.zero, i.size, i.bytes)) = some (some (.string ⟨#[]⟩), 1, 16) := by kernel_rfl
theorem join_len : ∀ (xs : List (List UInt8)), (∀ x ∈ xs, x.length ≤ 2000) → (Lib.join xs [44]).length ≤ xs.length * 2001
  | [], _ => by simp [Lib.join, List.intercalate]
  | [x], h => by have := h x (by simp); simp [Lib.join, List.intercalate]; omega
  | x :: y :: r, h => by
    have ih := join_len (y :: r) (fun z hz => h z (List.mem_cons_of_mem _ hz))
    have hx := h x (by simp)
    simp only [Lib.join, List.intercalate, List.intersperse_cons_cons, List.flatten_cons, List.length_append, List.length_cons, List.length_nil] at ih ⊢
    omega
theorem join_at (bk n : Nat) (xs : List ByteArray) (J : ByteArray) (w : World) (hn : xs.length = n) (hcells : ∀ (j : Nat) x, xs[j]? = some x → w.cell? ⟨bk, j, none⟩ = some (.string x)) (hbk : bk < w.heap.size) (hN : n ≤ 1000) (hx : ∀ x ∈ xs, x.size ≤ 2000)
    (hJ : (⟨(Lib.join (xs.map (·.data.toList)) [44]).toArray⟩ : ByteArray) = J) :
    Calls Tryz.prog 103 #[.slice (some ⟨bk, 0, none⟩) n n, .string ⟨#[44]⟩] w fun e w' => e = .returned (.string J) ∧ Below w.heap.size w w' := by
  subst hn
  subst hJ
  refine Tryz.strings_Join bk 0 xs.length xs ⟨#[44]⟩ w (fun j x h => by rw [Nat.zero_add]; exact hcells j x h) hbk (by omega) (Nat.le_refl _) ?_
  have := join_len (xs.map (·.data.toList)) (fun z hz => by
    obtain ⟨b, hb, rfl⟩ := List.mem_map.1 hz
    have := hx b hb
    rwa [Array.length_toList])
  rw [List.length_map] at this
  rw [show (⟨#[44]⟩ : ByteArray).data.toList = [44] from rfl]
  omega
theorem line_rel {l : List Opn} {bh : Int} {n k T : Nat} {wt wr w3 : World} {o : Opn} {sS : ByteArray} (hrow : wr.ownsRow (T + 1) 9 1 (.slice (some ⟨T + 1, 0, none⟩) n n) n (wrCells l bh n k)) (hbr : Below (T + 1) wt wr) (hsr : T + 2 ≤ wr.heap.size)
    (hb3 : Below wr.heap.size wr w3) (ho : l.getD k opn0 = o) (hs : writS (o.at bh) = sS) :
    (w3.setCell ⟨T + 1, k, none⟩ (.string sS)).ownsRow (T + 1) 9 1 (.slice (some ⟨T + 1, 0, none⟩) n n) n (wrCells l bh n (k + 1)) ∧ Below (T + 1) wt (w3.setCell ⟨T + 1, k, none⟩ (.string sS)) ∧ T + 2 ≤ (w3.setCell ⟨T + 1, k, none⟩ (.string sS)).heap.size := by
  have r3 : w3.ownsRow (T + 1) 9 1 (.slice (some ⟨T + 1, 0, none⟩) n n) n (wrCells l bh n k) := hrow.kept (row := none) ⟨hb3.os, hb3.tape, hb3.output, hb3.size, fun k hk _ => hb3.block k hk⟩ (.inr (by simp [Value.ownBlock]))
  have st := r3.stored k (.string sS)
  rw [← hs, ← ho, wrCells_set, ho, hs] at st
  have b3 := (hbr.trans (hb3.mono (by omega)))
  exact ⟨st.1, b3.setCell (by simp) _, Nat.le_trans hsr (Nat.le_trans hb3.size st.2.size)⟩
set_option maxRecDepth 100000 in
set_option maxHeartbeats 1000000 in
theorem line_some (base g cap n : Nat) (l : List Opn) (nm : ByteArray) (bh : Int) (w : World) (hl : l.length = n) (h0 : 0 < n) (hn : n ≤ 1000) (hown : w.ownsRow base 114 5 (.slice (some ⟨g, 0, none⟩) n cap) n (allCells l))
    (hf : ∀ k, k < n → ((l.getD k opn0).at bh).Fine) (hnm : nm.size ≤ 1000) (hws : ∀ k, k < n → (writS ((l.getD k opn0).at bh)).size ≤ 2000) :
    Calls Tryz.prog 61 #[.string nm, .slice (some ⟨g, 0, none⟩) n cap, .int .u16 bh] w fun e w' =>
      e = .returned (.string ((nm ++ ⟨#[32]⟩) ++ ⟨(Lib.join (l.map fun o => (writS (o.at bh)).data.toList) [44]).toArray⟩)) ∧ Below w.heap.size w w' := by
  have hgw : g < w.heap.size := (hown.lt g rfl).2
  have hne : ((n : Int) == 0) = false := by simp; omega
  obtain ⟨i0, hi, hz0, hz1, hz2⟩ := info_parts Tryz.info9
  go_enter Tryz.func61, Tryz.ntmps61
  go_wp2_with fail
  refine (ways_any _).mono ?_
  rintro e w1 ⟨rfl, hb1⟩
  have hs1 : w.heap.size ≤ w1.heap.size := hb1.size
  go_wp2_with (first | (refine wpList_store_row rfl 200 (.tmp 7) (.tmp 15) rfl w1.heap.size waysCells rfl rfl 200 _ (heap_alloc_last w1 _) ways_info rfl ways_one ?_; rw [World.setRow_alloc_new]) | (at_make; refine wpList_make_full _ rfl _ _ 22 rfl (w1.heap.size + 1) 9 i0 _ 1 Tryz.underlying22 hi hz0 hz1 .i64 .i64 _ _ n rfl rfl rfl rfl (by rw [hz2]; omega) (by unfold maxLen; omega) (by simp) ?_; intro w2 hrow2 hg2))
  have hs2 : w1.heap.size + 2 ≤ w2.heap.size := by
    have := (hrow2.lt _ rfl).2
    simp at this
    omega
  have hb2 : Below (w1.heap.size + 1) (w1.alloc (.cells waysCells 200)) w2 := ⟨hg2.os, hg2.tape, hg2.output, hg2.size, fun k hk => hg2.block k (by simpa using hk) (by simp)⟩
  have hst : w2.ownsRow (w1.heap.size + 1) 9 1 (.slice (some ⟨w1.heap.size + 1, 0, none⟩) n n) n (wrCells l bh n 0) := by
    have e : (madeCells (Value.string ⟨#[]⟩).cells (n * 1)).toList = wrCells l bh n 0 := by
      rw [show (Value.string ⟨#[]⟩).cells = #[Value.string ⟨#[]⟩] from rfl, toList_madeCells_one]
      exact wrCells_zero l bh n
    rw [← e]
    simpa using hrow2
  have HST := hideIt hst
  clear hst hrow2 hg2
  go_loopw [21] (fun i wr => ∃ k : Nat, k ≤ n ∧ i = .int .i64 k ∧ wr.ownsRow (w1.heap.size + 1) 9 1 (.slice (some ⟨w1.heap.size + 1, 0, none⟩) n n) n (wrCells l bh n k) ∧ Below (w1.heap.size + 1) (w1.alloc (.cells waysCells 200)) wr ∧ w1.heap.size + 2 ≤ wr.heap.size) (fun i _ => n - (intOf i).toNat)
  case atStart => exact ⟨0, Nat.zero_le _, rfl, HST.out, hb2, hs2⟩
  case round =>
    obtain ⟨k, hk, rfl, hrow, hbr, hsr⟩ := hrel
    clear HST hb2 hs2
    have hownr : wr.ownsRow base 114 5 (.slice (some ⟨g, 0, none⟩) n cap) n (allCells l) := by
      have hbb : Below w.heap.size w wr := (hb1.alloc hs1 _).trans (hbr.mono (by omega))
      exact hown.kept (row := none) ⟨hbb.os, hbb.tape, hbb.output, hbb.size, fun k hk _ => hbb.block k hk⟩ (.inr (by simp [Value.ownBlock]))
    by_cases hlt : k < n
    · have hcs := allCells_at l k (by omega)
      have hfk := hf k hlt
      obtain ⟨o, ho⟩ : ∃ o, l.getD k opn0 = o := ⟨_, rfl⟩
      rw [ho] at hcs hfk
      have HO : Hid (l.getD k opn0 = o) := ho
      have c0 : wr.cell? ⟨g, k * 5, none⟩ = some (.int .i64 o.kind) := by rw [hownr.cellAt (k * 5) (by omega)]; exact hcs.1
      have c1 : wr.cell? ⟨g, k * 5 + 1, none⟩ = some (.string o.name) := by rw [hownr.cellAt (k * 5 + 1) (by omega)]; exact hcs.2.1
      have c2 : wr.cell? ⟨g, k * 5 + 2, none⟩ = some (.int .u8 o.own) := by rw [hownr.cellAt (k * 5 + 2) (by omega)]; exact hcs.2.2.1
      have c3 : wr.cell? ⟨g, k * 5 + 3, none⟩ = some (.int .u16 o.added) := by rw [hownr.cellAt (k * 5 + 3) (by omega)]; exact hcs.2.2.2.1
      have c4 : wr.cell? ⟨g, k * 5 + 4, none⟩ = some (.int .u16 o.behind) := by rw [hownr.cellAt (k * 5 + 4) (by omega)]; exact hcs.2.2.2.2
      have hkd : o.kind < 17 := hfk.kind
      have cw : ∀ ob, (wr.alloc ob).cell? ⟨w1.heap.size, o.kind * 3 + 2, none⟩ = some (fv (writF o.kind)) := fun ob => by
        rw [World.cell?_alloc_old _ _ _ (by simp; omega), hbr.cell (by simp)]
        simp [Nat.mul_comm o.kind 3, writF_cell o.kind hkd]
      have hent := writF_enters o.kind
      clear ho hcs
      obtain ⟨sS, hsS⟩ : ∃ x, writS (o.at bh) = x := ⟨_, rfl⟩
      have HC := hideIt (fun w => writ_any (o.at bh) hfk w)
      rw [hsS] at HC
      have HS : Hid (writS (o.at bh) = sS) := hsS
      have cs0 : wr.cell? ⟨w1.heap.size + 1, k, none⟩ = (wrCells l bh n k)[k]? := hrow.cellAt k (by omega)
      obtain ⟨x0, hx0⟩ : ∃ x, (wrCells l bh n k)[k]? = some x := ⟨_, List.getElem?_eq_getElem (by rw [wrCells_len]; exact hlt)⟩
      rw [hx0] at cs0
      have fs0 : wr.frozen? ⟨w1.heap.size + 1, k, none⟩ = false := hrow.frozenAt k
      have cs1 : ∀ ob, (wr.alloc ob).cell? ⟨w1.heap.size + 1, k, none⟩ = some x0 := fun ob => by rw [World.cell?_alloc_old _ _ _ (by simp; omega)]; exact cs0
      have fs1 : ∀ ob, (wr.alloc ob).frozen? ⟨w1.heap.size + 1, k, none⟩ = false := fun ob => by rw [World.frozen?_of_block (Below.heap_alloc _ _ _ (by simp; omega))]; exact fs0
      have hszz : w1.heap.size + 1 < wr.heap.size + 1 := by omega
      clear hsS hfk hx0 hf hws
      go_wp2_with fail
      go_region_with (refine (HC.out _).mono ?_; rintro e w3 ⟨rfl, hb3⟩; have cs3 := (hb3.cell (p := ⟨w1.heap.size + 1, k, none⟩) (by simp; omega)).trans (cs1 _); have fs3 := (hb3.frozen (p := ⟨w1.heap.size + 1, k, none⟩) (by simp; omega)).trans (fs1 _))
      all_goals
        have hb4 : Below wr.heap.size wr w3 := (((Below.refl _ _).alloc (Nat.le_refl _) _).drew).trans (hb3.mono (B' := wr.heap.size) (by simp))
        have R := line_rel hrow hbr hsr hb4 HO.out HS.out
        have HR := hideIt R
        clear R hb4 hb3 cs3 fs3 hrow hbr cs0 cs1 fs0 fs1 cw hent
        go_wp2
        go_roundw
        case rel => exact ⟨k + 1, by omega, by go_num, HR.out.1, HR.out.2.1, HR.out.2.2⟩
        case measure => simp [intOf]; omega
    · have hkn : k = n := by omega
      obtain ⟨xs, hxs⟩ : ∃ xs, l.map (fun o => writS (o.at bh)) = xs := ⟨_, rfl⟩
      have hxl : xs.length = n := by rw [← hxs, List.length_map]; exact hl
      have hxx : ∀ x ∈ xs, x.size ≤ 2000 := by
        intro x hx
        rw [← hxs] at hx
        obtain ⟨o, ho, rfl⟩ := List.mem_map.1 hx
        obtain ⟨j, hj, rfl⟩ := List.mem_iff_getElem.1 ho
        have := hws j (by omega)
        rwa [List.getD_eq_getElem?_getD, List.getElem?_eq_getElem hj] at this
      have hcl : ∀ (j : Nat) x, xs[j]? = some x → wr.cell? ⟨w1.heap.size + 1, j, none⟩ = some (.string x) := by
        intro j x hx
        have hj : j < n := by rw [← hxl]; exact (List.getElem?_eq_some_iff.1 hx).1
        rw [hrow.cellAt j (by omega)]
        rw [← hxs, List.getElem?_map] at hx
        obtain ⟨o, ho, rfl⟩ := Option.map_eq_some_iff.1 hx
        simp only [wrCells, List.getElem?_map, List.getElem?_range hj, Option.map_some, hkn, hj, if_true, List.getD_eq_getElem?_getD, ho, Option.getD_some]
      obtain ⟨J, hJ⟩ : ∃ J : ByteArray, (⟨(Lib.join (xs.map (·.data.toList)) [44]).toArray⟩ : ByteArray) = J := ⟨_, rfl⟩
      have hJl : J.size ≤ 3000000 := by
        rw [← hJ]
        have := join_len (xs.map (·.data.toList)) (fun z hz => by
          obtain ⟨b, hb, rfl⟩ := List.mem_map.1 hz
          have := hxx b hb
          rwa [Array.length_toList])
        rw [List.length_map] at this
        show (Lib.join (xs.map (·.data.toList)) [44]).toArray.size ≤ _
        rw [List.size_toArray]
        omega
      have HJ := hideIt hJ
      have HX := hideIt hxs
      have HL := hideIt hxl
      have HXX := hideIt hxx
      have HCL := hideIt hcl
      have hone : (⟨#[32]⟩ : ByteArray).size = 1 := rfl
      have hadd1 : ∀ w, (Op.stringOp .add nm ⟨#[32]⟩).run Tryz.prog w = .ok (.string (nm ++ ⟨#[32]⟩)) w := fun w => run_string_add_sum w _ _ (by omega)
      have hadd2 : ∀ w, (Op.stringOp .add (nm ++ ⟨#[32]⟩) J).run Tryz.prog w = .ok (.string ((nm ++ ⟨#[32]⟩) ++ J)) w := fun w => run_string_add_sum w _ _ (by rw [ByteArray.size_append]; omega)
      have HB := hideIt (show Below w.heap.size w wr from (hb1.alloc hs1 _).trans (hbr.mono (by omega)))
      have hbk : w1.heap.size + 1 < wr.heap.size := by omega
      clear hJ hxs hxl hxx hcl hkn hrow hbr hownr hown hf hws
      go_wp2_with fail
      refine (join_at (w1.heap.size + 1) n xs J _ HL.out HCL.out hbk hn HXX.out HJ.out).mono ?_
      rintro e w3 ⟨rfl, hb3⟩
      go_wp2
      go_ret
      refine ⟨ret_str ?_, HB.out.trans (hb3.mono HB.out.size)⟩
      rw [← HJ.out, ← HX.out, List.map_map]
      rfl
end Go.Proofs.YthokdbcpkmcieaaGreatDoor
namespace Go.Proofs.YthokdbcpkmcieaaGreatDoor
open Go Go.RowKit Go.Shelf
set_option maxHeartbeats 400000 in
theorem dec_empty (code : ByteArray) (at' : Int) (w : World) (h : code.toList.isEmpty = true) :
    Calls Tryz.prog 30 #[.string code, .int .i64 at'] w fun e w' => e = .returned (.tuple #[.string ⟨#[]⟩, .int .i64 0]) ∧ w' = w := by
  go_enter Tryz.func30, Tryz.ntmps30
  go_wp2
  go_ret2
  exact ⟨rfl, rfl⟩
theorem find_miss (c : Int) (w : World) (h : ∀ j, j < 111 → hit c j = false) :
    Calls Tryz.prog 57 #[.int .u8 c] w fun e w' => e = .returned (.tuple #[.agg #[.int .u8 0, .int .u8 0, .string ⟨#[]⟩], .bool false]) ∧ Below w.heap.size w w' := by
  refine (find_any c w).mono ?_
  rintro e w' (⟨k, hk, hh, _⟩ | ⟨_, he, hb⟩)
  · rw [h k hk] at hh; cases hh
  · exact ⟨he, hb⟩
theorem find_hit (c : Int) (w : World) (k : Nat) (hk : k < 111) (hh : hit c k = true) (hf : ∀ j, j < k → hit c j = false) (rc rf : Int) (rt : ByteArray) (e1 : ((rowAt k).1 : Int) = rc) (e2 : ((rowAt k).2.1 : Int) = rf) (e3 : (⟨(rowAt k).2.2.toArray⟩ : ByteArray) = rt) :
    Calls Tryz.prog 57 #[.int .u8 c] w fun e w' => e = .returned (.tuple #[.agg #[.int .u8 rc, .int .u8 rf, .string rt], .bool true]) ∧ Below w.heap.size w w' := by
  subst e1 e2 e3
  refine (find_any c w).mono ?_
  rintro e w' (⟨j, hj, hh', hf', he, hb⟩ | ⟨hn, _⟩)
  · have : j = k := by
      rcases Nat.lt_trichotomy j k with h | h | h
      · rw [hf j h] at hh'; cases hh'
      · exact h
      · rw [hf' k h] at hh; cases hh
    subst this
    exact ⟨he, hb⟩
  · rw [hn k hk] at hh; cases hh
set_option maxRecDepth 100000 in
set_option maxHeartbeats 400000 in
theorem dec_miss (code : ByteArray) (at' : Int) (w : World) (h : 0 < code.size) (hm : ∀ j, j < 111 → hit (code[0].toNat : Int) j = false) :
    Calls Tryz.prog 30 #[.string code, .int .i64 at'] w fun e w' => e = .returned (.tuple #[.string ⟨#[]⟩, .int .i64 0]) ∧ Below w.heap.size w w' := by
  have hs : code.toList.isEmpty = false := by rw [isEmpty_iff]; simp only [decide_eq_false_iff_not]; omega
  have HM := hideIt hm
  clear hm
  go_enter Tryz.func30, Tryz.ntmps30
  go_wp2_with fail
  refine (find_miss _ _ HM.out).mono ?_
  rintro e w1 ⟨rfl, hb1⟩
  go_wp2
  go_ret2
  exact ⟨rfl, hb1.alloc hb1.size _⟩
end Go.Proofs.YthokdbcpkmcieaaGreatDoor
namespace Go.Proofs.YthokdbcpkmcieaaGreatDoor
open Go Go.RowKit Go.Shelf Go.WideMaps Go.Maps
set_option maxRecDepth 100000 in
set_option maxHeartbeats 2000000 in
theorem read_nil (code : ByteArray) (w : World) (hc : 0 < code.size) (hc2 : code.size ≤ maxLen) :
    Calls Tryz.prog 60 #[.slice none 0 0, .string code] w fun e w' => e = .returned (.tuple #[.int .i64 1, .bool true]) ∧ Below w.heap.size w w' := by
  go_enter Tryz.func60, Tryz.ntmps60
  go_wp2_with fail
  refine (ways_any _).mono ?_
  rintro e w1 ⟨rfl, hb1⟩
  go_wp2_with (refine wpList_store_row rfl 200 (.tmp 6) (.tmp 9) rfl w1.heap.size waysCells rfl rfl 200 _ (heap_alloc_last w1 _) ways_info rfl ways_one ?_; rw [World.setRow_alloc_new])
  refine wp_loop_rounds 1 ?_
  rw [rounds_succ]
  unfold maxLen at hc2
  have hx : (code.extract 1 code.size).size = code.size - 1 := by rw [ByteArray.size_extract]; omega
  have HX := hideIt hx
  have hle : (code.extract 1 code.size).size ≤ 9223372036854775807 := by omega
  clear hx
  go_wp2
  go_quiet (fail)
  go_wp2
  go_ret2
  refine ⟨?_, below_drewN ((hb1.alloc hb1.size _).alloc (by have := hb1.size; simp; omega) _) _⟩
  show Ending.returned (.tuple #[.int .i64 ((code.size : Int) - ((code.size - 1 : Nat) : Int)), .bool true]) = _
  rw [show (code.size : Int) - ((code.size - 1 : Nat) : Int) = 1 by omega]
set_option maxRecDepth 100000 in
set_option maxHeartbeats 2000000 in
theorem dec_plain (code : ByteArray) (at' m : Int) (w : World) (h : 0 < code.size) (hc2 : code.size ≤ maxLen) (hm : w.cell? ⟨0, 0, none⟩ = some (.int .i64 m)) (h0 : 0 < w.heap.size) (k : Nat) (hk : k < 111) (hh : hit (code[0].toNat : Int) k = true) (hf : ∀ j, j < k → hit (code[0].toNat : Int) j = false)
    (rc rf : Int) (rt nm : ByteArray) (e1 : ((rowAt k).1 : Int) = rc) (e2 : ((rowAt k).2.1 : Int) = rf) (e3 : (⟨(rowAt k).2.2.toArray⟩ : ByteArray) = rt) (hs : rt.size < 1000) (hcut : Lib.cut rt.data.toList [32] = (nm.data.toList, [], false)) (hrc : (rc == 133) = false) :
    Calls Tryz.prog 30 #[.string code, .int .i64 at'] w fun e w' => e = .returned (.tuple #[.string nm, .int .i64 1]) ∧ Below w.heap.size w w' := by
  have hne : code.toList.isEmpty = false := by rw [isEmpty_iff]; simp only [decide_eq_false_iff_not]; omega
  have HF := hideIt (fun w => find_hit (code[0].toNat : Int) w k hk hh hf rc rf rt e1 e2 e3)
  have HC := hideIt hcut
  clear hh hf e1 e2 e3 hcut
  go_enter Tryz.func30, Tryz.ntmps30
  go_wp2_with fail
  refine (HF.out _).mono ?_
  rintro e w1 ⟨rfl, hb1⟩
  have hs1 := hb1.size
  have hm1 : ∀ o, (w1.alloc o).cell? ⟨0, 0, none⟩ = some (.int .i64 m) := fun o => by rw [World.cell?_alloc_old _ _ _ (by simp; omega), hb1.cell (by simp; omega)]; exact hm
  go_wp2_with fail
  go_region_with (first | (go_at_call 59; refine (kinds_any _).mono ?_; rintro e wk ⟨rfl, hok, hbk⟩; have k0 : wk.cell? ⟨w1.heap.size, 0, none⟩ = some (.int .u8 rc) := (by rw [hbk.cell (by simp)]; simp); have k1 : wk.cell? ⟨w1.heap.size, 1, none⟩ = some (.int .u8 rf) := (by rw [hbk.cell (by simp)]; simp); have k2 : wk.cell? ⟨w1.heap.size, 2, none⟩ = some (.string rt) := (by rw [hbk.cell (by simp)]; simp); have km : wk.cell? ⟨0, 0, none⟩ = some (.int .i64 m) := (by rw [hbk.cell (by simp)]; exact hm1 _); have kz : 0 < wk.heap.size := (by have := hbk.size; simp at this; omega); have kb' : Below (w1.heap.size + 1) (w1.alloc (.cells #[.int .u8 rc, .int .u8 rf, .string rt] 101)) wk := (by have hx := hbk.mono (B' := w1.heap.size + 1) (by simp); exact ⟨hx.os, hx.tape, hx.output, hx.size, hx.block⟩)) | (go_at_call 58; refine (parts_none rc rf _ m rt nm _ _ hs (by exact km) (by exact kz) HC.out).mono ?_; rintro e w2 ⟨rfl, hb2⟩))
  all_goals
    have hzk : w1.heap.size + 1 ≤ wk.heap.size := by have := kb'.size; simpa using this
    have hb2' := kb'.trans (hb2.mono (B' := w1.heap.size + 1) hzk)
    have hs2 : w1.heap.size + 1 ≤ w2.heap.size := by have := hb2'.size; simpa using this
    clear hb2 k0 k1 k2 km kb' hbk hok
    go_wp2_with fail
    refine (read_nil code _ h hc2).mono ?_
    rintro e w3 ⟨rfl, hb3⟩
    have cr : w3.cell? ⟨w1.heap.size, 0, none⟩ = some (.int .u8 rc) := by rw [hb3.cell (by simp; omega), hb2'.cell (by simp)]; simp
    go_wp2_with fail
    refine (line_none nm none 0 _ _).mono ?_
    rintro e w4 ⟨rfl, rfl⟩
    go_wp2
    go_ret2
    exact ⟨rfl, ((hb1.alloc hs1 _).trans (hb2'.mono (by omega))).trans (hb3.mono (by omega))⟩
end Go.Proofs.YthokdbcpkmcieaaGreatDoor
namespace Go.Proofs.YthokdbcpkmcieaaGreatDoor
open Go Go.RowKit Go.Shelf Go.WideMaps Go.Maps
/-- An operand as parts makes it. -/
def opn (b : Int) (t : ByteArray) : Opn := ⟨(kindI t).toNat, t, b, 0, 0⟩
theorem opn_cells (b : Int) (ps : List ByteArray) (h : ∀ t ∈ ps, 0 ≤ kindI t) : ps.flatMap (opCells b) = allCells (ps.map (opn b)) := by
  induction ps with
  | nil => rfl
  | cons t ps ih =>
    have ht := h t (by simp)
    have := ih (fun x hx => h x (List.mem_cons_of_mem _ hx))
    simp only [List.flatMap_cons, List.map_cons, allCells] at this ⊢
    rw [this]
    congr 1
    simp only [opCells, opn, Opn.cells]
    rw [Int.toNat_of_nonneg ht]
theorem parts_ops (rc rf c m : Int) (rt nm ls : ByteArray) (ps : List ByteArray) (n kb : Nat) (w : World) (hown : w.ownsMap Tryz.prog 9 (plainElem Tryz.prog 111) kb 17 kindsD) (hs : rt.size < 1000) (hls : ls.size < 1000) (hm : w.cell? ⟨0, 0, none⟩ = some (.int .i64 m)) (h0 : 0 < w.heap.size)
    (hcut : Lib.cut rt.data.toList [32] = (nm.data.toList, ls.data.toList, true)) (hps : pieces ls = ps) (hn : ps.length = n) (hn0 : 0 < n) (hn1 : n ≤ 1000) (hpl : ∀ t, t ∈ ps → t.size ≤ 1000) (hk : ∀ t ∈ ps, 0 ≤ kindI t) (l0 : List Opn) (hl0 : ps.map (opn (bits BinOp.and IntKind.u8 c rf)) = l0) :
    Calls Tryz.prog 58 #[.agg #[.int .u8 rc, .int .u8 rf, .string rt], .int .u8 c, .map (some kb)] w fun e w' => ∃ g cap, e = .returned (.tuple #[.string nm, .slice (some ⟨g, 0, none⟩) n cap]) ∧
      w'.ownsRow w.heap.size 114 5 (.slice (some ⟨g, 0, none⟩) n cap) n (allCells l0) ∧ Below w.heap.size w w' := by
  refine (parts_some rc rf c m rt nm ls ps n kb w hown hs hls hm h0 hcut hps hn hn1 hpl).mono ?_
  rintro e w' ⟨v, rfl, hrow, hb⟩
  rw [opn_cells _ _ hk, hl0] at hrow
  obtain ⟨_, ⟨_, h'⟩ | ⟨g, cap, cur, rfl, _⟩⟩ := id hrow
  · omega
  · exact ⟨g, cap, rfl, hrow, hb⟩
/-- The first two operands' numbers change places. -/
def swap01 (l : List Opn) : List Opn := (l.set 0 ((l.getD 0 opn0).put (l.getD 1 opn0).added)).set 1 ((l.getD 1 opn0).put (l.getD 0 opn0).added)
/-- What is known of a row of the table, and of what parts makes of it. -/
structure RowIs (c : Int) (k n : Nat) (rc rf : Int) (rt nm ls : ByteArray) (ps : List ByteArray) (l0 : List Opn) : Prop where
  hk : k < 111
  hh : hit c k = true
  hf : ∀ j, j < k → hit c j = false
  e1 : ((rowAt k).1 : Int) = rc
  e2 : ((rowAt k).2.1 : Int) = rf
  e3 : (⟨(rowAt k).2.2.toArray⟩ : ByteArray) = rt
  hs : rt.size < 1000
  hls : ls.size < 1000
  hcut : Lib.cut rt.data.toList [32] = (nm.data.toList, ls.data.toList, true)
  hps : pieces ls = ps
  hn : ps.length = n
  hn0 : 0 < n
  hn1 : n ≤ 3
  hpl : ∀ t, t ∈ ps → t.size ≤ 1000
  hkd : ∀ t ∈ ps, 0 ≤ kindI t
  hk17 : ∀ t ∈ ps, (kindI t).toNat < 17
  hl0 : ps.map (opn (bits BinOp.and IntKind.u8 c rf)) = l0
  hnm : nm.size ≤ 1000
theorem RowIs.len {c : Int} {k n : Nat} {rc rf : Int} {rt nm ls : ByteArray} {ps : List ByteArray} {l0 : List Opn} (h : RowIs c k n rc rf rt nm ls ps l0) : l0.length = n := by rw [← h.hl0, List.length_map]; exact h.hn
theorem RowIs.kinds {c : Int} {k n : Nat} {rc rf : Int} {rt nm ls : ByteArray} {ps : List ByteArray} {l0 : List Opn} (h : RowIs c k n rc rf rt nm ls ps l0) : ∀ j, j < n → (l0.getD j opn0).kind < 17 := by
  intro j hj
  have hjp : j < ps.length := by rw [h.hn]; exact hj
  rw [← h.hl0, List.getD_eq_getElem?_getD, List.getElem?_map, List.getElem?_eq_getElem hjp]
  exact h.hk17 _ (List.getElem_mem hjp)
set_option maxRecDepth 100000 in
set_option maxHeartbeats 4000000 in
theorem dec_short (code : ByteArray) (at' m : Int) (w : World) (h : 0 < code.size) (hc2 : code.size ≤ maxLen) (hm : w.cell? ⟨0, 0, none⟩ = some (.int .i64 m)) (h0 : 0 < w.heap.size) (k n : Nat) (rc rf : Int) (rt nm ls : ByteArray) (ps : List ByteArray) (l0 : List Opn)
    (hr : RowIs (code[0].toNat : Int) k n rc rf rt nm ls ps l0) (hsh : (readTo l0 (code.extract 1 code.size) false n).2.2 = true) :
    Calls Tryz.prog 30 #[.string code, .int .i64 at'] w fun e w' => e = .returned (.tuple #[.string ⟨#[]⟩, .int .i64 0]) ∧ Below w.heap.size w w' := by
  have hne : code.toList.isEmpty = false := by rw [isEmpty_iff]; simp only [decide_eq_false_iff_not]; omega
  have HF := hideIt (fun w => find_hit (code[0].toNat : Int) w k hr.hk hr.hh hr.hf rc rf rt hr.e1 hr.e2 hr.e3)
  have HP := hideIt (fun w kb hown hm h0 => parts_ops rc rf (code[0].toNat : Int) m rt nm ls ps n kb w hown hr.hs hr.hls hm h0 hr.hcut hr.hps hr.hn hr.hn0 (by have := hr.hn1; omega) hr.hpl hr.hkd l0 hr.hl0)
  have HL := hideIt hr.len
  have HK := hideIt hr.kinds
  have hn1 := hr.hn1
  have HS := hideIt hsh
  clear hr hsh
  go_enter Tryz.func30, Tryz.ntmps30
  go_wp2_with fail
  refine (HF.out _).mono ?_
  rintro e w1 ⟨rfl, hb1⟩
  have hs1 := hb1.size
  have hm1 : ∀ o, (w1.alloc o).cell? ⟨0, 0, none⟩ = some (.int .i64 m) := fun o => by rw [World.cell?_alloc_old _ _ _ (by simp; omega), hb1.cell (by simp; omega)]; exact hm
  go_wp2_with fail
  go_region_with (first | (go_at_call 59; refine (kinds_any _).mono ?_; rintro e wk ⟨rfl, hok, hbk⟩; have hok' : wk.ownsMap Tryz.prog 9 (plainElem Tryz.prog 111) (w1.heap.size + 1) 17 kindsD := (by simpa using hok); have k0 : wk.cell? ⟨w1.heap.size, 0, none⟩ = some (.int .u8 rc) := (by rw [hbk.cell (by simp)]; simp); have k1 : wk.cell? ⟨w1.heap.size, 1, none⟩ = some (.int .u8 rf) := (by rw [hbk.cell (by simp)]; simp); have k2 : wk.cell? ⟨w1.heap.size, 2, none⟩ = some (.string rt) := (by rw [hbk.cell (by simp)]; simp); have km : wk.cell? ⟨0, 0, none⟩ = some (.int .i64 m) := (by rw [hbk.cell (by simp)]; exact hm1 _); have kz : 0 < wk.heap.size := (by have := hbk.size; simp at this; omega); have kb' : Below (w1.heap.size + 1) (w1.alloc (.cells #[.int .u8 rc, .int .u8 rf, .string rt] 101)) wk := (by have hx := hbk.mono (B' := w1.heap.size + 1) (by simp); exact ⟨hx.os, hx.tape, hx.output, hx.size, hx.block⟩)) | (go_at_call 58; refine (HP.out _ _ (by exact hok') (by exact km) (by exact kz)).mono ?_; rintro e w2 ⟨g, cap, rfl, hrow, hb2⟩))
  all_goals
    have hzk : w1.heap.size + 1 ≤ wk.heap.size := by have := kb'.size; simpa using this
    have hb2' := kb'.trans (hb2.mono (B' := w1.heap.size + 1) hzk)
    have hs2 : w1.heap.size + 1 ≤ w2.heap.size := by have := hb2'.size; simpa using this
    have hrow' : w2.ownsRow (w1.heap.size + 1) 114 5 (.slice (some ⟨g, 0, none⟩) n cap) n (allCells l0) := own_base hrow hzk
    have hg := (hrow'.lt g rfl).1
    clear hb2 hrow k0 k1 k2 km kb' hbk hok hok'
    go_wp2_with fail
    refine (read_any (w1.heap.size + 1) g cap n l0 code _ HL.out (by omega) hrow' HK.out h hc2).mono ?_
    rintro e w3 ⟨rfl, hrow3, hg3⟩
    rw [HS.out]
    have hb3 : Below (w1.heap.size + 1) w2 w3 := ⟨hg3.os, hg3.tape, hg3.output, hg3.size, fun j hj => hg3.block j (by omega) (by simp; omega)⟩
    have HB := hideIt (((hb1.alloc hs1 _).trans (hb2'.mono (by omega))).trans (hb3.mono (B' := w.heap.size) (by omega)))
    clear hrow' hrow3 hg3 hb3
    go_wp2
    go_ret2
    exact ⟨rfl, HB.out⟩
end Go.Proofs.YthokdbcpkmcieaaGreatDoor
namespace Go.Proofs.YthokdbcpkmcieaaGreatDoor
open Go Go.RowKit Go.Shelf Go.WideMaps Go.Maps
/-- The place behind an instruction. -/
def behindN (at' sz : Int) : Int := IntKind.u16.wrap (IntKind.u16.wrap at' + IntKind.u16.wrap sz)
theorem read_at (base g cap n : Nat) (l : List Opn) (code : ByteArray) (w : World) (hl : l.length = n) (hn : n ≤ 1000) (hown : w.ownsRow base 114 5 (.slice (some ⟨g, 0, none⟩) n cap) n (allCells l))
    (hk : ∀ k, k < n → (l.getD k opn0).kind < 17) (hc : 0 < code.size) (hc2 : code.size ≤ maxLen) (sl : List Opn) (sz : Int) (ss : Bool) (h1 : (readTo l (code.extract 1 code.size) false n).1 = sl) (h2 : (code.size : Int) - ((readTo l (code.extract 1 code.size) false n).2.1.size : Int) = sz) (h3 : (readTo l (code.extract 1 code.size) false n).2.2 = ss) :
    Calls Tryz.prog 60 #[.slice (some ⟨g, 0, none⟩) n cap, .string code] w fun e w' =>
      e = .returned (.tuple #[.int .i64 sz, .bool (!ss)]) ∧ w'.ownsRow base 114 5 (.slice (some ⟨g, 0, none⟩) n cap) n (allCells sl) ∧ w.grownBy w' (some g) := by
  subst h1 h2 h3
  exact read_any base g cap n l code w hl hn hown hk hc hc2
set_option maxRecDepth 100000 in
set_option maxHeartbeats 4000000 in
theorem dec_whole (code : ByteArray) (at' m : Int) (w : World) (h : 0 < code.size) (hc2 : code.size ≤ maxLen) (hm : w.cell? ⟨0, 0, none⟩ = some (.int .i64 m)) (h0 : 0 < w.heap.size) (k n : Nat) (rc rf : Int) (rt nm ls : ByteArray) (ps : List ByteArray) (l0 : List Opn)
    (hr : RowIs (code[0].toNat : Int) k n rc rf rt nm ls ps l0) (sl : List Opn) (sz : Int) (h1 : (readTo l0 (code.extract 1 code.size) false n).1 = sl) (h2 : (code.size : Int) - ((readTo l0 (code.extract 1 code.size) false n).2.1.size : Int) = sz) (h3 : (readTo l0 (code.extract 1 code.size) false n).2.2 = false)
    (hrc : (rc == 133) = false) (hf : ∀ k, k < n → ((sl.getD k opn0).at (behindN at' sz)).Fine) (hws : ∀ k, k < n → (writS ((sl.getD k opn0).at (behindN at' sz))).size ≤ 2000) :
    Calls Tryz.prog 30 #[.string code, .int .i64 at'] w fun e w' => e = .returned (.tuple #[.string ((nm ++ ⟨#[32]⟩) ++ ⟨(Lib.join (sl.map fun o => (writS (o.at (behindN at' sz))).data.toList) [44]).toArray⟩), .int .i64 sz]) ∧ Below w.heap.size w w' := by
  have hne : code.toList.isEmpty = false := by rw [isEmpty_iff]; simp only [decide_eq_false_iff_not]; omega
  have HF := hideIt (fun w => find_hit (code[0].toNat : Int) w k hr.hk hr.hh hr.hf rc rf rt hr.e1 hr.e2 hr.e3)
  have HP := hideIt (fun w kb hown hm h0 => parts_ops rc rf (code[0].toNat : Int) m rt nm ls ps n kb w hown hr.hs hr.hls hm h0 hr.hcut hr.hps hr.hn hr.hn0 (by have := hr.hn1; omega) hr.hpl hr.hkd l0 hr.hl0)
  have HR := hideIt (fun base g cap w hown => read_at base g cap n l0 code w hr.len (by have := hr.hn1; omega) hown hr.kinds h hc2 sl sz false h1 h2 h3)
  have hll : sl.length = n := by rw [← h1, readTo_len]; exact hr.len
  obtain ⟨bh, hbh⟩ : ∃ bh, behindN at' sz = bh := ⟨_, rfl⟩
  rw [hbh] at hf hws ⊢
  obtain ⟨R, hR⟩ : ∃ R : ByteArray, (nm ++ ⟨#[32]⟩) ++ ⟨(Lib.join (sl.map fun o => (writS (o.at bh)).data.toList) [44]).toArray⟩ = R := ⟨_, rfl⟩
  have HLI := hideIt (fun base g cap w hown => line_some base g cap n sl nm bh w hll hr.hn0 (by have := hr.hn1; omega) hown hf hr.hnm hws)
  rw [hR] at HLI ⊢
  have HBH : Hid (IntKind.u16.wrap (IntKind.u16.wrap at' + IntKind.u16.wrap sz) = bh) := hbh
  have hn1 := hr.hn1
  clear hr h1 h2 h3 hf hws hbh hR hll
  go_enter Tryz.func30, Tryz.ntmps30
  go_wp2_with fail
  refine (HF.out _).mono ?_
  rintro e w1 ⟨rfl, hb1⟩
  have hs1 := hb1.size
  have hm1 : ∀ o, (w1.alloc o).cell? ⟨0, 0, none⟩ = some (.int .i64 m) := fun o => by rw [World.cell?_alloc_old _ _ _ (by simp; omega), hb1.cell (by simp; omega)]; exact hm
  go_wp2_with fail
  go_region_with (first | (go_at_call 59; refine (kinds_any _).mono ?_; rintro e wk ⟨rfl, hok, hbk⟩; have hok' : wk.ownsMap Tryz.prog 9 (plainElem Tryz.prog 111) (w1.heap.size + 1) 17 kindsD := (by simpa using hok); have k0 : wk.cell? ⟨w1.heap.size, 0, none⟩ = some (.int .u8 rc) := (by rw [hbk.cell (by simp)]; simp); have k1 : wk.cell? ⟨w1.heap.size, 1, none⟩ = some (.int .u8 rf) := (by rw [hbk.cell (by simp)]; simp); have k2 : wk.cell? ⟨w1.heap.size, 2, none⟩ = some (.string rt) := (by rw [hbk.cell (by simp)]; simp); have km : wk.cell? ⟨0, 0, none⟩ = some (.int .i64 m) := (by rw [hbk.cell (by simp)]; exact hm1 _); have kz : 0 < wk.heap.size := (by have := hbk.size; simp at this; omega); have kb' : Below (w1.heap.size + 1) (w1.alloc (.cells #[.int .u8 rc, .int .u8 rf, .string rt] 101)) wk := (by have hx := hbk.mono (B' := w1.heap.size + 1) (by simp); exact ⟨hx.os, hx.tape, hx.output, hx.size, hx.block⟩)) | (go_at_call 58; refine (HP.out _ _ (by exact hok') (by exact km) (by exact kz)).mono ?_; rintro e w2 ⟨g, cap, rfl, hrow, hb2⟩))
  all_goals
    have hzk : w1.heap.size + 1 ≤ wk.heap.size := by have := kb'.size; simpa using this
    have hb2' := kb'.trans (hb2.mono (B' := w1.heap.size + 1) hzk)
    have hs2 : w1.heap.size + 1 ≤ w2.heap.size := by have := hb2'.size; simpa using this
    have hrow' : w2.ownsRow (w1.heap.size + 1) 114 5 (.slice (some ⟨g, 0, none⟩) n cap) n (allCells l0) := own_base hrow hzk
    have hg := (hrow'.lt g rfl).1
    clear hb2 hrow k0 k1 k2 km kb' hbk hok hok'
    go_wp2_with fail
    refine (HR.out (w1.heap.size + 1) g cap _ hrow').mono ?_
    rintro e w3 ⟨rfl, hrow3, hg3⟩
    have hb3 : Below (w1.heap.size + 1) w2 w3 := ⟨hg3.os, hg3.tape, hg3.output, hg3.size, fun j hj => hg3.block j (by omega) (by simp; omega)⟩
    have HB := hideIt (((hb1.alloc hs1 _).trans (hb2'.mono (by omega))).trans (hb3.mono (B' := w.heap.size) (by omega)))
    have cr : w3.cell? ⟨w1.heap.size, 0, none⟩ = some (.int .u8 rc) := by rw [hb3.cell (by simp), hb2'.cell (by simp)]; simp
    have H3 := hideIt hrow3
    clear hrow' hrow3 hg3 hb3 hb2'
    go_wp2_with fail
    rw [HBH.out]
    refine (HLI.out (w1.heap.size + 1) g cap _ H3.out).mono ?_
    rintro e w4 ⟨rfl, hb4⟩
    go_wp2
    go_ret2
    exact ⟨rfl, HB.out.trans (hb4.mono HB.out.size)⟩
end Go.Proofs.YthokdbcpkmcieaaGreatDoor
