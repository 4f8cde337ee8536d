/- Walks of checked, appendWritten, Frame. -/
import Derived.Test.YthokdbcpkmcieaaEarW4
import Derived.ArgAppend
import Derived.Great.BuildSlice
namespace Go.Proofs.Ythokdbcpkmcieaa
open Go Go.RowKit
/-- The bytes of a text in a new row: where there is room behind them it may be written. -/
theorem bytes_ofE (s : ByteArray) (w : World) : ∃ w1 cap, (convert 9 65 (.string s)).run Try.prog w = .ok (.slice (some ⟨w.heap.size, 0, none⟩) s.size cap) w1 ∧ BytesAt w1 w.heap.size 0 s.data.toList ∧
    (∀ j, j < cap → (w1.cell? ⟨w.heap.size, j, none⟩).isSome = true ∧ w1.frozen? ⟨w.heap.size, j, none⟩ = false) ∧ Below w.heap.size w w1 ∧ w1.heap.size = w.heap.size + 1 := by
  have hge := grownCap_ge w s.size 0 5
  have hsz : (bytesRow s (grownCap w s.size 0 5)).size = grownCap w s.size 0 5 := by
    unfold bytesRow
    rw [Array.size_append, Array.size_map, Array.size_replicate]
    show s.size + _ = _
    omega
  refine ⟨_, _, run_bytes_of_string w 9 65 5 s Try.underlying9 Try.underlying65 Try.underlying5, ?_, ?_, ?_, ?_⟩
  · intro i hi
    have h' : i < s.data.size := by simpa using hi
    rw [Nat.zero_add]
    have e := World.cell?_alloc_mark w.drew (bytesRow s (grownCap w s.size 0 5)) 5 ((bytesRow s (grownCap w s.size 0 5)).size, (bytesRow s (grownCap w s.size 0 5)).size + 1) i
    have e2 : w.drew.heap.size = w.heap.size := rfl
    rw [e2] at e
    rw [e, bytesRow_at s _ i h', List.getD_eq_getElem?_getD, Array.getElem?_toList, Array.getElem?_eq_getElem h']
    rfl
  · intro j hj
    have e := World.cell?_alloc_mark w.drew (bytesRow s (grownCap w s.size 0 5)) 5 ((bytesRow s (grownCap w s.size 0 5)).size, (bytesRow s (grownCap w s.size 0 5)).size + 1) j
    have f := World.frozen?_alloc_mark w.drew (bytesRow s (grownCap w s.size 0 5)) 5 (bytesRow s (grownCap w s.size 0 5)).size ((bytesRow s (grownCap w s.size 0 5)).size + 1) j
    have e2 : w.drew.heap.size = w.heap.size := rfl
    rw [e2] at e f
    refine ⟨?_, ?_⟩
    · rw [e, Array.getElem?_eq_getElem (by omega)]; rfl
    · rw [f, hsz]; simp; omega
  · exact (Below.refl _ _).drew.alloc (Nat.le_refl _) _
  · show (w.heap.push _).size = _
    simp
theorem Try.infoU8 : (Try.prog.info? 5).map (fun i => (i.zero, i.size, i.bytes)) = some (some (.int .u8 0), 1, 1) := by kernel_rfl
def byteVs (l : List UInt8) : List Value := l.map fun b => .int .u8 (b.toNat : Int)
theorem byteVs_at (l : List UInt8) (j : Nat) (u : Value) (h : (byteVs l)[j]? = some u) : j < l.length ∧ u = .int .u8 ((l.getD j 0).toNat : Int) := by
  unfold byteVs at h
  rw [List.getElem?_map] at h
  cases hg : l[j]? with
  | none => rw [hg] at h; cases h
  | some b =>
    rw [hg] at h
    have := (List.getElem?_eq_some_iff.1 hg).1
    refine ⟨this, ?_⟩
    rw [List.getD_eq_getElem?_getD, hg]
    simpa using h.symm
theorem bytes_holds {w : World} {g : Nat} {l : List UInt8} (h : BytesAt w g 0 l) : ∀ j u, (byteVs l)[j]? = some u → w.cell? ⟨g, 0 + j, none⟩ = some u := by
  intro j u hj
  obtain ⟨h1, rfl⟩ := byteVs_at l j u hj
  exact h j h1
theorem bytes_of_cells {w : World} {g : Nat} {l : List UInt8} (h : ∀ j u, (byteVs l)[j]? = some u → w.cell? ⟨g, j, none⟩ = some u) : BytesAt w g 0 l := by
  intro i hi
  rw [Nat.zero_add]
  refine h i _ ?_
  unfold byteVs
  rw [List.getElem?_map, List.getElem?_eq_getElem hi, List.getD_eq_getElem?_getD, List.getElem?_eq_getElem hi]
  rfl
theorem byteVs_len (l : List UInt8) : (byteVs l).length = l.length := by simp [byteVs]
theorem byteVs_append (a b : List UInt8) : byteVs (a ++ b) = byteVs a ++ byteVs b := by simp [byteVs]
theorem own_bytes {w : World} {base g n cap : Nat} {l : List UInt8} (h : w.ownsRow base 5 1 (.slice (some ⟨g, 0, none⟩) n cap) n (byteVs l)) : BytesAt w g 0 l := by
  apply bytes_of_cells
  intro j u hj
  have := h.cells (g := g) rfl j u hj
  rwa [Addr.add_lit, Nat.zero_add] at this
theorem set_bytes {w : World} {g n : Nat} {l t : List UInt8} (hn : l.length = n) (h : BytesAt w g 0 l) (hs : ∀ j, j < (byteVs t).length → (w.cell? ⟨g, n + j, none⟩).isSome = true) : BytesAt (w.setCells g n (byteVs t)) g 0 (l ++ t) := by
  intro i hi
  rw [Nat.zero_add]
  by_cases hl : i < n
  · rw [World.cell?_setCells_out _ _ _ _ _ (fun _ _ => .inl hl)]
    have := h i (by omega)
    rw [Nat.zero_add] at this
    rw [this]
    simp only [List.getD_eq_getElem?_getD]
    rw [List.getElem?_append_left (by omega)]
  · have hj : i - n < t.length := by simp at hi; omega
    have := World.cell?_setCells_in g (byteVs t) n w hs (i - n) (by rw [byteVs_len]; exact hj)
    rw [show n + (i - n) = i by omega] at this
    rw [this]
    simp only [List.getD_eq_getElem?_getD]
    rw [List.getElem?_append_right (by omega), hn, List.getElem?_eq_getElem hj]
    simp [byteVs]
theorem heap_setCells (b : Nat) : ∀ (vs : List Value) (o : Nat) (w : World) (k : Nat), k ≠ b → (w.setCells b o vs).heap[k]? = w.heap[k]?
  | [], _, _, _, _ => rfl
  | v :: vs, o, w, k, h => by
    show ((w.setCell ⟨b, o, none⟩ v).setCells b (o + 1) vs).heap[k]? = _
    rw [heap_setCells b vs (o + 1) _ k h, Below.heap_setCell _ _ _ _ (by simpa using h)]
theorem size_setCells (b : Nat) : ∀ (vs : List Value) (o : Nat) (w : World), (w.setCells b o vs).heap.size = w.heap.size
  | [], _, _ => rfl
  | v :: vs, o, w => by
    show ((w.setCell ⟨b, o, none⟩ v).setCells b (o + 1) vs).heap.size = _
    rw [size_setCells b vs (o + 1) _]; simp [World.setCell]
theorem rest_setCells (b : Nat) : ∀ (vs : List Value) (o : Nat) (w : World), (w.setCells b o vs).os = w.os ∧ (w.setCells b o vs).tape = w.tape ∧ (w.setCells b o vs).output = w.output
  | [], _, _ => ⟨rfl, rfl, rfl⟩
  | v :: vs, o, w => rest_setCells b vs (o + 1) (w.setCell ⟨b, o, none⟩ v)
/-- A list written out, each of its values of one cell. -/
theorem wpList_buildRow {P : Program} {ops : Array Oper} {rest : List Oper} {o : Oper} {a : Act} {w : World} {Q : Exit → Act → World → Prop} (hg : o.guard = none) (t e : TypeId) (len : Nat) (parts : Array (Nat × Operand)) (ho : o.op = .buildSlice t len parts)
    (xs : List Operand) (vs : List Value) (hp : parts.toList = (xs.zipIdx 0).map fun x => (x.2, x.1)) (he : xs.map a.eval = vs) (h1 : ∀ v ∈ vs, v.cells = #[v]) (ie : TypeInfo) (z : Value)
    (hu : P.underlying t = some (.slice e)) (hie : P.info? e = some ie) (hz : ie.zero = some z) (hs : ie.size = 1) (hlen : len = xs.length) (hpos : 0 < len) (hsmall : len ≤ 2 ^ 24)
    (h : wpList P ops Q rest (a.put o.dst (.slice (some ⟨w.heap.size, 0, none⟩) len len)) (w.alloc (.cells vs.toArray e))) : wpList P ops Q (o :: rest) a w := by
  refine wpList_buildSlice hg t e len parts ho vs.toArray ie z hu hie hz (by rw [hs]; omega) (by rw [hs]; omega) ?_ h
  rw [hs]
  have e1 : (parts.map fun (i, x) => (i, a.eval x)).toList = (vs.zipIdx 0).map fun x => (x.2, x.1) := by
    rw [Array.toList_map, hp, ← he, List.zipIdx_map, List.map_map, List.map_map]
    rfl
  rw [e1]
  have hl : vs.length = xs.length := by rw [← he]; simp
  exact Great.fill_flat vs _ h1 (by simp [hl, hlen])
theorem ints_one (k : IntKind) : ∀ (zs : List Int), ∀ v ∈ zs.map (Value.int k), v.cells = #[v] := by
  intro zs v hv
  obtain ⟨n, _, rfl⟩ := List.mem_map.1 hv
  rfl
theorem cells_new (w : World) (l : List Value) (t : TypeId) : ∀ j u, l[j]? = some u → (w.alloc (.cells l.toArray t)).cell? ((⟨w.heap.size, 0, none⟩ : Addr).add j) = some u := by
  intro j u hj
  rw [Addr.add_lit, Nat.zero_add]
  have := World.cell?_alloc_mark w l.toArray t (0, 0) j
  rw [this]
  simpa using hj
theorem own_some {w : World} {base : Nat} {e : TypeId} {size n : Nat} {v : Value} {xs : List Value} (h : w.ownsRow base e size v n xs) (hn : 0 < n) : ∃ g cap, v = .slice (some ⟨g, 0, none⟩) n cap ∧ base ≤ g ∧ g < w.heap.size := by
  have hl := h.lt
  obtain ⟨_, ⟨rfl, h0⟩ | ⟨g, cap, cur, rfl, hg, _⟩⟩ := h
  · omega
  · exact ⟨g, cap, rfl, hg, (hl g rfl).2⟩
theorem World.alloc_size (w : World) (o : Obj) : (w.alloc o).heap.size = w.heap.size + 1 := by simp
/-- The check behind the message, where there was room. -/
theorem checked_room {w w1 w2 : World} {l t : List UInt8} {n cap : Nat} {o : Obj} (hn : l.length = n) (b1 : Below w.heap.size w w1) (b2 : Below w1.heap.size w1 w2) (hlt : w1.heap.size < w2.heap.size) (hb : BytesAt w2 w1.heap.size 0 l)
    (hs : ∀ j, j < cap → (w2.cell? ⟨w1.heap.size, j, none⟩).isSome = true) (hr : n + t.length ≤ cap) :
    w.heap.size ≤ w1.heap.size ∧ w1.heap.size < ((w2.alloc o).setCells w1.heap.size n (byteVs t)).heap.size ∧ BytesAt ((w2.alloc o).setCells w1.heap.size n (byteVs t)) w1.heap.size 0 (l ++ t) ∧ Below w.heap.size w ((w2.alloc o).setCells w1.heap.size n (byteVs t)) := by
  have z1 := b1.size
  have z2 := b2.size
  refine ⟨z1, ?_, ?_, ?_⟩
  · rw [size_setCells, World.alloc_size]; omega
  · refine set_bytes hn (hb.kept (Below.heap_alloc _ _ _ hlt)) (fun j hj => ?_)
    rw [byteVs_len] at hj
    rw [World.cell?_alloc_old _ _ _ (Nat.ne_of_lt hlt)]
    exact hs _ (by omega)
  · obtain ⟨r1, r2, r3⟩ := rest_setCells w1.heap.size (byteVs t) n (w2.alloc o)
    refine ⟨r1.trans (b2.os.trans b1.os), r2.trans (b2.tape.trans b1.tape), r3.trans (b2.output.trans b1.output), ?_, fun k hk => ?_⟩
    · rw [size_setCells, World.alloc_size]; omega
    · rw [heap_setCells _ _ _ _ _ (by omega), Below.heap_alloc _ _ _ (by omega), b2.block k (by omega), b1.block k hk]
set_option maxRecDepth 100000 in
set_option maxHeartbeats 2000000 in
theorem checked_any (m : ByteArray) (w : World) (hm : m.size ≤ 1000) :
    Calls Try.prog 44 #[.string m] w fun e w' => ∃ g cap, e = .returned (.slice (some ⟨g, 0, none⟩) (m.size + 2) cap) ∧ w.heap.size ≤ g ∧ g < w'.heap.size ∧ BytesAt w' g 0 (m.data.toList ++ chkB m.data.toList) ∧ Below w.heap.size w w' := by
  obtain ⟨i0, hi, hz0, hz1, hz2⟩ := info_of Try.infoU8
  have hlen : m.data.toList.length = m.size := by rw [Array.length_toList]; rfl
  obtain ⟨w1, cap1, hrun1, hb1, _, hB1, hs1⟩ := bytes_ofE m w
  obtain ⟨w2, cap2, hrun2, hb2, hsp2, hB2, hs2⟩ := bytes_ofE m w1
  obtain ⟨l, hl⟩ : ∃ l, m.data.toList = l := ⟨_, rfl⟩
  rw [hl] at hb1 hb2 hlen ⊢
  have HC := hideIt (check_any w.heap.size 0 cap1 l w1 (by omega) hb1)
  rw [hlen] at HC
  obtain ⟨c, hc⟩ : ∃ c, crcN l = c := ⟨_, rfl⟩
  have hcl : c < 65536 := by rw [← hc]; exact crcN_lt l
  have HK : Hid (chkB l = [UInt8.ofNat (c / 256), UInt8.ofNat (c % 256)]) := by rw [← hc]; rfl
  rw [hc] at HC
  have q1 : ((c : Int) / 256 % 256) = ((UInt8.ofNat (c / 256)).toNat : Int) := by rw [UInt8.toNat_ofNat']; omega
  have q2 : ((c : Int) % 256) = ((UInt8.ofNat (c % 256)).toNat : Int) := by rw [UInt8.toNat_ofNat']; omega
  have Q1 := hideIt q1
  have Q2 := hideIt q2
  clear q1 q2
  have HB2 := hideIt hb2
  have HS2 := hideIt hsp2
  have HBB := hideIt (And.intro hB1 hB2)
  have HZ := hideIt (And.intro hs1 hs2)
  clear hb1 hb2 hsp2 hB1 hB2 hl hc hs1 hs2
  go_enter Try.func44, Try.ntmps44
  go_wp2_with fail
  refine HC.out.mono ?_
  rintro e w' ⟨rfl, hw'⟩
  subst hw'
  go_wp2_with (first | (refine wpList_buildRow rfl 65 5 2 _ rfl [.tmp 11, .tmp 13] [.int .u8 ((c : Int) / 256), .int .u8 ((c : Int) % 256)] rfl rfl (ints_one .u8 [(c : Int) / 256, (c : Int) % 256]) i0 (.int .u8 0) Try.underlying65 hi hz0 hz1 rfl (by decide) (by decide) ?_; simp only [Act.put, List.setIfInBounds_toArray, List.set_cons_succ, List.set_cons_zero]) | (at_builtin; refine wpList_append_arg _ rfl _ _ 65 rfl 5 i0 (.int .u8 0) 1 1 Try.underlying65 hi hz0 hz1 hz2 rfl (by decide) w'.heap.size 0 m.size cap2 (byteVs l) rfl (by rw [byteVs_len, hlen, Nat.mul_one]) ?olds ⟨w2.heap.size, 0, none⟩ 2 2 [.int .u8 ((c : Int) / 256), .int .u8 ((c : Int) % 256)] rfl rfl (cells_new _ _ _) ?ones ?spare (by unfold maxLen; omega) (by omega) ?room ?grow))
  case olds =>
    intro j u hj
    rw [World.cell?_alloc_old _ _ _ (by have := HZ.out.2; show w'.heap.size ≠ _; omega)]
    exact bytes_holds HB2.out j u hj
  case ones =>
    intro u hu
    simp at hu
    rcases hu with rfl | rfl <;> rfl
  case spare =>
    intro hr j hj
    simp only [List.length_cons, List.length_nil] at hj
    have hlt : w'.heap.size < w2.heap.size := by have := HZ.out.2; omega
    rw [World.cell?_alloc_old _ _ _ (Nat.ne_of_lt hlt), World.frozen?_of_block (a := ⟨w'.heap.size, 0 + m.size * 1 + j, none⟩) (Below.heap_alloc _ _ _ hlt)]
    have := HS2.out (m.size + j) (by omega)
    rw [show 0 + m.size * 1 + j = m.size + j by omega]
    exact this
  case room =>
    intro hr
    have hlt : w'.heap.size < w2.heap.size := by have := HZ.out.2; omega
    have hfin := checked_room (w := w) (w1 := w') (w2 := w2) (l := l) (n := m.size) (cap := cap2) (o := .cells #[.int .u8 ((c : Int) / 256), .int .u8 ((c : Int) % 256)] 5) (t := [UInt8.ofNat (c / 256), UInt8.ofNat (c % 256)]) hlen HBB.out.1 HBB.out.2 hlt HB2.out (fun j hj => (HS2.out j hj).1) (by simpa using hr)
    have hvs : byteVs [UInt8.ofNat (c / 256), UInt8.ofNat (c % 256)] = [.int .u8 ((c : Int) / 256), .int .u8 ((c : Int) % 256)] := by
      simp only [byteVs, List.map_cons, List.map_nil]
      rw [← Q2.out, ← Q1.out, show ((c : Int) / 256 % 256) = (c : Int) / 256 by omega]
    rw [hvs] at hfin
    have HF := hideIt hfin
    have HL := hideIt hlt
    clear hfin hlt hvs
    go_wp2
    go_ret
    refine ⟨w'.heap.size, cap2, rfl, HF.out.1, HF.out.2.1, ?_, HF.out.2.2.2⟩
    rw [HK.out]; exact HF.out.2.2.1
  case grow =>
    intro hc2 v' wn hown hgr
    obtain ⟨g, capn, rfl, hg1, hg2⟩ := own_some hown (by omega)
    have hvs : byteVs (l ++ chkB l) = byteVs l ++ [.int .u8 ((c : Int) / 256), .int .u8 ((c : Int) % 256)] := by
      rw [byteVs_append, HK.out]
      congr 1
      simp only [byteVs, List.map_cons, List.map_nil]
      rw [← Q2.out, ← Q1.out, show ((c : Int) / 256 % 256) = (c : Int) / 256 by omega]
    rw [← hvs] at hown
    have hbt := own_bytes hown
    have hbl : Below w.heap.size w wn := by
      have b1 := HBB.out.1
      have b2 := HBB.out.2
      have z1 := b1.size
      have z2 := b2.size
      have z3 := hgr.size
      simp only [World.alloc_size] at z3
      refine ⟨(hgr.os.trans b2.os).trans b1.os, (hgr.tape.trans b2.tape).trans b1.tape, (hgr.output.trans b2.output).trans b1.output, by omega, fun k hk => ?_⟩
      rw [hgr.block k (by simp; omega) (by simp), Below.heap_alloc _ _ _ (by omega), b2.block k (by omega), b1.block k hk]
    have HF := hideIt (And.intro hbt hbl)
    have HG := hideIt (And.intro hg1 hg2)
    clear hown hgr hbt hbl hvs hg1 hg2
    go_wp2
    go_ret
    have z1 := HBB.out.1.size
    have z2 := HBB.out.2.size
    have z3 := HG.out.1
    try simp only [World.alloc_size] at z3
    exact ⟨g, capn, rfl, by omega, HG.out.2, HF.out.1, HF.out.2⟩
end Go.Proofs.Ythokdbcpkmcieaa
