/- The walk of keepStrings. -/
import Derived.Test.YthokdbcpkmcieaaBook3
import Derived.Test.YthokdbcpkmcieaaRef2
import Derived.BigRegion
import Derived.Deep.DeepCutAuto
namespace Go.Proofs.Ythokdbcpkmcieaa
open Go Go.RowKit
theorem own_free {w : World} {base : Nat} {e : TypeId} {size n g cap : Nat} {xs : List Value} (h : w.ownsRow base e size (.slice (some ⟨g, 0, none⟩) n cap) n xs) {j : Nat} : w.frozen? ⟨g, j, none⟩ = false := by
  obtain ⟨_, ⟨h2, _⟩ | ⟨g', cap', cur, hv, hg, hc, _⟩⟩ := h
  · cases h2
  · simp only [Value.slice.injEq, Option.some.injEq, Addr.mk.injEq, true_and, and_true] at hv
    obtain ⟨rfl, rfl⟩ := hv
    simp [World.frozen?, hc]
theorem marks_new (w : World) (b : Nat) (hb : b = w.heap.size) (t : TypeId) (k : Nat) {u : Value} : ∀ j x, (List.replicate k u)[j]? = some x → (w.alloc (.cells (List.replicate k u).toArray t)).cell? ((⟨b, 0, none⟩ : Addr).add j) = some x := by
  intro j x hx
  subst hb
  rw [Addr.add_lit, Nat.zero_add]
  have := World.cell?_alloc_mark w (List.replicate k u).toArray t (0, 0) j
  rw [List.getElem?_toArray, hx] at this
  exact this
theorem ks_first {w wr : World} {top B n : Nat} {vl : Value} {m : ByteArray} {t : TypeId} (hR : wr.ownsRow B 9 1 vl n (List.replicate n (.string m))) (hW : Below top w wr) (htB : top ≤ B) (hBr : B ≤ wr.heap.size) : KS w (wr.alloc (.cells #[vl, .slice none 0 0, .slice none 0 0, .slice none 0 0, .string m] t)) top B vl n m wr.heap.size (.slice none 0 0) (.slice none 0 0) (.slice none 0 0) := by
  have hc : ∀ j, (wr.alloc (.cells #[vl, .slice none 0 0, .slice none 0 0, .slice none 0 0, .string m] t)).cell? ⟨wr.heap.size, j, none⟩ = #[vl, .slice none 0 0, .slice none 0 0, .slice none 0 0, .string m][j]? := fun j => World.cell?_alloc_mark wr _ t (0, 0) j
  refine ⟨hW.alloc (by omega) _, hR.alloc _, fun j u hu => by rw [hc, ← hu]; exact List.getElem?_toArray, fun j => by rw [World.frozen?_alloc_mark wr _ t 0 0 j]; simp, by rw [World.alloc_size]; omega, fun v hv => ?_, fun v hv => ?_, by omega, by rw [World.alloc_size]; omega, htB⟩
  · simp only [List.mem_cons, List.not_mem_nil, or_false, or_self] at hv
    subst hv
    exact ⟨0, by decide, World.ownsRow_nil _ _ _ _, fun g hg => by simp [Value.ownBlock] at hg⟩
  · simp only [List.mem_cons, List.not_mem_nil, or_false, or_self] at hv
    rcases hv with rfl | rfl
    · intro e
      have := (hR.lt _ e).2
      omega
    · simp [Value.ownBlock]
theorem Try.infoStrings : (Try.prog.info? 67).map (fun i => (i.zero, i.size, i.bytes)) = some (some (.agg #[.slice none 0 0, .slice none 0 0, .slice none 0 0, .slice none 0 0, .string ⟨#[]⟩]), 5, 112) := by kernel_rfl
theorem book_head {w wn : World} {bb base e : Nat} {size n n' : Nat} {sv v v' : Value} {xs xs' : List Value} {o : Obj} (z0 : w.cell? ⟨bb, 0, none⟩ = some sv) (z1 : w.frozen? ⟨bb, 0, none⟩ = false) (_ : wn.ownsRow base e size v' n' xs') (hgr : (w.alloc o).drew.grownBy wn v.ownBlock) (hbl : bb < base) (hrow : w.drew.ownsRow base e size v n xs) (hw : bb < w.heap.size) : wn.cell? ⟨bb, 0, none⟩ = some sv ∧ wn.frozen? ⟨bb, 0, none⟩ = false := by
  have hb : wn.heap[bb]? = w.heap[bb]? := by
    rw [hgr.block bb (by simp; omega) (fun e => by have := (hrow.lt bb e.symm).1; omega)]
    exact Below.heap_alloc _ _ _ hw
  exact ⟨(World.cell?_of_block hb).trans z0, (World.frozen?_of_block hb).trans z1⟩
def markOf (n : Nat) : List UInt8 := [109, 97, 114, 107, UInt8.ofNat (65 + n % 60), UInt8.ofNat (65 + n / 60 % 60)]
set_option maxRecDepth 100000 in
set_option maxHeartbeats 8000000 in
theorem keepStrings_any (w : World) (bb base top : Nat) (sv : Value) (es : List Ent) (hB : BookS w bb base top sv es) (hes : es.length ≤ 2000000) (htop : top ≤ w.heap.size) (B : Nat) (vl : Value) (n : Nat) (xs : List Value) (hl : w.ownsRow B 9 1 vl n xs) (htB : top ≤ B) (hBw : B ≤ w.heap.size) (hn : n ≤ 2000000) :
    Calls Try.prog 12 #[.pointer (some ⟨bb, 0, none⟩), vl] w fun e w' => e = .returned (.tuple #[]) ∧ (∃ sv' en, BookS w' bb base w'.heap.size sv' (es ++ [en])) ∧ ButBook bb base w w' ∧ ∀ j, w'.cell? ⟨bb, j + 1, none⟩ = w.cell? ⟨bb, j + 1, none⟩ := by
  obtain ⟨i0, hi, hz0, hz1, hz2⟩ := info_of Try.infoStr
  obtain ⟨j0, hj, hj0, hj1, hj2⟩ := info_of Try.infoStrings
  have HB := hideIt hB
  have HL := hideIt hl
  have c0 := hB.c0
  have f0 := hB.f0
  obtain ⟨sa, sc, rfl⟩ : ∃ a c, sv = .slice a es.length c := by
    rcases hB.row with ⟨_, ⟨rfl, h0⟩ | ⟨g, cap, cur, rfl, _⟩⟩
    · exact ⟨_, _, by rw [h0]⟩
    · exact ⟨_, _, rfl⟩
  obtain ⟨la, lc, rfl⟩ : ∃ a c, vl = .slice a n c := by
    rcases hl with ⟨_, ⟨rfl, h0⟩ | ⟨g, cap, cur, rfl, _⟩⟩
    · exact ⟨_, _, by rw [h0]⟩
    · exact ⟨_, _, rfl⟩
  obtain ⟨N, hN⟩ : ∃ N, es.length = N := ⟨_, rfl⟩
  rw [hN] at c0 hes HB
  have hbl := hB.lt
  have hle := hB.le
  clear hB hl
  have hNi : (N : Int) ≤ 2000000 := by omega
  go_enter Try.func12, Try.ntmps12
  go_wp2_with fail
  go_cut [4] (fun s wx => ∃ m : ByteArray, s = .string m ∧ Below w.heap.size w wx)
  case first =>
    have hvs : byteVs [UInt8.ofNat (65 + N % 60), UInt8.ofNat (65 + N / 60 % 60)] = [.int .u8 (65 + (N : Int) % 60), .int .u8 (65 + (N : Int) / 60 % 60)] := by
      simp only [byteVs, List.map_cons, List.map_nil, UInt8.toNat_ofNat']
      rw [show (((65 + N % 60) % 2 ^ 8 : Nat) : Int) = 65 + (N : Int) % 60 by omega, show (((65 + N / 60 % 60) % 2 ^ 8 : Nat) : Int) = 65 + (N : Int) / 60 % 60 by omega]
    have hcv := conv_row rfl (own_new w w.heap.size (Nat.le_refl _) [UInt8.ofNat (65 + N % 60), UInt8.ofNat (65 + N / 60 % 60)] (by simp) (by simp)).drew
    rw [hvs] at hcv
    have hTs : ((txt [UInt8.ofNat (65 + N % 60), UInt8.ofNat (65 + N / 60 % 60)]).size : Int) ≤ 2 := by rw [txt_size]; simp
    obtain ⟨T, hT⟩ : ∃ T, txt [UInt8.ofNat (65 + N % 60), UInt8.ofNat (65 + N / 60 % 60)] = T := ⟨_, rfl⟩
    rw [hT] at hcv hTs
    have hcv2 : (convert 65 9 (.slice (some ⟨w.heap.size, 0, none⟩) 2 2)).run Try.prog (w.alloc (.cells #[.int .u8 (65 + (N : Int) % 60), .int .u8 (65 + (N : Int) / 60 % 60)] 5)).drew = .ok (.string T) (w.alloc (.cells #[.int .u8 (65 + (N : Int) % 60), .int .u8 (65 + (N : Int) / 60 % 60)] 5)).drew := hcv
    have HBn := hideIt (show Below w.heap.size w (w.alloc (.cells #[.int .u8 (65 + (N : Int) % 60), .int .u8 (65 + (N : Int) / 60 % 60)] 5)).drew from ((Below.refl _ _).alloc (Nat.le_refl _) _).drew)
    clear hcv hvs hT
    go_region
    all_goals
      go_wp2_with fail
      go_meet
      exact ⟨_, rfl, HBn.out⟩
  case rest =>
    obtain ⟨m, rfl, hBx⟩ := hcut
    have hlx : wc.ownsRow B 9 1 (.slice la n lc) n xs := own_atE HL.out (fun j hj => hBx.block j (HL.out.lt j hj).2)
    have HLX := hideIt hlx
    have HBX := hideIt hBx
    clear hlx hBx
    go_wp2_with fail
    go_loopw [5] (fun i wr => ∃ k : Nat, k ≤ n ∧ i = .int .i64 k ∧ wr.ownsRow B 9 1 (.slice la n lc) n (List.replicate k (.string m) ++ xs.drop k) ∧ Below top w wr) (fun i _ => n - (intOf i).toNat)
    case atStart => exact ⟨0, Nat.zero_le _, rfl, by simpa using HLX.out, HBX.out.mono htop⟩
    case round =>
      obtain ⟨k, hk, rfl, hR, hW⟩ := hrel
      by_cases hlt : k < n
      · obtain ⟨g, cap, e1, hg1, hg2⟩ := own_some hR (by omega)
        simp only [Value.slice.injEq, true_and] at e1
        obtain ⟨rfl, rfl⟩ := e1
        have HR := hideIt hR
        have HW := hideIt hW
        have hxl : xs.length = n := by have := HL.out.1; omega
        obtain ⟨u, hu⟩ : ∃ u, (List.replicate k (Value.string m) ++ xs.drop k)[k]? = some u := by
          rw [List.getElem?_append_right (by simp), List.length_replicate, Nat.sub_self, List.getElem?_drop, Nat.add_zero, List.getElem?_eq_getElem (by omega)]
          exact ⟨_, rfl⟩
        have hcu : wr.cell? ⟨g, k, none⟩ = some u := by
          have := hR.cells (g := g) rfl k u hu
          rwa [Addr.add_lit, Nat.zero_add] at this
        have hfu : wr.frozen? ⟨g, k, none⟩ = false := own_free hR
        have hii : (k : Int) < (n : Int) := by omega
        have HU := hideIt hu
        clear hR hW hu
        go_wp2
        go_roundw
        case rel =>
          refine ⟨k + 1, by omega, by go_num, ?_, HW.out.setCell (by simp; omega) _⟩
          rw [← fill_next (by omega)]
          exact own_put HR.out _
        case measure => simp [intOf]; omega
      · have hkk : k = n := by omega
        subst hkk
        have hxl : xs.length = k := by have := HL.out.1; omega
        rw [show xs.drop k = [] by rw [← hxl]; exact List.drop_length, List.append_nil] at hR
        have hK0 := ks_first (t := 67) hR hW htB (by have := hW.size; omega)
        have HK0 := hideIt hK0
        have hwz := hW.size
        have hBr : B ≤ wr.heap.size := by omega
        clear hR hW hK0
        go_wp2_with (first | (at_builtin; refine wpList_append_marks _ rfl (.tmp 40) (.tmp 42) 22 rfl B 9 i0 _ 16 Try.underlying22 hi hz0 hz1 hz2 rfl (.string m) rfl (.slice la k lc) k rfl (HK0.out.row.alloc _) ⟨wr.heap.size + 1, 0, none⟩ 1 1 rfl (by decide) (marks_new _ _ (by simp) _ 1) (by unfold maxLen; omega) (by omega) (by have := HK0.out.ble; rw [World.alloc_size]; omega) ?_; intro va1 wn1 hown hm hloc; obtain ⟨aa1, an1, ac1, rfl⟩ := slice_ofR hown; have hA := HK0.out.app (by omega) hown hm hloc; have e1 := (cells5 hA.1.cell).2.1; have g1 := hA.1.fz 1; have l1 := hA.1.xlt; have HK1 := hideIt (hA.1.set1 hA.2.1 hA.2.2); clear hown hm hloc hA) | (at_builtin; refine wpList_append_marks _ rfl (.tmp 45) (.tmp 48) 22 rfl B 9 i0 _ 16 Try.underlying22 hi hz0 hz1 hz2 rfl (.string m) rfl (.slice la k lc) k rfl (HK1.out.row.alloc _) ⟨wn1.heap.size, 0, none⟩ 2 2 rfl (by decide) (marks_new _ _ (by simp [World.setCell]) _ 2) (by unfold maxLen; omega) (by omega) (by have := HK1.out.ble; rw [World.alloc_size]; omega) ?_; intro va2 wn2 hown hm hloc; obtain ⟨aa2, an2, ac2, rfl⟩ := slice_ofR hown; have hA := HK1.out.app (by omega) hown hm hloc; have e2 := (cells5 hA.1.cell).2.2.1; have g2 := hA.1.fz 2; have l2 := hA.1.xlt; have HK2 := hideIt (hA.1.set2 hA.2.1 hA.2.2); clear hown hm hloc hA) | (at_builtin; refine wpList_append_marks _ rfl (.tmp 51) (.tmp 55) 22 rfl B 9 i0 _ 16 Try.underlying22 hi hz0 hz1 hz2 rfl (.string m) rfl (.slice la k lc) k rfl (HK2.out.row.alloc _) ⟨wn2.heap.size, 0, none⟩ 3 3 rfl (by decide) (marks_new _ _ (by simp [World.setCell]) _ 3) (by unfold maxLen; omega) (by omega) (by have := HK2.out.ble; rw [World.alloc_size]; omega) ?_; intro va3 wn3 hown hm hloc; obtain ⟨aa3, an3, ac3, rfl⟩ := slice_ofR hown; have hA := HK2.out.app (by omega) hown hm hloc; have e3 := (cells5 hA.1.cell).2.2.2.1; have g3 := hA.1.fz 3; have l3 := hA.1.xlt; have HK3 := hideIt (hA.1.set3 hA.2.1 hA.2.2); clear hown hm hloc hA))
        obtain ⟨wz, hwz⟩ : ∃ wz, wn3.setCell ⟨wr.heap.size, 3, none⟩ (.slice aa3 an3 ac3) = wz := ⟨_, rfl⟩
        rw [hwz] at HK3 ⊢
        clear hwz e1 e2 e3 g1 g2 g3 l1 l2 l3 HK0 HK1 HK2
        have hK3 := HK3.out
        obtain ⟨y0, y1, y2, y3, y4⟩ := cells5 hK3.cell
        have hbz : wz.heap[bb]? = w.heap[bb]? := hK3.below.block bb (by omega)
        have z0 : wz.cell? ⟨bb, 0, none⟩ = some (.slice sa N sc) := (World.cell?_of_block hbz).trans c0
        have z1 : wz.frozen? ⟨bb, 0, none⟩ = false := (World.frozen?_of_block hbz).trans f0
        have hxl2 := hK3.xlt
        have hrow : wz.drew.ownsRow base 67 5 (.slice sa N sc) N (es.flatMap entCells) := by
          have := own_atE (w' := wz) HB.out.row (fun j hj => hK3.below.block j (HB.out.rtop j hj))
          rw [hN] at this
          exact this
        have HROW := hideIt hrow
        have hbase2 : base ≤ wz.heap.size := by have := hK3.ble; have := hK3.tle; omega
        have hbbz : bb < wz.heap.size := by omega
        clear hK3 hbz hrow c0 f0
        go_region_law (refine step_append_own rfl (.tmp 62) (.tmp 64) 24 rfl base 67 j0 _ 5 112 Try.underlying24 hj hj0 hj1 hj2 rfl (by decide) (.slice sa N sc) N (es.flatMap entCells) (by simp [Act.eval]) (by exact HROW.out.alloc _) ⟨wz.heap.size, 0, none⟩ 1 1 [.slice la k lc, .slice aa1 an1 ac1, .slice aa2 an2 ac2, .slice aa3 an3 ac3, .string m] (by simp [Act.eval]) rfl (cells_new _ _ _) (by intro u hu; simp at hu; rcases hu with rfl | rfl | rfl | rfl | rfl <;> rfl) (by unfold maxLen; omega) (by omega) (by simp; omega) ?_; intro v' wn hown hgr hloc; obtain ⟨va', vn', vc', rfl⟩ := slice_ofR hown; have m0 := book_head z0 z1 hown hgr (by exact hbl) (by exact HROW.out) (by omega); obtain ⟨m0, m1⟩ := m0)
        all_goals
          have hD := HK3.out.done (o := .cells #[.slice la k lc, .slice aa1 an1 ac1, .slice aa2 an2 ac2, .slice aa3 an3 ac3, .string m] 67) (sv' := .slice va' vn' vc') HB.out (by omega) (by rw [hN]; exact hown) ⟨hgr.os, hgr.tape, hgr.output, hgr.size, hgr.block⟩ hloc
          have HD := hideIt hD
          clear hD hown hgr hloc m0 m1
          go_wp2
          go_end0
          exact ⟨rfl, ⟨_, _, HD.out.1⟩, HD.out.2.1, HD.out.2.2⟩
end Go.Proofs.Ythokdbcpkmcieaa
