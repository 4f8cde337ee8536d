/- Walks of appendWritten and Frame. -/
import Derived.Test.YthokdbcpkmcieaaEarW5
namespace Go.Proofs.Ythokdbcpkmcieaa
open Go Go.RowKit
/-- One byte more (or two) in the frame. -/
def AppEnd (w : World) (base : Nat) (v : Value) (l : List UInt8) (e : Ending) (w' : World) : Prop :=
  ∃ v', e = .returned v' ∧ w'.ownsRow base 5 1 v' l.length (byteVs l) ∧ w.grownBy w' v.ownBlock ∧ ∀ j, v'.ownBlock = some j → v.ownBlock = some j ∨ w.heap.size ≤ j
theorem app_end {w wn : World} {base n k : Nat} {v v' : Value} {l t : List UInt8} {o : Obj} {vs : List Value} (hn : l.length = n) (hk : t.length = k) (hvs : byteVs t = vs) (hown : wn.ownsRow base 5 1 v' (n + k) (byteVs l ++ vs)) (hgr : (w.alloc o).grownBy wn v.ownBlock) (hloc : v'.ownBlock = v.ownBlock ∨ v'.ownBlock = some (w.alloc o).heap.size) :
    wn.ownsRow base 5 1 v' (l ++ t).length (byteVs (l ++ t)) ∧ w.grownBy wn v.ownBlock ∧ ∀ j, v'.ownBlock = some j → v.ownBlock = some j ∨ w.heap.size ≤ j := by
  refine ⟨?_, ?_, ?_⟩
  · rw [byteVs_append, hvs, List.length_append, hn, hk]; exact hown
  · have hz := hgr.size
    rw [World.alloc_size] at hz
    exact ⟨hgr.os, hgr.tape, hgr.output, by omega, fun j hj hne => by rw [hgr.block j (by rw [World.alloc_size]; omega) hne, Below.heap_alloc _ _ _ hj]⟩
  · intro j hj
    rcases hloc with h | h
    · left; rw [← h]; exact hj
    · right
      rw [h] at hj
      simp only [Option.some.injEq, World.alloc_size] at hj
      omega
set_option maxRecDepth 100000 in
set_option maxHeartbeats 2000000 in
theorem appendWritten_any (w : World) (base : Nat) (v : Value) (l : List UInt8) (b : UInt8) (hown : w.ownsRow base 5 1 v l.length (byteVs l)) (hl : l.length ≤ 100000) (hbase : base ≤ w.heap.size) :
    Calls Try.prog 45 #[v, .int .u8 (b.toNat : Int)] w (AppEnd w base v (l ++ esc1 b)) := by
  obtain ⟨i0, hi, hz0, hz1, hz2⟩ := info_of Try.infoU8
  obtain ⟨va, vm, vc, rfl⟩ := slice_ofR hown
  have HO := hideIt hown
  obtain ⟨n, hn⟩ : ∃ n, l.length = n := ⟨_, rfl⟩
  rw [hn] at HO
  clear hown
  by_cases hb : isB b = true
  · have he : esc1 b = [125, b ^^^ 32] := by unfold esc1; rw [if_pos hb]
    have HX := hideIt (xor_byte b)
    rw [he]
    clear he
    go_enter Try.func45, Try.ntmps45
    go_wp2_with fail
    refine (needsEscape_any b _).mono ?_
    rintro e w1 ⟨rfl, rfl⟩
    rw [hb]
    go_wp2_with (first | (refine wpList_buildRow rfl 65 5 2 _ rfl [.const (.int .u8 125), .tmp 9] [.int .u8 125, .int .u8 (bits BinOp.xor IntKind.u8 (b.toNat : Int) 32)] rfl rfl (ints_one .u8 [125, bits BinOp.xor IntKind.u8 (b.toNat : Int) 32]) i0 (.int .u8 0) Try.underlying65 hi hz0 hz1 rfl (by decide) (by decide) ?_; simp only [Act.put, List.setIfInBounds_toArray, List.set_cons_succ, List.set_cons_zero]) | (at_builtin; refine wpList_append_own_at _ rfl _ _ 65 rfl base 5 i0 _ 1 1 Try.underlying65 hi hz0 hz1 hz2 rfl (by decide) _ n _ rfl (HO.out.alloc _) ⟨w1.heap.size, 0, none⟩ 2 2 [.int .u8 125, .int .u8 (bits BinOp.xor IntKind.u8 (b.toNat : Int) 32)] rfl rfl (cells_new _ _ _) (by intro u hu; simp at hu; rcases hu with rfl | rfl <;> rfl) (by unfold maxLen; omega) (by omega) (by rw [World.alloc_size]; omega) ?_; intro v' wn hown hgr _ hloc; obtain ⟨a', n', c', rfl⟩ := slice_ofR hown))
    have HE := hideIt (app_end (l := l) (t := [125, b ^^^ 32]) (k := 2) hn rfl (by simp only [byteVs, List.map_cons, List.map_nil]; rw [HX.out]; rfl) hown hgr hloc)
    clear hown hgr hloc
    go_wp2
    go_ret
    exact ⟨_, rfl, HE.out⟩
  · have he : esc1 b = [b] := by unfold esc1; rw [if_neg hb]
    have hbf : isB b = false := by simpa using hb
    rw [he]
    clear he
    go_enter Try.func45, Try.ntmps45
    go_wp2_with fail
    refine (needsEscape_any b _).mono ?_
    rintro e w1 ⟨rfl, rfl⟩
    rw [hbf]
    go_wp2_with (at_builtin; refine wpList_append_own_at _ rfl _ _ 65 rfl base 5 i0 _ 1 1 Try.underlying65 hi hz0 hz1 hz2 rfl (by decide) _ n _ rfl (HO.out.alloc _) ⟨w1.heap.size, 0, none⟩ 1 1 [.int .u8 (b.toNat : Int)] rfl rfl (cell_one_new _ _ _) (by intro u hu; simp at hu; subst hu; rfl) (by unfold maxLen; omega) (by omega) (by rw [World.alloc_size]; omega) ?_; intro v' wn hown hgr _ hloc; obtain ⟨a', n', c', rfl⟩ := slice_ofR hown)
    have HE := hideIt (app_end (l := l) (t := [b]) (k := 1) hn rfl rfl hown hgr hloc)
    clear hown hgr hloc
    go_wp2
    go_ret
    exact ⟨_, rfl, HE.out⟩
theorem conv_row {w : World} {base g n cap : Nat} {l : List UInt8} (hn : l.length = n) (h : w.ownsRow base 5 1 (.slice (some ⟨g, 0, none⟩) n cap) n (byteVs l)) : (convert 65 9 (.slice (some ⟨g, 0, none⟩) n cap)).run Try.prog w = .ok (.string (txt l)) w := by
  have hb := own_bytes h
  have := run_convert_bytes_back (P := Try.prog) w 65 9 5 ⟨g, 0, none⟩ cap l Try.underlying65 Try.underlying5 Try.underlying9 (fun j hj => by
    have hc := hb j hj
    rw [List.getD_eq_getElem?_getD, List.getElem?_eq_getElem hj] at hc
    rw [Addr.add_lit]
    exact hc)
  rw [hn] at this
  exact this
theorem own_first (w : World) (base : Nat) (hb : base ≤ w.heap.size) (x : UInt8) : (w.alloc (.cells #[.int .u8 (x.toNat : Int)] 5)).ownsRow base 5 1 (.slice (some ⟨w.heap.size, 0, none⟩) 1 1) 1 (byteVs [x]) :=
  ⟨rfl, .inr ⟨w.heap.size, 1, _, rfl, hb, heap_alloc_new w _, by decide, by decide, rfl, rfl⟩⟩
set_option maxRecDepth 100000 in
set_option maxHeartbeats 2000000 in
theorem frame_bad (m : ByteArray) (w : World) (hm : m.size < 1 ∨ 80 < m.size) (hx : m.size ≤ 4000000) :
    Calls Try.prog 32 #[.string m] w fun e w' => e = .returned (.tuple #[.string ⟨#[]⟩, .int .i64 8]) ∧ w' = w := by
  by_cases h1 : m.size < 1
  · have h2 : (m.size : Int) < 1 := by omega
    go_enter Try.func32, Try.ntmps32
    go_wp2
    go_ret2
    exact ⟨rfl, rfl⟩
  · have h2 : decide ((m.size : Int) < 1) = false := by simp; omega
    have h3 : (80 : Int) < (m.size : Int) := by omega
    go_enter Try.func32, Try.ntmps32
    go_wp2
    go_ret2
    exact ⟨rfl, rfl⟩
set_option maxRecDepth 100000 in
set_option maxHeartbeats 4000000 in
theorem frame_any (m : ByteArray) (w : World) (hm1 : 1 ≤ m.size) (hm2 : m.size ≤ 80) :
    Calls Try.prog 32 #[.string m] w fun e w' => e = .returned (.tuple #[.string (txt (frameF m.data.toList)), .int .i64 0]) ∧ Below w.heap.size w w' := by
  obtain ⟨i0, hi, hz0, hz1, hz2⟩ := info_of Try.infoU8
  have hlen : m.data.toList.length = m.size := by rw [Array.length_toList]; rfl
  have h2 : decide ((m.size : Int) < 1) = false := by simp; omega
  have h3 : decide ((80 : Int) < (m.size : Int)) = false := by simp; omega
  obtain ⟨l, hl⟩ : ∃ l, m.data.toList = l := ⟨_, rfl⟩
  obtain ⟨cs, hcs⟩ : ∃ cs, l ++ chkB l = cs := ⟨_, rfl⟩
  have hcl : cs.length = m.size + 2 := by rw [← hcs, List.length_append, ← hl, hlen]; rfl
  have HF := hideIt (show frameF m.data.toList = 126 :: (escL cs ++ [126]) by rw [hl, ← hcs]; rfl)
  have HC := hideIt (checked_any m (w.alloc (.cells #[.int .u8 126] 5)) (by omega))
  rw [hl, hcs] at HC
  clear hl hcs hlen
  go_enter Try.func32, Try.ntmps32
  go_wp2_with fail
  refine HC.out.mono ?_
  rintro e w1 ⟨g, cap, rfl, hg1, hg2, hb, hB⟩
  have HO := hideIt (own_first w w.heap.size (Nat.le_refl _) 126)
  have hO1 : w1.ownsRow w.heap.size 5 1 (.slice (some ⟨w.heap.size, 0, none⟩) 1 1) 1 (byteVs [126]) := own_atE HO.out (fun j hj => hB.block j ((HO.out.lt j hj).2))
  have hBw : Below w.heap.size w w1 := ((Below.refl w.heap.size w).alloc (Nat.le_refl _) _).trans (by have := hB.mono (B' := w.heap.size) (by rw [World.alloc_size]; omega); exact ⟨this.os, this.tape, this.output, this.size, this.block⟩)
  rw [World.alloc_size] at hg1
  have HI := hideIt (And.intro hb (And.intro hO1 (And.intro hBw (And.intro hg1 hg2))))
  clear HO hO1 hBw hb hB hg1 hg2
  go_wp2_with fail
  go_loopw [4, 19] (fun v i wr => ∃ k : Nat, k ≤ m.size + 2 ∧ i = .int .i64 k ∧ wr.ownsRow w.heap.size 5 1 v (126 :: escL (cs.take k)).length (byteVs (126 :: escL (cs.take k))) ∧ BytesAt wr g 0 cs ∧ v.ownBlock ≠ some g ∧ g < wr.heap.size ∧ Below w.heap.size w wr) (fun _ i _ => m.size + 2 - (intOf i).toNat)
  case atStart =>
    obtain ⟨a1, a2, a3, a4, a5⟩ := HI.out
    exact ⟨0, Nat.zero_le _, rfl, a2, a1, by simp [Value.ownBlock]; omega, a5, a3⟩
  case round =>
    obtain ⟨k, hk, rfl, hO, hb, hne, hgl, hB⟩ := hrel
    have hel := escL_len (cs.take k)
    rw [List.length_take] at hel
    by_cases hlt : k < m.size + 2
    · have c1 := hb k (by omega)
      obtain ⟨b, hbb⟩ : ∃ b, cs.getD k 0 = b := ⟨_, rfl⟩
      rw [hbb, Nat.zero_add] at c1
      have hN : (126 :: escL (cs.take k)) ++ esc1 b = 126 :: escL (cs.take (k + 1)) := by rw [take_succ cs k (by omega), escL_snoc, hbb]; rfl
      have HA := hideIt (fun w' v (h : w'.ownsRow w.heap.size 5 1 v (126 :: escL (cs.take k)).length (byteVs (126 :: escL (cs.take k)))) => appendWritten_any w' w.heap.size v (126 :: escL (cs.take k)) b h (by simp; omega))
      rw [hN] at HA
      have HO := hideIt hO
      have HQ := hideIt (And.intro hb (And.intro hne (And.intro hgl hB)))
      have hsz := hB.size
      obtain ⟨va, vm, vc, rfl⟩ := slice_ofR hO
      clear hO hb hne hgl hB hN hbb
      go_wp2_with fail
      refine (HA.out _ _ HO.out hsz).mono ?_
      rintro e w2 ⟨v2, rfl, hO2, hG2, hL2⟩
      obtain ⟨va2, vm2, vc2, rfl⟩ := slice_ofR hO2
      have HR := hideIt (And.intro hO2 (And.intro hG2 hL2))
      clear hO2 hG2 hL2
      go_wp2
      go_roundw
      case rel =>
        obtain ⟨q1, q2, q3, q4⟩ := HQ.out
        obtain ⟨r1, r2, r3⟩ := HR.out
        refine ⟨k + 1, by omega, by go_num, r1, q1.kept (r2.block g q3 (fun e => q2 e.symm)), ?_, Nat.lt_of_lt_of_le q3 r2.size, ?_⟩
        · intro e
          rcases r3 g e with h | h
          · exact q2 h
          · omega
        · refine ⟨r2.os.trans q4.os, r2.tape.trans q4.tape, r2.output.trans q4.output, Nat.le_trans q4.size r2.size, fun j hj => ?_⟩
          rw [r2.block j (Nat.lt_of_lt_of_le hj q4.size) (fun e => by have := (HO.out.lt j e.symm).1; omega), q4.block j hj]
      case measure => simp [intOf]; omega
    · have hkk : k = m.size + 2 := by omega
      rw [hkk, ← hcl, List.take_length] at hO
      have hel2 := escL_len cs
      obtain ⟨F, hF⟩ : ∃ F, 126 :: escL cs = F := ⟨_, rfl⟩
      rw [hF] at hO
      have hFl : F.length ≤ 1000 := by rw [← hF]; simp; omega
      have HFF := hideIt (show frameF m.data.toList = F ++ [126] by rw [HF.out, ← hF]; rfl)
      obtain ⟨n, hn⟩ : ∃ n, F.length = n := ⟨_, rfl⟩
      rw [hn] at hO hFl
      have HO := hideIt hO
      have HB := hideIt hB
      have hsz := hB.size
      obtain ⟨va, vm, vc, rfl⟩ := slice_ofR hO
      clear hO hb hne hgl hB hF hel hel2
      go_wp2_with (at_builtin; refine wpList_append_own_at _ rfl _ _ 65 rfl w.heap.size 5 i0 _ 1 1 Try.underlying65 hi hz0 hz1 hz2 rfl (by decide) _ n _ rfl (HO.out.alloc _) ⟨wr.heap.size, 0, none⟩ 1 1 [.int .u8 126] rfl rfl (cell_one_new _ _ _) (by intro u hu; simp at hu; subst hu; rfl) (by unfold maxLen; omega) (by omega) (by rw [World.alloc_size]; omega) ?_; intro v' wn hown hgr _ hloc; obtain ⟨g', c', rfl, hg1, hg2⟩ := own_some hown (by omega); have hcv := conv_row (l := F ++ [126]) (n := n + 1) (by rw [List.length_append, hn]; rfl) (by rw [byteVs_append]; exact hown))
      go_ret2
      rw [HFF.out]
      refine ⟨rfl, ?_⟩
      have q4 := HB.out
      have hz := hgr.size
      rw [World.alloc_size] at hz
      refine ⟨hgr.os.trans q4.os, hgr.tape.trans q4.tape, hgr.output.trans q4.output, by omega, fun j hj => ?_⟩
      rw [hgr.block j (by rw [World.alloc_size]; omega) (fun e => by have := (HO.out.lt j e.symm).1; omega), Below.heap_alloc _ _ _ (by omega), q4.block j hj]
end Go.Proofs.Ythokdbcpkmcieaa
