/- The walk of parts: an instruction's name and its operands, as the code alone tells them. -/
import Derived.Test.YthokdbcpkmcieaaDoorKinds
import Derived.Test.YthokdbcpkmcieaaDoorShelf
namespace Go.Proofs.YthokdbcpkmcieaaDoor
open Go Go.RowKit Go.WideMaps Go.Maps
/-- The number in a datum. -/
def litInt : DataW Unit → Int
  | .lit (.int _ c) => c
  | _ => 0
/-- The kind that the map gives for a text. -/
def kindI (t : ByteArray) : Int := litInt (kindsD.atKey (.string t.data.toList) (.lit (.int .i64 0)))
/-- The cells of an operand as parts makes it. -/
def opCells (b : Int) (t : ByteArray) : List Value := [.int .i64 (kindI t), .string t, .int .u8 b, .int .u16 0, .int .u16 0]
/-- The pieces between commas. -/
def pieces (l : ByteArray) : List ByteArray := Lib.splitB ⟨#[44]⟩ 0 (Lib.countB l ⟨#[44]⟩) l
theorem zero45 (w : World) : (zeroValue 47).run Tryd.prog w = .ok (.int .i64 0) w := by kernel_rfl
theorem Tryd.info48 : (Tryd.prog.info? 50).map (fun i => (i.zero, i.size, i.bytes)) = some (some (.agg #[.int .i64 0, .string ⟨#[]⟩, .int .u8 0, .int .u16 0, .int .u16 0]), 5, 32) := by kernel_rfl
theorem ownsMap_below {H : Type} {P : Program} {k : TypeId} {R : Value → Option (DataW H × List MemPlace)} {B b n : Nat} {D : DataW H} {w w' : World} (h : w.ownsMap P k R b n D) (hb : Below B w w') (hlt : b < B) : w'.ownsMap P k R b n D := by
  obtain ⟨es, clock, h1, h2, h3, h4⟩ := h
  exact ⟨es, clock, (hb.block b hlt).trans h1, h2, h3, h4⟩
theorem pieces_len (l : ByteArray) : (pieces l).length = Lib.countB l ⟨#[44]⟩ + 1 := Lib.splitB_all ⟨#[44]⟩ (by decide) 0 _ l rfl
theorem cut_no (s nm : ByteArray) (m : Int) (w : World) (hs : s.size < 1000) (hm : w.cell? ⟨0, 0, none⟩ = some (.int .i64 m)) (hcut : Lib.cut s.data.toList [32] = (nm.data.toList, [], false)) :
    Calls Tryd.prog 20 #[.string s, .string ⟨#[32]⟩] w fun e w' => e = .returned (.tuple #[.string nm, .string ⟨#[]⟩, .bool false]) ∧ Below w.heap.size w w' := by
  refine (Tryd.strings_Cut s ⟨#[32]⟩ m w (by omega) hm).mono ?_
  rintro e w1 ⟨rfl, n, rfl⟩
  rw [show (⟨#[32]⟩ : ByteArray).data.toList = [32] from rfl, hcut]
  exact ⟨rfl, below_drewN (Below.refl _ _) _⟩
theorem cut_yes (s nm ls : ByteArray) (m : Int) (w : World) (hs : s.size < 1000) (hm : w.cell? ⟨0, 0, none⟩ = some (.int .i64 m)) (hcut : Lib.cut s.data.toList [32] = (nm.data.toList, ls.data.toList, true)) :
    Calls Tryd.prog 20 #[.string s, .string ⟨#[32]⟩] w fun e w' => e = .returned (.tuple #[.string nm, .string ls, .bool true]) ∧ Below w.heap.size w w' := by
  refine (Tryd.strings_Cut s ⟨#[32]⟩ m w (by omega) hm).mono ?_
  rintro e w1 ⟨rfl, n, rfl⟩
  rw [show (⟨#[32]⟩ : ByteArray).data.toList = [32] from rfl, hcut]
  exact ⟨rfl, below_drewN (Below.refl _ _) _⟩
set_option maxRecDepth 100000 in
set_option maxHeartbeats 1000000 in
theorem parts_none (rc rf c m : Int) (rt nm : ByteArray) (kb : Nat) (w : World) (hs : rt.size < 1000) (hm : w.cell? ⟨0, 0, none⟩ = some (.int .i64 m)) (h0 : 0 < w.heap.size)
    (hcut : Lib.cut rt.data.toList [32] = (nm.data.toList, [], false)) :
    Calls Tryd.prog 12 #[.agg #[.int .u8 rc, .int .u8 rf, .string rt], .int .u8 c, .map (some kb)] w fun e w' => e = .returned (.tuple #[.string nm, .slice none 0 0]) ∧ Below w.heap.size w w' := by
  have HC : Hid (Lib.cut rt.data.toList [32] = (nm.data.toList, [], false)) := hcut
  clear hcut
  have hm1 : ∀ o, (w.alloc o).cell? ⟨0, 0, none⟩ = some (.int .i64 m) := fun o => by rw [World.cell?_alloc_old _ _ _ (by simp; omega)]; exact hm
  go_enter Tryd.func12, Tryd.ntmps12
  go_wp2_with fail
  refine (cut_no rt nm m _ hs (hm1 _) HC.out).mono ?_
  rintro e w1 ⟨rfl, hb1⟩
  go_wp2
  go_ret2
  exact ⟨rfl, ((Below.refl _ _).alloc (Nat.le_refl _) _).trans (hb1.mono (by simp))⟩
theorem split_at (ls : ByteArray) (ps : List ByteArray) (n : Nat) (m : Int) (w : World) (hls : ls.size < 1000) (hm : w.cell? ⟨0, 0, none⟩ = some (.int .i64 m)) (hps : pieces ls = ps) (hn : ps.length = n) :
    Calls Tryd.prog 21 #[.string ls, .string ⟨#[44]⟩] w fun e w' => e = .returned (.slice (some ⟨w.heap.size, 0, none⟩) n n) ∧ w' = w.alloc (.cells (ps.map Value.string).toArray 9) := by
  have h := Tryd.strings_Split ls ⟨#[44]⟩ m w (by omega) hm (by decide)
  have hl := pieces_len ls
  rw [hps, hn] at hl
  rw [← hl] at h
  rw [show Lib.splitB ⟨#[44]⟩ 0 (Lib.countB ls ⟨#[44]⟩) ls = ps from hps] at h
  exact h
/-- The cells of the first k operands, and one more. -/
theorem cells_snoc (b : Int) (ps : List ByteArray) (k : Nat) (h : k < ps.length) : (ps.take (k + 1)).flatMap (opCells b) = (ps.take k).flatMap (opCells b) ++ opCells b ps[k] := by
  rw [List.take_succ_eq_append_getElem h, List.flatMap_append]
  simp
theorem own_ge {w : World} {base : Nat} {e : TypeId} {size n : Nat} {v : Value} {xs : List Value} (h : w.ownsRow base e size v n xs) : ∀ j, v.ownBlock = some j → base ≤ j := by
  obtain ⟨_, ⟨rfl, _⟩ | ⟨g, cap, cur, rfl, hg, _⟩⟩ := h
  · intro j hj; cases hj
  · intro j hj; cases hj; exact hg
theorem own_base {w : World} {base base' : Nat} {e : TypeId} {size n : Nat} {v : Value} {xs : List Value} (h : w.ownsRow base e size v n xs) (hb : base' ≤ base) : w.ownsRow base' e size v n xs := by
  obtain ⟨h1, h | ⟨g, cap, cur, rfl, hg, h2⟩⟩ := h
  · exact ⟨h1, .inl h⟩
  · exact ⟨h1, .inr ⟨g, cap, cur, rfl, Nat.le_trans hb hg, h2⟩⟩
theorem kindI_is (t : ByteArray) (x : Int) (h : kindsD.atKey (.string t.data.toList) (.lit (.int .i64 0)) = .lit (.int .i64 x)) : kindI t = x := by
  unfold kindI; rw [h]; rfl
set_option maxRecDepth 100000 in
set_option maxHeartbeats 1000000 in
theorem parts_some (rc rf c m : Int) (rt nm ls : ByteArray) (ps : List ByteArray) (n kb : Nat) (w : World) (hown : w.ownsMap Tryd.prog 9 (plainElem Tryd.prog 47) kb 17 kindsD) (hs : rt.size < 1000) (hls : ls.size < 1000) (hm : w.cell? ⟨0, 0, none⟩ = some (.int .i64 m)) (h0 : 0 < w.heap.size)
    (hcut : Lib.cut rt.data.toList [32] = (nm.data.toList, ls.data.toList, true)) (hps : pieces ls = ps) (hn : ps.length = n) (hn1 : n ≤ 1000) (hpl : ∀ t, t ∈ ps → t.size ≤ 1000) :
    Calls Tryd.prog 12 #[.agg #[.int .u8 rc, .int .u8 rf, .string rt], .int .u8 c, .map (some kb)] w fun e w' => ∃ v, e = .returned (.tuple #[.string nm, v]) ∧
      w'.ownsRow w.heap.size 50 5 v n (ps.flatMap (opCells (bits BinOp.and IntKind.u8 c rf))) ∧ Below w.heap.size w w' := by
  have HC : Hid (Lib.cut rt.data.toList [32] = (nm.data.toList, ls.data.toList, true)) := hcut
  have HP : Hid (∀ t, t ∈ ps → t.size ≤ 1000) := hpl
  have HS : Hid (pieces ls = ps) := hps
  have HN : Hid (ps.length = n) := hn
  clear hcut hpl hps hn
  have hm1 : ∀ o, (w.alloc o).cell? ⟨0, 0, none⟩ = some (.int .i64 m) := fun o => by rw [World.cell?_alloc_old _ _ _ (by simp; omega)]; exact hm
  obtain ⟨i0, hi, hz0, hz1, hz2⟩ := info_parts Tryd.info48
  go_enter Tryd.func12, Tryd.ntmps12
  go_wp2_with fail
  refine (cut_yes rt nm ls m _ hs (hm1 _) HC.out).mono ?_
  rintro e w1 ⟨rfl, hb1⟩
  have hs1 : w.heap.size + 1 ≤ w1.heap.size := by have := hb1.size; simpa using this
  have hlt2 : kb < w.heap.size := by
    obtain ⟨es, clock, h1, _⟩ := hown
    exact (Array.getElem?_eq_some_iff.1 h1).1
  have hown1 : w1.ownsMap Tryd.prog 9 (plainElem Tryd.prog 47) kb 17 kindsD := ownsMap_below (hown.alloc _) hb1 (by simp; omega)
  have hm2 : w1.cell? ⟨0, 0, none⟩ = some (.int .i64 m) := by rw [hb1.cell (by simp)]; exact hm1 _
  have hf2 : w1.cell? ⟨w.heap.size, 1, none⟩ = some (.int .u8 rf) := by rw [hb1.cell (by simp)]; simp
  go_wp2_with fail
  refine (split_at ls ps n m _ hls hm2 HS.out HN.out).mono ?_
  rintro e w3 ⟨rfl, rfl⟩
  go_wp2_with fail
  go_loopw [11, 27] (fun v i wr => ∃ k : Nat, k ≤ n ∧ i = .int .i64 k ∧ wr.ownsRow (w1.heap.size + 1) 50 5 v k ((ps.take k).flatMap (opCells (bits BinOp.and IntKind.u8 c rf))) ∧ Below (w1.heap.size + 1) (w1.alloc (.cells (ps.map Value.string).toArray 9)) wr) (fun _ i _ => n - (intOf i).toNat)
  case atStart => exact ⟨0, Nat.zero_le _, rfl, by simpa using World.ownsRow_nil _ _ _ _, Below.refl _ _⟩
  case round =>
    obtain ⟨k, hk, rfl, hrow, hbr⟩ := hrel
    have hsr : w1.heap.size + 1 ≤ wr.heap.size := by have := hbr.size; simpa using this
    by_cases hlt : k < n
    · have hkp : k < ps.length := by rw [HN.out]; exact hlt
      obtain ⟨t, ht⟩ : ∃ t, ps[k] = t := ⟨_, rfl⟩
      have htl : t.size ≤ maxLen := by have := HP.out t (ht ▸ List.getElem_mem hkp); unfold maxLen; omega
      have HT : Hid (ps[k] = t) := ht
      have ct : wr.cell? ⟨w1.heap.size, k, none⟩ = some (.string t) := by rw [hbr.cell (by simp)]; simp [hkp, ht]
      have cf : wr.cell? ⟨w.heap.size, 1, none⟩ = some (.int .u8 rf) := by rw [hbr.cell (by simp; omega), World.cell?_alloc_old _ _ _ (by simp; omega)]; exact hf2
      have hmap : wr.ownsMap Tryd.prog 9 (plainElem Tryd.prog 47) kb 17 kindsD := ownsMap_below (hown1.alloc _) hbr (by omega)
      clear ht
      go_wp2_with (first | (at_lookup; refine wpList_lookup_own_int _ rfl _ _ 43 rfl 9 47 .i64 kinds_law Tryd.underlying43 Tryd.underlying47 (zero45 _) kb 17 _ rfl hmap (.string t) _ rfl (keyOf_string_mk Tryd.underlying9 htl) ?_; intro x hat hwx; have HX : Hid (kindI t = x) := kindI_is t x hat; clear hat hwx) | (at_builtin; refine wpList_append_own _ rfl _ _ 40 rfl (w1.heap.size + 1) 50 i0 _ 5 32 Tryd.underlying40 hi hz0 hz1 hz2 rfl (by decide) _ _ _ rfl (hrow.alloc _) ⟨wr.heap.size, 0, none⟩ 1 1 [.int .i64 x, .string t, .int .u8 (bits BinOp.and IntKind.u8 c rf), .int .u16 0, .int .u16 0] rfl rfl ?c1 ?c2 ?c3 ?c4 ?c5 ?_))
      case c1 =>
        intro j u hj
        match j, hj with
        | 0, hj => simp at hj; subst hj; simp [Addr.add]
        | 1, hj => simp at hj; subst hj; simp [Addr.add]
        | 2, hj => simp at hj; subst hj; simp [Addr.add]
        | 3, hj => simp at hj; subst hj; simp [Addr.add]
        | 4, hj => simp at hj; subst hj; simp [Addr.add]
      case c2 => intro u hu; simp at hu; rcases hu with rfl | rfl | rfl | rfl | rfl <;> rfl
      case c3 => unfold maxLen; omega
      case c4 => omega
      case c5 => simp; omega
      intro v' wn hown' hgrow _
      have hbn : Below (w1.heap.size + 1) (w1.alloc (.cells (ps.map Value.string).toArray 9)) wn := (hbr.alloc hsr _).grown hgrow (by simp; omega) (own_ge hrow)
      have hrn : wn.ownsRow (w1.heap.size + 1) 50 5 v' (k + 1) ((ps.take (k + 1)).flatMap (opCells (bits BinOp.and IntKind.u8 c rf))) := by
        rw [cells_snoc _ _ _ hkp, HT.out]
        unfold opCells at hown' ⊢
        rw [HX.out]
        exact hown'
      clear hown' hgrow hrow hbr hmap ct cf
      go_wp2
      go_roundw
      case rel => exact ⟨k + 1, by omega, by go_num, hrn, hbn⟩
      case measure => simp [intOf]; omega
    · have hkn : k = n := by omega
      have hfull : wr.ownsRow w.heap.size 50 5 u11 n (ps.flatMap (opCells (bits BinOp.and IntKind.u8 c rf))) := by
        have := own_base hrow (base' := w.heap.size) (by omega)
        rw [hkn, List.take_of_length_le (by rw [HN.out]; exact Nat.le_refl _)] at this
        exact this
      have HF : Hid (wr.ownsRow w.heap.size 50 5 u11 n (ps.flatMap (opCells (bits BinOp.and IntKind.u8 c rf)))) := hfull
      clear hfull hrow hkn
      go_wp2
      go_ret2
      refine ⟨u11, rfl, HF.out, ?_⟩
      have e1 : Below w.heap.size w w1 := ((Below.refl _ _).alloc (Nat.le_refl _) _).trans (hb1.mono (by simp))
      exact (e1.alloc (by omega) _).trans (hbr.mono (by omega))
end Go.Proofs.YthokdbcpkmcieaaDoor
