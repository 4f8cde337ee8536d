/- The walk of parts: an instruction's name and its operands, as the code alone tells them. The walk of scan: a line's tokens. A map of the call's own, told by what stands at each key (keys that read as strings: strings, and structs of plain fields). -/
import Derived.Test.YthokdbcpkmcieaaGreatDoorA03
import Derived.Test.YthokdbcpkmcieaaGreatDoorShelf
import Derived.Deep.QuietTactic
import Derived.BigQuiet
import Derived.OwnWalk
import Derived.Maps.Own
import Derived.Maps.OwnOps
import Derived.Maps.OwnSet
import Derived.Maps.Views
import Derived.WalkKit
import Derived.RowKit
namespace Go.Proofs.YthokdbcpkmcieaaGreatDoor
open Go Go.RowKit Go.WideMaps Go.Maps
/-- The number in a datum. -/
def litInt : DataW Unit → Int
  | .lit (.int _ c) => c
  | _ => 0
/-- The kind that the map gives for a text. -/
def kindI (t : ByteArray) : Int := litInt (kindsD.atKey (.string t.data.toList) (.lit (.int .i64 0)))
/-- The cells of an operand as parts makes it. -/
def opCells (b : Int) (t : ByteArray) : List Value := [.int .i64 (kindI t), .string t, .int .u8 b, .int .u16 0, .int .u16 0]
/-- The pieces between commas. -/
def pieces (l : ByteArray) : List ByteArray := Lib.splitB ⟨#[44]⟩ 0 (Lib.countB l ⟨#[44]⟩) l
theorem zero45 (w : World) : (zeroValue 111).run Tryz.prog w = .ok (.int .i64 0) w := by kernel_rfl
theorem Tryz.info48 : (Tryz.prog.info? 114).map (fun i => (i.zero, i.size, i.bytes)) = some (some (.agg #[.int .i64 0, .string ⟨#[]⟩, .int .u8 0, .int .u16 0, .int .u16 0]), 5, 32) := by kernel_rfl
theorem ownsMap_below {H : Type} {P : Program} {k : TypeId} {R : Value → Option (DataW H × List MemPlace)} {B b n : Nat} {D : DataW H} {w w' : World} (h : w.ownsMap P k R b n D) (hb : Below B w w') (hlt : b < B) : w'.ownsMap P k R b n D := by
  obtain ⟨es, clock, h1, h2, h3, h4⟩ := h
  exact ⟨es, clock, (hb.block b hlt).trans h1, h2, h3, h4⟩
theorem pieces_len (l : ByteArray) : (pieces l).length = Lib.countB l ⟨#[44]⟩ + 1 := Lib.splitB_all ⟨#[44]⟩ (by decide) 0 _ l rfl
theorem cut_no (s nm : ByteArray) (m : Int) (w : World) (hs : s.size < 1000) (hm : w.cell? ⟨0, 0, none⟩ = some (.int .i64 m)) (hcut : Lib.cut s.data.toList [32] = (nm.data.toList, [], false)) :
    Calls Tryz.prog 100 #[.string s, .string ⟨#[32]⟩] w fun e w' => e = .returned (.tuple #[.string nm, .string ⟨#[]⟩, .bool false]) ∧ Below w.heap.size w w' := by
  refine (Tryz.strings_Cut s ⟨#[32]⟩ m w (by omega) hm).mono ?_
  rintro e w1 ⟨rfl, n, rfl⟩
  rw [show (⟨#[32]⟩ : ByteArray).data.toList = [32] from rfl, hcut]
  exact ⟨rfl, below_drewN (Below.refl _ _) _⟩
theorem cut_yes (s nm ls : ByteArray) (m : Int) (w : World) (hs : s.size < 1000) (hm : w.cell? ⟨0, 0, none⟩ = some (.int .i64 m)) (hcut : Lib.cut s.data.toList [32] = (nm.data.toList, ls.data.toList, true)) :
    Calls Tryz.prog 100 #[.string s, .string ⟨#[32]⟩] w fun e w' => e = .returned (.tuple #[.string nm, .string ls, .bool true]) ∧ Below w.heap.size w w' := by
  refine (Tryz.strings_Cut s ⟨#[32]⟩ m w (by omega) hm).mono ?_
  rintro e w1 ⟨rfl, n, rfl⟩
  rw [show (⟨#[32]⟩ : ByteArray).data.toList = [32] from rfl, hcut]
  exact ⟨rfl, below_drewN (Below.refl _ _) _⟩
set_option maxRecDepth 100000 in
set_option maxHeartbeats 1000000 in
theorem parts_none (rc rf c m : Int) (rt nm : ByteArray) (kb : Nat) (w : World) (hs : rt.size < 1000) (hm : w.cell? ⟨0, 0, none⟩ = some (.int .i64 m)) (h0 : 0 < w.heap.size)
    (hcut : Lib.cut rt.data.toList [32] = (nm.data.toList, [], false)) :
    Calls Tryz.prog 58 #[.agg #[.int .u8 rc, .int .u8 rf, .string rt], .int .u8 c, .map (some kb)] w fun e w' => e = .returned (.tuple #[.string nm, .slice none 0 0]) ∧ Below w.heap.size w w' := by
  have HC : Hid (Lib.cut rt.data.toList [32] = (nm.data.toList, [], false)) := hcut
  clear hcut
  have hm1 : ∀ o, (w.alloc o).cell? ⟨0, 0, none⟩ = some (.int .i64 m) := fun o => by rw [World.cell?_alloc_old _ _ _ (by simp; omega)]; exact hm
  go_enter Tryz.func58, Tryz.ntmps58
  go_wp2_with fail
  refine (cut_no rt nm m _ hs (hm1 _) HC.out).mono ?_
  rintro e w1 ⟨rfl, hb1⟩
  go_wp2
  go_ret2
  exact ⟨rfl, ((Below.refl _ _).alloc (Nat.le_refl _) _).trans (hb1.mono (by simp))⟩
theorem split_at (ls : ByteArray) (ps : List ByteArray) (n : Nat) (m : Int) (w : World) (hls : ls.size < 1000) (hm : w.cell? ⟨0, 0, none⟩ = some (.int .i64 m)) (hps : pieces ls = ps) (hn : ps.length = n) :
    Calls Tryz.prog 101 #[.string ls, .string ⟨#[44]⟩] w fun e w' => e = .returned (.slice (some ⟨w.heap.size, 0, none⟩) n n) ∧ w' = w.alloc (.cells (ps.map Value.string).toArray 9) := by
  have h := Tryz.strings_Split ls ⟨#[44]⟩ m w (by omega) hm (by decide)
  have hl := pieces_len ls
  rw [hps, hn] at hl
  rw [← hl] at h
  rw [show Lib.splitB ⟨#[44]⟩ 0 (Lib.countB ls ⟨#[44]⟩) ls = ps from hps] at h
  exact h
/-- The cells of the first k operands, and one more. -/
theorem cells_snoc (b : Int) (ps : List ByteArray) (k : Nat) (h : k < ps.length) : (ps.take (k + 1)).flatMap (opCells b) = (ps.take k).flatMap (opCells b) ++ opCells b ps[k] := by
  rw [List.take_succ_eq_append_getElem h, List.flatMap_append]
  simp
theorem own_ge {w : World} {base : Nat} {e : TypeId} {size n : Nat} {v : Value} {xs : List Value} (h : w.ownsRow base e size v n xs) : ∀ j, v.ownBlock = some j → base ≤ j := by
  obtain ⟨_, ⟨rfl, _⟩ | ⟨g, cap, cur, rfl, hg, _⟩⟩ := h
  · intro j hj; cases hj
  · intro j hj; cases hj; exact hg
theorem own_base {w : World} {base base' : Nat} {e : TypeId} {size n : Nat} {v : Value} {xs : List Value} (h : w.ownsRow base e size v n xs) (hb : base' ≤ base) : w.ownsRow base' e size v n xs := by
  obtain ⟨h1, h | ⟨g, cap, cur, rfl, hg, h2⟩⟩ := h
  · exact ⟨h1, .inl h⟩
  · exact ⟨h1, .inr ⟨g, cap, cur, rfl, Nat.le_trans hb hg, h2⟩⟩
theorem kindI_is (t : ByteArray) (x : Int) (h : kindsD.atKey (.string t.data.toList) (.lit (.int .i64 0)) = .lit (.int .i64 x)) : kindI t = x := by
  unfold kindI; rw [h]; rfl
set_option maxRecDepth 100000 in
set_option maxHeartbeats 1000000 in
theorem parts_some (rc rf c m : Int) (rt nm ls : ByteArray) (ps : List ByteArray) (n kb : Nat) (w : World) (hown : w.ownsMap Tryz.prog 9 (plainElem Tryz.prog 111) kb 17 kindsD) (hs : rt.size < 1000) (hls : ls.size < 1000) (hm : w.cell? ⟨0, 0, none⟩ = some (.int .i64 m)) (h0 : 0 < w.heap.size)
    (hcut : Lib.cut rt.data.toList [32] = (nm.data.toList, ls.data.toList, true)) (hps : pieces ls = ps) (hn : ps.length = n) (hn1 : n ≤ 1000) (hpl : ∀ t, t ∈ ps → t.size ≤ 1000) :
    Calls Tryz.prog 58 #[.agg #[.int .u8 rc, .int .u8 rf, .string rt], .int .u8 c, .map (some kb)] w fun e w' => ∃ v, e = .returned (.tuple #[.string nm, v]) ∧
      w'.ownsRow w.heap.size 114 5 v n (ps.flatMap (opCells (bits BinOp.and IntKind.u8 c rf))) ∧ Below w.heap.size w w' := by
  have HC : Hid (Lib.cut rt.data.toList [32] = (nm.data.toList, ls.data.toList, true)) := hcut
  have HP : Hid (∀ t, t ∈ ps → t.size ≤ 1000) := hpl
  have HS : Hid (pieces ls = ps) := hps
  have HN : Hid (ps.length = n) := hn
  clear hcut hpl hps hn
  have hm1 : ∀ o, (w.alloc o).cell? ⟨0, 0, none⟩ = some (.int .i64 m) := fun o => by rw [World.cell?_alloc_old _ _ _ (by simp; omega)]; exact hm
  obtain ⟨i0, hi, hz0, hz1, hz2⟩ := info_parts Tryz.info48
  go_enter Tryz.func58, Tryz.ntmps58
  go_wp2_with fail
  refine (cut_yes rt nm ls m _ hs (hm1 _) HC.out).mono ?_
  rintro e w1 ⟨rfl, hb1⟩
  have hs1 : w.heap.size + 1 ≤ w1.heap.size := by have := hb1.size; simpa using this
  have hlt2 : kb < w.heap.size := by
    obtain ⟨es, clock, h1, _⟩ := hown
    exact (Array.getElem?_eq_some_iff.1 h1).1
  have hown1 : w1.ownsMap Tryz.prog 9 (plainElem Tryz.prog 111) kb 17 kindsD := ownsMap_below (hown.alloc _) hb1 (by simp; omega)
  have hm2 : w1.cell? ⟨0, 0, none⟩ = some (.int .i64 m) := by rw [hb1.cell (by simp)]; exact hm1 _
  have hf2 : w1.cell? ⟨w.heap.size, 1, none⟩ = some (.int .u8 rf) := by rw [hb1.cell (by simp)]; simp
  go_wp2_with fail
  refine (split_at ls ps n m _ hls hm2 HS.out HN.out).mono ?_
  rintro e w3 ⟨rfl, rfl⟩
  go_wp2_with fail
  go_loopw [11, 27] (fun v i wr => ∃ k : Nat, k ≤ n ∧ i = .int .i64 k ∧ wr.ownsRow (w1.heap.size + 1) 114 5 v k ((ps.take k).flatMap (opCells (bits BinOp.and IntKind.u8 c rf))) ∧ Below (w1.heap.size + 1) (w1.alloc (.cells (ps.map Value.string).toArray 9)) wr) (fun _ i _ => n - (intOf i).toNat)
  case atStart => exact ⟨0, Nat.zero_le _, rfl, by simpa using World.ownsRow_nil _ _ _ _, Below.refl _ _⟩
  case round =>
    obtain ⟨k, hk, rfl, hrow, hbr⟩ := hrel
    have hsr : w1.heap.size + 1 ≤ wr.heap.size := by have := hbr.size; simpa using this
    by_cases hlt : k < n
    · have hkp : k < ps.length := by rw [HN.out]; exact hlt
      obtain ⟨t, ht⟩ : ∃ t, ps[k] = t := ⟨_, rfl⟩
      have htl : t.size ≤ maxLen := by have := HP.out t (ht ▸ List.getElem_mem hkp); unfold maxLen; omega
      have HT : Hid (ps[k] = t) := ht
      have ct : wr.cell? ⟨w1.heap.size, k, none⟩ = some (.string t) := by rw [hbr.cell (by simp)]; simp [hkp, ht]
      have cf : wr.cell? ⟨w.heap.size, 1, none⟩ = some (.int .u8 rf) := by rw [hbr.cell (by simp; omega), World.cell?_alloc_old _ _ _ (by simp; omega)]; exact hf2
      have hmap : wr.ownsMap Tryz.prog 9 (plainElem Tryz.prog 111) kb 17 kindsD := ownsMap_below (hown1.alloc _) hbr (by omega)
      clear ht
      go_wp2_with (first | (at_lookup; refine wpList_lookup_own_int _ rfl _ _ 107 rfl 9 111 .i64 kinds_law Tryz.underlying107 Tryz.underlying111 (zero45 _) kb 17 _ rfl hmap (.string t) _ rfl (keyOf_string_mk Tryz.underlying9 htl) ?_; intro x hat hwx; have HX : Hid (kindI t = x) := kindI_is t x hat; clear hat hwx) | (at_builtin; refine wpList_append_own _ rfl _ _ 104 rfl (w1.heap.size + 1) 114 i0 _ 5 32 Tryz.underlying104 hi hz0 hz1 hz2 rfl (by decide) _ _ _ rfl (hrow.alloc _) ⟨wr.heap.size, 0, none⟩ 1 1 [.int .i64 x, .string t, .int .u8 (bits BinOp.and IntKind.u8 c rf), .int .u16 0, .int .u16 0] rfl rfl ?c1 ?c2 ?c3 ?c4 ?c5 ?_))
      case c1 =>
        intro j u hj
        match j, hj with
        | 0, hj => simp at hj; subst hj; simp [Addr.add]
        | 1, hj => simp at hj; subst hj; simp [Addr.add]
        | 2, hj => simp at hj; subst hj; simp [Addr.add]
        | 3, hj => simp at hj; subst hj; simp [Addr.add]
        | 4, hj => simp at hj; subst hj; simp [Addr.add]
      case c2 => intro u hu; simp at hu; rcases hu with rfl | rfl | rfl | rfl | rfl <;> rfl
      case c3 => unfold maxLen; omega
      case c4 => omega
      case c5 => simp; omega
      intro v' wn hown' hgrow _
      have hbn : Below (w1.heap.size + 1) (w1.alloc (.cells (ps.map Value.string).toArray 9)) wn := (hbr.alloc hsr _).grown hgrow (by simp; omega) (own_ge hrow)
      have hrn : wn.ownsRow (w1.heap.size + 1) 114 5 v' (k + 1) ((ps.take (k + 1)).flatMap (opCells (bits BinOp.and IntKind.u8 c rf))) := by
        rw [cells_snoc _ _ _ hkp, HT.out]
        unfold opCells at hown' ⊢
        rw [HX.out]
        exact hown'
      clear hown' hgrow hrow hbr hmap ct cf
      go_wp2
      go_roundw
      case rel => exact ⟨k + 1, by omega, by go_num, hrn, hbn⟩
      case measure => simp [intOf]; omega
    · have hkn : k = n := by omega
      have hfull : wr.ownsRow w.heap.size 114 5 u11 n (ps.flatMap (opCells (bits BinOp.and IntKind.u8 c rf))) := by
        have := own_base hrow (base' := w.heap.size) (by omega)
        rw [hkn, List.take_of_length_le (by rw [HN.out]; exact Nat.le_refl _)] at this
        exact this
      have HF : Hid (wr.ownsRow w.heap.size 114 5 u11 n (ps.flatMap (opCells (bits BinOp.and IntKind.u8 c rf)))) := hfull
      clear hfull hrow hkn
      go_wp2
      go_ret2
      refine ⟨u11, rfl, HF.out, ?_⟩
      have e1 : Below w.heap.size w w1 := ((Below.refl _ _).alloc (Nat.le_refl _) _).trans (hb1.mono (by simp))
      exact (e1.alloc (by omega) _).trans (hbr.mono (by omega))
end Go.Proofs.YthokdbcpkmcieaaGreatDoor
namespace Go.Proofs.YthokdbcpkmcieaaGreatDoor
open Go Go.RowKit
/-- A token: 0 the end, 1 a word, 2 a number, 3 a sign. -/
structure Tok where
  kind : Nat
  text : ByteArray
  num : Int
def endT : Tok := ⟨0, ⟨#[]⟩, 0⟩
def Tok.cells (t : Tok) : List Value := [.int .i64 t.kind, .string t.text, .int .i64 t.num]
def tokCells (l : List Tok) : List Value := l.flatMap Tok.cells
theorem tokCells_snoc (l : List Tok) (t : Tok) : tokCells (l ++ [t]) = tokCells l ++ t.cells := by simp [tokCells]
/-- The first piece of a text. -/
def pieceN (r : ByteArray) : Nat := max (runN r.data.toList) 1
def pieceT (r : ByteArray) : ByteArray := r.extract 0 (pieceN r)
def pieceR (r : ByteArray) : ByteArray := r.extract (pieceN r) r.size
/-- The token that it is; none: it is left out; the other none: it is a number that is none. -/
def pieceK (c : UInt8) (t : ByteArray) : Option (Option Tok) :=
  if c.toNat = 32 then some none
  else if isD c = true then (numOf t.data.toList).map fun v => some ⟨2, t, v⟩
  else if isW c = true then some (some ⟨1, t, 0⟩)
  else some (some ⟨3, t, 0⟩)
def optL {α : Type} : Option α → List α
  | some x => [x]
  | none => []
def scanF : Nat → ByteArray → Option (List Tok)
  | 0, _ => some []
  | f + 1, r => if h : 0 < r.size then (pieceK r[0] (pieceT r)).bind fun o => (scanF f (pieceR r)).map (optL o ++ ·) else some []
theorem pieceN_le (r : ByteArray) (h : 0 < r.size) : pieceN r ≤ r.size := by
  unfold pieceN
  have h1 : runN r.data.toList ≤ r.data.toList.length := (List.takeWhile_prefix _).length_le
  rw [Array.length_toList] at h1
  have h2 : r.data.size = r.size := rfl
  omega
theorem pieceR_size (r : ByteArray) (h : 0 < r.size) : (pieceR r).size < r.size := by
  unfold pieceR
  have h1 : 1 ≤ pieceN r := by unfold pieceN; omega
  rw [ByteArray.size_extract]
  omega
theorem scanF_nil (f : Nat) (r : ByteArray) (h : r.size = 0) : scanF f r = some [] := by
  cases f with
  | zero => rfl
  | succ f => unfold scanF; rw [dif_neg (by omega)]
theorem Tryz.infoTok : (Tryz.prog.info? 296).map (fun i => (i.zero, i.size, i.bytes)) = some (some (.agg #[.int .i64 0, .string ⟨#[]⟩, .int .i64 0]), 3, 32) := by kernel_rfl
/-- What scan gives. -/
def ScanEnd (n0 : Nat) (w : World) (o : Option (List Tok)) (e : Ending) (w' : World) : Prop :=
  match o with
  | none => e = .returned (.tuple #[.slice none 0 0, .bool false]) ∧ Below n0 w w'
  | some ts => ∃ g cap, e = .returned (.tuple #[.slice (some ⟨g, 0, none⟩) (ts.length + 1 : Nat) cap, .bool true]) ∧ w'.ownsRow n0 296 3 (.slice (some ⟨g, 0, none⟩) (ts.length + 1) cap) (ts.length + 1) (tokCells (ts ++ [endT])) ∧ Below n0 w w'
theorem tok_one {k : Int} {t : ByteArray} {v : Int} : ∀ u ∈ [Value.int .i64 k, .string t, .int .i64 v], u.oneCell' = true := by
  intro u hu
  simp at hu
  rcases hu with rfl | rfl | rfl <;> rfl
theorem pieceK_blank (c : UInt8) (t : ByteArray) (h : c.toNat = 32) : pieceK c t = some none := by unfold pieceK; rw [if_pos h]
theorem pieceK_bad (c : UInt8) (t : ByteArray) (h : ¬ c.toNat = 32) (hd : isD c = true) (hv : numOf t.data.toList = none) : pieceK c t = none := by unfold pieceK; rw [if_neg h, if_pos hd, hv]; rfl
theorem pieceK_num (c : UInt8) (t : ByteArray) (v : Int) (h : ¬ c.toNat = 32) (hd : isD c = true) (hv : numOf t.data.toList = some v) : pieceK c t = some (some ⟨2, t, v⟩) := by unfold pieceK; rw [if_neg h, if_pos hd, hv]; rfl
theorem pieceK_word (c : UInt8) (t : ByteArray) (h : ¬ c.toNat = 32) (hd : isD c = false) (hw : isW c = true) : pieceK c t = some (some ⟨1, t, 0⟩) := by unfold pieceK; rw [if_neg h, if_neg (by simp [hd]), if_pos hw]
theorem pieceK_sign (c : UInt8) (t : ByteArray) (h : ¬ c.toNat = 32) (hd : isD c = false) (hw : isW c = false) : pieceK c t = some (some ⟨3, t, 0⟩) := by unfold pieceK; rw [if_neg h, if_neg (by simp [hd]), if_neg (by simp [hw])]
theorem _root_.Go.World.ownsRow.below3 {w w' : World} {base : Nat} {e : TypeId} {size n : Nat} {v : Value} {xs : List Value} (h : w.ownsRow base e size v n xs) (hb : Below w.heap.size w w') : w'.ownsRow base e size v n xs :=
  by
  obtain ⟨h1, h2 | ⟨g, cap, cur, rfl, hg, h3⟩⟩ := id h
  · exact ⟨h1, .inl h2⟩
  · exact h.kept (row := none) ⟨hb.os, hb.tape, hb.output, hb.size, fun k hk _ => hb.block k hk⟩ (.inr (by simp [Value.ownBlock]))
set_option maxRecDepth 100000 in
set_option maxHeartbeats 4000000 in
theorem scan_any (s : ByteArray) (w : World) (hs : s.size ≤ 1000000) :
    Calls Tryz.prog 163 #[.string s] w (ScanEnd w.heap.size w (scanF s.size (capS s))) := by
  obtain ⟨i0, hi, hz0, hz1, hz2⟩ := info_parts Tryz.infoTok
  obtain ⟨R, hR⟩ : ∃ R, scanF s.size (capS s) = R := ⟨_, rfl⟩
  rw [hR]
  have HR0 := hideIt hR
  have hcs : (capS s).size = s.size := by unfold capS; show (s.data.map capB).size = _; rw [Array.size_map]; rfl
  clear hR
  go_enter Tryz.func163, Tryz.ntmps163
  go_wp2_with fail
  refine (capitals_any s _ hs).mono ?_
  rintro e w1 ⟨rfl, hb1⟩
  have hs1 := hb1.size
  go_wp2_with fail
  go_loopw [4, 5] (fun v vr wr => ∃ (r : ByteArray) (acc : List Tok) (f : Nat), vr = .string r ∧ r.size ≤ f ∧ acc.length + r.size ≤ s.size ∧ Hid ((scanF f r).map (acc ++ ·) = R) ∧ wr.ownsRow w.heap.size 296 3 v acc.length (tokCells acc) ∧ Below w.heap.size w wr) (fun _ vr _ => match vr with | .string r => r.size | _ => 0)
  case atStart => exact ⟨capS s, [], s.size, by simp, by omega, by simp; omega, hideIt (by rw [HR0.out]; simp), World.ownsRow_nil _ _ _ _, hb1⟩
  case round =>
    obtain ⟨r, acc, f, rfl, hrf, hal, HR, hrow, hb⟩ := hrel
    have hsw := hb.size
    by_cases hp : 0 < r.size
    · have hem : r.toList.isEmpty = false := by rw [isEmpty_iff, decide_eq_false_iff_not]; omega
      obtain ⟨m, hm⟩ : ∃ m, runN r.data.toList = m := ⟨_, rfl⟩
      obtain ⟨n, hn⟩ : ∃ n, pieceN r = n := ⟨_, rfl⟩
      have hnr := pieceN_le r hp
      rw [hn] at hnr
      have hmx : max (m : Int) 1 = (n : Int) := by
        rw [← hn, ← hm]; unfold pieceN; omega
      have HRL := hideIt (fun w => show Calls Tryz.prog 203 #[.string r] w fun e w' => e = .returned (.int .i64 (m : Nat)) ∧ w' = w by rw [← hm]; exact runLength_any r w (by omega))
      clear hm
      obtain ⟨c, hc⟩ : ∃ c, r[0] = c := ⟨_, rfl⟩
      have hpt : pieceT r = r.extract 0 n := by unfold pieceT; rw [hn]
      have hpr : pieceR r = r.extract n r.size := by unfold pieceR; rw [hn]
      have hps := pieceR_size r hp
      rw [hpr] at hps
      obtain ⟨f', rfl⟩ : ∃ f', f = f' + 1 := ⟨f - 1, by omega⟩
      have hstep : R = ((pieceK c (r.extract 0 n)).bind fun o => (scanF f' (r.extract n r.size)).map (optL o ++ ·)).map (acc ++ ·) := by
        rw [← HR.out]
        conv => lhs; unfold scanF
        rw [dif_pos hp, hc, hpt, hpr]
      have HST := hideIt hstep
      obtain ⟨rn, hrn⟩ : ∃ rn, r.extract n r.size = rn := ⟨_, rfl⟩
      obtain ⟨tx, htx⟩ : ∃ tx, r.extract 0 n = tx := ⟨_, rfl⟩
      have htxs : tx.size ≤ 1000000 := by rw [← htx, ByteArray.size_extract]; omega
      rw [hrn, htx] at HST
      rw [hrn] at hps
      have HRN := hideIt hrn
      have HTX := hideIt htx
      clear hn hpt hpr hstep hrn htx HR
      go_wp2_with (refine (HRL.out _).mono ?_; rintro e w2 ⟨rfl, rfl⟩)
      go_quiet (fail)
      have hbd : Below w.heap.size w (w2.drewN nq) := below_drewN hb nq
      have hrowd : (w2.drewN nq).ownsRow w.heap.size 296 3 u4 acc.length (tokCells acc) := hrow
      clear hrow hb
      generalize w2.drewN nq = wd at *
      have hrow := hrowd
      have hzd := hbd.size
      clear hrowd
      rw [HTX.out]
      have hrn0 := HRN.out
      by_cases h32 : c.toNat = 32
      · have i32 : ((c.toNat : Int) == 32) = true := by simp [h32]
        go_wp2_with fail
        refine ⟨⟨rn, acc, f', by simp, by omega, by omega, hideIt ?_, hrow, hbd⟩, by simp; omega⟩
        rw [HST.out, pieceK_blank c tx h32]
        simp [optL]
      · have i32 : ((c.toNat : Int) == 32) = false := by simp; omega
        have HID := hideIt (isDigit_any c)
        cases hd : isD c with
        | true =>
          rw [hd] at HID
          have HRD := hideIt (fun w => readNumber_any tx w htxs)
          cases hv : numOf tx.data.toList with
          | none =>
            rw [hv] at HRD
            have HE := hideIt (show R = none by rw [HST.out, pieceK_bad c tx h32 hd hv]; rfl)
            go_wp2_with (first | (go_at_call 204; refine (HID.out _).mono ?_; rintro e w3 ⟨rfl, hw3⟩; rw [hw3]; clear hw3) | (go_at_call 205; refine (HRD.out _).mono ?_; rintro e w3 ⟨rfl, hb3⟩; unfold numE))
            go_ret2
            rw [HE.out]
            exact ⟨rfl, hbd.trans (hb3.mono hzd)⟩
          | some v =>
            rw [hv] at HRD
            go_wp2_with (first | (go_at_call 204; refine (HID.out _).mono ?_; rintro e w3 ⟨rfl, hw3⟩; rw [hw3]; clear hw3) | (go_at_call 205; refine (HRD.out _).mono ?_; rintro e w3 ⟨rfl, hb3⟩; unfold numE; have hz3 := hb3.size) | (at_builtin; refine wpList_append_own _ rfl _ _ 250 rfl w.heap.size 296 i0 _ 3 32 Tryz.underlying250 hi hz0 hz1 hz2 rfl (by decide) _ _ _ rfl ((hrow.below3 hb3).alloc _) ⟨w3.heap.size, 0, none⟩ 1 1 [.int .i64 2, .string tx, .int .i64 v] rfl rfl ?c1 ?c2 ?c3 ?c4 ?c5 ?_))
            case c1 =>
              intro j u hj
              match j, hj with
              | 0, hj => simp at hj; subst hj; simp [Addr.add]
              | 1, hj => simp at hj; subst hj; simp [Addr.add]
              | 2, hj => simp at hj; subst hj; simp [Addr.add]
            case c2 => exact tok_one
            case c3 => unfold maxLen; omega
            case c4 => omega
            case c5 => simp; omega
            intro v' wn hown' hgrow _
            have hbn : Below w.heap.size w wn := ((hbd.trans (hb3.mono hzd)).alloc (by have := hb3.size; omega) _).grown hgrow (by simp; omega) (own_ge hrow)
            have hrn' : wn.ownsRow w.heap.size 296 3 v' (acc ++ [(⟨2, tx, v⟩ : Tok)]).length (tokCells (acc ++ [(⟨2, tx, v⟩ : Tok)])) := by
              rw [tokCells_snoc, List.length_append]
              exact hown'
            clear hown' hgrow
            go_wp2
            go_roundw
            case rel =>
              refine ⟨rn, acc ++ [(⟨2, tx, v⟩ : Tok)], f', by simp, by omega, by simp; omega, hideIt ?_, hrn', hbn⟩
              rw [HST.out, pieceK_num c tx v h32 hd hv]
              simp [optL, Option.map_map, Function.comp_def]
            case measure => simp; omega
        | false =>
          rw [hd] at HID
          have HIW := hideIt (isOfWord_any c)
          cases hw : isW c with
          | true =>
            rw [hw] at HIW
            go_wp2_with (first | (go_at_call 204; refine (HID.out _).mono ?_; rintro e w3 ⟨rfl, hw3⟩; rw [hw3]; clear hw3) | (go_at_call 206; refine (HIW.out _).mono ?_; rintro e w3 ⟨rfl, hw3⟩; rw [hw3]; clear hw3) | (at_builtin; refine wpList_append_own _ rfl _ _ 250 rfl w.heap.size 296 i0 _ 3 32 Tryz.underlying250 hi hz0 hz1 hz2 rfl (by decide) _ _ _ rfl (hrow.alloc _) ⟨wd.heap.size, 0, none⟩ 1 1 [.int .i64 1, .string tx, .int .i64 0] rfl rfl ?c1 ?c2 ?c3 ?c4 ?c5 ?_))
            case c1 =>
              intro j u hj
              match j, hj with
              | 0, hj => simp at hj; subst hj; simp [Addr.add]
              | 1, hj => simp at hj; subst hj; simp [Addr.add]
              | 2, hj => simp at hj; subst hj; simp [Addr.add]
            case c2 => exact tok_one
            case c3 => unfold maxLen; omega
            case c4 => omega
            case c5 => simp; omega
            intro v' wn hown' hgrow _
            have hbn : Below w.heap.size w wn := (hbd.alloc (by omega) _).grown hgrow (by simp; omega) (own_ge hrow)
            have hrn' : wn.ownsRow w.heap.size 296 3 v' (acc ++ [(⟨1, tx, 0⟩ : Tok)]).length (tokCells (acc ++ [(⟨1, tx, 0⟩ : Tok)])) := by
              rw [tokCells_snoc, List.length_append]
              exact hown'
            clear hown' hgrow
            go_wp2
            go_roundw
            case rel =>
              refine ⟨rn, acc ++ [(⟨1, tx, 0⟩ : Tok)], f', by simp, by omega, by simp; omega, hideIt ?_, hrn', hbn⟩
              rw [HST.out, pieceK_word c tx h32 hd hw]
              simp [optL, Option.map_map, Function.comp_def]
            case measure => simp; omega
          | false =>
            rw [hw] at HIW
            go_wp2_with (first | (go_at_call 204; refine (HID.out _).mono ?_; rintro e w3 ⟨rfl, hw3⟩; rw [hw3]; clear hw3) | (go_at_call 206; refine (HIW.out _).mono ?_; rintro e w3 ⟨rfl, hw3⟩; rw [hw3]; clear hw3) | (at_builtin; refine wpList_append_own _ rfl _ _ 250 rfl w.heap.size 296 i0 _ 3 32 Tryz.underlying250 hi hz0 hz1 hz2 rfl (by decide) _ _ _ rfl (hrow.alloc _) ⟨wd.heap.size, 0, none⟩ 1 1 [.int .i64 3, .string tx, .int .i64 0] rfl rfl ?c1 ?c2 ?c3 ?c4 ?c5 ?_))
            case c1 =>
              intro j u hj
              match j, hj with
              | 0, hj => simp at hj; subst hj; simp [Addr.add]
              | 1, hj => simp at hj; subst hj; simp [Addr.add]
              | 2, hj => simp at hj; subst hj; simp [Addr.add]
            case c2 => exact tok_one
            case c3 => unfold maxLen; omega
            case c4 => omega
            case c5 => simp; omega
            intro v' wn hown' hgrow _
            have hbn : Below w.heap.size w wn := (hbd.alloc (by omega) _).grown hgrow (by simp; omega) (own_ge hrow)
            have hrn' : wn.ownsRow w.heap.size 296 3 v' (acc ++ [(⟨3, tx, 0⟩ : Tok)]).length (tokCells (acc ++ [(⟨3, tx, 0⟩ : Tok)])) := by
              rw [tokCells_snoc, List.length_append]
              exact hown'
            clear hown' hgrow
            go_wp2
            go_roundw
            case rel =>
              refine ⟨rn, acc ++ [(⟨3, tx, 0⟩ : Tok)], f', by simp, by omega, by simp; omega, hideIt ?_, hrn', hbn⟩
              rw [HST.out, pieceK_sign c tx h32 hd hw]
              simp [optL, Option.map_map, Function.comp_def]
            case measure => simp; omega
    · have hz : r.size = 0 := by omega
      have hem : r.toList.isEmpty = true := by rw [isEmpty_iff]; simp [hz]
      have HE := hideIt (show R = some acc by rw [← HR.out, scanF_nil _ _ hz]; simp)
      go_wp2_with (at_builtin; refine wpList_append_own _ rfl _ _ 250 rfl w.heap.size 296 i0 _ 3 32 Tryz.underlying250 hi hz0 hz1 hz2 rfl (by decide) _ _ _ rfl (hrow.alloc _) ⟨wr.heap.size, 0, none⟩ 1 1 [.int .i64 0, .string ⟨#[]⟩, .int .i64 0] rfl rfl ?c1 ?c2 ?c3 ?c4 ?c5 ?_)
      case c1 =>
        intro j u hj
        match j, hj with
        | 0, hj => simp at hj; subst hj; simp [Addr.add]
        | 1, hj => simp at hj; subst hj; simp [Addr.add]
        | 2, hj => simp at hj; subst hj; simp [Addr.add]
      case c2 => exact tok_one
      case c3 => unfold maxLen; omega
      case c4 => omega
      case c5 => simp; omega
      intro v' wn hown' hgrow _
      have hbn : Below w.heap.size w wn := (hb.alloc (by omega) _).grown hgrow (by simp; omega) (own_ge hrow)
      have hrn' : wn.ownsRow w.heap.size 296 3 v' (acc.length + 1) (tokCells (acc ++ [endT])) := by
        rw [tokCells_snoc]
        exact hown'
      clear hown' hgrow
      go_wp2
      go_ret2
      rw [HE.out]
      obtain ⟨_, ⟨_, h'⟩ | ⟨g, cap, cur, rfl, _⟩⟩ := id hrn'
      · omega
      · exact ⟨g, cap, rfl, hrn', hbn⟩
end Go.Proofs.YthokdbcpkmcieaaGreatDoor
namespace Go.Proofs.YthokdbcpkmcieaaGreatDoor
open Go Go.RowKit Go.Maps
/-- Any element reads as itself. -/
def rawR (v : Value) : Option (DataW Value × List MemPlace) := some (.held v, [])
def atD (z : DataW Value) : Option Value → DataW Value
  | some v => .held v
  | none => z
/-- Block b is a map with n entries; at the key l stands f l. -/
def MapAt (P : Program) (k : TypeId) (w : World) (b n : Nat) (f : List UInt8 → Option Value) : Prop :=
  ∃ D, w.ownsMap P k rawR b n D ∧ size D = n ∧ ∀ l z, D.atKey (.string l) z = atD z (f l)
def putF (f : List UInt8 → Option Value) (l : List UInt8) (v : Value) : List UInt8 → Option Value := fun x => if x = l then some v else f x
/-- How many entries there are behind a store. -/
def putN (n : Nat) : Option Value → Nat
  | some _ => n
  | none => n + 1
/-- What a look-up gives. -/
def lookV (c : Bool) (z : Value) : Option Value → Value
  | some v => if c then .tuple #[v, .bool true] else v
  | none => if c then .tuple #[z, .bool false] else z
section
variable {P : Program} {k : TypeId} {w : World} {b n : Nat} {f : List UInt8 → Option Value}
theorem MapAt.made (w : World) (P : Program) (k : TypeId) : MapAt P k (w.alloc (.map #[] 0)) w.heap.size 0 (fun _ => none) :=
  ⟨_, World.ownsMap_made w P k rawR, rfl, fun _ _ => rfl⟩
theorem MapAt.lt (h : MapAt P k w b n f) : b < w.heap.size := by
  obtain ⟨D, h1, _⟩ := h
  exact h1.lt
theorem MapAt.kept {w' : World} {row : Option Nat} (h : MapAt P k w b n f) (hg : w.grownBy w' row) (hne : some b ≠ row) : MapAt P k w' b n f := by
  obtain ⟨D, h1, h2⟩ := h
  exact ⟨D, h1.kept hg hne, h2⟩
theorem MapAt.below {w' : World} {B : Nat} (h : MapAt P k w b n f) (hb : Below B w w') (hlt : b < B) : MapAt P k w' b n f := by
  obtain ⟨D, ⟨es, clock, h1, h2⟩, h3⟩ := h
  exact ⟨D, ⟨es, clock, (hb.block b hlt).trans h1, h2⟩, h3⟩
theorem MapAt.alloc (h : MapAt P k w b n f) (o : Obj) : MapAt P k (w.alloc o) b n f := h.kept (World.grownBy_alloc w o none) (by simp)
theorem MapAt.ext {g : List UInt8 → Option Value} (h : MapAt P k w b n f) (he : ∀ l, f l = g l) : MapAt P k w b n g := by
  obtain ⟨D, h1, h2, h3⟩ := h
  exact ⟨D, h1, h2, fun l z => by rw [h3, he]⟩
theorem MapAt.look {t e : TypeId} (h : MapAt P k w b n f) (K : Keyed P k) (ht : P.underlying t = some (.map k e)) {z : Value} (hz : (zeroValue e).run P w = .ok z w) {key : Value} {l : List UInt8} (hkey : keyOf P k key = some (.string l)) (c : Bool) :
    (Instr.lookup t (.map (some b)) key c).run P w = .ok (lookV c z (f l)) w := by
  obtain ⟨D, ⟨es, clock, hb, F, hs, rfl⟩, _, h3⟩ := h
  rcases Maps.fit_look c K ht hz hb F hkey with ⟨hrun, _, hat⟩ | ⟨e0, y, _, _, hrun, hRv, hat, _⟩
  · have hn : f l = none := by
      cases hf : f l with
      | none => rfl
      | some v =>
        have := hat .nil
        rw [h3, hf] at this
        cases this
    rw [hn]; exact hrun
  · have hy : f l = some e0.val := by
      have e1 := hat .nil
      have e2 := h3 l .nil
      rw [e1] at e2
      cases hRv
      cases hf : f l with
      | none => rw [hf] at e2; cases e2
      | some v => rw [hf] at e2; cases e2; rfl
    rw [hy]; exact hrun
theorem MapAt.has {D : DataW Value} (h3 : ∀ l z, D.atKey (.string l) z = atD z (f l)) (l : List UInt8) : Maps.has D (.string l) = (f l).isSome := by
  cases hf : f l with
  | none => exact Maps.has_false_of_atKey (fun zd => by rw [h3, hf]; rfl)
  | some v => exact Maps.has_true_of_atKey (y := .held v) (fun zd => by rw [h3, hf]; rfl)
theorem MapAt.store {t e : TypeId} (h : MapAt P k w b n f) (K : Keyed P k) (ht : P.underlying t = some (.map k e)) (hn : n < maxLen) {key val : Value} {l : List UInt8} (hkey : keyOf P k key = some (.string l)) :
    ∃ w', (Instr.mapUpdate t (.map (some b)) key val).run P w = .ok () w' ∧ MapAt P k w' b (putN n (f l)) (putF f l val) ∧ w.grownBy w' (some b) := by
  obtain ⟨D, h1, h2, h3⟩ := h
  obtain ⟨w', hrun, hown, hg⟩ := h1.update K ht hn hkey (show rawR val = some (.held val, []) from rfl)
  have hkl : WideAt.IsKeyLit (.string l) := trivial
  have hsz : size (D.put (.string l) (.held val)) = putN n (f l) := by
    rw [size_put (h1.tidy K), MapAt.has h3, h2]
    cases f l <;> rfl
  refine ⟨w', hrun, ⟨_, ?_, hsz, fun x z => ?_⟩, hg⟩
  · obtain ⟨es, clock, hb, F, hs, hD⟩ := hown
    refine ⟨es, clock, hb, F, ?_, hD⟩
    rw [← hsz, hD]
    simp [size, length_sorted]
  · unfold putF
    by_cases e : x = l
    · subst e; rw [if_pos rfl, atKey_put_same h1.isMap hkl]; rfl
    · rw [if_neg e, atKey_put_other (by simpa using e), h3]
theorem MapAt.len {t e : TypeId} (h : MapAt P k w b n f) (ht : P.underlying t = some (.map k e)) (ty : TypeId) : (Builtin.len_ #[t] ty #[.map (some b)]).run P w = .ok (.int .i64 n) w := by
  obtain ⟨D, h1, h2, _⟩ := h
  rw [← h2]
  exact h1.len ht ty
end
theorem wpList_look {P : Program} (w : World) {ops : Array Oper} {rest : List Oper} {o : Oper} {a : Act} {Q : Exit → Act → World → Prop}
    (hg : o.guard = none) (m x : Operand) (t : TypeId) (c : Bool) (hop : o.op = Op.lookup t m x c)
    (k e : TypeId) (K : Keyed P k) (ht : P.underlying t = some (.map k e)) (z : Value) (hz : (zeroValue e).run P w = .ok z w) (b n : Nat) (f : List UInt8 → Option Value)
    (hm : a.eval m = .map (some b)) (hown : MapAt P k w b n f) (key : Value) (l : List UInt8) (hx : a.eval x = key) (hkey : keyOf P k key = some (.string l))
    (v : Value) (hv : lookV c z (f l) = v) (hK : wpList P ops Q rest (a.put o.dst v) w) : wpList P ops Q (o :: rest) a w := by
  refine wpList_plain hg fun K' hK' => ?_
  have hrun := hown.look K ht hz hkey c
  unfold Oper.wp
  subst hv
  simp [execOp, hop, hm, hx, hrun, Result.andThen]
  exact hK' _ _ hK
theorem wpList_store {P : Program} (w : World) {ops : Array Oper} {rest : List Oper} {o : Oper} {a : Act} {Q : Exit → Act → World → Prop}
    (hg : o.guard = none) (m x v : Operand) (t : TypeId) (hop : o.op = Op.mapUpdate t m x v)
    (k e : TypeId) (K : Keyed P k) (ht : P.underlying t = some (.map k e)) (b n : Nat) (f : List UInt8 → Option Value)
    (hm : a.eval m = .map (some b)) (hown : MapAt P k w b n f) (hn : n < maxLen) (key val : Value) (l : List UInt8) (hx : a.eval x = key) (hv : a.eval v = val) (hkey : keyOf P k key = some (.string l))
    (hK : ∀ w', MapAt P k w' b (putN n (f l)) (putF f l val) → w.grownBy w' (some b) → wpList P ops Q rest (a.put o.dst undef) w') : wpList P ops Q (o :: rest) a w := by
  refine wpList_plain hg fun K' hK' => ?_
  obtain ⟨w', hrun, r1, r2⟩ := hown.store (val := val) K ht hn hkey
  unfold Oper.wp
  simp [execOp, hop, hm, hx, hv, hrun, Result.andThen]
  exact hK' _ _ (hK w' r1 r2)
end Go.Proofs.YthokdbcpkmcieaaGreatDoor
