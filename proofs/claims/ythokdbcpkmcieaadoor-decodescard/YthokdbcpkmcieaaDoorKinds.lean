/- The walk of kindsByName: the map that it makes. -/
import Derived.Test.YthokdbcpkmcieaaDoorRows
import Derived.WalkKit
import Derived.WalkSpells
import Derived.WalkLawsBesides
import Derived.Maps.Own
import Derived.Maps.OwnOps
namespace Go.Proofs.YthokdbcpkmcieaaDoor
open Go Go.RowKit Go.WideMaps Go.Maps
/-- The map's keys and elements, in the text's order. -/
def kindsL : List (List UInt8 × Nat) := [([65], 0), ([65, 66], 1), ([67], 2), ([68, 80, 84, 82], 3), ([64, 65, 43, 68, 80, 84, 82], 4), ([64, 65, 43, 80, 67], 5), ([64, 68, 80, 84, 82], 6), ([64, 82], 7), ([82], 8), ([35, 98, 121, 116, 101], 9), ([35, 119, 111, 114, 100], 10), ([100, 105, 114], 11), ([98, 105, 116], 12), ([47, 98, 105, 116], 13), ([97, 100, 100, 114], 14), ([114, 101, 108], 15), ([112, 97, 103, 101], 16)]
/-- What the map reads as. -/
def kindsD : DataW Unit := kindsL.foldl (fun D kv => D.put (.string kv.1) (.lit (.int .i64 kv.2))) (.map [])
theorem kinds_law : Keyed Tryd.prog 9 := string_keyed Tryd.underlying9
theorem wpList_insert_own {H : Type} {P : Program} (w : World) {ops : Array Oper} {rest : List Oper} {o : Oper} {a : Act} {Q : Exit → Act → World → Prop}
    (hg : o.guard = none) (m x v : Operand) (t : TypeId) (hop : o.op = Op.insert t m x v)
    (k e : TypeId) (K : Keyed P k) (ht : P.underlying t = some (.map k e)) (R : Value → Option (DataW H × List MemPlace)) (b n : Nat) (D : DataW H)
    (hm : a.eval m = .map (some b)) (hown : w.ownsMap P k R b n D) (hn : n < maxLen) (key val : Value) (kl : Lit) (hx : a.eval x = key) (hv : a.eval v = val) (hkey : keyOf P k key = some kl)
    (d : DataW H) (ps : List MemPlace) (hval : R val = some (d, ps))
    (hK : ∀ w', w'.ownsMap P k R b (n + 1) (D.put kl d) → w.grownBy w' (some b) → wpList P ops Q rest (a.put o.dst undef) w') :
    wpList P ops Q (o :: rest) a w := by
  refine wpList_plain hg fun K' hK' => ?_
  obtain ⟨w', hrun, r1, r2⟩ := hown.update K ht hn hkey hval
  unfold Oper.wp
  simp [execOp, hop, hm, hx, hv, hrun, Result.andThen]
  exact hK' _ _ (hK w' r1 r2)
set_option maxRecDepth 100000 in
set_option maxHeartbeats 4000000 in
theorem kinds_any (w : World) :
    Calls Tryd.prog 13 #[] w fun e w' => e = .returned (.map (some w.heap.size)) ∧ w'.ownsMap Tryd.prog 9 (plainElem Tryd.prog 47) w.heap.size 17 kindsD ∧ Below w.heap.size w w' := by
  have hmm := @run_makeMap Tryd.prog
  go_enter Tryd.func13, Tryd.ntmps13
  go_wp2_with (refine wpList_insert_own _ rfl _ _ _ 43 rfl 9 47 kinds_law Tryd.underlying43 (plainElem (H := Unit) Tryd.prog 47) w.heap.size 0 _ rfl (World.ownsMap_made _ _ _ _) (by unfold maxLen; omega) (.string ⟨#[65]⟩) (.int .i64 0) (.string [65]) rfl rfl (keyOf_string_mk Tryd.underlying9 (by decide)) (.lit (.int .i64 0)) [] (plainElem_int Tryd.underlying47 (by decide)) ?_; intro w1 h1 g1; refine wpList_insert_own _ rfl _ _ _ 43 rfl 9 47 kinds_law Tryd.underlying43 (plainElem (H := Unit) Tryd.prog 47) w.heap.size 1 _ rfl h1 (by unfold maxLen; omega) (.string ⟨#[65, 66]⟩) (.int .i64 1) (.string [65, 66]) rfl rfl (keyOf_string_mk Tryd.underlying9 (by decide)) (.lit (.int .i64 1)) [] (plainElem_int Tryd.underlying47 (by decide)) ?_; intro w2 h2 g2; refine wpList_insert_own _ rfl _ _ _ 43 rfl 9 47 kinds_law Tryd.underlying43 (plainElem (H := Unit) Tryd.prog 47) w.heap.size 2 _ rfl h2 (by unfold maxLen; omega) (.string ⟨#[67]⟩) (.int .i64 2) (.string [67]) rfl rfl (keyOf_string_mk Tryd.underlying9 (by decide)) (.lit (.int .i64 2)) [] (plainElem_int Tryd.underlying47 (by decide)) ?_; intro w3 h3 g3; refine wpList_insert_own _ rfl _ _ _ 43 rfl 9 47 kinds_law Tryd.underlying43 (plainElem (H := Unit) Tryd.prog 47) w.heap.size 3 _ rfl h3 (by unfold maxLen; omega) (.string ⟨#[68, 80, 84, 82]⟩) (.int .i64 3) (.string [68, 80, 84, 82]) rfl rfl (keyOf_string_mk Tryd.underlying9 (by decide)) (.lit (.int .i64 3)) [] (plainElem_int Tryd.underlying47 (by decide)) ?_; intro w4 h4 g4; refine wpList_insert_own _ rfl _ _ _ 43 rfl 9 47 kinds_law Tryd.underlying43 (plainElem (H := Unit) Tryd.prog 47) w.heap.size 4 _ rfl h4 (by unfold maxLen; omega) (.string ⟨#[64, 65, 43, 68, 80, 84, 82]⟩) (.int .i64 4) (.string [64, 65, 43, 68, 80, 84, 82]) rfl rfl (keyOf_string_mk Tryd.underlying9 (by decide)) (.lit (.int .i64 4)) [] (plainElem_int Tryd.underlying47 (by decide)) ?_; intro w5 h5 g5; refine wpList_insert_own _ rfl _ _ _ 43 rfl 9 47 kinds_law Tryd.underlying43 (plainElem (H := Unit) Tryd.prog 47) w.heap.size 5 _ rfl h5 (by unfold maxLen; omega) (.string ⟨#[64, 65, 43, 80, 67]⟩) (.int .i64 5) (.string [64, 65, 43, 80, 67]) rfl rfl (keyOf_string_mk Tryd.underlying9 (by decide)) (.lit (.int .i64 5)) [] (plainElem_int Tryd.underlying47 (by decide)) ?_; intro w6 h6 g6; refine wpList_insert_own _ rfl _ _ _ 43 rfl 9 47 kinds_law Tryd.underlying43 (plainElem (H := Unit) Tryd.prog 47) w.heap.size 6 _ rfl h6 (by unfold maxLen; omega) (.string ⟨#[64, 68, 80, 84, 82]⟩) (.int .i64 6) (.string [64, 68, 80, 84, 82]) rfl rfl (keyOf_string_mk Tryd.underlying9 (by decide)) (.lit (.int .i64 6)) [] (plainElem_int Tryd.underlying47 (by decide)) ?_; intro w7 h7 g7; refine wpList_insert_own _ rfl _ _ _ 43 rfl 9 47 kinds_law Tryd.underlying43 (plainElem (H := Unit) Tryd.prog 47) w.heap.size 7 _ rfl h7 (by unfold maxLen; omega) (.string ⟨#[64, 82]⟩) (.int .i64 7) (.string [64, 82]) rfl rfl (keyOf_string_mk Tryd.underlying9 (by decide)) (.lit (.int .i64 7)) [] (plainElem_int Tryd.underlying47 (by decide)) ?_; intro w8 h8 g8; refine wpList_insert_own _ rfl _ _ _ 43 rfl 9 47 kinds_law Tryd.underlying43 (plainElem (H := Unit) Tryd.prog 47) w.heap.size 8 _ rfl h8 (by unfold maxLen; omega) (.string ⟨#[82]⟩) (.int .i64 8) (.string [82]) rfl rfl (keyOf_string_mk Tryd.underlying9 (by decide)) (.lit (.int .i64 8)) [] (plainElem_int Tryd.underlying47 (by decide)) ?_; intro w9 h9 g9; refine wpList_insert_own _ rfl _ _ _ 43 rfl 9 47 kinds_law Tryd.underlying43 (plainElem (H := Unit) Tryd.prog 47) w.heap.size 9 _ rfl h9 (by unfold maxLen; omega) (.string ⟨#[35, 98, 121, 116, 101]⟩) (.int .i64 9) (.string [35, 98, 121, 116, 101]) rfl rfl (keyOf_string_mk Tryd.underlying9 (by decide)) (.lit (.int .i64 9)) [] (plainElem_int Tryd.underlying47 (by decide)) ?_; intro w10 h10 g10; refine wpList_insert_own _ rfl _ _ _ 43 rfl 9 47 kinds_law Tryd.underlying43 (plainElem (H := Unit) Tryd.prog 47) w.heap.size 10 _ rfl h10 (by unfold maxLen; omega) (.string ⟨#[35, 119, 111, 114, 100]⟩) (.int .i64 10) (.string [35, 119, 111, 114, 100]) rfl rfl (keyOf_string_mk Tryd.underlying9 (by decide)) (.lit (.int .i64 10)) [] (plainElem_int Tryd.underlying47 (by decide)) ?_; intro w11 h11 g11; refine wpList_insert_own _ rfl _ _ _ 43 rfl 9 47 kinds_law Tryd.underlying43 (plainElem (H := Unit) Tryd.prog 47) w.heap.size 11 _ rfl h11 (by unfold maxLen; omega) (.string ⟨#[100, 105, 114]⟩) (.int .i64 11) (.string [100, 105, 114]) rfl rfl (keyOf_string_mk Tryd.underlying9 (by decide)) (.lit (.int .i64 11)) [] (plainElem_int Tryd.underlying47 (by decide)) ?_; intro w12 h12 g12; refine wpList_insert_own _ rfl _ _ _ 43 rfl 9 47 kinds_law Tryd.underlying43 (plainElem (H := Unit) Tryd.prog 47) w.heap.size 12 _ rfl h12 (by unfold maxLen; omega) (.string ⟨#[98, 105, 116]⟩) (.int .i64 12) (.string [98, 105, 116]) rfl rfl (keyOf_string_mk Tryd.underlying9 (by decide)) (.lit (.int .i64 12)) [] (plainElem_int Tryd.underlying47 (by decide)) ?_; intro w13 h13 g13; refine wpList_insert_own _ rfl _ _ _ 43 rfl 9 47 kinds_law Tryd.underlying43 (plainElem (H := Unit) Tryd.prog 47) w.heap.size 13 _ rfl h13 (by unfold maxLen; omega) (.string ⟨#[47, 98, 105, 116]⟩) (.int .i64 13) (.string [47, 98, 105, 116]) rfl rfl (keyOf_string_mk Tryd.underlying9 (by decide)) (.lit (.int .i64 13)) [] (plainElem_int Tryd.underlying47 (by decide)) ?_; intro w14 h14 g14; refine wpList_insert_own _ rfl _ _ _ 43 rfl 9 47 kinds_law Tryd.underlying43 (plainElem (H := Unit) Tryd.prog 47) w.heap.size 14 _ rfl h14 (by unfold maxLen; omega) (.string ⟨#[97, 100, 100, 114]⟩) (.int .i64 14) (.string [97, 100, 100, 114]) rfl rfl (keyOf_string_mk Tryd.underlying9 (by decide)) (.lit (.int .i64 14)) [] (plainElem_int Tryd.underlying47 (by decide)) ?_; intro w15 h15 g15; refine wpList_insert_own _ rfl _ _ _ 43 rfl 9 47 kinds_law Tryd.underlying43 (plainElem (H := Unit) Tryd.prog 47) w.heap.size 15 _ rfl h15 (by unfold maxLen; omega) (.string ⟨#[114, 101, 108]⟩) (.int .i64 15) (.string [114, 101, 108]) rfl rfl (keyOf_string_mk Tryd.underlying9 (by decide)) (.lit (.int .i64 15)) [] (plainElem_int Tryd.underlying47 (by decide)) ?_; intro w16 h16 g16; refine wpList_insert_own _ rfl _ _ _ 43 rfl 9 47 kinds_law Tryd.underlying43 (plainElem (H := Unit) Tryd.prog 47) w.heap.size 16 _ rfl h16 (by unfold maxLen; omega) (.string ⟨#[112, 97, 103, 101]⟩) (.int .i64 16) (.string [112, 97, 103, 101]) rfl rfl (keyOf_string_mk Tryd.underlying9 (by decide)) (.lit (.int .i64 16)) [] (plainElem_int Tryd.underlying47 (by decide)) ?_; intro w17 h17 g17)
  go_ret
  refine ⟨rfl, h17, ?_⟩
  have hz : w.heap.size ≤ w.heap.size := Nat.le_refl _
  have b0 : Below w.heap.size w (w.alloc (.map #[] 0)) := (Below.refl _ _).alloc (Nat.le_refl _) _
  have b1 := b0.grown g1 (by have := b0.size; omega) (fun k hk => by cases hk; exact Nat.le_refl _)
  have b2 := b1.grown g2 (by have := b1.size; omega) (fun k hk => by cases hk; exact Nat.le_refl _)
  have b3 := b2.grown g3 (by have := b2.size; omega) (fun k hk => by cases hk; exact Nat.le_refl _)
  have b4 := b3.grown g4 (by have := b3.size; omega) (fun k hk => by cases hk; exact Nat.le_refl _)
  have b5 := b4.grown g5 (by have := b4.size; omega) (fun k hk => by cases hk; exact Nat.le_refl _)
  have b6 := b5.grown g6 (by have := b5.size; omega) (fun k hk => by cases hk; exact Nat.le_refl _)
  have b7 := b6.grown g7 (by have := b6.size; omega) (fun k hk => by cases hk; exact Nat.le_refl _)
  have b8 := b7.grown g8 (by have := b7.size; omega) (fun k hk => by cases hk; exact Nat.le_refl _)
  have b9 := b8.grown g9 (by have := b8.size; omega) (fun k hk => by cases hk; exact Nat.le_refl _)
  have b10 := b9.grown g10 (by have := b9.size; omega) (fun k hk => by cases hk; exact Nat.le_refl _)
  have b11 := b10.grown g11 (by have := b10.size; omega) (fun k hk => by cases hk; exact Nat.le_refl _)
  have b12 := b11.grown g12 (by have := b11.size; omega) (fun k hk => by cases hk; exact Nat.le_refl _)
  have b13 := b12.grown g13 (by have := b12.size; omega) (fun k hk => by cases hk; exact Nat.le_refl _)
  have b14 := b13.grown g14 (by have := b13.size; omega) (fun k hk => by cases hk; exact Nat.le_refl _)
  have b15 := b14.grown g15 (by have := b14.size; omega) (fun k hk => by cases hk; exact Nat.le_refl _)
  have b16 := b15.grown g16 (by have := b15.size; omega) (fun k hk => by cases hk; exact Nat.le_refl _)
  have b17 := b16.grown g17 (by have := b16.size; omega) (fun k hk => by cases hk; exact Nat.le_refl _)
  exact b17
end Go.Proofs.YthokdbcpkmcieaaDoor
