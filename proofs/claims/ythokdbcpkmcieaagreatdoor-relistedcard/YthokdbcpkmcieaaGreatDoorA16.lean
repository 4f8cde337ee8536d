/- The book: operands that are themselves. The book: operands that are themselves, laid in whatever order. -/
import Derived.Test.YthokdbcpkmcieaaGreatDoorA05
import Derived.Test.YthokdbcpkmcieaaGreatDoorShelf
import Derived.Test.YthokdbcpkmcieaaGreatDoorA03
import Derived.Maps.RangeWalk
namespace Go.Proofs.YthokdbcpkmcieaaGreatDoor
open Go Go.RowKit Go.Maps Go.WideMaps
/-- What is numbered is laid in. -/
def numF (f : List UInt8 → Option Value) (nm : List UInt8) (k : Nat) : Nat → (List UInt8 → Option Value)
  | 0 => f
  | i + 1 => putF (numF f nm k i) (nm ++ Lib.decDigits i) (fixV (k, i))
theorem putN_le (n : Nat) (o : Option Value) : putN n o ≤ n + 1 := by
  cases o
  · exact Nat.le_refl _
  · exact Nat.le_succ _
theorem grown_twoB {w w1 w2 : World} {r : Option Nat} (h : w.grownBy w1 r) (g : w1.grownBy w2 r) : w.grownBy w2 r :=
  ⟨g.os.trans h.os, g.tape.trans h.tape, g.output.trans h.output, Nat.le_trans h.size g.size, fun k hk hne => (g.block k (Nat.lt_of_lt_of_le hk h.size) hne).trans (h.block k hk hne)⟩
set_option maxRecDepth 100000 in
set_option maxHeartbeats 2000000 in
theorem addNumbered_any (fb n : Nat) (f : List UInt8 → Option Value) (nm : ByteArray) (k cnt : Nat) (w : World) (hM : MapAt Tryz.prog 9 w fb n f) (hn : n ≤ 1000) (hnm : nm.size ≤ 1000) (hc : cnt ≤ 10) :
    Calls Tryz.prog 242 #[.map (some fb), .string nm, .int .i64 (k : Int), .int .i64 (cnt : Int)] w fun e w' => e = .returned (.tuple #[]) ∧ (∃ n', n' ≤ n + cnt ∧ MapAt Tryz.prog 9 w' fb n' (numF f nm.data.toList k cnt)) ∧ w.grownBy w' (some fb) := by
  have HM0 := hideIt hM
  clear hM
  go_enter Tryz.func242, Tryz.ntmps242
  go_wp2_with fail
  go_loopw [10] (fun i wr => ∃ j : Nat, j ≤ cnt ∧ i = .int .i64 j ∧ (∃ n', n' ≤ n + j ∧ MapAt Tryz.prog 9 wr fb n' (numF f nm.data.toList k j)) ∧ w.grownBy wr (some fb)) (fun i _ => cnt - (intOf i).toNat)
  case atStart => exact ⟨0, Nat.zero_le _, rfl, ⟨n, Nat.le_refl _, HM0.out⟩, ⟨rfl, rfl, rfl, Nat.le_refl _, fun _ _ _ => rfl⟩⟩
  case round =>
    obtain ⟨j, hj, rfl, ⟨n', hn', hM'⟩, hg'⟩ := hrel
    have HM := hideIt hM'
    have HG := hideIt hg'
    clear hM' hg' HM0
    by_cases hlt : j < cnt
    · have hji : (j : Int) < (cnt : Int) := by omega
      have HI := hideIt (fun w' => Tryz.strconv_Itoa_small j (by omega) w')
      have hds : (Lib.decDigits j).length ≤ 100 := by
        have key : ∀ i : Fin 10, (Lib.decDigits i.val).length ≤ 100 := by decide +kernel
        exact key ⟨j, by omega⟩
      obtain ⟨D, hD⟩ : ∃ D : ByteArray, (⟨(Lib.decDigits j).toArray⟩ : ByteArray) = D := ⟨_, rfl⟩
      have hDs : D.size ≤ 100 := by rw [← hD]; simpa [ByteArray.size] using hds
      have hDl : D.data.toList = Lib.decDigits j := by rw [← hD]
      have hkey : keyOf Tryz.prog 9 (.string (nm ++ D)) = some (.string (nm.data.toList ++ Lib.decDigits j)) := by
        rw [← hDl, ← Array.toList_append, ← ByteArray.data_append]
        exact keyOf_string_mk Tryz.underlying9 (by unfold maxLen; rw [ByteArray.size_append]; omega)
      rw [hD] at HI
      have HK := hideIt hkey
      have hsz : nm.size + D.size ≤ 2000 := by omega
      clear hD hDl hkey hds
      go_wp2_with fail
      refine (HI.out _).mono ?_
      rintro e w1 ⟨rfl, rfl⟩
      go_wp2_with (at_mapUpdate; refine wpList_store _ rfl _ _ _ 244 rfl 9 324 strK Tryz.underlying244 fb n' _ rfl HM.out (by unfold maxLen; omega) _ (fixV (k, j)) _ rfl rfl HK.out ?_; intro w2 hM2 hg2)
      go_roundw
      case rel => exact ⟨j + 1, by omega, by go_num, ⟨_, by have := putN_le n' (numF f nm.data.toList k j (nm.data.toList ++ Lib.decDigits j)); omega, hM2⟩, grown_twoB HG.out hg2⟩
      case measure => simp [intOf]; omega
    · have hji : ¬ (j : Int) < (cnt : Int) := by omega
      have ej : j = cnt := by omega
      subst ej
      go_wp2
      go_end0
      exact ⟨rfl, ⟨n', hn', HM.out⟩, HG.out⟩
/-- By which name of a kind a fixed operand came in. -/
def ownL (x : List UInt8 × Nat × Nat) : List UInt8 := if x.2.1 = 7 then [64, 82] else if x.2.1 = 8 then [82] else x.1
/-- What is laid in when of the kinds' names these are left. -/
def fixAt (left : Lit → Bool) (l : List UInt8) : Option Value := match fixL.find? (fun x => x.1 == l) with
  | some x => if left (.string (ownL x)) then none else some (fixV x.2)
  | none => none
/-- What one name more brings. -/
def stepF (l : List UInt8) (f : List UInt8 → Option Value) (l' : List UInt8) : Option Value := match fixL.find? (fun x => x.1 == l') with
  | some x => if ownL x = l then some (fixV x.2) else f l'
  | none => none
theorem fixAt_step (left : Lit → Bool) (l l' : List UInt8) : fixAt (fun z => left z && !z.sameKey (.string l)) l' = stepF l (fixAt left) l' := by
  unfold stepF
  cases h : fixL.find? (fun x => x.1 == l') with
  | none =>
    unfold fixAt
    rw [h]
  | some x =>
    unfold fixAt
    rw [h]
    by_cases e : ownL x = l
    · subst e
      have : Lit.sameKey (.string (ownL x)) (.string (ownL x)) = true := WideAt.sameKey_self trivial
      simp [this]
    · have : Lit.sameKey (.string (ownL x)) (.string l) = false := by
        cases hs : Lit.sameKey (.string (ownL x)) (.string l) with
        | false => rfl
        | true => exact absurd (by simpa [Lit.sameKey] using hs) e
      simp [this, e]
theorem fixAt_none (left : Lit → Bool) (l : List UInt8) (h : fixL.find? (fun x => x.1 == l) = none) : fixAt left l = none := by
  unfold fixAt
  rw [h]
theorem fixAt_end (left : Lit → Bool) (h : ∀ z, left z = false) (l : List UInt8) : fixAt left l = (fixO l).map fixV := by
  unfold fixAt fixO
  cases fixL.find? (fun x => x.1 == l) with
  | none => rfl
  | some x => simp [h]
theorem owners_in : ∀ x ∈ fixL, Maps.has kindsD (.string (ownL x)) = true := by decide +kernel
theorem fixAt_start (l : List UInt8) : fixAt (Maps.has kindsD) l = none := by
  unfold fixAt
  cases h : fixL.find? (fun x => x.1 == l) with
  | none => rfl
  | some x => simp [owners_in x (List.mem_of_find?_eq_some h)]
/-- Which entry of the kinds it is. -/
theorem isMap_foldK : ∀ (L : List (List UInt8 × Nat)) (D : DataW Unit), IsMap D → IsMap (L.foldl (fun D kv => D.put (.string kv.1) (.lit (.int .i64 kv.2))) D)
  | [], _, h => h
  | kv :: L, D, h => isMap_foldK L _ (by obtain ⟨es, rfl⟩ := h; exact ⟨_, rfl⟩)
theorem at_foldK (l : List UInt8) (z : DataW Unit) : ∀ (L : List (List UInt8 × Nat)) (D : DataW Unit), IsMap D → (L.foldl (fun D kv => D.put (.string kv.1) (.lit (.int .i64 kv.2))) D).atKey (.string l) z = D.atKey (.string l) z ∨ ∃ kv ∈ L, kv.1 = l ∧ (L.foldl (fun D kv => D.put (.string kv.1) (.lit (.int .i64 kv.2))) D).atKey (.string l) z = .lit (.int .i64 kv.2)
  | [], _, _ => .inl rfl
  | kv :: L, D, h => by
    have hM : IsMap (D.put (.string kv.1) (.lit (.int .i64 kv.2))) := by obtain ⟨es, rfl⟩ := h; exact ⟨_, rfl⟩
    rcases at_foldK l z L _ hM with e | ⟨x, hx, e1, e2⟩
    · by_cases hl : kv.1 = l
      · right
        refine ⟨kv, by simp, hl, ?_⟩
        show (L.foldl _ (D.put (.string kv.1) (.lit (.int .i64 kv.2)))).atKey (.string l) z = _
        rw [e, ← hl, atKey_put_same h (k := .string kv.1) trivial]
      · left
        show (L.foldl _ (D.put (.string kv.1) (.lit (.int .i64 kv.2)))).atKey (.string l) z = _
        rw [e, atKey_put_other (by simpa using fun e => hl e.symm)]
    · exact .inr ⟨x, by simp [hx], e1, e2⟩
theorem kinds_entry {l : List UInt8} {c : Int} (h : ∀ zd, kindsD.atKey (.string l) zd = .lit (.int .i64 c)) : ∃ kv ∈ kindsL, kv.1 = l ∧ (kv.2 : Int) = c := by
  rcases at_foldK l .nil kindsL (.map []) isMap_empty with e | ⟨kv, h1, h2, h3⟩
  · have h0 := h .nil
    have e' : kindsD.atKey (.string l) .nil = .nil := e
    rw [e'] at h0
    cases h0
  · have h0 := h .nil
    have e' : kindsD.atKey (.string l) .nil = .lit (.int .i64 kv.2) := h3
    rw [e'] at h0
    injection h0 with h0
    injection h0 with _ h0
    exact ⟨kv, h1, h2, h0⟩
end Go.Proofs.YthokdbcpkmcieaaGreatDoor
namespace Go.Proofs.YthokdbcpkmcieaaGreatDoor
open Go Go.RowKit Go.Maps Go.WideMaps
theorem fstep_none (l : List UInt8) (hl : ∀ x ∈ fixL, ownL x ≠ l) (f : List UInt8 → Option Value) (hf : ∀ l', fixL.find? (fun x => x.1 == l') = none → f l' = none) (l' : List UInt8) : stepF l f l' = f l' := by
  unfold stepF
  cases h : fixL.find? (fun x => x.1 == l') with
  | none => exact (hf l' h).symm
  | some x => exact if_neg (hl x (List.mem_of_find?_eq_some h))
theorem fstep_one (l : List UInt8) (c : Nat) (h1 : ∀ x ∈ fixL, ownL x = l → x.1 = l ∧ x.2 = (c, 0)) (h2 : ∀ x ∈ fixL, x.1 = l → ownL x = l) (h3 : fixL.find? (fun x => x.1 == l) ≠ none) (f : List UInt8 → Option Value) (hf : ∀ l', fixL.find? (fun x => x.1 == l') = none → f l' = none) (l' : List UInt8) : stepF l f l' = putF f l (fixV (c, 0)) l' := by
  unfold stepF putF
  cases h : fixL.find? (fun x => x.1 == l') with
  | none =>
    rw [if_neg (fun e => h3 (by rw [← e]; exact h))]
    exact (hf l' h).symm
  | some x =>
    have hm := List.mem_of_find?_eq_some h
    have he : x.1 = l' := by simpa using List.find?_some h
    by_cases e : ownL x = l
    · obtain ⟨a, b⟩ := h1 x hm e
      show (if ownL x = l then some (fixV x.2) else f l') = _
      rw [if_pos e, b, if_pos (he.symm.trans a)]
    · show (if ownL x = l then some (fixV x.2) else f l') = _
      rw [if_neg e, if_neg (fun e2 => e (h2 x hm (he.trans e2)))]
theorem numF_is (f : List UInt8 → Option Value) (nm : List UInt8) (k : Nat) (l' : List UInt8) : ∀ n, (∃ i, i < n ∧ l' = nm ++ Lib.decDigits i ∧ (∀ j, j < n → i < j → l' ≠ nm ++ Lib.decDigits j) ∧ numF f nm k n l' = some (fixV (k, i))) ∨ ((∀ i, i < n → l' ≠ nm ++ Lib.decDigits i) ∧ numF f nm k n l' = f l')
  | 0 => .inr ⟨fun i hi => absurd hi (Nat.not_lt_zero _), rfl⟩
  | n + 1 => by
    by_cases e : l' = nm ++ Lib.decDigits n
    · refine .inl ⟨n, Nat.lt_succ_self _, e, fun j h1 h2 => by omega, ?_⟩
      show (if l' = nm ++ Lib.decDigits n then _ else _) = _
      rw [if_pos e]
    · have hn : numF f nm k (n + 1) l' = numF f nm k n l' := if_neg e
      rcases numF_is f nm k l' n with ⟨i, h1, h2, h3, h4⟩ | ⟨h1, h2⟩
      · refine .inl ⟨i, by omega, h2, fun j hj hij => ?_, hn.trans h4⟩
        by_cases ej : j = n
        · rw [ej]; exact e
        · exact h3 j (by omega) hij
      · refine .inr ⟨fun i hi => ?_, hn.trans h2⟩
        by_cases ei : i = n
        · rw [ei]; exact e
        · exact h1 i (by omega)
theorem fstep_num (l : List UInt8) (k n : Nat) (h1 : ∀ i, i < n → (fixL.find? (fun x => x.1 == l ++ Lib.decDigits i)) = some (l ++ Lib.decDigits i, k, i)) (h2 : ∀ i, i < n → ownL (l ++ Lib.decDigits i, k, i) = l) (h3 : ∀ x ∈ fixL, ownL x = l → ∃ i, i < n ∧ x.1 = l ++ Lib.decDigits i) (f : List UInt8 → Option Value) (hf : ∀ l', fixL.find? (fun x => x.1 == l') = none → f l' = none) (l' : List UInt8) : stepF l f l' = numF f l k n l' := by
  rcases numF_is f l k l' n with ⟨i, hi, e1, _, e2⟩ | ⟨e1, e2⟩
  · rw [e2]
    unfold stepF
    rw [e1, h1 i hi]
    simp [h2 i hi]
  · rw [e2]
    unfold stepF
    cases h : fixL.find? (fun x => x.1 == l') with
    | none => exact (hf l' h).symm
    | some x =>
      have he : x.1 = l' := by simpa using List.find?_some h
      refine if_neg (fun e => ?_)
      obtain ⟨i, hi, e3⟩ := h3 x (List.mem_of_find?_eq_some h) e
      exact e1 i hi (he.symm.trans e3)
/-- What one name more brings, in what the program does. -/
def doneF (kv : List UInt8 × Nat) (f : List UInt8 → Option Value) : List UInt8 → Option Value :=
  if kv.2 ≤ 6 then putF f kv.1 (fixV (kv.2, 0)) else if kv.2 = 7 then numF f kv.1 7 2 else if kv.2 = 8 then numF f kv.1 8 8 else f
set_option maxRecDepth 100000 in
theorem done_ones : ∀ kv ∈ kindsL, kv.2 ≤ 6 → (∀ x ∈ fixL, ownL x = kv.1 → x.1 = kv.1 ∧ x.2 = (kv.2, 0)) ∧ (∀ x ∈ fixL, x.1 = kv.1 → ownL x = kv.1) ∧ fixL.find? (fun x => x.1 == kv.1) ≠ none := by decide +kernel
set_option maxRecDepth 100000 in
theorem done_nones : ∀ kv ∈ kindsL, 9 ≤ kv.2 → ∀ x ∈ fixL, ownL x ≠ kv.1 := by decide +kernel
theorem done_7 : ∀ kv ∈ kindsL, kv.2 = 7 → kv.1 = [64, 82] := by decide +kernel
theorem done_8 : ∀ kv ∈ kindsL, kv.2 = 8 → kv.1 = [82] := by decide +kernel
theorem done_is (kv : List UInt8 × Nat) (hm : kv ∈ kindsL) (f : List UInt8 → Option Value) (hf : ∀ l', fixL.find? (fun x => x.1 == l') = none → f l' = none) (l' : List UInt8) : doneF kv f l' = stepF kv.1 f l' := by
  unfold doneF
  by_cases h6 : kv.2 ≤ 6
  · obtain ⟨a, b, c⟩ := done_ones kv hm h6
    rw [if_pos h6, fstep_one kv.1 kv.2 a b c f hf]
  · rw [if_neg h6]
    by_cases h7 : kv.2 = 7
    · rw [if_pos h7, done_7 kv hm h7]
      refine (fstep_num [64, 82] 7 2 ?_ ?_ ?_ f hf l').symm
      · decide +kernel
      · decide +kernel
      · decide +kernel
    · rw [if_neg h7]
      by_cases h8 : kv.2 = 8
      · rw [if_pos h8, done_8 kv hm h8]
        refine (fstep_num [82] 8 8 ?_ ?_ ?_ f hf l').symm
        · decide +kernel
        · decide +kernel
        · decide +kernel
      · rw [if_neg h8, fstep_none kv.1 (done_nones kv hm (by omega)) f hf]
end Go.Proofs.YthokdbcpkmcieaaGreatDoor
