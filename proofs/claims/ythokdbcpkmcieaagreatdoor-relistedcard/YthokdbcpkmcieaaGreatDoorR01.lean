/- asmF by lists: the lines, what is read, what is filled. Scanning a text that is told piece by piece. Walks of the program's hex at two and four digits. Operands by their kinds: texts, sizes, places; bytes of a text as numbers. Walks of the ways in which an operand is written. -/
import Derived.Test.YthokdbcpkmcieaaGreatDoorA38
import Derived.Test.YthokdbcpkmcieaaGreatDoorA15
import Derived.Test.YthokdbcpkmcieaaGreatDoorRows
import Derived.Test.YthokdbcpkmcieaaGreatDoorA01
import Derived.WalkKit
import Derived.WalkSpells
import Derived.WalkLawsBesides
import Derived.Laws.BytesArg
import Derived.Test.YthokdbcpkmcieaaGreatDoorShelf
import Derived.OpenShut
import Derived.BigQuiet
import Derived.Deep.QuietTactic
namespace Go.Proofs.YthokdbcpkmcieaaGreatDoor
open Go Go.RowKit Go.Shelf Go.WideMaps Go.Maps
def NL : ByteArray := ⟨#[10]⟩
def NoNL (t : ByteArray) : Prop := (10 : UInt8) ∉ t.data.toList
theorem app_list (a b : ByteArray) : (a ++ b).data.toList = a.data.toList ++ b.data.toList := by
  rw [ByteArray.data_append, Array.toList_append]
theorem index_nl {t : List UInt8} (h : (10 : UInt8) ∉ t) (r : List UInt8) : Lib.index (t ++ 10 :: r) [10] = t.length := by
  refine Lib.index_first (by simp) ?_ (fun j hj => ?_)
  · unfold Lib.occAt
    rw [List.drop_left]
    simp [List.isPrefixOf]
  · unfold Lib.occAt
    rw [List.drop_append_of_le_length (by omega), List.drop_eq_getElem_cons hj]
    have hn : ¬ (10 : UInt8) = t[j] := fun e => h (e ▸ List.getElem_mem hj)
    rw [List.cons_append]
    show ((10 : UInt8) == t[j] && _) = false
    rw [beq_eq_false_iff_ne.2 hn]
    rfl
theorem index_no {t : List UInt8} (h : (10 : UInt8) ∉ t) : Lib.index t [10] = -1 := by
  refine Lib.index_none (fun j hj => ?_)
  unfold Lib.occAt
  by_cases hl : j < t.length
  · rw [List.drop_eq_getElem_cons hl]
    have hn : ¬ (10 : UInt8) = t[j] := fun e => h (e ▸ List.getElem_mem hl)
    simp [List.isPrefixOf, hn]
  · rw [List.drop_of_length_le (by omega)]
    rfl
theorem linesF_last {t : ByteArray} (h : NoNL t) : linesF t = [t] := by
  unfold linesF
  exact Lib.splitB_miss _ _ _ _ (index_no h)
theorem linesF_cons {t : ByteArray} (h : NoNL t) (r : ByteArray) : linesF (t ++ (NL ++ r)) = t :: linesF r := by
  have hi : Lib.indexB (t ++ (NL ++ r)) ⟨#[10]⟩ = (t.size : Nat) := by
    show Lib.index (t ++ (NL ++ r)).data.toList [10] = _
    rw [app_list, app_list]
    have := index_nl h r.data.toList
    rw [Array.length_toList] at this
    exact this
  have e2 : (t ++ (NL ++ r)).extract (t.size + 1) (t ++ (NL ++ r)).size = r := by
    rw [← ByteArray.append_assoc]
    exact ByteArray.extract_append_eq_right (by rw [ByteArray.size_append]; rfl) ByteArray.size_append
  have e1 : (t ++ (NL ++ r)).extract 0 (t.size + 0) = t := ByteArray.extract_append_eq_left (by simp)
  unfold linesF
  have hc := Lib.countB_hit (t ++ (NL ++ r)) ⟨#[10]⟩ t.size (by decide) hi
  rw [show (⟨#[10]⟩ : ByteArray).size = 1 from rfl, e2] at hc
  rw [hc, Nat.add_comm, Lib.splitB_hit _ _ _ _ _ hi, e1, show (⟨#[10]⟩ : ByteArray).size = 1 from rfl, e2]
/-- Reading line by line. -/
def rdL : Nat → Asm → List ByteArray → Except (Int × Nat) (List St × Asm)
  | _, a, [] => .ok ([], a)
  | i, a, t :: l => match parseL t with
    | none => .error (2, i + 1)
    | some q => match settleF a q.1 q.2 with
      | .error k => .error (k, i + 1)
      | .ok b => match rdL (i + 1) b l with
        | .error e => .error e
        | .ok r => .ok (⟨i + 1, a.pl, q.1, q.2⟩ :: r.1, r.2)
def joinR (s : List St) : Except (Int × Nat) (List St × Asm) → Except (Int × Nat) (List St × Asm)
  | .error e => .error e
  | .ok r => .ok (s ++ r.1, r.2)
theorem rdTo_rdL (a0 : Asm) : ∀ (l pre : List ByteArray) (s : List St) (a : Asm), rdTo (pre ++ l) a0 pre.length = .ok (s, a) → rdTo (pre ++ l) a0 (pre ++ l).length = joinR s (rdL pre.length a l)
  | [], pre, s, a, h => by
    simp only [List.append_nil] at h ⊢
    rw [h]
    simp [rdL, joinR]
  | t :: l, pre, s, a, h => by
    have hg : (pre ++ t :: l).getD pre.length ⟨#[]⟩ = t := by
      rw [List.getD_eq_getElem?_getD, List.getElem?_append_right (Nat.le_refl _), Nat.sub_self]
      rfl
    have hlen : pre.length + 1 ≤ (pre ++ t :: l).length := by simp
    cases hp : parseL t with
    | none =>
      rw [rdTo_whole (rdTo_none h (by rw [hg]; exact hp)) hlen]
      simp only [rdL, hp, joinR]
    | some q =>
      cases hs : settleF a q.1 q.2 with
      | error k =>
        rw [rdTo_whole (rdTo_bad h (by rw [hg]; exact hp) hs) hlen]
        simp only [rdL, hp, hs, joinR]
      | ok b =>
        have h1 := rdTo_next h (by rw [hg]; exact hp) hs
        have e : pre ++ t :: l = (pre ++ [t]) ++ l := by simp
        have hl1 : (pre ++ [t]).length = pre.length + 1 := by simp
        rw [e, ← hl1] at h1
        have ih := rdTo_rdL a0 l (pre ++ [t]) _ _ h1
        rw [e, ih, hl1]
        simp only [rdL, hp, hs]
        cases rdL (pre.length + 1) b l with
        | error e => rfl
        | ok r => simp [joinR]
/-- Filling statement by statement. -/
def flL : Asm → List St → Except (Int × Nat) Asm
  | a, [] => .ok a
  | a, st :: l => match fillF a st.pl st.x with
    | .error k => .error (k, st.line)
    | .ok b => flL b l
theorem fillTo2_flL (a0 : Asm) : ∀ (l pre : List St) (a : Asm), fillTo2 a0 (pre ++ l) pre.length = .ok a → fillTo2 a0 (pre ++ l) (pre ++ l).length = flL a l
  | [], pre, a, h => by
    simp only [List.append_nil] at h ⊢
    rw [h]
    rfl
  | st :: l, pre, a, h => by
    have hg : (pre ++ st :: l)[pre.length]? = some st := by
      rw [List.getElem?_append_right (Nat.le_refl _), Nat.sub_self]
      rfl
    cases hs : fillF a st.pl st.x with
    | error k =>
      have h1 : fillTo2 a0 (pre ++ st :: l) (pre.length + 1) = .error (k, st.line) := by simp only [fillTo2, h, hg, hs]
      rw [fillTo2_whole h1 (by simp)]
      simp only [flL, hs]
    | ok b =>
      have h1 : fillTo2 a0 (pre ++ st :: l) (pre.length + 1) = .ok b := by simp only [fillTo2, h, hg, hs]
      have e : pre ++ st :: l = (pre ++ [st]) ++ l := by simp
      have hl1 : (pre ++ [st]).length = pre.length + 1 := by simp
      rw [e, ← hl1] at h1
      have ih := fillTo2_flL a0 l (pre ++ [st]) _ h1
      rw [e, ih]
      simp only [flL, hs]
/-- asmF by lists. -/
def asmL (ls : List ByteArray) : Except (Int × Nat) Asm := match rdL 0 asm0 ls with
  | .error e => .error e
  | .ok r => flL r.2 r.1
theorem asmF_asmL {src : ByteArray} (h : src.size ≤ 2000) : asmF src = asmL (linesF src) := by
  unfold asmF asmL
  rw [if_neg (by omega)]
  have h1 := rdTo_rdL asm0 (linesF src) [] [] asm0 rfl
  simp only [List.nil_append, List.length_nil] at h1
  rw [h1]
  cases rdL 0 asm0 (linesF src) with
  | error e => rfl
  | ok r =>
    have h2 := fillTo2_flL r.2 r.1 [] r.2 rfl
    simp only [List.nil_append] at h2
    show fillTo2 r.2 ([] ++ r.1) ([] ++ r.1).length = _
    rw [List.nil_append]
    exact h2
end Go.Proofs.YthokdbcpkmcieaaGreatDoor
namespace Go.Proofs.YthokdbcpkmcieaaGreatDoor
open Go Go.RowKit
/-- Are these the pieces of a text? -/
def pcOk : List (List UInt8) → Bool
  | [] => true
  | p :: l => ((!p.isEmpty && p.all isW && (match l with
    | [] => true
    | q :: _ => !(isW (q.headD 0)) && !q.isEmpty)) || (decide (p.length = 1) && !(isW (p.headD 0)))) && pcOk l
/-- Their tokens. -/
def toksP : List (List UInt8) → Option (List Tok)
  | [] => some []
  | p :: l => (pieceK (p.headD 0) ⟨p.toArray⟩).bind fun o => (toksP l).map (optL o ++ ·)
theorem takeWhile_word {p r : List UInt8} (hp : p.all isW = true) (hr : ∀ c, r.head? = some c → isW c = false) : (p ++ r).takeWhile isW = p := by
  rw [List.takeWhile_append_of_pos (fun a ha => List.all_eq_true.1 hp a ha)]
  cases r with
  | nil => simp
  | cons c r =>
    have := hr c rfl
    rw [List.takeWhile_cons, this]
    simp
theorem ext_left (p r : List UInt8) : (⟨(p ++ r).toArray⟩ : ByteArray).extract 0 p.length = ⟨p.toArray⟩ := by
  apply ByteArray.ext
  apply Array.ext'
  rw [Lib.extract_data]
  simp
theorem ext_right (p r : List UInt8) : (⟨(p ++ r).toArray⟩ : ByteArray).extract p.length (⟨(p ++ r).toArray⟩ : ByteArray).size = ⟨r.toArray⟩ := by
  apply ByteArray.ext
  apply Array.ext'
  rw [Lib.extract_data]
  have : (⟨(p ++ r).toArray⟩ : ByteArray).size = p.length + r.length := by
    show (p ++ r).toArray.size = _
    simp
  rw [this]
  simp
theorem scan_piece (f : Nat) (p r : List UInt8) (hp : p ≠ []) (hn : max (runN (p ++ r)) 1 = p.length) : scanF (f + 1) ⟨(p ++ r).toArray⟩ = (pieceK (p.headD 0) ⟨p.toArray⟩).bind fun o => (scanF f ⟨r.toArray⟩).map (optL o ++ ·) := by
  obtain ⟨c, q, rfl⟩ : ∃ c q, p = c :: q := by
    cases p with
    | nil => exact absurd rfl hp
    | cons c q => exact ⟨c, q, rfl⟩
  have hs : 0 < (⟨((c :: q) ++ r).toArray⟩ : ByteArray).size := by
    show 0 < ((c :: q) ++ r).toArray.size
    simp
  have hpn : pieceN ⟨((c :: q) ++ r).toArray⟩ = (c :: q).length := hn
  rw [scanF, dif_pos hs]
  unfold pieceT pieceR
  rw [hpn, ext_left, ext_right]
  rfl
theorem scan_pieces : ∀ (ps : List (List UInt8)) (f : Nat), pcOk ps = true → ps.length ≤ f → scanF f ⟨ps.flatten.toArray⟩ = toksP ps
  | [], f, _, _ => scanF_nil f _ rfl
  | p :: l, 0, _, h => by simp at h
  | p :: l, f + 1, hok, h => by
    have ih := scan_pieces l f
    simp only [pcOk, Bool.and_eq_true, Bool.or_eq_true, decide_eq_true_eq, Bool.not_eq_true'] at hok
    obtain ⟨h1, h2⟩ := hok
    have ih := ih h2 (by simpa using h)
    rw [List.flatten_cons]
    have key : p ≠ [] ∧ max (runN (p ++ l.flatten)) 1 = p.length := by
      rcases h1 with ⟨⟨a1, a2⟩, a3⟩ | ⟨a1, a2⟩
      · have hne : p ≠ [] := by intro e; rw [e] at a1; simp at a1
        refine ⟨hne, ?_⟩
        unfold runN
        rw [takeWhile_word a2 (fun c hc => ?_)]
        · have : 0 < p.length := List.length_pos_iff.2 hne
          omega
        · cases l with
          | nil => simp at hc
          | cons q l =>
            simp only [Bool.and_eq_true, Bool.not_eq_true'] at a3
            cases q with
            | nil => simp at a3
            | cons d q =>
              simp at hc
              rw [← hc]
              exact a3.1
      · obtain ⟨c, rfl⟩ := List.length_eq_one_iff.1 a1
        refine ⟨by simp, ?_⟩
        have e : isW c = false := a2
        simp [runN, e]
    rw [scan_piece f p l.flatten key.1 key.2, ih]
    rfl
theorem toksP_append : ∀ (l k : List (List UInt8)), toksP (l ++ k) = (toksP l).bind fun a => (toksP k).map (a ++ ·)
  | [], k => by simp [toksP]
  | p :: l, k => by
    rw [List.cons_append]
    simp only [toksP, toksP_append l k]
    cases pieceK (p.headD 0) ⟨p.toArray⟩ with
    | none => rfl
    | some o =>
      cases toksP l with
      | none => rfl
      | some a =>
        cases toksP k with
        | none => rfl
        | some b => simp
/-- Pieces joined by a sign or a blank stay pieces. -/
theorem pcOk_append : ∀ (l k : List (List UInt8)), pcOk l = true → pcOk k = true → (∀ q, k.head? = some q → isW (q.headD 0) = false ∧ q ≠ []) → pcOk (l ++ k) = true
  | [], k, _, hk, _ => hk
  | [p], k, hl, hk, hh => by
    simp only [pcOk, Bool.and_eq_true, Bool.or_eq_true, decide_eq_true_eq, Bool.not_eq_true', and_true] at hl
    rw [List.cons_append, List.nil_append]
    simp only [pcOk, Bool.and_eq_true, Bool.or_eq_true, decide_eq_true_eq, Bool.not_eq_true']
    refine ⟨?_, hk⟩
    rcases hl with a | a
    · refine .inl ⟨a, ?_⟩
      cases k with
      | nil => rfl
      | cons q k =>
        have := hh q rfl
        have e : q.isEmpty = false := by simpa using this.2
        show (!(isW (q.headD 0)) && !q.isEmpty) = true
        rw [this.1, e]
        rfl
    · exact .inr a
  | p :: q :: l, k, hl, hk, hh => by
    have e : (p :: q :: l) ++ k = p :: ((q :: l) ++ k) := rfl
    rw [e]
    have hl' := Bool.and_eq_true_iff.1 hl
    have ih := pcOk_append (q :: l) k hl'.2 hk hh
    exact Bool.and_eq_true_iff.2 ⟨hl'.1, ih⟩
theorem pc_sign {c : UInt8} {l : List (List UInt8)} (h : isW c = false) (hl : pcOk l = true) : pcOk ([c] :: l) = true := by
  refine Bool.and_eq_true_iff.2 ⟨Bool.or_eq_true_iff.2 (.inr ?_), hl⟩
  show (decide (1 = 1) && !(isW c)) = true
  rw [h]
  rfl
theorem pc_word {p : List UInt8} {c : UInt8} {l : List (List UInt8)} (hp : p ≠ []) (hw : p.all isW = true) (hc : isW c = false) (hl : pcOk ([c] :: l) = true) : pcOk (p :: [c] :: l) = true := by
  refine Bool.and_eq_true_iff.2 ⟨Bool.or_eq_true_iff.2 (.inl ?_), hl⟩
  have e : p.isEmpty = false := by simpa using hp
  show (!p.isEmpty && p.all isW && (!(isW c) && ![c].isEmpty)) = true
  rw [e, hw, hc]
  rfl
end Go.Proofs.YthokdbcpkmcieaaGreatDoor
namespace Go.Proofs.YthokdbcpkmcieaaGreatDoor
open Go.RowKit
/-- The hexadecimal digit of a number's last four bits. -/
def hd (n : Int) : UInt8 := (#[48, 49, 50, 51, 52, 53, 54, 55, 56, 57, 65, 66, 67, 68, 69, 70] : Array UInt8).getD (n % 16).toNat 0
theorem div_next (n : Int) (hn : 0 ≤ n) (hn' : n ≤ 65535) : IntKind.u16.wrap (n.tdiv 16) = n / 16 := by
  rw [Int.tdiv_eq_ediv_of_nonneg hn]
  unfold IntKind.wrap
  simp [IntKind.bits]
  omega
theorem next_is (n m : Int) (hn : 0 ≤ n) (hn' : n ≤ 65535) (e : IntKind.u16.wrap (n.tdiv 16) = m) : m = n / 16 := by rw [← e, div_next n hn hn']
theorem hd_get (n : Int) (h : (n % 16).toNat < (ByteArray.mk #[48, 49, 50, 51, 52, 53, 54, 55, 56, 57, 65, 66, 67, 68, 69, 70]).size) : (ByteArray.mk #[48, 49, 50, 51, 52, 53, 54, 55, 56, 57, 65, 66, 67, 68, 69, 70])[(n % 16).toNat] = hd n := by
  unfold hd
  have h' : (n % 16).toNat < (#[48, 49, 50, 51, 52, 53, 54, 55, 56, 57, 65, 66, 67, 68, 69, 70] : Array UInt8).size := h
  rw [Array.getD_eq_getD_getElem?, Array.getElem?_eq_getElem h']
  rfl
theorem ret_str {a b : ByteArray} (h : a = b) : Ending.returned (.string a) = .returned (.string b) := by rw [h]
theorem ba_append (a b : Array UInt8) : ByteArray.mk a ++ ByteArray.mk b = ByteArray.mk (a ++ b) := by
  apply ByteArray.ext
  exact ByteArray.data_append
theorem text2 (x y : UInt8) : strOfNums [(x.toNat : Int), (y.toNat : Int)] = ⟨#[x, y]⟩ := by
  rw [strOfNums]
  simp
theorem text4 (x y z u : UInt8) : strOfNums [(x.toNat : Int), (y.toNat : Int), (z.toNat : Int), (u.toNat : Int)] = ⟨#[x, y, z, u]⟩ := by
  rw [strOfNums]
  simp
theorem conv2 (x y : Int) (w : World) : (convert 32 9 (.slice (some ⟨w.heap.size, 0, none⟩) 2 2)).run Tryz.prog (w.alloc (.cells #[.int .u8 x, .int .u8 y] 5)) = .ok (.string (strOfNums [x, y])) (w.alloc (.cells #[.int .u8 x, .int .u8 y] 5)) :=
  run_convert_bytes_arg (P := Tryz.prog) _ 32 5 Tryz.underlying32 Tryz.underlying5 w.heap.size 0 2 2 [x, y] rfl (fun i hi => by
    match i, hi with
    | 0, _ => simp
    | 1, _ => simp) 9 Tryz.underlying9
theorem conv4 (x y z u : Int) (w : World) : (convert 32 9 (.slice (some ⟨w.heap.size, 0, none⟩) 4 4)).run Tryz.prog (w.alloc (.cells #[.int .u8 x, .int .u8 y, .int .u8 z, .int .u8 u] 5)) = .ok (.string (strOfNums [x, y, z, u])) (w.alloc (.cells #[.int .u8 x, .int .u8 y, .int .u8 z, .int .u8 u] 5)) :=
  run_convert_bytes_arg (P := Tryz.prog) _ 32 5 Tryz.underlying32 Tryz.underlying5 w.heap.size 0 4 4 [x, y, z, u] rfl (fun i hi => by
    match i, hi with
    | 0, _ => simp
    | 1, _ => simp
    | 2, _ => simp
    | 3, _ => simp) 9 Tryz.underlying9
set_option maxRecDepth 100000 in
set_option maxHeartbeats 1000000 in
theorem hex2_any (n : Int) (hn : 0 ≤ n) (hn' : n ≤ 65535) (w : World) :
    Calls Tryz.prog 112 #[.int .u16 n, .int .i64 2] w fun e w' => e = .returned (.string ⟨#[hd (n / 16), hd n]⟩) ∧ Below w.heap.size w w' := by
  have hmk : ∀ w, (Instr.makeSlice 32 (.int .i64 2) (.int .i64 2)).run Tryz.prog w = .ok (.slice (some ⟨w.heap.size, 0, none⟩) 2 2) (w.alloc (.cells #[.int .u8 0, .int .u8 0] 5)) := fun _ => by kernel_rfl
  obtain ⟨n1, e1, b1, c1⟩ : ∃ m, IntKind.u16.wrap (n.tdiv 16) = m ∧ 0 ≤ m ∧ m ≤ 65535 := ⟨_, rfl, by rw [div_next n hn hn']; omega, by rw [div_next n hn hn']; omega⟩
  obtain ⟨n2, e2, b2, c2⟩ : ∃ m, IntKind.u16.wrap (n1.tdiv 16) = m ∧ 0 ≤ m ∧ m ≤ 65535 := ⟨_, rfl, by rw [div_next n1 b1 c1]; omega, by rw [div_next n1 b1 c1]; omega⟩
  have hcv := conv2
  go_enter Tryz.func112, Tryz.ntmps112
  go_wp2
  refine wp_loop_rounds 3 ?_
  rw [rounds_succ]
  go_wp2
  rw [rounds_succ]
  go_wp2
  rw [rounds_succ]
  go_wp2
  go_ret
  refine ⟨ret_str ?_, (Below.refl _ _).alloc (Nat.le_refl _) _⟩
  rw [← next_is n n1 hn hn' e1]
  simp only [hd_get]
  exact text2 _ _
set_option maxRecDepth 100000 in
set_option maxHeartbeats 1000000 in
theorem hex4_any (n : Int) (hn : 0 ≤ n) (hn' : n ≤ 65535) (w : World) :
    Calls Tryz.prog 112 #[.int .u16 n, .int .i64 4] w fun e w' => e = .returned (.string ⟨#[hd (n / 4096), hd (n / 256), hd (n / 16), hd n]⟩) ∧ Below w.heap.size w w' := by
  have hmk : ∀ w, (Instr.makeSlice 32 (.int .i64 4) (.int .i64 4)).run Tryz.prog w = .ok (.slice (some ⟨w.heap.size, 0, none⟩) 4 4) (w.alloc (.cells #[.int .u8 0, .int .u8 0, .int .u8 0, .int .u8 0] 5)) := fun _ => by kernel_rfl
  obtain ⟨n1, e1, b1, c1⟩ : ∃ m, IntKind.u16.wrap (n.tdiv 16) = m ∧ 0 ≤ m ∧ m ≤ 65535 := ⟨_, rfl, by rw [div_next n hn hn']; omega, by rw [div_next n hn hn']; omega⟩
  obtain ⟨n2, e2, b2, c2⟩ : ∃ m, IntKind.u16.wrap (n1.tdiv 16) = m ∧ 0 ≤ m ∧ m ≤ 65535 := ⟨_, rfl, by rw [div_next n1 b1 c1]; omega, by rw [div_next n1 b1 c1]; omega⟩
  obtain ⟨n3, e3, b3, c3⟩ : ∃ m, IntKind.u16.wrap (n2.tdiv 16) = m ∧ 0 ≤ m ∧ m ≤ 65535 := ⟨_, rfl, by rw [div_next n2 b2 c2]; omega, by rw [div_next n2 b2 c2]; omega⟩
  obtain ⟨n4, e4, b4, c4⟩ : ∃ m, IntKind.u16.wrap (n3.tdiv 16) = m ∧ 0 ≤ m ∧ m ≤ 65535 := ⟨_, rfl, by rw [div_next n3 b3 c3]; omega, by rw [div_next n3 b3 c3]; omega⟩
  have hcv := conv4
  go_enter Tryz.func112, Tryz.ntmps112
  go_wp2
  refine wp_loop_rounds 5 ?_
  rw [rounds_succ]
  go_wp2
  rw [rounds_succ]
  go_wp2
  rw [rounds_succ]
  go_wp2
  rw [rounds_succ]
  go_wp2
  rw [rounds_succ]
  go_wp2
  go_ret
  refine ⟨ret_str ?_, (Below.refl _ _).alloc (Nat.le_refl _) _⟩
  have d1 := next_is n n1 hn hn' e1
  have d2 := next_is n1 n2 b1 c1 e2
  have d3 := next_is n2 n3 b2 c2 e3
  rw [show n / 4096 = n3 by omega, show n / 256 = n2 by omega, show n / 16 = n1 by omega]
  simp only [hd_get]
  exact text4 _ _ _ _
end Go.Proofs.YthokdbcpkmcieaaGreatDoor
namespace Go.Proofs.YthokdbcpkmcieaaGreatDoor
open Go Go.RowKit
/-- The texts of the operands, kind by kind. -/
def opText (k : Nat) : ByteArray := ([⟨#[65]⟩, ⟨#[65, 66]⟩, ⟨#[67]⟩, ⟨#[68, 80, 84, 82]⟩, ⟨#[64, 65, 43, 68, 80, 84, 82]⟩, ⟨#[64, 65, 43, 80, 67]⟩, ⟨#[64, 68, 80, 84, 82]⟩, ⟨#[64, 82]⟩, ⟨#[82]⟩, ⟨#[35, 98, 121, 116, 101]⟩, ⟨#[35, 119, 111, 114, 100]⟩, ⟨#[100, 105, 114]⟩, ⟨#[98, 105, 116]⟩, ⟨#[47, 98, 105, 116]⟩, ⟨#[97, 100, 100, 114]⟩, ⟨#[114, 101, 108]⟩, ⟨#[112, 97, 103, 101]⟩] : List ByteArray).getD k ⟨#[]⟩
/-- How many bytes an operand of this kind adds. -/
def opSize (k : Nat) : Nat := ([0, 0, 0, 0, 0, 0, 0, 0, 0, 1, 2, 1, 1, 1, 2, 1, 1] : List Nat).getD k 0
/-- A byte of a string, as a number. -/
def bAt (b : ByteArray) (i : Nat) : Int := ((b.data.getD i 0).toNat : Int)
theorem bAt_eq (b : ByteArray) (i : Nat) (h : i < b.size) : ((b[i]).toNat : Int) = bAt b i := by
  unfold bAt
  have h' : i < b.data.size := h
  rw [Array.getD_eq_getD_getElem?, Array.getElem?_eq_getElem h']
  rfl
theorem bAt_bd (b : ByteArray) (i : Nat) : 0 ≤ bAt b i ∧ bAt b i ≤ 255 := by
  unfold bAt
  have := (b.data.getD i 0).toNat_lt
  omega
/-- Four and two hexadecimal digits. -/
def h4 (x : Int) : List UInt8 := [hd (x / 4096), hd (x / 256), hd (x / 16), hd x]
def h2 (x : Int) : List UInt8 := [hd (x / 16), hd x]
/-- The texts of a list of kinds. -/
def textsOf (ks : List Nat) : List (List UInt8) := ks.map fun k => (opText k).data.toList
/-- The size of an instruction with these operands. -/
def sizeOf' (ks : List Nat) : Nat := 1 + (ks.map opSize).sum
theorem opSize_le (k : Nat) : opSize k ≤ 2 := by
  unfold opSize
  rw [List.getD_eq_getElem?_getD]
  cases h : ([0, 0, 0, 0, 0, 0, 0, 0, 0, 1, 2, 1, 1, 1, 2, 1, 1] : List Nat)[k]? with
  | none => simp
  | some x =>
    have key : ([0, 0, 0, 0, 0, 0, 0, 0, 0, 1, 2, 1, 1, 1, 2, 1, 1] : List Nat).all (fun x => decide (x ≤ 2)) = true := by decide
    have := List.all_eq_true.1 key x (List.mem_of_getElem? h)
    simpa using this
theorem sum_le (ks : List Nat) : (ks.map opSize).sum ≤ 2 * ks.length := by
  induction ks with
  | nil => simp
  | cons k ks ih => have := opSize_le k; simp only [List.map_cons, List.sum_cons, List.length_cons]; omega
theorem sum_snoc (ks : List Nat) (k : Nat) (h : k < ks.length) : ((ks.take (k + 1)).map opSize).sum = ((ks.take k).map opSize).sum + opSize (ks.getD k 0) := by
  rw [List.take_succ_eq_append_getElem h, List.map_append, List.sum_append, List.getD_eq_getElem?_getD, List.getElem?_eq_getElem h]
  simp
/-- Where an operand's bytes begin. -/
def posAt (ks : List Nat) (i : Nat) : Nat := 1 + ((ks.take i).map opSize).sum
theorem posAt_snoc (ks : List Nat) (i : Nat) (h : i < ks.length) : posAt ks (i + 1) = posAt ks i + opSize (ks.getD i 0) := by
  unfold posAt
  rw [sum_snoc ks i h]
  omega
theorem posAt_le (ks : List Nat) (i : Nat) (h : i < ks.length) : posAt ks i + opSize (ks.getD i 0) ≤ sizeOf' ks := by
  rw [← posAt_snoc ks i h]
  unfold posAt sizeOf'
  have : ((ks.take (i + 1)).map opSize).sum + ((ks.drop (i + 1)).map opSize).sum = (ks.map opSize).sum := by
    rw [← List.sum_append, ← List.map_append, List.take_append_drop]
  omega
end Go.Proofs.YthokdbcpkmcieaaGreatDoor
namespace Go.Proofs.YthokdbcpkmcieaaGreatDoor
open Go.RowKit
/-- An operand as a value. -/
abbrev opv (k : Int) (s : ByteArray) (b a h : Int) : Value := .agg #[.int .i64 k, .string s, .int .u8 b, .int .u16 a, .int .u16 h]
set_option maxHeartbeats 400000 in
theorem itself_any (k : Int) (s : ByteArray) (b a h : Int) (w : World) :
    Calls Tryz.prog 140 #[.agg #[.int .i64 k, .string s, .int .u8 b, .int .u16 a, .int .u16 h]] w fun e w' => e = .returned (.string s) ∧ Below w.heap.size w w' := by
  go_enter Tryz.func140, Tryz.ntmps140
  go_wp2
  go_ret
  exact ⟨rfl, (Below.refl _ _).alloc (Nat.le_refl _) _⟩
set_option maxHeartbeats 400000 in
theorem asByte_any (k : Int) (s : ByteArray) (b a h : Int) (w : World) (h0 : 0 ≤ a) (h1 : a ≤ 65535) :
    Calls Tryz.prog 150 #[.agg #[.int .i64 k, .string s, .int .u8 b, .int .u16 a, .int .u16 h]] w fun e w' => e = .returned (.string ⟨#[48, 120, hd (a / 16), hd a]⟩) ∧ Below w.heap.size w w' := by
  go_enter Tryz.func150, Tryz.ntmps150
  go_wp2_with (go_at_call 112; refine (hex2_any _ h0 h1 _).mono ?_; rintro e w1 ⟨rfl, hb⟩)
  go_ret
  exact ⟨ret_str (ba_append _ _), ((Below.refl _ _).alloc (Nat.le_refl _) _).trans (hb.mono (by simp))⟩
set_option maxHeartbeats 400000 in
theorem asWord_any (k : Int) (s : ByteArray) (b a h : Int) (w : World) (h0 : 0 ≤ a) (h1 : a ≤ 65535) :
    Calls Tryz.prog 153 #[.agg #[.int .i64 k, .string s, .int .u8 b, .int .u16 a, .int .u16 h]] w fun e w' => e = .returned (.string ⟨#[48, 120, hd (a / 4096), hd (a / 256), hd (a / 16), hd a]⟩) ∧ Below w.heap.size w w' := by
  go_enter Tryz.func153, Tryz.ntmps153
  go_wp2_with (go_at_call 112; refine (hex4_any _ h0 h1 _).mono ?_; rintro e w1 ⟨rfl, hb⟩)
  go_ret
  exact ⟨ret_str (ba_append _ _), ((Below.refl _ _).alloc (Nat.le_refl _) _).trans (hb.mono (by simp))⟩
set_option maxHeartbeats 400000 in
theorem byteBehindHash_any (k : Int) (s : ByteArray) (b a h : Int) (w : World) (h0 : 0 ≤ a) (h1 : a ≤ 65535) :
    Calls Tryz.prog 145 #[.agg #[.int .i64 k, .string s, .int .u8 b, .int .u16 a, .int .u16 h]] w fun e w' => e = .returned (.string ⟨#[35, 48, 120, hd (a / 16), hd a]⟩) ∧ Below w.heap.size w w' := by
  go_enter Tryz.func145, Tryz.ntmps145
  go_wp2_with (go_at_call 150; refine (asByte_any _ _ _ _ _ _ h0 h1).mono ?_; rintro e w1 ⟨rfl, hb⟩)
  go_ret
  exact ⟨ret_str (ba_append _ _), ((Below.refl _ _).alloc (Nat.le_refl _) _).trans (hb.mono (by simp))⟩
set_option maxHeartbeats 400000 in
theorem byteBehindSlash_any (k : Int) (s : ByteArray) (b a h : Int) (w : World) (h0 : 0 ≤ a) (h1 : a ≤ 65535) :
    Calls Tryz.prog 151 #[.agg #[.int .i64 k, .string s, .int .u8 b, .int .u16 a, .int .u16 h]] w fun e w' => e = .returned (.string ⟨#[47, 48, 120, hd (a / 16), hd a]⟩) ∧ Below w.heap.size w w' := by
  go_enter Tryz.func151, Tryz.ntmps151
  go_wp2_with (go_at_call 150; refine (asByte_any _ _ _ _ _ _ h0 h1).mono ?_; rintro e w1 ⟨rfl, hb⟩)
  go_ret
  exact ⟨ret_str (ba_append _ _), ((Below.refl _ _).alloc (Nat.le_refl _) _).trans (hb.mono (by simp))⟩
set_option maxHeartbeats 400000 in
theorem wordBehindHash_any (k : Int) (s : ByteArray) (b a h : Int) (w : World) (h0 : 0 ≤ a) (h1 : a ≤ 65535) :
    Calls Tryz.prog 148 #[.agg #[.int .i64 k, .string s, .int .u8 b, .int .u16 a, .int .u16 h]] w fun e w' => e = .returned (.string ⟨#[35, 48, 120, hd (a / 4096), hd (a / 256), hd (a / 16), hd a]⟩) ∧ Below w.heap.size w w' := by
  go_enter Tryz.func148, Tryz.ntmps148
  go_wp2_with (go_at_call 153; refine (asWord_any _ _ _ _ _ _ h0 h1).mono ?_; rintro e w1 ⟨rfl, hb⟩)
  go_ret
  exact ⟨ret_str (ba_append _ _), ((Below.refl _ _).alloc (Nat.le_refl _) _).trans (hb.mono (by simp))⟩
/-- The near place and the place in the page, as the program reckons them. -/
def nearN (h a : Int) : Int := IntKind.u16.wrap (h + IntKind.u16.wrap (IntKind.i8.wrap a))
def pageN (h b a : Int) : Int := bits BinOp.or IntKind.u16 (bits BinOp.or IntKind.u16 (bits BinOp.and IntKind.u16 h 63488) (IntKind.u16.wrap (IntKind.u16.wrap b * 8))) a
theorem wrap_u16_bd (x : Int) : 0 ≤ IntKind.u16.wrap x ∧ IntKind.u16.wrap x ≤ 65535 := bounds_u16 (wf_wrap _ _)
theorem nearN_bd (h a : Int) : 0 ≤ nearN h a ∧ nearN h a ≤ 65535 := wrap_u16_bd _
theorem pageN_bd (h b a : Int) : 0 ≤ pageN h b a ∧ pageN h b a ≤ 65535 := bounds_u16 (wf_bits _ _ _ _)
set_option maxHeartbeats 400000 in
theorem nearPlace_any (k : Int) (s : ByteArray) (b a h : Int) (w : World) :
    Calls Tryz.prog 155 #[.agg #[.int .i64 k, .string s, .int .u8 b, .int .u16 a, .int .u16 h]] w fun e w' => e = .returned (.string ⟨#[48, 120, hd (nearN h a / 4096), hd (nearN h a / 256), hd (nearN h a / 16), hd (nearN h a)]⟩) ∧ Below w.heap.size w w' := by
  have hb := nearN_bd h a
  have HX : Hid (IntKind.u16.wrap (h + IntKind.u16.wrap (IntKind.i8.wrap a)) = nearN h a) := rfl
  generalize nearN h a = x at *
  go_enter Tryz.func155, Tryz.ntmps155
  go_wp2_with fail
  rw [HX.out]
  refine (hex4_any x hb.1 hb.2 _).mono ?_
  rintro e w1 ⟨rfl, hb1⟩
  go_wp2
  go_ret
  exact ⟨ret_str (ba_append _ _), ((Below.refl _ _).alloc (Nat.le_refl _) _).trans (hb1.mono (by simp))⟩
set_option maxHeartbeats 400000 in
theorem placeInPage_any (k : Int) (s : ByteArray) (b a h : Int) (w : World) :
    Calls Tryz.prog 157 #[.agg #[.int .i64 k, .string s, .int .u8 b, .int .u16 a, .int .u16 h]] w fun e w' => e = .returned (.string ⟨#[48, 120, hd (pageN h b a / 4096), hd (pageN h b a / 256), hd (pageN h b a / 16), hd (pageN h b a)]⟩) ∧ Below w.heap.size w w' := by
  have hb := pageN_bd h b a
  have HX : Hid (bits BinOp.or IntKind.u16 (bits BinOp.or IntKind.u16 (bits BinOp.and IntKind.u16 h 63488) (IntKind.u16.wrap (IntKind.u16.wrap b * 8))) a = pageN h b a) := rfl
  generalize pageN h b a = x at *
  go_enter Tryz.func157, Tryz.ntmps157
  go_wp2_with fail
  rw [HX.out]
  refine (hex4_any x hb.1 hb.2 _).mono ?_
  rintro e w1 ⟨rfl, hb1⟩
  go_wp2
  go_ret
  exact ⟨ret_str (ba_append _ _), ((Below.refl _ _).alloc (Nat.le_refl _) _).trans (hb1.mono (by simp))⟩
theorem wrap_i64 (b : Int) (h0 : 0 ≤ b) (h1 : b < 1000000) : IntKind.i64.wrap b = b := wrap_small b h0 (by omega)
/-- A small number in decimal digits. -/
def itoaS (b : Int) : ByteArray := ⟨(Lib.decDigits b.toNat).toArray⟩
theorem itoaS_size (b : Int) (h0 : 0 ≤ b) (h1 : b < 100) : (itoaS b).size ≤ 100 := by
  have key : ∀ n : Fin 100, (Lib.decDigits n.val).length ≤ 100 := by decide +kernel
  have := key ⟨b.toNat, by omega⟩
  simpa [itoaS, ByteArray.size] using this
theorem itoa_w (b : Int) (h0 : 0 ≤ b) (h1 : b < 100) (w : World) :
    Calls Tryz.prog 193 #[.int .i64 (IntKind.i64.wrap b)] w fun e w' => e = .returned (.string (itoaS b)) ∧ w' = w := by
  rw [wrap_i64 b h0 (by omega)]
  obtain ⟨n, rfl⟩ := Int.eq_ofNat_of_zero_le h0
  exact Tryz.strconv_Itoa_small n (by omega) w
theorem itoa_int (b : Int) (h0 : 0 ≤ b) (h1 : b < 100) (w : World) :
    Calls Tryz.prog 193 #[.int .i64 b] w fun e w' => e = .returned (.string (itoaS b)) ∧ w' = w := by
  have h := itoa_w b h0 h1 w
  rw [wrap_i64 b h0 (by omega)] at h
  exact h
set_option maxHeartbeats 400000 in
theorem numbered_any (k : Int) (s : ByteArray) (b a h : Int) (w : World) (h0 : 0 ≤ b) (h1 : b < 100) (hs : s.size ≤ 1000) :
    Calls Tryz.prog 142 #[.agg #[.int .i64 k, .string s, .int .u8 b, .int .u16 a, .int .u16 h]] w fun e w' => e = .returned (.string (s ++ itoaS b)) ∧ Below w.heap.size w w' := by
  have hz := itoaS_size b h0 h1
  have hadd : ∀ w, (Op.stringOp .add s (itoaS b)).run Tryz.prog w = .ok (.string (s ++ itoaS b)) w := fun w => run_string_add_sum w _ _ (by omega)
  go_enter Tryz.func142, Tryz.ntmps142
  go_wp2
  go_quiet ((go_at_call 193; (first | exact Calls.quiet_of_same (itoa_int b h0 h1 _) | exact Calls.quiet_of_same (itoa_w b h0 h1 _))))
  go_wp2
  go_ret
  exact ⟨rfl, below_drewN ((Below.refl _ _).alloc (Nat.le_refl _) _) _⟩
end Go.Proofs.YthokdbcpkmcieaaGreatDoor
