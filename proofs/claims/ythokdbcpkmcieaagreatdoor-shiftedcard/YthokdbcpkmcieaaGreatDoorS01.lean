/- asmF by lists: the lines, what is read, what is filled. Texts whose bytes do not hang on the place. -/
import Derived.Test.YthokdbcpkmcieaaGreatDoorA38
namespace Go.Proofs.YthokdbcpkmcieaaGreatDoor
open Go Go.RowKit Go.Shelf Go.WideMaps Go.Maps
def NL : ByteArray := ⟨#[10]⟩
def NoNL (t : ByteArray) : Prop := (10 : UInt8) ∉ t.data.toList
theorem app_list (a b : ByteArray) : (a ++ b).data.toList = a.data.toList ++ b.data.toList := by
  rw [ByteArray.data_append, Array.toList_append]
theorem index_nl {t : List UInt8} (h : (10 : UInt8) ∉ t) (r : List UInt8) : Lib.index (t ++ 10 :: r) [10] = t.length := by
  refine Lib.index_first (by simp) ?_ (fun j hj => ?_)
  · unfold Lib.occAt
    rw [List.drop_left]
    simp [List.isPrefixOf]
  · unfold Lib.occAt
    rw [List.drop_append_of_le_length (by omega), List.drop_eq_getElem_cons hj]
    have hn : ¬ (10 : UInt8) = t[j] := fun e => h (e ▸ List.getElem_mem hj)
    rw [List.cons_append]
    show ((10 : UInt8) == t[j] && _) = false
    rw [beq_eq_false_iff_ne.2 hn]
    rfl
theorem index_no {t : List UInt8} (h : (10 : UInt8) ∉ t) : Lib.index t [10] = -1 := by
  refine Lib.index_none (fun j hj => ?_)
  unfold Lib.occAt
  by_cases hl : j < t.length
  · rw [List.drop_eq_getElem_cons hl]
    have hn : ¬ (10 : UInt8) = t[j] := fun e => h (e ▸ List.getElem_mem hl)
    simp [List.isPrefixOf, hn]
  · rw [List.drop_of_length_le (by omega)]
    rfl
theorem linesF_last {t : ByteArray} (h : NoNL t) : linesF t = [t] := by
  unfold linesF
  exact Lib.splitB_miss _ _ _ _ (index_no h)
theorem linesF_cons {t : ByteArray} (h : NoNL t) (r : ByteArray) : linesF (t ++ (NL ++ r)) = t :: linesF r := by
  have hi : Lib.indexB (t ++ (NL ++ r)) ⟨#[10]⟩ = (t.size : Nat) := by
    show Lib.index (t ++ (NL ++ r)).data.toList [10] = _
    rw [app_list, app_list]
    have := index_nl h r.data.toList
    rw [Array.length_toList] at this
    exact this
  have e2 : (t ++ (NL ++ r)).extract (t.size + 1) (t ++ (NL ++ r)).size = r := by
    rw [← ByteArray.append_assoc]
    exact ByteArray.extract_append_eq_right (by rw [ByteArray.size_append]; rfl) ByteArray.size_append
  have e1 : (t ++ (NL ++ r)).extract 0 (t.size + 0) = t := ByteArray.extract_append_eq_left (by simp)
  unfold linesF
  have hc := Lib.countB_hit (t ++ (NL ++ r)) ⟨#[10]⟩ t.size (by decide) hi
  rw [show (⟨#[10]⟩ : ByteArray).size = 1 from rfl, e2] at hc
  rw [hc, Nat.add_comm, Lib.splitB_hit _ _ _ _ _ hi, e1, show (⟨#[10]⟩ : ByteArray).size = 1 from rfl, e2]
/-- Reading line by line. -/
def rdL : Nat → Asm → List ByteArray → Except (Int × Nat) (List St × Asm)
  | _, a, [] => .ok ([], a)
  | i, a, t :: l => match parseL t with
    | none => .error (2, i + 1)
    | some q => match settleF a q.1 q.2 with
      | .error k => .error (k, i + 1)
      | .ok b => match rdL (i + 1) b l with
        | .error e => .error e
        | .ok r => .ok (⟨i + 1, a.pl, q.1, q.2⟩ :: r.1, r.2)
def joinR (s : List St) : Except (Int × Nat) (List St × Asm) → Except (Int × Nat) (List St × Asm)
  | .error e => .error e
  | .ok r => .ok (s ++ r.1, r.2)
theorem rdTo_rdL (a0 : Asm) : ∀ (l pre : List ByteArray) (s : List St) (a : Asm), rdTo (pre ++ l) a0 pre.length = .ok (s, a) → rdTo (pre ++ l) a0 (pre ++ l).length = joinR s (rdL pre.length a l)
  | [], pre, s, a, h => by
    simp only [List.append_nil] at h ⊢
    rw [h]
    simp [rdL, joinR]
  | t :: l, pre, s, a, h => by
    have hg : (pre ++ t :: l).getD pre.length ⟨#[]⟩ = t := by
      rw [List.getD_eq_getElem?_getD, List.getElem?_append_right (Nat.le_refl _), Nat.sub_self]
      rfl
    have hlen : pre.length + 1 ≤ (pre ++ t :: l).length := by simp
    cases hp : parseL t with
    | none =>
      rw [rdTo_whole (rdTo_none h (by rw [hg]; exact hp)) hlen]
      simp only [rdL, hp, joinR]
    | some q =>
      cases hs : settleF a q.1 q.2 with
      | error k =>
        rw [rdTo_whole (rdTo_bad h (by rw [hg]; exact hp) hs) hlen]
        simp only [rdL, hp, hs, joinR]
      | ok b =>
        have h1 := rdTo_next h (by rw [hg]; exact hp) hs
        have e : pre ++ t :: l = (pre ++ [t]) ++ l := by simp
        have hl1 : (pre ++ [t]).length = pre.length + 1 := by simp
        rw [e, ← hl1] at h1
        have ih := rdTo_rdL a0 l (pre ++ [t]) _ _ h1
        rw [e, ih, hl1]
        simp only [rdL, hp, hs]
        cases rdL (pre.length + 1) b l with
        | error e => rfl
        | ok r => simp [joinR]
/-- Filling statement by statement. -/
def flL : Asm → List St → Except (Int × Nat) Asm
  | a, [] => .ok a
  | a, st :: l => match fillF a st.pl st.x with
    | .error k => .error (k, st.line)
    | .ok b => flL b l
theorem fillTo2_flL (a0 : Asm) : ∀ (l pre : List St) (a : Asm), fillTo2 a0 (pre ++ l) pre.length = .ok a → fillTo2 a0 (pre ++ l) (pre ++ l).length = flL a l
  | [], pre, a, h => by
    simp only [List.append_nil] at h ⊢
    rw [h]
    rfl
  | st :: l, pre, a, h => by
    have hg : (pre ++ st :: l)[pre.length]? = some st := by
      rw [List.getElem?_append_right (Nat.le_refl _), Nat.sub_self]
      rfl
    cases hs : fillF a st.pl st.x with
    | error k =>
      have h1 : fillTo2 a0 (pre ++ st :: l) (pre.length + 1) = .error (k, st.line) := by simp only [fillTo2, h, hg, hs]
      rw [fillTo2_whole h1 (by simp)]
      simp only [flL, hs]
    | ok b =>
      have h1 : fillTo2 a0 (pre ++ st :: l) (pre.length + 1) = .ok b := by simp only [fillTo2, h, hg, hs]
      have e : pre ++ st :: l = (pre ++ [st]) ++ l := by simp
      have hl1 : (pre ++ [st]).length = pre.length + 1 := by simp
      rw [e, ← hl1] at h1
      have ih := fillTo2_flL a0 l (pre ++ [st]) _ h1
      rw [e, ih]
      simp only [flL, hs]
/-- asmF by lists. -/
def asmL (ls : List ByteArray) : Except (Int × Nat) Asm := match rdL 0 asm0 ls with
  | .error e => .error e
  | .ok r => flL r.2 r.1
theorem asmF_asmL {src : ByteArray} (h : src.size ≤ 2000) : asmF src = asmL (linesF src) := by
  unfold asmF asmL
  rw [if_neg (by omega)]
  have h1 := rdTo_rdL asm0 (linesF src) [] [] asm0 rfl
  simp only [List.nil_append, List.length_nil] at h1
  rw [h1]
  cases rdL 0 asm0 (linesF src) with
  | error e => rfl
  | ok r =>
    have h2 := fillTo2_flL r.2 r.1 [] r.2 rfl
    simp only [List.nil_append] at h2
    show fillTo2 r.2 ([] ++ r.1) ([] ++ r.1).length = _
    rw [List.nil_append]
    exact h2
end Go.Proofs.YthokdbcpkmcieaaGreatDoor
namespace Go.Proofs.YthokdbcpkmcieaaGreatDoor
open Go Go.RowKit Go.Shelf Go.WideMaps Go.Maps
/-- A statement as plain data. -/
def encT (t : Trm) : Bool × ByteArray × Bool × Int := (t.minus, t.name, t.here, t.num)
def encS (q : ByteArray × Stm) : ByteArray × Nat × ByteArray × List (List (Bool × ByteArray × Bool × Int)) × Nat × List Nat × Nat := (q.1, q.2.task, q.2.name, q.2.vals.map (fun e => e.map encT), q.2.ins.code, q.2.ins.kinds, q.2.ins.size)
theorem encT_inj {a b : Trm} (h : encT a = encT b) : a = b := by
  cases a
  cases b
  simp only [encT, Prod.mk.injEq] at h
  obtain ⟨rfl, rfl, rfl, rfl⟩ := h
  rfl
theorem map_inj {α β : Type} {f : α → β} (hf : ∀ a b, f a = f b → a = b) : ∀ {l k : List α}, l.map f = k.map f → l = k
  | [], [], _ => rfl
  | [], _ :: _, h => by cases h
  | _ :: _, [], h => by cases h
  | a :: l, b :: k, h => by
    simp only [List.map_cons, List.cons.injEq] at h
    rw [hf a b h.1, map_inj hf h.2]
theorem encS_inj {a b : ByteArray × Stm} (h : encS a = encS b) : a = b := by
  obtain ⟨l1, ⟨t1, n1, v1, ⟨c1, k1, s1⟩⟩⟩ := a
  obtain ⟨l2, ⟨t2, n2, v2, ⟨c2, k2, s2⟩⟩⟩ := b
  simp only [encS, Prod.mk.injEq] at h
  obtain ⟨rfl, rfl, rfl, h4, rfl, rfl, rfl⟩ := h
  have := map_inj (fun a b => map_inj (fun _ _ => encT_inj)) h4
  subst this
  rfl
theorem parse_is {t : ByteArray} {q : ByteArray × Stm} (h : (parseL t).map encS = some (encS q)) : parseL t = some q := by
  obtain ⟨r, h1, h2⟩ := Option.map_eq_some_iff.1 h
  rw [h1, encS_inj h2]
/-- A line: its text, its label, what it asks for, its bytes. -/
structure Item where
  text : ByteArray
  lb : ByteArray
  x : Stm
  bs : List Int
def nm (v : Int) : Trm := ⟨false, ⟨#[]⟩, false, v⟩
def noB : ByteArray := ⟨#[]⟩
def stm6 (vals : List (List Trm)) (c : Nat) (ks : List Nat) (s : Nat) : Stm := ⟨6, noB, vals, ⟨c, ks, s⟩⟩
/-- What a line must be so that its bytes do not hang on the place. -/
structure ItOk (it : Item) : Prop where
  nl : NoNL it.text
  size : it.text.size ≤ 24
  parse : parseL it.text = some (it.lb, it.x)
  task : it.x.task = 6
  great : tooS it.x.vals = false
  long : (givenS it.lb it.x.task it.x.name ++ usedS it.x.vals).any longN = false
  used : ∀ s ∈ usedS it.x.vals, it.lb ≠ noB ∧ s = it.lb
  len : it.bs.length = it.x.ins.size
  sz : 1 ≤ it.x.ins.size ∧ it.x.ins.size ≤ 2
  bytes : ∀ (f : List UInt8 → Option Int) (p : Nat), p ≤ 1000 → (it.lb ≠ noB → f it.lb.data.toList = some (p : Int)) → bytS f p it.x = some it.bs
def lbN (it : Item) : Nat := if it.lb = noB then 0 else 1
/-- The state behind a line. -/
def nextA (a : Asm) (it : Item) : Asm := { labA a it.lb with pl := a.pl + it.x.ins.size, laid := setR a.laid a.pl it.x.ins.size, starts := a.starts.set a.pl true }
def layB (n0 t : Nat) : List Bool := List.replicate n0 false ++ (List.replicate t true ++ List.replicate (1024 - n0 - t) false)
theorem layB_len (n0 t : Nat) (h : n0 + t ≤ 1024) : (layB n0 t).length = 1024 := by
  unfold layB
  simp
  omega
theorem layB_set (n0 t : Nat) (h : n0 + t < 1024) : (layB n0 t).set (n0 + t) true = layB n0 (t + 1) := by
  unfold layB
  obtain ⟨k, hk⟩ : ∃ k, 1024 - n0 - t = k + 1 := ⟨1024 - n0 - t - 1, by omega⟩
  rw [hk, show 1024 - n0 - (t + 1) = k by omega, List.set_append_right _ _ (by simp), List.set_append_right _ _ (by simp)]
  rw [List.replicate_succ' (n := t)]
  simp [List.replicate_succ]
theorem layB_setR (n0 t : Nat) : ∀ s, n0 + t + s ≤ 1024 → setR (layB n0 t) (n0 + t) s = layB n0 (t + s)
  | 0, _ => rfl
  | s + 1, h => by
    unfold setR
    rw [layB_setR n0 t s (by omega), show n0 + t + s = n0 + (t + s) by omega, layB_set n0 (t + s) (by omega)]
    rfl
theorem layB_free (n0 t s : Nat) : true ∉ ((layB n0 t).drop (n0 + t)).take s := by
  intro h
  have h2 := List.mem_of_mem_take h
  have e : (layB n0 t).drop (n0 + t) = List.replicate (1024 - n0 - t) false := by
    unfold layB
    rw [← List.append_assoc, List.drop_left' (by simp)]
  rw [e] at h2
  have := (List.mem_replicate.1 h2).2
  cases this
theorem settle_item {a : Asm} {it : Item} {n0 t : Nat} (h : ItOk it) (hp : a.pl = n0 + t) (hl : a.laid = layB n0 t) (hf : n0 + t + 2 ≤ 1024) (hn : a.n + lbN it ≤ 40) (hk : it.lb ≠ noB → a.nm it.lb.data.toList = none) : settleF a it.lb it.x = .ok (nextA a it) := by
  have hgl : (givenS it.lb it.x.task it.x.name).length = lbN it := by
    unfold givenS lbN
    rw [h.task]
    by_cases hb : it.lb = noB
    · rw [if_pos (show it.lb = (⟨#[]⟩ : ByteArray) from hb), if_pos hb]
      rfl
    · rw [if_neg (show ¬ it.lb = (⟨#[]⟩ : ByteArray) from hb), if_neg hb]
      rfl
  have hcu : cuF a.nm it.lb it.x.task it.x.name it.x.vals = true := cuF_free h.long (by rw [h.task]; rfl)
  have hcg : cgF a.nm a.n (givenS it.lb it.x.task it.x.name) = none := by
    unfold cgF
    have h1 : (List.range (givenS it.lb it.x.task it.x.name).length).any (twI a.nm (givenS it.lb it.x.task it.x.name)) = false := by
      unfold givenS
      rw [h.task]
      by_cases hb : it.lb = ⟨#[]⟩
      · rw [if_pos hb]
        rfl
      · rw [if_neg hb]
        have := hk hb
        simp [twI, this, Lib.containsS, Lib.idxOfS, Lib.idxFromS]
    rw [h1]
    simp only [Bool.false_eq_true, if_false]
    rw [if_neg (by omega)]
  have hs : sizeS it.x.task it.x.vals.length it.x.ins.size = it.x.ins.size := by
    unfold sizeS
    rw [h.task]
    rfl
  have hz := h.sz
  have hsp : spanF a.pl it.x.ins.size a.laid = none := by
    unfold spanF
    rw [hp, hl, if_neg (by omega), if_neg (layB_free n0 t _)]
  unfold settleF
  rw [if_neg (by simp [hcu]), hcg]
  simp only
  rw [if_neg (by simp [h.great]), if_neg (by rw [h.task]; decide), if_neg (by rw [h.task]; decide), if_neg (by rw [h.task]; decide), hs, hsp, if_pos h.task]
  rfl
theorem nextA_inv {a : Asm} {it : Item} {n0 t : Nat} (h : ItOk it) (hp : a.pl = n0 + t) (hl : a.laid = layB n0 t) (hf : n0 + t + 2 ≤ 1024) : (nextA a it).pl = n0 + (t + it.x.ins.size) ∧ (nextA a it).laid = layB n0 (t + it.x.ins.size) ∧ (nextA a it).n ≤ a.n + lbN it ∧ (nextA a it).bytes = a.bytes := by
  have hz := h.sz
  refine ⟨by show a.pl + _ = _; omega, ?_, ?_, (labA_laid a it.lb).2.2⟩
  · show setR a.laid a.pl it.x.ins.size = _
    rw [hp, hl]
    exact layB_setR n0 t _ (by omega)
  · show (labA a it.lb).n ≤ _
    unfold labA lbN
    by_cases hb : it.lb = noB
    · rw [if_pos (show it.lb = (⟨#[]⟩ : ByteArray) from hb), if_pos hb]
      omega
    · rw [if_neg (show ¬ it.lb = (⟨#[]⟩ : ByteArray) from hb), if_neg hb]
      exact putN_bound _ _ _
theorem nextA_nm (a : Asm) (it : Item) (l : List UInt8) : (nextA a it).nm l = if it.lb ≠ noB ∧ l = it.lb.data.toList then some (a.pl : Int) else a.nm l := by
  show (labA a it.lb).nm l = _
  unfold labA
  by_cases h : it.lb = ⟨#[]⟩
  · rw [if_pos h, if_neg (fun e => e.1 h)]
  · rw [if_neg h]
    show (if l = it.lb.data.toList then some (a.pl : Int) else a.nm l) = _
    by_cases h2 : l = it.lb.data.toList
    · rw [if_pos h2, if_pos ⟨h, h2⟩]
    · rw [if_neg h2, if_neg (fun e => h2 e.2)]
/-- Labels are given once. -/
def Apt (l : List Item) : Prop := l.Pairwise fun a b => a.lb ≠ noB → b.lb ≠ noB → a.lb.data.toList ≠ b.lb.data.toList
def stL : Nat → Nat → List Item → List St
  | _, _, [] => []
  | i, p, it :: l => ⟨i + 1, p, it.lb, it.x⟩ :: stL (i + 1) (p + it.x.ins.size) l
def nextL (a : Asm) (l : List Item) : Asm := l.foldl nextA a
def cntL (l : List Item) : Nat := (l.map lbN).sum
def sumS (l : List Item) : Nat := (l.map fun it => it.x.ins.size).sum
theorem sumS_le {l : List Item} (h : ∀ it ∈ l, ItOk it) : sumS l ≤ 2 * l.length := by
  unfold sumS
  induction l with
  | nil => simp
  | cons it l ih =>
    have h1 := (h it List.mem_cons_self).sz
    have h2 := ih (fun x hx => h x (List.mem_cons_of_mem _ hx))
    simp only [List.map_cons, List.sum_cons, List.length_cons]
    omega
theorem rd_items (rest : List ByteArray) : ∀ (its : List Item) (i : Nat) (a : Asm) (n0 t : Nat), (∀ it ∈ its, ItOk it) → Apt its → a.pl = n0 + t → a.laid = layB n0 t → n0 + t + 2 * its.length ≤ 1024 → a.n + cntL its ≤ 40 → (∀ it ∈ its, it.lb ≠ noB → a.nm it.lb.data.toList = none) → rdL i a (its.map (·.text) ++ rest) = joinR (stL i a.pl its) (rdL (i + its.length) (nextL a its) rest) ∧ (nextL a its).pl = n0 + (t + sumS its) ∧ (nextL a its).laid = layB n0 (t + sumS its) ∧ (nextL a its).bytes = a.bytes ∧ (nextL a its).n ≤ a.n + cntL its
  | [], i, a, n0, t, _, _, hp, hl, _, _, _ => by
    refine ⟨?_, hp, hl, rfl, Nat.le_refl _⟩
    show rdL i a rest = joinR [] (rdL i a rest)
    cases rdL i a rest with
    | error e => rfl
    | ok r => rfl
  | it :: its, i, a, n0, t, hok, hap, hp, hl, hf, hn, hk => by
    have hit := hok it List.mem_cons_self
    have hz := hit.sz
    rw [List.length_cons] at hf
    have ec : cntL (it :: its) = lbN it + cntL its := by simp [cntL]
    rw [ec] at hn
    have hs := settle_item hit hp hl (by omega) (by omega) (hk it List.mem_cons_self)
    obtain ⟨q1, q2, q3, q4⟩ := nextA_inv hit hp hl (by omega)
    have hap2 := List.pairwise_cons.1 hap
    have ih := rd_items rest its (i + 1) (nextA a it) n0 (t + it.x.ins.size) (fun x hx => hok x (List.mem_cons_of_mem _ hx)) hap2.2 q1 q2 (by omega) (by omega) (fun x hx hb => by
      rw [nextA_nm, if_neg (fun e => hap2.1 x hx e.1 hb e.2.symm)]
      exact hk x (List.mem_cons_of_mem _ hx) hb)
    obtain ⟨r1, r2, r3, r4, r5⟩ := ih
    have es : sumS (it :: its) = it.x.ins.size + sumS its := by simp [sumS]
    refine ⟨?_, by show (nextL (nextA a it) its).pl = _; rw [r2, es]; omega, by show (nextL (nextA a it) its).laid = _; rw [r3, es, Nat.add_assoc], by show (nextL (nextA a it) its).bytes = _; rw [r4, q4], by show (nextL (nextA a it) its).n ≤ _; rw [ec]; omega⟩
    have e1 : (it :: its).map (·.text) ++ rest = it.text :: (its.map (·.text) ++ rest) := rfl
    rw [e1]
    simp only [rdL, hit.parse, hs, r1, stL]
    rw [show i + (it :: its).length = i + 1 + its.length by simp; omega, show nextL a (it :: its) = nextL (nextA a it) its from rfl, show (nextA a it).pl = a.pl + it.x.ins.size from rfl]
    cases rdL (i + 1 + its.length) (nextL (nextA a it) its) rest with
    | error e => rfl
    | ok r => rfl
/-- What each label means behind all lines. -/
theorem nextL_nm : ∀ (its : List Item) (a : Asm) (l : List UInt8), (∀ it ∈ its, it.lb ≠ noB → it.lb.data.toList ≠ l) → (nextL a its).nm l = a.nm l
  | [], _, _, _ => rfl
  | it :: its, a, l, h => by
    show (nextL (nextA a it) its).nm l = _
    rw [nextL_nm its _ l (fun x hx => h x (List.mem_cons_of_mem _ hx)), nextA_nm, if_neg (fun e => h it List.mem_cons_self e.1 e.2.symm)]
def byt (n0 : Nat) (bs : List Int) : List UInt8 := List.replicate n0 255 ++ (bs.map toB ++ List.replicate (1024 - n0 - bs.length) 255)
theorem byt_put (n0 : Nat) (bs cs : List Int) (_ : n0 + bs.length + cs.length ≤ 1024) : putAt (byt n0 bs) (n0 + bs.length) cs = byt n0 (bs ++ cs) := by
  unfold putAt splice byt
  have e1 : (List.replicate n0 (255 : UInt8) ++ (bs.map toB ++ List.replicate (1024 - n0 - bs.length) 255)).take (n0 + bs.length) = List.replicate n0 255 ++ bs.map toB := by
    rw [← List.append_assoc, List.take_left' (by simp)]
  have e2 : (List.replicate n0 (255 : UInt8) ++ (bs.map toB ++ List.replicate (1024 - n0 - bs.length) 255)).drop (n0 + bs.length + (cs.map toB).length) = List.replicate (1024 - n0 - (bs ++ cs).length) 255 := by
    rw [← List.append_assoc, ← List.drop_drop, List.drop_left' (by simp), List.drop_replicate]
    congr 1
    simp
    omega
  rw [e1, e2, List.map_append]
  simp [List.append_assoc]
theorem byt_nil (n0 : Nat) (h : n0 ≤ 1024) : byt n0 [] = b255 := by
  unfold byt b255
  simp only [List.map_nil, List.nil_append, List.length_nil, Nat.sub_zero]
  rw [List.replicate_append_replicate, show n0 + (1024 - n0) = 1024 by omega]
def allB (its : List Item) : List Int := its.flatMap (·.bs)
theorem allB_len {its : List Item} (h : ∀ it ∈ its, ItOk it) : (allB its).length = sumS its := by
  induction its with
  | nil => rfl
  | cons it l ih =>
    have e : allB (it :: l) = it.bs ++ allB l := rfl
    have e2 : sumS (it :: l) = it.x.ins.size + sumS l := by simp [sumS]
    rw [e, List.length_append, (h it List.mem_cons_self).len, ih (fun x hx => h x (List.mem_cons_of_mem _ hx)), e2]
theorem fill_item {a : Asm} {it : Item} {p : Nat} (h : ItOk it) (hp : p ≤ 1000) (hk : it.lb ≠ noB → a.nm it.lb.data.toList = some (p : Int)) : fillF a p it.x = .ok { a with bytes := putAt a.bytes p it.bs } := by
  have hz := h.sz
  have hs : sizeS it.x.task it.x.vals.length it.x.ins.size = it.x.ins.size := by
    unfold sizeS
    rw [h.task]
    rfl
  have hu : (usedS it.x.vals).any (unkn a.nm) = false := by
    rw [List.any_eq_false]
    intro s hs
    obtain ⟨h1, h2⟩ := h.used s hs
    unfold unkn
    rw [h2, hk h1]
    simp
  unfold fillF
  rw [hs, if_neg (by omega), if_neg (by simp [hu]), h.bytes a.nm p hp hk]
theorem fl_items (N : List UInt8 → Option Int) : ∀ (its : List Item) (i p n0 : Nat) (bs : List Int) (a : Asm), (∀ it ∈ its, ItOk it) → a.nm = N → a.bytes = byt n0 bs → p = n0 + bs.length → p + 2 * its.length ≤ 1000 → (∀ (pre post : List Item) (it : Item), its = pre ++ it :: post → it.lb ≠ noB → N it.lb.data.toList = some ((p + sumS pre : Nat) : Int)) → ∀ rest, ∃ b, flL a (stL i p its ++ rest) = flL b rest ∧ b.nm = N ∧ b.bytes = byt n0 (bs ++ allB its) ∧ b.laid = a.laid ∧ b.starts = a.starts
  | [], i, p, n0, bs, a, _, hN, hb, _, _, _, rest => ⟨a, rfl, hN, by simp [allB, hb], rfl, rfl⟩
  | it :: its, i, p, n0, bs, a, hok, hN, hb, hp, hf, hk, rest => by
    have hit := hok it List.mem_cons_self
    have hz := hit.sz
    rw [List.length_cons] at hf
    have h1 := fill_item (a := a) (p := p) hit (by omega) (fun e => by have := hk [] its it rfl e; rw [hN]; simpa [sumS] using this)
    have hl := hit.len
    obtain ⟨b, r1, r2, r3, r4, r5⟩ := fl_items N its (i + 1) (p + it.x.ins.size) n0 (bs ++ it.bs) { a with bytes := putAt a.bytes p it.bs } (fun x hx => hok x (List.mem_cons_of_mem _ hx)) hN (by show putAt a.bytes p it.bs = _; rw [hb, hp]; exact byt_put n0 bs it.bs (by omega)) (by rw [List.length_append]; omega) (by omega) (fun pre post x e hx => by
      have := hk (it :: pre) post x (by rw [e]; rfl) hx
      rw [this, show sumS (it :: pre) = it.x.ins.size + sumS pre by simp [sumS], Nat.add_assoc]) rest
    refine ⟨b, ?_, r2, ?_, r4, r5⟩
    · have e : stL i p (it :: its) ++ rest = ⟨i + 1, p, it.lb, it.x⟩ :: (stL (i + 1) (p + it.x.ins.size) its ++ rest) := rfl
      rw [e]
      simp only [flL, h1]
      exact r1
    · rw [r3, show allB (it :: its) = it.bs ++ allB its from rfl, List.append_assoc]
end Go.Proofs.YthokdbcpkmcieaaGreatDoor
