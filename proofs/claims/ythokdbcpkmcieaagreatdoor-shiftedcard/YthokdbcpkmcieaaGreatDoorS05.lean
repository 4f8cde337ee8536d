/- Shifted, plainly: the same bytes, some places further on. Shifted: the lines that raw numbers make. -/
import Derived.Test.YthokdbcpkmcieaaGreatDoorS03
import Derived.Test.YthokdbcpkmcieaaGreatDoorS04
import Derived.Test.YthokdbcpkmcieaaGreatDoorA39
namespace Go.Proofs.YthokdbcpkmcieaaGreatDoor
open Go Go.RowKit Go.Shelf Go.WideMaps Go.Maps
/-- The lines as one text. -/
def srcR : List Item → ByteArray
  | [] => noB
  | it :: l => it.text ++ (NL ++ srcR l)
theorem srcR_append : ∀ (l k : List Item), srcR (l ++ k) = srcR l ++ srcR k
  | [], k => by
    show srcR k = noB ++ srcR k
    exact (ByteArray.empty_append).symm
  | it :: l, k => by
    show it.text ++ (NL ++ srcR (l ++ k)) = (it.text ++ (NL ++ srcR l)) ++ srcR k
    rw [srcR_append l k]
    simp only [ByteArray.append_assoc]
theorem lines_src : ∀ {l : List Item}, (∀ it ∈ l, ItOk it) → linesF (srcR l) = l.map (·.text) ++ [noB]
  | [], _ => linesF_last (fun h => by cases h)
  | it :: l, h => by
    show linesF (it.text ++ (NL ++ srcR l)) = it.text :: (l.map (·.text) ++ [noB])
    rw [linesF_cons (h it List.mem_cons_self).nl, lines_src (fun x hx => h x (List.mem_cons_of_mem _ hx))]
theorem src_size : ∀ {l : List Item}, (∀ it ∈ l, ItOk it) → (srcR l).size ≤ 25 * l.length
  | [], _ => Nat.le_refl _
  | it :: l, h => by
    have h1 := (h it List.mem_cons_self).size
    have h2 := src_size (fun x hx => h x (List.mem_cons_of_mem _ hx))
    show (it.text ++ (NL ++ srcR l)).size ≤ _
    rw [ByteArray.size_append, ByteArray.size_append, List.length_cons]
    have : NL.size = 1 := rfl
    omega
theorem names_at : ∀ (its : List Item) (a : Asm), Apt its → ∀ (pre post : List Item) (it : Item), its = pre ++ it :: post → it.lb ≠ noB → (nextL a its).nm it.lb.data.toList = some ((a.pl + sumS pre : Nat) : Int)
  | [], _, _, pre, post, it, e, _ => by cases pre <;> cases e
  | x :: its, a, hap, [], post, it, e, hb => by
    cases e
    have h2 := List.pairwise_cons.1 hap
    show (nextL (nextA a x) its).nm _ = _
    rw [nextL_nm its _ _ (fun y hy hyb e2 => h2.1 y hy hb hyb e2.symm), nextA_nm, if_pos ⟨hb, rfl⟩]
    rfl
  | x :: its, a, hap, y :: pre, post, it, e, hb => by
    cases e
    have h2 := List.pairwise_cons.1 hap
    refine (names_at (pre ++ it :: post) (nextA a x) h2.2 pre post it rfl hb).trans ?_
    congr 2
    show a.pl + x.x.ins.size + sumS pre = _
    simp [sumS]
    omega
/-- What comes of the lines behind a beginning. -/
theorem asm_tail {its : List Item} {n : Nat} (hok : ∀ it ∈ its, ItOk it) (hap : Apt its) (hlen : its.length ≤ 60) (hc : cntL its ≤ 40) (hn : n ≤ 500) (i : Nat) : ∃ sts a2, rdL i (asmP n) (its.map (·.text) ++ [noB]) = .ok (sts, a2) ∧ ∀ b0 : Asm, b0.nm = a2.nm → b0.bytes = b255 → b0.laid = a2.laid → ∃ b, flL b0 sts = .ok b ∧ b.laid = layB n (sumS its) ∧ b.bytes = byt n (allB its) ∧ a2.bytes = b255 := by
  obtain ⟨r1, r2, r3, r4, r5⟩ := rd_items [noB] its i (asmP n) n 0 hok hap rfl (by show bF = _; rw [layB_zero n (by omega)]) (by omega) (by show 0 + cntL its ≤ 40; omega) (fun _ _ _ => rfl)
  have hs := sumS_le hok
  obtain ⟨b, s1, s2, s3, s4, s5⟩ := settle_empty (a := nextL (asmP n) its) (by have : (asmP n).n = 0 := rfl; omega) (by omega)
  have hrd : rdL (i + its.length) (nextL (asmP n) its) [noB] = .ok ([⟨i + its.length + 1, (nextL (asmP n) its).pl, noB, emptyS⟩], b) := by
    simp only [rdL, empty_is, s1]
  rw [hrd] at r1
  refine ⟨stL i n its ++ [⟨i + its.length + 1, (nextL (asmP n) its).pl, noB, emptyS⟩], b, r1.trans rfl, fun b0 h1 h2 h3 => ?_⟩
  have hnm : ∀ (pre post : List Item) (it : Item), its = pre ++ it :: post → it.lb ≠ noB → (nextL (asmP n) its).nm it.lb.data.toList = some ((n + sumS pre : Nat) : Int) := fun pre post it e hb => names_at its (asmP n) hap pre post it e hb
  obtain ⟨c, t1, t2, t3, t4, _⟩ := fl_items (nextL (asmP n) its).nm its i n n [] b0 hok (h1.trans s2) (by rw [h2, byt_nil n (by omega)]) rfl (by omega) hnm [⟨i + its.length + 1, (nextL (asmP n) its).pl, noB, emptyS⟩]
  refine ⟨c, ?_, ?_, ?_, ?_⟩
  · rw [t1]
    have hf : fillF c (nextL (asmP n) its).pl emptyS = .ok c := rfl
    simp only [flL, hf]
  · rw [t4, h3, s4, r3]
    simp
  · rw [t3]
    rfl
  · rw [s5, r4]
    rfl
theorem asm_src {its : List Item} (hok : ∀ it ∈ its, ItOk it) (hap : Apt its) (hlen : its.length ≤ 60) (hc : cntL its ≤ 40) : ∃ b, asmF (srcR its) = .ok b ∧ b.laid = layB 0 (sumS its) ∧ b.bytes = byt 0 (allB its) := by
  have hz := src_size hok
  rw [asmF_asmL (by omega), lines_src hok]
  obtain ⟨sts, a2, h1, h2⟩ := asm_tail (n := 0) hok hap hlen hc (by omega) 0
  obtain ⟨b, q1, q2, q3, q4⟩ := h2 { a2 with bytes := b255 } rfl rfl rfl
  have e : ({ a2 with bytes := b255 } : Asm) = a2 := by rw [← q4]
  rw [e] at q1
  refine ⟨b, ?_, q2, q3⟩
  unfold asmL
  have h1' : rdL 0 asm0 (its.map (·.text) ++ [noB]) = .ok (sts, a2) := h1
  rw [h1']
  exact q1
theorem settle_org0 (n : Nat) (h : n < 500) : settleF asm0 noB (orgS n) = .ok (asmP n) := by
  have hcu : cuF asm0.nm noB (orgS n).task (orgS n).name (orgS n).vals = true := rfl
  have hcg : cgF asm0.nm asm0.n (givenS noB (orgS n).task (orgS n).name) = none := rfl
  have ht : tooS (orgS n).vals = false := by
    show ([[nm (n : Int)]] : List (List Trm)).any tooE = false
    unfold tooE nm
    simp
    omega
  have hv : nmbF asm0.nm (asm0.pl : Int) ((orgS n).vals.headD []) 0 1023 = some (n : Int) := one_num _ _ _ _ _ (by omega) (by omega)
  unfold settleF
  rw [if_neg (by simp [hcu]), hcg]
  simp only
  rw [if_neg (by simp [ht]), if_pos (show (orgS n).task = 1 from rfl), if_pos (show noB = ⟨#[]⟩ from rfl), hv]
  rfl
theorem asm_org {its : List Item} {n : Nat} (hok : ∀ it ∈ its, ItOk it) (hap : Apt its) (hlen : its.length ≤ 60) (hc : cntL its ≤ 40) (hn : n < 500) : ∃ b, asmF (txO n ++ (NL ++ srcR its)) = .ok b ∧ b.laid = layB n (sumS its) ∧ b.bytes = byt n (allB its) := by
  have hz := src_size hok
  have hd := decF_size 3 n
  have ho := org_is n hn
  have hs : (txO n ++ (NL ++ srcR its)).size ≤ 2000 := by
    rw [ByteArray.size_append, ByteArray.size_append]
    have h1 : (txO n).size ≤ 8 := by
      unfold txO
      rw [ByteArray.size_append]
      have : (⟨#[111, 114, 103, 32]⟩ : ByteArray).size = 4 := rfl
      omega
    have h2 : NL.size = 1 := rfl
    omega
  rw [asmF_asmL hs, linesF_cons ho.1, lines_src hok]
  obtain ⟨sts, a2, h1, h2⟩ := asm_tail (n := n) hok hap hlen hc (by omega) 1
  obtain ⟨b, q1, q2, q3, q4⟩ := h2 { a2 with bytes := b255 } rfl rfl rfl
  have e : ({ a2 with bytes := b255 } : Asm) = a2 := by rw [← q4]
  rw [e] at q1
  refine ⟨b, ?_, q2, q3⟩
  unfold asmL
  have hr : rdL 0 asm0 (txO n :: (its.map (·.text) ++ [noB])) = .ok (⟨1, 0, noB, orgS n⟩ :: sts, a2) := by
    simp only [rdL, ho.2, settle_org0 n hn]
    rw [show (0 : Nat) + 1 = 1 from rfl, h1]
    rfl
  rw [hr]
  have hf : fillF a2 0 (orgS n) = .ok a2 := rfl
  simp only [flL, hf]
  exact q1
end Go.Proofs.YthokdbcpkmcieaaGreatDoor
namespace Go.Proofs.YthokdbcpkmcieaaGreatDoor
open Go Go.RowKit Go.Shelf Go.WideMaps Go.Maps
def chunk (i t d : Nat) : List Item := itB t :: ((if d = 0 then [itD i t] else []) ++ (if d = 1 then [itS] else []))
def itsF (g : Nat → Nat × Nat) : Nat → List Item
  | 0 => []
  | j + 1 => itsF g j ++ chunk j (g j).1 (g j).2
theorem itB_lb (t : Nat) : (itB t).lb = noB := by
  unfold itB
  split <;> rfl
theorem chunk_mem {i t d : Nat} {it : Item} (h : it ∈ chunk i t d) : it = itB t ∨ it = itD i t ∨ it = itS := by
  unfold chunk at h
  rcases List.mem_cons.1 h with h | h
  · exact .inl h
  · rcases List.mem_append.1 h with h | h
    · split at h
      · exact .inr (.inl (List.mem_singleton.1 h))
      · cases h
    · split at h
      · exact .inr (.inr (List.mem_singleton.1 h))
      · cases h
theorem itsF_mem {g : Nat → Nat × Nat} {it : Item} : ∀ {n : Nat}, it ∈ itsF g n → ∃ j, j < n ∧ it ∈ chunk j (g j).1 (g j).2
  | 0, h => by cases h
  | n + 1, h => by
    rcases List.mem_append.1 h with h | h
    · obtain ⟨j, h1, h2⟩ := itsF_mem h
      exact ⟨j, by omega, h2⟩
    · exact ⟨n, by omega, h⟩
theorem itsF_ok {g : Nat → Nat × Nat} {n : Nat} (hn : n ≤ 30) (hg : ∀ j, j < n → (g j).1 < 8) : ∀ it ∈ itsF g n, ItOk it := fun it h => by
  obtain ⟨j, h1, h2⟩ := itsF_mem h
  rcases chunk_mem h2 with rfl | rfl | rfl
  · exact ok_itB _ (hg j h1)
  · exact ok_itD j _ (by omega) (hg j h1)
  · exact ok_itS
theorem chunk_len (i t d : Nat) : (chunk i t d).length ≤ 2 ∧ cntL (chunk i t d) ≤ 1 := by
  have hb : lbN (itB t) = 0 := by
    unfold lbN
    rw [if_pos (itB_lb t)]
  have hd : lbN (itD i t) = 1 := by
    unfold lbN
    rw [if_neg (show ¬ (itD i t).lb = noB from lbD_ne i)]
  have hs : lbN itS = 0 := rfl
  unfold chunk cntL
  by_cases h0 : d = 0
  · rw [if_pos h0, if_neg (by omega)]
    simp [hb, hd]
  · by_cases h1 : d = 1
    · rw [if_neg h0, if_pos h1]
      simp [hb, hs]
    · rw [if_neg h0, if_neg h1]
      simp [hb]
theorem itsF_len (g : Nat → Nat × Nat) : ∀ n, (itsF g n).length ≤ 2 * n ∧ cntL (itsF g n) ≤ n
  | 0 => ⟨Nat.le_refl _, Nat.le_refl _⟩
  | n + 1 => by
    have h1 := itsF_len g n
    have h2 := chunk_len n (g n).1 (g n).2
    have e : cntL (itsF g (n + 1)) = cntL (itsF g n) + cntL (chunk n (g n).1 (g n).2) := by
      show cntL (itsF g n ++ chunk n (g n).1 (g n).2) = _
      simp [cntL]
    refine ⟨?_, by omega⟩
    show (itsF g n ++ chunk n (g n).1 (g n).2).length ≤ _
    rw [List.length_append]
    omega
theorem lbD_inj {i j : Nat} (hi : i < 30) (hj : j < 30) (h : i ≠ j) : (lbD i).data.toList ≠ (lbD j).data.toList := by
  have := List.all_eq_true.1 (List.all_eq_true.1 lb_inj i (List.mem_range.2 hi)) j (List.mem_range.2 hj)
  simp only [Bool.or_eq_true, decide_eq_true_eq] at this
  rcases this with h1 | h1
  · exact absurd h1 h
  · exact h1
theorem chunk_apt (i t d : Nat) : Apt (chunk i t d) := by
  have hb := itB_lb t
  unfold Apt chunk
  by_cases h0 : d = 0
  · rw [if_pos h0, if_neg (by omega)]
    simp [hb]
  · by_cases h1 : d = 1
    · rw [if_neg h0, if_pos h1]
      simp [hb]
    · rw [if_neg h0, if_neg h1]
      simp
theorem itsF_apt {g : Nat → Nat × Nat} : ∀ {n : Nat}, n ≤ 30 → Apt (itsF g n)
  | 0, _ => List.Pairwise.nil
  | n + 1, h => by
    refine List.pairwise_append.2 ⟨itsF_apt (by omega), chunk_apt _ _ _, fun a ha b hb h1 h2 => ?_⟩
    obtain ⟨j, hj, hm⟩ := itsF_mem ha
    have ea : a.lb = lbD j := by
      rcases chunk_mem hm with rfl | rfl | rfl
      · exact absurd (itB_lb _) h1
      · rfl
      · exact absurd rfl h1
    have eb : b.lb = lbD n := by
      rcases chunk_mem hb with rfl | rfl | rfl
      · exact absurd (itB_lb _) h2
      · rfl
      · exact absurd rfl h2
    rw [ea, eb]
    exact lbD_inj (by omega) (by omega) (by omega)
theorem layB_shift (n t i : Nat) (h : n + t ≤ 1024) (hi : n ≤ i) (h2 : i < 1024) : (layB n t)[i]? = (layB 0 t)[i - n]? := by
  unfold layB
  rw [List.getElem?_append_right (by simpa using hi)]
  simp only [List.length_replicate, List.replicate_zero, List.nil_append, Nat.sub_zero]
  by_cases h3 : i - n < t
  · rw [List.getElem?_append_left (by simpa using h3), List.getElem?_append_left (by simpa using h3)]
  · rw [List.getElem?_append_right (by simp; omega), List.getElem?_append_right (by simp; omega)]
    simp only [List.length_replicate]
    rw [List.getElem?_replicate, List.getElem?_replicate, if_pos (by omega), if_pos (by omega)]
theorem layB_low (n t i : Nat) (hi : i < n) : (layB n t)[i]? = some false := by
  unfold layB
  rw [List.getElem?_append_left (by simpa using hi), List.getElem?_replicate, if_pos hi]
theorem byt_shift (n : Nat) (bs : List Int) (i : Nat) (h : n + bs.length ≤ 1024) (hi : n ≤ i) (h2 : i < 1024) : (byt n bs)[i]? = (byt 0 bs)[i - n]? := by
  unfold byt
  rw [List.getElem?_append_right (by simpa using hi)]
  simp only [List.length_replicate, List.replicate_zero, List.nil_append, Nat.sub_zero]
  by_cases h3 : i - n < bs.length
  · rw [List.getElem?_append_left (by simpa using h3), List.getElem?_append_left (by simpa using h3)]
  · rw [List.getElem?_append_right (by simp; omega), List.getElem?_append_right (by simp; omega)]
    simp only [List.length_map]
    rw [List.getElem?_replicate, List.getElem?_replicate, if_pos (by omega), if_pos (by omega)]
/-- The eight lines with their ends. -/
abbrev rowS : Array Value := #[.string ⟨#[110, 111, 112, 10]⟩, .string ⟨#[109, 111, 118, 32, 97, 44, 35, 55, 10]⟩, .string ⟨#[105, 110, 99, 32, 114, 51, 10]⟩, .string ⟨#[112, 117, 115, 104, 32, 49, 54, 10]⟩, .string ⟨#[99, 112, 108, 32, 99, 10]⟩, .string ⟨#[109, 111, 118, 120, 32, 97, 44, 64, 100, 112, 116, 114, 10]⟩, .string ⟨#[120, 99, 104, 32, 97, 44, 64, 114, 49, 10]⟩, .string ⟨#[109, 117, 108, 32, 97, 98, 10]⟩]
theorem rowS_at (t : Nat) (h : t < 8) : rowS[t]? = some (.string ((itB t).text ++ NL)) := by
  have key : ∀ t : Fin 8, (match rowS[t.val]? with | some (.string s) => decide (s = (itB t.val).text ++ NL) | _ => false) = true := by decide
  have := key ⟨t, h⟩
  simp only at this
  split at this
  · rename_i s hs
    rw [hs, of_decide_eq_true this]
  · cases this
end Go.Proofs.YthokdbcpkmcieaaGreatDoor
