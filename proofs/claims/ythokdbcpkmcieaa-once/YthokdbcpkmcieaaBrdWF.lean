/- answer whole; the board's smaller calls. -/
import Derived.Test.YthokdbcpkmcieaaBrdWE
namespace Go.Proofs.Ythokdbcpkmcieaa
open Go Go.RowKit
theorem answer_any (bb : Nat) (p : Pow) (mem : List UInt8) (t : Talk) (q : ByteArray) (k : Nat) (w : World) (h : StoAt w bb p mem) (hu : Used mem k) (ht : TalkAt w bb t) (hts : t.ses < 65536) (hq : q.size ≤ 4000000) :
    Calls Try.prog 53 #[.pointer (some ⟨bb, 0, none⟩), .string q] w (AnsEnd w bb (answerF p mem t q.data.toList)) := by
  by_cases hk : askOk q.data.toList = true
  · obtain ⟨k1, k2, k3, k4⟩ := ask_parts hk
    by_cases h1 : q.data.toList.getD 3 0 = 1
    · exact answer_open bb p mem t q k w h hu ht hk h1
    · by_cases hway : (t.opn = false ∨ sesOf q.data.toList ≠ t.ses) ∨ q.data.toList.getD 2 0 = t.num ∨ q.data.toList.getD 2 0 ≠ t.num + 1
      · exact answer_still bb p mem t q w h ht hts hk h1 hway
      · have c1 : ¬ (t.opn = false ∨ sesOf q.data.toList ≠ t.ses) := fun e => hway (.inl e)
        have c2 : ¬ q.data.toList.getD 2 0 = t.num := fun e => hway (.inr (.inl e))
        have c3 : q.data.toList.getD 2 0 = t.num + 1 := Classical.byContradiction fun e => hway (.inr (.inr e))
        have co : t.opn = true := by
          cases ho : t.opn with
          | true => rfl
          | false => exact absurd (.inl ho) c1
        have cs : sesOf q.data.toList = t.ses := Classical.byContradiction fun e => c1 (.inr e)
        obtain ⟨d, hd⟩ : ∃ d, doF p mem (q.data.toList.getD 3 0) (q.data.toList.drop 4) = d := ⟨_, rfl⟩
        have hdo := fun w' (h' : StoAt w' bb p mem) => do_any bb p mem (q.data.toList.getD 3 0) (q.extract 4 q.size) k w' h' hu (fun e => by rw [ByteArray.size_extract]; have := k3 e; omega) (fun e => by rw [ByteArray.size_extract]; have := k4 e; omega)
        rw [baB_drop, hd] at hdo
        have hol := doF_out p mem (q.data.toList.getD 3 0) (q.data.toList.drop 4) h.len
        rw [hd] at hol
        obtain ⟨⟨p1, m1, ok⟩, out⟩ := d
        have hF : answerF p mem t q.data.toList = if ok = true then (p1, m1, ⟨true, t.ses, q.data.toList.getD 2 0, frameF (q.data.toList.take 3 ++ out)⟩, frameF (q.data.toList.take 3 ++ out), true) else (p1, m1, ⟨true, t.ses, q.data.toList.getD 2 0, t.ans⟩, [], false) := by
          unfold answerF
          rw [if_neg (by rw [hk]; simp), if_neg (fun e => c1 e.2), if_neg (fun e => c2 e.2), if_neg (fun e => e.2 c3)]
          simp only [hd, if_neg h1, co]
        rw [hF]
        have N : ∀ b, ok = b → NextQ bb p mem t q (q.data.toList.getD 0 0) (q.data.toList.getD 1 0) (q.data.toList.getD 2 0) (q.data.toList.getD 3 0) (t.num + 1).toNat p1 m1 b out := fun b hb => ⟨⟨k1, k2⟩, rfl, rfl, rfl, rfl, h1, rfl, co, cs, c3, hk, by rw [← hb]; exact hdo, hol⟩
        cases ok with
        | true => exact next_yes bb p mem t q _ _ _ _ _ p1 m1 out w h ht (N true rfl)
        | false => exact next_no bb p mem t q _ _ _ _ _ p1 m1 out w h ht (N false rfl)
  · have hk' : askOk q.data.toList = false := by simpa using hk
    have hF : answerF p mem t q.data.toList = (p, mem, t, [], true) := by unfold answerF; rw [if_pos hk']
    rw [hF]
    exact answer_none bb p mem t q w h ht hq hk'
/-- A board in memory. -/
structure BrdAt (w : World) (bb : Nat) (b : Brd) : Prop where
  c0 : w.cell? ⟨bb, 0, none⟩ = some (.bool b.on)
  sto : StoAt w bb b.pow b.mem
  ear : EarO w bb 1268 b.ear
  talk : TalkAt w bb b.talk
  used : ∃ k, Used b.mem k
  ses : b.talk.ses < 65536
  al : b.talk.ans.length ≤ 200
theorem BrdAt.kept {w w' : World} {bb : Nat} {b : Brd} (h : BrdAt w bb b) (e : w'.heap[bb]? = w.heap[bb]?) (hz : w.heap.size ≤ w'.heap.size) : BrdAt w' bb b :=
  ⟨(World.cell?_of_block (a := ⟨bb, 0, none⟩) e).trans h.c0, h.sto.kept e hz, h.ear.kept e hz, h.talk.kept e, h.used, h.ses, h.al⟩
theorem BrdAt.below {w w' : World} {bb : Nat} {b : Brd} (h : BrdAt w bb b) (hb : Below w.heap.size w w') : BrdAt w' bb b := h.kept (hb.block bb h.sto.lt) hb.size
set_option maxHeartbeats 1000000 in
theorem on_any (bb : Nat) (b : Brd) (w : World) (h : BrdAt w bb b) : Calls Try.prog 39 #[.pointer (some ⟨bb, 0, none⟩)] w fun e w' => e = .returned (.bool b.on) ∧ w' = w := by
  have c0 := h.c0
  clear h
  go_enter Try.func39, Try.ntmps39
  go_wp2
  go_ret
  exact ⟨rfl, rfl⟩
set_option maxHeartbeats 1000000 in
theorem flash_any (bb : Nat) (b : Brd) (w : World) (h : BrdAt w bb b) : Calls Try.prog 36 #[.pointer (some ⟨bb, 0, none⟩)] w fun e w' => e = .returned (.string (txt (b.mem.take 1024))) ∧ Below w.heap.size w w' := by
  have HC := hideIt (bytes_any bb b.pow b.mem w h.sto)
  clear h
  go_enter Try.func36, Try.ntmps36
  go_wp2_with fail
  refine HC.out.mono ?_
  rintro e w1 ⟨rfl, hb⟩
  go_wp2
  go_ret
  exact ⟨rfl, hb⟩
set_option maxHeartbeats 1000000 in
theorem burnt_any (bb : Nat) (b : Brd) (w : World) (h : BrdAt w bb b) : Calls Try.prog 41 #[.pointer (some ⟨bb, 0, none⟩)] w fun e w' => e = .returned (.int .i64 (bitsF b.mem : Int)) ∧ Below w.heap.size w w' := by
  have HC := hideIt (burntPages_any bb b.pow b.mem w h.sto)
  have hbl : bitsF b.mem < 65536 := bitsS_lt b.mem 16
  obtain ⟨c, hc⟩ : ∃ c, bitsF b.mem = c := ⟨_, rfl⟩
  rw [hc] at HC hbl ⊢
  clear h hc
  go_enter Try.func41, Try.ntmps41
  go_wp2_with fail
  refine HC.out.mono ?_
  rintro e w1 ⟨rfl, hb⟩
  go_wp2
  go_ret
  exact ⟨rfl, hb⟩
end Go.Proofs.Ythokdbcpkmcieaa
