/- Walks of the program's board: answers. -/
import Derived.Test.YthokdbcpkmcieaaGreatBoE
import Derived.Lib.FrozenHead
import Derived.Lib.FrozenHead2
import Derived.Lib.OthersKept
import Derived.Lib.Builder
import Derived.Shelf.Strings.BuilderX
import Derived.Laws.Externs
namespace Go.Proofs.YthokdbcpkmcieaaGreat
open Go Go.RowKit
theorem step_noneV {P : Program} {ops : Array Oper} {o : Oper} {a : Act} {w : World} {K : Act → World → Prop} {Q : Exit → Act → World → Prop} {E : Prop} (bv : Value) (hF : Hid False) (_ : K (a.put o.dst bv) w) : if Region.wanted o (yielded ops a.tmps) = true then Oper.wp P o a w K Q else E := hF.out.elim
/-- What is handed to the walks. -/
structure NextQ (bb : Nat) (p : Pow) (mem : List UInt8) (t : Talk) (q : ByteArray) (x0 x1 x2 x3 : UInt8) (nx : Nat) (p1 : Pow) (m1 : List UInt8) (ok : Bool) (out : List UInt8) : Prop where
  hl : 4 ≤ q.size ∧ q.size ≤ 69
  i0 : q.data.toList.getD 0 0 = x0
  i1 : q.data.toList.getD 1 0 = x1
  i2 : q.data.toList.getD 2 0 = x2
  i3 : q.data.toList.getD 3 0 = x3
  n1 : x3 ≠ 1
  nx : (t.num + 1).toNat = nx
  opn : t.opn = true
  ses : x0.toNat * 256 + x1.toNat = t.ses
  num : x2 = t.num + 1
  ask : askOk q.data.toList = true
  do_ : ∀ w', StoAt w' bb p mem → Calls Tryz.prog 93 #[.pointer (some ⟨bb, 0, none⟩), .int .u8 (x3.toNat : Int), .string (q.extract 4 q.size)] w' (StrEnd w' bb (p1, m1, ok) out)
  ol : out.length ≤ 65
set_option maxRecDepth 100000 in
set_option maxHeartbeats 2000000 in
theorem next_yes (bb : Nat) (p : Pow) (mem : List UInt8) (t : Talk) (q : ByteArray) (x0 x1 x2 x3 : UInt8) (nx : Nat) (p1 : Pow) (m1 : List UInt8) (out : List UInt8) (w : World) (h : StoAt w bb p mem) (ht : TalkAt w bb t) (N : NextQ bb p mem t q x0 x1 x2 x3 nx p1 m1 true out) :
    Calls Tryz.prog 73 #[.pointer (some ⟨bb, 0, none⟩), .string q] w (AnsEnd w bb (p1, m1, ⟨true, t.ses, x2, frameF (q.data.toList.take 3 ++ out)⟩, frameF (q.data.toList.take 3 ++ out), true)) := by
  obtain ⟨k1, k2⟩ := N.hl
  have HA := hideIt (isAsking_any q w (by omega))
  rw [N.ask] at HA
  have hlt := h.lt
  have hx0 : q[0]'(by omega) = x0 := (ba_get q 0 (by omega)).symm.trans N.i0
  have hx1 : q[1]'(by omega) = x1 := (ba_get q 1 (by omega)).symm.trans N.i1
  have hx2 : q[2]'(by omega) = x2 := (ba_get q 2 (by omega)).symm.trans N.i2
  have hx3 : q[3]'(by omega) = x3 := (ba_get q 3 (by omega)).symm.trans N.i3
  have hl0 := x0.toNat_lt
  have hl1 := x1.toNat_lt
  have hor := or_bytes2 (x0.toNat : Int) (x1.toNat : Int) (by omega) (by omega) (by omega) (by omega)
  have hn1 : ((x3.toNat : Int) == 1) = false := (u8_eq x3 1 (by decide)).trans (decide_eq_false N.n1)
  have t0 := ht.t0
  rw [N.opn] at t0
  have t1 := ht.t1
  have t2 := ht.t2
  have t3 := ht.t3
  have f2 := ht.fz 1354
  have f3 := ht.fz 1355
  have hse : ((256 : Int) * (x0.toNat : Int) + (x1.toNat : Int) != (t.ses : Int)) = false := by have := N.ses; simp; omega
  have hnl := t.num.toNat_lt
  have hwr : IntKind.u8.wrap ((t.num.toNat : Int) + 1) = (nx : Int) := by
    rw [← N.nx, UInt8.toNat_add, IntKind.wrap_u8]
    show _ = (((t.num.toNat + 1) % 256 : Nat) : Int)
    omega
  have hx2n : x2.toNat = nx := by rw [N.num]; exact N.nx
  have hne : ¬ x2.toNat = t.num.toNat := by
    have h1 := N.nx
    rw [UInt8.toNat_add] at h1
    have h2 : (t.num.toNat + 1) % 256 = nx := h1
    omega
  have hsa : ((x2.toNat : Int) == (t.num.toNat : Int)) = false := by simp; omega
  have hnx2 : ((x2.toNat : Int) != (nx : Int)) = false := by simp; omega
  have HS := hideIt (And.intro h ht)
  have q4 : (4 : Int) ≤ (q.size : Int) := by omega
  have q69 : (q.size : Int) ≤ 69 := by omega
  have HD := hideIt N.do_
  have he3 : (q.extract 0 3).size = 3 := by rw [ByteArray.size_extract]; omega
  have HO := hideIt N.opn
  have HFR := hideIt (fun w' => frame_of q out (by omega) N.ol w')
  obtain ⟨FR, hFR⟩ : ∃ FR, frameF (q.data.toList.take 3 ++ out) = FR := ⟨_, rfl⟩
  rw [hFR] at HFR ⊢
  obtain ⟨ol, hol⟩ : ∃ ol, (txt out).size = ol := ⟨_, rfl⟩
  have hol65 : ol ≤ 65 := by rw [← hol, txtB_size]; exact N.ol
  clear h ht N hFR hx2n hne
  go_enter Tryz.func73, Tryz.ntmps73
  go_wp2_with fail
  refine HA.out.mono ?_
  rintro e w1 ⟨rfl, rfl⟩
  go_wp2_with fail
  go_quiet (fail)
  go_wp2_with fail
  go_quiet (fail)
  go_wp2_with fail
  go_region_with (first | (go_at_call 93; refine (HD.out _ ((HS.out.1.drewN _).setOut 1354 (by omega) _).drew).mono ?_; rintro e wz ⟨he, h1, h2⟩; obtain rfl := endT_yes he; have hTz := TalkAt.within ((HS.out.2.drewN _).setNum x2).drew h2; have HZ := hideIt (And.intro h1 (And.intro hTz h2)); clear h1 hTz h2) | (go_at_call 92; refine (HFR.out _).mono ?_; rintro e wy ⟨rfl, hby⟩; have c5 := (HZ.out.2.1.kept (hby.block bb HZ.out.1.lt)).t3; have f5 := (HZ.out.2.1.kept (hby.block bb HZ.out.1.lt)).fz 1355))
  all_goals
    go_wp2
    go_ret
    refine ⟨rfl, (HZ.out.1.below hby).setOut 1355 (by omega) _, ?_, ?_⟩
    · have := (HZ.out.2.1.kept (hby.block bb HZ.out.1.lt)).setAns FR
      rw [HO.out] at this
      exact this
    · exact (((((KeptE.refl _ bb).drewN _).trans (KeptE.set _ bb 1354 _ (by omega))).drew.trans HZ.out.2.2.keptE).trans (KeptE.below hby HZ.out.1.lt)).trans (KeptE.set _ bb 1355 _ (by omega))
end Go.Proofs.YthokdbcpkmcieaaGreat
namespace Go.Proofs.YthokdbcpkmcieaaGreat
open Go Go.RowKit
set_option maxRecDepth 100000 in
set_option maxHeartbeats 2000000 in
theorem next_no (bb : Nat) (p : Pow) (mem : List UInt8) (t : Talk) (q : ByteArray) (x0 x1 x2 x3 : UInt8) (nx : Nat) (p1 : Pow) (m1 : List UInt8) (out : List UInt8) (w : World) (h : StoAt w bb p mem) (ht : TalkAt w bb t) (N : NextQ bb p mem t q x0 x1 x2 x3 nx p1 m1 false out) :
    Calls Tryz.prog 73 #[.pointer (some ⟨bb, 0, none⟩), .string q] w (AnsEnd w bb (p1, m1, ⟨true, t.ses, x2, t.ans⟩, [], false)) := by
  obtain ⟨k1, k2⟩ := N.hl
  have HA := hideIt (isAsking_any q w (by omega))
  rw [N.ask] at HA
  have hlt := h.lt
  have hx0 : q[0]'(by omega) = x0 := (ba_get q 0 (by omega)).symm.trans N.i0
  have hx1 : q[1]'(by omega) = x1 := (ba_get q 1 (by omega)).symm.trans N.i1
  have hx2 : q[2]'(by omega) = x2 := (ba_get q 2 (by omega)).symm.trans N.i2
  have hx3 : q[3]'(by omega) = x3 := (ba_get q 3 (by omega)).symm.trans N.i3
  have hl0 := x0.toNat_lt
  have hl1 := x1.toNat_lt
  have hor := or_bytes2 (x0.toNat : Int) (x1.toNat : Int) (by omega) (by omega) (by omega) (by omega)
  have hn1 : ((x3.toNat : Int) == 1) = false := (u8_eq x3 1 (by decide)).trans (decide_eq_false N.n1)
  have t0 := ht.t0
  rw [N.opn] at t0
  have t1 := ht.t1
  have t2 := ht.t2
  have t3 := ht.t3
  have f2 := ht.fz 1354
  have f3 := ht.fz 1355
  have hse : ((256 : Int) * (x0.toNat : Int) + (x1.toNat : Int) != (t.ses : Int)) = false := by have := N.ses; simp; omega
  have hnl := t.num.toNat_lt
  have hwr : IntKind.u8.wrap ((t.num.toNat : Int) + 1) = (nx : Int) := by
    rw [← N.nx, UInt8.toNat_add, IntKind.wrap_u8]
    show _ = (((t.num.toNat + 1) % 256 : Nat) : Int)
    omega
  have hx2n : x2.toNat = nx := by rw [N.num]; exact N.nx
  have hne : ¬ x2.toNat = t.num.toNat := by
    have h1 := N.nx
    rw [UInt8.toNat_add] at h1
    have h2 : (t.num.toNat + 1) % 256 = nx := h1
    omega
  have hsa : ((x2.toNat : Int) == (t.num.toNat : Int)) = false := by simp; omega
  have hnx2 : ((x2.toNat : Int) != (nx : Int)) = false := by simp; omega
  have HS := hideIt (And.intro h ht)
  have q4 : (4 : Int) ≤ (q.size : Int) := by omega
  have q69 : (q.size : Int) ≤ 69 := by omega
  have q3 : (3 : Int) ≤ (q.size : Int) := by omega
  have q3n : 3 ≤ q.size := by omega
  have HD := hideIt N.do_
  have he3 : (q.extract 0 3).size = 3 := by rw [ByteArray.size_extract]; omega
  have HO := hideIt N.opn
  have hent : ∀ args w, (callFunc 93 args).run Tryz.prog w = .ok (.enter 93 args) w := enters_of Tryz.func93 (by kernel_rfl) rfl
  have HX : Hid (∀ d w', StoAt w' bb p1 m1 → Within ((w.drewN d).setCell ⟨bb, 1354, none⟩ (.int .u8 (x2.toNat : Int))).drew w' bb 1 1267 → AnsEnd w bb (p1, m1, ⟨true, t.ses, x2, t.ans⟩, [], false) (.panicked [{ v := .iface 129 (.agg #[]), recovered := false }]) w') := by
    intro d w' h1 h2
    refine ⟨rfl, h1, ?_, ?_⟩
    · have := TalkAt.within ((HS.out.2.drewN _).setNum x2).drew h2
      rw [HO.out] at this
      exact this
    · exact (((KeptE.refl _ bb).drewN _).trans (KeptE.set _ bb 1354 _ (by omega))).drew.trans h2.keptE
  clear h ht N hx2n hne
  go_enter Tryz.func73, Tryz.ntmps73
  go_wp2_with fail
  refine HA.out.mono ?_
  rintro e w1 ⟨rfl, rfl⟩
  go_wp2_with fail
  go_quiet (fail)
  go_wp2_with fail
  go_quiet (fail)
  go_wp2_with fail
  go_region_law (first | (refine step_noneV (.tuple #[.string ⟨#[]⟩, .int .i64 0]) HFF ?_) | (refine step_diesV (.string ⟨#[]⟩) 93 #[.pointer (some ⟨bb, 0, none⟩), .int .u8 (x3.toNat : Int), .string (q.extract 4 q.size)] rfl (by simp [go_sem, hent]) _ (HD.out _ ((HS.out.1.drewN _).setOut 1354 (by omega) _).drew) (fun e w' hh => ⟨_, endT_no hh.1, rfl, HX.out _ w' hh.2.1 hh.2.2⟩) ?_; intro HFF))
  all_goals exact HFF.out.elim
end Go.Proofs.YthokdbcpkmcieaaGreat
namespace Go.Proofs.YthokdbcpkmcieaaGreat
open Go Go.RowKit
theorem answer_any (bb : Nat) (p : Pow) (mem : List UInt8) (t : Talk) (q : ByteArray) (k : Nat) (w : World) (h : StoAt w bb p mem) (hu : Used mem k) (ht : TalkAt w bb t) (hts : t.ses < 65536) (hq : q.size ≤ 4000000) :
    Calls Tryz.prog 73 #[.pointer (some ⟨bb, 0, none⟩), .string q] w (AnsEnd w bb (answerF p mem t q.data.toList)) := by
  by_cases hk : askOk q.data.toList = true
  · obtain ⟨k1, k2, k3, k4⟩ := ask_parts hk
    by_cases h1 : q.data.toList.getD 3 0 = 1
    · exact answer_open bb p mem t q k w h hu ht hk h1
    · by_cases hway : (t.opn = false ∨ sesOf q.data.toList ≠ t.ses) ∨ q.data.toList.getD 2 0 = t.num ∨ q.data.toList.getD 2 0 ≠ t.num + 1
      · exact answer_still bb p mem t q w h ht hts hk h1 hway
      · have c1 : ¬ (t.opn = false ∨ sesOf q.data.toList ≠ t.ses) := fun e => hway (.inl e)
        have c2 : ¬ q.data.toList.getD 2 0 = t.num := fun e => hway (.inr (.inl e))
        have c3 : q.data.toList.getD 2 0 = t.num + 1 := Classical.byContradiction fun e => hway (.inr (.inr e))
        have co : t.opn = true := by
          cases ho : t.opn with
          | true => rfl
          | false => exact absurd (.inl ho) c1
        have cs : sesOf q.data.toList = t.ses := Classical.byContradiction fun e => c1 (.inr e)
        obtain ⟨d, hd⟩ : ∃ d, doF p mem (q.data.toList.getD 3 0) (q.data.toList.drop 4) = d := ⟨_, rfl⟩
        have hdo := fun w' (h' : StoAt w' bb p mem) => do_any bb p mem (q.data.toList.getD 3 0) (q.extract 4 q.size) k w' h' hu (fun e => by rw [ByteArray.size_extract]; have := k3 e; omega) (fun e => by rw [ByteArray.size_extract]; have := k4 e; omega)
        rw [baB_drop, hd] at hdo
        have hol := doF_out p mem (q.data.toList.getD 3 0) (q.data.toList.drop 4) h.len
        rw [hd] at hol
        obtain ⟨⟨p1, m1, ok⟩, out⟩ := d
        have hF : answerF p mem t q.data.toList = if ok = true then (p1, m1, ⟨true, t.ses, q.data.toList.getD 2 0, frameF (q.data.toList.take 3 ++ out)⟩, frameF (q.data.toList.take 3 ++ out), true) else (p1, m1, ⟨true, t.ses, q.data.toList.getD 2 0, t.ans⟩, [], false) := by
          unfold answerF
          rw [if_neg (by rw [hk]; simp), if_neg (fun e => c1 e.2), if_neg (fun e => c2 e.2), if_neg (fun e => e.2 c3)]
          simp only [hd, if_neg h1, co]
        rw [hF]
        have N : ∀ b, ok = b → NextQ bb p mem t q (q.data.toList.getD 0 0) (q.data.toList.getD 1 0) (q.data.toList.getD 2 0) (q.data.toList.getD 3 0) (t.num + 1).toNat p1 m1 b out := fun b hb => ⟨⟨k1, k2⟩, rfl, rfl, rfl, rfl, h1, rfl, co, cs, c3, hk, by rw [← hb]; exact hdo, hol⟩
        cases ok with
        | true => exact next_yes bb p mem t q _ _ _ _ _ p1 m1 out w h ht (N true rfl)
        | false => exact next_no bb p mem t q _ _ _ _ _ p1 m1 out w h ht (N false rfl)
  · have hk' : askOk q.data.toList = false := by simpa using hk
    have hF : answerF p mem t q.data.toList = (p, mem, t, [], true) := by unfold answerF; rw [if_pos hk']
    rw [hF]
    exact answer_none bb p mem t q w h ht hq hk'
/-- A board in memory. -/
structure BrdAt (w : World) (bb : Nat) (b : Brd) : Prop where
  c0 : w.cell? ⟨bb, 0, none⟩ = some (.bool b.on)
  sto : StoAt w bb b.pow b.mem
  ear : EarO w bb 1268 b.ear
  talk : TalkAt w bb b.talk
  used : ∃ k, Used b.mem k
  ses : b.talk.ses < 65536
  al : b.talk.ans.length ≤ 200
theorem BrdAt.kept {w w' : World} {bb : Nat} {b : Brd} (h : BrdAt w bb b) (e : w'.heap[bb]? = w.heap[bb]?) (hz : w.heap.size ≤ w'.heap.size) : BrdAt w' bb b :=
  ⟨(World.cell?_of_block (a := ⟨bb, 0, none⟩) e).trans h.c0, h.sto.kept e hz, h.ear.kept e hz, h.talk.kept e, h.used, h.ses, h.al⟩
theorem BrdAt.below {w w' : World} {bb : Nat} {b : Brd} (h : BrdAt w bb b) (hb : Below w.heap.size w w') : BrdAt w' bb b := h.kept (hb.block bb h.sto.lt) hb.size
set_option maxHeartbeats 1000000 in
theorem on_any (bb : Nat) (b : Brd) (w : World) (h : BrdAt w bb b) : Calls Tryz.prog 57 #[.pointer (some ⟨bb, 0, none⟩)] w fun e w' => e = .returned (.bool b.on) ∧ w' = w := by
  have c0 := h.c0
  clear h
  go_enter Tryz.func57, Tryz.ntmps57
  go_wp2
  go_ret
  exact ⟨rfl, rfl⟩
set_option maxHeartbeats 1000000 in
theorem flash_any (bb : Nat) (b : Brd) (w : World) (h : BrdAt w bb b) : Calls Tryz.prog 58 #[.pointer (some ⟨bb, 0, none⟩)] w fun e w' => e = .returned (.string (txt (b.mem.take 1024))) ∧ Below w.heap.size w w' := by
  have HC := hideIt (bytes_any bb b.pow b.mem w h.sto)
  clear h
  go_enter Tryz.func58, Tryz.ntmps58
  go_wp2_with fail
  refine HC.out.mono ?_
  rintro e w1 ⟨rfl, hb⟩
  go_wp2
  go_ret
  exact ⟨rfl, hb⟩
set_option maxHeartbeats 1000000 in
theorem burnt_any (bb : Nat) (b : Brd) (w : World) (h : BrdAt w bb b) : Calls Tryz.prog 59 #[.pointer (some ⟨bb, 0, none⟩)] w fun e w' => e = .returned (.int .i64 (bitsF b.mem : Int)) ∧ Below w.heap.size w w' := by
  have HC := hideIt (burntPages_any bb b.pow b.mem w h.sto)
  have hbl : bitsF b.mem < 65536 := bitsS_lt b.mem 16
  obtain ⟨c, hc⟩ : ∃ c, bitsF b.mem = c := ⟨_, rfl⟩
  rw [hc] at HC hbl ⊢
  clear h hc
  go_enter Tryz.func59, Tryz.ntmps59
  go_wp2_with fail
  refine HC.out.mono ?_
  rintro e w1 ⟨rfl, hb⟩
  go_wp2
  go_ret
  exact ⟨rfl, hb⟩
end Go.Proofs.YthokdbcpkmcieaaGreat
namespace Go.Proofs.YthokdbcpkmcieaaGreat
open Go Go.RowKit
theorem zeroTalk_size : (Tryz.zeroCells71).size = 88 := by kernel_rfl
theorem zeroTalk_one : (Tryz.zeroCells71).all (·.oneCell') = true := by kernel_rfl
theorem Tryz.infoTalk : (Tryz.prog.info? 71).map (·.size) = some 88 := by kernel_rfl
theorem BrdAt.there {w : World} {bb : Nat} {b : Brd} (h : BrdAt w bb b) : ∀ j, j < 88 → (w.cell? ⟨bb, 1268 + j, none⟩).isSome = true ∧ w.frozen? ⟨bb, 1268 + j, none⟩ = false := by
  intro j hj
  refine ⟨?_, h.ear.fz _⟩
  by_cases h0 : j = 0
  · subst h0; rw [h.ear.c0]; rfl
  · by_cases h1 : j < 83
    · obtain ⟨v, hv⟩ := h.ear.cb (j - 1) (by omega)
      rw [show 1268 + 1 + (j - 1) = 1268 + j by omega] at hv
      rw [hv]; rfl
    · have : j = 83 ∨ j = 84 ∨ j = 85 ∨ j = 86 ∨ j = 87 := by omega
      rcases this with rfl | rfl | rfl | rfl | rfl
      · have := h.ear.c83; rw [show 1268 + 83 = 1351 from rfl] at this ⊢; rw [this]; rfl
      · rw [show 1268 + 84 = 1352 from rfl, h.talk.t0]; rfl
      · rw [show 1268 + 85 = 1353 from rfl, h.talk.t1]; rfl
      · rw [show 1268 + 86 = 1354 from rfl, h.talk.t2]; rfl
      · rw [show 1268 + 87 = 1355 from rfl, h.talk.t3]; rfl
theorem zt_at (j : Nat) (hj : j < 88) : ∃ v, (Tryz.zeroCells71)[j]? = some v := ⟨_, Array.getElem?_eq_getElem (by rw [zeroTalk_size]; exact hj)⟩
/-- The talk's cells laid anew. -/
theorem talk_anew {w : World} {bb : Nat} (ht : ∀ j, j < 88 → (w.cell? ⟨bb, 1268 + j, none⟩).isSome = true ∧ w.frozen? ⟨bb, 1268 + j, none⟩ = false) (hfz : ∀ j, w.frozen? ⟨bb, j, none⟩ = false) (hlt : bb < w.heap.size) :
    EarO (w.setCells bb 1268 (Tryz.zeroCells71).toList) bb 1268 ear0 ∧ TalkAt (w.setCells bb 1268 (Tryz.zeroCells71).toList) bb talk0 ∧ (∀ j, j < 1268 → (w.setCells bb 1268 (Tryz.zeroCells71).toList).cell? ⟨bb, j, none⟩ = w.cell? ⟨bb, j, none⟩) ∧ (∀ j, (w.setCells bb 1268 (Tryz.zeroCells71).toList).frozen? ⟨bb, j, none⟩ = w.frozen? ⟨bb, j, none⟩) ∧ w.grownBy (w.setCells bb 1268 (Tryz.zeroCells71).toList) (some bb) := by
  have hl : (Tryz.zeroCells71).toList.length = 88 := by rw [Array.length_toList]; exact zeroTalk_size
  have hin : ∀ j (hj : j < 88), (w.setCells bb 1268 (Tryz.zeroCells71).toList).cell? ⟨bb, 1268 + j, none⟩ = (Tryz.zeroCells71)[j]? := by
    intro j hj
    have := World.cell?_setCells_in bb (Tryz.zeroCells71).toList 1268 w (fun j hj => (ht j (by omega)).1) j (by omega)
    rw [this]
    rw [Array.getElem?_eq_getElem (by rw [zeroTalk_size]; exact hj)]
    simp
  have hf : ∀ j, (w.setCells bb 1268 (Tryz.zeroCells71).toList).frozen? ⟨bb, j, none⟩ = w.frozen? ⟨bb, j, none⟩ := fun j => World.frozen?_setCells _ _ _ _ _
  have hg : w.grownBy (w.setCells bb 1268 (Tryz.zeroCells71).toList) (some bb) := by
    have hz : ∀ (vs : List Value) (o : Nat) (w : World), w.grownBy (w.setCells bb o vs) (some bb) := by
      intro vs
      induction vs with
      | nil => intro o w; exact grown_refl _ _
      | cons v vs ih => intro o w; exact (grown_set w bb o v).trans (ih (o + 1) _)
    exact hz _ _ _
  refine ⟨⟨?_, ?_, fun i hi => ?_, fun i hi => by simp [ear0] at hi, fun j => (hf j).trans (hfz j), Nat.lt_of_lt_of_le hlt hg.size, ⟨(by decide : 0 ≤ 2), by simp [ear0]⟩⟩, ⟨?_, ?_, ?_, ?_, fun j => (hf j).trans (hfz j)⟩, fun j hj => World.cell?_setCells_out _ _ _ _ _ (fun _ _ => .inl hj), hf, hg⟩
  · exact hin 0 (by omega)
  · exact hin 83 (by omega)
  · obtain ⟨v, hv⟩ := zt_at (1 + i) (by omega)
    have := hin (1 + i) (by omega)
    rw [show 1268 + (1 + i) = 1268 + 1 + i by omega] at this
    exact ⟨v, this.trans hv⟩
  · exact hin 84 (by omega)
  · exact hin 85 (by omega)
  · exact hin 86 (by omega)
  · exact hin 87 (by omega)
set_option maxRecDepth 100000 in
set_option maxHeartbeats 2000000 in
theorem begin_any (bb : Nat) (b : Brd) (o : Bool) (w : World) (h : BrdAt w bb b) : Calls Tryz.prog 69 #[.pointer (some ⟨bb, 0, none⟩), .bool o] w fun e w' => e = .returned (.tuple #[]) ∧ BrdAt w' bb ⟨o, pow0, b.mem, ear0, talk0⟩ ∧ w.grownBy w' (some bb) := by
  have c0 := h.c0
  have c1 := h.sto.c1
  have c2 := h.sto.c2
  have c3 := h.sto.c3
  have f0 := h.sto.fz 0
  have f1 := h.sto.fz 1
  have f2 := h.sto.fz 2
  have f3 := h.sto.fz 3
  have HH := hideIt h
  have HT : Hid (∀ v, ((((w.setCell ⟨bb, 0, none⟩ v).setCell ⟨bb, 1, none⟩ (.bool false)).setCell ⟨bb, 2, none⟩ (.int .i64 0)).setCell ⟨bb, 3, none⟩ (.int .u8 0)).there bb 1268 88) := by
    intro v j hj
    have := h.there j hj
    refine ⟨?_, by simp [this.2]⟩
    rw [World.cell?_setCell_other _ _ _ _ (by simp <;> omega), World.cell?_setCell_other _ _ _ _ (by simp <;> omega), World.cell?_setCell_other _ _ _ _ (by simp <;> omega), World.cell?_setCell_other _ _ _ _ (by simp <;> omega)]
    exact this.1
  have hst : (storeCells ⟨bb, 1268, none⟩ (Tryz.zeroCells71).toList).run Tryz.prog ((((w.setCell ⟨bb, 0, none⟩ (.bool o)).setCell ⟨bb, 1, none⟩ (.bool false)).setCell ⟨bb, 2, none⟩ (.int .i64 0)).setCell ⟨bb, 3, none⟩ (.int .u8 0)) = .ok () (((((w.setCell ⟨bb, 0, none⟩ (.bool o)).setCell ⟨bb, 1, none⟩ (.bool false)).setCell ⟨bb, 2, none⟩ (.int .i64 0)).setCell ⟨bb, 3, none⟩ (.int .u8 0)).setCells bb 1268 (Tryz.zeroCells71).toList) := by
    have hl : (Tryz.zeroCells71).toList.length = 88 := by rw [Array.length_toList]; exact zeroTalk_size
    have := run_storeCells_cells (P := Tryz.prog) bb 1268 (Tryz.zeroCells71).toList 0 ((((w.setCell ⟨bb, 0, none⟩ (.bool o)).setCell ⟨bb, 1, none⟩ (.bool false)).setCell ⟨bb, 2, none⟩ (.int .i64 0)).setCell ⟨bb, 3, none⟩ (.int .u8 0)) (fun j hj => by simpa using (HT.out (.bool o) j (by omega)).1) (fun j hj => by simpa using (HT.out (.bool o) j (by omega)).2) (fun v hv => (Array.all_eq_true_iff_forall_mem.1 zeroTalk_one) v (by simpa using hv))
    exact this
  have HB : Hid (BrdAt (((((w.setCell ⟨bb, 0, none⟩ (.bool o)).setCell ⟨bb, 1, none⟩ (.bool false)).setCell ⟨bb, 2, none⟩ (.int .i64 0)).setCell ⟨bb, 3, none⟩ (.int .u8 0)).setCells bb 1268 (Tryz.zeroCells71).toList) bb ⟨o, pow0, b.mem, ear0, talk0⟩ ∧ w.grownBy (((((w.setCell ⟨bb, 0, none⟩ (.bool o)).setCell ⟨bb, 1, none⟩ (.bool false)).setCell ⟨bb, 2, none⟩ (.int .i64 0)).setCell ⟨bb, 3, none⟩ (.int .u8 0)).setCells bb 1268 (Tryz.zeroCells71).toList) (some bb)) := by
    have hfz : ∀ j, ((((w.setCell ⟨bb, 0, none⟩ (.bool o)).setCell ⟨bb, 1, none⟩ (.bool false)).setCell ⟨bb, 2, none⟩ (.int .i64 0)).setCell ⟨bb, 3, none⟩ (.int .u8 0)).frozen? ⟨bb, j, none⟩ = false := fun j => by simp [h.sto.fz j]
    obtain ⟨a1, a2, a3, a4, a5⟩ := talk_anew (HT.out (.bool o)) hfz (by simpa [World.setCell] using h.sto.lt)
    refine ⟨⟨?_, ⟨?_, ?_, ?_, ?_, h.sto.len, (by decide : 0 ≤ 9223372036854775807), fun j => (a4 j).trans (hfz j), a1.lt⟩, a1, a2, h.used, (by decide : 0 < 65536), by simp [talk0]⟩, (((grown_set _ _ _ _).trans (grown_set _ _ _ _)).trans ((grown_set _ _ _ _).trans (grown_set _ _ _ _))).trans a5⟩
    · rw [a3 0 (by omega), World.cell?_setCell_other _ _ _ _ (by simp), World.cell?_setCell_other _ _ _ _ (by simp), World.cell?_setCell_other _ _ _ _ (by simp)]
      exact World.cell?_setCell_same _ _ _ c0
    · rw [a3 1 (by omega), World.cell?_setCell_other _ _ _ _ (by simp), World.cell?_setCell_other _ _ _ _ (by simp)]
      exact World.cell?_setCell_same _ _ _ ((World.cell?_setCell_other _ _ _ _ (by simp)).trans c1)
    · rw [a3 2 (by omega), World.cell?_setCell_other _ _ _ _ (by simp)]
      exact World.cell?_setCell_same _ _ _ (((World.cell?_setCell_other _ _ _ _ (by simp)).trans (World.cell?_setCell_other _ _ _ _ (by simp))).trans c2)
    · rw [a3 3 (by omega)]
      exact World.cell?_setCell_same _ _ _ ((((World.cell?_setCell_other _ _ _ _ (by simp)).trans (World.cell?_setCell_other _ _ _ _ (by simp))).trans (World.cell?_setCell_other _ _ _ _ (by simp))).trans c3)
    · intro i hi
      have hlen := h.sto.len
      have hi' : i < b.mem.length := hi
      rw [a3 (4 + i) (by omega), World.cell?_setCell_other _ _ _ _ (by simp <;> omega), World.cell?_setCell_other _ _ _ _ (by simp <;> omega), World.cell?_setCell_other _ _ _ _ (by simp <;> omega), World.cell?_setCell_other _ _ _ _ (by simp <;> omega)]
      exact h.sto.cm i hi
  clear h HH HT
  go_enter Tryz.func69, Tryz.ntmps69
  go_wp2
  go_end0
  exact ⟨rfl, HB.out.1, HB.out.2⟩
set_option maxHeartbeats 1000000 in
theorem boot_any (bb : Nat) (b : Brd) (w : World) (h : BrdAt w bb b) : Calls Tryz.prog 56 #[.pointer (some ⟨bb, 0, none⟩)] w fun e w' => e = .returned (.tuple #[]) ∧ BrdAt w' bb (bootF b) ∧ w.grownBy w' (some bb) := by
  have HC := hideIt (begin_any bb b true w h)
  clear h
  go_enter Tryz.func56, Tryz.ntmps56
  go_wp2_with fail
  refine HC.out.mono ?_
  rintro e w1 ⟨rfl, h1, h2⟩
  have HQ := hideIt (And.intro h1 h2)
  clear h1 h2
  go_wp2
  go_end0
  exact ⟨rfl, HQ.out.1, HQ.out.2⟩
end Go.Proofs.YthokdbcpkmcieaaGreat
namespace Go.Proofs.YthokdbcpkmcieaaGreat
open Go Go.RowKit
def mk8 (m : Int) : UInt8 := UInt8.ofNat (m % 256).toNat
theorem mk8_wrap (m : Int) : IntKind.u8.wrap m = ((mk8 m).toNat : Int) := by
  unfold mk8
  rw [IntKind.wrap_u8, UInt8.toNat_ofNat']
  omega
theorem Tryz.infoPow : (Tryz.prog.info? 56).map (·.size) = some 3 := by kernel_rfl
set_option maxRecDepth 100000 in
set_option maxHeartbeats 1000000 in
theorem cutBehind_any (n m : Int) (hn1 : -9223372036854775808 ≤ n) (hn2 : n ≤ 9223372036854775807) (w : World) : Calls Tryz.prog 81 #[.int .i64 n, .int .i64 m] w fun e w' => e = .returned (.agg #[.bool true, .int .i64 (n.toNat : Int), .int .u8 ((mk8 m).toNat : Int)]) ∧ Below w.heap.size w w' := by
  have hw := mk8_wrap m
  obtain ⟨k, hk⟩ : ∃ k, (mk8 m).toNat = k := ⟨_, rfl⟩
  rw [hk] at hw ⊢
  by_cases h : n < 0
  · have e : ((n.toNat : Nat) : Int) = 0 := by omega
    rw [e]
    go_enter Tryz.func81, Tryz.ntmps81
    go_wp2
    refine bodyPost_ret (results_cell_row rfl _ _ w.heap.size 56 _ (0, 0) _ rfl (heap_alloc_new w _) Tryz.underlying56 rfl Tryz.infoPow) rfl ?_
    exact ⟨rfl, (Below.refl _ _).alloc (Nat.le_refl _) _⟩
  · have e : ((n.toNat : Nat) : Int) = n := by omega
    rw [e]
    go_enter Tryz.func81, Tryz.ntmps81
    go_wp2
    refine bodyPost_ret (results_cell_row rfl _ _ w.heap.size 56 _ (0, 0) _ rfl (heap_alloc_new w _) Tryz.underlying56 rfl Tryz.infoPow) rfl ?_
    exact ⟨rfl, (Below.refl _ _).alloc (Nat.le_refl _) _⟩
theorem StoAt.setPow {w : World} {bb : Nat} {p : Pow} {mem : List UInt8} (h : StoAt w bb p mem) (n : Nat) (hn : n ≤ 9223372036854775807) (m : UInt8) : StoAt (((w.setCell ⟨bb, 1, none⟩ (.bool true)).setCell ⟨bb, 2, none⟩ (.int .i64 (n : Int))).setCell ⟨bb, 3, none⟩ (.int .u8 (m.toNat : Int))) bb ⟨true, n, m⟩ mem := by
  have ho : ∀ j, 4 ≤ j → (((w.setCell ⟨bb, 1, none⟩ (.bool true)).setCell ⟨bb, 2, none⟩ (.int .i64 (n : Int))).setCell ⟨bb, 3, none⟩ (.int .u8 (m.toNat : Int))).cell? ⟨bb, j, none⟩ = w.cell? ⟨bb, j, none⟩ := fun j hj => by
    rw [World.cell?_setCell_other _ _ _ _ (by simp <;> omega), World.cell?_setCell_other _ _ _ _ (by simp <;> omega), World.cell?_setCell_other _ _ _ _ (by simp <;> omega)]
  refine ⟨?_, ?_, ?_, fun k hk => (ho _ (by omega)).trans (h.cm k hk), h.len, hn, fun j => by simp [h.fz j], by simpa [World.setCell] using h.lt⟩
  · rw [World.cell?_setCell_other _ _ _ _ (by simp), World.cell?_setCell_other _ _ _ _ (by simp)]
    exact World.cell?_setCell_same _ _ _ h.c1
  · rw [World.cell?_setCell_other _ _ _ _ (by simp)]
    exact World.cell?_setCell_same _ _ _ ((World.cell?_setCell_other _ _ _ _ (by simp)).trans h.c2)
  · exact World.cell?_setCell_same _ _ _ (((World.cell?_setCell_other _ _ _ _ (by simp)).trans (World.cell?_setCell_other _ _ _ _ (by simp))).trans h.c3)
set_option maxRecDepth 100000 in
set_option maxHeartbeats 1000000 in
theorem cut_any (bb : Nat) (b : Brd) (n m : Int) (hn1 : -9223372036854775808 ≤ n) (hn2 : n ≤ 9223372036854775807) (w : World) (h : BrdAt w bb b) : Calls Tryz.prog 55 #[.pointer (some ⟨bb, 0, none⟩), .int .i64 n, .int .i64 m] w fun e w' => e = .returned (.tuple #[]) ∧ BrdAt w' bb (cutF b n (mk8 m)) ∧ w.grownBy w' (some bb) := by
  have c0 := h.c0
  by_cases ho : b.on = true
  · have e : cutF b n (mk8 m) = ⟨true, ⟨true, n.toNat, mk8 m⟩, b.mem, b.ear, b.talk⟩ := by unfold cutF; rw [if_pos ho]
    rw [e]
    rw [ho] at c0
    have HC := hideIt (cutBehind_any n m hn1 hn2 w)
    have HH : Hid (∀ w1, Below w.heap.size w w1 → BrdAt (((w1.setCell ⟨bb, 1, none⟩ (.bool true)).setCell ⟨bb, 2, none⟩ (.int .i64 (n.toNat : Int))).setCell ⟨bb, 3, none⟩ (.int .u8 ((mk8 m).toNat : Int))) bb ⟨true, ⟨true, n.toNat, mk8 m⟩, b.mem, b.ear, b.talk⟩) := by
      intro w1 hb
      have h1 := h.below hb
      have hs := h1.sto.setPow n.toNat (by omega) (mk8 m)
      have hoth : ∀ j, j = 0 ∨ 4 ≤ j → (((w1.setCell ⟨bb, 1, none⟩ (.bool true)).setCell ⟨bb, 2, none⟩ (.int .i64 (n.toNat : Int))).setCell ⟨bb, 3, none⟩ (.int .u8 ((mk8 m).toNat : Int))).cell? ⟨bb, j, none⟩ = w1.cell? ⟨bb, j, none⟩ := fun j hj => by
        rw [World.cell?_setCell_other _ _ _ _ (by simp <;> omega), World.cell?_setCell_other _ _ _ _ (by simp <;> omega), World.cell?_setCell_other _ _ _ _ (by simp <;> omega)]
      refine ⟨?_, hs, h1.ear.same (fun j h1 h2 => hoth j (by omega)) (fun j => by simp) (by simp [World.setCell]), h1.talk.same (fun j h1 h2 => hoth j (by omega)) (fun j => by simp), h1.used, h1.ses, h1.al⟩
      rw [hoth 0 (.inl rfl), h1.c0, ho]
    have hk : ∀ w1, Below w.heap.size w w1 → BrdAt w1 bb b := fun w1 hb => h.below hb
    have HK := hideIt hk
    obtain ⟨nn, hnn⟩ : ∃ nn : Nat, n.toNat = nn := ⟨_, rfl⟩
    obtain ⟨mm, hmm⟩ : ∃ mm : Nat, (mk8 m).toNat = mm := ⟨_, rfl⟩
    obtain ⟨R, hR⟩ : ∃ R : Brd, (⟨true, ⟨true, n.toNat, mk8 m⟩, b.mem, b.ear, b.talk⟩ : Brd) = R := ⟨_, rfl⟩
    rw [hR] at HH ⊢
    rw [hnn, hmm] at HC HH
    clear h e hnn hmm hR hk
    go_enter Tryz.func55, Tryz.ntmps55
    go_wp2_with fail
    refine HC.out.mono ?_
    rintro e w1 ⟨rfl, hb1⟩
    have k1 := (HK.out w1 hb1).sto.c1
    have k2 := (HK.out w1 hb1).sto.c2
    have k3 := (HK.out w1 hb1).sto.c3
    have f1 := (HK.out w1 hb1).sto.fz 1
    have f2 := (HK.out w1 hb1).sto.fz 2
    have f3 := (HK.out w1 hb1).sto.fz 3
    have HB := hideIt hb1
    clear hb1 HC
    go_wp2
    go_end0
    refine ⟨rfl, HH.out w1 HB.out, ?_⟩
    exact (World.grownBy.trans ⟨HB.out.os, HB.out.tape, HB.out.output, HB.out.size, fun k hk _ => HB.out.block k hk⟩ (((grown_set _ _ _ _).trans (grown_set _ _ _ _)).trans (grown_set _ _ _ _)))
  · have hof : b.on = false := by simpa using ho
    have e : cutF b n (mk8 m) = b := by unfold cutF; rw [if_neg ho]
    rw [e]
    rw [hof] at c0
    have HH := hideIt h
    clear h e
    go_enter Tryz.func55, Tryz.ntmps55
    go_wp2
    go_end0
    exact ⟨rfl, HH.out, grown_refl _ _⟩
end Go.Proofs.YthokdbcpkmcieaaGreat
namespace Go.Proofs.YthokdbcpkmcieaaGreat
open Go Go.RowKit
theorem Tryz.infoBld : (Tryz.prog.info? 127).map (·.size) = some 2 := by kernel_rfl
theorem Tryz.liesBld : liesAt Tryz.prog Tryz.prog.depth 127 (2 / Tryz.prog.cellsOf 127) 0 127 1 = true := by kernel_rfl
set_option maxHeartbeats 1000000 in
set_option maxRecDepth 100000 in
theorem copyCheck_used (b : Nat) (w : World) (h0 : w.cell? ⟨b, 0, none⟩ = some (.pointer (some ⟨b, 0, none⟩))) :
    Calls Tryz.prog 90 #[.pointer (some ⟨b, 0, none⟩)] w fun e w' => e = .returned (.tuple #[]) ∧ w' = w := by
  obtain ⟨j, hj, _⟩ := Option.map_eq_some_iff.1 Tryz.infoBld
  go_enter Tryz.func90, Tryz.ntmps90
  go_wp2
  rw [Lib.run_neq_ptr_same w _ Tryz.underlying125 hj]
  go_wp2
  go_end0
  exact ⟨rfl, rfl⟩
set_option maxHeartbeats 1000000 in
set_option maxRecDepth 100000 in
theorem copyCheck_fresh (b : Nat) (w : World) (h0 : w.cell? ⟨b, 0, none⟩ = some (.pointer none)) (hsh : w.shape? b = some (127, 2)) (hfz : w.frozen? ⟨b, 0, none⟩ = false) :
    Calls Tryz.prog 90 #[.pointer (some ⟨b, 0, none⟩)] w fun e w' => e = .returned (.tuple #[]) ∧ w' = w.setCell ⟨b, 0, none⟩ (.pointer (some ⟨b, 0, none⟩)) := by
  obtain ⟨j, hj, hjs⟩ := Option.map_eq_some_iff.1 Tryz.infoBld
  go_enter Tryz.func90, Tryz.ntmps90
  go_wp2
  rw [Lib.run_to_unsafe w ⟨b, 0, none⟩ Tryz.underlying125 Tryz.underlying163 hj (by rw [hjs]; decide) hsh (Nat.zero_lt_succ 1)]
  simp only [Result.andThen]
  rw [Oper.upon_value]
  go_wp2
  rw [run_callFunc_extern Tryz.func107 (by kernel_rfl) (by kernel_rfl) (by kernel_rfl) (e := Extern.AbiNoEscape.same) (by kernel_rfl)]
  rw [Lib.run_noEscape]
  simp only [Result.andThen]
  rw [Oper.upon_value]
  go_wp2
  rw [Lib.run_from_unsafe w ⟨b, 0, none⟩ Tryz.underlying163 Tryz.underlying125 hj hsh Tryz.liesBld]
  simp only [Result.andThen]
  rw [Oper.upon_value]
  go_wp2
  go_end0
  exact ⟨rfl, rfl⟩
theorem copyCheck_any (B b : Nat) (bs : List Value) (w : World) (h : Lib.IsBuilderF 127 5 B b bs w) :
    Calls Tryz.prog 90 #[.pointer (some ⟨b, 0, none⟩)] w fun e w' => e = .returned (.tuple #[]) ∧ (Lib.BuilderAtF 127 5 B b (.pointer (some ⟨b, 0, none⟩)) bs w' ∧ Below B w w' ∧ Lib.OthersKept 5 (some b) w w') := by
  rcases h with h | h
  · refine (copyCheck_fresh b w h.cell0 h.shape h.frozen0).mono ?_
    rintro e w' ⟨rfl, rfl⟩
    exact ⟨rfl, h.used _, (Below.refl B w).setCell (p := ⟨b, 0, none⟩) h.1 _, (Lib.OthersKept.refl _ _ w).setCell ⟨b, 0, none⟩ rfl _⟩
  · refine (copyCheck_used b w h.cell0).mono ?_
    rintro e w' ⟨rfl, rfl⟩
    exact ⟨rfl, h, Below.refl B _, Lib.OthersKept.refl _ _ _⟩
set_option maxHeartbeats 2000000 in
set_option maxRecDepth 100000 in
theorem writeString_any (B b : Nat) (bs : List Value) (s : ByteArray) (w : World) (h : Lib.IsBuilderF 127 5 B b bs w) (hlen : bs.length + s.size ≤ 140737488355328) (hBw : B ≤ w.heap.size) :
    Calls Tryz.prog 72 #[.pointer (some ⟨b, 0, none⟩), .string s] w fun e w' => e = .returned (.tuple #[.int .i64 s.size, .nilIface]) ∧ (Lib.BuilderAtF 127 5 B b (.pointer (some ⟨b, 0, none⟩)) (bs ++ Lib.strCells s) w' ∧ Below B w w' ∧ Lib.OthersKept 5 (some b) w w') := by
  obtain ⟨i0, hi, hz0, hz1, hz2⟩ := info_of Tryz.infoU8
  go_enter Tryz.func72, Tryz.ntmps72
  go_wp2_with (go_at_call 90; refine (copyCheck_any B b bs _ h).mono ?_)
  rintro e w1 ⟨rfl, h1, hb1, hk1⟩
  obtain ⟨hB, v, hbk, hown, hne⟩ := h1
  have c0 : w1.cell? ⟨b, 0, none⟩ = some (.pointer (some ⟨b, 0, none⟩)) := by rw [Lib.cell_of_heap hbk]; rfl
  have c1 : w1.cell? ⟨b, 1, none⟩ = some v := by rw [Lib.cell_of_heap hbk]; rfl
  go_wp2_with (at_builtin; refine Lib.wpList_append_own_stringF _ rfl _ _ 24 9 rfl B 5 i0 Tryz.underlying24 Tryz.underlying9 hi hz0 hz1 hz2 _ _ _ rfl hown s rfl ?c3 ?c4 ?c5 ?_)
  case c3 => unfold maxLen; omega
  case c4 => omega
  case c5 => have := hb1.size; omega
  intro v' w2 hown' hgrow _
  have hlt : b < w1.heap.size := by
    rcases Nat.lt_or_ge b w1.heap.size with h' | h'
    · exact h'
    · simp [Array.getElem?_eq_none h'] at hbk
  have hb2 : w2.heap[b]? = some (.cells #[.pointer (some ⟨b, 0, none⟩), v] 127 (0, 0)) := by
    rw [hgrow.block b hlt (fun e => hne e.symm)]
    exact hbk
  have d0 : w2.cell? ⟨b, 0, none⟩ = some (.pointer (some ⟨b, 0, none⟩)) := by rw [Lib.cell_of_heap hb2]; rfl
  have d1 : w2.cell? ⟨b, 1, none⟩ = some v := by rw [Lib.cell_of_heap hb2]; rfl
  have f1 : w2.frozen? ⟨b, 1, none⟩ = false := Lib.frozen_of_heap hb2 1
  obtain ⟨ao, n', cap, rfl⟩ : ∃ ao n' cap, v' = .slice ao n' cap := by
    rcases hown'.2 with ⟨hv, _⟩ | ⟨g, cap, cur, fz, hv, _⟩
    · exact ⟨_, _, _, hv⟩
    · exact ⟨_, _, _, hv⟩
  go_wp2
  go_ret2
  refine ⟨rfl, ?_, ?_, (hk1.grown hgrow (Lib.ownsRowF_kind hown)).setCell ⟨b, 1, none⟩ rfl _⟩
  · exact Lib.BuilderAtF.put (T := 127) (e := 5) hB hb2 (bs' := bs ++ Lib.strCells s) (by simpa [Lib.strCells_length] using hown') (by decide)
  · exact (hb1.grown hgrow (by have := hb1.size; omega) (fun k hk => (hown.lt k hk).1)).setCell (p := ⟨b, 1, none⟩) hB _
end Go.Proofs.YthokdbcpkmcieaaGreat
