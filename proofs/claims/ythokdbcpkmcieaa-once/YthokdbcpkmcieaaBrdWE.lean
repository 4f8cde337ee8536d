/- The walk of answer: a message with the next number, at which the power fails. -/
import Derived.Test.YthokdbcpkmcieaaBrdWD
namespace Go.Proofs.Ythokdbcpkmcieaa
open Go Go.RowKit
set_option maxRecDepth 100000 in
set_option maxHeartbeats 2000000 in
theorem next_no (bb : Nat) (p : Pow) (mem : List UInt8) (t : Talk) (q : ByteArray) (x0 x1 x2 x3 : UInt8) (nx : Nat) (p1 : Pow) (m1 : List UInt8) (out : List UInt8) (w : World) (h : StoAt w bb p mem) (ht : TalkAt w bb t) (N : NextQ bb p mem t q x0 x1 x2 x3 nx p1 m1 false out) :
    Calls Try.prog 53 #[.pointer (some ⟨bb, 0, none⟩), .string q] w (AnsEnd w bb (p1, m1, ⟨true, t.ses, x2, t.ans⟩, [], false)) := by
  obtain ⟨k1, k2⟩ := N.hl
  have HA := hideIt (isAsking_any q w (by omega))
  rw [N.ask] at HA
  have hlt := h.lt
  have hx0 : q[0]'(by omega) = x0 := (ba_get q 0 (by omega)).symm.trans N.i0
  have hx1 : q[1]'(by omega) = x1 := (ba_get q 1 (by omega)).symm.trans N.i1
  have hx2 : q[2]'(by omega) = x2 := (ba_get q 2 (by omega)).symm.trans N.i2
  have hx3 : q[3]'(by omega) = x3 := (ba_get q 3 (by omega)).symm.trans N.i3
  have hl0 := x0.toNat_lt
  have hl1 := x1.toNat_lt
  have hor := or_bytes2 (x0.toNat : Int) (x1.toNat : Int) (by omega) (by omega) (by omega) (by omega)
  have hn1 : ((x3.toNat : Int) == 1) = false := (u8_eq x3 1 (by decide)).trans (decide_eq_false N.n1)
  have t0 := ht.t0
  rw [N.opn] at t0
  have t1 := ht.t1
  have t2 := ht.t2
  have t3 := ht.t3
  have f2 := ht.fz 1354
  have f3 := ht.fz 1355
  have hse : ((256 : Int) * (x0.toNat : Int) + (x1.toNat : Int) != (t.ses : Int)) = false := by have := N.ses; simp; omega
  have hnl := t.num.toNat_lt
  have hwr : IntKind.u8.wrap ((t.num.toNat : Int) + 1) = (nx : Int) := by
    rw [← N.nx, UInt8.toNat_add, IntKind.wrap_u8]
    show _ = (((t.num.toNat + 1) % 256 : Nat) : Int)
    omega
  have hx2n : x2.toNat = nx := by rw [N.num]; exact N.nx
  have hne : ¬ x2.toNat = t.num.toNat := by
    have h1 := N.nx
    rw [UInt8.toNat_add] at h1
    have h2 : (t.num.toNat + 1) % 256 = nx := h1
    omega
  have hsa : ((x2.toNat : Int) == (t.num.toNat : Int)) = false := by simp; omega
  have hnx2 : ((x2.toNat : Int) != (nx : Int)) = false := by simp; omega
  have HS := hideIt (And.intro h ht)
  have q4 : (4 : Int) ≤ (q.size : Int) := by omega
  have q69 : (q.size : Int) ≤ 69 := by omega
  have q3 : (3 : Int) ≤ (q.size : Int) := by omega
  have q3n : 3 ≤ q.size := by omega
  have HD := hideIt N.do_
  have he3 : (q.extract 0 3).size = 3 := by rw [ByteArray.size_extract]; omega
  have HO := hideIt N.opn
  have hent : ∀ args w, (callFunc 62 args).run Try.prog w = .ok (.enter 62 args) w := enters_of Try.func62 (by kernel_rfl) rfl
  have HX : Hid (∀ d w', StoAt w' bb p1 m1 → Within ((w.drewN d).setCell ⟨bb, 1354, none⟩ (.int .u8 (x2.toNat : Int))).drew w' bb 1 1267 → AnsEnd w bb (p1, m1, ⟨true, t.ses, x2, t.ans⟩, [], false) (.panicked [{ v := .iface 103 (.agg #[]), recovered := false }]) w') := by
    intro d w' h1 h2
    refine ⟨rfl, h1, ?_, ?_⟩
    · have := TalkAt.within ((HS.out.2.drewN _).setNum x2).drew h2
      rw [HO.out] at this
      exact this
    · exact (((KeptE.refl _ bb).drewN _).trans (KeptE.set _ bb 1354 _ (by omega))).drew.trans h2.keptE
  clear h ht N hx2n hne
  go_enter Try.func53, Try.ntmps53
  go_wp2_with fail
  refine HA.out.mono ?_
  rintro e w1 ⟨rfl, rfl⟩
  go_wp2_with fail
  go_quiet (fail)
  go_wp2_with fail
  go_quiet (fail)
  go_wp2_with fail
  go_region_law (first | (refine step_noneV (.tuple #[.string ⟨#[]⟩, .int .i64 0]) HFF ?_) | (refine step_diesV (.string ⟨#[]⟩) 62 #[.pointer (some ⟨bb, 0, none⟩), .int .u8 (x3.toNat : Int), .string (q.extract 4 q.size)] rfl (by simp [go_sem, hent]) _ (HD.out _ ((HS.out.1.drewN _).setOut 1354 (by omega) _).drew) (fun e w' hh => ⟨_, endT_no hh.1, rfl, HX.out _ w' hh.2.1 hh.2.2⟩) ?_; intro HFF))
  all_goals exact HFF.out.elim
end Go.Proofs.Ythokdbcpkmcieaa
