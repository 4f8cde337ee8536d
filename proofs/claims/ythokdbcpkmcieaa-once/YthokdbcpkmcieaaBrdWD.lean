/- The walk of answer: a message with the next number. -/
import Derived.Test.YthokdbcpkmcieaaBrdWC
namespace Go.Proofs.Ythokdbcpkmcieaa
open Go Go.RowKit
theorem step_noneV {P : Program} {ops : Array Oper} {o : Oper} {a : Act} {w : World} {K : Act → World → Prop} {Q : Exit → Act → World → Prop} {E : Prop} (bv : Value) (hF : Hid False) (_ : K (a.put o.dst bv) w) : if Region.wanted o (yielded ops a.tmps) = true then Oper.wp P o a w K Q else E := hF.out.elim
/-- What is handed to the walks. -/
structure NextQ (bb : Nat) (p : Pow) (mem : List UInt8) (t : Talk) (q : ByteArray) (x0 x1 x2 x3 : UInt8) (nx : Nat) (p1 : Pow) (m1 : List UInt8) (ok : Bool) (out : List UInt8) : Prop where
  hl : 4 ≤ q.size ∧ q.size ≤ 69
  i0 : q.data.toList.getD 0 0 = x0
  i1 : q.data.toList.getD 1 0 = x1
  i2 : q.data.toList.getD 2 0 = x2
  i3 : q.data.toList.getD 3 0 = x3
  n1 : x3 ≠ 1
  nx : (t.num + 1).toNat = nx
  opn : t.opn = true
  ses : x0.toNat * 256 + x1.toNat = t.ses
  num : x2 = t.num + 1
  ask : askOk q.data.toList = true
  do_ : ∀ w', StoAt w' bb p mem → Calls Try.prog 62 #[.pointer (some ⟨bb, 0, none⟩), .int .u8 (x3.toNat : Int), .string (q.extract 4 q.size)] w' (StrEnd w' bb (p1, m1, ok) out)
  ol : out.length ≤ 65
set_option maxRecDepth 100000 in
set_option maxHeartbeats 2000000 in
theorem next_yes (bb : Nat) (p : Pow) (mem : List UInt8) (t : Talk) (q : ByteArray) (x0 x1 x2 x3 : UInt8) (nx : Nat) (p1 : Pow) (m1 : List UInt8) (out : List UInt8) (w : World) (h : StoAt w bb p mem) (ht : TalkAt w bb t) (N : NextQ bb p mem t q x0 x1 x2 x3 nx p1 m1 true out) :
    Calls Try.prog 53 #[.pointer (some ⟨bb, 0, none⟩), .string q] w (AnsEnd w bb (p1, m1, ⟨true, t.ses, x2, frameF (q.data.toList.take 3 ++ out)⟩, frameF (q.data.toList.take 3 ++ out), true)) := by
  obtain ⟨k1, k2⟩ := N.hl
  have HA := hideIt (isAsking_any q w (by omega))
  rw [N.ask] at HA
  have hlt := h.lt
  have hx0 : q[0]'(by omega) = x0 := (ba_get q 0 (by omega)).symm.trans N.i0
  have hx1 : q[1]'(by omega) = x1 := (ba_get q 1 (by omega)).symm.trans N.i1
  have hx2 : q[2]'(by omega) = x2 := (ba_get q 2 (by omega)).symm.trans N.i2
  have hx3 : q[3]'(by omega) = x3 := (ba_get q 3 (by omega)).symm.trans N.i3
  have hl0 := x0.toNat_lt
  have hl1 := x1.toNat_lt
  have hor := or_bytes2 (x0.toNat : Int) (x1.toNat : Int) (by omega) (by omega) (by omega) (by omega)
  have hn1 : ((x3.toNat : Int) == 1) = false := (u8_eq x3 1 (by decide)).trans (decide_eq_false N.n1)
  have t0 := ht.t0
  rw [N.opn] at t0
  have t1 := ht.t1
  have t2 := ht.t2
  have t3 := ht.t3
  have f2 := ht.fz 1354
  have f3 := ht.fz 1355
  have hse : ((256 : Int) * (x0.toNat : Int) + (x1.toNat : Int) != (t.ses : Int)) = false := by have := N.ses; simp; omega
  have hnl := t.num.toNat_lt
  have hwr : IntKind.u8.wrap ((t.num.toNat : Int) + 1) = (nx : Int) := by
    rw [← N.nx, UInt8.toNat_add, IntKind.wrap_u8]
    show _ = (((t.num.toNat + 1) % 256 : Nat) : Int)
    omega
  have hx2n : x2.toNat = nx := by rw [N.num]; exact N.nx
  have hne : ¬ x2.toNat = t.num.toNat := by
    have h1 := N.nx
    rw [UInt8.toNat_add] at h1
    have h2 : (t.num.toNat + 1) % 256 = nx := h1
    omega
  have hsa : ((x2.toNat : Int) == (t.num.toNat : Int)) = false := by simp; omega
  have hnx2 : ((x2.toNat : Int) != (nx : Int)) = false := by simp; omega
  have HS := hideIt (And.intro h ht)
  have q4 : (4 : Int) ≤ (q.size : Int) := by omega
  have q69 : (q.size : Int) ≤ 69 := by omega
  have HD := hideIt N.do_
  have he3 : (q.extract 0 3).size = 3 := by rw [ByteArray.size_extract]; omega
  have HO := hideIt N.opn
  have HFR := hideIt (fun w' => frame_of q out (by omega) N.ol w')
  obtain ⟨FR, hFR⟩ : ∃ FR, frameF (q.data.toList.take 3 ++ out) = FR := ⟨_, rfl⟩
  rw [hFR] at HFR ⊢
  obtain ⟨ol, hol⟩ : ∃ ol, (txt out).size = ol := ⟨_, rfl⟩
  have hol65 : ol ≤ 65 := by rw [← hol, txtB_size]; exact N.ol
  clear h ht N hFR hx2n hne
  go_enter Try.func53, Try.ntmps53
  go_wp2_with fail
  refine HA.out.mono ?_
  rintro e w1 ⟨rfl, rfl⟩
  go_wp2_with fail
  go_quiet (fail)
  go_wp2_with fail
  go_quiet (fail)
  go_wp2_with fail
  go_region_with (first | (go_at_call 62; refine (HD.out _ ((HS.out.1.drewN _).setOut 1354 (by omega) _).drew).mono ?_; rintro e wz ⟨he, h1, h2⟩; obtain rfl := endT_yes he; have hTz := TalkAt.within ((HS.out.2.drewN _).setNum x2).drew h2; have HZ := hideIt (And.intro h1 (And.intro hTz h2)); clear h1 hTz h2) | (go_at_call 32; refine (HFR.out _).mono ?_; rintro e wy ⟨rfl, hby⟩; have c5 := (HZ.out.2.1.kept (hby.block bb HZ.out.1.lt)).t3; have f5 := (HZ.out.2.1.kept (hby.block bb HZ.out.1.lt)).fz 1355))
  all_goals
    go_wp2
    go_ret
    refine ⟨rfl, (HZ.out.1.below hby).setOut 1355 (by omega) _, ?_, ?_⟩
    · have := (HZ.out.2.1.kept (hby.block bb HZ.out.1.lt)).setAns FR
      rw [HO.out] at this
      exact this
    · exact (((((KeptE.refl _ bb).drewN _).trans (KeptE.set _ bb 1354 _ (by omega))).drew.trans HZ.out.2.2.keptE).trans (KeptE.below hby HZ.out.1.lt)).trans (KeptE.set _ bb 1355 _ (by omega))
end Go.Proofs.Ythokdbcpkmcieaa
