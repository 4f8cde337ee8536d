/- The walk of answer: the ways on which something is done. -/
import Derived.Test.YthokdbcpkmcieaaBrdWB
namespace Go.Proofs.Ythokdbcpkmcieaa
open Go Go.RowKit
theorem doF_out (p : Pow) (m : List UInt8) (a : UInt8) (rest : List UInt8) (hm : m.length = 1264) : (doF p m a rest).2.length ≤ 65 := by
  unfold doF
  split
  · split <;> simp
  · split
    · simp only
      split
      · rename_i h
        have := page_length hm (rest.getD 0 0).toNat (u16 h.1)
        simp only [List.length_cons]
        omega
      · simp
    · split <;> simp
theorem StoAt.setOut {w : World} {bb : Nat} {p : Pow} {mem : List UInt8} (h : StoAt w bb p mem) (j : Nat) (hj : 1268 ≤ j) (v : Value) : StoAt (w.setCell ⟨bb, j, none⟩ v) bb p mem :=
  h.same (fun k _ hk => World.cell?_setCell_other _ _ _ _ (by simp <;> omega)) (fun k => by simp) (by simp [World.setCell])
theorem StoAt.drewN {w : World} {bb : Nat} {p : Pow} {mem : List UInt8} (h : StoAt w bb p mem) (m : Nat) : StoAt (w.drewN m) bb p mem := h.kept rfl (Nat.le_refl _)
theorem StoAt.drew {w : World} {bb : Nat} {p : Pow} {mem : List UInt8} (h : StoAt w bb p mem) : StoAt w.drew bb p mem := h.kept rfl (Nat.le_refl _)
theorem TalkAt.drewN {w : World} {bb : Nat} {t : Talk} (h : TalkAt w bb t) (m : Nat) : TalkAt (w.drewN m) bb t := h.kept rfl
theorem TalkAt.drew {w : World} {bb : Nat} {t : Talk} (h : TalkAt w bb t) : TalkAt w.drew bb t := h.kept rfl
theorem TalkAt.setOpn {w : World} {bb : Nat} {t : Talk} (h : TalkAt w bb t) (b : Bool) : TalkAt (w.setCell ⟨bb, 1352, none⟩ (.bool b)) bb ⟨b, t.ses, t.num, t.ans⟩ :=
  ⟨World.cell?_setCell_same _ _ _ h.t0, (World.cell?_setCell_other _ _ _ _ (by simp)).trans h.t1, (World.cell?_setCell_other _ _ _ _ (by simp)).trans h.t2, (World.cell?_setCell_other _ _ _ _ (by simp)).trans h.t3, fun j => by simp [h.fz j]⟩
theorem TalkAt.setSes {w : World} {bb : Nat} {t : Talk} (h : TalkAt w bb t) (s : Nat) (v : Value) (hv : v = .int .u16 (s : Int)) : TalkAt (w.setCell ⟨bb, 1353, none⟩ v) bb ⟨t.opn, s, t.num, t.ans⟩ := by
  subst hv
  exact ⟨(World.cell?_setCell_other _ _ _ _ (by simp)).trans h.t0, World.cell?_setCell_same _ _ _ h.t1, (World.cell?_setCell_other _ _ _ _ (by simp)).trans h.t2, (World.cell?_setCell_other _ _ _ _ (by simp)).trans h.t3, fun j => by simp [h.fz j]⟩
theorem TalkAt.setNum {w : World} {bb : Nat} {t : Talk} (h : TalkAt w bb t) (n : UInt8) : TalkAt (w.setCell ⟨bb, 1354, none⟩ (.int .u8 (n.toNat : Int))) bb ⟨t.opn, t.ses, n, t.ans⟩ :=
  ⟨(World.cell?_setCell_other _ _ _ _ (by simp)).trans h.t0, (World.cell?_setCell_other _ _ _ _ (by simp)).trans h.t1, World.cell?_setCell_same _ _ _ h.t2, (World.cell?_setCell_other _ _ _ _ (by simp)).trans h.t3, fun j => by simp [h.fz j]⟩
theorem TalkAt.setAns {w : World} {bb : Nat} {t : Talk} (h : TalkAt w bb t) (a : List UInt8) : TalkAt (w.setCell ⟨bb, 1355, none⟩ (.string (txt a))) bb ⟨t.opn, t.ses, t.num, a⟩ :=
  ⟨(World.cell?_setCell_other _ _ _ _ (by simp)).trans h.t0, (World.cell?_setCell_other _ _ _ _ (by simp)).trans h.t1, (World.cell?_setCell_other _ _ _ _ (by simp)).trans h.t2, World.cell?_setCell_same _ _ _ h.t3, fun j => by simp [h.fz j]⟩
theorem frame_of (q : ByteArray) (out : List UInt8) (h3 : 3 ≤ q.size) (ho : out.length ≤ 65) (w : World) : Calls Try.prog 32 #[.string (q.extract 0 3 ++ txt out)] w fun e w' => e = .returned (.tuple #[.string (txt (frameF (q.data.toList.take 3 ++ out))), .int .i64 0]) ∧ Below w.heap.size w w' := by
  have hs : (q.extract 0 3 ++ txt out).size = 3 + out.length := by
    rw [ByteArray.size_append, ByteArray.size_extract, txtB_size]; omega
  have hd : (q.extract 0 3 ++ txt out).data.toList = q.data.toList.take 3 ++ out := by
    rw [ByteArray.data_append, Array.toList_append, baB_take]; rfl
  have := frame_any (q.extract 0 3 ++ txt out) w (by omega) (by omega)
  rw [hd] at this
  exact this
set_option maxRecDepth 100000 in
set_option maxHeartbeats 2000000 in
theorem answer_open (bb : Nat) (p : Pow) (mem : List UInt8) (t : Talk) (q : ByteArray) (k : Nat) (w : World) (h : StoAt w bb p mem) (_hu : Used mem k) (ht : TalkAt w bb t) (hk : askOk q.data.toList = true) (h1 : q.data.toList.getD 3 0 = 1) :
    Calls Try.prog 53 #[.pointer (some ⟨bb, 0, none⟩), .string q] w (AnsEnd w bb (answerF p mem t q.data.toList)) := by
  obtain ⟨k1, k2, k3, k4⟩ := ask_parts hk
  have HA := hideIt (isAsking_any q w (by omega))
  rw [hk] at HA
  have hlt := h.lt
  have g0 : q.data.toList.getD 0 0 = q[0]'(by omega) := ba_get q 0 (by omega)
  have g1 : q.data.toList.getD 1 0 = q[1]'(by omega) := ba_get q 1 (by omega)
  have g2 : q.data.toList.getD 2 0 = q[2]'(by omega) := ba_get q 2 (by omega)
  have g3 : q.data.toList.getD 3 0 = q[3]'(by omega) := ba_get q 3 (by omega)
  have hs : sesOf q.data.toList = (q[0]'(by omega)).toNat * 256 + (q[1]'(by omega)).toNat := by unfold sesOf; rw [g0, g1]
  have hF : answerF p mem t q.data.toList = (p, mem, ⟨true, sesOf q.data.toList, q.data.toList.getD 2 0, frameF (q.data.toList.take 3 ++ [1])⟩, frameF (q.data.toList.take 3 ++ [1]), true) := by
    unfold answerF
    rw [if_neg (by rw [hk]; simp), if_neg (fun e => e.1 h1), if_neg (fun e => e.1 h1), if_neg (fun e => e.1 h1), h1]
    rfl
  rw [hF, g2, hs]
  rw [g3] at h1
  obtain ⟨x0, hx0⟩ : ∃ x, q[0]'(by omega) = x := ⟨_, rfl⟩
  obtain ⟨x1, hx1⟩ : ∃ x, q[1]'(by omega) = x := ⟨_, rfl⟩
  obtain ⟨x2, hx2⟩ : ∃ x, q[2]'(by omega) = x := ⟨_, rfl⟩
  rw [hx2, hx0, hx1]
  have hl0 := x0.toNat_lt
  have hl1 := x1.toNat_lt
  have hor := or_bytes2 (x0.toNat : Int) (x1.toNat : Int) (by omega) (by omega) (by omega) (by omega)
  have t0 := ht.t0
  have t1 := ht.t1
  have t2 := ht.t2
  have t3 := ht.t3
  have f0 := ht.fz 1352
  have f1 := ht.fz 1353
  have f2 := ht.fz 1354
  have f3 := ht.fz 1355
  have HS := hideIt (And.intro h ht)
  have q4 : (4 : Int) ≤ (q.size : Int) := by omega
  have q69 : (q.size : Int) ≤ 69 := by omega
  have HD : Hid (∀ w', StoAt w' bb p mem → Calls Try.prog 62 #[.pointer (some ⟨bb, 0, none⟩), .int .u8 1, .string (q.extract 4 q.size)] w' (StrEnd w' bb (p, mem, true) [1])) := fun w' h' => do_else bb p mem 1 (q.extract 4 q.size) w' h' (by decide) (by decide) (by decide)
  have HFR := hideIt (fun w' => frame_of q [1] (by omega) (by simp) w')
  obtain ⟨FR, hFR⟩ : ∃ FR, frameF (q.data.toList.take 3 ++ [1]) = FR := ⟨_, rfl⟩
  rw [hFR] at HFR ⊢
  have he3 : (q.extract 0 3).size = 3 := by rw [ByteArray.size_extract]; omega
  have ht1 : (txt [1]).size = 1 := rfl
  clear h ht hF hk g0 g1 g2 g3 hs k3 k4 hFR
  go_enter Try.func53, Try.ntmps53
  go_wp2_with fail
  refine HA.out.mono ?_
  rintro e w1 ⟨rfl, rfl⟩
  go_wp2_with fail
  go_quiet (fail)
  go_wp2_with fail
  go_quiet (fail)
  go_wp2_with fail
  go_region_with (first | (go_at_call 62; refine (HD.out _ ((((HS.out.1.drewN _).setOut 1352 (by omega) _).setOut 1353 (by omega) _).setOut 1354 (by omega) _).drew).mono ?_; rintro e wz ⟨he, h1, h2⟩; obtain rfl := endT_yes he; have hTz := TalkAt.within ((((HS.out.2.drewN _).setOpn true).setSes (x0.toNat * 256 + x1.toNat) _ (by congr 1; omega)).setNum x2).drew h2; have HZ := hideIt (And.intro h1 (And.intro hTz h2)); clear h1 hTz h2) | (go_at_call 32; refine (HFR.out _).mono ?_; rintro e wy ⟨rfl, hby⟩; have c5 := (HZ.out.2.1.kept (hby.block bb HZ.out.1.lt)).t3; have f5 := (HZ.out.2.1.kept (hby.block bb HZ.out.1.lt)).fz 1355))
  all_goals
    go_wp2
    go_ret
    refine ⟨rfl, (HZ.out.1.below hby).setOut 1355 (by omega) _, (HZ.out.2.1.kept (hby.block bb HZ.out.1.lt)).setAns FR, ?_⟩
    exact (((((((KeptE.refl _ bb).drewN _).trans (KeptE.set _ bb 1352 _ (by omega))).trans (KeptE.set _ bb 1353 _ (by omega))).trans (KeptE.set _ bb 1354 _ (by omega))).drew.trans HZ.out.2.2.keptE).trans (KeptE.below hby HZ.out.1.lt)).trans (KeptE.set _ bb 1355 _ (by omega))
end Go.Proofs.Ythokdbcpkmcieaa
