/- Walks of single, ask, page, data. -/
import Derived.Test.YthokdbcpkmcieaaBrdR
namespace Go.Proofs.Ythokdbcpkmcieaa
open Go Go.RowKit
theorem frameB_len (l : List UInt8) : 2 ≤ (frameF l).length := by simp [frameF]
set_option maxRecDepth 100000 in
set_option maxHeartbeats 2000000 in
theorem single_of (a : List UInt8) (h1 : a ≠ []) (h2 : a.length ≤ 80) (w : World) :
    Calls Try.prog 35 #[.string (txt (frameF a))] w fun e w' => e = .returned (.tuple #[.string (txt a), .bool true]) ∧ Below w.heap.size w w' := by
  have hfl := frameF_le a
  have hh := hear_single a h1 h2
  have HL := hideIt (listen_any w)
  have HFL := hideIt (fun w' => flag_any w')
  have HE := hideIt (fun eb w' (h' : EarAt w' eb ⟨0, []⟩) => bhear_any eb ⟨0, []⟩ (txt [126] ++ txt (frameF a) ++ txt [126]) w' h' (by rw [ByteArray.size_append, ByteArray.size_append, txtB_size, txtB_size]; simp; omega))
  have hd : (txt [126] ++ txt (frameF a) ++ txt [126]).data.toList = [126] ++ frameF a ++ [126] := by rw [txtB_cat, txtB_cat, txtB_list]
  rw [hd, show (⟨0, []⟩ : EarS) = ear0 from rfl, hh] at HE
  simp only at HE
  have hs1 : (txt [126]).size = 1 := rfl
  obtain ⟨fl, hfs⟩ : ∃ fl, (txt (frameF a)).size = fl := ⟨_, rfl⟩
  have hfs2 : fl ≤ 200 := by rw [← hfs, txtB_size]; omega
  obtain ⟨F, hF⟩ : ∃ F, txt (frameF a) = F := ⟨_, rfl⟩
  obtain ⟨G, hG⟩ : ∃ G, txt [126] = G := ⟨_, rfl⟩
  rw [hF] at HE hfs ⊢
  rw [hG] at HE HFL hs1
  clear hd hh hF hG
  go_enter Try.func35, Try.ntmps35
  go_wp2_with fail
  refine HL.out.mono ?_
  rintro e w1 ⟨rfl, hE1, hB1, _⟩
  go_wp2_with fail
  refine (HFL.out _).mono ?_
  rintro e w2 ⟨rfl, hB2⟩
  go_wp2_with fail
  refine (HFL.out _).mono ?_
  rintro e w3 ⟨rfl, hB3⟩
  have hE2 := hE1.kept (hB2.block w.heap.size hE1.lt) hB2.size
  have hE3 := hE2.kept (hB3.block w.heap.size hE2.lt) hB3.size
  have hBw : Below w.heap.size w w3 := hB1.trans ((hB2.mono hB1.size).trans (hB3.mono (Nat.le_trans hB1.size hB2.size)))
  have HEE := hideIt (And.intro hE3 hBw)
  clear hE1 hE2 hE3 hB1 hB2 hB3 hBw HL
  go_wp2_with fail
  refine (HE.out w.heap.size w3 HEE.out.1).mono ?_
  rintro e w4 ⟨v, rfl, _, hR4, hG4⟩
  have hR5 : w4.ownsRow w3.heap.size 9 1 v 1 (strs [a]) := hR4
  obtain ⟨g, cap, rfl, _⟩ := own_some hR5 (by decide)
  have cg : w4.cell? ⟨g, 0, none⟩ = some (.string (txt a)) := by
    have := hR5.cells (g := g) rfl 0 _ rfl
    rwa [Addr.add_lit, Nat.zero_add] at this
  have HB := hideIt (grown_to_below HEE.out.2 hG4 (Nat.le_refl _))
  clear hR4 hR5 hG4 HEE HE
  go_wp2
  go_ret2
  exact ⟨rfl, HB.out⟩
set_option maxRecDepth 100000 in
set_option maxHeartbeats 2000000 in
theorem ask_of (bb : Nat) (b b' : Brd) (q a : List UInt8) (w : World) (h : BrdAt w bb b) (hq1 : 3 ≤ q.length) (hq2 : q.length ≤ 80) (hr : bhearF b (frameF q) = (b', frameF a)) (ha1 : 4 ≤ a.length) (ha2 : a.length ≤ 80) (h3 : a.take 3 = q.take 3) :
    Calls Try.prog 19 #[.pointer (some ⟨bb, 0, none⟩), .string (txt q)] w fun e w' => e = .returned (.tuple #[.string (txt (a.drop 3)), .bool true]) ∧ BrdAt w' bb b' ∧ w.grownBy w' (some bb) := by
  have hfl := frameF_le q
  have HF := hideIt (bframe_any (txt q) w (by rw [txtB_size]; omega) (by rw [txtB_size]; omega))
  rw [txtB_list] at HF
  have HH := hideIt (fun w' (h' : BrdAt w' bb b) => bbHear_any bb b (txt (frameF q)) w' h' (by rw [txtB_size]; omega))
  rw [txtB_list, hr] at HH
  simp only at HH
  have HS := hideIt (fun w' => single_of a (fun e => by rw [e] at ha1; simp at ha1) ha2 w')
  have he : (txt a).extract 0 3 = (txt q).extract 0 3 := by
    have : ∀ x y : ByteArray, x.data.toList = y.data.toList → x = y := fun x y e => by
      apply ByteArray.ext
      exact Array.toList_inj.1 e
    apply this
    rw [baB_take, baB_take, txtB_list, txtB_list, h3]
  have hdr : (txt a).extract 3 (txt a).size = txt (a.drop 3) := by
    have : ∀ x y : ByteArray, x.data.toList = y.data.toList → x = y := fun x y e => by
      apply ByteArray.ext
      exact Array.toList_inj.1 e
    apply this
    rw [baB_drop, txtB_list, txtB_list]
  rw [← hdr]
  have hsa : (txt a).size = a.length := txtB_size a
  have hsq : (txt q).size = q.length := txtB_size q
  obtain ⟨A, hA⟩ : ∃ A, txt a = A := ⟨_, rfl⟩
  obtain ⟨Q, hQ⟩ : ∃ Q, txt q = Q := ⟨_, rfl⟩
  rw [hA] at HS he hsa ⊢
  rw [hQ] at HF he hsq ⊢
  obtain ⟨FQ, hFQ⟩ : ∃ FQ, txt (frameF q) = FQ := ⟨_, rfl⟩
  rw [hFQ] at HF HH
  obtain ⟨FA, hFA⟩ : ∃ FA, txt (frameF a) = FA := ⟨_, rfl⟩
  rw [hFA] at HH HS
  have HB := hideIt h
  have q3 : (3 : Int) ≤ (Q.size : Int) := by omega
  have a3 : (3 : Int) ≤ (A.size : Int) := by omega
  have a4 : decide ((A.size : Int) < 4) = false := decide_eq_false (by omega)
  have q3n : 3 ≤ Q.size := by omega
  have a3n : 3 ≤ A.size := by omega
  clear h hr hA hQ hFQ hFA hdr h3 hsa hsq
  go_enter Try.func19, Try.ntmps19
  go_wp2_with fail
  refine HF.out.mono ?_
  rintro e w1 ⟨rfl, hb1⟩
  go_wp2_with fail
  refine (HH.out w1 (HB.out.below hb1)).mono ?_
  rintro e w2 ⟨rfl, hB2, hG2⟩
  go_wp2_with fail
  refine (HS.out w2).mono ?_
  rintro e w3 ⟨rfl, hb3⟩
  have HZ := hideIt (And.intro (hB2.below hb3) (((below_to_grown hb1 (some bb)).trans hG2).trans (below_to_grown hb3 (some bb))))
  clear hb1 hB2 hG2 hb3
  go_wp2_with fail
  go_quiet (fail)
  go_wp2
  go_ret2
  exact ⟨rfl, HZ.out.1.kept rfl (Nat.le_refl _), grown_drewN HZ.out.2 _⟩
end Go.Proofs.Ythokdbcpkmcieaa
