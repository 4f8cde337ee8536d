/- The walks of the document's Cut, Boot, On, Flash, Burnt. -/
import Derived.Test.YthokdbcpkmcieaaGreatRBoE
namespace Go.Proofs.YthokdbcpkmcieaaGreat
open Go Go.RowKit
attribute [local go_sem ↓] Go.wp_at_zero Go.wp_at_succ
theorem RSto.begun {w : World} {rb fb jb : Nat} {on : Bool} {p : Pow} {mem : List UInt8} (h : RSto w rb fb jb on p mem) : RSto ((w.setCell ⟨rb, 2, none⟩ (.bool true)).setCell ⟨rb, 3, none⟩ (.int .i64 (-1))) rb fb jb true pow0 mem := by
  obtain ⟨n1, n2, n3⟩ := h.ne
  have hc : ∀ j, j ≠ 2 → j ≠ 3 → ((w.setCell ⟨rb, 2, none⟩ (.bool true)).setCell ⟨rb, 3, none⟩ (.int .i64 (-1))).cell? ⟨rb, j, none⟩ = w.cell? ⟨rb, j, none⟩ := fun j h2 h3 => by
    rw [World.cell?_setCell_other _ _ _ _ (by simp <;> omega), World.cell?_setCell_other _ _ _ _ (by simp <;> omega)]
  have hz : ((w.setCell ⟨rb, 2, none⟩ (.bool true)).setCell ⟨rb, 3, none⟩ (.int .i64 (-1))).heap.size = w.heap.size := by simp [World.setCell]
  refine ⟨?_, ?_, ?_, ?_, ?_, bytes_set_other (bytes_set_other h.fl (fun e => n1 e.symm)) (fun e => n1 e.symm), bytes_set_other (bytes_set_other h.jl (fun e => n2 e.symm)) (fun e => n2 e.symm), h.len, by decide, fun b j e => by simp [h.fz b j e], by rw [hz]; exact h.lt, h.ne⟩
  · obtain ⟨c, a, b, e⟩ := h.c0; exact ⟨c, a, b, (hc 0 (by omega) (by omega)).trans e⟩
  · obtain ⟨c, a, b, e⟩ := h.c1; exact ⟨c, a, b, (hc 1 (by omega) (by omega)).trans e⟩
  · rw [World.cell?_setCell_other _ _ _ _ (by simp)]
    exact World.cell?_setCell_same _ _ _ h.c2
  · exact World.cell?_setCell_same _ _ _ ((World.cell?_setCell_other _ _ _ _ (by simp)).trans h.c3)
  · obtain ⟨z, e, _⟩ := h.c4; exact ⟨z, (hc 4 (by omega) (by omega)).trans e, fun e => by cases e⟩
theorem RSto.cutTo {w : World} {rb fb jb : Nat} {p : Pow} {mem : List UInt8} (h : RSto w rb fb jb true p mem) (n : Nat) (hn : n ≤ 9223372036854775807) (k : UInt8) : RSto ((w.setCell ⟨rb, 3, none⟩ (.int .i64 (n : Int))).setCell ⟨rb, 4, none⟩ (.int .i64 (k.toNat : Int))) rb fb jb true ⟨true, n, k⟩ mem := by
  obtain ⟨n1, n2, n3⟩ := h.ne
  have hc : ∀ j, j ≠ 3 → j ≠ 4 → ((w.setCell ⟨rb, 3, none⟩ (.int .i64 (n : Int))).setCell ⟨rb, 4, none⟩ (.int .i64 (k.toNat : Int))).cell? ⟨rb, j, none⟩ = w.cell? ⟨rb, j, none⟩ := fun j h2 h3 => by
    rw [World.cell?_setCell_other _ _ _ _ (by simp <;> omega), World.cell?_setCell_other _ _ _ _ (by simp <;> omega)]
  have hz : ((w.setCell ⟨rb, 3, none⟩ (.int .i64 (n : Int))).setCell ⟨rb, 4, none⟩ (.int .i64 (k.toNat : Int))).heap.size = w.heap.size := by simp [World.setCell]
  refine ⟨?_, ?_, (hc 2 (by omega) (by omega)).trans h.c2, ?_, ⟨(k.toNat : Int), ?_, fun _ => rfl⟩, bytes_set_other (bytes_set_other h.fl (fun e => n1 e.symm)) (fun e => n1 e.symm), bytes_set_other (bytes_set_other h.jl (fun e => n2 e.symm)) (fun e => n2 e.symm), h.len, hn, fun b j e => by simp [h.fz b j e], by rw [hz]; exact h.lt, h.ne⟩
  · obtain ⟨c, a, b, e⟩ := h.c0; exact ⟨c, a, b, (hc 0 (by omega) (by omega)).trans e⟩
  · obtain ⟨c, a, b, e⟩ := h.c1; exact ⟨c, a, b, (hc 1 (by omega) (by omega)).trans e⟩
  · rw [World.cell?_setCell_other _ _ _ _ (by simp)]
    exact World.cell?_setCell_same _ _ _ h.c3
  · obtain ⟨z, e, _⟩ := h.c4
    exact World.cell?_setCell_same _ _ _ ((World.cell?_setCell_other _ _ _ _ (by simp)).trans e)
theorem mask_is (m : Int) : Int.tmod (Int.tmod m 256 + 256) 256 = ((mk8 m).toNat : Int) ∧ -256 < Int.tmod m 256 ∧ Int.tmod m 256 < 256 := by
  have hk : ((mk8 m).toNat : Int) = m % 256 := by
    unfold mk8
    rw [UInt8.toNat_ofNat']
    omega
  have h3 : Int.tmod m 256 = m % 256 ∨ Int.tmod m 256 = m % 256 - 256 := by
    rw [Int.tmod_eq_emod]
    split
    · left; omega
    · right; rfl
  have h4 : -256 < Int.tmod m 256 ∧ Int.tmod m 256 < 256 := ⟨Int.lt_tmod_of_pos m (by decide), Int.tmod_lt_of_pos m (by decide)⟩
  rw [hk, Int.tmod_eq_emod_of_nonneg (by omega)]
  omega
set_option maxRecDepth 100000 in
set_option maxHeartbeats 2000000 in
theorem rcut_any (rb fb jb : Nat) (b : Brd) (u : Nat) (n m : Int) (hn1 : -9223372036854775808 ≤ n) (hn2 : n ≤ 9223372036854775807) (w : World) (h : RB w rb fb jb b u) :
    Calls Tryz.prog 24 #[.pointer (some ⟨rb, 0, none⟩), .int .i64 n, .int .i64 m] w fun e w' => e = .returned (.tuple #[]) ∧ RB w' rb fb jb (cutF b n (mk8 m)) u ∧ G3 w w' rb fb jb := by
  obtain ⟨r, rt, h1, h2, h3⟩ := h.is
  have hok := h.ok
  have heok := h.eok
  cases hon : b.on
  · have hB : cutF b n (mk8 m) = b := by unfold cutF; rw [if_neg (by rw [hon]; simp)]
    rw [hB]
    have c2 := h1.sto.c2
    rw [hon] at c2
    have HH := hideIt h
    clear h h1 h2 h3 hok heok hB
    go_enter Tryz.func24, Tryz.ntmps24
    go_wp2
    go_end0
    exact ⟨rfl, HH.out, G3.refl _ _ _ _⟩
  · have hB : cutF b n (mk8 m) = ⟨true, ⟨true, n.toNat, mk8 m⟩, b.mem, b.ear, b.talk⟩ := by unfold cutF; rw [if_pos hon]
    rw [hB]
    rw [hon] at h1
    have c2 := h1.sto.c2
    have c3 := h1.sto.c3
    obtain ⟨z4, c4, _⟩ := h1.sto.c4
    have f3 := h1.sto.fz rb 3 (.inl rfl)
    have f4 := h1.sto.fz rb 4 (.inl rfl)
    obtain ⟨hmk, hmk1, hmk2⟩ := mask_is m
    obtain ⟨z3, hz3⟩ : ∃ z3 : Int, (if b.pow.cut = true then (b.pow.left : Int) else -1) = z3 := ⟨_, rfl⟩
    rw [hz3] at c3
    have hmax : max n 0 = (n.toNat : Int) := by omega
    have hs2 := h1.sto.cutTo n.toNat (by omega) (mk8 m)
    have hk2 : K3 w ((w.setCell ⟨rb, 3, none⟩ (.int .i64 (n.toNat : Int))).setCell ⟨rb, 4, none⟩ (.int .i64 ((mk8 m).toNat : Int))) rb fb jb := (K3.set w rb fb jb rb 3 _ (.inl rfl) (fun _ => by omega)).trans (K3.set _ rb fb jb rb 4 _ (.inl rfl) (fun _ => by omega))
    have HR := hideIt (And.intro (h1.k3 hs2 hk2) hk2.g3)
    obtain ⟨M, hM⟩ : ∃ M, ((mk8 m).toNat : Int) = M := ⟨_, rfl⟩
    obtain ⟨N, hN⟩ : ∃ N, (n.toNat : Int) = N := ⟨_, rfl⟩
    obtain ⟨Y, hY⟩ : ∃ Y, Int.tmod m 256 = Y := ⟨_, rfl⟩
    rw [hY] at hmk hmk1 hmk2
    rw [hM] at HR hmk
    rw [hN] at HR hmax
    have hMb : 0 ≤ M ∧ M < 256 := by rw [← hM]; have := (mk8 m).toNat_lt; omega
    have HH := hideIt (And.intro (h2 hon) (And.intro h3 (And.intro hok heok)))
    clear h h1 h2 h3 hok heok hB hs2 hk2 hM hN hz3
    go_enter Tryz.func24, Tryz.ntmps24
    go_wp2
    go_end0
    exact ⟨rfl, ⟨⟨r, rt, HR.out.1, fun _ => HH.out.1, HH.out.2.1⟩, HH.out.2.2.1, HH.out.2.2.2⟩, HR.out.2⟩
set_option maxRecDepth 100000 in
set_option maxHeartbeats 2000000 in
theorem rboot_any (rb fb jb : Nat) (b : Brd) (u : Nat) (w : World) (h : RB w rb fb jb b u) :
    Calls Tryz.prog 26 #[.pointer (some ⟨rb, 0, none⟩)] w fun e w' => e = .returned (.tuple #[]) ∧ RB w' rb fb jb (bootF b) u ∧ G3 w w' rb fb jb := by
  obtain ⟨r, rt, h1, h2, h3⟩ := h.is
  have hused := h.ok.used
  have c2 := h1.sto.c2
  have c3 := h1.sto.c3
  obtain ⟨z3, hz3⟩ : ∃ z3 : Int, (if b.pow.cut = true then (b.pow.left : Int) else -1) = z3 := ⟨_, rfl⟩
  rw [hz3] at c3
  have c5 := h1.ear.c0
  have c6 := h1.ear.c1
  have c7 := h1.c7
  have f2 := h1.sto.fz rb 2 (.inl rfl)
  have f3 := h1.sto.fz rb 3 (.inl rfl)
  have f5 := h1.sto.fz rb 5 (.inl rfl)
  have f6 := h1.sto.fz rb 6 (.inl rfl)
  have f7 := h1.sto.fz rb 7 (.inl rfl)
  have hrl := h1.sto.lt.1
  have hs2 := h1.sto.begun
  have hk2 : K3 w ((w.setCell ⟨rb, 2, none⟩ (.bool true)).setCell ⟨rb, 3, none⟩ (.int .i64 (-1))) rb fb jb := (K3.set w rb fb jb rb 2 _ (.inl rfl) (fun _ => by omega)).trans (K3.set _ rb fb jb rb 3 _ (.inl rfl) (fun _ => by omega))
  have r2 := (h1.k3 hs2 hk2).setKn false
  have G2 := hk2.g3.trans (G3.set _ rb fb jb 7 (.bool false))
  obtain ⟨W2, hW2⟩ : ∃ W2, ((w.setCell ⟨rb, 2, none⟩ (.bool true)).setCell ⟨rb, 3, none⟩ (.int .i64 (-1))).setCell ⟨rb, 7, none⟩ (.bool false) = W2 := ⟨_, rfl⟩
  rw [hW2] at r2 G2
  have r3 : RBd ((W2.setCell ⟨rb, 5, none⟩ (.bool false)).setCell ⟨rb, 6, none⟩ (.string ⟨#[]⟩)) rb fb jb true pow0 b.mem ⟨false, []⟩ ⟨false, rt.ses, rt.last, rt.ans⟩ := by
    have hc : ∀ j, 7 ≤ j → ((W2.setCell ⟨rb, 5, none⟩ (.bool false)).setCell ⟨rb, 6, none⟩ (.string ⟨#[]⟩)).cell? ⟨rb, j, none⟩ = W2.cell? ⟨rb, j, none⟩ := fun j hj => by
      rw [World.cell?_setCell_other _ _ _ _ (by simp <;> omega), World.cell?_setCell_other _ _ _ _ (by simp <;> omega)]
    refine ⟨(r2.sto.setRest 5 _ (by omega)).setRest 6 _ (by omega), ⟨?_, ?_, fun j => by simp [r2.sto.fz rb j (.inl rfl)], by simpa [World.setCell] using r2.sto.lt.1⟩, (hc 7 (by omega)).trans r2.c7, (hc 8 (by omega)).trans r2.c8, (hc 9 (by omega)).trans r2.c9, (hc 10 (by omega)).trans r2.c10, r2.ll, r2.sl, r2.al⟩
    · rw [World.cell?_setCell_other _ _ _ _ (by simp)]; exact World.cell?_setCell_same _ _ _ r2.ear.c0
    · exact World.cell?_setCell_same _ _ _ ((World.cell?_setCell_other _ _ _ _ (by simp)).trans r2.ear.c1)
  have G3' := G2.trans ((G3.set W2 rb fb jb 5 (.bool false)).trans (G3.set _ rb fb jb 6 (.string ⟨#[]⟩)))
  have HR := hideIt (And.intro r3 G3')
  rw [← hW2] at HR
  have HU := hideIt hused
  obtain ⟨S6, hS6⟩ : ∃ S6, txt r.s = S6 := ⟨_, rfl⟩
  rw [hS6] at c6
  clear h h1 h2 h3 hs2 hk2 r2 G2 r3 G3' hW2 hz3 hused hS6
  go_enter Tryz.func26, Tryz.ntmps26
  go_wp2
  go_end0
  exact ⟨rfl, ⟨⟨_, _, HR.out.1, fun _ => ⟨.inl ⟨rfl, rfl⟩, rfl, fun e => by cases e⟩, by simp⟩, tok0 HU.out, eok0⟩, HR.out.2⟩
theorem ron_any (rb fb jb : Nat) (b : Brd) (u : Nat) (w : World) (h : RB w rb fb jb b u) :
    Calls Tryz.prog 28 #[.pointer (some ⟨rb, 0, none⟩)] w fun e w' => e = .returned (.bool b.on) ∧ w' = w := by
  obtain ⟨r, rt, h1, _⟩ := h.is
  have c2 := h1.sto.c2
  clear h h1
  go_enter Tryz.func28, Tryz.ntmps28
  go_wp2
  go_ret
  exact ⟨rfl, rfl⟩
theorem rflash_any (rb fb jb : Nat) (b : Brd) (u : Nat) (w : World) (h : RB w rb fb jb b u) :
    Calls Tryz.prog 30 #[.pointer (some ⟨rb, 0, none⟩)] w fun e w' => e = .returned (.string (txt (b.mem.take 1024))) ∧ w' = w := by
  obtain ⟨r, rt, h1, _⟩ := h.is
  obtain ⟨c, hc1, hc2, c0⟩ := h1.sto.c0
  have hcv := h1.sto.conv (lb := fb) (n := 1024) (o := 0) (.inl ⟨rfl, rfl, rfl⟩) 0 1024 c (by omega)
  have hw : win b.mem (0 + 0) 1024 = b.mem.take 1024 := by unfold win; simp
  rw [hw] at hcv
  obtain ⟨T, hT⟩ : ∃ T, txt (b.mem.take 1024) = T := ⟨_, rfl⟩
  rw [hT] at hcv ⊢
  clear h h1 hw hT
  go_enter Tryz.func30, Tryz.ntmps30
  go_wp2
  go_ret
  exact ⟨rfl, rfl⟩
theorem rbits_any (rb fb jb : Nat) (b : Brd) (u : Nat) (w : World) (h : RB w rb fb jb b u) :
    Calls Tryz.prog 32 #[.pointer (some ⟨rb, 0, none⟩)] w fun e w' => e = .returned (.int .i64 (bitsF b.mem : Int)) ∧ Below w.heap.size w w' := by
  obtain ⟨r, rt, h1, _⟩ := h.is
  exact rBurnt_any rb fb jb b.on b.pow b.mem w h1.sto
end Go.Proofs.YthokdbcpkmcieaaGreat
