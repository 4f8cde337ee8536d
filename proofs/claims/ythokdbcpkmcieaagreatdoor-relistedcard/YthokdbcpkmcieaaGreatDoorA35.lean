/- The assembler: fill. The blank image. -/
import Derived.Test.YthokdbcpkmcieaaGreatDoorA34
import Derived.Test.YthokdbcpkmcieaaGreatDoorA27
import Derived.Deep.OwnRows
import Derived.Laws.OwnMore
import Derived.BigRegion
import Derived.Deep.DeepCutAuto
namespace Go.Proofs.YthokdbcpkmcieaaGreatDoor
open Go Go.RowKit Go.Shelf Go.WideMaps Go.Maps
def unkn (nm : List UInt8 → Option Int) (s : ByteArray) : Bool := !(nm s.data.toList).isSome
/-- What comes of a statement when its bytes are made. -/
def fillF (a : Asm) (p : Nat) (x : Stm) : Except Int Asm :=
  if sizeS x.task x.vals.length x.ins.size = 0 then .ok a
  else if (usedS x.vals).any (unkn a.nm) = true then .error 3
  else match bytS a.nm p x with
    | none => .error 6
    | some bs => .ok { a with bytes := putAt a.bytes p bs }
structure FilPre (w : World) (m : AMem) (a : Asm) (base : Nat) (x : Stm) (v kd : Value) (p : Nat) : Prop where
  pre : FillPre w m a base x v p
  mok : m.Ok
  ins : x.task = 6 → InsPre w x kd
  fit : p + sizeS x.task x.vals.length x.ins.size ≤ 1024
  size : x.ins.size ≤ 100
theorem usedS_size {es : List (List Trm)} (h : ∀ e ∈ es, ∀ t ∈ e, t.name.size ≤ 1000000 ∧ 0 ≤ t.num) : ∀ s ∈ usedS es, s.size ≤ 1000000 := fun s hs => by
  unfold usedS usedE at hs
  obtain ⟨e, he, h1⟩ := List.mem_flatMap.1 hs
  obtain ⟨t, ht, rfl⟩ := List.mem_map.1 h1
  exact (h e he t (List.mem_filter.1 ht).1).1
theorem sizeS_task {tk vn sz : Nat} (h : ¬ sizeS tk vn sz = 0) : tk = 2 ∨ tk = 3 ∨ tk = 6 := by
  unfold sizeS at h
  split at h
  · exact .inl (by assumption)
  · split at h
    · exact .inr (.inl (by assumption))
    · split at h
      · exact .inr (.inr (by assumption))
      · exact absurd rfl h
set_option maxRecDepth 100000 in
set_option maxHeartbeats 8000000 in
theorem fill_any (w : World) (m : AMem) (a : Asm) (base : Nat) (x : Stm) (va : Option Addr) (vn vc : Nat) (p : Nat) (l0 : Int) (lb : ByteArray) (ka : Option Addr) (kn kc : Nat) (h : FilPre w m a base x (.slice va vn vc) (.slice ka kn kc) p) :
    Calls Tryz.prog 65 #[.pointer (some ⟨m.ab, 0, none⟩), .agg #[.int .i64 l0, .int .i64 (p : Int), .string lb, .int .i64 (x.task : Int), .string x.name, .slice va vn vc, .int .u8 (x.ins.code : Int), .slice ka kn kc, .int .i64 (x.ins.size : Int)]] w (SetEnd w m l0 (fillF a p x)) := by
  obtain ⟨R, hR⟩ : ∃ R, fillF a p x = R := ⟨_, rfl⟩
  rw [hR]
  unfold fillF at hR
  have hvn : vn = x.vals.length := by
    obtain ⟨vs, h1, _⟩ := h.pre.vals
    exact row_lenB h1 rfl
  obtain ⟨W, hW, hBW, hWz, hSS⟩ := st_box w l0 (p : Int) lb (x.task : Int) x.name (.slice va vn vc) (x.ins.code : Int) (.slice ka kn kc) (x.ins.size : Int)
  have HZ0 := stSize_any W l0 (p : Int) lb x.task x.name va vn vc (x.ins.code : Int) ka kn kc x.ins.size (by rw [hvn]; exact h.pre.len)
  obtain ⟨SZ, hSZ⟩ : ∃ SZ, sizeS x.task x.vals.length x.ins.size = SZ := ⟨_, rfl⟩
  rw [hSZ] at hR
  rw [hvn, hSZ, ← hvn] at HZ0
  have HZ := hideIt HZ0
  have HSS : Hid (∀ w', Below W.heap.size W w' → SS w' w.heap.size l0 (p : Int) lb (x.task : Int) x.name (.slice va vn vc) (x.ins.code : Int) (.slice ka kn kc) (x.ins.size : Int)) := fun w' hb => hSS.grown (hb.block _ hSS.lt) hb.size
  have HB := hideIt hBW
  have HP := hideIt h
  have HSZ := hideIt hSZ
  have HPW : Hid (∀ w', Below W.heap.size W w' → FillPre w' m a base x (.slice va vn vc) p) := fun w' hb => (h.pre.below hBW).below hb
  have HU : Hid (∀ w', Below W.heap.size W w' → Calls Tryz.prog 108 #[.agg #[.int .i64 l0, .int .i64 (p : Int), .string lb, .int .i64 (x.task : Int), .string x.name, .slice va vn vc, .int .u8 (x.ins.code : Int), .slice ka kn kc, .int .i64 (x.ins.size : Int)]] w' fun e w2 => ∃ v, e = .returned v ∧ w2.ownsRow w'.heap.size 9 1 v (usedS x.vals).length (strV (usedS x.vals)) ∧ Below w'.heap.size w' w2) := fun w' hb => used_any w' base x.vals l0 (p : Int) lb (x.task : Int) x.name va vn vc (x.ins.code : Int) ka kn kc (x.ins.size : Int) ((h.pre.vals.below hBW).below hb) h.pre.len h.pre.cnt
  have t0 := hSS.c0
  have t1 := hSS.c1
  have t2 := hSS.c2
  have t3 := hSS.c3
  have t4 := hSS.c4
  have t5 := hSS.c5
  have t6 := hSS.c6
  have t7 := hSS.c7
  have t8 := hSS.c8
  clear h hBW hSS HZ0 hvn hSZ
  by_cases hz : SZ = 0
  · rw [if_pos hz] at hR
    subst hz hR
    go_enter Tryz.func65, Tryz.ntmps65
    go_wp2_with (first | (go_at_call 107; refine HZ.out.mono ?_; rintro e w1 ⟨rfl, hb1⟩))
    refine bodyPost_ret (results_none rfl _ _ _) rfl ?_
    have hb := HB.out.trans (hb1.mono HB.out.size)
    exact ⟨ChgM.below _ hb, rfl, HP.out.pre.at_.below hb⟩
  · rw [if_neg hz] at hR
    have hzi : ¬ (SZ : Int) = 0 := by omega
    have HR := hideIt hR
    have HZN := hideIt hz
    clear hR hz
    go_enter Tryz.func65, Tryz.ntmps65
    go_wp2_with (first | (go_at_call 107; refine HZ.out.mono ?_; rintro e w1 ⟨rfl, hb1⟩; have p0 := (HSS.out _ hb1).c0; have p1 := (HSS.out _ hb1).c1; have p2 := (HSS.out _ hb1).c2; have p3 := (HSS.out _ hb1).c3; have p4 := (HSS.out _ hb1).c4; have p5 := (HSS.out _ hb1).c5; have p6 := (HSS.out _ hb1).c6; have p7 := (HSS.out _ hb1).c7; have p8 := (HSS.out _ hb1).c8; have HB1 := hideIt hb1; clear hb1) | (go_at_call 108; refine (HU.out w1 HB1.out).mono ?_; rintro e w2 ⟨v2, rfl, hr2, hb2⟩; obtain ⟨x2, y2, z2, ev2⟩ := row_sliceN hr2; have HY2 := hideIt (row_lenB hr2 ev2); subst ev2; have HR2 := hideIt hr2; have HB2 := hideIt (HB1.out.trans (hb2.mono HB1.out.size)); clear hr2 hb2))
    have hs2 := HSS.out w2 HB2.out
    have r0 := hs2.c0
    have r1 := hs2.c1
    have r2 := hs2.c2
    have r3 := hs2.c3
    have r4 := hs2.c4
    have r5 := hs2.c5
    have r6 := hs2.c6
    have r7 := hs2.c7
    have r8 := hs2.c8
    have sl := hs2.lt
    obtain ⟨U, hU⟩ : ∃ U, usedS x.vals = U := ⟨_, rfl⟩
    have hyl : (y2 : Int) ≤ 4000000 := by
      have h1 := usedS_len x.vals
      have h2 := HP.out.pre.cnt
      have h3 := HY2.out
      omega
    have HKU : Hid (∀ s, s ∈ U → Calls Tryz.prog 109 #[.pointer (some ⟨m.ab, 0, none⟩), .string s] w2 fun e w' => e = .returned (.bool (a.nm s.data.toList).isSome) ∧ w' = w2) := fun s hx => knows_any w2 m.ab _ _ _ m.nb _ _ _ s (HPW.out w2 HB2.out).at_.st (usedS_size HP.out.pre.trms s (by rw [hU]; exact hx))
    rw [hU] at HR2 HY2 HR
    have HUU := hideIt hU
    clear hU hs2 t0 t1 t2 t3 t4 t5 t6 t7 t8 p0 p1 p2 p3 p4 p5 p6 p7 p8 HU HZ
    go_loopw [12] (fun i wr => ∃ j : Nat, j ≤ y2 ∧ i = .int .i64 j ∧ (U.take j).any (unkn a.nm) = false ∧ wr = w2) (fun i _ => y2 - (intOf i).toNat)
    case atStart => exact ⟨0, Nat.zero_le _, rfl, rfl, rfl⟩
    case round =>
      obtain ⟨j, hj, rfl, hno, hw3⟩ := hrel
      subst hw3
      have HNO := hideIt hno
      clear hno
      by_cases hlt : j < y2
      · have hji : (j : Int) < (y2 : Int) := by omega
        have hjl : j < U.length := by rw [← HY2.out]; exact hlt
        obtain ⟨g, hg, cj⟩ := row_get HR2.out (by omega) (strV_at U j hjl)
        subst hg
        obtain ⟨y, hy⟩ : ∃ y, U[j] = y := ⟨_, rfl⟩
        rw [hy] at cj
        have HX := hideIt hy
        have HKY := hideIt (HKU.out y (by rw [← hy]; exact List.getElem_mem hjl))
        clear hy
        cases hk : (a.nm y.data.toList).isSome with
        | false =>
          rw [hk] at HKY
          have eR : R = .error 3 := by
            rw [← HR.out, if_pos]
            rw [List.any_eq_true]
            exact ⟨y, by rw [← HX.out]; exact List.getElem_mem hjl, by unfold unkn; rw [hk]; rfl⟩
          subst eR
          clear hk
          go_wp2_with (first | (go_at_call 109; refine HKY.out.mono ?_; rintro e w4 ⟨rfl, rfl⟩))
          exact ⟨rfl, ChgM.below _ (HB.out.trans (HB2.out.mono HB.out.size)), rfl⟩
        | true =>
          rw [hk] at HKY
          have HK := hideIt hk
          clear hk
          go_wp2_with (first | (go_at_call 109; refine HKY.out.mono ?_; rintro e w4 ⟨rfl, rfl⟩))
          go_roundw
          case rel => exact ⟨j + 1, by omega, by go_num, any_take_false hjl HNO.out (by rw [HX.out]; unfold unkn; rw [HK.out]; rfl), by first | rfl | trivial⟩
          case measure => simp [intOf]; omega
      · have hji : ¬ (j : Int) < (y2 : Int) := by omega
        have hall : U.any (unkn a.nm) = false := by
          have := HNO.out
          rw [List.take_of_length_le (by rw [← HY2.out]; omega)] at this
          exact this
        have hR2 := HR.out
        rw [if_neg (by simp [hall])] at hR2
        have HR3 := hideIt hR2
        have ht := sizeS_task (by rw [HSZ.out]; exact HZN.out : ¬ sizeS x.task x.vals.length x.ins.size = 0)
        have hpre := HPW.out wr HB2.out
        have hBY : Calls Tryz.prog 110 #[.pointer (some ⟨m.ab, 0, none⟩), .agg #[.int .i64 l0, .int .i64 (p : Int), .string lb, .int .i64 (x.task : Int), .string x.name, .slice va vn vc, .int .u8 (x.ins.code : Int), .slice ka kn kc, .int .i64 (x.ins.size : Int)]] wr.drew (DEnd wr.drew l0 (bytS a.nm p x)) := by
          rcases ht with h2 | h3 | h6
          · exact bytes_data wr.drew m a base x va vn vc p l0 lb x.name _ ka kn kc _ (hpre.below (Below.refl _ _).drew) (.inl h2)
          · exact bytes_data wr.drew m a base x va vn vc p l0 lb x.name _ ka kn kc _ (hpre.below (Below.refl _ _).drew) (.inr h3)
          · have hI := HP.out.ins h6
            exact bytes_ins wr.drew m a base x va vn vc p l0 lb x.name ka kn kc (hpre.below (Below.refl _ _).drew) ⟨hI.ins, (hI.kinds.below HB.out).below (w' := wr.drew) ⟨HB2.out.os, HB2.out.tape, HB2.out.output, HB2.out.size, HB2.out.block⟩⟩ h6
        have HT := hideIt ht
        have a0 : wr.cell? ⟨m.ab, 0, none⟩ = some (.slice (some ⟨m.ik, 0, none⟩) 1024 m.c0) := hpre.at_.st.c0
        have habl := hpre.at_.st.lt
        have hBw : Below w.heap.size w wr := HB.out.trans (HB2.out.mono HB.out.size)
        have HBW2 := hideIt hBw
        have HPR := hideIt hpre
        have hfit := HP.out.fit
        rw [HSZ.out] at hfit
        have hzn := HZN.out
        have hp1 : p < 1024 := by omega
        have hpi : (p : Int) < 1024 := by omega
        have hpi4 : (p : Int) ≤ 1024 := by omega
        have hc0i : (1024 : Int) ≤ (m.c0 : Int) := by have := HP.out.mok.h0; omega
        have hc0j : (m.c0 : Int) ≤ 9223372036854775807 := by have := HP.out.mok.h0.2; unfold maxLen at this; omega
        have hcp : ¬ m.c0 = p := by have := HP.out.mok.h0; omega
        have hpc : (p : Int) ≤ (m.c0 : Int) := by omega
        have HFI := hideIt (And.intro hfit hzn)
        have HBYY := hideIt hBY
        cases hO : bytS a.nm p x with
        | none =>
          rw [hO] at HBYY HR3
          have eR : R = .error 6 := HR3.out.symm
          subst eR
          have hent : ∀ args w, (callFunc 110 args).run Tryz.prog w = .ok (.enter 110 args) w := enters_of Tryz.func110 (by kernel_rfl) rfl
          clear hall hR2 ht hpre hBY hBw hfit hzn hO hlt hj HNO HR HKU HPW
          go_wp2_with fail
          go_region_law (first | (refine step_none HF ?_) | (refine step_dies 110 #[.pointer (some ⟨m.ab, 0, none⟩), .agg #[.int .i64 l0, .int .i64 (p : Int), .string lb, .int .i64 (x.task : Int), .string x.name, .slice va vn vc, .int .u8 (x.ins.code : Int), .slice ka kn kc, .int .i64 (x.ins.size : Int)]] rfl (by simp [go_sem, hent]) _ HBYY.out (fun e w' hh => ⟨fltC 6 l0, hh.2, rfl, ((ChgM.below m HBW2.out).trans (ChgM.below m (Below.trans (Below.refl _ _).drew hh.1))), rfl⟩) ?_; intro HF))
          all_goals exact HF.out.elim
        | some bs =>
          rw [hO] at HBYY HR3
          have eR : R = .ok { a with bytes := putAt a.bytes p bs } := HR3.out.symm
          subst eR
          have hbl := bytS_len hO HT.out (fun h6 => (HP.out.ins h6).ins)
          rw [HSZ.out] at hbl
          have HB2Y : Hid (Calls Tryz.prog 110 #[.pointer (some ⟨m.ab, 0, none⟩), .agg #[.int .i64 l0, .int .i64 (p : Int), .string lb, .int .i64 (x.task : Int), .string x.name, .slice va vn vc, .int .u8 (x.ins.code : Int), .slice ka kn kc, .int .i64 (x.ins.size : Int)]] wr.drew fun e w5 => ∃ (ya : Option Addr) (yn yc : Nat), e = .returned (.slice ya yn yc) ∧ Below wr.heap.size wr w5 ∧ ∃ v w6, (Builtin.copy_ #[32, 32] 3 #[.slice (some ⟨m.ik, p, none⟩) (1024 - p) (m.c0 - p), .slice ya yn yc]).run Tryz.prog w5 = .ok v w6 ∧ YRow w6 m.ik (putAt a.bytes p bs) ∧ OnlyB w5 w6 m.ik) := HBYY.out.mono fun e w5 hh => by
            obtain ⟨h1, v, h2, h3⟩ := hh
            obtain ⟨ya, yn, yc, rfl⟩ := u8_slice h3
            have hB5 : Below wr.heap.size wr w5 := ⟨h1.os, h1.tape, h1.output, h1.size, h1.block⟩
            have hf := HFI.out
            exact ⟨ya, yn, yc, h2, hB5, copy_run w5 _ m.ik p (m.c0 - p) a.bytes _ ya yn yc bs (HPR.out.at_.below hB5).bytes h3 hbl.2 (by omega) (by omega)⟩
          have HSX : Hid (∀ w' : World, w'.heap[m.ab]? = wr.heap[m.ab]? → w'.heap[w.heap.size]? = wr.heap[w.heap.size]? → w'.cell? ⟨m.ab, 0, none⟩ = some (.slice (some ⟨m.ik, 0, none⟩) 1024 m.c0) ∧ w'.cell? ⟨w.heap.size, 0, none⟩ = some (.int .i64 l0) ∧ w'.cell? ⟨w.heap.size, 1, none⟩ = some (.int .i64 (p : Int)) ∧ w'.cell? ⟨w.heap.size, 2, none⟩ = some (.string lb) ∧ w'.cell? ⟨w.heap.size, 3, none⟩ = some (.int .i64 (x.task : Int)) ∧ w'.cell? ⟨w.heap.size, 4, none⟩ = some (.string x.name) ∧ w'.cell? ⟨w.heap.size, 5, none⟩ = some (.slice va vn vc) ∧ w'.cell? ⟨w.heap.size, 6, none⟩ = some (.int .u8 (x.ins.code : Int)) ∧ w'.cell? ⟨w.heap.size, 7, none⟩ = some (.slice ka kn kc) ∧ w'.cell? ⟨w.heap.size, 8, none⟩ = some (.int .i64 (x.ins.size : Int))) := fun w' k1 k2 => by
            have hc : ∀ j, w'.cell? ⟨w.heap.size, j, none⟩ = wr.cell? ⟨w.heap.size, j, none⟩ := fun j => World.cell?_of_block (a := ⟨w.heap.size, j, none⟩) k2
            exact ⟨(World.cell?_of_block (a := ⟨m.ab, 0, none⟩) k1).trans a0, (hc 0).trans r0, (hc 1).trans r1, (hc 2).trans r2, (hc 3).trans r3, (hc 4).trans r4, (hc 5).trans r5, (hc 6).trans r6, (hc 7).trans r7, (hc 8).trans r8⟩
          have hik : m.ab ≠ m.ik := fun e => HP.out.mok.e.1 e.symm
          have hiw : w.heap.size ≠ m.ik := fun e => by have := HP.out.pre.at_.bytes.lt; omega
          have hBd : Below wr.heap.size wr wr.drew := (Below.refl _ _).drew
          clear hall hR2 ht hpre hBY hBw hfit hzn hO hlt hj HNO HR HKU HPW HBYY hbl
          go_wp2_with fail
          go_region_held3 (fun w' => w'.cell? ⟨m.ab, 0, none⟩ = some (.slice (some ⟨m.ik, 0, none⟩) 1024 m.c0) ∧ w'.cell? ⟨w.heap.size, 0, none⟩ = some (.int .i64 l0) ∧ w'.cell? ⟨w.heap.size, 1, none⟩ = some (.int .i64 (p : Int)) ∧ w'.cell? ⟨w.heap.size, 2, none⟩ = some (.string lb) ∧ w'.cell? ⟨w.heap.size, 3, none⟩ = some (.int .i64 (x.task : Int)) ∧ w'.cell? ⟨w.heap.size, 4, none⟩ = some (.string x.name) ∧ w'.cell? ⟨w.heap.size, 5, none⟩ = some (.slice va vn vc) ∧ w'.cell? ⟨w.heap.size, 6, none⟩ = some (.int .u8 (x.ins.code : Int)) ∧ w'.cell? ⟨w.heap.size, 7, none⟩ = some (.slice ka kn kc) ∧ w'.cell? ⟨w.heap.size, 8, none⟩ = some (.int .i64 (x.ins.size : Int))) (first | exact HSX.out _ (hBd.block _ habl) (hBd.block _ sl) | exact HSX.out _ (hB5.block _ habl) (hB5.block _ sl) | exact HSX.out _ ((ho6.block _ hik).trans (hB5.block _ habl)) ((ho6.block _ hiw).trans (hB5.block _ sl))) (first | (go_at_call 110; refine HB2Y.out.mono ?_; rintro e w5 ⟨ya, yn, yc, rfl, hB5, v6, w6, hrun, hy6, ho6⟩; have HY6 := hideIt hy6; clear hy6))
          all_goals
            go_wp2_with fail
            go_end0
            have hA5 := HPR.out.at_.below hB5
            refine ⟨(ChgM.below m HBW2.out).trans ((ChgM.below m hB5).trans ⟨ho6.os, ho6.tape, ho6.output, Nat.le_of_eq ho6.size.symm, fun k _ _ h2 _ _ _ => ho6.block k h2⟩), rfl, ?_⟩
            have he := HP.out.mok.e
            exact ⟨hA5.st.kept (ho6.block _ hik) (ho6.block _ (fun e => he.2.2.2 e.symm)), HY6.out, hA5.laid.kept (ho6.block _ (fun e => he.2.1 e.symm)), hA5.starts.kept (ho6.block _ (fun e => he.2.2.1 e.symm))⟩
end Go.Proofs.YthokdbcpkmcieaaGreatDoor
namespace Go.Proofs.YthokdbcpkmcieaaGreatDoor
open Go Go.RowKit Go.Shelf Go.WideMaps Go.Maps
theorem infoBoolB : (Tryz.prog.info? 4).map (fun i => (i.zero, i.size, i.bytes)) = some (some (.bool false), 1, 1) := by kernel_rfl
theorem infoU8B : (Tryz.prog.info? 5).map (fun i => (i.zero, i.size, i.bytes)) = some (some (.int .u8 0), 1, 1) := by kernel_rfl
theorem made_rep (z : Value) (n : Nat) : madeCells #[z] n = (List.replicate n z).toArray := by
  rw [← toList_madeCells_one z n, Array.toArray_toList]
def bF : List Bool := List.replicate 1024 false
def b255 : List UInt8 := List.replicate 1024 255
theorem bF_len : bF.length = 1024 := by unfold bF; exact List.length_replicate
/-- The image in the making: its box at tb, its rows at ik, lk, sk. -/
structure BlankAt (w wx : World) (tb ik lk sk : Nat) (l : List UInt8) : Prop where
  box : wx.heap[tb]? = some (.cells #[iV ik 1024, iV lk 1024, iV sk 1024] 35 (0, 0))
  bytes : YRow wx ik l
  laid : BRow wx lk bF
  starts : BRow wx sk bF
  low : w.heap.size < ik ∧ w.heap.size < lk ∧ w.heap.size < sk ∧ w.heap.size < tb
  ne : ik ≠ lk ∧ ik ≠ sk ∧ lk ≠ sk ∧ ik ≠ tb ∧ lk ≠ tb ∧ sk ≠ tb
  res : wx.heap[w.heap.size]? = some (.cells #[.slice none 0 0, .slice none 0 0, .slice none 0 0] 35 (0, 0))
  blw : Below w.heap.size w wx
/-- What Blank ends with. -/
def BlankEnd (w : World) (e : Ending) (w' : World) : Prop := ∃ ik lk sk, e = .returned (.agg #[iV ik 1024, iV lk 1024, iV sk 1024]) ∧ YRow w' ik b255 ∧ BRow w' lk bF ∧ BRow w' sk bF ∧ (w.heap.size < ik ∧ w.heap.size < lk ∧ w.heap.size < sk) ∧ (ik ≠ lk ∧ ik ≠ sk ∧ lk ≠ sk) ∧ Below w.heap.size w w'
theorem al_new (x : World) (o : Obj) (k : Nat) (h : k = x.heap.size) : (x.alloc o).heap[k]? = some o := by
  rw [h]
  exact heap_alloc_new x o
theorem four (w : World) (A o1 o2 o3 o4 : Obj) : (((((w.alloc A).alloc o1).alloc o2).alloc o3).alloc o4).heap[w.heap.size]? = some A ∧ (((((w.alloc A).alloc o1).alloc o2).alloc o3).alloc o4).heap[w.heap.size + 1]? = some o1 ∧ (((((w.alloc A).alloc o1).alloc o2).alloc o3).alloc o4).heap[w.heap.size + 1 + 1]? = some o2 ∧ (((((w.alloc A).alloc o1).alloc o2).alloc o3).alloc o4).heap[w.heap.size + 1 + 1 + 1]? = some o3 ∧ (((((w.alloc A).alloc o1).alloc o2).alloc o3).alloc o4).heap[w.heap.size + 1 + 1 + 1 + 1]? = some o4 ∧ Below w.heap.size w (((((w.alloc A).alloc o1).alloc o2).alloc o3).alloc o4) := by
  refine ⟨?_, ?_, ?_, ?_, ?_, (((((Below.refl _ _).alloc (Nat.le_refl _) _).alloc (by simp) _).alloc (by simp; omega) _).alloc (by simp; omega) _).alloc (by simp; omega) _⟩
  · rw [Below.heap_alloc _ _ _ (by simp; omega), Below.heap_alloc _ _ _ (by simp; omega), Below.heap_alloc _ _ _ (by simp; omega), Below.heap_alloc _ _ _ (by simp)]
    exact al_new _ _ _ rfl
  · rw [Below.heap_alloc _ _ _ (by simp <;> omega), Below.heap_alloc _ _ _ (by simp <;> omega), Below.heap_alloc _ _ _ (by simp)]
    exact al_new _ _ _ (by simp)
  · rw [Below.heap_alloc _ _ _ (by simp <;> omega), Below.heap_alloc _ _ _ (by simp)]
    exact al_new _ _ _ (by simp)
  · rw [Below.heap_alloc _ _ _ (by simp)]
    exact al_new _ _ _ (by simp)
  · exact al_new _ _ _ (by simp)
theorem YRow.cell {w : World} {b : Nat} {l : List UInt8} (h : YRow w b l) (i : Nat) (hi : i < l.length) : w.cell? ⟨b, i, none⟩ = some (.int .u8 (l[i].toNat : Int)) := by
  rw [cell_of_row _ _ _ _ _ (0, 0) h.at_]
  simp [hi]
theorem YRow.put {w : World} {b : Nat} {l : List UInt8} (h : YRow w b l) (i : Nat) (x : UInt8) : YRow (w.setCell ⟨b, i, none⟩ (.int .u8 (x.toNat : Int))) b (l.set i x) := by
  refine ⟨?_, by rw [List.length_set]; exact h.len⟩
  rw [heap_setCell_same w b i _ _ (.int .u8 (x.toNat : Int)) h.at_]
  simp [List.map_set]
/-- So many bytes are set. -/
def fillTo (j : Nat) : List UInt8 := List.replicate j 255 ++ List.replicate (1024 - j) 0
theorem fillTo_set (j : Nat) (h : j < 1024) : (fillTo j).set j 255 = fillTo (j + 1) := by
  unfold fillTo
  obtain ⟨k, hk⟩ : ∃ k, 1024 - j = k + 1 := ⟨1024 - j - 1, by omega⟩
  rw [hk, show 1024 - (j + 1) = k by omega, List.replicate_succ, List.set_append_right _ _ (by simp)]
  simp [List.replicate_succ']
theorem BlankAt.put {w wx : World} {tb ik lk sk j : Nat} (h : BlankAt w wx tb ik lk sk (fillTo j)) (hj : j < 1024) : BlankAt w (wx.setCell ⟨ik, j, none⟩ (.int .u8 255)) tb ik lk sk (fillTo (j + 1)) := by
  have hl := h.low
  have hn := h.ne
  have hb := h.blw
  refine ⟨(heap_setCell_other _ _ _ _ (fun e => hn.2.2.2.1 e.symm)).trans h.box, ?_, h.laid.kept (heap_setCell_other _ _ _ _ (fun e => hn.1 e.symm)), h.starts.kept (heap_setCell_other _ _ _ _ (fun e => hn.2.1 e.symm)), hl, hn, (heap_setCell_other _ _ _ _ (by show w.heap.size ≠ ik; omega)).trans h.res, ⟨hb.os, hb.tape, hb.output, by simpa [World.setCell] using hb.size, fun k hk => (heap_setCell_other _ _ _ _ (by show k ≠ ik; omega)).trans (hb.block k hk)⟩⟩
  have := h.bytes.put j 255
  rw [fillTo_set j hj] at this
  exact this
set_option maxRecDepth 100000 in
set_option maxHeartbeats 8000000 in
theorem blank_any (w : World) : Calls Tryz.prog 63 #[] w (BlankEnd w) := by
  obtain ⟨zY, hzY⟩ : ∃ zY, madeCells #[Value.int .u8 0] 1024 = zY := ⟨_, rfl⟩
  obtain ⟨zB, hzB⟩ : ∃ zB, madeCells #[Value.bool false] 1024 = zB := ⟨_, rfl⟩
  have hmY : ∀ w, (Instr.makeSlice 32 (.int .i64 1024) (.int .i64 1024)).run Tryz.prog w = .ok (.slice (some ⟨w.heap.size, 0, none⟩) 1024 1024) (w.alloc (.cells zY 5)) := fun w => by
    rw [← hzY]
    exact run_make_row' 32 5 (.int .u8 0) 1 Tryz.underlying32 infoU8B rfl .i64 .i64 1024 (by decide) (by decide) w
  have hmB : ∀ w, (Instr.makeSlice 33 (.int .i64 1024) (.int .i64 1024)).run Tryz.prog w = .ok (.slice (some ⟨w.heap.size, 0, none⟩) 1024 1024) (w.alloc (.cells zB 4)) := fun w => by
    rw [← hzB]
    exact run_make_row' 33 4 (.bool false) 1 Tryz.underlying33 infoBoolB rfl .i64 .i64 1024 (by decide) (by decide) w
  have HZY : Hid (zY = ((fillTo 0).map fun x => Value.int .u8 (x.toNat : Int)).toArray) := by
    show zY = _
    rw [← hzY, made_rep, show fillTo 0 = List.replicate 1024 (0 : UInt8) from rfl, List.map_replicate]
    rfl
  have HZB : Hid (zB = (bF.map Value.bool).toArray) := by
    show zB = _
    unfold bF
    rw [← hzB, made_rep, List.map_replicate]
  clear hzY hzB
  go_enter Tryz.func63, Tryz.ntmps63
  go_upto_region 1 with fail
  go_cut [1] (fun s wx => ∃ tb ik lk sk, s = .pointer (some ⟨tb, 0, none⟩) ∧ BlankAt w wx tb ik lk sk (fillTo 0))
  case first =>
    go_region
    all_goals
      go_wp2_with fail
      go_meet
      obtain ⟨g0, g1, g2, g3, g4, g5⟩ := four w _ _ _ _ _
      refine ⟨_, _, _, _, rfl, ⟨by first | exact g1 | exact g2 | exact g3 | exact g4, ⟨by rw [← HZY.out]; first | exact g1 | exact g2 | exact g3 | exact g4, by simp [fillTo]⟩, ⟨by rw [← HZB.out]; first | exact g1 | exact g2 | exact g3 | exact g4, bF_len⟩, ⟨by rw [← HZB.out]; first | exact g1 | exact g2 | exact g3 | exact g4, bF_len⟩, by omega, by omega, g0, ⟨g5.os, g5.tape, g5.output, g5.size, g5.block⟩⟩⟩
  case rest =>
  obtain ⟨tb, ik, lk, sk, rfl, hb⟩ := hcut
  have hbc : ∀ (wx : World) (l : List UInt8), BlankAt w wx tb ik lk sk l → wx.cell? ⟨tb, 0, none⟩ = some (iV ik 1024) ∧ wx.cell? ⟨tb, 1, none⟩ = some (iV lk 1024) ∧ wx.cell? ⟨tb, 2, none⟩ = some (iV sk 1024) := fun wx l h => ⟨by rw [cell_of_row _ _ _ _ _ (0, 0) h.box]; rfl, by rw [cell_of_row _ _ _ _ _ (0, 0) h.box]; rfl, by rw [cell_of_row _ _ _ _ _ (0, 0) h.box]; rfl⟩
  have HBC := hideIt hbc
  obtain ⟨c0, c1, c2⟩ := hbc _ _ hb
  unfold iV at c0 c1 c2
  have HBL := hideIt hb
  clear hb hbc hmY hmB HZY HZB
  go_wp2_with fail
  go_loopw [10] (fun i wr => ∃ j : Nat, j ≤ 1024 ∧ i = .int .i64 j ∧ BlankAt w wr tb ik lk sk (fillTo j)) (fun i _ => 1024 - (intOf i).toNat)
  case atStart => exact ⟨0, Nat.zero_le _, rfl, HBL.out⟩
  case round =>
    clear HBL c0 c1 c2
    obtain ⟨j, hj, rfl, hb⟩ := hrel
    obtain ⟨c0, c1, c2⟩ := HBC.out _ _ hb
    unfold iV at c0 c1 c2
    have HBL := hideIt hb
    by_cases hlt : j < 1024
    · have hji : (j : Int) < 1024 := by omega
      have cj := hb.bytes.cell j (by rw [hb.bytes.len]; exact hlt)
      obtain ⟨y, hy⟩ : ∃ y : Int, ((fillTo j)[j]'(by rw [hb.bytes.len]; exact hlt)).toNat = y := ⟨_, rfl⟩
      rw [hy] at cj
      have fj := frozen_of_row wr ik j _ _ hb.bytes.at_
      have HBP := hideIt (hb.put hlt)
      clear hb hy
      go_wp2
      go_roundw
      case rel => exact ⟨j + 1, by omega, by go_num, HBP.out⟩
      case measure => simp [intOf]; omega
    · have hji : ¬ (j : Int) < 1024 := by omega
      have hj4 : j = 1024 := by omega
      rw [hj4] at HBL hji ⊢
      have r0 : wr.cell? ⟨w.heap.size, 0, none⟩ = some (.slice none 0 0) := by rw [cell_of_row _ _ _ _ _ (0, 0) hb.res]; rfl
      have r1 : wr.cell? ⟨w.heap.size, 1, none⟩ = some (.slice none 0 0) := by rw [cell_of_row _ _ _ _ _ (0, 0) hb.res]; rfl
      have r2 : wr.cell? ⟨w.heap.size, 2, none⟩ = some (.slice none 0 0) := by rw [cell_of_row _ _ _ _ _ (0, 0) hb.res]; rfl
      have f0 := frozen_of_row wr w.heap.size 0 _ _ hb.res
      have f1 := frozen_of_row wr w.heap.size 1 _ _ hb.res
      have f2 := frozen_of_row wr w.heap.size 2 _ _ hb.res
      have hwl : w.heap.size < wr.heap.size := (Array.getElem?_eq_some_iff.1 hb.res).1
      clear hb hlt hj hj4
      go_wp2_with fail
      refine bodyPost_ret (v := .agg #[iV ik 1024, iV lk 1024, iV sk 1024]) (by simp [iV, results, Tryz.results63, go_sem, r0, r1, r2]) rfl ⟨ik, lk, sk, rfl, ?_⟩
      have hb := HBL.out
      have hl := hb.low
      have e3 : ∀ (k : Nat) (v0 v1 v2 : Value), k ≠ w.heap.size → (((wr.setCell ⟨w.heap.size, 0, none⟩ v0).setCell ⟨w.heap.size, 1, none⟩ v1).setCell ⟨w.heap.size, 2, none⟩ v2).heap[k]? = wr.heap[k]? := fun k v0 v1 v2 hk => by
        rw [heap_setCell_other _ ⟨w.heap.size, 2, none⟩ k _ hk, heap_setCell_other _ ⟨w.heap.size, 1, none⟩ k _ hk, heap_setCell_other _ ⟨w.heap.size, 0, none⟩ k _ hk]
      have e255 : fillTo 1024 = b255 := by
        unfold fillTo b255
        simp only [Nat.sub_self, List.replicate_zero, List.append_nil]
      rw [e255] at hb
      exact ⟨hb.bytes.kept (e3 _ _ _ _ (by omega)), hb.laid.kept (e3 _ _ _ _ (by omega)), hb.starts.kept (e3 _ _ _ _ (by omega)), ⟨hl.1, hl.2.1, hl.2.2.1⟩, ⟨hb.ne.1, hb.ne.2.1, hb.ne.2.2.1⟩, ⟨hb.blw.os, hb.blw.tape, hb.blw.output, by simpa [World.setCell] using hb.blw.size, fun k hk => (e3 k _ _ _ (by omega)).trans (hb.blw.block k hk)⟩⟩
end Go.Proofs.YthokdbcpkmcieaaGreatDoor
