/- The assembler: settle at what is laid. -/
import Derived.Test.YthokdbcpkmcieaaGreatDoorA28
namespace Go.Proofs.YthokdbcpkmcieaaGreatDoor
open Go Go.RowKit Go.Shelf Go.WideMaps Go.Maps
set_option maxRecDepth 100000 in
set_option maxHeartbeats 8000000 in
theorem settle_lay (w : World) (m : AMem) (a : Asm) (base : Nat) (lb : ByteArray) (x : Stm) (va : Option Addr) (vn vc : Nat) (ka : Option Addr) (kn kc : Nat) (l0 : Int) (hp : SetPre w m a base lb x (.slice va vn vc)) (hcu : cuF a.nm lb x.task x.name x.vals = true) (hcg : cgF a.nm a.n (givenS lb x.task x.name) = none) (htoo : tooS x.vals = false) (h1 : x.task ≠ 1) (h4 : x.task ≠ 4) (h5 : x.task ≠ 5) :
    Calls Tryz.prog 106 #[.pointer (some ⟨m.ab, 0, none⟩), .agg #[.int .i64 l0, .int .i64 (a.pl : Int), .string lb, .int .i64 (x.task : Int), .string x.name, .slice va vn vc, .int .u8 (x.ins.code : Int), .slice ka kn kc, .int .i64 (x.ins.size : Int)]] w (SetEnd w m l0 (settleF a lb x)) := by
  have hk1 : ¬ (x.task : Int) = 1 := by omega
  have hk4 : ¬ (x.task : Int) = 4 := by omega
  have hk5 : ¬ (x.task : Int) = 5 := by omega
  have hb1 : ((x.task : Int) == 1) = false := by simp [hk1]
  have hb4 : ((x.task : Int) == 4) = false := by simp [hk4]
  have hb5 : ((x.task : Int) == 5) = false := by simp [hk5]
  have hst := hp.stm
  have HU0 := fun w' (hb : Below w.heap.size w w') => checkUsed_any w' m.ab _ _ _ m.nb a.n a.nm (a.pl : Int) base x.vals l0 (a.pl : Int) lb x.task x.name va vn vc (x.ins.code : Int) ka kn kc (x.ins.size : Int) (hp.at_.st.below hb) (hp.vals.below hb) hst.len hst.cnt hst.used
  have HG0 := fun w' (hb : Below w.heap.size w w') => checkGiven_any w' m.ab _ _ _ m.nb a.n a.nm (a.pl : Int) l0 (a.pl : Int) lb x.task x.name va vn vc (x.ins.code : Int) ka kn kc (x.ins.size : Int) (hp.at_.st.below hb) hp.ok.n hst.given
  have HT0 := fun w' (hb : Below w.heap.size w w') => tooGreat_any w' base x.vals l0 (a.pl : Int) lb (x.task : Int) x.name va vn vc (x.ins.code : Int) ka kn kc (x.ins.size : Int) (hp.vals.below hb) hst.len hst.cnt
  have HU1 := fun w' (hb : Below w.heap.size w w') => (HU0 w' hb).mono (R' := fun e w2 => e = .returned (.tuple #[]) ∧ Below w'.heap.size w' w2) (fun e w2 ⟨h1, h2⟩ => ⟨h1.trans (by rw [hcu]; rfl), h2⟩)
  have HG1 := fun w' (hb : Below w.heap.size w w') => (HG0 w' hb).mono (R' := fun e w2 => e = .returned (.tuple #[]) ∧ Below w'.heap.size w' w2) (fun e w2 ⟨h1, h2⟩ => ⟨h1.trans (by rw [hcg]; rfl), h2⟩)
  have HT1 := fun w' (hb : Below w.heap.size w w') => (HT0 w' hb).mono (R' := fun e w2 => e = .returned (.bool false) ∧ Below w'.heap.size w' w2) (fun e w2 ⟨h1, h2⟩ => ⟨h1.trans (by rw [htoo]), h2⟩)
  obtain ⟨W, hW, hBW, hWz, hSS⟩ := st_box w l0 (a.pl : Int) lb (x.task : Int) x.name (.slice va vn vc) (x.ins.code : Int) (.slice ka kn kc) (x.ins.size : Int)
  have HSS : Hid (∀ w', Below W.heap.size W w' → SS w' w.heap.size l0 (a.pl : Int) lb (x.task : Int) x.name (.slice va vn vc) (x.ins.code : Int) (.slice ka kn kc) (x.ins.size : Int)) := fun w' hb => hSS.grown (hb.block _ hSS.lt) hb.size
  have HU := hideIt HU1
  have HG := hideIt HG1
  have HT := hideIt HT1
  have HB := hideIt hBW
  have HP := hideIt hp
  have t0 := hSS.c0
  have t1 := hSS.c1
  have t2 := hSS.c2
  have t3 := hSS.c3
  have t4 := hSS.c4
  have t5 := hSS.c5
  have t6 := hSS.c6
  have t7 := hSS.c7
  have t8 := hSS.c8
  clear HU0 HG0 HT0 hBW hSS hp hst HU1 HG1 HT1
  obtain ⟨R, hR⟩ : ∃ R, settleF a lb x = R := ⟨_, rfl⟩
  rw [hR]
  have HR := hideIt hR
  clear hR
  go_enter Tryz.func106, Tryz.ntmps106
  go_upto_if 19 with (first | (go_at_call 168; refine (HU.out W HB.out).mono ?_; rintro e w1 ⟨rfl, hb1⟩; have hB1 : Below W.heap.size W w1 := hb1; have p0 := (HSS.out _ hB1).c0; have p1 := (HSS.out _ hB1).c1; have p2 := (HSS.out _ hB1).c2; have p3 := (HSS.out _ hB1).c3; have p4 := (HSS.out _ hB1).c4; have p5 := (HSS.out _ hB1).c5; have p6 := (HSS.out _ hB1).c6; have p7 := (HSS.out _ hB1).c7; have p8 := (HSS.out _ hB1).c8; have HB1 := hideIt hB1; clear hb1 hB1) | (go_at_call 169; refine (HG.out w1 (HB.out.trans (HB1.out.mono HB.out.size))).mono ?_; rintro e w2 ⟨rfl, hb2⟩; have hB2 : Below W.heap.size W w2 := HB1.out.trans (hb2.mono HB1.out.size); have q0 := (HSS.out _ hB2).c0; have q1 := (HSS.out _ hB2).c1; have q2 := (HSS.out _ hB2).c2; have q3 := (HSS.out _ hB2).c3; have q4 := (HSS.out _ hB2).c4; have q5 := (HSS.out _ hB2).c5; have q6 := (HSS.out _ hB2).c6; have q7 := (HSS.out _ hB2).c7; have q8 := (HSS.out _ hB2).c8; have HB2 := hideIt hB2; clear hb2 hB2) | (go_at_call 170; refine (HT.out w2 (HB.out.trans (HB2.out.mono HB.out.size))).mono ?_; rintro e w3 ⟨rfl, hb3⟩; have hB3 : Below W.heap.size W w3 := HB2.out.trans (hb3.mono HB2.out.size); have r0 := (HSS.out _ hB3).c0; have r1 := (HSS.out _ hB3).c1; have r2 := (HSS.out _ hB3).c2; have r3 := (HSS.out _ hB3).c3; have r4 := (HSS.out _ hB3).c4; have r5 := (HSS.out _ hB3).c5; have r6 := (HSS.out _ hB3).c6; have r7 := (HSS.out _ hB3).c7; have r8 := (HSS.out _ hB3).c8; have HB3 := hideIt hB3; clear hb3 hB3))
  have HB03 := hideIt (HB.out.trans (HB3.out.mono HB.out.size))
  have HA3 : Hid (AsmAt w3 m a) := HP.out.at_.below HB03.out
  have HS3 := hideIt (HSS.out w3 HB3.out)
  have HN40 := hideIt (cgF_n hcg)
  clear HU HG HT HB1 HB2 p0 p1 p2 p3 p4 p5 p6 p7 p8 q0 q1 q2 q3 q4 q5 q6 q7 q8 t0 t1 t2 t3 t4 t5 t6 t7 t8
  go_cut [] (fun wx => SetMid w wx m (labA a lb) base x.vals (.slice va vn vc) l0 (a.pl : Int) lb (x.task : Int) x.name (x.ins.code : Int) (.slice ka kn kc) (x.ins.size : Int))
  case first =>
    have HV3 : Hid (VAt w3 base (.slice va vn vc) x.vals) := HP.out.vals.below HB03.out
    by_cases hlb : lb = ⟨#[]⟩
    · have hemp : lb.toList.isEmpty = true := by rw [hlb, ByteArray.toList_eq]; rfl
      have hempn : (!lb.toList.isEmpty) = false := by simp [hemp]
      have HL : Hid (labA a lb = a) := by unfold labA; exact if_pos hlb
      clear hlb
      rw [hempn]
      go_wp2_with fail
      go_meet
      exact ⟨HL.out.symm ▸ HA3.out, ChgM.below _ HB03.out, HV3.out, HS3.out⟩
    · have hemp := emptyB_not hlb
      have hempn : (!lb.toList.isEmpty) = true := by simp [hemp]
      have HL := hideIt hlb
      clear hlb
      obtain ⟨w4, hrun, hM4, hg4⟩ := asm_store (w := w3.drew) ⟨HA3.out.st.kept rfl rfl, HA3.out.bytes.kept rfl, HA3.out.laid.kept rfl, HA3.out.starts.kept rfl⟩ HP.out.ok.n lb HP.out.stm.lb (a.pl : Int)
      have a3 := HA3.out.st.c3
      have a4 := HA3.out.st.c4
      have hs4 : w4.heap[w.heap.size]? = w3.heap[w.heap.size]? := hg4.block _ HS3.out.lt (fun e => by have h1 := Option.some.inj e; have h2 := HP.out.at_.nlt; omega)
      have hab4 : w4.heap[m.ab]? = w3.heap[m.ab]? := hg4.block _ HA3.out.st.lt (fun e => HA3.out.st.ne (Option.some.inj e).symm)
      have b3 := (World.cell?_of_block (a := ⟨m.ab, 3, none⟩) hab4).trans a3
      have b4 := (World.cell?_of_block (a := ⟨m.ab, 4, none⟩) hab4).trans a4
      have s4 := (World.cell?_of_block (a := ⟨w.heap.size, 2, none⟩) hs4).trans r2
      have H4 : Hid (SetMid w w4 m (labA a lb) base x.vals (.slice va vn vc) l0 (a.pl : Int) lb (x.task : Int) x.name (x.ins.code : Int) (.slice ka kn kc) (x.ins.size : Int)) := ⟨AsmAt.lab (w := w3.drew) ⟨HA3.out.st.kept rfl rfl, HA3.out.bytes.kept rfl, HA3.out.laid.kept rfl, HA3.out.starts.kept rfl⟩ HP.out.mok HL.out hM4 hg4, (ChgM.below m HB03.out).trans ⟨hg4.os, hg4.tape, hg4.output, hg4.size, fun k h1 _ _ _ _ h2 => hg4.block k h1 (fun e => h2 (Option.some.inj e))⟩, HV3.out.keptM (fun j h1 h2 => hg4.block j h2 (fun e => by have h3 := Option.some.inj e; have h4 := HP.out.lo.2.2.2.2; omega)), HS3.out.grown hs4 hg4.size⟩
      clear hM4 hg4 hs4 hab4 HA3 HS3 HV3 HP HB03 HB HB3 HSS HN40 hcu hcg htoo r0 r1 r3 r4 r5 r6 r7 r8
      rw [hempn]
      go_wp2_with fail
      go_region_held3 (fun w' => w'.cell? ⟨m.ab, 3, none⟩ = some (.map (some m.nb)) ∧ w'.cell? ⟨m.ab, 4, none⟩ = some (.int .i64 (a.pl : Int)) ∧ w'.cell? ⟨w.heap.size, 2, none⟩ = some (.string lb)) (first | exact ⟨b3, b4, s4⟩ | exact ⟨a3, a4, r2⟩) (fail)
      all_goals
        go_wp2_with fail
        go_meet
        exact H4.out
  case rest =>
  have HM := hideIt hcut
  have hle0 : (0 : Int) ≤ (a.pl : Int) := by omega
  have HOKL := hideIt (labA_ok (lb := lb) HP.out.ok (by have := HN40.out; omega))
  clear hcut HA3 HS3 HB03 HB HB3 HSS r0 r1 r2 r3 r4 r5 r6 r7 r8
  obtain ⟨s0, s1, s2, s3, s4, s5, s6, s7, s8, sf, sl⟩ := HM.out.ss
  obtain ⟨vs, hvr, _⟩ := HM.out.vals
  have hvn : vn = x.vals.length := row_lenB hvr rfl
  have hsf : settleF a lb x = match spanF a.pl (sizeS x.task vn x.ins.size) a.laid with
      | some k => .error k
      | none => .ok { labA a lb with pl := a.pl + sizeS x.task vn x.ins.size, laid := setR a.laid a.pl (sizeS x.task vn x.ins.size), starts := if x.task = 6 then a.starts.set a.pl true else a.starts } := by
    unfold settleF
    rw [if_neg (by simp [hcu]), hcg]
    simp only
    rw [if_neg (by simp [htoo]), if_neg h1, if_neg h4, if_neg h5, hvn]
    rfl
  have HSF := hideIt (HR.out.symm.trans hsf)
  have hl1 := (labA_laid a lb).1
  have hl2 := (labA_laid a lb).2.1
  have hL := HM.out.at_.laid
  have hS := HM.out.at_.starts
  have hA := HM.out.at_.st
  rw [hl1] at hL
  rw [hl2] at hS
  rw [labA_pl] at hA
  have HLY := hideIt (lay_st wc m.ab m.lk m.sk m.c1 m.c2 (iV m.ik m.c0) m.nb (labA a lb).n (labA a lb).nm a.pl a.laid a.starts l0 (a.pl : Int) lb x.task x.name va vn vc (x.ins.code : Int) ka kn kc x.ins.size hA hL hS HP.out.mok.d HP.out.mok.h1 (by rw [hvn]; exact HP.out.stm.len) HP.out.ok.pl HP.out.stm.size HP.out.stm.one6)
  clear hsf hl1 hl2 hL hS hA hvr hvn hcu hcg htoo HN40
  unfold LayEnd at HLY
  obtain ⟨Z, hZ⟩ : ∃ Z, sizeS x.task vn x.ins.size = Z := ⟨_, rfl⟩
  obtain ⟨S6, hS6⟩ : ∃ S6, (if x.task = 6 then a.starts.set a.pl true else a.starts) = S6 := ⟨_, rfl⟩
  rw [hZ, hS6] at HLY HSF
  cases hF : spanF a.pl Z a.laid with
  | some k =>
    rw [hF] at HLY HSF
    have HL2 : Hid (Calls Tryz.prog 172 #[.pointer (some ⟨m.ab, 0, none⟩), .agg #[.int .i64 l0, .int .i64 (a.pl : Int), .string lb, .int .i64 (x.task : Int), .string x.name, .slice va vn vc, .int .u8 (x.ins.code : Int), .slice ka kn kc, .int .i64 (x.ins.size : Int)]] wc fun e w' => e = .panicked (fltC k l0) ∧ Chg3 wc w' m.ab m.lk m.sk) := HLY.out.mono fun e w' hh => ⟨hh.1, hh.2.1⟩
    have e6 : R = .error k := HSF.out
    subst e6
    clear HLY HSF hF hZ hS6
    go_wp2_with (first | (go_at_call 172; refine HL2.out.mono ?_; rintro e w5 ⟨rfl, h5⟩))
    exact ⟨rfl, HM.out.chg.trans (ChgM.of3 h5), rfl⟩
  | none =>
    rw [hF] at HLY HSF
    have HL2 : Hid (Calls Tryz.prog 172 #[.pointer (some ⟨m.ab, 0, none⟩), .agg #[.int .i64 l0, .int .i64 (a.pl : Int), .string lb, .int .i64 (x.task : Int), .string x.name, .slice va vn vc, .int .u8 (x.ins.code : Int), .slice ka kn kc, .int .i64 (x.ins.size : Int)]] wc fun e w' => e = .returned (.tuple #[]) ∧ Chg3 wc w' m.ab m.lk m.sk ∧ AS w' m.ab (iV m.ik m.c0) (iV m.lk m.c1) (iV m.sk m.c2) m.nb (labA a lb).n (labA a lb).nm ((a.pl + Z : Nat) : Int) ∧ BRow w' m.lk (setR a.laid a.pl Z) ∧ BRow w' m.sk S6) := HLY.out.mono fun e w' hh => ⟨hh.1, hh.2.1, hh.2.2 rfl⟩
    have e6 : R = .ok { labA a lb with pl := a.pl + Z, laid := setR a.laid a.pl Z, starts := S6 } := HSF.out
    subst e6
    clear HLY HSF hF hZ hS6
    go_wp2_with (first | (go_at_call 172; refine HL2.out.mono ?_; rintro e w5 ⟨rfl, h5, hA5, hL5, hS5⟩))
    go_end0
    exact ⟨HM.out.chg.trans (ChgM.of3 h5), rfl, hA5, HM.out.at_.bytes.kept (h5.block _ HM.out.at_.bytes.lt HP.out.mok.e.1 HP.out.mok.e.2.1 HP.out.mok.e.2.2.1), hL5, hS5⟩
end Go.Proofs.YthokdbcpkmcieaaGreatDoor
