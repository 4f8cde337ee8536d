/- The walk of readValues. -/
import Derived.Test.YthokdbcpkmcieaaGreatDoorA09
import Derived.Deep.DeepCutAuto
namespace Go.Proofs.YthokdbcpkmcieaaGreatDoor
open Go Go.RowKit Go.Maps Go.WideMaps
/-- Is it done at once? -/
def atOnce (tk : Nat) : Bool := tk == 1 || tk == 4 || tk == 5
def stV (l0 p0 : Int) (lb : ByteArray) (tk : Int) (nm : ByteArray) (v : Value) (cd : Int) (kd : Value) (sz : Int) : Value := .agg #[.int .i64 l0, .int .i64 p0, .string lb, .int .i64 tk, .string nm, v, .int .u8 cd, kd, .int .i64 sz]
set_option maxRecDepth 100000 in
set_option maxHeartbeats 1000000 in
theorem isDone_any (w : World) (l0 p0 : Int) (lb : ByteArray) (tk : Nat) (nm : ByteArray) (va : Option Addr) (vn vc : Nat) (cd : Int) (ka : Option Addr) (kn kc : Nat) (sz : Int) :
    Calls Tryz.prog 216 #[.agg #[.int .i64 l0, .int .i64 p0, .string lb, .int .i64 tk, .string nm, .slice va vn vc, .int .u8 cd, .slice ka kn kc, .int .i64 sz]] w fun e w' => e = .returned (.bool (atOnce tk)) ∧ Below w.heap.size w w' := by
  have hz : Below w.heap.size w (w.alloc (.cells #[.int .i64 l0, .int .i64 p0, .string lb, .int .i64 tk, .string nm, .slice va vn vc, .int .u8 cd, .slice ka kn kc, .int .i64 sz] 130)) := (Below.refl _ _).alloc (Nat.le_refl _) _
  by_cases h1 : tk = 1
  · subst h1
    go_enter Tryz.func216, Tryz.ntmps216
    go_wp2
    go_ret
    exact ⟨rfl, hz⟩
  · have i1 : ((tk : Int) == 1) = false := by simp; omega
    by_cases h4 : tk = 4
    · subst h4
      go_enter Tryz.func216, Tryz.ntmps216
      go_wp2
      go_ret
      exact ⟨rfl, hz⟩
    · have i4 : ((tk : Int) == 4) = false := by simp; omega
      by_cases h5 : tk = 5
      · subst h5
        go_enter Tryz.func216, Tryz.ntmps216
        go_wp2
        go_ret
        exact ⟨rfl, hz⟩
      · have i5 : ((tk : Int) == 5) = false := by simp; omega
        have e : atOnce tk = false := by unfold atOnce; simp [h1, h4, h5]
        rw [e]
        go_enter Tryz.func216, Tryz.ntmps216
        go_wp2
        go_ret
        exact ⟨rfl, hz⟩
def pVals1 : Nat → List (List Trm) → List Tok → Option (List (List Trm) × List Tok)
  | 0, acc, ts => some (acc, ts)
  | _ + 1, _, [] => none
  | f + 1, acc, t :: l => if t.text = ⟨#[44]⟩ then (pExpr l).bind fun x => pVals1 f (acc ++ [x.1]) x.2 else some (acc, t :: l)
def pVals (tk : Nat) (ts : List Tok) : Option (List (List Trm) × List Tok) := (pExpr ts).bind fun x => if atOnce tk = true then some ([x.1], x.2) else pVals1 x.2.length [x.1] x.2
theorem slice_of {w : World} {base : Nat} {e : TypeId} {size n : Nat} {v : Value} {xs : List Value} (h : w.ownsRow base e size v n xs) : ∃ a m c, v = .slice a m c := by
  obtain ⟨_, ⟨rfl, _⟩ | ⟨g, cap, cur, rfl, _⟩⟩ := h
  · exact ⟨_, _, _, rfl⟩
  · exact ⟨_, _, _, rfl⟩
theorem vals_row {wr w3 : World} {base pb n : Nat} {v : Value} {vs : List Value} (h : wr.ownsRow base 259 1 v n vs) (hg : wr.grownBy w3 (some pb)) (hp : pb < base) (o : Obj) : (w3.alloc o).ownsRow base 259 1 v n vs := (own_grown h hg hp).alloc o
theorem vals_cell {wr w3 wn : World} {base pb sb n : Nat} {v u : Value} {vs : List Value} {o : Obj} (hgr : (w3.alloc o).grownBy wn v.ownBlock) (hc : w3.cell? ⟨sb, 5, none⟩ = some u) (h : wr.ownsRow base 259 1 v n vs) (hs : sb < base ∧ sb < wr.heap.size) (hg : wr.grownBy w3 (some pb)) : wn.cell? ⟨sb, 5, none⟩ = some u := by
  have hz := hg.size
  have e := hgr.block sb (by simp; omega) (fun e => by have := (h.lt sb e.symm).1; omega)
  rw [World.cell?_of_block (a := ⟨sb, 5, none⟩) e, World.cell?_alloc_old _ _ _ (by simp; omega)]
  exact hc
theorem vals_frozen {wr w3 wn : World} {base pb sb n : Nat} {v : Value} {vs : List Value} {o : Obj} (hgr : (w3.alloc o).grownBy wn v.ownBlock) (hc : w3.frozen? ⟨sb, 5, none⟩ = false) (h : wr.ownsRow base 259 1 v n vs) (hs : sb < base ∧ sb < wr.heap.size) (hg : wr.grownBy w3 (some pb)) : wn.frozen? ⟨sb, 5, none⟩ = false := by
  have hz := hg.size
  have e := hgr.block sb (by simp; omega) (fun e => by have := (h.lt sb e.symm).1; omega)
  rw [World.frozen?_of_block (a := ⟨sb, 5, none⟩) e, World.frozen?_of_block (a := ⟨sb, 5, none⟩) (Below.heap_alloc _ _ _ (by simp; omega))]
  exact hc
theorem Tryz.infoExp : (Tryz.prog.info? 259).map (fun i => (i.zero, i.size, i.bytes)) = some (some (.slice none 0 0), 1, 24) := by kernel_rfl
theorem drew_own {w : World} {base : Nat} {e : TypeId} {size n : Nat} {v : Value} {xs : List Value} (h : w.ownsRow base e size v n xs) : w.drew.ownsRow base e size v n xs := h
theorem VAt.below {w w' : World} {base : Nat} {v : Value} {es : List (List Trm)} (h : VAt w base v es) (hb : Below w.heap.size w w') : VAt w' base v es := by
  obtain ⟨vs, h1, h2⟩ := h
  exact ⟨vs, h1.below3 hb, h2.kept (fun j _ hj _ => hb.block j hj) (fun _ _ h => h)⟩
theorem VAt.slice {w : World} {base : Nat} {v : Value} {es : List (List Trm)} (h : VAt w base v es) : ∃ a m c, v = .slice a m c := by
  obtain ⟨vs, h1, _⟩ := h
  exact slice_of h1
/-- What readValues comes to. -/
def VEnd (w : World) (B pb sb : Nat) (b : Bk) (line l0 p0 : Int) (lb : ByteArray) (tk : Int) (nm : ByteArray) (cd : Int) (kd : Value) (sz : Int) (o : Option (List (List Trm) × List Tok)) (e : Ending) (w' : World) : Prop :=
  match o with
  | none => e = synE line ∧ Grow2 w w' pb sb
  | some (es, l) => ∃ v, e = .returned (.tuple #[]) ∧ VAt w' w.heap.size v es ∧ SS w' sb l0 p0 lb tk nm v cd kd sz ∧ PS w' B pb b line l ∧ Grow2 w w' pb sb
theorem pRest_len : ∀ {f : Nat} {acc x : List Trm} {l l2 : List Tok}, pRest f acc l = some (x, l2) → l2.length ≤ l.length
  | 0, acc, x, l, l2, h => by simp [pRest] at h; rw [h.2]; exact Nat.le_refl _
  | f + 1, acc, x, [], l2, h => by simp [pRest] at h
  | f + 1, acc, x, t :: l, l2, h => by
    simp only [pRest] at h
    split at h
    · cases ht : pTerm l with
      | none => rw [ht] at h; cases h
      | some y =>
        rw [ht] at h
        have h1 := pRest_len (f := f) h
        have h2 := pTerm_len (x := y.1) (l := y.2) ht
        simp at h1 ⊢
        omega
    · split at h
      · cases ht : pTerm l with
        | none => rw [ht] at h; cases h
        | some y =>
          rw [ht] at h
          have h1 := pRest_len (f := f) h
          have h2 := pTerm_len (x := y.1) (l := y.2) ht
          simp at h1 ⊢
          omega
      · cases h; exact Nat.le_refl _
theorem pExpr_len {ts : List Tok} {x : List Trm} {l : List Tok} (h : pExpr ts = some (x, l)) : l.length + 1 ≤ ts.length := by
  unfold pExpr at h
  cases ht : pTerm ts with
  | none => rw [ht] at h; cases h
  | some y =>
    rw [ht] at h
    have h1 := pRest_len h
    have h2 := pTerm_len (x := y.1) (l := y.2) ht
    omega
theorem pVals1_more {f : Nat} {acc : List (List Trm)} {t : Tok} {l : List Tok} (h : t.text = ⟨#[44]⟩) : pVals1 (f + 1) acc (t :: l) = (pExpr l).bind fun x => pVals1 f (acc ++ [x.1]) x.2 := by simp only [pVals1]; rw [if_pos h]
theorem pVals1_end {f : Nat} {acc : List (List Trm)} {t : Tok} {l : List Tok} (h : ¬ t.text = ⟨#[44]⟩) : pVals1 (f + 1) acc (t :: l) = some (acc, t :: l) := by simp only [pVals1]; rw [if_neg h]
theorem BookAt.belowG2 {w w' : World} {B pb sb : Nat} {b : Bk} (h : BookAt w b) (hg : Grow2 w w' pb sb) (ha : Apart B pb b) (hB : B ≤ sb) : BookAt w' b := by
  obtain ⟨nx, hx⟩ := h.fixed
  obtain ⟨f, n, hf, hl⟩ := h.counts
  have key : ∀ k, k < B → k ≠ pb → k < w.heap.size → w'.heap[k]? = w.heap[k]? := fun k h1 h2 h3 => hg.block k h3 h2 (by omega)
  exact ⟨⟨f, n, hf.at1 (key _ ha.l1 ha.h1 hf.lt), hl⟩, ⟨nx, hx.at1 (key _ ha.l2 ha.h2 hx.lt)⟩, h.dirs.at1 (key _ ha.l3 ha.h3 h.dirs.lt)⟩
set_option maxRecDepth 100000 in
set_option maxHeartbeats 8000000 in
theorem readValues_any (w : World) (B pb sb : Nat) (b : Bk) (line : Int) (ts : List Tok) (h : PS w B pb b line ts) (hb : BookAt w b) (ha : Apart B pb b) (hn : ts.length ≤ 1000000) (l0 p0 : Int) (lb : ByteArray) (tk : Nat) (nm : ByteArray) (cd : Int) (ka : Option Addr) (kn kc : Nat) (sz : Int)
    (hS : SS w sb l0 p0 lb tk nm (.slice none 0 0) cd (.slice ka kn kc) sz) (hne : sb ≠ pb) (hB : B ≤ sb) :
    Calls Tryz.prog 212 #[.pointer (some ⟨pb, 0, none⟩), .pointer (some ⟨sb, 0, none⟩)] w (VEnd w B pb sb b line l0 p0 lb tk nm cd (.slice ka kn kc) sz (pVals tk ts)) := by
  obtain ⟨i0, hi, hz0, hz1, hz2⟩ := info_parts Tryz.infoExp
  have hltw : pb < w.heap.size := Nat.lt_of_lt_of_le h.lt h.le
  have hex := expression_any w.drew B pb b line ts (h.kept (Below.refl _ _).drew) (hb.below (Below.refl _ _).drew) ha hn
  obtain ⟨R, hR⟩ : ∃ R, pVals tk ts = R := ⟨_, rfl⟩
  rw [hR]
  have c5 := hS.c5
  have f5 := hS.fz 5
  have HSS := hideIt hS
  have HSL := hideIt hS.lt
  have HSB := hideIt (And.intro hS.lt hS.lt)
  have HROW := hideIt (drew_own (World.ownsRow_nil w w.heap.size 259 1))
  have hent : ∀ args w, (callFunc 250 args).run Tryz.prog w = .ok (.enter 250 args) w := enters_of Tryz.func250 (by kernel_rfl) rfl
  have HBW := hideIt hb
  have HSW := hideIt hS.lt
  clear h hb hS
  cases hx : pExpr ts with
  | none =>
    have e : R = none := by rw [← hR]; unfold pVals; rw [hx]; rfl
    rw [e]
    rw [hx] at hex
    have HX := hideIt hex
    have hsl := HSL.out
    clear hex hx e hR
    go_enter Tryz.func212, Tryz.ntmps212
    go_wp2_with fail
    go_region_law (first | (refine step_dies 250 #[.pointer (some ⟨pb, 0, none⟩)] rfl (by simp [go_sem, hent]) _ HX.out (fun e w' hh => ⟨_, hh.1, rfl, rfl, Grow2.of1 ((grown_of_below (Below.refl _ _).drew).trans2 hh.2) _⟩) ?_; intro HF) | (refine step_none HF ?_))
    all_goals exact HF.out.elim
  | some xl =>
    obtain ⟨x, l⟩ := xl
    have hll := pExpr_len hx
    have e : R = if atOnce tk = true then some ([x], l) else pVals1 l.length [x] l := by rw [← hR]; unfold pVals; rw [hx]; rfl
    have HE := hideIt e
    rw [hx] at hex
    have HX := hideIt hex
    clear hex hx e hR
    go_enter Tryz.func212, Tryz.ntmps212
    go_wp2_with fail
    go_cut [] (fun wx => ∃ va vn vc, VAt wx w.heap.size (.slice va vn vc) [x] ∧ SS wx sb l0 p0 lb tk nm (.slice va vn vc) cd (.slice ka kn kc) sz ∧ PS wx B pb b line l ∧ Grow2 w wx pb sb)
    case first =>
      go_region_law (first | (refine step_returns 250 #[.pointer (some ⟨pb, 0, none⟩)] rfl (by simp [go_sem, hent]) _ _ HX.out (fun e w' hh => hh) ?_; rintro xv w3 ⟨hx3, hp3, hg3⟩; obtain ⟨xa, xn, xc, rfl⟩ := slice_of hx3; have c5' := (grown_cell hg3 ⟨sb, 5, none⟩ HSL.out (by simpa using hne)).trans c5; have f5' := (grown_frozen hg3 ⟨sb, 5, none⟩ HSL.out (by simpa using hne)).trans f5; have l5 : sb < w3.heap.size := Nat.lt_of_lt_of_le HSL.out hg3.size) | (refine step_append_own rfl (.tmp 8) (.tmp 11) 125 rfl w.heap.size 259 i0 _ 1 24 Tryz.underlying125 hi hz0 hz1 hz2 rfl (by decide) (.slice none 0 0) 0 [] (by simp [Act.eval]) (by exact vals_row HROW.out hg3 hltw _) ⟨w3.heap.size, 0, none⟩ 1 1 [.slice xa xn xc] (by simp [Act.eval]) rfl (cell_one_new _ _ _) (by intro u hu; simp at hu; subst hu; rfl) (by unfold maxLen; omega) (by omega) (by have := hg3.size; simp at this ⊢; omega) ?_; intro v' wn hown hgr hloc; obtain ⟨va', vn', vc', rfl⟩ := slice_of hown; have q5 := vals_cell hgr c5' (HROW.out) HSB.out hg3; have q6 := vals_frozen hgr f5' (HROW.out) HSB.out hg3))
      all_goals
        have hvs := vals_step (acc := []) (e := x) (vs := []) (HSS.out.grown (w' := w.drew) rfl (Nat.le_refl _)) HROW.out trivial hg3 hx3 hp3 hown hgr hloc hne hB HSL.out hltw (Nat.le_refl _)
        have HV := hideIt hvs
        clear hvs hown hgr hloc q5 q6 c5' f5' hx3 hp3 hg3
        go_wp2_with fail
        go_meet
        exact ⟨_, _, _, HV.out.1, HV.out.2.1, HV.out.2.2.1, HV.out.2.2.2 w (Nat.le_refl _) (Grow2.ofB (Below.refl _ _).drew _ _)⟩
    case rest =>
    obtain ⟨va, vn, vc, hV, hSx, hPx, hGx⟩ := hcut
    have HZ := hideIt (And.intro hV (And.intro hPx hGx))
    have HSX := hideIt hSx
    obtain ⟨s0, s1, s2, s3, s4, s5, s6, s7, s8, sf, sl⟩ := hSx
    have HD := hideIt (isDone_any wc l0 p0 lb tk nm va vn vc cd ka kn kc sz)
    clear HX HROW HSS c5 f5 hV hPx hGx sf
    cases hd : atOnce tk with
    | true =>
      rw [hd] at HD
      have HEN := hideIt (show R = some ([x], l) by rw [HE.out, if_pos hd])
      clear hd
      go_wp2_with fail
      refine HD.out.mono ?_
      rintro e w4 ⟨rfl, hb4⟩
      go_wp2_with fail
      refine bodyPost_ret (results_none rfl _ _ _) rfl ?_
      rw [HEN.out]
      exact ⟨_, rfl, HZ.out.1.below hb4, HSX.out.grown (hb4.block sb sl) hb4.size, HZ.out.2.1.kept (hb4.mono HZ.out.2.1.le), HZ.out.2.2.trans (Grow2.ofB hb4 _ _)⟩
    | false =>
      rw [hd] at HD
      have HEN := hideIt (show pVals1 l.length [x] l = R by rw [HE.out, if_neg (by simp [hd])])
      clear hd HE
      go_wp2_with fail
      refine HD.out.mono ?_
      rintro e w4 ⟨rfl, hb4⟩
      go_wp2_with fail
      have H0 := hideIt (And.intro (HZ.out.1.below hb4) (And.intro (HSX.out.grown (hb4.block sb sl) hb4.size) (And.intro (HZ.out.2.1.kept (hb4.mono HZ.out.2.1.le)) (HZ.out.2.2.trans (Grow2.ofB hb4 _ _)))))
      clear HZ HSX HD s0 s1 s2 s3 s4 s5 s6 s7 s8 sl hb4
      go_loopw [] (fun wr => ∃ (acc : List (List Trm)) (l1 : List Tok) (f : Nat) (va : Option Addr) (vn vc : Nat), l1.length ≤ f ∧ acc.length + l1.length ≤ 1000001 ∧ Hid (pVals1 f acc l1 = R) ∧ VAt wr w.heap.size (.slice va vn vc) acc ∧ SS wr sb l0 p0 lb tk nm (.slice va vn vc) cd (.slice ka kn kc) sz ∧ PS wr B pb b line l1 ∧ Grow2 w wr pb sb) (fun wr => tokLeft wr pb)
      case atStart => exact ⟨[x], l, l.length, va, vn, vc, Nat.le_refl _, by simp; omega, HEN, H0.out.1, H0.out.2.1, H0.out.2.2.1, H0.out.2.2.2⟩
      case round =>
        obtain ⟨acc, l1, f, va, vn, vc, hf, hal, HE2, hV, hSr, hPr, hGr⟩ := hrel
        obtain ⟨t, l2, rfl⟩ := hPr.ne
        have hlf0 := hPr.left
        have HLF0 := hideIt hlf0
        clear hlf0 H0
        obtain ⟨f', rfl⟩ : ∃ f', f = f' + 1 := ⟨f - 1, by simp at hf; omega⟩
        simp at hf hal
        by_cases h1 : t.text = ⟨#[44]⟩
        · have HS := hideIt (skip_yes wr B pb b line t l2 ⟨#[44]⟩ hPr h1 (by decide))
          have HVr := hideIt hV
          have HSr := hideIt hSr
          clear hPr hV hSr
          go_wp2_with fail
          refine HS.out.mono ?_
          rintro e w2 ⟨rfl, hp2, hg2⟩
          have hsp : sb < wr.heap.size := HSr.out.lt
          have hS2 := HSr.out.grown (hg2.block sb hsp (by simpa using hne)) hg2.size
          have hG2 := hGr.trans (Grow2.of1 hg2 sb)
          have hGz := hG2.size
          obtain ⟨vs, hr1, hE1⟩ := HVr.out
          have hr2 : w2.ownsRow w.heap.size 259 1 (.slice va vn vc) acc.length vs := own_grown hr1 hg2 hltw
          have hvb : ∀ j, (Value.slice va vn vc).ownBlock = some j → w.heap.size ≤ j := fun j hj => (hr1.lt j hj).1
          have hE2 : EachE w2 w.heap.size (.slice va vn vc) vs acc := hE1.kept (fun j hj hjl _ => hg2.block j hjl (by simp; omega)) (fun _ _ h => h)
          have hbk2 := HBW.out.belowG2 hG2 ha hB
          have hex2 := expression_any w2.drew B pb b line l2 (hp2.kept (Below.refl _ _).drew) (hbk2.below (Below.refl _ _).drew) ha (by omega)
          have c5 := hS2.c5
          have f5 := hS2.fz 5
          have HSL := hideIt hS2.lt
          have HSB := hideIt (And.intro HSW.out hS2.lt)
          have HROW := hideIt (drew_own hr2)
          have HSS := hideIt hS2
          have HEE := hideIt hE2
          clear hp2 hbk2 HVr hr1 hE1 hr2 hE2 hS2
          cases hx : pExpr l2 with
          | none =>
            have HEN2 := hideIt (show R = none by rw [← HE2.out, pVals1_more h1, hx]; rfl)
            rw [hx] at hex2
            have HX := hideIt hex2
            have hsl := HSL.out
            clear hex2 hx
            go_wp2_with fail
            go_region_law (first | (refine step_dies 250 #[.pointer (some ⟨pb, 0, none⟩)] rfl (by simp [go_sem, hent]) _ HX.out (fun e w' hh => ⟨_, hh.1, rfl, by rw [HEN2.out]; exact ⟨rfl, hG2.trans (Grow2.of1 ((grown_of_below (Below.refl _ _).drew).trans2 hh.2) _)⟩⟩) ?_; intro HF) | (refine step_none HF ?_))
            all_goals exact HF.out.elim
          | some yl =>
            obtain ⟨y, l3⟩ := yl
            have hl3 := pExpr_len hx
            have HEN2 := hideIt (show pVals1 f' (acc ++ [y]) l3 = R by rw [← HE2.out, pVals1_more h1, hx]; rfl)
            rw [hx] at hex2
            have HX := hideIt hex2
            clear hex2 hx
            go_wp2_with fail
            go_region_law (first | (refine step_returns 250 #[.pointer (some ⟨pb, 0, none⟩)] rfl (by simp [go_sem, hent]) _ _ HX.out (fun e w' hh => hh) ?_; rintro xv w3 ⟨hx3, hp3, hg3⟩; obtain ⟨xa, xn, xc, rfl⟩ := slice_of hx3; have c5' := (grown_cell hg3 ⟨sb, 5, none⟩ HSL.out (by simpa using hne)).trans c5; have f5' := (grown_frozen hg3 ⟨sb, 5, none⟩ HSL.out (by simpa using hne)).trans f5; have l5 : sb < w3.heap.size := Nat.lt_of_lt_of_le HSL.out hg3.size) | (refine step_append_own rfl (.tmp 25) (.tmp 28) 125 rfl w.heap.size 259 i0 _ 1 24 Tryz.underlying125 hi hz0 hz1 hz2 rfl (by decide) (.slice va vn vc) acc.length vs (by simp [Act.eval]) (by exact vals_row HROW.out hg3 hltw _) ⟨w3.heap.size, 0, none⟩ 1 1 [.slice xa xn xc] (by simp [Act.eval]) rfl (cell_one_new _ _ _) (by intro u hu; simp at hu; subst hu; rfl) (by unfold maxLen; omega) (by omega) (by have := hg3.size; simp at this ⊢; omega) ?_; intro v' wn hown hgr hloc; obtain ⟨va', vn', vc', rfl⟩ := slice_of hown; have q5 := vals_cell hgr c5' (HROW.out) HSB.out hg3; have q6 := vals_frozen hgr f5' (HROW.out) HSB.out hg3))
            all_goals
              have hvs := vals_step (acc := acc) (e := y) (vs := vs) (HSS.out.grown (w' := w2.drew) rfl (Nat.le_refl _)) HROW.out (HEE.out.kept (fun _ _ _ _ => rfl) (fun _ _ h => h)) hg3 hx3 hp3 hown hgr hloc hne hB HSW.out hltw (by have := hG2.size; exact this)
              have hlf := hvs.2.2.1.left
              have HLF := hideIt hlf
              have HV := hideIt hvs
              clear hvs hown hgr hloc q5 q6 c5' f5' hx3 hp3 hg3 hlf
              go_wp2
              go_roundw
              case rel => exact ⟨acc ++ [y], l3, f', _, _, _, by omega, by simp; omega, HEN2, HV.out.1, HV.out.2.1, HV.out.2.2.1, HV.out.2.2.2 w (Nat.le_refl _) (hG2.trans (Grow2.ofB (Below.refl _ _).drew _ _))⟩
              case measure => rw [HLF.out, HLF0.out]; simp; omega
        · have HS := hideIt (skip_no wr B pb b line t l2 ⟨#[44]⟩ hPr h1)
          have HEN2 := hideIt (show R = some (acc, t :: l2) by rw [← HE2.out, pVals1_end h1])
          have HQ := hideIt (And.intro hV (And.intro hSr (And.intro hPr hGr)))
          clear hV hSr hPr hGr
          go_wp2_with fail
          refine HS.out.mono ?_
          rintro e w0 ⟨rfl, hw0⟩
          rw [hw0]
          clear hw0 w0
          go_wp2_with fail
          first
            | (refine bodyPost_ret (results_none rfl _ _ _) rfl ?_
               rw [HEN2.out]
               exact ⟨_, rfl, HQ.out.1, HQ.out.2.1, HQ.out.2.2.1, HQ.out.2.2.2⟩)
            | (go_end0
               rw [HEN2.out]
               exact ⟨_, rfl, HQ.out.1, HQ.out.2.1, HQ.out.2.2.1, HQ.out.2.2.2⟩)
end Go.Proofs.YthokdbcpkmcieaaGreatDoor
