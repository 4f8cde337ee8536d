/- The assembler: checkUsed. The assembler: checkGiven. -/
import Derived.Test.YthokdbcpkmcieaaGreatDoorA24
import Derived.Test.YthokdbcpkmcieaaGreatDoorShelf2
namespace Go.Proofs.YthokdbcpkmcieaaGreatDoor
open Go Go.RowKit Go.Shelf Go.WideMaps Go.Maps
def longN (s : ByteArray) : Bool := decide (8 < s.size)
/-- Is nothing wrong with the names that a statement uses? -/
def cuF (nm : List UInt8 → Option Int) (lb : ByteArray) (tk : Nat) (nmS : ByteArray) (es : List (List Trm)) : Bool :=
  !((givenS lb tk nmS ++ usedS es).any longN) && (!atOnce tk || !((usedS es).any fun s => !decide (s = lb) && !(nm s.data.toList).isSome))
def okE (b : Bool) (n line : Int) : Ending := if b then .returned (.tuple #[]) else faultE n line
theorem strV_at (l : List ByteArray) (j : Nat) (h : j < l.length) : (strV l)[j]? = some (.string l[j]) := by
  unfold strV
  rw [List.getElem?_map, List.getElem?_eq_getElem h]
  rfl
theorem toList_inj {a b : ByteArray} (h : a.toList = b.toList) : a = b := by
  rw [ByteArray.toList_eq, ByteArray.toList_eq] at h
  cases a
  cases b
  simp at h
  simp [h]
theorem row_lenB {w : World} {base : Nat} {e : TypeId} {size n m c : Nat} {a : Option Addr} {v : Value} {xs : List Value} (h : w.ownsRow base e size v n xs) (hv : v = .slice a m c) : m = n := by
  obtain ⟨x, y, e⟩ := row_sliceB h
  rw [hv] at e
  cases e
  rfl
theorem row_get {w : World} {base e size n m c : Nat} {a : Option Addr} {xs : List Value} {j : Nat} {u : Value} (h : w.ownsRow base e size (.slice a m c) n xs) (hn : 0 < n) (hu : xs[j]? = some u) : ∃ g, a = some ⟨g, 0, none⟩ ∧ w.cell? ⟨g, j, none⟩ = some u := by
  obtain ⟨g, cap, ev⟩ := row_some h hn
  cases ev
  exact ⟨g, rfl, (row_cell h).2 j u hu⟩
theorem cuF_long {nm : List UInt8 → Option Int} {lb : ByteArray} {tk : Nat} {nmS : ByteArray} {es : List (List Trm)} (h : (givenS lb tk nmS ++ usedS es).any longN = true) : cuF nm lb tk nmS es = false := by
  unfold cuF
  rw [h]
  rfl
theorem cuF_free {nm : List UInt8 → Option Int} {lb : ByteArray} {tk : Nat} {nmS : ByteArray} {es : List (List Trm)} (h : (givenS lb tk nmS ++ usedS es).any longN = false) (h2 : atOnce tk = false) : cuF nm lb tk nmS es = true := by
  unfold cuF
  rw [h, h2]
  rfl
theorem cuF_once {nm : List UInt8 → Option Int} {lb : ByteArray} {tk : Nat} {nmS : ByteArray} {es : List (List Trm)} (h : (givenS lb tk nmS ++ usedS es).any longN = false) (h2 : atOnce tk = true) : cuF nm lb tk nmS es = !((usedS es).any fun s => !decide (s = lb) && !(nm s.data.toList).isSome) := by
  unfold cuF
  rw [h, h2]
  simp
set_option maxRecDepth 100000 in
set_option maxHeartbeats 8000000 in
theorem checkUsed_any (w : World) (ab : Nat) (i0 i1 i2 : Value) (nb n : Nat) (nm : List UInt8 → Option Int) (pl : Int) (base : Nat) (es : List (List Trm)) (l0 p0 : Int) (lb : ByteArray) (tk : Nat) (nmS : ByteArray) (va : Option Addr) (vn vc : Nat) (cd : Int) (ka : Option Addr) (kn kc : Nat) (sz : Int) (h : AS w ab i0 i1 i2 nb n nm pl) (hv : VAt w base (.slice va vn vc) es) (hn : es.length ≤ 1000000) (hc : cntT es ≤ 1000000) (hs : ∀ s ∈ usedS es, s.size ≤ 1000000) :
    Calls Tryz.prog 168 #[.pointer (some ⟨ab, 0, none⟩), .agg #[.int .i64 l0, .int .i64 p0, .string lb, .int .i64 (tk : Int), .string nmS, .slice va vn vc, .int .u8 cd, .slice ka kn kc, .int .i64 sz]] w fun e w' => e = okE (cuF nm lb tk nmS es) 3 l0 ∧ Below w.heap.size w w' := by
  obtain ⟨W, hW, hBW, hWz, hSS⟩ := st_box w l0 p0 lb (tk : Int) nmS (.slice va vn vc) cd (.slice ka kn kc) sz
  have HG := hideIt (fun w' => given_any w' l0 p0 lb tk nmS va vn vc cd ka kn kc sz)
  have HU := hideIt (fun w' (hb : Below w.heap.size w w') => used_any w' base es l0 p0 lb (tk : Int) nmS va vn vc cd ka kn kc sz (hv.below hb) hn hc)
  have HD := hideIt (fun w' => isDone_any w' l0 p0 lb tk nmS va vn vc cd ka kn kc sz)
  have HSB : Hid (∀ w', Below W.heap.size W w' → (w'.cell? ⟨w.heap.size, 0, none⟩ = some (.int .i64 l0) ∧ w'.cell? ⟨w.heap.size, 1, none⟩ = some (.int .i64 p0) ∧ w'.cell? ⟨w.heap.size, 2, none⟩ = some (.string lb) ∧ w'.cell? ⟨w.heap.size, 3, none⟩ = some (.int .i64 (tk : Int)) ∧ w'.cell? ⟨w.heap.size, 4, none⟩ = some (.string nmS) ∧ w'.cell? ⟨w.heap.size, 5, none⟩ = some (.slice va vn vc) ∧ w'.cell? ⟨w.heap.size, 6, none⟩ = some (.int .u8 cd) ∧ w'.cell? ⟨w.heap.size, 7, none⟩ = some (.slice ka kn kc) ∧ w'.cell? ⟨w.heap.size, 8, none⟩ = some (.int .i64 sz))) := fun w' hb => by
    have e := hb.block w.heap.size (by omega)
    have hcc : ∀ j, w'.cell? ⟨w.heap.size, j, none⟩ = W.cell? ⟨w.heap.size, j, none⟩ := fun j => World.cell?_of_block (a := ⟨w.heap.size, j, none⟩) e
    exact ⟨(hcc 0).trans hSS.c0, (hcc 1).trans hSS.c1, (hcc 2).trans hSS.c2, (hcc 3).trans hSS.c3, (hcc 4).trans hSS.c4, (hcc 5).trans hSS.c5, (hcc 6).trans hSS.c6, (hcc 7).trans hSS.c7, (hcc 8).trans hSS.c8⟩
  have HB := hideIt hBW
  have HLU : Hid ((givenS lb tk nmS).length + (usedS es).length ≤ 4000000) := by
    have h1 := usedS_len es
    have h2 : (givenS lb tk nmS).length ≤ 2 := by
      unfold givenS
      rw [List.length_append]
      split <;> split <;> simp
    show _ ≤ _
    omega
  have hBd : Below W.heap.size W W.drew := (Below.refl _ _).drew
  have HKN := hideIt (fun w' (hb : Below w.heap.size w w') s (hx : s ∈ usedS es) => knows_any w' ab i0 i1 i2 nb n nm pl s (h.below hb) (hs s hx))
  clear hBW hSS h hv hn hc hs
  go_enter Tryz.func168, Tryz.ntmps168
  go_wp2_with fail
  go_region_held3 (fun w' => w'.cell? ⟨w.heap.size, 0, none⟩ = some (.int .i64 l0) ∧ w'.cell? ⟨w.heap.size, 1, none⟩ = some (.int .i64 p0) ∧ w'.cell? ⟨w.heap.size, 2, none⟩ = some (.string lb) ∧ w'.cell? ⟨w.heap.size, 3, none⟩ = some (.int .i64 (tk : Int)) ∧ w'.cell? ⟨w.heap.size, 4, none⟩ = some (.string nmS) ∧ w'.cell? ⟨w.heap.size, 5, none⟩ = some (.slice va vn vc) ∧ w'.cell? ⟨w.heap.size, 6, none⟩ = some (.int .u8 cd) ∧ w'.cell? ⟨w.heap.size, 7, none⟩ = some (.slice ka kn kc) ∧ w'.cell? ⟨w.heap.size, 8, none⟩ = some (.int .i64 sz)) (first | exact HSB.out _ hBd | exact HSB.out _ hB1 | exact HSB.out _ hB2 | exact HSB.out _ (hB2.alloc hB2.size _) | exact HSB.out _ hB3)
    (first
      | (go_at_call 215; refine (HG.out W.drew).mono ?_; rintro e w1 ⟨v1, rfl, hr1, hb1⟩; obtain ⟨x1, y1, z1, rfl⟩ := row_sliceN hr1; have hB1 : Below W.heap.size W w1 := ⟨hb1.os, hb1.tape, hb1.output, hb1.size, hb1.block⟩; have HR1 := hideIt hr1; clear hr1 hb1)
      | (go_at_call 108; refine (HU.out w1 (HB.out.trans (hB1.mono HB.out.size))).mono ?_; rintro e w2 ⟨v2, rfl, hr2, hb2⟩; obtain ⟨x2, y2, z2, rfl⟩ := row_sliceN hr2; have hB2 : Below W.heap.size W w2 := hB1.trans (hb2.mono hB1.size); have HR2 := hideIt (And.intro hr2 (row_belowA HR1.out hb2)); clear hr2 hb2)
      | (go_at_call 214; refine (concat_any _ w2.heap.size _ _ (.slice x1 y1 z1) (.slice x2 y2 z2) (givenS lb tk nmS) (usedS es) (by simp) (by simp) (HR2.out.2.alloc _) (HR2.out.1.alloc _) HLU.out).mono ?_; rintro e w3 ⟨v3, rfl, hr3, hb3⟩; obtain ⟨x3, y3, z3, ev3⟩ := row_sliceN hr3; have hB3 : Below W.heap.size W w3 := (hB2.alloc hB2.size _).trans (hb3.mono (by have := hB2.size; simp; omega)); have HY3 := hideIt (row_lenB hr3 ev3); have HR3 := hideIt hr3; subst ev3; clear hr3 hb3))
  all_goals
    have HB3 := hideIt (HB.out.trans (hB3.mono HB.out.size))
    obtain ⟨s0, s1, s2, s3, s4, s5, s6, s7, s8⟩ := HSB.out w3 hB3
    obtain ⟨L, hL⟩ : ∃ L, givenS lb tk nmS ++ usedS es = L := ⟨_, rfl⟩
    rw [hL] at HR3 HY3
    have hyl : (y3 : Int) ≤ 4000000 := by
      have := HLU.out
      rw [← List.length_append, hL, ← HY3.out] at this
      omega
    have HL := hideIt hL
    have HSB2 : Hid (∀ w', Below w3.heap.size w3 w' → (w'.cell? ⟨w.heap.size, 0, none⟩ = some (.int .i64 l0) ∧ w'.cell? ⟨w.heap.size, 2, none⟩ = some (.string lb)) ∧ (w'.cell? ⟨w.heap.size, 1, none⟩ = some (.int .i64 p0) ∧ w'.cell? ⟨w.heap.size, 3, none⟩ = some (.int .i64 (tk : Int)) ∧ w'.cell? ⟨w.heap.size, 4, none⟩ = some (.string nmS) ∧ w'.cell? ⟨w.heap.size, 5, none⟩ = some (.slice va vn vc) ∧ w'.cell? ⟨w.heap.size, 6, none⟩ = some (.int .u8 cd) ∧ w'.cell? ⟨w.heap.size, 7, none⟩ = some (.slice ka kn kc) ∧ w'.cell? ⟨w.heap.size, 8, none⟩ = some (.int .i64 sz))) := fun w' hb => by
      obtain ⟨q0, q1, q2, q3, q4, q5, q6, q7, q8⟩ := HSB.out w' (hB3.trans (hb.mono hB3.size))
      exact ⟨⟨q0, q2⟩, q1, q3, q4, q5, q6, q7, q8⟩
    clear hB1 hB2 hB3 hBd HR1 HR2 HG HSB hL
    go_wp2_with fail
    go_loopw [15] (fun i wr => ∃ j : Nat, j ≤ y3 ∧ i = .int .i64 j ∧ (L.take j).any longN = false ∧ wr = w3) (fun i _ => y3 - (intOf i).toNat)
    case atStart => exact ⟨0, Nat.zero_le _, rfl, rfl, rfl⟩
    case round =>
      obtain ⟨j, hj, rfl, hno, hw3⟩ := hrel
      subst hw3
      have HNO := hideIt hno
      clear hno
      by_cases hlt : j < y3
      · have hji : (j : Int) < (y3 : Int) := by omega
        have hjl : j < L.length := by rw [← HY3.out]; exact hlt
        obtain ⟨g, cj⟩ : ∃ g, x3 = some ⟨g, 0, none⟩ ∧ wr.cell? ⟨g, j, none⟩ = some (.string L[j]) := row_get HR3.out (by omega) (strV_at L j hjl)
        obtain ⟨rfl, cj⟩ := cj
        obtain ⟨x, hx⟩ : ∃ x, L[j] = x := ⟨_, rfl⟩
        rw [hx] at cj
        have HX := hideIt hx
        clear hx
        by_cases h8 : 8 < x.size
        · have h8i : (8 : Int) < (x.size : Int) := by omega
          go_wp2
          have hcu : cuF nm lb tk nmS es = false := cuF_long (by
            rw [HL.out, List.any_eq_true]
            exact ⟨x, by rw [← HX.out]; exact List.getElem_mem hjl, by unfold longN; simpa using h8⟩)
          exact ⟨rfl, by rw [hcu]; rfl, HB3.out⟩
        · have h8i : ¬ (8 : Int) < (x.size : Int) := by omega
          go_wp2
          go_roundw
          case rel => exact ⟨j + 1, by omega, by go_num, any_take_false hjl HNO.out (by rw [HX.out]; unfold longN; simpa using h8), by first | rfl | trivial⟩
          case measure => simp [intOf]; omega
      · have hji : ¬ (j : Int) < (y3 : Int) := by omega
        have hnl : (givenS lb tk nmS ++ usedS es).any longN = false := by
          have := HNO.out
          rw [List.take_of_length_le (by rw [← HY3.out]; omega)] at this
          rw [HL.out]
          exact this
        have HNL := hideIt hnl
        clear hnl HNO HR3
        by_cases hat : atOnce tk = true
        · rw [hat] at HD
          go_wp2_with (first
            | (go_at_call 216; refine (HD.out _).mono ?_; rintro e w4 ⟨rfl, hB4⟩; obtain ⟨⟨q0, q2⟩, q1, q3, q4, q5, q6, q7, q8⟩ := HSB2.out w4 hB4; have HB4 := hideIt hB4; clear hB4)
            | (go_at_call 108; refine (HU.out w4 (HB3.out.trans (HB4.out.mono HB3.out.size))).mono ?_; rintro e w5 ⟨v5, rfl, hr5, hb5⟩; obtain ⟨x5, y5, z5, ev5⟩ := row_sliceN hr5; have HY5 := hideIt (row_lenB hr5 ev5); have hB35 := HB4.out.trans (hb5.mono HB4.out.size); obtain ⟨⟨t0, t2⟩, _⟩ := HSB2.out w5 hB35; have HB5 := hideIt (HB3.out.trans (hB35.mono HB3.out.size)); have HR5 := hideIt hr5; subst ev5; clear hr5 hb5 hB35))
          obtain ⟨U, hU⟩ : ∃ U, usedS es = U := ⟨_, rfl⟩
          have hcu := cuF_once (nm := nm) HNL.out hat
          rw [hU] at HR5 HY5 hcu
          have hy5l : (y5 : Int) ≤ 4000000 := by
            have := HLU.out
            rw [hU, ← HY5.out] at this
            omega
          have HKU : Hid (∀ s, s ∈ U → Calls Tryz.prog 109 #[.pointer (some ⟨ab, 0, none⟩), .string s] w5 fun e w' => e = .returned (.bool (nm s.data.toList).isSome) ∧ w' = w5) := fun s hx => HKN.out w5 HB5.out s (by rw [hU]; exact hx)
          have HCU := hideIt hcu
          clear hcu hU HKN HU HD HSB2 q0 q1 q2 q3 q4 q5 q6 q7 q8 s0 s1 s2 s3 s4 s5 s6 s7 s8 hat HLU
          go_loopw [33] (fun i wz => ∃ j : Nat, j ≤ y5 ∧ i = .int .i64 j ∧ (U.take j).any (fun s => !decide (s = lb) && !(nm s.data.toList).isSome) = false ∧ wz = w5) (fun i _ => y5 - (intOf i).toNat)
          case atStart => exact ⟨0, Nat.zero_le _, rfl, rfl, rfl⟩
          case round =>
            obtain ⟨j, hj, rfl, hno, hw5⟩ := hrel
            subst hw5
            have HNO2 := hideIt hno
            clear hno
            by_cases hlt : j < y5
            · have hji : (j : Int) < (y5 : Int) := by omega
              have hjl : j < U.length := by rw [← HY5.out]; exact hlt
              obtain ⟨g, rfl, cj⟩ := row_get HR5.out (by rw [← HY5.out]; omega) (strV_at U j hjl)
              have hxU : U[j] ∈ U := List.getElem_mem hjl
              have hstep := fun hx => any_take_false (p := fun s => !decide (s = lb) && !(nm s.data.toList).isSome) hjl HNO2.out hx
              obtain ⟨x, hx⟩ : ∃ x, U[j] = x := ⟨_, rfl⟩
              rw [hx] at cj hxU hstep
              have HST := hideIt hstep
              have HXU := hideIt hxU
              clear hx hstep hxU HNO2
              by_cases hxl : x = lb
              · subst hxl
                go_wp2
                go_roundw
                case rel => exact ⟨j + 1, by omega, by go_num, HST.out (by simp), by first | rfl | trivial⟩
                case measure => simp [intOf]; omega
              · have hxt : ¬ x.toList = lb.toList := fun e => hxl (toList_inj e)
                have hxb : (x.toList == lb.toList) = false := by simpa using hxt
                cases hkn : (nm x.data.toList).isSome with
                | true =>
                  have HKX := hideIt (HKU.out x HXU.out)
                  rw [hkn] at HKX
                  go_wp2_with (go_at_call 109; refine HKX.out.mono ?_; rintro e w6 ⟨rfl, rfl⟩)
                  go_roundw
                  case rel => exact ⟨j + 1, by omega, by go_num, HST.out (by simp [hkn]), by first | rfl | trivial⟩
                  case measure => simp [intOf]; omega
                | false =>
                  have HKX := hideIt (HKU.out x HXU.out)
                  rw [hkn] at HKX
                  go_wp2_with (go_at_call 109; refine HKX.out.mono ?_; rintro e w6 ⟨rfl, rfl⟩)
                  have hcf : cuF nm lb tk nmS es = false := by
                    rw [HCU.out]
                    have : (U.any fun s => !decide (s = lb) && !(nm s.data.toList).isSome) = true := by
                      rw [List.any_eq_true]
                      exact ⟨x, HXU.out, by simp [hkn, hxl]⟩
                    rw [this]
                    rfl
                  exact ⟨rfl, by rw [hcf]; rfl, HB5.out⟩
            · have hji : ¬ (j : Int) < (y5 : Int) := by omega
              have hct : cuF nm lb tk nmS es = true := by
                have := HNO2.out
                rw [List.take_of_length_le (by rw [← HY5.out]; omega)] at this
                rw [HCU.out, this]
                rfl
              have HCT := hideIt hct
              clear hct
              go_wp2
              go_end0
              exact ⟨by rw [HCT.out]; rfl, HB5.out⟩
        · have hat2 : atOnce tk = false := by simpa using hat
          rw [hat2] at HD
          go_wp2_with (go_at_call 216; refine (HD.out _).mono ?_; rintro e w4 ⟨rfl, hB4⟩; have HB4 := hideIt (HB3.out.trans (hB4.mono HB3.out.size)); clear hB4)
          exact bodyPost_ret (v := .tuple #[]) (by simp [results, Tryz.results168]) rfl ⟨by rw [cuF_free HNL.out hat2]; rfl, HB4.out⟩
end Go.Proofs.YthokdbcpkmcieaaGreatDoor
namespace Go.Proofs.YthokdbcpkmcieaaGreatDoor
open Go Go.RowKit Go.Shelf Go.WideMaps Go.Maps
/-- Is the i-th of these names known already? -/
def twI (nm : List UInt8 → Option Int) (l : List ByteArray) (i : Nat) : Bool := (nm (l.getD i ⟨#[]⟩).data.toList).isSome || Lib.containsS (l.take i) (l.getD i ⟨#[]⟩)
/-- What is wrong with the names that a statement gives. -/
def cgF (nm : List UInt8 → Option Int) (n : Nat) (l : List ByteArray) : Option Int := if (List.range l.length).any (twI nm l) = true then some 4 else if 40 < n + l.length then some 5 else none
def okO (o : Option Int) (line : Int) : Ending := match o with
  | none => .returned (.tuple #[])
  | some n => faultE n line
theorem range_take_false {p : Nat → Bool} {j : Nat} (h1 : (List.range j).any p = false) (h2 : p j = false) : (List.range (j + 1)).any p = false := by
  rw [List.range_succ, List.any_append, h1]
  simp [h2]
theorem row_cap {w : World} {base : Nat} {e : TypeId} {size n m c : Nat} {a : Option Addr} {v : Value} {xs : List Value} (h : w.ownsRow base e size v n xs) (hv : v = .slice a m c) : m ≤ c ∧ c ≤ maxLen := by
  obtain ⟨_, ⟨rfl, e2⟩ | ⟨g, cap, cur, rfl, _, _, h3, h4, _⟩⟩ := h
  · cases hv
    exact ⟨Nat.le_refl _, Nat.zero_le _⟩
  · cases hv
    exact ⟨h3, h4⟩
set_option maxRecDepth 100000 in
set_option maxHeartbeats 8000000 in
theorem checkGiven_any (w : World) (ab : Nat) (i0 i1 i2 : Value) (nb n : Nat) (nm : List UInt8 → Option Int) (pl : Int) (l0 p0 : Int) (lb : ByteArray) (tk : Nat) (nmS : ByteArray) (va : Option Addr) (vn vc : Nat) (cd : Int) (ka : Option Addr) (kn kc : Nat) (sz : Int) (h : AS w ab i0 i1 i2 nb n nm pl) (hnn : n ≤ 1000) (hs : ∀ s ∈ givenS lb tk nmS, s.size ≤ 1000000) :
    Calls Tryz.prog 169 #[.pointer (some ⟨ab, 0, none⟩), .agg #[.int .i64 l0, .int .i64 p0, .string lb, .int .i64 (tk : Int), .string nmS, .slice va vn vc, .int .u8 cd, .slice ka kn kc, .int .i64 sz]] w fun e w' => e = okO (cgF nm n (givenS lb tk nmS)) l0 ∧ Below w.heap.size w w' := by
  obtain ⟨W, hW, hBW, hWz, hSS⟩ := st_box w l0 p0 lb (tk : Int) nmS (.slice va vn vc) cd (.slice ka kn kc) sz
  have HG := hideIt (given_any W l0 p0 lb tk nmS va vn vc cd ka kn kc sz)
  have q0 := hSS.c0
  have q1 := hSS.c1
  have q2 := hSS.c2
  have q3 := hSS.c3
  have q4 := hSS.c4
  have q5 := hSS.c5
  have q6 := hSS.c6
  have q7 := hSS.c7
  have q8 := hSS.c8
  have hl2 : (givenS lb tk nmS).length ≤ 2 := by
    unfold givenS
    rw [List.length_append]
    split <;> split <;> simp
  obtain ⟨U, hU⟩ : ∃ U, givenS lb tk nmS = U := ⟨_, rfl⟩
  rw [hU] at HG hl2 hs ⊢
  have HKN := hideIt (fun w' (hb : Below w.heap.size w w') s (hx : s ∈ U) => knows_any w' ab i0 i1 i2 nb n nm pl s (h.below hb) (hs s hx))
  have HA := hideIt (fun w' (hb : Below w.heap.size w w') => h.below hb)
  have HB := hideIt hBW
  have hni : (n : Int) ≤ 1000 := by omega
  clear hBW hSS hU h hs
  go_enter Tryz.func169, Tryz.ntmps169
  go_wp2_with fail
  refine HG.out.mono ?_
  rintro e w1 ⟨v, rfl, hr, hb1⟩
  obtain ⟨x3, y3, z3, ev⟩ := row_sliceN hr
  have HY3 := hideIt (row_lenB hr ev)
  have HR := hideIt hr
  have hy2 : (y3 : Int) ≤ 2 := by have := row_lenB hr ev; omega
  have r0 := (World.cell?_of_block (a := ⟨w.heap.size, 0, none⟩) (hb1.block w.heap.size (by omega))).trans q0
  have HB1 := hideIt (HB.out.trans (hb1.mono HB.out.size))
  have HCAP : Hid (y3 ≤ z3 ∧ z3 ≤ maxLen) := row_cap hr ev
  have hzc := HCAP.out
  have hz1 : (y3 : Int) ≤ (z3 : Int) := by omega
  have hz2 : (z3 : Int) ≤ 9223372036854775807 := by have := hzc.2; unfold maxLen at this; omega
  subst ev
  clear hr hb1 HG q0 q1 q2 q3 q4 q5 q6 q7 q8 hzc
  go_wp2_with fail
  go_loopw [11] (fun i wr => ∃ j : Nat, j ≤ y3 ∧ i = .int .i64 j ∧ (List.range j).any (twI nm U) = false ∧ wr = w1) (fun i _ => y3 - (intOf i).toNat)
  case atStart => exact ⟨0, Nat.zero_le _, rfl, rfl, rfl⟩
  case round =>
    obtain ⟨j, hj, rfl, hno, hw⟩ := hrel
    subst hw
    have HNO := hideIt hno
    clear hno
    by_cases hlt : j < y3
    · have hji : (j : Int) < (y3 : Int) := by omega
      have hjl : j < U.length := by rw [← HY3.out]; exact hlt
      obtain ⟨g, rfl, cj⟩ := row_get HR.out (by rw [← HY3.out]; omega) (strV_at U j hjl)
      have hxU : U[j] ∈ U := List.getElem_mem hjl
      have hgd : U.getD j ⟨#[]⟩ = U[j] := by rw [List.getD_eq_getElem?_getD, List.getElem?_eq_getElem hjl]; rfl
      have htw : twI nm U j = ((nm (U[j]).data.toList).isSome || Lib.containsS (U.take j) U[j]) := by unfold twI; rw [hgd]
      obtain ⟨x, hx⟩ : ∃ x, U[j] = x := ⟨_, rfl⟩
      rw [hx] at cj hxU htw
      have HC : Hid (Calls Tryz.prog 217 #[.slice (some ⟨g, 0, none⟩) j z3, .string x] wr fun e w' => e = .returned (.bool (Lib.containsS (U.take j) x)) ∧ w' = wr) := Tryz.slices_Contains_string g 0 j z3 U x wr (by omega) (by omega) (fun k hk => by
        obtain ⟨g', e, c⟩ := row_get HR.out (by rw [← HY3.out]; omega) (strV_at U k hk)
        cases e
        rw [Nat.zero_add, c, List.getD_eq_getElem?_getD, List.getElem?_eq_getElem hk]
        rfl)
      have HKX := hideIt (HKN.out wr HB1.out x hxU)
      have HTW := hideIt htw
      have hjz : (j : Int) ≤ (z3 : Int) := by omega
      clear hx hgd htw hxU
      cases hkn : (nm x.data.toList).isSome with
      | true =>
        rw [hkn] at HKX
        go_wp2_with (go_at_call 109; refine HKX.out.mono ?_; rintro e w6 ⟨rfl, rfl⟩)
        have hcg : cgF nm n U = some 4 := by
          unfold cgF
          rw [if_pos]
          rw [List.any_eq_true]
          exact ⟨j, List.mem_range.2 hjl, by rw [HTW.out]; simp [hkn]⟩
        exact ⟨rfl, by rw [hcg]; rfl, HB1.out⟩
      | false =>
        rw [hkn] at HKX
        cases hct : Lib.containsS (U.take j) x with
        | true =>
          rw [hct] at HC
          go_wp2_with (first | (go_at_call 109; refine HKX.out.mono ?_; rintro e w6 ⟨rfl, rfl⟩) | (go_at_call 217; refine HC.out.mono ?_; rintro e w7 ⟨rfl, rfl⟩))
          have hcg : cgF nm n U = some 4 := by
            unfold cgF
            rw [if_pos]
            rw [List.any_eq_true]
            exact ⟨j, List.mem_range.2 hjl, by rw [HTW.out]; simp [hct]⟩
          exact ⟨rfl, by rw [hcg]; rfl, HB1.out⟩
        | false =>
          rw [hct] at HC
          go_wp2_with (first | (go_at_call 109; refine HKX.out.mono ?_; rintro e w6 ⟨rfl, rfl⟩) | (go_at_call 217; refine HC.out.mono ?_; rintro e w7 ⟨rfl, rfl⟩))
          go_roundw
          case rel => exact ⟨j + 1, by omega, by go_num, range_take_false HNO.out (by rw [HTW.out, hkn, hct]; rfl), by first | rfl | trivial⟩
          case measure => simp [intOf]; omega
    · have hji : ¬ (j : Int) < (y3 : Int) := by omega
      have hno : (List.range U.length).any (twI nm U) = false := by
        have ej : j = U.length := by rw [← HY3.out]; omega
        rw [← ej]
        exact HNO.out
      have hAw := HA.out wr HB1.out
      have c3 := hAw.c3
      have hlen : ∀ ty, (Builtin.len_ #[119] ty #[.map (some nb)]).run Tryz.prog wr = .ok (.int .i64 (n : Int)) wr := fun ty => MapAt.len hAw.nms Tryz.underlying119 ty
      by_cases h40 : 40 < n + y3
      · have hcg : cgF nm n U = some 5 := by
          unfold cgF
          rw [hno, if_neg (by simp), if_pos (by rw [← HY3.out]; exact h40)]
        have HCG := hideIt hcg
        have h40i : (40 : Int) < (n : Int) + (y3 : Int) := by omega
        clear hno hAw hcg
        go_wp2
        exact ⟨rfl, by rw [HCG.out]; rfl, HB1.out⟩
      · have hcg : cgF nm n U = none := by
          unfold cgF
          rw [hno, if_neg (by simp), if_neg (by rw [← HY3.out]; exact h40)]
        have HCG := hideIt hcg
        have h40i : ¬ (40 : Int) < (n : Int) + (y3 : Int) := by omega
        clear hno hAw hcg
        go_wp2
        go_end0
        exact ⟨by rw [HCG.out]; rfl, HB1.out⟩
end Go.Proofs.YthokdbcpkmcieaaGreatDoor
