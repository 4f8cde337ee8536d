/- The book: fixedOperands. -/
import Derived.Test.YthokdbcpkmcieaaGreatDoorA16
import Derived.Sort.MapsRangeIn
namespace Go.Proofs.YthokdbcpkmcieaaGreatDoor
open Go Go.RowKit Go.Maps Go.WideMaps
set_option maxRecDepth 100000 in
set_option maxHeartbeats 4000000 in
theorem fixedOperands_any (w : World) :
    Calls Tryz.prog 199 #[] w fun e w' => e = .returned (.map (some w.heap.size)) ∧ (∃ n, n ≤ 1000 ∧ MapAt Tryz.prog 9 w' w.heap.size n (fun l => (fixO l).map fixV)) ∧ Below w.heap.size w w' := by
  have hmm := @run_makeMap Tryz.prog
  have HK := hideIt (kinds_any (w.alloc (.map #[] 0)))
  have hz : (w.alloc (.map #[] 0)).heap.size = w.heap.size + 1 := by simp
  rw [hz] at HK
  go_enter Tryz.func199, Tryz.ntmps199
  go_wp2_with fail
  refine HK.out.mono ?_
  rintro e w1 ⟨rfl, hown, hB1⟩
  have hM1 : MapAt Tryz.prog 9 w1 w.heap.size 0 (fun _ => none) := (MapAt.made w Tryz.prog 9).below hB1 (by omega)
  have hBw : Below w.heap.size w w1 := ((Below.refl _ _).alloc (Nat.le_refl _) _).trans (hB1.mono (by simp))
  have hl1 := hown.lt
  go_wp2_with (at_range; refine wpList_range_own _ rfl _ 107 rfl 9 111 kinds_law Tryz.underlying107 _ (w.heap.size + 1) 17 _ rfl hown ?_; intro w0 hrg0 hg0 hs0)
  go_frame
  have HRG := hideIt hrg0
  have hM0 : MapAt Tryz.prog 9 w0 w.heap.size 0 (fixAt (Maps.has kindsD)) := (hM1.kept hg0 (by simp)).ext (fun l => (fixAt_start l).symm)
  have hB0 : Below w.heap.size w w0 := hBw.grown hg0 (by have := hBw.size; omega) (fun j hj => by cases hj)
  have HM0 := hideIt hM0
  have HB0 := hideIt hB0
  clear hrg0 hM0 hB0 hM1 hBw hB1 hown hg0 hs0 HK
  go_loopw [7] (fun _ wr => ∃ (left : Lit → Bool) (cnt n : Nat), wr.ranges Tryz.prog 9 (plainElem (H := Unit) Tryz.prog 111) (w.heap.size + 1) w1.heap.size 17 kindsD left cnt ∧ n + 10 * cnt ≤ 170 ∧ MapAt Tryz.prog 9 wr w.heap.size n (fixAt left) ∧ Below w.heap.size w wr) (fun _ wr => wr.rangeLeft (w.heap.size + 1) w1.heap.size)
  case atStart => exact ⟨_, _, 0, HRG.out, by decide +kernel, HM0.out, HB0.out⟩
  case round =>
    obtain ⟨left, cnt, n, hrg, hcn, hM, hB⟩ := hrel
    clear HRG HM0 HB0
    have HM := hideIt hM
    have HB := hideIt hB
    have HR := hideIt hrg
    clear hM hB
    go_wp2_with (at_next; refine wpList_next_ranges _ rfl _ rfl 9 kinds_law _ Value.string (Value.int .i64) (fun key kl hkey => Maps.keyOf_string_inv Tryz.underlying9 hkey) (fun v y hv => by obtain ⟨c, rfl, _⟩ := plainElem_int_inv Tryz.underlying111 hv; exact ⟨c, rfl⟩) (w.heap.size + 1) w1.heap.size 17 _ _ _ rfl hrg ?_ ?_)
    · intro hc0 hl0
      go_wp2
      go_ret
      exact ⟨rfl, ⟨n, by omega, HM.out.ext (fixAt_end left hl0)⟩, HB.out⟩
    · intro x c kl yd yp wn cnt1 hkey hlx hv hat hrg1 hlt hg1 hs1 hen
      obtain ⟨x', ex, rfl, hxs⟩ := string_of_keyOf Tryz.underlying9 hkey
      cases ex
      obtain ⟨c', ec, ey, hwc⟩ := plainElem_int_inv Tryz.underlying111 hv
      cases ec
      simp only [Prod.mk.injEq] at ey
      obtain ⟨rfl, rfl⟩ := ey
      obtain ⟨kv, hm, hk1, hk2⟩ := kinds_entry hat
      have hstep : ∀ l', doneF kv (fixAt left) l' = fixAt (fun z => left z && !z.sameKey (.string x.data.toList)) l' := fun l' => by rw [fixAt_step, done_is kv hm _ (fixAt_none left), hk1]
      have h16 : ∀ kv ∈ kindsL, kv.2 ≤ 16 ∧ kv.1.length ≤ 10 := by decide +kernel
      obtain ⟨hk16, hk10⟩ := h16 kv hm
      have hxl : x.size ≤ 1000 := by
        have : x.data.toList.length ≤ 10 := by rw [← hk1]; exact hk10
        have e : x.size = x.data.toList.length := by rw [Array.length_toList]; rfl
        omega
      have hne1 : some w.heap.size ≠ some w1.heap.size := fun e => by have := Option.some.inj e; omega
      have hMn := HM.out.kept hg1 hne1
      have hBn : Below w.heap.size w wn := HB.out.grown hg1 (by have := HB.out.size; omega) (fun j hj => by cases hj; omega)
      have HMN := hideIt hMn
      have HBN := hideIt hBn
      have HRN := hideIt hrg1
      have HKX := hideIt hkey
      have HST := hideIt (And.intro hstep hk1)
      have HR0 := hideIt (And.intro hrg.left_eq hlt)
      have hne2 : some (w.heap.size + 1) ≠ some w.heap.size := fun e => by have := Option.some.inj e; omega
      have hne3 : some w1.heap.size ≠ some w.heap.size := fun e => hne1 e.symm
      clear hMn hBn hrg1 hkey hstep h16 hm hv hat HM HB HR hrg hwc hg1 hs1 hlt hlx hk10
      by_cases h0 : kv.2 = 0
      · obtain rfl : c = 0 := by omega
        have HV := hideIt h0
        clear hk2
        go_wp2_with (at_mapUpdate; refine wpList_store _ rfl _ _ _ 244 rfl 9 324 strK Tryz.underlying244 w.heap.size n _ rfl HMN.out (by unfold maxLen; omega) _ (fixV (0, 0)) _ rfl rfl HKX.out ?_; intro w2 hM2 hg2; go_frame)
        have hrg2 := HRN.out.kept hg2 hne2 hne3
        go_roundw
        case rel =>
          refine ⟨_, cnt1, _, hrg2, ?_, hM2.ext (fun l' => ?_), HBN.out.grown hg2 (by have := HBN.out.size; omega) (fun j hj => by cases hj; exact Nat.le_refl _)⟩
          · have := putN_le n (fixAt left x.data.toList)
            have := HR0.out.2
            omega
          · rw [← HST.out.1 l']
            unfold doneF
            rw [if_pos (by have := HV.out; omega), HST.out.2, HV.out]
        case measure =>
          rw [hrg2.left_eq, HR0.out.1]
          exact HR0.out.2
      · by_cases h1 : kv.2 = 1
        · obtain rfl : c = 1 := by omega
          have HV := hideIt h1
          clear hk2
          go_wp2_with (at_mapUpdate; refine wpList_store _ rfl _ _ _ 244 rfl 9 324 strK Tryz.underlying244 w.heap.size n _ rfl HMN.out (by unfold maxLen; omega) _ (fixV (1, 0)) _ rfl rfl HKX.out ?_; intro w2 hM2 hg2; go_frame)
          have hrg2 := HRN.out.kept hg2 hne2 hne3
          go_roundw
          case rel =>
            refine ⟨_, cnt1, _, hrg2, ?_, hM2.ext (fun l' => ?_), HBN.out.grown hg2 (by have := HBN.out.size; omega) (fun j hj => by cases hj; exact Nat.le_refl _)⟩
            · have := putN_le n (fixAt left x.data.toList)
              have := HR0.out.2
              omega
            · rw [← HST.out.1 l']
              unfold doneF
              rw [if_pos (by have := HV.out; omega), HST.out.2, HV.out]
          case measure =>
            rw [hrg2.left_eq, HR0.out.1]
            exact HR0.out.2
        · by_cases h2 : kv.2 = 2
          · obtain rfl : c = 2 := by omega
            have HV := hideIt h2
            clear hk2
            go_wp2_with (at_mapUpdate; refine wpList_store _ rfl _ _ _ 244 rfl 9 324 strK Tryz.underlying244 w.heap.size n _ rfl HMN.out (by unfold maxLen; omega) _ (fixV (2, 0)) _ rfl rfl HKX.out ?_; intro w2 hM2 hg2; go_frame)
            have hrg2 := HRN.out.kept hg2 hne2 hne3
            go_roundw
            case rel =>
              refine ⟨_, cnt1, _, hrg2, ?_, hM2.ext (fun l' => ?_), HBN.out.grown hg2 (by have := HBN.out.size; omega) (fun j hj => by cases hj; exact Nat.le_refl _)⟩
              · have := putN_le n (fixAt left x.data.toList)
                have := HR0.out.2
                omega
              · rw [← HST.out.1 l']
                unfold doneF
                rw [if_pos (by have := HV.out; omega), HST.out.2, HV.out]
            case measure =>
              rw [hrg2.left_eq, HR0.out.1]
              exact HR0.out.2
          · by_cases h3 : kv.2 = 3
            · obtain rfl : c = 3 := by omega
              have HV := hideIt h3
              clear hk2
              go_wp2_with (at_mapUpdate; refine wpList_store _ rfl _ _ _ 244 rfl 9 324 strK Tryz.underlying244 w.heap.size n _ rfl HMN.out (by unfold maxLen; omega) _ (fixV (3, 0)) _ rfl rfl HKX.out ?_; intro w2 hM2 hg2; go_frame)
              have hrg2 := HRN.out.kept hg2 hne2 hne3
              go_roundw
              case rel =>
                refine ⟨_, cnt1, _, hrg2, ?_, hM2.ext (fun l' => ?_), HBN.out.grown hg2 (by have := HBN.out.size; omega) (fun j hj => by cases hj; exact Nat.le_refl _)⟩
                · have := putN_le n (fixAt left x.data.toList)
                  have := HR0.out.2
                  omega
                · rw [← HST.out.1 l']
                  unfold doneF
                  rw [if_pos (by have := HV.out; omega), HST.out.2, HV.out]
              case measure =>
                rw [hrg2.left_eq, HR0.out.1]
                exact HR0.out.2
            · by_cases h4 : kv.2 = 4
              · obtain rfl : c = 4 := by omega
                have HV := hideIt h4
                clear hk2
                go_wp2_with (at_mapUpdate; refine wpList_store _ rfl _ _ _ 244 rfl 9 324 strK Tryz.underlying244 w.heap.size n _ rfl HMN.out (by unfold maxLen; omega) _ (fixV (4, 0)) _ rfl rfl HKX.out ?_; intro w2 hM2 hg2; go_frame)
                have hrg2 := HRN.out.kept hg2 hne2 hne3
                go_roundw
                case rel =>
                  refine ⟨_, cnt1, _, hrg2, ?_, hM2.ext (fun l' => ?_), HBN.out.grown hg2 (by have := HBN.out.size; omega) (fun j hj => by cases hj; exact Nat.le_refl _)⟩
                  · have := putN_le n (fixAt left x.data.toList)
                    have := HR0.out.2
                    omega
                  · rw [← HST.out.1 l']
                    unfold doneF
                    rw [if_pos (by have := HV.out; omega), HST.out.2, HV.out]
                case measure =>
                  rw [hrg2.left_eq, HR0.out.1]
                  exact HR0.out.2
              · by_cases h5 : kv.2 = 5
                · obtain rfl : c = 5 := by omega
                  have HV := hideIt h5
                  clear hk2
                  go_wp2_with (at_mapUpdate; refine wpList_store _ rfl _ _ _ 244 rfl 9 324 strK Tryz.underlying244 w.heap.size n _ rfl HMN.out (by unfold maxLen; omega) _ (fixV (5, 0)) _ rfl rfl HKX.out ?_; intro w2 hM2 hg2; go_frame)
                  have hrg2 := HRN.out.kept hg2 hne2 hne3
                  go_roundw
                  case rel =>
                    refine ⟨_, cnt1, _, hrg2, ?_, hM2.ext (fun l' => ?_), HBN.out.grown hg2 (by have := HBN.out.size; omega) (fun j hj => by cases hj; exact Nat.le_refl _)⟩
                    · have := putN_le n (fixAt left x.data.toList)
                      have := HR0.out.2
                      omega
                    · rw [← HST.out.1 l']
                      unfold doneF
                      rw [if_pos (by have := HV.out; omega), HST.out.2, HV.out]
                  case measure =>
                    rw [hrg2.left_eq, HR0.out.1]
                    exact HR0.out.2
                · by_cases h6 : kv.2 = 6
                  · obtain rfl : c = 6 := by omega
                    have HV := hideIt h6
                    clear hk2
                    go_wp2_with (at_mapUpdate; refine wpList_store _ rfl _ _ _ 244 rfl 9 324 strK Tryz.underlying244 w.heap.size n _ rfl HMN.out (by unfold maxLen; omega) _ (fixV (6, 0)) _ rfl rfl HKX.out ?_; intro w2 hM2 hg2; go_frame)
                    have hrg2 := HRN.out.kept hg2 hne2 hne3
                    go_roundw
                    case rel =>
                      refine ⟨_, cnt1, _, hrg2, ?_, hM2.ext (fun l' => ?_), HBN.out.grown hg2 (by have := HBN.out.size; omega) (fun j hj => by cases hj; exact Nat.le_refl _)⟩
                      · have := putN_le n (fixAt left x.data.toList)
                        have := HR0.out.2
                        omega
                      · rw [← HST.out.1 l']
                        unfold doneF
                        rw [if_pos (by have := HV.out; omega), HST.out.2, HV.out]
                    case measure =>
                      rw [hrg2.left_eq, HR0.out.1]
                      exact HR0.out.2
                  · by_cases h7 : kv.2 = 7
                    · obtain rfl : c = 7 := by omega
                      have HV := hideIt h7
                      clear hk2
                      have HA := hideIt (addNumbered_any w.heap.size n (fixAt left) x 7 2 wn HMN.out (by omega) hxl (by decide))
                      go_wp2_with fail
                      refine HA.out.mono ?_
                      rintro e w2 ⟨rfl, ⟨n2, hn2, hM2⟩, hg2⟩
                      go_wp2
                      have hrg2 := HRN.out.kept hg2 hne2 hne3
                      go_roundw
                      case rel =>
                        refine ⟨_, cnt1, n2, hrg2, ?_, hM2.ext (fun l' => ?_), HBN.out.grown hg2 (by have := HBN.out.size; omega) (fun j hj => by cases hj; exact Nat.le_refl _)⟩
                        · have := HR0.out.2
                          omega
                        · rw [← HST.out.1 l']
                          unfold doneF
                          rw [if_neg (by have := HV.out; omega), if_pos HV.out, HST.out.2]
                      case measure =>
                        rw [hrg2.left_eq, HR0.out.1]
                        exact HR0.out.2
                    · by_cases h8 : kv.2 = 8
                      · obtain rfl : c = 8 := by omega
                        have HV := hideIt h8
                        clear hk2
                        have HA := hideIt (addNumbered_any w.heap.size n (fixAt left) x 8 8 wn HMN.out (by omega) hxl (by decide))
                        go_wp2_with fail
                        refine HA.out.mono ?_
                        rintro e w2 ⟨rfl, ⟨n2, hn2, hM2⟩, hg2⟩
                        go_wp2
                        have hrg2 := HRN.out.kept hg2 hne2 hne3
                        go_roundw
                        case rel =>
                          refine ⟨_, cnt1, n2, hrg2, ?_, hM2.ext (fun l' => ?_), HBN.out.grown hg2 (by have := HBN.out.size; omega) (fun j hj => by cases hj; exact Nat.le_refl _)⟩
                          · have := HR0.out.2
                            omega
                          · rw [← HST.out.1 l']
                            unfold doneF
                            rw [if_neg (by have := HV.out; omega), if_neg (by have := HV.out; omega), if_pos HV.out, HST.out.2]
                        case measure =>
                          rw [hrg2.left_eq, HR0.out.1]
                          exact HR0.out.2
                      · by_cases h9 : kv.2 = 9
                        · obtain rfl : c = 9 := by omega
                          have HV := hideIt h9
                          clear hk2
                          go_wp2
                          go_roundw
                          case rel =>
                            refine ⟨_, cnt1, n, HRN.out, by have := HR0.out.2; omega, HMN.out.ext (fun l' => ?_), HBN.out⟩
                            rw [← HST.out.1 l']
                            unfold doneF
                            rw [if_neg (by have := HV.out; omega), if_neg (by have := HV.out; omega), if_neg (by have := HV.out; omega)]
                          case measure =>
                            rw [HRN.out.left_eq, HR0.out.1]
                            exact HR0.out.2
                        · by_cases h10 : kv.2 = 10
                          · obtain rfl : c = 10 := by omega
                            have HV := hideIt h10
                            clear hk2
                            go_wp2
                            go_roundw
                            case rel =>
                              refine ⟨_, cnt1, n, HRN.out, by have := HR0.out.2; omega, HMN.out.ext (fun l' => ?_), HBN.out⟩
                              rw [← HST.out.1 l']
                              unfold doneF
                              rw [if_neg (by have := HV.out; omega), if_neg (by have := HV.out; omega), if_neg (by have := HV.out; omega)]
                            case measure =>
                              rw [HRN.out.left_eq, HR0.out.1]
                              exact HR0.out.2
                          · by_cases h11 : kv.2 = 11
                            · obtain rfl : c = 11 := by omega
                              have HV := hideIt h11
                              clear hk2
                              go_wp2
                              go_roundw
                              case rel =>
                                refine ⟨_, cnt1, n, HRN.out, by have := HR0.out.2; omega, HMN.out.ext (fun l' => ?_), HBN.out⟩
                                rw [← HST.out.1 l']
                                unfold doneF
                                rw [if_neg (by have := HV.out; omega), if_neg (by have := HV.out; omega), if_neg (by have := HV.out; omega)]
                              case measure =>
                                rw [HRN.out.left_eq, HR0.out.1]
                                exact HR0.out.2
                            · by_cases h12 : kv.2 = 12
                              · obtain rfl : c = 12 := by omega
                                have HV := hideIt h12
                                clear hk2
                                go_wp2
                                go_roundw
                                case rel =>
                                  refine ⟨_, cnt1, n, HRN.out, by have := HR0.out.2; omega, HMN.out.ext (fun l' => ?_), HBN.out⟩
                                  rw [← HST.out.1 l']
                                  unfold doneF
                                  rw [if_neg (by have := HV.out; omega), if_neg (by have := HV.out; omega), if_neg (by have := HV.out; omega)]
                                case measure =>
                                  rw [HRN.out.left_eq, HR0.out.1]
                                  exact HR0.out.2
                              · by_cases h13 : kv.2 = 13
                                · obtain rfl : c = 13 := by omega
                                  have HV := hideIt h13
                                  clear hk2
                                  go_wp2
                                  go_roundw
                                  case rel =>
                                    refine ⟨_, cnt1, n, HRN.out, by have := HR0.out.2; omega, HMN.out.ext (fun l' => ?_), HBN.out⟩
                                    rw [← HST.out.1 l']
                                    unfold doneF
                                    rw [if_neg (by have := HV.out; omega), if_neg (by have := HV.out; omega), if_neg (by have := HV.out; omega)]
                                  case measure =>
                                    rw [HRN.out.left_eq, HR0.out.1]
                                    exact HR0.out.2
                                · by_cases h14 : kv.2 = 14
                                  · obtain rfl : c = 14 := by omega
                                    have HV := hideIt h14
                                    clear hk2
                                    go_wp2
                                    go_roundw
                                    case rel =>
                                      refine ⟨_, cnt1, n, HRN.out, by have := HR0.out.2; omega, HMN.out.ext (fun l' => ?_), HBN.out⟩
                                      rw [← HST.out.1 l']
                                      unfold doneF
                                      rw [if_neg (by have := HV.out; omega), if_neg (by have := HV.out; omega), if_neg (by have := HV.out; omega)]
                                    case measure =>
                                      rw [HRN.out.left_eq, HR0.out.1]
                                      exact HR0.out.2
                                  · by_cases h15 : kv.2 = 15
                                    · obtain rfl : c = 15 := by omega
                                      have HV := hideIt h15
                                      clear hk2
                                      go_wp2
                                      go_roundw
                                      case rel =>
                                        refine ⟨_, cnt1, n, HRN.out, by have := HR0.out.2; omega, HMN.out.ext (fun l' => ?_), HBN.out⟩
                                        rw [← HST.out.1 l']
                                        unfold doneF
                                        rw [if_neg (by have := HV.out; omega), if_neg (by have := HV.out; omega), if_neg (by have := HV.out; omega)]
                                      case measure =>
                                        rw [HRN.out.left_eq, HR0.out.1]
                                        exact HR0.out.2
                                    · obtain rfl : c = 16 := by omega
                                      have HV : Hid (kv.2 = 16) := by
                                        show kv.2 = 16
                                        omega
                                      clear hk2
                                      go_wp2
                                      go_roundw
                                      case rel =>
                                        refine ⟨_, cnt1, n, HRN.out, by have := HR0.out.2; omega, HMN.out.ext (fun l' => ?_), HBN.out⟩
                                        rw [← HST.out.1 l']
                                        unfold doneF
                                        rw [if_neg (by have := HV.out; omega), if_neg (by have := HV.out; omega), if_neg (by have := HV.out; omega)]
                                      case measure =>
                                        rw [HRN.out.left_eq, HR0.out.1]
                                        exact HR0.out.2
end Go.Proofs.YthokdbcpkmcieaaGreatDoor
