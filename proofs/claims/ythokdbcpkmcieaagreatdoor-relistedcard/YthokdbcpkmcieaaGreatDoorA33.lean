/- The assembler: settle. The bytes of a statement: dataBytes, dataWords. The bytes of a statement: dataWords. -/
import Derived.Test.YthokdbcpkmcieaaGreatDoorA29
import Derived.Test.YthokdbcpkmcieaaGreatDoorA30
import Derived.Test.YthokdbcpkmcieaaGreatDoorA31
import Derived.Test.YthokdbcpkmcieaaGreatDoorA32
import Derived.Test.YthokdbcpkmcieaaGreatDoorA26
namespace Go.Proofs.YthokdbcpkmcieaaGreatDoor
open Go Go.RowKit Go.Shelf Go.WideMaps Go.Maps
theorem settle_any (w : World) (m : AMem) (a : Asm) (base : Nat) (lb : ByteArray) (x : Stm) (va : Option Addr) (vn vc : Nat) (ka : Option Addr) (kn kc : Nat) (l0 : Int) (hp : SetPre w m a base lb x (.slice va vn vc)) :
    Calls Tryz.prog 106 #[.pointer (some ⟨m.ab, 0, none⟩), .agg #[.int .i64 l0, .int .i64 (a.pl : Int), .string lb, .int .i64 (x.task : Int), .string x.name, .slice va vn vc, .int .u8 (x.ins.code : Int), .slice ka kn kc, .int .i64 (x.ins.size : Int)]] w (SetEnd w m l0 (settleF a lb x)) := by
  cases hcu : cuF a.nm lb x.task x.name x.vals with
  | false => exact settle_used w m a base lb x va vn vc ka kn kc l0 hp hcu
  | true =>
    cases hcg : cgF a.nm a.n (givenS lb x.task x.name) with
    | some k => exact settle_given w m a base lb x va vn vc ka kn kc l0 hp hcu k hcg
    | none =>
      cases htoo : tooS x.vals with
      | true => exact settle_great w m a base lb x va vn vc ka kn kc l0 hp hcu hcg htoo
      | false =>
        by_cases h1 : x.task = 1
        · exact settle_org w m a base lb x va vn vc ka kn kc l0 hp hcu hcg htoo h1
        · by_cases h4 : x.task = 4
          · exact settle_ds w m a base lb x va vn vc ka kn kc l0 hp hcu hcg htoo h4
          · by_cases h5 : x.task = 5
            · exact settle_equ w m a base lb x va vn vc ka kn kc l0 hp hcu hcg htoo h5
            · exact settle_lay w m a base lb x va vn vc ka kn kc l0 hp hcu hcg htoo h1 h4 h5
end Go.Proofs.YthokdbcpkmcieaaGreatDoor
namespace Go.Proofs.YthokdbcpkmcieaaGreatDoor
open Go Go.RowKit Go.Shelf Go.WideMaps Go.Maps
/-- What the expressions come to, if each is within the bounds. -/
def numsF (nm : List UInt8 → Option Int) (p lo hi : Int) : List (List Trm) → Option (List Int)
  | [] => some []
  | e :: es => (nmbF nm p e lo hi).bind fun z => (numsF nm p lo hi es).map (z :: ·)
theorem numsF_append {nm : List UInt8 → Option Int} {p lo hi : Int} : ∀ (l k : List (List Trm)), numsF nm p lo hi (l ++ k) = (numsF nm p lo hi l).bind fun a => (numsF nm p lo hi k).map (a ++ ·)
  | [], k => by simp [numsF]
  | e :: l, k => by
    have ih := numsF_append (nm := nm) (p := p) (lo := lo) (hi := hi) l k
    simp only [List.cons_append, numsF, ih]
    cases nmbF nm p e lo hi with
    | none => rfl
    | some z =>
      cases numsF nm p lo hi l with
      | none => rfl
      | some a =>
        cases numsF nm p lo hi k with
        | none => rfl
        | some b => rfl
theorem numsF_one (nm : List UInt8 → Option Int) (p lo hi : Int) (e : List Trm) : numsF nm p lo hi [e] = (nmbF nm p e lo hi).map fun z => [z] := by
  simp only [numsF]
  cases nmbF nm p e lo hi <;> rfl
theorem numsF_next {nm : List UInt8 → Option Int} {p lo hi : Int} {es : List (List Trm)} {j : Nat} {zs : List Int} (hj : j < es.length) (h : numsF nm p lo hi (es.take j) = some zs) : numsF nm p lo hi (es.take (j + 1)) = (nmbF nm p es[j] lo hi).map fun z => zs ++ [z] := by
  rw [List.take_add_one, List.getElem?_eq_getElem hj, Option.toList_some, numsF_append, h, numsF_one]
  cases nmbF nm p es[j] lo hi <;> rfl
theorem numsF_bad {nm : List UInt8 → Option Int} {p lo hi : Int} {es : List (List Trm)} {j : Nat} (h : numsF nm p lo hi (es.take j) = none) : numsF nm p lo hi es = none := by
  have := numsF_append (nm := nm) (p := p) (lo := lo) (hi := hi) (es.take j) (es.drop j)
  rw [List.take_append_drop, h] at this
  exact this
theorem numsF_len {nm : List UInt8 → Option Int} {p lo hi : Int} : ∀ {es : List (List Trm)} {zs : List Int}, numsF nm p lo hi es = some zs → zs.length = es.length
  | [], zs, h => by
    simp only [numsF] at h
    cases h
    rfl
  | e :: es, zs, h => by
    simp only [numsF] at h
    obtain ⟨z, _, h2⟩ := Option.bind_eq_some_iff.1 h
    obtain ⟨y, h3, rfl⟩ := Option.map_eq_some_iff.1 h2
    rw [List.length_cons, List.length_cons, numsF_len h3]
/-- What filling begins with: of the assembler its names and its place in memory; a statement that has been settled. -/
structure FillPre (w : World) (m : AMem) (a : Asm) (base : Nat) (x : Stm) (v : Value) (p : Nat) : Prop where
  at_ : AsmAt w m a
  ok : ∀ l z, a.nm l = some z → -1000000 ≤ z ∧ z ≤ 1000000
  vals : VAt w base v x.vals
  great : tooS x.vals = false
  trms : ∀ e ∈ x.vals, ∀ t ∈ e, t.name.size ≤ 1000000 ∧ 0 ≤ t.num
  cnt : cntT x.vals ≤ 1000000
  len : x.vals.length ≤ 1000000
  pl : p ≤ 1024
theorem FillPre.below {w w' : World} {m : AMem} {a : Asm} {base : Nat} {x : Stm} {v : Value} {p : Nat} (h : FillPre w m a base x v p) (hb : Below w.heap.size w w') : FillPre w' m a base x v p := ⟨h.at_.below hb, h.ok, h.vals.below hb, h.great, h.trms, h.cnt, h.len, h.pl⟩
theorem mem_cnt {e : List Trm} : ∀ {es : List (List Trm)}, e ∈ es → e.length ≤ cntT es
  | x :: es, h => by
    have hc : cntT (x :: es) = x.length + cntT es := by simp [cntT]
    rw [hc]
    rcases List.mem_cons.1 h with rfl | h
    · omega
    · have := mem_cnt h
      omega
/-- The j-th expression and what it comes to. -/
theorem FillPre.num {w : World} {m : AMem} {a : Asm} {base : Nat} {x : Stm} {va : Option Addr} {vn vc : Nat} {p : Nat} (h : FillPre w m a base x (.slice va vn vc) p) (j : Nat) (hj : j < x.vals.length) : ∃ g xa xn xc, va = some ⟨g, 0, none⟩ ∧ w.cell? ⟨g, j, none⟩ = some (.slice xa xn xc) ∧ ∀ (l0 : Int) (lb : ByteArray) (tk : Int) (nmS : ByteArray) (sa : Option Addr) (sn sc : Nat) (cd : Int) (ka : Option Addr) (kn kc : Nat) (sz lo hi : Int), Calls Tryz.prog 171 #[.pointer (some ⟨m.ab, 0, none⟩), .agg #[.int .i64 l0, .int .i64 (p : Int), .string lb, .int .i64 tk, .string nmS, .slice sa sn sc, .int .u8 cd, .slice ka kn kc, .int .i64 sz], .slice xa xn xc, .int .i64 lo, .int .i64 hi] w fun e w' => e = nmbE (nmbF a.nm (p : Int) x.vals[j] lo hi) l0 ∧ Below w.heap.size w w' := by
  obtain ⟨vs, h1, h2⟩ := h.vals
  obtain ⟨y, hy, hr⟩ := each_at h2 j hj
  obtain ⟨g, hg, hc⟩ := row_get h1 (by omega) hy
  obtain ⟨xa, xn, xc, rfl⟩ := row_sliceN hr
  have hm : x.vals[j] ∈ x.vals := List.getElem_mem hj
  refine ⟨g, xa, xn, xc, hg, hc, fun l0 lb tk nmS sa sn sc cd ka kn kc sz lo hi => ?_⟩
  exact number_any w m.ab _ _ _ m.nb _ _ _ base _ l0 (p : Int) lb tk nmS sa sn sc cd ka kn kc sz xa xn xc lo hi h.at_.st hr (Nat.le_trans (mem_cnt hm) h.cnt) (fun t ht => (h.trms _ hm t ht).1) (fun t ht => trm_ok h.ok h.great (fun e he t ht => (h.trms e he t ht).2) hm ht h.pl)
/-- What the making of bytes ends with. -/
def DEnd (w : World) (l0 : Int) (o : Option (List Int)) (e : Ending) (w' : World) : Prop :=
  Below w.heap.size w w' ∧ match o with
    | none => e = .panicked (fltC 6 l0)
    | some bs => ∃ v, e = .returned v ∧ w'.ownsRow w.heap.size 5 1 v bs.length (u8Cells bs)
def dbF (nm : List UInt8 → Option Int) (p : Int) (es : List (List Trm)) : Option (List Int) := (numsF nm p (-128) 255 es).map fun zs => zs.map IntKind.u8.wrap
def wdB (zs : List Int) : List Int := zs.flatMap fun z => [IntKind.u8.wrap (z / 256), IntKind.u8.wrap z]
theorem wdB_len (zs : List Int) : (wdB zs).length = 2 * zs.length := by
  induction zs with
  | nil => rfl
  | cons z l ih =>
    have : wdB (z :: l) = IntKind.u8.wrap (z / 256) :: IntKind.u8.wrap z :: wdB l := rfl
    rw [this, List.length_cons, List.length_cons, List.length_cons, ih]
    omega
def dwF (nm : List UInt8 → Option Int) (p : Int) (es : List (List Trm)) : Option (List Int) := (numsF nm p (-32768) 65535 es).map wdB
set_option maxRecDepth 100000 in
set_option maxHeartbeats 8000000 in
theorem dataBytes_any (w : World) (m : AMem) (a : Asm) (base : Nat) (x : Stm) (va : Option Addr) (vn vc : Nat) (p : Nat) (l0 : Int) (lb : ByteArray) (tk : Int) (nmS : ByteArray) (cd : Int) (ka : Option Addr) (kn kc : Nat) (sz : Int) (h : FillPre w m a base x (.slice va vn vc) p) :
    Calls Tryz.prog 174 #[.pointer (some ⟨m.ab, 0, none⟩), .agg #[.int .i64 l0, .int .i64 (p : Int), .string lb, .int .i64 tk, .string nmS, .slice va vn vc, .int .u8 cd, .slice ka kn kc, .int .i64 sz]] w (DEnd w l0 (dbF a.nm (p : Int) x.vals)) := by
  obtain ⟨i0, hi, hz0, hz1, hz2⟩ := info_parts Tryz.infoU8
  obtain ⟨W, hW, hBW, hWz, hSS⟩ := st_box w l0 (p : Int) lb tk nmS (.slice va vn vc) cd (.slice ka kn kc) sz
  have hvn : vn = x.vals.length := by
    obtain ⟨vs, h1, _⟩ := h.vals
    exact row_lenB h1 rfl
  have hlen := h.len
  obtain ⟨R, hR⟩ : ∃ R, dbF a.nm (p : Int) x.vals = R := ⟨_, rfl⟩
  rw [hR]
  have HR := hideIt hR
  have HP : Hid (FillPre W m a base x (.slice va vn vc) p) := h.below hBW
  have HSS : Hid (∀ w', Below W.heap.size W w' → SS w' w.heap.size l0 (p : Int) lb tk nmS (.slice va vn vc) cd (.slice ka kn kc) sz) := fun w' hb => hSS.grown (hb.block _ hSS.lt) hb.size
  have HB := hideIt hBW
  have t5 := hSS.c5
  have hvi : (vn : Int) ≤ 1000000 := by omega
  have HVN := hideIt hvn
  clear h hBW hSS hR hvn hlen
  go_enter Tryz.func174, Tryz.ntmps174
  go_wp2_with fail
  go_loopw [5, 12] (fun s5 i wr => ∃ (j : Nat) (zs : List Int) (ya : Option Addr) (yn yc : Nat), j ≤ vn ∧ i = .int .i64 j ∧ s5 = .slice ya yn yc ∧ zs.length = j ∧ numsF a.nm (p : Int) (-128) 255 (x.vals.take j) = some zs ∧ wr.ownsRow W.heap.size 5 1 (.slice ya yn yc) (zs.map IntKind.u8.wrap).length (u8Cells (zs.map IntKind.u8.wrap)) ∧ Below W.heap.size W wr) (fun _ i _ => vn - (intOf i).toNat)
  case atStart => exact ⟨0, [], none, 0, 0, Nat.zero_le _, rfl, rfl, rfl, rfl, World.ownsRow_nil _ _ _ _, Below.refl _ _⟩
  case round =>
    obtain ⟨j, zs, ya, yn, yc, hj, rfl, rfl, hzl, hzs, hrow, hB⟩ := hrel
    have HROW := hideIt hrow
    have HBW := hideIt hB
    have HZS := hideIt hzs
    have HZL := hideIt hzl
    by_cases hlt : j < vn
    · have hji : (j : Int) < (vn : Int) := by omega
      have hjl : j < x.vals.length := by rw [← HVN.out]; exact hlt
      obtain ⟨g, xa, xn, xc, hva, cg, HN⟩ := (HP.out.below hB).num j hjl
      subst hva
      have hs := HSS.out wr hB
      have s0 := hs.c0
      have s1 := hs.c1
      have s2 := hs.c2
      have s3 := hs.c3
      have s4 := hs.c4
      have s5 := hs.c5
      have s6 := hs.c6
      have s7 := hs.c7
      have s8 := hs.c8
      have HN1 := hideIt (HN l0 lb tk nmS (some ⟨g, 0, none⟩) vn vc cd ka kn kc sz (-128) 255)
      have hnx := numsF_next hjl hzs
      have hvl : vn ≤ 1000000 := by omega
      clear hs HN hrow hB hzs hzl t5 HSS
      cases hO : nmbF a.nm (p : Int) x.vals[j] (-128) 255 with
      | none =>
        rw [hO] at HN1 hnx
        have eR : R = none := by
          rw [← HR.out]
          unfold dbF
          rw [numsF_bad hnx]
          rfl
        subst eR
        have HN2 : Hid (Calls Tryz.prog 171 #[.pointer (some ⟨m.ab, 0, none⟩), .agg #[.int .i64 l0, .int .i64 (p : Int), .string lb, .int .i64 tk, .string nmS, .slice (some ⟨g, 0, none⟩) vn vc, .int .u8 cd, .slice ka kn kc, .int .i64 sz], .slice xa xn xc, .int .i64 (-128), .int .i64 255] wr fun e w' => e = .panicked (fltC 6 l0) ∧ Below wr.heap.size wr w') := HN1.out
        clear HN1 hnx hO
        go_wp2_with (first | (go_at_call 171; refine HN2.out.mono ?_; rintro e w5 ⟨rfl, hb5⟩))
        have hb := HB.out.trans (HBW.out.mono HB.out.size)
        exact ⟨rfl, hb.trans (hb5.mono hb.size), rfl⟩
      | some z =>
        rw [hO] at HN1 hnx
        have HNX : Hid (numsF a.nm (p : Int) (-128) 255 (x.vals.take (j + 1)) = some (zs ++ [z])) := hnx
        have HZB := hideIt (nmb_bounds hO)
        have HN2 : Hid (Calls Tryz.prog 171 #[.pointer (some ⟨m.ab, 0, none⟩), .agg #[.int .i64 l0, .int .i64 (p : Int), .string lb, .int .i64 tk, .string nmS, .slice (some ⟨g, 0, none⟩) vn vc, .int .u8 cd, .slice ka kn kc, .int .i64 sz], .slice xa xn xc, .int .i64 (-128), .int .i64 255] wr fun e w' => e = .returned (.int .i64 z) ∧ Below wr.heap.size wr w') := HN1.out
        obtain ⟨zb, hzb⟩ : ∃ zb, IntKind.u8.wrap z = zb := ⟨_, rfl⟩
        clear HN1 hnx hO
        go_wp2_with (first | (go_at_call 171; refine HN2.out.mono ?_; rintro e w5 ⟨rfl, hb5⟩; have HB5 := hideIt (HBW.out.trans (hb5.mono HBW.out.size)); have HR5 := hideIt (row_belowA HROW.out hb5); clear hb5) | (at_builtin; refine wpList_append_own_at _ rfl _ _ 32 rfl W.heap.size 5 i0 _ 1 1 Tryz.underlying32 hi hz0 hz1 hz2 rfl (by decide) _ _ _ rfl (HR5.out.alloc _) ⟨w5.heap.size, 0, none⟩ 1 1 [.int .u8 zb] rfl rfl (cell_one_new _ _ _) (by intro u hu; simp at hu; subst hu; rfl) (by have := HZL.out; rw [List.length_map]; unfold maxLen; omega) (by have := HZL.out; rw [List.length_map]; omega) (by have := HB5.out.size; simp; omega) ?_; intro v' wn hown hgr _ _; obtain ⟨a', n', c', ev⟩ := u8_slice hown; subst ev))
        have hz5 := HB5.out.size
        have hBn : Below W.heap.size W wn := (HB5.out.alloc HB5.out.size _).grown hgr (by simp; omega) (fun k hk => (HR5.out.lt k hk).1)
        go_wp2_with fail
        go_roundw
        case rel =>
          refine ⟨j + 1, zs ++ [z], a', n', c', by omega, by go_num, rfl, by simp [HZL.out], HNX.out, ?_, hBn⟩
          have h9 := hown
          rw [show (zs ++ [z]).map IntKind.u8.wrap = zs.map IntKind.u8.wrap ++ [zb] by rw [← hzb]; simp, show u8Cells (zs.map IntKind.u8.wrap ++ [zb]) = u8Cells (zs.map IntKind.u8.wrap) ++ [.int .u8 zb] by simp [u8Cells], List.length_append]
          exact h9
        case measure => simp [intOf]; omega
    · have hji : ¬ (j : Int) < (vn : Int) := by omega
      have hjv : j = x.vals.length := by rw [← HVN.out]; omega
      have eR : R = some (zs.map IntKind.u8.wrap) := by
        have h9 := HZS.out
        rw [hjv, List.take_length] at h9
        rw [← HR.out]
        unfold dbF
        rw [h9]
        rfl
      subst eR
      go_wp2
      go_ret
      exact ⟨HB.out.trans (HBW.out.mono HB.out.size), _, rfl, own_base HROW.out (by omega)⟩
end Go.Proofs.YthokdbcpkmcieaaGreatDoor
namespace Go.Proofs.YthokdbcpkmcieaaGreatDoor
open Go Go.RowKit Go.Shelf Go.WideMaps Go.Maps
set_option maxRecDepth 100000 in
set_option maxHeartbeats 8000000 in
theorem dataWords_any (w : World) (m : AMem) (a : Asm) (base : Nat) (x : Stm) (va : Option Addr) (vn vc : Nat) (p : Nat) (l0 : Int) (lb : ByteArray) (tk : Int) (nmS : ByteArray) (cd : Int) (ka : Option Addr) (kn kc : Nat) (sz : Int) (h : FillPre w m a base x (.slice va vn vc) p) :
    Calls Tryz.prog 175 #[.pointer (some ⟨m.ab, 0, none⟩), .agg #[.int .i64 l0, .int .i64 (p : Int), .string lb, .int .i64 tk, .string nmS, .slice va vn vc, .int .u8 cd, .slice ka kn kc, .int .i64 sz]] w (DEnd w l0 (dwF a.nm (p : Int) x.vals)) := by
  obtain ⟨i0, hi, hz0, hz1, hz2⟩ := info_parts Tryz.infoU8
  obtain ⟨W, hW, hBW, hWz, hSS⟩ := st_box w l0 (p : Int) lb tk nmS (.slice va vn vc) cd (.slice ka kn kc) sz
  have hvn : vn = x.vals.length := by
    obtain ⟨vs, h1, _⟩ := h.vals
    exact row_lenB h1 rfl
  have hlen := h.len
  obtain ⟨R, hR⟩ : ∃ R, dwF a.nm (p : Int) x.vals = R := ⟨_, rfl⟩
  rw [hR]
  have HR := hideIt hR
  have HP : Hid (FillPre W m a base x (.slice va vn vc) p) := h.below hBW
  have HSS : Hid (∀ w', Below W.heap.size W w' → SS w' w.heap.size l0 (p : Int) lb tk nmS (.slice va vn vc) cd (.slice ka kn kc) sz) := fun w' hb => hSS.grown (hb.block _ hSS.lt) hb.size
  have HB := hideIt hBW
  have t5 := hSS.c5
  have hvi : (vn : Int) ≤ 1000000 := by omega
  have HVN := hideIt hvn
  clear h hBW hSS hR hvn hlen
  go_enter Tryz.func175, Tryz.ntmps175
  go_wp2_with fail
  go_loopw [5, 12] (fun s5 i wr => ∃ (j : Nat) (zs : List Int) (ya : Option Addr) (yn yc : Nat), j ≤ vn ∧ i = .int .i64 j ∧ s5 = .slice ya yn yc ∧ zs.length = j ∧ numsF a.nm (p : Int) (-32768) 65535 (x.vals.take j) = some zs ∧ wr.ownsRow W.heap.size 5 1 (.slice ya yn yc) (wdB zs).length (u8Cells (wdB zs)) ∧ Below W.heap.size W wr) (fun _ i _ => vn - (intOf i).toNat)
  case atStart => exact ⟨0, [], none, 0, 0, Nat.zero_le _, rfl, rfl, rfl, rfl, World.ownsRow_nil _ _ _ _, Below.refl _ _⟩
  case round =>
    obtain ⟨j, zs, ya, yn, yc, hj, rfl, rfl, hzl, hzs, hrow, hB⟩ := hrel
    have HROW := hideIt hrow
    have HBW := hideIt hB
    have HZS := hideIt hzs
    have HZL := hideIt hzl
    by_cases hlt : j < vn
    · have hji : (j : Int) < (vn : Int) := by omega
      have hjl : j < x.vals.length := by rw [← HVN.out]; exact hlt
      obtain ⟨g, xa, xn, xc, hva, cg, HN⟩ := (HP.out.below hB).num j hjl
      subst hva
      have hs := HSS.out wr hB
      have s0 := hs.c0
      have s1 := hs.c1
      have s2 := hs.c2
      have s3 := hs.c3
      have s4 := hs.c4
      have s5 := hs.c5
      have s6 := hs.c6
      have s7 := hs.c7
      have s8 := hs.c8
      have HN1 := hideIt (HN l0 lb tk nmS (some ⟨g, 0, none⟩) vn vc cd ka kn kc sz (-32768) 65535)
      have hnx := numsF_next hjl hzs
      have hvl : vn ≤ 1000000 := by omega
      clear hs HN hrow hB hzs hzl t5 HSS
      cases hO : nmbF a.nm (p : Int) x.vals[j] (-32768) 65535 with
      | none =>
        rw [hO] at HN1 hnx
        have eR : R = none := by
          rw [← HR.out]
          unfold dwF
          rw [numsF_bad hnx]
          rfl
        subst eR
        have HN2 : Hid (Calls Tryz.prog 171 #[.pointer (some ⟨m.ab, 0, none⟩), .agg #[.int .i64 l0, .int .i64 (p : Int), .string lb, .int .i64 tk, .string nmS, .slice (some ⟨g, 0, none⟩) vn vc, .int .u8 cd, .slice ka kn kc, .int .i64 sz], .slice xa xn xc, .int .i64 (-32768), .int .i64 65535] wr fun e w' => e = .panicked (fltC 6 l0) ∧ Below wr.heap.size wr w') := HN1.out
        clear HN1 hnx hO
        go_wp2_with (first | (go_at_call 171; refine HN2.out.mono ?_; rintro e w5 ⟨rfl, hb5⟩))
        have hb := HB.out.trans (HBW.out.mono HB.out.size)
        exact ⟨rfl, hb.trans (hb5.mono hb.size), rfl⟩
      | some z =>
        rw [hO] at HN1 hnx
        have HNX : Hid (numsF a.nm (p : Int) (-32768) 65535 (x.vals.take (j + 1)) = some (zs ++ [z])) := hnx
        have HZB := hideIt (nmb_bounds hO)
        have HN2 : Hid (Calls Tryz.prog 171 #[.pointer (some ⟨m.ab, 0, none⟩), .agg #[.int .i64 l0, .int .i64 (p : Int), .string lb, .int .i64 tk, .string nmS, .slice (some ⟨g, 0, none⟩) vn vc, .int .u8 cd, .slice ka kn kc, .int .i64 sz], .slice xa xn xc, .int .i64 (-32768), .int .i64 65535] wr fun e w' => e = .returned (.int .i64 z) ∧ Below wr.heap.size wr w') := HN1.out
        obtain ⟨zh, hzh⟩ : ∃ zh, IntKind.u8.wrap (z / 256) = zh := ⟨_, rfl⟩
        obtain ⟨zb, hzb⟩ : ∃ zb, IntKind.u8.wrap z = zb := ⟨_, rfl⟩
        clear HN1 hnx hO
        go_wp2_with (first | (go_at_call 171; refine HN2.out.mono ?_; rintro e w5 ⟨rfl, hb5⟩; have HB5 := hideIt (HBW.out.trans (hb5.mono HBW.out.size)); have HR5 := hideIt (row_belowA HROW.out hb5); clear hb5) | (at_builtin; refine wpList_append_own_at _ rfl _ _ 32 rfl W.heap.size 5 i0 _ 1 1 Tryz.underlying32 hi hz0 hz1 hz2 rfl (by decide) _ _ _ rfl (HR5.out.alloc _) ⟨w5.heap.size, 0, none⟩ 2 2 [.int .u8 zh, .int .u8 zb] rfl rfl (cells_newB _ [.int .u8 zh, .int .u8 zb] _) (by intro u hu; simp at hu; rcases hu with rfl | rfl <;> rfl) (by have := HZL.out; rw [wdB_len]; unfold maxLen; omega) (by have := HZL.out; rw [wdB_len]; omega) (by have := HB5.out.size; simp; omega) ?_; intro v' wn hown hgr _ _; obtain ⟨a', n', c', ev⟩ := u8_slice hown; subst ev))
        have hz5 := HB5.out.size
        have hBn : Below W.heap.size W wn := (HB5.out.alloc HB5.out.size _).grown hgr (by simp; omega) (fun k hk => (HR5.out.lt k hk).1)
        go_wp2_with fail
        go_roundw
        case rel =>
          refine ⟨j + 1, zs ++ [z], a', n', c', by omega, by go_num, rfl, by simp [HZL.out], HNX.out, ?_, hBn⟩
          have h9 := hown
          rw [show wdB (zs ++ [z]) = wdB zs ++ [zh, zb] by rw [← hzb, ← hzh]; simp [wdB], show u8Cells (wdB zs ++ [zh, zb]) = u8Cells (wdB zs) ++ [.int .u8 zh, .int .u8 zb] by simp [u8Cells], List.length_append]
          exact h9
        case measure => simp [intOf]; omega
    · have hji : ¬ (j : Int) < (vn : Int) := by omega
      have hjv : j = x.vals.length := by rw [← HVN.out]; omega
      have eR : R = some (wdB zs) := by
        have h9 := HZS.out
        rw [hjv, List.take_length] at h9
        rw [← HR.out]
        unfold dwF
        rw [h9]
        rfl
      subst eR
      go_wp2
      go_ret
      exact ⟨HB.out.trans (HBW.out.mono HB.out.size), _, rfl, own_base HROW.out (by omega)⟩
end Go.Proofs.YthokdbcpkmcieaaGreatDoor
