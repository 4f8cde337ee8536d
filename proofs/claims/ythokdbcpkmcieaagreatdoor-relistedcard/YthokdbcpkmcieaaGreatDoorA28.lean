/- The assembler: settle; what is wrong. -/
import Derived.Test.YthokdbcpkmcieaaGreatDoorA27
namespace Go.Proofs.YthokdbcpkmcieaaGreatDoor
open Go Go.RowKit Go.Shelf Go.WideMaps Go.Maps
/-- What the assembler gives up with, as it lies in the chain. -/
def fltC (n line : Int) : List PanicEntry := [{ v := .iface 117 (.agg #[.int .i64 n, .int .i64 line]), recovered := false }]
/-- What a parsed line keeps to. -/
structure StmOk (lb : ByteArray) (x : Stm) : Prop where
  lb : lb.size ≤ 1000000
  name : x.name.size ≤ 1000000
  vals : ∀ e ∈ x.vals, ∀ t ∈ e, t.name.size ≤ 1000000 ∧ 0 ≤ t.num
  cnt : cntT x.vals ≤ 1000000
  len : x.vals.length ≤ 1000000
  once : atOnce x.task = true → x.vals.length = 1
  one6 : x.task = 6 → 1 ≤ x.ins.size
  size : x.ins.size ≤ 100
theorem StmOk.used {lb : ByteArray} {x : Stm} (h : StmOk lb x) : ∀ s ∈ usedS x.vals, s.size ≤ 1000000 := fun s hs => by
  unfold usedS usedE at hs
  obtain ⟨e, he, h1⟩ := List.mem_flatMap.1 hs
  obtain ⟨t, ht, rfl⟩ := List.mem_map.1 h1
  exact (h.vals e he t (List.mem_filter.1 ht).1).1
theorem StmOk.given {lb : ByteArray} {x : Stm} (h : StmOk lb x) : ∀ s ∈ givenS lb x.task x.name, s.size ≤ 1000000 := fun s hs => by
  unfold givenS at hs
  rcases List.mem_append.1 hs with h1 | h1
  · split at h1
    · cases h1
    · rw [List.mem_singleton.1 h1]
      exact h.lb
  · split at h1
    · rw [List.mem_singleton.1 h1]
      exact h.name
    · cases h1
/-- What settling begins with. -/
structure SetPre (w : World) (m : AMem) (a : Asm) (base : Nat) (lb : ByteArray) (x : Stm) (v : Value) : Prop where
  at_ : AsmAt w m a
  mok : m.Ok
  ok : a.Ok
  vals : VAt w base v x.vals
  lo : m.ab < base ∧ m.ik < base ∧ m.lk < base ∧ m.sk < base ∧ m.nb < base
  stm : StmOk lb x
/-- What settling ends with. -/
def SetEnd (w : World) (m : AMem) (l0 : Int) (r : Except Int Asm) (e : Ending) (w' : World) : Prop :=
  ChgM w w' m ∧ match r with
    | .error k => e = faultE k l0
    | .ok b => e = .returned (.tuple #[]) ∧ AsmAt w' m b
/-- The label has its meaning. -/
def labA (a : Asm) (lb : ByteArray) : Asm := if lb = ⟨#[]⟩ then a else a.put lb (a.pl : Int)
theorem labA_pl (a : Asm) (lb : ByteArray) : (labA a lb).pl = a.pl := by
  unfold labA
  split <;> rfl
theorem labA_laid (a : Asm) (lb : ByteArray) : (labA a lb).laid = a.laid ∧ (labA a lb).starts = a.starts ∧ (labA a lb).bytes = a.bytes := by
  unfold labA
  split <;> exact ⟨rfl, rfl, rfl⟩
/-- Behind the label. -/
structure SetMid (w wx : World) (m : AMem) (b : Asm) (base : Nat) (es : List (List Trm)) (v : Value) (l0 p0 : Int) (lb : ByteArray) (T : Int) (nm : ByteArray) (cd : Int) (kd : Value) (sz : Int) : Prop where
  at_ : AsmAt wx m b
  chg : ChgM w wx m
  vals : VAt wx base v es
  ss : SS wx w.heap.size l0 p0 lb T nm v cd kd sz
theorem cgF_n {nm : List UInt8 → Option Int} {n : Nat} {l : List ByteArray} (h : cgF nm n l = none) : n + l.length ≤ 40 := by
  unfold cgF at h
  split at h
  · cases h
  · split at h
    · cases h
    · omega
theorem VAt.one {w : World} {base : Nat} {va : Option Addr} {vn vc : Nat} {e : List Trm} (h : VAt w base (.slice va vn vc) [e]) : vn = 1 ∧ ∃ g xa xn xc, va = some ⟨g, 0, none⟩ ∧ base ≤ g ∧ w.cell? ⟨g, 0, none⟩ = some (.slice xa xn xc) ∧ w.ownsRow base 261 4 (.slice xa xn xc) e.length (trmCells e) := by
  obtain ⟨vs, h1, h2⟩ := h
  have hn : vn = 1 := row_lenB h1 rfl
  obtain ⟨y, hy, hr⟩ := each_at h2 0 (by simp)
  obtain ⟨g, hg, hc⟩ := row_get h1 (by simp) hy
  obtain ⟨xa, xn, xc, rfl⟩ := row_sliceN hr
  exact ⟨hn, g, xa, xn, xc, hg, (h1.lt g (by rw [hg]; rfl)).1, hc, hr⟩
theorem labA_ok {a : Asm} {lb : ByteArray} (h : a.Ok) (hn : a.n ≤ 40) : (labA a lb).Ok := by
  unfold labA
  split
  · exact h
  · exact h.put _ _ (by have := h.pl; omega) (by omega)
theorem AsmAt.lab {w w' : World} {m : AMem} {a : Asm} {lb : ByteArray} (h : AsmAt w m a) (hm : m.Ok) (hlb : ¬ lb = ⟨#[]⟩) (hn : MapAt Tryz.prog 9 w' m.nb (putN a.n ((fun l => (a.nm l).map fun x => Value.int .i64 x) lb.data.toList)) (putF (fun l => (a.nm l).map fun x => .int .i64 x) lb.data.toList (.int .i64 (a.pl : Int)))) (hg : w.grownBy w' (some m.nb)) : AsmAt w' m (labA a lb) := by
  unfold labA
  rw [if_neg hlb]
  exact h.put hm (put_names hn rfl) hg
theorem AsmAt.toPl {w : World} {m : AMem} {a : Asm} (h : AsmAt w m a) (hm : m.Ok) (z : Nat) (v : Int) (hv : v = (z : Int)) : AsmAt (w.setCell ⟨m.ab, 4, none⟩ (.int .i64 v)) m { a with pl := z } := by
  subst hv
  exact ⟨h.st.place _, h.bytes.kept (heap_setCell_other _ _ _ _ hm.e.1), h.laid.kept (heap_setCell_other _ _ _ _ (fun e => hm.d.1 e.symm)), h.starts.kept (heap_setCell_other _ _ _ _ (fun e => hm.d.2.1 e.symm))⟩
theorem nmb_bounds {nm : List UInt8 → Option Int} {p : Int} {l : List Trm} {lo hi z : Int} (h : nmbF nm p l lo hi = some z) : lo ≤ z ∧ z ≤ hi := by
  unfold nmbF at h
  obtain ⟨y, _, h2⟩ := Option.bind_eq_some_iff.1 h
  split at h2
  · cases h2
  · cases h2
    omega
/-- What becomes of ORG, DS, EQU. -/
def orgR (b : Asm) : Option Int → Except Int Asm
  | some z => .ok { b with pl := z.toNat }
  | none => .error 6
def dsR (b : Asm) (p : Nat) : Option Int → Except Int Asm
  | some z => .ok { b with pl := p + z.toNat }
  | none => .error 6
def equR (b : Asm) (nm : ByteArray) : Option Int → Except Int Asm
  | some z => .ok (b.put nm z)
  | none => .error 6
/-- A name is laid into the assembler's map. -/
theorem asm_store {w : World} {m : AMem} {a : Asm} (h : AsmAt w m a) (ha : a.n ≤ 1000) (k : ByteArray) (hk : k.size ≤ 1000000) (z : Int) : ∃ w', (Instr.mapUpdate 119 (.map (some m.nb)) (.string k) (.int .i64 z)).run Tryz.prog w = .ok () w' ∧ MapAt Tryz.prog 9 w' m.nb (putN a.n ((fun l => (a.nm l).map fun x => Value.int .i64 x) k.data.toList)) (putF (fun l => (a.nm l).map fun x => .int .i64 x) k.data.toList (.int .i64 z)) ∧ w.grownBy w' (some m.nb) :=
  MapAt.store h.st.nms strK Tryz.underlying119 (by unfold maxLen; omega) (keyOf_string_mk Tryz.underlying9 (by unfold maxLen; omega))
set_option maxRecDepth 100000 in
set_option maxHeartbeats 8000000 in
theorem settle_used (w : World) (m : AMem) (a : Asm) (base : Nat) (lb : ByteArray) (x : Stm) (va : Option Addr) (vn vc : Nat) (ka : Option Addr) (kn kc : Nat) (l0 : Int) (hp : SetPre w m a base lb x (.slice va vn vc)) (hcu : cuF a.nm lb x.task x.name x.vals = false) :
    Calls Tryz.prog 106 #[.pointer (some ⟨m.ab, 0, none⟩), .agg #[.int .i64 l0, .int .i64 (a.pl : Int), .string lb, .int .i64 (x.task : Int), .string x.name, .slice va vn vc, .int .u8 (x.ins.code : Int), .slice ka kn kc, .int .i64 (x.ins.size : Int)]] w (SetEnd w m l0 (settleF a lb x)) := by
  have e : settleF a lb x = .error 3 := by unfold settleF; rw [if_pos hcu]
  rw [e]
  clear e
  have hst := hp.stm
  have HU0 := fun w' (hb : Below w.heap.size w w') => checkUsed_any w' m.ab _ _ _ m.nb a.n a.nm (a.pl : Int) base x.vals l0 (a.pl : Int) lb x.task x.name va vn vc (x.ins.code : Int) ka kn kc (x.ins.size : Int) (hp.at_.st.below hb) (hp.vals.below hb) hst.len hst.cnt hst.used
  have HG0 := fun w' (hb : Below w.heap.size w w') => checkGiven_any w' m.ab _ _ _ m.nb a.n a.nm (a.pl : Int) l0 (a.pl : Int) lb x.task x.name va vn vc (x.ins.code : Int) ka kn kc (x.ins.size : Int) (hp.at_.st.below hb) hp.ok.n hst.given
  have HT0 := fun w' (hb : Below w.heap.size w w') => tooGreat_any w' base x.vals l0 (a.pl : Int) lb (x.task : Int) x.name va vn vc (x.ins.code : Int) ka kn kc (x.ins.size : Int) (hp.vals.below hb) hst.len hst.cnt
  have HU1 := fun w' (hb : Below w.heap.size w w') => (HU0 w' hb).mono (R' := fun e w2 => e = .panicked (fltC 3 l0) ∧ Below w'.heap.size w' w2) (fun e w2 ⟨h1, h2⟩ => ⟨h1.trans (by rw [hcu]; rfl), h2⟩)
  obtain ⟨W, hW, hBW, hWz, hSS⟩ := st_box w l0 (a.pl : Int) lb (x.task : Int) x.name (.slice va vn vc) (x.ins.code : Int) (.slice ka kn kc) (x.ins.size : Int)
  have HSS : Hid (∀ w', Below W.heap.size W w' → SS w' w.heap.size l0 (a.pl : Int) lb (x.task : Int) x.name (.slice va vn vc) (x.ins.code : Int) (.slice ka kn kc) (x.ins.size : Int)) := fun w' hb => hSS.grown (hb.block _ hSS.lt) hb.size
  have HU := hideIt HU1
  have HB := hideIt hBW
  have HP := hideIt hp
  have t0 := hSS.c0
  have t1 := hSS.c1
  have t2 := hSS.c2
  have t3 := hSS.c3
  have t4 := hSS.c4
  have t5 := hSS.c5
  have t6 := hSS.c6
  have t7 := hSS.c7
  have t8 := hSS.c8
  clear HU0 HG0 HT0 hBW hSS hp hst HU1
  go_enter Tryz.func106, Tryz.ntmps106
  go_wp2_with (first | (go_at_call 168; refine (HU.out W HB.out).mono ?_; rintro e w1 ⟨rfl, hb1⟩))
  exact ⟨rfl, ChgM.below _ (HB.out.trans (hb1.mono HB.out.size)), rfl⟩
set_option maxRecDepth 100000 in
set_option maxHeartbeats 8000000 in
theorem settle_given (w : World) (m : AMem) (a : Asm) (base : Nat) (lb : ByteArray) (x : Stm) (va : Option Addr) (vn vc : Nat) (ka : Option Addr) (kn kc : Nat) (l0 : Int) (hp : SetPre w m a base lb x (.slice va vn vc)) (hcu : cuF a.nm lb x.task x.name x.vals = true) (k : Int) (hcg : cgF a.nm a.n (givenS lb x.task x.name) = some k) :
    Calls Tryz.prog 106 #[.pointer (some ⟨m.ab, 0, none⟩), .agg #[.int .i64 l0, .int .i64 (a.pl : Int), .string lb, .int .i64 (x.task : Int), .string x.name, .slice va vn vc, .int .u8 (x.ins.code : Int), .slice ka kn kc, .int .i64 (x.ins.size : Int)]] w (SetEnd w m l0 (settleF a lb x)) := by
  have e : settleF a lb x = .error k := by unfold settleF; rw [if_neg (by simp [hcu]), hcg]
  rw [e]
  clear e
  have hst := hp.stm
  have HU0 := fun w' (hb : Below w.heap.size w w') => checkUsed_any w' m.ab _ _ _ m.nb a.n a.nm (a.pl : Int) base x.vals l0 (a.pl : Int) lb x.task x.name va vn vc (x.ins.code : Int) ka kn kc (x.ins.size : Int) (hp.at_.st.below hb) (hp.vals.below hb) hst.len hst.cnt hst.used
  have HG0 := fun w' (hb : Below w.heap.size w w') => checkGiven_any w' m.ab _ _ _ m.nb a.n a.nm (a.pl : Int) l0 (a.pl : Int) lb x.task x.name va vn vc (x.ins.code : Int) ka kn kc (x.ins.size : Int) (hp.at_.st.below hb) hp.ok.n hst.given
  have HT0 := fun w' (hb : Below w.heap.size w w') => tooGreat_any w' base x.vals l0 (a.pl : Int) lb (x.task : Int) x.name va vn vc (x.ins.code : Int) ka kn kc (x.ins.size : Int) (hp.vals.below hb) hst.len hst.cnt
  have HU1 := fun w' (hb : Below w.heap.size w w') => (HU0 w' hb).mono (R' := fun e w2 => e = .returned (.tuple #[]) ∧ Below w'.heap.size w' w2) (fun e w2 ⟨h1, h2⟩ => ⟨h1.trans (by rw [hcu]; rfl), h2⟩)
  have HG1 := fun w' (hb : Below w.heap.size w w') => (HG0 w' hb).mono (R' := fun e w2 => e = .panicked (fltC k l0) ∧ Below w'.heap.size w' w2) (fun e w2 ⟨h1, h2⟩ => ⟨h1.trans (by rw [hcg]; rfl), h2⟩)
  obtain ⟨W, hW, hBW, hWz, hSS⟩ := st_box w l0 (a.pl : Int) lb (x.task : Int) x.name (.slice va vn vc) (x.ins.code : Int) (.slice ka kn kc) (x.ins.size : Int)
  have HSS : Hid (∀ w', Below W.heap.size W w' → SS w' w.heap.size l0 (a.pl : Int) lb (x.task : Int) x.name (.slice va vn vc) (x.ins.code : Int) (.slice ka kn kc) (x.ins.size : Int)) := fun w' hb => hSS.grown (hb.block _ hSS.lt) hb.size
  have HU := hideIt HU1
  have HG := hideIt HG1
  have HB := hideIt hBW
  have HP := hideIt hp
  have t0 := hSS.c0
  have t1 := hSS.c1
  have t2 := hSS.c2
  have t3 := hSS.c3
  have t4 := hSS.c4
  have t5 := hSS.c5
  have t6 := hSS.c6
  have t7 := hSS.c7
  have t8 := hSS.c8
  clear HU0 HG0 HT0 hBW hSS hp hst HU1 HG1
  go_enter Tryz.func106, Tryz.ntmps106
  go_wp2_with (first | (go_at_call 168; refine (HU.out W HB.out).mono ?_; rintro e w1 ⟨rfl, hb1⟩; have hB1 : Below W.heap.size W w1 := hb1; have p0 := (HSS.out _ hB1).c0; have p1 := (HSS.out _ hB1).c1; have p2 := (HSS.out _ hB1).c2; have p3 := (HSS.out _ hB1).c3; have p4 := (HSS.out _ hB1).c4; have p5 := (HSS.out _ hB1).c5; have p6 := (HSS.out _ hB1).c6; have p7 := (HSS.out _ hB1).c7; have p8 := (HSS.out _ hB1).c8; have HB1 := hideIt hB1; clear hb1 hB1) | (go_at_call 169; refine (HG.out w1 (HB.out.trans (HB1.out.mono HB.out.size))).mono ?_; rintro e w2 ⟨rfl, hb2⟩))
  have hb := HB.out.trans (HB1.out.mono HB.out.size)
  exact ⟨rfl, ChgM.below _ (hb.trans (hb2.mono hb.size)), rfl⟩
set_option maxRecDepth 100000 in
set_option maxHeartbeats 8000000 in
theorem settle_great (w : World) (m : AMem) (a : Asm) (base : Nat) (lb : ByteArray) (x : Stm) (va : Option Addr) (vn vc : Nat) (ka : Option Addr) (kn kc : Nat) (l0 : Int) (hp : SetPre w m a base lb x (.slice va vn vc)) (hcu : cuF a.nm lb x.task x.name x.vals = true) (hcg : cgF a.nm a.n (givenS lb x.task x.name) = none) (htoo : tooS x.vals = true) :
    Calls Tryz.prog 106 #[.pointer (some ⟨m.ab, 0, none⟩), .agg #[.int .i64 l0, .int .i64 (a.pl : Int), .string lb, .int .i64 (x.task : Int), .string x.name, .slice va vn vc, .int .u8 (x.ins.code : Int), .slice ka kn kc, .int .i64 (x.ins.size : Int)]] w (SetEnd w m l0 (settleF a lb x)) := by
  have e : settleF a lb x = .error 6 := by unfold settleF; rw [if_neg (by simp [hcu]), hcg]; simp only; rw [if_pos htoo]
  rw [e]
  clear e
  have hst := hp.stm
  have HU0 := fun w' (hb : Below w.heap.size w w') => checkUsed_any w' m.ab _ _ _ m.nb a.n a.nm (a.pl : Int) base x.vals l0 (a.pl : Int) lb x.task x.name va vn vc (x.ins.code : Int) ka kn kc (x.ins.size : Int) (hp.at_.st.below hb) (hp.vals.below hb) hst.len hst.cnt hst.used
  have HG0 := fun w' (hb : Below w.heap.size w w') => checkGiven_any w' m.ab _ _ _ m.nb a.n a.nm (a.pl : Int) l0 (a.pl : Int) lb x.task x.name va vn vc (x.ins.code : Int) ka kn kc (x.ins.size : Int) (hp.at_.st.below hb) hp.ok.n hst.given
  have HT0 := fun w' (hb : Below w.heap.size w w') => tooGreat_any w' base x.vals l0 (a.pl : Int) lb (x.task : Int) x.name va vn vc (x.ins.code : Int) ka kn kc (x.ins.size : Int) (hp.vals.below hb) hst.len hst.cnt
  have HU1 := fun w' (hb : Below w.heap.size w w') => (HU0 w' hb).mono (R' := fun e w2 => e = .returned (.tuple #[]) ∧ Below w'.heap.size w' w2) (fun e w2 ⟨h1, h2⟩ => ⟨h1.trans (by rw [hcu]; rfl), h2⟩)
  have HG1 := fun w' (hb : Below w.heap.size w w') => (HG0 w' hb).mono (R' := fun e w2 => e = .returned (.tuple #[]) ∧ Below w'.heap.size w' w2) (fun e w2 ⟨h1, h2⟩ => ⟨h1.trans (by rw [hcg]; rfl), h2⟩)
  have HT1 := fun w' (hb : Below w.heap.size w w') => (HT0 w' hb).mono (R' := fun e w2 => e = .returned (.bool true) ∧ Below w'.heap.size w' w2) (fun e w2 ⟨h1, h2⟩ => ⟨h1.trans (by rw [htoo]), h2⟩)
  obtain ⟨W, hW, hBW, hWz, hSS⟩ := st_box w l0 (a.pl : Int) lb (x.task : Int) x.name (.slice va vn vc) (x.ins.code : Int) (.slice ka kn kc) (x.ins.size : Int)
  have HSS : Hid (∀ w', Below W.heap.size W w' → SS w' w.heap.size l0 (a.pl : Int) lb (x.task : Int) x.name (.slice va vn vc) (x.ins.code : Int) (.slice ka kn kc) (x.ins.size : Int)) := fun w' hb => hSS.grown (hb.block _ hSS.lt) hb.size
  have HU := hideIt HU1
  have HG := hideIt HG1
  have HT := hideIt HT1
  have HB := hideIt hBW
  have HP := hideIt hp
  have t0 := hSS.c0
  have t1 := hSS.c1
  have t2 := hSS.c2
  have t3 := hSS.c3
  have t4 := hSS.c4
  have t5 := hSS.c5
  have t6 := hSS.c6
  have t7 := hSS.c7
  have t8 := hSS.c8
  clear HU0 HG0 HT0 hBW hSS hp hst HU1 HG1 HT1
  go_enter Tryz.func106, Tryz.ntmps106
  go_wp2_with (first | (go_at_call 168; refine (HU.out W HB.out).mono ?_; rintro e w1 ⟨rfl, hb1⟩; have hB1 : Below W.heap.size W w1 := hb1; have p0 := (HSS.out _ hB1).c0; have p1 := (HSS.out _ hB1).c1; have p2 := (HSS.out _ hB1).c2; have p3 := (HSS.out _ hB1).c3; have p4 := (HSS.out _ hB1).c4; have p5 := (HSS.out _ hB1).c5; have p6 := (HSS.out _ hB1).c6; have p7 := (HSS.out _ hB1).c7; have p8 := (HSS.out _ hB1).c8; have HB1 := hideIt hB1; clear hb1 hB1) | (go_at_call 169; refine (HG.out w1 (HB.out.trans (HB1.out.mono HB.out.size))).mono ?_; rintro e w2 ⟨rfl, hb2⟩; have hB2 : Below W.heap.size W w2 := HB1.out.trans (hb2.mono HB1.out.size); have q0 := (HSS.out _ hB2).c0; have q1 := (HSS.out _ hB2).c1; have q2 := (HSS.out _ hB2).c2; have q3 := (HSS.out _ hB2).c3; have q4 := (HSS.out _ hB2).c4; have q5 := (HSS.out _ hB2).c5; have q6 := (HSS.out _ hB2).c6; have q7 := (HSS.out _ hB2).c7; have q8 := (HSS.out _ hB2).c8; have HB2 := hideIt hB2; clear hb2 hB2) | (go_at_call 170; refine (HT.out w2 (HB.out.trans (HB2.out.mono HB.out.size))).mono ?_; rintro e w3 ⟨rfl, hb3⟩; have hB3 : Below W.heap.size W w3 := HB2.out.trans (hb3.mono HB2.out.size); have r0 := (HSS.out _ hB3).c0; have r1 := (HSS.out _ hB3).c1; have r2 := (HSS.out _ hB3).c2; have r3 := (HSS.out _ hB3).c3; have r4 := (HSS.out _ hB3).c4; have r5 := (HSS.out _ hB3).c5; have r6 := (HSS.out _ hB3).c6; have r7 := (HSS.out _ hB3).c7; have r8 := (HSS.out _ hB3).c8; have HB3 := hideIt hB3; clear hb3 hB3))
  exact ⟨rfl, ChgM.below _ (HB.out.trans (HB3.out.mono HB.out.size)), rfl⟩
end Go.Proofs.YthokdbcpkmcieaaGreatDoor
