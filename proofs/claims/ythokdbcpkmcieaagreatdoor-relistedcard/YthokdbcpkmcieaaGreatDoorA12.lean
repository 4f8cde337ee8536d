/- The walk of readInstruction. -/
import Derived.Test.YthokdbcpkmcieaaGreatDoorA11
namespace Go.Proofs.YthokdbcpkmcieaaGreatDoor
open Go Go.RowKit Go.Maps Go.WideMaps
def pOps : Nat → List Nat → List (List Trm) → List Tok → Option ((List Nat × List (List Trm)) × List Tok)
  | 0, _, _, _ => none
  | f + 1, ks, vs, ts => match pOp ts with
    | none => none
    | some (_, []) => none
    | some (x, t :: l) => if t.text = ⟨#[44]⟩ then pOps f (ks ++ [x.1]) (vs ++ [x.2]) l else some ((ks ++ [x.1], vs ++ [x.2]), t :: l)
def pInsOps : List Tok → Option ((List Nat × List (List Trm)) × List Tok)
  | [] => none
  | t :: l => if t.kind = 0 then some (([], []), t :: l) else pOps (l.length + 1) [] [] (t :: l)
def pIns (s : List UInt8) (ts : List Tok) : Option ((InsD × List (List Trm)) × List Tok) := (pInsOps ts).bind fun x => (findO s x.1.1).map fun d => ((d, x.1.2), x.2)
theorem InsAt.kept {w w' : World} {b : Bk} {B pb sb : Nat} (h : InsAt w b pb) (hg : Grow2 w w' pb sb) (hi : b.ib < pb) (hB : B ≤ sb) (hp : pb < B) : InsAt w' b pb := by
  obtain ⟨f, n, hf, hall⟩ := h
  refine ⟨f, n, hf.at1 (hg.block b.ib hf.lt (by omega) (by omega)), fun s ks h1 h2 h3 => ?_⟩
  have := hall s ks h1 h2 h3
  split at this
  · exact this
  · rename_i d e
    obtain ⟨v, a1, a2, a3⟩ := this
    exact ⟨v, a1, own_at a2 (fun j hj => hg.block j (a2.lt j hj).2 (by have := a3 j hj; omega) (by have := a3 j hj; omega)), a3⟩
theorem Tryz.infoKind : (Tryz.prog.info? 111).map (fun i => (i.zero, i.size, i.bytes)) = some (some (.int .i64 0), 1, 8) := by kernel_rfl
/-- What readInstruction comes to. -/
def IEnd (w : World) (B pb sb : Nat) (b : Bk) (line l0 p0 : Int) (lb : ByteArray) (nm : ByteArray) (o : Option ((InsD × List (List Trm)) × List Tok)) (e : Ending) (w' : World) : Prop :=
  match o with
  | none => e = synE line ∧ Grow2 w w' pb sb
  | some (x, l) => ∃ v kv, e = .returned (.tuple #[]) ∧ VAt w' w.heap.size v x.2 ∧ SS w' sb l0 p0 lb 6 nm v x.1.code kv x.1.size ∧ w'.ownsRow 0 111 1 kv x.1.kinds.length (kindCells x.1.kinds) ∧ (∀ j, kv.ownBlock = some j → j < pb) ∧ PS w' B pb b line l ∧ Grow2 w w' pb sb
theorem pAt_len {ts : List Tok} {x : Nat × List Trm} {l : List Tok} (h : pAt ts = some (x, l)) : l.length + 1 ≤ ts.length := by
  match ts with
  | [] => simp [pAt] at h
  | [_] => simp [pAt] at h
  | t :: u :: ts =>
    simp only [pAt] at h
    split at h
    · split at h
      · cases ts with
        | nil => simp at h
        | cons v l3 =>
          simp only at h
          split at h
          · unfold pAtFin at h
            obtain ⟨y, _, hy⟩ := Option.map_eq_some_iff.1 h
            cases hy
            simp
          · cases h
      · unfold pAtFin at h
        obtain ⟨y, _, hy⟩ := Option.map_eq_some_iff.1 h
        cases hy
        simp
    · cases h
theorem pOp_len {ts : List Tok} {x : Nat × List Trm} {l : List Tok} (h : pOp ts = some (x, l)) : l.length + 1 ≤ ts.length := by
  cases ts with
  | nil => simp [pOp] at h
  | cons t ts =>
    simp only [pOp] at h
    split at h
    · obtain ⟨y, hy, e⟩ := Option.map_eq_some_iff.1 h
      cases e
      have := pExpr_len (x := y.1) (l := y.2) hy
      simp
      omega
    · split at h
      · obtain ⟨y, hy, e⟩ := Option.map_eq_some_iff.1 h
        cases e
        have := pExpr_len (x := y.1) (l := y.2) hy
        simp
        omega
      · split at h
        · have := pAt_len h
          simp
          omega
        · split at h
          · cases h; simp
          · obtain ⟨y, hy, e⟩ := Option.map_eq_some_iff.1 h
            cases e
            exact pExpr_len (x := y.1) (l := y.2) hy
theorem fixO_le {l : List UInt8} {y : Nat × Nat} (h : fixO l = some y) : y.1 ≤ 100 := by
  unfold fixO at h
  obtain ⟨z, hz, rfl⟩ := Option.map_eq_some_iff.1 h
  have hm := List.mem_of_find?_eq_some hz
  have key : ∀ z ∈ fixL, z.2.1 ≤ 100 := by decide
  exact key z hm
theorem pOp_kind {ts : List Tok} {x : Nat × List Trm} {l : List Tok} (h : pOp ts = some (x, l)) : x.1 ≤ 100 := by
  cases ts with
  | nil => simp [pOp] at h
  | cons t ts =>
    simp only [pOp] at h
    split at h
    · obtain ⟨y, hy, e⟩ := Option.map_eq_some_iff.1 h
      cases e; show 9 ≤ 100; omega
    · split at h
      · obtain ⟨y, hy, e⟩ := Option.map_eq_some_iff.1 h
        cases e; show 13 ≤ 100; omega
      · split at h
        · match ts with
          | [] => simp [pAt] at h
          | [_] => simp [pAt] at h
          | t :: u :: ts =>
            simp only [pAt] at h
            split at h
            · split at h
              · cases ts with
                | nil => simp at h
                | cons v l3 =>
                  simp only at h
                  split at h
                  · unfold pAtFin at h
                    obtain ⟨y, hf, hy⟩ := Option.map_eq_some_iff.1 h
                    cases hy
                    exact fixO_le hf
                  · cases h
              · unfold pAtFin at h
                obtain ⟨y, hf, hy⟩ := Option.map_eq_some_iff.1 h
                cases hy
                exact fixO_le hf
            · cases h
        · split at h
          · rename_i y hf
            cases h
            exact fixO_le hf
          · obtain ⟨y, hy, e⟩ := Option.map_eq_some_iff.1 h
            cases e; show 11 ≤ 100; omega
end Go.Proofs.YthokdbcpkmcieaaGreatDoor
