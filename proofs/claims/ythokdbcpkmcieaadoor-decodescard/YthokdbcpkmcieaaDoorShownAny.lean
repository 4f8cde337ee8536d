/- The reference's shown at every kind of operand. -/
import Derived.Test.YthokdbcpkmcieaaDoorESize
namespace Go.Proofs.YthokdbcpkmcieaaDoor
open Go Go.RowKit
/-- A byte of a string, as a number. -/
def bAt (b : ByteArray) (i : Nat) : Int := ((b.data.getD i 0).toNat : Int)
theorem bAt_eq (b : ByteArray) (i : Nat) (h : i < b.size) : ((b[i]).toNat : Int) = bAt b i := by
  unfold bAt
  have h' : i < b.data.size := h
  rw [Array.getD_eq_getD_getElem?, Array.getElem?_eq_getElem h']
  rfl
theorem bAt_bd (b : ByteArray) (i : Nat) : 0 ≤ bAt b i ∧ bAt b i ≤ 255 := by
  unfold bAt
  have := (b.data.getD i 0).toNat_lt
  omega
/-- Four and two hexadecimal digits. -/
def h4 (x : Int) : List UInt8 := [hd (x / 4096), hd (x / 256), hd (x / 16), hd x]
def h2 (x : Int) : List UInt8 := [hd (x / 16), hd x]
def relN (behind x : Int) : Int := (behind + (if (127 : Int) < x then x - (256 : Int) else x) + (65536 : Int)) % (65536 : Int)
def pagN (behind code x : Int) : Int := behind / (2048 : Int) * (2048 : Int) + code / (32 : Int) * (256 : Int) + x
/-- How the document's answer shows an operand. -/
def shownS (k : Nat) (b : ByteArray) (number code behind : Int) : ByteArray :=
  if k ≤ 6 then opText k
  else if k = 7 then ⟨([64, 82, hd number] : List UInt8).toArray⟩
  else if k = 8 then ⟨([82, hd number] : List UInt8).toArray⟩
  else if k = 9 then ⟨([35, 48, 120] ++ h2 (bAt b 0)).toArray⟩
  else if k = 10 then ⟨([35, 48, 120] ++ h4 ((256 : Int) * bAt b 0 + bAt b 1)).toArray⟩
  else if k ≤ 12 then ⟨([48, 120] ++ h2 (bAt b 0)).toArray⟩
  else if k = 13 then ⟨([47, 48, 120] ++ h2 (bAt b 0)).toArray⟩
  else if k = 14 then ⟨([48, 120] ++ h4 ((256 : Int) * bAt b 0 + bAt b 1)).toArray⟩
  else if k = 15 then ⟨([48, 120] ++ h4 (relN behind (bAt b 0))).toArray⟩
  else ⟨([48, 120] ++ h4 (pagN behind code (bAt b 0))).toArray⟩
theorem shownS_size (k : Nat) (h : k < 17) (b : ByteArray) (number code behind : Int) : (shownS k b number code behind).size ≤ 100 := by
  match k, h with
  | 0, _ => exact (by decide : (1 : Nat) ≤ 100)
  | 1, _ => exact (by decide : (2 : Nat) ≤ 100)
  | 2, _ => exact (by decide : (1 : Nat) ≤ 100)
  | 3, _ => exact (by decide : (4 : Nat) ≤ 100)
  | 4, _ => exact (by decide : (7 : Nat) ≤ 100)
  | 5, _ => exact (by decide : (5 : Nat) ≤ 100)
  | 6, _ => exact (by decide : (5 : Nat) ≤ 100)
  | 7, _ => exact (by decide : (3 : Nat) ≤ 100)
  | 8, _ => exact (by decide : (2 : Nat) ≤ 100)
  | 9, _ => exact (by decide : (5 : Nat) ≤ 100)
  | 10, _ => exact (by decide : (7 : Nat) ≤ 100)
  | 11, _ => exact (by decide : (4 : Nat) ≤ 100)
  | 12, _ => exact (by decide : (4 : Nat) ≤ 100)
  | 13, _ => exact (by decide : (5 : Nat) ≤ 100)
  | 14, _ => exact (by decide : (6 : Nat) ≤ 100)
  | 15, _ => exact (by decide : (6 : Nat) ≤ 100)
  | 16, _ => exact (by decide : (6 : Nat) ≤ 100)
  | n + 17, h => exact absurd h (by omega)
theorem same_below {P : Program} {f : FuncId} {args : Array Value} {w : World} {v : Value} (h : Calls P f args w fun e w' => e = .returned v ∧ w' = w) : Calls P f args w fun e w' => e = .returned v ∧ Below w.heap.size w w' :=
  h.mono fun _ _ ⟨he, hw⟩ => ⟨he, by rw [hw]; exact Below.refl _ _⟩
theorem shown_any (k : Nat) (h : k < 17) (b : ByteArray) (number code behind : Int) (w : World) (hb : b.size = opSize k) (n0 : 0 ≤ number) (n1 : number ≤ 65535) (k0 : 0 ≤ code) (k1 : code ≤ 255) (b0 : 0 ≤ behind) (b1 : behind ≤ 65535) (hpg : k = 16 → pagN behind code (bAt b 0) ≤ 65535) :
    Calls Tryd.prog 10 #[.string (opText k), .string b, .int .i64 number, .int .i64 code, .int .i64 behind] w fun e w' => e = .returned (.string (shownS k b number code behind)) ∧ Below w.heap.size w w' := by
  match k, h, hb with
  | 0, _, _ => exact same_below (shown_0 b number code behind w)
  | 1, _, _ => exact same_below (shown_1 b number code behind w)
  | 2, _, _ => exact same_below (shown_2 b number code behind w)
  | 3, _, _ => exact same_below (shown_3 b number code behind w)
  | 4, _, _ => exact same_below (shown_4 b number code behind w)
  | 5, _, _ => exact same_below (shown_5 b number code behind w)
  | 6, _, _ => exact same_below (shown_6 b number code behind w)
  | 7, _, _ => exact same_below (shown_7 b number code behind w n0 n1)
  | 8, _, _ => exact same_below (shown_8 b number code behind w n0 n1)
  | 9, _, hb => have h := shown_9 b number code behind w hb; rw [bAt_eq b 0 (by rw [hb]; decide)] at h; exact same_below h
  | 10, _, hb => exact shown_10 b number code behind w hb _ (by rw [bAt_eq b 0 (by rw [hb]; decide), bAt_eq b 1 (by rw [hb]; decide)])
  | 11, _, hb => have h := shown_11 b number code behind w hb; rw [bAt_eq b 0 (by rw [hb]; decide)] at h; exact same_below h
  | 12, _, hb => have h := shown_12 b number code behind w hb; rw [bAt_eq b 0 (by rw [hb]; decide)] at h; exact same_below h
  | 13, _, hb => have h := shown_13 b number code behind w hb; rw [bAt_eq b 0 (by rw [hb]; decide)] at h; exact same_below h
  | 14, _, hb => exact shown_14 b number code behind w hb _ (by rw [bAt_eq b 0 (by rw [hb]; decide), bAt_eq b 1 (by rw [hb]; decide)])
  | 15, _, hb => exact shown_15 b number code behind w hb b0 b1 _ (by rw [bAt_eq b 0 (by rw [hb]; decide)]; rfl)
  | 16, _, hb => exact shown_16 b number code behind w hb b0 b1 k0 k1 _ (by rw [bAt_eq b 0 (by rw [hb]; decide)]; rfl) (hpg rfl)
  | n + 17, h, _ => exact absurd h (by omega)
end Go.Proofs.YthokdbcpkmcieaaDoor
