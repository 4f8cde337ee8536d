/- The law's host: every act; the law begins. -/
import Derived.Test.YthokdbcpkmcieaaGreatLHoB
import Derived.Test.YthokdbcpkmcieaaGreatLHoC
import Derived.Test.YthokdbcpkmcieaaGreatLHoD
import Derived.Test.YthokdbcpkmcieaaGreatLHoJ
namespace Go.Proofs.YthokdbcpkmcieaaGreat
open Go Go.RowKit
section
variable {w wr : World} {wb gb gcap : Nat} {o : Nat → Bo} {col : Nat → Nat} {bv : Nat → Value} {hs : List HR} {hv i0 i1 i2 : Value} {im : Img} {u : Nat}
theorem lhost_any (K B H A C : Int) (S : ByteArray) (i bi : Nat) (hi : i < hs.length) (hbi : bi < 2) (h : HW w wr wb gb gcap o col bv hs hv i0 i1 i2 im nbR u) (hu : u ≤ 3000000000000) (hS : S.size ≤ 2000000) (hA1 : -9223372036854775808 ≤ A) (hA2 : A ≤ 9223372036854775807) (hK1 : 9 ≤ K) (hK2 : K ≤ 17) :
    Calls Tryz.prog 15 #[.pointer (some ⟨wb, 0, none⟩), .int .i64 (bi : Int), .int .i64 (i : Int), .agg #[.int .i64 K, .int .i64 B, .int .i64 H, .int .i64 A, .int .i64 C, .string S]] wr (HEnd w wb gb gcap o hs.length i0 i1 i2 im (u + S.size + 2412000)) := by
  have hc : K = 9 ∨ K = 10 ∨ K = 11 ∨ K = 12 ∨ K = 13 ∨ K = 14 ∨ K = 15 ∨ K = 16 ∨ K = 17 := by omega
  rcases hc with rfl | rfl | rfl | rfl | rfl | rfl | rfl | rfl | rfl
  · exact lhost_say B H A C S i bi hi hbi h
  · exact lhost_come B H A C S i bi hi hbi h hu hA1 hA2
  · exact lhost_back B H A C S i bi hi hbi h hu hA1 hA2
  · by_cases hodd : Int.tmod A 2 = 0
    · exact lhost_loseY B H A C S i bi hi hbi h hodd
    · exact lhost_loseX B H A C S i bi hi hbi h hodd
  · by_cases hodd : Int.tmod A 2 = 0
    · exact lhost_spoilY B H A C S i bi hi hbi h hodd hA1 hA2
    · exact lhost_spoilX B H A C S i bi hi hbi h hodd hA1 hA2
  · exact lhost_tick B H A C S i bi hi hbi h
  · exact lhost_state B H A C S i bi hi hbi h
  · exact lhost_told B H A C S i bi hi hbi h hu hS
  · exact lhost_talk B H A C S i bi hi hbi h hu hA1 hA2
/-- The same, in a world that has drawn. -/
theorem host_all (h : HW w wr wb gb gcap o col bv hs hv i0 i1 i2 im nbR u) (K B H A C : Int) (S : ByteArray) (hu : u ≤ 3000000000000) (hS : S.size ≤ 2000000) (hA1 : -9223372036854775808 ≤ A) (hA2 : A ≤ 9223372036854775807) (hK1 : 9 ≤ K) (hK2 : K ≤ 17) (bi k : Nat) (W' : World) (hbi : bi < 2) (hk : k < hs.length) (a1 : W'.heap = wr.heap) (a2 : W'.os = wr.os) (a3 : W'.tape = wr.tape) (a4 : W'.output = wr.output) :
    Calls Tryz.prog 15 #[.pointer (some ⟨wb, 0, none⟩), .int .i64 (bi : Int), .int .i64 (k : Int), .agg #[.int .i64 K, .int .i64 B, .int .i64 H, .int .i64 A, .int .i64 C, .string S]] W' (HEnd w wb gb gcap o hs.length i0 i1 i2 im (u + S.size + 2412000)) :=
  lhost_any K B H A C S k bi hk hbi (h.grow ⟨a2, a3, a4, by rw [a1]; exact Nat.le_refl _, fun k _ => by rw [a1]⟩) hu hS hA1 hA2 hK1 hK2
theorem begins_any (s : Int) (h : HW w wr wb gb gcap o col bv hs hv i0 i1 i2 im nbR u) (hf : ImgFew im) : Calls Tryz.prog 10 #[.pointer (some ⟨wb, 0, none⟩), .int .i64 s] wr (BEnd w wb gb gcap o i0 i1 i2 im u) := by
  by_cases hw : wholeI im = true
  · exact begins_good s h hf hw
  · exact begins_bad s h hf (by simpa using hw)
end
end Go.Proofs.YthokdbcpkmcieaaGreat
