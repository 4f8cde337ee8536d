/- Scan1 Scan2 Shelf2 Scan3 Ways Adds Opn Scan4 -/
import Derived.Test.YthokdbcpkmcieabGreatDoorE01
import Derived.Test.YthokdbcpkmcieabGreatDoorRows
import Derived.WalkKit
import Derived.WalkSpells
import Derived.WalkLawsBesides
import Derived.Laws.BytesArg
import Derived.OwnWalk
import Derived.Laws.IdiomStrings
import Derived.Shelf.Strings.Prefix
import Derived.Shelf.Strings.AsciiSet
import Derived.Shelf.Slices.Turned
import Derived.Shelf.Strconv.ParseIntPublic10
import Derived.Shelf.Strconv.Lower
import Derived.Test.YthokdbcpkmcieabGreatDoorProg
import Derived.Deep.WholeRow
import Derived.Shelf.Abstract
import Derived.BigRegion
set_option maxRecDepth 200000
set_option maxHeartbeats 8000000
namespace Go.Proofs.YthokdbcpkmcieabGreatDoor
open Go Go.RowKit
def isD (c:UInt8):Bool:=decide (48≤c.toNat) && decide (c.toNat≤57)
def isW (c:UInt8):Bool:=isD c || (decide (65≤c.toNat) && decide (c.toNat≤90)) || decide (c.toNat=95)
def capB (c:UInt8):UInt8:=if 97≤c.toNat∧c.toNat≤122 then c-32 else c
def capS (s:ByteArray):ByteArray:=⟨s.data.map capB⟩
def runN (l:List UInt8):Nat:=(l.takeWhile isW).length
theorem Z6B (c:UInt8)(w:World) :
  Calls Tryz.prog 273 #[.int .u8 (c.toNat:Int)] w fun e w'=>e=.returned (.bool (isD c))∧w'=w:=by
 by_cases h1:(48:Int)≤(c.toNat:Int)
 ·by_cases h2:(c.toNat:Int)≤(57:Int)
  ·have e:isD c=true:=by simp [isD];omega
   rw [e]
   go_enter Tryz.func273,Tryz.ntmps273
   go_wp2
   go_ret
   simp
  ·have e:isD c=false:=by simp [isD];omega
   rw [e]
   go_enter Tryz.func273,Tryz.ntmps273
   go_wp2
   go_ret
   simp
 ·have e:isD c=false:=by simp [isD];omega
  rw [e]
  go_enter Tryz.func273,Tryz.ntmps273
  go_wp2
  go_ret
  simp
theorem beq_dec (a b:Int):(a == b)=decide (a=b):=by by_cases h:a=b <;> simp [h]
theorem Z5t (c:UInt8)(h:isD c=true):isW c=true:=by simp [isW,h]
theorem Z5w (c:UInt8)(w:World) :
  Calls Tryz.prog 275 #[.int .u8 (c.toNat:Int)] w fun e w'=>e=.returned (.bool (isW c))∧w'=w:=by
 have HD:=Z0a (Z6B c)
 cases hd:isD c with
 | true =>
  have e:isW c=true:=by simp [isW,hd]
  rw [e]
  rw [hd] at HD
  go_enter Tryz.func275,Tryz.ntmps275
  go_wp2_with (refine (HD.out _).mono ?_;rintro e w1 ⟨rfl,rfl⟩)
  go_ret
  simp
 | false =>
  rw [hd] at HD
  have hde:isW c=((decide ((65:Int)≤(c.toNat:Int)) && decide ((c.toNat:Int)≤90)) || decide ((c.toNat:Int)=95)):=by
   simp only [isW,hd,Bool.false_or]
   congr 1
   ·congr 1 <;> (simp only [decide_eq_decide];omega)
   ·simp only [decide_eq_decide];omega
  rw [hde]
  by_cases h1:(65:Int)≤(c.toNat:Int)
  ·by_cases h2:(c.toNat:Int)≤(90:Int)
   ·go_enter Tryz.func275,Tryz.ntmps275
    go_wp2_with (refine (HD.out _).mono ?_;rintro e w1 ⟨rfl,rfl⟩)
    go_ret
    refine ⟨?_,by simp⟩
    simp [h1,h2]
   ·go_enter Tryz.func275,Tryz.ntmps275
    go_wp2_with (refine (HD.out _).mono ?_;rintro e w1 ⟨rfl,rfl⟩)
    go_ret
    refine ⟨?_,by simp⟩
    simp [h1,beq_dec]
  ·go_enter Tryz.func275,Tryz.ntmps275
   go_wp2_with (refine (HD.out _).mono ?_;rintro e w1 ⟨rfl,rfl⟩)
   go_ret
   refine ⟨?_,by simp⟩
   have h3:¬ (65:Int)≤(c.toNat:Int):=by omega
   simp [h3,beq_dec]
theorem runN_take (l:List UInt8):∀ (k:Nat),(∀ j,j<k→∃ c,l[j]?=some c∧isW c=true)→k≤runN l:=by
 induction l with
 | nil =>
  intro k h
  cases k with
  | zero=>simp
  | succ k=>obtain ⟨c,hc,_⟩:=h 0 (by omega);simp at hc
 | cons x l ih =>
  intro k h
  cases k with
  | zero=>simp
  | succ k =>
   obtain ⟨c,hc,hw⟩:=h 0 (by omega)
   simp at hc
   subst hc
   have:=ih k (fun j hj=>by
    obtain ⟨c,hc,hw⟩:=h (j+1) (by omega)
    exact ⟨c,by simpa using hc,hw⟩)
   simp only [runN,List.takeWhile_cons,hw,if_true,List.length_cons] at this ⊢
   omega
theorem runN_stop (l:List UInt8):∀ (k:Nat),(∀ j,j<k→∃ c,l[j]?=some c∧isW c=true)→(∀ c,l[k]?=some c→isW c=false)→runN l=k:=by
 induction l with
 | nil =>
  intro k h _
  cases k with
  | zero=>rfl
  | succ k=>obtain ⟨c,hc,_⟩:=h 0 (by omega);simp at hc
 | cons x l ih =>
  intro k h hn
  cases k with
  | zero =>
   have:=hn x (by simp)
   simp [runN,this]
  | succ k =>
   obtain ⟨c,hc,hw⟩:=h 0 (by omega)
   simp at hc
   subst hc
   have:=ih k (fun j hj=>by
    obtain ⟨c,hc,hw⟩:=h (j+1) (by omega)
    exact ⟨c,by simpa using hc,hw⟩) (fun c hc=>hn c (by simpa using hc))
   simp only [runN,List.takeWhile_cons,hw,if_true,List.length_cons] at this ⊢
   omega
theorem Z3z (s:ByteArray)(k:Nat)(h:k<s.size):s.data.toList[k]?=some s[k]:=by
 have h':k<s.data.size:=h
 rw [Array.getElem?_toList,Array.getElem?_eq_getElem h']
 rfl
theorem Z8m (s:ByteArray)(w:World)(hs:s.size≤1000000) :
  Calls Tryz.prog 272 #[.string s] w fun e w'=>e=.returned (.int .i64 (runN s.data.toList:Nat))∧w'=w:=by
 go_enter Tryz.func272,Tryz.ntmps272
 go_wp2_with fail
 go_loopw [6] (fun i wr=>∃ k:Nat,k≤s.size∧i=.int .i64 k∧wr=w∧∀ j,j<k→∃ c,s.data.toList[j]?=some c∧isW c=true) (fun i _=>s.size-(intOf i).toNat)
 case atStart=>exact ⟨0,Nat.zero_le _,by simp,by simp,fun j h=>by omega⟩
 case round =>
  obtain ⟨k,hk,rfl,rfl,hall⟩:=hrel
  have HA:=Z0a hall
  clear hall
  by_cases hlt:k<s.size
  ·have HC:=Z0a (Z5w s[k])
   have HG:=Z0a (Z3z s k hlt)
   cases hw:isW s[k] with
   | true =>
    rw [hw] at HC
    have HW:=Z0a hw
    clear hw
    go_wp2_with (refine (HC.out _).mono ?_;rintro e w1 ⟨rfl,rfl⟩)
    go_roundw
    case rel =>
     refine ⟨k+1,by omega,by go_num,by simp,fun j hj=>?_⟩
     rcases Nat.lt_or_ge j k with h | h
     ·exact HA.out j h
     ·have:j=k:=by omega
      subst this
      exact ⟨_,HG.out,HW.out⟩
    case measure=>simp [intOf];omega
   | false =>
    rw [hw] at HC
    have HR:=Z0a (runN_stop s.data.toList k HA.out (fun c hc=>by rw [HG.out] at hc;cases hc;exact hw))
    clear hw
    go_wp2_with (refine (HC.out _).mono ?_;rintro e w1 ⟨rfl,rfl⟩)
    go_ret
    rw [HR.out]
    simp
  ·have hkn:k=s.size:=by omega
   have HR:=Z0a (runN_stop s.data.toList k HA.out (fun c hc=>by
    have:k<s.data.toList.length:=(List.getElem?_eq_some_iff.1 hc).1
    rw [Array.length_toList] at this
    exact absurd this (by show ¬ k<s.size;omega)))
   go_wp2
   go_ret
   rw [HR.out,hkn]
   simp
theorem Z8B (s:ByteArray)(w:World):∃ w1 cap,(convert 9 32 (.string s)).run Tryz.prog w=.ok (.slice (some ⟨w.heap.size,0,none⟩) s.size cap) w1∧(∀ j (h:j<s.size),w1.cell? ⟨w.heap.size,j,none⟩=some (.int .u8 (s[j].toNat:Int))) ∧
  (∀ j,j<s.size→w1.frozen? ⟨w.heap.size,j,none⟩=false)∧Below w.heap.size w w1∧w1.heap.size=w.heap.size+1:=by
 refine ⟨_,_,run_bytes_of_string w 9 32 5 s Tryz.underlying9 Tryz.underlying32 Tryz.underlying5,?_,?_,?_,?_⟩
 ·intro j h
  have h':j<s.data.size:=h
  have e:(w.drew.alloc (.cells (bytesRow s (grownCap w s.size 0 5)) 5 ((bytesRow s (grownCap w s.size 0 5)).size,(bytesRow s (grownCap w s.size 0 5)).size+1))).heap[w.heap.size]?=some (.cells (bytesRow s (grownCap w s.size 0 5)) 5 ((bytesRow s (grownCap w s.size 0 5)).size,(bytesRow s (grownCap w s.size 0 5)).size+1)):=by
   show (w.heap.push _)[w.heap.size]?=_
   simp
  unfold World.cell?
  rw [e]
  simp only [Option.isSome_none,Bool.false_eq_true,if_false]
  unfold bytesRow
  rw [Array.getElem?_append_left (by simpa using h'),Array.getElem?_map,Array.getElem?_eq_getElem h']
  rfl
 ·intro j h
  unfold World.frozen?
  have e:(w.drew.alloc (.cells (bytesRow s (grownCap w s.size 0 5)) 5 ((bytesRow s (grownCap w s.size 0 5)).size,(bytesRow s (grownCap w s.size 0 5)).size+1))).heap[w.heap.size]?=some (.cells (bytesRow s (grownCap w s.size 0 5)) 5 ((bytesRow s (grownCap w s.size 0 5)).size,(bytesRow s (grownCap w s.size 0 5)).size+1)):=by
   show (w.heap.push _)[w.heap.size]?=_
   simp
  rw [e]
  have:s.size≤(bytesRow s (grownCap w s.size 0 5)).size:=by
   unfold bytesRow
   rw [Array.size_append,Array.size_map]
   show s.size≤s.size+_
   omega
  simp
  omega
 ·exact (Below.refl _ _).drew.alloc (Nat.le_refl _) _
 ·show (w.heap.push _).size=_
  simp
theorem ba_getD (s:ByteArray)(j:Nat)(h:j<s.size):s.data.getD j 0=s[j]:=by
 have h':j<s.data.size:=h
 rw [Array.getD_eq_getD_getElem?,Array.getElem?_eq_getElem h']
 rfl
theorem addr_add (b j:Nat):Addr.add ⟨b,0,none⟩ j=⟨b,j,none⟩:=by
 unfold Addr.add
 split <;> simp_all
theorem capS_list (s:ByteArray):(⟨(s.data.toList.map capB).toArray⟩:ByteArray)=capS s:=by
 unfold capS
 rw [←Array.toList_map]
def Z7k (s:ByteArray) (k j:Nat):UInt8:=if j<k then capB (s.data.getD j 0) else s.data.getD j 0
theorem cap_num (c:UInt8)(h:97≤c.toNat)(h2:c.toNat≤122):(c.toNat:Int)-97+65=((capB c).toNat:Int):=by
 have e:capB c=c-32:=by unfold capB;rw [if_pos ⟨h,h2⟩]
 rw [e]
 have e2:(c-32).toNat=c.toNat-32:=by
  rw [UInt8.toNat_sub_of_le _ _ (by rw [UInt8.le_iff_toNat_le];show 32≤c.toNat;omega)]
  rfl
 rw [e2]
 omega
theorem capitals_any (s:ByteArray)(w:World)(hs:s.size≤1000000) :
  Calls Tryz.prog 271 #[.string s] w fun e w'=>e=.returned (.string (capS s))∧Below w.heap.size w w':=by
 obtain ⟨w1,cap,hrun,hcells,hfro,hb1,hsz⟩:=Z8B s w
 have HC:=Z0a hcells
 have HF:=Z0a hfro
 clear hcells hfro
 go_enter Tryz.func271,Tryz.ntmps271
 go_wp2_with fail
 go_loopw [10] (fun i wr=>∃ k:Nat,k≤s.size∧i=.int .i64 k∧(∀ j,j<s.size→wr.cell? ⟨w.heap.size,j,none⟩=some (.int .u8 ((Z7k s k j).toNat:Int)))∧(∀ j,j<s.size→wr.frozen? ⟨w.heap.size,j,none⟩=false)∧Below w.heap.size w wr∧w.heap.size<wr.heap.size) (fun i _=>s.size-(intOf i).toNat)
 case atStart =>
  refine ⟨0,Nat.zero_le _,by simp,fun j h=>?_,HF.out,hb1,by omega⟩
  rw [HC.out j h]
  simp only [Z7k,Nat.not_lt_zero,if_false]
  rw [ba_getD s j h]
 case round =>
  obtain ⟨k,hk,rfl,hc,hf,hb,hlt0⟩:=hrel
  by_cases hlt:k<s.size
  ·have ck:=hc k hlt
   have fk:=hf k hlt
   have e0:Z7k s k k=s.data.getD k 0:=by simp [Z7k]
   rw [e0] at ck
   obtain ⟨x,hx⟩:∃ x,s.data.getD k 0=x:=⟨_,rfl⟩
   rw [hx] at ck
   have HX:=Z0a hx
   have H1:=Z0a hc
   have H2:=Z0a hf
   have hstep:∀ j,j≠k→Z7k s (k+1) j=Z7k s k j:=by
    intro j hj
    unfold Z7k
    by_cases h:j<k
    ·rw [if_pos h,if_pos (by omega)]
    ·rw [if_neg h,if_neg (by omega)]
   have HS:=Z0a hstep
   have hsame:Z7k s (k+1) k=capB x:=by unfold Z7k;rw [if_pos (by omega),hx]
   have HK:=Z0a hsame
   clear hx hc hf e0 hstep hsame
   by_cases h1:(97:Int)≤(x.toNat:Int)
   ·by_cases h2:(x.toNat:Int)≤(122:Int)
    ·have HN:=Z0a (cap_num x (by omega) (by omega))
     go_wp2
     go_roundw
     case rel =>
      refine ⟨k+1,by omega,by go_num,fun j hj=>?_,fun j hj=>?_,hb.setCell (by simp) _,by simp [World.setCell,hlt0]⟩
      ·by_cases e:j=k
       ·subst e
        rw [World.cell?_setCell_same _ _ _ ck,HK.out,← HN.out]
       ·rw [World.cell?_setCell_other _ _ _ _ (by intro h;cases h;exact e rfl),HS.out j e]
        exact H1.out j hj
      ·rw [World.frozen?_setCell];exact H2.out j hj
     case measure=>simp [intOf];omega
    ·have hn:capB x=x:=by unfold capB;rw [if_neg];omega
     have HN:=Z0a hn
     clear hn
     go_wp2
     go_roundw
     case rel =>
      refine ⟨k+1,by omega,by go_num,fun j hj=>?_,H2.out,hb,hlt0⟩
      by_cases e:j=k
      ·subst e;rw [HK.out,HN.out];exact ck
      ·rw [HS.out j e];exact H1.out j hj
     case measure=>simp [intOf];omega
   ·have hn:capB x=x:=by unfold capB;rw [if_neg];omega
    have HN:=Z0a hn
    clear hn
    go_wp2
    go_roundw
    case rel =>
     refine ⟨k+1,by omega,by go_num,fun j hj=>?_,H2.out,hb,hlt0⟩
     by_cases e:j=k
     ·subst e;rw [HK.out,HN.out];exact ck
     ·rw [HS.out j e];exact H1.out j hj
    case measure=>simp [intOf];omega
  ·have hkn:k=s.size:=by omega
   have hl:(s.data.toList.map capB).length=s.size:=by rw [List.length_map,Array.length_toList];rfl
   have hcv:=run_convert_bytes_back (P:=Tryz.prog) wr 32 9 5 ⟨w.heap.size,0,none⟩ cap (s.data.toList.map capB) Tryz.underlying32 Tryz.underlying5 Tryz.underlying9 (fun j hj=>by
    rw [hl] at hj
    have h':j<s.data.size:=hj
    have:=hc j hj
    rw [addr_add,this]
    simp [Z7k,hkn,hj])
   rw [hl] at hcv
   have hr:(⟨(s.data.toList.map capB).toArray⟩:ByteArray)=capS s:=by
    exact capS_list s
   rw [hr] at hcv
   clear hc hf hl hr
   go_wp2
   go_ret
   exact ⟨rfl,hb⟩
end Go.Proofs.YthokdbcpkmcieabGreatDoor
namespace Go.Proofs
open Go.Shelf
def Tryz.lays99_ren:Go.Shelf.Ren:=⟨fun | 99=>309 | 206=>288 | n=>n,fun | 9=>9 | 4=>4 | 3=>3 | n=>n,fun | n=>n⟩
theorem Tryz.lays99:Go.Proofs.Lays.n99 Tryz.prog Tryz.lays99_ren:={
 mixed:=by kernel_rfl
 f99:=Tryz.func309.trans (congrArg some (by kernel_rfl))
 f206:=Tryz.func288.trans (congrArg some (by kernel_rfl))
 t3:=Tryz.underlying3
 a3:=Tryz.isAgg3
 z3:=Tryz.sizeOf3
 v3:=Tryz.zeroValue3
 t4:=Tryz.underlying4
 a4:=Tryz.isAgg4
 z4:=Tryz.sizeOf4
 v4:=Tryz.zeroValue4
 t9:=Tryz.underlying9
 a9:=Tryz.isAgg9
 z9:=Tryz.sizeOf9
 v9:=Tryz.zeroValue9 }
open Go.RowKit Go.Lib in
theorem Tryz.strings_HasPrefix (s p:ByteArray)(w:World) :
  Calls Tryz.prog 309 #[.string s,.string p] w fun e w'=>e=.returned (.bool (Lib.hasPrefix s.data.toList p.data.toList))∧w'=w:=Any.strings_HasPrefix Tryz.lays99 s p w
def Tryz.lays227_ren:Go.Shelf.Ren:=⟨fun | 227=>332 | n=>n,fun | 9=>9 | 116=>408 | 4=>4 | 0=>0 | 3=>3 | 5=>5 | n=>n,fun | n=>n⟩
theorem Tryz.lays227:Go.Proofs.Lays.n227 Tryz.prog Tryz.lays227_ren:={
 mixed:=by kernel_rfl
 f227:=Tryz.func332.trans (congrArg some (by kernel_rfl))
 t0:=Tryz.underlying0
 a0:=Tryz.isAgg0
 z0:=Tryz.sizeOf0
 v0:=Tryz.zeroValue0
 t3:=Tryz.underlying3
 a3:=Tryz.isAgg3
 z3:=Tryz.sizeOf3
 v3:=Tryz.zeroValue3
 t4:=Tryz.underlying4
 a4:=Tryz.isAgg4
 z4:=Tryz.sizeOf4
 v4:=Tryz.zeroValue4
 t5:=Tryz.underlying5
 a5:=Tryz.isAgg5
 z5:=Tryz.sizeOf5
 v5:=Tryz.zeroValue5
 t9:=Tryz.underlying9
 a9:=Tryz.isAgg9
 z9:=Tryz.sizeOf9
 v9:=Tryz.zeroValue9
 t116:=Tryz.underlying408
 a116:=Tryz.isAgg408
 z116:=Tryz.sizeOf408 }
open Go.RowKit Go.Lib in
theorem Tryz.strings_makeASCIISet (hv116:∀ w,(zeroValue 408).run Tryz.prog w=.ok (.agg (Array.replicate 256 (.bool false))) w)(chars:ByteArray)(w:World)(hs:chars.size<4294967281)(hascii:∀ (j:Nat) b,chars.data.toList[j]?=some b→b.toNat<128) :
  Calls Tryz.prog 332 #[.string chars] w fun e w'=>e=.returned (.tuple #[.agg (Lib.setCells chars.data.toList),.bool true])∧w'=w.alloc (.cells (Lib.setCells chars.data.toList) 408):=Any.strings_makeASCIISet Tryz.lays227 hv116 (by kernel_rfl) chars w hs hascii
def Tryz.lays228_ren:Go.Shelf.Ren:=⟨fun | 228=>348 | n=>n,fun | 124=>412 | 5=>5 | 4=>4 | 0=>0 | 116=>408 | n=>n,fun | n=>n⟩
theorem Tryz.lays228:Go.Proofs.Lays.n228 Tryz.prog Tryz.lays228_ren:={
 mixed:=by kernel_rfl
 f228:=Tryz.func348.trans (congrArg some (by kernel_rfl))
 t0:=Tryz.underlying0
 a0:=Tryz.isAgg0
 z0:=Tryz.sizeOf0
 v0:=Tryz.zeroValue0
 t4:=Tryz.underlying4
 a4:=Tryz.isAgg4
 z4:=Tryz.sizeOf4
 v4:=Tryz.zeroValue4
 t5:=Tryz.underlying5
 a5:=Tryz.isAgg5
 z5:=Tryz.sizeOf5
 v5:=Tryz.zeroValue5
 t116:=Tryz.underlying408
 a116:=Tryz.isAgg408
 z116:=Tryz.sizeOf408
 t124:=Tryz.underlying412
 a124:=Tryz.isAgg412
 z124:=Tryz.sizeOf412
 v124:=Tryz.zeroValue412 }
open Go.RowKit Go.Lib in
theorem Tryz.asciiSet_contains (b:Nat)(x:UInt8)(v:Bool)(w:World)(hc:w.cell? ⟨b,x.toNat,none⟩=some (.bool v)) :
  Calls Tryz.prog 348 #[.pointer (some ⟨b,0,none⟩),.int .u8 x.toNat] w fun e w'=>e=.returned (.bool v)∧w'=w:=Any.asciiSet_contains Tryz.lays228 b x v w hc
def Tryz.lays110_ren:Go.Shelf.Ren:=⟨fun | 110=>286 | 109=>318 | n=>n,fun | 31=>43 | 9=>9 | 4=>4 | 3=>3 | 0=>0 | n=>n,fun | n=>n⟩
theorem Tryz.lays110:Go.Proofs.Lays.n110 Tryz.prog Tryz.lays110_ren:={
 mixed:=by kernel_rfl
 f109:=Tryz.func318.trans (congrArg some (by kernel_rfl))
 f110:=Tryz.func286.trans (congrArg some (by kernel_rfl))
 t0:=Tryz.underlying0
 a0:=Tryz.isAgg0
 z0:=Tryz.sizeOf0
 v0:=Tryz.zeroValue0
 t3:=Tryz.underlying3
 a3:=Tryz.isAgg3
 z3:=Tryz.sizeOf3
 v3:=Tryz.zeroValue3
 t4:=Tryz.underlying4
 a4:=Tryz.isAgg4
 z4:=Tryz.sizeOf4
 v4:=Tryz.zeroValue4
 t9:=Tryz.underlying9
 a9:=Tryz.isAgg9
 z9:=Tryz.sizeOf9
 v9:=Tryz.zeroValue9
 t31:=Tryz.underlying43
 a31:=Tryz.isAgg43
 z31:=Tryz.sizeOf43
 v31:=Tryz.zeroValue43 }
open Go.Lib in
theorem Tryz.slices_Contains_string (b off n c:Nat)(zs:List ByteArray)(x:ByteArray)(w:World)(hz:n≤zs.length)(hbig:n≤9223372036854775807)(hc:∀ j,j<zs.length→w.cell? ⟨b,off+j,none⟩=some (.string (zs.getD j ByteArray.empty))) :
  Calls Tryz.prog 286 #[.slice (some ⟨b,off,none⟩) n c,.string x] w fun e w'=>e=.returned (.bool (Lib.containsS (zs.take n) x))∧w'=w:=Any.slices_Contains_string Tryz.lays110 b off n c zs x w hz hbig hc
def Tryz.lays321_ren:Go.Shelf.Ren:=⟨fun | 321=>363 | n=>n,fun | 5=>5 | n=>n,fun | n=>n⟩
theorem Tryz.lays321:Go.Proofs.Lays.n321 Tryz.prog Tryz.lays321_ren:={
 mixed:=by kernel_rfl
 f321:=Tryz.func363.trans (congrArg some (by kernel_rfl))
 t5:=Tryz.underlying5
 a5:=Tryz.isAgg5
 z5:=Tryz.sizeOf5
 v5:=Tryz.zeroValue5 }
open Go.RowKit in
theorem Tryz.internal_strconv_lower (c:Int)(w:World) :
  Calls Tryz.prog 363 #[.int .u8 c] w fun e w'=>e=.returned (.int .u8 (bits .or .u8 c 32))∧w'=w:=Any.internal_strconv_lower Tryz.lays321 c w
end Go.Proofs
namespace Go.Proofs.YthokdbcpkmcieabGreatDoor
open Go Go.RowKit
def allIn (C:List UInt8) (s:ByteArray):Bool:=s.data.toList.all fun c=>C.contains c
theorem Z3i (s:ByteArray)(k:Nat):(s.extract k s.size).data.toList=s.data.toList.drop k:=by
 rw [ByteArray.data_extract,Array.toList_extract]
 have h:s.size=s.data.toList.length:=(Array.length_toList (xs:=s.data)).symm
 rw [h,List.extract_eq_take_drop,List.take_of_length_le]
 rw [List.length_drop]
 exact Nat.le_refl _
theorem ba_take (s:ByteArray)(k:Nat):(s.extract 0 k).data.toList=s.data.toList.take k:=by
 rw [ByteArray.data_extract,Array.toList_extract,List.extract_eq_take_drop]
 simp
theorem allIn_tail (C:List UInt8)(s:ByteArray)(h:0<s.size)(hc:C.contains s[0]=true):allIn C (s.extract 1 s.size)=allIn C s:=by
 unfold allIn
 rw [Z3i]
 have:=Z3z s 0 h
 cases hl:s.data.toList with
 | nil=>rfl
 | cons x l =>
  rw [hl] at this
  simp at this
  subst this
  simp
  intro _
  simpa using hc
theorem allIn_init (C:List UInt8)(s:ByteArray)(h:0<s.size)(hc:C.contains (s[s.size-1]'(by omega))=true):allIn C (s.extract 0 (s.size-1))=allIn C s:=by
 unfold allIn
 rw [ba_take]
 have hg:=Z3z s (s.size-1) (by omega)
 have hl:s.data.toList.length=s.size:=Array.length_toList
 have e:s.data.toList=s.data.toList.take (s.size-1) ++ [s[s.size-1]'(by omega)]:=by
  conv=>lhs;rw [←List.take_append_drop (s.size-1) s.data.toList]
  congr 1
  have h1:(s.data.toList.drop (s.size-1)).length=1:=by rw [List.length_drop,hl];omega
  match hd:s.data.toList.drop (s.size-1),h1 with
  | [y],_ =>
   have:(s.data.toList.drop (s.size-1))[0]?=some y:=by rw [hd];rfl
   rw [List.getElem?_drop] at this
   simp only [Nat.add_zero] at this
   rw [hg] at this
   cases this
   rfl
 conv=>rhs;rw [e]
 rw [List.all_append]
 simp
 intro _
 simpa using hc
theorem allIn_head (C:List UInt8)(s:ByteArray)(h:0<s.size)(hc:C.contains s[0]=false):allIn C s=false:=by
 unfold allIn
 rw [List.all_eq_false]
 exact ⟨s[0],List.mem_of_getElem? (Z3z s 0 h),by simp only [hc];simp⟩
theorem allIn_last (C:List UInt8)(s:ByteArray)(h:0<s.size)(hc:C.contains (s[s.size-1]'(by omega))=false):allIn C s=false:=by
 unfold allIn
 rw [List.all_eq_false]
 exact ⟨_,List.mem_of_getElem? (Z3z s (s.size-1) (by omega)),by simp only [hc];simp⟩
theorem Z4g (C:List UInt8)(s:ByteArray)(h:s.size=0):allIn C s=true:=by
 unfold allIn
 have:s.data.toList.length=0:=by rw [Array.length_toList];exact h
 rw [List.length_eq_zero_iff.1 this]
 rfl
theorem trimLeft_any (C:List UInt8)(s:ByteArray)(b:Nat)(w:World)(_hs:s.size≤1000000)(hset:∀ x:UInt8,w.cell? ⟨b,x.toNat,none⟩=some (.bool (C.contains x))) :
  Calls Tryz.prog 333 #[.string s,.pointer (some ⟨b,0,none⟩)] w fun e w'=>∃ r,e=.returned (.string r)∧w'=w∧r.size≤s.size∧allIn C r=allIn C s∧(r.size=0∨allIn C r=false):=by
 have HS:=Z0a hset
 clear hset
 go_enter Tryz.func333,Tryz.ntmps333
 go_wp2_with fail
 go_loopw [0] (fun v wr=>∃ r:ByteArray,v=.string r∧wr=w∧r.size≤s.size∧allIn C r=allIn C s) (fun v _=>match v with | .string r=>r.size | _=>0)
 case atStart=>exact ⟨s,by simp,by simp,Nat.le_refl _,rfl⟩
 case round =>
  obtain ⟨r,rfl,rfl,hle,hal⟩:=hrel
  have HA:=Z0a hal
  clear hal
  by_cases hp:0<r.size
  ·have hp':(0:Int)<(r.size:Int):=by omega
   have HC:=Z0a (Tryz.asciiSet_contains b r[0] (C.contains r[0]) wr (HS.out _))
   cases hc:C.contains r[0] with
   | true =>
    rw [hc] at HC
    have HT:=Z0a (allIn_tail C r hp hc)
    clear hc
    go_wp2_with (refine HC.out.mono ?_;rintro e w1 ⟨rfl,rfl⟩)
    go_roundw
    case rel=>exact ⟨_,rfl,by simp,by rw [ByteArray.size_extract];omega,by rw [HT.out,HA.out]⟩
    case measure=>simp [ByteArray.size_extract];omega
   | false =>
    rw [hc] at HC
    have HT:=Z0a (allIn_head C r hp hc)
    clear hc
    go_wp2_with (refine HC.out.mono ?_;rintro e w1 ⟨rfl,rfl⟩)
    go_ret
    exact ⟨r,rfl,by simp,hle,HA.out,.inr HT.out⟩
  ·have hz:r.size=0:=by omega
   go_wp2
   go_ret
   exact ⟨r,rfl,by simp,hle,HA.out,.inl hz⟩
theorem Z7Y (C:List UInt8)(s:ByteArray)(b:Nat)(w:World)(hs:s.size≤1000000)(hset:∀ x:UInt8,w.cell? ⟨b,x.toNat,none⟩=some (.bool (C.contains x))) :
  Calls Tryz.prog 334 #[.string s,.pointer (some ⟨b,0,none⟩)] w fun e w'=>∃ r,e=.returned (.string r)∧w'=w∧r.size≤s.size∧allIn C r=allIn C s∧(r.size=0∨allIn C r=false):=by
 have HS:=Z0a hset
 clear hset
 go_enter Tryz.func334,Tryz.ntmps334
 go_wp2_with fail
 go_loopw [0] (fun v wr=>∃ r:ByteArray,v=.string r∧wr=w∧r.size≤s.size∧allIn C r=allIn C s) (fun v _=>match v with | .string r=>r.size | _=>0)
 case atStart=>exact ⟨s,by simp,by simp,Nat.le_refl _,rfl⟩
 case round =>
  obtain ⟨r,rfl,rfl,hle,hal⟩:=hrel
  have HA:=Z0a hal
  clear hal
  by_cases hp:0<r.size
  ·have hp':(0:Int)<(r.size:Int):=by omega
   obtain ⟨m,hm⟩:∃ m,r.size=m+1:=⟨r.size-1,by omega⟩
   have hm1:m<r.size:=by omega
   have hmi:((r.size:Int)-1)=(m:Int):=by omega
   have HC:=Z0a (Tryz.asciiSet_contains b (r[m]'hm1) (C.contains (r[m]'hm1)) wr (HS.out _))
   have hcond:(r.size-1)=m:=by omega
   cases hc:C.contains (r[m]'hm1) with
   | true =>
    rw [hc] at HC
    have HT:=Z0a (show allIn C (r.extract 0 m)=allIn C r by
     have:=allIn_init C r hp (by simp only [hcond];exact hc)
     rwa [hcond] at this)
    clear hc
    go_wp2_with (refine HC.out.mono ?_;rintro e w1 ⟨rfl,rfl⟩)
    go_roundw
    case rel=>exact ⟨_,rfl,by simp,by rw [ByteArray.size_extract];omega,by rw [HT.out,HA.out]⟩
    case measure=>simp [ByteArray.size_extract];omega
   | false =>
    rw [hc] at HC
    have HT:=Z0a (allIn_last C r hp (by simp only [hcond];exact hc))
    clear hc
    go_wp2_with (refine HC.out.mono ?_;rintro e w1 ⟨rfl,rfl⟩)
    go_ret
    exact ⟨r,rfl,by simp,hle,HA.out,.inr HT.out⟩
  ·have hz:r.size=0:=by omega
   go_wp2
   go_ret
   exact ⟨r,rfl,by simp,hle,HA.out,.inl hz⟩
end Go.Proofs.YthokdbcpkmcieabGreatDoor
namespace Go.Proofs.YthokdbcpkmcieabGreatDoor
open Go.RowKit
abbrev fv (f:Nat):Value:=.func (.func f) #[] #[]
def Z0M:Array Value:=#[fv 207,fv 208,fv 209,
 fv 207,fv 208,fv 209,
 fv 207,fv 208,fv 209,
 fv 207,fv 208,fv 209,
 fv 207,fv 208,fv 209,
 fv 207,fv 208,fv 209,
 fv 207,fv 208,fv 209,
 fv 210,fv 208,fv 211,
 fv 210,fv 208,fv 211,
 fv 212,fv 213,fv 214,
 fv 215,fv 216,fv 217,
 fv 218,fv 213,fv 219,
 fv 218,fv 213,fv 219,
 fv 218,fv 213,fv 220,
 fv 221,fv 216,fv 222,
 fv 223,fv 213,fv 224,
 fv 225,fv 213,fv 226]
theorem Z8q {P:Program}{fn:Func}{k:Nat}{t:TypeId}{tmps:Array Value}{ad:Addr}{v:Value}{w:World}(h:fn.results=#[.cell k t])(hp:tmps.getD k undef=.pointer (some ad))(hl:(loadVar t ad).run P w=.ok v w) :
  (results fn tmps).run P w=.ok v w:=by
 have hp':tmps[k]?.getD undef=.pointer (some ad):=by rw [←hp,Array.getD_eq_getD_getElem?]
 simp [results,h,hp',asAddr,hl]
theorem Z5I:Z0M.all (·.oneCell')=true:=by kernel_rfl
theorem Z3H:(Tryz.prog.info? 290).map (·.size)=some Z0M.size:=by kernel_rfl
theorem Z8y (w:World) :
  Calls Tryz.prog 178 #[] w fun e w'=>e=.returned (.agg Z0M)∧Below w.heap.size w w':=by
 go_enter Tryz.func178,Tryz.ntmps178
 go_wp2_with (refine wpList_store_row rfl 290 (.tmp 0) (.tmp 18) rfl w.heap.size Z0M rfl rfl 290 _ (heap_alloc_last w _) Z3H rfl Z5I ?_;rw [World.setRow_alloc_new])
 refine bodyPost_ret (v:=.agg Z0M) ?_ rfl ⟨rfl,(Below.refl _ _).alloc (Nat.le_refl _) _⟩
 have hl:=run_loadVar_new (P:=Tryz.prog) w 290 Z0M 17 289 Tryz.underlying290 Z3H
 exact Z8q Tryz.results178 rfl hl
end Go.Proofs.YthokdbcpkmcieabGreatDoor
namespace Go.Proofs.YthokdbcpkmcieabGreatDoor
open Go Go.RowKit Go.Shelf
def Z2f (r:ByteArray) (sh:Bool):Int × ByteArray × Bool:=if h:0<r.size then ((r[0].toNat:Int),r.extract 1 r.size,sh) else (0,r,true)
def readW (r:ByteArray) (sh:Bool):Int × ByteArray × Bool:=(bits BinOp.or IntKind.u16 ((Z2f r sh).1*256) (Z2f (Z2f r sh).2.1 (Z2f r sh).2.2).1,(Z2f (Z2f r sh).2.1 (Z2f r sh).2.2).2)
def Z3k (k:Nat) (r:ByteArray) (sh:Bool):Int × ByteArray × Bool:=if k≤8 then (0,r,sh) else if k=10∨k=14 then readW r sh else Z2f r sh
def addF (k:Nat):Nat:=if k≤8 then 208 else if k=10∨k=14 then 216 else 213
structure Reads (w:World) (b:Nat) (r:ByteArray) (sh:Bool):Prop where
 c0:w.cell? ⟨b,0,none⟩=some (.string r)
 c1:w.cell? ⟨b,1,none⟩=some (.bool sh)
 f0:w.frozen? ⟨b,0,none⟩=false
 f1:w.frozen? ⟨b,1,none⟩=false
theorem nothing_any (v:Value)(w:World) :
  Calls Tryz.prog 208 #[v] w fun e w'=>e=.returned (.int .u16 0)∧w'=w:=by
 go_enter Tryz.func208,Tryz.ntmps208
 go_wp2
 go_ret
 exact ⟨rfl,rfl⟩
theorem wrap_byte (x:UInt8):IntKind.u16.wrap (x.toNat:Int)=x.toNat:=by
 have:=x.toNat_lt
 unfold IntKind.wrap
 simp [IntKind.bits]
 omega
theorem Z4z (w:World)(b o:Nat)(u:Value):w.grownBy (w.setCell ⟨b,o,none⟩ u) (some b) :=
 ⟨rfl,rfl,rfl,by simp [World.setCell],fun k _ hk=>Below.heap_setCell _ _ _ _ (fun e=>hk (by rw [e]))⟩
theorem Z0t (r:ByteArray):r.toList.isEmpty=decide (r.size=0):=by
 rw [ByteArray.toList_eq]
 have h:r.size=r.data.toList.length:=(Array.length_toList (xs:=r.data)).symm
 rw [h]
 cases r.data.toList with
 | nil=>rfl
 | cons x l=>rfl
theorem Reads.set0 {w:World}{b:Nat}{r:ByteArray}{sh:Bool}(h:Reads w b r sh)(r':ByteArray):Reads (w.setCell ⟨b,0,none⟩ (.string r')) b r' sh :=
 ⟨World.cell?_setCell_same _ _ _ h.c0,by rw [World.cell?_setCell_other _ _ _ _ (by simp)];exact h.c1,by simp [h.f0],by simp [h.f1]⟩
theorem Reads.set1 {w:World}{b:Nat}{r:ByteArray}{sh:Bool}(h:Reads w b r sh)(sh':Bool):Reads (w.setCell ⟨b,1,none⟩ (.bool sh')) b r sh' :=
 ⟨by rw [World.cell?_setCell_other _ _ _ _ (by simp)];exact h.c0,World.cell?_setCell_same _ _ _ h.c1,by simp [h.f0],by simp [h.f1]⟩
theorem Z4r (b:Nat)(r:ByteArray)(sh:Bool)(w:World)(h:Reads w b r sh) :
  Calls Tryz.prog 213 #[.pointer (some ⟨b,0,none⟩)] w fun e w'=>e=.returned (.int .u16 (Z2f r sh).1)∧Reads w' b (Z2f r sh).2.1 (Z2f r sh).2.2∧w.grownBy w' (some b):=by
 have HR:Hid (Reads w b r sh):=h
 obtain ⟨c0,c1,f0,f1⟩:=h
 by_cases hp:0<r.size
 ·have e:Z2f r sh=((r[0].toNat:Int),r.extract 1 r.size,sh):=by unfold Z2f;rw [dif_pos hp]
  have hs:r.toList.isEmpty=false:=by rw [Z0t];simp only [decide_eq_false_iff_not];omega
  rw [e]
  have HW:Hid (IntKind.u16.wrap (r[0].toNat:Int)=r[0].toNat):=wrap_byte _
  clear e
  go_enter Tryz.func213,Tryz.ntmps213
  go_wp2
  go_ret
  refine ⟨?_,HR.out.set0 _,Z4z _ _ _ _⟩
  show Ending.returned (.int .u16 (IntKind.u16.wrap (r[0].toNat:Int)))=_
  rw [HW.out]
 ·have e:Z2f r sh=(0,r,true):=by unfold Z2f;rw [dif_neg hp]
  have hs:r.toList.isEmpty=true:=by rw [Z0t];simp only [decide_eq_true_eq];omega
  rw [e]
  clear e
  go_enter Tryz.func213,Tryz.ntmps213
  go_wp2
  go_ret
  exact ⟨rfl,HR.out.set1 _,Z4z _ _ _ _⟩
theorem Z2F {w w1 w2:World}{b:Nat}(h:w.grownBy w1 (some b))(k:w1.grownBy w2 (some b)):w.grownBy w2 (some b) :=
 ⟨k.os.trans h.os,k.tape.trans h.tape,k.output.trans h.output,Nat.le_trans h.size k.size,fun i hi hb=>(k.block i (Nat.lt_of_lt_of_le hi h.size) hb).trans (h.block i hi hb)⟩
theorem readB_bound (r:ByteArray)(sh:Bool):0≤(Z2f r sh).1∧(Z2f r sh).1≤255:=by
 unfold Z2f
 split
 ·have:=(r[0]).toNat_lt;simp only;omega
 ·simp
theorem twoBytes_any (b:Nat)(r:ByteArray)(sh:Bool)(w:World)(h:Reads w b r sh) :
  Calls Tryz.prog 216 #[.pointer (some ⟨b,0,none⟩)] w fun e w'=>e=.returned (.int .u16 (readW r sh).1)∧Reads w' b (readW r sh).2.1 (readW r sh).2.2∧w.grownBy w' (some b):=by
 have HR:Hid (Reads w b r sh):=h
 unfold readW
 have HB:=readB_bound r sh
 obtain ⟨p,hp⟩:∃ p,Z2f r sh=p:=⟨_,rfl⟩
 obtain ⟨q,hq⟩:∃ q,Z2f p.2.1 p.2.2=q:=⟨_,rfl⟩
 rw [hp] at HB
 rw [hp,hq]
 have HP:Hid (Z2f r sh=p):=hp
 have HQ:Hid (Z2f p.2.1 p.2.2=q):=hq
 have b0:=HB.1
 have b1:=HB.2
 clear hp hq h HB
 go_enter Tryz.func216,Tryz.ntmps216
 go_wp2_with fail
 refine (Z4r b r sh _ HR.out).mono ?_
 rintro e w1 ⟨rfl,h1,g1⟩
 rw [HP.out] at h1 ⊢
 have H1:Hid (Reads w1 b p.2.1 p.2.2):=h1
 have G1:Hid (w.grownBy w1 (some b)):=g1
 clear h1 g1
 go_wp2_with fail
 refine (Z4r b p.2.1 p.2.2 _ H1.out).mono ?_
 rintro e w2 ⟨rfl,h2,g2⟩
 rw [HQ.out] at h2 ⊢
 have H2:Hid (Reads w2 b q.2.1 q.2.2):=h2
 have G2:Hid (w1.grownBy w2 (some b)):=g2
 clear h2 g2
 go_wp2
 go_ret
 exact ⟨rfl,H2.out,Z2F G1.out G2.out⟩
theorem adds_any (k:Nat)(b:Nat)(r:ByteArray)(sh:Bool)(w:World)(h:Reads w b r sh) :
  Calls Tryz.prog (addF k) #[.pointer (some ⟨b,0,none⟩)] w fun e w'=>e=.returned (.int .u16 (Z3k k r sh).1)∧Reads w' b (Z3k k r sh).2.1 (Z3k k r sh).2.2∧w.grownBy w' (some b):=by
 unfold addF Z3k
 split
 ·refine (nothing_any _ _).mono ?_
  rintro e w' ⟨rfl,rfl⟩
  exact ⟨rfl,h,⟨rfl,rfl,rfl,Nat.le_refl _,fun _ _ _=>rfl⟩⟩
 ·split
  ·exact twoBytes_any b r sh w h
  ·exact Z4r b r sh w h
theorem addF_enters (k:Nat)(args:Array Value)(w:World):(callFunc (addF k) args).run Tryz.prog w=.ok (.enter (addF k) args) w:=by
 unfold addF
 split
 ·exact enters_of Tryz.func208 (by kernel_rfl) rfl args w
 ·split
  ·exact enters_of Tryz.func216 (by kernel_rfl) rfl args w
  ·exact enters_of Tryz.func213 (by kernel_rfl) rfl args w
theorem addF_cell (k:Nat)(h:k<17):Z0M[3*k+1]?=some (fv (addF k)):=by
 match k,h with
 | 0,_=>rfl
 | 1,_=>rfl
 | 2,_=>rfl
 | 3,_=>rfl
 | 4,_=>rfl
 | 5,_=>rfl
 | 6,_=>rfl
 | 7,_=>rfl
 | 8,_=>rfl
 | 9,_=>rfl
 | 10,_=>rfl
 | 11,_=>rfl
 | 12,_=>rfl
 | 13,_=>rfl
 | 14,_=>rfl
 | 15,_=>rfl
 | 16,_=>rfl
 | n+17,h=>exact absurd h (by omega)
end Go.Proofs.YthokdbcpkmcieabGreatDoor
namespace Go.Proofs.YthokdbcpkmcieabGreatDoor
open Go Go.RowKit
structure Opn where
 kind:Nat
 name:ByteArray
 own:Int
 added:Int
 behind:Int
def Opn.cells (o:Opn):List Value:=[.int .i64 o.kind,.string o.name,.int .u8 o.own,.int .u16 o.added,.int .u16 o.behind]
def Opn.put (o:Opn) (a:Int):Opn:={ o with added:=a }
def opn0:Opn:=⟨0,⟨#[]⟩,0,0,0⟩
def Z0u (l:List Opn):List Value:=l.flatMap Opn.cells
theorem Z3f (l:List Opn):∀ (k:Nat),k<l.length→(Z0u l)[k*5]?=some (.int .i64 (l.getD k opn0).kind)∧(Z0u l)[k*5+1]?=some (.string (l.getD k opn0).name) ∧
  (Z0u l)[k*5+2]?=some (.int .u8 (l.getD k opn0).own)∧(Z0u l)[k*5+3]?=some (.int .u16 (l.getD k opn0).added)∧(Z0u l)[k*5+4]?=some (.int .u16 (l.getD k opn0).behind):=by
 induction l with
 | nil=>intro k h;simp at h
 | cons o l ih =>
  intro k h
  cases k with
  | zero=>simp [Z0u,Opn.cells]
  | succ k =>
   have:=ih k (by simpa using h)
   simp only [List.getD_cons_succ]
   have e:∀ i,(Z0u (o :: l))[(k+1)*5+i]?=(Z0u l)[k*5+i]?:=by
    intro i
    rw [show (k+1)*5+i=k*5+i+1+1+1+1+1 by omega]
    simp [Z0u,Opn.cells]
   have e0:=e 0
   simp only [Nat.add_zero] at e0
   rw [e0,e 1,e 2,e 3,e 4]
   exact this
theorem allCells_set (l:List Opn):∀ (k:Nat) (a:Int),k<l.length→(Z0u l).set (k*5+3) (.int .u16 a)=Z0u (l.set k ((l.getD k opn0).put a)):=by
 induction l with
 | nil=>intro k a h;simp at h
 | cons o l ih =>
  intro k a h
  cases k with
  | zero=>simp [Z0u,Opn.cells,Opn.put]
  | succ k =>
   have:=ih k a (by simpa using h)
   simp only [List.getD_cons_succ,List.set_cons_succ]
   rw [show (k+1)*5+3=k*5+3+1+1+1+1+1 by omega]
   simp only [Z0u,List.flatMap_cons,Opn.cells,List.cons_append,List.nil_append,List.set_cons_succ] at this ⊢
   rw [this]
def Z1g (l:List Opn) (r:ByteArray) (sh:Bool):Nat→List Opn × ByteArray × Bool
 | 0=>(l,r,sh)
 | k+1 =>
  let p:=Z1g l r sh k
  let q:=Z3k (p.1.getD k opn0).kind p.2.1 p.2.2
  (p.1.set k ((p.1.getD k opn0).put q.1),q.2.1,q.2.2)
theorem readTo_len (l:List Opn)(r:ByteArray)(sh:Bool)(k:Nat):(Z1g l r sh k).1.length=l.length:=by
 induction k with
 | zero=>rfl
 | succ k ih=>simp only [Z1g,List.length_set];exact ih
theorem getD_set (l:List Opn)(i k:Nat)(x:Opn):(l.set i x).getD k opn0=if i=k∧k<l.length then x else l.getD k opn0:=by
 rw [List.getD_eq_getElem?_getD,List.getElem?_set,List.getD_eq_getElem?_getD]
 by_cases h:i=k
 ·subst h
  by_cases h2:i<l.length
  ·simp [h2]
  ·simp [h2]
 ·simp [h]
theorem readTo_kind (l:List Opn)(r:ByteArray)(sh:Bool)(k j:Nat):((Z1g l r sh k).1.getD j opn0).kind=(l.getD j opn0).kind:=by
 induction k with
 | zero=>rfl
 | succ k ih =>
  simp only [Z1g,getD_set]
  split
  ·rename_i h;obtain ⟨rfl,_⟩:=h;exact ih
  ·exact ih
theorem Z40 (r:ByteArray)(sh:Bool):(Z2f r sh).2.1.size≤r.size:=by
 unfold Z2f
 split
 ·simp only [ByteArray.size_extract];omega
 ·exact Nat.le_refl _
theorem readOne_size (k:Nat)(r:ByteArray)(sh:Bool):(Z3k k r sh).2.1.size≤r.size:=by
 unfold Z3k
 split
 ·exact Nat.le_refl _
 ·split
  ·exact Nat.le_trans (Z40 _ _) (Z40 _ _)
  ·exact Z40 _ _
theorem readTo_size (l:List Opn)(r:ByteArray)(sh:Bool)(k:Nat):(Z1g l r sh k).2.1.size≤r.size:=by
 induction k with
 | zero=>exact Nat.le_refl _
 | succ k ih=>exact Nat.le_trans (readOne_size _ _ _) ih
theorem set_info:(Tryz.prog.info? 408).map (·.size)=some 256:=by kernel_rfl
theorem set_zero:∀ w,(zeroValue 408).run Tryz.prog w=.ok (.agg (Array.replicate 256 (.bool false))) w:=fun w=>by kernel_rfl
theorem Z5J (C:ByteArray)(s:ByteArray)(w:World)(hs:s.size≤1000000)(hC:2≤C.size)(hC2:C.size≤1000)(hasc:∀ (j:Nat) b,C.data.toList[j]?=some b→b.toNat<128) :
  Calls Tryz.prog 310 #[.string s,.string C] w fun e w'=>∃ r,e=.returned (.string r)∧Below w.heap.size w w'∧(r.toList.isEmpty=allIn C.data.toList s):=by
 by_cases hz:s.size=0
 ·have h1:s.toList.isEmpty=true:=by rw [Z0t];simp [hz]
  go_enter Tryz.func310,Tryz.ntmps310
  go_wp2
  go_ret
  exact ⟨s,rfl,Below.refl _ _,by rw [h1,Z4g _ _ hz]⟩
 ·have h1:s.toList.isEmpty=false:=by rw [Z0t];simp [hz]
  have h2:C.toList.isEmpty=false:=by rw [Z0t,decide_eq_false_iff_not];omega
  have h3:((C.size:Int) == 1)=false:=by simp;omega
  have HM:=Z0a (fun w=>Tryz.strings_makeASCIISet set_zero C w (by omega) hasc)
  obtain ⟨arr,harr⟩:∃ arr,Lib.setCells C.data.toList=arr:=⟨_,rfl⟩
  have hat:∀ x:UInt8,arr[x.toNat]?=some (.bool (C.data.toList.contains x)):=fun x=>by rw [←harr];exact Lib.setCells_at _ _
  have hone:arr.all (·.oneCell')=true:=by rw [←harr];exact Lib.setCells_one _
  have hsz:arr.size=256:=by rw [←harr];exact Lib.setCells_size _
  have hinfo:(Tryz.prog.info? 408).map (·.size)=some arr.size:=by rw [hsz];exact set_info
  rw [harr] at HM
  have HAT:=Z0a hat
  clear hat harr hasc
  go_enter Tryz.func310,Tryz.ntmps310
  go_wp2_with fail
  refine (HM.out _).mono ?_
  rintro e w1 ⟨rfl,rfl⟩
  have hsc:=run_storeCells_new (P:=Tryz.prog) (w.alloc (.cells arr 408)) 408 Tryz.zeroCells408 arr (by rw [hsz];exact set_info) (by rw [hsz];kernel_rfl) hone
  rw [show (w.alloc (.cells arr 408)).heap.size=w.heap.size+1 by simp] at hsc
  have hcell:∀ x:UInt8,((w.alloc (.cells arr 408)).alloc (.cells arr 408)).cell? ⟨w.heap.size+1,x.toNat,none⟩=some (.bool (C.data.toList.contains x)):=fun x=>by
   rw [World.cell?_alloc_at _ _ _ _ (by simp)]
   exact HAT.out x
  have HCE:=Z0a hcell
  clear hcell
  go_wp2_with fail
  refine (Z7Y C.data.toList s (w.heap.size+1) _ hs HCE.out).mono ?_
  rintro e w2 ⟨r,rfl,rfl,hr1,hr2,hr3⟩
  have HR:=Z0a (And.intro hr1 (And.intro hr2 hr3))
  clear hr1 hr2 hr3
  go_wp2_with fail
  refine (trimLeft_any C.data.toList r (w.heap.size+1) _ (by have:=HR.out.1;omega) HCE.out).mono ?_
  rintro e w3 ⟨t,rfl,rfl,ht1,ht2,ht3⟩
  have HT:=Z0a (And.intro ht1 (And.intro ht2 ht3))
  clear ht1 ht2 ht3
  go_wp2
  go_ret
  refine ⟨t,rfl,((Below.refl _ _).alloc (Nat.le_refl _) _).alloc (by simp) _,?_⟩
  rw [←HR.out.2.1,← HT.out.2.1,Z0t]
  rcases HT.out.2.2 with h | h
  ·rw [Z4g _ _ h];simp [h]
  ·rw [h]
   simp only [decide_eq_false_iff_not]
   intro h0
   rw [Z4g _ _ h0] at h
   cases h
end Go.Proofs.YthokdbcpkmcieabGreatDoor
