/- Scan5 Scan6 Scan7 Kinds -/
import Derived.Test.YthokdbcpkmcieabGreatDoorE02
import Derived.BigGuard
import Derived.BigCall
import Derived.Test.YthokdbcpkmcieabGreatDoorRows
import Derived.WalkKit
import Derived.WalkSpells
import Derived.WalkLawsBesides
import Derived.Maps.Own
import Derived.Maps.OwnOps
set_option maxRecDepth 200000
set_option maxHeartbeats 8000000
namespace Go.Proofs.YthokdbcpkmcieabGreatDoor
open Go Go.RowKit
def dv (c:UInt8):Nat:=if c.toNat≤57 then c.toNat-48 else c.toNat-55
def numV (base:Nat) (l:List UInt8):Nat:=l.foldl (fun n c=>base*n+dv c) 0
def isHx (c:UInt8):Prop:=(48≤c.toNat∧c.toNat≤57)∨(65≤c.toNat∧c.toNat≤70)
theorem Z6R (base:Nat)(l:List UInt8)(c:UInt8):numV base (l ++ [c])=base*numV base l+dv c:=by simp [numV,List.foldl_append]
theorem take_snoc (l:List UInt8)(k:Nat)(c:UInt8)(h:l[k]?=some c):l.take (k+1)=l.take k ++ [c]:=by
 rw [List.take_add_one,h]
 rfl
theorem lower_hex (c:Int)(h1:65≤c)(h2:c≤70):bits BinOp.or IntKind.u8 c 32=c+32:=by
 obtain ⟨n,hn,rfl⟩:∃ n:Nat,n<6∧c=65+n:=⟨(c-65).toNat,by omega,by omega⟩
 have key:∀ n:Fin 6,bits BinOp.or IntKind.u8 (65+(n.val:Int)) 32=65+(n.val:Int)+32:=by decide
 exact key ⟨n,hn⟩
theorem dv_hex (c:UInt8)(h:isHx c):dv c≤15:=by
 unfold isHx at h
 unfold dv
 split <;> omega
theorem pu16_any (s:ByteArray)(w:World)(h0:0<s.size)(h4:s.size≤4)(hall:∀ j (h:j<s.size),isHx s[j]) :
  Calls Tryz.prog 351 #[.string s,.int .i64 16,.int .i64 32] w fun e w'=>e=.returned (.tuple #[.int .u64 (numV 16 s.data.toList:Nat),.nilIface])∧Below w.heap.size w w':=by
 obtain ⟨w1,cap,hrun,hcells,hfro,hb1,hsz⟩:=Z8B s w
 have HC:=Z0a hcells
 have HA:=Z0a hall
 have HL:=Z0a (fun c w=>Tryz.internal_strconv_lower c w)
 have hemp:s.toList.isEmpty=false:=by rw [Z0t,decide_eq_false_iff_not];omega
 have hmv:IntKind.u64.wrap (IntKind.u64.wrap 4294967296-1)=4294967295:=by
  rw [IntKind.wrap_u64,IntKind.wrap_u64]
  decide
 clear hcells hfro hall
 go_enter Tryz.func351,Tryz.ntmps351
 go_wp2_with fail
 go_loopw [12,13,101] (fun vu vn vi wr=>∃ (k:Nat) (a:Int),vu=.bool false∧vn=.int .u64 a∧vi=.int .i64 k∧wr=w1∧k≤s.size∧Hid (a=(numV 16 (s.data.toList.take k):Nat))∧0≤a∧a≤65535∧Hid ((k≤0→a≤0)∧(k≤1→a≤15)∧(k≤2→a≤255)∧(k≤3→a≤4095))) (fun _ _ vi _=>s.size-(intOf vi).toNat)
 case atStart=>exact ⟨0,0,by simp,by simp,by simp,by simp,by omega,Z0a (by simp [numV]),by omega,by omega,Z0a (by omega)⟩
 case round =>
  obtain ⟨k,a,rfl,rfl,rfl,rfl,hk,hN,ha0,ha1,ha2⟩:=hrel
  by_cases hlt:k<s.size
  ·have ck:=HC.out k hlt
   have hx:=HA.out k hlt
   have HG:=Z0a (Z3z s k hlt)
   obtain ⟨c,hc⟩:∃ c,s[k]=c:=⟨_,rfl⟩
   rw [hc] at ck hx HG
   have ha3:a≤4095:=by have:=ha2.out;omega
   have hsn:=take_snoc _ _ _ HG.out
   have HT:=Z0a hsn
   clear hc hsn
   rcases hx with ⟨h1,h2⟩ | ⟨h1,h2⟩
   ·have i1:(48:Int)≤(c.toNat:Int):=by omega
    have i2:(c.toNat:Int)≤(57:Int):=by omega
    have i3:¬ ((c.toNat:Int)=95):=by omega
    have i3b:((c.toNat:Int) == 95)=false:=by simp;omega
    have i4:(c.toNat:Int)-48<16:=by omega
    have i5:¬ (1152921504606846976≤a):=by omega
    have hd:(dv c:Int)=(c.toNat:Int)-48:=by unfold dv;rw [if_pos h2];omega
    have HD:=Z0a hd
    clear hd
    go_wp2_with fail
    go_roundw
    case rel =>
     have hz:a*16+((c.toNat:Int)-48)=((numV 16 (s.data.toList.take (k+1)):Nat):Int):=by
      rw [HT.out,Z6R]
      have e1:=hN.out
      have e2:=HD.out
      omega
     refine ⟨k+1,a*16+((c.toNat:Int)-48),by simp,?_,by go_num,by simp,by omega,Z0a hz,by omega,by omega,Z0a (by have:=ha2.out;omega)⟩
     go_num
    case measure=>simp [intOf];omega
   ·have i1:(48:Int)≤(c.toNat:Int):=by omega
    have i2:¬ ((c.toNat:Int)≤(57:Int)):=by omega
    have i3b:((c.toNat:Int) == 95)=false:=by simp;omega
    have i5:¬ (1152921504606846976≤a):=by omega
    have hlo:bits BinOp.or IntKind.u8 (c.toNat:Int) 32=(c.toNat:Int)+32:=lower_hex _ (by omega) (by omega)
    have HLC:=Z0a (fun w=>show Calls Tryz.prog 363 #[.int .u8 (c.toNat:Int)] w fun e w'=>e=.returned (.int .u8 ((c.toNat:Int)+32))∧w'=w by
     have:=HL.out (c.toNat:Int) w
     rw [hlo] at this
     exact this)
    have i6:(97:Int)≤(c.toNat:Int)+32:=by omega
    have i7:(c.toNat:Int)+32≤122:=by omega
    have i4:(c.toNat:Int)+32-97+10<16:=by omega
    have hd:(dv c:Int)=(c.toNat:Int)+32-97+10:=by unfold dv;rw [if_neg (by omega)];omega
    have HD:=Z0a hd
    clear hd hlo
    go_wp2_with (refine (HLC.out _).mono ?_;rintro e w2 ⟨rfl,rfl⟩)
    go_roundw
    case rel =>
     have hz:a*16+((c.toNat:Int)+32-97+10)=((numV 16 (s.data.toList.take (k+1)):Nat):Int):=by
      rw [HT.out,Z6R]
      have e1:=hN.out
      have e2:=HD.out
      omega
     refine ⟨k+1,a*16+((c.toNat:Int)+32-97+10),by simp,?_,by go_num,by simp,by omega,Z0a hz,by omega,by omega,Z0a (by have:=ha2.out;omega)⟩
     go_num
    case measure=>simp [intOf];omega
  ·have hkn:k=s.size:=by omega
   clear ha2
   go_wp2
   go_ret2
   refine ⟨?_,hb1⟩
   rw [hN.out,hkn,List.take_of_length_le (by rw [Array.length_toList];exact Nat.le_refl _)]
   rfl
theorem pu10_any (s:ByteArray)(w:World)(h0:0<s.size)(h4:s.size≤5)(hall:∀ j (h:j<s.size),isD s[j]=true) :
  Calls Tryz.prog 351 #[.string s,.int .i64 10,.int .i64 32] w fun e w'=>e=.returned (.tuple #[.int .u64 (numV 10 s.data.toList:Nat),.nilIface])∧Below w.heap.size w w':=by
 obtain ⟨w1,cap,hrun,hcells,hfro,hb1,hsz⟩:=Z8B s w
 have HC:=Z0a hcells
 have HA:=Z0a hall
 have hemp:s.toList.isEmpty=false:=by rw [Z0t,decide_eq_false_iff_not];omega
 have hmv:IntKind.u64.wrap (IntKind.u64.wrap 4294967296-1)=4294967295:=by
  rw [IntKind.wrap_u64,IntKind.wrap_u64]
  decide
 clear hcells hfro hall
 go_enter Tryz.func351,Tryz.ntmps351
 go_wp2_with fail
 go_loopw [12,13,101] (fun vu vn vi wr=>∃ (k:Nat) (a:Int),vu=.bool false∧vn=.int .u64 a∧vi=.int .i64 k∧wr=w1∧k≤s.size∧Hid (a=(numV 10 (s.data.toList.take k):Nat))∧0≤a∧a≤99999∧Hid ((k≤0→a≤0)∧(k≤1→a≤9)∧(k≤2→a≤99)∧(k≤3→a≤999)∧(k≤4→a≤9999))) (fun _ _ vi _=>s.size-(intOf vi).toNat)
 case atStart=>exact ⟨0,0,by simp,by simp,by simp,by simp,by omega,Z0a (by simp [numV]),by omega,by omega,Z0a (by omega)⟩
 case round =>
  obtain ⟨k,a,rfl,rfl,rfl,rfl,hk,hN,ha0,ha1,ha2⟩:=hrel
  by_cases hlt:k<s.size
  ·have ck:=HC.out k hlt
   have hx:=HA.out k hlt
   have HG:=Z0a (Z3z s k hlt)
   obtain ⟨c,hc⟩:∃ c,s[k]=c:=⟨_,rfl⟩
   rw [hc] at ck hx HG
   have ha3:a≤9999:=by have:=ha2.out;omega
   have hsn:=take_snoc _ _ _ HG.out
   have HT:=Z0a hsn
   clear hc hsn
   have ⟨h1,h2⟩:48≤c.toNat∧c.toNat≤57:=by simpa [isD] using hx
   clear hx
   have _:=trivial
   ·have i1:(48:Int)≤(c.toNat:Int):=by omega
    have i2:(c.toNat:Int)≤(57:Int):=by omega
    have i3:¬ ((c.toNat:Int)=95):=by omega
    have i3b:((c.toNat:Int) == 95)=false:=by simp;omega
    have i4:(c.toNat:Int)-48<10:=by omega
    have i5:¬ (1844674407370955162≤a):=by omega
    have hd:(dv c:Int)=(c.toNat:Int)-48:=by unfold dv;rw [if_pos h2];omega
    have HD:=Z0a hd
    clear hd
    go_wp2_with fail
    go_roundw
    case rel =>
     have hz:a*10+((c.toNat:Int)-48)=((numV 10 (s.data.toList.take (k+1)):Nat):Int):=by
      rw [HT.out,Z6R]
      have e1:=hN.out
      have e2:=HD.out
      omega
     refine ⟨k+1,a*10+((c.toNat:Int)-48),by simp,?_,by go_num,by simp,by omega,Z0a hz,by omega,by omega,Z0a (by have:=ha2.out;omega)⟩
     go_num
    case measure=>simp [intOf];omega
  ·have hkn:k=s.size:=by omega
   clear ha2
   go_wp2
   go_ret2
   refine ⟨?_,hb1⟩
   rw [hN.out,hkn,List.take_of_length_le (by rw [Array.length_toList];exact Nat.le_refl _)]
   rfl
theorem isHx_plain (c:UInt8)(h:isHx c):((c.toNat:Int) == 43)=false∧((c.toNat:Int) == 45)=false:=by
 unfold isHx at h
 constructor <;> (simp;omega)
theorem pi_any (base:Int)(s:ByteArray)(v:Nat)(w:World)(h0:0<s.size)(hv:v≤100000)(hfirst:isHx s[0])
  (hpu:∀ w,Calls Tryz.prog 351 #[.string s,.int .i64 base,.int .i64 32] w fun e w'=>e=.returned (.tuple #[.int .u64 (v:Nat),.nilIface])∧Below w.heap.size w w') :
  Calls Tryz.prog 337 #[.string s,.int .i64 base,.int .i64 32] w fun e w'=>e=.returned (.tuple #[.int .i64 (v:Nat),.nilIface])∧Below w.heap.size w w':=by
 have HP:=Z0a hpu
 have hemp:s.toList.isEmpty=false:=by rw [Z0t,decide_eq_false_iff_not];omega
 obtain ⟨p1,p2⟩:=isHx_plain _ hfirst
 obtain ⟨c,hc⟩:∃ c,s[0]=c:=⟨_,rfl⟩
 rw [hc] at p1 p2
 have q1:¬ ((2147483648:Int)≤(v:Int)):=by omega
 have hwr:IntKind.i64.wrap (v:Int)=v:=wrap_small _ (by omega) (by omega)
 clear hpu hfirst
 obtain ⟨x,hx⟩:∃ x:Int,(v:Int)=x:=⟨_,rfl⟩
 rw [hx] at q1 hwr ⊢
 simp only [hx] at HP
 clear hx hv
 go_enter Tryz.func337,Tryz.ntmps337
 go_wp2_with fail
 refine (HP.out _).mono ?_
 rintro e w1 ⟨rfl,hb⟩
 go_wp2_with fail
 go_ret2
 exact ⟨rfl,hb⟩
theorem Z5k (base:Int)(s:ByteArray)(v:Nat)(w:World)(h0:0<s.size)(hv:v≤100000)(hfirst:isHx s[0])
  (hpu:∀ w,Calls Tryz.prog 351 #[.string s,.int .i64 base,.int .i64 32] w fun e w'=>e=.returned (.tuple #[.int .u64 (v:Nat),.nilIface])∧Below w.heap.size w w') :
  Calls Tryz.prog 311 #[.string s,.int .i64 base,.int .i64 32] w fun e w'=>e=.returned (.tuple #[.int .i64 (v:Nat),.nilIface])∧Below w.heap.size w w':=by
 have HP:=Z0a (fun w=>pi_any base s v w h0 hv hfirst hpu)
 go_enter Tryz.func311,Tryz.ntmps311
 go_wp2_with (refine (HP.out _).mono ?_;rintro e w1 ⟨rfl,hb⟩)
 go_ret2
 exact ⟨rfl,hb⟩
def Z5X (t:List UInt8):List UInt8 × Nat × Nat × List UInt8 :=
 match Lib.hasPrefix t [48,88] with
 | true=>(t.drop 2,16,4,[48,49,50,51,52,53,54,55,56,57,65,66,67,68,69,70])
 | false=>(t,10,5,[48,49,50,51,52,53,54,55,56,57])
def numOf (t:List UInt8):Option Int :=
 if (Z5X t).1=[]∨((Z5X t).1.all fun c=>(Z5X t).2.2.2.contains c)=false then none
 else if (Z5X t).1.length > (Z5X t).2.2.1 then some 65536
 else some (min (numV (Z5X t).2.1 (Z5X t).1:Int) 65536)
theorem c16_asc:∀ (j:Nat) (b:UInt8),(#[48,49,50,51,52,53,54,55,56,57,65,66,67,68,69,70]:Array UInt8).toList[j]?=some b→b.toNat<128:=by
 intro j b h
 have:∀ b∈(#[48,49,50,51,52,53,54,55,56,57,65,66,67,68,69,70]:Array UInt8).toList,b.toNat<128:=by decide
 exact this b (List.mem_of_getElem? h)
theorem c10_asc:∀ (j:Nat) (b:UInt8),(#[48,49,50,51,52,53,54,55,56,57]:Array UInt8).toList[j]?=some b→b.toNat<128:=by
 intro j b h
 have:∀ b∈(#[48,49,50,51,52,53,54,55,56,57]:Array UInt8).toList,b.toNat<128:=by decide
 exact this b (List.mem_of_getElem? h)
theorem Z5S (s:ByteArray)(h:allIn (#[48,49,50,51,52,53,54,55,56,57,65,66,67,68,69,70]:Array UInt8).toList s=true)(c:UInt8)(hc:c∈s.data.toList):isHx c:=by
 unfold allIn at h
 have h1:=List.all_eq_true.1 h c hc
 have key:∀ c:UInt8,((#[48,49,50,51,52,53,54,55,56,57,65,66,67,68,69,70]:Array UInt8).toList.contains c)=true→(48≤c.toNat∧c.toNat≤57)∨(65≤c.toNat∧c.toNat≤70):=by
  intro c hc
  simp at hc
  rcases hc with h | h | h | h | h | h | h | h | h | h | h | h | h | h | h | h <;> subst h <;> decide
 exact key c h1
theorem Z8o (s:ByteArray)(h:allIn (#[48,49,50,51,52,53,54,55,56,57]:Array UInt8).toList s=true)(c:UInt8)(hc:c∈s.data.toList):isD c=true:=by
 unfold allIn at h
 have h1:=List.all_eq_true.1 h c hc
 simp at h1
 rcases h1 with h | h | h | h | h | h | h | h | h | h <;> subst h <;> decide
theorem isHx_of_D (c:UInt8)(h:isD c=true):isHx c:=by
 left
 simpa [isD] using h
theorem Z6h (base:Nat):∀ (l:List UInt8) (n m:Nat),n≤m→(∀ c∈l,dv c+1≤base)→(l.foldl (fun n c=>base*n+dv c) n)+1≤base ^ l.length*(m+1)
 | [],n,m,h,_=>by simp;exact h
 | c :: l,n,m,h,hc=>by
  have h1:=hc c (by simp)
  have h2:base*n+dv c≤base*m+base-1:=by
   have:=Nat.mul_le_mul_left base h
   omega
  have ih:=Z6h base l (base*n+dv c) (base*m+base-1) h2 (fun x hx=>hc x (List.mem_cons_of_mem _ hx))
  simp only [List.foldl_cons,List.length_cons]
  have e:base*m+base-1+1=base*(m+1):=by rw [Nat.mul_add,Nat.mul_one];omega
  rw [e] at ih
  rw [Nat.pow_succ,Nat.mul_assoc]
  exact ih
theorem numV_le16 (l:List UInt8)(h:l.length≤4)(hc:∀ c∈l,isHx c):numV 16 l≤100000:=by
 have:=Z6h 16 l 0 0 (Nat.le_refl _) (fun c hm=>by have:=dv_hex c (hc c hm);omega)
 have h2:16 ^ l.length≤16 ^ 4:=Nat.pow_le_pow_right (by omega) h
 unfold numV
 omega
theorem numV_le10 (l:List UInt8)(h:l.length≤5)(hc:∀ c∈l,isD c=true):numV 10 l≤100000:=by
 have:=Z6h 10 l 0 0 (Nat.le_refl _) (fun c hm=>by
  have:=hc c hm
  simp [isD] at this
  unfold dv
  rw [if_pos this.2]
  omega)
 have h2:10 ^ l.length≤10 ^ 5:=Nat.pow_le_pow_right (by omega) h
 unfold numV
 omega
def numE (o:Option Int):Ending:=match o with
 | some v=>.returned (.tuple #[.int .i64 v,.bool true])
 | none=>.returned (.tuple #[.int .i64 0,.bool false])
theorem Z7i (s:ByteArray)(w:World)(hs:s.size≤1000000) :
  Calls Tryz.prog 274 #[.string s] w fun e w'=>e=numE (numOf s.data.toList)∧Below w.heap.size w w':=by
 have HP:=Z0a (fun w=>Tryz.strings_HasPrefix s ⟨#[48,88]⟩ w)
 have hlen:Lib.hasPrefix s.data.toList [48,88]=true→2≤s.size:=by
  intro h
  unfold Lib.hasPrefix at h
  have:=(List.isPrefixOf_iff_prefix.1 h).length_le
  rw [Array.length_toList] at this
  exact this
 have e0:(⟨#[48,88]⟩:ByteArray).data.toList=[48,88]:=rfl
 rw [e0] at HP
 cases hp:Lib.hasPrefix s.data.toList [48,88] with
 | true =>
 have h2:=hlen hp
 have hsz2:(s.extract 2 s.size).size=s.size-2:=by rw [ByteArray.size_extract];omega
 rw [hp] at HP
 clear hlen e0
 have _:=trivial
 ·have hds:Z5X s.data.toList=(s.data.toList.drop 2,16,4,[48,49,50,51,52,53,54,55,56,57,65,66,67,68,69,70]):=by unfold Z5X;rw [hp]
  cases hz:decide ((s.extract 2 s.size).size=0) with
  | true =>
   have hz':(s.extract 2 s.size).size=0:=by simpa using hz
   have hem:(s.extract 2 s.size).toList.isEmpty=true:=by rw [Z0t];exact hz
   have e:numOf s.data.toList=none:=by
    unfold numOf
    rw [hds]
    have:s.data.toList.drop 2=[]:=by rw [←Z3i s 2];exact List.length_eq_zero_iff.1 (by rw [Array.length_toList];exact hz')
    simp [this]
   rw [e]
   have HT:=Z0a (fun w=>Z5J ⟨#[48,49,50,51,52,53,54,55,56,57,65,66,67,68,69,70]⟩ (s.extract 2 s.size) w (by rw [ByteArray.size_extract];omega) (by decide) (by decide) c16_asc)
   go_enter Tryz.func274,Tryz.ntmps274
   go_wp2_with (first | (go_at_call 309;refine (HP.out _).mono ?_;rintro e w1 ⟨rfl,rfl⟩) | (go_at_call 310;refine (HT.out _).mono ?_;rintro e w1 ⟨r,rfl,hb,hr⟩))
   go_ret2
   exact ⟨rfl,hb⟩
  | false =>
   have hz':¬ (s.extract 2 s.size).size=0:=by simpa using hz
   have hem:(s.extract 2 s.size).toList.isEmpty=false:=by rw [Z0t];exact hz
   have hne:s.data.toList.drop 2≠[]:=by
    rw [←Z3i s 2]
    intro h
    exact hz' (by have:=congrArg List.length h;rw [Array.length_toList] at this;exact this)
   have HT:=Z0a (fun w=>Z5J ⟨#[48,49,50,51,52,53,54,55,56,57,65,66,67,68,69,70]⟩ (s.extract 2 s.size) w (by rw [ByteArray.size_extract];omega) (by decide) (by decide) c16_asc)
   cases ha:allIn (#[48,49,50,51,52,53,54,55,56,57,65,66,67,68,69,70]).toList (s.extract 2 s.size) with
   | false =>
    have e:numOf s.data.toList=none:=by
     unfold numOf
     rw [hds]
     rw [if_pos]
     right
     rw [←Z3i s 2]
     exact ha
    rw [e]
    rw [ha] at HT
    go_enter Tryz.func274,Tryz.ntmps274
    go_wp2_with (first | (go_at_call 309;refine (HP.out _).mono ?_;rintro e w1 ⟨rfl,rfl⟩) | (go_at_call 310;refine (HT.out _).mono ?_;rintro e w1 ⟨r,rfl,hb,hr⟩))
    go_ret2
    exact ⟨rfl,hb⟩
   | true =>
    rw [ha] at HT
    by_cases hl:(4:Int)<(((s.size-2:Nat):Int):Int)
    ·have e:numOf s.data.toList=some 65536:=by
      unfold numOf
      rw [hds,if_neg,if_pos]
      ·rw [←Z3i s 2,Array.length_toList]
       show (s.extract 2 s.size).size > 4
       omega
      ·rintro (h | h)
       ·exact hne h
       ·rw [←Z3i s 2] at h
        unfold allIn at ha
        rw [ha] at h
        cases h
     rw [e]
     go_enter Tryz.func274,Tryz.ntmps274
     go_wp2_with (first | (go_at_call 309;refine (HP.out _).mono ?_;rintro e w1 ⟨rfl,rfl⟩) | (go_at_call 310;refine (HT.out _).mono ?_;rintro e w1 ⟨r,rfl,hb,hr⟩))
     go_ret2
     exact ⟨rfl,hb⟩
    ·obtain ⟨v,hv⟩:∃ v,numV 16 (s.extract 2 s.size).data.toList=v:=⟨_,rfl⟩
     have hv2:v≤100000:=by rw [←hv];exact numV_le16 _ (by rw [Array.length_toList];show (s.extract 2 s.size).size≤4;omega) (fun c hc=>Z5S _ ha c hc)
     have e:numOf s.data.toList=some (min (v:Int) 65536):=by
      unfold numOf
      rw [hds,if_neg,if_neg]
      ·simp only [←Z3i s 2,hv]
      ·rw [←Z3i s 2,Array.length_toList]
       show ¬ (s.extract 2 s.size).size > 4
       omega
      ·rintro (h | h)
       ·exact hne h
       ·rw [←Z3i s 2] at h
        unfold allIn at ha
        rw [ha] at h
        cases h
     rw [e]
     have HI:=Z0a (fun w=>Z5k 16 (s.extract 2 s.size) v w (by omega) hv2 (Z5S _ ha _ (List.mem_of_getElem? (Z3z _ 0 (by omega)))) (fun w=>by rw [←hv];exact pu16_any _ w (by omega) (by omega) (fun j h=>Z5S _ ha _ (List.mem_of_getElem? (Z3z _ j h)))))
     clear hv
     go_enter Tryz.func274,Tryz.ntmps274
     go_wp2_with (first | (go_at_call 309;refine (HP.out _).mono ?_;rintro e w1 ⟨rfl,rfl⟩) | (go_at_call 310;refine (HT.out _).mono ?_;rintro e w1 ⟨r,rfl,hb,hr⟩) | (go_at_call 311;refine (HI.out _).mono ?_;rintro e w2 ⟨rfl,hb2⟩))
     by_cases hm:(65536:Int)<(v:Int)
     ·go_region
      all_goals
       go_wp2
       go_ret2
       exact ⟨by rw [show min (v:Int) 65536=65536 by omega];rfl,(hb.trans (hb2.mono hb.size)).drew⟩
     ·go_region
      all_goals
       go_wp2
       go_ret2
       exact ⟨by rw [show min (v:Int) 65536=(v:Int) by omega];rfl,(hb.trans (hb2.mono hb.size)).drew⟩
 | false =>
 rw [hp] at HP
 clear hlen e0
 have _:=trivial
 ·have hds:Z5X s.data.toList=(s.data.toList,10,5,[48,49,50,51,52,53,54,55,56,57]):=by unfold Z5X;rw [hp]
  cases hz:decide (s.size=0) with
  | true =>
   have hz':s.size=0:=by simpa using hz
   have hem:s.toList.isEmpty=true:=by rw [Z0t];exact hz
   have e:numOf s.data.toList=none:=by
    unfold numOf
    rw [hds]
    have:s.data.toList=[]:=by exact List.length_eq_zero_iff.1 (by rw [Array.length_toList];exact hz')
    simp [this]
   rw [e]
   have HT:=Z0a (fun w=>Z5J ⟨#[48,49,50,51,52,53,54,55,56,57]⟩ s w (by exact hs) (by decide) (by decide) c10_asc)
   go_enter Tryz.func274,Tryz.ntmps274
   go_wp2_with (first | (go_at_call 309;refine (HP.out _).mono ?_;rintro e w1 ⟨rfl,rfl⟩) | (go_at_call 310;refine (HT.out _).mono ?_;rintro e w1 ⟨r,rfl,hb,hr⟩))
   go_ret2
   exact ⟨rfl,hb⟩
  | false =>
   have hz':¬ s.size=0:=by simpa using hz
   have hem:s.toList.isEmpty=false:=by rw [Z0t];exact hz
   have hne:s.data.toList≠[]:=by
    intro h
    exact hz' (by have:=congrArg List.length h;rw [Array.length_toList] at this;exact this)
   have HT:=Z0a (fun w=>Z5J ⟨#[48,49,50,51,52,53,54,55,56,57]⟩ s w (by exact hs) (by decide) (by decide) c10_asc)
   cases ha:allIn (#[48,49,50,51,52,53,54,55,56,57]).toList s with
   | false =>
    have e:numOf s.data.toList=none:=by
     unfold numOf
     rw [hds]
     rw [if_pos]
     right
     exact ha
    rw [e]
    rw [ha] at HT
    go_enter Tryz.func274,Tryz.ntmps274
    go_wp2_with (first | (go_at_call 309;refine (HP.out _).mono ?_;rintro e w1 ⟨rfl,rfl⟩) | (go_at_call 310;refine (HT.out _).mono ?_;rintro e w1 ⟨r,rfl,hb,hr⟩))
    go_ret2
    exact ⟨rfl,hb⟩
   | true =>
    rw [ha] at HT
    by_cases hl:(5:Int)<(s.size:Int)
    ·have e:numOf s.data.toList=some 65536:=by
      unfold numOf
      rw [hds,if_neg,if_pos]
      ·rw [Array.length_toList]
       show s.size > 5
       omega
      ·rintro (h | h)
       ·exact hne h
       ·unfold allIn at ha
        rw [ha] at h
        cases h
     rw [e]
     go_enter Tryz.func274,Tryz.ntmps274
     go_wp2_with (first | (go_at_call 309;refine (HP.out _).mono ?_;rintro e w1 ⟨rfl,rfl⟩) | (go_at_call 310;refine (HT.out _).mono ?_;rintro e w1 ⟨r,rfl,hb,hr⟩))
     go_ret2
     exact ⟨rfl,hb⟩
    ·obtain ⟨v,hv⟩:∃ v,numV 10 s.data.toList=v:=⟨_,rfl⟩
     have hv2:v≤100000:=by rw [←hv];exact numV_le10 _ (by rw [Array.length_toList];show s.size≤5;omega) (fun c hc=>Z8o _ ha c hc)
     have e:numOf s.data.toList=some (min (v:Int) 65536):=by
      unfold numOf
      rw [hds,if_neg,if_neg]
      ·simp only [hv]
      ·rw [Array.length_toList]
       show ¬ s.size > 5
       omega
      ·rintro (h | h)
       ·exact hne h
       ·unfold allIn at ha
        rw [ha] at h
        cases h
     rw [e]
     have HI:=Z0a (fun w=>Z5k 10 s v w (by omega) hv2 (isHx_of_D _ (Z8o _ ha _ (List.mem_of_getElem? (Z3z _ 0 (by omega))))) (fun w=>by rw [←hv];exact pu10_any _ w (by omega) (by omega) (fun j h=>Z8o _ ha _ (List.mem_of_getElem? (Z3z _ j h)))))
     clear hv
     go_enter Tryz.func274,Tryz.ntmps274
     go_wp2_with (first | (go_at_call 309;refine (HP.out _).mono ?_;rintro e w1 ⟨rfl,rfl⟩) | (go_at_call 310;refine (HT.out _).mono ?_;rintro e w1 ⟨r,rfl,hb,hr⟩) | (go_at_call 311;refine (HI.out _).mono ?_;rintro e w2 ⟨rfl,hb2⟩))
     by_cases hm:(65536:Int)<(v:Int)
     ·go_region
      all_goals
       go_wp2
       go_ret2
       exact ⟨by rw [show min (v:Int) 65536=65536 by omega];rfl,(hb.trans (hb2.mono hb.size)).drew⟩
     ·go_region
      all_goals
       go_wp2
       go_ret2
       exact ⟨by rw [show min (v:Int) 65536=(v:Int) by omega];rfl,(hb.trans (hb2.mono hb.size)).drew⟩
end Go.Proofs.YthokdbcpkmcieabGreatDoor
namespace Go.Proofs.YthokdbcpkmcieabGreatDoor
open Go Go.RowKit Go.WideMaps Go.Maps
def Z4w:List (List UInt8 × Nat):=[([65],0),([65,66],1),([67],2),([68,80,84,82],3),([64,65,43,68,80,84,82],4),([64,65,43,80,67],5),([64,68,80,84,82],6),([64,82],7),([82],8),([35,98,121,116,101],9),([35,119,111,114,100],10),([100,105,114],11),([98,105,116],12),([47,98,105,116],13),([97,100,100,114],14),([114,101,108],15),([112,97,103,101],16)]
def kindsD:DataW Unit:=Z4w.foldl (fun D kv=>D.put (.string kv.1) (.lit (.int .i64 kv.2))) (.map [])
theorem Z0B:Keyed Tryz.prog 9:=string_keyed Tryz.underlying9
theorem Z0i {H:Type}{P:Program}(w:World){ops:Array Oper}{rest:List Oper}{o:Oper}{a:Act}{Q:Exit→Act→World→Prop}
  (hg:o.guard=none) (m x v:Operand) (t:TypeId) (hop:o.op=Op.insert t m x v)
  (k e:TypeId) (K:Keyed P k) (ht:P.underlying t=some (.map k e)) (R:Value→Option (DataW H × List MemPlace)) (b n:Nat) (D:DataW H)
  (hm:a.eval m=.map (some b)) (hown:w.ownsMap P k R b n D) (hn:n<maxLen) (key val:Value) (kl:Lit) (hx:a.eval x=key) (hv:a.eval v=val) (hkey:keyOf P k key=some kl)
  (d:DataW H) (ps:List MemPlace) (hval:R val=some (d,ps))
  (hK:∀ w',w'.ownsMap P k R b (n+1) (D.put kl d)→w.grownBy w' (some b)→wpList P ops Q rest (a.put o.dst undef) w') :
  wpList P ops Q (o :: rest) a w:=by
 refine wpList_plain hg fun K' hK'=>?_
 obtain ⟨w',hrun,r1,r2⟩:=hown.update K ht hn hkey hval
 unfold Oper.wp
 simp [execOp,hop,hm,hx,hv,hrun,Result.andThen]
 exact hK' _ _ (hK w' r1 r2)
theorem kinds_any (w:World) :
  Calls Tryz.prog 146 #[] w fun e w'=>e=.returned (.map (some w.heap.size))∧w'.ownsMap Tryz.prog 9 (plainElem Tryz.prog 231) w.heap.size 17 kindsD∧Below w.heap.size w w':=by
 have hmm:=@run_makeMap Tryz.prog
 go_enter Tryz.func146,Tryz.ntmps146
 go_wp2_with (refine Z0i _ rfl _ _ _ 228 rfl 9 231 Z0B Tryz.underlying228 (plainElem (H:=Unit) Tryz.prog 231) w.heap.size 0 _ rfl (World.ownsMap_made _ _ _ _) (by unfold maxLen;omega) (.string ⟨#[65]⟩) (.int .i64 0) (.string [65]) rfl rfl (keyOf_string_mk Tryz.underlying9 (by decide)) (.lit (.int .i64 0)) [] (plainElem_int Tryz.underlying231 (by decide)) ?_;intro w1 h1 g1;refine Z0i _ rfl _ _ _ 228 rfl 9 231 Z0B Tryz.underlying228 (plainElem (H:=Unit) Tryz.prog 231) w.heap.size 1 _ rfl h1 (by unfold maxLen;omega) (.string ⟨#[65,66]⟩) (.int .i64 1) (.string [65,66]) rfl rfl (keyOf_string_mk Tryz.underlying9 (by decide)) (.lit (.int .i64 1)) [] (plainElem_int Tryz.underlying231 (by decide)) ?_;intro w2 h2 g2;refine Z0i _ rfl _ _ _ 228 rfl 9 231 Z0B Tryz.underlying228 (plainElem (H:=Unit) Tryz.prog 231) w.heap.size 2 _ rfl h2 (by unfold maxLen;omega) (.string ⟨#[67]⟩) (.int .i64 2) (.string [67]) rfl rfl (keyOf_string_mk Tryz.underlying9 (by decide)) (.lit (.int .i64 2)) [] (plainElem_int Tryz.underlying231 (by decide)) ?_;intro w3 h3 g3;refine Z0i _ rfl _ _ _ 228 rfl 9 231 Z0B Tryz.underlying228 (plainElem (H:=Unit) Tryz.prog 231) w.heap.size 3 _ rfl h3 (by unfold maxLen;omega) (.string ⟨#[68,80,84,82]⟩) (.int .i64 3) (.string [68,80,84,82]) rfl rfl (keyOf_string_mk Tryz.underlying9 (by decide)) (.lit (.int .i64 3)) [] (plainElem_int Tryz.underlying231 (by decide)) ?_;intro w4 h4 g4;refine Z0i _ rfl _ _ _ 228 rfl 9 231 Z0B Tryz.underlying228 (plainElem (H:=Unit) Tryz.prog 231) w.heap.size 4 _ rfl h4 (by unfold maxLen;omega) (.string ⟨#[64,65,43,68,80,84,82]⟩) (.int .i64 4) (.string [64,65,43,68,80,84,82]) rfl rfl (keyOf_string_mk Tryz.underlying9 (by decide)) (.lit (.int .i64 4)) [] (plainElem_int Tryz.underlying231 (by decide)) ?_;intro w5 h5 g5;refine Z0i _ rfl _ _ _ 228 rfl 9 231 Z0B Tryz.underlying228 (plainElem (H:=Unit) Tryz.prog 231) w.heap.size 5 _ rfl h5 (by unfold maxLen;omega) (.string ⟨#[64,65,43,80,67]⟩) (.int .i64 5) (.string [64,65,43,80,67]) rfl rfl (keyOf_string_mk Tryz.underlying9 (by decide)) (.lit (.int .i64 5)) [] (plainElem_int Tryz.underlying231 (by decide)) ?_;intro w6 h6 g6;refine Z0i _ rfl _ _ _ 228 rfl 9 231 Z0B Tryz.underlying228 (plainElem (H:=Unit) Tryz.prog 231) w.heap.size 6 _ rfl h6 (by unfold maxLen;omega) (.string ⟨#[64,68,80,84,82]⟩) (.int .i64 6) (.string [64,68,80,84,82]) rfl rfl (keyOf_string_mk Tryz.underlying9 (by decide)) (.lit (.int .i64 6)) [] (plainElem_int Tryz.underlying231 (by decide)) ?_;intro w7 h7 g7;refine Z0i _ rfl _ _ _ 228 rfl 9 231 Z0B Tryz.underlying228 (plainElem (H:=Unit) Tryz.prog 231) w.heap.size 7 _ rfl h7 (by unfold maxLen;omega) (.string ⟨#[64,82]⟩) (.int .i64 7) (.string [64,82]) rfl rfl (keyOf_string_mk Tryz.underlying9 (by decide)) (.lit (.int .i64 7)) [] (plainElem_int Tryz.underlying231 (by decide)) ?_;intro w8 h8 g8;refine Z0i _ rfl _ _ _ 228 rfl 9 231 Z0B Tryz.underlying228 (plainElem (H:=Unit) Tryz.prog 231) w.heap.size 8 _ rfl h8 (by unfold maxLen;omega) (.string ⟨#[82]⟩) (.int .i64 8) (.string [82]) rfl rfl (keyOf_string_mk Tryz.underlying9 (by decide)) (.lit (.int .i64 8)) [] (plainElem_int Tryz.underlying231 (by decide)) ?_;intro w9 h9 g9;refine Z0i _ rfl _ _ _ 228 rfl 9 231 Z0B Tryz.underlying228 (plainElem (H:=Unit) Tryz.prog 231) w.heap.size 9 _ rfl h9 (by unfold maxLen;omega) (.string ⟨#[35,98,121,116,101]⟩) (.int .i64 9) (.string [35,98,121,116,101]) rfl rfl (keyOf_string_mk Tryz.underlying9 (by decide)) (.lit (.int .i64 9)) [] (plainElem_int Tryz.underlying231 (by decide)) ?_;intro w10 h10 g10;refine Z0i _ rfl _ _ _ 228 rfl 9 231 Z0B Tryz.underlying228 (plainElem (H:=Unit) Tryz.prog 231) w.heap.size 10 _ rfl h10 (by unfold maxLen;omega) (.string ⟨#[35,119,111,114,100]⟩) (.int .i64 10) (.string [35,119,111,114,100]) rfl rfl (keyOf_string_mk Tryz.underlying9 (by decide)) (.lit (.int .i64 10)) [] (plainElem_int Tryz.underlying231 (by decide)) ?_;intro w11 h11 g11;refine Z0i _ rfl _ _ _ 228 rfl 9 231 Z0B Tryz.underlying228 (plainElem (H:=Unit) Tryz.prog 231) w.heap.size 11 _ rfl h11 (by unfold maxLen;omega) (.string ⟨#[100,105,114]⟩) (.int .i64 11) (.string [100,105,114]) rfl rfl (keyOf_string_mk Tryz.underlying9 (by decide)) (.lit (.int .i64 11)) [] (plainElem_int Tryz.underlying231 (by decide)) ?_;intro w12 h12 g12;refine Z0i _ rfl _ _ _ 228 rfl 9 231 Z0B Tryz.underlying228 (plainElem (H:=Unit) Tryz.prog 231) w.heap.size 12 _ rfl h12 (by unfold maxLen;omega) (.string ⟨#[98,105,116]⟩) (.int .i64 12) (.string [98,105,116]) rfl rfl (keyOf_string_mk Tryz.underlying9 (by decide)) (.lit (.int .i64 12)) [] (plainElem_int Tryz.underlying231 (by decide)) ?_;intro w13 h13 g13;refine Z0i _ rfl _ _ _ 228 rfl 9 231 Z0B Tryz.underlying228 (plainElem (H:=Unit) Tryz.prog 231) w.heap.size 13 _ rfl h13 (by unfold maxLen;omega) (.string ⟨#[47,98,105,116]⟩) (.int .i64 13) (.string [47,98,105,116]) rfl rfl (keyOf_string_mk Tryz.underlying9 (by decide)) (.lit (.int .i64 13)) [] (plainElem_int Tryz.underlying231 (by decide)) ?_;intro w14 h14 g14;refine Z0i _ rfl _ _ _ 228 rfl 9 231 Z0B Tryz.underlying228 (plainElem (H:=Unit) Tryz.prog 231) w.heap.size 14 _ rfl h14 (by unfold maxLen;omega) (.string ⟨#[97,100,100,114]⟩) (.int .i64 14) (.string [97,100,100,114]) rfl rfl (keyOf_string_mk Tryz.underlying9 (by decide)) (.lit (.int .i64 14)) [] (plainElem_int Tryz.underlying231 (by decide)) ?_;intro w15 h15 g15;refine Z0i _ rfl _ _ _ 228 rfl 9 231 Z0B Tryz.underlying228 (plainElem (H:=Unit) Tryz.prog 231) w.heap.size 15 _ rfl h15 (by unfold maxLen;omega) (.string ⟨#[114,101,108]⟩) (.int .i64 15) (.string [114,101,108]) rfl rfl (keyOf_string_mk Tryz.underlying9 (by decide)) (.lit (.int .i64 15)) [] (plainElem_int Tryz.underlying231 (by decide)) ?_;intro w16 h16 g16;refine Z0i _ rfl _ _ _ 228 rfl 9 231 Z0B Tryz.underlying228 (plainElem (H:=Unit) Tryz.prog 231) w.heap.size 16 _ rfl h16 (by unfold maxLen;omega) (.string ⟨#[112,97,103,101]⟩) (.int .i64 16) (.string [112,97,103,101]) rfl rfl (keyOf_string_mk Tryz.underlying9 (by decide)) (.lit (.int .i64 16)) [] (plainElem_int Tryz.underlying231 (by decide)) ?_;intro w17 h17 g17)
 go_ret
 refine ⟨rfl,h17,?_⟩
 have hz:w.heap.size≤w.heap.size:=Nat.le_refl _
 have b0:Below w.heap.size w (w.alloc (.map #[] 0)):=(Below.refl _ _).alloc (Nat.le_refl _) _
 have b1:=b0.grown g1 (by have:=b0.size;omega) (fun k hk=>by cases hk;exact Nat.le_refl _)
 have b2:=b1.grown g2 (by have:=b1.size;omega) (fun k hk=>by cases hk;exact Nat.le_refl _)
 have b3:=b2.grown g3 (by have:=b2.size;omega) (fun k hk=>by cases hk;exact Nat.le_refl _)
 have b4:=b3.grown g4 (by have:=b3.size;omega) (fun k hk=>by cases hk;exact Nat.le_refl _)
 have b5:=b4.grown g5 (by have:=b4.size;omega) (fun k hk=>by cases hk;exact Nat.le_refl _)
 have b6:=b5.grown g6 (by have:=b5.size;omega) (fun k hk=>by cases hk;exact Nat.le_refl _)
 have b7:=b6.grown g7 (by have:=b6.size;omega) (fun k hk=>by cases hk;exact Nat.le_refl _)
 have b8:=b7.grown g8 (by have:=b7.size;omega) (fun k hk=>by cases hk;exact Nat.le_refl _)
 have b9:=b8.grown g9 (by have:=b8.size;omega) (fun k hk=>by cases hk;exact Nat.le_refl _)
 have b10:=b9.grown g10 (by have:=b9.size;omega) (fun k hk=>by cases hk;exact Nat.le_refl _)
 have b11:=b10.grown g11 (by have:=b10.size;omega) (fun k hk=>by cases hk;exact Nat.le_refl _)
 have b12:=b11.grown g12 (by have:=b11.size;omega) (fun k hk=>by cases hk;exact Nat.le_refl _)
 have b13:=b12.grown g13 (by have:=b12.size;omega) (fun k hk=>by cases hk;exact Nat.le_refl _)
 have b14:=b13.grown g14 (by have:=b13.size;omega) (fun k hk=>by cases hk;exact Nat.le_refl _)
 have b15:=b14.grown g15 (by have:=b14.size;omega) (fun k hk=>by cases hk;exact Nat.le_refl _)
 have b16:=b15.grown g16 (by have:=b15.size;omega) (fun k hk=>by cases hk;exact Nat.le_refl _)
 have b17:=b16.grown g17 (by have:=b16.size;omega) (fun k hk=>by cases hk;exact Nat.le_refl _)
 exact b17
end Go.Proofs.YthokdbcpkmcieabGreatDoor
