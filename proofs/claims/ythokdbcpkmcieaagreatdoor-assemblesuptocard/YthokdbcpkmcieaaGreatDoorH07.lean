import Derived.Shelf.Strings.Prefix
import Derived.Shelf.Strings.AsciiSet
import Derived.Shelf.Slices.Turned
import Derived.Shelf.Strconv.ParseIntPublic10
import Derived.Test.YthokdbcpkmcieaaGreatDoorH02
set_option maxRecDepth 200000
set_option maxHeartbeats 16000000
namespace Go.Proofs.YthokdbcpkmcieaaGreatDoor
open RowKit Shelf Proofs.Tryz
def isD(c:UInt8):Bool:=decide (48<=c.toNat)&&decide (c.toNat<=57)
def isW(c:UInt8):Bool:=isD c||(decide (65<=c.toNat)&&decide (c.toNat<=90))||decide (c.toNat=95)
def oZ(c:UInt8):UInt8:=if 97<=c.toNat/\c.toNat<=122 then c-32 else c
def tp(s:ByteArray):ByteArray:=⟨s.data.map oZ⟩
def runN(l:List UInt8):Nat:=(l.takeWhile isW).length
theorem J4(c:UInt8)(w:World) :
  Calls prog 204 #[.int .u8 (c.toNat:Int)] w fun e w'=>e=.returned (.bool (isD c))/\w'=w:=by
 by_cases h1:(48:Int)<=(c.toNat:Int)
 ·by_cases h2:(c.toNat:Int)<=(57:Int)
  ·have e:isD c=true:=by simp[isD];omega
   rw[e];go_enter func204,ntmps204;go_wp2;go_ret;simp
  exact MbL
 exact MbL
theorem Gm(a b:Int):(a==b)=decide (a=b):=by by_cases h:a=b <;> simp[h]
theorem Gl(c:UInt8)(w:World) :
  Calls prog 206 #[.int .u8 (c.toNat:Int)] w fun e w'=>e=.returned (.bool (isW c))/\w'=w:=by
 have A:=oP (J4 c);cases hd:isD c with
 |true=>
  have e:isW c=true:=by simp[isW,hd]
  rw[e];rw[hd]at A;go_enter func206,ntmps206;go_wp2_with (refine(A.o _).mono ?_;rintro e D ⟨rfl,rfl⟩);go_ret;simp
 |false=>
  rw[hd]at A
  have G:isW c=((decide ((65:Int)<=(c.toNat:Int))&&decide ((c.toNat:Int)<=90))||decide ((c.toNat:Int)=95)):=by
   simp only[isW,hd,mN];congr 1
   ·congr 1 <;> (simp only[oe];omega)
   simp only[oe];omega
  rw[G];by_cases h1:(65:Int)<=(c.toNat:Int)
  ·by_cases h2:(c.toNat:Int)<=(90:Int)
   ·go_enter func206,ntmps206;go_wp2_with (refine(A.o _).mono ?_;rintro e D ⟨rfl,rfl⟩);go_ret;refine⟨?_,af⟩;simp[h1,h2]
   go_enter func206,ntmps206;go_wp2_with (refine(A.o _).mono ?_;rintro e D ⟨rfl,rfl⟩);go_ret;refine⟨?_,af⟩;simp[h1,Gm]
  go_enter func206,ntmps206;go_wp2_with (refine(A.o _).mono ?_;rintro e D ⟨rfl,rfl⟩);go_ret;refine⟨?_,af⟩;have h3:¬(65:Int)<=(c.toNat:Int):=ae;simp[h3,Gm]
theorem Z97(l:List UInt8):∀(k:Nat),(∀j,j<k->∃c,l[j]?=some c/\isW c=true)->k<=runN l:=by
 induction l with
 |nil=>
  intro k h;cases k with
  |zero=>simp
  |succ k=>obtain⟨c,hc,_⟩:=h 0 ae;simp at hc
 |cons x l ih=>
  intro k h;cases k with
  |zero=>simp
  |succ k=>
   obtain⟨c,hc,hw⟩:=h 0 ae;simp at hc;subst hc
   have:=ih k (fun j A=>by
    obtain⟨c,hc,hw⟩:=h (j+1) ae;exact⟨c,by simpa using hc,hw⟩)
   simp only[runN,lj,hw,mC,kh]at this⊢;omega
theorem GB(l:List UInt8):∀(k:Nat),(∀j,j<k->∃c,l[j]?=some c/\isW c=true)->(∀c,l[k]?=some c->isW c=false)->runN l=k:=by
 induction l with
 |nil=>
  intro k h _;cases k with
  |zero=>rfl
  |succ k=>obtain⟨c,hc,_⟩:=h 0 ae;simp at hc
 |cons x l ih=>
  intro k h hn;cases k with
  |zero=>
   have:=hn x af;simp[runN,this]
  |succ k=>
   obtain⟨c,hc,hw⟩:=h 0 ae;simp at hc;subst hc
   have:=ih k (fun j A=>by
    obtain⟨c,hc,hw⟩:=h (j+1) ae;exact⟨c,by simpa using hc,hw⟩) (fun c hc=>hn c (by simpa using hc))
   simp only[runN,lj,hw,mC,kh]at this⊢;omega
theorem vh(s:ByteArray)(k:Nat)(h:k<s.size):s.data.toList[k]?=some s[k]:=by
 have h':k<s.data.size:=h;rw[oA,nX h'];rfl
theorem Z10(s:ByteArray)(w:World)(hs:s.size<=1000000) :
  Calls prog 203 #[.string s] w fun e w'=>e=.returned (.int .i64 (runN s.data.toList:Nat))/\w'=w:=by
 go_enter func203,ntmps203;go_wp2_with fail;go_loopw [6] (fun i wr=>∃k:Nat,k<=s.size/\i=.int .i64 k/\wr=w/\∀j,j<k->∃c,s.data.toList[j]?=some c/\isW c=true) (fun i _=>s.size-(intOf i).toNat)
 case atStart=>exact⟨0,j4,af,af,fun j h=>ae⟩
 case round=>
  obtain⟨k,hk,rfl,rfl,I⟩:=hrel;have D:=oP I;clear I;by_cases M:k<s.size
  ·have A:=oP (Gl s[k]);have J:=oP (vh s k M);cases hw:isW s[k] with
   |true=>
    rw[hw]at A;have O:=oP hw;clear hw;go_wp2_with (refine(A.o _).mono ?_;rintro e R ⟨rfl,rfl⟩);go_roundw
    case rel=>
     refine⟨k+1,ae,ao,af,fun j U=>?_⟩;rcases lQ j k with h|h
     ·exact D.o j h
     have:j=k:=ae;subst this;exact⟨_,J.o,O.o⟩
    case measure=>simp[intOf];omega
   |false=>
    rw[hw]at A;have G:=oP (GB s.data.toList k D.o (fun c hc=>by rw[J.o]at hc;cases hc;exact hw));clear hw;go_wp2_with (refine(A.o _).mono ?_;rintro e R ⟨rfl,rfl⟩);go_ret;rw[G.o];simp
  have S:k=s.size:=ae
  have G:=oP (GB s.data.toList k D.o (fun c hc=>by
   have:k<s.data.toList.length:=(mh.1 hc).1;rw[kE]at this;exact absurd this (by show ¬k<s.size;omega)))
  go_wp2;go_ret;rw[G.o,S];simp
theorem DL(s:ByteArray)(w:World):∃A D,(convert 9 32 (.string s)).run prog w=.ok (.slice (some ⟨w.heap.size,0,none⟩) s.size D) A/\(∀j (h:j<s.size),A.cell? ⟨w.heap.size,j,none⟩=some (.int .u8 (s[j].toNat:Int))) /\
  (∀j,j<s.size->A.frozen? ⟨w.heap.size,j,none⟩=false)/\Below w.heap.size w A/\A.heap.size=w.heap.size+1:=by
 refine⟨_,_,run_bytes_of_string w 9 32 5 s underlying9 underlying32 underlying5,?_,?_,?_,?_⟩
 ·intro j h;have h':j<s.data.size:=h
  have e:(w.drew.alloc (.cells (bytesRow s (grownCap w s.size 0 5)) 5 ((bytesRow s (grownCap w s.size 0 5)).size,(bytesRow s (grownCap w s.size 0 5)).size+1))).heap[w.heap.size]?=some (.cells (bytesRow s (grownCap w s.size 0 5)) 5 ((bytesRow s (grownCap w s.size 0 5)).size,(bytesRow s (grownCap w s.size 0 5)).size+1)):=by
   show (w.heap.push _)[w.heap.size]?=_;simp
  unfold World.cell?;rw[e];simp only[Option.isSome_none,nS,mB];unfold bytesRow;rw[Array.getElem?_append_left (by simpa using h'),Array.getElem?_map,nX h'];rfl
 ·intro j h;unfold World.frozen?
  have e:(w.drew.alloc (.cells (bytesRow s (grownCap w s.size 0 5)) 5 ((bytesRow s (grownCap w s.size 0 5)).size,(bytesRow s (grownCap w s.size 0 5)).size+1))).heap[w.heap.size]?=some (.cells (bytesRow s (grownCap w s.size 0 5)) 5 ((bytesRow s (grownCap w s.size 0 5)).size,(bytesRow s (grownCap w s.size 0 5)).size+1)):=by
   show (w.heap.push _)[w.heap.size]?=_;simp
  rw[e]
  have:s.size<=(bytesRow s (grownCap w s.size 0 5)).size:=by
   unfold bytesRow;rw[T0r,oE];show s.size<=s.size+_;omega
  simp;omega
 ·exact(jV).drew.alloc jU _
 show (w.heap.push _).size=_;simp
theorem Z9o(s:ByteArray)(j:Nat)(h:j<s.size):s.data.getD j 0=s[j]:=by
 have h':j<s.data.size:=h;rw[nK,nX h'];rfl
theorem addr_add(b j:Nat):Addr.add ⟨b,0,none⟩ j=⟨b,j,none⟩:=by
 unfold Addr.add;split <;> simp_all
theorem Z8D(s:ByteArray):(⟨(s.data.toList.map oZ).toArray⟩:ByteArray)=tp s:=by
 unfold tp;rw[<-Array.toList_map]
def vL(s:ByteArray)(k j:Nat):UInt8:=if j<k then oZ (s.data.getD j 0) else s.data.getD j 0
theorem Z1T(c:UInt8)(h:97<=c.toNat)(h2:c.toNat<=122):(c.toNat:Int)-97+65=((oZ c).toNat:Int):=by
 have e:oZ c=c-32:=by unfold oZ;rw[jT ⟨h,h2⟩]
 rw[e]
 have e2:(c-32).toNat=c.toNat-32:=by
  rw[UInt8.toNat_sub_of_le _ _ (by rw[UInt8.le_iff_toNat_le];show 32<=c.toNat;omega)];rfl
 rw[e2];omega
theorem Z4v(s:ByteArray)(w:World)(hs:s.size<=1000000) :
  Calls prog 202 #[.string s] w fun e w'=>e=.returned (.string (tp s))/\Below w.heap.size w w':=by
 obtain⟨w1,U,KZ,D,G,V,KB⟩:=DL s w;have Z:=oP D;have HF:=oP G;clear D G;go_enter func202,ntmps202;go_wp2_with fail;go_loopw [10] (fun i wr=>∃k:Nat,k<=s.size/\i=.int .i64 k/\(∀j,j<s.size->wr.cell? ⟨w.heap.size,j,none⟩=some (.int .u8 ((vL s k j).toNat:Int)))/\(∀j,j<s.size->wr.frozen? ⟨w.heap.size,j,none⟩=false)/\Below w.heap.size w wr/\w.heap.size<wr.heap.size) (fun i _=>s.size-(intOf i).toNat)
 case atStart=>
  refine⟨0,j4,af,fun j h=>?_,HF.o,V,ae⟩;rw[Z.o j h];simp only[vL,lH,mB];rw[Z9o s j h]
 case round=>
  obtain⟨k,hk,rfl,hc,hf,hb,Ou⟩:=hrel;by_cases I:k<s.size
  ·have ck:=hc k I;have fk:=hf k I;have J:vL s k k=s.data.getD k 0:=by simp[vL]
   rw[J]at ck;obtain⟨x,hx⟩:=Zg0 (s.data.getD k 0);rw[hx]at ck;have HX:=oP hx;have H1:=oP hc;have H2:=oP hf
   have M:∀j,j≠k->vL s (k+1) j=vL s k j:=by
    intro j hj;unfold vL;by_cases h:j<k
    ·rw[jT h,jT ae]
    rw[jS h,jS ae]
   have HS:=oP M;have O:vL s (k+1) k=oZ x:=by unfold vL;rw[jT ae,hx]
   have HK:=oP O;clear hx hc hf J M O;by_cases h1:(97:Int)<=(x.toNat:Int)
   ·by_cases h2:(x.toNat:Int)<=(122:Int)
    ·have HN:=oP (Z1T x ae ae);go_wp2;go_roundw
     case rel=>
      refine⟨k+1,ae,ao,fun j hj=>?_,fun j hj=>?_,hb.setCell af _,by simp[World.setCell,Ou]⟩
      ·by_cases e:j=k
       ·subst e;rw[kP _ ck,HK.o,<- HN.o]
       rw[j3 (by intro h;cases h;exact e rfl),HS.o j e];exact H1.o j hj
      rw[mO];exact H2.o j hj
     case measure=>simp[intOf];omega
    exact MaF
   exact MaF
  have LD:k=s.size:=ae;have A:(s.data.toList.map oZ).length=s.size:=by rw[kL,kE];rfl
  have R:=og (P:=prog) wr 32 9 5 ⟨w.heap.size,0,none⟩ U (s.data.toList.map oZ) underlying32 underlying5 underlying9 (fun j hj=>by
   rw[A]at hj;have h':j<s.data.size:=hj;have:=hc j hj;rw[addr_add,this];simp[vL,LD,hj])
  rw[A]at R
  have S:(⟨(s.data.toList.map oZ).toArray⟩:ByteArray)=tp s:=by
   exact Z8D s
  rw[S]at R;clear hc hf A S;go_wp2;go_ret;exact⟨rfl,hb⟩
end Go.Proofs.YthokdbcpkmcieaaGreatDoor
namespace Go.Proofs
open RowKit Shelf Proofs.Tryz
def Tryz.lays99_ren:Go.Shelf.Ren:=⟨fun| 99=>244|206=>268|n=>n,fun| 9=>9|4=>4|3=>3|n=>n,fun| n=>n⟩
theorem Tryz.lays99:Go.Proofs.Lays.n99 Tryz.prog Tryz.lays99_ren:={
 mixed:=by kernel_rfl
 f99:=Tryz.func244.trans (congrArg some (by kernel_rfl))
 f206:=Tryz.func268.trans (congrArg some (by kernel_rfl))
 t3:=Tryz.underlying3
 a3:=Tryz.isAgg3
 z3:=Tryz.sizeOf3
 v3:=Tryz.zeroValue3
 t4:=Tryz.underlying4
 a4:=Tryz.isAgg4
 z4:=Tryz.sizeOf4
 v4:=Tryz.zeroValue4
 t9:=Tryz.underlying9
 a9:=Tryz.isAgg9
 z9:=Tryz.sizeOf9
 v9:=Tryz.zeroValue9}
open Go.RowKit Go.Lib in
theorem Tryz.strings_HasPrefix(s p:ByteArray)(w:World) :
  Calls Tryz.prog 244 #[.string s,.string p] w fun e w'=>e=.returned (.bool (Lib.hasPrefix s.data.toList p.data.toList))/\w'=w:=Any.strings_HasPrefix Tryz.lays99 s p w
def Tryz.lays227_ren:Go.Shelf.Ren:=⟨fun| 227=>271|n=>n,fun| 9=>9|116=>355|4=>4|0=>0|3=>3|5=>5|n=>n,fun| n=>n⟩
theorem Tryz.lays227:Go.Proofs.Lays.n227 Tryz.prog Tryz.lays227_ren:={
 mixed:=by kernel_rfl
 f227:=Tryz.func271.trans (congrArg some (by kernel_rfl))
 t0:=Tryz.underlying0
 a0:=Tryz.isAgg0
 z0:=Tryz.sizeOf0
 v0:=Tryz.zeroValue0
 t3:=Tryz.underlying3
 a3:=Tryz.isAgg3
 z3:=Tryz.sizeOf3
 v3:=Tryz.zeroValue3
 t4:=Tryz.underlying4
 a4:=Tryz.isAgg4
 z4:=Tryz.sizeOf4
 v4:=Tryz.zeroValue4
 t5:=Tryz.underlying5
 a5:=Tryz.isAgg5
 z5:=Tryz.sizeOf5
 v5:=Tryz.zeroValue5
 t9:=Tryz.underlying9
 a9:=Tryz.isAgg9
 z9:=Tryz.sizeOf9
 v9:=Tryz.zeroValue9
 t116:=Tryz.underlying355
 a116:=Tryz.isAgg355
 z116:=Tryz.sizeOf355}
open Go.RowKit Go.Lib in
theorem Tryz.strings_makeASCIISet(hv116:∀w,(zeroValue 355).run Tryz.prog w=.ok (.agg (Array.replicate 256 (.bool false))) w)(chars:ByteArray)(w:World)(hs:chars.size<4294967281)(hascii:∀(j:Nat) b,chars.data.toList[j]?=some b->b.toNat<128) :
  Calls Tryz.prog 271 #[.string chars] w fun e w'=>e=.returned (.tuple #[.agg (Lib.setCells chars.data.toList),.bool true])/\w'=w.alloc (.cells (Lib.setCells chars.data.toList) 355):=Any.strings_makeASCIISet Tryz.lays227 hv116 (by kernel_rfl) chars w hs hascii
def Tryz.lays228_ren:Go.Shelf.Ren:=⟨fun| 228=>292|n=>n,fun| 124=>359|5=>5|4=>4|0=>0|116=>355|n=>n,fun| n=>n⟩
theorem Tryz.lays228:Go.Proofs.Lays.n228 Tryz.prog Tryz.lays228_ren:={
 mixed:=by kernel_rfl
 f228:=Tryz.func292.trans (congrArg some (by kernel_rfl))
 t0:=Tryz.underlying0
 a0:=Tryz.isAgg0
 z0:=Tryz.sizeOf0
 v0:=Tryz.zeroValue0
 t4:=Tryz.underlying4
 a4:=Tryz.isAgg4
 z4:=Tryz.sizeOf4
 v4:=Tryz.zeroValue4
 t5:=Tryz.underlying5
 a5:=Tryz.isAgg5
 z5:=Tryz.sizeOf5
 v5:=Tryz.zeroValue5
 t116:=Tryz.underlying355
 a116:=Tryz.isAgg355
 z116:=Tryz.sizeOf355
 t124:=Tryz.underlying359
 a124:=Tryz.isAgg359
 z124:=Tryz.sizeOf359
 v124:=Tryz.zeroValue359}
open Go.RowKit Go.Lib in
theorem Tryz.asciiSet_contains(b:Nat)(x:UInt8)(v:Bool)(w:World)(hc:w.cell? ⟨b,x.toNat,none⟩=some (.bool v)) :
  Calls Tryz.prog 292 #[.pointer (some ⟨b,0,none⟩),.int .u8 x.toNat] w fun e w'=>e=.returned (.bool v)/\w'=w:=Any.asciiSet_contains Tryz.lays228 b x v w hc
def Tryz.lays110_ren:Go.Shelf.Ren:=⟨fun| 110=>217|109=>253|n=>n,fun| 31=>22|9=>9|4=>4|3=>3|0=>0|n=>n,fun| n=>n⟩
theorem Tryz.lays110:Go.Proofs.Lays.n110 Tryz.prog Tryz.lays110_ren:={
 mixed:=by kernel_rfl
 f109:=Tryz.func253.trans (congrArg some (by kernel_rfl))
 f110:=Tryz.func217.trans (congrArg some (by kernel_rfl))
 t0:=Tryz.underlying0
 a0:=Tryz.isAgg0
 z0:=Tryz.sizeOf0
 v0:=Tryz.zeroValue0
 t3:=Tryz.underlying3
 a3:=Tryz.isAgg3
 z3:=Tryz.sizeOf3
 v3:=Tryz.zeroValue3
 t4:=Tryz.underlying4
 a4:=Tryz.isAgg4
 z4:=Tryz.sizeOf4
 v4:=Tryz.zeroValue4
 t9:=Tryz.underlying9
 a9:=Tryz.isAgg9
 z9:=Tryz.sizeOf9
 v9:=Tryz.zeroValue9
 t31:=Tryz.underlying22
 a31:=Tryz.isAgg22
 z31:=Tryz.sizeOf22
 v31:=Tryz.zeroValue22}
open Go.Lib in
theorem Tryz.slices_Contains_string(b off n c:Nat)(zs:List ByteArray)(x:ByteArray)(w:World)(hz:n<=zs.length)(hbig:n<=9223372036854775807)(hc:∀j,j<zs.length->w.cell? ⟨b,off+j,none⟩=some (.string (zs.getD j ByteArray.empty))) :
  Calls Tryz.prog 217 #[.slice (some ⟨b,off,none⟩) n c,.string x] w fun e w'=>e=.returned (.bool (Lib.containsS (zs.take n) x))/\w'=w:=Any.slices_Contains_string Tryz.lays110 b off n c zs x w hz hbig hc
def Tryz.lays321_ren:Go.Shelf.Ren:=⟨fun| 321=>314|n=>n,fun| 5=>5|n=>n,fun| n=>n⟩
theorem Tryz.lays321:Go.Proofs.Lays.n321 Tryz.prog Tryz.lays321_ren:={
 mixed:=by kernel_rfl
 f321:=Tryz.func314.trans (congrArg some (by kernel_rfl))
 t5:=Tryz.underlying5
 a5:=Tryz.isAgg5
 z5:=Tryz.sizeOf5
 v5:=Tryz.zeroValue5}
open Go.RowKit in
theorem Tryz.internal_strconv_lower(c:Int)(w:World) :
  Calls Tryz.prog 314 #[.int .u8 c] w fun e w'=>e=.returned (.int .u8 (bits .or .u8 c 32))/\w'=w:=Any.internal_strconv_lower Tryz.lays321 c w
end Go.Proofs
namespace Go.Proofs.YthokdbcpkmcieaaGreatDoor
open RowKit Shelf Proofs.Tryz
def allIn(C:List UInt8)(s:ByteArray):Bool:=s.data.toList.all fun c=>C.contains c
theorem vU(s:ByteArray)(k:Nat):(s.extract k s.size).data.toList=s.data.toList.drop k:=Mbq
theorem Z0O(s:ByteArray)(k:Nat):(s.extract 0 k).data.toList=s.data.toList.take k:=by
 rw[oh,oF,List.extract_eq_take_drop];simp
theorem Z5y(C:List UInt8)(s:ByteArray)(h:0<s.size)(hc:C.contains s[0]=true):allIn C (s.extract 1 s.size)=allIn C s:=by
 unfold allIn;rw[vU];have:=vh s 0 h;cases A:s.data.toList with
 |nil=>rfl
 |cons x l=>
  rw[A]at this;simp at this;subst this;simp;intro _;simpa using hc
theorem Z2G(C:List UInt8)(s:ByteArray)(h:0<s.size)(hc:C.contains (s[s.size-1]'(ae))=true):allIn C (s.extract 0 (s.size-1))=allIn C s:=by
 unfold allIn;rw[Z0O];have A:=vh s (s.size-1) ae;have D:s.data.toList.length=s.size:=kE
 have e:s.data.toList=s.data.toList.take (s.size-1)++[s[s.size-1]'(ae)]:=by
  conv=>lhs;rw[<-nB (s.size-1) s.data.toList]
  congr 1;have h1:(s.data.toList.drop (s.size-1)).length=1:=by rw[mD,D];omega
  match hd:s.data.toList.drop (s.size-1),h1 with
  |[y],_=>
   have:(s.data.toList.drop (s.size-1))[0]?=some y:=by rw[hd];rfl
   rw[mK]at this;simp only[kK]at this;rw[A]at this;cases this;rfl
 conv=>rhs;rw[e]
 rw[oG];simp;intro _;simpa using hc
theorem Z1s(C:List UInt8)(s:ByteArray)(h:0<s.size)(hc:C.contains s[0]=false):allIn C s=false:=by
 unfold allIn;rw[List.all_eq_false];exact⟨s[0],lT (vh s 0 h),by simp only[hc];simp⟩
theorem Z5w(C:List UInt8)(s:ByteArray)(h:0<s.size)(hc:C.contains (s[s.size-1]'(ae))=false):allIn C s=false:=by
 unfold allIn;rw[List.all_eq_false];exact⟨_,lT (vh s (s.size-1) ae),by simp only[hc];simp⟩
theorem Dq(C:List UInt8)(s:ByteArray)(h:s.size=0):allIn C s=true:=by
 unfold allIn;have:s.data.toList.length=0:=by rw[kE];exact h
 rw[mv.1 this];rfl
theorem Z3L(C:List UInt8)(s:ByteArray)(b:Nat)(w:World)(_hs:s.size<=1000000)(A:∀x:UInt8,w.cell? ⟨b,x.toNat,none⟩=some (.bool (C.contains x))) :
  Calls prog 272 #[.string s,.pointer (some ⟨b,0,none⟩)] w fun e w'=>∃r,e=.returned (.string r)/\w'=w/\r.size<=s.size/\allIn C r=allIn C s/\(r.size=0\/allIn C r=false):=by
 have I:=oP A;clear A;go_enter func272,ntmps272;go_wp2_with fail;go_loopw [0] (fun v wr=>∃r:ByteArray,v=.string r/\wr=w/\r.size<=s.size/\allIn C r=allIn C s) (fun v _=>match v with | .string r=>r.size|_=>0)
 case atStart=>exact⟨s,af,af,jU,rfl⟩
 case round=>
  obtain⟨r,rfl,rfl,KR,D⟩:=hrel;have HA:=oP D;clear D;by_cases G:0<r.size
  ·have J:(0:Int)<(r.size:Int):=by omega
   have HC:=oP (Tryz.asciiSet_contains b r[0] (C.contains r[0]) wr (I.o _));cases hc:C.contains r[0] with
   |true=>
    rw[hc]at HC;have HT:=oP (Z5y C r G hc);exact MaV
   |false=>
    rw[hc]at HC;have HT:=oP (Z1s C r G hc);exact Mbx
  exact Mb6
theorem Z6m(C:List UInt8)(s:ByteArray)(b:Nat)(w:World)(hs:s.size<=1000000)(G:∀x:UInt8,w.cell? ⟨b,x.toNat,none⟩=some (.bool (C.contains x))) :
  Calls prog 273 #[.string s,.pointer (some ⟨b,0,none⟩)] w fun e w'=>∃r,e=.returned (.string r)/\w'=w/\r.size<=s.size/\allIn C r=allIn C s/\(r.size=0\/allIn C r=false):=by
 have M:=oP G;clear G;go_enter func273,ntmps273;go_wp2_with fail;go_loopw [0] (fun v wr=>∃r:ByteArray,v=.string r/\wr=w/\r.size<=s.size/\allIn C r=allIn C s) (fun v _=>match v with | .string r=>r.size|_=>0)
 case atStart=>exact⟨s,af,af,jU,rfl⟩
 case round=>
  obtain⟨r,rfl,rfl,KR,I⟩:=hrel;have HA:=oP I;clear I;by_cases J:0<r.size
  ·have R:(0:Int)<(r.size:Int):=by omega
   obtain⟨m,S⟩:∃m,r.size=m+1:=⟨r.size-1,ae⟩;have A:m<r.size:=ae;have O:((r.size:Int)-1)=(m:Int):=ae;have HC:=oP (Tryz.asciiSet_contains b (r[m]'A) (C.contains (r[m]'A)) wr (M.o _));have D:(r.size-1)=m:=ae;cases hc:C.contains (r[m]'A) with
   |true=>
    rw[hc]at HC
    have HT:=oP (show allIn C (r.extract 0 m)=allIn C r by
     have:=Z2G C r J (by simp only[D];exact hc);rwa [D]at this)
    exact MaV
   |false=>
    rw[hc]at HC;have HT:=oP (Z5w C r J (by simp only[D];exact hc));exact Mbx
  exact Mb6
theorem JO:(prog.info? 355).map (·.size)=some 256:=aj
theorem Z3B:∀w,(zeroValue 355).run prog w=.ok (.agg (Array.replicate 256 (.bool false))) w:=fun w=>aj
theorem Bz(C:ByteArray)(s:ByteArray)(w:World)(hs:s.size<=1000000)(hC:2<=C.size)(Ps:C.size<=1000)(D:∀(j:Nat) b,C.data.toList[j]?=some b->b.toNat<128) :
  Calls prog 245 #[.string s,.string C] w fun e w'=>∃r,e=.returned (.string r)/\Below w.heap.size w w'/\(r.toList.isEmpty=allIn C.data.toList s):=by
 by_cases hz:s.size=0
 ·have h1:s.toList.isEmpty=true:=by rw[qw];simp[hz]
  go_enter func245,ntmps245;go_wp2;go_ret;exact⟨s,rfl,jV,by rw[h1,Dq _ _ hz]⟩
 have h1:s.toList.isEmpty=false:=by rw[qw];simp[hz]
 have h2:C.toList.isEmpty=false:=dy;have h3:((C.size:Int)==1)=false:=ai;have R:=oP (fun w=>Tryz.strings_makeASCIISet Z3B C w ae D);obtain⟨A,G⟩:=Zg0 (Lib.setCells C.data.toList);have S:∀x:UInt8,A[x.toNat]?=some (.bool (C.data.toList.contains x)):=fun x=>by rw[<-G];exact Lib.setCells_at _ _
 have SL:A.all (·.oneCell')=true:=by rw[<-G];exact Lib.setCells_one _
 have M:A.size=256:=by rw[<-G];exact Lib.setCells_size _
 have WX1:(prog.info? 355).map (·.size)=some A.size:=by rw[M];exact JO
 rw[G]at R;have O:=oP S;clear S G D;go_enter func245,ntmps245;go_wp2_with fail;refine(R.o _).mono ?_;rintro e w1 ⟨rfl,rfl⟩;have Ov:=run_storeCells_new (P:=prog) (w.alloc (.cells A 355)) 355 zeroCells355 A (by rw[M];exact JO) (by rw[M];kernel_rfl) SL;rw[show (w.alloc (.cells A 355)).heap.size=w.heap.size+1 by simp]at Ov
 have U:∀x:UInt8,((w.alloc (.cells A 355)).alloc (.cells A 355)).cell? ⟨w.heap.size+1,x.toNat,none⟩=some (.bool (C.data.toList.contains x)):=fun x=>by
  rw[World.cell?_alloc_at _ _ _ _ af];exact O.o x
 have I:=oP U;clear U;go_wp2_with fail;refine(Z6m C.data.toList s (w.heap.size+1) _ hs I.o).mono ?_;rintro e w2 ⟨r,rfl,rfl,V,Z,Sn⟩;have HR:=oP (And.intro V (And.intro Z Sn));clear V Z Sn;go_wp2_with fail;refine(Z3L C.data.toList r (w.heap.size+1) _ (by have:=HR.o.1;omega) I.o).mono ?_;rintro e w3 ⟨t,rfl,rfl,QK,RB,J⟩;have HT:=oP (And.intro QK (And.intro RB J));clear QK RB J;go_wp2;go_ret;refine⟨t,rfl,(jV.alloc jU _).alloc af _,?_⟩;rw[<-HR.o.2.1,<- HT.o.2.1,qw];rcases HT.o.2.2 with h|h
 ·rw[Dq _ _ h];simp[h]
 rw[h];simp only[lC];intro h0;rw[Dq _ _ h0]at h;cases h
def dv(c:UInt8):Nat:=if c.toNat<=57 then c.toNat-48 else c.toNat-55
def rj(base:Nat)(l:List UInt8):Nat:=l.foldl (fun n c=>base*n+dv c) 0
def vE(c:UInt8):Prop:=(48<=c.toNat/\c.toNat<=57)\/(65<=c.toNat/\c.toNat<=70)
theorem Da(base:Nat)(l:List UInt8)(c:UInt8):rj base (l++[c])=base*rj base l+dv c:=by simp[rj,List.foldl_append]
theorem FH(l:List UInt8)(k:Nat)(c:UInt8)(h:l[k]?=some c):l.take (k+1)=l.take k++[c]:=by
 rw[lR,h];rfl
theorem Z5o(c:Int)(h1:65<=c)(h2:c<=70):bits BinOp.or IntKind.u8 c 32=c+32:=by
 obtain⟨n,hn,rfl⟩:∃n:Nat,n<6/\c=65+n:=⟨(c-65).toNat,ae,ae⟩;have A:∀n:Fin 6,bits BinOp.or IntKind.u8 (65+(n.val:Int)) 32=65+(n.val:Int)+32:=ah;exact A ⟨n,hn⟩
theorem Z0i(c:UInt8)(h:vE c):dv c<=15:=by
 unfold vE at h;unfold dv;split <;> omega
theorem Z6h(s:ByteArray)(w:World)(h0:0<s.size)(h4:s.size<=4)(J:∀j (h:j<s.size),vE s[j]) :
  Calls prog 295 #[.string s,.int .i64 16,.int .i64 32] w fun e w'=>e=.returned (.tuple #[.int .u64 (rj 16 s.data.toList:Nat),.nilIface])/\Below w.heap.size w w':=by
 obtain⟨U,Kd,KZ,M,V,Kh,KB⟩:=DL s w;have Z:=oP M;have HA:=oP J;have HL:=oP (fun c w=>Tryz.internal_strconv_lower c w);have N6:s.toList.isEmpty=false:=dy
 have Vo0:IntKind.u64.wrap (IntKind.u64.wrap 4294967296-1)=4294967295:=by
  rw[oH,oH];decide
 clear M V J;go_enter func295,ntmps295;go_wp2_with fail;go_loopw [12,13,101] (fun vu vn A wr=>∃(k:Nat) (a:Int),vu=.bool false/\vn=.int .u64 a/\A=.int .i64 k/\wr=U/\k<=s.size/\Hid (a=(rj 16 (s.data.toList.take k):Nat))/\0<=a/\a<=65535/\Hid ((k<=0->a<=0)/\(k<=1->a<=15)/\(k<=2->a<=255)/\(k<=3->a<=4095))) (fun _ _ A _=>s.size-(intOf A).toNat)
 case atStart=>exact⟨0,0,af,af,af,af,ae,oP (by simp[rj]),ae,ae,oP ae⟩
 case round=>
  obtain⟨k,a,rfl,rfl,rfl,rfl,hk,hN,Wd3,Rc,Rd⟩:=hrel;by_cases D:k<s.size
  ·have ck:=Z.o k D;have hx:=HA.o k D;have O:=oP (vh s k D);obtain⟨c,hc⟩:=Zg0 (s[k]);rw[hc]at ck hx O;have ZM:a<=4095:=cD;have R:=FH _ _ _ O.o;have HT:=oP R;clear hc R;rcases hx with⟨h1,h2⟩|⟨h1,h2⟩
   ·have i1:(48:Int)<=(c.toNat:Int):=by omega
    have i2:(c.toNat:Int)<=(57:Int):=ae;have i3:¬((c.toNat:Int)=95):=ae;have G:((c.toNat:Int)==95)=false:=ai;have i4:(c.toNat:Int)-48<16:=ae;have i5:¬(1152921504606846976<=a):=ae;have hd:(dv c:Int)=(c.toNat:Int)-48:=by unfold dv;rw[jT h2];omega
    have HD:=oP hd;clear hd;go_wp2_with fail;go_roundw
    case rel=>
     have hz:a*16+((c.toNat:Int)-48)=((rj 16 (s.data.toList.take (k+1)):Nat):Int):=McH;refine⟨k+1,a*16+((c.toNat:Int)-48),af,?_,ao,af,ae,oP hz,ae,ae,oP cD⟩;go_num
    case measure=>simp[intOf];omega
   have i1:(48:Int)<=(c.toNat:Int):=ae;have i2:¬((c.toNat:Int)<=(57:Int)):=ae;have G:((c.toNat:Int)==95)=false:=ai;have i5:¬(1152921504606846976<=a):=ae;have S:bits BinOp.or IntKind.u8 (c.toNat:Int) 32=(c.toNat:Int)+32:=Z5o _ ae ae
   have I:=oP (fun w=>show Calls prog 314 #[.int .u8 (c.toNat:Int)] w fun e w'=>e=.returned (.int .u8 ((c.toNat:Int)+32))/\w'=w by
    have:=HL.o (c.toNat:Int) w;rw[S]at this;exact this)
   have i6:(97:Int)<=(c.toNat:Int)+32:=ae;have i7:(c.toNat:Int)+32<=122:=ae;have i4:(c.toNat:Int)+32-97+10<16:=ae;have hd:(dv c:Int)=(c.toNat:Int)+32-97+10:=by unfold dv;rw[jS ae];omega
   have HD:=oP hd;clear hd S;go_wp2_with (refine(I.o _).mono ?_;rintro e w2 ⟨rfl,rfl⟩);go_roundw
   case rel=>
    have hz:a*16+((c.toNat:Int)+32-97+10)=((rj 16 (s.data.toList.take (k+1)):Nat):Int):=McH;refine⟨k+1,a*16+((c.toNat:Int)+32-97+10),af,?_,ao,af,ae,oP hz,ae,ae,oP cD⟩;go_num
   case measure=>simp[intOf];omega
  exact MbA
theorem Z8x(s:ByteArray)(w:World)(h0:0<s.size)(h4:s.size<=5)(G:∀j (h:j<s.size),isD s[j]=true) :
  Calls prog 295 #[.string s,.int .i64 10,.int .i64 32] w fun e w'=>e=.returned (.tuple #[.int .u64 (rj 10 s.data.toList:Nat),.nilIface])/\Below w.heap.size w w':=by
 obtain⟨O,Kd,KZ,I,R,Kh,KB⟩:=DL s w;have S:=oP I;have U:=oP G;have N6:s.toList.isEmpty=false:=dy
 have V:IntKind.u64.wrap (IntKind.u64.wrap 4294967296-1)=4294967295:=by
  rw[oH,oH];decide
 clear I R G;go_enter func295,ntmps295;go_wp2_with fail;go_loopw [12,13,101] (fun Z vn A wr=>∃(k:Nat) (a:Int),Z=.bool false/\vn=.int .u64 a/\A=.int .i64 k/\wr=O/\k<=s.size/\Hid (a=(rj 10 (s.data.toList.take k):Nat))/\0<=a/\a<=99999/\Hid ((k<=0->a<=0)/\(k<=1->a<=9)/\(k<=2->a<=99)/\(k<=3->a<=999)/\(k<=4->a<=9999))) (fun _ _ A _=>s.size-(intOf A).toNat)
 case atStart=>exact⟨0,0,af,af,af,af,ae,oP (by simp[rj]),ae,ae,oP ae⟩
 case round=>
  obtain⟨k,a,rfl,rfl,rfl,rfl,hk,hN,Wd3,Rc,Rd⟩:=hrel;by_cases D:k<s.size
  ·have ck:=S.o k D;have hx:=U.o k D;have J:=oP (vh s k D);obtain⟨c,hc⟩:=Zg0 (s[k]);rw[hc]at ck hx J;have ZM:a<=9999:=cD;have M:=FH _ _ _ J.o;have HT:=oP M;clear hc M;have ⟨h1,h2⟩:48<=c.toNat/\c.toNat<=57:=by simpa [isD]using hx
   clear hx;have _:=trivial;have i1:(48:Int)<=(c.toNat:Int):=ae;have i2:(c.toNat:Int)<=(57:Int):=ae;have i3:¬((c.toNat:Int)=95):=ae;have WX4:((c.toNat:Int)==95)=false:=ai;have i4:(c.toNat:Int)-48<10:=ae;have i5:¬(1844674407370955162<=a):=ae;have hd:(dv c:Int)=(c.toNat:Int)-48:=by unfold dv;rw[jT h2];omega
   have HD:=oP hd;clear hd;go_wp2_with fail;go_roundw
   case rel=>
    have hz:a*10+((c.toNat:Int)-48)=((rj 10 (s.data.toList.take (k+1)):Nat):Int):=McH;refine⟨k+1,a*10+((c.toNat:Int)-48),af,?_,ao,af,ae,oP hz,ae,ae,oP cD⟩;go_num
   case measure=>simp[intOf];omega
  exact MbA
theorem Z0D(c:UInt8)(h:vE c):((c.toNat:Int)==43)=false/\((c.toNat:Int)==45)=false:=by
 unfold vE at h;constructor <;> (simp;omega)
theorem Z6I(base:Int)(s:ByteArray)(v:Nat)(w:World)(h0:0<s.size)(I:v<=100000)(D:vE s[0])
  (A:∀w,Calls prog 295 #[.string s,.int .i64 base,.int .i64 32] w fun e w'=>e=.returned (.tuple #[.int .u64 (v:Nat),.nilIface])/\Below w.heap.size w w') :
  Calls prog 276 #[.string s,.int .i64 base,.int .i64 32] w fun e w'=>e=.returned (.tuple #[.int .i64 (v:Nat),.nilIface])/\Below w.heap.size w w':=by
 have G:=oP A;have S:s.toList.isEmpty=false:=dy;obtain⟨J,M⟩:=Z0D _ D;obtain⟨c,hc⟩:=Zg0 (s[0]);rw[hc]at J M;have q1:¬((2147483648:Int)<=(v:Int)):=ae;have O:IntKind.i64.wrap (v:Int)=v:=wrap_small _ ae ae;clear A D;obtain⟨x,hx⟩:∃x:Int,(v:Int)=x:=⟨_,rfl⟩;rw[hx]at q1 O⊢;simp only[hx]at G;clear hx I;go_enter func276,ntmps276;go_wp2_with fail;refine(G.o _).mono ?_;rintro e U ⟨rfl,R⟩;go_wp2_with fail;go_ret2;exact⟨rfl,R⟩
theorem IA(base:Int)(s:ByteArray)(v:Nat)(w:World)(h0:0<s.size)(D:v<=100000)(G:vE s[0])
  (A:∀w,Calls prog 295 #[.string s,.int .i64 base,.int .i64 32] w fun e w'=>e=.returned (.tuple #[.int .u64 (v:Nat),.nilIface])/\Below w.heap.size w w') :
  Calls prog 246 #[.string s,.int .i64 base,.int .i64 32] w fun e w'=>e=.returned (.tuple #[.int .i64 (v:Nat),.nilIface])/\Below w.heap.size w w':=by
 have I:=oP (fun w=>Z6I base s v w h0 D G A);go_enter func246,ntmps246;go_wp2_with (refine(I.o _).mono ?_;rintro e M ⟨rfl,J⟩);go_ret2;exact⟨rfl,J⟩
def uD(t:List UInt8):List UInt8×Nat×Nat×List UInt8:=
 match Lib.hasPrefix t [48,88] with
 |true=>(t.drop 2,16,4,[48,49,50,51,52,53,54,55,56,57,65,66,67,68,69,70])
 |false=>(t,10,5,[48,49,50,51,52,53,54,55,56,57])
def numOf(t:List UInt8):Option Int:=
 if (uD t).1=[]\/((uD t).1.all fun c=>(uD t).2.2.2.contains c)=false then none
 else if (uD t).1.length>(uD t).2.2.1 then some 65536
 else some (min (rj (uD t).2.1 (uD t).1:Int) 65536)
theorem Jb:∀(j:Nat) (b:UInt8),(#[48,49,50,51,52,53,54,55,56,57,65,66,67,68,69,70]:Array UInt8).toList[j]?=some b->b.toNat<128:=by
 intro j b h;have:∀b∈(#[48,49,50,51,52,53,54,55,56,57,65,66,67,68,69,70]:Array UInt8).toList,b.toNat<128:=ah;exact this b (lT h)
theorem J0:∀(j:Nat) (b:UInt8),(#[48,49,50,51,52,53,54,55,56,57]:Array UInt8).toList[j]?=some b->b.toNat<128:=by
 intro j b h;have:∀b∈(#[48,49,50,51,52,53,54,55,56,57]:Array UInt8).toList,b.toNat<128:=ah;exact this b (lT h)
theorem Dr(s:ByteArray)(h:allIn (#[48,49,50,51,52,53,54,55,56,57,65,66,67,68,69,70]:Array UInt8).toList s=true)(c:UInt8)(hc:c∈s.data.toList):vE c:=by
 unfold allIn at h;have h1:=kx.1 h c hc
 have A:∀c:UInt8,((#[48,49,50,51,52,53,54,55,56,57,65,66,67,68,69,70]:Array UInt8).toList.contains c)=true->(48<=c.toNat/\c.toNat<=57)\/(65<=c.toNat/\c.toNat<=70):=by
  intro c hc;simp at hc;rcases hc with h|h|h|h|h|h|h|h|h|h|h|h|h|h|h|h <;> subst h <;> decide
 exact A c h1
theorem CD(s:ByteArray)(h:allIn (#[48,49,50,51,52,53,54,55,56,57]:Array UInt8).toList s=true)(c:UInt8)(hc:c∈s.data.toList):isD c=true:=by
 unfold allIn at h;have h1:=kx.1 h c hc;simp at h1;rcases h1 with h|h|h|h|h|h|h|h|h|h <;> subst h <;> decide
theorem Z8B(c:UInt8)(h:isD c=true):vE c:=by
 left;simpa [isD]using h
theorem DH(base:Nat):∀(l:List UInt8) (n m:Nat),n<=m->(∀c∈l,dv c+1<=base)->(l.foldl (fun n c=>base*n+dv c) n)+1<=base ^ l.length*(m+1)
 |[],n,m,h,_=>by simp;exact h
 |c::l,n,m,h,hc=>by
  have h1:=hc c af
  have h2:base*n+dv c<=base*m+base-1:=by
   have:=Nat.mul_le_mul_left base h
   omega
  have ih:=DH base l (base*n+dv c) (base*m+base-1) h2 (fun x hx=>hc x (mo _ hx))
  simp only[oi,kh]
  have e:base*m+base-1+1=base*(m+1):=by rw[Nat.mul_add,kR];omega
  rw[e]at ih
  rw[Nat.pow_succ,Nat.mul_assoc]
  exact ih
theorem Z3A(l:List UInt8)(h:l.length<=4)(hc:∀c∈l,vE c):rj 16 l<=100000:=by
 have:=DH 16 l 0 0 jU (fun c A=>by have:=Z0i c (hc c A);omega);have h2:16 ^ l.length<=16 ^ 4:=od ae h;unfold rj;omega
theorem Z9t(l:List UInt8)(h:l.length<=5)(hc:∀c∈l,isD c=true):rj 10 l<=100000:=by
 have:=DH 10 l 0 0 jU (fun c A=>by
  have:=hc c A;simp[isD]at this;unfold dv;rw[jT this.2];omega)
 have h2:10 ^ l.length<=10 ^ 5:=od ae h;unfold rj;omega
def DQ(o:Option Int):Ending:=match o with
 |some v=>.returned (.tuple #[.int .i64 v,.bool true])
 |none=>.returned (.tuple #[.int .i64 0,.bool false])
theorem Z2M(s:ByteArray)(w:World)(hs:s.size<=1000000) :
  Calls prog 205 #[.string s] w fun e w'=>e=DQ (numOf s.data.toList)/\Below w.heap.size w w':=by
 have HP:=oP (fun w=>Tryz.strings_HasPrefix s ⟨#[48,88]⟩ w)
 have I:Lib.hasPrefix s.data.toList [48,88]=true->2<=s.size:=by
  intro h;unfold Lib.hasPrefix at h;have:=(List.isPrefixOf_iff_prefix.1 h).length_le;rw[kE]at this;exact this
 have J:(⟨#[48,88]⟩:ByteArray).data.toList=[48,88]:=rfl;rw[J]at HP;cases G:Lib.hasPrefix s.data.toList [48,88] with
 |true=>
 have h2:=I G;have R:(s.extract 2 s.size).size=s.size-2:=aN;rw[G]at HP;clear I J;have _:=trivial
 ·have A:uD s.data.toList=(s.data.toList.drop 2,16,4,[48,49,50,51,52,53,54,55,56,57,65,66,67,68,69,70]):=by unfold uD;rw[G]
  cases hz:decide ((s.extract 2 s.size).size=0) with
  |true=>
   have Tq:(s.extract 2 s.size).size=0:=dA;have M:(s.extract 2 s.size).toList.isEmpty=true:=dB
   have e:numOf s.data.toList=none:=by
    unfold numOf;rw[A];have:s.data.toList.drop 2=[]:=by rw[<-vU s 2];exact mv.1 (by rw[kE];exact Tq)
    simp[this]
   rw[e];have HT:=oP (fun w=>Bz ⟨#[48,49,50,51,52,53,54,55,56,57,65,66,67,68,69,70]⟩ (s.extract 2 s.size) w aN ah ah Jb);exact MaQ
  |false=>
   have Tq:¬(s.extract 2 s.size).size=0:=dA;have M:(s.extract 2 s.size).toList.isEmpty=false:=dB
   have Kk:s.data.toList.drop 2≠[]:=by
    rw[<-vU s 2];exact Mcg
   have HT:=oP (fun w=>Bz ⟨#[48,49,50,51,52,53,54,55,56,57,65,66,67,68,69,70]⟩ (s.extract 2 s.size) w aN ah ah Jb);cases ha:allIn (#[48,49,50,51,52,53,54,55,56,57,65,66,67,68,69,70]).toList (s.extract 2 s.size) with
   |false=>
    have e:numOf s.data.toList=none:=by
     unfold numOf;rw[A];rw[jT];right;rw[<-vU s 2];exact ha
    exact MaN
   |true=>
    rw[ha]at HT;by_cases O:(4:Int)<(((s.size-2:Nat):Int):Int)
    ·have e:numOf s.data.toList=some 65536:=by
      unfold numOf;rw[A,jS,jT]
      ·rw[<-vU s 2,kE];show (s.extract 2 s.size).size>4;omega
      exact Mb0
     exact MaO
    obtain⟨v,hv⟩:=Zg0 (rj 16 (s.extract 2 s.size).data.toList);have D:v<=100000:=by rw[<-hv];exact Z3A _ (by rw[kE];show (s.extract 2 s.size).size<=4;omega) (fun c hc=>Dr _ ha c hc)
    have e:numOf s.data.toList=some (min (v:Int) 65536):=by
     unfold numOf;rw[A,jS,jS]
     ·simp only[<-vU s 2,hv]
     ·rw[<-vU s 2,kE];show ¬(s.extract 2 s.size).size>4;omega
     exact Mb0
    rw[e];have HI:=oP (fun w=>IA 16 (s.extract 2 s.size) v w ae D (Dr _ ha _ (lT (vh _ 0 ae))) (fun w=>by rw[<-hv];exact Z6h _ w ae ae (fun j h=>Dr _ ha _ (lT (vh _ j h)))));exact Mao
 |false=>
 rw[G]at HP;clear I J;have _:=trivial;have A:uD s.data.toList=(s.data.toList,10,5,[48,49,50,51,52,53,54,55,56,57]):=by unfold uD;rw[G]
 cases hz:decide (s.size=0) with
 |true=>
  have Tq:s.size=0:=dA;have M:s.toList.isEmpty=true:=dB
  have e:numOf s.data.toList=none:=by
   unfold numOf;rw[A];have:s.data.toList=[]:=by exact mv.1 (by rw[kE];exact Tq)
   simp[this]
  rw[e];have HT:=oP (fun w=>Bz ⟨#[48,49,50,51,52,53,54,55,56,57]⟩ s w (by exact hs) ah ah J0);exact MaQ
 |false=>
  have Tq:¬s.size=0:=dA;have M:s.toList.isEmpty=false:=dB;have Kk:s.data.toList≠[]:=Mcg;have HT:=oP (fun w=>Bz ⟨#[48,49,50,51,52,53,54,55,56,57]⟩ s w (by exact hs) ah ah J0);cases ha:allIn (#[48,49,50,51,52,53,54,55,56,57]).toList s with
  |false=>
   have e:numOf s.data.toList=none:=by
    unfold numOf;rw[A];rw[jT];right;exact ha
   exact MaN
  |true=>
   rw[ha]at HT;by_cases O:(5:Int)<(s.size:Int)
   ·have e:numOf s.data.toList=some 65536:=by
     unfold numOf;rw[A,jS,jT]
     ·rw[kE];show s.size>5;omega
     exact Mcv
    exact MaO
   obtain⟨v,hv⟩:=Zg0 (rj 10 s.data.toList);have D:v<=100000:=by rw[<-hv];exact Z9t _ (by rw[kE];show s.size<=5;omega) (fun c hc=>CD _ ha c hc)
   have e:numOf s.data.toList=some (min (v:Int) 65536):=by
    unfold numOf;rw[A,jS,jS]
    ·simp only[hv]
    ·rw[kE];show ¬s.size>5;omega
    exact Mcv
   rw[e];have HI:=oP (fun w=>IA 10 s v w ae D (Z8B _ (CD _ ha _ (lT (vh _ 0 ae)))) (fun w=>by rw[<-hv];exact Z8x _ w ae ae (fun j h=>CD _ ha _ (lT (vh _ j h)))));exact Mao
