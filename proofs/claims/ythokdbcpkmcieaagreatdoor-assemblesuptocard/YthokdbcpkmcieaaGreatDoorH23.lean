import Derived.ProofKit
import Derived.Great.BuildSlice
import Derived.Laws.AppendOwnNone
import Derived.Test.YthokdbcpkmcieaaGreatDoorH22
import Derived.RangeFuncNested
import Derived.RangeFuncBound
import Derived.Shelf.RegionOpen
import Derived.LoopNIn
import Derived.LoopIn
import Derived.Shelf.Strings.BuilderK
import Derived.Laws.EntriesVeiled
import Derived.Deep.DrawnRows
set_option maxRecDepth 200000
set_option maxHeartbeats 16000000
namespace Go.Proofs.YthokdbcpkmcieaaGreatDoor
open RowKit Proofs.Tryz
def BytesAt(w:World)(g off:Nat)(l:List UInt8):Prop:=∀i,i<l.length->w.cell? ⟨g,off+i,none⟩=some (.int .u8 ((l.getD i 0).toNat:Int))
def txt(l:List UInt8):ByteArray:=⟨l.toArray⟩
theorem wu{w:World}{base:Nat}{e:TypeId}{size n:Nat}{v:Value}{xs:List Value}(h:w.ownsRow base e size v n xs):∃a m c,v=.slice a m c:=Mcc
theorem Tryz.infoStr:(Tryz.prog.info? 9).map (fun i=>(i.zero,i.size,i.bytes))=some (some (.string ⟨#[]⟩),1,16):=aj
theorem xE{P:Program}{t:TypeId}{z:Option Value}{s b:Nat}(h:(P.info? t).map (fun i=>(i.zero,i.size,i.bytes))=some (z,s,b)):∃i,P.info? t=some i/\i.zero=z/\i.size=s/\i.bytes=b:=by
 cases hi:P.info? t with
 |none=>rw[hi]at h;cases h
 |some i=>
  rw[hi]at h;simp at h;exact⟨i,rfl,h.1,h.2.1,h.2.2⟩
theorem qO{w w':World}{base:Nat}{e:TypeId}{size n:Nat}{v:Value}{xs:List Value}(h:w.ownsRow base e size v n xs)(hb:∀j,v.ownBlock=some j->w'.heap[j]?=w.heap[j]?):w'.ownsRow base e size v n xs:=Mbs
theorem Tryz.infoU8E:(Tryz.prog.info? 5).map (fun i=>(i.zero,i.size,i.bytes))=some (some (.int .u8 0),1,1):=aj
def pA(l:List UInt8):List Value:=l.map fun b=>.int .u8 (b.toNat:Int)
theorem Z3G{w:World}{g:Nat}{l:List UInt8}(h:∀j u,(pA l)[j]?=some u->w.cell? ⟨g,j,none⟩=some u):BytesAt w g 0 l:=by
 intro i hi;rw[kN];refine h i _ ?_;unfold pA;rw[kS,jX hi,jZ,jX hi];rfl
theorem sg(l:List UInt8):(pA l).length=l.length:=by simp[pA]
theorem Z3p{w:World}{base g n A:Nat}{l:List UInt8}(h:w.ownsRow base 5 1 (.slice (some ⟨g,0,none⟩) n A) n (pA l)):BytesAt w g 0 l:=by
 apply Z3G;intro j u D;have:=h.cells (g:=g) rfl j u D;rwa [k9,kN]at this
theorem EK(w:World)(l:List Value)(t:TypeId):∀j u,l[j]?=some u->(w.alloc (.cells l.toArray t)).cell? ((⟨w.heap.size,0,none⟩:Addr).add j)=some u:=by
 intro j u A;rw[k9,kN];have:=T0H w l.toArray t (0,0) j;rw[this];simpa using A
theorem wG{w:World}{base:Nat}{e:TypeId}{size n:Nat}{v:Value}{xs:List Value}(h:w.ownsRow base e size v n xs)(hn:0<n):∃g A,v=.slice (some ⟨g,0,none⟩) n A/\base<=g/\g<w.heap.size:=by
 have D:=h.lt;obtain⟨_,⟨rfl,h0⟩|⟨g,A,I,rfl,G,_⟩⟩:=h
 ·omega
 exact⟨g,A,rfl,G,(D g rfl).2⟩
theorem World.alloc_size(w:World)(o:Obj):(w.alloc o).heap.size=w.heap.size+1:=af
theorem DN{w:World}{base g n A:Nat}{l:List UInt8}(hn:l.length=n)(h:w.ownsRow base 5 1 (.slice (some ⟨g,0,none⟩) n A) n (pA l)):(convert 32 9 (.slice (some ⟨g,0,none⟩) n A)).run prog w=.ok (.string (txt l)) w:=by
 have G:=Z3p h
 have:=og (P:=prog) w 32 9 5 ⟨g,0,none⟩ A l underlying32 underlying5 underlying9 (fun j D=>by
  have hc:=G j D;rw[jZ,jX D]at hc;rw[k9];exact hc)
 rw[hn]at this;exact this
theorem Z1P(l:List UInt8):(txt l).size=l.length:=by simp[txt,ByteArray.size]
theorem Gk(w:World)(base:Nat)(A:base<=w.heap.size)(l:List UInt8)(D:0<l.length)(G:l.length<=1000):(w.alloc (.cells (pA l).toArray 5)).ownsRow base 5 1 (.slice (some ⟨w.heap.size,0,none⟩) l.length l.length) l.length (pA l):=by
 refine⟨by rw[sg,kR],.inr ⟨w.heap.size,l.length,_,rfl,A,kg w _,jU,ak,by simp[pA],?_⟩⟩;rw[kR,<- sg l];simp
theorem FZ(r:ByteArray)(h:0<r.size):r.toList.isEmpty=false:=by
 rw[lB];cases A:r.data.toList with
 |nil=>
  have:r.size=r.data.toList.length:=aK;rw[this,A]at h;simp at h
 |cons a l=>rfl
def isL(c:UInt8):Bool:=(decide (97<=c.toNat)&&decide (c.toNat<=122))||decide (c.toNat=95)
def tN(c:UInt8):Bool:=isD c||(decide (97<=c.toNat)&&decide (c.toNat<=102))
def o8(c:UInt8):UInt8:=if 65<=c.toNat/\c.toNat<=90 then c+32 else c
def oQ(l:List UInt8):List UInt8:=l.map o8
def isLW(c:UInt8):Bool:=isL c||isD c
def pK(l:List UInt8):Nat:=(l.takeWhile isLW).length
theorem zz(c:UInt8)(w:World):Calls prog 128 #[.int .u8 (c.toNat:Int)] w fun e w'=>e=.returned (.bool (isD c))/\w'=w:=by
 by_cases h1:(48:Int)<=(c.toNat:Int)
 ·by_cases h2:(c.toNat:Int)<=(57:Int)
  ·have e:isD c=true:=by simp[isD];omega
   rw[e];go_enter func128,ntmps128;go_wp2;go_ret;simp
  exact MbM
 exact MbM
theorem JC(c:UInt8)(w:World):Calls prog 130 #[.int .u8 (c.toNat:Int)] w fun e w'=>e=.returned (.bool (isL c))/\w'=w:=by
 by_cases h1:(97:Int)<=(c.toNat:Int)
 ·by_cases h2:(c.toNat:Int)<=(122:Int)
  ·have e:isL c=true:=by simp[isL];omega
   rw[e];exact McI
  have e:isL c=false:=by simp[isL];omega
  have h3:((c.toNat:Int)==95)=false:=ai;rw[e];exact McI
 by_cases h4:(c.toNat:Int)=95
 ·have e:isL c=true:=by simp[isL];omega
  have h3:((c.toNat:Int)==95)=true:=by rw[h4];rfl
  rw[e];clear h4;exact McI
 have e:isL c=false:=by simp[isL];omega
 have h3:((c.toNat:Int)==95)=false:=by simpa using h4
 rw[e];clear h4;exact McI
theorem JE(c:UInt8)(w:World):Calls prog 188 #[.int .u8 (c.toNat:Int)] w fun e w'=>e=.returned (.bool (tN c))/\w'=w:=by
 have HD:=oP (zz c w);cases hd:isD c with
 |true=>
  rw[hd]at HD;have e:tN c=true:=by simp[tN,hd]
  exact Mbo
 |false=>
  rw[hd]at HD;by_cases h1:(97:Int)<=(c.toNat:Int)
  ·by_cases h2:(c.toNat:Int)<=(102:Int)
   ·have e:tN c=true:=by simp[tN];omega
    exact Mbo
   have e:tN c=false:=by simp[tN,hd];omega
   rw[e];go_enter func188,ntmps188;go_wp2_with (first| (go_at_call 128;refine HD.o.mono ?_;rintro e w1 ⟨rfl,rfl⟩));go_ret;simp;omega
  have e:tN c=false:=by simp[tN,hd];omega
  exact Mbo
theorem Z2I(l:List UInt8)(j:Nat)(A:j<l.length)(h:∀q,q<j->isLW (l.getD q 0)=true):(isLW (l.getD j 0)=false->pK l=j):=by
 intro hf;unfold pK;have e:l=l.take j++l.drop j:=(nB j l).symm
 have h1:∀c∈l.take j,isLW c=true:=fun c hc=>by
  obtain⟨q,hq,rfl⟩:=mP hc;rw[nD]at hq;have:=h q ae;rw[jZ,jX ae]at this;rw[T0t];exact this
 rw[e,T0I h1,lY A,lj];rw[jZ,jX A]at hf;have D:isLW l[j]=false:=hf;rw[D];simp;omega
theorem Z3m(l:List UInt8)(h:∀q,q<l.length->isLW (l.getD q 0)=true):pK l=l.length:=by
 unfold pK
 have h1:∀c∈l,isLW c=true:=fun c hc=>by
  obtain⟨q,hq,rfl⟩:=mP hc;have:=h q hq;rw[jZ,jX hq]at this;exact this
 have:=T0I (l₂:=[]) h1;rw[kX]at this;rw[this];simp
theorem Z7u(s:ByteArray)(hs:s.size<=4000000)(w:World):Calls prog 127 #[.string s] w fun e w'=>e=.returned (.int .i64 (pK s.data.toList:Int))/\w'=w:=by
 have O:s.data.toList.length=s.size:=aK;obtain⟨R,I⟩:=Zg0 (pK s.data.toList);rw[I];have S:=oP I;obtain⟨N,J⟩:=Zg0 s.size;have HN:=oP J;have Z4:(s.size:Int)=(N:Int):=ae;have V:(N:Int)<=4000000:=ae;have HL:=oP (O.trans J);clear I J O;go_enter func127,ntmps127;go_wp2_with fail;go_loopw [3] (fun i wr=>∃j:Nat,j<=N/\i=.int .i64 (j:Int)/\(∀q,q<j->isLW (s.data.toList.getD q 0)=true)/\wr=w) (fun i _=>N-(intOf i).toNat)
 case atStart=>exact⟨0,j4,rfl,fun q hq=>absurd hq (lH _),rfl⟩
 case round=>
  obtain⟨j,hj,rfl,U,rfl⟩:=hrel;have HA:=oP U;clear U;by_cases Kf:j<N
  ·have Z:(j:Int)<(N:Int):=by omega
   have WI3:j<s.size:=aA
   have M:s.data.toList.getD j 0=s[j]:=by
    rw[jZ,jX bQ];rfl
   obtain⟨c,hc⟩:=Zg0 (s[j]);rw[hc]at M;have HG:=oP M;have A:=oP (JC c wr);have D:=oP (zz c wr);clear M;cases h1:isL c with
   |true=>
    rw[h1]at A;have HX:Hid (isLW c=true):=by show isLW c=true;simp[isLW,h1]
    clear h1;go_wp2_with (first| (go_at_call 130;refine A.o.mono ?_;rintro e G ⟨rfl,rfl⟩));exact MaW
   |false=>
    rw[h1]at A;cases h2:isD c with
    |true=>
     rw[h2]at D;have HX:Hid (isLW c=true):=by show isLW c=true;simp[isLW,h2]
     clear h1 h2;go_wp2_with (first| (go_at_call 130;refine A.o.mono ?_;rintro e G ⟨rfl,rfl⟩)|(go_at_call 128;refine D.o.mono ?_;rintro e G ⟨rfl,rfl⟩));exact MaW
    |false=>
     rw[h2]at D
     have HX:Hid (R=j):=by
      show R=j;rw[<-S.o];exact Z2I _ j bQ HA.o (by rw[HG.o];simp[isLW,h1,h2])
     clear h1 h2;go_wp2_with (first| (go_at_call 130;refine A.o.mono ?_;rintro e G ⟨rfl,rfl⟩)|(go_at_call 128;refine D.o.mono ?_;rintro e G ⟨rfl,rfl⟩));go_ret;exact⟨by rw[HX.o];rfl,rfl⟩
  have Z:¬(j:Int)<(N:Int):=ae
  have HX:Hid (R=j):=by
   show R=j;have e:j=N:=ae;rw[<-S.o,e,<- HL.o];exact Z3m _ (fun q hq=>HA.o q (by rw[HL.o]at hq;omega))
  go_wp2;go_ret;exact⟨by rw[HX.o];rfl,rfl⟩
theorem Z1p{c:UInt8}(h1:65<=c.toNat)(h2:c.toNat<=90):((o8 c).toNat:Int)=(c.toNat:Int)+32:=by
 unfold o8;rw[jT ⟨h1,h2⟩,T0f];show (((c.toNat+32)%256:Nat):Int)=_;omega
theorem Z9X{c:UInt8}(h:¬(65<=c.toNat/\c.toNat<=90)):o8 c=c:=jS h
theorem Z3K(l:List UInt8)(j:Nat)(A:j<l.length):(oQ l).take (j+1)=(oQ l).take j++[o8 (l.getD j 0)]:=by
 unfold oQ;rw[lR,kS,jX A,jZ,jX A];rfl
theorem Z6W(w:World):(convert 32 9 (.slice none 0 0)).run prog w=.ok (.string ⟨#[]⟩) w:=by
 simp[convert,run_underlying underlying32,run_underlying underlying9,Conv.bytesToString,go_sem];rfl
theorem Z13{w:World}{base n:Nat}{v:Value}{l:List UInt8}(hn:l.length=n)(h:w.ownsRow base 5 1 v n (pA l)):(convert 32 9 v).run prog w=.ok (.string (txt l)) w:=by
 have h':=h;obtain⟨_,⟨rfl,rfl⟩|⟨g,A,D,rfl,_⟩⟩:=h
 ·have:l=[]:=ny hn;subst this;exact Z6W w
 exact DN hn h'
theorem Ab(s:ByteArray)(hs:s.size<=4000000)(w:World):Calls prog 126 #[.string s] w fun e w'=>e=.returned (.string (txt (oQ s.data.toList)))/\Below w.heap.size w w':=by
 obtain⟨i0,hi,KJ,KC,Ky⟩:=kQ Tryz.infoU8;have I:s.data.toList.length=s.size:=aK;obtain⟨L,J⟩:=Zg0 s.data.toList;rw[J]at I⊢;have Qs:=oP J;obtain⟨N,M⟩:=Zg0 s.size;have HN:=oP M;have Z4:(s.size:Int)=(N:Int):=ae;have V:(N:Int)<=4000000:=ae;have HL:=oP (I.trans M);clear M I J;go_enter func126,ntmps126;go_wp2_with fail;go_loopw [3,4] (fun v i wr=>∃(j:Nat) (A:Option Addr) (D G:Nat),j<=N/\v=.slice A D G/\i=.int .i64 (j:Int)/\wr.ownsRow w.heap.size 5 1 (.slice A D G) j (pA ((oQ L).take j))/\Below w.heap.size w wr) (fun _ i _=>N-(intOf i).toNat)
 case atStart=>exact⟨0,none,0,0,j4,rfl,rfl,kA,jV⟩
 case round=>
  obtain⟨j,A,D,G,hj,rfl,rfl,S,U⟩:=hrel;have Ki:=oP S;have HB:=oP U;clear S U;by_cases Kf:j<N
  ·have Z:(j:Int)<(N:Int):=by omega
   have WI3:j<s.size:=aA;have K2:j<L.length:=bQ;have O:L.getD j 0=s[j]:=McK;obtain⟨c,hc⟩:=Zg0 (s[j]);rw[hc]at O
   have HX:Hid ((oQ L).take (j+1)=(oQ L).take j++[o8 c]):=by
    have:=Z3K L j K2;rw[O]at this;exact this
   obtain⟨d,hd⟩:=Zg0 (o8 c);rw[hd]at HX;have HJ:Hid (j<N):=Kf;clear O K2;by_cases hu:65<=c.toNat/\c.toNat<=90
   ·have u1:(65:Int)<=(c.toNat:Int):=by omega
    have u2:(c.toNat:Int)<=90:=ae;have u3:=Z1p hu.1 hu.2;rw[hd]at u3
    have u4:IntKind.u8.wrap (IntKind.u8.wrap ((c.toNat:Int)-65)+97)=(d.toNat:Int):=by
     rw[lG,lG];omega
    have u5:IntKind.u8.wrap ((c.toNat:Int)-65)=(c.toNat:Int)-65:=aL;have u6:(c.toNat:Int)-65+97=(d.toNat:Int):=ae;have u7:IntKind.u8.wrap (d.toNat:Int)=(d.toNat:Int):=by rw[lG];have:=d.toNat_lt;omega
    clear u3 u4 hd hu;go_wp2_with (first| (at_builtin;refine kH _ rfl _ _ 32 rfl w.heap.size 5 i0 _ 1 1 underlying32 hi KJ KC Ky rfl ah _ _ _ rfl (Ki.o.alloc _) ⟨wr.heap.size,0,none⟩ 1 1 [.int .u8 (d.toNat:Int)] rfl rfl l8 ax ak ae bJ ?_;intro v' wn Kc Kg _ _;obtain⟨a',n',c',ev⟩:=rW Kc;subst ev));have ZX:=HB.o.size;have NU:Below w.heap.size w wn:=(HB.o.alloc HB.o.size _).grown Kg ai (fun k hk=>(Ki.o.lt k hk).1);go_wp2_with fail;go_roundw
    case rel=>
     refine⟨j+1,a',n',c',bH,rfl,ao,?_,NU⟩;rw[HX.o,show pA ((oQ L).take j++[d])=pA ((oQ L).take j)++[.int .u8 (d.toNat:Int)] by simp[pA]];exact Kc
    case measure=>have:=HJ.o;simp[intOf];omega
   rw[Z9X hu]at hd;subst hd;by_cases VN2:(65:Int)<=(c.toNat:Int)
   ·have u2:¬(c.toNat:Int)<=90:=by omega
    exact Mai
   exact Mai
  have Z:¬(j:Int)<(N:Int):=ae;have e:(oQ L).take j=oQ L:=lL (by unfold oQ;rw[kL,HL.o];omega);have R:=Ki.o;rw[e]at R;have O1:(convert 32 9 (.slice A D G)).run prog wr=.ok (.string (txt (oQ L))) wr:=Z13 (l:=oQ L) (n:=j) (by unfold oQ;rw[kL,HL.o];omega) R;clear R Ki e;go_wp2;go_ret;exact⟨rfl,HB.o⟩
theorem Z2L(l:List UInt8):∀u∈pA l,u.oneCell'=true:=by
 intro u A;obtain⟨m,_,rfl⟩:=lf.1 A;rfl
theorem below_drewN{n:Nat}{w A:World}(h:Below n w A)(m:Nat):Below n w (A.drewN m):=⟨h.os,h.tape,h.output,h.size,h.block⟩
theorem Jo(l:List UInt8):(txt l).size=l.length:=by simp[txt,ByteArray.size]
theorem Z2D(s:ByteArray)(k:Nat):(s.extract k s.size).data.toList=s.data.toList.drop k:=Mbq
/-! ## Once -/
theorem Z2Y{P:Program}{D:Func}{p:Tmp}{A:TypeId}(h:D.results=#[.cell p A])(tmps:Array Value)(w:World)(g:Nat)(cs:List Value)(d:TypeDesc)
  (G:tmps.getD p undef=.pointer (some ⟨g,0,none⟩)) (hc:w.rangeAt g 0 cs) (I:P.underlying A=some d) (hd:d.isRow=true) (hi:(P.info? A).map (·.size)=some cs.length):(results D tmps).run P w=.ok (.agg cs.toArray) w:=by
 have J:tmps[p]?.getD undef=.pointer (some ⟨g,0,none⟩):=by simpa using G
 simp[results,h,J,asAddr,run_loadVar_mid w g 0 A cs d hc I hd hi]
theorem vW(l:List UInt8):(txt l).data.toList=l:=by simp[txt]
structure RTok where
 kind:UInt8
 s:ByteArray
 n:Nat
 great:Bool
def RTok.cells(t:RTok):List Value:=[.int .u8 (t.kind.toNat:Int),.string t.s,.int .i64 (t.n:Int),.bool t.great]
def bangT:RTok:=⟨33,⟨#[]⟩,0,false⟩
def sF(c:UInt8):Nat:=if 97<=c.toNat then c.toNat-97+10 else c.toNat-48
def rnF(base:Nat):Nat->List UInt8->Nat
 |acc,[]=>acc
 |acc,c::l=>rnF base (min (base*acc+sF c) 10000000) l
def goodD(base:Nat)(c:UInt8):Bool:=isD c||(decide (base=16)&&tN c)
def yh(s:ByteArray):Nat×Nat×ByteArray:=if 1<s.size/\s.extract 0 2=⟨#[48,120]⟩ then (16,4,s.extract 2 s.size) else (10,5,s)
def ua(s:ByteArray)(base A:Nat)(d:ByteArray):RTok:=if d.data.toList=[]\/d.data.toList.all (goodD base)=false then bangT else ⟨110,s,rnF base 0 d.data.toList,decide (A<d.size)||decide (65535<rnF base 0 d.data.toList)⟩
def qL(s:ByteArray):RTok:=ua s (yh s).1 (yh s).2.1 (yh s).2.2
theorem Dz(base:Nat):∀(l:List UInt8) (acc:Nat) (c:UInt8),rnF base acc (l++[c])=min (base*rnF base acc l+sF c) 10000000
 |[],_,_=>rfl
 |_::l,_,c=>Dz base l _ c
theorem BB(base:Nat):∀(l:List UInt8) (acc:Nat),acc<=10000000->rnF base acc l<=10000000
 |[],_,h=>h
 |_::l,_,_=>BB base l _ (Nat.min_le_right _ _)
abbrev xN:Array Value:=#[.int .u8 0,.string ⟨#[]⟩,.int .i64 0,.bool false]
theorem JG{base:Nat}{l:List UInt8}{j:Nat}(A:j<l.length)(h:(l.take j).all (goodD base)=true):(l.take (j+1)).all (goodD base)=goodD base (l.getD j 0):=by
 rw[lR,jX A,oG,h,jZ,jX A];simp
theorem ED{base:Nat}{l:List UInt8}{j:Nat}(h:(l.take j).all (goodD base)=false):l.all (goodD base)=false:=by
 rw[<-nB j l,oG,h];rfl
structure yS(w wr:World)(s:ByteArray)(n:Nat):Prop where
 r:wr.heap[w.heap.size]?=some (.cells xN 170 (0,0))
 t:wr.heap[w.heap.size+1]?=some (.cells #[.int .u8 110,.string s,.int .i64 (n:Int),.bool false] 170 (0,0))
 b:Below w.heap.size w wr
theorem Z3F{x:ByteArray}{l:List UInt8}(h:x.toList=l):x=⟨l.toArray⟩:=by
 subst h;rcases x with⟨⟨l⟩⟩;congr 1;have:(⟨⟨l⟩⟩:ByteArray).toList=l:=by rw[lB]
 rw[this]
theorem Z1z(s:ByteArray)(hs:s.size<=4000000)(w:World):Calls prog 129 #[.string s] w fun e w'=>e=.returned (.agg (qL s).cells.toArray)/\Below w.heap.size w w':=by
 by_cases I:1<s.size/\s.extract 0 2=⟨#[48,120]⟩
 ·have KB:(1:Int)<(s.size:Int):=by omega
  have MC:=I.2;have PQ:(s.extract 2 s.size).size<=4000000:=aN;have Xj:qL s=ua s 16 4 (s.extract 2 s.size):=by unfold qL yh;rw[jT I]
  obtain⟨d,hd⟩:=Zg0 (s.extract 2 s.size);rw[hd]at PQ Xj;clear I;have YL:=oP Xj;have hl:d.data.toList.length=d.size:=aK;obtain⟨L,hL⟩:=Zg0 d.data.toList;rw[hL]at hl;have Qs:=oP hL;obtain⟨D,hD⟩:=Zg0 d.size;have HD:=oP hD;have S:(d.size:Int)=(D:Int):=ae;have U:(D:Int)<=4000000:=ae;have HL:=oP (hl.trans hD);by_cases h0:d=⟨#[]⟩
  ·have Vr:Hid (qL s=bangT):=by
    show qL s=bangT;rw[YL.o];unfold ua;rw[jT (.inl bu)]
   exact May
  have Kk:d.toList.isEmpty=false:=FZ d (by
   rcases T0D d.size with h|h
   ·exact absurd (by rcases d with⟨⟨l⟩⟩;have:l=[]:=ny h;rw[this]) h0
   ·exact h)
  have Vl:Hid (L≠[]):=by
   show L≠[];intro h;rw[h]at hL;exact h0 (by rcases d with⟨⟨l⟩⟩;have:l=[]:=hL;rw[this])
  obtain⟨V,P7⟩:=Zg0 ((w.alloc (.cells #[.int .u8 0,.string ⟨#[]⟩,.int .i64 0,.bool false] 170)).alloc (.cells #[.int .u8 110,.string s,.int .i64 0,.bool false] 170));have G:Hid (yS w V s 0):=MaK;have Z:=oP P7;clear Xj hL hD hl PQ h0 P7;go_enter func129,ntmps129;go_upto_region 2 with fail;rw[Z.o];go_wp2_with fail;go_loopw [6] (fun i wr=>∃j:Nat,j<=D/\i=.int .i64 (j:Int)/\(L.take j).all (goodD 16)=true/\yS w wr s (rnF 16 0 (L.take j))) (fun i _=>D-(intOf i).toNat)
  case atStart=>exact⟨0,j4,rfl,af,G.o⟩
  case round=>
   obtain⟨j,hj,rfl,KD,A⟩:=hrel;obtain⟨n,hn⟩:=Zg0 (rnF 16 0 (L.take j));rw[hn]at A;have Oc:n<=10000000:=fW;have J:=oP KD;have Up:=oP A;have M:=oP hn;have tR:=A.r;have tT:=A.t;have t2:wr.cell? ⟨w.heap.size+1,2,none⟩=some (.int .i64 (n:Int)):=bp;have f2:=kD wr (w.heap.size+1) 2 _ _ tT;have Vg:(n:Int)<=10000000:=ae;clear KD A hn;by_cases Kf:j<D
   ·have K6:(j:Int)<(D:Int):=by omega
    have WI3:j<d.size:=by rw[HD.o];exact Kf
    have K2:j<L.length:=bQ;have hg:L.getD j 0=d[j]:=McK;obtain⟨c,hc⟩:=Zg0 (d[j]);rw[hc]at hg;have LR:=JG K2 J.o;rw[hg]at LR;have OE:=oP (zz c wr);have Wa2:=oP (JE c wr);have U5:=c.toNat_lt
    have KF:Hid (rnF 16 0 (L.take (j+1))=min (16*n+sF c) 10000000):=by
     show _=_;rw[lR,jX K2];have:L[j]=c:=by rw[<-hg,jZ,jX K2];rfl
     rw[this];show rnF 16 0 (L.take j++[c])=_;rw[Dz,M.o]
    cases LH:goodD 16 c with
    |true=>
     have MT:Hid ((L.take (j+1)).all (goodD 16)=true):=LR.trans LH;obtain⟨v,hv⟩:=Zg0 (sF c);rw[hv]at KF;have WI6:v<=15:=Mce;have Ww4:IntKind.i64.wrap (16*(n:Int))=16*(n:Int):=ar;have NH:IntKind.i64.wrap (16*(n:Int)+(v:Int))=16*(n:Int)+(v:Int):=ar;obtain⟨m,hm⟩:=Zg0 (min (16*n+v) 10000000);rw[hm]at KF;have We6:min (16*(n:Int)+(v:Int)) 10000000=(m:Int):=ae;have Wc:Hid (yS w (wr.setCell ⟨w.heap.size+1,2,none⟩ (.int .i64 (m:Int))) s m):=Ma3;have HJ:Hid (j<D):=Kf;by_cases Tz:isD c=true
     ·rw[Tz]at OE;exact Man
     have R:isD c=false:=by simpa using Tz
     rw[R]at OE;have O:tN c=true:=by unfold goodD at LH;simpa [R]using LH
     rw[O]at Wa2;have hr:(97:Int)<=(c.toNat:Int)/\(c.toNat:Int)<=102:=by unfold tN at O;rw[R]at O;simp at O;omega
     have Pt:=hr.1;have Vc4:(c.toNat:Int)-97+10=(v:Int):=by rw[<-hv];unfold sF;rw[jT ae];omega
     have RW:IntKind.u8.wrap ((c.toNat:Int)-97)=(c.toNat:Int)-97:=aL;have Tv:IntKind.u8.wrap ((c.toNat:Int)-48)=(c.toNat:Int)-48:=aL;have Vt6:IntKind.i64.wrap (v:Int)=(v:Int):=ar;clear LH LR Tz R O hv hm hr hg Kf K2 Oc tR tT;go_wp2_with (first| (go_at_call 128;refine OE.o.mono ?_;rintro e w1 ⟨rfl,rfl⟩)|(go_at_call 188;refine Wa2.o.mono ?_;rintro e w1 ⟨rfl,rfl⟩));go_roundw
     case rel=>exact McS
     case measure=>have:=HJ.o;simp[intOf];omega
    |false=>
     have MT:Hid (L.all (goodD 16)=false):=ED (LR.trans LH);have Vr:Hid (qL s=bangT):=Mca;have z0:wr.cell? ⟨w.heap.size,0,none⟩=some (.int .u8 0):=aC;have z1:wr.cell? ⟨w.heap.size,1,none⟩=some (.string ⟨#[]⟩):=aC;have z2:wr.cell? ⟨w.heap.size,2,none⟩=some (.int .i64 0):=aC;have z3:wr.cell? ⟨w.heap.size,3,none⟩=some (.bool false):=aC;have y0:=kD wr w.heap.size 0 _ _ tR;have y1:=kD wr w.heap.size 1 _ _ tR;have y2:=kD wr w.heap.size 2 _ _ tR;have y3:=kD wr w.heap.size 3 _ _ tR;have Wa3:isD c=false:=MbJ;rw[Wa3]at OE;have MR:tN c=false:=by unfold goodD at LH;simp at LH;exact LH.2
     rw[MR]at Wa2;clear MR;exact Mat
   have ej:j=D:=ae;have eL:L.take j=L:=lL (by rw[HL.o];omega);have Og:=M.o;rw[eL]at Og;have KD:=J.o;rw[eL]at KD;have K6:¬(j:Int)<(D:Int):=ae;have t0:wr.cell? ⟨w.heap.size+1,0,none⟩=some (.int .u8 110):=bp;have t1:wr.cell? ⟨w.heap.size+1,1,none⟩=some (.string s):=bp;have t3:wr.cell? ⟨w.heap.size+1,3,none⟩=some (.bool false):=bp;have f3:=kD wr (w.heap.size+1) 3 _ _ tT;have z0:wr.cell? ⟨w.heap.size,0,none⟩=some (.int .u8 0):=aC;have z1:wr.cell? ⟨w.heap.size,1,none⟩=some (.string ⟨#[]⟩):=aC;have z2:wr.cell? ⟨w.heap.size,2,none⟩=some (.int .i64 0):=aC;have z3:wr.cell? ⟨w.heap.size,3,none⟩=some (.bool false):=aC;have y0:=kD wr w.heap.size 0 _ _ tR;have y1:=kD wr w.heap.size 1 _ _ tR;have y2:=kD wr w.heap.size 2 _ _ tR;have y3:=kD wr w.heap.size 3 _ _ tR;have MA:Hid (qL s=⟨110,s,n,decide (4<D)||decide (65535<n)⟩):=MbE;have Qa:(wr.setCell ⟨w.heap.size+1,3,none⟩ (.bool (decide (4<D)||decide (65535<n)))).heap[w.heap.size]?=some (.cells xN 170 (0,0)):=(kk wr ⟨w.heap.size+1,3,none⟩ w.heap.size _ er).trans tR;by_cases Vt7:(4:Int)<(D:Int)
   ·have hG:(decide (4<D)||decide (65535<n))=true:=by rw[kj (by omega:4<D)];rfl
    exact Mav
   by_cases Wk3:(65535:Int)<(n:Int)
   ·have hG:(decide (4<D)||decide (65535<n))=true:=by rw[j9 (by omega:¬4<D),kj (by omega:65535<n)];rfl
    exact Mav
   have hG:(decide (4<D)||decide (65535<n))=false:=by rw[j9 (by omega:¬4<D),j9 (by omega:¬65535<n)];rfl
   exact Mav
 have Xj:qL s=ua s 10 5 s:=by unfold qL yh;rw[jS I]
 have PQ:=hs
 rcases (show ¬(1:Int)<(s.size:Int)\/((1:Int)<(s.size:Int)/\((s.extract 0 2).toList==[48,120])=false) from by
  by_cases h1:1<s.size
  ·exact .inr ⟨ae,by
    refine T0g.2 (fun e=>I ⟨h1,?_⟩);have e2:(s.extract 0 2).toList=[48,120]:=dC;exact Z3F e2⟩
  ·exact .inl ae) with KB|⟨KB,Wk4⟩
 all_goals
  clear I;have YL:=oP Xj;have hl:s.data.toList.length=s.size:=aK;obtain⟨L,hL⟩:=Zg0 s.data.toList;rw[hL]at hl;have Qs:=oP hL;obtain⟨D,hD⟩:=Zg0 s.size;have HD:=oP hD;have S:(s.size:Int)=(D:Int):=ae;have U:(D:Int)<=4000000:=ae;have HL:=oP (hl.trans hD);by_cases h0:s=⟨#[]⟩
  ·have Vr:Hid (qL s=bangT):=by
    show qL s=bangT;rw[YL.o];unfold ua;rw[jT (.inl bu)]
   exact May
  have Kk:s.toList.isEmpty=false:=FZ s (by
   rcases T0D s.size with h|h
   ·exact absurd (by rcases s with⟨⟨l⟩⟩;have:l=[]:=ny h;rw[this]) h0
   ·exact h)
  have Vl:Hid (L≠[]):=by
   show L≠[];intro h;rw[h]at hL;exact h0 (by rcases s with⟨⟨l⟩⟩;have:l=[]:=hL;rw[this])
  obtain⟨V,P7⟩:=Zg0 ((w.alloc (.cells #[.int .u8 0,.string ⟨#[]⟩,.int .i64 0,.bool false] 170)).alloc (.cells #[.int .u8 110,.string s,.int .i64 0,.bool false] 170));have G:Hid (yS w V s 0):=MaK;have Z:=oP P7;clear Xj hL hD hl PQ h0 P7;go_enter func129,ntmps129;go_upto_region 2 with fail;rw[Z.o];go_wp2_with fail;go_loopw [6] (fun i wr=>∃j:Nat,j<=D/\i=.int .i64 (j:Int)/\(L.take j).all (goodD 10)=true/\yS w wr s (rnF 10 0 (L.take j))) (fun i _=>D-(intOf i).toNat)
  case atStart=>exact⟨0,j4,rfl,af,G.o⟩
  case round=>
   obtain⟨j,hj,rfl,KD,A⟩:=hrel;obtain⟨n,hn⟩:=Zg0 (rnF 10 0 (L.take j));rw[hn]at A;have Oc:n<=10000000:=fW;have J:=oP KD;have Up:=oP A;have M:=oP hn;have tR:=A.r;have tT:=A.t;have t2:wr.cell? ⟨w.heap.size+1,2,none⟩=some (.int .i64 (n:Int)):=bp;have f2:=kD wr (w.heap.size+1) 2 _ _ tT;have Vg:(n:Int)<=10000000:=ae;clear KD A hn;by_cases Kf:j<D
   ·have K6:(j:Int)<(D:Int):=by omega
    have WI3:j<s.size:=by rw[HD.o];exact Kf
    have K2:j<L.length:=bQ;have hg:L.getD j 0=s[j]:=McK;obtain⟨c,hc⟩:=Zg0 (s[j]);rw[hc]at hg;have LR:=JG K2 J.o;rw[hg]at LR;have OE:=oP (zz c wr);have Wa2:=oP (JE c wr);have U5:=c.toNat_lt
    have KF:Hid (rnF 10 0 (L.take (j+1))=min (10*n+sF c) 10000000):=by
     show _=_;rw[lR,jX K2];have:L[j]=c:=by rw[<-hg,jZ,jX K2];rfl
     rw[this];show rnF 10 0 (L.take j++[c])=_;rw[Dz,M.o]
    cases LH:goodD 10 c with
    |true=>
     have MT:Hid ((L.take (j+1)).all (goodD 10)=true):=LR.trans LH;obtain⟨v,hv⟩:=Zg0 (sF c);rw[hv]at KF;have WI6:v<=15:=Mce;have Ww4:IntKind.i64.wrap (10*(n:Int))=10*(n:Int):=ar;have NH:IntKind.i64.wrap (10*(n:Int)+(v:Int))=10*(n:Int)+(v:Int):=ar;obtain⟨m,hm⟩:=Zg0 (min (10*n+v) 10000000);rw[hm]at KF;have We6:min (10*(n:Int)+(v:Int)) 10000000=(m:Int):=ae;have Wc:Hid (yS w (wr.setCell ⟨w.heap.size+1,2,none⟩ (.int .i64 (m:Int))) s m):=Ma3;have HJ:Hid (j<D):=Kf;by_cases Tz:isD c=true
     ·rw[Tz]at OE;exact Man
     exfalso;unfold goodD at LH;simp[Tz]at LH
    |false=>
     have MT:Hid (L.all (goodD 10)=false):=ED (LR.trans LH);have Vr:Hid (qL s=bangT):=Mca;have z0:wr.cell? ⟨w.heap.size,0,none⟩=some (.int .u8 0):=aC;have z1:wr.cell? ⟨w.heap.size,1,none⟩=some (.string ⟨#[]⟩):=aC;have z2:wr.cell? ⟨w.heap.size,2,none⟩=some (.int .i64 0):=aC;have z3:wr.cell? ⟨w.heap.size,3,none⟩=some (.bool false):=aC;have y0:=kD wr w.heap.size 0 _ _ tR;have y1:=kD wr w.heap.size 1 _ _ tR;have y2:=kD wr w.heap.size 2 _ _ tR;have y3:=kD wr w.heap.size 3 _ _ tR;have Wa3:isD c=false:=MbJ;rw[Wa3]at OE;skip;exact Mat
   have ej:j=D:=ae;have eL:L.take j=L:=lL (by rw[HL.o];omega);have Og:=M.o;rw[eL]at Og;have KD:=J.o;rw[eL]at KD;have K6:¬(j:Int)<(D:Int):=ae;have t0:wr.cell? ⟨w.heap.size+1,0,none⟩=some (.int .u8 110):=bp;have t1:wr.cell? ⟨w.heap.size+1,1,none⟩=some (.string s):=bp;have t3:wr.cell? ⟨w.heap.size+1,3,none⟩=some (.bool false):=bp;have f3:=kD wr (w.heap.size+1) 3 _ _ tT;have z0:wr.cell? ⟨w.heap.size,0,none⟩=some (.int .u8 0):=aC;have z1:wr.cell? ⟨w.heap.size,1,none⟩=some (.string ⟨#[]⟩):=aC;have z2:wr.cell? ⟨w.heap.size,2,none⟩=some (.int .i64 0):=aC;have z3:wr.cell? ⟨w.heap.size,3,none⟩=some (.bool false):=aC;have y0:=kD wr w.heap.size 0 _ _ tR;have y1:=kD wr w.heap.size 1 _ _ tR;have y2:=kD wr w.heap.size 2 _ _ tR;have y3:=kD wr w.heap.size 3 _ _ tR;have MA:Hid (qL s=⟨110,s,n,decide (5<D)||decide (65535<n)⟩):=MbE;have Qa:(wr.setCell ⟨w.heap.size+1,3,none⟩ (.bool (decide (5<D)||decide (65535<n)))).heap[w.heap.size]?=some (.cells xN 170 (0,0)):=(kk wr ⟨w.heap.size+1,3,none⟩ w.heap.size _ er).trans tR;by_cases Vt7:(5:Int)<(D:Int)
   ·first
    |exfalso;omega
    |have hG:(decide (5<D)||decide (65535<n))=true:=by rw[kj (by omega:5<D)];rfl
     rw[hG]at MA Qa;have Mj:=oP (And.intro Qa tT);clear Og KD eL hG Qa tT tR Kf ej Oc;go_wp2;refine kf (kY rfl _ _ w.heap.size 170 _ (0,0) _ rfl (j7 (j7 (j7 (j7 Mj.o.1)))) underlying170 rfl aj) rfl ?_;rw[MA.o];exact⟨rfl,((((Up.o.b.setCell eo _).setCell jU _).setCell jU _).setCell jU _).setCell jU _⟩
   by_cases Wk3:(65535:Int)<(n:Int)
   ·have hG:(decide (5<D)||decide (65535<n))=true:=by rw[j9 (by omega:¬5<D),kj (by omega:65535<n)];rfl
    exact Mav
   have hG:(decide (5<D)||decide (65535<n))=false:=by rw[j9 (by omega:¬5<D),j9 (by omega:¬65535<n)];rfl
   exact Mav
