import Derived.Test.YthokdbcpkmcieaaGreatDoorH21
set_option maxRecDepth 200000
set_option maxHeartbeats 16000000
namespace Go.Proofs.YthokdbcpkmcieaaGreatDoor
open RowKit Shelf WideMaps Maps Proofs.Tryz
def pJ(nm:List UInt8->Option Int)(p lo hi:Int):List (List Trm)->Option (List Int)
 |[]=>some []
 |e::es=>(qh nm p e lo hi).bind fun z=>(pJ nm p lo hi es).map (z :: ·)
theorem C0{nm:List UInt8->Option Int}{p lo hi:Int}:∀(l k:List (List Trm)),pJ nm p lo hi (l++k)=(pJ nm p lo hi l).bind fun a=>(pJ nm p lo hi k).map (a ++ ·)
 |[],k=>by simp[pJ]
 |e::l,k=>by
  have ih:=C0 (nm:=nm) (p:=p) (lo:=lo) (hi:=hi) l k
  simp only[mU,pJ,ih]
  cases qh nm p e lo hi with
  |none=>rfl
  |some z=>
   cases pJ nm p lo hi l with
   |none=>rfl
   |some a=>
    cases pJ nm p lo hi k with
    |none=>rfl
    |some b=>rfl
theorem Z96(nm:List UInt8->Option Int)(p lo hi:Int)(e:List Trm):pJ nm p lo hi [e]=(qh nm p e lo hi).map fun z=>[z]:=by
 simp only[pJ];cases qh nm p e lo hi <;> rfl
theorem CO{nm:List UInt8->Option Int}{p lo hi:Int}{es:List (List Trm)}{j:Nat}{A:List Int}(D:j<es.length)(h:pJ nm p lo hi (es.take j)=some A):pJ nm p lo hi (es.take (j+1))=(qh nm p es[j] lo hi).map fun z=>A++[z]:=by
 rw[lR,jX D,oK,C0,h,Z96];cases qh nm p es[j] lo hi <;> rfl
theorem DZ{nm:List UInt8->Option Int}{p lo hi:Int}{es:List (List Trm)}{j:Nat}(h:pJ nm p lo hi (es.take j)=none):pJ nm p lo hi es=none:=by
 have:=C0 (nm:=nm) (p:=p) (lo:=lo) (hi:=hi) (es.take j) (es.drop j);rw[nB,h]at this;exact this
theorem y8{nm:List UInt8->Option Int}{p lo hi:Int}:∀ {es:List (List Trm)} {A:List Int},pJ nm p lo hi es=some A->A.length=es.length
 |[],A,h=>by
  simp only[pJ]at h
  cases h
  rfl
 |e::es,A,h=>by
  simp only[pJ]at h
  obtain⟨z,_,h2⟩:=l9.1 h
  obtain⟨y,h3,rfl⟩:=kJ.1 h2
  rw[kh,kh,y8 h3]
structure FillPre(w:World)(m:AMem)(a:Asm)(base:Nat)(x:Stm)(v:Value)(p:Nat):Prop where
 at_:AsmAt w m a
 ok:∀l z,a.nm l=some z->-1000000<=z/\z<=1000000
 vals:VAt w base v x.vals
 great:pB x.vals=false
 trms:∀e∈x.vals,∀t∈e,t.name.size<=1000000/\0<=t.num
 cnt:pL x.vals<=1000000
 len:x.vals.length<=1000000
 pl:p<=1024
theorem FillPre.below{w w':World}{m:AMem}{a:Asm}{base:Nat}{x:Stm}{v:Value}{p:Nat}(h:FillPre w m a base x v p)(A:Below w.heap.size w w'):FillPre w' m a base x v p:=⟨h.at_.below A,h.ok,h.vals.below A,h.great,h.trms,h.cnt,h.len,h.pl⟩
theorem JV{e:List Trm}:∀ {es:List (List Trm)},e∈es->e.length<=pL es
 |x::es,h=>by
  have hc:pL (x::es)=x.length+pL es:=bV
  rw[hc]
  rcases kF.1 h with rfl|h
  ·omega
  have:=JV h
  omega
theorem FillPre.num{w:World}{m:AMem}{a:Asm}{base:Nat}{x:Stm}{va:Option Addr}{vn vc:Nat}{p:Nat}(h:FillPre w m a base x (.slice va vn vc) p)(j:Nat)(hj:j<x.vals.length):∃g A D xc,va=some ⟨g,0,none⟩/\w.cell? ⟨g,j,none⟩=some (.slice A D xc)/\∀(G:Int) (lb:ByteArray) (tk:Int) (I:ByteArray) (J:Option Addr) (M O:Nat) (R:Int) (S:Option Addr) (U V:Nat) (sz lo hi:Int),Calls prog 171 #[.pointer (some ⟨m.ab,0,none⟩),.agg #[.int .i64 G,.int .i64 (p:Int),.string lb,.int .i64 tk,.string I,.slice J M O,.int .u8 R,.slice S U V,.int .i64 sz],.slice A D xc,.int .i64 lo,.int .i64 hi] w fun e w'=>e=B4 (qh a.nm (p:Int) x.vals[j] lo hi) G/\Below w.heap.size w w':=by
 obtain⟨vs,h1,h2⟩:=h.vals;obtain⟨y,hy,hr⟩:=zQ h2 j hj;obtain⟨g,hg,hc⟩:=uM h1 ae hy;obtain⟨A,D,xc,rfl⟩:=tV hr;have Z:x.vals[j]∈x.vals:=kC hj;refine⟨g,A,D,xc,hg,hc,fun G lb tk I J M O R S U V sz lo hi=>?_⟩;exact Hw w m.ab _ _ _ m.nb _ _ _ base _ G (p:Int) lb tk I J M O R S U V sz A D xc lo hi h.at_.st hr (j8 (JV Z) h.cnt) (fun t ht=>(h.trms _ Z t ht).1) (fun t ht=>Z0f h.ok h.great (fun e he t ht=>(h.trms e he t ht).2) Z ht h.pl)
def zT(w:World)(D:Int)(o:Option (List Int))(e:Ending)(w':World):Prop:=
 Below w.heap.size w w'/\match o with
  |none=>e=.panicked (sH 6 D)
  |some A=>∃v,e=.returned v/\w'.ownsRow w.heap.size 5 1 v A.length (qg A)
def dbF(nm:List UInt8->Option Int)(p:Int)(es:List (List Trm)):Option (List Int):=(pJ nm p (-128) 255 es).map fun A=>A.map IntKind.u8.wrap
def wdB(A:List Int):List Int:=A.flatMap fun z=>[IntKind.u8.wrap (z/256),IntKind.u8.wrap z]
theorem DS(A:List Int):(wdB A).length=2*A.length:=by
 induction A with
 |nil=>rfl
 |cons z l ih=>
  have:wdB (z::l)=IntKind.u8.wrap (z/256)::IntKind.u8.wrap z::wdB l:=rfl;rw[this,kh,kh,kh,ih];omega
def dwF(nm:List UInt8->Option Int)(p:Int)(es:List (List Trm)):Option (List Int):=(pJ nm p (-32768) 65535 es).map wdB
theorem Z9a(w:World)(m:AMem)(a:Asm)(base:Nat)(x:Stm)(V:Option Addr)(A G:Nat)(p:Nat)(I:Int)(lb:ByteArray)(tk:Int)(J:ByteArray)(M:Int)(O:Option Addr)(S U:Nat)(sz:Int)(h:FillPre w m a base x (.slice V A G) p) :
  Calls prog 174 #[.pointer (some ⟨m.ab,0,none⟩),.agg #[.int .i64 I,.int .i64 (p:Int),.string lb,.int .i64 tk,.string J,.slice V A G,.int .u8 M,.slice O S U,.int .i64 sz]] w (zT w I (dbF a.nm (p:Int) x.vals)):=by
 obtain⟨i0,hi,KJ,KC,Ky⟩:=kQ Tryz.infoU8;obtain⟨W,hW,K1,NY,Z⟩:=tv w I (p:Int) lb tk J (.slice V A G) M (.slice O S U) sz;have P9:A=x.vals.length:=McN;have Kl:=h.len;obtain⟨R,hR⟩:=Zg0 (dbF a.nm (p:Int) x.vals);rw[hR];have HR:=oP hR;have HP:Hid (FillPre W m a base x (.slice V A G) p):=h.below K1;have Kz:Hid (∀w',Below W.heap.size W w'->SS w' w.heap.size I (p:Int) lb tk J (.slice V A G) M (.slice O S U) sz):=fun w' hb=>Z.grown (hb.block _ Z.lt) hb.size
 have HB:=oP K1;have t5:=Z.c5;have WF4:(A:Int)<=1000000:=ae;have Wb:=oP P9;clear h K1 Z hR P9 Kl;go_enter func174,ntmps174;go_wp2_with fail;go_loopw [5,12] (fun s5 i wr=>∃(j:Nat) (D:List Int) (ya:Option Addr) (yn yc:Nat),j<=A/\i=.int .i64 j/\s5=.slice ya yn yc/\D.length=j/\pJ a.nm (p:Int) (-128) 255 (x.vals.take j)=some D/\wr.ownsRow W.heap.size 5 1 (.slice ya yn yc) (D.map IntKind.u8.wrap).length (qg (D.map IntKind.u8.wrap))/\Below W.heap.size W wr) (fun _ i _=>A-(intOf i).toNat)
 case atStart=>exact⟨0,[],none,0,0,j4,rfl,rfl,rfl,rfl,kA,jV⟩
 case round=>
  obtain⟨j,D,ya,yn,yc,hj,rfl,rfl,Sx,NG,Ke,hB⟩:=hrel;have Ki:=oP Ke;have Lu:=oP hB;have Wa1:=oP NG;have Ty:=oP Sx;by_cases Kf:j<A
  ·have K6:(j:Int)<(A:Int):=by omega
   have K2:j<x.vals.length:=eT;obtain⟨g,xa,xn,xc,YK,cg,HN⟩:=(HP.o.below hB).num j K2;subst YK;have hs:=Kz.o wr hB;have s0:=hs.c0;have s1:=hs.c1;have s2:=hs.c2;have s3:=hs.c3;have s4:=hs.c4;have s5:=hs.c5;have s6:=hs.c6;have s7:=hs.c7;have s8:=hs.c8;have Le:=oP (HN I lb tk J (some ⟨g,0,none⟩) A G M O S U sz (-128) 255);have LR:=CO K2 NG;have Vc2:A<=1000000:=ae;clear hs HN Ke hB NG Sx t5 Kz;cases hO:qh a.nm (p:Int) x.vals[j] (-128) 255 with
   |none=>
    rw[hO]at Le LR
    have eR:R=none:=by
     rw[<-HR.o];unfold dbF;rw[DZ LR];rfl
    subst eR;have Mg:Hid (Calls prog 171 #[.pointer (some ⟨m.ab,0,none⟩),.agg #[.int .i64 I,.int .i64 (p:Int),.string lb,.int .i64 tk,.string J,.slice (some ⟨g,0,none⟩) A G,.int .u8 M,.slice O S U,.int .i64 sz],.slice xa xn xc,.int .i64 (-128),.int .i64 255] wr fun e w'=>e=.panicked (sH 6 I)/\Below wr.heap.size wr w'):=Le.o;exact MaZ
   |some z=>
    rw[hO]at Le LR;have MT:Hid (pJ a.nm (p:Int) (-128) 255 (x.vals.take (j+1))=some (D++[z])):=LR;have Wk2:=oP (wU hO);have Mg:Hid (Calls prog 171 #[.pointer (some ⟨m.ab,0,none⟩),.agg #[.int .i64 I,.int .i64 (p:Int),.string lb,.int .i64 tk,.string J,.slice (some ⟨g,0,none⟩) A G,.int .u8 M,.slice O S U,.int .i64 sz],.slice xa xn xc,.int .i64 (-128),.int .i64 255] wr fun e w'=>e=.returned (.int .i64 z)/\Below wr.heap.size wr w'):=Le.o;obtain⟨zb,Wt3⟩:=Zg0 (IntKind.u8.wrap z);clear Le LR hO;go_wp2_with (first| (go_at_call 171;refine Mg.o.mono ?_;rintro e w5 ⟨rfl,Lp⟩;have Lx:=oP (Lu.o.trans (Lp.mono Lu.o.size));have Rk:=oP (rO Ki.o Lp);clear Lp)|(at_builtin;refine kH _ rfl _ _ 32 rfl W.heap.size 5 i0 _ 1 1 underlying32 hi KJ KC Ky rfl ah _ _ _ rfl (Rk.o.alloc _) ⟨w5.heap.size,0,none⟩ 1 1 [.int .u8 zb] rfl rfl l8 ax (by have:=Ty.o;rw[kL];unfold maxLen;omega) (by have:=Ty.o;rw[kL];omega) eU ?_;intro v' wn Kc Kg _ _;obtain⟨a',n',c',ev⟩:=rW Kc;subst ev));have ZX:=Lx.o.size;have NU:Below W.heap.size W wn:=(Lx.o.alloc Lx.o.size _).grown Kg ai (fun k hk=>(Rk.o.lt k hk).1);go_wp2_with fail;go_roundw
    case rel=>
     refine⟨j+1,D++[z],a',n',c',ae,ao,rfl,by simp[Ty.o],MT.o,?_,NU⟩;have h9:=Kc;rw[show (D++[z]).map IntKind.u8.wrap=D.map IntKind.u8.wrap++[zb] by rw[<-Wt3];simp,show qg (D.map IntKind.u8.wrap++[zb])=qg (D.map IntKind.u8.wrap)++[.int .u8 zb] by simp[qg],kq];exact h9
    case measure=>simp[intOf];omega
  have K6:¬(j:Int)<(A:Int):=ae;have PU:j=x.vals.length:=by rw[<-Wb.o];omega
  have eR:R=some (D.map IntKind.u8.wrap):=by
   have h9:=Wa1.o;rw[PU,mL]at h9;rw[<-HR.o];unfold dbF;rw[h9];rfl
  exact MbP
