import Derived.Test.YthokdbcpkmcieaaGreatDoorH41
set_option maxRecDepth 200000
set_option maxHeartbeats 16000000
namespace Go.Proofs.YthokdbcpkmcieaaGreatDoor
open RowKit
theorem IntKind.wrap_i16x(n:Int):IntKind.i16.wrap n=(n+32768)%65536-32768:=by simp[IntKind.wrap,IntKind.bits,IntKind.signed];omega
def uT(bh:Int)(k:Nat)(n:Int):Bool:=
 if k<=8 then false else if k=9 then pe n (-128) 255 else if k=10 then pe n (-32768) 65535 else if k<=13 then pe n 0 255 else if k=14 then pe n 0 65535
 else if k=15 then pe n 0 65535||pe (vf bh n) (-128) 127 else pe n (uC bh) (uC bh+2047)
theorem Z1B(bh:Int)(k:Nat)(n:Int)(s:LayD):(pF bh k n s).wrong=(s.wrong||uT bh k n):=by
 unfold pF uT;repeat' split
 all_goals first| (exfalso;omega)|rfl|simp[Bool.or_assoc]
theorem Et(bh:Nat)(h:bh<=1024):uC (bh:Int)=0:=by
 have A:((List.range 1025).all fun b=>decide (uC (b:Int)=0))=true:=aq;have:=kx.1 A bh (lM.2 ae);simpa using this
theorem He(n:Int)(bh:Nat):vf (bh:Int) n=zJ n (bh:Int):=by
 unfold vf zJ;rw[mq,mq,IntKind.wrap_i16x];split <;> omega
theorem Z0e(a:RAsm)(n lo hi:Int)(A:Bool):(pM a n 0 lo hi A).1=eF false false false (pe n lo hi) false:=by
 have:=yP a (n,0) false false rfl lo hi A;simpa using this
theorem Z4w(a:RAsm)(k:Nat)(v:Int×Nat)(u x:Bool)(D:v.2=eF u false false x false)(start bh:Nat)(S:bh<=1024)(hk:9<=k/\k<=16):(qK a k v start bh).1=eF u false false (x||uT (bh:Int) k v.1) false:=by
 unfold qK uT;have R:¬k<=8:=ae;rw[jS R,jS R];by_cases I:k=9
 ·rw[jT I,jT I];exact yP a v u x D _ _ _
 rw[jS I,jS I];by_cases J:k=10
 ·rw[jT J,jT J];exact yP a v u x D _ _ _
 rw[jS J,jS J];by_cases M:k<=13
 ·rw[jT M,jT M];exact yP a v u x D _ _ _
 rw[jS M,jS M];by_cases O:k=14
 ·rw[jT O,jT O];exact yP a v u x D _ _ _
 rw[jS O,jS O,D];cases u
 case true=>
  rw[jT (.inl (by show ¬(3:Nat)=0;decide))];rfl
 case false=>
  cases x
  case true=>
   rw[jT (.inl ah)];rfl
  case false=>
   rw[mN,Et bh S];by_cases c:v.1<0\/65535<v.1
   ·rw[jT (.inr c)];have o1:pe v.1 0 65535=true:=fw;have o2:pe v.1 0 (0+2047)=true:=cW;by_cases A:k=15
    ·rw[jT A,o1];rfl
    rw[jS A,o2];rfl
   rw[jS (by
    intro q;rcases q with q|q
    ·exact q rfl
    ·exact c q)]
   have o1:pe v.1 0 65535=false:=fw;by_cases A:k=15
   ·rw[jT A,jT A,Z0e,o1,He];rfl
   rw[jS A,jS A];by_cases G:v.1/2048=(bh:Int)/2048
   ·rw[jS (fun q=>q G),Z0e];have U:pe (v.1%256) 0 255=false:=cW;have z2:pe v.1 0 (0+2047)=false:=cW;rw[U,z2]
   rw[jT G];have z2:pe v.1 0 (0+2047)=true:=cW;rw[z2];rfl
theorem It(a:RAsm)(k:Nat)(v:Int×Nat)(start bh:Nat):(qK a k v start bh).2.L=a.L:=by
 unfold qK;repeat' split
 all_goals first| rfl|exact BQ ..
theorem BT(a:RAsm)(k:Nat)(v:Int×Nat)(start bh:Nat)(h:k<=8):qK a k v start bh=(0,a):=by
 unfold qK;rw[jT h]
def OpK:List Nat->List (Nat×List Trm)->List ROp->Prop
 |[],[],[]=>True
 |k::ks,q::qs,o::os=>(OpM q o/\lkN k=lkN q.1/\k<=16)/\OpK ks qs os
 |_,_,_=>False
theorem Z0d{k:Nat}{q:Nat×List Trm}{o:ROp}(h:OpM q o)(hl:lkN k=lkN q.1)(hk:k<=16):(k<=8/\o.fixed=p9 k/\o.e=[]/\q.2=[rv o.number]/\o.number<=7/\(k<=6->o.number=0)/\(k=7->o.number<=1))\/(9<=k/\o.fixed=⟨#[]⟩/\EL q.2 o.e):=by
 rcases h with⟨h1,h2,_,h4,A,h6,h7,D⟩|⟨h1,h2,_,h4⟩|⟨h1,h2,_,h4⟩|⟨h1,h2,_,h4⟩
 ·have:k=q.1:=by
   unfold lkN at hl;repeat' split at hl
   all_goals omega
  rw[this];exact .inl ⟨h1,h2,h4,A,h6,h7,D⟩
 ·refine .inr ⟨?_,h2,h4⟩;exact Mct
 ·refine .inr ⟨?_,h2,h4⟩;exact Mct
 refine .inr ⟨?_,h2,h4⟩;exact Mct
def yr(nm:List UInt8->Option Int)(p bh:Int)(k:Nat)(e:List Trm):Bool:=match qj nm p 0 e with
 |none=>true
 |some z=>uT bh k z
def tS(nm:List UInt8->Option Int)(p bh:Int):List Nat->List (Nat×List Trm)->Bool
 |k::ks,q::qs=>yr nm p bh k q.2||tS nm p bh ks qs
 |_,_=>false
theorem FA(a:RAsm)(o:ROp)(start:Nat):r9 a o start=rVF a.L (start:Int) o.e 0 0:=by
 unfold r9;split
 ·rename_i h
  rw[h];rfl
 rfl
theorem Z40(nm:List UInt8->Option Int)(n:Int):pf nm [rv n]=false:=by simp[pf,rv]
theorem GX(nm:List UInt8->Option Int)(p:Int)(n:Nat)(h:n<=7):qj nm p 0 [rv n]=some (n:Int):=by
 unfold qj
 have t:pS nm p (rv n)=(n:Int):=by
  unfold pS;rw[jS (fun e=>e rfl),jS (show ¬(rv (n:Int)).here=true from fun e=>by cases e)];rfl
 have e:(if (rv (n:Int)).minus=true then 0-pS nm p (rv n) else 0+pS nm p (rv n))=(n:Int):=by
  rw[t,jS (show ¬(rv (n:Int)).minus=true from fun e=>by cases e),Int.zero_add]
 rw[e,jS ae];rfl
theorem EY{nm:List UInt8->Option Int}{L:List (ByteArray×Int)}(h:Knows nm L)(p bh:Nat)(R:bh<=1024):∀ {ks:List Nat} {qs:List (Nat×List Trm)} {os:List ROp} (D I:Bool) (a:RAsm),OpK ks qs os->a.L=L->pB (qs.map (·.2))=false->∃X:Bool,(qN p bh ks os (eF D false false I false) a).1=eF (D||(qs.map (·.2)).any (pf nm)) false false X false/\((qs.map (·.2)).any (pf nm)=false->X=(I||tS nm (p:Int) (bh:Int) ks qs))
 |[],[],[],D,I,a,_,_,_=>⟨I,by simp[qN],fun _=>by simp[tS]⟩
 |k::ks,q::qs,o::os,D,I,a,A,S,hg=>by
  obtain⟨⟨ho,hl,hk⟩,Si⟩:=A
  have U:ve q.2=false/\pB (qs.map (·.2))=false:=gn
  rw[qN]
  obtain⟨a1,V⟩:∃a1:RAsm,(if o.fixed=p9 8\/o.fixed=p9 7 then {a with bytes:=a.bytes.set p (a.bytes.getD p 0+UInt8.ofNat o.number)} else a)=a1:=⟨_,rfl⟩
  have Z:a1.L=L:=by
   rw[<-V]
   split
   ·exact S
   exact S
  rw[V]
  show ∃X:Bool,(qN p bh ks os (oU (eF D false false I false) (qK a1 k (r9 a1 o p) p bh).1) (qK a1 k (r9 a1 o p) p bh).2).1=_/\_
  have UN:=(It a1 k (r9 a1 o p) p bh).trans Z
  have Ko:∃Y:Bool,(qK a1 k (r9 a1 o p) p bh).1=eF (pf nm q.2) false false Y false/\(pf nm q.2=false->Y=yr nm (p:Int) (bh:Int) k q.2):=by
   rcases Z0d ho hl hk with⟨h1,_,_,h4,h5,_⟩|⟨h1,_,h3⟩
   ·rw[BT _ _ _ _ _ h1,h4,Z40]
    refine⟨false,rfl,fun _=>?_⟩
    unfold yr
    rw[GX _ _ _ h5]
    show false=uT _ k _
    unfold uT
    rw[jT h1]
   rw[FA,Z]
   obtain⟨X,G⟩:=Ew h.b (p:Int) h3
   refine⟨_,Z4w a1 k _ _ X G p bh R ⟨h1,hk⟩,fun J=>?_⟩
   obtain⟨v,hv,w⟩:=AJ h (p:Int) h3 J U.1
   rw[hv]at G⊢
   rw[J]at G
   unfold yr
   rcases w with⟨z,hz,rfl⟩|⟨hz,M⟩
   ·have:X=false:=by cases X;rfl;cases G
    rw[hz,this]
    rfl
   have:X=true:=by rw[M]at G;cases X;cases G;rfl
   rw[hz,this]
   rfl
  obtain⟨Y,hY,O⟩:=Ko
  rw[hY,wP]
  obtain⟨X,G,Ph⟩:=EY h p bh R (D||pf nm q.2) (I||Y) (qK a1 k (r9 a1 o p) p bh).2 Si UN U.2
  refine⟨X,?_,fun J=>?_⟩
  ·rw[kZ,lN,show (D||(pf nm q.2||(qs.map (·.2)).any (pf nm)))=(D||pf nm q.2||(qs.map (·.2)).any (pf nm)) from (nJ ..).symm]
   exact G
  rw[kZ,lN,ml]at J
  rw[Ph J.2,O J.1,nJ]
  rfl
 |[],_::_,_,_,_,_,A,_,_=>A.elim
 |[],[],_::_,_,_,_,A,_,_=>A.elim
 |_::_,[],_,_,_,_,A,_,_=>A.elim
 |_::_,_::_,[],_,_,_,A,_,_=>A.elim
def yL(ks:List Nat):Bool:=ks.all fun k=>!(k==7||k==8||k==16)
def yE(c:Nat):List Nat->Bool
 |[]=>true
 |k::ks=>if k=8 then decide (c%8=0)&&yL ks else if k=7 then decide (c%2=0)&&yL ks else if k=16 then decide (c%32=c)&&yL ks else yE c ks
theorem Z9f:((List.range 256).all fun c=>(List.range 8).all fun n=>(!decide (c%8=0)||decide (bits BinOp.or IntKind.u8 (c:Int) (IntKind.u8.wrap (n:Int))=(c:Int)+(n:Int)))&&((!(decide (c%2=0)&&decide (n<=1))||decide (bits BinOp.or IntKind.u8 (c:Int) (IntKind.u8.wrap (n:Int))=(c:Int)+(n:Int)))&&(!decide (c%32=c)||decide (bits BinOp.or IntKind.u8 (c:Int) ((n:Int)*32)=(c:Int)+(n:Int)*32))))=true:=aq
theorem Dj{c n:Nat}(hc:c<256)(hn:n<8):(c%8=0\/(c%2=0/\n<=1)->bits BinOp.or IntKind.u8 (c:Int) (IntKind.u8.wrap (n:Int))=(c:Int)+(n:Int))/\(c%32=c->bits BinOp.or IntKind.u8 (c:Int) ((n:Int)*32)=(c:Int)+(n:Int)*32):=by
 have:=kx.1 (kx.1 Z9f c (lM.2 hc)) n (lM.2 hn);simp only[kB,mM,mW,lC,kI,Bool.and_eq_false_iff]at this;obtain⟨h1,h2,h3⟩:=this;refine⟨fun q=>?_,fun q=>?_⟩
 ·rcases q with q|q
  ·rcases h1 with h|h
   ·exact absurd q h
   exact h
  rcases h2 with(h|h)|h
  ·exact absurd q.1 h
  ·exact absurd q.2 h
  exact h
 rcases h3 with h|h
 ·exact absurd q h
 exact h
theorem G6(c n:Nat):toB (c:Int)+UInt8.ofNat n=toB ((c:Int)+(n:Int)):=by
 unfold toB;apply lA.1;rw[T0f,nA,nA,nA];omega
def qT(bh:Int):List Nat->List Int->LayD->LayD
 |k::ks,n::A,s=>qT bh ks A (pF bh k n s)
 |_,_,s=>s
theorem Ga(bh:Int)(k:Nat)(n:Int)(ks:List Nat)(A:List Int)(s:LayD):∀j,rp bh (k::ks) (n::A) s (j+1)=rp bh ks A (pF bh k n s) j
 |0=>rfl
 |j+1=>by
  rw[rp,Ga bh k n ks A s j]
  rfl
theorem AF(bh:Int):∀(ks:List Nat) (A:List Int) (s:LayD),ks.length=A.length->rp bh ks A s ks.length=qT bh ks A s
 |[],[],s,_=>rfl
 |k::ks,n::A,s,h=>by
  rw[kh,Ga,AF bh ks A _ av]
  rfl
 |[],_::_,_,h=>aR
 |_::_,[],_,h=>aR
theorem Eb(bh:Int)(k:Nat)(n:Int)(s:LayD):s.add.length<=(pF bh k n s).add.length:=by
 unfold pF;repeat' split
 all_goals simp
theorem JL(bh:Int):∀(ks:List Nat) (A:List Int) (s:LayD),s.add.length<=(qT bh ks A s).add.length
 |[],_,_=>jU
 |_::_,[],_=>jU
 |k::ks,n::A,s=>j8 (Eb bh k n s) (JL bh ks A (pF bh k n s))
def pn(a:RAsm)(B:List UInt8)(p:Nat)(s:LayD):RAsm:={a with bytes:=putAt B p (s.code::s.add),pl:=p+1+s.add.length}
theorem B9(B:List UInt8)(p:Nat)(s:LayD)(x:Int)(h:p+1+s.add.length<B.length):(putAt B p (s.code::s.add)).set (p+1+s.add.length) (toB x)=putAt B p (s.code::(s.add++[x])):=by
 unfold putAt;have:=zo B p ((s.code::s.add).map toB) (toB x) ai;rw[kL,kh,show p+(s.add.length+1)=p+1+s.add.length by omega]at this;rw[this];simp
theorem Bi(a:RAsm)(B:List UInt8)(p:Nat)(s:LayD)(n x:Int)(lo hi:Int)(ho:pe n lo hi=false)(hx:IntKind.u8.wrap n=x)(hf:p+1+s.add.length+1<=B.length):pM (pn a B p s) n 0 lo hi false=(0,pn a B p {s with add:=s.add++[x]}):=by
 rw[Dt _ _ _ _ ho];unfold pn;simp only[nS,mB];rw[B9 B p s _ ae,hx];simp[Nat.add_assoc]
theorem FJ(a:RAsm)(B:List UInt8)(p:Nat)(s:LayD)(n:Int)(lo hi:Int)(ho:pe n lo hi=false)(hf:p+1+s.add.length+2<=B.length):pM (pn a B p s) n 0 lo hi true=(0,pn a B p {s with add:=(s.add++[IntKind.u8.wrap (n/256)])++[IntKind.u8.wrap n]}):=by
 rw[Dt _ _ _ _ ho];unfold pn;simp only[mC];rw[B9 B p s _ ae];have:=B9 B p {s with add:=s.add++[IntKind.u8.wrap (n/256)]} (IntKind.u8.wrap n) ai;simp only[kq,oL]at this;rw[show p+1+s.add.length+1=p+1+(s.add.length+1) by omega,this];simp[Nat.add_assoc]
theorem E7(a:RAsm)(B:List UInt8)(p bh:Nat)(R:bh<=1024)(s:LayD)(k:Nat)(n:Int)(hk:9<=k/\k<=16)(ho:uT (bh:Int) k n=false)(hc:∃c:Nat,c<256/\s.code=(c:Int)/\(k=16->c%32=c))(hf:p+1+(pF (bh:Int) k n s).add.length<=B.length):qK (pn a B p s) k (n,0) p bh=(0,pn a B p (pF (bh:Int) k n s)):=by
 unfold qK uT pF at *;have S:¬k<=8:=ae;have h6:¬k<=6:=ae;simp only[jS S,jS h6]at *;by_cases G:k=9
 ·simp only[jT G]at *;exact Bi a B p s n _ _ _ ho rfl dV
 simp only[jS G]at *;by_cases I:k=10
 ·simp only[jT I]at *;exact FJ a B p s n _ _ ho bM
 simp only[jS I]at *;by_cases J:k<=13
 ·simp only[jT J]at *;exact Bi a B p s n _ _ _ ho rfl dV
 simp only[jS J]at *;by_cases M:k=14
 ·simp only[jT M]at *;exact FJ a B p s n _ _ ho bM
 simp only[jS M]at *;by_cases O:k=15
 ·simp only[jT O]at *;rw[ml]at ho;have h0:¬(n<0\/65535<n):=by simpa [pe]using ho.1
  rw[jS (by
   intro q;rcases q with q|q
   ·exact q rfl
   ·exact h0 q)]
  rw[He]at ho hf⊢;exact Bi a B p s _ _ _ _ ho.2 rfl dV
 simp only[jS O]at *;rw[Et bh R]at ho
 have h0:0<=n/\n<=2047:=by
  have:¬(n<0\/0+2047<n):=by simpa [pe]using ho
  omega
 rw[jS (by
  intro q;rcases q with q|q
  ·exact q rfl
  ·omega),jS (fun q=>q ae)]
 obtain⟨c,U,A,V⟩:=hc;have D:=V ae;have Kl:p+(s.add.length+1)<=B.length:=bM
 have e2:uV s.code n=(c:Int)+((n/256).toNat:Int)*32:=by
  unfold uV;rw[A,show n/256%256*32%256=((n/256).toNat:Int)*32 by omega];exact(Dj U (show (n/256).toNat<8 by omega)).2 D
 have e3:toB (IntKind.u8.wrap (n/256%8*32))=UInt8.ofNat ((n/256).toNat*32):=by
  rw[lG];unfold toB;congr 1;omega
 have Z:(pn a B p s).bytes.set p ((pn a B p s).bytes.getD p 0+toB (IntKind.u8.wrap (n/256%8*32)))=putAt B p (uV s.code n::s.add):=by
  show (putAt B p (s.code::s.add)).set p ((putAt B p (s.code::s.add)).getD p 0+_)=_;unfold putAt;rw[kZ,GD _ _ _ _ _ dW,GI _ _ _ _ _ dW,e3,A,G6,<- A,e2];congr 3;rw[A];omega
 have e5:({pn a B p s with bytes:=(pn a B p s).bytes.set p ((pn a B p s).bytes.getD p 0+toB (IntKind.u8.wrap (n/256%8*32)))}:RAsm)=pn a B p {s with code:=uV s.code n}:=by
  rw[Z];rfl
 rw[e5];refine Bi a B p {s with code:=uV s.code n} (n%256) _ 0 255 cW ?_ dV;rw[lG,lG];omega
theorem Gj{k:Nat}(h:k<=8):(p9 k=p9 8\/p9 k=p9 7)↔(k=7\/k=8):=by
 have A:∀k:Fin 9,(p9 k.val=p9 8\/p9 k.val=p9 7)↔(k.val=7\/k.val=8):=ah;exact A ⟨k,ae⟩
theorem Di{c:Nat}:∀ {ks:List Nat},yL ks=true->yE c ks=true
 |[],_=>rfl
 |k::ks,h=>by
  unfold yL at h
  rw[T0K,kB]at h
  have h1:¬k=7/\¬k=8/\¬k=16:=by simpa [mF,and_assoc]using h.1
  unfold yE
  rw[jS h1.2.1,jS h1.1,jS h1.2.2]
  exact Di h.2
def tl(nm:List UInt8->Option Int)(p:Int):List (Nat×List Trm)->List Int
 |[]=>[]
 |q::qs=>(qj nm p 0 q.2).getD 0::tl nm p qs
theorem Z1r{bh:Int}{k:Nat}{n:Int}{s:LayD}(h:¬k=7/\¬k=8/\¬k=16)(hk:k<=16):(pF bh k n s).code=s.code:=by
 unfold pF;repeat' split
 all_goals first| (exfalso;omega)|rfl
theorem Z8R{bh:Int}{k n:Nat}{s:LayD}(h:k=7\/k=8):pF bh k (n:Int) s = {s with code:=bits BinOp.or IntKind.u8 s.code (IntKind.u8.wrap (n:Int))}:=by
 unfold pF;rw[jS ae,jT ae]
theorem Z7E(bh:Int)(k:Nat)(n:Int)(s:LayD)(h:∃c:Nat,c<256/\s.code=(c:Int)):∃c:Nat,c<256/\(pF bh k n s).code=(c:Int):=by
 have A:∀x y:Int,∃c:Nat,c<256/\bits BinOp.or IntKind.u8 x y=(c:Int):=fun x y=>⟨(bits BinOp.or IntKind.u8 x y).toNat,by have:=Ba x y;omega,by have:=Ba x y;omega⟩
 unfold pF;repeat' split
 all_goals first| exact h|exact A _ _
theorem zq{nm:List UInt8->Option Int}{L:List (ByteArray×Int)}(h:Knows nm L)(p bh:Nat)(S:bh<=1024)(B:List UInt8):∀ {ks:List Nat} {qs:List (Nat×List Trm)} {os:List ROp} (a:RAsm) (s:LayD) (c:Nat),OpK ks qs os->a.L=L->pB (qs.map (·.2))=false->(qs.map (·.2)).any (pf nm)=false->tS nm (p:Int) (bh:Int) ks qs=false->c<256->s.code=(c:Int)->yE c ks=true->p+1+(qT (bh:Int) ks (tl nm (p:Int) qs) s).add.length<=B.length->qN p bh ks os 0 (pn a B p s)=(0,pn a B p (qT (bh:Int) ks (tl nm (p:Int) qs) s))
 |[],[],[],a,s,c,_,_,_,_,_,_,_,_,_=>rfl
 |k::ks,q::qs,o::os,a,s,c,D,Z,hg,U,J,hc,M,A,hf=>by
  obtain⟨⟨ho,hl,hk⟩,Si⟩:=D
  have NR:ve q.2=false/\pB (qs.map (·.2))=false:=gn
  rw[kZ,lN,ml]at U
  unfold tS at J
  rw[ml]at J
  have O:p+1+(qT (bh:Int) ks (tl nm (p:Int) qs) (pF (bh:Int) k ((qj nm (p:Int) 0 q.2).getD 0) s)).add.length<=B.length:=hf
  have Vc:p+1+(pF (bh:Int) k ((qj nm (p:Int) 0 q.2).getD 0) s).add.length<=B.length:=by
   have:=JL (bh:Int) ks (tl nm (p:Int) qs) (pF (bh:Int) k ((qj nm (p:Int) 0 q.2).getD 0) s)
   omega
  show _=(0,pn a B p (qT (bh:Int) ks (tl nm (p:Int) qs) (pF (bh:Int) k ((qj nm (p:Int) 0 q.2).getD 0) s)))
  rw[qN]
  show qN p bh ks os (oU 0 (qK (if o.fixed=p9 8\/o.fixed=p9 7 then {pn a B p s with bytes:=(pn a B p s).bytes.set p ((pn a B p s).bytes.getD p 0+UInt8.ofNat o.number)} else pn a B p s) k (r9 (if o.fixed=p9 8\/o.fixed=p9 7 then {pn a B p s with bytes:=(pn a B p s).bytes.set p ((pn a B p s).bytes.getD p 0+UInt8.ofNat o.number)} else pn a B p s) o p) p bh).1) (qK (if o.fixed=p9 8\/o.fixed=p9 7 then {pn a B p s with bytes:=(pn a B p s).bytes.set p ((pn a B p s).bytes.getD p 0+UInt8.ofNat o.number)} else pn a B p s) k (r9 (if o.fixed=p9 8\/o.fixed=p9 7 then {pn a B p s with bytes:=(pn a B p s).bytes.set p ((pn a B p s).bytes.getD p 0+UInt8.ofNat o.number)} else pn a B p s) o p) p bh).2=_
  have Kl:p+(s.add.length+1)<=B.length:=by
   have:=Eb (bh:Int) k ((qj nm (p:Int) 0 q.2).getD 0) s
   omega
  unfold yE at A
  rcases Z0d ho hl hk with⟨h1,G,_,h4,h5,_,h7⟩|⟨h1,G,h3⟩
  ·have hv:(qj nm (p:Int) 0 q.2).getD 0=(o.number:Int):=by rw[h4,GX _ _ _ h5];rfl
   rw[hv]at O⊢
   by_cases I:k=7\/k=8
   ·rw[jT (by rw[G];exact(Gj h1).2 I),BT _ _ _ _ _ h1]
    have Ng:bits BinOp.or IntKind.u8 s.code (IntKind.u8.wrap (o.number:Int))=(c:Int)+(o.number:Int)/\yL ks=true/\c+o.number<256:=by
     rw[M]
     rcases I with e|e
     ·rw[jS ae,jT e,kB,kI]at A
      exact⟨(Dj hc ae).1 (.inr ⟨A.1,h7 e⟩),A.2,by have:=h7 e;omega⟩
     rw[jT e,kB,kI]at A
     exact⟨(Dj hc ae).1 (.inl A.1),A.2,ae⟩
    rw[Z8R I,Ng.1]at O⊢
    have e5:({pn a B p s with bytes:=(pn a B p s).bytes.set p ((pn a B p s).bytes.getD p 0+UInt8.ofNat o.number)}:RAsm)=pn a B p {s with code:=(c:Int)+(o.number:Int)}:=by
     have:(pn a B p s).bytes.set p ((pn a B p s).bytes.getD p 0+UInt8.ofNat o.number)=putAt B p (((c:Int)+(o.number:Int))::s.add):=by
      show (putAt B p (s.code::s.add)).set p ((putAt B p (s.code::s.add)).getD p 0+_)=_
      unfold putAt
      rw[kZ,GD _ _ _ _ _ dW,GI _ _ _ _ _ dW,M,G6]
      rfl
     rw[this]
     rfl
    show qN p bh ks os (oU 0 0) _=_
    rw[e5]
    exact zq h p bh S B a {s with code:=(c:Int)+(o.number:Int)} (c+o.number) Si Z NR.2 U.2 J.2 Ng.2.2 (by show (c:Int)+(o.number:Int)=_;omega) (Di Ng.2.1) O
   rw[jS (by rw[G];exact fun e=>I ((Gj h1).1 e)),BT _ _ _ _ _ h1]
   have Wr:pF (bh:Int) k (o.number:Int) s=s:=by unfold pF;rw[jT ae]
   rw[Wr]at O⊢
   rw[jS ae,jS ae,jS ae]at A
   show qN p bh ks os (oU 0 0) (pn a B p s)=_
   exact zq h p bh S B a s c Si Z NR.2 U.2 J.2 hc M A O
  rw[jS (by rw[G];decide),FA]
  obtain⟨v,hv,w⟩:=AJ h (p:Int) h3 U.1 NR.1
  have VD9:(pn a B p s).L=L:=Z
  rw[VD9,hv]
  have V:=J.1
  unfold yr at V
  rcases w with⟨z,hz,rfl⟩|⟨hz,_⟩
  ·rw[hz]at V O Vc⊢
   have Wp6:p+1+(qT (bh:Int) ks (tl nm (p:Int) qs) (pF (bh:Int) k z s)).add.length<=B.length:=O
   show qN p bh ks os (oU 0 (qK (pn a B p s) k (z,0) p bh).1) (qK (pn a B p s) k (z,0) p bh).2=(0,pn a B p (qT (bh:Int) ks (tl nm (p:Int) qs) (pF (bh:Int) k z s)))
   by_cases R:k=16
   ·rw[jS ae,jS ae,jT R,kB,kI]at A
    rw[E7 a B p bh S s k z ⟨h1,hk⟩ V ⟨c,hc,M,fun _=>A.1⟩ Vc]
    obtain⟨c2,Ll,NJ⟩:=Z7E (bh:Int) k z s ⟨c,hc,M⟩
    exact zq h p bh S B a _ c2 Si Z NR.2 U.2 J.2 Ll NJ (Di A.2) Wp6
   rw[E7 a B p bh S s k z ⟨h1,hk⟩ V ⟨c,hc,M,fun e=>absurd e R⟩ Vc]
   rw[jS ae,jS ae,jS R]at A
   exact zq h p bh S B a _ c Si Z NR.2 U.2 J.2 hc ((Z1r ae hk).trans M) A Wp6
  rw[hz]at V
  cases V
 |[],_::_,_,_,_,_,D,_,_,_,_,_,_,_,_=>D.elim
 |[],[],_::_,_,_,_,D,_,_,_,_,_,_,_,_=>D.elim
 |_::_,[],_,_,_,_,D,_,_,_,_,_,_,_,_=>D.elim
 |_::_,_::_,[],_,_,_,D,_,_,_,_,_,_,_,_=>D.elim
theorem EN{nm:List UInt8->Option Int}(p bh:Int):∀ {ks:List Nat} {qs:List (Nat×List Trm)} (s:LayD),ks.length=qs.length->match pJ nm p (-1000000) 1000000 (qs.map (·.2)) with
  |none=>tS nm p bh ks qs=true
  |some A=>A=tl nm p qs/\(qT bh ks A s).wrong=(s.wrong||tS nm p bh ks qs)
 |[],[],s,_=>⟨rfl,by simp[qT,tS]⟩
 |k::ks,q::qs,s,hl=>by
  rw[kZ,Dx]
  unfold qh tS yr tl
  cases D:qj nm p 0 q.2 with
  |none=>rfl
  |some z=>
   have M:=Cw nm p q.2 0 z ae D
   have ih:=EN (nm:=nm) p bh (ks:=ks) (qs:=qs) (pF bh k z s) bL
   show match Option.bind (if z < -1000000\/1000000<z then none else some z) (fun z=>(pJ nm p (-1000000) 1000000 (qs.map (·.2))).map (z :: ·)) with
    |none=>_
    |some A=>_
   rw[jS ae]
   show match (pJ nm p (-1000000) 1000000 (qs.map (·.2))).map (z :: ·) with
    |none=>_
    |some A=>_
   cases hn:pJ nm p (-1000000) 1000000 (qs.map (·.2)) with
   |none=>
    rw[hn]at ih
    have G:tS nm p bh ks qs=true:=ih
    show (uT bh k z||tS nm p bh ks qs)=true
    rw[G,Bool.or_true]
   |some A=>
    rw[hn]at ih
    obtain⟨I,J⟩:=ih
    refine⟨by rw[I];rfl,?_⟩
    show (qT bh ks A (pF bh k z s)).wrong=(s.wrong||(uT bh k z||tS nm p bh ks qs))
    rw[J,Z1B,nJ]
 |[],_::_,_,hl=>by simp at hl
 |_::_,[],_,hl=>by simp at hl
theorem H9:(allEnts.all fun e=>yE e.1 (e.2.2.2.map kd)&&(((e.2.2.2.map kd).all fun k=>decide (k<=16))&&(decide (e.1<256)&&(!decide (e.1=133)||decide (e.2.2.2.map kd=[11,11])))))=true:=aq
structure SF(a:Asm)(b:RAsm)(F:Nat->Bool):Prop where
 nm:Knows a.nm b.L
 laid:a.laid=b.laid
 starts:a.starts=b.starts
 la:a.bytes.length=1024
 lb:b.bytes.length=1024
 same:∀i,i<1024->F i=true->a.bytes[i]?=b.bytes[i]?
 un:∀i,i<1024->F i=false->a.bytes[i]?=some 255
def rZ(p n i:Nat):Bool:=decide (p<=i)&&decide (i<p+n)
theorem SF.pl{a:Asm}{b:RAsm}{F:Nat->Bool}(h:SF a b F)(p q:Nat):SF a {b with pl:=q} fun i=>F i||rZ p 0 i:=by
 have e:∀i,(F i||rZ p 0 i)=F i:=fun i=>by
  have:rZ p 0 i=false:=by unfold rZ;simp
  rw[this,nI]
 exact⟨h.nm,h.laid,h.starts,h.la,h.lb,fun i hi A=>h.same i hi (by rw[<-e i];exact A),fun i hi A=>h.un i hi (by rw[<-e i];exact A)⟩
theorem SF.put{a:Asm}{b:RAsm}{F:Nat->Bool}(h:SF a b F)(p q:Nat)(A:List Int)(hf:p+A.length<=1024):SF {a with bytes:=putAt a.bytes p A} {b with bytes:=putAt b.bytes p A,pl:=q} fun i=>F i||rZ p A.length i:=by
 have G:p+(A.map toB).length<=a.bytes.length:=by rw[kL,h.la];exact hf
 have J:p+(A.map toB).length<=b.bytes.length:=by rw[kL,h.lb];exact hf
 refine⟨h.nm,h.laid,h.starts,?_,?_,fun i hi D=>?_,fun i hi D=>?_⟩
 ·exact(zg _ _ _ G).trans h.la
 ·exact(zg _ _ _ J).trans h.lb
 ·show (Go.splice a.bytes p (A.map toB))[i]?=(Go.splice b.bytes p (A.map toB))[i]?;rw[uG _ _ _ G,uG _ _ _ J,kL];by_cases c:p<=i/\i<p+A.length
  ·rw[jS ae,jT c.2,jS ae,jT c.2]
  have I:F i=true:=by
   have:rZ p A.length i=false:=by unfold rZ;simp;omega
   rw[this,nI]at D;exact D
  rw[h.same i hi I]
 rw[ml]at D;have hn:¬(p<=i/\i<p+A.length):=by have:=D.2;unfold rZ at this;simp at this;omega
 show (Go.splice a.bytes p (A.map toB))[i]?=some 255;rw[uG _ _ _ G,kL];by_cases c1:i<p
 ·rw[jT c1];exact h.un i hi D.1
 rw[jS c1,jS ae];exact h.un i hi D.1
theorem Z5e(nm:List UInt8->Option Int)(es:List (List Trm)):(pq es).any (yJ nm)=es.any (pf nm):=by
 rw[J1];rfl
theorem D9{a:Asm}{p n:Nat}{x:Stm}{e:Nat}{P:Asm->Prop}{X:Bool}(hn:pE x.task x.vals.length x.ins.size=n)(hn0:¬n=0)(he:e=eF (x.vals.any (pf a.nm)) false false X false)
  (I:x.vals.any (pf a.nm)=false->X=(su a.nm p x).isNone) (J:x.vals.any (pf a.nm)=false->∀A,su a.nm p x=some A->P {a with bytes:=putAt a.bytes p A}):ErrIs (sV a p x) e P:=by
 unfold sV;rw[hn,jS hn0,Z5e];cases D:x.vals.any (pf a.nm) with
 |true=>
  rw[D]at he;rw[jT rfl];exact ErrIs.err 3 he ah
 |false=>
  rw[D]at he;rw[jS ah];rw[I D]at he;cases G:su a.nm p x with
  |none=>
   rw[G]at he;exact ErrIs.err 6 he ah
  |some A=>
   rw[G]at he;exact⟨he,J D A G⟩
theorem OML.opk{xs:List (Nat×List Trm)}{os:List ROp}(h:OML xs os){nm:List UInt8}{e:Ent}(he:e∈allEnts)(hf:rU nm os e=true):OpK (e.2.2.2.map kd) xs os:=by
 unfold rU at hf;simp only[kB,mx,kI,kx,lM]at hf;obtain⟨_,O,R⟩:=hf;have M:=kx.1 H9 e he;simp only[kB,kx,kI,lf]at M;have I:=M.2.1
 have S:∀k,(hk:k<e.2.2.2.length)->∀q o,xs[k]?=some q->os[k]?=some o->lkN (kd e.2.2.2[k])=lkN q.1:=by
  intro k hk q o hq ho;have D:k<os.length:=ae;have G:k<xs.length:=by rw[h.len];exact D
  have U:=h.at k G;have:=R k D;rw[show e.2.2.2.getD k []=e.2.2.2[k] from by rw[jZ,jX hk];rfl,Cv he (kC hk) U]at this;rw[jX G]at hq;cases hq;unfold xk at this;simpa using this
 have J:∀(A:List (List UInt8)) (xs:List (Nat×List Trm)) (os:List ROp),OML xs os->A.length=os.length->(∀t∈A,kd t<=16)->(∀k,(hk:k<A.length)->∀q o,xs[k]?=some q->os[k]?=some o->lkN (kd A[k])=lkN q.1)->OpK (A.map kd) xs os:=by
  intro A;induction A with
  |nil=>
   intro xs os ho hl _ _;match xs,os,ho,hl with
   |[],[],_,_=>trivial
   |_::_,_::_,_,hl=>simp at hl
   |_::_,[],ho,_=>exact ho.elim
  |cons t A ih=>
   intro xs os ho hl h1 h2;match xs,os,ho,hl with
   |[],[],_,hl=>simp at hl
   |[],_::_,ho,_=>exact ho.elim
   |x::xs,o::os,ho,hl=>
    refine⟨⟨ho.1,h2 0 af x o rfl rfl,h1 t af⟩,ih xs os ho.2 bL (fun u V=>h1 u (mo _ V)) fun k hk q r hq Z=>?_⟩;have:=h2 (k+1) aJ q r (by simpa using hq) (by simpa using Z);simpa using this
 exact J _ xs os h O (fun t ht=>I _ ⟨t,ht,rfl⟩) S
def wY(a:Asm)(b:RAsm)(p:Nat)(x:Stm)(r:RLine)(F:Nat->Bool):Prop:=ErrIs (sV a p x) (pz b r).1 fun A=>SF A (pz b r).2 fun i=>F i||rZ p (pE x.task x.vals.length x.ins.size) i
theorem zN{a:Asm}{b:RAsm}{F:Nat->Bool}(h:SF a b F){p:Nat}{x:Stm}{r:RLine}(hz:pE x.task x.vals.length x.ins.size=0)(hs:∃q,pz b r=(0,{b with pl:=q})):wY a b p x r F:=by
 obtain⟨q,hq⟩:=hs;unfold wY sV;rw[hz,jT rfl,hq];exact⟨rfl,h.pl p q⟩
theorem F8{a:Asm}{b:RAsm}{F:Nat->Bool}(h:SF a b F){p:Nat}{x:Stm}{r:RLine}(O:b.pl=p)(A:Bool)(ht:x.task=if A=true then 3 else 2)(hw:r.what=if A=true then wDW else wDB)(G:VL x.vals r.ops)(R:pB x.vals=false)(hf:p+pE x.task x.vals.length x.ins.size<=1024):wY a b p x r F:=by
 have D:¬r.what=wORG/\¬r.what=wDS/\(r.what=wDB\/r.what=wDW)/\decide (r.what=wDW)=A:=by rw[hw];cases A <;> decide
 have e1:pz b r=((qS A p r.ops 0 b).1,{ (qS A p r.ops 0 b).2 with pl:=p+pg r}):=by
  unfold pz;rw[jS D.1,jS D.2.1,jT D.2.2.1,D.2.2.2,O]
 have V:pE x.task x.vals.length x.ins.size=if A=true then 2*x.vals.length else x.vals.length:=by rw[ht];cases A <;> rfl
 by_cases hz:pE x.task x.vals.length x.ins.size=0
 ·refine zN h hz ⟨p+pg r,?_⟩
  have:x.vals.length=0:=by
   rw[V]at hz;cases A
   ·exact hz
   have:2*x.vals.length=0:=hz;omega
  have Z:r.ops=[]:=mv.1 (by rw[<-G.len];exact this);rw[e1,Z];rfl
 have S:su a.nm p x=(pJ a.nm (p:Int) (rF A) (rE A) x.vals).map (wv A):=by
  unfold su;cases A
  ·rw[jT (show x.task=2 from ht)];rfl
  rw[jS (by rw[ht];decide),jT (show x.task=3 from ht)];rfl
 obtain⟨X,hX,Ph⟩:=Ez h.nm A p false false b G rfl R;unfold wY;refine D9 (X:=X) rfl hz ?_ (fun I=>?_) (fun I bs J=>?_)
 ·rw[e1];simpa [eF]using hX
 ·rw[Ph I,S];simp
 have M:=(Ce J (by cases A <;> rw[ht] <;> simp) (fun e=>by rw[ht]at e;cases A <;> cases e)).1;rw[S]at J;obtain⟨U,NG,rfl⟩:=kJ.1 J;have KA:=Jz h.nm A p b.bytes b [] U G rfl R I NG (by rw[O];rfl) (by unfold putAt;rw[mZ,Ji]) (by rw[h.lb,M];simpa using hf);have O3:qS A p r.ops 0 b=_:=KA;rw[e1,O3,mu,<- M];exact h.put p (p+pg r) (wv A U) (by rw[M];exact hf)
theorem Cn(nm:List UInt8->Option Int)(p:Int):∀qs:List (Nat×List Trm),(tl nm p qs).length=qs.length
 |[]=>rfl
 |q::qs=>by rw[tl,kh,kh,Cn nm p qs]
theorem OpK.len:∀ {ks:List Nat} {qs:List (Nat×List Trm)} {os:List ROp},OpK ks qs os->ks.length=qs.length
 |[],[],[],_=>rfl
 |_::_,_::_,_::_,h=>by rw[kh,kh,OpK.len h.2]
 |[],_::_,_,h=>h.elim
 |[],[],_::_,h=>h.elim
 |_::_,[],_,h=>h.elim
 |_::_,_::_,[],h=>h.elim
theorem Z8k(B:List UInt8)(p:Nat)(c x y:Int)(h:p+3<=B.length):u9 (putAt B p [c,x,y]) (p+1)=putAt B p [c,y,x]:=by
 unfold u9 putAt;have h3:p+([c,x,y].map toB).length<=B.length:=av;have A:p+([c,y,x].map toB).length<=B.length:=av
 have g1:(Go.splice B p ([c,x,y].map toB)).getD (p+1) 0=toB x:=by
  rw[jZ,uG _ _ _ h3,jS ae,jT af,show p+1-p=1 by omega];rfl
 have g2:(Go.splice B p ([c,x,y].map toB)).getD (p+1+1) 0=toB y:=by
  rw[jZ,uG _ _ _ h3,jS ae,jT af,show p+1+1-p=2 by omega];rfl
 rw[g1,g2];apply List.ext_getElem?;intro i;rw[mz,mz,mJ,zg _ _ _ h3,uG _ _ _ h3,uG _ _ _ A];by_cases c2:p+1+1=i
 ·subst c2;rw[jT rfl,jT ae,jS ae,jT af,show p+1+1-p=2 by omega];rfl
 rw[jS c2];by_cases c1:p+1=i
 ·subst c1;rw[jT rfl,jT ae,jS ae,jT af,show p+1-p=1 by omega];rfl
 rw[jS c1];by_cases c0:i<p
 ·rw[jT c0,jT c0]
 rw[jS c0,jS c0];by_cases c3:i<p+([c,x,y].map toB).length
 ·have:i=p:=by simp at c3;omega
  subst this;rw[jT af,jT af,my];rfl
 rw[jS c3,jS (by simpa using c3)]
theorem Z6i{a:Asm}{b:RAsm}{F:Nat->Bool}(h:SF a b F){p:Nat}{x:Stm}{r:RLine}(hp:b.pl=p)(ht:x.task=6)(hw:r.what=wINS)(I:AO x.ins r.ent){xs:List (Nat×List Trm)}{nm:List UInt8}(ho:OML xs r.ops)(hx:x.vals=xs.map (·.2))(hf:rU nm r.ops r.ent=true)(hI:uw x.ins x.vals.length)(hg:pB x.vals=false)(U:p+pE x.task x.vals.length x.ins.size<=1024):wY a b p x r F:=by
 have V:pE x.task x.vals.length x.ins.size=x.ins.size:=by rw[ht];rfl
 have Wp7:pg r=x.ins.size:=by
  unfold pg;rw[jS au,jS au,jT hw,I.2.2.2,I.2.2.1]
 rw[V]at U;have Z:=ho.opk I.1 hf;have Lm:=kx.1 H9 r.ent I.1;simp only[kB,kI,mM,mW,lC]at Lm;obtain⟨KA,_,hc,L5⟩:=Lm;have hz:¬x.ins.size=0:=by have:=hI.size;unfold rk at this;omega
 have hpl:p<1024:=ae;obtain⟨b1,Kh⟩:∃b1:RAsm,b1=pn b b.bytes p ⟨(r.ent.1:Int),[],false⟩:=⟨_,rfl⟩
 have e0:({b with bytes:=b.bytes.set p (UInt8.ofNat r.ent.1),pl:=p+1}:RAsm)=b1:=by
  rw[Kh];unfold pn putAt;rw[Z82 _ _ _ (by rw[h.lb];exact hpl)];rfl
 have e1:pz b r=((qN p (p+x.ins.size) (r.ent.2.2.2.map kd) r.ops 0 b1).1,{ (qN p (p+x.ins.size) (r.ent.2.2.2.map kd) r.ops 0 b1).2 with bytes:=if r.ent.1=133/\(qN p (p+x.ins.size) (r.ent.2.2.2.map kd) r.ops 0 b1).1=0 then u9 (qN p (p+x.ins.size) (r.ent.2.2.2.map kd) r.ops 0 b1).2.bytes (p+1) else (qN p (p+x.ins.size) (r.ent.2.2.2.map kd) r.ops 0 b1).2.bytes,pl:=p+x.ins.size}):=by
  unfold pz;rw[jS au,jS au,jS au,jT hw,hp,Wp7,e0]
 have S7:b1.L=b.L:=by rw[Kh];rfl
 have QH:bhN (p:Int) (x.ins.size:Int)=((p+x.ins.size:Nat):Int):=by
  unfold bhN;rw[mq,mq,mq];omega
 rw[hx]at hg;obtain⟨X,hX,Ph⟩:=EY h.nm p (p+x.ins.size) U false false b1 Z S7 hg;have VE2:(qN p (p+x.ins.size) (r.ent.2.2.2.map kd) r.ops 0 b1).1=eF ((xs.map (·.2)).any (pf a.nm)) false false X false:=by simpa [eF]using hX
 have D:=EN (nm:=a.nm) (p:Int) ((p+x.ins.size:Nat):Int) (ks:=r.ent.2.2.2.map kd) (qs:=xs) ⟨(r.ent.1:Int),[],false⟩ Z.len;have Ng:(x.ins.code:Int)=(r.ent.1:Int):=by rw[I.2.1]
 have UP:su a.nm p x=(pJ a.nm (p:Int) (-1000000) 1000000 (xs.map (·.2))).bind fun A=>wN x.ins A (p:Int):=by
  unfold su;rw[jS ae,jS ae,hx]
 have O9:=Z.len
 have Wr:∀A,A=tl a.nm (p:Int) xs->uN x.ins A (p:Int) = {qT ((p+x.ins.size:Nat):Int) (r.ent.2.2.2.map kd) A ⟨(r.ent.1:Int),[],false⟩ with add:=if r.ent.1=133 then (qT ((p+x.ins.size:Nat):Int) (r.ent.2.2.2.map kd) A ⟨(r.ent.1:Int),[],false⟩).add.reverse else (qT ((p+x.ins.size:Nat):Int) (r.ent.2.2.2.map kd) A ⟨(r.ent.1:Int),[],false⟩).add}:=by
  intro A NG;have Sx:A.length=(r.ent.2.2.2.map kd).length:=by rw[NG,Cn,O9]
  unfold uN;rw[QH,I.2.2.1,Ng,I.2.1];rcases L5 with q|q
  ·rw[jS q];unfold uF;rw[jS q,AF _ _ _ _ Sx.symm]
  by_cases q1:r.ent.1=133
  ·rw[jT q1,q];rw[q]at Sx;match A,Sx with
   |[z0,z1],_=>
    unfold uF;rw[jT q1,AF _ _ _ _ rfl];show qT _ [11,11] [z1,z0] _=_;simp[qT,pF,Bool.or_comm]
  rw[jS q1];unfold uF;rw[jS q1,AF _ _ _ _ Sx.symm]
 unfold wY;refine D9 (X:=X) V hz ?_ (fun O=>?_) (fun O R J=>?_)
 ·rw[e1,hx];exact VE2
 ·rw[hx]at O;rw[Ph O,UP];cases hn:pJ a.nm (p:Int) (-1000000) 1000000 (xs.map (·.2)) with
  |none=>rw[hn]at D;rw[D];rfl
  |some A=>
   rw[hn]at D;show _=Option.isNone (wN x.ins A (p:Int));unfold wN;rw[Wr A D.1];show _=Option.isNone (if (qT _ _ A _).wrong=true then none else some _);rw[D.2];cases tS a.nm (p:Int) ((p+x.ins.size:Nat):Int) (r.ent.2.2.2.map kd) xs <;> rfl
 have M:=(Ce J (.inr (.inr ht)) (fun _=>hI)).1;rw[V]at M;rw[hx]at O;rw[UP]at J;cases hn:pJ a.nm (p:Int) (-1000000) 1000000 (xs.map (·.2)) with
 |none=>rw[hn]at J;cases J
 |some A=>
  rw[hn]at D J;have Zo:wN x.ins A (p:Int)=some R:=J;unfold wN at Zo;rw[Wr A D.1]at Zo;have S:(if (qT ((p+x.ins.size:Nat):Int) (r.ent.2.2.2.map kd) A ⟨(r.ent.1:Int),[],false⟩).wrong=true then none else some ((qT ((p+x.ins.size:Nat):Int) (r.ent.2.2.2.map kd) A ⟨(r.ent.1:Int),[],false⟩).code::(if r.ent.1=133 then (qT ((p+x.ins.size:Nat):Int) (r.ent.2.2.2.map kd) A ⟨(r.ent.1:Int),[],false⟩).add.reverse else (qT ((p+x.ins.size:Nat):Int) (r.ent.2.2.2.map kd) A ⟨(r.ent.1:Int),[],false⟩).add)))=some R:=Zo;rw[D.2]at S
  have LY:tS a.nm (p:Int) ((p+x.ins.size:Nat):Int) (r.ent.2.2.2.map kd) xs=false:=by
   cases q:tS a.nm (p:Int) ((p+x.ins.size:Nat):Int) (r.ent.2.2.2.map kd) xs
   ·rfl
   rw[q]at S;cases S
  rw[LY,jS (fun e=>by cases e)]at S;have G:=kp S;rw[D.1]at G
  have PN:p+1+(qT ((p+x.ins.size:Nat):Int) (r.ent.2.2.2.map kd) (tl a.nm (p:Int) xs) ⟨(r.ent.1:Int),[],false⟩).add.length<=b.bytes.length:=by
   rw[h.lb];have:=lp List.length G;rw[kh,M]at this;split at this
   ·rw[List.length_reverse]at this;omega
   omega
  have Ry:=zq h.nm p (p+x.ins.size) U b.bytes b ⟨(r.ent.1:Int),[],false⟩ r.ent.1 Z rfl hg O LY hc rfl KA PN;rw[<-Kh]at Ry;rw[e1,Ry];obtain⟨s,hs⟩:=Zg0 (qT ((p+x.ins.size:Nat):Int) (r.ent.2.2.2.map kd) (tl a.nm (p:Int) xs) ⟨(r.ent.1:Int),[],false⟩);rw[hs]at G⊢;have T3:=h.put p (p+x.ins.size) R (by rw[M];exact U);rw[V,<- M]
  have Ly:(if r.ent.1=133/\(0:Nat)=0 then u9 (pn b b.bytes p s).bytes (p+1) else (pn b b.bytes p s).bytes)=putAt b.bytes p R:=by
   by_cases q1:r.ent.1=133
   ·rw[jT ⟨q1,rfl⟩];rw[jT q1]at G
    have QJ:r.ent.2.2.2.map kd=[11,11]:=by
     rcases L5 with q|q
     ·exact absurd q1 q
     exact q
    have OO:=Cn a.nm (p:Int) xs;rw[<-O9,QJ]at OO
    obtain⟨u,v,Wa9⟩:∃u v,s=⟨(r.ent.1:Int),[u,v],s.wrong⟩:=by
     rw[<-hs,QJ];match tl a.nm (p:Int) xs,OO with
     |[z0,z1],_=>exact⟨IntKind.u8.wrap z0,IntKind.u8.wrap z1,by simp[qT,pF]⟩
    rw[Wa9]at G⊢;rw[<-G];show u9 (putAt b.bytes p [(r.ent.1:Int),u,v]) (p+1)=putAt b.bytes p [(r.ent.1:Int),v,u];refine Z8k _ _ _ _ _ ?_;rw[h.lb];have:=lp List.length G;simp at this;omega
   rw[jS (fun e=>q1 e.1)];rw[jS q1]at G;rw[<-G];rfl
  show SF _ {pn b b.bytes p s with bytes:=if r.ent.1=133/\(0:Nat)=0 then u9 (pn b b.bytes p s).bytes (p+1) else (pn b b.bytes p s).bytes,pl:=p+R.length} _;rw[Ly,M];rw[M]at T3;exact T3
theorem Z4d{a:Asm}{b:RAsm}{F:Nat->Bool}(h:SF a b F){p:Nat}{lb:ByteArray}{x:Stm}{r:RLine}(J:sx (lb,x) r)(D:b.pl=p)(M:x.task=6->uw x.ins x.vals.length)(G:pB x.vals=false)(I:p+pE x.task x.vals.length x.ins.size<=1024):wY a b p x r F:=by
 rcases J.2 with⟨t,_,_,w,_⟩|⟨t,_,w,v,l⟩|⟨t,_,w,v,l⟩|⟨t,_,w,v,l,m⟩|⟨t,i,w,v⟩|⟨t,i,w,v⟩|⟨t,w,m,xs,nm,o,vs,O⟩
 ·have w':r.what=⟨#[]⟩:=w;have A:x.task=0:=t;refine zN h (by rw[A];rfl) ⟨b.pl,?_⟩;unfold pz;rw[w'];rfl
 ·have w':r.what=wORG:=w;have A:x.task=1:=t;refine zN h (by rw[A];rfl) ⟨(rVF b.L (b.pl:Int) (r.ops.getD 0 op0).e 0 0).1.toNat,?_⟩;unfold pz;rw[jT w']
 ·have w':r.what=wDS:=w;have A:x.task=4:=t;refine zN h (by rw[A];rfl) ⟨b.pl+(rVF b.L (b.pl:Int) (r.ops.getD 0 op0).e 0 0).1.toNat,?_⟩;unfold pz;rw[jS aD,jT w']
 ·have w':r.what=wEQU:=w;have A:x.task=5:=t;refine zN h (by rw[A];rfl) ⟨b.pl,?_⟩;unfold pz;rw[w'];rfl
 ·exact F8 h D false t w v G I
 ·exact F8 h D true t w v G I
 exact Z6i h D t w m o vs O (M t) G I
theorem zr{L M:List (ByteArray×Int)}{p:Int}:∀ {rs:List RTerm} {n:Int} {e:Nat},(rVF L p rs n e).2≠3->rVF (L++M) p rs n e=rVF L p rs n e
 |[],_,_,_=>rfl
 |x::r,n,e,h=>by
  rw[rVF]at h⊢
  rw[rVF]
  cases A:rTv L p x.t with
  |none=>rw[A]at h;exact absurd rfl h
  |some v=>
   have D:rTv (L++M) p x.t=some v:=by
    unfold rTv at A⊢
    by_cases c:x.t.kind=119
    ·rw[jT c]at A⊢
     unfold qH at A⊢
     rw[List.find?_append]
     cases hf:L.find? (fun q=>decide (q.1=x.t.s)) with
     |none=>rw[hf]at A;cases A
     |some q=>rw[hf]at A;exact A
    rw[jS c]at A⊢
    exact A
   rw[A]at h
   rw[D]
   have h':(if n+rSg x.minus v>1000000\/n+rSg x.minus v < -1000000 then rVF L p r (min (max (n+rSg x.minus v) (-2000000)) 2000000) 6 else rVF L p r (n+rSg x.minus v) e).2≠3:=h
   show (if _ then rVF (L++M) p r _ 6 else rVF (L++M) p r _ e)=if _ then rVF L p r _ 6 else rVF L p r _ e
   by_cases c:n+rSg x.minus v>1000000\/n+rSg x.minus v < -1000000
   ·rw[jT c]at h'⊢
    rw[jT c,zr h']
   rw[jS c]at h'⊢
   rw[jS c,zr h']
theorem JP(a:RAsm)(x:RLine):∃M,(oS a x).L=a.L++M:=by
 unfold oS;split
 ·exact⟨[],(kX _).symm⟩
 exact⟨_,rfl⟩
theorem Cz(a:RAsm)(x:RLine):∃M,(oT a x).2.L=(oS a x).L++M:=by
 unfold oT;repeat' split
 all_goals first| exact⟨[],(kX _).symm⟩|exact⟨_,rfl⟩
theorem rr{a b:Nat}(h:oU a b=0):a=0/\b=0:=by
 unfold oU at h;split at h <;> omega
theorem Fc{A b:RAsm}{lb:ByteArray}{x:Stm}{r:RLine}(R:sx (lb,x) r)(h0:(oT A r).1=0)(G:b.pl=A.pl)(S:∃M,b.L=(oT A r).2.L++M):(pz b r).2.pl=(oT A r).2.pl:=by
 obtain⟨M,D⟩:=S;have I:=CK A r
 have J:∀w:ByteArray,r.what=w->(¬w=⟨#[]⟩/\¬(w=wORG\/w=wDS\/w=wEQU))->(oT A r).2.pl=A.pl+pg r:=by
  intro w hw hh;unfold oT at h0⊢;rw[hw,jS hh.1,jS hh.2]at h0⊢;by_cases c:1024<A.pl+pg r
  ·rw[jT c]at h0;have:=(rr h0).2;omega
  rw[jS c]
 rcases R.2 with⟨t,_,_,w,_⟩|⟨t,_,w,v,l⟩|⟨t,_,w,v,l⟩|⟨t,_,w,v,l,m⟩|⟨t,i,w,v⟩|⟨t,i,w,v⟩|⟨t,w,m,xs,nm,o,vs,U⟩
 ·have w':r.what=⟨#[]⟩:=w;have e1:pz b r=(0,b):=by unfold pz;rw[w'];rfl
  have e2:oT A r=(pX A r,oS A r):=by unfold oT;rw[jT w']
  rw[e1,e2];exact G.trans I.1.symm
 ·have w':r.what=wORG:=w;unfold oT at h0 D⊢;rw[w',jS ah,jT ah,jS ah]at h0 D⊢;by_cases c:(rVF (oS A r).L (A.pl:Int) (r.ops.getD 0 op0).e 0 0).2=0
  ·rw[jS (fun q=>q c),jT rfl]at h0 D⊢;by_cases c2:(rVF (oS A r).L (A.pl:Int) (r.ops.getD 0 op0).e 0 0).1<0\/1023<(rVF (oS A r).L (A.pl:Int) (r.ops.getD 0 op0).e 0 0).1
   ·rw[jT c2]at h0;exact absurd (rr h0).2 ah
   rw[jS c2]at D⊢;have O:b.L=(oS A r).L++M:=D;unfold pz;rw[jT w',O,G,zr (by rw[c];decide)]
  rw[jT c]at h0;exact absurd (rr h0).2 c
 ·have w':r.what=wDS:=w;unfold oT at h0 D⊢;rw[w',jS ah,jT ah,jS ah]at h0 D⊢;by_cases c:(rVF (oS A r).L (A.pl:Int) (r.ops.getD 0 op0).e 0 0).2=0
  ·rw[jS (fun q=>q c),jS ah]at h0 D⊢;by_cases c2:(rVF (oS A r).L (A.pl:Int) (r.ops.getD 0 op0).e 0 0).1<0\/1024<(A.pl:Int)+(rVF (oS A r).L (A.pl:Int) (r.ops.getD 0 op0).e 0 0).1
   ·rw[jT c2]at h0;exact absurd (rr h0).2 ah
   rw[jS c2]at D⊢;have O:b.L=(oS A r).L++M:=D;unfold pz;rw[jS aD,jT w',O,G,zr (by rw[c];decide)]
  rw[jT c]at h0;exact absurd (rr h0).2 c
 ·have w':r.what=wEQU:=w;have e1:pz b r=(0,b):=by unfold pz;rw[w'];rfl
  unfold oT;rw[e1,w',jS ah,jT ah,jT rfl];exact G.trans I.1.symm
 ·have w':r.what=wDB:=w;rw[J _ w' ah];unfold pz;rw[jS aD,jS aD,jT (.inl w'),G]
 ·have w':r.what=wDW:=w;rw[J _ w' ah];unfold pz;rw[jS aD,jS aD,jT (.inr w'),G]
 have w':r.what=wINS:=w;rw[J _ w' ah];unfold pz;rw[jS aD,jS aD,jS aD,jT w',G]
theorem Gy(A:Bool)(start:Nat):∀(os:List ROp) (e:Nat) (a:RAsm),(qS A start os e a).2.L=a.L
 |[],_,_=>rfl
 |o::os,e,a=>by
  rw[qS]
  exact(Gy A start os _ _).trans (BQ ..)
theorem IW(start bh:Nat):∀(ks:List Nat) (os:List ROp) (e:Nat) (a:RAsm),(qN start bh ks os e a).2.L=a.L
 |k::ks,o::os,e,a=>by
  rw[qN]
  refine(IW start bh ks os _ _).trans ((It ..).trans ?_)
  split <;> rfl
 |[],_,_,_=>rfl
 |_::_,[],_,_=>rfl
theorem FE(b:RAsm)(r:RLine):(pz b r).2.L=b.L:=by
 unfold pz;repeat' split
 all_goals first| rfl|exact Gy .. | exact IW ..
