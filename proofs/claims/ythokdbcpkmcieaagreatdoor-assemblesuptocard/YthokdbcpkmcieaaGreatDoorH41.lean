import Derived.Test.YthokdbcpkmcieaaGreatDoorH40
set_option maxRecDepth 200000
set_option maxHeartbeats 16000000
namespace Go.Proofs.YthokdbcpkmcieaaGreatDoor
open RowKit
def eF(A D G I J:Bool):Nat:=cond A 3 (cond D 4 (cond G 5 (cond I 6 (cond J 7 0))))
theorem wP:∀a3 a4 a5 A D b3 b4 b5 b6 b7:Bool,oU (eF a3 a4 a5 A D) (eF b3 b4 b5 b6 b7)=eF (a3||b3) (a4||b4) (a5||b5) (A||b6) (D||b7):=ah
theorem Z3X(l g:Bool):lkR l g=eF l false false g false:=by cases l <;> cases g <;> rfl
theorem Iv(L:List (ByteArray×Int))(s:ByteArray):rD L s=eF (decide (8<s.size)) (qH L s).isSome (decide (L.length=40)) false false:=by
 unfold rD eF oU;by_cases h1:8<s.size <;> by_cases h2:L.length=40 <;> cases (qH L s).isSome <;> simp[h1,h2]
theorem J5:(6:Nat)=eF false false false true false:=rfl
theorem Z6Q:(7:Nat)=eF false false false false true:=rfl
def pf(nm:List UInt8->Option Int)(e:List Trm):Bool:=e.any fun t=>!decide (t.name=⟨#[]⟩)&&!(nm t.name.data.toList).isSome
def Knows(nm:List UInt8->Option Int)(L:List (ByteArray×Int)):Prop:=∀x,rR x->nm x=qH L (txt (oQ x))
def yF(nm:List UInt8->Option Int)(L:List (ByteArray×Int)):Prop:=∀x,rR x->(nm x).isSome=(qH L (txt (oQ x))).isSome
theorem Knows.b{nm:List UInt8->Option Int}{L:List (ByteArray×Int)}(h:Knows nm L):yF nm L:=fun x hx=>by rw[h x hx]
theorem DF{nm:List UInt8->Option Int}{L:List (ByteArray×Int)}(h:yF nm L)(p:Int){t:Trm}{r:RTerm}(A:vI t r):(rTv L p r.t).isSome = !(!decide (t.name=⟨#[]⟩)&&!(nm t.name.data.toList).isSome):=by
 unfold rTv;rcases FP A with⟨n,k⟩|⟨k,hn⟩
 ·rw[jS k,n];split <;> simp
 rw[jT k,hn.1,<- h _ hn.2,j9 (uL hn).1];simp
theorem Z86{nm:List UInt8->Option Int}{L:List (ByteArray×Int)}(h:Knows nm L)(p:Int){t:Trm}{r:RTerm}(G:vI t r)(D:r.t.great=false){v:Int}(A:rTv L p r.t=some v):v=pS nm p t:=by
 unfold rTv at A;unfold pS;rcases G.2 with⟨_,_,k,_,s,w⟩|⟨n,hh,_,k,_⟩|⟨n,hh,m⟩
 ·have hn:uZ t.name r.t.s:=⟨s,w⟩;rw[jT k,s,<- h _ w]at A;have:t.name.size≠0:=by rw[zu];exact fun e=>w.1 (mv.1 e)
  rw[jT this,A];rfl
 ·rw[jS cT,jT k]at A;rw[n,jS (fun e=>e rfl),jT hh];exact(kp A).symm
 rw[jS (by rw[m.1];decide),jS (by rw[m.1];decide)]at A;rw[n,jS (fun e=>e rfl),jS (by rw[hh];decide)];rcases m.2 with q|q
 ·rw[q.2]at D;cases D
 rw[<-q.2.1];exact(kp A).symm
theorem Ai{nm:List UInt8->Option Int}{L:List (ByteArray×Int)}(h:yF nm L)(p:Int):∀ {es:List Trm} {rs:List RTerm} (n:Int) (e:Nat),EL es rs->pf nm es=true->rVF L p rs n e=(0,3)
 |[],[],n,e,_,D=>by cases D
 |t::es,r::rs,n,e,A,D=>by
  have ht:=DF h p A.1
  rw[rVF]
  cases I:rTv L p r.t with
  |none=>rfl
  |some v=>
   rw[I]at ht
   have G:pf nm es=true:=by
    unfold pf at D⊢
    rw[lN]at D
    have hx:(!decide (t.name=⟨#[]⟩)&&!(nm t.name.data.toList).isSome)=false:=mW _ ▸ ht.symm
    rw[hx,mN]at D
    exact D
   show (if _ then rVF L p rs _ 6 else rVF L p rs _ e)=_
   rw[Ai h p _ _ A.2 G,Ai h p _ _ A.2 G,ite_self]
 |[],_::_,_,_,A,_=>A.elim
 |_::_,[],_,_,A,_=>A.elim
theorem zv{nm:List UInt8->Option Int}{L:List (ByteArray×Int)}(h:yF nm L)(p:Int):∀ {es:List Trm} {rs:List RTerm} (n:Int) (e:Nat),EL es rs->pf nm es=false->(e=0\/e=6)->((rVF L p rs n e).2=0/\e=0)\/(rVF L p rs n e).2=6
 |[],[],n,e,_,D,he=>by
  rcases he with rfl|rfl
  ·exact .inl ⟨rfl,rfl⟩
  exact .inr rfl
 |t::es,r::rs,n,e,A,D,he=>by
  have ht:=DF h p A.1
  unfold pf at D
  rw[lN,ml]at D
  rw[D.1]at ht
  rw[rVF]
  cases G:rTv L p r.t with
  |none=>rw[G]at ht;cases ht
  |some v=>
   show ((if _ then rVF L p rs _ 6 else rVF L p rs _ e).2=0/\e=0)\/(if _ then rVF L p rs _ 6 else rVF L p rs _ e).2=6
   split
   ·rcases zv h p _ 6 A.2 D.2 (.inr rfl) with q|q
    ·exact absurd q.2 ah
    exact .inr q
   exact zv h p _ e A.2 D.2 he
 |[],_::_,_,_,A,_,_=>A.elim
 |_::_,[],_,_,A,_,_=>A.elim
theorem Am{nm:List UInt8->Option Int}{L:List (ByteArray×Int)}(h:Knows nm L)(p:Int):∀ {es:List Trm} {rs:List RTerm} (n:Int),EL es rs->pf nm es=false->(rs.any fun x=>x.t.great)=false->match qj nm p n es with
  |some z=>rVF L p rs n 0=(z,0)
  |none=>(rVF L p rs n 0).2=6
 |[],[],n,_,_,_=>rfl
 |t::es,r::rs,n,A,D,G=>by
  have ht:=DF h.b p A.1
  unfold pf at D
  rw[lN,ml]at D
  rw[lN,ml]at G
  rw[D.1]at ht
  rw[rVF,qj]
  cases J:rTv L p r.t with
  |none=>rw[J]at ht;cases ht
  |some v=>
   have I:=Z86 h p A.1 G.1 J
   have hs:(if t.minus=true then n-pS nm p t else n+pS nm p t)=n+rSg r.minus v:=by
    rw[A.1.1,I]
    unfold rSg
    split <;> omega
   rw[hs]
   show match (if _ then none else qj nm p _ es) with
    |some z=>(if _ then rVF L p rs _ 6 else rVF L p rs _ 0)=(z,0)
    |none=>(if _ then rVF L p rs _ 6 else rVF L p rs _ 0).2=6
   by_cases c:n+rSg r.minus v>1000000\/n+rSg r.minus v < -1000000
   ·rw[jT c,jT ae]
    rcases zv h.b p (min (max (n+rSg r.minus v) (-2000000)) 2000000) 6 A.2 D.2 (.inr rfl) with q|q
    ·exact absurd q.2 ah
    exact q
   rw[jS c,jS ae]
   exact Am h p _ A.2 D.2 G.2
 |[],_::_,_,A,_,_=>A.elim
 |_::_,[],_,A,_,_=>A.elim
theorem Cw(nm:List UInt8->Option Int)(p:Int):∀(es:List Trm) (n z:Int),-1000000<=n/\n<=1000000->qj nm p n es=some z->-1000000<=z/\z<=1000000
 |[],n,z,hn,h=>by cases h;exact hn
 |t::es,n,z,hn,h=>by
  rw[qj]at h
  generalize (if t.minus=true then n-pS nm p t else n+pS nm p t)=k at h
  split at h
  ·cases h
  exact Cw nm p es k z ae h
theorem Bm{a:Asm}{b:RAsm}(h:SM a b){lb:ByteArray}{x:Stm}{r:RLine}(D:sx (lb,x) r):pX b r=eF ((pq x.vals).any pO||(!decide (lb=⟨#[]⟩)&&pO lb)) (!decide (lb=⟨#[]⟩)&&(a.nm lb.data.toList).isSome) (!decide (lb=⟨#[]⟩)&&decide (a.n=40)) (pB x.vals) false:=by
 unfold pX;rw[Z6e (Z6r D.2),Z3X];rcases D.1 with⟨h1,h2⟩|h1
 ·have A:lb=⟨#[]⟩:=h1;rw[jT h2,kj A];simp
 have A:uZ lb r.label:=h1;rw[jS (uL A).2,Iv,wP,j9 (uL A).1,A.1,AU,<- h.nm _ A.2,<- h.n];unfold pO;rw[zu];simp
theorem Dd{a:Asm}{b:RAsm}(h:SM a b){lb:ByteArray}{x:Stm}{r:RLine}(D:sx (lb,x) r):yF (oW a lb).nm (oS b r).L:=by
 unfold oW oS;rcases D.1 with⟨h1,h2⟩|h1
 ·have A:lb=⟨#[]⟩:=h1;rw[jT h2,jT A];exact fun y hy=>by rw[h.nm y hy]
 have A:uZ lb r.label:=h1;rw[jS (uL A).2,jS (uL A).1];intro y hy;show (if y=lb.data.toList then some (a.pl:Int) else a.nm y).isSome=(qH (b.L++[(r.label,(b.pl:Int))]) (txt (oQ y))).isSome;rw[Z0g,<- h.nm y hy];by_cases c:y=lb.data.toList
 ·rw[jT c,jT (by rw[c];exact A.1)];cases a.nm y <;> rfl
 rw[jS c,jS (fun e=>c (by rw[A.1]at e;exact(Hz A.2.2.1 hy.2.1 e).symm))];cases a.nm y <;> rfl
theorem AX{a:Asm}{b:RAsm}(h:SM a b){lb:ByteArray}{x:Stm}{r:RLine}(G:sx (lb,x) r)(h4:(!decide (lb=⟨#[]⟩)&&(a.nm lb.data.toList).isSome)=false)(D:(!decide (lb=⟨#[]⟩)&&decide (a.n=40))=false):SM (oW a lb) (oS b r):=by
 unfold oW oS;rcases G.1 with⟨h1,h2⟩|h1
 ·have A:lb=⟨#[]⟩:=h1;rw[jT h2,jT A];exact h
 have A:uZ lb r.label:=h1;rw[j9 (uL A).1]at h4 D;rw[jS (uL A).2,jS (uL A).1,show (b.pl:Int)=(a.pl:Int) from by rw[h.pl]];refine h.put A (a.pl:Int) (by have:=h.fit;omega) ?_ ?_
 ·cases hc:a.nm lb.data.toList with
  |none=>rfl
  |some z=>rw[hc]at h4;cases h4
 have:¬a.n=40:=by simpa using D
 have:=h.le;omega
theorem Jv(a:Asm)(lb:ByteArray):(oW a lb).pl=a.pl/\(oW a lb).laid=a.laid/\(oW a lb).starts=a.starts:=by
 unfold oW;split
 ·exact⟨rfl,rfl,rfl⟩
 exact⟨rfl,rfl,rfl⟩
theorem CK(a:RAsm)(x:RLine):(oS a x).pl=a.pl/\(oS a x).laid=a.laid/\(oS a x).starts=a.starts/\(oS a x).bytes=a.bytes:=by
 unfold oS;split
 ·exact⟨rfl,rfl,rfl,rfl⟩
 exact⟨rfl,rfl,rfl,rfl⟩
theorem IE(a:Asm)(lb:ByteArray)(e:List Trm):pf (oW a lb).nm e=(qU e).any fun s=>!decide (s=lb)&&!(a.nm s.data.toList).isSome:=by
 rw[Jc];unfold pf;refine lp (fun f=>e.any f) (funext fun t=>?_);by_cases c:t.name=⟨#[]⟩
 ·simp[c]
 rw[j9 c];unfold oW;by_cases c2:lb=⟨#[]⟩
 ·rw[jT c2,c2,j9 c];simp
 rw[jS c2];show (true&&!(if t.name.data.toList=lb.data.toList then some (a.pl:Int) else a.nm t.name.data.toList).isSome)=_;by_cases c3:t.name=lb
 ·rw[c3,jT rfl,kj rfl];rfl
 rw[jS (fun e=>c3 (by
  have:t.name.data=lb.data:=T0j.1 e;cases hx:t.name;cases hy:lb;rw[hx,hy]at this;simpa using this)),j9 c3]
 rfl
def ErrIs(o:Except Int Asm)(n:Nat)(P:Asm->Prop):Prop:=match o with
 |.error k=>(n:Int)=k/\k≠0
 |.ok a=>n=0/\P a
theorem ErrIs.err{n:Nat}{P:Asm->Prop}(k:Nat)(h:n=k)(hk:k≠0):ErrIs (.error (k:Int)) n P:=⟨by rw[h],ae⟩
theorem AH{a:Asm}{lb:ByteArray}{x:Stm}{G:Except Int Asm}{n:Nat}{P:Asm->Prop}{A D I J M:Bool}(hn:n=eF A D I J M)
  (h3:cuF a.nm lb x.task x.name x.vals = !A) (h4:A=false->cgF a.nm a.n (pW lb x.task x.name)=if D=true then some 4 else if I=true then some 5 else none)
  (h6:pB x.vals=true->J=true) (O:A=false->D=false->I=false->pB x.vals=false->ErrIs G n P) :
  ErrIs (if cuF a.nm lb x.task x.name x.vals=false then .error 3
   else match cgF a.nm a.n (pW lb x.task x.name) with
    |some k=>.error k
    | none=>if pB x.vals=true then .error 6 else G) n P:=by
 rw[h3];cases A with
 |true=>
  rw[jT (show (!true)=false from rfl)];exact ErrIs.err 3 hn ah
 |false=>
  rw[jS ah,h4 rfl];cases D with
  |true=>exact ErrIs.err 4 hn ah
  |false=>
   cases I with
   |true=>exact ErrIs.err 5 hn ah
   |false=>
    show ErrIs (if pB x.vals=true then .error 6 else G) n P;by_cases c:pB x.vals=true
    ·rw[jT c];rw[h6 c]at hn;exact ErrIs.err 6 hn ah
    rw[jS c];exact O rfl rfl rfl cV
theorem CU(lb nm:ByteArray)(t:Nat)(ht:¬t=5):pW lb t nm=if lb=⟨#[]⟩ then [] else [lb]:=by
 unfold pW;rw[jS ht,kX]
theorem C4{a:Asm}(hn:a.n<=40){lb nm:ByteArray}{t:Nat}(ht:¬t=5):cgF a.nm a.n (pW lb t nm)=if (!decide (lb=⟨#[]⟩)&&(a.nm lb.data.toList).isSome)=true then some 4 else if (!decide (lb=⟨#[]⟩)&&decide (a.n=40))=true then some 5 else none:=by
 rw[CU _ _ _ ht];unfold cgF;by_cases c:lb=⟨#[]⟩
 ·rw[jT c,kj c,jS af,jS ai];rfl
 rw[jS c,j9 c]
 have e1:(List.range [lb].length).any (twI a.nm [lb])=(a.nm lb.data.toList).isSome:=by
  show (List.range 1).any (twI a.nm [lb])=_;rw[oq];simp[twI,show Lib.containsS [] lb=false from rfl]
 rw[e1];by_cases c2:a.n=40
 ·rw[jT (show 40<a.n + [lb].length by show 40<a.n+1;omega),kj c2];rfl
 rw[jS (show ¬40<a.n + [lb].length by show ¬40<a.n+1;omega),j9 c2];rfl
theorem J3{a:Asm}{lb nm:ByteArray}{t:Nat}{es:List (List Trm)}(ht:¬t=5)(A:qz t=false):cuF a.nm lb t nm es = !((pq es).any pO||(!decide (lb=⟨#[]⟩)&&pO lb)):=by
 unfold cuF;rw[CU _ _ _ ht,A,nV];exact Mb9
theorem VL.len:∀ {a:List (List Trm)} {b:List ROp},VL a b->a.length=b.length
 |[],[],_=>rfl
 |_::_,_::_,h=>by rw[kh,kh,VL.len h.2]
 |[],_::_,h=>h.elim
 |_::_,[],h=>h.elim
theorem Z8W{a:Asm}{b:RAsm}(h:SM a b){lb:ByteArray}{x:Stm}{r:RLine}(D:sx (lb,x) r)(ht:x.task=0)(hw:r.what=⟨#[]⟩):ErrIs (py a lb x) (oT b r).1 fun I=>SM I (oT b r).2:=by
 have e1:oT b r=(pX b r,oS b r):=by unfold oT;rw[jT hw]
 rw[e1];have A:=Bm h D;refine AH A (J3 ae (by rw[ht];rfl)) (fun _=>C4 h.le ae) id fun h3 h4 G h6=>?_
 rw[h3,h4,G,h6]at A;rw[jS ae,jS ae,jS ae];have hz:pE x.task x.vals.length x.ins.size=0:=by rw[ht];rfl
 rw[hz];have hf:=h.fit;have e2:tq a.pl 0 a.laid=none:=by unfold tq;rw[jS ae,jS af]
 rw[e2,jS (show ¬x.task=6 by omega)];refine⟨A,?_⟩;have hs:=AX h D h4 G;obtain⟨q1,q2,J⟩:=Jv a lb;obtain⟨M,O,R,S,U,s6,Z,V⟩:=hs;exact⟨M,O,by rw[<-R];exact q1.symm,by rw[<-S];exact q2.symm,by rw[<-U];exact J.symm,s6,by show a.pl<=1024;omega,V⟩
theorem DR{a:Asm}{b:RAsm}(h:SM a b){lb:ByteArray}{x:Stm}{r:RLine}(D:sx (lb,x) r)(ht:x.task=2\/x.task=3\/x.task=6)(hw:¬r.what=⟨#[]⟩/\¬(r.what=wORG\/r.what=wDS\/r.what=wEQU))(hz:pE x.task x.vals.length x.ins.size=pg r)(h6:x.task=6↔r.what=wINS):ErrIs (py a lb x) (oT b r).1 fun I=>SM I (oT b r).2:=by
 have e1:oT b r=if 1024<b.pl+pg r then (oU (pX b r) 6,oS b r)
   else (if true∈(b.laid.drop b.pl).take (pg r) then oU (pX b r) 7 else pX b r,{oS b r with pl:=b.pl+pg r,laid:=qm b.laid b.pl (pg r),starts:=if r.what=wINS then b.starts.set b.pl true else b.starts}):=by
  unfold oT;rw[jS hw.1,jS hw.2]
 have J:=Bm h D;have M:qz x.task=false:=by rcases ht with e|e|e <;> rw[e] <;> rfl
 have A:¬x.task=5:=ae
 have hn:(oT b r).1=eF ((pq x.vals).any pO||(!decide (lb=⟨#[]⟩)&&pO lb)) (!decide (lb=⟨#[]⟩)&&(a.nm lb.data.toList).isSome) (!decide (lb=⟨#[]⟩)&&decide (a.n=40)) (pB x.vals||decide (1024<a.pl+pg r)) (!decide (1024<a.pl+pg r)&&decide (true∈(a.laid.drop a.pl).take (pg r))):=by
  rw[e1,J,<- h.pl,<- h.laid];by_cases c:1024<a.pl+pg r
  ·rw[jT c,J5,wP,kj c];simp
  rw[jS c,j9 c];by_cases c2:true∈(a.laid.drop a.pl).take (pg r)
  ·rw[jT c2,Z6Q,wP,kj c2];simp
  rw[jS c2,j9 c2];simp
 refine AH hn (J3 A M) (fun _=>C4 h.le A) (fun e=>by rw[e];rfl) fun g3 g4 G O=>?_
 rw[g3,g4,G,O]at hn;rw[jS ae,jS ae,jS ae,hz];unfold tq;by_cases c:1024<a.pl+pg r
 ·rw[jT c];rw[kj c]at hn;exact ErrIs.err 6 hn ah
 rw[jS c];rw[j9 c]at hn;by_cases c2:true∈(a.laid.drop a.pl).take (pg r)
 ·rw[jT c2];rw[kj c2]at hn;exact ErrIs.err 7 hn ah
 rw[jS c2];rw[j9 c2]at hn;refine⟨hn,?_⟩;rw[e1,jS (by rw[<-h.pl];exact c)];have hs:=AX h D g4 G;obtain⟨R,S,V,Z,s5,s6,s7,U⟩:=hs;refine⟨R,S,by show a.pl+_=b.pl+_;rw[h.pl],by show qm a.laid a.pl _=qm b.laid b.pl _;rw[h.pl,h.laid],?_,s6,by show a.pl+_<=1024;omega,U⟩;show (if x.task=6 then a.starts.set a.pl true else a.starts)=if r.what=wINS then b.starts.set b.pl true else b.starts
 rw[h.pl,h.starts];by_cases c3:x.task=6
 ·rw[jT c3,jT (h6.1 c3)]
 rw[jS c3,jS (fun e=>c3 (h6.2 e))]
theorem Jf{a:Asm}{b:RAsm}(h:SM a b){lb:ByteArray}{x:Stm}{r:RLine}(A:sx (lb,x) r){e:List Trm}{es:List RTerm}(he:EL e es):∃X:Bool,(rVF (oS b r).L (a.pl:Int) es 0 0).2=eF (pf (oW a lb).nm e) false false X false:=by
 cases D:pf (oW a lb).nm e with
 |true=>
  rw[Ai (Dd h A) _ _ _ he D];exact⟨false,rfl⟩
 |false=>
  rcases zv (Dd h A) (a.pl:Int) 0 0 he D (.inl rfl) with q|q
  ·exact⟨false,q.1⟩
  exact⟨true,q⟩
theorem Z20{a:Asm}{lb nm:ByteArray}{t:Nat}{e:List Trm}(ht:¬t=5)(A:qz t=true):cuF a.nm lb t nm [e] = !(((pq [e]).any pO||(!decide (lb=⟨#[]⟩)&&pO lb))||pf (oW a lb).nm e):=by
 unfold cuF;rw[CU _ _ _ ht,A,IE,nV,show pq [e]=qU e from by simp[pq]];exact Mb9
theorem VL.one{vs:List (List Trm)}{os:List ROp}(h:VL vs os)(h1:vs.length=1):∃e,vs=[e]/\EL e (os.getD 0 op0).e:=by
 match vs,os,h,h1 with
 |[e],[o],h,_=>
  obtain⟨⟨q,h2,h3⟩,_⟩:=h;exact⟨e,rfl,by rw[h2];exact h3⟩
theorem SM.place{a:Asm}{b:RAsm}(h:SM a b)(p:Nat)(A:p<=1024):SM {a with pl:=p} {b with pl:=p}:=⟨h.nm,h.n,rfl,h.laid,h.starts,h.le,A,h.big⟩
theorem Cj{e:List Trm}{es:List RTerm}(h:EL e es)(ht:pB [e]=false):(es.any fun x=>x.t.great)=false:=by
 rw[<-h.any (f:=fun t=>decide (65535<t.num)) (fun t r A=>(Z0c A).symm)];have:ve e=false:=by simpa [pB]using ht
 exact this
theorem IQ{a:Asm}{b:RAsm}(h:SM a b){lb:ByteArray}{x:Stm}{r:RLine}(R:sx (lb,x) r)(ht:(x.task=1/\r.what=wORG)\/(x.task=4/\r.what=wDS))(hv:VL x.vals r.ops)(h1:x.vals.length=1):ErrIs (py a lb x) (oT b r).1 fun a'=>SM a' (oT b r).2:=by
 obtain⟨e,he,S⟩:=hv.one h1;obtain⟨X,D⟩:=Jf h R S;have hE:=Bm h R;obtain⟨V,U⟩:=Zg0 (rVF (oS b r).L (a.pl:Int) (r.ops.getD 0 op0).e 0 0);rw[U]at D;have I:¬x.task=5:=ae;have ha:qz x.task=true:=by rcases ht with e|e <;> rw[e.1] <;> rfl
 have hw:¬r.what=⟨#[]⟩/\(r.what=wORG\/r.what=wDS\/r.what=wEQU)/\¬r.what=wEQU:=by
  rcases ht with e|e <;> rw[e.2] <;> decide
 obtain⟨B,A⟩:∃B:Bool,B=(if r.what=wORG then decide (V.1<0\/1023<V.1) else decide (V.1<0\/1024<(a.pl:Int)+V.1)):=⟨_,rfl⟩;obtain⟨P,J⟩:∃P:Nat,P=(if r.what=wORG then V.1.toNat else a.pl+V.1.toNat):=⟨_,rfl⟩
 have e1:oT b r=if ¬V.2=0 then (oU (pX b r) V.2,oS b r) else if B=true then (oU (pX b r) 6,oS b r) else (pX b r,{oS b r with pl:=P}):=by
  unfold oT;rw[<-h.pl,jS hw.1,jT hw.2.1,jS hw.2.2,U,A,J];by_cases c:r.what=wORG
  ·rw[jT c,jT c,jT c];simp only[kI]
  rw[jS c,jS c,jS c];simp only[kI]
 rw[he]at hE
 have hn:(oT b r).1=eF (((pq [e]).any pO||(!decide (lb=⟨#[]⟩)&&pO lb))||pf (oW a lb).nm e) (!decide (lb=⟨#[]⟩)&&(a.nm lb.data.toList).isSome) (!decide (lb=⟨#[]⟩)&&decide (a.n=40)) (pB [e]||(X||B)) false:=by
  rw[e1,hE];by_cases c:V.2=0
  ·have hk:pf (oW a lb).nm e=false/\X=false:=by
    rw[c]at D;cases G:pf (oW a lb).nm e <;> cases X <;> rw[G]at D <;> first| exact⟨rfl,rfl⟩|cases D
   rw[jS (fun q=>q c),hk.1,hk.2];cases B
   ·simp
   rw[jT rfl,J5,wP];simp
  rw[jT c,D,wP]
  have:X=true\/pf (oW a lb).nm e=true:=by
   cases G:pf (oW a lb).nm e
   ·cases hx:X
    ·rw[G,hx]at D;exact absurd D c
    exact .inl rfl
   exact .inr rfl
  rcases this with q|q <;> simp[q,eF]
 have L3:cuF a.nm lb x.task x.name x.vals = !(((pq [e]).any pO||(!decide (lb=⟨#[]⟩)&&pO lb))||pf (oW a lb).nm e):=by rw[he];exact Z20 I ha
 refine AH hn L3 (fun _=>C4 h.le I) (fun q=>by rw[he]at q;rw[q];rfl) fun g3 g4 g5 Z=>?_
 rw[he]at Z;rw[g3,g4,g5,Z]at hn;have hs:=AX h R g4 g5;have G:pf (oW a lb).nm e=false:=by cases q:pf (oW a lb).nm e <;> simp[q]at g3⊢
 have M:=Am hs.nm (a.pl:Int) 0 S G (Cj S Z);rw[U]at M;have hpl:=Jv a lb
 show ErrIs (if x.task=1 then match qh (oW a lb).nm (a.pl:Int) (x.vals.headD []) 0 1023 with
  |some z=>.ok {oW a lb with pl:=z.toNat}
  |none=>.error 6
  else if x.task=4 then match qh (oW a lb).nm (a.pl:Int) (x.vals.headD []) 0 (1024-(a.pl:Int)) with
  |some z=>.ok {oW a lb with pl:=a.pl+z.toNat}
  | none=>.error 6 else _) _ _
 rw[he,show [e].headD []=e from rfl];unfold qh;cases O:qj (oW a lb).nm (a.pl:Int) 0 e with
 |none=>
  rw[O]at M
  have V7:X=true:=by
   rw[M,G]at D;cases X
   ·cases D
   rfl
  rw[V7]at hn;rcases ht with q|q
  ·rw[jT q.1];exact ErrIs.err 6 hn ah
  rw[jS ae,jT q.1];exact ErrIs.err 6 hn ah
 |some z=>
  rw[O]at M;have hz:V=(z,0):=M
  have Rj:X=false:=by
   rw[hz,G]at D;cases X
   ·rfl
   cases D
  rw[Rj]at hn;rcases ht with q|q
  ·rw[jT q.1];rw[jT q.2,hz]at A J
   show ErrIs (match (if z<0\/1023<z then none else some z) with
    |some z=>.ok {oW a lb with pl:=z.toNat}
    | none=>.error 6) _ _
   by_cases c:z<0\/1023<z
   ·rw[jT c];rw[kj c]at A;rw[A]at hn;exact ErrIs.err 6 hn ah
   rw[jS c];rw[j9 c]at A;rw[A]at hn;refine⟨hn,?_⟩;rw[e1,hz,A,J];exact hs.place z.toNat ae
  rw[jS ae,jT q.1];rw[jS (by rw[q.2];decide),hz]at A J
  show ErrIs (match (if z<0\/1024-(a.pl:Int)<z then none else some z) with
   |some z=>.ok {oW a lb with pl:=a.pl+z.toNat}
   | none=>.error 6) _ _
  by_cases c:z<0\/1024-(a.pl:Int)<z
  ·rw[jT c];rw[kj (by show z<0\/1024<(a.pl:Int)+z;omega)]at A;rw[A]at hn;exact ErrIs.err 6 hn ah
  rw[jS c];rw[j9 (by show ¬(z<0\/1024<(a.pl:Int)+z);omega)]at A;rw[A]at hn;refine⟨hn,?_⟩;rw[e1,hz,A,J];exact hs.place (a.pl+z.toNat) (by have:=h.fit;omega)
theorem Z0T(x y:ByteArray):Lib.containsS [x] y=decide (x=y):=by
 unfold Lib.containsS;refine oe.2 ?_;rw[Lib.idxOfS_nonneg_iff,lu];exact⟨fun e=>e.symm,fun e=>e.symm⟩
theorem Z7q{a:Asm}{lb nm:ByteArray}{e:List Trm}:cuF a.nm lb 5 nm [e] = !((((pq [e]).any pO||(!decide (lb=⟨#[]⟩)&&pO lb))||pf (oW a lb).nm e)||pO nm):=by
 unfold cuF pW;rw[jT rfl,show qz 5=true from rfl,IE,nV,nV,show pq [e]=qU e from by simp[pq]];generalize (qU e).any pO=A;generalize (qU e).any (fun s=>!decide (s=lb)&&!(a.nm s.data.toList).isSome)=B;by_cases c:lb=⟨#[]⟩
 ·rw[jT c,kj c];cases A <;> cases B <;> cases h:pO nm <;> simp[h]
 rw[jS c,j9 c];cases A <;> cases B <;> cases h:pO nm <;> cases g:pO lb <;> simp[h,g]
theorem Z4u{a:Asm}(hn:a.n<=40){lb nm:ByteArray}(hnm:¬nm=⟨#[]⟩):cgF a.nm a.n (pW lb 5 nm)=if ((!decide (lb=⟨#[]⟩)&&(a.nm lb.data.toList).isSome)||((oW a lb).nm nm.data.toList).isSome)=true then some 4 else if ((!decide (lb=⟨#[]⟩)&&decide (a.n=40))||decide (a.n+(if lb=⟨#[]⟩ then 0 else 1)=40))=true then some 5 else none:=by
 unfold cgF pW oW;rw[jT rfl];by_cases c:lb=⟨#[]⟩
 ·rw[jT c,kj c,jT c,jT c,mu]
  have e1:(List.range [nm].length).any (twI a.nm [nm])=(a.nm nm.data.toList).isSome:=by
   show (List.range 1).any (twI a.nm [nm])=_;rw[oq];simp[twI,show Lib.containsS [] nm=false from rfl]
  rw[e1];simp only[Bool.not_true,Bool.false_and,mN,oL,kI,kK];by_cases c2:a.n=40
  ·rw[jT (show 40<a.n+1 by omega),jT c2]
  rw[jS (show ¬40<a.n+1 by omega),jS c2]
 rw[jS c,j9 c,jS c,jS c]
 have e1:(List.range ([lb]++[nm]).length).any (twI a.nm ([lb]++[nm]))=((a.nm lb.data.toList).isSome||((a.put lb (a.pl:Int)).nm nm.data.toList).isSome):=by
  show (List.range 2).any (twI a.nm [lb,nm])=_;rw[show List.range 2=[0,1] from rfl];have:Lib.containsS ([lb,nm].take 1) nm=decide (lb=nm):=Z0T lb nm;show (((a.nm lb.data.toList).isSome||Lib.containsS [] lb)||(((a.nm nm.data.toList).isSome||Lib.containsS ([lb,nm].take 1) nm)||false))=((a.nm lb.data.toList).isSome||(if nm.data.toList=lb.data.toList then some (a.pl:Int) else a.nm nm.data.toList).isSome);rw[this,show Lib.containsS [] lb=false from rfl,nI,nI];by_cases d:lb=nm
  ·rw[d,jT rfl,kj rfl];simp
  rw[j9 d,jS (fun q=>d (by
   have:nm.data=lb.data:=T0j.1 q;cases lb;cases nm;simp at this;rw[this])),nI]
 rw[e1];simp only[Bool.not_false,Bool.true_and,mM,kI];by_cases c2:a.n=40\/a.n+1=40
 ·rw[jT c2,jT (show 40<a.n+([lb]++[nm]).length by show 40<a.n+2;omega)]
 rw[jS c2,jS (show ¬40<a.n+([lb]++[nm]).length by show ¬40<a.n+2;omega)]
theorem GL{a:Asm}{b:RAsm}(h:SM a b){lb:ByteArray}{x:Stm}{r:RLine}(A:sx (lb,x) r):(oS b r).L.length=a.n+if lb=⟨#[]⟩ then 0 else 1:=by
 unfold oS;rw[h.n];rcases A.1 with⟨h1,h2⟩|h1
 ·rw[jT h2,jT h1];rfl
 rw[jS (uL h1).2,jS (uL h1).1];show (b.L++[(r.label,(b.pl:Int))]).length=_;simp
theorem Z9j{a:Asm}{b:RAsm}(h:SM a b){lb:ByteArray}{x:Stm}{r:RLine}(D:sx (lb,x) r)(ht:x.task=5)(hw:r.what=wEQU)(hv:VL x.vals r.ops)(h1:x.vals.length=1)(J:uZ x.name r.name):ErrIs (py a lb x) (oT b r).1 fun a'=>SM a' (oT b r).2:=by
 obtain⟨e,he,O⟩:=hv.one h1;obtain⟨X,G⟩:=Jf h D O;have Z:=Bm h D;obtain⟨V,R⟩:=Zg0 (rVF (oS b r).L (a.pl:Int) (r.ops.getD 0 op0).e 0 0);rw[R]at G;have Kk:=(uL J).1
 have e1:oT b r=(oU (oU (pX b r) V.2) (rD (oS b r).L r.name),{oS b r with L:=(oS b r).L++[(r.name,V.1)]}):=by
  unfold oT;rw[<-h.pl,R,jS au,jT (.inr (.inr hw)),jT hw]
 rw[he]at Z
 have hn:(oT b r).1=eF ((((pq [e]).any pO||(!decide (lb=⟨#[]⟩)&&pO lb))||pf (oW a lb).nm e)||pO x.name) ((!decide (lb=⟨#[]⟩)&&(a.nm lb.data.toList).isSome)||((oW a lb).nm x.name.data.toList).isSome) ((!decide (lb=⟨#[]⟩)&&decide (a.n=40))||decide (a.n+(if lb=⟨#[]⟩ then 0 else 1)=40)) (pB [e]||X) false:=by
  rw[e1,Z,G,Iv,wP,wP,J.1,AU,<- Dd h D _ J.2,GL h D];unfold pO;rw[zu x.name];simp only[nI]
 have L3:cuF a.nm lb x.task x.name x.vals = !((((pq [e]).any pO||(!decide (lb=⟨#[]⟩)&&pO lb))||pf (oW a lb).nm e)||pO x.name):=by rw[he,ht];exact Z7q
 have Mp:=Z4u h.le (lb:=lb) Kk;rw[<-ht]at Mp;refine AH hn L3 (fun _=>Mp) (fun q=>by rw[he]at q;rw[q];rfl) fun g3 g4 M S=>?_
 rw[he]at S;rw[g3,g4,M,S]at hn;rw[ml]at g4 M;have hs:=AX h D g4.1 M.1;have U:pf (oW a lb).nm e=false:=by cases q:pf (oW a lb).nm e <;> simp[q]at g3⊢
 have I:=Am hs.nm (a.pl:Int) 0 O U (Cj O S);rw[R]at I;rw[jS ae,jS ae,jT ht]
 show ErrIs (match qh (oW a lb).nm (a.pl:Int) (x.vals.headD []) (-1000000) 1000000 with
  |some z=>.ok ((oW a lb).put x.name z)
  | none=>.error 6) _ _
 rw[he,show [e].headD []=e from rfl];unfold qh;cases A:qj (oW a lb).nm (a.pl:Int) 0 e with
 |none=>
  rw[A]at I
  have V7:X=true:=by
   rw[I,U]at G;cases X
   ·cases G
   rfl
  rw[V7]at hn;exact ErrIs.err 6 hn ah
 |some z=>
  rw[A]at I;have hz:V=(z,0):=I
  have Rj:X=false:=by
   rw[hz,U]at G;cases X
   ·rfl
   cases G
  rw[Rj]at hn;have hb:=Cw _ _ _ _ _ ae A
  show ErrIs (match (if z < -1000000\/1000000<z then none else some z) with
    |some z=>.ok ((oW a lb).put x.name z)
    | none=>.error 6) _ _
  rw[jS ae];refine⟨hn,?_⟩;rw[e1,hz];refine hs.put J z hb ?_ ?_
  ·cases hc:(oW a lb).nm x.name.data.toList with
   |none=>rfl
   |some y=>rw[hc]at g4;exact absurd g4.2 af
  have:=hs.n;rw[GL h D]at this;have g:=M.2;simp only[lC]at g;have:=hs.le;omega
theorem Z8d{a:Asm}{b:RAsm}(h:SM a b){lb:ByteArray}{x:Stm}{r:RLine}(A:sx (lb,x) r):ErrIs (py a lb x) (oT b r).1 fun G=>SM G (oT b r).2:=by
 rcases A.2 with⟨t,_,_,w,_⟩|⟨t,_,w,v,l⟩|⟨t,_,w,v,l⟩|⟨t,_,w,v,l,m⟩|⟨t,i,w,v⟩|⟨t,i,w,v⟩|⟨t,w,m,xs,nm,o,vs,I⟩
 ·exact Z8W h A t w
 ·exact IQ h A (.inl ⟨t,w⟩) v l
 ·exact IQ h A (.inr ⟨t,w⟩) v l
 ·exact Z9j h A t w v l m
 ·have D:x.task=2:=t;have w':r.what=wDB:=w;refine DR h A (.inl t) aD ?_ ?_
  ·rw[D];unfold pE pg;rw[jT rfl,jT w'];exact v.len
  rw[D,w'];decide
 ·have D:x.task=3:=t;have w':r.what=wDW:=w;refine DR h A (.inr (.inl t)) aD ?_ ?_
  ·rw[D];unfold pE pg;rw[jS ah,jT rfl,jS aD,jT w',v.len]
  rw[D,w'];decide
 have D:x.task=6:=t;have w':r.what=wINS:=w;refine DR h A (.inr (.inr t)) aD ?_ ?_
 ·rw[D];unfold pE pg;rw[jS ah,jS ah,jT rfl,jS aD,jS aD,jT w',m.2.2.2,m.2.2.1]
 rw[D,w'];decide
theorem zg{α:Type}(B:List α)(p:Nat)(l:List α)(h:p+l.length<=B.length):(Go.splice B p l).length=B.length:=by
 unfold Go.splice;simp;omega
theorem uG{α:Type}(B:List α)(p:Nat)(l:List α)(h:p+l.length<=B.length)(i:Nat):(Go.splice B p l)[i]?=if i<p then B[i]? else if i<p+l.length then l[i-p]? else B[i]?:=by
 unfold Go.splice;by_cases c:i<p
 ·rw[jT c,lz ai,List.getElem?_take_of_lt c]
 rw[jS c,lr ai];rw[show (B.take p).length=p by simp;omega];by_cases c2:i<p+l.length
 ·rw[jT c2,lz ae]
 rw[jS c2,lr ae,mK];congr 1;omega
theorem zo{α:Type}(B:List α)(p:Nat)(l:List α)(x:α)(h:p+l.length<B.length):(Go.splice B p l).set (p+l.length) x=Go.splice B p (l++[x]):=by
 apply List.ext_getElem?;intro i;rw[mz,zg _ _ _ ae,uG _ _ _ ae,uG _ _ _ ai];by_cases c0:p+l.length=i
 ·rw[jT c0,jT ae,jS ae,jT ai,lr ae,show i-p-l.length=0 by omega];rfl
 rw[jS c0];by_cases c1:i<p
 ·rw[jT c1,jT c1]
 rw[jS c1,jS c1];by_cases c2:i<p+l.length
 ·rw[jT c2,jT ai,lz ae]
 rw[jS c2,jS ai]
theorem GI{α:Type}(B:List α)(p:Nat)(l:List α)(c x:α)(h:p+(l.length+1)<=B.length):(Go.splice B p (c::l)).set p x=Go.splice B p (x::l):=by
 apply List.ext_getElem?;intro i;rw[mz,zg _ _ _ av,uG _ _ _ av,uG _ _ _ av];by_cases c0:p=i
 ·subst c0;rw[jT rfl,jT ae,jS ae,jT af,my];rfl
 rw[jS c0];by_cases c1:i<p
 ·rw[jT c1,jT c1]
 rw[jS c1,jS c1];by_cases c2:i<p+(l.length+1)
 ·rw[jT dU,jT dU];obtain⟨j,A⟩:∃j,i-p=j+1:=⟨i-p-1,ae⟩;rw[A];rfl
 rw[jS dU,jS dU]
theorem GD{α:Type}(B:List α)(p:Nat)(l:List α)(c d:α)(h:p+(l.length+1)<=B.length):(Go.splice B p (c::l)).getD p d=c:=by
 rw[jZ,uG _ _ _ av,jS ae,jT af,my];rfl
theorem Ji{α:Type}(B:List α)(p:Nat):Go.splice B p []=B:=by
 unfold Go.splice;simp
theorem Z82{α:Type}(B:List α)(p:Nat)(x:α)(h:p<B.length):B.set p x=Go.splice B p [x]:=by
 have:=zo B p [] x av;rw[Ji]at this;simpa using this
theorem yP(a:RAsm)(v:Int×Nat)(u x:Bool)(A:v.2=eF u false false x false)(lo hi:Int)(D:Bool):(pM a v.1 v.2 lo hi D).1=eF u false false (x||pe v.1 lo hi) false:=by
 unfold pM pe;rw[A];cases u
 ·cases x
  ·by_cases c:v.1<lo\/hi<v.1
   ·rw[jS ah,jT (.inr c)];have:(false||(decide (v.1<lo)||decide (hi<v.1)))=true:=cV;rw[this];rfl
   rw[jS ah,jS (by
    intro q;rcases q with q|q
    ·exact q rfl
    ·exact c q)]
   have:(false||(decide (v.1<lo)||decide (hi<v.1)))=false:=cV;rw[this];rfl
  rw[jS ah,jT (.inl ah)];rfl
 rw[jT (show eF true false false x false=3 from rfl)];rfl
theorem BQ(a:RAsm)(n:Int)(e:Nat)(lo hi:Int)(A:Bool):(pM a n e lo hi A).2.L=a.L:=by
 unfold pM;split
 ·rfl
 split
 ·rfl
 rfl
theorem Dt(a:RAsm)(n:Int)(lo hi:Int)(h:pe n lo hi=false)(A:Bool):pM a n 0 lo hi A=(0,{a with bytes:=if A=true then (a.bytes.set a.pl (toB (IntKind.u8.wrap (n/256)))).set (a.pl+1) (toB (IntKind.u8.wrap n)) else a.bytes.set a.pl (toB (IntKind.u8.wrap n)),pl:=a.pl+if A=true then 2 else 1}):=by
 unfold pM;have h':¬(n<lo\/hi<n):=by simpa [pe]using h
 rw[jS ah,jS (by
  intro q;rcases q with q|q
  ·exact q rfl
  ·exact h' q)]
def wv(A:Bool)(D:List Int):List Int:=if A=true then wdB D else D.map IntKind.u8.wrap
def rF(A:Bool):Int:=if A=true then -32768 else -128
def rE(A:Bool):Int:=if A=true then 65535 else 255
theorem Ew{nm:List UInt8->Option Int}{L:List (ByteArray×Int)}(h:yF nm L)(p:Int){es:List Trm}{rs:List RTerm}(he:EL es rs):∃X:Bool,(rVF L p rs 0 0).2=eF (pf nm es) false false X false:=by
 cases A:pf nm es with
 |true=>
  rw[Ai h _ _ _ he A];exact⟨false,rfl⟩
 |false=>
  rcases zv h p 0 0 he A (.inl rfl) with q|q
  ·exact⟨false,q.1⟩
  exact⟨true,q⟩
theorem AJ{nm:List UInt8->Option Int}{L:List (ByteArray×Int)}(h:Knows nm L)(p:Int){es:List Trm}{rs:List RTerm}(he:EL es rs)(A:pf nm es=false)(D:ve es=false):∃v,rVF L p rs 0 0=v/\((∃z,qj nm p 0 es=some z/\v=(z,0))\/(qj nm p 0 es=none/\v.2=6)):=by
 have:=Am h p 0 he A (Cj he (by simpa [pB]using D));cases hz:qj nm p 0 es with
 |some z=>rw[hz]at this;exact⟨_,rfl,.inl ⟨z,rfl,this⟩⟩
 |none=>rw[hz]at this;exact⟨_,rfl,.inr ⟨rfl,this⟩⟩
theorem Dx(nm:List UInt8->Option Int)(p lo hi:Int)(e:List Trm)(es:List (List Trm)):pJ nm p lo hi (e::es)=(qh nm p e lo hi).bind fun z=>(pJ nm p lo hi es).map (z :: ·):=rfl
theorem Ez{nm:List UInt8->Option Int}{L:List (ByteArray×Int)}(h:Knows nm L)(A:Bool)(p:Nat):∀ {es:List (List Trm)} {os:List ROp} (D G:Bool) (a:RAsm),VL es os->a.L=L->pB es=false->∃X:Bool,(qS A p os (eF D false false G false) a).1=eF (D||es.any (pf nm)) false false X false/\(es.any (pf nm)=false->X=(G||(pJ nm (p:Int) (rF A) (rE A) es).isNone))
 |[],[],D,G,a,_,_,_=>⟨G,by simp[qS],fun _=>by simp[pJ]⟩
 |e::es,o::os,D,G,a,J,S,hg=>by
  obtain⟨⟨r,ho,he⟩,V⟩:=J
  have U:ve e=false/\pB es=false:=gm
  obtain⟨X,I⟩:=Ew h.b (p:Int) he
  rw[qS,ho,S]
  show ∃Y:Bool,(qS A p os (oU (eF D false false G false) (pM a (rVF L (p:Int) r 0 0).1 (rVF L (p:Int) r 0 0).2 (rF A) (rE A) A).1) (pM a (rVF L (p:Int) r 0 0).1 (rVF L (p:Int) r 0 0).2 (rF A) (rE A) A).2).1=_/\_
  rw[yP a (rVF L (p:Int) r 0 0) _ X I,wP]
  obtain⟨Y,Z,O⟩:=Ez h A p (D||pf nm e) (G||(X||pe (rVF L (p:Int) r 0 0).1 (rF A) (rE A))) (pM a (rVF L (p:Int) r 0 0).1 (rVF L (p:Int) r 0 0).2 (rF A) (rE A) A).2 V ((BQ a _ _ (rF A) (rE A) A).trans S) U.2
  refine⟨Y,?_,fun M=>?_⟩
  ·rw[lN,show (D||(pf nm e||es.any (pf nm)))=(D||pf nm e||es.any (pf nm)) from (nJ ..).symm]
   exact Z
  rw[lN,ml]at M
  rw[O M.2,nJ]
  congr 1
  obtain⟨v,hv,q⟩:=AJ h (p:Int) he M.1 U.1
  rw[hv]at I⊢
  rw[M.1]at I
  rw[Dx]
  unfold qh
  rcases q with⟨z,hz,rfl⟩|⟨hz,R⟩
  ·have:X=false:=by cases X;rfl;cases I
   rw[hz,this]
   show (false||pe z (rF A) (rE A)||_)=Option.isNone (Option.bind (if z<rF A\/rE A<z then none else some z) _)
   unfold pe
   by_cases c:z<rF A\/rE A<z
   ·rw[jT c]
    have:(decide (z<rF A)||decide (rE A<z))=true:=cV
    rw[this]
    rfl
   rw[jS c]
   have:(decide (z<rF A)||decide (rE A<z))=false:=cV
   rw[this]
   show _=Option.isNone (Option.map _ _)
   simp
  have:X=true:=by rw[R]at I;cases X;cases I;rfl
  rw[hz,this]
  rfl
 |[],_::_,_,_,_,J,_,_=>J.elim
 |_::_,[],_,_,_,J,_,_=>J.elim
theorem EE(A:Bool)(z:Int)(D:List Int):wv A (z::D)=(if A=true then [IntKind.u8.wrap (z/256),IntKind.u8.wrap z] else [IntKind.u8.wrap z])++wv A D:=by
 unfold wv wdB;cases A <;> rfl
theorem Jz{nm:List UInt8->Option Int}{L:List (ByteArray×Int)}(h:Knows nm L)(A:Bool)(p:Nat)(B:List UInt8):∀ {es:List (List Trm)} {os:List ROp} (a:RAsm) (done D:List Int),VL es os->a.L=L->pB es=false->es.any (pf nm)=false->pJ nm (p:Int) (rF A) (rE A) es=some D->a.pl=p+done.length->a.bytes=putAt B p done->p+done.length+(wv A D).length<=B.length->qS A p os 0 a=(0,{a with bytes:=putAt B p (done++wv A D),pl:=p+done.length+(wv A D).length})
 |[],[],a,done,D,_,_,_,_,hz,J,O,_=>by
  cases hz
  rw[qS,show wv A []=[] by cases A <;> rfl,kX,<- O,lI,kK,<- J]
 |e::es,o::os,a,done,D,I,R,hg,S,hz,J,O,Lg=>by
  obtain⟨⟨r,ho,he⟩,V⟩:=I
  have U:ve e=false/\pB es=false:=gm
  rw[lN,ml]at S
  obtain⟨v,Z,q⟩:=AJ h (p:Int) he S.1 U.1
  rw[Dx]at hz
  unfold qh at hz
  rcases q with⟨z,G,rfl⟩|⟨G,_⟩
  ·rw[G]at hz
   have M:Option.bind (if z<rF A\/rE A<z then none else some z) (fun z=>(pJ nm (p:Int) (rF A) (rE A) es).map (z :: ·))=some D:=hz
   by_cases c:z<rF A\/rE A<z
   ·rw[jT c]at M
    cases M
   rw[jS c]at M
   have Ky:(pJ nm (p:Int) (rF A) (rE A) es).map (z :: ·)=some D:=M
   obtain⟨ys,hy,rfl⟩:=kJ.1 Ky
   rw[EE,kq]at Lg
   rw[qS,ho,R]
   show qS A p os (oU 0 (pM a (rVF L (p:Int) r 0 0).1 (rVF L (p:Int) r 0 0).2 (rF A) (rE A) A).1) (pM a (rVF L (p:Int) r 0 0).1 (rVF L (p:Int) r 0 0).2 (rF A) (rE A) A).2=_
   rw[Z]
   show qS A p os (oU 0 (pM a z 0 (rF A) (rE A) A).1) (pM a z 0 (rF A) (rE A) A).2=_
   rw[Dt a z _ _ fw A,Z8G]
   have Ko:(if A=true then (a.bytes.set a.pl (toB (IntKind.u8.wrap (z/256)))).set (a.pl+1) (toB (IntKind.u8.wrap z)) else a.bytes.set a.pl (toB (IntKind.u8.wrap z)))=putAt B p (done++(if A=true then [IntKind.u8.wrap (z/256),IntKind.u8.wrap z] else [IntKind.u8.wrap z])):=by
    rw[O,J]
    unfold putAt
    cases A
    ·rw[jS ah,jS ah]at *
     have:=zo B p (done.map toB) (toB (IntKind.u8.wrap z)) fy
     rw[kL]at this
     rw[this,l7]
     rfl
    rw[jT rfl,jT rfl]at *
    have t1:=zo B p (done.map toB) (toB (IntKind.u8.wrap (z/256))) fy
    have t2:=zo B p (done.map toB++[toB (IntKind.u8.wrap (z/256))]) (toB (IntKind.u8.wrap z)) fy
    rw[kL]at t1
    rw[kq,kL,oL]at t2
    rw[t1,ng,t2,l7,mS]
    rfl
   rw[Ko,EE]
   have MU:(if A=true then 2 else 1)=(if A=true then [IntKind.u8.wrap (z/256),IntKind.u8.wrap z] else [IntKind.u8.wrap z]).length:=by cases A <;> rfl
   rw[MU]
   generalize (if A=true then [IntKind.u8.wrap (z/256),IntKind.u8.wrap z] else [IntKind.u8.wrap z])=W at *
   have ih:=Jz h A p B {a with bytes:=putAt B p (done++W),pl:=a.pl+W.length} (done++W) ys V R U.2 S.2 hy (by show a.pl+_=_;rw[J,kq,ng]) rfl (by rw[kq];omega)
   rw[ih]
   simp only[mS,kq,ng,R]
  rw[G]at hz
  cases hz
 |[],_::_,_,_,_,I,_,_,_,_,_,_,_=>I.elim
 |_::_,[],_,_,_,I,_,_,_,_,_,_,_=>I.elim
