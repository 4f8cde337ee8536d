import Derived.Test.YthokdbcpkmcieaaGreatDoorH33
import Derived.Laws.CopyOwn
set_option maxRecDepth 200000
set_option maxHeartbeats 16000000
namespace Go.Proofs.YthokdbcpkmcieaaGreatDoor
open RowKit Shelf WideMaps Maps Proofs.Tryz
theorem xL(l:List RTok)(i k:Nat):kAt (l.drop i) k=kAt l (i+k):=fZ
theorem Z4M(t:Tok)(l:List Tok):pOp (t::l)=(if t.text=⟨#[35]⟩ then (pQ l).map fun x=>((9,x.1),x.2)
  else if t.text=⟨#[47]⟩ then (pQ l).map fun x=>((13,x.1),x.2)
  else if t.text=⟨#[64]⟩ then pAt l
  else match pH t.text.data.toList with
   |some y=>some ((y.1,[rv y.2]),l)
   | none=>(pQ (t::l)).map fun x=>((11,x.1),x.2)):=rfl
theorem Al{D:List Tok}{T:List RTok}(h:TLe D T)(k n:Nat)(s:UInt8)(A:List RTok)(I:A.drop n=T)(hk:(k=9/\s=35)\/(k=13/\s=47)\/(k=11/\s=0)):match (pQ D).map (fun x=>((k,x.1),x.2)) with
  |some y=>(rG s n (oR T false)).2.2=true/\OpM y.1 (rG s n (oR T false)).1/\TLe y.2 (A.drop (rG s n (oR T false)).2.1)
  |none=>(rG s n (oR T false)).2.2=false\/AA (A.drop (rG s n (oR T false)).2.1):=by
 have hx:=BF h;cases G:pQ D with
 |none=>rw[G]at hx;exact .inl hx
 |some y=>
  rw[G]at hx;refine⟨hx.1,?_,?_⟩
  ·rcases hk with⟨rfl,rfl⟩|⟨rfl,rfl⟩|⟨rfl,rfl⟩
   ·exact .inr (.inl ⟨rfl,rfl,rfl,hx.2.1⟩)
   ·exact .inr (.inr (.inl ⟨rfl,rfl,rfl,hx.2.1⟩))
   exact .inr (.inr (.inr ⟨rfl,rfl,rfl,hx.2.1⟩))
  show TLe y.2 (A.drop ((oR T false).2.1+n));rw[nF,<- lV,I];exact hx.2.2
theorem Z1N{t:Tok}{r:RTok}(h:uq t r)(hk:¬t.kind=1):pH t.text.data.toList=none:=by
 refine AR ?_;rcases h with⟨_,_,e⟩|⟨k,_⟩|⟨_,_,e⟩|⟨_,_,d,e,hd,_⟩
 ·rw[e];decide
 ·exact absurd k hk
 ·intro A;have:∀x∈pU.map (·.1),isD (x.headD 0)=false:=ah;rw[this _ A]at e;cases e
 rw[e,zA];intro A;have:∀x∈pU.map (·.1),x.length=1->isW (x.headD 0)=true:=ah;have:=this _ A rfl;have D:isW d=true:=this;rw[hd]at D;cases D
theorem Ip(k:Nat)(hk:k<8):oQ [82,UInt8.ofNat (48+k)]=[114,UInt8.ofNat (48+k)]/\([82,UInt8.ofNat (48+k)]:List UInt8).all isW=true/\qV [114,UInt8.ofNat (48+k)]=true/\(([114,UInt8.ofNat (48+k)]:List UInt8).getD 1 0).toNat-48=k:=by
 have:∀k,k<8->(oQ [82,UInt8.ofNat (48+k)]=[114,UInt8.ofNat (48+k)]/\([82,UInt8.ofNat (48+k)]:List UInt8).all isW=true/\qV [114,UInt8.ofNat (48+k)]=true/\(([114,UInt8.ofNat (48+k)]:List UInt8).getD 1 0).toNat-48=k):=ah;exact this k hk
theorem Z7z{ts:List Tok}{T:List RTok}(h:TLe ts T):match pOp ts with
  |some y=>(o7 T).2.2=true/\OpM y.1 (o7 T).1/\TLe y.2 (T.drop (o7 T).2.1)
  |none=>(o7 T).2.2=false\/AA (T.drop (o7 T).2.1):=by
 have h0:=h;obtain⟨t,a,r,b,rfl,rfl,ht,Kk,Py⟩:=h.cons;have M:=vy ht 35 s35;have O:=vy ht 47 s47;have R:=vy ht 64 s64;have e0:(r::b).getD 0 endR=r:=rfl;have e1:(r::b).drop 1=b:=rfl;rw[Z4M];unfold o7;rw[e0,e1];by_cases D:t.text=(⟨#[35]⟩:ByteArray)
 ·rw[jT D];have k:=M.1 D;have S:¬t.kind=0:=fun e=>by rw[(ry ht).1 e]at k;cases k
  rw[jS cT,jT k];exact Al (Kk S) 9 1 35 (r::b) rfl (.inl ⟨rfl,rfl⟩)
 rw[jS D];have U:¬r.kind=35:=fun e=>D (M.2 e)
 by_cases G:t.text=(⟨#[47]⟩:ByteArray)
 ·rw[jT G];have k:=O.1 G;have S:¬t.kind=0:=fun e=>by rw[(ry ht).1 e]at k;cases k
  rw[jS cT,jS U,jT k];exact Al (Kk S) 13 1 47 (r::b) rfl (.inr (.inl ⟨rfl,rfl⟩))
 rw[jS G];have Vz5:¬r.kind=47:=fun e=>G (O.2 e)
 by_cases I:t.text=(⟨#[64]⟩:ByteArray)
 ·rw[jT I];have k:=R.1 I;have S:¬t.kind=0:=fun e=>by rw[(ry ht).1 e]at k;cases k
  rw[jT k];have hx:=Z1U (Kk S);cases hp:pAt a with
  |none=>rw[hp]at hx;exact hx
  |some y=>rw[hp]at hx;exact hx
 rw[jS I];have Vz6:¬r.kind=64:=fun e=>I (R.2 e)
 rw[jS Vz6,jS U,jS Vz5];by_cases hk:t.kind=1
 ·obtain⟨UC,_,hs,hw⟩:=xy ht hk;rw[jT UC];unfold xg;have hl:r.s.data.toList=oQ t.text.data.toList:=by rw[hs,zA]
  have Z:∀c:List UInt8,c.all isW=true->(r.s=txt (oQ c)↔t.text.data.toList=c):=fun c hc=>by rw[hs];exact AG hw.2.1 hc
  have J:r.s=⟨#[97]⟩↔t.text.data.toList=[65]:=Z [65] ah;have A:r.s=⟨#[97,98]⟩↔t.text.data.toList=[65,66]:=Z [65,66] ah;have sC:r.s=⟨#[99]⟩↔t.text.data.toList=[67]:=Z [67] ah;have sD:r.s=⟨#[100,112,116,114]⟩↔t.text.data.toList=[68,80,84,82]:=Z [68,80,84,82] ah;unfold vC;rcases Z0R hw.2.1 with⟨x,f⟩|⟨x,f⟩|⟨x,f⟩|⟨x,f⟩|⟨k,WZ,x,f⟩|⟨x1,x2,x3,x4,x5,f⟩
  ·rw[f,jT (J.2 x)];exact MbR
  ·rw[f,jS (fun e=>by rw[J.1 e]at x;cases x),jT (A.2 x)];exact MbR
  ·rw[f,jS (fun e=>by rw[J.1 e]at x;cases x),jS (fun e=>by rw[A.1 e]at x;cases x),jT (sC.2 x)];exact MbR
  ·rw[f,jS (fun e=>by rw[J.1 e]at x;cases x),jS (fun e=>by rw[A.1 e]at x;cases x),jS (fun e=>by rw[sC.1 e]at x;cases x),jT (sD.2 x)];exact MbR
  ·obtain⟨g1,g2,g3,g4⟩:=Ip k WZ;have MU:r.s.data.toList=[114,UInt8.ofNat (48+k)]:=by rw[hl,x,g1]
   rw[f,jS (fun e=>by rw[J.1 e]at x;simp at x),jS (fun e=>by rw[A.1 e]at x;simp at x),jS (fun e=>by rw[sC.1 e]at x;simp at x),jS (fun e=>by rw[sD.1 e]at x;simp at x)];show _/\_;rw[MU,jT g3,g4];exact⟨rfl,.inl ⟨lh rfl,rfl,rfl,rfl,rfl,by show k<=7;omega,fun h=>absurd h (by show ¬8<=6;decide),fun h=>absurd h (by show ¬8=7;decide)⟩,Kk ae⟩
  have Th:¬qV r.s.data.toList=true:=by
   rw[hl,Jd];intro hm;obtain⟨k,WZ,e⟩:=lf.1 hm;have V:=lM.1 WZ;obtain⟨g1,g2,_⟩:=Ip k V;rw[<-g1]at e;refine x5 k V ?_;rw[<-vT hw.2.1,<- e,vT (kx.1 g2)]
  rw[f,jS (fun e=>x1 (J.1 e)),jS (fun e=>x2 (A.1 e)),jS (fun e=>x3 (sC.1 e)),jS (fun e=>x4 (sD.1 e))];have:=Al h0 11 0 0 (r::b) rfl (.inr (.inr ⟨rfl,rfl⟩))
  show match (pQ (t::a)).map (fun x=>((11,x.1),x.2)) with
   |some y=>_
   |none=>_
  rw[jS Th];exact this
 rw[Z1N ht hk]
 have Wk:¬r.kind=119:=by
  rcases ht with⟨_,k,_⟩|⟨k,_⟩|⟨_,k,_⟩|⟨_,_,d,_,_,SC,k⟩
  ·rw[k];decide
  ·exact absurd k hk
  ·rw[k.1];decide
  rw[k];exact MbU
 rw[jS Wk];exact Al h0 11 0 0 (r::b) rfl (.inr (.inr ⟨rfl,rfl⟩))
theorem TLe.len:∀ {A:List Tok} {T:List RTok},TLe A T->A.length=T.length
 |[],_,h=>h.elim
 |_::_,[],h=>h.elim
 |t::a,r::b,h=>by
  obtain⟨_,h2⟩:=h
  by_cases e:t.kind=0
  ·rw[jT e]at h2
   rw[h2.1,h2.2]
   rfl
  rw[jS e]at h2
  simp[h2.len]
def OML:List (Nat×List Trm)->List ROp->Prop
 |[],[]=>True
 |x::a,o::b=>OpM x o/\OML a b
 |_,_=>False
def tD(g:Nat)(T:List RTok):Option (List ROp):=if (o7 T).2.2=true then (qI g true (T.drop (o7 T).2.1)).map ((o7 T).1 :: ·) else none
theorem Eo:∀(f g:Nat) (D:List Tok) (T:List RTok) (ks:List Nat) (vs:List (List Trm)),T.length<=g->T.length<=f->TLe D T ->
  match tX f ks vs D with
  |some y=>if pt y.2=true then ∃xs os,tD g T=some os/\y.1=(ks++xs.map (·.1),vs++xs.map (·.2))/\OML xs os else tD g T=none
  |none=>tD g T=none
 |0,g,D,T,ks,vs,U,hf,h=>by
  obtain⟨t,a,r,b,rfl,rfl,_⟩:=h.cons
  simp at hf
 |f+1,g,D,T,ks,vs,U,hf,h=>by
  have hx:=Z7z h
  obtain⟨A,rfl⟩:∃A,g=A+1:=by
   obtain⟨t,a,r,b,rfl,rfl,_⟩:=h.cons
   exact⟨g-1,by simp at U;omega⟩
  rw[tX]
  unfold tD
  cases V:pOp D with
  |none=>
   rw[V]at hx
   show _=none
   rcases hx with hx|⟨MS,Ts⟩
   ·rw[jS (by rw[hx];simp)]
   by_cases ho:(o7 T).2.2=true
   ·rw[jT ho,qI,jS MS,jT rfl,jS Ts]
    rfl
   rw[jS ho]
  |some y=>
   rw[V]at hx
   obtain⟨x1,O,Z⟩:=hx
   rw[jT x1]
   obtain⟨u,a2,v,b2,e1,e2,J,LW,R7⟩:=Z.cons
   have R:kAt (T.drop (o7 T).2.1) 0=v.kind:=by rw[e2];rfl
   have Vm:=vy J 44 s44
   obtain⟨x,l⟩:=y
   simp only at e1 O Z
   subst e1
   show match (if u.text=⟨#[44]⟩ then tX f (ks++[x.1]) (vs++[x.2]) a2 else some ((ks++[x.1],vs++[x.2]),u::a2)) with
    |some y=>_
    |none=>_
   rw[qI,R]
   by_cases hc:u.text=(⟨#[44]⟩:ByteArray)
   ·rw[jT hc]
    have kv:=Vm.1 hc
    have Nd:¬u.kind=0:=fun e=>by rw[(ry J).1 e]at kv;cases kv
    have G:(T.drop (o7 T).2.1).drop 1=b2:=by rw[e2];rfl
    have MU:b2.length+1<=T.length:=by
     have:=lp List.length e2
     simp at this
     omega
    have ih:=Eo f A a2 b2 (ks++[x.1]) (vs++[x.2]) ae ae (LW Nd)
    rw[jS (by rw[kv];decide),jT rfl,jT kv,G]
    have hr:(if (o7 b2).2.2=true then (qI A true ((T.drop (o7 T).2.1).drop (1+(o7 b2).2.1))).map ((o7 b2).1 :: ·) else none)=tD A b2:=by
     unfold tD
     rw[<-lV,G]
    rw[hr]
    cases hq:tX f (ks++[x.1]) (vs++[x.2]) a2 with
    |none=>
     rw[hq]at ih
     show _=none
     rw[show tD A b2=none from ih]
     rfl
    |some y=>
     rw[hq]at ih
     show if pt y.2=true then _ else _
     by_cases M:pt y.2=true
     ·rw[jT M]
      have I:if pt y.2=true then ∃xs os,tD A b2=some os/\y.1=(ks++[x.1]++xs.map (·.1),vs++[x.2]++xs.map (·.2))/\OML xs os else tD A b2=none:=ih
      rw[jT M]at I
      obtain⟨xs,os,i1,i2,i3⟩:=I
      refine⟨x::xs,(o7 T).1::os,by rw[i1];rfl,?_,⟨O,i3⟩⟩
      rw[i2]
      simp
     rw[jS M]
     have I:if pt y.2=true then ∃xs os,tD A b2=some os/\y.1=(ks++[x.1]++xs.map (·.1),vs++[x.2]++xs.map (·.2))/\OML xs os else tD A b2=none:=ih
     rw[jS M]at I
     rw[I]
     rfl
   rw[jS hc]
   have kv:¬v.kind=44:=fun e=>hc (Vm.2 e)
   show if pt (u::a2)=true then _ else _
   by_cases Nd:u.kind=0
   ·have S:=(ry J).1 Nd
    rw[jT bG,jT S]
    exact⟨[x],[(o7 T).1],rfl,rfl,⟨O,trivial⟩⟩
   have S:¬v.kind=0:=fun e=>Nd ((ry J).2 e)
   rw[jS bG,jS S,jT rfl,jS kv]
   rfl
def kd(x:List UInt8):Nat:=(qa ⟨x.toArray⟩).toNat
def xk(x:List UInt8)(k:Nat):Bool:=lkN (kd x)==lkN k
theorem Z5Z:(allEnts.all fun e=>e.2.2.2.all fun x=>((List.range 9).all fun k=>qP ⟨x.toArray⟩ (p9 k) 0==xk x k)&&(qP ⟨x.toArray⟩ ⟨#[]⟩ 35==xk x 9&&(qP ⟨x.toArray⟩ ⟨#[]⟩ 47==xk x 13&&qP ⟨x.toArray⟩ ⟨#[]⟩ 0==xk x 11)))=true:=aq
theorem Cv{e:Ent}(he:e∈allEnts){x:List UInt8}(hx:x∈e.2.2.2){q:Nat×List Trm}{o:ROp}(h:OpM q o):qP ⟨x.toArray⟩ o.fixed o.sign=xk x q.1:=by
 have:=kx.1 (kx.1 Z5Z e he) x hx;simp only[kB,mx,kx,lM]at this;obtain⟨a,b,c,d⟩:=this;rcases h with⟨k,f,s,_⟩|⟨k,f,s,_⟩|⟨k,f,s,_⟩|⟨k,f,s,_⟩
 ·rw[f,s];exact a q.1 ae
 ·rw[f,s,k];exact b
 ·rw[f,s,k];exact c
 rw[f,s,k];exact d
def yT(r:Nat×Nat×List UInt8):List UInt8×List Nat:=(qk r.2.2,(qo r.2.2).map lkN)
def yW(r:Nat×Nat×List UInt8)(e:Ent):Bool:=(r.1==e.1)&&((qk r.2.2==e.2.2.1)&&(qo r.2.2==e.2.2.2.map kd))
theorem II:(allEnts.all fun e=>rowsL.any fun r=>yW r e)=true:=aq
theorem Z9W:(rowsL.all fun r=>allEnts.any fun e=>yW r e)=true:=aq
theorem Z3O:(rowsL.map yT).Nodup:=aq
theorem BU:(allEnts.all fun e=>e.2.2.1.all isW&&decide (e.2.2.2.length<=3))=true:=aq
theorem Z2r{r A:Nat×Nat×List UInt8}(h:r∈rowsL)(h':A∈rowsL)(hk:yT r=yT A):r=A:=by
 have:=Z3O;obtain⟨i,hi,rfl⟩:=mP h;obtain⟨j,hj,rfl⟩:=mP h'
 have D:i=j:=by
  have h1:(rowsL.map yT)[i]'(by simpa using hi)=(rowsL.map yT)[j]'(bz):=aJ;exact(List.getElem_inj this).1 h1
 subst D;rfl
theorem OML.len:∀ {xs:List (Nat×List Trm)} {os:List ROp},OML xs os->xs.length=os.length
 |[],[],_=>rfl
 |_::_,_::_,h=>by simp[OML.len h.2]
 |[],_::_,h=>h.elim
 |_::_,[],h=>h.elim
theorem OML.at:∀ {xs:List (Nat×List Trm)} {os:List ROp},OML xs os->∀k,(hk:k<xs.length)->OpM xs[k] (os.getD k op0)
 |[],_,_,k,hk=>by simp at hk
 |x::_,o::_,h,0,_=>h.1
 |x::_,o::_,h,k+1,hk=>OML.at h.2 k aJ
 |_::_,[],h,_,_=>h.elim
theorem Fa{s:List UInt8}(hs:rR s){xs:List (Nat×List Trm)}{os:List ROp}(h:OML xs os){e:Ent}(he:e∈allEnts){r:Nat×Nat×List UInt8}(J:yW r e=true):rU (oQ s) os e=uf s (xs.map (·.1)) r:=by
 unfold yW at J;simp only[kB,mx]at J;obtain⟨_,h2,h3⟩:=J;have hw:=kx.1 BU e he;simp only[kB,kI]at hw;unfold rU uf;rw[h2,h3]
 have hn:(oQ e.2.2.1==oQ s)=(e.2.2.1==s):=by
  by_cases c:e.2.2.1=s
  ·rw[c];simp
  have:¬oQ e.2.2.1=oQ s:=fun q=>c (by rw[<-vT (kx.1 hw.1),q,vT hs.2.1])
  rw[nG c,nG this]
 rw[hn];congr 1;have O:=h.len;by_cases G:e.2.2.2.length=os.length
 ·rw[kj G,Bool.true_and];by_cases I:∀k,k<os.length->qP ⟨(e.2.2.2.getD k []).toArray⟩ (os.getD k op0).fixed (os.getD k op0).sign=true
  ·have h1:((List.range os.length).all fun k=>qP ⟨(e.2.2.2.getD k []).toArray⟩ (os.getD k op0).fixed (os.getD k op0).sign)=true:=kx.2 fun k hk=>I k (lM.1 hk)
   rw[h1];symm;rw[mx];apply List.ext_getElem
   ·simp[G,O]
   intro k S U;have hk:k<xs.length:=by simpa using U
   have A:k<e.2.2.2.length:=by simpa using S
   have M:=Cv he (kC A) (h.at k hk);have R:=I k ae;rw[show e.2.2.2.getD k []=e.2.2.2[k] from by rw[jZ,jX A];rfl,M]at R;simpa [xk]using R
  have h1:((List.range os.length).all fun k=>qP ⟨(e.2.2.2.getD k []).toArray⟩ (os.getD k op0).fixed (os.getD k op0).sign)=false:=by
   refine T0g.2 (fun q=>I fun k hk=>kx.1 q k (lM.2 hk))
  rw[h1];symm;refine nG (fun q=>I fun k hk=>?_);have D:k<xs.length:=ae;have A:k<e.2.2.2.length:=ae;have M:=Cv he (kC A) (h.at k D);rw[show e.2.2.2.getD k []=e.2.2.2[k] from by rw[jZ,jX A];rfl,M];have:=lp (fun l=>l[k]?) q;simp[D,A]at this;simpa [xk]using this
 rw[j9 G,Bool.false_and];symm;refine nG (fun q=>G ?_);have:=lp List.length q;simpa [O]using this
def AO(d:InsD)(e:Ent):Prop:=e∈allEnts/\d.code=e.1/\d.kinds=e.2.2.2.map kd/\d.size=rk d.kinds
theorem Fv{s:List UInt8}(hs:rR s){xs:List (Nat×List Trm)}{os:List ROp}(h:OML xs os):match sZ s (xs.map (·.1)) with
  |some d=>∃e,qD (oQ s) os=some e/\AO d e/\rU (oQ s) os e=true
  |none=>qD (oQ s) os=none:=by
 unfold sZ qD;cases hd:allEnts.find? (rU (oQ s) os) with
 |some e=>
  have he:=mE hd;have hf:=nw hd;obtain⟨r,O,A⟩:=mj.1 (kx.1 II e he);have I:uf s (xs.map (·.1)) r=true:=by rw[<-Fa hs h he A];exact hf
  have h3:¬3<(xs.map (·.1)).length:=by
   have hw:=kx.1 BU e he;simp only[kB,kI]at hw;unfold rU at hf;simp only[kB,kI]at hf;have:=h.len;simp;omega
  rw[jS h3];unfold tU;cases D:rowsL.reverse.find? (uf s (xs.map (·.1))) with
  |none=>
   have:=nU.1 D r (oN.2 O);exact absurd I this
  |some J=>
   have M:=oN.1 (mE D);have G:=nw D
   have:J=r:=by
    refine Z2r M O ?_;unfold uf at I G;simp only[kB,mx]at I G;unfold yT;rw[I.1,G.1,I.2,G.2]
   subst this;unfold yW at A;simp only[kB,mx]at A;exact⟨e,rfl,⟨he,A.1,A.2.2,rfl⟩,hf⟩
 |none=>
  by_cases h3:3<(xs.map (·.1)).length
  ·rw[jT h3]
  rw[jS h3];unfold tU;cases D:rowsL.reverse.find? (uf s (xs.map (·.1))) with
  |none=>rfl
  |some J=>
   have M:=oN.1 (mE D);have G:=nw D;obtain⟨e,he,A⟩:=mj.1 (kx.1 Z9W J M);have:=nU.1 hd e he;rw[Fa hs h he A]at this;exact absurd G this
theorem Z2A(w:World)(m:AMem)(a:Asm)(base:Nat)(x:Stm)(V:Option Addr)(A G:Nat)(p:Nat)(I:Int)(lb:ByteArray)(tk:Int)(J:ByteArray)(M:Int)(O:Option Addr)(S U:Nat)(sz:Int)(h:FillPre w m a base x (.slice V A G) p) :
  Calls prog 175 #[.pointer (some ⟨m.ab,0,none⟩),.agg #[.int .i64 I,.int .i64 (p:Int),.string lb,.int .i64 tk,.string J,.slice V A G,.int .u8 M,.slice O S U,.int .i64 sz]] w (zT w I (dwF a.nm (p:Int) x.vals)):=by
 obtain⟨i0,hi,KJ,KC,Ky⟩:=kQ Tryz.infoU8;obtain⟨W,hW,K1,NY,Ks⟩:=tv w I (p:Int) lb tk J (.slice V A G) M (.slice O S U) sz;have P9:A=x.vals.length:=McN;have Kl:=h.len;obtain⟨R,hR⟩:=Zg0 (dwF a.nm (p:Int) x.vals);rw[hR];have HR:=oP hR;have HP:Hid (FillPre W m a base x (.slice V A G) p):=h.below K1;have Kz:Hid (∀w',Below W.heap.size W w'->SS w' w.heap.size I (p:Int) lb tk J (.slice V A G) M (.slice O S U) sz):=fun w' hb=>Ks.grown (hb.block _ Ks.lt) hb.size
 have HB:=oP K1;have t5:=Ks.c5;have WF4:(A:Int)<=1000000:=ae;have Wb:=oP P9;clear h K1 Ks hR P9 Kl;go_enter func175,ntmps175;go_wp2_with fail;go_loopw [5,12] (fun s5 i wr=>∃(j:Nat) (D:List Int) (ya:Option Addr) (yn yc:Nat),j<=A/\i=.int .i64 j/\s5=.slice ya yn yc/\D.length=j/\pJ a.nm (p:Int) (-32768) 65535 (x.vals.take j)=some D/\wr.ownsRow W.heap.size 5 1 (.slice ya yn yc) (wdB D).length (qg (wdB D))/\Below W.heap.size W wr) (fun _ i _=>A-(intOf i).toNat)
 case atStart=>exact⟨0,[],none,0,0,j4,rfl,rfl,rfl,rfl,kA,jV⟩
 case round=>
  obtain⟨j,D,ya,yn,yc,hj,rfl,rfl,Sx,NG,Ke,hB⟩:=hrel;have Ki:=oP Ke;have Lu:=oP hB;have Wa1:=oP NG;have Ty:=oP Sx;by_cases Kf:j<A
  ·have K6:(j:Int)<(A:Int):=by omega
   have K2:j<x.vals.length:=eT;obtain⟨g,xa,xn,xc,YK,cg,HN⟩:=(HP.o.below hB).num j K2;subst YK;have hs:=Kz.o wr hB;have s0:=hs.c0;have s1:=hs.c1;have s2:=hs.c2;have s3:=hs.c3;have s4:=hs.c4;have s5:=hs.c5;have s6:=hs.c6;have s7:=hs.c7;have s8:=hs.c8;have Le:=oP (HN I lb tk J (some ⟨g,0,none⟩) A G M O S U sz (-32768) 65535);have LR:=CO K2 NG;have Vc2:A<=1000000:=ae;clear hs HN Ke hB NG Sx t5 Kz;cases hO:qh a.nm (p:Int) x.vals[j] (-32768) 65535 with
   |none=>
    rw[hO]at Le LR
    have eR:R=none:=by
     rw[<-HR.o];unfold dwF;rw[DZ LR];rfl
    subst eR;have Mg:Hid (Calls prog 171 #[.pointer (some ⟨m.ab,0,none⟩),.agg #[.int .i64 I,.int .i64 (p:Int),.string lb,.int .i64 tk,.string J,.slice (some ⟨g,0,none⟩) A G,.int .u8 M,.slice O S U,.int .i64 sz],.slice xa xn xc,.int .i64 (-32768),.int .i64 65535] wr fun e w'=>e=.panicked (sH 6 I)/\Below wr.heap.size wr w'):=Le.o;exact MaZ
   |some z=>
    rw[hO]at Le LR;have MT:Hid (pJ a.nm (p:Int) (-32768) 65535 (x.vals.take (j+1))=some (D++[z])):=LR;have Wk2:=oP (wU hO);have Mg:Hid (Calls prog 171 #[.pointer (some ⟨m.ab,0,none⟩),.agg #[.int .i64 I,.int .i64 (p:Int),.string lb,.int .i64 tk,.string J,.slice (some ⟨g,0,none⟩) A G,.int .u8 M,.slice O S U,.int .i64 sz],.slice xa xn xc,.int .i64 (-32768),.int .i64 65535] wr fun e w'=>e=.returned (.int .i64 z)/\Below wr.heap.size wr w'):=Le.o;obtain⟨Z,Vz7⟩:=Zg0 (IntKind.u8.wrap (z/256));obtain⟨zb,Wt3⟩:=Zg0 (IntKind.u8.wrap z);clear Le LR hO;go_wp2_with (first| (go_at_call 171;refine Mg.o.mono ?_;rintro e w5 ⟨rfl,Lp⟩;have Lx:=oP (Lu.o.trans (Lp.mono Lu.o.size));have Rk:=oP (rO Ki.o Lp);clear Lp)|(at_builtin;refine kH _ rfl _ _ 32 rfl W.heap.size 5 i0 _ 1 1 underlying32 hi KJ KC Ky rfl ah _ _ _ rfl (Rk.o.alloc _) ⟨w5.heap.size,0,none⟩ 2 2 [.int .u8 Z,.int .u8 zb] rfl rfl (vz _ [.int .u8 Z,.int .u8 zb] _) (by intro u hu;simp at hu;rcases hu with rfl|rfl <;> rfl) (by have:=Ty.o;rw[DS];unfold maxLen;omega) (by have:=Ty.o;rw[DS];omega) eU ?_;intro v' wn Kc Kg _ _;obtain⟨a',n',c',ev⟩:=rW Kc;subst ev));have ZX:=Lx.o.size;have NU:Below W.heap.size W wn:=(Lx.o.alloc Lx.o.size _).grown Kg ai (fun k hk=>(Rk.o.lt k hk).1);go_wp2_with fail;go_roundw
    case rel=>
     refine⟨j+1,D++[z],a',n',c',ae,ao,rfl,by simp[Ty.o],MT.o,?_,NU⟩;have h9:=Kc;rw[show wdB (D++[z])=wdB D++[Z,zb] by rw[<-Wt3,<- Vz7];simp[wdB],show qg (wdB D++[Z,zb])=qg (wdB D)++[.int .u8 Z,.int .u8 zb] by simp[qg],kq];exact h9
    case measure=>simp[intOf];omega
  have K6:¬(j:Int)<(A:Int):=ae;have PU:j=x.vals.length:=by rw[<-Wb.o];omega
  have eR:R=some (wdB D):=by
   have h9:=Wa1.o;rw[PU,mL]at h9;rw[<-HR.o];unfold dwF;rw[h9];rfl
  exact MbP
theorem Tryz.infoIntB:(Tryz.prog.info? 3).map (fun i=>(i.zero,i.size,i.bytes))=some (some (.int .i64 0),1,8):=aj
def wN(d:InsD)(A:List Int)(p:Int):Option (List Int):=if (uN d A p).wrong=true then none else some ((uN d A p).code::(uN d A p).add)
def su(nm:List UInt8->Option Int)(p:Nat)(x:Stm):Option (List Int):=
 if x.task=2 then dbF nm (p:Int) x.vals else if x.task=3 then dwF nm (p:Int) x.vals else (pJ nm (p:Int) (-1000000) 1000000 x.vals).bind fun A=>wN x.ins A (p:Int)
structure BY(w:World)(x:Stm)(kd:Value):Prop where
 ins:uw x.ins x.vals.length
 kinds:RowK w kd x.ins.kinds
theorem Es(w:World)(m:AMem)(a:Asm)(base:Nat)(x:Stm)(G:Option Addr)(I J:Nat)(p:Nat)(A:Int)(lb:ByteArray)(M:ByteArray)(O:Int)(S:Option Addr)(U V:Nat)(sz:Int)(h:FillPre w m a base x (.slice G I J) p)(ht:x.task=2\/x.task=3) :
  Calls prog 110 #[.pointer (some ⟨m.ab,0,none⟩),.agg #[.int .i64 A,.int .i64 (p:Int),.string lb,.int .i64 (x.task:Int),.string M,.slice G I J,.int .u8 O,.slice S U V,.int .i64 sz]] w (zT w A (su a.nm p x)):=by
 obtain⟨R,Z⟩:=Zg0 (su a.nm p x);rw[Z];unfold su at Z;rcases ht with ht|ht
 ·rw[jT ht]at Z;have PD:(x.task:Int)=2:=ae;rw[PD];obtain⟨W,hW,K1,NY,Ks⟩:=tv w A (p:Int) lb 2 M (.slice G I J) O (.slice S U V) sz;have D:=oP (Z9a W m a base x G I J p A lb 2 M O S U V sz (h.below K1));rw[Z]at D;have HB:=oP K1;obtain⟨s0,s1,s2,s3,s4,s5,s6,s7,s8,sf,sl⟩:=Ks;clear h Z PD ht sf K1;go_enter func110,ntmps110;cases R with
  |none=>
   have Zd:Hid (Calls prog 174 #[.pointer (some ⟨m.ab,0,none⟩),.agg #[.int .i64 A,.int .i64 (p:Int),.string lb,.int .i64 2,.string M,.slice G I J,.int .u8 O,.slice S U V,.int .i64 sz]] W fun e w'=>e=.panicked (sH 6 A)/\Below W.heap.size W w'):=D.o.mono fun e w' hh=>⟨hh.2,hh.1⟩
   clear D;go_wp2_with (first| (go_at_call 174;refine Zd.o.mono ?_;rintro e w5 ⟨rfl,Lp⟩));exact⟨rfl,HB.o.trans (Lp.mono HB.o.size),rfl⟩
  |some bs=>
   have Zd:Hid (Calls prog 174 #[.pointer (some ⟨m.ab,0,none⟩),.agg #[.int .i64 A,.int .i64 (p:Int),.string lb,.int .i64 2,.string M,.slice G I J,.int .u8 O,.slice S U V,.int .i64 sz]] W fun e w'=>∃v,e=.returned v/\w'.ownsRow W.heap.size 5 1 v bs.length (qg bs)/\Below W.heap.size W w'):=D.o.mono fun e w' hh=>by
    obtain⟨h1,v,h2,h3⟩:=hh;exact⟨v,h2,h3,h1⟩
   clear D;go_wp2_with (first| (go_at_call 174;refine Zd.o.mono ?_;rintro e w5 ⟨v,rfl,QW,Lp⟩));exact Mck
 rw[jS ae,jT ht]at Z;have PD:(x.task:Int)=3:=ae;rw[PD];obtain⟨W,hW,K1,NY,Ks⟩:=tv w A (p:Int) lb 3 M (.slice G I J) O (.slice S U V) sz;have D:=oP (Z2A W m a base x G I J p A lb 3 M O S U V sz (h.below K1));rw[Z]at D;have HB:=oP K1;obtain⟨s0,s1,s2,s3,s4,s5,s6,s7,s8,sf,sl⟩:=Ks;clear h Z PD ht sf K1;go_enter func110,ntmps110;cases R with
 |none=>
  have Zd:Hid (Calls prog 175 #[.pointer (some ⟨m.ab,0,none⟩),.agg #[.int .i64 A,.int .i64 (p:Int),.string lb,.int .i64 3,.string M,.slice G I J,.int .u8 O,.slice S U V,.int .i64 sz]] W fun e w'=>e=.panicked (sH 6 A)/\Below W.heap.size W w'):=D.o.mono fun e w' hh=>⟨hh.2,hh.1⟩
  clear D;go_wp2_with (first| (go_at_call 175;refine Zd.o.mono ?_;rintro e w5 ⟨rfl,Lp⟩));exact⟨rfl,HB.o.trans (Lp.mono HB.o.size),rfl⟩
 |some bs=>
  have Zd:Hid (Calls prog 175 #[.pointer (some ⟨m.ab,0,none⟩),.agg #[.int .i64 A,.int .i64 (p:Int),.string lb,.int .i64 3,.string M,.slice G I J,.int .u8 O,.slice S U V,.int .i64 sz]] W fun e w'=>∃v,e=.returned v/\w'.ownsRow W.heap.size 5 1 v bs.length (qg bs)/\Below W.heap.size W w'):=D.o.mono fun e w' hh=>by
   obtain⟨h1,v,h2,h3⟩:=hh;exact⟨v,h2,h3,h1⟩
  clear D;go_wp2_with (first| (go_at_call 175;refine Zd.o.mono ?_;rintro e w5 ⟨v,rfl,QW,Lp⟩));exact Mck
theorem Z6Y(w:World)(m:AMem)(a:Asm)(base:Nat)(x:Stm)(va:Option Addr)(A V:Nat)(p:Nat)(Z:Int)(lb:ByteArray)(K3:ByteArray)(M:Option Addr)(O S:Nat)(h:FillPre w m a base x (.slice va A V) p)(hI:BY w x (.slice M O S))(ht:x.task=6) :
  Calls prog 110 #[.pointer (some ⟨m.ab,0,none⟩),.agg #[.int .i64 Z,.int .i64 (p:Int),.string lb,.int .i64 (x.task:Int),.string K3,.slice va A V,.int .u8 (x.ins.code:Int),.slice M O S,.int .i64 (x.ins.size:Int)]] w (zT w Z (su a.nm p x)):=by
 obtain⟨i0,hi,KJ,KC,Ky⟩:=kQ Tryz.infoIntB;obtain⟨R,hR⟩:=Zg0 (su a.nm p x);rw[hR];unfold su at hR;rw[jS ae,jS ae]at hR;have PD:(x.task:Int)=6:=ae;rw[PD];obtain⟨W,hW,K1,NY,Ks⟩:=tv w Z (p:Int) lb 6 K3 (.slice va A V) (x.ins.code:Int) (.slice M O S) (x.ins.size:Int);have P9:A=x.vals.length:=McN;have Kl:=h.len;have HR:=oP hR;have HP:Hid (FillPre W m a base x (.slice va A V) p):=h.below K1;have HI:Hid (BY W x (.slice M O S)):=⟨hI.ins,hI.kinds.below K1⟩;have Kz:Hid (∀w',Below W.heap.size W w'->SS w' w.heap.size Z (p:Int) lb 6 K3 (.slice va A V) (x.ins.code:Int) (.slice M O S) (x.ins.size:Int)):=fun w' hb=>Ks.grown (hb.block _ Ks.lt) hb.size
 have HB:=oP K1;have t3:=Ks.c3;have t5:=Ks.c5;have WF4:(A:Int)<=1000000:=ae;have Wb:=oP P9;clear h hI K1 Ks hR P9 Kl PD ht;go_enter func110,ntmps110;go_wp2_with fail;go_loopw [5,25] (fun s5 i wr=>∃(j:Nat) (D:List Int) (ya:Option Addr) (yn yc:Nat),j<=A/\i=.int .i64 j/\s5=.slice ya yn yc/\D.length=j/\pJ a.nm (p:Int) (-1000000) 1000000 (x.vals.take j)=some D/\wr.ownsRow W.heap.size 3 1 (.slice ya yn yc) D.length (intCells D)/\Below W.heap.size W wr) (fun _ i _=>A-(intOf i).toNat)
 case atStart=>exact⟨0,[],none,0,0,j4,rfl,rfl,rfl,rfl,kA,jV⟩
 case round=>
  obtain⟨j,D,ya,yn,yc,hj,rfl,rfl,Sx,NG,Ke,hB⟩:=hrel;have Ki:=oP Ke;have Lu:=oP hB;have Wa1:=oP NG;have Ty:=oP Sx;have hs:=Kz.o wr hB;have s0:=hs.c0;have s1:=hs.c1;have s2:=hs.c2;have s3:=hs.c3;have s4:=hs.c4;have s5:=hs.c5;have s6:=hs.c6;have s7:=hs.c7;have s8:=hs.c8;by_cases Kf:j<A
  ·have K6:(j:Int)<(A:Int):=by omega
   have K2:j<x.vals.length:=eT;obtain⟨g,xa,xn,xc,YK,cg,HN⟩:=(HP.o.below hB).num j K2;subst YK;have Le:=oP (HN Z lb 6 K3 (some ⟨g,0,none⟩) A V (x.ins.code:Int) M O S (x.ins.size:Int) (-1000000) 1000000);have LR:=CO K2 NG;have Vc2:A<=1000000:=ae;clear hs HN Ke hB NG Sx t5 t3 Kz;cases hO:qh a.nm (p:Int) x.vals[j] (-1000000) 1000000 with
   |none=>
    rw[hO]at Le LR
    have eR:R=none:=by
     rw[<-HR.o,DZ LR];rfl
    subst eR;have Mg:Hid (Calls prog 171 #[.pointer (some ⟨m.ab,0,none⟩),.agg #[.int .i64 Z,.int .i64 (p:Int),.string lb,.int .i64 6,.string K3,.slice (some ⟨g,0,none⟩) A V,.int .u8 (x.ins.code:Int),.slice M O S,.int .i64 (x.ins.size:Int)],.slice xa xn xc,.int .i64 (-1000000),.int .i64 1000000] wr fun e w'=>e=.panicked (sH 6 Z)/\Below wr.heap.size wr w'):=Le.o;exact MaZ
   |some z=>
    rw[hO]at Le LR;have MT:Hid (pJ a.nm (p:Int) (-1000000) 1000000 (x.vals.take (j+1))=some (D++[z])):=LR;have Mg:Hid (Calls prog 171 #[.pointer (some ⟨m.ab,0,none⟩),.agg #[.int .i64 Z,.int .i64 (p:Int),.string lb,.int .i64 6,.string K3,.slice (some ⟨g,0,none⟩) A V,.int .u8 (x.ins.code:Int),.slice M O S,.int .i64 (x.ins.size:Int)],.slice xa xn xc,.int .i64 (-1000000),.int .i64 1000000] wr fun e w'=>e=.returned (.int .i64 z)/\Below wr.heap.size wr w'):=Le.o;clear Le LR hO;go_wp2_with (first| (go_at_call 171;refine Mg.o.mono ?_;rintro e w5 ⟨rfl,Lp⟩;have Lx:=oP (Lu.o.trans (Lp.mono Lu.o.size));have Rk:=oP (rO Ki.o Lp);clear Lp)|(at_builtin;refine kH _ rfl _ _ 47 rfl W.heap.size 3 i0 _ 1 8 underlying47 hi KJ KC Ky rfl ah _ _ _ rfl (Rk.o.alloc _) ⟨w5.heap.size,0,none⟩ 1 1 [.int .i64 z] rfl rfl l8 ax (by have:=Ty.o;unfold maxLen;omega) (by have:=Ty.o;omega) eU ?_;intro v' wn Kc Kg _ _;obtain⟨G,I,J,ev⟩:=rW Kc;subst ev));have ZX:=Lx.o.size;have NU:Below W.heap.size W wn:=(Lx.o.alloc Lx.o.size _).grown Kg ai (fun k hk=>(Rk.o.lt k hk).1);go_wp2_with fail;go_roundw
    case rel=>
     refine⟨j+1,D++[z],G,I,J,ae,ao,rfl,by simp[Ty.o],MT.o,?_,NU⟩;have h9:=Kc;rw[kq,show intCells (D++[z])=intCells D++[.int .i64 z] by simp[intCells]];exact h9
    case measure=>simp[intOf];omega
  have K6:¬(j:Int)<(A:Int):=ae;have PU:j=x.vals.length:=by rw[<-Wb.o];omega
  have Ze:pJ a.nm (p:Int) (-1000000) 1000000 x.vals=some D:=by
   have h9:=Wa1.o;rw[PU,mL]at h9;exact h9
  have Ya:=y8 Ze
  have eR:R=wN x.ins D (p:Int):=by
   rw[<-HR.o,Ze];rfl
  have hd:uw x.ins D.length:=Ya ▸ HI.o.ins;have U:=oP (Z4W wr x.ins M O S ya yn yc D (p:Int) hd (HI.o.kinds.below hB) (pC Ke j4));obtain⟨r,hr⟩:=Zg0 (uN x.ins D (p:Int));unfold wN at eR;rw[hr]at U eR;clear hs Ke hB NG Sx Ze Ya hd t5 t3 Kz hr HP HI Ki Wa1 Ty Wb PU;cases hw:r.wrong with
  |true=>
   rw[hw,jT rfl]at eR;subst eR
   have Lo:Hid (Calls prog 176 #[.agg #[.int .u8 (x.ins.code:Int),.slice M O S,.int .i64 (x.ins.size:Int)],.slice ya yn yc,.int .i64 (p:Int)] wr fun e w'=>∃(G:Option Addr) (I J:Nat),e=.returned (.tuple #[.slice G I J,.bool false])/\Below wr.heap.size wr w'):=U.o.mono fun e w' ⟨v,h1,h2,h3⟩=>by
    obtain⟨G,I,J,rfl⟩:=rW h2;rw[hw]at h1;exact⟨G,I,J,h1,h3⟩
   clear U hw;go_wp2_with (first| (go_at_call 176;refine Lo.o.mono ?_;rintro e w5 ⟨G,I,J,rfl,Lp⟩;have e0:=(jW (a:=⟨w.heap.size,0,none⟩) (Lp.block _ (lD _ s0))).trans s0));have hb:=HB.o.trans (Lu.o.mono HB.o.size);exact⟨rfl,hb.trans (Lp.mono hb.size),rfl⟩
  |false=>
   rw[hw,jS af]at eR;subst eR
   have Lo:Hid (Calls prog 176 #[.agg #[.int .u8 (x.ins.code:Int),.slice M O S,.int .i64 (x.ins.size:Int)],.slice ya yn yc,.int .i64 (p:Int)] wr fun e w'=>∃(G:Option Addr) (I J:Nat),e=.returned (.tuple #[.slice G I J,.bool true])/\w'.ownsRow wr.heap.size 5 1 (.slice G I J) (r.add.length+1) (qg (r.code::r.add))/\Below wr.heap.size wr w'):=U.o.mono fun e w' ⟨v,h1,h2,h3⟩=>by
    obtain⟨G,I,J,rfl⟩:=rW h2;rw[hw]at h1;exact⟨G,I,J,h1,h2,h3⟩
   clear U hw;go_wp2_with (first| (go_at_call 176;refine Lo.o.mono ?_;rintro e w5 ⟨G,I,J,rfl,QW,Lp⟩;have Rk:=oP (And.intro QW Lp);clear QW Lp));go_ret;have hb:=HB.o.trans (Lu.o.mono HB.o.size);exact⟨hb.trans (Rk.o.2.mono hb.size),_,rfl,pC Rk.o.1 hb.size⟩
def U8s(A:List Int):Prop:=∀z∈A,0<=z/\z<=255
theorem AE(z:Int):0<=IntKind.u8.wrap z/\IntKind.u8.wrap z<=255:=bounds_u8 (wf_wrap _ _)
def lenK(k:Nat):Nat:=if k<=8 then 0 else if k=10\/k=14 then 2 else 1
theorem Z4N(bh:Int)(k:Nat)(n:Int)(s:LayD)(hk:k<17):(pF bh k n s).add.length=s.add.length+lenK k:=by
 unfold pF lenK;by_cases D:k<=6
 ·rw[jT D,jT ae];rfl
 rw[jS D];by_cases A:k<=8
 ·rw[jT A,jT A];rfl
 rw[jS A,jS A];by_cases G:k=9
 ·rw[jT G,jS ae];simp
 rw[jS G];by_cases I:k=10
 ·rw[jT I,jT ae];simp
 rw[jS I];by_cases J:k<=13
 ·rw[jT J,jS ae];simp
 rw[jS J];by_cases M:k=14
 ·rw[jT M,jT ae];simp
 rw[jS M];by_cases O:k=15
 ·rw[jT O,jS ae];simp
 rw[jS O,jS ae];simp
structure zy(s:LayD):Prop where
 code:0<=s.code/\s.code<=255
 add:U8s s.add
theorem U8s.snoc{l:List Int}(h:U8s l)(z:Int):U8s (l++[IntKind.u8.wrap z]):=fun y hy=>by
 rcases kW.1 hy with h1|h1
 ·exact h y h1
 rw[lu.1 h1]
 exact AE z
theorem Ba(x y:Int):0<=bits BinOp.or IntKind.u8 x y/\bits BinOp.or IntKind.u8 x y<=255:=bounds_u8 (wf_bits _ _ _ _)
theorem Z7Z(x y:Int):0<=uV x y/\uV x y<=255:=Ba _ _
theorem Z67(bh:Int)(k:Nat)(n:Int)(s:LayD)(h:zy s):zy (pF bh k n s):=by
 unfold pF;split
 ·exact h
 split
 ·exact⟨Ba _ _,h.add⟩
 split
 ·exact⟨h.code,h.add.snoc _⟩
 split
 ·exact⟨h.code,(h.add.snoc _).snoc _⟩
 split
 ·exact⟨h.code,h.add.snoc _⟩
 split
 ·exact⟨h.code,(h.add.snoc _).snoc _⟩
 split
 ·exact⟨h.code,h.add.snoc _⟩
 exact⟨Z7Z _ _,h.add.snoc _⟩
theorem Fj(bh:Int)(ks:List Nat)(A:List Int)(s:LayD)(h:zy s):∀j,zy (rp bh ks A s j)
 |0=>h
 |j+1=>Z67 _ _ _ _ (Fj bh ks A s h j)
theorem Gb(bh:Int)(ks:List Nat)(D:List Int)(s:LayD)(hk:∀k∈ks,k<17):∀j,j<=ks.length->(rp bh ks D s j).add.length=s.add.length+((ks.take j).map lenK).sum
 |0,_=>by simp[rp]
 |j+1,G=>by
  have A:j<ks.length:=G
  have ih:=Gb bh ks D s hk j ae
  have I:ks.getD j 0=ks[j]:=by
   rw[jZ,jX A]
   rfl
  unfold rp
  rw[I,Z4N _ _ _ _ (hk _ (kC A)),ih,lR,jX A,oK,l7,T0o]
  simp only[kZ,mZ,T0n,List.sum_nil]
  omega
theorem Z9q{d:InsD}{A:List Int}{p:Int}(h:uw d A.length):(uN d A p).add.length+1=d.size:=by
 unfold uN;rw[Gb _ _ _ _ h.kinds _ jU,mL,h.size];unfold rk;have:(fun k=>if k<=8 then 0 else if k=10\/k=14 then 2 else 1)=lenK:=rfl;rw[this];simp;omega
theorem Ce{nm:List UInt8->Option Int}{p:Nat}{x:Stm}{D:List Int}(h:su nm p x=some D)(ht:x.task=2\/x.task=3\/x.task=6)(I:x.task=6->uw x.ins x.vals.length):D.length=pE x.task x.vals.length x.ins.size/\U8s D:=by
 unfold su at h;unfold pE;rcases ht with ht|ht|ht
 ·rw[jT ht]at h;obtain⟨A,h1,rfl⟩:=kJ.1 h;rw[jT ht,kL];refine⟨y8 h1,fun z hz=>?_⟩;obtain⟨y,_,rfl⟩:=lf.1 hz;exact AE y
 ·rw[jS ae,jT ht]at h;obtain⟨A,h1,rfl⟩:=kJ.1 h;rw[jS ae,jT ht,DS,y8 h1];refine⟨rfl,fun z hz=>?_⟩;unfold wdB at hz;obtain⟨y,_,h2⟩:=T0G.1 hz;simp at h2;rcases h2 with rfl|rfl
  ·exact AE _
  exact AE _
 rw[jS ae,jS ae]at h;obtain⟨A,h1,h2⟩:=l9.1 h;unfold wN at h2;split at h2
 ·cases h2
 cases h2;have hd:uw x.ins A.length:=(y8 h1) ▸ I ht;rw[jS ae,jS ae,jT ht,kh,Z9q hd];have G:zy (uN x.ins A (p:Int)):=Fj _ _ _ _ ⟨⟨by show (0:Int)<=(x.ins.code:Int);omega,by have:=hd.code;show (x.ins.code:Int)<=255;omega⟩,fun z hz=>by cases hz⟩ _;refine⟨rfl,fun z hz=>?_⟩;rcases kF.1 hz with rfl|hz
 ·exact G.code
 exact G.add z hz
def toB(z:Int):UInt8:=UInt8.ofNat z.toNat
theorem zl{z:Int}(h:0<=z/\z<=255):((toB z).toNat:Int)=z:=by
 unfold toB;rw[nA];omega
def putAt(l:List UInt8)(p:Nat)(A:List Int):List UInt8:=splice l p (A.map toB)
theorem Z0F(l:List UInt8)(p:Nat)(A:List Int)(D:U8s A):(putAt l p A).map (fun x=>Value.int .u8 (x.toNat:Int))=splice (l.map fun x=>Value.int .u8 (x.toNat:Int)) p (qg A):=by
 have e:(A.map toB).map (fun x=>Value.int .u8 (x.toNat:Int))=qg A:=by
  unfold qg;rw[nO];refine oD fun z hz=>?_
  show Value.int .u8 ((toB z).toNat:Int)=_;rw[zl (D z hz)]
 unfold putAt splice;rw[l7,l7,e,List.map_take,List.map_drop,kL];have:(qg A).length=A.length:=by simp[qg]
 rw[this]
structure GA(w w':World)(g:Nat):Prop where
 os:w'.os=w.os
 tape:w'.tape=w.tape
 output:w'.output=w.output
 size:w'.heap.size=w.heap.size
 block:∀k,k≠g->w'.heap[k]?=w.heap[k]?
theorem Z12:(prog.info? 5).map (·.size)=some 1:=aj
theorem Z41(w:World)(O:TypeId)(ik p c:Nat)(l:List UInt8)(b2:Nat)(R:Option Addr)(D G:Nat)(A:List Int)(I:YRow w ik l)(J:w.ownsRow b2 5 1 (.slice R D G) A.length (qg A))(S:U8s A)(hp:p+A.length<=1024)(h1:0<A.length):∃v w',(Builtin.copy_ #[32,32] O #[.slice (some ⟨ik,p,none⟩) (1024-p) c,.slice R D G]).run prog w=.ok v w'/\YRow w' ik (putAt l p A)/\GA w w' ik:=by
 have M:D=A.length:=tI J rfl;obtain⟨g,U,_⟩:=uM (j:=0) (u:=.int .u8 A[0]) J h1 (by unfold qg;rw[kS,jX h1];rfl);subst U;have V:=I.len;have Z:=run_copy_row (P:=prog) w 32 32 O 5 ik p (1024-p) c ⟨g,0,none⟩ D G (l.map fun x=>Value.int .u8 (x.toNat:Int)).toArray 5 (qg A) underlying32 Z12 I.at_ (by rw[show (qg A).length=A.length by simp[qg],M];exact(Nat.min_eq_left ae).symm) (J.cells rfl) (by simp[qg];omega) (Iz A);refine⟨_,_,Z,⟨?_,?_⟩,⟨rfl,rfl,rfl,by simp[World.setRow],fun k hk=>setRow_other w ik k _ hk⟩⟩
 ·rw[setRow_heap w ik _ _ _ _ I.at_,Z0F l p A S];simp[splice,qg]
 unfold putAt;rw[length_splice _ _ _ ai];exact V
