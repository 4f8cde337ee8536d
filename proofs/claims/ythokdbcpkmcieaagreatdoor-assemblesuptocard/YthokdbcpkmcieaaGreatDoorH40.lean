import Derived.Test.YthokdbcpkmcieaaGreatDoorH36
set_option maxRecDepth 200000
set_option maxHeartbeats 16000000
namespace Go.Proofs.YthokdbcpkmcieaaGreatDoor
open RowKit
def VL:List (List Trm)->List ROp->Prop
 |[],[]=>True
 |e::a,o::b=>(∃r,o=sL r/\EL e r)/\VL a b
 |_,_=>False
theorem Ij:∀(f g:Nat) (A:List Tok) (T:List RTok) (acc:List (List Trm)),(T.drop (oR T false).2.1).length<=f->T.length<=g->TLe A T ->
  match (pQ A).bind (fun x=>qM f (acc++[x.1]) x.2) with
  |some y=>if pt y.2=true then ∃es os,rDb g T=some os/\y.1=acc++es/\VL es os else rDb g T=none
  |none=>rDb g T=none
 |f,0,A,T,acc,hf,R,h=>by
  obtain⟨t,a,r,b,rfl,rfl,_⟩:=h.cons
  simp at R
 |f,g+1,A,T,acc,hf,R,h=>by
  have hx:=BF h
  rw[rDb]
  cases S:pQ A with
  |none=>
   rw[S]at hx
   show _=none
   rw[jS (by rw[show (oR T false).2.2=false from hx];simp)]
  |some x=>
   rw[S]at hx
   obtain⟨x1,U,x3⟩:=hx
   rw[jT x1]
   obtain⟨u,a2,v,b2,e1,e2,G,LW,R7⟩:=x3.cons
   have J:kAt T (oR T false).2.1=v.kind:=by
    have:=xL T (oR T false).2.1 0
    rw[kK]at this
    rw[<-this,e2]
    rfl
   have MU:(T.drop (oR T false).2.1).length=b2.length+1:=by rw[e2];rfl
   have V:=vy G 44 s44
   obtain⟨D,rfl⟩:∃D,f=D+1:=⟨f-1,ae⟩
   rw[J]
   show match qM (D+1) (acc++[x.1]) x.2 with
    |some y=>_
    |none=>_
   rw[e1,qM]
   by_cases hc:u.text=(⟨#[44]⟩:ByteArray)
   ·have kv:=V.1 hc
    have Nd:¬u.kind=0:=fun e=>by rw[(ry G).1 e]at kv;cases kv
    have M:T.drop ((oR T false).2.1+1)=b2:=by rw[<-lV,e2];rfl
    rw[jT hc,jT kv,M]
    have VP7:(T.drop (oR T false).2.1).length<=T.length:=af
    have ih:=Ij D g a2 b2 (acc++[x.1]) (by have:(b2.drop (oR b2 false).2.1).length<=b2.length:=(af);omega) ae (LW Nd)
    cases hq:(pQ a2).bind (fun y=>qM D (acc++[x.1]++[y.1]) y.2) with
    |none=>
     rw[hq]at ih
     show _=none
     rw[show rDb g b2=none from ih]
     rfl
    |some y=>
     rw[hq]at ih
     have I:if pt y.2=true then ∃es os,rDb g b2=some os/\y.1=acc++[x.1]++es/\VL es os else rDb g b2=none:=ih
     show if pt y.2=true then _ else _
     by_cases Z:pt y.2=true
     ·rw[jT Z]at I⊢
      obtain⟨es,os,i1,i2,i3⟩:=I
      exact⟨x.1::es,sL (oR T false).1::os,by rw[i1];rfl,by rw[i2];simp,⟨⟨_,rfl,U⟩,i3⟩⟩
     rw[jS Z]at I⊢
     rw[I]
     rfl
   have kv:¬v.kind=44:=fun e=>hc (V.2 e)
   rw[jS hc,jS kv]
   show if pt (u::a2)=true then _ else _
   by_cases Nd:u.kind=0
   ·have O:=(ry G).1 Nd
    rw[jT bG,jT O]
    exact⟨[x.1],_,rfl,rfl,⟨⟨_,rfl,U⟩,trivial⟩⟩
   have O:¬v.kind=0:=fun e=>Nd ((ry G).2 e)
   rw[jS bG,jS O]
theorem Hn{A:List Tok}{T:List RTok}(h:TLe A T):match pQ A with
  |some x=>if pt x.2=true then ∃o,qq T=some o/\VL [x.1] [o] else qq T=none
  |none=>qq T=none:=by
 have hx:=BF h;unfold qq;cases I:pQ A with
 |none=>
  rw[I]at hx;show _=none;rw[jS (fun e=>by rw[show (oR T false).2.2=false from hx]at e;simp at e)]
 |some x=>
  rw[I]at hx;obtain⟨M,O,R⟩:=hx;obtain⟨u,a2,v,b2,e1,e2,J,S,U⟩:=R.cons
  have D:kAt T (oR T false).2.1=v.kind:=by
   have:=xL T (oR T false).2.1 0;rw[kK]at this;rw[<-this,e2];rfl
  show if pt x.2=true then _ else _
  rw[e1,D];by_cases Nd:u.kind=0
  ·have G:=(ry J).1 Nd;rw[jT bG,jT ⟨M,G⟩];exact⟨_,rfl,⟨_,rfl,O⟩,trivial⟩
  have G:¬v.kind=0:=fun e=>Nd ((ry J).2 e)
  rw[jS bG,jS (fun e=>G e.2)]
theorem J9{t:Tok}{r:RTok}(h:uq t r):t.kind=1↔r.kind=119:=by
 rcases h with⟨A,k,_⟩|⟨A,k,_⟩|⟨A,k,_⟩|⟨A,_,d,_,_,D,k⟩
 ·rw[A,k];simp
 ·rw[A,k];simp
 ·rw[A,k.1];simp
 rw[A,k];by_cases z:d=0
 ·rw[jT z];simp
 rw[jS z]
 have:¬d=119:=by
  intro q;subst q;exact absurd D ah
 simp[this]
def uZ(x y:ByteArray):Prop:=y=txt (oQ x.data.toList)/\rR x.data.toList
def xH(x:Stm)(r:RLine):Prop:=
 (x.task=0/\x.vals=[]/\x.ins=re/\r.what=⟨#[]⟩/\r.ops=[]) \/
 (x.task=1/\x.ins=re/\r.what=⟨#[111,114,103]⟩/\VL x.vals r.ops/\x.vals.length=1) \/
 (x.task=4/\x.ins=re/\r.what=⟨#[100,115]⟩/\VL x.vals r.ops/\x.vals.length=1) \/
 (x.task=5/\x.ins=re/\r.what=⟨#[101,113,117]⟩/\VL x.vals r.ops/\x.vals.length=1/\uZ x.name r.name) \/
 (x.task=2/\x.ins=re/\r.what=⟨#[100,98]⟩/\VL x.vals r.ops) \/
 (x.task=3/\x.ins=re/\r.what=⟨#[100,119]⟩/\VL x.vals r.ops) \/
 (x.task=6/\r.what=⟨#[105,110,115]⟩/\AO x.ins r.ent/\∃xs nm,OML xs r.ops/\x.vals=xs.map (·.2)/\rU nm r.ops r.ent=true)
def vt{α:Type}(o:Option (α×List Tok)):Option α:=o.bind fun y=>if pt y.2=true then some y.1 else none
theorem Z0H{x:List UInt8}(hw:rR x)(hn:ri x=false)(os:List ROp):qD (oQ x) os=none:=by
 unfold qD;rw[nU];intro e he hf;unfold rU at hf;simp only[kB,mx]at hf;have A:=kx.1 BU e he;simp only[kB,kI]at A;have hx:e.2.2.1=x:=by rw[<-vT (kx.1 A.1),hf.1,vT hw.2.1]
 obtain⟨r,G,D⟩:=mj.1 (kx.1 II e he);unfold yW at D;simp only[kB,mx]at D;have:ri x=true:=mj.2 ⟨r,G,by rw[D.2.1,hx];simp⟩;rw[hn]at this;cases this
theorem D8{x:List UInt8}{k:Nat}(h:px x=some k):(x,k)∈dirL:=by
 unfold px at h;cases hf:dirL.find? (fun y=>y.1==x) with
 |none=>rw[hf]at h;cases h
 |some y=>
  rw[hf]at h;cases h;have h1:=mE hf;have h2:=nw hf;have:y.1=x:=aO;rw[<-this];exact h1
theorem Z1F{x:List UInt8}{k:Nat}(h:px x=some k):pd x=false:=by
 unfold pd;rw[h];rfl
theorem Z3r{t:Tok}{r:RTok}(ht:uq t r)(hk:t.kind=1){a:List Tok}{b:List RTok}(h:TLe a b)(D:ByteArray):match vt (rH t.text a) with
  |some x=>∃q,(if pr (b.getD 0 endR) ⟨#[101,113,117]⟩ then (qq (b.drop 1)).map fun o=>(⟨D,r.s,⟨#[101,113,117]⟩,ent0,[o]⟩:RLine) else none)=some q/\q.label=D/\xH x q/\pd t.text.data.toList=true
  |none=>pd t.text.data.toList=true->(if pr (b.getD 0 endR) ⟨#[101,113,117]⟩ then (qq (b.drop 1)).map fun o=>(⟨D,r.s,⟨#[101,113,117]⟩,ent0,[o]⟩:RLine) else none)=none:=by
 obtain⟨u,a2,v,b2,rfl,rfl,J,R,V⟩:=h.cons;have S:(v::b2).getD 0 endR=v:=rfl;have e1:(v::b2).drop 1=b2:=rfl;rw[S,e1];have G:pr v ⟨#[101,113,117]⟩↔(u.kind=1/\u.text.data.toList=[69,81,85]/\rR u.text.data.toList):=xQ J [69,81,85] ah
 have hd:px u.text.data.toList=some 5↔u.text.data.toList=[69,81,85]:=by
  constructor
  ·intro h;have:=D8 h;simp[dirL]at this;exact this
  intro h;rw[h];decide
 rw[rH];by_cases hc:pd t.text.data.toList=true/\u.kind=1/\px u.text.data.toList=some 5
 ·rw[jT hc];have hw:=(xy J hc.2.1).2.2.2;rw[jT (G.2 ⟨hc.2.1,hd.1 hc.2.2,hw⟩)];have ho:=Hn (R ae);unfold sK;cases M:pQ a2 with
  |none=>
   rw[M]at ho;show _->_;intro _;rw[show qq b2=none from ho];rfl
  |some x=>
   rw[M]at ho;have A:if pt x.2=true then ∃o,qq b2=some o/\VL [x.1] [o] else qq b2=none:=ho
   show match (if pt x.2=true then some (⟨5,t.text,[x.1],re⟩:Stm) else none) with
    |some x=>_
    |none=>_
   by_cases O:pt x.2=true
   ·rw[jT O]at A⊢;obtain⟨o,o1,o2⟩:=A;obtain⟨_,_,hs,I⟩:=xy ht hk;exact⟨_,by rw[o1];rfl,rfl,.inr (.inr (.inr (.inl ⟨rfl,rfl,rfl,o2,rfl,hs,I⟩))),hc.1⟩
   rw[jS O]at A⊢;intro _;rw[A];rfl
 rw[jS hc];show _->_;intro U;rw[jS (fun e=>hc ⟨U,(G.1 e).1,hd.2 (G.1 e).2.1⟩)]
theorem Z1a{ts:List Tok}{T:List RTok}(h:TLe ts T)(D:ByteArray):match vt (qy ts) with
  |some x=>∃r,qF D T=some r/\r.label=D/\xH x r
  |none=>qF D T=none:=by
 obtain⟨t,a,r,b,rfl,rfl,ht,Kk,Py⟩:=h.cons;have ek:kAt (r::b) 0=r.kind:=rfl;have e0:(r::b).getD 0 endR=r:=rfl;have e1:(r::b).getD 1 endR=b.getD 0 endR:=rfl;have d1:(r::b).drop 1=b:=rfl;have d2:(r::b).drop 2=b.drop 1:=rfl;have hL:(r::b).length=b.length+1:=rfl;unfold qF;rw[ek,e0,e1,d1,d2,hL,qy];by_cases h0:t.kind=0
 ·rw[jT h0,jT ((ry ht).1 h0)]
  show match (if pt (t::a)=true then some (⟨0,⟨#[]⟩,[],re⟩:Stm) else none) with
   |some x=>_
   |none=>_
  rw[jT (by simp[pt,h0])];exact⟨_,rfl,rfl,.inl ⟨rfl,rfl,rfl,rfl,rfl⟩⟩
 rw[jS h0,jS (fun e=>h0 ((ry ht).2 e))];by_cases hk:t.kind=1
 ·obtain⟨UC,_,hs,hw⟩:=xy ht hk;have V:r.s.data.toList=oQ t.text.data.toList:=by rw[hs,zA]
  have KP:qt r.s.data.toList = !pd t.text.data.toList:=by rw[V];exact D6 hw
  have J:=Kk h0;have Lc:∀c:List UInt8,c.all isW=true->(r.s=txt (oQ c)↔t.text.data.toList=c):=fun c hc=>by rw[hs];exact AG hw.2.1 hc
  have M:r.s=⟨#[111,114,103]⟩↔t.text.data.toList=[79,82,71]:=Lc [79,82,71] ah;have O:r.s=⟨#[100,115]⟩↔t.text.data.toList=[68,83]:=Lc [68,83] ah;have Z:r.s=⟨#[100,98]⟩↔t.text.data.toList=[68,66]:=Lc [68,66] ah;have sW:r.s=⟨#[100,119]⟩↔t.text.data.toList=[68,87]:=Lc [68,87] ah;rw[jS (show ¬ ¬t.kind=1 from fun q=>q hk),jS (show ¬ ¬r.kind=119 from fun q=>q UC)];cases hn:ri t.text.data.toList with
  |true=>
   have U:pd t.text.data.toList=false:=by unfold pd;rw[hn];simp
   have K0:∀c,ri c=false->t.text.data.toList≠c:=fun c hc e=>by rw[e,hc]at hn;cases hn
   rw[jT rfl,KP,U,jS af,jS (by rw[M,O];exact mF.2 ⟨K0 _ aq,K0 _ aq⟩),jS (by rw[Z,sW];exact mF.2 ⟨K0 _ aq,K0 _ aq⟩)];unfold x9;obtain⟨u,a2,v,b2,rfl,rfl,hu,LW,R7⟩:=J.cons;rw[wX];by_cases Nd:u.kind=0
   ·have R:=(ry hu).1 Nd;obtain⟨rfl,rfl⟩:=R7 Nd
    have hr:qI ([v].length+1) false [v]=some []:=by
     show qI 2 false [v]=some [];rw[qI,jT (show kAt [v] 0=0 from R)]
    rw[jT Nd,hr];have hf:=Fv hw (xs:=[]) (os:=[]) trivial
    show match vt (((sZ t.text.data.toList []).map fun d=>((d,[]),[u])).map fun x=>((⟨6,⟨#[]⟩,x.1.2,x.1.1⟩:Stm),x.2)) with
     |some x=>_
     |none=>_
    cases Wp1:sZ t.text.data.toList [] with
    |none=>
     have Ns:qD (oQ t.text.data.toList) []=none:=MbS;show _=none;rw[V];show ((qD (oQ t.text.data.toList) []).map _)=none;rw[Ns];rfl
    |some d=>
     have Ns:∃e,qD (oQ t.text.data.toList) []=some e/\AO d e/\rU (oQ t.text.data.toList) [] e=true:=MbS;obtain⟨e,f1,f2,f3⟩:=Ns
     show match (if pt [u]=true then some (⟨6,⟨#[]⟩,[],d⟩:Stm) else none) with
      |some x=>_
      |none=>_
     rw[jT bG];refine⟨⟨D,⟨#[]⟩,⟨#[105,110,115]⟩,e,[]⟩,?_,rfl,.inr (.inr (.inr (.inr (.inr (.inr ⟨rfl,rfl,f2,[],oQ t.text.data.toList,trivial,rfl,f3⟩)))))⟩;show ((qD r.s.data.toList []).map _)=_;rw[V,f1];rfl
   have R:¬v.kind=0:=fun e=>Nd ((ry hu).2 e)
   rw[jS Nd];have ho:=Eo (a2.length+1) (v::b2).length (u::a2) (v::b2) [] [] jU (by have:=J.len;simp at this⊢;omega) J
   have hr:qI ((v::b2).length+1) false (v::b2)=tD (v::b2).length (v::b2):=by
    rw[qI,jS (show ¬kAt (v::b2) 0=0 from R),jS af];rfl
   rw[hr];cases G:tX (a2.length+1) [] [] (u::a2) with
   |none=>
    rw[G]at ho;show _=none;rw[show tD (v::b2).length (v::b2)=none from ho];rfl
   |some y=>
    rw[G]at ho;have A:if pt y.2=true then ∃xs os,tD (v::b2).length (v::b2)=some os/\y.1=([]++xs.map (·.1),[]++xs.map (·.2))/\OML xs os else tD (v::b2).length (v::b2)=none:=ho
    show match vt (((sZ t.text.data.toList y.1.1).map fun d=>((d,y.1.2),y.2)).map fun x=>((⟨6,⟨#[]⟩,x.1.2,x.1.1⟩:Stm),x.2)) with
     |some x=>_
     |none=>_
    by_cases I:pt y.2=true
    ·rw[jT I]at A;obtain⟨xs,os,o1,o2,o3⟩:=A;have y1:y.1.1=xs.map (·.1):=by rw[o2];simp
     have y2:y.1.2=xs.map (·.2):=by rw[o2];simp
     have hf:=Fv hw o3;rw[y1,y2,o1];simp only[Option.bind_some];rw[V];cases Wp1:sZ t.text.data.toList (xs.map (·.1)) with
     |none=>
      rw[Wp1]at hf;show _=none;rw[show qD (oQ t.text.data.toList) os=none from hf];rfl
     |some d=>
      rw[Wp1]at hf;obtain⟨e,f1,f2,f3⟩:=hf
      show match (if pt y.2=true then some (⟨6,⟨#[]⟩,xs.map (·.2),d⟩:Stm) else none) with
       |some x=>_
       |none=>_
      rw[jT I];refine⟨_,by rw[f1];rfl,rfl,.inr (.inr (.inr (.inr (.inr (.inr ⟨rfl,rfl,f2,xs,oQ t.text.data.toList,o3,rfl,f3⟩)))))⟩
    rw[jS I]at A;rw[A];cases sZ t.text.data.toList y.1.1 with
    |none=>rfl
    |some d=>
     show match (if pt y.2=true then some (⟨6,⟨#[]⟩,y.1.2,d⟩:Stm) else none) with
      |some x=>_
      |none=>_
     rw[jS I];rfl
  |false=>
   rw[jS af];have WR1:∀os,qD r.s.data.toList os=none:=fun os=>by rw[V];exact Z0H hw hn os
   have Wp2:((qI (b.length+1) false b).bind fun os=>(qD r.s.data.toList os).map fun e=>(⟨D,⟨#[]⟩,⟨#[105,110,115]⟩,e,os⟩:RLine))=none:=by
    cases qI (b.length+1) false b with
    |none=>rfl
    |some os=>show ((qD r.s.data.toList os).map _)=none;rw[WR1];rfl
   rw[Wp2]
   have one:∀(k:Nat) (w:ByteArray),qz k=true->(k=1/\w=⟨#[111,114,103]⟩\/k=4/\w=⟨#[100,115]⟩)->match vt ((sK k a).map fun x=>((⟨k,⟨#[]⟩,x.1,re⟩:Stm),x.2)) with
     |some x=>∃q,((qq b).map fun o=>(⟨D,⟨#[]⟩,w,ent0,[o]⟩:RLine))=some q/\q.label=D/\xH x q
     |none=>((qq b).map fun o=>(⟨D,⟨#[]⟩,w,ent0,[o]⟩:RLine))=none:=by
    intro k w MF S;have ho:=Hn J;unfold sK;cases G:pQ a with
    |none=>
     rw[G]at ho;show _=none;rw[show qq b=none from ho];rfl
    |some x=>
     rw[G]at ho;have A:if pt x.2=true then ∃o,qq b=some o/\VL [x.1] [o] else qq b=none:=ho
     have hv:(some x).bind (fun x=>if qz k=true then some ([x.1],x.2) else qM x.2.length [x.1] x.2)=some ([x.1],x.2):=by
      show (if qz k=true then some ([x.1],x.2) else qM x.2.length [x.1] x.2)=_;rw[jT MF]
     rw[hv]
     show match (if pt x.2=true then some (⟨k,⟨#[]⟩,[x.1],re⟩:Stm) else none) with
      |some x=>_
      |none=>_
     by_cases I:pt x.2=true
     ·rw[jT I]at A⊢;obtain⟨o,o1,o2⟩:=A;refine⟨_,by rw[o1];rfl,rfl,?_⟩;rcases S with⟨rfl,rfl⟩|⟨rfl,rfl⟩
      ·exact .inr (.inl ⟨rfl,rfl,rfl,o2,rfl⟩)
      exact .inr (.inr (.inl ⟨rfl,rfl,rfl,o2,rfl⟩))
     rw[jS I]at A⊢;show _=none;rw[A];rfl
   have Wp3:∀(k:Nat) (w:ByteArray),qz k=false->(k=2/\w=⟨#[100,98]⟩\/k=3/\w=⟨#[100,119]⟩)->match vt ((sK k a).map fun x=>((⟨k,⟨#[]⟩,x.1,re⟩:Stm),x.2)) with
     |some x=>∃q,((rDb (b.length+1) b).map fun os=>(⟨D,⟨#[]⟩,w,ent0,os⟩:RLine))=some q/\q.label=D/\xH x q
     |none=>((rDb (b.length+1) b).map fun os=>(⟨D,⟨#[]⟩,w,ent0,os⟩:RLine))=none:=by
    intro k w MF S;have hx:=BF J;unfold sK;cases G:pQ a with
    |none=>
     rw[G]at hx;show _=none;rw[rDb,jS (by rw[show (oR b false).2.2=false from hx];simp)];rfl
    |some x=>
     rw[G]at hx;have ho:=Ij x.2.length (b.length+1) a b [] (by rw[hx.2.2.len];exact jU) ae J;rw[G]at ho
     have hv:(some x).bind (fun x=>if qz k=true then some ([x.1],x.2) else qM x.2.length [x.1] x.2)=qM x.2.length [x.1] x.2:=by
      show (if qz k=true then some ([x.1],x.2) else qM x.2.length [x.1] x.2)=_;rw[jS (by rw[MF];simp)]
     rw[hv]
     have Xh:match qM x.2.length [x.1] x.2 with
      |some y=>if pt y.2=true then ∃es os,rDb (b.length+1) b=some os/\y.1=[]++es/\VL es os else rDb (b.length+1) b=none
      |none=>rDb (b.length+1) b=none:=ho
     cases hq:qM x.2.length [x.1] x.2 with
     |none=>
      rw[hq]at Xh;show _=none;rw[show rDb (b.length+1) b=none from Xh];rfl
     |some y=>
      rw[hq]at Xh;have A:if pt y.2=true then ∃es os,rDb (b.length+1) b=some os/\y.1=[]++es/\VL es os else rDb (b.length+1) b=none:=Xh
      show match (if pt y.2=true then some (⟨k,⟨#[]⟩,y.1,re⟩:Stm) else none) with
       |some x=>_
       |none=>_
      by_cases I:pt y.2=true
      ·rw[jT I]at A⊢;obtain⟨es,os,o1,o2,o3⟩:=A;rw[mu]at o2;refine⟨_,by rw[o1];rfl,rfl,?_⟩;rcases S with⟨rfl,rfl⟩|⟨rfl,rfl⟩
       ·exact .inr (.inr (.inr (.inr (.inl ⟨rfl,rfl,rfl,by show VL y.1 os;rw[o2];exact o3⟩))))
       exact .inr (.inr (.inr (.inr (.inr (.inl ⟨rfl,rfl,rfl,by show VL y.1 os;rw[o2];exact o3⟩)))))
      rw[jS I]at A⊢;show _=none;rw[A];rfl
   cases hd:px t.text.data.toList with
   |none=>
    have XB:∀c k,px c=some k->t.text.data.toList≠c:=fun c k hc e=>by rw[e,hc]at hd;cases hd
    rw[jS (show ¬(r.s=_\/r.s=_) from by rw[M,O];exact mF.2 ⟨XB _ 1 ah,XB _ 4 ah⟩),jS (show ¬(r.s=_\/r.s=_) from by rw[Z,sW];exact mF.2 ⟨XB _ 2 ah,XB _ 3 ah⟩),KP];have he:=Z3r ht hk J D
    show match vt (rH t.text a) with
     |some x=>_
     |none=>_
    cases G:vt (rH t.text a) with
    |none=>
     rw[G]at he;show _=none;cases U:pd t.text.data.toList with
     |true=>rw[jT af];exact he U
     |false=>rw[jS af]
    |some x=>
     rw[G]at he;obtain⟨q,q1,q2,q3,q4⟩:=he;rw[q4,jT af];exact⟨q,q1,q2,q3⟩
   |some k=>
    have U:=Z1F hd;have hm:=D8 hd;rw[KP,U,jS af];simp only[dirL,kF,lE,lF,mH]at hm;rcases hm with⟨x,rfl⟩|⟨x,rfl⟩|⟨x,rfl⟩|⟨x,rfl⟩|⟨x,rfl⟩
    ·rw[jT (.inl (M.2 x)),M.2 x];exact one 1 _ rfl (.inl ⟨rfl,rfl⟩)
    ·rw[jS (show ¬(r.s=_\/r.s=_) from by rw[M,O,x];decide),jT (.inl (Z.2 x)),Z.2 x];exact Wp3 2 _ rfl (.inl ⟨rfl,rfl⟩)
    ·rw[jS (show ¬(r.s=_\/r.s=_) from by rw[M,O,x];decide),jT (.inr (sW.2 x)),sW.2 x];exact Wp3 3 _ rfl (.inr ⟨rfl,rfl⟩)
    ·rw[jT (.inr (O.2 x)),O.2 x];exact one 4 _ rfl (.inr ⟨rfl,rfl⟩)
    rw[jS (show ¬(r.s=_\/r.s=_) from by rw[M,O,x];decide),jS (show ¬(r.s=_\/r.s=_) from by rw[Z,sW,x];decide)]
    show match vt (rH t.text a) with
     |some x=>_
     |none=>_
    have Re:rH t.text a=none:=by
     cases a with
     |nil=>rfl
     |cons u l=>rw[rH,jS (by rw[U];simp)]
    rw[Re];rfl
 rw[jT hk,jT (fun e=>hk ((J9 ht).2 e))];rfl
def NoBang(T:List RTok)(n:Nat):Prop:=∀i,i<n->kAt T i≠33
theorem NoBang.add{T:List RTok}{a b:Nat}(h:NoBang T a)(g:NoBang (T.drop a) b):NoBang T (a+b):=fun i hi=>by
 by_cases c:i<a
 ·exact h i c
 have:=g (i-a) ae
 rw[xL,show a+(i-a)=i by omega]at this
 exact this
theorem NoBang.one{T:List RTok}(h:kAt T 0≠33):NoBang T 1:=fun i hi=>by
 have:i=0:=ae
 rw[this]
 exact h
theorem Bx{r:RTok}(h:qx r=true):r.kind≠33:=by
 intro e;unfold qx at h;rw[e]at h;simp at h
theorem zp:∀(n:Nat) (T:List RTok) (m:Bool),T.length<=n->(oR T m).2.2=true->NoBang T (oR T m).2.1
 |0,T,m,hn,h=>by
  have:T=[]:=mv.1 ae
  subst this
  simp[oR]at h
 |n+1,[],m,hn,h=>by simp[oR]at h
 |n+1,[t],m,hn,h=>by
  rw[oR]at h⊢
  by_cases c:qx t=true
  ·rw[jT c]
   exact NoBang.one (Bx c)
  rw[jS c]at h
  cases h
 |n+1,t::u::r,m,hn,h=>by
  rw[oR]at h⊢
  by_cases c:qx t=true
  ·rw[jT c]at h⊢
   simp only[kh]at hn
   by_cases c1:u.kind=43
   ·rw[jT c1]at h⊢
    have ih:=zp n r false ae h
    show NoBang (t::u::r) ((oR r false).2.1+2)
    rw[nF]
    exact(NoBang.add (NoBang.one (T:=t::u::r) (Bx c)) (NoBang.one (T:=u::r) (by show u.kind≠33;rw[c1];decide)):NoBang (t::u::r) 2).add ih
   rw[jS c1]at h⊢
   by_cases c2:u.kind=45
   ·rw[jT c2]at h⊢
    have ih:=zp n r true ae h
    show NoBang (t::u::r) ((oR r true).2.1+2)
    rw[nF]
    exact(NoBang.add (NoBang.one (T:=t::u::r) (Bx c)) (NoBang.one (T:=u::r) (by show u.kind≠33;rw[c2];decide)):NoBang (t::u::r) 2).add ih
   rw[jS c2]
   exact NoBang.one (Bx c)
  rw[jS c]at h
  cases h
theorem yw{r:RTok}{x:ByteArray}(h:pr r x):r.kind≠33:=by rw[h.1];decide
theorem Z6v(T:List RTok)(h:(qJ T).2.2.2=true):NoBang T (qJ T).2.2.1:=by
 unfold qJ at h⊢;by_cases c1:pr (T.getD 0 endR) ⟨#[100,112,116,114]⟩
 ·rw[jT c1];exact NoBang.one (yw c1)
 rw[jS c1]at h⊢;by_cases c2:pr (T.getD 0 endR) ⟨#[114,48]⟩
 ·rw[jT c2];exact NoBang.one (yw c2)
 rw[jS c2]at h⊢;by_cases c3:pr (T.getD 0 endR) ⟨#[114,49]⟩
 ·rw[jT c3];exact NoBang.one (yw c3)
 rw[jS c3]at h⊢;by_cases c4:pr (T.getD 0 endR) ⟨#[97]⟩
 ·rw[jT c4]at h⊢;by_cases c5:(T.getD 1 endR).kind=43
  ·rw[jT c5]at h⊢
   have A:∀ {x},pr (T.getD 2 endR) x->NoBang T 3:=fun hx i hi=>by
    match i,hi with
    |0,_=>exact yw c4
    |1,_=>show (T.getD 1 endR).kind≠33;rw[c5];decide
    |2,_=>exact yw hx
   by_cases c6:pr (T.getD 2 endR) ⟨#[100,112,116,114]⟩
   ·rw[jT c6];exact A c6
   rw[jS c6]at h⊢;by_cases c7:pr (T.getD 2 endR) ⟨#[112,99]⟩
   ·rw[jT c7];exact A c7
   rw[jS c7]at h;cases h
  rw[jS c5]at h;cases h
 rw[jS c4]at h;cases h
theorem AZ(T:List RTok)(s:UInt8)(n:Nat)(h1:NoBang T n)(h:(rG s n (oR (T.drop n) false)).2.2=true):NoBang T (rG s n (oR (T.drop n) false)).2.1:=by
 show NoBang T ((oR (T.drop n) false).2.1+n);rw[nF];exact h1.add (zp _ _ _ jU h)
theorem FM(T:List RTok)(h:(o7 T).2.2=true):NoBang T (o7 T).2.1:=by
 unfold o7 at h⊢;by_cases c1:(T.getD 0 endR).kind=64
 ·rw[jT c1]at h⊢;show NoBang T ((qJ (T.drop 1)).2.2.1+1);rw[nF];exact(NoBang.one (by show (T.getD 0 endR).kind≠33;rw[c1];decide)).add (Z6v _ h)
 rw[jS c1]at h⊢;by_cases c2:(T.getD 0 endR).kind=35
 ·rw[jT c2]at h⊢;exact AZ T 35 1 (NoBang.one (by show (T.getD 0 endR).kind≠33;rw[c2];decide)) h
 rw[jS c2]at h⊢;by_cases c3:(T.getD 0 endR).kind=47
 ·rw[jT c3]at h⊢;exact AZ T 47 1 (NoBang.one (by show (T.getD 0 endR).kind≠33;rw[c3];decide)) h
 rw[jS c3]at h⊢;have zero:NoBang T 0:=fun i hi=>absurd hi (lH _)
 by_cases c4:(T.getD 0 endR).kind=119
 ·rw[jT c4]at h⊢;have one:NoBang T 1:=NoBang.one (by show (T.getD 0 endR).kind≠33;rw[c4];decide);unfold xg at h⊢;cases hf:vC (T.getD 0 endR).s with
  |some f=>exact one
  |none=>
   rw[hf]at h;show NoBang T (if qV (T.getD 0 endR).s.data.toList=true then _ else _:ROp×Nat×Bool).2.1;by_cases c5:qV (T.getD 0 endR).s.data.toList=true
   ·rw[jT c5];exact one
   rw[jS c5];have h':(if qV (T.getD 0 endR).s.data.toList=true then _ else rG 0 0 (oR T false):ROp×Nat×Bool).2.2=true:=h;rw[jS c5]at h';exact AZ T 0 0 zero h'
 rw[jS c4]at h⊢;exact AZ T 0 0 zero h
def Clean(T:List RTok):Prop:=∃n,kAt T n=0/\NoBang T n
theorem Clean.of{T:List RTok}{a:Nat}(h:NoBang T a)(g:Clean (T.drop a)):Clean T:=by
 obtain⟨n,h1,h2⟩:=g;exact⟨a+n,by rw[<-xL];exact h1,h.add h2⟩
theorem Hq{T:List RTok}{o:ROp}(h:qq T=some o):Clean T:=by
 unfold qq at h;by_cases c:(oR T false).2.2=true/\kAt T (oR T false).2.1=0
 ·exact⟨_,c.2,zp _ _ _ jU c.1⟩
 rw[jS c]at h;cases h
theorem Jr:∀(f:Nat) (T:List RTok) (os:List ROp),rDb f T=some os->Clean T
 |0,T,os,h=>by cases h
 |f+1,T,os,h=>by
  rw[rDb]at h
  by_cases c:(oR T false).2.2=true
  ·rw[jT c]at h
   have hx:=zp _ _ _ jU c
   by_cases c1:kAt T (oR T false).2.1=44
   ·rw[jT c1]at h
    cases hd:rDb f (T.drop ((oR T false).2.1+1)) with
    |none=>rw[hd]at h;cases h
    |some A=>
     refine Clean.of (a:=(oR T false).2.1+1) (hx.add (NoBang.one ?_)) (Jr f _ A hd)
     rw[xL,kK,c1]
     decide
   rw[jS c1]at h
   by_cases c2:kAt T (oR T false).2.1=0
   ·exact⟨_,c2,hx⟩
   rw[jS c2]at h
   cases h
  rw[jS c]at h
  cases h
theorem DB:∀(f:Nat) (m:Bool) (T:List RTok) (os:List ROp),qI f m T=some os->Clean T
 |0,m,T,os,h=>by cases h
 |f+1,m,T,os,h=>by
  rw[qI]at h
  by_cases c0:kAt T 0=0
  ·exact⟨0,c0,fun i hi=>absurd hi (lH _)⟩
  rw[jS c0]at h
  by_cases D:m=true
  ·rw[jT D]at h
   by_cases c1:kAt T 0=44
   ·rw[jT c1]at h
    by_cases c2:(o7 (T.drop 1)).2.2=true
    ·rw[jT c2]at h
     cases hd:qI f true (T.drop (1+(o7 (T.drop 1)).2.1)) with
     |none=>rw[hd]at h;cases h
     |some A=>exact Clean.of (a:=1+(o7 (T.drop 1)).2.1) ((NoBang.one dL).add (FM _ c2)) (DB f _ _ A hd)
    rw[jS c2]at h;cases h
   rw[jS c1]at h;cases h
  rw[jS D]at h
  by_cases c2:(o7 T).2.2=true
  ·rw[jT c2]at h
   cases hd:qI f true (T.drop (o7 T).2.1) with
   |none=>rw[hd]at h;cases h
   |some A=>exact Clean.of (FM _ c2) (DB f _ _ A hd)
  rw[jS c2]at h;cases h
theorem Fb{D:ByteArray}{T:List RTok}{r:RLine}(h:qF D T=some r):Clean T:=by
 unfold qF at h;by_cases c0:kAt T 0=0
 ·exact⟨0,c0,fun i hi=>absurd hi (lH _)⟩
 rw[jS c0]at h;by_cases c1:¬kAt T 0=119
 ·rw[jT c1]at h;cases h
 rw[jS c1]at h;have A:kAt T 0=119:=Decidable.not_not.1 c1;have b1:NoBang T 1:=NoBang.one (by rw[A];decide);by_cases c2:qt (T.getD 0 endR).s.data.toList=false
 ·rw[jT c2]at h;by_cases c3:pr (T.getD 1 endR) ⟨#[101,113,117]⟩
  ·rw[jT c3]at h;cases ho:qq (T.drop 2) with
   |none=>rw[ho]at h;cases h
   |some o=>exact Clean.of (a:=2) (b1.add (NoBang.one (by rw[xL];exact yw c3))) (Hq ho)
  rw[jS c3]at h;cases h
 rw[jS c2]at h;by_cases c3:(T.getD 0 endR).s=⟨#[111,114,103]⟩\/(T.getD 0 endR).s=⟨#[100,115]⟩
 ·rw[jT c3]at h;cases ho:qq (T.drop 1) with
  |none=>rw[ho]at h;cases h
  |some o=>exact Clean.of b1 (Hq ho)
 rw[jS c3]at h;by_cases c4:(T.getD 0 endR).s=⟨#[100,98]⟩\/(T.getD 0 endR).s=⟨#[100,119]⟩
 ·rw[jT c4]at h;cases ho:rDb T.length (T.drop 1) with
  |none=>rw[ho]at h;cases h
  |some o=>exact Clean.of b1 (Jr _ _ _ ho)
 rw[jS c4]at h;cases ho:qI T.length false (T.drop 1) with
 |none=>rw[ho]at h;cases h
 |some o=>exact Clean.of b1 (DB _ _ _ _ ho)
theorem Z43{T:List RTok}{r:RLine}(h:qE T=some r):Clean T:=by
 unfold qE at h;by_cases c:kAt T 0=119/\kAt T 1=58
 ·rw[jT c]at h;by_cases c2:qt (T.getD 0 endR).s.data.toList=true
  ·rw[jT c2]at h;cases h
  rw[jS c2]at h;exact Clean.of (a:=2) ((NoBang.one (by rw[c.1];decide)).add (NoBang.one (T:=T.drop 1) (by rw[xL,c.2];decide))) (Fb h)
 rw[jS c]at h;exact Fb h
theorem yY:∀(f:Nat) (l:List UInt8),∀r∈rtL f l,r.kind≠0
 |0,l,r,h=>dT
 |f+1,[],r,h=>dT
 |f+1,c::l,r,h=>by
  rw[rtL]at h
  by_cases c1:c.toNat=59
  ·rw[jT c1]at h;simp at h
  rw[jS c1]at h
  by_cases c2:c.toNat=32
  ·rw[jT c2]at h;exact yY f _ r h
  rw[jS c2]at h
  by_cases c3:isD c=true
  ·rw[jT c3]at h
   rcases kF.1 h with rfl|h
   ·unfold qL ua
    split
    ·decide
    exact fun e=>absurd (show (110:UInt8)=0 from e) ah
   exact yY f _ r h
  rw[jS c3]at h
  by_cases c4:isL c=true
  ·rw[jT c4]at h
   rcases kF.1 h with rfl|h
   ·exact fun e=>absurd (show (119:UInt8)=0 from e) ah
   exact yY f _ r h
  rw[jS c4]at h
  by_cases c5:c.toNat=0
  ·rw[jT c5]at h
   rcases kF.1 h with rfl|h
   ·decide
   exact yY f _ r h
  rw[jS c5]at h
  rcases kF.1 h with rfl|h
  ·exact fun e=>c5 (by rw[show c=0 from e];rfl)
  exact yY f _ r h
theorem Z2R{R:List RTok}(hk:∀r∈R,r.kind≠0)(A:bangT∈R):qE (R++[endR])=none:=by
 cases h:qE (R++[endR]) with
 |none=>rfl
 |some r=>
  obtain⟨n,h1,h2⟩:=Z43 h;obtain⟨i,hi,e⟩:=mP A
  have hn:R.length<=n:=by
   rcases lQ n R.length with c|c
   ·exact absurd h1 (by
     unfold kAt;rw[jZ,lz c,jX c];exact hk _ (kC c))
   exact c
  have:=h2 i ae;refine absurd ?_ this;unfold kAt;rw[jZ,lz hi,jX hi,e];rfl
theorem Hh:∀ {A:List Tok} {R:List RTok},TL A R->(∀r∈R,r.kind≠0)->TLe (A++[ux]) (R++[endR])
 |[],[],_,_=>⟨.inl ⟨rfl,rfl,rfl⟩,by rw[jT (show ux.kind=0 from rfl)];exact⟨rfl,rfl⟩⟩
 |t::a,r::b,h,hk=>by
  refine⟨h.1,?_⟩
  rw[jS (fun e=>hk r oM ((ry h.1).1 e))]
  exact Hh h.2 (fun x hx=>hk x (mo _ hx))
 |[],_::_,h,_=>h.elim
 |_::_,[],h,_=>h.elim
def sx(q:ByteArray×Stm)(r:RLine):Prop:=((q.1=⟨#[]⟩/\r.label=⟨#[]⟩)\/uZ q.1 r.label)/\xH q.2 r
theorem Z8Z{I:List Tok}{T:List RTok}(h:TLe I T):match (rL I).bind (fun x=>(qy x.2).bind fun y=>if pt y.2=true then some (x.1,y.1) else none) with
  |some q=>∃r,qE T=some r/\sx q r
  |none=>qE T=none:=by
 have J:∀(lb A:ByteArray) (I:List Tok) (T:List RTok),TLe I T->((lb=⟨#[]⟩/\A=⟨#[]⟩)\/uZ lb A)->match ((qy I).bind fun y=>if pt y.2=true then some (lb,y.1) else none) with
   |some q=>∃r,qF A T=some r/\sx q r
   |none=>qF A T=none:=by
  intro lb A I T h Z;have ht:=Z1a h A;unfold vt at ht;cases R:qy I with
  |none=>rw[R]at ht;exact ht
  |some y=>
   rw[R]at ht
   have D:match (if pt y.2=true then some y.1 else none) with
    |some x=>∃r,qF A T=some r/\r.label=A/\xH x r
    |none=>qF A T=none:=ht
   show match (if pt y.2=true then some (lb,y.1) else none) with
    |some q=>_
    |none=>_
   by_cases c:pt y.2=true
   ·rw[jT c]at D⊢;obtain⟨r,r1,r2,r3⟩:=D;exact⟨r,r1,by rw[r2];exact Z,r3⟩
   rw[jS c]at D⊢;exact D
 have h0:=h;obtain⟨t,a,r,b,rfl,rfl,ht,Kk,Py⟩:=h.cons;have ek:kAt (r::b) 0=r.kind:=rfl;have e0:(r::b).getD 0 endR=r:=rfl;unfold qE;rw[ek,e0];by_cases M:t.kind=0
 ·obtain⟨rfl,rfl⟩:=Py M;rw[jS (fun e=>by rw[(ry ht).1 M]at e;exact absurd e.1 ah)];exact J ⟨#[]⟩ ⟨#[]⟩ [t] [r] h0 (.inl ⟨rfl,rfl⟩)
 obtain⟨u,a2,v,b2,rfl,rfl,S,LW,R7⟩:=(Kk M).cons;have k1:kAt (r::v::b2) 1=v.kind:=rfl;have d2:(r::v::b2).drop 2=b2:=rfl;have U:=vy S 58 s58;rw[k1,d2];have hL:rL (t::u::a2)=(if t.kind=0\/¬u.text=⟨#[58]⟩ then some (⟨#[]⟩,t::u::a2) else if t.kind=1/\pd t.text.data.toList=true then some (t.text,a2) else none):=rfl;rw[hL];by_cases G:u.text=(⟨#[58]⟩:ByteArray)
 ·rw[jS (fun e=>e.elim M (fun q=>q G))];have kv:=U.1 G;have Nd:¬u.kind=0:=fun e=>by rw[(ry S).1 e]at kv;cases kv
  by_cases O:t.kind=1
  ·obtain⟨UC,_,hs,hw⟩:=xy ht O;have hP:(if r.kind=119/\v.kind=58 then (if qt r.s.data.toList=true then none else qF r.s b2) else qF ⟨#[]⟩ (r::v::b2))=(if qt r.s.data.toList=true then none else qF r.s b2):=jT ⟨UC,kv⟩;rw[hP];have KP:qt r.s.data.toList = !pd t.text.data.toList:=by rw[hs,zA];exact D6 hw
   rw[KP];cases KA:pd t.text.data.toList with
   |true=>
    rw[jT (show t.kind=1/\true=true from ⟨O,rfl⟩),jS af];exact J t.text r.s a2 b2 (LW Nd) (.inr ⟨hs,hw⟩)
   |false=>
    rw[jS af,jT af];rfl
  rw[jS (show ¬(t.kind=1/\pd t.text.data.toList=true) from fun e=>O e.1)];have V:¬r.kind=119:=fun e=>O ((J9 ht).2 e)
  rw[jS (show ¬(r.kind=119/\v.kind=58) from fun e=>V e.1)];show _=none;unfold qF;rw[show kAt (r::v::b2) 0=r.kind from rfl,jS (fun e=>M ((ry ht).2 e)),jT V]
 rw[jT (show t.kind=0\/¬u.text=⟨#[58]⟩ from .inr G),jS (show ¬(r.kind=119/\v.kind=58) from fun e=>G (U.2 e.2))];exact J ⟨#[]⟩ ⟨#[]⟩ _ _ h0 (.inl ⟨rfl,rfl⟩)
theorem DC:∀(f:Nat) (l:List UInt8),rtL f l=rtL f (l.takeWhile fun c=>decide (c≠59))
 |0,l=>rfl
 |f+1,[]=>rfl
 |f+1,c::l=>by
  by_cases c1:c=59
  ·subst c1
   rw[lj]
   have I:rtL (f+1) (59::l)=[]:=by rw[rtL];exact jT ah
   rw[I]
   rfl
  have ht:(c::l).takeWhile (fun c=>decide (c≠59))=c::l.takeWhile (fun c=>decide (c≠59)):=by rw[lj,jT (by simpa using c1)]
  have J:∀m:List UInt8,(m.takeWhile fun c=>decide (c≠59)).takeWhile isLW=m.takeWhile isLW/\(m.takeWhile fun c=>decide (c≠59)).drop (pK m)=(m.drop (pK m)).takeWhile fun c=>decide (c≠59):=by
   intro m
   induction m with
   |nil=>exact⟨rfl,rfl⟩
   |cons d m ih=>
    unfold pK at ih⊢
    by_cases c2:isLW d=true
    ·have d59:d≠59:=fun e=>by subst e;exact absurd c2 ah
     rw[lj (p:=fun c=>decide (c≠59)),jT (by simpa using d59),lj,jT c2,lj,jT c2]
     exact⟨by rw[ih.1],ih.2⟩
    rw[lj (l:=m) (p:=isLW),jS c2]
    refine⟨?_,rfl⟩
    by_cases d59:d=59
    ·subst d59
     rfl
    rw[lj (p:=fun c=>decide (c≠59)),jT (by simpa using d59),lj,jS c2]
  have htk:∀m:List UInt8,m.take (pK m)=m.takeWhile isLW:=fun m=>by
   unfold pK
   exact(List.prefix_iff_eq_take.1 (oj isLW)).symm
  rw[ht]
  obtain⟨A,G⟩:=J (c::l)
  rw[ht]at A G
  have D:pK (c::l.takeWhile fun c=>decide (c≠59))=pK (c::l):=by unfold pK;rw[A]
  rw[rtL,rtL,D,<- G.symm,<- DC f l,<- DC f ((c::l).drop (pK (c::l)))]
  have e1:(c::l.takeWhile fun c=>decide (c≠59)).take (pK (c::l))=(c::l).take (pK (c::l)):=by rw[<-D,htk,D,htk,A]
  rw[e1]
theorem J7:∀l:List UInt8,(Lib.index l [59] = -1/\l.takeWhile (fun c=>decide (c≠59))=l)\/∃k:Nat,Lib.index l [59]=(k:Int)/\l.takeWhile (fun c=>decide (c≠59))=l.take k
 |[]=>.inl ⟨rfl,rfl⟩
 |c::l=>by
  by_cases h:c=59
  ·subst h
   exact .inr ⟨0,by simp[Lib.index,List.isPrefixOf],af⟩
  have A:List.isPrefixOf [59] (c::l)=false:=by simp[List.isPrefixOf,beq_false_of_ne (fun e=>h e.symm)]
  have ht:(c::l).takeWhile (fun c=>decide (c≠59))=c::l.takeWhile (fun c=>decide (c≠59)):=by rw[lj,jT av]
  rcases J7 l with⟨h1,h2⟩|⟨k,h1,h2⟩
  ·exact .inl ⟨by simp[Lib.index,A,h1],by rw[ht,h2]⟩
  exact .inr ⟨k+1,by simp[Lib.index,A,h1],by rw[ht,h2];rfl⟩
theorem Z32(l:List UInt8):(Lib.cut l [59]).1=l.takeWhile (fun c=>decide (c≠59)):=by
 unfold Lib.cut;rcases J7 l with⟨h1,h2⟩|⟨k,h1,h2⟩
 ·rw[h1,jS ah,h2]
 rw[h1,jT ae,h2];simp
theorem Z3t(l:List UInt8):(oQ l).takeWhile (fun c=>decide (c≠59))=oQ (l.takeWhile fun c=>decide (c≠59)):=by
 induction l with
 |nil=>rfl
 |cons c l ih=>
  have:=sX (fun c=>decide (o8 c≠59)==decide (c≠59)) aq c;have hc:decide (o8 c≠59)=decide (c≠59):=by simpa using this
  show (o8 c::oQ l).takeWhile _=_;rw[lj,lj,hc];cases decide (c≠59)
  ·rfl
  show o8 c::_=oQ (c::_);rw[ih];rfl
theorem Fy(s:ByteArray):match sd s with
  |some q=>∃r,qE (rtL s.size (oQ s.data.toList)++[endR])=some r/\sx q r
  |none=>qE (rtL s.size (oQ s.data.toList)++[endR])=none:=by
 have G:(rY s).data.toList=s.data.toList.takeWhile (fun c=>decide (c≠59)):=by unfold rY;rw[Z32]
 obtain⟨l,A⟩:=Zg0 (s.data.toList.takeWhile (fun c=>decide (c≠59)));rw[A]at G
 have I:tp (rY s)=txt (oX l):=by
  unfold tp txt oX;rw[<-G];congr 1;apply mV;simp
 have J:(rY s).size=l.length:=by rw[<-G,kE];rfl
 have M:l.length<=s.size:=by
  rw[<-A];have:=(oj (fun c=>decide (c≠(59:UInt8))) (l:=s.data.toList)).length_le;rw[kE]at this;exact this
 have O:(59:UInt8) ∉ l:=by
  rw[<-A]
  have R:∀m:List UInt8,(59:UInt8) ∉ m.takeWhile (fun c=>decide (c≠59)):=by
   intro m;induction m with
   |nil=>simp
   |cons c m ih=>
    rw[lj];by_cases h:c=59
    ·simp[h]
    rw[jT av];intro S;rcases kF.1 S with e|e
    ·exact h e.symm
    exact ih e
  exact R _
 have U:rtL s.size (oQ s.data.toList)=rtL s.size (oQ l):=by rw[DC,Z3t,A]
 have D:=Dm s.size l.length l M jU O;have hk:=yY s.size (oQ l);rw[U];unfold sd;rw[I,J];cases hs:pY l.length (txt (oX l)) with
 |none=>
  rw[hs]at D;exact Z2R hk D
 |some V=>
  rw[hs]at D;exact Z8Z (Hh D hk)
theorem Z8G(b:Nat):oU 0 b=b:=by simp[oU]
def xi(x:RTerm):Bool:=decide (x.t.kind=119)&&decide (8<x.t.s.size)
def lkR(l g:Bool):Nat:=if l=true then 3 else if g=true then 6 else 0
theorem Z48(l g:Bool)(x:RTerm):tO (lkR l g) x=lkR (l||xi x) (g||x.t.great):=by
 unfold tO xi lkR oU;by_cases h1:x.t.kind=119 <;> by_cases h2:8<x.t.s.size <;> cases x.t.great <;> cases l <;> cases g <;> simp[h1,h2]
theorem IL:∀(es:List RTerm) (l g:Bool),es.foldl tO (lkR l g)=lkR (l||es.any xi) (g||es.any fun x=>x.t.great)
 |[],l,g=>af
 |x::es,l,g=>by rw[oi,Z48,IL es];simp[Bool.or_assoc]
theorem JF:∀(os:List ROp) (l g:Bool),os.foldl xz (lkR l g)=lkR (l||os.any fun o=>o.e.any xi) (g||os.any fun o=>o.e.any fun x=>x.t.great)
 |[],l,g=>af
 |o::os,l,g=>by rw[oi,show xz (lkR l g) o=_ from IL o.e l g,JF os];simp[Bool.or_assoc]
theorem Z7c(os:List ROp):xS os=lkR (os.any fun o=>o.e.any xi) (os.any fun o=>o.e.any fun x=>x.t.great):=by
 have:=JF os false false;rw[mN,mN]at this;exact this
theorem AU(l:List UInt8):(txt (oQ l)).size=l.length:=by
 show (oQ l).toArray.size=_;simp[oQ]
theorem zu(s:ByteArray):s.size=s.data.toList.length:=aK
theorem Hz{x y:List UInt8}(hx:∀c∈x,isW c=true)(hy:∀c∈y,isW c=true)(h:txt (oQ x)=txt (oQ y)):x=y:=(AG hx (kx.2 hy)).1 h
theorem Z0g(L:List (ByteArray×Int))(s x:ByteArray)(z:Int):qH (L++[(s,z)]) x=(qH L x).or (if s=x then some z else none):=by
 unfold qH;rw[List.find?_append];cases h:L.find? (fun p=>decide (p.1=x)) with
 |some p=>rfl
 |none=>
  by_cases c:s=x <;> simp[List.find?,c]
structure SM(a:Asm)(b:RAsm):Prop where
 nm:∀x,rR x->a.nm x=qH b.L (txt (oQ x))
 n:a.n=b.L.length
 pl:a.pl=b.pl
 laid:a.laid=b.laid
 starts:a.starts=b.starts
 le:a.n<=40
 fit:a.pl<=1024
 big:∀l z,a.nm l=some z->-1000000<=z/\z<=1000000
theorem uL{q:ByteArray}{l:ByteArray}(h:uZ q l):¬q=⟨#[]⟩/\¬l=⟨#[]⟩:=by
 have hq:q.data.toList≠[]:=h.2.1;refine⟨fun e=>hq (by rw[e]),fun e=>hq ?_⟩;have:=lp ByteArray.size e;rw[h.1,AU]at this;exact mv.1 this
theorem SM.put{a:Asm}{b:RAsm}(h:SM a b){k r:ByteArray}(hk:uZ k r)(z:Int)(hz:-1000000<=z/\z<=1000000)(hn:a.nm k.data.toList=none)(D:a.n<40):SM (a.put k z) {b with L:=b.L++[(r,z)]}:=by
 refine⟨fun x hx=>?_,?_,h.pl,h.laid,h.starts,?_,h.fit,fun l y A=>?_⟩
 ·show (if x=k.data.toList then some z else a.nm x)=_;rw[Z0g,<- h.nm x hx];by_cases c:x=k.data.toList
  ·subst c;rw[jT rfl,jT hk.1,hn];rfl
  rw[jS c,jS (fun e=>c ?_)]
  ·cases a.nm x <;> rfl
  rw[hk.1]at e;exact(Hz hk.2.2.1 hx.2.1 e).symm
 ·show (if (a.nm k.data.toList).isSome then a.n else a.n+1)=_;rw[hn,jS af,h.n];show _=(b.L++[(r,z)]).length;simp
 ·show (if (a.nm k.data.toList).isSome then a.n else a.n+1)<=40;rw[hn,jS af];omega
 have:(if l=k.data.toList then some z else a.nm l)=some y:=A;by_cases c:l=k.data.toList
 ·rw[jT c]at this;cases this;exact hz
 rw[jS c]at this;exact h.big l y this
theorem FP{t:Trm}{r:RTerm}(h:vI t r):(t.name=⟨#[]⟩/\¬r.t.kind=119)\/(r.t.kind=119/\uZ t.name r.t.s):=by
 rcases h.2 with⟨_,_,k,_,s,w⟩|⟨n,_,_,k,_⟩|⟨n,_,m⟩
 ·exact .inr ⟨k,s,w⟩
 ·exact .inl ⟨n,cT⟩
 exact .inl ⟨n,by rw[m.1];decide⟩
theorem Z4U{t:Trm}{r:RTerm}(h:vI t r):xi r=(!decide (t.name=⟨#[]⟩)&&pO t.name):=by
 unfold xi pO;rcases FP h with⟨n,k⟩|⟨k,A⟩
 ·simp[n,k]
 rw[A.1,AU,zu,kj k,j9 (uL A).1];rfl
theorem Z0c{t:Trm}{r:RTerm}(h:vI t r):r.t.great=decide (65535<t.num):=by
 rcases h.2 with⟨_,n,_,g,_⟩|⟨_,_,n,_,g⟩|⟨_,_,_,m|m⟩
 ·rw[n,g];decide
 ·rw[n,g];decide
 ·rw[m.1,m.2];decide
 rw[m.1];have:=m.2.2;symm;exact j9 ae
theorem Jc(p:ByteArray->Bool)(e:List Trm):(qU e).any p=e.any fun t=>!decide (t.name=⟨#[]⟩)&&p t.name:=by
 unfold qU;rw[List.any_map,List.any_filter];rfl
theorem J1(p:ByteArray->Bool)(es:List (List Trm)):(pq es).any p=es.any fun e=>e.any fun t=>!decide (t.name=⟨#[]⟩)&&p t.name:=by
 unfold pq;rw[List.any_flatMap];exact lp (fun f=>es.any f) (funext fun e=>Jc p e)
theorem EL.any{f:Trm->Bool}{g:RTerm->Bool}(A:∀t r,vI t r->f t=g r):∀ {a:List Trm} {b:List RTerm},EL a b->a.any f=b.any g
 |[],[],_=>rfl
 |t::a,r::b,h=>by rw[lN,lN,A t r h.1,EL.any A h.2]
 |[],_::_,h=>h.elim
 |_::_,[],h=>h.elim
def XL:List (List Trm)->List ROp->Prop
 |[],[]=>True
 |e::a,o::b=>(EL e o.e\/(o.e=[]/\∃n:Nat,n<=7/\e=[rv n]))/\XL a b
 |_,_=>False
theorem XL.any{f:Trm->Bool}{g:RTerm->Bool}(A:∀t r,vI t r->f t=g r)(h0:∀n:Nat,n<=7->f (rv n)=false):∀ {a:List (List Trm)} {b:List ROp},XL a b->(a.any fun e=>e.any f)=b.any fun o=>o.e.any g
 |[],[],_=>rfl
 |e::a,o::b,h=>by
  rw[lN,lN,XL.any A h0 h.2]
  congr 1
  rcases h.1 with h1|⟨h1,n,hn,h2⟩
  ·exact h1.any A
  rw[h1,h2]
  simp[h0 n hn]
 |[],_::_,h=>h.elim
 |_::_,[],h=>h.elim
theorem VL.xl:∀ {a:List (List Trm)} {b:List ROp},VL a b->XL a b
 |[],[],_=>trivial
 |_::_,_::_,⟨⟨_,h1,h2⟩,h3⟩=>⟨.inl (by rw[h1];exact h2),h3.xl⟩
 |[],_::_,h=>h.elim
 |_::_,[],h=>h.elim
theorem OML.xl:∀ {xs:List (Nat×List Trm)} {b:List ROp},OML xs b->XL (xs.map (·.2)) b
 |[],[],_=>trivial
 | x::_,_::_,h=>⟨by
   rcases h.1 with⟨_,_,_,h1,h2,h3,_⟩|⟨_,_,_,h1⟩|⟨_,_,_,h1⟩|⟨_,_,_,h1⟩
   ·exact .inr ⟨h1,_,h3,h2⟩
   ·exact .inl h1
   ·exact .inl h1
   ·exact .inl h1,OML.xl h.2⟩
 |[],_::_,h=>h.elim
 |_::_,[],h=>h.elim
theorem Z6r{x:Stm}{r:RLine}(h:xH x r):XL x.vals r.ops:=by
 rcases h with⟨_,h1,_,_,h2⟩|⟨_,_,_,h1,_⟩|⟨_,_,_,h1,_⟩|⟨_,_,_,h1,_,_⟩|⟨_,_,_,h1⟩|⟨_,_,_,h1⟩|⟨_,_,_,xs,nm,h1,h2,_⟩
 ·rw[h1,h2];trivial
 ·exact h1.xl
 ·exact h1.xl
 ·exact h1.xl
 ·exact h1.xl
 ·exact h1.xl
 rw[h2];exact h1.xl
theorem Z6e{es:List (List Trm)}{os:List ROp}(h:XL es os):xS os=lkR ((pq es).any pO) (pB es):=by
 rw[Z7c,J1];unfold pB ve
 rw[h.any (f:=fun t=>!decide (t.name=⟨#[]⟩)&&pO t.name) (g:=xi) (fun t r A=>(Z4U A).symm) (fun n _=>by simp[rv]),
  h.any (f:=fun t=>decide (65535<t.num)) (g:=fun x=>x.t.great) (fun t r A=>(Z0c A).symm) (fun n hn=>j9 (by show ¬(65535:Int)<(n:Int);omega))]
