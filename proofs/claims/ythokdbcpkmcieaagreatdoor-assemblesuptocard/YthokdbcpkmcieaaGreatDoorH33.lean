import Derived.Test.YthokdbcpkmcieaaGreatDoorH26
set_option maxRecDepth 200000
set_option maxHeartbeats 16000000
namespace Go.Proofs.YthokdbcpkmcieaaGreatDoor
open RowKit
theorem Z46(p r:List UInt8):(⟨(p++r).toArray⟩:ByteArray).extract 0 p.length=⟨p.toArray⟩:=by
 apply mI;apply mV;rw[nR];simp
theorem Z4r(p r:List UInt8):(⟨(p++r).toArray⟩:ByteArray).extract p.length (⟨(p++r).toArray⟩:ByteArray).size=⟨r.toArray⟩:=by
 apply mI;apply mV;rw[nR]
 have:(⟨(p++r).toArray⟩:ByteArray).size=p.length+r.length:=by
  show (p++r).toArray.size=_;simp
 rw[this];simp
theorem Jk(f:Nat)(p r:List UInt8)(A:p≠[])(hn:max (runN (p++r)) 1=p.length):pY (f+1) ⟨(p++r).toArray⟩=(sq (p.headD 0) ⟨p.toArray⟩).bind fun o=>(pY f ⟨r.toArray⟩).map (tf o ++ ·):=by
 obtain⟨c,q,rfl⟩:∃c q,p=c::q:=by
  cases p with
  |nil=>exact absurd rfl A
  |cons c q=>exact⟨c,q,rfl⟩
 have hs:0<(⟨((c::q)++r).toArray⟩:ByteArray).size:=by
  show 0<((c::q)++r).toArray.size;simp
 have D:vQ ⟨((c::q)++r).toArray⟩=(c::q).length:=hn;rw[pY,mR hs];unfold yD wM;rw[D,Z46,Z4r];rfl
def oX(l:List UInt8):List UInt8:=l.map oZ
theorem sX(p:UInt8->Bool)(h:(List.range 256).all (fun n=>p (UInt8.ofNat n))=true)(c:UInt8):p c=true:=by
 have:=kx.1 h c.toNat (lM.2 c.toNat_lt);simpa using this
theorem CV(c:UInt8):isW (oZ c)=isLW (o8 c):=by have:=sX (fun c=>isW (oZ c)==isLW (o8 c)) aq c;simpa using this
theorem BD(c:UInt8):isD (oZ c)=isD c/\isD (o8 c)=isD c:=by have:=sX (fun c=>isD (oZ c)==isD c&&isD (o8 c)==isD c) aq c;simpa using this
theorem Z6F(c:UInt8):isL (o8 c)=(isW (oZ c)&&!isD c):=by have:=sX (fun c=>isL (o8 c)==(isW (oZ c)&&!isD c)) aq c;simpa using this
theorem Z21(c:UInt8):o8 (oZ c)=o8 c:=by have:=sX (fun c=>o8 (oZ c)==o8 c) aq c;simpa using this
theorem Z8r(c:UInt8)(h:isW (oZ c)=false):oZ c=c/\o8 c=c:=by have:=sX (fun c=>isW (oZ c)||(oZ c==c&&o8 c==c)) aq c;rw[h]at this;simpa using this
theorem Z7N(c:UInt8):([48,49,50,51,52,53,54,55,56,57,65,66,67,68,69,70]:List UInt8).contains (oZ c)=goodD 16 (o8 c):=by have:=sX (fun c=>([48,49,50,51,52,53,54,55,56,57,65,66,67,68,69,70]:List UInt8).contains (oZ c)==goodD 16 (o8 c)) aq c;simpa using this
theorem Z3o(c:UInt8):([48,49,50,51,52,53,54,55,56,57]:List UInt8).contains (oZ c)=goodD 10 (o8 c):=by have:=sX (fun c=>([48,49,50,51,52,53,54,55,56,57]:List UInt8).contains (oZ c)==goodD 10 (o8 c)) aq c;simpa using this
theorem Ek(b:Nat)(A:b=10\/b=16)(c:UInt8)(h:goodD b (o8 c)=true):dv (oZ c)=sF (o8 c)/\sF (o8 c)<b:=by
 rcases A with rfl|rfl
 ·have:=sX (fun c=>!goodD 10 (o8 c)||(dv (oZ c)==sF (o8 c)&&decide (sF (o8 c)<10))) aq c;rw[h]at this;simpa using this
 have:=sX (fun c=>!goodD 16 (o8 c)||(dv (oZ c)==sF (o8 c)&&decide (sF (o8 c)<16))) aq c;rw[h]at this;simpa using this
theorem Z2H(c:UInt8):(oZ c=88↔o8 c=120):=by
 have:=sX (fun c=>decide (oZ c=88↔o8 c=120)) aq c;simpa using this
theorem Z3g(c:UInt8):(oZ c=48↔o8 c=48):=by
 have:=sX (fun c=>decide (oZ c=48↔o8 c=48)) aq c;simpa using this
theorem Z6z(l:List UInt8):oQ (oX l)=oQ l:=by
 unfold oQ oX;rw[nO];exact oD fun c _=>Z21 c
theorem Jq:∀l:List UInt8,runN (oX l)=pK (oQ l)
 |[]=>rfl
 |c::l=>by
  have ih:=Jq l
  unfold runN pK oX oQ at ih⊢
  rw[kZ,kZ,lj,lj,CV c]
  cases isLW (o8 c)
  ·rfl
  simpa using ih
theorem Ej(b:Nat)(A:1<=b):∀(l:List UInt8) (n:Nat),n<=l.foldl (fun n c=>b*n+dv c) n
 |[],n=>jU
 |c::l,n=>j8 (by have:=T0E n A;omega) (Ej b A l (b*n+dv c))
theorem GG(b:Nat)(D:b=10\/b=16):∀(l:List UInt8) (n:Nat),(oQ l).all (goodD b)=true->(oX l).foldl (fun n c=>b*n+dv c) n<=10000000->rnF b n (oQ l)=(oX l).foldl (fun n c=>b*n+dv c) n
 |[],n,_,_=>rfl
 |c::l,n,A,hs=>by
  unfold oQ at A
  rw[kZ,T0K,kB]at A
  have hd:=(Ek b D c A.1).1
  have h1:=Ej b ae (oX l) (b*n+dv (oZ c))
  have G:(oX l).foldl (fun n c=>b*n+dv c) (b*n+dv (oZ c))<=10000000:=hs
  show rnF b (min (b*n+sF (o8 c)) 10000000) (oQ l)=_
  rw[<-hd,Nat.min_eq_left (j8 h1 G)]
  exact GG b D l _ A.2 G
theorem FL(b:Nat)(D:b=10\/b=16):∀(l:List UInt8) (n:Nat),(oQ l).all (goodD b)=true->(oX l).foldl (fun n c=>b*n+dv c) n<(n+1)*b ^ l.length
 |[],n,_=>by show n<(n+1)*1;omega
 |c::l,n,A=>by
  unfold oQ at A
  rw[kZ,T0K,kB]at A
  obtain⟨hd,G⟩:=Ek b D c A.1
  have h1:=FL b D l (b*n+dv (oZ c)) A.2
  refine ke h1 ?_
  rw[kh,Nat.pow_succ,nj (b ^ l.length) b,<- Nat.mul_assoc]
  refine T0E _ ?_
  rw[Nat.add_mul,nj b n]
  omega
def Ao(v:Int)(r:RTok):Prop:=r.kind=110/\((v=65536/\r.great=true)\/(r.great=false/\(r.n:Int)=v/\v<=65535))
theorem Jy(b A:Nat)(C:List UInt8)(s:ByteArray)(d:List UInt8)(M:(b=10/\A=5)\/(b=16/\A=4))(O:∀c,C.contains (oZ c)=goodD b (o8 c)) :
  match (if oX d=[]\/((oX d).all fun c=>C.contains c)=false then none else if (oX d).length>A then some 65536 else some (min (rj b (oX d):Int) 65536):Option Int) with
  |some v=>Ao v (ua s b A (txt (oQ d)))
  |none=>ua s b A (txt (oQ d))=bangT:=by
 have G:b=10\/b=16:=ae
 have R:((oX d).all fun c=>C.contains c)=(oQ d).all (goodD b):=by
  unfold oX oQ;rw[List.all_map,List.all_map];congr 1;funext c;exact O c
 have ht:(txt (oQ d)).data.toList=oQ d:=by simp[txt]
 have hz:(txt (oQ d)).size=d.length:=by simp[txt,ByteArray.size,oQ]
 have hc:(oX d).length=d.length:=by simp[oX]
 have he:oX d=[]↔oQ d=[]:=by simp[oX,oQ]
 unfold ua;rw[ht,hz,R,hc];have hx:(oX d=[]\/(oQ d).all (goodD b)=false)↔(oQ d=[]\/(oQ d).all (goodD b)=false):=by rw[he]
 by_cases h1:oQ d=[]\/(oQ d).all (goodD b)=false
 ·rw[jT h1,jT (hx.2 h1)]
 rw[jS h1,jS (fun h=>h1 (hx.1 h))]
 have I:(oQ d).all (goodD b)=true:=by
  cases h:(oQ d).all (goodD b)
  ·exact absurd (.inr h) h1
  rfl
 by_cases h2:d.length>A
 ·rw[jT h2];exact⟨rfl,.inl ⟨rfl,cG⟩⟩
 rw[jS h2];have h3:=FL b G d 0 I
 have h4:b ^ d.length<=100000:=by
  rcases M with⟨rfl,rfl⟩|⟨rfl,rfl⟩
  ·exact j8 (od ae (show d.length<=5 by omega)) ah
  exact j8 (od ae (show d.length<=4 by omega)) ah
 have D:(oX d).foldl (fun n c=>b*n+dv c) 0=rj b (oX d):=rfl;rw[D]at h3;have h6:=GG b G d 0 I (by rw[D];omega);rw[D]at h6;have h7:decide (A<d.length)=false:=j9 ae;refine⟨rfl,?_⟩;show _\/((decide (A<d.length)||decide (65535<rnF b 0 (oQ d)))=false/\((rnF b 0 (oQ d):Nat):Int)=_/\_);rw[h6,h7];by_cases J:65535<rj b (oX d)
 ·refine .inl ⟨ae,?_⟩;show (false||decide (65535<rj b (oX d)))=true;rw[kj J];rfl
 exact .inr ⟨by rw[j9 J];rfl,ae,ae⟩
theorem Z5A:∀t:List UInt8,Lib.hasPrefix (oX t) [48,88]=decide (1<(txt (oQ t)).size/\(txt (oQ t)).extract 0 2=⟨#[48,120]⟩)
 |[]=>ah
 |[c]=>by
  have:(txt (oQ [c])).size=1:=rfl
  rw[this,j9 ae]
  simp[Lib.hasPrefix,oX,List.isPrefixOf]
 |c::d::l=>by
  have hs:1<(txt (oQ (c::d::l))).size:=by show 1<(oQ (c::d::l)).toArray.size;simp[oQ]
  have hx:(txt (oQ (c::d::l))).extract 0 2=txt [o8 c,o8 d]:=by
   apply mI
   apply mV
   simp[txt,oQ]
  rw[hx]
  have h2:(txt [o8 c,o8 d]=(⟨#[48,120]⟩:ByteArray))↔(oZ c=48/\oZ d=88):=by
   rw[Z3g,Z2H]
   constructor
   ·intro h
    have:[o8 c,o8 d]=[48,120]:=by have:=lp (fun x:ByteArray=>x.data.toList) h;simpa [txt]using this
    simpa using this
   rintro ⟨h1,h2⟩
   rw[h1,h2]
   rfl
  have h3:Lib.hasPrefix (oX (c::d::l)) [48,88]=decide (oZ c=48/\oZ d=88):=by
   simp[Lib.hasPrefix,oX,List.isPrefixOf]
   by_cases a:oZ c=48
   ·by_cases b:oZ d=88
    ·rw[a,b]
     rfl
    rw[j9 b,nG (fun h=>b h.symm)]
    simp
   rw[j9 a,nG (fun h=>a h.symm)]
   simp
  rw[h3]
  exact oe.2 (by rw[h2];exact⟨fun h=>⟨hs,h⟩,fun h=>h.2⟩)
theorem Z2C(t:List UInt8):match numOf (oX t) with
  |some v=>Ao v (qL (txt (oQ t)))
  |none=>qL (txt (oQ t))=bangT:=by
 have A:=Z5A t;unfold numOf qL uD yh;cases h:Lib.hasPrefix (oX t) [48,88] with
 |true=>
  rw[h]at A;rw[jT (mQ A.symm)];have e1:(oX t).drop 2=oX (t.drop 2):=by simp[oX,List.map_drop]
  have e2:(txt (oQ t)).extract 2 (txt (oQ t)).size=txt (oQ (t.drop 2)):=by
   apply mI;apply mV;simp[txt,oQ,ByteArray.size,List.map_drop];exact lL af
  simp only[e1,e2];exact Jy 16 4 _ _ (t.drop 2) (.inr ⟨rfl,rfl⟩) Z7N
 |false=>
  rw[h]at A;rw[jS (T0d A.symm)];exact Jy 10 5 _ _ t (.inl ⟨rfl,rfl⟩) Z3o
def rR(x:List UInt8):Prop:=x≠[]/\(∀c∈x,isW c=true)/\isD (x.headD 0)=false
def uq(t:Tok)(r:RTok):Prop:=
 (t.kind=0/\r.kind=0/\t.text=⟨#[]⟩)\/(t.kind=1/\r.kind=119/\r.great=false/\r.s=txt (oQ t.text.data.toList)/\rR t.text.data.toList) \/
 (t.kind=2/\Ao t.num r/\isD (t.text.data.toList.headD 0)=true) \/
 (t.kind=3/\r.great=false/\∃c,t.text=txt [c]/\isW c=false/\oZ c=c/\r.kind=(if c=0 then 33 else c))
def TL:List Tok->List RTok->Prop
 |[],[]=>True
 |t::a,r::b=>uq t r/\TL a b
 |_,_=>False
theorem Z63(l:List UInt8):pK l<=l.length:=(oj _).length_le
theorem Z9y{c:UInt8}{l:List UInt8}(h:isLW c=true):1<=pK (c::l):=by
 unfold pK;rw[lj,h];simp
theorem Z4H(l:List UInt8):∀c∈l.take (pK (oQ l)),isW (oZ c)=true:=by
 induction l with
 |nil=>intro c hc;simp at hc
 |cons d l ih=>
  intro c hc;unfold pK oQ at hc ih;rw[kZ,lj]at hc;cases h:isLW (o8 d) with
  |false=>rw[h]at hc;simp at hc
  |true=>
   rw[h]at hc;simp only[kh,List.take_succ_cons,kF,mC]at hc;rcases hc with rfl|hc
   ·rw[CV];exact h
   exact ih c hc
theorem Iq(l:List UInt8)(k:Nat):oX l=oX (l.take k)++oX (l.drop k):=by
 unfold oX;rw[<-l7,nB]
theorem Z60(l:List UInt8)(k:Nat):(oQ l).take k=oQ (l.take k):=by simp[oQ,List.map_take]
theorem Z9P(l:List UInt8)(k:Nat):(oQ l).drop k=oQ (l.drop k):=by simp[oQ,List.map_drop]
theorem Dm:∀(n m:Nat) (l:List UInt8),l.length<=n->l.length<=m->(59:UInt8) ∉ l->match pY m (txt (oX l)) with
  |some A=>TL A (rtL n (oQ l))
  |none=>bangT∈rtL n (oQ l)
 |0,m,l,h1,h2,h3=>by
  have:l=[]:=mv.1 ae
  subst this
  rw[show pY m (txt (oX []))=some [] from DV m _ rfl]
  exact trivial
 |n+1,m,[],h1,h2,h3=>by
  rw[show pY m (txt (oX []))=some [] from DV m _ rfl]
  exact trivial
 |n+1,0,c::r,h1,h2,h3=>by simp at h2
 |n+1,m+1,c::r,h1,h2,h3=>by
  simp only[kh]at h1 h2
  have V:¬(o8 c).toNat=59:=by
   intro e
   have hc:c≠59:=fun e=>h3 (by rw[e];exact oM)
   have:=sX (fun c=>decide ((o8 c).toNat=59->c=59)) aq c
   exact hc (mQ this e)
  have Z:(59:UInt8) ∉ r:=fun e=>h3 (mo _ e)
  have hR:rtL (n+1) (oQ (c::r))=(if (o8 c).toNat=32 then rtL n (oQ r)
   else if isD (o8 c)=true then qL (txt ((oQ (c::r)).take (pK (oQ (c::r)))))::rtL n ((oQ (c::r)).drop (pK (oQ (c::r))))
   else if isL (o8 c)=true then ⟨119,txt ((oQ (c::r)).take (pK (oQ (c::r)))),0,false⟩::rtL n ((oQ (c::r)).drop (pK (oQ (c::r))))
   else if (o8 c).toNat=0 then bangT::rtL n (oQ r)
   else ⟨o8 c,txt [o8 c],0,false⟩::rtL n (oQ r)):=by
    show rtL (n+1) (o8 c::oQ r)=_
    rw[rtL,jS V]
    rfl
  rw[hR,(BD c).2,Z6F c]
  cases hw:isW (oZ c) with
  |true=>
   have D:¬(o8 c).toNat=32:=by
    intro e
    have:=sX (fun c=>decide ((o8 c).toNat=32->isW (oZ c)=false)) aq c
    rw[mQ this e]at hw
    cases hw
   have I:¬(oZ c).toNat=32:=by
    intro e
    have:=sX (fun c=>decide ((oZ c).toNat=32->isW (oZ c)=false)) aq c
    rw[mQ this e]at hw
    cases hw
   obtain⟨k,hk⟩:=Zg0 (pK (oQ (c::r)))
   have Lv:1<=k:=by rw[<-hk];exact Z9y (by rw[<-CV];exact hw)
   have MO:k<=r.length+1:=by rw[<-hk];have:=Z63 (oQ (c::r));simpa [oQ]using this
   have J:∀x∈oX ((c::r).take k),isW x=true:=by
    intro x hx
    obtain⟨y,hy,rfl⟩:=lf.1 hx
    rw[<-hk]at hy
    exact Z4H (c::r) y hy
   obtain⟨j,rfl⟩:∃j,k=j+1:=⟨k-1,ae⟩
   have G:(oX ((c::r).take (j+1))).headD 0=oZ c:=rfl
   have M:pY (m+1) (txt (oX (c::r)))=(sq (oZ c) (txt (oX ((c::r).take (j+1))))).bind fun o=>(pY m (txt (oX ((c::r).drop (j+1))))).map (tf o ++ ·):=by
    rw[Iq (c::r) (j+1)]
    refine Jk m _ _ (by simp[oX]) ?_
    rw[<-Iq,Jq,hk]
    simp[oX]
    omega
   rw[M,hk,jS D,Z60,Z9P]
   have ih:=Dm n m ((c::r).drop (j+1)) ai ai (fun e=>h3 (List.mem_of_mem_drop e))
   unfold sq
   rw[jS I,(BD c).1]
   cases hd:isD c with
   |true=>
    rw[jT rfl,jT rfl]
    have hn:=Z2C ((c::r).take (j+1))
    rw[show (txt (oX ((c::r).take (j+1)))).data.toList=oX ((c::r).take (j+1)) from by simp[txt]]
    cases S:numOf (oX ((c::r).take (j+1))) with
    |none=>
     rw[S]at hn
     show bangT∈_
     rw[hn]
     exact oM
    |some v=>
     rw[S]at hn
     cases hs:pY m (txt (oX ((c::r).drop (j+1)))) with
     |none=>
      rw[hs]at ih
      exact mo _ ih
     |some A=>
      rw[hs]at ih
      exact⟨.inr (.inr (.inl ⟨rfl,hn,by show isD (((txt (oX ((c::r).take (j+1)))).data.toList).headD 0)=true;rw[show (txt (oX ((c::r).take (j+1)))).data.toList=oX ((c::r).take (j+1)) from by simp[txt],G,(BD c).1];exact hd⟩)),ih⟩
   |false=>
    rw[jS (show ¬(false=true) by simp),jT hw,jS (show ¬(false=true) by simp),jT (show (true&&!false)=true from rfl)]
    cases hs:pY m (txt (oX ((c::r).drop (j+1)))) with
    |none=>
     rw[hs]at ih
     exact mo _ ih
    |some A=>
     rw[hs]at ih
     refine⟨.inr (.inl ⟨rfl,rfl,rfl,?_,?_⟩),ih⟩
     ·show txt (oQ _)=txt (oQ (txt (oX _)).data.toList)
      rw[show (txt (oX ((c::r).take (j+1)))).data.toList=oX ((c::r).take (j+1)) from by simp[txt],Z6z]
     show rR (txt (oX _)).data.toList
     rw[show (txt (oX ((c::r).take (j+1)))).data.toList=oX ((c::r).take (j+1)) from by simp[txt]]
     exact⟨by simp[oX],J,by rw[G,(BD c).1];exact hd⟩
  |false=>
   obtain⟨e1,e2⟩:=Z8r c hw
   have U:isD c=false:=by
    have:=sX (fun c=>isW (oZ c)||!isD c) aq c
    rw[hw]at this
    simpa using this
   have M:pY (m+1) (txt (oX (c::r)))=(sq c (txt [c])).bind fun o=>(pY m (txt (oX r))).map (tf o ++ ·):=by
    have:=Jk m [oZ c] (oX r) af (by unfold runN;rw[mU,lj,hw];rfl)
    rw[e1]at this
    rw[show txt (oX (c::r))=txt ([c]++oX r) from by simp[oX,e1]]
    exact this
   have O:isW c=false:=by rw[<-e1];exact hw
   rw[M,e2,U]
   have ih:=Dm n m r ae ae Z
   unfold sq
   rw[U,O]
   by_cases D:c.toNat=32
   ·rw[jT D,jT D]
    cases hs:pY m (txt (oX r)) with
    |none=>rw[hs]at ih;exact ih
    |some A=>rw[hs]at ih;exact ih
   rw[jS D,jS D,jS af,jS af,jS af,jS af]
   by_cases h0:c.toNat=0
   ·have R:c=0:=lA.1 h0
    rw[jT h0]
    cases hs:pY m (txt (oX r)) with
    |none=>rw[hs]at ih;exact mo _ ih
    |some A=>rw[hs]at ih;exact⟨.inr (.inr (.inr ⟨rfl,rfl,c,rfl,O,e1,by rw[jT R];rfl⟩)),ih⟩
   have R:¬c=0:=fun e=>h0 (by rw[e];rfl)
   rw[jS h0]
   cases hs:pY m (txt (oX r)) with
   |none=>rw[hs]at ih;exact mo _ ih
   |some A=>rw[hs]at ih;exact⟨.inr (.inr (.inr ⟨rfl,rfl,c,rfl,O,e1,by rw[jS R]⟩)),ih⟩
theorem vy{t:Tok}{r:RTok}(h:uq t r)(c:UInt8)(hc:isW c=false/\c≠0/\c≠33/\oZ c=c):t.text=txt [c]↔r.kind=c:=by
 obtain⟨hw,h0,D,A⟩:=hc;rcases h with⟨_,k,e⟩|⟨_,k,_,_,e⟩|⟨_,k,e⟩|⟨_,_,d,e,hd,I,k⟩
 ·rw[e,k];constructor
  ·intro x;have:=lp ByteArray.size x;simp[txt,ByteArray.size]at this
  exact fun x=>absurd x.symm h0
 ·rw[k];constructor
  ·intro x;have:=e.2.1 c (by rw[x];simp[txt]);rw[hw]at this;cases this
  intro x;rw[<-x]at A;exact absurd A ah
 ·rw[k.1];constructor
  ·intro x;rw[x]at e;have G:isD c=true:=e;unfold isW at hw;rw[G]at hw;simp at hw
  intro x;rw[<-x]at A;exact absurd A ah
 rw[e,k];constructor
 ·intro x;have:[d]=[c]:=by have:=lp (fun x:ByteArray=>x.data.toList) x;simpa [txt]using this
  have:d=c:=by simpa using this
  subst this;rw[jS h0]
 intro x;by_cases z:d=0
 ·rw[jT z]at x;exact absurd x.symm D
 rw[jS z]at x;rw[x]
def resAll:List (List UInt8):=vK++((List.range 8).map (fun k=>[114,UInt8.ofNat (48+k)])++pa.map fun e=>oQ e.2.2.1)
def capAll:List (List UInt8):=dirL.map (·.1)++(pU.map (·.1)++(rowsL.map (fun r=>qk r.2.2)++[[80,67]]))
theorem Jd(l:List UInt8):qV l=true↔l∈(List.range 8).map (fun k=>[114,UInt8.ofNat (48+k)]):=by
 constructor
 ·intro h;unfold qV at h;simp only[kB,kI]at h;obtain⟨h1,h2,h3,h4⟩:=h;match l,h1 with
  |[a,b],_=>
   have A:a=114:=lA.1 h2;have D:48<=b.toNat:=h3;have G:b.toNat<=55:=h4;refine lf.2 ⟨b.toNat-48,lM.2 ae,?_⟩;rw[A,show 48+(b.toNat-48)=b.toNat by omega];simp
 intro h;obtain⟨k,hk,rfl⟩:=lf.1 h;have:∀k,k<8->qV [114,UInt8.ofNat (48+k)]=true:=ah;exact this k (lM.1 hk)
theorem Z6L(l:List UInt8):qt l=true↔l∈resAll:=by
 unfold qt resAll;rw[mM,mM,kW,kW,Jd,T0h,mj];refine or_congr Iff.rfl (or_congr Iff.rfl ?_);rw[lf];exact⟨fun⟨e,h1,h2⟩=>⟨e,h1,aO⟩,fun⟨e,h1,h2⟩=>⟨e,h1,aO⟩⟩
theorem CE{α:Type}(L:List (List UInt8×α))(l:List UInt8):((L.find? fun x=>x.1==l).map (·.2)).isSome=true↔l∈L.map (·.1):=by
 rw[Option.isSome_map,List.find?_isSome,lf];exact MbT
theorem Z2w(l:List UInt8):pd l=false↔l∈capAll:=by
 unfold capAll;rw[kW,kW,kW,<- CE dirL,<- CE pU]
 have h3:l∈rowsL.map (fun r=>qk r.2.2)↔ri l=true:=by
  unfold ri;rw[mj,lf];exact MbT
 rw[h3,lu];show pd l=false↔((px l).isSome=true\/(pH l).isSome=true\/ri l=true\/l=[80,67]);unfold pd;by_cases h4:l=[80,67]
 ·subst h4;simp
 cases (px l).isSome <;> cases (pH l).isSome <;> cases ri l <;> simp[h4]
theorem Z7x:(capAll.all fun c=>!(c.all isW)||resAll.contains (oQ c))=true:=aq
theorem Z7t:(resAll.all fun r=>capAll.contains (oX r))=true:=aq
theorem vT{x:List UInt8}(h:∀c∈x,isW c=true):oX (oQ x)=x:=by
 unfold oX oQ;rw[nO];conv=>rhs;rw[<-List.map_id x]
 refine oD fun c hc=>?_
 have:=sX (fun c=>!isW c||oZ (o8 c)==c) aq c;rw[h c hc]at this;simpa using this
theorem D6{x:List UInt8}(h:rR x):qt (oQ x) = !pd x:=by
 have hx:pd x=false↔qt (oQ x)=true:=by
  rw[Z2w,Z6L];constructor
  ·intro A;have:=kx.1 Z7x x A;have hw:x.all isW=true:=kx.2 h.2.1;rw[hw]at this;simpa using this
  intro A;have:=kx.1 Z7t (oQ x) A;rw[vT h.2.1]at this;exact T0h.1 this
 cases h1:pd x <;> cases h2:qt (oQ x)
 ·rw[hx.1 h1]at h2;cases h2
 ·rfl
 ·rfl
 rw[hx.2 h2]at h1;cases h1
def vI(t:Trm)(r:RTerm):Prop:=t.minus=r.minus /\
 ((t.here=false/\t.num=0/\r.t.kind=119/\r.t.great=false/\r.t.s=txt (oQ t.name.data.toList)/\rR t.name.data.toList) \/
  (t.name=⟨#[]⟩/\t.here=true/\t.num=0/\r.t.kind=36/\r.t.great=false)\/(t.name=⟨#[]⟩/\t.here=false/\Ao t.num r.t))
def EL:List Trm->List RTerm->Prop
 |[],[]=>True
 |t::a,r::b=>vI t r/\EL a b
 |_,_=>False
theorem EL.snoc:∀ {a:List Trm} {b:List RTerm} {t:Trm} {r:RTerm},EL a b->vI t r->EL (a++[t]) (b++[r])
 |[],[],_,_,_,h=>⟨h,trivial⟩
 |_::_,_::_,_,_,⟨h1,h2⟩,h=>⟨h1,h2.snoc h⟩
 |[],_::_,_,_,h,_=>h.elim
 |_::_,[],_,_,h,_=>h.elim
theorem s36:isW 36=false/\(36:UInt8)≠0/\(36:UInt8)≠33/\oZ 36=36:=ah
theorem s43:isW 43=false/\(43:UInt8)≠0/\(43:UInt8)≠33/\oZ 43=43:=ah
theorem s45:isW 45=false/\(45:UInt8)≠0/\(45:UInt8)≠33/\oZ 45=45:=ah
theorem s44:isW 44=false/\(44:UInt8)≠0/\(44:UInt8)≠33/\oZ 44=44:=ah
theorem s58:isW 58=false/\(58:UInt8)≠0/\(58:UInt8)≠33/\oZ 58=58:=ah
theorem s35:isW 35=false/\(35:UInt8)≠0/\(35:UInt8)≠33/\oZ 35=35:=ah
theorem s47:isW 47=false/\(47:UInt8)≠0/\(47:UInt8)≠33/\oZ 47=47:=ah
theorem s64:isW 64=false/\(64:UInt8)≠0/\(64:UInt8)≠33/\oZ 64=64:=ah
theorem zA(l:List UInt8):(txt l).data.toList=l:=by simp[txt]
theorem AD{t:Tok}{r:RTok}(h:uq t r)(l:List Tok):match pZ (t::l) with
  |some x=>qx r=true/\x.2=l/\∀m,vI {x.1 with minus:=m} ⟨m,r⟩
  |none=>qx r=false:=by
 have h36:=vy h 36 s36;rw[pZ];by_cases hs:t.text=(⟨#[36]⟩:ByteArray)
 ·rw[jT hs];have hk:=h36.1 hs
  have M:r.great=false:=by
   rcases h with⟨_,k,_⟩|⟨_,k,_⟩|⟨_,k,_⟩|⟨_,g,_⟩
   ·rw[k]at hk;cases hk
   ·rw[k]at hk;cases hk
   ·rw[k.1]at hk;cases hk
   exact g
  exact⟨by unfold qx;rw[jS (by rw[hk];decide),hk];rfl,rfl,fun m=>⟨rfl,.inr (.inl ⟨rfl,rfl,rfl,hk,M⟩)⟩⟩
 rw[jS hs];have hk:¬r.kind=36:=fun e=>hs (h36.2 e)
 rcases h with⟨A,k,_⟩|⟨A,k,g,s,hw⟩|⟨A,k,_⟩|⟨A,g,d,e,hd,D,k⟩
 ·rw[jS ae,jS ae];unfold qx;rw[k];rfl
 ·rw[jS ae];have G:qt r.s.data.toList = !pd t.text.data.toList:=by rw[s,zA];exact D6 hw
  cases I:pd t.text.data.toList with
  |true=>
   rw[jT ⟨A,rfl⟩];exact⟨by unfold qx;rw[jT k,G,I];rfl,rfl,fun m=>⟨rfl,.inl ⟨rfl,rfl,k,g,s,hw⟩⟩⟩
  |false=>
   rw[jS af];unfold qx;rw[jT k,G,I];rfl
 ·rw[jT A];exact⟨by unfold qx;rw[jS (by rw[k.1];decide),k.1];rfl,rfl,fun m=>⟨rfl,.inr (.inr ⟨rfl,rfl,k⟩)⟩⟩
 rw[jS ae,jS ae]
 have J:¬r.kind=119/\¬r.kind=110:=by
  rw[k];by_cases z:d=0
  ·rw[jT z];decide
  rw[jS z];constructor
  ·intro q;subst q;exact absurd D ah
  intro q;subst q;exact absurd D ah
 unfold qx;rw[jS J.1];simp[J.2,hk]
def TLe:List Tok->List RTok->Prop
 |[],_=>False
 |_::_,[]=>False
 |t::a,r::b=>uq t r/\(if t.kind=0 then a=[]/\b=[] else TLe a b)
theorem TLe.cons{A:List Tok}{T:List RTok}(h:TLe A T):∃t a r b,A=t::a/\T=r::b/\uq t r/\(¬t.kind=0->TLe a b)/\(t.kind=0->a=[]/\b=[]):=by
 match A,T,h with
 |[],_,h=>exact h.elim
 |_::_,[],h=>exact h.elim
 |t::a,r::b,h=>
  obtain⟨h1,h2⟩:=h;refine⟨t,a,r,b,rfl,rfl,h1,fun e=>?_,fun e=>?_⟩
  ·rw[jS e]at h2;exact h2
  rw[jT e]at h2;exact h2
theorem ry{t:Tok}{r:RTok}(h:uq t r):t.kind=0↔r.kind=0:=by
 rcases h with⟨A,k,_⟩|⟨A,k,_⟩|⟨A,k,_⟩|⟨A,_,d,_,_,D,k⟩
 ·rw[A,k];simp
 ·rw[A,k];simp
 ·rw[A,k.1];simp
 rw[A,k];by_cases z:d=0
 ·rw[jT z];simp
 rw[jS z];simp[z]
theorem JB{t:Tok}{l:List Tok}{r:RTok}(h:uq t r){x:Trm×List Tok}(hx:pZ (t::l)=some x):¬t.kind=0:=by
 intro e;have h1:=AD h l;rw[hx]at h1;have hk:=(ry h).1 e;have:=h1.1;unfold qx at this;rw[hk]at this;simp at this
theorem IC:∀(f:Nat) (J:List Tok) (T:List RTok) (acc:List Trm) (O:List RTerm) (t:Tok) (r:RTok) (m:Bool),J.length<=f->uq t r->TLe J T->EL acc O->∀x,pZ (t::J)=some x ->
  match qu f (acc++[{x.1 with minus:=m}]) J with
  |some y=>(oR (r::T) m).2.2=true/\EL y.1 (O++(oR (r::T) m).1)/\TLe y.2 ((r::T).drop (oR (r::T) m).2.1)
  |none=>(oR (r::T) m).2.2=false
 |0,J,T,acc,O,t,r,m,hf,ht,S,V,x,hx=>by
  obtain⟨u,a,v,b,rfl,rfl,_⟩:=S.cons
  simp at hf
 |f+1,J,T,acc,O,t,r,m,hf,ht,S,V,x,hx=>by
  have h1:=AD ht J
  rw[hx]at h1
  have Z:=S
  obtain⟨u,a,v,b,rfl,rfl,A,Kk,Py⟩:=S.cons
  have TA:=vy A 45 s45
  have RZ:=vy A 43 s43
  have hR:oR (r::v::b) m=(if v.kind=43 then (⟨m,r⟩::(oR b false).1,(oR b false).2.1+2,(oR b false).2.2)
   else if v.kind=45 then (⟨m,r⟩::(oR b true).1,(oR b true).2.1+2,(oR b true).2.2) else ([⟨m,r⟩],1,true)):=by
   rw[oR,jT h1.1]
  have Ko:∀D:Bool,(¬u.kind=0)->∀q,oR (r::v::b) m=(⟨m,r⟩::(oR b D).1,(oR b D).2.1+2,(oR b D).2.2)->q=(pZ a).bind (fun M=>qu f (acc++[{x.1 with minus:=m}]++[{M.1 with minus:=D}]) M.2) ->
    match q with
    |some y=>(oR (r::v::b) m).2.2=true/\EL y.1 (O++(oR (r::v::b) m).1)/\TLe y.2 ((r::v::b).drop (oR (r::v::b) m).2.1)
    |none=>(oR (r::v::b) m).2.2=false:=by
   intro D R q Mq Me
   obtain⟨t2,a2,r2,b2,rfl,rfl,RB,LW,R7⟩:=(Kk R).cons
   rw[Me,Mq]
   have h2:=AD RB a2
   cases U:pZ (t2::a2) with
   |none=>
    rw[U]at h2
    show (oR (r2::b2) D).2.2=false
    cases b2 <;> · unfold oR;rw[h2];rfl
   |some M=>
    rw[U]at h2
    have MO:=JB RB U
    have ih:=IC f a2 b2 (acc++[{x.1 with minus:=m}]) (O++[⟨m,r⟩]) t2 r2 D bM RB (LW MO) (V.snoc (h1.2.2 m)) M U
    show match qu f (acc++[{x.1 with minus:=m}]++[{M.1 with minus:=D}]) M.2 with
     |some y=>_
     |none=>_
    rw[h2.2.1]
    cases hp:qu f (acc++[{x.1 with minus:=m}]++[{M.1 with minus:=D}]) a2 with
    |none=>rw[hp]at ih;exact ih
    |some y=>
     rw[hp]at ih
     refine⟨ih.1,?_,ih.2.2⟩
     have:=ih.2.1
     rw[mS]at this
     exact this
  rw[qu]
  by_cases G:u.text=(⟨#[45]⟩:ByteArray)
  ·rw[jT G]
   have k:=TA.1 G
   have R:¬u.kind=0:=fun e=>by rw[(ry A).1 e]at k;cases k
   refine Ko true R _ ?_ rfl
   rw[hR,jS cT,jT k]
  rw[jS G]
  have Vz2:¬v.kind=45:=fun e=>G (TA.2 e)
  by_cases I:u.text=(⟨#[43]⟩:ByteArray)
  ·rw[jT I]
   have k:=RZ.1 I
   have R:¬u.kind=0:=fun e=>by rw[(ry A).1 e]at k;cases k
   refine Ko false R _ ?_ rfl
   rw[hR,jT k]
  rw[jS I]
  have Vz3:¬v.kind=43:=fun e=>I (RZ.2 e)
  rw[hR,jS Vz3,jS Vz2]
  exact⟨rfl,V.snoc (h1.2.2 m),Z⟩
theorem Z7A{t:Tok}{l:List Tok}{x:Trm×List Tok}(h:pZ (t::l)=some x):x.1 = {x.1 with minus:=false}:=by
 rw[pZ]at h;by_cases h1:t.text=(⟨#[36]⟩:ByteArray)
 ·rw[jT h1]at h;cases h;rfl
 rw[jS h1]at h;by_cases h2:t.kind=2
 ·rw[jT h2]at h;cases h;rfl
 rw[jS h2]at h;by_cases h3:t.kind=1/\pd t.text.data.toList=true
 ·rw[jT h3]at h;cases h;rfl
 rw[jS h3]at h;cases h
theorem BF{A:List Tok}{T:List RTok}(h:TLe A T):match pQ A with
  |some y=>(oR T false).2.2=true/\EL y.1 (oR T false).1/\TLe y.2 (T.drop (oR T false).2.1)
  |none=>(oR T false).2.2=false:=by
 obtain⟨t,a,r,b,rfl,rfl,ht,D,G⟩:=h.cons;have h1:=AD ht a;unfold pQ;cases hx:pZ (t::a) with
 |none=>
  rw[hx]at h1;show (oR (r::b) false).2.2=false;cases b <;> · unfold oR;rw[h1];rfl
 |some x=>
  rw[hx]at h1;have hk:=JB ht hx;have ih:=IC a.length a b [] [] t r false jU ht (D hk) trivial x hx
  show match qu x.2.length [x.1] x.2 with
   |some y=>_
   |none=>_
  rw[h1.2.1];rw[mu,<- Z7A hx]at ih;exact ih
def p9:Nat->ByteArray
 |0=>⟨#[65]⟩|1=>⟨#[65,66]⟩|2=>⟨#[67]⟩|3=>⟨#[68,80,84,82]⟩|4=>⟨#[64,65,43,68,80,84,82]⟩|5=>⟨#[64,65,43,80,67]⟩|6=>⟨#[64,68,80,84,82]⟩|7=>⟨#[64,82]⟩|_=>⟨#[82]⟩
def OpM(x:Nat×List Trm)(o:ROp):Prop:=
 (x.1<=8/\o.fixed=p9 x.1/\o.sign=0/\o.e=[]/\x.2=[rv o.number]/\o.number<=7/\(x.1<=6->o.number=0)/\(x.1=7->o.number<=1)) \/
 (x.1=9/\o.fixed=⟨#[]⟩/\o.sign=35/\EL x.2 o.e)\/(x.1=13/\o.fixed=⟨#[]⟩/\o.sign=47/\EL x.2 o.e)\/(x.1=11/\o.fixed=⟨#[]⟩/\o.sign=0/\EL x.2 o.e)
theorem AG{x c:List UInt8}(h:∀a∈x,isW a=true)(hc:c.all isW=true):txt (oQ x)=txt (oQ c)↔x=c:=by
 constructor
 ·intro e;have:oQ x=oQ c:=by have:=lp (fun x:ByteArray=>x.data.toList) e;simpa [txt]using this
  rw[<-vT h,this,vT (kx.1 hc)]
 rintro rfl;rfl
theorem AR{l:List UInt8}(h:l ∉ pU.map (·.1)):pH l=none:=by
 have:=(not_congr (CE pU l)).2 h;unfold pH;cases e:((pU.find? fun x=>x.1==l).map (·.2)) with
 |none=>rfl
 |some y=>rw[e]at this;simp at this
theorem Z31{x:List UInt8}(h:∀c∈x,isW c=true):pH (64::x)=if x=[68,80,84,82] then some (6,0) else if x=[82,48] then some (7,0) else if x=[82,49] then some (7,1) else none:=by
 by_cases h1:x=[68,80,84,82]
 ·subst h1;decide
 rw[jS h1];by_cases h2:x=[82,48]
 ·subst h2;decide
 rw[jS h2];by_cases h3:x=[82,49]
 ·subst h3;decide
 rw[jS h3];refine AR ?_;intro A;simp[pU,h1,h2,h3]at A;rcases A with rfl|rfl
 ·exact absurd (h 43 af) ah
 exact absurd (h 43 af) ah
theorem Aa{x y L:List UInt8}(h:∀c∈x,isW c=true)(e:x++43::y=L):x=L.takeWhile isW/\y=L.drop ((L.takeWhile isW).length+1):=by
 have h1:L.takeWhile isW=x:=by
  rw[<-e,T0I h,lj,show isW 43=false from by decide];simp
 refine⟨h1.symm,?_⟩;rw[h1,<- e];simp
theorem Ev{x y:List UInt8}(h:∀c∈x,isW c=true):pH (64::(x++43::y))=if x=[65]/\y=[68,80,84,82] then some (4,0) else if x=[65]/\y=[80,67] then some (5,0) else none:=by
 by_cases h1:x=[65]/\y=[68,80,84,82]
 ·obtain⟨rfl,rfl⟩:=h1;decide
 rw[jS h1];by_cases h2:x=[65]/\y=[80,67]
 ·obtain⟨rfl,rfl⟩:=h2;decide
 rw[jS h2];refine AR ?_;intro A;simp[pU]at A;rcases A with e|e|e|e|e
 ·obtain⟨a,b⟩:=Aa h e;exact h1 ⟨a,b⟩
 ·obtain⟨a,b⟩:=Aa h e;exact h2 ⟨a,b⟩
 ·obtain⟨a,b⟩:=Aa h e;have a':x=[68,80,84,82]:=a;exact McG
 ·obtain⟨a,b⟩:=Aa h e;have a':x=[82,48]:=a;exact McG
 obtain⟨a,b⟩:=Aa h e;have a':x=[82,49]:=a;exact McG
theorem Z0R{x:List UInt8}(h:∀c∈x,isW c=true):(x=[65]/\pH x=some (0,0))\/(x=[65,66]/\pH x=some (1,0))\/(x=[67]/\pH x=some (2,0))\/(x=[68,80,84,82]/\pH x=some (3,0))\/(∃k,k<8/\x=[82,UInt8.ofNat (48+k)]/\pH x=some (8,k))\/(x≠[65]/\x≠[65,66]/\x≠[67]/\x≠[68,80,84,82]/\(∀k,k<8->x≠[82,UInt8.ofNat (48+k)])/\pH x=none):=by
 by_cases h1:x=[65]
 ·subst h1;exact .inl ⟨rfl,ah⟩
 by_cases h2:x=[65,66]
 ·subst h2;exact .inr (.inl ⟨rfl,ah⟩)
 by_cases h3:x=[67]
 ·subst h3;exact .inr (.inr (.inl ⟨rfl,ah⟩))
 by_cases h4:x=[68,80,84,82]
 ·subst h4;exact .inr (.inr (.inr (.inl ⟨rfl,ah⟩)))
 by_cases G:∃k,k<8/\x=[82,UInt8.ofNat (48+k)]
 ·obtain⟨k,hk,rfl⟩:=G;have:∀k,k<8->pH [82,UInt8.ofNat (48+k)]=some (8,k):=ah;exact .inr (.inr (.inr (.inr (.inl ⟨k,hk,rfl,this k hk⟩))))
 have D:∀k,k<8->x≠[82,UInt8.ofNat (48+k)]:=fun k hk e=>G ⟨k,hk,e⟩
 refine .inr (.inr (.inr (.inr (.inr ⟨h1,h2,h3,h4,D,AR ?_⟩))));intro I;have g0:=D 0 ae;have g1:=D 1 ae;have g2:=D 2 ae;have g3:=D 3 ae;have g4:=D 4 ae;have J:=D 5 ae;have M:=D 6 ae;have O:=D 7 ae;have A:∀l,x≠64::l:=fun l e=>by rw[e]at h;exact absurd (h 64 af) ah
 simp only[pU,kZ,mZ,kF,lE,lF]at I;rcases I with e|e|e|e|e|e|e|e|e|e|e|e|e|e|e|e|e
 ·exact h1 e
 ·exact h2 e
 ·exact h3 e
 ·exact h4 e
 ·exact A _ e
 ·exact A _ e
 ·exact A _ e
 ·exact A _ e
 ·exact A _ e
 ·exact g0 e
 ·exact g1 e
 ·exact g2 e
 ·exact g3 e
 ·exact g4 e
 ·exact J e
 ·exact M e
 exact O e
theorem xQ{t:Tok}{r:RTok}(h:uq t r)(c:List UInt8)(hc:c.all isW=true):pr r (txt (oQ c))↔(t.kind=1/\t.text.data.toList=c/\rR t.text.data.toList):=by
 unfold pr;rcases h with⟨A,k,_⟩|⟨A,k,_,s,hw⟩|⟨A,k,_⟩|⟨A,_,d,_,_,SC,k⟩
 ·rw[A,k];simp
 ·rw[A,k,s,AG hw.2.1 hc];simp[hw]
 ·rw[A,k.1];simp
 rw[A,k];have:¬(if d=0 then (33:UInt8) else d)=119:=MbU;simp[this]
theorem xy{t:Tok}{r:RTok}(h:uq t r)(hk:t.kind=1):r.kind=119/\r.great=false/\r.s=txt (oQ t.text.data.toList)/\rR t.text.data.toList:=by
 rcases h with⟨A,_⟩|⟨A,k,g,s,hw⟩|⟨A,_⟩|⟨A,_⟩
 ·omega
 ·exact⟨k,g,s,hw⟩
 ·omega
 omega
def AA(T:List RTok):Prop:=kAt T 0≠0/\kAt T 0≠44
theorem Js(t u:Tok)(l:List Tok):pAt (t::u::l)=(if t.kind=1 then
   (if u.text=⟨#[43]⟩ then
    (match l with
    |[]=>none
    | v::l3=>if v.kind=1 then ru ((⟨#[64]⟩++t.text)++(⟨#[43]⟩++v.text)) l3 else none)
   else ru (⟨#[64]⟩++t.text) (u::l))
  else none):=by cases l <;> rfl
theorem Z1U{ts:List Tok}{T:List RTok}(h:TLe ts T):match pAt ts with
  |some y=>(qJ T).2.2.2=true/\OpM y.1 ⟨(qJ T).1,(qJ T).2.1,0,[]⟩/\TLe y.2 (T.drop (qJ T).2.2.1)
  |none=>(qJ T).2.2.2=false\/AA (T.drop (qJ T).2.2.1):=by
 obtain⟨t,a,r,b,rfl,rfl,ht,Kk,Py⟩:=h.cons;have J:pr r ⟨#[100,112,116,114]⟩↔(t.kind=1/\t.text.data.toList=[68,80,84,82]/\rR t.text.data.toList):=xQ ht [68,80,84,82] ah;have M:pr r ⟨#[114,48]⟩↔(t.kind=1/\t.text.data.toList=[82,48]/\rR t.text.data.toList):=xQ ht [82,48] ah;have O:pr r ⟨#[114,49]⟩↔(t.kind=1/\t.text.data.toList=[82,49]/\rR t.text.data.toList):=xQ ht [82,49] ah;have V:pr r ⟨#[97]⟩↔(t.kind=1/\t.text.data.toList=[65]/\rR t.text.data.toList):=xQ ht [65] ah;by_cases hk:t.kind=1
 ·obtain⟨u,a2,v,b2,rfl,rfl,hu,LW,R7⟩:=(Kk ae).cons;have hw:=(xy ht hk).2.2.2;have RZ:=vy hu 43 s43;have Z:(r::v::b2).getD 0 endR=r:=rfl;have e1:(r::v::b2).getD 1 endR=v:=rfl;rw[Js,jT hk];unfold qJ;rw[Z,e1];by_cases R:u.text=(⟨#[43]⟩:ByteArray)
  ·rw[jT R];have kv:v.kind=43:=RZ.1 R;have KE:AA ((r::v::b2).drop 1):=⟨by show v.kind≠0;rw[kv];decide,by show v.kind≠44;rw[kv];decide⟩;have Nd:¬u.kind=0:=fun e=>by rw[(ry hu).1 e]at kv;cases kv
   obtain⟨q,a3,z,b3,rfl,rfl,hq,N9,Vz4⟩:=(LW Nd).cons;have e2:(r::v::z::b3).getD 2 endR=z:=rfl;have G:pr z ⟨#[100,112,116,114]⟩↔(q.kind=1/\q.text.data.toList=[68,80,84,82]/\rR q.text.data.toList):=xQ hq [68,80,84,82] ah;have I:pr z ⟨#[112,99]⟩↔(q.kind=1/\q.text.data.toList=[80,67]/\rR q.text.data.toList):=xQ hq [80,67] ah;rw[e2];by_cases D:t.text.data.toList=[65]
   ·rw[jS (fun e=>by have:=(J.1 e).2.1;rw[D]at this;cases this),jS (fun e=>by have:=(M.1 e).2.1;rw[D]at this;cases this),jS (fun e=>by have:=(O.1 e).2.1;rw[D]at this;cases this),jT (V.2 ⟨hk,D,hw⟩),jT kv]
    show match (if q.kind=1 then ru ((⟨#[64]⟩++t.text)++(⟨#[43]⟩++q.text)) a3 else none) with
     |some y=>_
     |none=>_
    by_cases A:q.kind=1
    ·have L8:=(xy hq A).2.2.2;rw[jT A];have hf:=Ev (x:=t.text.data.toList) (y:=q.text.data.toList) hw.2.1;have hd:((⟨#[64]⟩++t.text)++(⟨#[43]⟩++q.text):ByteArray).data.toList=64::(t.text.data.toList++43::q.text.data.toList):=af;unfold ru;rw[hd,hf];by_cases q1:q.text.data.toList=[68,80,84,82]
     ·rw[jT ⟨D,q1⟩,jT (G.2 ⟨A,q1,L8⟩)];exact MbN
     rw[jS (fun e=>q1 e.2),jS (fun e=>q1 (G.1 e).2.1)];by_cases q2:q.text.data.toList=[80,67]
     ·rw[jT ⟨D,q2⟩,jT (I.2 ⟨A,q2,L8⟩)];exact MbN
     rw[jS (fun e=>q2 e.2),jS (fun e=>q2 (I.1 e).2.1)];exact .inl rfl
    rw[jS A,jS (fun e=>A (G.1 e).1),jS (fun e=>A (I.1 e).1)];exact .inl rfl
   have S:(match (if q.kind=1 then ru ((⟨#[64]⟩++t.text)++(⟨#[43]⟩++q.text)) a3 else none:Option ((Nat×List Trm)×List Tok)) with
    |some y=>False
    | none=>True):=by
    by_cases A:q.kind=1
    ·rw[jT A];have hf:=Ev (x:=t.text.data.toList) (y:=q.text.data.toList) hw.2.1;have hd:((⟨#[64]⟩++t.text)++(⟨#[43]⟩++q.text):ByteArray).data.toList=64::(t.text.data.toList++43::q.text.data.toList):=af;unfold ru;rw[hd,hf,jS (fun e=>D e.1),jS (fun e=>D e.1)];trivial
    rw[jS A];trivial
   show match (if q.kind=1 then ru ((⟨#[64]⟩++t.text)++(⟨#[43]⟩++q.text)) a3 else none) with
    |some y=>_
    |none=>_
   cases hz:(if q.kind=1 then ru ((⟨#[64]⟩++t.text)++(⟨#[43]⟩++q.text)) a3 else none:Option ((Nat×List Trm)×List Tok)) with
   |some y=>rw[hz]at S;exact S.elim
   |none=>
    show _\/_;by_cases c1:pr r ⟨#[100,112,116,114]⟩
    ·rw[jT c1];exact .inr KE
    rw[jS c1];by_cases c2:pr r ⟨#[114,48]⟩
    ·rw[jT c2];exact .inr KE
    rw[jS c2];by_cases c3:pr r ⟨#[114,49]⟩
    ·rw[jT c3];exact .inr KE
    rw[jS c3,jS (fun e=>D (V.1 e).2.1)];exact .inl rfl
  rw[jS R];have kv:¬v.kind=43:=fun e=>R (RZ.2 e)
  have hf:=Z31 (x:=t.text.data.toList) hw.2.1;have hd:(⟨#[64]⟩++t.text:ByteArray).data.toList=64::t.text.data.toList:=af;unfold ru;rw[hd,hf];by_cases q1:t.text.data.toList=[68,80,84,82]
  ·rw[jT q1,jT (J.2 ⟨hk,q1,hw⟩)];exact MbO
  rw[jS q1,jS (fun e=>q1 (J.1 e).2.1)];by_cases q2:t.text.data.toList=[82,48]
  ·rw[jT q2,jT (M.2 ⟨hk,q2,hw⟩)];exact MbO
  rw[jS q2,jS (fun e=>q2 (M.1 e).2.1)];by_cases U:t.text.data.toList=[82,49]
  ·rw[jT U,jT (O.2 ⟨hk,U,hw⟩)];exact⟨rfl,.inl ⟨lh rfl,rfl,rfl,rfl,rfl,ah,fun h=>absurd h (by show ¬7<=6;decide),fun _=>lh rfl⟩,Kk ae⟩
  rw[jS U,jS (fun e=>U (O.1 e).2.1)];refine .inl ?_;by_cases q4:pr r ⟨#[97]⟩
  ·rw[jT q4,jS kv]
  rw[jS q4]
 have S:pAt (t::a)=none:=by
  cases a with
  |nil=>rfl
  |cons u l=>rw[Js,jS hk]
 rw[S];refine .inl ?_;unfold qJ;have Z:(r::b).getD 0 endR=r:=rfl;rw[Z,jS (fun e=>hk (J.1 e).1),jS (fun e=>hk (M.1 e).1),jS (fun e=>hk (O.1 e).1),jS (fun e=>hk (V.1 e).1)]
