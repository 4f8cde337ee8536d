import Derived.Test.YthokdbcpkmcieaaGreatDoorH42
import Derived.Test.YthokdbcpkmcieaaGreatDoorH44
import Derived.Test.YthokdbcpkmcieaaGreatDoorH38
set_option maxRecDepth 200000
set_option maxHeartbeats 16000000
namespace Go.Proofs.YthokdbcpkmcieaaGreatDoor
open RowKit Proofs.Tryz
def tL:Nat->List UInt8->List ByteArray
 |0,_=>[]
 |f+1,l=>match l.dropWhile (fun c=>decide (c≠10)) with
  |[]=>if l=[] then [] else [⟨l.toArray⟩]
  |_::r=>⟨(l.takeWhile fun c=>decide (c≠10)).toArray⟩::tL f r
def sJ(s:ByteArray):List ByteArray:=tL (s.size+1) s.data.toList
def rdR:Nat->RAsm->List ByteArray->Except (Nat×Nat) (List RLine×RAsm)
 |_,a,[]=>.ok ([],a)
 |i,a,t::l=>match qE (rlT t) with
  |none=>.error (2,i+1)
  | some x=>if (oT a x).1=0 then (match rdR (i+1) (oT a x).2 l with
    |.error e=>.error e
    | .ok r=>.ok (x::r.1,r.2)) else .error ((oT a x).1,i+1)
def flR:Nat->RAsm->List RLine->Except (Nat×Nat) RAsm
 |_,a,[]=>.ok a
 |i,a,x::l=>if (pz a x).1=0 then flR (i+1) (pz a x).2 l else .error ((pz a x).1,i+1)
def xR(ls:List ByteArray):Except (Nat×Nat) RAsm:=match rdR 0 rasm0 ls with
 |.error e=>.error e
 |.ok r=>flR 0 {r.2 with pl:=0} r.1
def tz(s:ByteArray):Except (Nat×Nat) RAsm:=if 2000<s.size then .error (1,0) else xR (sJ s)
def td(b:RAsm):List UInt8:=(List.range 1024).map fun i=>if b.laid.getD i false=true then b.bytes.getD i 0 else 255
theorem Is:∀(n:Nat) (s:ByteArray),s.size<n->∃e,(e=[]\/e=[⟨#[]⟩])/\rM s=tL n s.data.toList++e
 |0,s,h=>ae
 |n+1,s,h=>by
  unfold tL
  cases hd:s.data.toList.dropWhile (fun c=>decide (c≠10)) with
  |nil=>
   have D:AW s:=by
    intro G
    have:∀l:List UInt8,(10:UInt8)∈l->l.dropWhile (fun c=>decide (c≠10))≠[]:=by
     intro l
     induction l with
     |nil=>intro h;cases h
     |cons c l ih=>
      intro h
      rw[T0k]
      by_cases e:c=10
      ·rw[jS (by simp[e])];simp
      rw[jT (by simp[e])]
      exact ih (by rcases kF.1 h with q|q;exact absurd q.symm e;exact q)
    exact this _ G hd
   rw[Z3I D]
   by_cases e:s.data.toList=[]
   ·rw[jT e]
    refine⟨[⟨#[]⟩],.inr rfl,?_⟩
    have:s=⟨#[]⟩:=by
     cases s
     simp at e
     rw[e]
    rw[this]
    rfl
   rw[jS e]
   exact⟨[],.inl rfl,rfl⟩
  |cons c r=>
   have A:=T1h (p:=fun c=>decide (c≠(10:UInt8))) (l:=s.data.toList)
   rw[hd]at A
   have hc:c=10:=by
    have:=List.head?_dropWhile_not (fun c=>decide (c≠(10:UInt8))) s.data.toList
    rw[hd]at this
    simpa using this
   subst hc
   obtain⟨t,ht⟩:=Zg0 (s.data.toList.takeWhile (fun c=>decide (c≠10)))
   rw[ht]at A
   have D:AW ⟨t.toArray⟩:=by
    show (10:UInt8) ∉ t
    rw[<-ht]
    intro G
    have:=List.all_takeWhile (p:=fun c=>decide (c≠(10:UInt8))) (l:=s.data.toList)
    have:=kx.1 this 10 G
    simp at this
   have hs:s=⟨t.toArray⟩++(NL++⟨r.toArray⟩):=by
    have:s.data.toList=((⟨t.toArray⟩:ByteArray)++(NL++⟨r.toArray⟩)).data.toList:=by
     rw[Ak,Ak,<- A]
     rfl
    have h2:s.data=((⟨t.toArray⟩:ByteArray)++(NL++⟨r.toArray⟩)).data:=T0j.1 this
    cases s
    simp only at h2
    rw[h2]
   have I:(⟨r.toArray⟩:ByteArray).size<n:=by
    have:=lp List.length A
    rw[zu]at h
    simp at this h
    show r.toArray.size<n
    simp
    omega
   obtain⟨e,he,J⟩:=Is n ⟨r.toArray⟩ I
   refine⟨e,he,?_⟩
   rw[hs,Z0o D,J]
   have e2:((⟨t.toArray⟩:ByteArray)++(NL++⟨r.toArray⟩)).data.toList=s.data.toList:=by rw[<-hs]
   show _=(⟨(((⟨t.toArray⟩:ByteArray)++(NL++⟨r.toArray⟩)).data.toList.takeWhile _).toArray⟩::tL n r)++e
   rw[e2,ht]
   rfl
theorem Z8Y{a b:Asm}{lb:ByteArray}{x:Stm}(h:py a lb x=.ok b):b.laid=qm a.laid a.pl (pE x.task x.vals.length x.ins.size):=by
 have hl:(if lb=⟨#[]⟩ then a else a.put lb (a.pl:Int)).laid=a.laid:=by split <;> rfl
 unfold py at h;dsimp only at h;generalize (if lb=⟨#[]⟩ then a else a.put lb (a.pl:Int))=c at h hl;split at h
 ·cases h
 split at h
 ·cases h
 split at h
 ·cases h
 split at h
 ·rename_i ht
  exact McL
 split at h
 ·rename_i ht
  exact McL
 split at h
 ·rename_i ht
  exact McL
 split at h
 ·cases h
 cases h;rfl
theorem I4(l:List Bool)(p:Nat):∀(n i:Nat),p+n<=l.length->(qm l p n).getD i false=(l.getD i false||rZ p n i)
 |0,i,_=>by
  have:rZ p 0 i=false:=by unfold rZ;simp
  rw[this,nI]
  rfl
 |n+1,i,h=>by
  have ih:=I4 l p n i ae
  have D:∀k,(qm l p k).length=l.length:=by
   intro k
   induction k with
   |zero=>rfl
   |succ k A=>unfold qm;rw[mJ];exact A
  unfold qm
  rw[jZ,mz,D]
  by_cases c:p+n=i
  ·rw[jT c,jT ae]
   have:rZ p (n+1) i=true:=by unfold rZ;simp;omega
   rw[this,Bool.or_true]
   rfl
  rw[jS c,<- jZ,ih]
  have:rZ p (n+1) i=rZ p n i:=by unfold rZ;congr 1;simp;omega
  rw[this]
theorem Jj(l:List Bool)(p:Nat):∀n,(qm l p n).length=l.length
 |0=>rfl
 |n+1=>by unfold qm;rw[mJ];exact Jj l p n
def RelL:Nat->RAsm->List St->List RLine->RAsm->Prop
 |_,A,[],[],b=>A=b
 |i,A,st::sts,x::xs,b=>(st.line=i+1/\st.pl=A.pl/\sx (st.lb,st.x) x/\pB st.x.vals=false/\(st.x.task=6->uw st.x.ins st.x.vals.length)/\st.pl+pE st.x.task st.x.vals.length st.x.ins.size<=1024/\(oT A x).1=0)/\RelL (i+1) (oT A x).2 sts xs b
 |_,_,_,_,_=>False
theorem RelL.L:∀ {i:Nat} {A:RAsm} {sts:List St} {xs:List RLine} {b:RAsm},RelL i A sts xs b->∃M,b.L=A.L++M
 |_,_,[],[],_,h=>⟨[],by rw[<-show _=_ from h,kX]⟩
 |_,A,_::_,x::_,_,h=>by
  obtain⟨M,D⟩:=RelL.L h.2
  obtain⟨G,h2⟩:=Cz A x
  obtain⟨I,h3⟩:=JP A x
  exact⟨I++(G++M),by rw[D,h2,h3];simp⟩
 |_,_,[],_::_,_,h=>h.elim
 |_,_,_::_,[],_,h=>h.elim
def vp(sts:List St)(i:Nat):Bool:=sts.any fun st=>rZ st.pl (pE st.x.task st.x.vals.length st.x.ins.size) i
theorem SM.ok{a:Asm}{b:RAsm}(h:SM a b):a.Ok:=⟨h.fit,by have:=h.le;omega,h.big⟩
theorem Fm:∀(ls:List ByteArray) (i:Nat) (a:Asm) (b:RAsm),SM a b->a.laid.length=1024->match rdL i a ls with
  |.error e=>∃m,rdR i b ls=.error (m,e.2)/\(m:Int)=e.1
  |.ok r=>∃q,rdR i b ls=.ok q/\SM r.2 q.2/\RelL i b r.1 q.1 q.2/\r.2.laid.length=1024/\∀k,r.2.laid.getD k false=(a.laid.getD k false||vp r.1 k)
 |[],i,a,b,h,D=>⟨([],b),rfl,h,rfl,D,fun k=>by simp[vp]⟩
 |t::ls,i,a,b,h,D=>by
  have G:=Fy t
  rw[rdL,rdR]
  cases hq:sd t with
  |none=>
   rw[hq]at G
   have R:qE (rlT t)=none:=G
   rw[R]
   exact⟨2,rfl,rfl⟩
  |some q=>
   rw[hq]at G
   obtain⟨r,S,M⟩:=G
   have U:qE (rlT t)=some r:=S
   rw[U]
   have hf:=Z8d h (lb:=q.1) (x:=q.2) (r:=r) M
   show match (match py a q.1 q.2 with
    |.error k=>.error (k,i+1)
    |.ok b=>match rdL (i+1) b ls with
     |.error e=>.error e
     | .ok r=>.ok (⟨i+1,a.pl,q.1,q.2⟩::r.1,r.2):Except (Int×Nat) (List St×Asm)) with
    | .error e=>∃m,(if (oT b r).1=0 then (match rdR (i+1) (oT b r).2 ls with
      |.error e=>.error e
      | .ok s=>.ok (r::s.1,s.2)) else .error ((oT b r).1,i+1):Except (Nat×Nat) (List RLine×RAsm))=.error (m,e.2)/\(m:Int)=e.1
    | .ok r2=>∃q2,(if (oT b r).1=0 then (match rdR (i+1) (oT b r).2 ls with
      |.error e=>.error e
      | .ok s=>.ok (r::s.1,s.2)) else .error ((oT b r).1,i+1):Except (Nat×Nat) (List RLine×RAsm))=.ok q2/\SM r2.2 q2.2/\RelL i b r2.1 q2.1 q2.2/\r2.2.laid.length=1024/\∀k,r2.2.laid.getD k false=(a.laid.getD k false||vp r2.1 k)
   cases hs:py a q.1 q.2 with
   |error k=>
    rw[hs]at hf
    have A:((oT b r).1:Int)=k/\k≠0:=hf
    rw[jS (fun e=>A.2 (by rw[<-A.1,e];rfl))]
    exact⟨_,rfl,A.1⟩
   |ok a2=>
    rw[hs]at hf
    have A:(oT b r).1=0/\SM a2 (oT b r).2:=hf
    rw[jT A.1]
    have J:=J2 hs h.ok
    have O:=Z8Y hs
    have ih:=Fm ls (i+1) a2 (oT b r).2 A.2 (by rw[O,Jj];exact D)
    cases I:rdL (i+1) a2 ls with
    |error e=>
     rw[I]at ih
     obtain⟨m,h1,h2⟩:=ih
     rw[h1]
     simp only[I]
     exact⟨m,rfl,h2⟩
    |ok r2=>
     rw[I]at ih
     obtain⟨q2,h1,h2,h3,h4,V⟩:=ih
     rw[h1]
     simp only[I]
     refine⟨(r::q2.1,q2.2),rfl,h2,⟨⟨rfl,h.pl,M,J.2.1,fun e=>(CG hq).ins e,J.2.2,A.1⟩,h3⟩,h4,fun k=>?_⟩
     show r2.2.laid.getD k false=_
     rw[V k,O,I4 _ _ _ _ (by rw[D];exact J.2.2)]
     unfold vp
     rw[lN,nJ]
def TokN(T:List RTok):Prop:=∀t∈T,t.n<=10000000
theorem Cd:∀(f:Nat) (l:List UInt8),TokN (rtL f l)
 |0,_=>fun t h=>dT
 |_+1,[]=>fun t h=>dT
 |f+1,c::l=>fun t h=>by
  rw[rtL]at h
  repeat' split at h
  all_goals first| (simp at h;done)|exact Cd f _ t h|(rcases kF.1 h with rfl|h;(first| exact j4|(unfold qL ua;split;exact j4;exact BB _ _ _ j4));exact Cd f _ t h)
theorem Z6t(s:ByteArray):TokN (rlT s):=fun t h=>by
 unfold rlT at h
 rcases kW.1 h with h|h
 ·exact Cd _ _ t h
 rw[lu.1 h];exact j4
theorem TokN.drop{T:List RTok}(h:TokN T)(k:Nat):TokN (T.drop k):=fun t ht=>h t (List.mem_of_mem_drop ht)
def ExB(n:Nat)(e:List RTerm):Prop:=e.length<=n/\∀t∈e,t.t.n<=10000000
theorem Ax:∀(k:Nat) (T:List RTok) (m:Bool),T.length<=k->TokN T->ExB T.length (oR T m).1
 |0,T,m,hk,h=>by
  have:T=[]:=mv.1 ae
  subst this
  exact⟨jU,fun t ht=>by simp[oR]at ht⟩
 |k+1,[],m,_,_=>⟨jU,fun t ht=>by simp[oR]at ht⟩
 |k+1,[t],m,_,h=>by
  rw[oR]
  split
  ·exact⟨jU,fun x hx=>by rw[lu.1 hx];exact h t af⟩
  exact⟨j4,fun x hx=>by cases hx⟩
 |k+1,t::u::r,m,hk,h=>by
  have A:TokN r:=fun y hy=>h y (by simp[hy])
  have ht:t.n<=10000000:=h t af
  have ih:=fun m=>Ax k r m cM A
  rw[oR]
  split
  ·split
   ·exact⟨by have:=(ih false).1;simp;omega,fun x hx=>by rcases kF.1 hx with rfl|hx;exact ht;exact(ih false).2 x hx⟩
   split
   ·exact⟨by have:=(ih true).1;simp;omega,fun x hx=>by rcases kF.1 hx with rfl|hx;exact ht;exact(ih true).2 x hx⟩
   exact⟨af,fun x hx=>by rw[lu.1 hx];exact ht⟩
  exact⟨j4,fun x hx=>by cases hx⟩
theorem ExB.mono{n m:Nat}{e:List RTerm}(h:ExB n e)(A:n<=m):ExB m e:=⟨j8 h.1 A,h.2⟩
theorem Du(n:Nat):ExB n []:=⟨j4,fun t h=>by cases h⟩
theorem JT(T:List RTok)(h:TokN T):ExB T.length (o7 T).1.e:=by
 have A:∀k,ExB T.length (oR (T.drop k) false).1:=fun k=>(Ax _ _ _ jU (h.drop k)).mono af
 unfold o7;split
 ·exact Du _
 split
 ·exact A 1
 split
 ·exact A 1
 split
 ·unfold xg;split
  ·exact Du _
  split
  ·exact Du _
  exact A 0
 exact A 0
def OpB(N:Nat)(os:List ROp):Prop:=∀o∈os,ExB N o.e
theorem FN{T:List RTok}{o:ROp}(h:TokN T)(ho:qq T=some o):ExB T.length o.e:=by
 unfold qq at ho;split at ho
 ·cases ho;exact Ax _ _ _ jU h
 cases ho
theorem Ft:∀(f:Nat) (T:List RTok) (os:List ROp),TokN T->rDb f T=some os->OpB T.length os/\os.length<=f
 |0,T,os,_,h=>by cases h
 |f+1,T,os,A,h=>by
  rw[rDb]at h
  have hx:ExB T.length (sL (oR T false).1).e:=Ax _ _ _ jU A
  split at h
  ·split at h
   ·obtain⟨D,h1,rfl⟩:=kJ.1 h
    obtain⟨a,b⟩:=Ft f _ D (A.drop _) h1
    refine⟨fun o ho=>?_,ai⟩
    rcases kF.1 ho with rfl|ho
    ·exact hx
    exact(a o ho).mono af
   split at h
   ·cases h
    exact⟨fun o ho=>by rw[lu.1 ho];exact hx,af⟩
   cases h
  cases h
theorem Dg:∀(f:Nat) (m:Bool) (T:List RTok) (os:List ROp),TokN T->qI f m T=some os->OpB T.length os/\os.length<=f
 |0,_,T,os,_,h=>by cases h
 |f+1,m,T,os,A,h=>by
  rw[qI]at h
  split at h
  ·cases h
   exact⟨fun o ho=>(by cases ho),j4⟩
  split at h
  ·split at h
   ·split at h
    ·obtain⟨D,h1,rfl⟩:=kJ.1 h
     obtain⟨a,b⟩:=Dg f _ _ D (A.drop _) h1
     refine⟨fun o ho=>?_,ai⟩
     rcases kF.1 ho with rfl|ho
     ·exact(JT _ (A.drop 1)).mono af
     exact(a o ho).mono af
    cases h
   cases h
  split at h
  ·obtain⟨D,h1,rfl⟩:=kJ.1 h
   obtain⟨a,b⟩:=Dg f _ _ D (A.drop _) h1
   refine⟨fun o ho=>?_,ai⟩
   rcases kF.1 ho with rfl|ho
   ·exact JT _ A
   exact(a o ho).mono af
  cases h
def LnP(N:Nat)(x:RLine):Prop:=OpB N x.ops/\x.ops.length<=N/\LnS x/\(x.what=wINS->x.ops.length=x.ent.2.2.2.length)
theorem GQ{D:ByteArray}{T:List RTok}{x:RLine}(A:TokN T)(h1:1<=T.length)(h:qF D T=some x):LnP T.length x:=by
 unfold qF at h;split at h
 ·cases h;exact⟨fun o ho=>(by cases ho),j4,.inl rfl,fun e=>absurd e (show ¬(⟨#[]⟩:ByteArray)=wINS by decide)⟩
 split at h
 ·cases h
 split at h
 ·split at h
  ·obtain⟨o,ho,rfl⟩:=kJ.1 h;exact⟨fun y hy=>by rw[lu.1 hy];exact(FN (A.drop 2) ho).mono af,h1,.inr (.inl ⟨.inr (.inr rfl),rfl⟩),fun e=>absurd e (show ¬(⟨#[101,113,117]⟩:ByteArray)=wINS by decide)⟩
  cases h
 split at h
 ·rename_i hw
  obtain⟨o,ho,rfl⟩:=kJ.1 h;refine⟨fun y hy=>by rw[lu.1 hy];exact(FN (A.drop 1) ho).mono af,h1,.inr (.inl ⟨?_,rfl⟩),fun e=>?_⟩
  ·rcases hw with hw|hw
   ·exact .inl hw
   exact .inr (.inl hw)
  exact MbH
 split at h
 ·rename_i hw
  obtain⟨os,ho,rfl⟩:=kJ.1 h;obtain⟨a,b⟩:=Ft _ _ _ (A.drop 1) ho;refine⟨fun y hy=>(a y hy).mono af,b,?_,fun e=>?_⟩
  ·rcases hw with hw|hw
   ·exact .inr (.inr (.inl hw))
   exact .inr (.inr (.inr (.inl hw)))
  exact MbH
 obtain⟨os,ho,h2⟩:=l9.1 h;obtain⟨e,he,rfl⟩:=kJ.1 h2;obtain⟨a,b⟩:=Dg _ _ _ _ (A.drop 1) ho;have hf:=nw he;unfold rU at hf;simp only[kB,kI]at hf;exact⟨fun y hy=>(a y hy).mono af,b,.inr (.inr (.inr (.inr ⟨rfl,mE he⟩))),fun _=>hf.2.1.symm⟩
theorem LnP.mono{N M:Nat}{x:RLine}(h:LnP N x)(A:N<=M):LnP M x:=⟨fun o ho=>(h.1 o ho).mono A,j8 h.2.1 A,h.2.2⟩
theorem Z9r{s:ByteArray}{x:RLine}(hs:s.size<=2000)(h:qE (rlT s)=some x):LnB x/\LnS x/\(x.what=wINS->x.ops.length=x.ent.2.2.2.length):=by
 obtain⟨l1,l2⟩:=Gw s hs;have D:=Z6t s
 have A:LnP (rlT s).length x:=by
  unfold qE at h;split at h
  ·split at h
   ·cases h
   rename_i G _
   have I:=Z0b s;have n1:=qB (T:=rlT s) (i:=0) ae (by show kAt (rlT s) 0≠0;rw[G.1];decide) I;have J:=qB (T:=rlT s) (i:=1) n1 (by show kAt (rlT s) 1≠0;rw[G.2];decide) I;exact(GQ (D.drop 2) ai h).mono af
  exact GQ D l2 h
 exact⟨⟨by have:=A.2.1;omega,fun o ho=>⟨by have:=(A.1 o ho).1;omega,(A.1 o ho).2⟩⟩,A.2.2.1,A.2.2.2⟩
theorem En(s:ByteArray)(f k:Nat):s.extract f k=⟨((s.data.toList.drop f).take (k-f)).toArray⟩:=by
 apply mI;rw[oh];apply mV;rw[oF]
theorem F7:∀(l:List UInt8),(∀c∈l,c≠10)->l.takeWhile (fun c=>decide (c≠10))=l/\l.dropWhile (fun c=>decide (c≠10))=[]
 |[],_=>⟨rfl,rfl⟩
 |c::l,h=>by
  have hc:decide (c≠10)=true:=by simpa using h c af
  obtain⟨a,b⟩:=F7 l (fun d hd=>h d cF)
  rw[lj,T0k,hc,jT rfl,jT rfl,a,b]
  exact⟨rfl,rfl⟩
theorem J6:∀(l:List UInt8) (j:Nat),(∀c∈l.take j,c≠10)->l[j]?=some 10->l.takeWhile (fun c=>decide (c≠10))=l.take j/\l.dropWhile (fun c=>decide (c≠10))=10::l.drop (j+1)
 |[],j,_,h=>aR
 |c::l,0,_,h=>by
  have hc:c=10:=av
  subst hc
  rw[lj,T0k,jS ah,jS ah]
  exact⟨rfl,rfl⟩
 |c::l,j+1,hn,h=>by
  have hc:decide (c≠10)=true:=by simpa using hn c af
  obtain⟨a,b⟩:=J6 l j (fun d hd=>hn d cF) av
  rw[lj,T0k,hc,jT rfl,jT rfl,a,b]
  exact⟨rfl,rfl⟩
theorem Z7g{s:ByteArray}{f k F:Nat}(hf:f<=k)(A:∀j,f<=j->j<k->s.data.toList[j]?≠some 10)(hk:s.data.toList[k]?=some 10):tL (F+1) (s.data.toList.drop f)=s.extract f k::tL F (s.data.toList.drop (k+1)):=by
 have G:k<s.data.toList.length:=by
  rcases lQ k s.data.toList.length with h|h
  ·exact h
  rw[mg h]at hk;cases hk
 obtain⟨a,b⟩:=J6 (s.data.toList.drop f) (k-f) (fun c hc=>by
  obtain⟨i,hi,rfl⟩:=mP hc;have D:i<k-f:=by simp at hi;omega
  rw[T0t,T0u];have:=A (f+i) ae ae;rw[jX ae]at this;exact fun e=>this (by rw[e])) (by rw[mK,show f+(k-f)=k by omega];exact hk)
 rw[tL,a,b,En,lV,show f+(k-f+1)=k+1 by omega]
theorem Z8Q{s:ByteArray}{f F:Nat}(D:∀j,f<=j->j<s.size->s.data.toList[j]?≠some 10):tL (F+1) (s.data.toList.drop f)=if f<s.size then [s.extract f s.size] else []:=by
 have G:s.size=s.data.toList.length:=aK
 obtain⟨a,b⟩:=F7 (s.data.toList.drop f) (fun c hc=>by
  obtain⟨i,hi,rfl⟩:=mP hc;have A:f+i<s.data.toList.length:=by simp at hi⊢;omega
  rw[T0u];have:=D (f+i) ae ae;rw[jX A]at this;exact fun e=>this (by rw[e]))
 rw[tL,b];by_cases c:f<s.size
 ·rw[jT c,En];show (if s.data.toList.drop f=[] then _ else _)=_;rw[jS (by rw[List.drop_eq_nil_iff];omega),lL af]
 rw[jS c];show (if s.data.toList.drop f=[] then _ else _)=_;rw[jT (by rw[List.drop_eq_nil_iff];omega)]
def xJ(l:List ByteArray):List Value:=l.map fun x=>.string x
theorem GS(l:List ByteArray)(x:ByteArray):xJ (l++[x])=xJ l++[.string x]:=by simp[xJ]
theorem Tryz.infoStrL:(Tryz.prog.info? 9).map (fun i=>(i.zero,i.size,i.bytes))=some (some (.string ⟨#[]⟩),1,16):=aj
theorem Z3U(s:ByteArray)(hs:s.size<=2000)(w:World):Calls prog 47 #[.string s] w fun e w'=>∃G I,e=.returned (.slice G (sJ s).length I)/\w'.ownsRow w.heap.size 9 1 (.slice G (sJ s).length I) (sJ s).length (xJ (sJ s))/\Below w.heap.size w w':=by
 obtain⟨OF,hi,KJ,KC,Ky⟩:=kQ Tryz.infoStrL;obtain⟨R,hR⟩:=Zg0 (sJ s);rw[hR];have HR:=oP hR;obtain⟨N,hN⟩:=Zg0 s.size;have HN:=oP hN;have Wj2:s.data.toList.length=N:=by rw[<-hN,kE];rfl
 have Yz:=oP Wj2;have RY:(N:Int)<=2000:=ae;have VQ4:(s.size:Int)=(N:Int):=ae;clear hR Wj2;go_enter func47,ntmps47;go_wp2_with fail;go_loopw [3,4,5] (fun v x y wr=>∃(acc:List ByteArray) (f k F:Nat) (G:Option Addr) (I:Nat),v=.slice G acc.length I/\x=.int .i64 (f:Int)/\y=.int .i64 (k:Int)/\f<=k/\k<=N/\acc.length<=f/\N-f<F/\acc++tL F (s.data.toList.drop f)=R/\(∀j,f<=j->j<k->s.data.toList[j]?≠some 10)/\wr.ownsRow w.heap.size 9 1 (.slice G acc.length I) acc.length (xJ acc)/\Below w.heap.size w wr) (fun _ _ y _=>N-(intOf y).toNat)
 case atStart=>exact⟨[],0,0,s.size+1,none,0,rfl,rfl,rfl,jU,j4,jU,br,HR.o,fun j h1 h2=>absurd h2 (lH _),kA,jV⟩
 case round=>
  obtain⟨acc,f,k,F,G,I,rfl,rfl,rfl,Vz,Vk6,Vk7,hF,Tg,K0,Ke,hB⟩:=hrel;have M:=oP Ke;have HB:=oP hB;have LM:=oP K0;have O:=oP Tg;have A:=oP hF;obtain⟨m,hm⟩:=Zg0 acc.length;have S:=oP hm;rw[hm]at M Vk7⊢;have Va6:m<=2000:=ae;clear Ke hB K0 Tg hF hm;by_cases Kf:k<N
  ·have QR:(k:Int)<(N:Int):=by omega
   have QJ:k<s.size:=aA;have WO5:IntKind.i64.wrap ((k:Int)+1)=(k:Int)+1:=ar;obtain⟨c,hc⟩:=Zg0 (s[k])
   have hg:s.data.toList[k]?=some c:=by
    rw[jX (by rw[Yz.o];exact Kf),<- hc];rfl
   have HG:=oP hg;have J:=oP (And.intro Kf (And.intro Vz Vk7));by_cases Z:c=10
   ·have b1:((c.toNat:Int)==10)=true:=by rw[Z];rfl
    have XO:(f:Int)<=(k:Int):=ae;have VG1:(k:Int)<=(s.size:Int):=ae
    have HX:Hid ((acc++[s.extract f k])++tL (F-1) (s.data.toList.drop (k+1))=R):=by
     show _=R;rw[<-O.o];have hF:=A.o;have:=Z7g (F:=F-1) Vz LM.o (by rw[HG.o,Z]);rw[show F-1+1=F by omega]at this;rw[this];simp
    clear Z hg Kf;go_wp2_with (first| (at_builtin;refine kH _ rfl _ _ 22 rfl w.heap.size 9 OF _ 1 16 underlying22 hi KJ KC Ky rfl ah _ _ _ rfl (M.o.alloc _) ⟨wr.heap.size,0,none⟩ 1 1 [.string (s.extract f k)] rfl rfl l8 ax ak ae bJ ?_;intro v2 wn U Kg _ _;obtain⟨a',c',ev⟩:=rP U;subst ev));have MP:Hid (Below w.heap.size w wn):=(HB.o.alloc HB.o.size _).grown Kg bJ (fun k hk=>(M.o.lt k hk).1);have LV:=oP U;clear U Kg;go_wp2_with fail;go_roundw
    case rel=>
     have hl:(acc++[s.extract f k]).length=m+1:=by rw[kq,S.o];rfl
     exact⟨acc++[s.extract f k],k+1,k+1,F-1,a',c',by rw[hl],ao,ao,jU,J.o.1,by rw[hl];have:=J.o;omega,by have h1:=A.o;have h2:=J.o;omega,HX.o,fun j h1 h2=>absurd h1 ae,by rw[hl,GS];exact LV.o,MP.o⟩
    case measure=>have:=J.o.1;simp[intOf];omega
   have b1:((c.toNat:Int)==10)=false:=by have:¬c.toNat=10:=fun e=>Z (lA.1 e);simp;omega
   have WT0:=oP Z;clear Z hg Kf;go_wp2_with fail;go_roundw
   case rel=>
    exact⟨acc,f,k+1,F,G,I,by rw[S.o],rfl,ao,by have:=J.o;omega,J.o.1,by rw[S.o];exact J.o.2.2,A.o,O.o,fun j h1 h2=>by
     rcases lQ j k with h|h
     ·exact LM.o j h1 h
     ·have e:j=k:=by omega
      rw[e,HG.o];exact fun q=>WT0.o (kp q),by rw[S.o];exact M.o,HB.o⟩
   case measure=>have:=J.o.1;simp[intOf];omega
  have LD:k=N:=ae;have QR:¬(k:Int)<(N:Int):=ae;have Ww:=Z8Q (s:=s) (f:=f) (F:=F-1) (fun j h1 h2=>LM.o j h1 (by rw[HN.o]at h2;omega));rw[show F-1+1=F from by have:=A.o;omega,HN.o]at Ww;have V:=O.o;rw[Ww]at V;by_cases D:f<N
  ·rw[jT D]at V;have UT:=oP V;have XO:(f:Int)<(N:Int):=ae;have WA4:(f:Int)<=(s.size:Int):=ae;clear Ww V Kf LD D Vz Vk6;go_wp2_with (first| (at_builtin;refine kH _ rfl _ _ 22 rfl w.heap.size 9 OF _ 1 16 underlying22 hi KJ KC Ky rfl ah _ _ _ rfl (M.o.alloc _) ⟨wr.heap.size,0,none⟩ 1 1 [.string (s.extract f N)] rfl rfl l8 ax ak ae bJ ?_;intro v2 wn U Kg _ _;obtain⟨a',c',ev⟩:=rP U;subst ev));have MP:Hid (Below w.heap.size w wn):=(HB.o.alloc HB.o.size _).grown Kg bJ (fun k hk=>(M.o.lt k hk).1);have LV:=oP U;clear U Kg;go_wp2_with fail;go_ret;have hl:R.length=m+1:=by rw[<-UT.o,kq,S.o];rfl
   exact⟨a',c',by rw[hl];rfl,by rw[hl,<- UT.o,GS];exact LV.o,MP.o⟩
  rw[jS D,kX]at V;have UT:=oP V;have XO:¬(f:Int)<(N:Int):=ae;clear Ww V Kf LD D Vz Vk6;go_wp2_with fail;go_ret;exact⟨G,I,by rw[<-UT.o,S.o];rfl,by rw[<-UT.o,S.o];exact M.o,HB.o⟩
def byC(l:List UInt8):List Value:=l.map fun x=>.int .u8 (x.toNat:Int)
def boC(l:List Bool):List Value:=l.map fun x=>.bool x
theorem Z3b(l:List UInt8)(x:UInt8):byC (l++[x])=byC l++[.int .u8 (x.toNat:Int)]:=by simp[byC]
theorem Fx(l:List Bool)(x:Bool):boC (l++[x])=boC l++[.bool x]:=by simp[boC]
theorem Z4P{w:World}{base mb:Nat}{e:TypeId}{s n:Nat}{v:Value}{xs:List Value}(h:w.ownsRow base e s v n xs)(D:mb<base):v.ownBlock=none\/v.ownBlock≠some mb:=by
 cases A:v.ownBlock with
 |none=>exact .inl rfl
 |some j=>exact .inr (fun q=>by have:=(h.lt j A).1;cases q;omega)
theorem wH{w:World}{mb:Nat}{x y z:Value}(h:w.heap[mb]?=some (.cells #[x,y,z] 35)):w.cell? ⟨mb,0,none⟩=some x/\w.cell? ⟨mb,1,none⟩=some y/\w.cell? ⟨mb,2,none⟩=some z/\∀j,w.frozen? ⟨mb,j,none⟩=false:=
 ⟨kM _ _ 0 _ _ _ h,kM _ _ 1 _ _ _ h,kM _ _ 2 _ _ _ h,fun j=>kT j _ _ h⟩
structure IMX(w:World)(mb base kb kl ks:Nat)(vb vl vs:Value)(B:List UInt8)(L S:List Bool):Prop where
 c:w.heap[mb]?=some (.cells #[vb,vl,vs] 35)
 rb:w.ownsRow base 5 1 vb kb (byC B)
 rl:w.ownsRow base 4 1 vl kl (boC L)
 rs:w.ownsRow base 4 1 vs ks (boC S)
 ne:vl.ownBlock=none\/vl.ownBlock≠vs.ownBlock
 lt:mb<base/\base<=w.heap.size
theorem uh{w W:World}{base n:Nat}{e:TypeId}{v:Value}{xs:List Value}(h:w.ownsRow base e 1 v n xs)(A:Below w.heap.size w W):W.ownsRow base e 1 v n xs:=by
 have D:w.grownBy W none:=⟨A.os,A.tape,A.output,A.size,fun j G _=>A.block j G⟩;exact h.kept D (by cases v.ownBlock <;> simp)
theorem DJ{w W A:World}{mb base n:Nat}{e:TypeId}{v:Value}{xs:List Value}(h:w.ownsRow base e 1 v n xs)(I:mb<base/\base<=w.heap.size)(D:Below w.heap.size w W)(G:W.grownBy A v.ownBlock):A.heap[mb]?=w.heap[mb]?:=
 (G.block mb (ke ae D.size) (fun q=>by have:=(h.lt mb q.symm).1;omega)).trans (D.block mb ae)
theorem qC{w:World}{mb base n j:Nat}{e:TypeId}{v u:Value}{xs:List Value}(h:w.ownsRow base e 1 v n xs)(A:mb<base):(w.setCell ⟨mb,j,none⟩ u).ownsRow base e 1 v n xs:=h.kept (pV w mb j u) (Z4P h A)
theorem IMX.addB{w W A:World}{mb base D kl ks:Nat}{G I vs v2:Value}{B:List UInt8}{L S:List Bool}{x:UInt8}(h:IMX w mb base D kl ks G I vs B L S)(hb:Below w.heap.size w W)(hn:A.ownsRow base 5 1 v2 (D+1) (byC B++[.int .u8 (x.toNat:Int)]))(hg:W.grownBy A G.ownBlock):A.heap[mb]?=w.heap[mb]?/\IMX (A.setCell ⟨mb,0,none⟩ v2) mb base (D+1) kl ks v2 I vs (B++[x]) L S:=by
 have J:=DJ h.rb h.lt hb hg;have O:=uh h.rb hb;have M:∀ {n:Nat} {v:Value} {xs:List Value},w.ownsRow base 4 1 v n xs->A.ownsRow base 4 1 v n xs:=fun ho=>(uh ho hb).kept hg (zF (uh ho hb) O ah)
 refine⟨J,lq A mb 0 #[G,I,vs] _ v2 (J.trans h.c),?_,qC (M h.rl) h.lt.1,qC (M h.rs) h.lt.1,h.ne,h.lt.1,fF⟩;rw[Z3b];exact qC hn h.lt.1
theorem IMX.addL{w W A:World}{mb base I kl ks:Nat}{D G vs v2:Value}{B:List UInt8}{L S:List Bool}{x:Bool}(h:IMX w mb base I kl ks D G vs B L S)(hb:Below w.heap.size w W)(hn:A.ownsRow base 4 1 v2 (kl+1) (boC L++[.bool x]))(hg:W.grownBy A G.ownBlock)(R:v2.ownBlock=G.ownBlock\/v2.ownBlock=some W.heap.size):A.heap[mb]?=w.heap[mb]?/\IMX (A.setCell ⟨mb,1,none⟩ v2) mb base I (kl+1) ks D v2 vs B (L++[x]) S:=by
 have M:=DJ h.rl h.lt hb hg;have J:=uh h.rl hb;have O:=uh h.rs hb;have U:A.ownsRow base 5 1 D I (byC B):=(uh h.rb hb).kept hg (zF (uh h.rb hb) J ah)
 have V:A.ownsRow base 4 1 vs ks (boC S):=O.kept hg (by
  cases Z:vs.ownBlock with
  |none=>exact .inl rfl
  |some j=>
   refine .inr (fun q=>?_);rcases h.ne with r|r
   ·rw[r]at q;cases q
   ·exact r (by rw[Z];exact q.symm))
 have Kk:v2.ownBlock=none\/v2.ownBlock≠vs.ownBlock:=by
  rcases R with r|r
  ·rw[r];exact h.ne
  refine .inr (fun q=>?_);rw[r]at q;have:=(O.lt W.heap.size q.symm).2;omega
 refine⟨M,lq A mb 1 #[D,G,vs] _ v2 (M.trans h.c),qC U h.lt.1,?_,qC V h.lt.1,Kk,h.lt.1,fF⟩;rw[Fx];exact qC hn h.lt.1
theorem IMX.addS{w W A:World}{mb base J kl ks:Nat}{I D vs v2:Value}{B:List UInt8}{L S:List Bool}{x:Bool}(h:IMX w mb base J kl ks I D vs B L S)(hb:Below w.heap.size w W)(hn:A.ownsRow base 4 1 v2 (ks+1) (boC S++[.bool x]))(hg:W.grownBy A vs.ownBlock)(R:v2.ownBlock=vs.ownBlock\/v2.ownBlock=some W.heap.size):A.heap[mb]?=w.heap[mb]?/\IMX (A.setCell ⟨mb,2,none⟩ v2) mb base J kl (ks+1) I D v2 B L (S++[x]):=by
 have O:=DJ h.rs h.lt hb hg;have G:=uh h.rl hb;have U:=uh h.rs hb;have V:A.ownsRow base 5 1 I J (byC B):=(uh h.rb hb).kept hg (zF (uh h.rb hb) U ah);have M:A.ownsRow base 4 1 D kl (boC L):=G.kept hg h.ne
 have Z:D.ownBlock=none\/D.ownBlock≠v2.ownBlock:=by
  rcases R with r|r
  ·rw[r];exact h.ne
  cases ev:D.ownBlock with
  |none=>exact .inl rfl
  |some j=>
   refine .inr (fun q=>?_);rw[r]at q;have:=(G.lt j ev).2;cases q;omega
 refine⟨O,lq A mb 2 #[I,D,vs] _ v2 (O.trans h.c),qC V h.lt.1,qC M h.lt.1,?_,Z,h.lt.1,fF⟩;rw[Fx];exact qC hn h.lt.1
theorem Tryz.infoByI:(Tryz.prog.info? 5).map (fun i=>(i.zero,i.size,i.bytes))=some (some (.int .u8 0),1,1):=aj
theorem Tryz.infoBoI:(Tryz.prog.info? 4).map (fun i=>(i.zero,i.size,i.bytes))=some (some (.bool false),1,1):=aj
theorem Tryz.infoImI:(Tryz.prog.info? 35).map (·.size)=some 3:=aj
theorem Cp{α:Type}(l:List α)(k:Nat)(d:α)(h:k<l.length):l.take (k+1)=l.take k++[l.getD k d]:=by
 rw[lR,jX h,jZ,jX h];rfl
theorem Gz(a:RAsm):(td a).length=1024:=by
 unfold td;rw[kL,mA]
theorem Z26(a:RAsm)(k:Nat)(h:k<1024):(td a).getD k 0=if a.laid.getD k false=true then a.bytes.getD k 0 else 255:=by
 unfold td;rw[jZ,kS,nk h];rfl
theorem Z7m(a:RAsm)(k:Nat)(h:k<1024):(td a).take (k+1)=(td a).take k++[if a.laid.getD k false=true then a.bytes.getD k 0 else 255]:=by
 rw[Cp (td a) k 0 (by rw[Gz];exact h),Z26 a k h]
theorem Z1K(ab base:Nat)(a:RAsm)(w:World)(h:RAM w ab base a):Calls prog 51 #[.pointer (some ⟨ab,0,none⟩)] w fun e w'=>∃A D la G I J,e=.returned (.agg #[.slice A 1024 D,.slice la 1024 G,.slice I 1024 J])/\w'.ownsRow w.heap.size 5 1 (.slice A 1024 D) 1024 (byC (td a))/\w'.ownsRow w.heap.size 4 1 (.slice la 1024 G) 1024 (boC a.laid)/\w'.ownsRow w.heap.size 4 1 (.slice I 1024 J) 1024 (boC a.starts)/\Below w.heap.size w w':=by
 obtain⟨OF,hi,KJ,KC,Ky⟩:=kQ Tryz.infoByI;obtain⟨Vk8,hj,Wm3,Wm4,Z6⟩:=kQ Tryz.infoBoI;have H:=oP h;obtain⟨rb,LO⟩:=Zg0 w.heap.size;have Pd:=oP LO;obtain⟨mb,O⟩:=Zg0 (w.heap.size+1);have Wr2:=oP O;obtain⟨V,Kv⟩:=Zg0 ((w.alloc (.cells #[.slice none 0 0,.slice none 0 0,.slice none 0 0] 35)).alloc (.cells #[.slice none 0 0,.slice none 0 0,.slice none 0 0] 35));have NT:Hid (Below w.heap.size w V):=gp
 have MY:Hid (IMX V mb (mb+1) 0 0 0 (.slice none 0 0) (.slice none 0 0) (.slice none 0 0) [] [] []):=by
  refine⟨?_,kA,kA,kA,.inl rfl,lW,?_⟩
  ·rw[<-Kv,<- O];have:=kg (w.alloc (.cells #[.slice none 0 0,.slice none 0 0,.slice none 0 0] 35)) (.cells #[.slice none 0 0,.slice none 0 0,.slice none 0 0] 35);rwa [show (w.alloc (.cells #[.slice none 0 0,.slice none 0 0,.slice none 0 0] 35)).heap.size=w.heap.size+1 by simp]at this
  rw[<-Kv,<- O];simp
 have XC:Hid (V.heap[rb]?=some (.cells #[.slice none 0 0,.slice none 0 0,.slice none 0 0] 35)):=by
  rw[<-Kv,<- LO];exact(nz _ _ af).trans (kg w _)
 have WT1:rb+1=mb:=by rw[<-O,<- LO]
 clear h;go_enter func51,ntmps51;go_wp2_with fail;clear LO O WT1 Kv;go_loopw [4] (fun y wr=>∃(k:Nat) (A:Option Addr) (D:Nat) (la:Option Addr) (G:Nat) (I:Option Addr) (J:Nat),k<=1024/\y=.int .i64 (k:Int)/\IMX wr mb (mb+1) k k k (.slice A k D) (.slice la k G) (.slice I k J) ((td a).take k) (a.laid.take k) (a.starts.take k)/\Below mb V wr) (fun y _=>1024-(intOf y).toNat)
 case atStart=>exact⟨0,none,0,none,0,none,0,j4,rfl,MY.o,jV⟩
 case round=>
  obtain⟨k,A,D,la,G,I,J,hk,rfl,hI,hB⟩:=hrel;have HI:=oP hI;have HB:=oP hB;obtain⟨m0,m1,m2,mf⟩:=wH hI.c;have Wx:w.heap.size<=mb:=by have:=Wr2.o;omega
  have hM:=H.o.below (NT.o.trans (hB.mono Wx));by_cases Z:k<1024
  ·have QR:(k:Int)<1024:=by omega
   have WO5:IntKind.i64.wrap ((k:Int)+1)=(k:Int)+1:=ar;have e1:=hM.cb k Z;have e2:=hM.cl k Z;have e3:=hM.cs k Z;obtain⟨B,Wj6⟩:=Zg0 (a.bytes.getD k 0);obtain⟨Lk,R⟩:∃b,a.laid.getD k false=b:=⟨_,rfl⟩;obtain⟨Sk,WA6⟩:∃b,a.starts.getD k false=b:=⟨_,rfl⟩;have hn:=Z7m a k Z;rw[Wj6,R]at hn;have OO:=Cp a.laid k false (by rw[H.o.len.2.1];exact Z);have Z7:=Cp a.starts k false (by rw[H.o.len.2.2];exact Z);rw[R]at OO;rw[WA6]at Z7;rw[Wj6]at e1;rw[R]at e2;rw[WA6]at e3;obtain⟨X,hX⟩:∃X:UInt8,(if Lk=true then B else 255)=X:=⟨_,rfl⟩;rw[hX]at hn;have MT:=oP (And.intro hn (And.intro OO Z7));have HK:=oP Z;have PZ:=oP R;have Wh0:=oP WA6;have f0:=mf 0;have Ob:ab<w.heap.size:=ke H.o.lt.1 H.o.lt.2;have WT2:mb<wr.heap.size:=oV hI.c;have TG:¬ab=mb:=by have:=Wr2.o;omega
   have VQ5:¬mb=ab:=fun e=>TG e.symm
   have VQ6:¬wr.heap.size=mb:=ae;have hnm:¬mb=wr.heap.size:=ae;clear hI hB Wj6 R WA6 hn OO Z7 Z mf;go_upto_if 15 with fail;go_cut [5] from 16 to 21 (fun v wx=>v=.int .u8 (X.toNat:Int)/\wx=wr)
   case first=>
    cases Lk with
    |true=>
     have SK:Hid (B=X):=hX;clear hX;go_wp2_with fail;go_meet;exact⟨by rw[SK.o],rfl⟩
    |false=>
     have SK:Hid ((255:UInt8)=X):=hX;clear hX;go_wp2_with fail;go_meet;exact⟨by rw[<-SK.o];rfl,rfl⟩
   obtain⟨rfl,Ye⟩:=hcut;rw[Ye];clear Ye hX e1;have Wr4:=oP HI.o.rb;go_wp2_with (first| (at_builtin;refine kH _ rfl _ _ 32 rfl (mb+1) 5 OF _ 1 1 underlying32 hi KJ KC Ky rfl ah _ _ _ rfl (Wr4.o.alloc _) ⟨wr.heap.size,0,none⟩ 1 1 [.int .u8 (X.toNat:Int)] rfl rfl l8 ax ak ae ai ?_;intro v2 wn S U _ _;obtain⟨b2,c2,ev⟩:=rP S;subst ev;have M:=oP (HI.o.addB (x:=X) (jV.alloc jU _) S U);have Te:Hid (Below mb V wn):=(HB.o.alloc (oJ WT2) _).grown U ai (fun k hk=>by have:=(Wr4.o.lt k hk).1;omega);have g0:=(ku (a:=⟨mb,0,none⟩) M.o.1).trans f0;have g1:=(jW (a:=⟨mb,0,none⟩) M.o.1).trans m0;clear S U));have Xc:=M.o.2;have KU:Below mb V (wn.setCell ⟨mb,0,none⟩ (.slice b2 (k+1) c2)):=Te.o.setCell (Nat.le_refl mb) _;obtain⟨w5,Lj⟩:=Zg0 (wn.setCell ⟨mb,0,none⟩ (.slice b2 (k+1) c2));rw[Lj]at Xc KU⊢;have WT3:=oP Xc;have Lx:=oP KU;obtain⟨_,n1,_,nf⟩:=wH Xc.c;have f1:=nf 1;have e5:=(H.o.below (NT.o.trans (KU.mono Wx))).cl k HK.o;rw[PZ.o]at e5;have VG3:mb<w5.heap.size:=oV Xc.c;have VG4:¬w5.heap.size=mb:=ae;have VG5:¬mb=w5.heap.size:=ae;clear Lj Xc KU nf M Te g0 g1 m0 m1 m2 f0 e2 e3;go_region_law (refine xj rfl (.tmp 29) (.tmp 36) 33 rfl (mb+1) 4 Vk8 _ 1 1 underlying33 hj Wm3 Wm4 Z6 rfl ah (.slice la k G) k (boC (a.laid.take k)) aB (by exact(uh WT3.o.rl (show Below w5.heap.size w5 w5.drew from ⟨rfl,rfl,rfl,jU,fun _ _=>rfl⟩)).alloc _) ⟨w5.heap.size,0,none⟩ 1 1 [.bool Lk] aB rfl l8 ax ak ae ai ?_;intro v2 wl S U Kj;obtain⟨l2,d2,ev⟩:=rP S;subst ev;have M:=oP (WT3.o.addL (x:=Lk) (W:=w5.drew.alloc (.cells #[.bool Lk] 4)) ((jV.drew).alloc jU _) S U Kj);have Te:Hid (Below mb V wl):=((Lx.o.drew).alloc (oJ VG3) _).grown U ai (fun k hk=>by have:=(WT3.o.rl.lt k hk).1;omega);have g0:=(ku (a:=⟨mb,1,none⟩) M.o.1).trans f1;have g1:=(jW (a:=⟨mb,1,none⟩) M.o.1).trans n1;clear S U Kj)
   all_goals
    have Xd:=M.o.2;have WY:Below mb V (wl.setCell ⟨mb,1,none⟩ (.slice l2 (k+1) d2)):=Te.o.setCell (Nat.le_refl mb) _;go_upto_region 10 with fail;obtain⟨w6,L6⟩:=Zg0 (wl.setCell ⟨mb,1,none⟩ (.slice l2 (k+1) d2));rw[L6]at Xd WY⊢;have WT4:=oP Xd;have VG6:=oP WY;obtain⟨_,_,n2,nf⟩:=wH Xd.c;have f2:=nf 2;have e6:=(H.o.below (NT.o.trans (WY.mono Wx))).cs k HK.o;rw[Wh0.o]at e6;have VG7:mb<w6.heap.size:=oV Xd.c;have VG8:¬w6.heap.size=mb:=ae;have VG9:¬mb=w6.heap.size:=ae;clear L6 Xd WY nf M Te g0 g1 n1 f1 e5;go_region_law (refine xj rfl (.tmp 40) (.tmp 47) 33 rfl (mb+1) 4 Vk8 _ 1 1 underlying33 hj Wm3 Wm4 Z6 rfl ah (.slice I k J) k (boC (a.starts.take k)) aB (by exact(uh WT4.o.rs (show Below w6.heap.size w6 w6.drew from ⟨rfl,rfl,rfl,jU,fun _ _=>rfl⟩)).alloc _) ⟨w6.heap.size,0,none⟩ 1 1 [.bool Sk] aB rfl l8 ax ak ae ai ?_;intro v2 ws S U Kj;obtain⟨s2,t2,ev⟩:=rP S;subst ev;have M:=oP (WT4.o.addS (x:=Sk) (W:=w6.drew.alloc (.cells #[.bool Sk] 4)) ((jV.drew).alloc jU _) S U Kj);have Te:Hid (Below mb V ws):=((VG6.o.drew).alloc (oJ VG7) _).grown U ai (fun k hk=>by have:=(WT4.o.rs.lt k hk).1;omega);have g0:=(ku (a:=⟨mb,2,none⟩) M.o.1).trans f2;have g1:=(jW (a:=⟨mb,2,none⟩) M.o.1).trans n2;clear S U Kj)
    all_goals
     have VH0:=oP M.o.2;have VH1:Hid (Below mb V (ws.setCell ⟨mb,2,none⟩ (.slice s2 (k+1) t2))):=Te.o.setCell (Nat.le_refl mb) _;clear M Te n2 f2 e6;go_wp2_with fail;go_roundw
     case rel=>exact⟨k+1,b2,c2,l2,d2,s2,t2,HK.o,ao,by rw[MT.o.1,MT.o.2.1,MT.o.2.2];exact VH0.o,VH1.o⟩
     case measure=>have:=HK.o;simp[intOf];omega
  have LD:k=1024:=ae;subst LD;have z:=hB.block rb fG;rw[XC.o]at z;obtain⟨z0,z1,z2,zf⟩:=wH z;have y0:=zf 0;have y1:=zf 1;have y2:=zf 2;have VH2:¬mb=rb:=fG;have VQ7:¬rb=mb:=fun e=>VH2 e.symm
  rw[lL (by rw[Gz];exact jU),lL (by rw[H.o.len.2.1];exact jU),lL (by rw[H.o.len.2.2];exact jU)]at HI;have VH3:=oP (lq _ rb 2 #[.slice A 1024 D,.slice la 1024 G,.slice none 0 0] _ (.slice I 1024 J) (lq _ rb 1 #[.slice A 1024 D,.slice none 0 0,.slice none 0 0] _ (.slice la 1024 G) (lq wr rb 0 #[.slice none 0 0,.slice none 0 0,.slice none 0 0] _ (.slice A 1024 D) z)));have Oi:rb<mb+1:=fG;have OC:w.heap.size<=mb+1:=ae;have M8:w.heap.size<=rb:=by have h2:=Pd.o;omega
  have MA:Hid ((((wr.setCell ⟨rb,0,none⟩ (.slice A 1024 D)).setCell ⟨rb,1,none⟩ (.slice la 1024 G)).setCell ⟨rb,2,none⟩ (.slice I 1024 J)).ownsRow w.heap.size 5 1 (.slice A 1024 D) 1024 (byC (td a))/\(((wr.setCell ⟨rb,0,none⟩ (.slice A 1024 D)).setCell ⟨rb,1,none⟩ (.slice la 1024 G)).setCell ⟨rb,2,none⟩ (.slice I 1024 J)).ownsRow w.heap.size 4 1 (.slice la 1024 G) 1024 (boC a.laid)/\(((wr.setCell ⟨rb,0,none⟩ (.slice A 1024 D)).setCell ⟨rb,1,none⟩ (.slice la 1024 G)).setCell ⟨rb,2,none⟩ (.slice I 1024 J)).ownsRow w.heap.size 4 1 (.slice I 1024 J) 1024 (boC a.starts)/\Below w.heap.size w (((wr.setCell ⟨rb,0,none⟩ (.slice A 1024 D)).setCell ⟨rb,1,none⟩ (.slice la 1024 G)).setCell ⟨rb,2,none⟩ (.slice I 1024 J))):=⟨pC (qC (qC (qC HI.o.rb Oi) Oi) Oi) OC,pC (qC (qC (qC HI.o.rl Oi) Oi) Oi) OC,pC (qC (qC (qC HI.o.rs Oi) Oi) Oi) OC,(((NT.o.trans (hB.mono Wx)).setCell M8 _).setCell M8 _).setCell M8 _⟩;clear hI hB hM Z hk zf mf z;go_wp2_with fail;refine kf (v:=.agg #[.slice A 1024 D,.slice la 1024 G,.slice I 1024 J]) (kY results51 _ _ rb _ _ _ _ rfl VH3.o underlying35 rfl Tryz.infoImI) rfl ?_;exact⟨A,D,la,G,I,J,rfl,MA.o⟩
