import Derived.Test.YthokdbcpkmcieaaGreatDoorH17
set_option maxRecDepth 200000
set_option maxHeartbeats 16000000
namespace Go.Proofs.YthokdbcpkmcieaaGreatDoor
open RowKit Shelf WideMaps Maps Proofs.Tryz
def Ed(N:Nat)(t:Tok):Prop:=t.text.size<=N/\0<=t.num
def TokAll(N:Nat)(A:List Tok):Prop:=∀t∈A,Ed N t
def Good(N:Nat)(t:Trm):Prop:=t.name.size<=N/\0<=t.num
def GoodE(N:Nat)(e:List Trm):Prop:=∀t∈e,Good N t
def GoodV(N:Nat)(es:List (List Trm)):Prop:=∀e∈es,GoodE N e
theorem TokAll.tail{N:Nat}{t:Tok}{l:List Tok}(h:TokAll N (t::l)):TokAll N l:=fun x hx=>h x (mo _ hx)
theorem TokAll.head{N:Nat}{t:Tok}{l:List Tok}(h:TokAll N (t::l)):Ed N t:=h t oM
theorem GoodE.snoc{N:Nat}{e:List Trm}{t:Trm}(h:GoodE N e)(ht:Good N t):GoodE N (e++[t]):=fun x hx=>by
 rcases kW.1 hx with h1|h1
 ·exact h x h1
 rw[lu.1 h1]
 exact ht
theorem GoodV.snoc{N:Nat}{es:List (List Trm)}{e:List Trm}(h:GoodV N es)(ht:GoodE N e):GoodV N (es++[e]):=fun x hx=>by
 rcases kW.1 hx with h1|h1
 ·exact h x h1
 rw[lu.1 h1]
 exact ht
theorem De(es:List (List Trm))(e:List Trm):pL (es++[e])=pL es+e.length:=bV
theorem Z88{t:List UInt8}{z:Int}(h:numOf t=some z):0<=z:=by
 unfold numOf at h;split at h
 ·cases h
 split at h
 ·cases h;decide
 have h2:=kp h;omega
theorem EH:∀(f:Nat) (r:ByteArray) (A:List Tok),pY f r=some A->∀t∈A,0<=t.num
 |0,r,A,h,t,ht=>by simp[pY]at h;subst h;cases ht
 |f+1,r,A,h,t,ht=>by
  unfold pY at h
  by_cases G:0<r.size
  ·rw[mR G]at h
   obtain⟨o,ho,h2⟩:=l9.1 h
   obtain⟨D,h3,rfl⟩:=kJ.1 h2
   rcases kW.1 ht with h4|h4
   ·unfold sq at ho
    split at ho
    ·cases ho;cases h4
    split at ho
    ·obtain⟨v,I,rfl⟩:=kJ.1 ho
     simp[tf]at h4
     subst h4
     exact Z88 I
    split at ho
    ·cases ho
     simp[tf]at h4
     subst h4
     exact ot 0
    cases ho
    simp[tf]at h4
    subst h4
    exact ot 0
   exact EH f (wM r) D h3 t h4
  rw[nh G]at h
  cases h
  cases ht
theorem DD{N:Nat}{A:List Tok}{x:Trm}{l:List Tok}(h:pZ A=some (x,l))(D:TokAll N A):Good N x/\TokAll N l:=by
 cases A with
 |nil=>simp[pZ]at h
 |cons t A=>
  have h1:=D.head;simp only[pZ]at h;split at h
  ·cases h;exact⟨⟨j4,ot 0⟩,D.tail⟩
  split at h
  ·cases h;exact⟨⟨j4,h1.2⟩,D.tail⟩
  split at h
  ·cases h;exact⟨⟨h1.1,ot 0⟩,D.tail⟩
  cases h
theorem CB{N:Nat}:∀(f:Nat) (acc:List Trm) (G:List Tok) (x:List Trm) (l:List Tok),qu f acc G=some (x,l)->TokAll N G->GoodE N acc->GoodE N x/\TokAll N l/\x.length+l.length<=acc.length+G.length
 |0,acc,G,x,l,h,A,D=>by
  simp only[qu]at h
  cases h
  exact⟨D,A,jU⟩
 |f+1,acc,[],x,l,h,A,D=>by simp only[qu]at h;cases h
 |f+1,acc,t::G,x,l,h,A,D=>by
  simp only[qu]at h
  split at h
  ·obtain⟨⟨y,l2⟩,h1,h2⟩:=l9.1 h
   have q:=DD h1 A.tail
   have J:=wa h1
   have r:=CB f _ l2 x l h2 q.2 (D.snoc ⟨q.1.1,q.1.2⟩)
   refine⟨r.1,r.2.1,?_⟩
   have I:=r.2.2
   rw[kq]at I
   simp only[kh,lI]at I⊢
   omega
  split at h
  ·obtain⟨⟨y,l2⟩,h1,h2⟩:=l9.1 h
   have q:=DD h1 A.tail
   have J:=wa h1
   have r:=CB f _ l2 x l h2 q.2 (D.snoc ⟨q.1.1,q.1.2⟩)
   refine⟨r.1,r.2.1,?_⟩
   have I:=r.2.2
   rw[kq]at I
   simp only[kh,lI]at I⊢
   omega
  cases h
  exact⟨D,A,jU⟩
theorem zV{N:Nat}{A:List Tok}{x:List Trm}{l:List Tok}(h:pQ A=some (x,l))(D:TokAll N A):GoodE N x/\TokAll N l/\x.length+l.length<=A.length/\l.length+1<=A.length:=by
 have G:=yX h;unfold pQ at h;obtain⟨⟨y,l2⟩,h1,h2⟩:=l9.1 h;have q:=DD h1 D;have I:=wa h1;have r:=CB _ _ l2 x l h2 q.2 (fun t ht=>by rw[lu.1 ht];exact q.1);refine⟨r.1,r.2.1,?_,G⟩;have:=r.2.2;simp only[kh,lI]at this;omega
theorem Je{N:Nat}:∀(f:Nat) (acc:List (List Trm)) (A:List Tok) (es:List (List Trm)) (l:List Tok),qM f acc A=some (es,l)->TokAll N A->GoodV N acc->GoodV N es/\TokAll N l/\pL es+l.length<=pL acc+A.length/\es.length+l.length<=acc.length+A.length
 |0,acc,A,x,l,h,D,G=>by
  simp only[qM]at h
  cases h
  exact⟨G,D,jU,jU⟩
 |f+1,acc,[],x,l,h,D,G=>by simp only[qM]at h;cases h
 |f+1,acc,t::A,x,l,h,D,G=>by
  simp only[qM]at h
  split at h
  ·obtain⟨⟨y,l2⟩,h1,h2⟩:=l9.1 h
   have q:=zV h1 D.tail
   have r:=Je f _ l2 x l h2 q.2.1 (G.snoc q.1)
   have I:=r.2.2
   rw[De]at I
   simp only[kq,kh,lI]at I⊢
   exact⟨r.1,r.2.1,ae,ae⟩
  cases h
  exact⟨G,D,jU,jU⟩
theorem Gf(e:List Trm):pL [e]=e.length:=bV
theorem GoodV.one{N:Nat}{e:List Trm}(h:GoodE N e):GoodV N [e]:=fun x hx=>by rw[lu.1 hx];exact h
theorem IB{N tk:Nat}{A:List Tok}{es:List (List Trm)}{l:List Tok}(h:sK tk A=some (es,l))(G:TokAll N A):GoodV N es/\TokAll N l/\pL es+l.length<=A.length/\es.length+l.length<=A.length/\(qz tk=true->es.length=1):=by
 unfold sK at h;obtain⟨⟨y,l2⟩,h1,h2⟩:=l9.1 h;have q:=zV h1 G;simp only at h2;split at h2
 ·cases h2;refine⟨GoodV.one q.1,q.2.1,?_,?_,fun _=>rfl⟩
  ·rw[Gf];omega
  simp only[kh,lI];omega
 rename_i hn
 have r:=Je _ _ l2 es l h2 q.2.1 (GoodV.one q.1);have D:=r.2.2;rw[Gf]at D;simp only[kh,lI]at D;exact⟨r.1,r.2.1,ae,ae,fun e=>absurd e hn⟩
theorem El(N n:Nat):GoodE N [rv (n:Int)]:=fun t ht=>by
 rw[lu.1 ht]
 exact⟨j4,Int.natCast_nonneg n⟩
theorem Jx{N:Nat}{D:ByteArray}{A:List Tok}{x:Nat×List Trm}{l:List Tok}(h:ru D A=some (x,l)):GoodE N x.2/\x.2.length=1/\l=A:=by
 unfold ru at h;obtain⟨y,_,h2⟩:=kJ.1 h;cases h2;exact⟨El N _,rfl,rfl⟩
theorem Z9V{N:Nat}{A:List Tok}{x:Nat×List Trm}{l:List Tok}(h:pAt A=some (x,l))(D:TokAll N A):GoodE N x.2/\TokAll N l/\x.2.length+l.length<=A.length:=by
 match A with
 |[]=>simp[pAt]at h
 |[_]=>simp[pAt]at h
 |t::u::G=>
  simp only[pAt]at h;split at h
  ·split at h
   ·cases G with
    |nil=>cases h
    |cons v l3=>
     simp only at h;split at h
     ·obtain⟨h1,h2,rfl⟩:=Jx (N:=N) h;refine⟨h1,D.tail.tail.tail,?_⟩;rw[h2];simp only[kh];omega
     cases h
   obtain⟨h1,h2,rfl⟩:=Jx (N:=N) h;refine⟨h1,D.tail,?_⟩;rw[h2];simp only[kh];omega
  cases h
theorem Z4y{N:Nat}{A:List Tok}{x:Nat×List Trm}{l:List Tok}(h:pOp A=some (x,l))(ha:TokAll N A):GoodE N x.2/\TokAll N l/\x.2.length+l.length<=A.length:=by
 cases A with
 |nil=>simp[pOp]at h
 |cons t A=>
  simp only[pOp]at h;split at h
  ·obtain⟨⟨y,l2⟩,h1,h2⟩:=kJ.1 h;exact Mcd
  split at h
  ·obtain⟨⟨y,l2⟩,h1,h2⟩:=kJ.1 h;exact Mcd
  split at h
  ·have q:=Z9V h ha.tail;refine⟨q.1,q.2.1,?_⟩;simp only[kh];omega
  split at h
  ·cases h;refine⟨El N _,ha.tail,?_⟩;simp only[kh,lI];omega
  obtain⟨⟨y,l2⟩,h1,h2⟩:=kJ.1 h;cases h2;have q:=zV h1 ha;exact⟨q.1,q.2.1,q.2.2.1⟩
theorem Hg{N:Nat}:∀(f:Nat) (ks:List Nat) (vs:List (List Trm)) (A:List Tok) (x:List Nat×List (List Trm)) (l:List Tok),tX f ks vs A=some (x,l)->TokAll N A->GoodV N vs->ks.length=vs.length->GoodV N x.2/\TokAll N l/\pL x.2+l.length<=pL vs+A.length/\x.2.length+l.length<=vs.length+A.length/\x.1.length=x.2.length
 |0,_,_,_,_,_,h,_,_,_=>by simp only[tX]at h;cases h
 |f+1,ks,vs,A,x,l,h,I,G,hk=>by
  simp only[tX]at h
  split at h
  ·cases h
  ·cases h
  rename_i y t l2 h1
  have q:=Z4y h1 I
  have J:=F6 h1
  have M:=q.2.2
  simp only[kh]at J M
  split at h
  ·have r:=Hg f _ _ l2 x l h q.2.1.tail (G.snoc q.1) bD
   have D:=r.2.2
   rw[De]at D
   simp only[kq,kh,lI]at D
   exact⟨r.1,r.2.1,ae,ae,D.2.2⟩
  cases h
  refine⟨G.snoc q.1,q.2.1,?_,?_,bD⟩
  ·rw[De]
   simp only[kh]
   omega
  simp only[kq,kh,lI]
  omega
theorem Z4D{N:Nat}{A:List Tok}{x:List Nat×List (List Trm)}{l:List Tok}(h:wX A=some (x,l))(G:TokAll N A):GoodV N x.2/\TokAll N l/\pL x.2+l.length<=A.length/\x.2.length+l.length<=A.length/\x.1.length=x.2.length:=by
 cases A with
 |nil=>simp[wX]at h
 |cons t A=>
  simp only[wX]at h;split at h
  ·cases h;exact⟨(fun e he=>by cases he),G,bV,af,rfl⟩
  have r:=Hg _ _ _ _ _ _ h G (fun e he=>by cases he) rfl;have D:=r.2.2;rw[show pL []=0 from rfl]at D;simp only[lI]at D;exact⟨r.1,r.2.1,ae,ae,D.2.2⟩
structure uw(d:InsD)(n:Nat):Prop where
 code:d.code<=255
 kinds:∀k∈d.kinds,k<17
 len:d.kinds.length=n
 le:n<=3
 size:d.size=rk d.kinds
 size3:d.size<=3
 swap:d.code=133->n=2
theorem Z8b:(rowsL.all fun r=>decide (r.1<=255)&&(qo r.2.2).all (fun k=>decide (k<17))&&decide ((qo r.2.2).length<=3)&&decide (rk (qo r.2.2)<=3)&&(decide (r.1≠133)||decide ((qo r.2.2).length=2)))=true:=aq
theorem Z7w{s:List UInt8}{ks:List Nat}{d:InsD}(h:tU s ks=some d):uw d ks.length:=by
 unfold tU at h;obtain⟨r,h1,rfl⟩:=kJ.1 h;have G:r∈rowsL:=oN.1 (mE h1);have A:=nw h1;unfold uf at A;rw[kB,mx,mx]at A
 have D:(qo r.2.2).length=ks.length:=by
  have:=lp List.length A.2;simpa using this
 have hq:=kx.1 Z8b r G;simp only[kB,kI,kx,mM]at hq;obtain⟨⟨⟨⟨q1,q2⟩,I⟩,J⟩,q5⟩:=hq
 exact⟨q1,q2,D,D ▸ I,rfl,J,fun e=>by
  rcases q5 with q5|q5
  ·exact absurd e q5
  ·rw[<-D];exact q5⟩
theorem Z0Q{N:Nat}{s:List UInt8}{A:List Tok}{x:InsD×List (List Trm)}{l:List Tok}(h:x9 s A=some (x,l))(D:TokAll N A):GoodV N x.2/\TokAll N l/\pL x.2+l.length<=A.length/\x.2.length+l.length<=A.length/\uw x.1 x.2.length:=by
 unfold x9 at h;obtain⟨⟨y,l2⟩,h1,h2⟩:=l9.1 h;obtain⟨d,h3,h4⟩:=kJ.1 h2;cases h4;have q:=Z4D h1 D;refine⟨q.1,q.2.1,q.2.2.1,q.2.2.2.1,?_⟩;unfold sZ at h3;split at h3
 ·cases h3
 have:=Z7w h3;rw[q.2.2.2.2]at this;exact this
structure StmF(N:Nat)(lb:ByteArray)(x:Stm):Prop where
 lb:lb.size<=N
 name:x.name.size<=N
 task:x.task<=6
 vals:GoodV N x.vals
 cnt:pL x.vals<=N+1
 len:x.vals.length<=N+1
 once:qz x.task=true->x.vals.length=1
 ins:x.task=6->uw x.ins x.vals.length
 other:x.task≠6->x.ins=re
theorem Z5i{l:List UInt8}{t:Nat}(h:px l=some t):1<=t/\t<=5:=by
 unfold px at h;obtain⟨y,h1,rfl⟩:=kJ.1 h;have A:=mE h1;have D:∀y∈dirL,1<=y.2/\y.2<=5:=ah;exact D y A
structure AY(N M:Nat)(x:Stm):Prop where
 name:x.name.size<=N
 task:x.task<=6
 vals:GoodV N x.vals
 cnt:pL x.vals<=M
 len:x.vals.length<=M
 once:qz x.task=true->x.vals.length=1
 ins:x.task=6->uw x.ins x.vals.length
 other:x.task≠6->x.ins=re
theorem JH{N:Nat}{s:ByteArray}{A:List Tok}{x:Stm}{l:List Tok}(h:rH s A=some (x,l))(D:TokAll N A)(hs:s.size<=N):AY N A.length x:=by
 cases A with
 |nil=>simp[rH]at h
 |cons u A=>
  simp only[rH]at h;split at h
  ·obtain⟨⟨y,l2⟩,h1,h2⟩:=kJ.1 h;cases h2;have q:=IB h1 D.tail;refine⟨hs,by show 5<=6;decide,q.1,?_,?_,fun _=>q.2.2.2.2 rfl,fun e=>absurd e (by show ¬5=6;decide),fun _=>rfl⟩
   ·simp only[kh];omega
   simp only[kh];omega
  cases h
theorem Z1O{N:Nat}{A:List Tok}{x:Stm}{l:List Tok}(h:qy A=some (x,l))(D:TokAll N A):AY N A.length x:=by
 cases A with
 |nil=>simp[qy]at h
 |cons t A=>
  have h1:=D.head;have up:∀ {x:Stm},AY N A.length x->AY N (t::A).length x:=fun q=>⟨q.name,q.task,q.vals,by simp only[kh];have:=q.cnt;omega,by simp only[kh];have:=q.len;omega,q.once,q.ins,q.other⟩
  simp only[qy]at h;split at h
  ·cases h;exact⟨j4,j4,(fun e he=>by cases he),bV,af,(fun e=>by cases e),(fun e=>by cases e),fun _=>rfl⟩
  split at h
  ·cases h
  split at h
  ·obtain⟨⟨y,l2⟩,h1,h2⟩:=kJ.1 h;cases h2;have q:=Z0Q h1 D.tail;exact up ⟨j4,jU,q.1,by have:=q.2.2.1;simp only;omega,by have:=q.2.2.2.1;simp only;omega,(fun e=>by cases e),fun _=>q.2.2.2.2,fun e=>absurd rfl e⟩
  split at h
  ·rename_i tk hd
   split at h
   ·exact up (JH h D.tail h1.1)
   obtain⟨⟨y,l2⟩,h2,h3⟩:=kJ.1 h;cases h3;have q:=IB h2 D.tail;have ht:=Z5i hd;exact up ⟨j4,by show tk<=6;omega,q.1,by have:=q.2.2.1;simp only;omega,by have:=q.2.2.2.1;simp only;omega,q.2.2.2.2,(fun e=>by have e2:tk=6:=e;omega),fun _=>rfl⟩
  exact up (JH h D.tail h1.1)
theorem Z14{N:Nat}{D:List Tok}{lb:ByteArray}{l:List Tok}(h:rL D=some (lb,l))(A:TokAll N D):lb.size<=N/\TokAll N l:=by
 match D with
 |[]=>simp[rL]at h
 |[t]=>
  simp only[rL]at h;cases h;exact⟨j4,A⟩
 |t::u::G=>
  simp only[rL]at h;split at h
  ·cases h;exact⟨j4,A⟩
  split at h
  ·cases h;exact⟨A.head.1,A.tail.tail⟩
  cases h
theorem CG{s:ByteArray}{lb:ByteArray}{x:Stm}(h:sd s=some (lb,x)):StmF s.size lb x:=by
 unfold sd at h;obtain⟨G,h1,h2⟩:=l9.1 h;unfold zC at h2;obtain⟨⟨I,l⟩,h3,h4⟩:=l9.1 h2;obtain⟨⟨y,l2⟩,A,h6⟩:=l9.1 h4;simp only at A h6;split at h6
 ·cases h6
  have O:(rY s).size<=s.size:=by
   have:=FU s.data.toList;rw[kE]at this;show (Lib.cut s.data.toList [59]).1.toArray.size<=_;rw[lJ];exact this
  have hc:(tp (rY s)).size=(rY s).size:=by
   show ((rY s).data.map oZ).size=_;rw[oE];rfl
  have hn:=Ct _ _ _ h1
  have J:TokAll s.size (G++[ux]):=fun t ht=>by
   rcases kW.1 ht with q|q
   ·have:=(Cu _ _ _ h1 t q).2;exact⟨ae,EH _ _ _ h1 t q⟩
   rw[lu.1 q];exact⟨j4,ot 0⟩
  have q:=Z14 h3 J;have M:=Hu h3;have r:=Z1O A q.2
  have D:l.length<=s.size+1:=by
   simp only[kq,kh,lI]at M;omega
  exact⟨q.1,r.name,r.task,r.vals,j8 r.cnt D,j8 r.len D,r.once,r.ins,r.other⟩
 cases h6
def qg(l:List Int):List Value:=l.map fun x=>.int .u8 x
structure LS(w:World)(yb base:Nat)(code:Int)(add:List Int)(bh:Int)(wrong:Bool):Prop where
 c0:w.cell? ⟨yb,0,none⟩=some (.int .u8 code)
 c1:∃a n c,w.cell? ⟨yb,1,none⟩=some (.slice a n c)/\w.ownsRow base 5 1 (.slice a n c) add.length (qg add)
 c2:w.cell? ⟨yb,2,none⟩=some (.int .u16 bh)
 c3:w.cell? ⟨yb,3,none⟩=some (.bool wrong)
 fz:∀j,w.frozen? ⟨yb,j,none⟩=false
 lt:yb<base
 le:base<=w.heap.size
structure LGrow(w w':World)(base yb:Nat):Prop where
 os:w'.os=w.os
 tape:w'.tape=w.tape
 output:w'.output=w.output
 size:w.heap.size<=w'.heap.size
 block:∀k,k<base->k≠yb->w'.heap[k]?=w.heap[k]?
theorem LGrow.refl(w:World)(base A:Nat):LGrow w w base A:=⟨rfl,rfl,rfl,jU,fun _ _ _=>rfl⟩
theorem LGrow.trans{w D G:World}{base A:Nat}(h:LGrow w D base A)(k:LGrow D G base A):LGrow w G base A:=
 ⟨k.os.trans h.os,k.tape.trans h.tape,k.output.trans h.output,j8 h.size k.size,fun i h1 h2=>(k.block i h1 h2).trans (h.block i h1 h2)⟩
theorem LGrow.set{w w':World}{base A:Nat}(h:LGrow w w' base A)(j:Nat)(v:Value):LGrow w (w'.setCell ⟨A,j,none⟩ v) base A:=
 ⟨h.os,h.tape,h.output,bj,fun k h1 h2=>by rw[ly aO];exact h.block k h1 h2⟩
theorem zk{w w':World}{base:Nat}{e:TypeId}{size n:Nat}{v:Value}{xs:List Value}(h:w.ownsRow base e size v n xs)(hb:∀j,v.ownBlock=some j->w'.heap[j]?=w.heap[j]?):w'.ownsRow base e size v n xs:=Mbs
theorem LS.wrong3{w:World}{A base:Nat}{code:Int}{add:List Int}{bh:Int}{wr:Bool}(h:LS w A base code add bh wr)(z:Bool):LS (w.setCell ⟨A,3,none⟩ (.bool z)) A base code add bh z:=by
 have G:=h.lt;obtain⟨a,n,c,I,D⟩:=h.c1;refine⟨?_,⟨a,n,c,?_,zk D (fun j J=>ly (by have:=(D.lt j J).1;simp;omega))⟩,?_,kP _ h.c3,fun j=>aV,G,eB⟩
 ·rw[j3 af];exact h.c0
 ·rw[j3 af];exact I
 rw[j3 af];exact h.c2
theorem LS.code0{w:World}{A base:Nat}{code:Int}{add:List Int}{bh:Int}{wr:Bool}(h:LS w A base code add bh wr)(z:Int):LS (w.setCell ⟨A,0,none⟩ (.int .u8 z)) A base z add bh wr:=by
 have G:=h.lt;obtain⟨a,n,c,I,D⟩:=h.c1;refine⟨kP _ h.c0,⟨a,n,c,?_,zk D (fun j J=>ly (by have:=(D.lt j J).1;simp;omega))⟩,?_,?_,fun j=>aV,G,eB⟩
 ·rw[j3 af];exact I
 ·rw[j3 af];exact h.c2
 rw[j3 af];exact h.c3
def pe(n lo hi:Int):Bool:=decide (n<lo)||decide (hi<n)
theorem xB(w:World)(A base:Nat)(code:Int)(add:List Int)(bh:Int)(wr:Bool)(n lo hi:Int)(h:LS w A base code add bh wr) :
  Calls prog 194 #[.pointer (some ⟨A,0,none⟩),.int .i64 n,.int .i64 lo,.int .i64 hi] w fun e w'=>e=.returned (.tuple #[])/\LS w' A base code add bh (wr||pe n lo hi)/\LGrow w w' base A:=by
 have c3:=h.c3;have f3:=h.fz 3;have HL:=oP h;have D:A<w.heap.size:=ke h.lt h.le;clear h;by_cases h1:n<lo
 ·have e:(wr||pe n lo hi)=true:=by simp[pe,h1]
  exact MbG
 by_cases h2:hi<n
 ·have e:(wr||pe n lo hi)=true:=by simp[pe,h2]
  exact MbG
 have e:(wr||pe n lo hi)=wr:=by simp[pe,h1,h2]
 rw[e];go_enter func194,ntmps194;go_wp2;go_end0;exact⟨rfl,HL.o,LGrow.refl _ _ _⟩
theorem Tryz.infoU8:(Tryz.prog.info? 5).map (fun i=>(i.zero,i.size,i.bytes))=some (some (.int .u8 0),1,1):=aj
theorem Z5D{w D:World}{A base:Nat}{code:Int}{add:List Int}{bh:Int}{wr:Bool}{a I:Option Addr}{n c J M:Nat}{x:Int}{o:Obj}(h:LS w A base code add bh wr)(hc:w.cell? ⟨A,1,none⟩=some (.slice a n c))(U:w.ownsRow base 5 1 (.slice a n c) add.length (qg add))
  (O:D.ownsRow base 5 1 (.slice I J M) (add.length+1) (qg add++[.int .u8 x])) (G:(w.alloc o).grownBy D (Value.slice a n c).ownBlock):LS (D.setCell ⟨A,1,none⟩ (.slice I J M)) A base code (add++[x]) bh wr/\LGrow w (D.setCell ⟨A,1,none⟩ (.slice I J M)) base A:=by
 have R:=h.lt;have Z:=h.le;have hz:=G.size;simp at hz
 have lo:∀j,j<base->D.heap[j]?=w.heap[j]?:=fun j S=>by
  rw[G.block j ai (fun e=>by have:=(U.lt j e.symm).1;omega),kt ae]
 have e1:=lo A R;have V:D.cell? ⟨A,1,none⟩=some (.slice a n c):=(jW (a:=⟨A,1,none⟩) e1).trans hc;refine⟨⟨?_,⟨I,J,M,kP _ V,?_⟩,?_,?_,fun j=>?_,R,bO⟩,(show LGrow w D base A from ⟨G.os,G.tape,G.output,ae,fun k h1 _=>lo k h1⟩).set _ _⟩
 ·rw[j3 af];exact(jW (a:=⟨A,0,none⟩) e1).trans h.c0
 ·have e:qg (add++[x])=qg add++[.int .u8 x]:=by simp[qg]
  rw[e,kq];exact zk O (fun j S=>ly (by have:=(O.lt j S).1;simp;omega))
 ·rw[j3 af];exact(jW (a:=⟨A,2,none⟩) e1).trans h.c2
 ·rw[j3 af];exact(jW (a:=⟨A,3,none⟩) e1).trans h.c3
 rw[mO];exact(ku (a:=⟨A,j,none⟩) e1).trans (h.fz j)
theorem rW{w:World}{base:Nat}{e:TypeId}{size n:Nat}{v:Value}{xs:List Value}(h:w.ownsRow base e size v n xs):∃a m c,v=.slice a m c:=Mcc
theorem Z7n{w D:World}{base A n:Nat}{v u:Value}{xs:List Value}{o:Obj}(h:w.ownsRow base 5 1 v n xs)(G:(w.alloc o).grownBy D v.ownBlock)(hc:w.cell? ⟨A,1,none⟩=some u)(hs:A<base)(I:A<w.heap.size):D.cell? ⟨A,1,none⟩=some u:=by
 have e:=G.block A ai (fun e=>by have:=(h.lt A e.symm).1;omega);rw[jW (a:=⟨A,1,none⟩) e,lO ai];exact hc
theorem Z0l{w D:World}{base A n:Nat}{v:Value}{xs:List Value}{o:Obj}(h:w.ownsRow base 5 1 v n xs)(G:(w.alloc o).grownBy D v.ownBlock)(hc:w.frozen? ⟨A,1,none⟩=false)(hs:A<base)(I:A<w.heap.size):D.frozen? ⟨A,1,none⟩=false:=by
 have e:=G.block A ai (fun e=>by have:=(h.lt A e.symm).1;omega);rw[ku (a:=⟨A,1,none⟩) e,ku (a:=⟨A,1,none⟩) (kt ai)];exact hc
theorem yA(w:World)(A base:Nat)(code:Int)(add:List Int)(bh:Int)(wr:Bool)(n:Int)(h:LS w A base code add bh wr)(hl:add.length<=1000) :
  Calls prog 195 #[.pointer (some ⟨A,0,none⟩),.int .i64 n] w fun e w'=>e=.returned (.tuple #[])/\LS w' A base code (add++[IntKind.u8.wrap n]) bh wr/\LGrow w w' base A:=by
 obtain⟨S,hi,U,V,Z⟩:=kQ Tryz.infoU8;obtain⟨a,m,c,k1,I⟩:=h.c1;have f1:=h.fz 1;have J:=h.lt;have KR:=h.le;have M:A<w.heap.size:=ke h.lt h.le;have HL:=oP h;have D:=oP I;have O:=oP k1;obtain⟨x,hx⟩:=Zg0 (IntKind.u8.wrap n);rw[hx];clear h I;go_enter func195,ntmps195;go_wp2_with (at_builtin;refine kH _ rfl _ _ 32 rfl base 5 S _ 1 1 underlying32 hi U V Z rfl ah _ _ _ rfl (D.o.alloc _) ⟨w.heap.size,0,none⟩ 1 1 [.int .u8 x] rfl rfl l8 ax ak ae ai ?_;intro v' wn R G _ _;obtain⟨a',n',c',rfl⟩:=rW R;have r1:=Z7n D.o G O.o J M;have r2:=Z0l D.o G f1 J M);go_end0;have hh:=Z5D HL.o O.o D.o R G;exact⟨rfl,hh.1,hh.2⟩
theorem Er(w:World)(A base:Nat)(code:Int)(add:List Int)(bh:Int)(wr:Bool)(n:Int)(h:LS w A base code add bh wr)(J:add.length<=999) :
  Calls prog 196 #[.pointer (some ⟨A,0,none⟩),.int .i64 n] w fun e w'=>e=.returned (.tuple #[])/\LS w' A base code ((add++[IntKind.u8.wrap (n/256)])++[IntKind.u8.wrap n]) bh wr/\LGrow w w' base A:=by
 have D:=oP (yA w A base code add bh wr (n/256) h ae);clear h;go_enter func196,ntmps196;go_wp2_with fail;refine D.o.mono ?_;rintro e G ⟨rfl,h1,g1⟩;have I:=oP (yA G A base code _ bh wr n h1 ai);clear h1;go_wp2_with fail;refine I.o.mono ?_;rintro e M ⟨rfl,h2,g2⟩;go_wp2_with fail;go_end0;exact⟨rfl,h2,g1.trans g2⟩
theorem Z4Q(w:World)(A base:Nat)(code:Int)(add:List Int)(bh:Int)(wr:Bool)(n:Int)(h:LS w A base code add bh wr) :
  Calls prog 141 #[.pointer (some ⟨A,0,none⟩),.int .i64 n] w fun e w'=>e=.returned (.tuple #[])/\LS w' A base (bits BinOp.or IntKind.u8 code (IntKind.u8.wrap n)) add bh wr/\LGrow w w' base A:=by
 have c0:=h.c0;have f0:=h.fz 0;have G:A<w.heap.size:=ke h.lt h.le;have D:=oP h;clear h;go_enter func141,ntmps141;go_wp2;go_end0;exact⟨rfl,D.o.code0 _,(LGrow.refl _ _ _).set _ _⟩
theorem Z0h(v u:Value)(w:World) :
  Calls prog 138 #[v,u] w fun e w'=>e=.returned (.tuple #[])/\w'=w:=by
 go_enter func138,ntmps138;go_wp2;go_end0;exact⟨rfl,rfl⟩
theorem Z6N(w:World)(yb base:Nat)(code:Int)(add:List Int)(bh:Int)(wr:Bool)(n:Int)(h:LS w yb base code add bh wr)(A:add.length<=900) :
  Calls prog 143 #[.pointer (some ⟨yb,0,none⟩),.int .i64 n] w fun e w'=>e=.returned (.tuple #[])/\LS w' yb base code (add++[IntKind.u8.wrap n]) bh (wr||pe n (-128) (255))/\LGrow w w' base yb:=by
 have H1:=oP (xB w yb base code add bh wr n (-128) (255) h);clear h;go_enter func143,ntmps143;exact MaI
theorem Z6a(w:World)(yb base:Nat)(code:Int)(add:List Int)(bh:Int)(wr:Bool)(n:Int)(h:LS w yb base code add bh wr)(A:add.length<=900) :
  Calls prog 146 #[.pointer (some ⟨yb,0,none⟩),.int .i64 n] w fun e w'=>e=.returned (.tuple #[])/\LS w' yb base code ((add++[IntKind.u8.wrap (n/256)])++[IntKind.u8.wrap n]) bh (wr||pe n (-32768) (65535))/\LGrow w w' base yb:=by
 have H1:=oP (xB w yb base code add bh wr n (-32768) (65535) h);clear h;go_enter func146,ntmps146;exact MaJ
theorem Z01(w:World)(yb base:Nat)(code:Int)(add:List Int)(bh:Int)(wr:Bool)(n:Int)(h:LS w yb base code add bh wr)(A:add.length<=900) :
  Calls prog 149 #[.pointer (some ⟨yb,0,none⟩),.int .i64 n] w fun e w'=>e=.returned (.tuple #[])/\LS w' yb base code (add++[IntKind.u8.wrap n]) bh (wr||pe n (0) (255))/\LGrow w w' base yb:=by
 have H1:=oP (xB w yb base code add bh wr n (0) (255) h);clear h;go_enter func149,ntmps149;exact MaI
theorem Z3T(w:World)(yb base:Nat)(code:Int)(add:List Int)(bh:Int)(wr:Bool)(n:Int)(h:LS w yb base code add bh wr)(A:add.length<=900) :
  Calls prog 152 #[.pointer (some ⟨yb,0,none⟩),.int .i64 n] w fun e w'=>e=.returned (.tuple #[])/\LS w' yb base code ((add++[IntKind.u8.wrap (n/256)])++[IntKind.u8.wrap n]) bh (wr||pe n (0) (65535))/\LGrow w w' base yb:=by
 have H1:=oP (xB w yb base code add bh wr n (0) (65535) h);clear h;go_enter func152,ntmps152;exact MaJ
theorem w64(n:Int)(h0:-9223372036854775808<=n)(h1:n<=9223372036854775807):wrap64 n=n:=by unfold wrap64;omega
def vf(bh n:Int):Int:=IntKind.i16.wrap (IntKind.u16.wrap (IntKind.u16.wrap n-bh))
theorem Z5P(w:World)(A base:Nat)(code:Int)(add:List Int)(bh:Int)(wr:Bool)(n:Int)(h:LS w A base code add bh wr)(S:add.length<=900) :
  Calls prog 154 #[.pointer (some ⟨A,0,none⟩),.int .i64 n] w fun e w'=>e=.returned (.tuple #[])/\LS w' A base code (add++[IntKind.u8.wrap (vf bh n)]) bh ((wr||pe n 0 65535)||pe (vf bh n) (-128) 127)/\LGrow w w' base A:=by
 have D:=oP (xB w A base code add bh wr n 0 65535 h);have G:Hid (IntKind.i16.wrap (IntKind.u16.wrap (IntKind.u16.wrap n-bh))=vf bh n):=rfl;have U:-32768<=vf bh n/\vf bh n<=32767:=bounds_i16 (wf_wrap _ _);generalize vf bh n=d at *;have I:=oP (w64 d ae ae);clear h;go_enter func154,ntmps154;go_wp2_with fail;refine D.o.mono ?_;rintro e J ⟨rfl,h1,g1⟩;have c2:=h1.c2;have M:=oP h1;clear h1;go_wp2_with fail;rw[G.o,I.o];refine(xB J A base code add bh _ d (-128) 127 M.o).mono ?_;rintro e O ⟨rfl,h2,g2⟩;have R:=oP (yA O A base code add bh _ d h2 ae);clear h2;go_wp2_with fail;refine R.o.mono ?_;rintro e V ⟨rfl,h3,g3⟩;go_wp2_with fail;go_end0;exact⟨rfl,h3,(g1.trans g2).trans g3⟩
def uC(bh:Int):Int:=bits BinOp.and IntKind.u16 bh 63488
def uV(code n:Int):Int:=bits BinOp.or IntKind.u8 code (n/256%256*32%256)
theorem Z5R(w:World)(A base:Nat)(code:Int)(add:List Int)(bh:Int)(wr:Bool)(n:Int)(h:LS w A base code add bh wr)(R:add.length<=900) :
  Calls prog 156 #[.pointer (some ⟨A,0,none⟩),.int .i64 n] w fun e w'=>e=.returned (.tuple #[])/\LS w' A base (uV code n) (add++[IntKind.u8.wrap n]) bh (wr||pe n (uC bh) (uC bh+2047))/\LGrow w w' base A:=by
 have c2:=h.c2;have G:Hid (bits BinOp.and IntKind.u16 bh 63488=uC bh):=rfl;have I:Hid (bits BinOp.or IntKind.u8 code (n/256%256*32%256)=uV code n):=rfl;have S:0<=uC bh/\uC bh<=65535:=bounds_u16 (wf_bits _ _ _ _);have J:=oP h;generalize uC bh=f at *;generalize uV code n=D at *;clear h;go_enter func156,ntmps156;go_wp2_with fail;rw[G.o,w64 f ae ae,w64 (f+2048) ae ae,w64 (f+2048-1) ae ae,show f+2048-1=f+2047 by omega];refine(xB w A base code add bh wr n f (f+2047) J.o).mono ?_;rintro e M ⟨rfl,h1,g1⟩;have c0:=h1.c0;have f0:=h1.fz 0;have U:A<M.heap.size:=ke h1.lt h1.le;have O:=oP (h1.code0 D);clear h1;go_wp2_with fail;rw[I.o];refine(yA _ A base D add bh _ n O.o ae).mono ?_;rintro e V ⟨rfl,h3,g3⟩;go_wp2_with fail;go_end0;exact⟨rfl,h3,(g1.set _ _).trans g3⟩
structure LayD where
 code:Int
 add:List Int
 wrong:Bool
def pF(bh:Int)(k:Nat)(n:Int)(s:LayD):LayD:=
 if k<=6 then s
 else if k<=8 then {s with code:=bits BinOp.or IntKind.u8 s.code (IntKind.u8.wrap n)}
 else if k=9 then {s with add:=s.add++[IntKind.u8.wrap n],wrong:=s.wrong||pe n (-128) 255}
 else if k=10 then {s with add:=(s.add++[IntKind.u8.wrap (n/256)])++[IntKind.u8.wrap n],wrong:=s.wrong||pe n (-32768) 65535}
 else if k<=13 then {s with add:=s.add++[IntKind.u8.wrap n],wrong:=s.wrong||pe n 0 255}
 else if k=14 then {s with add:=(s.add++[IntKind.u8.wrap (n/256)])++[IntKind.u8.wrap n],wrong:=s.wrong||pe n 0 65535}
 else if k=15 then {s with add:=s.add++[IntKind.u8.wrap (vf bh n)],wrong:=(s.wrong||pe n 0 65535)||pe (vf bh n) (-128) 127}
 else {code:=uV s.code n,add:=s.add++[IntKind.u8.wrap n],wrong:=s.wrong||pe n (uC bh) (uC bh+2047)}
def xe(k:Nat):Nat:=
 if k<=6 then 138
 else if k<=8 then 141
 else if k=9 then 143
 else if k=10 then 146
 else if k<=13 then 149
 else if k=14 then 152
 else if k=15 then 154
 else 156
theorem Z5B(k:Nat)(h:k<17):rA[3*k]?=some (fv (xe k)):=MaM
theorem Z5Q(k:Nat)(args:Array Value)(w:World):(callFunc (xe k) args).run prog w=.ok (.enter (xe k) args) w:=by
 unfold xe;repeat' split
 ·exact enters_of func138 aj rfl args w
 ·exact enters_of func141 aj rfl args w
 ·exact enters_of func143 aj rfl args w
 ·exact enters_of func146 aj rfl args w
 ·exact enters_of func149 aj rfl args w
 ·exact enters_of func152 aj rfl args w
 ·exact enters_of func154 aj rfl args w
 exact enters_of func156 aj rfl args w
theorem Z3s(w:World)(A base k:Nat)(bh n:Int)(s:LayD)(h:LS w A base s.code s.add bh s.wrong)(D:s.add.length<=900) :
  Calls prog (xe k) #[.pointer (some ⟨A,0,none⟩),.int .i64 n] w fun e w'=>e=.returned (.tuple #[])/\LS w' A base (pF bh k n s).code (pF bh k n s).add bh (pF bh k n s).wrong/\LGrow w w' base A:=by
 unfold xe pF;by_cases G:k<=6
 ·rw[jT G,jT G];refine(Z0h _ _ _).mono ?_;rintro e w' ⟨rfl,rfl⟩;exact⟨rfl,h,LGrow.refl _ _ _⟩
 rw[jS G,jS G];by_cases I:k<=8
 ·rw[jT I,jT I];exact Z4Q w A base _ _ bh _ n h
 rw[jS I,jS I];by_cases J:k=9
 ·rw[jT J,jT J];exact Z6N w A base _ _ bh _ n h D
 rw[jS J,jS J];by_cases M:k=10
 ·rw[jT M,jT M];exact Z6a w A base _ _ bh _ n h D
 rw[jS M,jS M];by_cases O:k<=13
 ·rw[jT O,jT O];exact Z01 w A base _ _ bh _ n h D
 rw[jS O,jS O];by_cases R:k=14
 ·rw[jT R,jT R];exact Z3T w A base _ _ bh _ n h D
 rw[jS R,jS R];by_cases S:k=15
 ·rw[jT S,jT S];exact Z5P w A base _ _ bh _ n h D
 rw[jS S,jS S];exact Z5R w A base _ _ bh _ n h D
def ve(e:List Trm):Bool:=e.any fun t=>decide (65535<t.num)
def pB(es:List (List Trm)):Bool:=es.any ve
theorem zH{α:Type}{l:List α}{p:α->Bool}{j:Nat}(h:j<l.length)(h1:(l.take j).any p=false)(h2:p l[j]=false):(l.take (j+1)).any p=false:=by
 rw[lR,jX h,nV,h1];simp[h2]
theorem Bh(w:World)(base:Nat)(es:List (List Trm))(l0 p0:Int)(lb:ByteArray)(tk:Int)(nm:ByteArray)(va:Option Addr)(U vc:Nat)(cd:Int)(ka:Option Addr)(kn kc:Nat)(sz:Int)(hv:VAt w base (.slice va U vc) es)(hn:es.length<=1000000)(hc:pL es<=1000000) :
  Calls prog 170 #[.agg #[.int .i64 l0,.int .i64 p0,.string lb,.int .i64 tk,.string nm,.slice va U vc,.int .u8 cd,.slice ka kn kc,.int .i64 sz]] w fun e w'=>e=.returned (.bool (pB es))/\Below w.heap.size w w':=by
 obtain⟨vs,V,hE⟩:=hv;obtain⟨a',c',G⟩:=sP V;obtain rfl:U=es.length:=by cases G;rfl
 have Ki:=oP V;have HE:=oP (fun j (h:j<es.length)=>zQ hE j h);have HC:=oP hc;have Vg:(es.length:Int)<=1000000:=ae;clear V hE G hc;go_enter func170,ntmps170;go_wp2_with fail;go_loopw [10] (fun i wr=>∃j:Nat,j<=es.length/\i=.int .i64 j/\(es.take j).any ve=false/\Below w.heap.size w wr) (fun i _=>es.length-(intOf i).toNat)
 case atStart=>exact⟨0,j4,rfl,rfl,jV.alloc jU _⟩
 case round=>
  obtain⟨j,hj,rfl,K0,A⟩:=hrel;have HB:=oP A;have LM:=oP K0;clear A K0;by_cases R:j<es.length
  ·have K6:(j:Int)<(es.length:Int):=by omega
   obtain⟨g,Kd,G⟩:=xU Ki.o ae;cases G;obtain⟨x,hx,S⟩:=HE.o j R;have cj:=(xO (rO Ki.o HB.o)).2 j x hx;obtain⟨xa,xc,rfl⟩:=sP S;obtain⟨E,Z⟩:=Zg0 (es[j]);have h1:=Hs es j R;have h2:=J8 es (j+1);rw[Z]at S cj h1;have HX:=oP S;have Vr0:(E.length:Int)<=1000000:=by have:=HC.o;omega
   have I:=oP Z;clear hx S h1 h2 Z;go_wp2_with fail;go_loopw [16] (fun i wr=>∃k:Nat,k<=E.length/\i=.int .i64 k/\(E.take k).any (fun t=>decide (65535<t.num))=false/\Below w.heap.size w wr) (fun i _=>E.length-(intOf i).toNat)
   case atStart=>exact⟨0,j4,rfl,rfl,HB.o⟩
   case round=>
    clear HB cj;obtain⟨k,hk,rfl,J,A⟩:=hrel;by_cases O9:k<E.length
    ·have QR:(k:Int)<(E.length:Int):=by omega
     obtain⟨gx,cx,G⟩:=xU HX.o ae;cases G;have M:=(xO (rO HX.o A)).2;obtain⟨t0,t1,t2,t3⟩:=I0 E k O9;obtain⟨t,ht⟩:=Zg0 (E[k]);rw[ht]at t0 t1 t2 t3;have d0:=M _ _ t0;have d1:=M _ _ t1;have d2:=M _ _ t2;have d3:=M _ _ t3;have HT:=oP ht;have D:=oP J;have HB:=oP A;have WK:=A.size;clear M t0 t1 t2 t3 ht A J;obtain⟨mi,nn,he,nu⟩:=t;simp only at d0 d1 d2 d3;by_cases O:65535<nu
     ·go_wp2;go_ret;refine⟨?_,HB.o.alloc WK _⟩
      have hm:pB es=true:=by
       unfold pB;rw[mj];refine⟨E,by rw[<-I.o];exact kC R,?_⟩;unfold ve;rw[mj];exact⟨E[k],kC O9,by rw[HT.o];simpa using O⟩
      rw[hm];rfl
     go_wp2;go_roundw
     case rel=>exact⟨k+1,ae,ao,zH O9 D.o (by rw[HT.o];simpa using O),HB.o.alloc WK _⟩
     case measure=>simp[intOf];omega
    have QR:¬(k:Int)<(E.length:Int):=ae;have ek:k=E.length:=ae;subst ek;rw[mL]at J;have D:=oP J;have HB:=oP A;clear J A;go_wp2;go_roundw
    case rel=>exact⟨j+1,ae,ao,zH R LM.o (by rw[I.o];exact D.o),HB.o⟩
    case measure=>simp[intOf];omega
  have K6:¬(j:Int)<(es.length:Int):=ae;have ej:j=es.length:=ae;subst ej;go_wp2;go_ret;refine⟨?_,HB.o⟩;have:=LM.o;rw[mL]at this;show Ending.returned (.bool false)=.returned (.bool (pB es));unfold pB;rw[this]
def NamesAt(w:World)(nb n:Nat)(nm:List UInt8->Option Int):Prop:=MapAt prog 9 w nb n (fun l=>(nm l).map fun x=>.int .i64 x)
theorem NamesAt.below{w w':World}{nb n:Nat}{nm:List UInt8->Option Int}(h:NamesAt w nb n nm)(A:Below w.heap.size w w'):NamesAt w' nb n nm:=MapAt.below h A (MapAt.lt h)
def pS(nm:List UInt8->Option Int)(pl:Int)(t:Trm):Int:=if t.name.size≠0 then (nm t.name.data.toList).getD 0 else if t.here=true then pl else t.num
def qj(nm:List UInt8->Option Int)(pl:Int):Int->List Trm->Option Int
 |s,[]=>some s
 |s,t::l=>if (if t.minus=true then s-pS nm pl t else s+pS nm pl t) < -1000000\/1000000<(if t.minus=true then s-pS nm pl t else s+pS nm pl t) then none else qj nm pl (if t.minus=true then s-pS nm pl t else s+pS nm pl t) l
theorem Z7b(w:World)(nb n:Nat)(nm:List UInt8->Option Int)(pl:Int)(t:Trm)(h:NamesAt w nb n nm)(hs:t.name.size<=1000000) :
  Calls prog 254 #[.agg #[.bool t.minus,.string t.name,.bool t.here,.int .i64 t.num],.map (some nb),.int .i64 pl] w fun e w'=>e=.returned (.int .i64 (pS nm pl t))/\Below w.heap.size w w':=by
 have LQ:∀o,Below w.heap.size w (w.alloc o):=fun o=>(jV).alloc jU _
 by_cases h1:t.name.size=0
 ·have D:t.name.toList.isEmpty=true:=by rw[qw];simp[h1]
  cases h2:t.here with
  |true=>
   have e:pS nm pl t=pl:=by unfold pS;rw[jS ae,jT h2]
   exact Mcw
  |false=>
   have e:pS nm pl t=t.num:=by unfold pS;rw[jS ae,jS cG]
   exact Mcw
 have D:t.name.toList.isEmpty=false:=by rw[qw,lC];exact h1
 have A:keyOf prog 9 (.string t.name)=some (.string t.name.data.toList):=kO underlying9 ak
 have e:uB false (.int .i64 0) ((nm t.name.data.toList).map fun x=>.int .i64 x)=.int .i64 (pS nm pl t):=by
  unfold pS;rw[jT h1];cases nm t.name.data.toList <;> rfl
 have G:∀o,(Instr.lookup 119 (.map (some nb)) (.string t.name) false).run prog (w.alloc o)=.ok (.int .i64 (pS nm pl t)) (w.alloc o):=fun o=>by
  rw[(MapAt.alloc h o).look rz underlying119 (Bn _) A false,e]
 clear e A;go_enter func254,ntmps254;go_wp2;go_ret;exact⟨rfl,LQ _⟩
theorem Z4i(l:List Trm):∀(k:Nat) (t:Trm),l[k]?=some t->(pN l)[k*4]?=some (.bool t.minus)/\(pN l)[k*4+1]?=some (.string t.name)/\(pN l)[k*4+2]?=some (.bool t.here)/\(pN l)[k*4+3]?=some (.int .i64 t.num):=by
 induction l with
 |nil=>intro k t h;simp at h
 |cons o l ih=>
  intro k t h;cases k with
  |zero=>simp at h;subst h;simp[pN,Trm.cells]
  |succ k=>
   have:=ih k t av;have e:∀i,(pN (o::l))[(k+1)*4+i]?=(pN l)[k*4+i]?:=Mci;have A:=e 0;simp only[kK]at A;rw[A,e 1,e 2,e 3];exact this
theorem Z1i{nm:List UInt8->Option Int}{pl s:Int}{l:List Trm}{k:Nat}{t:Trm}(h:l[k]?=some t):qj nm pl s (l.drop k)=if (if t.minus=true then s-pS nm pl t else s+pS nm pl t) < -1000000\/1000000<(if t.minus=true then s-pS nm pl t else s+pS nm pl t) then none else qj nm pl (if t.minus=true then s-pS nm pl t else s+pS nm pl t) (l.drop (k+1)):=by
 have hk:=(mh.1 h).1;have ht:=(mh.1 h).2;rw[lY hk,ht];rfl
def Z8T(o:Option Int):Ending:=match o with
 |some v=>.returned (.tuple #[.int .i64 v,.bool true])
 |none=>.returned (.tuple #[.int .i64 0,.bool false])
theorem Z9S(w:World)(base nb n:Nat)(nm:List UInt8->Option Int)(pl:Int)(v:Value)(l:List Trm)(h:NamesAt w nb n nm)(Ke:w.ownsRow base 261 4 v l.length (pN l))(hl:l.length<=1000000)(hs:∀t∈l,t.name.size<=1000000)(V:∀t∈l,-1000000<=pS nm pl t/\pS nm pl t<=1000000) :
  Calls prog 218 #[v,.map (some nb),.int .i64 pl] w fun e w'=>e=Z8T (qj nm pl 0 l)/\Below w.heap.size w w':=by
 obtain⟨a,Kd,rfl⟩:∃a Kd,v=.slice a l.length Kd:=MbY;have HN:=oP h;have HS:=oP hs;have HV:=oP V;obtain⟨R,O⟩:=Zg0 (qj nm pl 0 l);rw[O];have HR:=oP O;have Z:=oP Ke;clear h hs V O Ke;go_enter func218,ntmps218;go_wp2_with fail;go_loopw [8,13] (fun v8 G wr=>∃(k:Nat) (s:Int),v8=.int .i64 s/\G=.int .i64 k/\k<=l.length/\-1000000<=s/\s<=1000000/\Hid (qj nm pl s (l.drop k)=R)/\Below w.heap.size w wr) (fun _ G _=>l.length-(intOf G).toNat)
 case atStart=>exact⟨0,0,af,af,ae,ae,ae,oP (by rw[List.drop_zero];exact HR.o),jV⟩
 case round=>
  obtain⟨k,s,rfl,rfl,hk,ZK,MK,S,hb⟩:=hrel;have hz:=hb.size;by_cases Kf:k<l.length
  ·obtain⟨t,ht⟩:∃t,l[k]?=some t:=⟨_,jX Kf⟩;have U:=lT ht
   obtain⟨g,rfl⟩:∃g,a=some ⟨g,0,none⟩:=by
    obtain⟨_,⟨h',VM1⟩|⟨g,O7,KG,h',_⟩⟩:=id Z.o
    ·omega
    cases h';exact⟨g,rfl⟩
   have J:=Z.o.below3 hb;have Mw:=(J.lt g rfl).2;have hc:=Z4i l k t ht;have d0:wr.cell? ⟨g,k*4,none⟩=some (.bool t.minus):=by rw[J.cellAt (k*4) ae];exact hc.1
   have d1:wr.cell? ⟨g,k*4+1,none⟩=some (.string t.name):=by rw[J.cellAt (k*4+1) ae];exact hc.2.1
   have d2:wr.cell? ⟨g,k*4+2,none⟩=some (.bool t.here):=by rw[J.cellAt (k*4+2) ae];exact hc.2.2.1
   have d3:wr.cell? ⟨g,k*4+3,none⟩=some (.int .i64 t.num):=by rw[J.cellAt (k*4+3) ae];exact hc.2.2.2
   have HT:=oP (fun o=>Z7b (wr.alloc o) nb n nm pl t (HN.o.below (hb.alloc hz o)) (HS.o t U));have D:=HV.o t U;have A:=Z1i (nm:=nm) (pl:=pl) (s:=s) ht;rw[S.o]at A;obtain⟨x,hx⟩:=Zg0 (pS nm pl t);rw[hx]at A D HT;have x0:=D.1;have x1:=D.2;clear hc ht U D S hx J;cases M:t.minus with
   |true=>
    rw[M]at d0 A HT;simp only[mC]at A;have I:=oP A;clear A;by_cases q1:s-x < -1000000
    ·have Ld:=oP (show R=none by rw[I.o,jT (.inl q1)]);exact Mbk
    by_cases q2:1000000<s-x
    ·have Ld:=oP (show R=none by rw[I.o,jT (.inr q2)]);exact Mbk
    have Ld:=oP (show qj nm pl (s-x) (l.drop (k+1))=R by rw[I.o,jS ae]);go_wp2_with (refine(HT.o _).mono ?_;rintro e w3 ⟨rfl,Kq⟩);go_roundw
    case rel=>exact⟨k+1,s-x,ao,ao,ae,ae,ae,Ld,(hb.alloc hz _).trans (Kq.mono ai)⟩
    case measure=>simp[intOf];omega
   |false=>
    rw[M]at d0 A HT;simp only[nS,mB]at A;have I:=oP A;clear A;by_cases q1:s+x < -1000000
    ·have Ld:=oP (show R=none by rw[I.o,jT (.inl q1)]);exact Mbk
    by_cases q2:1000000<s+x
    ·have Ld:=oP (show R=none by rw[I.o,jT (.inr q2)]);exact Mbk
    have Ld:=oP (show qj nm pl (s+x) (l.drop (k+1))=R by rw[I.o,jS ae]);go_wp2_with (refine(HT.o _).mono ?_;rintro e w3 ⟨rfl,Kq⟩);go_roundw
    case rel=>exact⟨k+1,s+x,ao,ao,ae,ae,ae,Ld,(hb.alloc hz _).trans (Kq.mono ai)⟩
    case measure=>simp[intOf];omega
  have Ld:=oP (show R=some s by rw[<-S.o,mY ae];rfl);go_wp2_with fail;go_ret2;rw[Ld.o];exact⟨rfl,hb⟩
