import Derived.Test.YthokdbcpkmcieaaGreatDoorH23
set_option maxRecDepth 200000
set_option maxHeartbeats 16000000
namespace Go.Proofs.YthokdbcpkmcieaaGreatDoor
open RowKit Proofs.Tryz
structure MarkTo(w w':World)(g:Option Nat)(e:TypeId)(t:Value):Prop where
 grown:w.grownBy w' g
 kept:∀k cur,some k=g->w.heap[k]?=some (.cells cur e (0,0))->∃cur',w'.heap[k]?=some (.cells cur' e (0,0))/\cur'.size=cur.size/\∀j:Nat,cur[j]?=some t->cur'[j]?=some t
theorem MarkTo.of_same{w w':World}{g:Option Nat}{e:TypeId}{t:Value}(h:w.grownBy w' none):MarkTo w w' g e t:=
 ⟨⟨h.os,h.tape,h.output,h.size,fun k hk _=>h.block k hk af⟩,fun k A _ hc=>⟨A,by rw[h.block k (kV.1 hc).1 af];exact hc,rfl,fun _ D=>D⟩⟩
theorem MarkTo.trans{a b c:World}{g:Option Nat}{e:TypeId}{t:Value}(h:MarkTo a b g e t)(k:MarkTo b c g e t):MarkTo a c g e t:=
 ⟨h.grown.trans k.grown,fun i G hi hc=>by
  obtain⟨A,h1,h2,h3⟩:=h.kept i G hi hc
  obtain⟨D,I,J,M⟩:=k.kept i A hi h1
  exact⟨D,I,J.trans h2,fun j O=>M j (h3 j O)⟩⟩
theorem Z7R{l:List Value}{n:Nat}{t:Value}(h:l.take n=List.replicate n t)(j:Nat)(A:j<n):l[j]?=some t:=by
 have:(l.take n)[j]?=some t:=by rw[h,mG,jT A]
 rwa [n9,jT A]at this
theorem Z9g{l:List Value}{n:Nat}{t:Value}(h:∀j,j<n->l[j]?=some t):l.take n=List.replicate n t:=by
 apply List.ext_getElem?;intro j;rw[n9,mG];by_cases A:j<n
 ·rw[jT A,jT A];exact h j A
 rw[jS A,jS A]
theorem MarkTo.full{w w':World}{g:Option Nat}{e:TypeId}{t:Value}(h:MarkTo w w' g e t){base:Nat}{v:Value}{n:Nat}(O:w.ownsRow base e 1 v n (List.replicate n t)):w'.ownsRow base e 1 v n (List.replicate n t):=by
 obtain⟨h1,h2|⟨b,D,G,rfl,I,hc,hn,J,hs,ht⟩⟩:=O
 ·exact⟨h1,.inl h2⟩
 refine⟨h1,.inr ?_⟩;rw[kR]at hs ht;have R:b<w.heap.size:=(kV.1 hc).1;by_cases M:some b=g
 ·obtain⟨A,S,U,V⟩:=h.kept b G M hc;refine⟨b,D,A,rfl,I,S,hn,J,by rw[U,hs,kR],?_⟩;rw[kR];refine Z9g (fun j Z=>?_);have:=Z7R ht j Z;rw[oA]at this⊢;exact V j this
 exact⟨b,D,G,rfl,I,(h.grown.block b R M).trans hc,hn,J,by rw[hs,kR],by rw[kR];exact ht⟩
theorem Cf(n m:Nat)(t:Value):List.replicate n t++List.replicate m t=List.replicate (n+m) t:=by rw[List.replicate_append_replicate]
theorem Iw(n:Nat)(u:Value)(l:List Value):(List.replicate n u++l).take n=List.replicate n u:=by
 rw[List.take_append_of_le_length (by rw[ld];exact jU),List.take_replicate,Nat.min_self]
theorem Z1t{P:Program}(w:World)(base:Nat)(t M e:TypeId)(i:TypeInfo)(z:Value)(bytes:Nat)(ht:P.underlying t=some (.slice e))(hi:P.info? e=some i)(hz:i.zero=some z)
  (O:i.size=1) (Pn:i.bytes=bytes) (NG:z.cells.size=1) (u:Value) (hu:u.oneCell'=true)
  (v:Value) (n:Nat) (Kc:w.ownsRow base e 1 v n (List.replicate n u))
  (a:Addr) (m c:Nat) (Ve5:0<m) (U:∀j x,(List.replicate m u)[j]?=some x->w.cell? (a.add j)=some x)
  (ZG:n+m<=maxLen) (Ly:(n+m)*bytes<=140737488355328) (Mr:base<=w.heap.size) :
  ∃R w',(Builtin.append_ #[t,t] M #[v,.slice (some a) m c]).run P w=.ok R w'/\w'.ownsRow base e 1 R (n+m) (List.replicate (n+m) u)/\MarkTo w w' v.ownBlock e u/\(R.ownBlock=v.ownBlock\/R.ownBlock=some w.heap.size):=by
 subst Pn;have h1:∀x∈List.replicate m u,x.oneCell'=true:=fun x hx=>by rw[(List.mem_replicate.1 hx).2];exact hu
 have V:(List.replicate m u).length=m*i.size:=by rw[ld,O,kR]
 have WL2:n+m<=9223372036854775807:=by simp only[maxLen]at ZG;omega
 have grown:∀(A:Nat),A<n+m ->
   (w.drew.alloc (.cells ((List.replicate n u).toArray++(List.replicate m u).toArray++Builtin.zeroCells z.cells (grownCap w (n+m) A e-(n+m))) e)).ownsRow base e 1
    (.slice (some ⟨w.heap.size,0,none⟩) (n+m) (grownCap w (n+m) A e)) (n+m) (List.replicate (n+m) u) /\
   w.grownBy (w.drew.alloc (.cells ((List.replicate n u).toArray++(List.replicate m u).toArray++Builtin.zeroCells z.cells (grownCap w (n+m) A e-(n+m))) e)) none:=by
  intro A ho;have MV:=grownCap_ge w (n+m) A e;have Z:grownCap w (n+m) A e<=maxLen:=grownCap_le_maxLen w (n+m) A e ZG;refine⟨⟨by rw[ld,kR],.inr ⟨w.heap.size,_,_,rfl,Mr,kg w.drew _,MV,Z,?_,?_⟩⟩,⟨rfl,rfl,rfl,af,fun k hk _=>Below.heap_alloc w.drew _ k hk⟩⟩
  ·simp only[T0r,lJ,size_zeroCells,NG,ld,kR];omega
  rw[kR];simp only[T0v,Cf];exact Iw _ _ _
 rcases Kc.2 with⟨rfl,rfl⟩|⟨g,G,D,rfl,Vw1,S,Wv0,Z,LZ,Xw⟩
 ·have I:=run_append_nil (P:=P) w t M e i z ht hi hz a m c (List.replicate m u) V U ae ae (by have hb:=Ly;simp only[kN]at hb;omega);have J:=grown 0 ae;simp only[kN,List.replicate_zero,Array.empty_append]at J⊢;exact⟨_,_,I,J.1,.of_same J.2,Or.inr rfl⟩
 rw[kR]at LZ Xw;by_cases Uu:n+m<=G
 ·have Lg:n*i.size+(List.replicate m u).length<=D.size:=by rw[ld,O,kR,LZ];exact Uu
  have I:=run_append_room (P:=P) w t M e i ht hi g n G D S a m c (List.replicate m u) V U h1 Uu Lg;rw[O,kR,Xw,ld,Cf]at I
  have KY:∀j:Nat,D[j]?=some u->(List.replicate (n+m) u++D.toList.drop (n+m)).toArray[j]?=some u:=by
   intro j hj;rw[nP];by_cases TR:j<n+m
   ·rw[lz (by rw[ld];exact TR),mG,jT TR]
   rw[lr (by rw[ld];omega),ld,mK,show n+m+(j-(n+m))=j by omega,oA];exact hj
  have TW:(List.replicate (n+m) u++D.toList.drop (n+m)).toArray.size=G:=by
   simp only[lJ,kq,ld,mD,kE];omega
  refine⟨_,_,I,⟨by rw[ld,kR],.inr ⟨g,G,_,rfl,Vw1,setRow_heap w g D _ e _ S,Uu,Z,by rw[TW,kR],?_⟩⟩,⟨⟨rfl,rfl,rfl,af,fun k _ hk=>setRow_other w g k _ (fun e=>hk (by simp[Value.ownBlock,e]))⟩,?_⟩,Or.inl rfl⟩
  ·rw[kR];exact Iw _ _ _
  intro k Vw2 hk Sr;simp only[Value.ownBlock,me]at hk;subst hk;rw[S]at Sr;simp only[me,Obj.cells.injEq,mX]at Sr;subst Sr;exact⟨_,setRow_heap w k D _ e _ S,by rw[TW,LZ],KY⟩
 have Wm0:∀j x,(List.replicate n u)[j]?=some x->w.cell? ((⟨g,0,none⟩:Addr).add j)=some x:=Kc.cells (g:=g) rfl;have I:=run_append_grow (P:=P) w t M e i z ht hi hz ⟨g,0,none⟩ n G (List.replicate n u) (by rw[ld,O,kR]) Wm0 a m c (List.replicate m u) V U ae ae (growslice_fits ae Ly);have J:=grown G ae;exact⟨_,_,I,J.1,.of_same J.2,Or.inr rfl⟩
theorem DT{P:Program}(w:World){ops:Array Oper}{rest:List Oper}{o:Oper}{a:Act}{Q:Exit->Act->World->Prop}(G:o.guard=none)(s x:Operand)(t:TypeId)
  (ho:o.op=.call {callee:=.builtin .append,args:=#[s,x],argTypes:=#[t,t]})
  (base:Nat) (e:TypeId) (i:TypeInfo) (z:Value) (bytes:Nat) (ht:P.underlying t=some (.slice e)) (hi:P.info? e=some i) (hz:i.zero=some z)
  (I:i.size=1) (J:i.bytes=bytes) (M:z.cells.size=1) (u:Value) (O:u.oneCell'=true)
  (v:Value) (n:Nat) (hs:a.eval s=v) (R:w.ownsRow base e 1 v n (List.replicate n u))
  (A:Addr) (m c:Nat) (hx:a.eval x=.slice (some A) m c) (D:0<m) (S:∀j x,(List.replicate m u)[j]?=some x->w.cell? (A.add j)=some x)
  (U:n+m<=maxLen) (V:(n+m)*bytes<=140737488355328) (Z:base<=w.heap.size)
  (h:∀v' w',w'.ownsRow base e 1 v' (n+m) (List.replicate (n+m) u)->MarkTo w w' v.ownBlock e u->(v'.ownBlock=v.ownBlock\/v'.ownBlock=some w.heap.size)->wpList P ops Q rest (a.put o.dst v') w') :
  wpList P ops Q (o::rest) a w:=by
 refine np G fun K hK=>?_
 obtain⟨v',w',hr,h2,h3,h5⟩:=Z1t (P:=P) w base t o.type e i z bytes ht hi hz I J M u O v n R A m c D S U V Z;exact Mbp
structure Snt where
 l:Value
 a:Value
 b:Value
 c:Value
 m:ByteArray
def wC(e:Snt):List Value:=[e.l,e.a,e.b,e.c,.string e.m]
def rV(e:Snt):List Value:=[e.l,e.a,e.b,e.c]
def tP(w:World)(base A:Nat)(v:Value)(m:ByteArray):Prop:=∃n,n<=3000000/\w.ownsRow base 9 1 v n (List.replicate n (.string m))/\∀g,v.ownBlock=some g->g<A
structure BookS(w:World)(bb base top:Nat)(sv:Value)(es:List Snt):Prop where
 c0:w.cell? ⟨bb,0,none⟩=some sv
 f0:w.frozen? ⟨bb,0,none⟩=false
 lt:bb<base
 le:base<=top
 row:w.ownsRow base 59 5 sv es.length (es.flatMap wC)
 rtop:∀g,sv.ownBlock=some g->g<top
 full:∀e∈es,∀v∈rV e,tP w base top v e.m
 apart:∀e∈es,∀v∈rV e,∀g,v.ownBlock=some g->sv.ownBlock≠some g
theorem EA{w w':World}{base A:Nat}{e:TypeId}{size n:Nat}{v:Value}{xs:List Value}(h:w.ownsRow base e size v n xs)(ht:∀g,v.ownBlock=some g->g<A)(G:∀j,base<=j->j<A->w'.heap[j]?=w.heap[j]?):w'.ownsRow base e size v n xs:=
 qO h (fun j D=>G j (h.lt j D).1 (ht j D))
theorem BookS.kept{w w':World}{A base D:Nat}{G:Value}{es:List Snt}(h:BookS w A base D G es)(I:w'.heap[A]?=w.heap[A]?)(hk:∀j,base<=j->j<D->w'.heap[j]?=w.heap[j]?):BookS w' A base D G es:=
 ⟨(jW I).trans h.c0,(ku I).trans h.f0,h.lt,h.le,EA h.row h.rtop hk,h.rtop,fun e he v J=>by
  obtain⟨n,h1,h2,h3⟩:=h.full e he v J
  exact⟨n,h1,EA h2 h3 hk,h3⟩,h.apart⟩
theorem BookS.up{w:World}{D base G I:Nat}{J:Value}{es:List Snt}(h:BookS w D base G J es)(ht:G<=I):BookS w D base I J es:=
 ⟨h.c0,h.f0,h.lt,j8 h.le ht,h.row,fun g A=>ke (h.rtop g A) ht,fun e he v M=>by
  obtain⟨n,h1,h2,h3⟩:=h.full e he v M
  exact⟨n,h1,h2,fun g A=>ke (h3 g A) ht⟩,h.apart⟩
structure KeptB(c:Nat)(w w':World)(bb top:Nat)(sv sv':Value):Prop where
 os:w'.os=w.os
 tape:w'.tape=w.tape
 output:w'.output=w.output
 size:w.heap.size<=w'.heap.size
 block:∀k,k<top->k≠bb->sv.ownBlock≠some k->w'.heap[k]?=w.heap[k]?
 cell:∀j,j≠c->w'.cell? ⟨bb,j,none⟩=w.cell? ⟨bb,j,none⟩
 fz:∀j,w'.frozen? ⟨bb,j,none⟩=w.frozen? ⟨bb,j,none⟩
 loc:sv'.ownBlock=sv.ownBlock\/∀g,sv'.ownBlock=some g->top<=g
theorem A4{w:World}{base:Nat}{e:TypeId}{v:Value}{n:Nat}{xs:List Value}(h:w.ownsRow base e 1 v n xs){i:Nat}{u:Value}(hi:i<n)(D:xs[i]?=some u):∃g A,v=.slice (some ⟨g,0,none⟩) n A/\w.cell? ⟨g,i,none⟩=some u/\g<w.heap.size:=by
 obtain⟨g,A,rfl,h1,h2⟩:=wG h ae;refine⟨g,A,rfl,?_,aO⟩;have:=h.cells (g:=g) rfl i u D;rwa [k9,kN]at this
theorem Z5Y(w:World)(b1 b2:Nat)(A v2:Value)(n:Nat)(xs:List Value)(I:∀i,i<n->∃u:ByteArray,xs[i]?=some (.string u))(h1:w.ownsRow b1 9 1 A n xs)(h2:w.ownsRow b2 9 1 v2 n xs)(V:n<=4000000) :
  Calls prog 28 #[A,v2] w fun e w'=>e=.returned (.bool true)/\∃n,w'=w.drewN n:=by
 have J:=oP I;have M:=oP h1;have O:=oP h2;obtain⟨a1,c1,rfl⟩:∃a c,A=.slice a n c:=Mb8
 obtain⟨a2,c2,rfl⟩:∃a c,v2=.slice a n c:=by
  rcases h2 with⟨_,⟨rfl,rfl⟩|⟨g,Kd,KG,rfl,_⟩⟩
  ·exact⟨_,_,rfl⟩
  exact⟨_,_,rfl⟩
 clear h1 h2 I;go_enter func28,ntmps28;go_wp2_with fail;go_loopw [5] (fun i wr=>∃k:Nat,k<=n/\i=.int .i64 k/\∃m,wr=w.drewN m) (fun i _=>n-(intOf i).toNat)
 case atStart=>exact⟨0,j4,rfl,0,rfl⟩
 case round=>
  obtain⟨k,hk,rfl,m,rfl⟩:=hrel;by_cases D:k<n
  ·obtain⟨u,G⟩:=J.o k D;obtain⟨g1,d1,e1,R,Z⟩:=A4 M.o D G;obtain⟨g2,d2,e2,S,y2⟩:=A4 O.o D G;simp only[mw]at e1 e2;obtain⟨rfl,_,rfl⟩:=e1;obtain⟨rfl,_,rfl⟩:=e2;clear G;have z1:(w.drewN m).cell? ⟨g1,k,none⟩=some (.string u):=R;have z2:(w.drewN m).cell? ⟨g2,k,none⟩=some (.string u):=S;have N0:(k:Int)<(n:Int):=ae;go_wp2;go_quiet (fail);go_wp2;go_roundw
   case rel=>exact⟨k+1,ae,ao,_,rfl⟩
   case measure=>simp[intOf];omega
  have U:k=n:=ae;subst U;go_wp2;go_ret;exact⟨rfl,_,rfl⟩
theorem Bj(w:World)(base D:Nat)(v:Value)(m:ByteArray)(h:tP w base D v m) :
  Calls prog 25 #[v,.string m] w fun e w'=>e=.returned (.bool true)/\w'=w:=by
 obtain⟨n,hn,h1,_⟩:=h;have G:=oP h1;obtain⟨a1,c1,rfl⟩:∃a c,v=.slice a n c:=Mb8;clear h1;go_enter func25,ntmps25;go_wp2_with fail;go_loopw [5] (fun i wr=>∃k:Nat,k<=n/\i=.int .i64 k/\wr=w) (fun i _=>n-(intOf i).toNat)
 case atStart=>exact⟨0,j4,rfl,rfl⟩
 case round=>
  obtain⟨k,hk,rfl,rfl⟩:=hrel;by_cases A:k<n
  ·obtain⟨g1,d1,e1,J,M⟩:=A4 G.o A (u:=.string m) (by rw[mG,jT A]);simp only[mw]at e1;obtain⟨rfl,_,rfl⟩:=e1;have O:(k:Int)<(n:Int):=ae;go_wp2;go_roundw
   case rel=>exact⟨k+1,ae,ao,trivial⟩
   case measure=>simp[intOf];omega
  have I:k=n:=ae;subst I;go_wp2;go_ret;exact⟨rfl,rfl⟩
theorem EG{w:World}{B base:Nat}{e:TypeId}{size n:Nat}{v:Value}{xs:List Value}(h:w.ownsRow B e size v n xs)(A:base<=B):w.ownsRow base e size v n xs:=by
 obtain⟨h1,h2|⟨g,D,G,rfl,I,h3⟩⟩:=h
 ·exact⟨h1,.inl h2⟩
 exact⟨h1,.inr ⟨g,D,G,rfl,j8 A I,h3⟩⟩
theorem Ap{w:World}{B:Nat}{e:TypeId}{n:Nat}{g A:Nat}{xs:List Value}(h:w.ownsRow B e 1 (.slice (some ⟨g,0,none⟩) n A) n xs){k:Nat}(u:Value):(w.setCell ⟨g,k,none⟩ u).ownsRow B e 1 (.slice (some ⟨g,0,none⟩) n A) n (xs.set k u):=by
 obtain⟨h1,⟨h2,_⟩|⟨M,O,G,D,I,hc,hn,J,hs,ht⟩⟩:=h
 ·cases h2
 simp only[mw,me,T0s,nE,mX]at D;obtain⟨rfl,rfl⟩:=D;rw[kR]at hs ht;refine⟨by rw[mJ];exact h1,.inr ⟨g,A,G.set! k u,rfl,I,?_,hn,J,by rw[Array.set!_eq_setIfInBounds,Array.size_setIfInBounds,hs,kR],?_⟩⟩
 ·simp only[World.setCell,Array.getElem?_modify,mC,hc,nC];rfl
 rw[kR,Array.set!_eq_setIfInBounds,Array.toList_setIfInBounds,List.take_set,ht]
theorem BC{l:List Value}{k:Nat}{u:Value}(hk:k<l.length):(List.replicate k u++l.drop k).set k u=List.replicate (k+1) u++l.drop (k+1):=by
 rw[T0Y _ _ (by rw[ld];exact jU),ld,my,lY hk,List.set_cons_zero,List.replicate_succ',mS];rfl
structure KS(w wx:World)(top B:Nat)(vl:Value)(n:Nat)(m:ByteArray)(xb:Nat)(va vb vc:Value):Prop where
 below:Below top w wx
 row:wx.ownsRow B 9 1 vl n (List.replicate n (.string m))
 cell:∀j u,[vl,va,vb,vc,.string m][j]?=some u->wx.cell? ⟨xb,j,none⟩=some u
 fz:∀j,wx.frozen? ⟨xb,j,none⟩=false
 xlt:xb<wx.heap.size
 full:∀v∈[va,vb,vc],tP wx B wx.heap.size v m
 xne:∀v∈[vl,va,vb,vc],v.ownBlock≠some xb
 xge:top<=xb
 ble:B<=wx.heap.size
 tle:top<=B
theorem Z3v{w w':World}{g:Option Nat}{B:Nat}{v:Value}{m:ByteArray}(h:tP w B w.heap.size v m)(A:MarkTo w w' g 9 (.string m)):tP w' B w'.heap.size v m:=by
 obtain⟨n,h1,h2,h3⟩:=h;exact⟨n,h1,A.full h2,fun g D=>ke (h3 g D) A.grown.size⟩
theorem KS.mark{w M O:World}{R B:Nat}{J:Value}{n:Nat}{m:ByteArray}{D:Nat}{S U V:Value}(h:KS w M R B J n m D S U V)(A:MarkTo M O J.ownBlock 9 (.string m)):KS w O R B J n m D S U V:=by
 have Z:O.heap[D]?=M.heap[D]?:=A.grown.block D h.xlt (fun e=>h.xne J af e.symm);refine⟨?_,A.full h.row,fun j u hu=>(jW Z).trans (h.cell j u hu),fun j=>(ku Z).trans (h.fz j),ke h.xlt A.grown.size,fun v hv=>Z3v (h.full v hv) A,h.xne,h.xge,j8 h.ble A.grown.size,h.tle⟩;have G:=h.below;have I:=A.grown
 exact⟨I.os.trans G.os,I.tape.trans G.tape,I.output.trans G.output,j8 G.size I.size,fun k hk=>by
  rw[I.block k (by have:=h.ble;have:=h.tle;omega) (fun e=>by have:=(h.row.lt k e.symm).1;have:=h.tle;omega),G.block k hk]⟩
theorem vZ{w:World}{B A j:Nat}{v u:Value}{m:ByteArray}(h:tP w B w.heap.size v m)(Kk:v.ownBlock≠some A):tP (w.setCell ⟨A,j,none⟩ u) B (w.setCell ⟨A,j,none⟩ u).heap.size v m:=by
 obtain⟨n,h1,h2,h3⟩:=h;exact⟨n,h1,lP h2 ay u,fun g D=>by simpa [World.setCell]using h3 g D⟩
theorem cells5{w:World}{A:Nat}{a b c d e:Value}(h:∀j u,[a,b,c,d,e][j]?=some u->w.cell? ⟨A,j,none⟩=some u):w.cell? ⟨A,0,none⟩=some a/\w.cell? ⟨A,1,none⟩=some b/\w.cell? ⟨A,2,none⟩=some c/\w.cell? ⟨A,3,none⟩=some d/\w.cell? ⟨A,4,none⟩=some e:=
 ⟨h 0 a rfl,h 1 b rfl,h 2 c rfl,h 3 d rfl,h 4 e rfl⟩
theorem C9{w:World}{D i:Nat}{l:List Value}{v:Value}(h:∀j u,l[j]?=some u->w.cell? ⟨D,j,none⟩=some u)(hi:i<l.length):∀j u,(l.set i v)[j]?=some u->(w.setCell ⟨D,i,none⟩ v).cell? ⟨D,j,none⟩=some u:=by
 intro j u A;by_cases G:j=i
 ·subst G;rw[List.getElem?_set_self hi]at A;cases A;exact kP _ (h j l[j] (jX hi))
 rw[List.getElem?_set_ne ae]at A;rw[j3 af];exact h j u A
theorem KS.set1{w G:World}{J B:Nat}{vl:Value}{n:Nat}{m:ByteArray}{I:Nat}{S M O A:Value}(h:KS w G J B vl n m I S M O)(hf:tP G B G.heap.size A m)(R:A.ownBlock≠some I):KS w (G.setCell ⟨I,1,none⟩ A) J B vl n m I A M O:=
 ⟨h.below.setCell h.xge _,lP h.row eY _,C9 h.cell (i:=1) (v:=A) af,fun j=>aV,eZ,
  fun v D=>by
   simp only[kF,lE,lF]at D
   rcases D with rfl|rfl|rfl
   ·exact vZ hf R
   ·exact vZ (h.full _ af) (h.xne _ af)
   exact vZ (h.full _ af) (h.xne _ af),
  fun v D=>by
   simp only[kF,lE,lF]at D
   rcases D with rfl|rfl|rfl|rfl
   ·exact h.xne _ af
   ·exact R
   ·exact h.xne _ af
   ·exact h.xne _ af,h.xge,e7,h.tle⟩
theorem KS.set2{w G:World}{J B:Nat}{vl:Value}{n:Nat}{m:ByteArray}{I:Nat}{M S O A:Value}(h:KS w G J B vl n m I M S O)(hf:tP G B G.heap.size A m)(R:A.ownBlock≠some I):KS w (G.setCell ⟨I,2,none⟩ A) J B vl n m I M A O:=
 ⟨h.below.setCell h.xge _,lP h.row eY _,C9 h.cell (i:=2) (v:=A) af,fun j=>aV,eZ,
  fun v D=>by
   simp only[kF,lE,lF]at D
   rcases D with rfl|rfl|rfl
   ·exact vZ (h.full _ af) (h.xne _ af)
   ·exact vZ hf R
   exact vZ (h.full _ af) (h.xne _ af),
  fun v D=>by
   simp only[kF,lE,lF]at D
   rcases D with rfl|rfl|rfl|rfl
   ·exact h.xne _ af
   ·exact h.xne _ af
   ·exact R
   ·exact h.xne _ af,h.xge,e7,h.tle⟩
theorem KS.set3{w G:World}{J B:Nat}{vl:Value}{n:Nat}{m:ByteArray}{I:Nat}{M O S A:Value}(h:KS w G J B vl n m I M O S)(hf:tP G B G.heap.size A m)(R:A.ownBlock≠some I):KS w (G.setCell ⟨I,3,none⟩ A) J B vl n m I M O A:=
 ⟨h.below.setCell h.xge _,lP h.row eY _,C9 h.cell (i:=3) (v:=A) af,fun j=>aV,eZ,
  fun v D=>by
   simp only[kF,lE,lF]at D
   rcases D with rfl|rfl|rfl
   ·exact vZ (h.full _ af) (h.xne _ af)
   ·exact vZ (h.full _ af) (h.xne _ af)
   exact vZ hf R,
  fun v D=>by
   simp only[kF,lE,lF]at D
   rcases D with rfl|rfl|rfl|rfl
   ·exact h.xne _ af
   ·exact h.xne _ af
   ·exact h.xne _ af
   ·exact R,h.xge,e7,h.tle⟩
theorem KS.app{w G A:World}{M B:Nat}{D I:Value}{n k:Nat}{m:ByteArray}{J:Nat}{O R S:Value}{o:Obj}(h:KS w G M B D n m J O R S)(hn:n+k<=3000000)
  (U:A.ownsRow B 9 1 I (n+k) (List.replicate (n+k) (.string m))) (V:MarkTo (G.alloc o) A D.ownBlock 9 (.string m)) (Z:I.ownBlock=D.ownBlock\/I.ownBlock=some (G.alloc o).heap.size) :
  KS w A M B D n m J O R S/\tP A B A.heap.size I m/\I.ownBlock≠some J:=by
 have Si:MarkTo G A D.ownBlock 9 (.string m):=(MarkTo.of_same (World.grownBy_alloc G o _)).trans V;refine⟨h.mark Si,⟨n+k,hn,U,fun g hg=>(U.lt g hg).2⟩,?_⟩;rcases Z with e|e
 ·rw[e];exact h.xne D af
 rw[e,World.alloc_size];have:=h.xlt;simp;omega
theorem KS.done{w I G:World}{A base O B:Nat}{M sv' R:Value}{es:List Snt}{n:Nat}{m:ByteArray}{xb:Nat}{S U V:Value}{o:Obj}(J:BookS w A base O M es)(h:KS w I O B R n m xb S U V)(hn:n<=3000000)
  (Kc:G.ownsRow base 59 5 sv' (es.length+1) (es.flatMap wC++[R,S,U,V,.string m])) (Z:(I.alloc o).grownBy G M.ownBlock) (Kj:sv'.ownBlock=M.ownBlock\/sv'.ownBlock=some (I.alloc o).heap.size) :
  BookS (G.setCell ⟨A,0,none⟩ sv') A base (G.setCell ⟨A,0,none⟩ sv').heap.size sv' (es++[⟨R,S,U,V,m⟩])/\KeptB 0 w (G.setCell ⟨A,0,none⟩ sv') A O M sv'/\∀v∈[R,S,U,V],∀g,v.ownBlock=some g->O<=g:=by
 have Ls:=J.lt;have KR:=J.le;have WB6:=h.tle;have LQ:=h.ble;have hz:=Z.size;rw[World.alloc_size]at hz;have Y1:∀g,M.ownBlock=some g->base<=g/\g<O:=fun g hg=>⟨(J.row.lt g hg).1,J.rtop g hg⟩
 have Ko:∀k,k<I.heap.size->M.ownBlock≠some k->G.heap[k]?=I.heap[k]?:=fun k hk Kk=>by
  rw[Z.block k dM (fun e=>Kk e.symm),kt hk]
 have OI:∀k,k≠A->(G.setCell ⟨A,0,none⟩ sv').heap[k]?=G.heap[k]?:=fun k hk=>ly aJ
 have ML:G.heap[A]?=w.heap[A]?:=by rw[Ko A ae (fun e=>by have:=(Y1 A e).1;omega),h.below.block A ae]
 have c0:G.cell? ⟨A,0,none⟩=some M:=(jW ML).trans J.c0;have KB:(G.setCell ⟨A,0,none⟩ sv').heap.size=G.heap.size:=az
 have VS:∀ {v:Value} {mm:ByteArray} {lo hi:Nat},tP I lo hi v mm->base<=lo->hi<=I.heap.size->(∀g,v.ownBlock=some g->M.ownBlock≠some g)->tP (G.setCell ⟨A,0,none⟩ sv') base (G.setCell ⟨A,0,none⟩ sv').heap.size v mm:=by
  intro v mm lo hi ⟨q,h1,h2,h3⟩ X6 VO0 ZY;refine⟨q,h1,EG (qO h2 (fun j hj=>?_)) X6,fun g hg=>by rw[KB];have:=h3 g hg;omega⟩;have:=(h2.lt j hj);rw[OI j ae,Ko j this.2 (ZY j hj)]
 have R4:∀v∈[R,S,U,V],tP I B I.heap.size v m:=by
  intro v D;simp only[kF,lE,lF]at D;rcases D with rfl|rfl|rfl|rfl
  ·exact⟨n,hn,h.row,fun g hg=>(h.row.lt g hg).2⟩
  ·exact h.full _ af
  ·exact h.full _ af
  exact h.full _ af
 have Uv:∀v∈[R,S,U,V],∀g,v.ownBlock=some g->B<=g/\g<I.heap.size:=by
  intro v D g hg;obtain⟨q,_,h2,h3⟩:=R4 v D;exact⟨(h2.lt g hg).1,h3 g hg⟩
 have Wm1:∀e∈es,∀v∈rV e,tP I base O v e.m:=by
  intro e he v D;obtain⟨q,h1,h2,h3⟩:=J.full e he v D;exact⟨q,h1,qO h2 (fun j hj=>h.below.block j (h3 j hj)),h3⟩
 refine⟨⟨kP _ c0,by simpa using (ku ML).trans J.f0,Ls,by rw[KB];omega,?_,?_,?_,?_⟩,⟨Z.os.trans h.below.os,Z.tape.trans h.below.tape,Z.output.trans h.below.output,?_,?_,?_,?_,?_⟩,fun v D g hg=>by have:=(Uv v D g hg).1;omega⟩
 ·rw[kq,nQ];simp only[kh,lI,mT,T0F,kX];exact T0Z Kc (by simpa using Ls) _
 ·intro g hg;rw[KB];exact(Kc.lt g hg).2
 ·intro e he v D;rcases kW.1 he with he|he
  ·exact VS (Wm1 e he v D) jU ae (J.apart e he v D)
  simp only[kF,lE,lF]at he;subst he;exact VS (R4 v D) ae jU (fun g hg e=>by have:=(Uv v D g hg).1;have:=(Y1 g e).2;omega)
 ·intro e he v D g hg;rcases kW.1 he with he|he
  ·rcases Kj with e1|e1
   ·rw[e1];exact J.apart e he v D g hg
   rw[e1,World.alloc_size];obtain⟨q,_,_,h3⟩:=J.full e he v D;have:=h3 g hg;simp;omega
  simp only[kF,lE,lF]at he;subst he;have KM:=Uv v D g hg;rcases Kj with e1|e1
  ·rw[e1];intro e2;have:=(Y1 g e2).2;omega
  rw[e1,World.alloc_size];simp;omega
 ·rw[KB];have:=h.below.size;omega
 ·intro k hk Kk hs;rw[OI k Kk,Ko k ae hs,h.below.block k ae]
 ·intro j hj;rw[j3 aY];exact jW ML
 ·intro j;have:=ku (a:=⟨A,j,none⟩) ML;simpa using this
 exact Mbz
theorem I6{w:World}{base:Nat}{e:TypeId}{size n g D:Nat}{xs:List Value}(h:w.ownsRow base e size (.slice (some ⟨g,0,none⟩) n D) n xs){j:Nat}:w.frozen? ⟨g,j,none⟩=false:=by
 obtain⟨_,⟨h2,_⟩|⟨G,I,J,A,M,hc,_⟩⟩:=h
 ·cases h2
 simp only[mw,me,T0s,nE,mX]at A;obtain⟨rfl,rfl⟩:=A;simp[World.frozen?,hc]
theorem BL(w:World)(b:Nat)(A:b=w.heap.size)(t:TypeId)(k:Nat){u:Value}:∀j x,(List.replicate k u)[j]?=some x->(w.alloc (.cells (List.replicate k u).toArray t)).cell? ((⟨b,0,none⟩:Addr).add j)=some x:=by
 intro j x hx;subst A;rw[k9,kN];have:=T0H w (List.replicate k u).toArray t (0,0) j;rw[nP,hx]at this;exact this
theorem Z0E{w wr:World}{G B n:Nat}{A:Value}{m:ByteArray}{t:TypeId}(J:wr.ownsRow B 9 1 A n (List.replicate n (.string m)))(M:Below G w wr)(I:G<=B)(R:B<=wr.heap.size):KS w (wr.alloc (.cells #[A,.slice none 0 0,.slice none 0 0,.slice none 0 0,.string m] t)) G B A n m wr.heap.size (.slice none 0 0) (.slice none 0 0) (.slice none 0 0):=by
 have hc:∀j,(wr.alloc (.cells #[A,.slice none 0 0,.slice none 0 0,.slice none 0 0,.string m] t)).cell? ⟨wr.heap.size,j,none⟩=#[A,.slice none 0 0,.slice none 0 0,.slice none 0 0,.string m][j]?:=fun j=>T0H wr _ t (0,0) j
 refine⟨M.alloc ae _,J.alloc _,fun j u O=>by rw[hc,<- O];exact nP,fun j=>by rw[World.frozen?_alloc_mark wr _ t 0 0 j];simp,dM,fun v D=>?_,fun v D=>?_,ae,dM,I⟩
 ·simp only[kF,lE,lF,or_self]at D;subst D;exact⟨0,ah,kA,fun g hg=>cp⟩
 simp only[kF,lE,lF,or_self]at D;rcases D with rfl|rfl
 ·intro e;have:=(J.lt _ e).2;omega
 simp[Value.ownBlock]
theorem Tryz.infoStrings:(Tryz.prog.info? 59).map (fun i=>(i.zero,i.size,i.bytes))=some (some (.agg #[.slice none 0 0,.slice none 0 0,.slice none 0 0,.slice none 0 0,.string ⟨#[]⟩]),5,112):=aj
theorem Z4s{w wn:World}{bb base e:Nat}{size n G:Nat}{D v I:Value}{xs A:List Value}{o:Obj}(z0:w.cell? ⟨bb,0,none⟩=some D)(z1:w.frozen? ⟨bb,0,none⟩=false)(_:wn.ownsRow base e size I G A)(Kg:(w.alloc o).drew.grownBy wn v.ownBlock)(J:bb<base)(Ke:w.drew.ownsRow base e size v n xs)(hw:bb<w.heap.size):wn.cell? ⟨bb,0,none⟩=some D/\wn.frozen? ⟨bb,0,none⟩=false:=Ma5
theorem Z58(w:World)(I base Kx:Nat)(sv:Value)(es:List Snt)(hB:BookS w I base Kx sv es)(Y2:es.length<=2000000)(Nz:Kx<=w.heap.size)(B:Nat)(vl:Value)(n:Nat)(xs:List Value)(hl:w.ownsRow B 9 1 vl n xs)(Wa7:Kx<=B)(N8:B<=w.heap.size)(hn:n<=2000000) :
  Calls prog 29 #[.pointer (some ⟨I,0,none⟩),vl] w fun e w'=>e=.returned (.tuple #[])/\∃sv' en,BookS w' I base w'.heap.size sv' (es++[en])/\KeptB 0 w w' I Kx sv sv'/\∀v∈rV en,∀g,v.ownBlock=some g->Kx<=g:=by
 obtain⟨i0,hi,KJ,KC,Ky⟩:=xE Tryz.infoStr;obtain⟨j0,hj,VD,Wk8,QX⟩:=xE Tryz.infoStrings;have HB:=oP hB;have HL:=oP hl;have c0:=hB.c0;have f0:=hB.f0;obtain⟨sa,sc,rfl⟩:∃a c,sv=.slice a es.length c:=MbW
 obtain⟨la,R,rfl⟩:∃a c,vl=.slice a n c:=by
  rcases hl with⟨_,⟨rfl,h0⟩|⟨g,Kd,KG,rfl,_⟩⟩
  ·exact⟨_,_,bu⟩
  exact⟨_,_,rfl⟩
 obtain⟨N,hN⟩:=Zg0 es.length;rw[hN]at c0 Y2 HB;have Ls:=hB.lt;have KR:=hB.le;clear hB hl;have Z4:(N:Int)<=2000000:=ae;go_enter func29,ntmps29;go_wp2_with fail;go_cut [4] (fun s wx=>∃m:ByteArray,s=.string m/\Below w.heap.size w wx)
 case first=>
  have VN:pA [UInt8.ofNat (65+N%60),UInt8.ofNat (65+N/60%60)]=[.int .u8 (65+(N:Int)%60),.int .u8 (65+(N:Int)/60%60)]:=by
   simp only[pA,kZ,mZ,nA];rw[show (((65+N%60)%2 ^ 8:Nat):Int)=65+(N:Int)%60 by omega,show (((65+N/60%60)%2 ^ 8:Nat):Int)=65+(N:Int)/60%60 by omega]
  have O1:=DN rfl (Gk w w.heap.size jU [UInt8.ofNat (65+N%60),UInt8.ofNat (65+N/60%60)] af af).drew;rw[VN]at O1;have Ve4:((txt [UInt8.ofNat (65+N%60),UInt8.ofNat (65+N/60%60)]).size:Int)<=2:=by rw[Z1P];simp
  obtain⟨T,hT⟩:=Zg0 (txt [UInt8.ofNat (65+N%60),UInt8.ofNat (65+N/60%60)]);rw[hT]at O1 Ve4;have WK9:(convert 32 9 (.slice (some ⟨w.heap.size,0,none⟩) 2 2)).run prog (w.alloc (.cells #[.int .u8 (65+(N:Int)%60),.int .u8 (65+(N:Int)/60%60)] 5)).drew=.ok (.string T) (w.alloc (.cells #[.int .u8 (65+(N:Int)%60),.int .u8 (65+(N:Int)/60%60)] 5)).drew:=O1;have Vw4:=oP (show Below w.heap.size w (w.alloc (.cells #[.int .u8 (65+(N:Int)%60),.int .u8 (65+(N:Int)/60%60)] 5)).drew from (jV.alloc jU _).drew);clear O1 VN hT;go_region
  all_goals
   go_wp2_with fail;go_meet;exact⟨_,rfl,Vw4.o⟩
 case rest=>
  obtain⟨m,rfl,ZN⟩:=hcut;have Wu5:wc.ownsRow B 9 1 (.slice la n R) n xs:=qO HL.o (fun j hj=>ZN.block j (HL.o.lt j hj).2);have Vw5:=oP Wu5;have Wx7:=oP ZN;clear Wu5 ZN;go_wp2_with fail;go_loopw [5] (fun i wr=>∃k:Nat,k<=n/\i=.int .i64 k/\wr.ownsRow B 9 1 (.slice la n R) n (List.replicate k (.string m)++xs.drop k)/\Below Kx w wr) (fun i _=>n-(intOf i).toNat)
  case atStart=>exact⟨0,j4,rfl,by simpa using Vw5.o,Wx7.o.mono Nz⟩
  case round=>
   obtain⟨k,hk,rfl,J,hW⟩:=hrel;by_cases Kf:k<n
   ·obtain⟨g,Kd,e1,KT,KM⟩:=wG J ae;simp only[mw,nE]at e1;obtain⟨rfl,rfl⟩:=e1;have HR:=oP J;have HW:=oP hW;have Pp:xs.length=n:=by have:=HL.o.1;omega
    obtain⟨u,hu⟩:∃u,(List.replicate k (Value.string m)++xs.drop k)[k]?=some u:=by
     rw[lr af,ld,my,mK,kK,jX ae];exact⟨_,rfl⟩
    have L3:wr.cell? ⟨g,k,none⟩=some u:=by
     have:=J.cells (g:=g) rfl k u hu;rwa [k9,kN]at this
    have Wv4:wr.frozen? ⟨g,k,none⟩=false:=I6 J;have N0:(k:Int)<(n:Int):=ae;have HU:=oP hu;clear J hW hu;go_wp2;go_roundw
    case rel=>
     refine⟨k+1,ae,ao,?_,HW.o.setCell ai _⟩;rw[<-BC ae];exact Ap HR.o _
    case measure=>simp[intOf];omega
   have NK:k=n:=ae;subst NK;have Pp:xs.length=k:=by have:=HL.o.1;omega
   rw[show xs.drop k=[] by rw[<-Pp];exact List.drop_length,kX]at J;have Ve6:=Z0E (t:=59) J hW Wa7 (by have:=hW.size;omega);have Xy:=oP Ve6;have Xz:=hW.size;have Xx:B<=wr.heap.size:=ae;clear J hW Ve6;go_wp2_with (first| (at_builtin;refine DT _ rfl (.tmp 40) (.tmp 42) 22 rfl B 9 i0 _ 16 underlying22 hi KJ KC Ky rfl (.string m) rfl (.slice la k R) k rfl (Xy.o.row.alloc _) ⟨wr.heap.size+1,0,none⟩ 1 1 rfl ah (BL _ _ af _ 1) ak ae (by have:=Xy.o.ble;rw[World.alloc_size];omega) ?_;intro VO1 WL3 D M G;obtain⟨Ve7,Ve8,Ve9,rfl⟩:=wu D;have A:=Xy.o.app ae D M G;have e1:=(cells5 A.1.cell).2.1;have g1:=A.1.fz 1;have l1:=A.1.xlt;have Y3:=oP (A.1.set1 A.2.1 A.2.2);clear D M G A)|(at_builtin;refine DT _ rfl (.tmp 45) (.tmp 48) 22 rfl B 9 i0 _ 16 underlying22 hi KJ KC Ky rfl (.string m) rfl (.slice la k R) k rfl (Y3.o.row.alloc _) ⟨WL3.heap.size,0,none⟩ 2 2 rfl ah (BL _ _ az _ 2) ak ae (by have:=Y3.o.ble;rw[World.alloc_size];omega) ?_;intro Vq7 WL4 D M G;obtain⟨Vf0,Vf1,Vf2,rfl⟩:=wu D;have A:=Y3.o.app ae D M G;have e2:=(cells5 A.1.cell).2.2.1;have g2:=A.1.fz 2;have l2:=A.1.xlt;have Y4:=oP (A.1.set2 A.2.1 A.2.2);clear D M G A)|(at_builtin;refine DT _ rfl (.tmp 51) (.tmp 55) 22 rfl B 9 i0 _ 16 underlying22 hi KJ KC Ky rfl (.string m) rfl (.slice la k R) k rfl (Y4.o.row.alloc _) ⟨WL4.heap.size,0,none⟩ 3 3 rfl ah (BL _ _ az _ 3) ak ae (by have:=Y4.o.ble;rw[World.alloc_size];omega) ?_;intro VO2 Vw6 D M G;obtain⟨S,U,V,rfl⟩:=wu D;have A:=Y4.o.app ae D M G;have e3:=(cells5 A.1.cell).2.2.2.1;have g3:=A.1.fz 3;have l3:=A.1.xlt;have P5:=oP (A.1.set3 A.2.1 A.2.2);clear D M G A));obtain⟨O,Xz⟩:=Zg0 (Vw6.setCell ⟨wr.heap.size,3,none⟩ (.slice S U V));rw[Xz]at P5⊢;clear Xz e1 e2 e3 g1 g2 g3 l1 l2 l3 Xy Y3 Y4;have Z:=P5.o;obtain⟨y0,y1,y2,y3,y4⟩:=cells5 Z.cell;have Mt:O.heap[I]?=w.heap[I]?:=Z.below.block I ae;have z0:O.cell? ⟨I,0,none⟩=some (.slice sa N sc):=(jW Mt).trans c0;have z1:O.frozen? ⟨I,0,none⟩=false:=(ku Mt).trans f0;have Vw7:=Z.xlt
   have Ke:O.drew.ownsRow base 59 5 (.slice sa N sc) N (es.flatMap wC):=by
    have:=qO (w':=O) HB.o.row (fun j hj=>Z.below.block j (HB.o.rtop j hj));rw[hN]at this;exact this
   have Ki:=oP Ke;have Y6:base<=O.heap.size:=by have:=Z.ble;have:=Z.tle;omega
   have WL8:I<O.heap.size:=ae;clear Z Mt Ke c0 f0;go_region_law (refine xj rfl (.tmp 62) (.tmp 64) 25 rfl base 59 j0 _ 5 112 underlying25 hj VD Wk8 QX rfl ah (.slice sa N sc) N (es.flatMap wC) aB (by exact Ki.o.alloc _) ⟨O.heap.size,0,none⟩ 1 1 [.slice la k R,.slice Ve7 Ve8 Ve9,.slice Vf0 Vf1 Vf2,.slice S U V,.string m] aB rfl (EK _ _ _) (by intro u hu;simp at hu;rcases hu with rfl|rfl|rfl|rfl|rfl <;> rfl) ak ae ai ?_;intro v' wn D Kg G;obtain⟨RJ,Ve,RL,rfl⟩:=wu D;have m0:=Z4s z0 z1 D Kg (by exact Ls) (by exact Ki.o) ae;obtain⟨m0,m1⟩:=m0)
   all_goals
    have hD:=P5.o.done (o:=.cells #[.slice la k R,.slice Ve7 Ve8 Ve9,.slice Vf0 Vf1 Vf2,.slice S U V,.string m] 59) (sv':=.slice RJ Ve RL) HB.o ae (by rw[hN];exact D) ⟨Kg.os,Kg.tape,Kg.output,Kg.size,Kg.block⟩ G;have HD:=oP hD;clear hD D Kg G m0 m1;go_wp2;go_end0;rw[hN];exact⟨rfl,_,_,HD.o.1,HD.o.2⟩
