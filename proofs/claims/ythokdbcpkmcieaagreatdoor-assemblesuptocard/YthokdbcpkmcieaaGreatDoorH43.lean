import Derived.Test.YthokdbcpkmcieaaGreatDoorH35
set_option maxRecDepth 200000
set_option maxHeartbeats 16000000
namespace Go.Proofs.YthokdbcpkmcieaaGreatDoor
open RowKit Shelf WideMaps Maps Proofs.Tryz
def rM(s:ByteArray):List ByteArray:=Lib.splitB ⟨#[10]⟩ 0 (Lib.countB s ⟨#[10]⟩) s
theorem EJ(s:ByteArray):(rM s).length=Lib.countB s ⟨#[10]⟩ + 1:=Lib.splitB_all ⟨#[10]⟩ ah 0 _ s rfl
theorem Hl(A:ByteArray):∀(k:Nat) (s t:ByteArray),t∈Lib.splitB A 0 k s->t.size<=s.size
 |0,s,t,h=>by
  rw[Lib.splitB_zero]at h
  rw[lu.1 h]
  exact jU
 |k+1,s,t,h=>by
  unfold Lib.splitB at h
  split at h
  ·rw[lu.1 h]
   exact jU
  rcases kF.1 h with rfl|h
  ·rw[kU]
   omega
  have:=Hl A k _ t h
  rw[kU]at this
  omega
theorem Hb{s t:ByteArray}(h:t∈rM s):t.size<=s.size:=Hl _ _ _ _ h
theorem JX(s:ByteArray):(rM s).length<=s.size+1:=by
 rw[EJ];have:=Lib.countB_le ⟨#[10]⟩ ah s.size s jU;omega
structure St where
 line:Nat
 pl:Nat
 lb:ByteArray
 x:Stm
def qG(ls:List ByteArray)(a0:Asm):Nat->Except (Int×Nat) (List St×Asm)
 |0=>.ok ([],a0)
 |j+1=>match qG ls a0 j with
  |.error e=>.error e
  |.ok r=>match sd (ls.getD j ⟨#[]⟩) with
   |none=>.error (2,j+1)
   |some q=>match py r.2 q.1 q.2 with
    |.error k=>.error (k,j+1)
    |.ok b=>.ok (r.1++[⟨j+1,r.2.pl,q.1,q.2⟩],b)
theorem GV{ls:List ByteArray}{a0:Asm}{e:Int×Nat}:∀(n j:Nat),qG ls a0 j=.error e->qG ls a0 (j+n)=.error e
 |0,j,h=>h
 |n+1,j,h=>by
  have ih:=GV n j h
  show qG ls a0 (j+n+1)=_
  simp only[qG,ih]
structure Z1x(N:Nat)(st:St):Prop where
 stm:StmF N st.lb st.x
 great:pB st.x.vals=false
 fit:st.pl+pE st.x.task st.x.vals.length st.x.ins.size<=1024
theorem Z9H{nm:List UInt8->Option Int}{n:Nat}{l:List ByteArray}(h:cgF nm n l=none):n<=40:=by
 have:=Ha h;omega
theorem Z4g(a:Asm)(k:ByteArray)(z:Int):(a.put k z).n<=a.n+1:=by
 unfold Asm.put;simp only;split <;> omega
theorem J2{a b:Asm}{lb:ByteArray}{x:Stm}(h:py a lb x=.ok b)(I:a.Ok):b.Ok/\pB x.vals=false/\a.pl+pE x.task x.vals.length x.ins.size<=1024:=by
 unfold py at h;split at h
 ·cases h
 split at h
 ·cases h
 rename_i J
 have hn:=Z9H J;split at h
 ·cases h
 rename_i M
 have ht:pB x.vals=false:=by simpa using M
 have A:(oW a lb).Ok:=FK I hn
 have R:(oW a lb).n<=41:=by
  unfold oW;split
  ·omega
  have:=Z4g a lb (a.pl:Int);omega
 have S:=I.pl;simp only at h
 have hz:∀t,x.task=t->t=1\/t=4\/t=5->pE x.task x.vals.length x.ins.size=0:=fun t h1 h2=>by
  unfold pE;rw[jS ae,jS ae,jS ae]
 split at h
 ·rename_i h1
  split at h
  ·rename_i z D
   have G:=wU D;cases h;exact⟨⟨by show z.toNat<=1024;omega,A.n,A.nm⟩,ht,by rw[hz 1 h1 ae];omega⟩
  cases h
 split at h
 ·rename_i h4
  split at h
  ·rename_i z D
   have G:=wU D;cases h;exact⟨⟨by show a.pl+z.toNat<=1024;omega,A.n,A.nm⟩,ht,by rw[hz 4 h4 ae];omega⟩
  cases h
 split at h
 ·rename_i O
  split at h
  ·rename_i z D
   have G:=wU D;cases h;exact⟨A.put _ _ G ae,ht,by rw[hz 5 O ae];omega⟩
  cases h
 split at h
 ·cases h
 rename_i hs
 cases h;unfold tq at hs;split at hs
 ·cases hs
 rename_i U
 exact⟨⟨by show a.pl+pE x.task x.vals.length x.ins.size<=1024;omega,A.n,A.nm⟩,ht,ae⟩
theorem BW{ls:List ByteArray}{a0:Asm}{N:Nat}(h0:a0.Ok)(D:∀t∈ls,t.size<=N):∀(j:Nat) (r:List St×Asm),j<=ls.length->qG ls a0 j=.ok r->r.2.Ok/\r.1.length=j/\∀st∈r.1,Z1x N st
 |0,r,_,h=>by
  simp only[qG]at h
  cases h
  exact⟨h0,rfl,fun st hs=>by cases hs⟩
 |j+1,r,M,h=>by
  simp only[qG]at h
  split at h
  ·cases h
  rename_i r0 h1
  have ih:=BW h0 D j r0 ae h1
  split at h
  ·cases h
  rename_i q h2
  split at h
  ·cases h
  rename_i b h3
  cases h
  have hs:=J2 h3 ih.1
  have A:=CG h2
  have G:ls.getD j ⟨#[]⟩=ls[j]:=by
   rw[jZ,jX ae]
   rfl
  rw[G]at A
  have hz:=D _ (kC (l:=ls) (n:=j) ae)
  have I:StmF N q.1 q.2:=⟨j8 A.lb hz,j8 A.name hz,A.task,fun e he t ht=>⟨j8 (A.vals e he t ht).1 hz,(A.vals e he t ht).2⟩,by have:=A.cnt;omega,by have:=A.len;omega,A.once,A.ins,A.other⟩
  refine⟨hs.1,by simp[ih.2.1],fun st J=>?_⟩
  rcases kW.1 J with h4|h4
  ·exact ih.2.2 st h4
  rw[lu.1 h4]
  exact⟨I,hs.2.1,hs.2.2⟩
theorem StmF.ok{N:Nat}{lb:ByteArray}{x:Stm}(h:StmF N lb x)(A:N<=100000):StmOk lb x:=
 ⟨by have:=h.lb;omega,by have:=h.name;omega,fun e he t ht=>⟨by have:=(h.vals e he t ht).1;omega,(h.vals e he t ht).2⟩,by have:=h.cnt;omega,by have:=h.len;omega,h.once,fun e=>by rw[(h.ins e).size];unfold rk;omega,by
  by_cases e:x.task=6
  ·have:=(h.ins e).size3
   omega
  ·rw[h.other e]
   show (0:Nat)<=100
   omega⟩
def q9(m:AMem)(j:Nat):Prop:=j≠m.ab/\j≠m.ik/\j≠m.lk/\j≠m.sk/\j≠m.nb
theorem ChgM.free{w w':World}{m:AMem}(h:ChgM w w' m){k:Nat}(hk:k<w.heap.size)(hf:q9 m k):w'.heap[k]?=w.heap[k]?:=h.block k hk hf.1 hf.2.1 hf.2.2.1 hf.2.2.2.1 hf.2.2.2.2
theorem Ff{w:World}{nb n:Nat}{nm:List UInt8->Option Int}(h:NamesAt w nb n nm):∃es c,w.heap[nb]?=some (.map es c):=by
 obtain⟨D,⟨es,c,A,_⟩,_⟩:=h;exact⟨es,c,A⟩
theorem Z7i{w:World}{m:AMem}{a:Asm}(h:AsmAt w m a){cs:Array Value}(D:w.heap[m.ab]?=some (.cells cs 121 (0,0))){j:Nat}{G:Array Value}{f:Nat×Nat}(A:w.heap[j]?=some (.cells G 111 f)):q9 m j:=by
 obtain⟨es,c,hn⟩:=Ff h.st.nms
 have ne:∀(k:Nat) (c2:Array Value) (t:TypeId) (f2:Nat×Nat),w.heap[k]?=some (.cells c2 t f2)->t≠111->j≠k:=fun k c2 t f2 h1 h2 e=>by
  rw[<-e,A]at h1;cases h1;exact h2 rfl
 exact⟨ne _ _ _ _ D ah,ne _ _ _ _ h.bytes.at_ ah,ne _ _ _ _ h.laid.at_ ah,ne _ _ _ _ h.starts.at_ ah,fun e=>by rw[<-e,A]at hn;cases hn⟩
theorem JK{w:World}{m:AMem}{a:Asm}(h:AsmAt w m a){kd:Value}{ks:List Nat}(hk:w.ownsRow 0 111 1 kd ks.length (qp ks))(hn:ks≠[]):∀j,kd.ownBlock=some j->q9 m j:=by
 intro j J;have h0:0<ks.length:=List.length_pos_iff.2 hn;obtain⟨g,O,rfl⟩:=xU hk h0;cases J;have hc:=(xO hk).2 0 _ (G4 ks 0 h0);obtain⟨es,c,I⟩:=Ff h.st.nms
 obtain⟨D,A⟩:∃D,w.heap[g]?=some (.cells D 111 (0,0)):=by
  obtain⟨_,⟨h1,_⟩|⟨g2,M,D,h1,_,h2,_⟩⟩:=hk
  ·cases h1
  cases h1;exact⟨D,h2⟩
 have G:=h.st.c0;unfold iV at G
 have ne:∀(k:Nat) (c2:Array Value) (t:TypeId) (f2:Nat×Nat),w.heap[k]?=some (.cells c2 t f2)->t≠111->g≠k:=fun k c2 t f2 h1 h2 e=>by
  rw[<-e,A]at h1;cases h1;exact h2 rfl
 refine⟨fun e=>?_,ne _ _ _ _ h.bytes.at_ ah,ne _ _ _ _ h.laid.at_ ah,ne _ _ _ _ h.starts.at_ ah,fun e=>?_⟩
 ·have e2:g=m.ab:=e;rw[<-e2,hc]at G;cases G
 have e2:g=m.nb:=e;rw[<-e2,A]at I;cases I
def InsAt2(w:World)(b:Bk)(m:AMem)(B:Nat):Prop:=∃f n,MapAt prog 292 w b.ib n f/\∀(s:ByteArray) (ks:List Nat),s.size<=1000000->ks.length<=3->(∀k∈ks,k<=100) ->
 match tU s.data.toList ks with
 |none=>f (sr s ks)=none
 |some d=>∃v,f (sr s ks)=some (qW d.code v d.size)/\w.ownsRow 0 111 1 v d.kinds.length (qp d.kinds)/\∀j,v.ownBlock=some j->j<B/\q9 m j
theorem InsAt2.of{w:World}{b:Bk}{m:AMem}{B:Nat}(h:InsAt w b B)(hf:∀(j:Nat) (D:Array Value) (f:Nat×Nat),w.heap[j]?=some (.cells D 111 f)->q9 m j):InsAt2 w b m B:=by
 obtain⟨f,n,h1,h2⟩:=h;refine⟨f,n,h1,fun s ks a1 a2 a3=>?_⟩;have:=h2 s ks a1 a2 a3;revert this;cases tU s.data.toList ks with
 |none=>exact id
 |some d=>
  rintro ⟨v,I,G,J⟩;refine⟨v,I,G,fun j A=>⟨J j A,?_⟩⟩;obtain⟨_,⟨e1,_⟩|⟨g2,M,D,e1,_,e2,_⟩⟩:=G
  ·rw[e1]at A;cases A
  rw[e1]at A;cases A;exact hf _ _ _ e2
theorem InsAt2.ins{w:World}{b:Bk}{m:AMem}{B:Nat}(h:InsAt2 w b m B):InsAt w b B:=by
 obtain⟨f,n,h1,h2⟩:=h;refine⟨f,n,h1,fun s ks a1 a2 a3=>?_⟩;have:=h2 s ks a1 a2 a3;revert this;cases tU s.data.toList ks with
 |none=>exact id
 |some d=>
  rintro ⟨v,A,D,G⟩;exact⟨v,A,D,fun j I=>(G j I).1⟩
theorem InsAt2.kept{w w':World}{b:Bk}{m:AMem}{B:Nat}(h:InsAt2 w b m B)(hk:∀j,j<w.heap.size->j<B->q9 m j->w'.heap[j]?=w.heap[j]?)(J:b.ib<B)(A:q9 m b.ib):InsAt2 w' b m B:=by
 obtain⟨f,n,h1,h2⟩:=h;refine⟨f,n,h1.at1 (hk _ h1.lt J A),fun s ks a1 a2 a3=>?_⟩;have:=h2 s ks a1 a2 a3;revert this;cases tU s.data.toList ks with
 |none=>exact id
 |some d=>
  rintro ⟨v,M,I,D⟩;exact⟨v,M,rQ I (fun j G=>hk j (I.lt j G).2 (D j G).1 (D j G).2),D⟩
structure Cq(m:AMem)(b:Bk)(pb:Nat):Prop where
 c:q9 m b.cb
 i:q9 m b.ib
 f:q9 m b.fb
 d:q9 m b.db
 p:q9 m pb
 lt:b.cb<pb/\b.fb<pb/\b.db<pb/\b.ib<pb
structure Psr(w:World)(m:AMem)(b:Bk)(pb:Nat):Prop where
 p0:P0 w pb b
 book:BookAt w b
 ins:InsAt2 w b m pb
theorem BookAt.at3{w w':World}{b:Bk}(h:BookAt w b)(h1:w'.heap[b.cb]?=w.heap[b.cb]?)(h2:w'.heap[b.fb]?=w.heap[b.fb]?)(h3:w'.heap[b.db]?=w.heap[b.db]?):BookAt w' b:=by
 obtain⟨A,hx⟩:=h.fixed;obtain⟨f,n,hf,D⟩:=h.counts;exact⟨⟨f,n,hf.at1 h1,D⟩,⟨A,hx.at1 h2⟩,h.dirs.at1 h3⟩
theorem BookAt.lts{w:World}{b:Bk}(h:BookAt w b):b.cb<w.heap.size/\b.fb<w.heap.size/\b.db<w.heap.size:=by
 obtain⟨A,hx⟩:=h.fixed;obtain⟨f,n,hf,D⟩:=h.counts;exact⟨hf.lt,hx.lt,h.dirs.lt⟩
theorem Psr.kept{w w':World}{m:AMem}{b:Bk}{A:Nat}(h:Psr w m b A)(hz:w.heap.size<=w'.heap.size)(hk:∀j,j<w.heap.size->j<=A->q9 m j->w'.heap[j]?=w.heap[j]?)(hf:Cq m b A):Psr w' m b A:=by
 have G:=h.p0.lt;have J:w'.heap[A]?=w.heap[A]?:=hk A G jU hf.p;have hc:∀j,w'.cell? ⟨A,j,none⟩=w.cell? ⟨A,j,none⟩:=fun j=>jW (a:=⟨A,j,none⟩) J
 have D:∀j,w'.frozen? ⟨A,j,none⟩=w.frozen? ⟨A,j,none⟩:=fun j=>ku (a:=⟨A,j,none⟩) J
 obtain⟨M,c4⟩:=h.p0.c4;obtain⟨a5,O,R,c5⟩:=h.p0.c5;have I:=h.book.lts;refine⟨⟨(hc 0).trans h.p0.c0,(hc 1).trans h.p0.c1,(hc 2).trans h.p0.c2,(hc 3).trans h.p0.c3,⟨M,(hc 4).trans c4⟩,⟨a5,O,R,(hc 5).trans c5⟩,(D 4).trans h.p0.f4,(D 5).trans h.p0.f5,ae⟩,h.book.at3 (hk _ I.1 fA hf.c) (hk _ I.2.1 fA hf.f) (hk _ I.2.2 fA hf.d),h.ins.kept (fun j h1 h2 h3=>hk j h1 ae h3) hf.lt.2.2.2 hf.i⟩
def VKept(w:World)(lo hi:Nat)(v:Value)(es:List (List Trm)):Prop:=∃A:World,A.heap.size=hi/\VAt A lo v es/\∀k,lo<=k->k<hi->w.heap[k]?=A.heap[k]?
theorem VKept.vat{w:World}{lo hi:Nat}{v:Value}{es:List (List Trm)}(h:VKept w lo hi v es):VAt w lo v es:=by
 obtain⟨A,rfl,h1,h2⟩:=h;exact h1.keptM h2
theorem VKept.kept{w w':World}{lo hi:Nat}{v:Value}{es:List (List Trm)}(h:VKept w lo hi v es)(hk:∀k,lo<=k->k<hi->w'.heap[k]?=w.heap[k]?):VKept w' lo hi v es:=by
 obtain⟨A,h0,h1,h2⟩:=h;exact⟨A,h0,h1,fun k a b=>(hk k a b).trans (h2 k a b)⟩
structure StIn(w:World)(m:AMem)(pb B:Nat)(sv:Value)(st:St)(v kv:Value):Prop where
 vals:∃lo hi,B<=lo/\hi<=w.heap.size/\VKept w lo hi v st.x.vals/\∀g,sv.ownBlock=some g->¬(lo<=g/\g<hi)
 is:∃va vn vc,v=.slice va vn vc
 kinds:RowK w kv st.x.ins.kinds
 kfree:st.x.ins.kinds≠[]->∀j,kv.ownBlock=some j->j<pb/\q9 m j
def stC(st:St)(v kv:Value):List Value:=[.int .i64 (st.line:Int),.int .i64 (st.pl:Int),.string st.lb,.int .i64 (st.x.task:Int),.string st.x.name,v,.int .u8 (st.x.ins.code:Int),kv,.int .i64 (st.x.ins.size:Int)]
def wJ(qs:List (St×Value×Value)):List Value:=qs.flatMap fun q=>stC q.1 q.2.1 q.2.2
structure Sts(w:World)(m:AMem)(pb B:Nat)(sv:Value)(qs:List (St×Value×Value)):Prop where
 row:w.ownsRow B 130 9 sv qs.length (wJ qs)
 each:∀q∈qs,StIn w m pb B sv q.1 q.2.1 q.2.2
theorem StIn.kept{w w':World}{m:AMem}{D B:Nat}{G sv':Value}{st:St}{v kv:Value}(h:StIn w m D B G st v kv)(hz:w.heap.size<=w'.heap.size)(M:D<B)(O:m.ab<B/\m.ik<B/\m.lk<B/\m.sk<B/\m.nb<B)(hk:∀j,j<w.heap.size->j≠D->q9 m j->(∀g,G.ownBlock=some g->j≠g)->w'.heap[j]?=w.heap[j]?)(hs:∀g,G.ownBlock=some g->B<=g)(J:∀g,sv'.ownBlock=some g->G.ownBlock=some g\/w.heap.size<=g):StIn w' m D B sv' st v kv:=by
 obtain⟨lo,hi,h1,h2,h3,h4⟩:=h.vals;refine⟨⟨lo,hi,h1,j8 h2 hz,h3.kept (fun k a b=>hk k ae ae ⟨ae,ae,ae,ae,ae⟩ (fun g A e=>h4 g A ⟨ae,ae⟩)),fun g A=>?_⟩,h.is,⟨h.kinds.is,fun hn=>rQ (h.kinds.row hn) (fun j I=>?_)⟩,h.kfree⟩
 ·rcases J g A with e|e
  ·exact h4 g e
  omega
 have hf:=h.kfree hn j I;exact hk j ((h.kinds.row hn).lt j I).2 ae hf.2 (fun g A e=>by have:=hs g A;omega)
theorem Tryz.infoSt:(Tryz.prog.info? 130).map (fun i=>(i.zero,i.size,i.bytes))=some (some (.agg Zst),9,120):=aj
structure RA(w wr:World)(m:AMem)(b:Bk)(pb B ln:Nat)(mm:Int)(ls:List ByteArray)(sv:Value)(qs:List (St×Value×Value))(a:Asm):Prop where
 asm:AsmAt wr m a
 psr:Psr wr m b pb
 sts:Sts wr m pb B sv qs
 chg:ChgM w wr m
 row:wr.heap[ln]?=some (.cells (ls.map Value.string).toArray 9 (0,0))
 mm:wr.cell? ⟨0,0,none⟩=some (.int .i64 mm)
 le:B<=wr.heap.size
structure RAt(w:World)(m:AMem)(b:Bk)(pb B ln:Nat):Prop where
 free:Cq m b pb
 mlt:m.ab<w.heap.size/\m.ik<w.heap.size/\m.lk<w.heap.size/\m.sk<w.heap.size/\m.nb<w.heap.size
 lt:w.heap.size<pb/\pb<ln/\ln<B
 zero:q9 m 0
theorem RAt.up{w:World}{m:AMem}{b:Bk}{A B ln:Nat}(h:RAt w m b A B ln){j:Nat}(D:w.heap.size<=j):q9 m j:=by
 have:=h.mlt;exact⟨ae,ae,ae,ae,ae⟩
theorem RA.step{w wr A W4 V O:World}{m:AMem}{b:Bk}{I B ln:Nat}{mm:Int}{ls:List ByteArray}{J sv':Value}{qs:List (St×Value×Value)}{a a':Asm}{st:St}{v kv:Value}{o:Obj}(h:RA w wr m b I B ln mm ls J qs a)(ht:RAt w m b I B ln)
  (D:wr.grownBy A (some I)) (R:VAt A wr.heap.size v st.x.vals) (LK:P0 A I b) (S:A.ownsRow 0 111 1 kv st.x.ins.kinds.length (qp st.x.ins.kinds)) (QG:∀j,kv.ownBlock=some j->j<I)
  (Lr:Below A.heap.size A W4) (Qh:ChgM W4 V m) (Zp:AsmAt V m a') (M:(V.alloc o).grownBy O J.ownBlock) (Kc:O.ownsRow B 130 9 sv' (qs.length+1) (wJ qs++stC st v kv)) (Kj:sv'.ownBlock=J.ownBlock\/sv'.ownBlock=some (V.alloc o).heap.size) :
  RA w O m b I B ln mm ls sv' (qs++[(st,v,kv)]) a':=by
 have z3:=D.size;have z4:=Lr.size;have z5:=Qh.size;have zn:=M.size;simp at zn;have KR:=h.le;have Kf:=ht.lt;have hm:=ht.mlt;have Wt:∀g,J.ownBlock=some g->B<=g/\g<wr.heap.size:=fun g hg=>h.sts.row.lt g hg
 have Z:∀j,j<A.heap.size->q9 m j->(∀g,J.ownBlock=some g->j≠g)->O.heap[j]?=A.heap[j]?:=fun j G hf hs=>by
  rw[M.block j ai (fun e=>hs j e.symm rfl),kt ae,Qh.free ae hf,Lr.block j G]
 have Zq:∀j,j<wr.heap.size->j≠I->q9 m j->(∀g,J.ownBlock=some g->j≠g)->O.heap[j]?=wr.heap[j]?:=fun j G hp hf hs=>(Z j ae hf hs).trans (D.block j G (fun e=>hp (kp e)))
 have UR:AsmAt A m a:=h.asm.kept (fun k hk=>D.block k (by rcases hk with rfl|rfl|rfl|rfl|rfl <;> omega) (fun e=>by have e2:=kp e;rcases hk with rfl|rfl|rfl|rfl|rfl <;> omega));have Nl:Psr A m b I:=⟨LK,h.psr.book.at3 (D.block _ h.psr.book.lts.1 (fun e=>fB)) (D.block _ h.psr.book.lts.2.1 (fun e=>fB)) (D.block _ h.psr.book.lts.2.2 (fun e=>fB)),h.psr.ins.kept (fun j h1 h2 _=>D.block j h1 (fun e=>fC)) ht.free.lt.2.2.2 ht.free.i⟩;refine⟨?_,?_,⟨?_,?_⟩,?_,?_,?_,ae⟩
 ·refine Zp.kept (fun k hk=>?_);have Wl3:k<w.heap.size:=by rcases hk with rfl|rfl|rfl|rfl|rfl <;> omega
  rw[M.block k ai (fun e=>by have:=(Wt k e.symm).1;omega),kt ae]
 ·exact Nl.kept ae (fun j h1 h2 h3=>Z j h1 h3 (fun g hg e=>fD)) ht.free
 ·have e1:wJ (qs++[(st,v,kv)])=wJ qs++stC st v kv:=by
   unfold wJ;rw[nQ];simp
  rw[kq,e1];exact Kc
 ·intro q hq
  have RO:∀g,sv'.ownBlock=some g->J.ownBlock=some g\/wr.heap.size<=g:=fun g hg=>by
   rcases Kj with e|e
   ·exact .inl (e ▸ hg)
   rw[e]at hg;have e2:=kp hg;simp at e2;exact .inr ae
  rcases kW.1 hq with hq|hq
  ·exact(h.sts.each q hq).kept ae ae ⟨ae,ae,ae,ae,ae⟩ Zq (fun g hg=>(Wt g hg).1) RO
  rw[lu.1 hq];refine⟨⟨wr.heap.size,A.heap.size,KR,ae,⟨A,rfl,R,fun k k1 U=>Z k U (ht.up ae) (fun g hg e=>by have:=(Wt g hg).2;omega)⟩,fun g hg=>?_⟩,R.slice,⟨?_,fun hn=>?_⟩,fun hn j G=>⟨QG j G,JK UR S hn j G⟩⟩
  ·rcases Kj with e|e
   ·have:=Wt g (e ▸ hg);omega
   rw[e]at hg;have e2:=kp hg;simp at e2;omega
  ·obtain⟨a9,c9,e9⟩:=sP S;exact⟨a9,c9,e9⟩
  have VE4:∀j,kv.ownBlock=some j->O.heap[j]?=A.heap[j]?:=fun j G=>Z j (S.lt j G).2 (JK UR S hn j G) (fun g hg e=>by have:=(Wt g hg).1;have:=QG j G;omega)
  exact rQ S VE4
 ·have c3:ChgM w A m:=⟨D.os.trans h.chg.os,D.tape.trans h.chg.tape,D.output.trans h.chg.output,j8 h.chg.size z3,fun k k0 k1 U k3 k4 k5=>(D.block k (by have:=h.chg.size;omega) (fun e=>fC)).trans (h.chg.block k k0 k1 U k3 k4 k5)⟩;have c5:=(c3.trans (ChgM.below m Lr)).trans Qh
  exact⟨M.os.trans c5.os,M.tape.trans c5.tape,M.output.trans c5.output,by have:=c5.size;omega,fun k k0 k1 U k3 k4 k5=>by
   rw[M.block k (by have:=c5.size;simp;omega) (fun e=>by have:=(Wt k e.symm).1;omega),kt (by have:=c5.size;omega)];exact c5.block k k0 k1 U k3 k4 k5⟩
 ·have hl:ln<wr.heap.size:=by omega
  exact(Zq ln hl ae (ht.up ae) (fun g hg e=>fD)).trans h.row
 have h0:0<wr.heap.size:=ae;exact(jW (a:=⟨0,0,none⟩) (Zq 0 h0 ae ht.zero (fun g hg e=>fD))).trans h.mm
def Z5S(w:World)(m:AMem)(o:Except (Int×Nat) (List St×Asm))(e:Ending)(w':World):Prop:=
 ChgM w w' m/\match o with
  |.error q=>e=.panicked (sH q.1 (q.2:Int))
  |.ok r=>∃(A:Option Addr) (D G:Nat) (qs:List (St×Value×Value)) (I B:Nat),e=.returned (.slice A D G)/\AsmAt w' m r.2/\qs.map Prod.fst=r.1/\Sts w' m I B (.slice A D G) qs/\I<B/\w.heap.size<=B
theorem F5{ls:List ByteArray}{a0:Asm}{j:Nat}{r:List St×Asm}(h:qG ls a0 j=.ok r)(A:sd (ls.getD j ⟨#[]⟩)=none):qG ls a0 (j+1)=.error (2,j+1):=by
 simp only[qG,h,A]
theorem IJ{ls:List ByteArray}{a0:Asm}{j:Nat}{r:List St×Asm}{q:ByteArray×Stm}{k:Int}(h:qG ls a0 j=.ok r)(A:sd (ls.getD j ⟨#[]⟩)=some q)(hs:py r.2 q.1 q.2=.error k):qG ls a0 (j+1)=.error (k,j+1):=by
 simp only[qG,h,A,hs]
theorem FT{ls:List ByteArray}{a0 A:Asm}{j:Nat}{r:List St×Asm}{q:ByteArray×Stm}(h:qG ls a0 j=.ok r)(D:sd (ls.getD j ⟨#[]⟩)=some q)(hs:py r.2 q.1 q.2=.ok A):qG ls a0 (j+1)=.ok (r.1++[⟨j+1,r.2.pl,q.1,q.2⟩],A):=by
 simp only[qG,h,D,hs]
theorem Ay{ls:List ByteArray}{a0:Asm}{j:Nat}{e:Int×Nat}(h:qG ls a0 j=.error e)(A:j<=ls.length):qG ls a0 ls.length=.error e:=by
 have:=GV (ls.length-j) j h;rw[show j+(ls.length-j)=ls.length by omega]at this;exact this
theorem Z9i(w:World)(m:AMem)(a0:Asm)(src:ByteArray)(mm:Int)(cs:Array Value)(h:AsmAt w m a0)(hm:m.Ok)(KA:a0.Ok)(Nw:w.heap[m.ab]?=some (.cells cs 121 (0,0)))(hs:src.size<=2000)(MM:w.cell? ⟨0,0,none⟩=some (.int .i64 mm))(h0:q9 m 0) :
  Calls prog 64 #[.pointer (some ⟨m.ab,0,none⟩),.string src] w (Z5S w m (qG (rM src) a0 (rM src).length)):=by
 obtain⟨i0,hi,KJ,KC,Ky⟩:=kQ Tryz.infoSt;have KB:0<w.heap.size:=by have:=h.st.lt;omega
 obtain⟨LS,Vx⟩:=Zg0 (rM src);obtain⟨N,hN⟩:=Zg0 LS.length;have Su:Lib.countB src ⟨#[10]⟩ + 1=N:=by rw[<-hN,<- Vx,EJ]
 have VE5:N<=2001:=by
  rw[<-hN,<- Vx];have:=JX src;omega
 have Wq0:∀t∈LS,t.size<=2000:=fun t ht=>by
  rw[<-Vx]at ht;exact j8 (Hb ht) hs
 rw[Vx,hN];obtain⟨R,hR⟩:=Zg0 (qG LS a0 N);rw[hR];have HR:=oP hR;have Ug:=oP (And.intro Wq0 hN);have Vj6:=oP MM;have Vj7:=oP (Z3f mm w MM KB)
 have Vj8:Hid (∀D:World,D.cell? ⟨0,0,none⟩=some (.int .i64 mm)->Calls prog 101 #[.string src,.string ⟨#[10]⟩] D fun e w'=>e=.returned (.slice (some ⟨D.heap.size,0,none⟩) N N)/\w'=D.alloc (.cells (LS.map Value.string).toArray 9)):=fun D h1=>by
  have h2:=Tryz.strings_Split src ⟨#[10]⟩ mm D ae h1 ah;rw[Su,show Lib.splitB ⟨#[10]⟩ 0 (Lib.countB src ⟨#[10]⟩) src=LS from Vx]at h2;exact h2
 have HH:=oP (And.intro h (And.intro hm (And.intro KA (And.intro Nw h0))));have Z4:(N:Int)<=2001:=ae;clear hR Wq0 Su Vx hN h hm KA Nw h0 MM hs;go_enter func64,ntmps64;go_wp2_with (first| (go_at_call 104;refine Vj7.o.mono ?_;rintro e D ⟨G,rfl,b,⟨Wq1,Lt,M6⟩,Kf,Wd5,Kh⟩;have OM:D.cell? ⟨0,0,none⟩=some (.int .i64 mm):=(jW (a:=⟨0,0,none⟩) (Kh.block 0 KB)).trans Vj6.o;have Vj9:=oP (Vj8.o D OM);have M9:=oP (And.intro Wq1 (And.intro Lt (And.intro M6 (And.intro Kf (And.intro Wd5 (And.intro Kh OM))))));clear Wq1 Lt M6 Kf Wd5 Kh OM)|(go_at_call 101;refine Vj9.o.mono ?_;rintro e w2 ⟨rfl,PR⟩;have QN:=oP PR;clear PR))
 have WR6:Hid (RAt w m b G (D.heap.size+1) D.heap.size/\RA w w2 m b G (D.heap.size+1) D.heap.size mm LS (.slice none 0 0) [] a0):=by
  obtain⟨Wq1,Lt,M6,Kf,Wd5,Kh,OM⟩:=M9.o;have PR:=QN.o;obtain⟨h,hm,KA,Nw,h0⟩:=HH.o;have YI:=h.below Kh;have Km:Below D.heap.size D w2:=by rw[PR];exact(jV).alloc jU _
  have Ky:w2.heap.size=D.heap.size+1:=by rw[PR];simp
  have Wq2:m.ab<w.heap.size/\m.ik<w.heap.size/\m.lk<w.heap.size/\m.sk<w.heap.size/\m.nb<w.heap.size:=⟨h.st.lt,h.bytes.lt,h.laid.lt,h.starts.lt,h.nlt⟩;have up:∀j,w.heap.size<=j->q9 m j:=fun j hj=>⟨ae,ae,ae,ae,ae⟩
  have hpl:=Wq1.lt;have XM:Cq m b G:=⟨up _ ae,up _ ae,up _ ae,up _ ae,up _ ae,⟨Kf.1,Kf.2.1,Kf.2.2.1,Kf.2.2.2⟩⟩;have Ur:Psr D m b G:=⟨Wq1,Lt,InsAt2.of M6 (fun j KG f hj=>Z7i YI ((Kh.block _ h.st.lt).trans Nw) hj)⟩;have Sa:=Kh.trans (Km.mono Kh.size);refine⟨⟨XM,Wq2,⟨ae,hpl,lW⟩,h0⟩,⟨h.below Sa,Ur.kept Km.size (fun j h1 _ _=>Km.block j h1) XM,⟨kA,fun q hq=>by cases hq⟩,ChgM.below _ Sa,by rw[PR];exact kg D _,(jW (a:=⟨0,0,none⟩) (Km.block 0 (by have:=Kh.size;omega))).trans OM,ae⟩⟩
 obtain⟨B,hB⟩:=Zg0 (D.heap.size+1);obtain⟨ln,Mh⟩:=Zg0 D.heap.size;rw[hB,Mh]at WR6;rw[Mh];have HT:=oP WR6.o.1;clear QN hB Mh M9 Vj9 Vj8 Vj7 Vj6;go_wp2_with fail;go_loopw [5,14] (fun s5 i wr=>∃(j:Nat) (sa:Option Addr) (sn sc:Nat) (qs:List (St×Value×Value)) (a:Asm),j<=N/\i=.int .i64 j/\s5=.slice sa sn sc/\qG LS a0 j=.ok (qs.map Prod.fst,a)/\RA w wr m b G B ln mm LS (.slice sa sn sc) qs a) (fun _ i _=>N-(intOf i).toNat)
 case atStart=>exact⟨0,none,0,0,[],a0,j4,rfl,rfl,rfl,WR6.o.2⟩
 case round=>
  obtain⟨j,sa,sn,sc,qs,a,hj,rfl,rfl,Nq,TG⟩:=hrel;have MD:=oP Nq;have HA:=oP TG;by_cases Kf:j<N
  ·have K6:(j:Int)<(N:Int):=by omega
   have K2:j<LS.length:=by rw[Ug.o.2];exact Kf
   have LH:LS.getD j ⟨#[]⟩=LS[j]:=by
    rw[jZ,jX K2];rfl
   obtain⟨t,ht⟩:=Zg0 (LS[j]);rw[ht]at LH;have VP8:t.size<=2000:=Ug.o.1 t (by rw[<-ht];exact kC K2)
   have cj:wr.cell? ⟨ln,j,none⟩=some (.string t):=by
    rw[jY (0,0) TG.row];simp[List.getElem?_eq_getElem K2,ht]
   have M5:=HT.o;have VE6:ln<wr.heap.size:=by have:=TG.le;have:=M5.lt;omega
   have Wu:=oP (Z2K wr G b t ((j:Int)+1) mm TG.psr.p0 TG.psr.book TG.psr.ins.ins M5.free.lt.1 M5.free.lt.2.1 M5.free.lt.2.2.1 M5.free.lt.2.2.2 ae TG.mm (by have:=M5.lt;omega));have WR7:=oP LH;clear Nq TG ht LH K2;cases hP:sd t with
   |none=>
    rw[hP]at Wu
    have eR:R=.error (2,j+1):=by
     rw[<-HR.o,<- Ug.o.2];exact Ay (F5 MD.o (by rw[WR7.o];exact hP)) (by rw[Ug.o.2];omega)
    subst eR;have MX:Hid (Calls prog 105 #[.pointer (some ⟨G,0,none⟩),.string t,.int .i64 ((j:Int)+1)] wr fun e w'=>e=.panicked (sH 2 ((j:Int)+1))/\wr.grownBy w' (some G)):=Wu.o;clear Wu hP;go_wp2_with (first| (go_at_call 105;refine MX.o.mono ?_;rintro e Z ⟨rfl,A⟩));refine⟨rfl,?_,af⟩;have hc:=HA.o.chg;exact⟨A.os.trans hc.os,A.tape.trans hc.tape,A.output.trans hc.output,j8 hc.size A.size,fun k k0 k1 k2 k3 k4 k5=>(A.block k (by have:=hc.size;omega) (fun e=>by have e2:=kp e;have:=HT.o.lt;omega)).trans (hc.block k k0 k1 k2 k3 k4 k5)⟩
   |some q=>
    obtain⟨lb,x⟩:=q;rw[hP]at Wu;have Q6:=oP hP
    have MX:Hid (Calls prog 105 #[.pointer (some ⟨G,0,none⟩),.string t,.int .i64 ((j:Int)+1)] wr fun e w'=>∃(I:Option Addr) (J M:Nat) (O:Option Addr) (S U:Nat),e=.returned (.agg #[.int .i64 ((j:Int)+1),.int .i64 0,.string lb,.int .i64 (x.task:Int),.string x.name,.slice I J M,.int .u8 (x.ins.code:Int),.slice O S U,.int .i64 (x.ins.size:Int)])/\VAt w' wr.heap.size (.slice I J M) x.vals/\w'.ownsRow 0 111 1 (.slice O S U) x.ins.kinds.length (qp x.ins.kinds)/\(∀j,(Value.slice O S U).ownBlock=some j->j<G)/\P0 w' G b/\wr.grownBy w' (some G)):=Wu.o.mono fun e w' hh=>by
     obtain⟨v,kv,h1,h2,h3,h4,h5,h6⟩:=hh;obtain⟨I,J,M,rfl⟩:=h2.slice;obtain⟨O,S,U,rfl⟩:=tV h3;exact⟨I,J,M,O,S,U,h1,h2,h3,h4,h5,h6⟩
    clear Wu hP;have Zr:=BW HH.o.2.2.1 Ug.o.1 j _ (by rw[Ug.o.2];omega) MD.o;have WQ2:qs.length=j:=by have:=Zr.2.1;simpa using this
    have Vk0:=oP WQ2;have Wq3:a.Ok:=Zr.1;have WR8:=oP Wq3;have Q7:StmOk lb x:=(CG Q6.o).ok ae;have WR9:=oP Q7;clear Zr WQ2 Wq3 Q7;have Wq2:=HT.o.mlt;have M8:w.heap.size<=wr.heap.size:=HA.o.chg.size;have WA0:=oP (And.intro Wq2 M8);have A3:Hid (∀Z:World,wr.grownBy Z (some G)->AsmAt Z m a/\m.ab<Z.heap.size):=fun Z A=>⟨HA.o.asm.kept (fun k hk=>A.block k (by rcases hk with rfl|rfl|rfl|rfl|rfl <;> omega) (fun e=>by have e2:=kp e;have:=HT.o.lt;rcases hk with rfl|rfl|rfl|rfl|rfl <;> omega)),by have:=A.size;omega⟩
    clear Wq2 M8;go_upto_region 8 with(first| (go_at_call 105;refine MX.o.mono ?_;rintro e Z ⟨I,J,M,O,S,U,rfl,Wp9,Pw,QG,LK,A⟩;have a4:=(A3.o Z A).1.st.c4;have Ob:=(A3.o Z A).2;have H3:=oP (And.intro Wp9 (And.intro Pw (And.intro QG (And.intro LK A))));clear Wp9 Pw QG LK A));obtain⟨W4,Wq4,MI,VX,Ks⟩:=tv Z ((j:Int)+1) (a.pl:Int) lb (x.task:Int) x.name (.slice I J M) (x.ins.code:Int) (.slice O S U) (x.ins.size:Int);rw[Wq4];obtain⟨s0,s1,s2,s3,s4,s5,s6,s7,s8,sf,sl⟩:=id Ks;have Nf:yC W4 m a wr.heap.size lb x (.slice I J M):=⟨(A3.o Z H3.o.2.2.2.2).1.below MI,HH.o.2.1,WR8.o,H3.o.1.below MI,by have:=WA0.o;omega,WR9.o⟩;have V:=oP (Z1o W4 m a wr.heap.size lb x I J M O S U ((j:Int)+1) Nf);have OP:=oP (And.intro MI Ks);clear MI Ks Nf Wq4 sf a4;cases hS:py a lb x with
    |error k=>
     rw[hS]at V
     have eR:R=.error (k,j+1):=by
      rw[<-HR.o,<- Ug.o.2];exact Ay (IJ MD.o (by rw[WR7.o];exact Q6.o) hS) (by rw[Ug.o.2];omega)
     subst eR;have Ox:Hid (Calls prog 106 #[.pointer (some ⟨m.ab,0,none⟩),.agg #[.int .i64 ((j:Int)+1),.int .i64 (a.pl:Int),.string lb,.int .i64 (x.task:Int),.string x.name,.slice I J M,.int .u8 (x.ins.code:Int),.slice O S U,.int .i64 (x.ins.size:Int)]] W4 fun e w'=>e=.panicked (sH k ((j:Int)+1))/\ChgM W4 w' m):=V.o.mono fun e w' hh=>⟨hh.2,hh.1⟩
     clear V hS;go_wp2_with (first| (go_at_call 106;refine Ox.o.mono ?_;rintro e w5 ⟨rfl,Qh⟩));refine⟨rfl,?_,af⟩;have hc:=HA.o.chg;have A:=H3.o.2.2.2.2;have c3:ChgM w Z m:=⟨A.os.trans hc.os,A.tape.trans hc.tape,A.output.trans hc.output,j8 hc.size A.size,fun k k0 k1 k2 k3 k4 k5=>(A.block k (by have:=hc.size;omega) (fun e=>by have e2:=kp e;have:=HT.o.lt;omega)).trans (hc.block k k0 k1 k2 k3 k4 k5)⟩;exact(c3.trans (ChgM.below m OP.o.1)).trans Qh
    |ok a'=>
     rw[hS]at V;have MT:Hid (qG LS a0 (j+1)=.ok (qs.map Prod.fst++[⟨j+1,a.pl,lb,x⟩],a')):=FT (q:=(lb,x)) MD.o (by rw[WR7.o];exact Q6.o) hS;have Ox:Hid (Calls prog 106 #[.pointer (some ⟨m.ab,0,none⟩),.agg #[.int .i64 ((j:Int)+1),.int .i64 (a.pl:Int),.string lb,.int .i64 (x.task:Int),.string x.name,.slice I J M,.int .u8 (x.ins.code:Int),.slice O S U,.int .i64 (x.ins.size:Int)]] W4 fun e w'=>e=.returned (.tuple #[])/\ChgM W4 w' m/\AsmAt w' m a'):=V.o.mono fun e w' hh=>⟨hh.2.1,hh.1,hh.2.2⟩
     have WS0:Hid (∀w5:World,ChgM W4 w5 m->SS w5 Z.heap.size ((j:Int)+1) (a.pl:Int) lb (x.task:Int) x.name (.slice I J M) (x.ins.code:Int) (.slice O S U) (x.ins.size:Int)/\w5.ownsRow B 130 9 (.slice sa sn sc) qs.length (wJ qs)/\B<=w5.heap.size):=fun w5 Qh=>by
      have A:=H3.o.2.2.2.2;have z3:=A.size;have VP9:=WA0.o;refine⟨OP.o.2.grown (Qh.free OP.o.2.lt (HT.o.up ae)) Qh.size,rQ HA.o.sts.row (fun g hg=>?_),?_⟩
      ·have Mw:=HA.o.sts.row.lt g hg;have Yf:=HT.o.lt;rw[Qh.free ae (HT.o.up ae),OP.o.1.block g ae];exact A.block g Mw.2 (fun e=>fC)
      have:=HA.o.le;have:=Qh.size;omega
     clear V hS;go_wp2_with (first| (go_at_call 106;refine Ox.o.mono ?_;rintro e w5 ⟨rfl,Qh,Zp⟩;obtain⟨⟨q0,q1,q2,q3,q4,q5,q6,q7,q8,qf,ql⟩,QW,KU⟩:=WS0.o w5 Qh;have Rk:=oP QW;have Q1:=oP (And.intro Qh Zp);clear QW Qh Zp qf)|(at_builtin;refine kH _ rfl _ _ 122 rfl B 130 i0 _ 9 120 underlying122 hi KJ KC Ky rfl ah _ _ _ rfl (Rk.o.alloc _) ⟨w5.heap.size,0,none⟩ 1 1 [.int .i64 ((j:Int)+1),.int .i64 (a.pl:Int),.string lb,.int .i64 (x.task:Int),.string x.name,.slice I J M,.int .u8 (x.ins.code:Int),.slice O S U,.int .i64 (x.ins.size:Int)] rfl rfl (vz _ [.int .i64 ((j:Int)+1),.int .i64 (a.pl:Int),.string lb,.int .i64 (x.task:Int),.string x.name,.slice I J M,.int .u8 (x.ins.code:Int),.slice O S U,.int .i64 (x.ins.size:Int)] _) (by intro u hu;simp at hu;rcases hu with rfl|rfl|rfl|rfl|rfl|rfl|rfl|rfl|rfl <;> rfl) (by have:=Vk0.o;unfold maxLen;omega) (by have:=Vk0.o;omega) ai ?_;intro v' wn Kc Kg _ Kj;obtain⟨VE7,VE8,VE9,ev⟩:=rW Kc;subst ev;have VF0:=oP (And.intro Kc (And.intro Kg Kj));clear Kc Kg Kj));go_wp2_with fail;go_roundw
     case rel=>
      refine⟨j+1,VE7,VE8,VE9,qs++[(⟨j+1,a.pl,lb,x⟩,.slice I J M,.slice O S U)],a',ae,ao,rfl,by rw[l7];exact MT.o,?_⟩;have hw:=VF0.o;exact HA.o.step HT.o H3.o.2.2.2.2 H3.o.1 H3.o.2.2.2.1 H3.o.2.1 H3.o.2.2.1 OP.o.1 Q1.o.1 Q1.o.2 hw.2.1 hw.1 hw.2.2
     case measure=>simp[intOf];omega
  have K6:¬(j:Int)<(N:Int):=ae;have Wx5:j=N:=ae
  have eR:R=.ok (qs.map Prod.fst,a):=by
   rw[<-HR.o,<- Wx5];exact Nq
  subst eR;clear Nq TG;go_wp2;go_ret;exact⟨HA.o.chg,sa,sn,sc,qs,G,B,rfl,HA.o.asm,rfl,HA.o.sts,by have:=HT.o.lt;omega,by have:=HT.o.lt;omega⟩
theorem Z27(p0 f0 r0:Nat)(w:World) :
  CallsD prog 62 #[.pointer (some ⟨p0,0,none⟩),.pointer (some ⟨f0,0,none⟩),.pointer (some ⟨r0,0,none⟩)] .returning w fun e A w'=>e=.returned (.tuple #[])/\A=.returning/\w'=w:=by
 refine callsD_of_wpS func62 rfl fun c₀ cs D=>?_
 simp only[ntmps62,lJ,kh,lI,Nat.reduceAdd,Nat.reduceSub,Array.replicate_succ,Array.replicate_zero,List.push_toArray,List.append_toArray,mu,mU];apply wpS_seq;apply wpS_region;simp[wpOpsS,go_sem,recoverD,D,Exit.thenS];refine wpS_of_wp ?_;go_wp2_with fail;cases c₀;simp_all [bodyPostS,results,results62]
structure Res(w:World)(c2 c3 c4:Nat)(i0 i1 i2:Value)(k l:Int):Prop where
 a0:w.cell? ⟨c2,0,none⟩=some i0
 a1:w.cell? ⟨c2,1,none⟩=some i1
 a2:w.cell? ⟨c2,2,none⟩=some i2
 b:w.cell? ⟨c3,0,none⟩=some (.int .i64 k)
 c:w.cell? ⟨c4,0,none⟩=some (.int .i64 l)
 fa:∀j,w.frozen? ⟨c2,j,none⟩=false
 fb:w.frozen? ⟨c3,0,none⟩=false
 fc:w.frozen? ⟨c4,0,none⟩=false
 lt:c2<w.heap.size/\c3<w.heap.size/\c4<w.heap.size
theorem Gi(c2 c3 c4:Nat)(M O R:Value)(x y k l:Int)(w:World)(h:Res w c2 c3 c4 M O R x y)(hd:c2≠c3/\c2≠c4/\c3≠c4) :
  CallsD prog 62 #[.pointer (some ⟨c2,0,none⟩),.pointer (some ⟨c3,0,none⟩),.pointer (some ⟨c4,0,none⟩)] (.panicking [{v:=.iface 117 (.agg #[.int .i64 k,.int .i64 l]),recovered:=false}]) w fun e S w'=>e=.returned (.tuple #[])/\S=.panicking [{v:=.iface 117 (.agg #[.int .i64 k,.int .i64 l]),recovered:=true}]/\Res w' c2 c3 c4 (.slice none 0 0) (.slice none 0 0) (.slice none 0 0) k l/\w'.os=w.os/\w'.tape=w.tape/\w'.output=w.output/\w.heap.size<=w'.heap.size/\∀j,j<w.heap.size->j≠c2->j≠c3->j≠c4->w'.heap[j]?=w.heap[j]?:=by
 obtain⟨a0,a1,a2,I,d0,fa,fb,fc,U⟩:=id h;have f0:=fa 0;have f1:=fa 1;have f2:=fa 2;have V:=oP h;have Z:∀W:World,(Instr.typeAssert (.iface 117 (.agg #[.int .i64 k,.int .i64 l])) 20 117 true).run prog W=.ok (.tuple #[.agg #[.int .i64 k,.int .i64 l],.bool true]) W:=fun W=>by rfl
 obtain⟨l2,l3,J⟩:=U;obtain⟨n1,n2,n3⟩:=hd;refine callsD_of_wpS func62 rfl fun c₀ cs hu=>?_
 simp only[ntmps62,lJ,kh,lI,Nat.reduceAdd,Nat.reduceSub,Array.replicate_succ,Array.replicate_zero,List.push_toArray,List.append_toArray,mu,mU];apply wpS_seq;apply wpS_region;simp[wpOpsS,go_sem,recoverD,hu,Exit.thenS];refine wpS_of_wp ?_;obtain⟨A,Qv⟩:=Zg0 (w.alloc (.cells #[.int .i64 k,.int .i64 l] 117));have D:Below w.heap.size w A:=eI;have KC:A.heap.size=w.heap.size+1:=by rw[<-Qv];simp
 have hh:=kg w (.cells #[.int .i64 k,.int .i64 l] 117);rw[Qv]at hh;have v0:A.cell? ⟨w.heap.size,0,none⟩=some (.int .i64 k):=bE;have v1:A.cell? ⟨w.heap.size,1,none⟩=some (.int .i64 l):=bE;have G:∀c j,c<w.heap.size->A.cell? ⟨c,j,none⟩=w.cell? ⟨c,j,none⟩:=fun c j hc=>jW (a:=⟨c,j,none⟩) (D.block c hc)
 have of:∀c j,c<w.heap.size->A.frozen? ⟨c,j,none⟩=w.frozen? ⟨c,j,none⟩:=fun c j hc=>ku (a:=⟨c,j,none⟩) (D.block c hc)
 have e0:=(G c2 0 l2).trans a0;have e1:=(G c2 1 l2).trans a1;have e2:=(G c2 2 l2).trans a2;have e3:=(G c3 0 l3).trans I;have e4:=(G c4 0 J).trans d0;have g0:=(of c2 0 l2).trans f0;have g1:=(of c2 1 l2).trans f1;have g2:=(of c2 2 l2).trans f2;have g3:=(of c3 0 l3).trans fb;have g4:=(of c4 0 J).trans fc;have m2:¬w.heap.size=c2:=ae;have m3:¬w.heap.size=c3:=ae;have m4:¬w.heap.size=c4:=ae;have VQ1:¬c2=w.heap.size:=ae;have VQ2:¬c3=w.heap.size:=ae;have VQ3:¬c4=w.heap.size:=ae;have VF1:¬c3=c2:=fun e=>n1 e.symm
 have VF2:¬c4=c2:=fun e=>n2 e.symm
 have VF3:¬c4=c3:=fun e=>n3 e.symm
 have HQ:Hid (∀X,X=((((A.setCell ⟨c2,0,none⟩ (.slice none 0 0)).setCell ⟨c2,1,none⟩ (.slice none 0 0)).setCell ⟨c2,2,none⟩ (.slice none 0 0)).setCell ⟨c3,0,none⟩ (.int .i64 k)).setCell ⟨c4,0,none⟩ (.int .i64 l)->Res X.drew c2 c3 c4 (.slice none 0 0) (.slice none 0 0) (.slice none 0 0) k l/\X.drew.os=w.os/\X.drew.tape=w.tape/\X.drew.output=w.output/\w.heap.size<=X.drew.heap.size/\∀j,j<w.heap.size->j≠c2->j≠c3->j≠c4->X.drew.heap[j]?=w.heap[j]?):=fun X hX=>by
  subst hX;refine⟨⟨?_,?_,?_,?_,?_,fun j=>?_,?_,?_,?_⟩,D.os,D.tape,D.output,?_,fun j hj h2 h3 h4=>?_⟩
  ·simp[go_sem,e0]
  ·simp[go_sem,e1]
  ·simp[go_sem,e2]
  ·simp[go_sem,e3]
  ·simp[go_sem,e4]
  ·have:=V.o.fa j;simp[go_sem,of c2 j l2,this]
  ·simp[go_sem,g3]
  ·simp[go_sem,g4]
  ·simp[World.setCell,World.drew];omega
  ·simp[World.setCell,World.drew];omega
  show (((((A.setCell ⟨c2,0,none⟩ (.slice none 0 0)).setCell ⟨c2,1,none⟩ (.slice none 0 0)).setCell ⟨c2,2,none⟩ (.slice none 0 0)).setCell ⟨c3,0,none⟩ (.int .i64 k)).setCell ⟨c4,0,none⟩ (.int .i64 l)).heap[j]?=_;rw[kk _ ⟨c4,0,none⟩ j _ h4,kk _ ⟨c3,0,none⟩ j _ h3,kk _ ⟨c2,2,none⟩ j _ h2,kk _ ⟨c2,1,none⟩ j _ h2,kk _ ⟨c2,0,none⟩ j _ h2];exact D.block j hj
 clear fa h G of D hh a0 a1 a2 I d0 f0 f1 f2 fb fc;go_wp2_with fail;go_region
 all_goals
  go_wp2_with fail;exact⟨rfl,_,rfl,_,nt rfl _ _ _,rfl,rfl,HQ.o _ rfl⟩
def tc:Asm:=⟨fun _=>none,0,0,bF,bF,b255⟩
theorem G7:tc.Ok:=⟨j4,j4,fun l z h=>by cases h⟩
def rS(a:Asm)(sts:List St):Nat->Except (Int×Nat) Asm
 |0=>.ok a
 |j+1=>match rS a sts j with
  |.error e=>.error e
  |.ok b=>match sts[j]? with
   |none=>.ok b
   |some st=>match sV b st.pl st.x with
    |.error k=>.error (k,st.line)
    |.ok c=>.ok c
def rC(src:ByteArray):Except (Int×Nat) Asm:=
 if 2000<src.size then .error (1,0)
 else match qG (rM src) tc (rM src).length with
  |.error e=>.error e
  |.ok r=>rS r.2 r.1 r.1.length
theorem ER{a:Asm}{sts:List St}{e:Int×Nat}:∀(n j:Nat),rS a sts j=.error e->rS a sts (j+n)=.error e
 |0,j,h=>h
 |n+1,j,h=>by
  have ih:=ER n j h
  show rS a sts (j+n+1)=_
  simp only[rS,ih]
theorem G0{a:Asm}{sts:List St}{j:Nat}{e:Int×Nat}(h:rS a sts j=.error e)(A:j<=sts.length):rS a sts sts.length=.error e:=by
 have:=ER (sts.length-j) j h;rw[show j+(sts.length-j)=sts.length by omega]at this;exact this
theorem Z0s{a b:Asm}{p:Nat}{x:Stm}(h:sV a p x=.ok b):b.nm=a.nm:=by
 unfold sV at h;split at h
 ·cases h;rfl
 split at h
 ·cases h
 split at h
 ·cases h
 cases h;rfl
theorem Sts.kept{w w':World}{m:AMem}{D B:Nat}{G:Value}{qs:List (St×Value×Value)}(h:Sts w m D B G qs)(hz:w.heap.size<=w'.heap.size)(I:D<B)(J:m.ab<B/\m.ik<B/\m.lk<B/\m.sk<B/\m.nb<B)(hk:∀j,j<w.heap.size->q9 m j->w'.heap[j]?=w.heap[j]?):Sts w' m D B G qs:=by
 have hs:∀g,G.ownBlock=some g->B<=g/\g<w.heap.size:=fun g A=>h.row.lt g A
 refine⟨rQ h.row (fun g A=>hk g (hs g A).2 ?_),fun q hq=>(h.each q hq).kept hz I J (fun j h1 _ h3 _=>hk j h1 h3) (fun g A=>(hs g A).1) (fun g A=>.inl A)⟩;have:=hs g A;exact⟨ae,ae,ae,ae,ae⟩
theorem Z4Y{qs:List (St×Value×Value)}{j:Nat}{q:St×Value×Value}(h:qs[j]?=some q)(i:Nat)(hi:i<9):(wJ qs)[j*9+i]?=(stC q.1 q.2.1 q.2.2)[i]?:=by
 induction qs generalizing j with
 |nil=>simp at h
 |cons q0 qs ih=>
  have e:wJ (q0::qs)=stC q0.1 q0.2.1 q0.2.2++wJ qs:=rfl;have A:(stC q0.1 q0.2.1 q0.2.2).length=9:=rfl;rw[e];cases j with
  |zero=>
   simp at h;subst h;rw[lz ae];simp
  |succ j=>
   rw[lr ae,A,show (j+1)*9+i-9=j*9+i by omega];exact ih av
