import Derived.Test.YthokdbcpkmcieaaGreatDoorH30
set_option maxRecDepth 200000
set_option maxHeartbeats 16000000
namespace Go.Proofs.YthokdbcpkmcieaaGreatDoor
open RowKit Proofs.Tryz
variable{P:Prop}
section
attribute [local go_sem ↓] Go.wp_at_zero Go.wp_at_succ
structure Img where
 bytes:List UInt8
 laid:List Bool
 starts:List Bool
structure SlV(w:World)(v:Value)(xs:List Value):Prop where
 is:∃a cap,v=.slice a xs.length cap/\xs.length<=cap/\cap<=9223372036854775807/\(0<xs.length->∃b off,a=some ⟨b,off,none⟩/\b<w.heap.size/\∀i (hi:i<xs.length),w.cell? ⟨b,off+i,none⟩=some xs[i])
theorem SlV.below{w w':World}{v:Value}{xs:List Value}(h:SlV w v xs)(A:Below w.heap.size w w'):SlV w' v xs:=by
 obtain⟨a,D,h1,h2,h3,h4⟩:=h.is;refine⟨a,D,h1,h2,h3,fun G=>?_⟩;obtain⟨b,off,e1,e2,e3⟩:=h4 G;exact⟨b,off,e1,ke e2 A.size,fun i hi=>(jW (a:=⟨b,off+i,none⟩) (A.block b e2)).trans (e3 i hi)⟩
def pG(l:List Bool):List Value:=l.map .bool
structure HImgAt(w:World)(v0 v1 v2:Value)(i:Img):Prop where
 b:SlV w v0 (pA i.bytes)
 l:SlV w v1 (pG i.laid)
 s:SlV w v2 (pG i.starts)
theorem HImgAt.below{w w':World}{v0 D v2:Value}{i:Img}(h:HImgAt w v0 D v2 i)(A:Below w.heap.size w w'):HImgAt w' v0 D v2 i:=⟨h.b.below A,h.l.below A,h.s.below A⟩
theorem xC(w:World)(v0 A v2:Value):∃W,w.alloc (.cells #[v0,A,v2] 35)=W/\Below w.heap.size w W/\w.heap.size<W.heap.size/\W.cell? ⟨w.heap.size,0,none⟩=some v0/\W.cell? ⟨w.heap.size,1,none⟩=some A/\W.cell? ⟨w.heap.size,2,none⟩=some v2:=by
 refine⟨_,rfl,jV.alloc jU _,af,?_,?_,?_⟩
 all_goals
  rw[jY (0,0) (kg w _)];rfl
theorem BX{w w':World}{base:Nat}{e:TypeId}{size n:Nat}{v:Value}{xs:List Value}(h:w.ownsRow base e size v n xs)(A:Below w.heap.size w w'):w'.ownsRow base e size v n xs:=
 qO h (fun j D=>A.block j (h.lt j D).2)
theorem Tryz.infoBoolC:(Tryz.prog.info? 4).map (fun i=>(i.zero,i.size,i.bytes))=some (some (.bool false),1,1):=aj
theorem rh(l:List Bool):(pG l).length=l.length:=by simp[pG]
theorem Jl(l:List Bool):∀u∈pG l,u.oneCell'=true:=by
 intro u A;simp only[pG,lf]at A;obtain⟨b,_,rfl⟩:=A;rfl
theorem uz{w:World}{base e n:Nat}{v:Value}{xs:List Value}(h:w.ownsRow base e 1 v n xs)(hn:n=xs.length):SlV w v xs:=by
 subst hn;have hc:∀g,v.ownBlock=some g->∀j u,xs[j]?=some u->w.cell? ((⟨g,0,none⟩:Addr).add j)=some u:=fun g A=>h.cells A
 obtain⟨I,⟨rfl,h0⟩|⟨g,D,J,rfl,A,hh,h3,h4,M,h6⟩⟩:=h
 ·exact⟨none,0,bu,ae,ae,fun e=>ae⟩
 have G:g<w.heap.size:=(kV.1 hh).1;refine⟨_,D,rfl,h3,by unfold maxLen at h4;omega,fun _=>⟨g,0,rfl,G,fun i hi=>?_⟩⟩;have:=hc g rfl i _ (jX hi);rw[k9]at this;exact this
theorem Z38(w:World)(t D e:TypeId)(i:TypeInfo)(z:Value)(ht:prog.underlying t=some (.slice e))(hi:prog.info? e=some i)(hz:i.zero=some z)(J:i.size=1)(M:i.bytes=1)(O:z.cells.size=1)(v:Value)(xs:List Value)(R:SlV w v xs)(h1:∀u∈xs,u.oneCell'=true)(hn:xs.length<=4000000) :
  ∃A w',(Builtin.append_ #[t,t] D #[.slice none 0 0,v]).run prog w=.ok A w'/\w'.ownsRow w.heap.size e 1 A xs.length xs/\Below w.heap.size w w'/\(∀g,A.ownBlock=some g->g=w.heap.size):=by
 obtain⟨a,S,rfl,hc,Uc,G⟩:=R.is;cases a with
 |none=>
  have hx:xs=[]:=by
   by_cases h:0<xs.length
   ·obtain⟨b,off,e,_⟩:=G h;cases e
   exact ny ae
  subst hx;refine⟨.slice none 0 0,w,?_,kA,jV,fun g hg=>cp⟩;simp[Builtin.append_,run_underlying ht,sizeOf,typeInfo,hi,Builtin.lenOf,Builtin.firstCells]
 |some I=>
  have U:∀j u,xs[j]?=some u->w.cell? (I.add j)=some u:=fun j u V=>by
   obtain⟨Z,rfl⟩:=mh.1 V;obtain⟨b,off,e,_,h4⟩:=G ae;cases e;rw[k9];exact h4 j Z
  obtain⟨A,w',KZ,r1,r2,_,r3⟩:=ow (P:=prog) w w.heap.size t D e i z 1 1 ht hi hz J M O ah (.slice none 0 0) 0 [] kA I xs.length S xs ae U h1 ak ae jU;rw[kN,mu]at r1;refine⟨A,w',KZ,r1,⟨r2.os,r2.tape,r2.output,r2.size,fun k hk=>r2.block k hk bd⟩,fun g hg=>?_⟩;rcases r3 with e|e
  ·rw[e]at hg;simp[Value.ownBlock]at hg
  rw[e]at hg;exact(kp hg).symm
theorem CP{ops:Array Oper}{rest:List Oper}{o:Oper}{a:Act}{Q:Exit->Act->World->Prop}(w:World)(A:o.guard=none)(s x:Operand)(t:TypeId)
  (ho:o.op=.call {callee:=.builtin .append,args:=#[s,x],argTypes:=#[t,t]}) (e:TypeId) (i:TypeInfo) (z:Value) (ht:prog.underlying t=some (.slice e)) (hi:prog.info? e=some i) (hz:i.zero=some z) (D:i.size=1) (G:i.bytes=1) (I:z.cells.size=1) (v:Value) (xs:List Value) (hs:a.eval s=.slice none 0 0) (hx:a.eval x=v) (J:SlV w v xs) (h1:∀u∈xs,u.oneCell'=true) (hn:xs.length<=4000000)
  (h:∀v' w',w'.ownsRow w.heap.size e 1 v' xs.length xs->Below w.heap.size w w'->(∀g,v'.ownBlock=some g->g=w.heap.size)->wpList prog ops Q rest (a.put o.dst v') w') :
  wpList prog ops Q (o::rest) a w:=by
 refine np A fun K hK=>?_
 obtain⟨v',w',hr,h2,h3,h5⟩:=Z38 w t o.type e i z ht hi hz D G I v xs J h1 hn;exact Mbp
structure Own3(B:Nat)(w:World)(u0 u1 u2:Value)(im:Img):Prop where
 b:w.ownsRow B 5 1 u0 im.bytes.length (pA im.bytes)
 l:w.ownsRow B 4 1 u1 im.laid.length (pG im.laid)
 s:w.ownsRow B 4 1 u2 im.starts.length (pG im.starts)
 d:∀g,u0.ownBlock=some g->u1.ownBlock≠some g
theorem Own3.img{B:Nat}{w:World}{u0 u1 u2:Value}{im:Img}(h:Own3 B w u0 u1 u2 im):HImgAt w u0 u1 u2 im:=⟨uz h.b (sg _).symm,uz h.l (rh _).symm,uz h.s (rh _).symm⟩
def xf(im:Img):Prop:=im.bytes.length<=2000000/\im.laid.length<=2000000/\im.starts.length<=2000000
theorem SlV.slice{w:World}{v:Value}{xs:List Value}(h:SlV w v xs):∃a c,v=.slice a xs.length c:=by
 obtain⟨a,c,e,_⟩:=h.is;exact⟨a,c,e⟩
theorem Mad(h:P:=by
 go_wp2_with fail;go_loopw [5] (fun i wr=>∃j:Nat,j<=l.length/\i=.int .i64 j/\wr.heap=w.heap/\Below w.heap.size w wr) (fun i _=>l.length-(intOf i).toNat)
 case atStart=>exact⟨0,j4,rfl,rfl,jV⟩
 case round=>
  obtain⟨j,hj,rfl,Uw,Ls⟩:=hrel;have NZ:=oP (And.intro Uw Ls);by_cases V8:j<l.length
  ·have K6:(j:Int)<(l.length:Int):=by omega
   obtain⟨g,off,rfl,c1⟩:=HA.o j V8;obtain⟨g2,R5,rfl,c2⟩:=HB.o j V8;have e1:wr.cell? ⟨g,off+j,none⟩=w.cell? ⟨g,off+j,none⟩:=jW (a:=⟨g,off+j,none⟩) (by rw[Uw]);have e2:wr.cell? ⟨g2,R5+j,none⟩=w.cell? ⟨g2,R5+j,none⟩:=jW (a:=⟨g2,R5+j,none⟩) (by rw[Uw]);rw[<-e1]at c1;rw[<-e2]at c2;obtain⟨x,hx⟩:=Zg0 (l[j]);rw[hx]at c1 c2;clear e1 e2 hx Uw Ls;go_wp2_with fail;go_quiet (fail);go_wp2;go_roundw
   case rel=>exact⟨j+1,ae,ao,NZ.o.1,⟨NZ.o.2.os,NZ.o.2.tape,NZ.o.2.output,NZ.o.2.size,NZ.o.2.block⟩⟩
   case measure=>simp[intOf];omega
  have K6:¬(j:Int)<(l.length:Int):=ae;clear Uw Ls;go_wp2;go_ret;exact⟨rfl,NZ.o.2⟩):P:=h
theorem Z5q(D G:Value)(l:List UInt8)(w:World)(I:SlV w D (pA l))(J:SlV w G (pA l))(O:l.length<=4000000) :
  Calls prog 52 #[D,G] w fun e w'=>e=.returned (.bool true)/\Below w.heap.size w w':=by
 obtain⟨a,R,rfl,_,_,A⟩:=I.is;obtain⟨b,cb,rfl,_,_,M⟩:=J.is;rw[sg]
 have HA:Hid (∀j (hj:j<l.length),∃g off,a=some ⟨g,off,none⟩/\w.cell? ⟨g,off+j,none⟩=some (.int .u8 (l[j].toNat:Int))):=fun j hj=>by
  obtain⟨g,off,e,_,h⟩:=A (by rw[sg];omega);exact⟨g,off,e,ga⟩
 have HB:Hid (∀j (hj:j<l.length),∃g off,b=some ⟨g,off,none⟩/\w.cell? ⟨g,off+j,none⟩=some (.int .u8 (l[j].toNat:Int))):=fun j hj=>by
  obtain⟨g,off,e,_,h⟩:=M (by rw[sg];omega);exact⟨g,off,e,ga⟩
 have S:(l.length:Int)<=4000000:=ae;clear I J A M;go_enter func52,ntmps52;exact Mad
theorem Ia(D G:Value)(l:List Bool)(w:World)(I:SlV w D (pG l))(J:SlV w G (pG l))(O:l.length<=4000000) :
  Calls prog 53 #[D,G] w fun e w'=>e=.returned (.bool true)/\Below w.heap.size w w':=by
 obtain⟨a,R,rfl,_,_,A⟩:=I.is;obtain⟨b,cb,rfl,_,_,M⟩:=J.is;rw[rh]
 have HA:Hid (∀j (hj:j<l.length),∃g off,a=some ⟨g,off,none⟩/\w.cell? ⟨g,off+j,none⟩=some (.bool l[j])):=fun j hj=>by
  obtain⟨g,off,e,_,h⟩:=A (by rw[rh];omega);exact⟨g,off,e,gd⟩
 have HB:Hid (∀j (hj:j<l.length),∃g off,b=some ⟨g,off,none⟩/\w.cell? ⟨g,off+j,none⟩=some (.bool l[j])):=fun j hj=>by
  obtain⟨g,off,e,_,h⟩:=M (by rw[rh];omega);exact⟨g,off,e,gd⟩
 have S:(l.length:Int)<=4000000:=ae;clear I J A M;go_enter func53,ntmps53;exact Mad
theorem Hc(a0 a1 a2 M b1 b2:Value)(im:Img)(w:World)(G:HImgAt w a0 a1 a2 im)(I:HImgAt w M b1 b2 im)(hf:xf im) :
  Calls prog 23 #[.agg #[a0,a1,a2],.agg #[M,b1,b2]] w fun e w'=>e=.returned (.bool true)/\Below w.heap.size w w':=by
 obtain⟨x0,y0,e0⟩:=G.b.slice;obtain⟨x1,y1,e1⟩:=G.l.slice;obtain⟨x2,y2,e2⟩:=G.s.slice;obtain⟨x3,y3,e3⟩:=I.b.slice;obtain⟨x4,y4,e4⟩:=I.l.slice;obtain⟨x5,y5,e5⟩:=I.s.slice;obtain⟨W,hW,hB,hz,k0,Z,k2⟩:=xC w a0 a1 a2;have NY:W.heap.size=w.heap.size+1:=by rw[<-hW];simp
 obtain⟨V,hV,J,Ky,m0,m1,m2⟩:=xC W M b1 b2;rw[NY]at m0 m1 m2;have hk:∀j v,W.cell? ⟨w.heap.size,j,none⟩=some v->V.cell? ⟨w.heap.size,j,none⟩=some v:=fun j v h=>(jW (a:=⟨w.heap.size,j,none⟩) (J.block _ hz)).trans h
 replace k0:=hk 0 _ k0;replace Z:=hk 1 _ Z;replace k2:=hk 2 _ k2;have O:Below w.heap.size w V:=hB.trans (J.mono ae);have WY7:w.heap.size+1<V.heap.size:=ae;have R:Hid (∀A v j,Below V.heap.size V A->j<w.heap.size+2->∀i,V.cell? ⟨j,i,none⟩=some v->A.cell? ⟨j,i,none⟩=some v):=fun A v j Vp hj i h=>(jW (a:=⟨j,i,none⟩) (Vp.block j ae)).trans h
 have D:∀A,Below V.heap.size V A->Below w.heap.size w A:=fun A h=>O.trans (h.mono O.size)
 have ZL:=oP (fun A (h':Below V.heap.size V A)=>Z5q a0 M im.bytes A ((G.below (D A h')).b) ((I.below (D A h')).b) (by have:=hf.1;omega));have PB:=oP (fun A (h':Below V.heap.size V A)=>Ia a1 b1 im.laid A ((G.below (D A h')).l) ((I.below (D A h')).l) (by have:=hf.2.1;omega));have Ox:=oP (fun A (h':Below V.heap.size V A)=>Ia a2 b2 im.starts A ((G.below (D A h')).s) ((I.below (D A h')).s) (by have:=hf.2.2;omega));have X3:=oP D;have HB:=oP O;rw[e0,e3]at ZL;rw[e1,e4]at PB;rw[e2,e5]at Ox;subst e0 e1 e2 e3 e4 e5;clear G I hB J hk O D hf;go_enter func23,ntmps23;go_wp2_with fail;refine(ZL.o V jV).mono ?_;rintro e w1 ⟨rfl,S⟩;have q1:=R.o w1 _ w.heap.size S ae 1 Z;have q2:=R.o w1 _ (w.heap.size+1) S ae 1 m1;have KK:=oP S;clear S;go_wp2_with fail;refine(PB.o w1 KK.o).mono ?_;rintro e w2 ⟨rfl,J⟩;have U:=KK.o.trans (J.mono KK.o.size);have r1:=R.o w2 _ w.heap.size U ae 2 k2;have r2:=R.o w2 _ (w.heap.size+1) U ae 2 m2;have Mi:=oP U;clear J U;go_wp2_with fail;refine(Ox.o w2 Mi.o).mono ?_;rintro e w3 ⟨rfl,MI⟩;have OP:=oP (X3.o w3 (Mi.o.trans (MI.mono Mi.o.size)));clear MI;go_wp2;go_ret;exact⟨rfl,OP.o⟩
end
section
attribute [local go_sem ↓] Go.wp_at_zero Go.wp_at_succ
theorem tr{w:World}{base:Nat}{e:TypeId}{size n:Nat}{v:Value}{xs:List Value}(h:w.ownsRow base e size v n xs):∃a c,v=.slice a n c:=Mch
theorem Z6D(w:World)(v0 A v2:Value):∃W,((w.alloc (.cells #[v0,A,v2] 35)).alloc (.cells #[.slice none 0 0,.slice none 0 0,.slice none 0 0] 35)).alloc (.cells #[.slice none 0 0,.slice none 0 0,.slice none 0 0] 35)=W/\Below w.heap.size w W/\W.heap.size=w.heap.size+3/\W.heap[w.heap.size]?=some (.cells #[v0,A,v2] 35)/\W.heap[w.heap.size+1]?=some (.cells #[.slice none 0 0,.slice none 0 0,.slice none 0 0] 35)/\W.heap[w.heap.size+2]?=some (.cells #[.slice none 0 0,.slice none 0 0,.slice none 0 0] 35):=by
 refine⟨_,rfl,((jV.alloc jU _).alloc af _).alloc ai _,af,?_,?_,?_⟩
 ·rw[kt ai,kt af];exact kg w _
 ·rw[kt af];have:=kg (w.alloc (.cells #[v0,A,v2] 35)) (.cells #[.slice none 0 0,.slice none 0 0,.slice none 0 0] 35);rwa [World.alloc_size]at this
 have:=kg ((w.alloc (.cells #[v0,A,v2] 35)).alloc (.cells #[.slice none 0 0,.slice none 0 0,.slice none 0 0] 35)) (.cells #[.slice none 0 0,.slice none 0 0,.slice none 0 0] 35);rwa [World.alloc_size,World.alloc_size]at this
theorem yq{w A:World}{n j:Nat}{cs:Array Value}{t:TypeId}(x:Value)(D:Below w.heap.size w A)(hn:w.heap.size<=n)(h:A.heap[n]?=some (.cells cs t)):∃G,A.setCell ⟨n,j,none⟩ x=G/\Below w.heap.size w G/\G.heap.size=A.heap.size/\G.heap[n]?=some (.cells (cs.setIfInBounds j x) t)/\∀k,k≠n->G.heap[k]?=A.heap[k]?:=by
 have I:∀k,k≠n->(A.setCell ⟨n,j,none⟩ x).heap[k]?=A.heap[k]?:=fun k hk=>kk A ⟨n,j,none⟩ k x hk
 have J:(A.setCell ⟨n,j,none⟩ x).heap.size=A.heap.size:=az;exact⟨_,rfl,⟨D.os,D.tape,D.output,by rw[J];exact D.size,fun k hk=>(I k ae).trans (D.block k hk)⟩,J,lq A n j cs t x h,I⟩
theorem DO{w w':World}{B e n:Nat}{v:Value}{xs:List Value}{m:Nat}(h:w.ownsRow B e 1 v n xs)(G:∀k,B<=k->k<w.heap.size->w'.heap[k]?=w.heap[k]?)(I:m<=B):w'.ownsRow m e 1 v n xs:=by
 have h2:=qO (w':=w') h (fun g A=>G g (h.lt g A).1 (h.lt g A).2);obtain⟨D,⟨e1,e2⟩|⟨g,J,M,e1,A,r⟩⟩:=h2
 ·exact⟨D,.inl ⟨e1,e2⟩⟩
 exact⟨D,.inr ⟨g,J,M,e1,j8 I A,r⟩⟩
theorem Z7S(v0 v1 v2:Value)(im:Img)(w:World)(S:HImgAt w v0 v1 v2 im)(hf:xf im) :
 Calls prog 26 #[.agg #[v0,v1,v2]] w fun e w'=>∃u0 u1 u2,e=.returned (.agg #[u0,u1,u2])/\Own3 w.heap.size w' u0 u1 u2 im/\Below w.heap.size w w':=by
 obtain⟨i0,hi,KJ,KC,Ky⟩:=xE Tryz.infoU8E;obtain⟨j0,hj,U,V,Z6⟩:=xE Tryz.infoBoolC;obtain⟨x0,y0,e0⟩:=S.b.slice;obtain⟨x1,y1,e1⟩:=S.l.slice;obtain⟨x2,y2,e2⟩:=S.s.slice;obtain⟨W,hW,hB,NY,b0,b1,b2⟩:=Z6D w v0 v1 v2;have k0:W.cell? ⟨w.heap.size,0,none⟩=some v0:=by rw[jY (0,0) b0];rfl
 have m0:W.cell? ⟨w.heap.size+2,0,none⟩=some (.slice none 0 0):=dN;have HS:=oP (fun W' (h':Below w.heap.size w W')=>S.below h');have HB:=oP hB;have HF:=oP hf;have Ys:=oP (And.intro b0 (And.intro b1 b2));have Xk:=oP (And.intro e0 (And.intro e1 e2));rw[e0,e1,e2]at hW;rw[e0]at k0;clear S hB hf b0 b1 b2;subst e0 e1 e2;go_enter func26,ntmps26
 go_wp2_with (first
  | (
   at_builtin;refine CP _ rfl _ _ 32 rfl 5 i0 _ underlying32 hi KJ KC Ky rfl (.slice x0 (pA im.bytes).length y0) (pA im.bytes) rfl rfl (HS.o W HB.o).b (Z2L _) (by rw[sg];have:=HF.o.1;omega) ?_;intro u0 w1 Pt I QP;obtain⟨a0,g0,r0⟩:=tr Pt;have b2:=(I.block (w.heap.size+2) ae).trans Ys.o.2.2;have fz:=kD w1 (w.heap.size+2) 0 _ _ b2;have d0:w1.cell? ⟨w.heap.size+2,0,none⟩=some (.slice none 0 0):=dN;obtain⟨W1,Qv,Li,WF5,QL,Lv⟩:=yq (j:=0) u0 (HB.o.trans (I.mono HB.o.size)) (show w.heap.size<=w.heap.size+2 by omega) b2
   have k1:W1.cell? ⟨w.heap.size,1,none⟩=some (.slice x1 (pG im.laid).length y1):=by
    rw[jY (0,0) ((Lv _ ae).trans ((I.block w.heap.size ae).trans Ys.o.1))];rfl
   have m1:W1.cell? ⟨w.heap.size+2,1,none⟩=some (.slice none 0 0):=by
    rw[jY (0,0) QL];rfl
   have Z:=oP (And.intro Pt (And.intro I QP));have D:=oP (And.intro Li (And.intro QL Lv));have Vw8:=I.size;subst r0;clear Pt I QP b2 Li QL Lv k0 m0)
  | (
   at_builtin;refine CP _ rfl _ _ 33 rfl 4 j0 _ underlying33 hj U V Z6 rfl (.slice x1 (pG im.laid).length y1) (pG im.laid) rfl rfl (HS.o W1 D.o.1).l (Jl _) (by rw[rh];have:=HF.o.2.1;omega) ?_;intro u1 w2 Mn J MU;obtain⟨a1,g1,r1⟩:=tr Mn;have b2:=(J.block (w.heap.size+2) ae).trans D.o.2.1;have Vw9:=kD w2 (w.heap.size+2) 1 _ _ b2;have d1:w2.cell? ⟨w.heap.size+2,1,none⟩=some (.slice none 0 0):=dN;obtain⟨W2,P7,R6,Wi2,Ll,MO⟩:=yq (j:=1) u1 (D.o.1.trans (J.mono D.o.1.size)) (show w.heap.size<=w.heap.size+2 by omega) b2
   have k2:W2.cell? ⟨w.heap.size,2,none⟩=some (.slice x2 (pG im.starts).length y2):=by
    rw[jY (0,0) ((MO _ ae).trans ((J.block w.heap.size ae).trans ((D.o.2.2 _ ae).trans ((Z.o.2.1.block w.heap.size ae).trans Ys.o.1))))];rfl
   have m2:W2.cell? ⟨w.heap.size+2,2,none⟩=some (.slice none 0 0):=by
    rw[jY (0,0) Ll];rfl
   have Mj:=oP (And.intro Mn (And.intro J MU));have M:=oP (And.intro R6 (And.intro Ll MO));have TW:=J.size;subst r1;clear Mn J MU b2 R6 Ll MO k1 m1 fz d0)
  | (
   at_builtin;refine CP _ rfl _ _ 33 rfl 4 j0 _ underlying33 hj U V Z6 rfl (.slice x2 (pG im.starts).length y2) (pG im.starts) rfl rfl (HS.o W2 M.o.1).s (Jl _) (by rw[rh];have:=HF.o.2.2;omega) ?_;intro u2 w3 Sn O SU;obtain⟨a2,g2,r2⟩:=tr Sn;have b2:=(O.block (w.heap.size+2) ae).trans M.o.2.1;have VO3:=kD w3 (w.heap.size+2) 2 _ _ b2;have d2:w3.cell? ⟨w.heap.size+2,2,none⟩=some (.slice none 0 0):=dN;obtain⟨A,Z9,Wm5,Vx0,Wh,Pw⟩:=yq (j:=2) u2 (M.o.1.trans (O.mono M.o.1.size)) (show w.heap.size<=w.heap.size+2 by omega) b2
   have n0:A.cell? ⟨w.heap.size+2,0,none⟩=some (.slice a0 (pA im.bytes).length g0):=by
    rw[jY (0,0) Wh];rfl
   have n1:A.cell? ⟨w.heap.size+2,1,none⟩=some (.slice a1 (pG im.laid).length g1):=by
    rw[jY (0,0) Wh];rfl
   have n2:A.cell? ⟨w.heap.size+2,2,none⟩=some u2:=by
    rw[jY (0,0) Wh];rfl
   have b1:=(Pw (w.heap.size+1) ae).trans ((O.block (w.heap.size+1) ae).trans ((M.o.2.2 _ ae).trans ((Mj.o.2.1.block (w.heap.size+1) ae).trans ((D.o.2.2 _ ae).trans ((Z.o.2.1.block (w.heap.size+1) ae).trans Ys.o.2.1)))));have p0:A.cell? ⟨w.heap.size+1,0,none⟩=some (.slice none 0 0):=e8;have p1:A.cell? ⟨w.heap.size+1,1,none⟩=some (.slice none 0 0):=e8;have p2:A.cell? ⟨w.heap.size+1,2,none⟩=some (.slice none 0 0):=e8;have q0:=kD A (w.heap.size+1) 0 _ _ b1;have q1:=kD A (w.heap.size+1) 1 _ _ b1;have q2:=kD A (w.heap.size+1) 2 _ _ b1;have Ue:=oP (And.intro Sn (And.intro O SU));have G:=oP (And.intro Wm5 (And.intro b1 Pw));have Vx1:=O.size;subst r2;clear Sn O SU b2 Wm5 b1 Pw Wh k2 m2 Vw9 d1))
 obtain⟨V1,Ww3,WL9,Vx2,WM0,WM1⟩:=yq (j:=0) (.slice a0 (pA im.bytes).length g0) G.o.1 (show w.heap.size<=w.heap.size+1 by omega) G.o.2.1;obtain⟨V2,Vx3,WM2,Vx4,WM3,WM4⟩:=yq (j:=1) (.slice a1 (pG im.laid).length g1) WL9 (show w.heap.size<=w.heap.size+1 by omega) WM0;obtain⟨R,Vx5,WM5,Vx6,WM6,WM7⟩:=yq (j:=2) (.slice a2 (pG im.starts).length g2) WM2 (show w.heap.size<=w.heap.size+1 by omega) WM3;rw[Ww3,Vx3,Vx5];have z3:∀k,w.heap.size+3<=k->R.heap[k]?=w3.heap[k]?:=fun k hk=>(WM7 k ae).trans ((WM4 k ae).trans ((WM1 k ae).trans (G.o.2.2 k ae)))
 have z2:∀k,w.heap.size+3<=k->k<w2.heap.size->R.heap[k]?=w2.heap[k]?:=fun k hk hl=>(z3 k hk).trans ((Ue.o.2.1.block k ae).trans (M.o.2.2 k ae))
 have z1:∀k,w.heap.size+3<=k->k<w1.heap.size->R.heap[k]?=w1.heap[k]?:=fun k hk hl=>(z2 k hk ae).trans ((Mj.o.2.1.block k ae).trans (D.o.2.2 k ae))
 have o1:=DO (w':=R) (m:=w.heap.size) Z.o.1 (fun k hk hl=>z1 k ae hl) ae;have o2:=DO (w':=R) (m:=w.heap.size) Mj.o.1 (fun k hk hl=>z2 k ae hl) ae;have o3:=DO (w':=R) (m:=w.heap.size) Ue.o.1 (fun k hk _=>z3 k ae) ae;refine kf (Z2Y rfl _ _ (w.heap.size+1) [.slice a0 (pA im.bytes).length g0,.slice a1 (pG im.laid).length g1,.slice a2 (pG im.starts).length g2] _ rfl ?_ underlying35 rfl aj) rfl ?_
 ·intro j u hu;rw[jY (0,0) WM6,kN];simpa using hu
 rw[sg]at o1⊢;rw[rh]at o2⊢;rw[rh]at o3⊢;refine⟨_,_,_,rfl,⟨o1,o2,o3,fun g e1 e2=>?_⟩,WM5⟩;have t1:=Z.o.2.2 g (by rw[sg];exact e1);have t2:=Mj.o.2.2 g (by rw[rh];exact e2);have t3:=(Z.o.1.lt g (by rw[sg];exact e1)).2;omega
end
structure qX where
 a:Value
 b:Value
 c:Value
 m:Nat
def evB(m:Nat):Bool:=decide (m%2=0)
def odB(m:Nat):Bool:=decide (m%2=1)
def vR(e:qX):List Value:=[e.a,e.b,e.c,.int .u8 (e.m:Int)]
def sj(e:qX):List Value:=[e.a,e.b,e.c]
def FullB(w:World)(base A:Nat)(t:TypeId)(u v:Value):Prop:=∃n,n<=3000000/\w.ownsRow base t 1 v n (List.replicate n u)/\∀g,v.ownBlock=some g->g<A
structure Full3(w:World)(base top:Nat)(e:qX):Prop where
 a:FullB w base top 5 (.int .u8 (e.m:Int)) e.a
 b:FullB w base top 4 (.bool (evB e.m)) e.b
 c:FullB w base top 4 (.bool (odB e.m)) e.c
 m:e.m<=200
structure BookI(w:World)(bb base top:Nat)(iv:Value)(is:List qX):Prop where
 c1:w.cell? ⟨bb,1,none⟩=some iv
 f1:w.frozen? ⟨bb,1,none⟩=false
 row:w.ownsRow base 62 4 iv is.length (is.flatMap vR)
 rtop:∀g,iv.ownBlock=some g->g<top
 full:∀e∈is,Full3 w base top e
 apart:∀e∈is,∀v∈sj e,∀g,v.ownBlock=some g->iv.ownBlock≠some g
theorem FullB.kept{w w':World}{base A G:Nat}{t:TypeId}{u v:Value}(h:FullB w base A t u v)(hk:∀j,base<=j->j<A->v.ownBlock=some j->w'.heap[j]?=w.heap[j]?)(ht:A<=G):FullB w' base G t u v:=by
 obtain⟨n,h1,h2,h3⟩:=h;exact⟨n,h1,qO h2 (fun j D=>hk j (h2.lt j D).1 (h3 j D) D),fun g I=>ke (h3 g I) ht⟩
theorem Full3.kept{w w':World}{base A D:Nat}{e:qX}(h:Full3 w base A e)(hk:∀v∈sj e,∀j,base<=j->j<A->v.ownBlock=some j->w'.heap[j]?=w.heap[j]?)(ht:A<=D):Full3 w' base D e:=
 ⟨h.a.kept (hk _ cq) ht,h.b.kept (hk _ cq) ht,h.c.kept (hk _ cq) ht,h.m⟩
theorem Full3.lt{w:World}{base D:Nat}{e:qX}(h:Full3 w base D e):∀v∈sj e,∀g,v.ownBlock=some g->base<=g/\g<D:=by
 intro v G g A;simp only[sj,kF,lE,lF]at G;rcases G with rfl|rfl|rfl
 ·obtain⟨n,_,h2,h3⟩:=h.a;exact⟨(h2.lt g A).1,h3 g A⟩
 ·obtain⟨n,_,h2,h3⟩:=h.b;exact⟨(h2.lt g A).1,h3 g A⟩
 obtain⟨n,_,h2,h3⟩:=h.c;exact⟨(h2.lt g A).1,h3 g A⟩
structure AB(w:World)(bb base top:Nat)(sv:Value)(es:List Snt)(iv:Value)(is:List qX):Prop where
 s:BookS w bb base top sv es
 i:BookI w bb base top iv is
 si:∀g,sv.ownBlock=some g->iv.ownBlock≠some g
 sI:∀e∈is,∀v∈sj e,∀g,v.ownBlock=some g->sv.ownBlock≠some g
 iS:∀e∈es,∀v∈rV e,∀g,v.ownBlock=some g->iv.ownBlock≠some g
theorem BookI.kept{w w':World}{A base G I:Nat}{D:Value}{is:List qX}(h:BookI w A base G D is)(hc:w'.cell? ⟨A,1,none⟩=w.cell? ⟨A,1,none⟩)(hf:w'.frozen? ⟨A,1,none⟩=w.frozen? ⟨A,1,none⟩)
  (J:∀j,D.ownBlock=some j->w'.heap[j]?=w.heap[j]?) (hk:∀e∈is,∀v∈sj e,∀j,v.ownBlock=some j->w'.heap[j]?=w.heap[j]?) (ht:G<=I):BookI w' A base I D is:=
 ⟨hc.trans h.c1,hf.trans h.f1,qO h.row J,fun g M=>ke (h.rtop g M) ht,fun e he=>(h.full e he).kept (fun v O j _ _ R=>hk e he v O j R) ht,h.apart⟩
theorem AB.kept{w w':World}{A base G J:Nat}{M O:Value}{es:List Snt}{is:List qX}(h:AB w A base G M es O is)(I:w'.heap[A]?=w.heap[A]?)(hk:∀j,base<=j->j<G->w'.heap[j]?=w.heap[j]?)(ht:G<=J):AB w' A base J M es O is:=
 ⟨(h.s.kept I hk).up ht,h.i.kept (jW (a:=⟨A,1,none⟩) I) (ku (a:=⟨A,1,none⟩) I) (fun j D=>hk j (h.i.row.lt j D).1 (h.i.rtop j D)) (fun e he v R j D=>by have:=(h.i.full e he).lt v R j D;exact hk j this.1 this.2) ht,h.si,h.sI,h.iS⟩
theorem Cc{w:World}{G base A:Nat}{I:Value}{es:List Snt}(h:BookS w G base A I es){e:Snt}(he:e∈es){v:Value}(J:v∈rV e){g:Nat}(D:v.ownBlock=some g):base<=g/\g<A:=by
 obtain⟨n,_,h2,h3⟩:=h.full e he v J;exact⟨(h2.lt g D).1,h3 g D⟩
theorem AB.keepS{w w':World}{I base J:Nat}{O sv' R:Value}{es:List Snt}{is:List qX}{M:Snt}(h:AB w I base J O es R is)(ht:J<=w'.heap.size)(hs:BookS w' I base w'.heap.size sv' (es++[M]))(hk:KeptB 0 w w' I J O sv')(hn:∀v∈rV M,∀g,v.ownBlock=some g->J<=g):AB w' I base w'.heap.size sv' (es++[M]) R is:=by
 have U:=h.s.lt
 have S:∀e∈is,∀v∈sj e,∀g,v.ownBlock=some g->sv'.ownBlock≠some g:=fun e he v D g A e2=>by
  rcases hk.loc with q|q
  ·rw[q]at e2;exact h.sI e he v D g A e2
  have:=q g e2;have:=((h.i.full e he).lt v D g A).2;omega
 refine⟨hs,h.i.kept (hk.cell 1 ah) (hk.fz 1) (fun j G=>hk.block j (h.i.rtop j G) (by have:=(h.i.row.lt j G).1;omega) (fun e=>h.si j e G)) (fun e he v D j G=>by
   have:=(h.i.full e he).lt v D j G;exact hk.block j this.2 ae (h.sI e he v D j G)) ht,?_,S,?_⟩
 ·intro g A e2;rcases hk.loc with q|q
  ·rw[q]at A;exact h.si g A e2
  have:=q g A;have:=h.i.rtop g e2;omega
 intro e he v D g A e2;rcases kW.1 he with he|he
 ·exact h.iS e he v D g A e2
 simp only[kF,lE,lF]at he;subst he;have:=hn v D g A;have:=h.i.rtop g e2;omega
structure Ae(w w':World)(F:Nat->Prop)(bb:Nat)(iv iv':Value):Prop where
 os:w'.os=w.os
 tape:w'.tape=w.tape
 output:w'.output=w.output
 size:w.heap.size<=w'.heap.size
 block:∀k,k<w.heap.size->F k->k≠bb->iv.ownBlock≠some k->w'.heap[k]?=w.heap[k]?
 cell:∀j,j≠1->w'.cell? ⟨bb,j,none⟩=w.cell? ⟨bb,j,none⟩
 fz:∀j,w'.frozen? ⟨bb,j,none⟩=w.frozen? ⟨bb,j,none⟩
 loc:iv'.ownBlock=iv.ownBlock\/∀g,iv'.ownBlock=some g->w.heap.size<=g
theorem AB.keepI{w w':World}{F:Nat->Prop}{J base:Nat}{M S iv':Value}{es:List Snt}{is:List qX}{O:qX}(h:AB w J base w.heap.size M es S is)(hs:BookI w' J base w'.heap.size iv' (is++[O]))(hk:Ae w w' F J S iv')(hn:∀v∈sj O,∀g,v.ownBlock=some g->F g->w.heap.size<=g)(I:∀g,M.ownBlock=some g->F g)(R:∀e∈es,∀v∈rV e,∀g,v.ownBlock=some g->F g):AB w' J base w'.heap.size M es iv' (is++[O]):=by
 have U:=h.s.lt;have ht:=hk.size;have V:∀j,M.ownBlock=some j->w'.heap[j]?=w.heap[j]?:=fun j G=>hk.block j (h.s.rtop j G) (I j G) (by have:=(h.s.row.lt j G).1;omega) (fun e=>h.si j G e)
 have Z:∀e∈es,∀v∈rV e,∀j,v.ownBlock=some j->w'.heap[j]?=w.heap[j]?:=fun e he v A j G=>by
  have:=Cc h.s he A G;exact hk.block j this.2 (R e he v A j G) ae (h.iS e he v A j G)
 refine⟨⟨(hk.cell 0 ah).trans h.s.c0,(hk.fz 0).trans h.s.f0,U,by have:=h.s.le;omega,qO h.s.row V,fun g D=>ke (h.s.rtop g D) ht,fun e he v A=>?_,h.s.apart⟩,hs,?_,?_,?_⟩
 ·obtain⟨n,h1,h2,h3⟩:=h.s.full e he v A;exact⟨n,h1,qO h2 (fun j G=>Z e he v A j G),fun g D=>ke (h3 g D) ht⟩
 ·intro g D e2;rcases hk.loc with q|q
  ·rw[q]at e2;exact h.si g D e2
  have:=q g e2;have:=h.s.rtop g D;omega
 ·intro e he v A g D e2;rcases kW.1 he with he|he
  ·exact h.sI e he v A g D e2
  simp only[kF,lE,lF]at he;subst he;have:=hn v A g D (I g e2);have:=h.s.rtop g e2;omega
 intro e he v A g D e2;rcases hk.loc with q|q
 ·rw[q]at e2;exact h.iS e he v A g D e2
 have:=q g e2;have:=(Cc h.s he A D).2;omega
structure IR3(w:World)(B:Nat)(v0 v1 v2:Value)(n0 n1 n2:Nat)(x0 x1 x2:List Value):Prop where
 r0:w.ownsRow B 5 1 v0 n0 x0
 r1:w.ownsRow B 4 1 v1 n1 x1
 r2:w.ownsRow B 4 1 v2 n2 x2
 d:∀g,v1.ownBlock=some g->v2.ownBlock≠some g
theorem xt{w:World}{B:Nat}{e:TypeId}{s n g:Nat}{v:Value}{xs:List Value}(h:w.ownsRow B e s v n xs)(A:v.ownBlock=some g):∃D,w.heap[g]?=some (.cells D e (0,0)):=by
 obtain⟨_,⟨rfl,_⟩|⟨G,I,D,rfl,_,hc,_⟩⟩:=h
 ·simp[Value.ownBlock]at A
 simp only[Value.ownBlock,me]at A;subst A;exact⟨D,hc⟩
theorem xq{w:World}{B C:Nat}{e f:TypeId}{s t n m g:Nat}{v u:Value}{xs D:List Value}(h:w.ownsRow B e s v n xs)(k:w.ownsRow C f t u m D)(A:e≠f)(G:v.ownBlock=some g):u.ownBlock≠some g:=by
 intro I;obtain⟨c1,h1⟩:=xt h G;obtain⟨c2,h2⟩:=xt k I;rw[h1]at h2;simp only[me,Obj.cells.injEq]at h2;exact A h2.2.1
structure KI(w wx:World)(F:Nat->Prop)(B xb:Nat)(v0 v1 v2:Value)(n0 n1 n2:Nat)(x0 x1 x2:List Value):Prop where
 os:wx.os=w.os
 tape:wx.tape=w.tape
 output:wx.output=w.output
 size:w.heap.size<=wx.heap.size
 kept:∀k,k<w.heap.size->F k->wx.heap[k]?=w.heap[k]?
 ir:IR3 wx B v0 v1 v2 n0 n1 n2 x0 x1 x2
 c:wx.heap[xb]?=some (.cells #[v0,v1,v2] 35)
 xge:w.heap.size<=xb
 ble:B<=w.heap.size
 o0:∀g,v0.ownBlock=some g->F g->w.heap.size<=g
 o1:∀g,v1.ownBlock=some g->F g->w.heap.size<=g
 o2:∀g,v2.ownBlock=some g->F g->w.heap.size<=g
section
variable {w wx wn:World} {F:Nat->Prop} {B xb:Nat} {v0 v1 v2 v':Value} {n0 n1 n2:Nat} {x0 x1 x2:List Value}
theorem KI.ne0(h:KI w wx F B xb v0 v1 v2 n0 n1 n2 x0 x1 x2):v0.ownBlock≠some xb:=fun e=>by
 obtain⟨c,hc⟩:=xt h.ir.r0 e
 rw[h.c]at hc
 simp at hc
theorem KI.ne1(h:KI w wx F B xb v0 v1 v2 n0 n1 n2 x0 x1 x2):v1.ownBlock≠some xb:=fun e=>by
 obtain⟨c,hc⟩:=xt h.ir.r1 e
 rw[h.c]at hc
 simp at hc
theorem KI.ne2(h:KI w wx F B xb v0 v1 v2 n0 n1 n2 x0 x1 x2):v2.ownBlock≠some xb:=fun e=>by
 obtain⟨c,hc⟩:=xt h.ir.r2 e
 rw[h.c]at hc
 simp at hc
theorem Bu{w wx:World}{F:Nat->Prop}{g j:Nat}{u:Value}(hk:∀k,k<w.heap.size->F k->wx.heap[k]?=w.heap[k]?)(G:F g->w.heap.size<=g):∀k,k<w.heap.size->F k->(wx.setCell ⟨g,j,none⟩ u).heap[k]?=w.heap[k]?:=fun k D A=>by
 rw[kk wx ⟨g,j,none⟩ k u (fun e=>by have e2:k=g:=e;rw[e2]at A D;have:=G A;omega)]
 exact hk k D A
theorem KI.put0{g A k:Nat}(h:KI w wx F B xb (.slice (some ⟨g,0,none⟩) n0 A) v1 v2 n0 n1 n2 x0 x1 x2)(u:Value):KI w (wx.setCell ⟨g,k,none⟩ u) F B xb (.slice (some ⟨g,0,none⟩) n0 A) v1 v2 n0 n1 n2 (x0.set k u) x1 x2:=by
 refine⟨h.os,h.tape,h.output,bj,Bu h.kept (h.o0 g rfl),⟨Ap h.ir.r0 u,lP (a:=⟨g,k,none⟩) h.ir.r1 (xq h.ir.r0 h.ir.r1 ah rfl) u,lP (a:=⟨g,k,none⟩) h.ir.r2 (xq h.ir.r0 h.ir.r2 ah rfl) u,h.ir.d⟩,?_,h.xge,h.ble,h.o0,h.o1,h.o2⟩;rw[kk wx ⟨g,k,none⟩ xb u (fun e=>h.ne0 fe)];exact h.c
theorem KI.put1{g A k:Nat}(h:KI w wx F B xb v0 (.slice (some ⟨g,0,none⟩) n1 A) v2 n0 n1 n2 x0 x1 x2)(u:Value):KI w (wx.setCell ⟨g,k,none⟩ u) F B xb v0 (.slice (some ⟨g,0,none⟩) n1 A) v2 n0 n1 n2 x0 (x1.set k u) x2:=by
 refine⟨h.os,h.tape,h.output,bj,Bu h.kept (h.o1 g rfl),⟨lP (a:=⟨g,k,none⟩) h.ir.r0 (xq h.ir.r1 h.ir.r0 ah rfl) u,Ap h.ir.r1 u,lP (a:=⟨g,k,none⟩) h.ir.r2 (h.ir.d g rfl) u,h.ir.d⟩,?_,h.xge,h.ble,h.o0,h.o1,h.o2⟩;rw[kk wx ⟨g,k,none⟩ xb u (fun e=>h.ne1 fe)];exact h.c
theorem KI.put2{g A k:Nat}(h:KI w wx F B xb v0 v1 (.slice (some ⟨g,0,none⟩) n2 A) n0 n1 n2 x0 x1 x2)(u:Value):KI w (wx.setCell ⟨g,k,none⟩ u) F B xb v0 v1 (.slice (some ⟨g,0,none⟩) n2 A) n0 n1 n2 x0 x1 (x2.set k u):=by
 refine⟨h.os,h.tape,h.output,bj,Bu h.kept (h.o2 g rfl),⟨lP (a:=⟨g,k,none⟩) h.ir.r0 (xq h.ir.r2 h.ir.r0 ah rfl) u,lP (a:=⟨g,k,none⟩) h.ir.r1 (fun e=>h.ir.d g e rfl) u,Ap h.ir.r2 u,h.ir.d⟩,?_,h.xge,h.ble,h.o0,h.o1,h.o2⟩;rw[kk wx ⟨g,k,none⟩ xb u (fun e=>h.ne2 fe)];exact h.c
theorem KI.xlt(h:KI w wx F B xb v0 v1 v2 n0 n1 n2 x0 x1 x2):xb<wx.heap.size:=(kV.1 h.c).1
theorem xd{o:Obj}{v:Value}(A:(wx.alloc o).grownBy wn v.ownBlock):∀k,k<wx.heap.size->v.ownBlock≠some k->wn.heap[k]?=wx.heap[k]?:=fun k hk D=>by
 rw[A.block k dM (fun e=>D e.symm),kt hk]
theorem KI.blk{o:Obj}{v u:Value}{j:Nat}(h:KI w wx F B xb v0 v1 v2 n0 n1 n2 x0 x1 x2)(G:∀g,v.ownBlock=some g->F g->w.heap.size<=g)(A:(wx.alloc o).grownBy wn v.ownBlock):(∀k,k<w.heap.size->F k->(wn.setCell ⟨xb,j,none⟩ u).heap[k]?=w.heap[k]?)/\w.heap.size<=(wn.setCell ⟨xb,j,none⟩ u).heap.size:=by
 have hz:=A.size;rw[World.alloc_size]at hz;have hs:=h.size;refine⟨Bu (fun k hk D=>?_) (fun _=>h.xge),bO⟩;rw[xd A k ae (fun e=>by have:=G k e D;omega)];exact h.kept k hk D
theorem Cm{o:Obj}{v:Value}(hs:w.heap.size<=wx.heap.size)(D:∀g,v.ownBlock=some g->F g->w.heap.size<=g)(G:v'.ownBlock=v.ownBlock\/v'.ownBlock=some (wx.alloc o).heap.size):∀g,v'.ownBlock=some g->F g->w.heap.size<=g:=fun g A I=>by
 rcases G with q|q
 ·exact D g (q.symm.trans A) I
 rw[q,World.alloc_size]at A
 have:=kp A
 omega
theorem KI.app0{o:Obj}{I:List Value}(h:KI w wx F B xb v0 v1 v2 n0 n1 n2 x0 x1 x2)(Kc:wn.ownsRow B 5 1 v' (n0+3) I)(A:(wx.alloc o).grownBy wn v0.ownBlock)(J:v'.ownBlock=v0.ownBlock\/v'.ownBlock=some (wx.alloc o).heap.size):KI w (wn.setCell ⟨xb,0,none⟩ v') F B xb v' v1 v2 (n0+3) n1 n2 I x1 x2:=by
 obtain⟨hk,hz⟩:=h.blk (u:=v') (j:=0) h.o0 A;have G:=xd A;have Ux:wn.heap[xb]?=some (.cells #[v0,v1,v2] 35):=(G xb h.xlt h.ne0).trans h.c;have q1:=qO (w':=wn) h.ir.r1 (fun j D=>G j (h.ir.r1.lt j D).2 (fun e=>xq h.ir.r0 h.ir.r1 ah e D));have q2:=qO (w':=wn) h.ir.r2 (fun j D=>G j (h.ir.r2.lt j D).2 (fun e=>xq h.ir.r0 h.ir.r2 ah e D))
 have M:v'.ownBlock≠some xb:=fun e=>by
  exact McJ
 exact⟨A.os.trans h.os,A.tape.trans h.tape,A.output.trans h.output,hz,hk,⟨lP Kc M _,lP q1 h.ne1 _,lP q2 h.ne2 _,h.ir.d⟩,lq wn xb 0 _ _ v' Ux,h.xge,h.ble,Cm h.size h.o0 J,h.o1,h.o2⟩
theorem KI.app1{o:Obj}{J:List Value}(h:KI w wx F B xb v0 v1 v2 n0 n1 n2 x0 x1 x2)(Kc:wn.ownsRow B 4 1 v' (n1+3) J)(A:(wx.alloc o).grownBy wn v1.ownBlock)(M:v'.ownBlock=v1.ownBlock\/v'.ownBlock=some (wx.alloc o).heap.size):KI w (wn.setCell ⟨xb,1,none⟩ v') F B xb v0 v' v2 n0 (n1+3) n2 x0 J x2:=by
 obtain⟨hk,hz⟩:=h.blk (u:=v') (j:=1) h.o1 A;have I:=xd A;have Ux:wn.heap[xb]?=some (.cells #[v0,v1,v2] 35):=(I xb h.xlt h.ne1).trans h.c;have q1:=qO (w':=wn) h.ir.r0 (fun j D=>I j (h.ir.r0.lt j D).2 (fun e=>xq h.ir.r1 h.ir.r0 ah e D));have q2:=qO (w':=wn) h.ir.r2 (fun j D=>I j (h.ir.r2.lt j D).2 (fun e=>h.ir.d j e D))
 have O:v'.ownBlock≠some xb:=fun e=>by
  exact McJ
 refine⟨A.os.trans h.os,A.tape.trans h.tape,A.output.trans h.output,hz,hk,⟨lP q1 h.ne0 _,lP Kc O _,lP q2 h.ne2 _,fun g G e=>?_⟩,lq wn xb 1 _ _ v' Ux,h.xge,h.ble,h.o0,Cm h.size h.o1 M,h.o2⟩;rcases M with q|q
 ·rw[q]at G;exact h.ir.d g G e
 rw[q,World.alloc_size]at G;have:=(h.ir.r2.lt g e).2;have:=kp G;omega
theorem KI.app2{o:Obj}{I:List Value}(h:KI w wx F B xb v0 v1 v2 n0 n1 n2 x0 x1 x2)(Kc:wn.ownsRow B 4 1 v' (n2+3) I)(A:(wx.alloc o).grownBy wn v2.ownBlock)(J:v'.ownBlock=v2.ownBlock\/v'.ownBlock=some (wx.alloc o).heap.size):KI w (wn.setCell ⟨xb,2,none⟩ v') F B xb v0 v1 v' n0 n1 (n2+3) x0 x1 I:=by
 obtain⟨hk,hz⟩:=h.blk (u:=v') (j:=2) h.o2 A;have G:=xd A;have Ux:wn.heap[xb]?=some (.cells #[v0,v1,v2] 35):=(G xb h.xlt h.ne2).trans h.c;have q1:=qO (w':=wn) h.ir.r0 (fun j D=>G j (h.ir.r0.lt j D).2 (fun e=>xq h.ir.r2 h.ir.r0 ah e D));have q2:=qO (w':=wn) h.ir.r1 (fun j D=>G j (h.ir.r1.lt j D).2 (fun e=>h.ir.d j D e))
 have O:v'.ownBlock≠some xb:=fun e=>by
  exact McJ
 refine⟨A.os.trans h.os,A.tape.trans h.tape,A.output.trans h.output,hz,hk,⟨lP q1 h.ne0 _,lP q2 h.ne1 _,lP Kc O _,fun g M e=>?_⟩,lq wn xb 2 _ _ v' Ux,h.xge,h.ble,h.o0,h.o1,Cm h.size h.o2 J⟩;rcases J with q|q
 ·rw[q]at e;exact h.ir.d g M e
 rw[q,World.alloc_size]at e;have:=(h.ir.r1.lt g M).2;have:=kp e;omega
theorem KI.done{A base J m:Nat}{I iv':Value}{is:List qX}{o:Obj}(G:BookI w A base J I is)(Ls:A<base)(KR:base<=J)(Wa7:J<=B)(hF:∀k,k<J->F k)(h:KI w wx F B xb v0 v1 v2 n0 n1 n2 (List.replicate n0 (.int .u8 (m:Int))) (List.replicate n1 (.bool (evB m))) (List.replicate n2 (.bool (odB m))))(h0:n0<=3000000)(h1:n1<=3000000)(h2:n2<=3000000)(hm:m<=200)
  (Kc:wn.ownsRow base 62 4 iv' (is.length+1) (is.flatMap vR++[v0,v1,v2,.int .u8 (m:Int)])) (M:(wx.alloc o).grownBy wn I.ownBlock) (Kj:iv'.ownBlock=I.ownBlock\/iv'.ownBlock=some (wx.alloc o).heap.size) :
  BookI (wn.setCell ⟨A,1,none⟩ iv') A base (wn.setCell ⟨A,1,none⟩ iv').heap.size iv' (is++[⟨v0,v1,v2,m⟩])/\Ae w (wn.setCell ⟨A,1,none⟩ iv') F A I iv'/\∀v∈sj ⟨v0,v1,v2,m⟩,∀g,v.ownBlock=some g->F g->w.heap.size<=g:=by
 have LQ:=h.ble;have Wf1:=h.size;have hz:=M.size;rw[World.alloc_size]at hz;have Y7:∀g,I.ownBlock=some g->base<=g/\g<J:=fun g hg=>⟨(G.row.lt g hg).1,G.rtop g hg⟩
 have O:=xd M;have OI:∀k,k≠A->(wn.setCell ⟨A,1,none⟩ iv').heap[k]?=wn.heap[k]?:=fun k hk=>ly aJ
 have R:wn.heap[A]?=w.heap[A]?:=by rw[O A ae (fun e=>by have:=(Y7 A e).1;omega),h.kept A ae (hF A ae)]
 have c1:wn.cell? ⟨A,1,none⟩=some I:=(jW R).trans G.c1;have S:(wn.setCell ⟨A,1,none⟩ iv').heap.size=wn.heap.size:=az;have U:Full3 wx B wx.heap.size ⟨v0,v1,v2,m⟩:=⟨⟨n0,h0,h.ir.r0,fun g hg=>(h.ir.r0.lt g hg).2⟩,⟨n1,h1,h.ir.r1,fun g hg=>(h.ir.r1.lt g hg).2⟩,⟨n2,h2,h.ir.r2,fun g hg=>(h.ir.r2.lt g hg).2⟩,hm⟩;have V:=U.lt
 have Vx9:∀v∈sj ⟨v0,v1,v2,m⟩,∀g,v.ownBlock=some g->F g->w.heap.size<=g:=by
  intro v D;simp only[sj,kF,lE,lF]at D;rcases D with rfl|rfl|rfl
  ·exact h.o0
  ·exact h.o1
  exact h.o2
 have down:∀ {t:TypeId} {u v:Value},FullB wx B wx.heap.size t u v->(∀g,v.ownBlock=some g->B<=g/\g<wx.heap.size)->FullB (wn.setCell ⟨A,1,none⟩ iv') base (wn.setCell ⟨A,1,none⟩ iv').heap.size t u v:=fun {t u v} ⟨n,p1,p2,p3⟩ D=>
  ⟨n,p1,EG (qO p2 (fun j Z=>by
   have:=D j Z;rw[OI j ae,O j this.2 (fun e=>by have:=(Y7 j e).2;omega)])) ae,fun g hg=>by rw[S];have:=(D g hg).2;omega⟩
 refine⟨⟨kP _ c1,by simpa using (ku R).trans G.f1,?_,?_,?_,?_⟩,⟨M.os.trans h.os,M.tape.trans h.tape,M.output.trans h.output,?_,?_,?_,?_,?_⟩,Vx9⟩
 ·rw[kq,nQ];simp only[kh,lI,mT,T0F,kX];exact T0Z Kc (by simpa using Ls) _
 ·intro g hg;rw[S];exact(Kc.lt g hg).2
 ·intro e he;rcases kW.1 he with he|he
  ·refine(G.full e he).kept (fun v D j Wk8 QX Z=>?_) (by rw[S];omega);rw[OI j ae,O j ae (G.apart e he v D j Z),h.kept j ae (hF j QX)]
  simp only[kF,lE,lF]at he;subst he;exact⟨down U.a (V _ cq),down U.b (V _ cq),down U.c (V _ cq),hm⟩
 ·intro e he v D g hg e2;rcases kW.1 he with he|he
  ·rcases Kj with q|q
   ·rw[q]at e2;exact G.apart e he v D g hg e2
   rw[q,World.alloc_size]at e2;have:=((G.full e he).lt v D g hg).2;have:=kp e2;omega
  simp only[kF,lE,lF]at he;subst he;have KM:=V v D g hg;rcases Kj with q|q
  ·rw[q]at e2;have:=(Y7 g e2).2;omega
  rw[q,World.alloc_size]at e2;have:=kp e2;omega
 ·rw[S];omega
 ·intro k hk Vy0 Kk hs;rw[OI k Kk,O k ae hs,h.kept k hk Vy0]
 ·intro j Z;rw[j3 aY];exact jW R
 ·intro j;have:=ku (a:=⟨A,j,none⟩) R;simpa using this
 exact Mbz
end
