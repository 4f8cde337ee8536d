import Derived.Test.YthokdbcpkmcieaaGreatDoorH31
import Derived.Test.YthokdbcpkmcieaaGreatDoorH29
set_option maxRecDepth 200000
set_option maxHeartbeats 16000000
namespace Go.Proofs.YthokdbcpkmcieaaGreatDoor
open RowKit Proofs.Tryz
theorem Tryz.infoImages:(Tryz.prog.info? 62).map (fun i=>(i.zero,i.size,i.bytes))=some (some (.agg #[.slice none 0 0,.slice none 0 0,.slice none 0 0,.int .u8 0]),4,80):=aj
theorem wR{w:World}{mb:Nat}{x y z:Value}(h:w.heap[mb]?=some (.cells #[x,y,z] 35)):w.cell? ⟨mb,0,none⟩=some x/\w.cell? ⟨mb,1,none⟩=some y/\w.cell? ⟨mb,2,none⟩=some z/\∀j,w.frozen? ⟨mb,j,none⟩=false:=
 ⟨kM _ _ 0 _ _ _ h,kM _ _ 1 _ _ _ h,kM _ _ 2 _ _ _ h,fun j=>kT j _ _ h⟩
theorem Z8L{w wn:World}{bb base e:Nat}{size n:Nat}{A v:Value}{xs:List Value}{o:Obj}(z0:w.cell? ⟨bb,1,none⟩=some A)(z1:w.frozen? ⟨bb,1,none⟩=false)(Kg:(w.alloc o).drew.grownBy wn v.ownBlock)(D:bb<base)(Ke:w.drew.ownsRow base e size v n xs)(hw:bb<w.heap.size):wn.cell? ⟨bb,1,none⟩=some A/\wn.frozen? ⟨bb,1,none⟩=false:=Ma5
def vM(v0 A v2:Value)(k:Nat):Prop:=v0.ownBlock≠some k/\A.ownBlock≠some k/\v2.ownBlock≠some k
theorem Z44{w:World}{B:Nat}{v0 G v2:Value}{n0 n1 I:Nat}{J M O:List Value}(h:IR3 w B v0 G v2 n0 n1 I J M O)(R:B<=w.heap.size):KI w (w.alloc (.cells #[v0,G,v2] 35)) (vM v0 G v2) B w.heap.size v0 G v2 n0 n1 I J M O:=
 ⟨rfl,rfl,rfl,af,fun k hk _=>kt hk,⟨h.r0.alloc _,h.r1.alloc _,h.r2.alloc _,h.d⟩,kg w _,jU,R,fun g A D=>absurd A D.1,fun g A D=>absurd A D.2.1,fun g A D=>absurd A D.2.2⟩
theorem Z1Y{k n:Nat}{u:Value}{xs:List Value}(A:xs.length=n)(hk:k<n):∃y,(List.replicate k u++xs.drop k)[k]?=some y:=by
 rw[lr af,ld,my,mK,kK,jX ae];exact⟨_,rfl⟩
theorem Dh{n:Nat}{u:Value}{xs:List Value}(A:xs.length=n):List.replicate n u++xs.drop n=List.replicate n u:=by
 rw[show xs.drop n=[] by rw[<-A];exact List.drop_length,kX]
theorem Cy{w:World}{B g A n k:Nat}{e:TypeId}{u:Value}{xs:List Value}(h:w.ownsRow B e 1 (.slice (some ⟨g,0,none⟩) n A) n (List.replicate k u++xs.drop k))(D:xs.length=n)(hk:k<n):(∃y,w.cell? ⟨g,k,none⟩=some y)/\w.frozen? ⟨g,k,none⟩=false:=by
 obtain⟨y,hy⟩:=Z1Y (u:=u) D hk;have:=h.cells (g:=g) rfl k y hy;rw[k9,kN]at this;exact⟨⟨y,this⟩,I6 h⟩
theorem CJ(w:World)(b:Nat)(A:b=w.heap.size)(t:TypeId)(u:Value):∀j x,[u,u,u][j]?=some x->(w.alloc (.cells #[u,u,u] t)).cell? ((⟨b,0,none⟩:Addr).add j)=some x:=fun j x hx=>BL w b A t 3 (u:=u) j x hx
theorem D0(n:Nat)(u:Value):List.replicate n u++[u,u,u]=List.replicate (n+3) u:=Cf n 3 u
theorem Z1S(w:World)(J base Kx:Nat)(iv:Value)(is:List qX)(hB:BookI w J base Kx iv is)(Ls:J<base)(KR:base<=Kx)(Wm6:is.length<=2000000)(Nz:Kx<=w.heap.size)(B:Nat)(v0 v1 v2:Value)(n0 n1 D:Nat)(x0 x1 x2:List Value)(R:IR3 w B v0 v1 v2 n0 n1 D x0 x1 x2)(Wa7:Kx<=B)(N8:B<=w.heap.size)(h0:n0<=2000000)(h1:n1<=2000000)(h2:D<=2000000) :
 Calls prog 24 #[.pointer (some ⟨J,0,none⟩),.agg #[v0,v1,v2]] w fun e w'=>e=.returned (.tuple #[])/\∃iv' en,BookI w' J base w'.heap.size iv' (is++[en])/\Ae w w' (vM v0 v1 v2) J iv iv'/\∀v∈sj en,∀g,v.ownBlock=some g->vM v0 v1 v2 g->w.heap.size<=g:=by
 obtain⟨i0,hi,KJ,KC,Ky⟩:=xE Tryz.infoU8E;obtain⟨bi,Tx,N4,Kh,Km⟩:=xE Tryz.infoBoolC;obtain⟨j0,hj,VD,Wk8,QX⟩:=xE Tryz.infoImages;have HB:=oP hB;have c0:=hB.c1;have f0:=hB.f1;obtain⟨sa,sc,rfl⟩:∃a c,iv=.slice a is.length c:=MbW;obtain⟨a0,q0,rfl⟩:=tr R.r0;obtain⟨a1,q1,rfl⟩:=tr R.r1;obtain⟨a2,q2,rfl⟩:=tr R.r2;obtain⟨N,hN⟩:=Zg0 is.length;rw[hN]at c0 Wm6 HB;have Vf4:x0.length=n0:=by have:=R.r0.1;omega
 have Vf5:x1.length=n1:=by have:=R.r1.1;omega
 have Vf6:x2.length=D:=by have:=R.r2.1;omega
 obtain⟨W,hW⟩:=Zg0 (w.alloc (.cells #[.slice a0 n0 q0,.slice a1 n1 q1,.slice a2 D q2] 35));have WM8:=Z44 R N8;have Uy:Hid (∀k,k<Kx->vM (.slice a0 n0 q0) (.slice a1 n1 q1) (.slice a2 D q2) k):=fun k hk=>⟨fun e=>by have:=(R.r0.lt k e).1;omega,fun e=>by have:=(R.r1.lt k e).1;omega,fun e=>by have:=(R.r2.lt k e).1;omega⟩
 rw[hW]at WM8;have Xy:=oP WM8;obtain⟨xb,NV⟩:=Zg0 w.heap.size;have Wi:W.heap[J]?=w.heap[J]?:=by rw[<-hW];exact kt ae
 have z0:W.cell? ⟨J,1,none⟩=some (.slice sa N sc):=(jW Wi).trans c0;have Z4:(N:Int)<=2000000:=ae;obtain⟨M,hM⟩:∃M:Nat,1+N%200=M:=⟨_,rfl⟩;have Wv3:(1:Int)+(N:Int)%200=(M:Int):=ae;have Vy1:M<=200:=ae;have Vy2:IntKind.u8.wrap (M:Int)=(M:Int):=aL;have Uz:J<W.heap.size:=by rw[<-hW];simp;omega
 clear hB R hM WM8 Wi;go_enter func24,ntmps24;go_wp2_with fail;rw[NV]at Xy;have YR:=oP NV;obtain⟨eb,Ro⟩:∃b,evB M=b:=⟨_,rfl⟩;obtain⟨ob,Ml⟩:∃b,odB M=b:=⟨_,rfl⟩;have Us:((M:Int)%2==0)=eb:=gf;have Vf7:((M:Int)%2==1)=ob:=gh;have Vf8:=oP (And.intro Ro Ml);clear NV Ro Ml z0 hW Wv3 Vy2;go_loopw [5] (fun i O=>∃k:Nat,k<=n0/\i=.int .i64 k/\KI w O (vM (.slice a0 n0 q0) (.slice a1 n1 q1) (.slice a2 D q2)) B xb (.slice a0 n0 q0) (.slice a1 n1 q1) (.slice a2 D q2) n0 n1 D (List.replicate k (.int .u8 (M:Int))++x0.drop k) x1 x2) (fun i _=>n0-(intOf i).toNat)
 case atStart=>exact⟨0,j4,rfl,by simpa using Xy.o⟩
 case round=>
  obtain⟨k,hk,rfl,A⟩:=hrel;obtain⟨y0,y1,y2,U⟩:=wR A.c;by_cases V:k<n0
  ·obtain⟨g,Kd,e1,KT,KM⟩:=wG A.ir.r0 ae;simp only[mw,nE]at e1;obtain⟨rfl,rfl⟩:=e1;obtain⟨⟨y,hy⟩,Vf9⟩:=Cy A.ir.r0 Vf4 V;have HK:=oP A;have Z:(k:Int)<(n0:Int):=ae;clear A U;go_wp2;go_roundw
   case rel=>
    refine⟨k+1,ae,ao,?_⟩;rw[<-BC ae];exact HK.o.put0 _
   case measure=>simp[intOf];omega
  have NK:k=n0:=ae;have Z:¬(k:Int)<(n0:Int):=ae;rw[NK,Dh Vf4]at A;have Y3:=oP A;obtain⟨w1,Ut⟩:∃wo,wo=wr:=⟨_,rfl⟩;subst Ut;clear A NK V U;go_wp2_with fail;clear y0 y1 y2 Z;go_loopw [6] (fun i O=>∃k:Nat,k<=n1/\i=.int .i64 k/\KI w O (vM (.slice a0 n0 q0) (.slice a1 n1 q1) (.slice a2 D q2)) B xb (.slice a0 n0 q0) (.slice a1 n1 q1) (.slice a2 D q2) n0 n1 D (List.replicate n0 (.int .u8 (M:Int))) (List.replicate k (.bool eb)++x1.drop k) x2) (fun i _=>n1-(intOf i).toNat)
  case atStart=>exact⟨0,j4,rfl,by simpa using Y3.o⟩
  case round=>
   obtain⟨k,hk,rfl,A⟩:=hrel;obtain⟨y0,y1,y2,U⟩:=wR A.c;by_cases V:k<n1
   ·obtain⟨g,Kd,e1,KT,KM⟩:=wG A.ir.r1 ae;simp only[mw,nE]at e1;obtain⟨rfl,rfl⟩:=e1;obtain⟨⟨y,hy⟩,Vf9⟩:=Cy A.ir.r1 Vf5 V;have HK:=oP A;have Z:(k:Int)<(n1:Int):=ae;clear A U;go_wp2;go_roundw
    case rel=>
     refine⟨k+1,ae,ao,?_⟩;rw[<-BC ae];exact HK.o.put1 _
    case measure=>simp[intOf];omega
   have NK:k=n1:=ae;have Z:¬(k:Int)<(n1:Int):=ae;rw[NK,Dh Vf5]at A;have Y4:=oP A;obtain⟨w2,Ut⟩:∃wo,wo=wr:=⟨_,rfl⟩;subst Ut;clear A NK V U;go_wp2_with fail;clear y0 y1 y2 Z;go_loopw [7] (fun i O=>∃k:Nat,k<=D/\i=.int .i64 k/\KI w O (vM (.slice a0 n0 q0) (.slice a1 n1 q1) (.slice a2 D q2)) B xb (.slice a0 n0 q0) (.slice a1 n1 q1) (.slice a2 D q2) n0 n1 D (List.replicate n0 (.int .u8 (M:Int))) (List.replicate n1 (.bool eb)) (List.replicate k (.bool ob)++x2.drop k)) (fun i _=>D-(intOf i).toNat)
   case atStart=>exact⟨0,j4,rfl,by simpa using Y4.o⟩
   case round=>
    obtain⟨k,hk,rfl,A⟩:=hrel;obtain⟨y0,y1,y2,U⟩:=wR A.c;by_cases V:k<D
    ·obtain⟨g,Kd,e1,KT,KM⟩:=wG A.ir.r2 ae;simp only[mw,nE]at e1;obtain⟨rfl,rfl⟩:=e1;obtain⟨⟨y,hy⟩,Vf9⟩:=Cy A.ir.r2 Vf6 V;have HK:=oP A;have Z:(k:Int)<(D:Int):=ae;clear A U;go_wp2;go_roundw
     case rel=>
      refine⟨k+1,ae,ao,?_⟩;rw[<-BC ae];exact HK.o.put2 _
     case measure=>simp[intOf];omega
    have NK:k=D:=ae;have Z:¬(k:Int)<(D:Int):=ae;rw[NK,Dh Vf6]at A;have P5:=oP A;obtain⟨w3,Ut⟩:∃wo,wo=wr:=⟨_,rfl⟩;subst Ut;clear A NK V U
    go_wp2_with (first
     | (at_builtin;refine kH _ rfl _ _ 32 rfl B 5 i0 _ 1 1 underlying32 hi KJ KC Ky rfl ah _ _ _ rfl (P5.o.ir.r0.alloc _) ⟨w3.heap.size,0,none⟩ 3 3 [.int .u8 (M:Int),.int .u8 (M:Int),.int .u8 (M:Int)] rfl rfl (CJ _ _ (by rfl) _ _) ax ak ae (by have:=P5.o.ble;have:=P5.o.size;rw[World.alloc_size];omega) ?_;intro v0 Vy3 I G _ S;rw[D0]at I;obtain⟨b0,t0,rfl⟩:=tr I;obtain⟨e0,Vy4,WM9,Vg0⟩:=wR ((xd G xb P5.o.xlt P5.o.ne0).trans P5.o.c);have g0:=Vg0 0;have Ss:=oP (P5.o.app0 I G S);clear I G S Vg0)
     | (at_builtin;refine kH _ rfl _ _ 33 rfl B 4 bi _ 1 1 underlying33 Tx N4 Kh Km rfl ah _ _ _ rfl (Ss.o.ir.r1.alloc _) ⟨Vy3.heap.size,0,none⟩ 3 3 [.bool eb,.bool eb,.bool eb] rfl rfl (CJ _ _ az _ _) ax ak ae (by have:=Ss.o.ble;have:=Ss.o.size;rw[World.alloc_size];omega) ?_;intro v1 WL3 I G _ S;rw[D0]at I;obtain⟨b1,t1,rfl⟩:=tr I;obtain⟨e1,WN0,WN1,Vg1⟩:=wR ((xd G xb Ss.o.xlt Ss.o.ne1).trans Ss.o.c);have g1:=Vg1 1;have Rf:=oP (Ss.o.app1 I G S);clear I G S Vg1)
     | (
      at_builtin;refine kH _ rfl _ _ 33 rfl B 4 bi _ 1 1 underlying33 Tx N4 Kh Km rfl ah _ _ _ rfl (Rf.o.ir.r2.alloc _) ⟨WL3.heap.size,0,none⟩ 3 3 [.bool ob,.bool ob,.bool ob] rfl rfl (CJ _ _ az _ _) ax ak ae (by have:=Rf.o.ble;have:=Rf.o.size;rw[World.alloc_size];omega) ?_;intro v2 WL4 I G _ S;rw[D0]at I;obtain⟨b2,t2,rfl⟩:=tr I;obtain⟨e2,WN2,WN3,Vg2⟩:=wR ((xd G xb Rf.o.xlt Rf.o.ne2).trans Rf.o.c);have g2:=Vg2 2;have RM:=oP (Rf.o.app2 I G S);clear I G S Vg2))
    obtain⟨O,Xz⟩:=Zg0 (WL4.setCell ⟨xb,2,none⟩ (.slice b2 (D+3) t2));rw[Xz]at RM⊢;clear Xz y0 y1 y2 Z e0 Vy4 WM9 e1 WN0 WN1 e2 WN2 WN3 g0 g1 g2 Xy Y3 Y4 P5 Ss Rf Us Vf7;have A:=RM.o;obtain⟨y0,y1,y2,U⟩:=wR A.c;have Mt:O.heap[J]?=w.heap[J]?:=A.kept J ae (Uy.o J ae);have z0:O.cell? ⟨J,1,none⟩=some (.slice sa N sc):=(jW Mt).trans c0;have z1:O.frozen? ⟨J,1,none⟩=false:=(ku Mt).trans f0;have Pp:=A.xlt
    have Ke:O.drew.ownsRow base 62 4 (.slice sa N sc) N (is.flatMap vR):=by
     have:=qO (w':=O) HB.o.row (fun j hj=>A.kept j (by have:=HB.o.rtop j hj;omega) (Uy.o j (HB.o.rtop j hj)));rw[hN]at this;exact this
    have Ki:=oP Ke;have WQ:=A.size;have Y6:base<=O.heap.size:=ae;have WL8:J<O.heap.size:=ae;clear A Mt Ke c0 f0 U;go_region_law (refine xj rfl (.tmp 96) (.tmp 100) 26 rfl base 62 j0 _ 4 80 underlying26 hj VD Wk8 QX rfl ah (.slice sa N sc) N (is.flatMap vR) aB (by exact Ki.o.alloc _) ⟨O.heap.size,0,none⟩ 1 1 [.slice b0 (n0+3) t0,.slice b1 (n1+3) t1,.slice b2 (D+3) t2,.int .u8 (M:Int)] aB rfl (EK _ _ _) (by intro u hu;simp at hu;rcases hu with rfl|rfl|rfl|rfl <;> rfl) ak ae ai ?_;intro v' wn I G S;obtain⟨RJ,Ve,RL,rfl⟩:=wu I;have m0:=Z8L z0 z1 G (by exact Ls) (by exact Ki.o) ae;obtain⟨m0,m1⟩:=m0)
    all_goals
     have hL:=RM.o;rw[<-Vf8.o.1,<- Vf8.o.2]at hL;have hD:=hL.done (m:=M) (o:=.cells #[.slice b0 (n0+3) t0,.slice b1 (n1+3) t1,.slice b2 (D+3) t2,.int .u8 (M:Int)] 62) (iv':=.slice RJ Ve RL) HB.o Ls KR Wa7 Uy.o ae ae ae Vy1 (by rw[hN];exact I) ⟨G.os,G.tape,G.output,G.size,G.block⟩ S;have HD:=oP hD;clear hD hL I G S m0 m1;go_wp2;go_end0;rw[hN];exact⟨rfl,_,_,HD.o.1,HD.o.2⟩
theorem flat_get(es:List Snt):∀(k:Nat) (hk:k<es.length) (j:Nat) (u:Value),(wC es[k])[j]?=some u->(es.flatMap wC)[k*5+j]?=some u:=by
 induction es with
 |nil=>intro k hk;simp at hk
 |cons e es ih=>
  intro k hk j u A;rw[mT];have D:(wC e).length=5:=rfl;cases k with
  |zero=>
   simp only[T1a]at A
   have G:j<5:=by
    rcases lQ j 5 with h|h
    ·exact h
    rw[mg (by rw[D]at *;simpa [wC]using h)]at A;cases A
   rw[nH,kN,lz ae];exact A
  |succ k=>
   simp only[T1b]at A;rw[lr ae,D,show (k+1)*5+j-5=k*5+j by omega];exact ih k aJ j u A
theorem Z0V{w:World}{I base J:Nat}{G:Value}{es:List Snt}(h:BookS w I base J G es){k:Nat}(hk:k<es.length):∃g D,G=.slice (some ⟨g,0,none⟩) es.length D/\g<w.heap.size/\w.cell? ⟨g,k*5,none⟩=some es[k].l/\w.cell? ⟨g,k*5+1,none⟩=some es[k].a/\w.cell? ⟨g,k*5+2,none⟩=some es[k].b/\w.cell? ⟨g,k*5+3,none⟩=some es[k].c/\w.cell? ⟨g,k*5+4,none⟩=some (.string es[k].m):=by
 obtain⟨g,D,rfl,h1,h2⟩:=wG h.row ae
 have A:∀j u,(wC es[k])[j]?=some u->w.cell? ⟨g,k*5+j,none⟩=some u:=fun j u M=>by
  have:=h.row.cells (g:=g) rfl (k*5+j) u (flat_get es k hk j u M);rwa [k9,kN]at this
 exact⟨g,D,rfl,h2,A 0 _ rfl,A 1 _ rfl,A 2 _ rfl,A 3 _ rfl,A 4 _ rfl⟩
theorem Z9K(is:List qX):∀(k:Nat) (hk:k<is.length) (j:Nat) (u:Value),(vR is[k])[j]?=some u->(is.flatMap vR)[k*4+j]?=some u:=by
 induction is with
 |nil=>intro k hk;simp at hk
 |cons e is ih=>
  intro k hk j u A;rw[mT];have D:(vR e).length=4:=rfl;cases k with
  |zero=>
   simp only[T1a]at A
   have G:j<4:=by
    rcases lQ j 4 with h|h
    ·exact h
    rw[mg (by rw[D]at *;simpa [vR]using h)]at A;cases A
   rw[nH,kN,lz ae];exact A
  |succ k=>
   simp only[T1b]at A;rw[lr ae,D,show (k+1)*4+j-4=k*4+j by omega];exact ih k aJ j u A
theorem Z3d{w:World}{I base J:Nat}{G:Value}{is:List qX}(h:BookI w I base J G is){k:Nat}(hk:k<is.length):∃g D,G=.slice (some ⟨g,0,none⟩) is.length D/\g<w.heap.size/\w.cell? ⟨g,k*4,none⟩=some is[k].a/\w.cell? ⟨g,k*4+1,none⟩=some is[k].b/\w.cell? ⟨g,k*4+2,none⟩=some is[k].c/\w.cell? ⟨g,k*4+3,none⟩=some (.int .u8 (is[k].m:Int)):=by
 obtain⟨g,D,rfl,h1,h2⟩:=wG h.row ae
 have A:∀j u,(vR is[k])[j]?=some u->w.cell? ⟨g,k*4+j,none⟩=some u:=fun j u M=>by
  have:=h.row.cells (g:=g) rfl (k*4+j) u (Z9K is k hk j u M);rwa [k9,kN]at this
 exact⟨g,D,rfl,h2,A 0 _ rfl,A 1 _ rfl,A 2 _ rfl,A 3 _ rfl⟩
theorem C8{w:World}{base D:Nat}{t:TypeId}{u v:Value}(h:FullB w base D t u v):∃a n c,v=.slice a n c/\n<=3000000/\∀j,j<n->∃g,a=some ⟨g,0,none⟩/\g<w.heap.size/\w.cell? ⟨g,j,none⟩=some u:=by
 obtain⟨n,h1,h2,_⟩:=h;obtain⟨a,c,rfl⟩:=tr h2;refine⟨a,n,c,rfl,h1,fun j A=>?_⟩;obtain⟨g,d,e,x,y⟩:=A4 h2 A (u:=u) (by rw[mG,jT A]);simp only[mw]at e;exact⟨g,e.1,y,x⟩
theorem Z25(w:World)(J base Kx:Nat)(sv iv:Value)(es:List Snt)(is:List qX)(hA:AB w J base Kx sv es iv is)(Y2:es.length<=2000000)(Wm6:is.length<=2000000)(Nz:Kx<=w.heap.size) :
  Calls prog 10 #[.pointer (some ⟨J,0,none⟩)] w fun e w'=>e=.returned (.bool true)/\Below w.heap.size w w':=by
 have hB:=hA.s;have HB:=oP hB;have HA:=oP hA;have Vy5:J<Kx:=by have:=hB.lt;have:=hB.le;omega
 obtain⟨ia,ic,rfl⟩:∃a c,iv=.slice a is.length c:=tr hA.i.row;obtain⟨NI,Vy6⟩:=Zg0 is.length;rw[Vy6]at Wm6 HA;obtain⟨sa,sc,rfl⟩:∃a c,sv=.slice a es.length c:=MbW;obtain⟨N,hN⟩:=Zg0 es.length;have Ls:J<w.heap.size:=by have:=hB.lt;have:=hB.le;omega
 rw[hN]at Y2 HB;clear hB hA;go_enter func10,ntmps10;go_wp2_with fail;go_loopw [3,4] (fun i x wr=>∃k:Nat,k<=N/\i=.int .i64 k/\Below w.heap.size w wr) (fun i _ _=>N-(intOf i).toNat)
 case atStart=>exact⟨0,j4,rfl,jV⟩
 case round=>
  obtain⟨k,hk,rfl,hW⟩:=hrel;have Xx:BookS wr J base Kx (.slice sa N sc) es:=HB.o.kept (hW.block J Ls) (fun j _ D=>hW.block j ae);have c0:=Xx.c0;have Xz:=hW.size;have HW:=oP hW;have ON:=oP Xx;by_cases R:k<N
  ·obtain⟨g,Kd,e1,S,y0,y1,y2,Z,y4⟩:=Z0V Xx (k:=k) ae;have G:=Xx.full es[k] (kC _);simp only[mw]at e1;obtain⟨rfl,PF,rfl⟩:=e1;clear PF;obtain⟨en,Py⟩:=Zg0 (es[k]'(ae));rw[Py]at y0 y1 y2 Z y4 G;obtain⟨vl,va,vb,vc,m⟩:=en;simp only at y0 y1 y2 Z y4 G;have F1:=oP (fun w' (hb:Below wr.heap.size wr w')=>Bj w' base wr.heap.size vl m (by obtain⟨q,I,A,p3⟩:=G vl bq;exact⟨q,I,qO A (fun j D=>hb.block j (A.lt j D).2),fun g S=>(A.lt g S).2⟩));have F2:=oP (fun w' (hb:Below wr.heap.size wr w')=>Bj w' base wr.heap.size va m (by obtain⟨q,I,A,p3⟩:=G va bq;exact⟨q,I,qO A (fun j D=>hb.block j (A.lt j D).2),fun g S=>(A.lt g S).2⟩));have F3:=oP (fun w' (hb:Below wr.heap.size wr w')=>Bj w' base wr.heap.size vb m (by obtain⟨q,I,A,p3⟩:=G vb bq;exact⟨q,I,qO A (fun j D=>hb.block j (A.lt j D).2),fun g S=>(A.lt g S).2⟩));have F4:=oP (fun w' (hb:Below wr.heap.size wr w')=>Bj w' base wr.heap.size vc m (by obtain⟨q,I,A,p3⟩:=G vc bq;exact⟨q,I,qO A (fun j D=>hb.block j (A.lt j D).2),fun g S=>(A.lt g S).2⟩));have N0:(k:Int)<(N:Int):=ae;obtain⟨l1,l2,l3,rfl⟩:∃a b c,vl=.slice a b c:=by obtain⟨q,I,A,p3⟩:=G vl bq;exact wu A
   obtain⟨a1,a2,a3,rfl⟩:∃a b c,va=.slice a b c:=by obtain⟨q,I,A,p3⟩:=G va bq;exact wu A
   obtain⟨b1,b2,b3,rfl⟩:∃a b c,vb=.slice a b c:=by obtain⟨q,I,A,p3⟩:=G vb bq;exact wu A
   obtain⟨c1,c2,c3,rfl⟩:∃a b c,vc=.slice a b c:=by obtain⟨q,I,A,p3⟩:=G vc bq;exact wu A
   clear hW Xx G Py;have Te:=oP (show Below wr.heap.size wr (wr.alloc (.cells #[.slice l1 l2 l3,.slice a1 a2 a3,.slice b1 b2 b3,.slice c1 c2 c3,.string m] 59)) from jV.alloc jU _);go_wp2_with fail;refine(F1.o _ Te.o).mono ?_;rintro e w1 ⟨rfl,rfl⟩;go_wp2_with fail;refine(F2.o _ Te.o).mono ?_;rintro e w1 ⟨rfl,rfl⟩;go_wp2_with fail;refine(F3.o _ Te.o).mono ?_;rintro e w1 ⟨rfl,rfl⟩;go_wp2_with fail;refine(F4.o _ Te.o).mono ?_;rintro e w1 ⟨rfl,rfl⟩;go_wp2;go_roundw
   case rel=>exact⟨k+1,ae,ao,HW.o.alloc Xz _⟩
   case measure=>simp[intOf];omega
  have NK:k=N:=ae;subst NK;obtain⟨wo,Ut⟩:∃wo,wo=wr:=⟨_,rfl⟩;subst Ut;clear hW Xx ON;go_wp2_with fail;clear c0;go_loopw [5,6,7,8,9,10] (fun i _ _ _ _ _ wz=>∃q:Nat,q<=NI/\i=.int .i64 q/\Below wo.heap.size wo wz) (fun i _ _ _ _ _ _=>NI-(intOf i).toNat)
  case atStart=>exact⟨0,j4,rfl,jV⟩
  case round=>
   obtain⟨q,hq,rfl,Mt⟩:=hrel;have U:=HW.o.trans (Mt.mono HW.o.size);have Lu:=oP U;have Xf:=oP Mt;have R3:BookI wr J base Kx (.slice ia NI ic) is:=HA.o.i.kept (jW (a:=⟨J,1,none⟩) (U.block J Ls)) (ku (a:=⟨J,1,none⟩) (U.block J Ls)) (fun j D=>U.block j (by have:=HA.o.i.rtop j D;omega)) (fun e he v hv j D=>U.block j (by have:=((HA.o.i.full e he).lt v hv j D).2;omega)) jU;have c1:=R3.c1;have Wd7:=U.size;have WN4:J<wr.heap.size:=ae;by_cases R:q<NI
   ·obtain⟨g,Kd,e1,S,y0,y1,y2,Z⟩:=Z3d R3 (k:=q) ae;have G:=R3.full is[q] (kC _);simp only[mw]at e1;obtain⟨rfl,PF,rfl⟩:=e1;clear PF;obtain⟨en,Py⟩:=Zg0 (is[q]'(ae));rw[Py]at y0 y1 y2 Z G;obtain⟨va,vb,vc,M⟩:=en;simp only at y0 y1 y2 Z;obtain⟨a0,n0,q0,e0,hn0,p0⟩:=C8 G.a;obtain⟨a1,n1,q1,e1,hn1,I⟩:=C8 G.b;obtain⟨a2,V,q2,e2,QI,A⟩:=C8 G.c;have hM:=G.m;simp only at e0 e1 e2 p0 I A hM;subst e0 e1 e2;have N0:(q:Int)<(NI:Int):=ae;obtain⟨eb,Ro⟩:∃b,evB M=b:=⟨_,rfl⟩;obtain⟨ob,Ml⟩:∃b,odB M=b:=⟨_,rfl⟩;have Us:((M:Int)%2==0)=eb:=gf;have Vf7:((M:Int)%2==1)=ob:=gh;rw[Ro]at I;rw[Ml]at A;obtain⟨W,hW⟩:=Zg0 (wr.alloc (.cells #[.slice a0 n0 q0,.slice a1 n1 q1,.slice a2 V q2] 35));have K1:Below wr.heap.size wr W:=eP;have Ux:W.heap[wr.heap.size]?=some (.cells #[.slice a0 n0 q0,.slice a1 n1 q1,.slice a2 V q2] 35):=by rw[<-hW];exact kg wr _
    obtain⟨x0,x1,x2,_⟩:=wR Ux
    have P0:Hid (∀j,j<n0->∃g,a0=some ⟨g,0,none⟩/\W.cell? ⟨g,j,none⟩=some (.int .u8 (M:Int))):=fun j D=>by
     obtain⟨g,r1,r2,r3⟩:=p0 j D;exact Mcz
    have P1:Hid (∀j,j<n1->∃g,a1=some ⟨g,0,none⟩/\W.cell? ⟨g,j,none⟩=some (.bool eb)):=fun j D=>by
     obtain⟨g,r1,r2,r3⟩:=I j D;exact Mcz
    have P2:Hid (∀j,j<V->∃g,a2=some ⟨g,0,none⟩/\W.cell? ⟨g,j,none⟩=some (.bool ob)):=fun j D=>by
     obtain⟨g,r1,r2,r3⟩:=A j D;exact Mcz
    have z1:=(jW (a:=⟨J,1,none⟩) (K1.block J WN4)).trans c1;have z3:W.cell? ⟨g,q*4+3,none⟩=some (.int .u8 (M:Int)):=(jW (a:=⟨g,q*4+3,none⟩) (K1.block g S)).trans Z;have MP:=oP (Xf.o.trans (K1.mono Xf.o.size));clear Mt U R3 G Py Ro Ml p0 I A K1 Ux hM Z;go_wp2_with fail;obtain⟨wq,L8⟩:∃wq,wq=wr:=⟨_,rfl⟩;subst L8;go_loopw [8] (fun i wz=>∃j:Nat,j<=n0/\i=.int .i64 j/\wz=W) (fun i _=>n0-(intOf i).toNat)
    case atStart=>exact⟨0,j4,rfl,rfl⟩
    case round=>
     obtain⟨j,D,rfl,M8⟩:=hrel;subst M8;by_cases R:j<n0
     ·obtain⟨g2,rfl,Vg3⟩:=P0.o j R;have K6:(j:Int)<(n0:Int):=ae;exact Mbu
     have K6:¬(j:Int)<(n0:Int):=ae;obtain⟨W,O⟩:∃W,W=wr:=⟨_,rfl⟩;subst O;clear R D;go_wp2_with fail;clear K6;go_loopw [9] (fun i wz=>∃j:Nat,j<=n1/\i=.int .i64 j/\wz=W) (fun i _=>n1-(intOf i).toNat)
     case atStart=>exact⟨0,j4,rfl,rfl⟩
     case round=>
      obtain⟨j,D,rfl,M8⟩:=hrel;subst M8;by_cases R:j<n1
      ·obtain⟨g2,rfl,Vg3⟩:=P1.o j R;have K6:(j:Int)<(n1:Int):=ae;exact Mbu
      have K6:¬(j:Int)<(n1:Int):=ae;obtain⟨W,O⟩:∃W,W=wr:=⟨_,rfl⟩;subst O;clear R D;go_wp2_with fail;clear K6;go_loopw [10] (fun i wz=>∃j:Nat,j<=V/\i=.int .i64 j/\wz=W) (fun i _=>V-(intOf i).toNat)
      case atStart=>exact⟨0,j4,rfl,rfl⟩
      case round=>
       obtain⟨j,D,rfl,M8⟩:=hrel;subst M8;by_cases R:j<V
       ·obtain⟨g2,rfl,Vg3⟩:=P2.o j R;have K6:(j:Int)<(V:Int):=ae;exact Mbu
       have K6:¬(j:Int)<(V:Int):=ae;obtain⟨W,O⟩:∃W,W=wr:=⟨_,rfl⟩;subst O;clear R D;go_wp2;go_roundw
       case rel=>exact⟨q+1,ae,ao,MP.o⟩
       case measure=>simp[intOf];omega
   have NK:q=NI:=ae;subst NK;clear Mt U R3;go_wp2;go_ret;exact⟨rfl,Lu.o⟩
def xF(im:Img):Prop:=im.bytes.length=1024/\im.laid.length=1024/\im.starts.length=1024
instance (im:Img):Decidable (xF im):=by unfold xF;infer_instance
def lsI(im:Img):List ByteArray:=if xF im then lsF im.bytes im.laid im.starts 1024 else []
def lsE(im:Img):Int:=if xF im then 0 else 9
theorem Z2i(im:Img):(lsI im).length<=1024:=by
 unfold lsI;split
 ·exact CS _ _ _ _
 simp
theorem Dc{w:World}{v:Value}{xs:List Value}(h:SlV w v xs)(A:xs.length=1024):∃b o c,v=.slice (some ⟨b,o,none⟩) 1024 c/\(1024<=c/\c<=maxLen)/\b<w.heap.size/\∀i (hi:i<xs.length),w.cell? ⟨b,o+i,none⟩=some xs[i]:=by
 obtain⟨a,D,e,h2,h3,h4⟩:=h.is;obtain⟨b,off,e1,e2,e3⟩:=h4 ae;exact⟨b,off,D,by rw[e,e1,A],⟨ae,ak⟩,e2,e3⟩
theorem Fl{w:World}{v0 O v2:Value}{im:Img}(h:HImgAt w v0 O v2 im)(hw:xF im):∃D G A lb lo J sb I M,v0=.slice (some ⟨D,G,none⟩) 1024 A/\O=.slice (some ⟨lb,lo,none⟩) 1024 J/\v2=.slice (some ⟨sb,I,none⟩) 1024 M/\(1024<=A/\A<=maxLen)/\ImgR w D G lb lo sb I im.bytes im.laid im.starts:=by
 obtain⟨h1,h2,h3⟩:=hw;obtain⟨D,G,A,e1,r1,l1,c1⟩:=Dc h.b (by rw[sg];exact h1);obtain⟨lb,lo,J,e2,_,l2,c2⟩:=Dc h.l (by rw[rh];exact h2);obtain⟨sb,I,M,e3,_,l3,c3⟩:=Dc h.s (by rw[rh];exact h3);refine⟨D,G,A,lb,lo,J,sb,I,M,e1,e2,e3,r1,⟨fun k hk=>?_,fun k hk=>?_,fun k hk=>?_,h1,h2,h3,l1,l2,l3⟩⟩
 ·rw[c1 k (by rw[sg];exact hk)];simp[pA]
 ·rw[c2 k (by rw[rh];exact hk)];simp[pG]
 rw[c3 k (by rw[rh];exact hk)];simp[pG]
theorem yG{w:World}{v:Value}{xs:List Value}(h:SlV w v xs):∃a c,v=.slice a xs.length c/\xs.length<=maxLen:=by
 obtain⟨a,A,e,h2,h3,_⟩:=h.is;exact⟨a,A,e,ak⟩
theorem Z4o(v0 A v2:Value)(im:Img)(m:Int)(w:World)(h:HImgAt w v0 A v2 im)(D:w.cell? ⟨0,0,none⟩=some (.int .i64 m)) :
  Calls prog 18 #[.agg #[v0,A,v2]] w fun e w'=>∃v,e=.returned (.tuple #[v,.int .i64 (lsE im)])/\w'.ownsRow w.heap.size 9 1 v (lsI im).length (qe (lsI im))/\Below w.heap.size w w':=by
 by_cases hw:xF im
 ·obtain⟨G,I,J,lb,lo,M,sb,O,R,rfl,rfl,rfl,S,U⟩:=Fl h hw;unfold lsE lsI;rw[jT hw,jT hw];exact Z4B G I J lb lo M sb O R _ _ _ m w U S D
 obtain⟨a0,c0,rfl,V⟩:=yG h.b;obtain⟨a1,c1,rfl,l1⟩:=yG h.l;obtain⟨a2,c2,rfl,l2⟩:=yG h.s;unfold lsE lsI;rw[jS hw,jS hw];refine(Z3N a0 a1 a2 _ c0 _ c1 _ c2 V l1 l2 (by rw[sg,rh,rh];exact hw) w).mono ?_;rintro e w' ⟨rfl,Z⟩;exact⟨_,rfl,kA,Z⟩
theorem Z9C(v0 A v2:Value)(im:Img)(m:Int)(w:World)(h:HImgAt w v0 A v2 im)(D:w.cell? ⟨0,0,none⟩=some (.int .i64 m)) :
  Calls prog 27 #[.agg #[v0,A,v2]] w fun e w'=>∃v,e=.returned (.tuple #[v,.int .i64 (lsE im)])/\w'.ownsRow w.heap.size 9 1 v (lsI im).length (qe (lsI im))/\Below w.heap.size w w':=by
 by_cases hw:xF im
 ·obtain⟨G,I,J,lb,lo,M,sb,O,R,rfl,rfl,rfl,Z,S⟩:=Fl h hw;unfold lsE lsI;rw[jT hw,jT hw];exact Z8P G I J lb lo M sb O R _ _ _ m w S D
 obtain⟨a0,c0,rfl,U⟩:=yG h.b;obtain⟨a1,c1,rfl,l1⟩:=yG h.l;obtain⟨a2,c2,rfl,l2⟩:=yG h.s;unfold lsE lsI;rw[jS hw,jS hw];refine(Z6A a0 a1 a2 _ c0 _ c1 _ c2 U l1 l2 (by rw[sg,rh,rh];exact hw) w).mono ?_;rintro e w' ⟨rfl,V⟩;exact⟨_,rfl,kA,V⟩
theorem AB.below{w w':World}{A base D G:Nat}{I J:Value}{es:List Snt}{is:List qX}(h:AB w A base D I es J is)(M:Below w.heap.size w w')(ht:D<=w.heap.size)(O:D<=G):AB w' A base G I es J is:=
 h.kept (M.block A (by have:=h.s.lt;have:=h.s.le;omega)) (fun j _ R=>M.block j ae) O
theorem KeptB.before{w G w':World}{c A I:Nat}{J sv':Value}(D:Below w.heap.size w G)(hk:KeptB c G w' A I J sv')(ht:w.heap.size<=I)(M:A<w.heap.size):KeptB c w w' A w.heap.size J sv':=
 ⟨hk.os.trans D.os,hk.tape.trans D.tape,hk.output.trans D.output,j8 D.size hk.size,fun k h1 h2 h3=>(hk.block k ae h2 h3).trans (D.block k h1),fun j O=>(hk.cell j O).trans (jW (a:=⟨A,j,none⟩) (D.block A M)),fun j=>(hk.fz j).trans (ku (a:=⟨A,j,none⟩) (D.block A M)),by
  rcases hk.loc with e|e
  ·exact .inl e
  ·exact .inr (fun g R=>j8 ht (e g R))⟩
theorem Z0W(l:List ByteArray):∀i,i<l.length->∃u:ByteArray,(qe l)[i]?=some (.string u):=fun i hi=>⟨l[i],by unfold qe;rw[kS,jX hi];rfl⟩
theorem DA{n:Nat}{w w':World}(h:Below n w w')(q:Nat):Below n w (w'.drewN q):=⟨h.os,h.tape,h.output,h.size,h.block⟩
theorem Fs(w:World)(S base Kx:Nat)(sv iv:Value)(es:List Snt)(is:List qX)(hA:AB w S base Kx sv es iv is)(Y2:es.length<=2000000)(Nz:Kx<=w.heap.size)(v0 v1 v2:Value)(im:Img)(U:HImgAt w v0 v1 v2 im)(hf:xf im)(m:Int)(hm:w.cell? ⟨0,0,none⟩=some (.int .i64 m)) :
  Calls prog 11 #[.pointer (some ⟨S,0,none⟩),.agg #[v0,v1,v2]] w fun e w'=>e=.returned (.bool true)/\∃sv' en,AB w' S base w'.heap.size sv' (es++[en]) iv is/\KeptB 0 w w' S w.heap.size sv sv'/\∀v∈rV en,∀g,v.ownBlock=some g->w.heap.size<=g:=by
 obtain⟨W0,WK2,Nn,KJ,k0,k1,k2⟩:=xC w v0 v1 v2;have ML:S<w.heap.size:=by have:=hA.s.lt;have:=hA.s.le;omega
 have UA:0<w.heap.size:=lD _ hm;have HI:Hid (∀w',Below w.heap.size w w'->HImgAt w' v0 v1 v2 im):=fun w' D=>U.below D
 have HM:Hid (∀w',Below w.heap.size w w'->w'.cell? ⟨0,0,none⟩=some (.int .i64 m)):=fun w' D=>(jW (a:=⟨0,0,none⟩) (D.block 0 UA)).trans hm
 have HX:Hid (∀w',Below W0.heap.size W0 w'->w'.cell? ⟨w.heap.size,0,none⟩=some v0/\w'.cell? ⟨w.heap.size,1,none⟩=some v1/\w'.cell? ⟨w.heap.size,2,none⟩=some v2):=fun w' D=>⟨(jW (a:=⟨w.heap.size,0,none⟩) (D.block _ KJ)).trans k0,(jW (a:=⟨w.heap.size,1,none⟩) (D.block _ KJ)).trans k1,(jW (a:=⟨w.heap.size,2,none⟩) (D.block _ KJ)).trans k2⟩
 have HC:=oP (Z7S v0 v1 v2 im W0 (U.below Nn) hf);have HA:=oP hA;have NT:=oP Nn;have HF:=oP hf;have Vy7:=oP U;obtain⟨a0,c0,e0⟩:=U.b.slice;obtain⟨a1,c1,e1⟩:=U.l.slice;obtain⟨a2,c2,e2⟩:=U.s.slice;subst e0 e1 e2;have Vy8:=Z2i im;obtain⟨N,hN⟩:=Zg0 (lsI im);obtain⟨E,hE⟩:=Zg0 (lsE im);rw[hN]at Vy8;have Vl:=oP (And.intro hN hE);clear hA U hm hf Nn hN hE;go_enter func11,ntmps11;go_wp2_with fail;refine HC.o.mono ?_;rintro e I ⟨u0,u1,u2,rfl,hO,Kn⟩;obtain⟨p0,d0,f0⟩:=hO.img.b.slice;obtain⟨p1,d1,f1⟩:=hO.img.l.slice;obtain⟨p2,d2,f2⟩:=hO.img.s.slice;subst f0 f1 f2;have Y8:=NT.o.trans (Kn.mono NT.o.size);obtain⟨A,Qv,Li,Nc,q0,q1,q2⟩:=xC I (.slice p0 (pA im.bytes).length d0) (.slice p1 (pG im.laid).length d1) (.slice p2 (pG im.starts).length d2);have WN5:Hid (∀w',Below I.heap.size I w'->HImgAt w' (.slice p0 (pA im.bytes).length d0) (.slice p1 (pG im.laid).length d1) (.slice p2 (pG im.starts).length d2) im):=fun w' D=>hO.img.below D
 have Vy9:Hid (∀w',Below A.heap.size A w'->w'.cell? ⟨I.heap.size,0,none⟩=some (.slice p0 (pA im.bytes).length d0)/\w'.cell? ⟨I.heap.size,1,none⟩=some (.slice p1 (pG im.laid).length d1)/\w'.cell? ⟨I.heap.size,2,none⟩=some (.slice p2 (pG im.starts).length d2)):=fun w' D=>⟨(jW (a:=⟨I.heap.size,0,none⟩) (D.block _ Nc)).trans q0,(jW (a:=⟨I.heap.size,1,none⟩) (D.block _ Nc)).trans q1,(jW (a:=⟨I.heap.size,2,none⟩) (D.block _ Nc)).trans q2⟩
 have Y9:=Y8.trans (Li.mono Y8.size);have XA:Below W0.heap.size W0 A:=Kn.trans (Li.mono Kn.size);have Rf:=oP (Z4o _ _ _ im m A (WN5.o A Li) (HM.o A Y9));have J:=oP (And.intro Y9 (And.intro XA Li));rw[Vl.o.1,Vl.o.2]at Rf;clear hO Kn Y8 Li Y9 XA k0 k1 k2 HC WK2;go_wp2_with fail;refine Rf.o.mono ?_;rintro e w2 ⟨vl,rfl,V,KQ⟩;obtain⟨la,lc,rfl⟩:=tr V;obtain⟨x0,x1,x2⟩:=HX.o w2 (J.o.2.1.trans (KQ.mono J.o.2.1.size));have Uz:=J.o.1.trans (KQ.mono J.o.1.size);have RM:=oP (Z9C _ _ _ im m w2 (HI.o w2 Uz) (HM.o w2 Uz));have G:=oP (And.intro KQ (And.intro V Uz));rw[Vl.o.1,Vl.o.2]at RM;clear V KQ Uz Rf q0 q1 q2 Qv;go_wp2_with fail;refine RM.o.mono ?_;rintro e w3 ⟨vm,rfl,V,KH⟩;obtain⟨ma,mc,rfl⟩:=tr V;have Wm9:=G.o.1.trans (KH.mono G.o.1.size);have Oi:=BX G.o.2.1 KH;have Kz:=oP (Z5Y w3 _ _ _ _ _ _ (Z0W N) Oi V ae);have Z:=oP (And.intro Wm9 (And.intro Oi (G.o.2.2.trans (KH.mono G.o.2.2.size))));clear V KH Oi Wm9 RM x0 x1 x2;go_wp2_with fail;refine Kz.o.mono ?_;rintro e R ⟨rfl,q,Rp⟩;have Lr:Below w.heap.size w R:=by rw[Rp];exact DA Z.o.2.2 q
 have UB:Below A.heap.size A R:=by rw[Rp];exact DA Z.o.1 q
 have Wa8:R.ownsRow A.heap.size 9 1 (.slice la N.length lc) N.length (qe N):=by rw[Rp];exact BX Z.o.2.1 (DA jV q)
 obtain⟨x0,x1,x2⟩:=HX.o R (J.o.2.1.trans (UB.mono J.o.2.1.size));obtain⟨y0,y1,y2⟩:=Vy9.o R UB;have Wn0:=oP (Hc _ _ _ _ _ _ im R (WN5.o R (J.o.2.2.trans (UB.mono J.o.2.2.size))) (HI.o R Lr) HF.o);have M:=oP (And.intro Lr (And.intro UB Wa8));clear Lr UB Wa8 Rp Kz;go_wp2_with fail;refine Wn0.o.mono ?_;rintro e w5 ⟨rfl,KU⟩;have Lp:=M.o.1.trans (KU.mono M.o.1.size);have QW:=BX M.o.2.2 KU;have Za:A.heap.size<=w5.heap.size:=j8 M.o.2.1.size KU.size;have Wn1:w.heap.size<=A.heap.size:=J.o.1.size;have Wa:AB w5 S base A.heap.size sv es iv is:=HA.o.below Lp Nz ae;have Vg4:=oP (Z58 w5 S base A.heap.size sv es Wa.s Y2 Za A.heap.size _ _ _ QW jU Za ae);have Wx7:=oP (And.intro Lp Wa);clear Lp QW Wa KU Wn0 x0 x1 x2 y0 y1 y2;go_wp2_with fail;refine Vg4.o.mono ?_;rintro e w6 ⟨rfl,sv',en,Vg5,O,Wk3⟩;have Wk1:=Wx7.o.2.keepS (j8 Za O.size) Vg5 O Wk3;have Zb:=oP (And.intro Wk1 (And.intro (KeptB.before Wx7.o.1 O Wn1 ML) (fun v hv g hg=>j8 Wn1 (Wk3 v hv g hg))));clear Vg5 O Wk3 Wk1 Vg4;go_wp2;go_ret;exact⟨rfl,sv',en,Zb.o.1,Zb.o.2.1,Zb.o.2.2⟩
