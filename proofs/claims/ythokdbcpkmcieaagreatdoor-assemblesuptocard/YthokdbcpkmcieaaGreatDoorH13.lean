import Derived.Test.YthokdbcpkmcieaaGreatDoorH12
import Derived.Deep.RegionHeld3
set_option maxRecDepth 200000
set_option maxHeartbeats 16000000
namespace Go.Proofs.YthokdbcpkmcieaaGreatDoor
open RowKit Shelf WideMaps Maps Proofs.Tryz
theorem Z9w{w A D:World}(Z:∃n,n<=1000/\MapAt prog 9 A (w.heap.size+3) n (fun l=>(pH l).map fixV))(R:Below (w.heap.size+3) (((w.alloc (.cells #[.map none,.map none,.map none] 246)).alloc (.map #[] 0)).alloc (.map #[] 0)) A)
  (S:D.ownsMap prog 9 (plainElem (H:=Unit) prog 111) (A.heap.size+1) 17 kindsD) (I:Below (A.heap.size+1) (A.alloc (.cells #[.map (some (w.heap.size+1)),.map (some (w.heap.size+2)),.map (some (w.heap.size+3))] 246)) D) :
  NB w (D.alloc (.cells vJ.toArray 101)) (w.heap.size+3) A.heap.size (A.heap.size+1) D.heap.size 0 0:=by
 obtain⟨n,hn,U⟩:=Z;have G:=U.lt;have J:=S.lt
 have e3:∀j,j<A.heap.size->(D.alloc (.cells vJ.toArray 101)).heap[j]?=A.heap[j]?:=fun j M=>by
  rw[kt ae,I.block j ae,kt M]
 have e1:∀j,j<w.heap.size+3->(D.alloc (.cells vJ.toArray 101)).heap[j]?=(((w.alloc (.cells #[.map none,.map none,.map none] 246)).alloc (.map #[] 0)).alloc (.map #[] 0)).heap[j]?:=fun j M=>(e3 j ae).trans (R.block j M)
 refine⟨?_,?_,⟨0,jU,?_⟩,⟨0,fun _=>none,jU,?_,Z33 _ _⟩,⟨n,U.at1B (e3 _ G)⟩,S.alloc _,kg D _,?_,⟨ae,G,ae,J,af⟩⟩
 ·rw[e1 _ ae,kt ai,kt af];exact kg w _
 ·rw[kt ae,I.block _ ae];exact kg A _
 ·have h:=(MapAt.made (w.alloc (.cells #[.map none,.map none,.map none] 246)) prog 9).alloc (.map #[] 0);rw[xh]at h;exact(h.at1B (e1 _ ae)).ext (fun l=>by unfold tF tM;simp)
 ·have h:=MapAt.made ((w.alloc (.cells #[.map none,.map none,.map none] 246)).alloc (.map #[] 0)) prog 292;rw[xh,xh]at h;exact h.at1B (e1 _ ae)
 have N4:Below w.heap.size w (((w.alloc (.cells #[.map none,.map none,.map none] 246)).alloc (.map #[] 0)).alloc (.map #[] 0)):=((jV.alloc jU _).alloc af _).alloc ai _;have O:=N4.trans (R.mono ae);have Km:=O.alloc O.size (.cells #[.map (some (w.heap.size+1)),.map (some (w.heap.size+2)),.map (some (w.heap.size+3))] 246);have V:=Km.trans (I.mono (by have:=O.size;omega));exact V.alloc V.size _
theorem rO{w w':World}{base e size n:Nat}{v:Value}{xs:List Value}(h:w.ownsRow base e size v n xs)(A:Below w.heap.size w w'):w'.ownsRow base e size v n xs:=xA h (fun j D=>A.block j (h.lt j D).2)
theorem Z1Z(m:Int)(w:World)(hm:w.cell? ⟨0,0,none⟩=some (.int .i64 m))(h0:0<w.heap.size) :
  Calls prog 161 #[] w fun e w'=>∃fb,e=.returned (.agg #[.map (some (w.heap.size+1)),.map (some (w.heap.size+2)),.map (some fb)])/\∃bb kb rb wr,NB w wr fb bb kb rb 111 111/\wr.grownBy w' (some w.heap.size):=by
 have MM:=@n8 prog;have HF:=oP (Z75 (((w.alloc (.cells #[.map none,.map none,.map none] 246)).alloc (.map #[] 0)).alloc (.map #[] 0)));have hz:(((w.alloc (.cells #[.map none,.map none,.map none] 246)).alloc (.map #[] 0)).alloc (.map #[] 0)).heap.size=w.heap.size+3:=af;rw[hz]at HF;go_enter func161,ntmps161;go_wp2_with fail;refine HF.o.mono ?_;rintro e D ⟨rfl,hM,Kn⟩;have HK:=oP (yk (D.alloc (.cells #[.map (some (w.heap.size+1)),.map (some (w.heap.size+2)),.map (some (w.heap.size+3))] 246)));rw[xh]at HK;have HM:=oP (And.intro hM Kn);clear hM Kn HF;go_wp2_with fail;refine HK.o.mono ?_;rintro e R ⟨rfl,hK,KH⟩;have VT:=oP (Z9w HM.o.1 HM.o.2 hK KH);clear hK KH HK HM;go_wp2_with fail;refine(Ef _).mono ?_;rintro e w4 ⟨rfl,rfl⟩;go_wp2_with fail;go_loopw [15] (fun i wr=>∃k:Nat,k<=111/\i=.int .i64 k/\NB w wr (w.heap.size+3) D.heap.size (D.heap.size+1) R.heap.size k k) (fun i _=>111-(intOf i).toNat)
 case atStart=>exact⟨0,ae,rfl,VT.o⟩
 case round=>
  clear VT;obtain⟨k,hk,rfl,hN⟩:=hrel;obtain⟨d1,d2,d3,d4,d5⟩:=hN.d;by_cases Kf:k<111
  ·have QR:(k:Int)<111:=by omega
   have Oi:rowsL.length=111:=aq;have O5:k<rowsL.length:=ae;have Nt:rowAt k=rowsL[k]:=by unfold rowAt;rw[jZ,jX O5];rfl
   have hg:=EM (kC O5);obtain⟨a0,a1,a2⟩:=Hy k Kf;rw[Nt]at a0 a1 a2;have c0:wr.cell? ⟨R.heap.size,k*3,none⟩=some (.int .u8 (rowsL[k]).1):=by rw[jY (0,0) hN.rws,nj];exact a0
   have c1:wr.cell? ⟨R.heap.size,k*3+1,none⟩=some (.int .u8 (rowsL[k]).2.1):=by rw[jY (0,0) hN.rws,nj];exact a1
   have c2:wr.cell? ⟨R.heap.size,k*3+2,none⟩=some (.string ⟨(rowsL[k]).2.2.toArray⟩):=by rw[jY (0,0) hN.rws,nj];exact a2
   have Vj:=oP (fun wx (hx:NB w wx (w.heap.size+3) D.heap.size (D.heap.size+1) R.heap.size k k)=>Z6S rowsL[k] hg m (D.heap.size+1) wx hx.km (by rw[hx.below.cell (by simpa using h0)];exact hm) (by have:=hx.d;omega));have M:=oP (fun base v wx (Ke:wx.ownsRow base 114 5 v (opsOf rowsL[k]).length (pP (opsOf rowsL[k])))=>Z02 rowsL[k] hg base v wx Ke);have VU:=oP (JY hg);have hnm:=Fz hg;have Rg:=oP (Z7Y k O5);have WZ2:=oP (fun l=>Z2v k l);have S1:=oP (fun wx rb f (h:InsK wx rb k f)=>h.put O5);obtain⟨r,hr⟩:=Zg0 (rowsL[k]);rw[hr]at c0 c1 c2 Vj M VU hnm Rg S1;clear a0 a1 a2 Nt hg hr Oi O5;obtain⟨rc,rf,rt⟩:=r;simp only at c0 c1 c2 Vj M VU hnm Rg S1;obtain⟨S,Qv⟩:=Zg0 (wr.alloc (.cells #[.int .u8 rc,.int .u8 rf,.string ⟨rt.toArray⟩] 101));have Li:Below wr.heap.size wr S:=eI;have Su:=hN.grow Li;have Vp2:S.heap.size=wr.heap.size+1:=by rw[<-Qv];simp
   have Kh:S.heap[wr.heap.size]?=some (.cells #[.int .u8 rc,.int .u8 rf,.string ⟨rt.toArray⟩] 101 (0,0)):=by rw[<-Qv];exact kg wr _
   have q0:S.cell? ⟨wr.heap.size,0,none⟩=some (.int .u8 rc):=eJ;have q1:S.cell? ⟨wr.heap.size,1,none⟩=some (.int .u8 rf):=eJ;have q2:S.cell? ⟨wr.heap.size,2,none⟩=some (.string ⟨rt.toArray⟩):=eJ;have Le:=oP (And.intro Su Kh);obtain⟨I,WD8⟩:∃I:ByteArray,⟨(qk rt).toArray⟩=I:=⟨_,rfl⟩;obtain⟨KS,WZ3⟩:=Zg0 (qo rt);have Wg4:qk rt=I.data.toList:=by rw[<-WD8]
   rw[Wg4]at Rg;rw[WD8]at Vj hnm S1;rw[WZ3]at M VU S1;have ON:=oP Li;clear hN Su Kh Li WD8 WZ3 Wg4;go_wp2_with fail;refine(Vj.o _ Le.o.1).mono ?_;rintro e w5 ⟨v,rfl,Ke,KU⟩;have Lp:w5.heap[wr.heap.size]?=some (.cells #[.int .u8 rc,.int .u8 rf,.string ⟨rt.toArray⟩] 101 (0,0)):=(KU.block _ ae).trans Le.o.2;have q5:w5.cell? ⟨wr.heap.size,0,none⟩=some (.int .u8 rc):=by rw[jY (0,0) Lp];rfl
   obtain⟨va,vc,ev⟩:=sP Ke;have Ki:=oP Ke;have Lx:=oP KU;subst ev;clear Ke KU Lp Vj q0 q1 q2 c0 c1 c2;go_wp2_with fail;refine(M.o _ _ _ Ki.o).mono ?_;rintro e A ⟨kv,rfl,T1,No⟩;obtain⟨U,V,ek⟩:=sP T1;have WY:Below S.heap.size S A:=⟨No.os.trans Lx.o.os,No.tape.trans Lx.o.tape,No.output.trans Lx.o.output,j8 Lx.o.size No.size,fun j hj=>(No.block j (ke hj Lx.o.size) (fun e=>by have:=(Ki.o.lt j e.symm).1;omega)).trans (Lx.o.block j hj)⟩;obtain⟨Z,hZ⟩:∃Z:Nat,rk KS=Z:=⟨_,rfl⟩;rw[hZ];unfold qW;obtain⟨W7,WD9⟩:=Zg0 (A.alloc (.cells #[.int .u8 rc,kv,.int .i64 (Z:Int)] 128));have Yj:Below A.heap.size A W7:=by rw[<-WD9];exact(jV).alloc jU _
   have Vp3:W7.heap.size=A.heap.size+1:=by rw[<-WD9];simp
   have Wu9:=(Le.o.1.grow WY).grow Yj;have WZ4:=rO T1 Yj;have Vk:W7.heap[A.heap.size]?=some (.cells #[.int .u8 rc,kv,.int .i64 (Z:Int)] 128 (0,0)):=by rw[<-WD9];exact kg A _
   have t0:W7.cell? ⟨D.heap.size,0,none⟩=some (.map (some (w.heap.size+1))):=by rw[jY (0,0) Wu9.bk];rfl
   have KN:keyOf prog 9 (.string I)=some (.string I.data.toList):=kO underlying9 ak;obtain⟨nc,Wv0,Wg5⟩:=Wu9.cn;obtain⟨c,hc⟩:∃c:Nat,tM k I.data.toList=c:=⟨_,rfl⟩;have QL:(c:Int)<=111:=by have:=WZ2.o I.data.toList;omega
   have O9:uB false (.int .i64 0) (tF k I.data.toList)=.int .i64 (c:Int):=by rw[Z2f,hc]
   rw[hc]at Rg;have VK5:R.heap.size<A.heap.size:=by have:=WY.size;omega
   have WZ5:=oP Wu9;have Wv1:=oP (And.intro WZ4 Vk);have WE0:=oP Wg5;have Yk:=oP KN;have PZ:=oP O9;have Yl:Hid (S.heap.size<=w5.heap.size):=Lx.o.size;have HZ:=oP hZ;subst ek;clear No T1 WY Yj Wu9 WZ4 Vk KN Wg5 O9 hZ hc M Lx Ki q5 Le WZ2 ON
   go_wp2_with (first
    |(at_lookup;refine Z4E _ rfl _ _ 119 false rfl 9 3 rz underlying119 _ (Bn _) (w.heap.size+1) nc _ rfl WE0.o (.string I) _ rfl Yk.o (.int .i64 (c:Int)) PZ.o ?_)
    | (at_mapUpdate;refine vV _ rfl _ _ _ 119 rfl 9 3 rz underlying119 (w.heap.size+1) nc _ rfl WE0.o ak _ (.int .i64 ((c:Int)+1)) _ rfl rfl Yk.o ?_;intro G Wg6 Tt))
   have O:=WZ5.o.count Tt ⟨_,by have:=vk nc (tF k I.data.toList);omega,Wg6.ext Rg.o⟩;have QQ:∀g,(Value.slice U KS.length V).ownBlock=some g->w5.heap.size<=g/\g<W7.heap.size:=fun g e=>Wv1.o.1.lt g e
   have Lj:=Yl.o;have Ym:∀j,j<W7.heap.size->j≠w.heap.size+1->G.heap[j]?=W7.heap[j]?:=fun j hj Kk=>Tt.block j hj (fun e=>Kk (kp e))
   have Wv2:G.heap[A.heap.size]?=some (.cells #[.int .u8 rc,.slice U KS.length V,.int .i64 (Z:Int)] 128 (0,0)):=(Ym _ ae ae).trans Wv1.o.2;have WZ:=xA (w':=G) Wv1.o.1 (fun g e=>Ym g (QQ g e).2 (by have:=(QQ g e).1;omega));have u1:G.cell? ⟨D.heap.size,1,none⟩=some (.map (some (w.heap.size+2))):=by rw[jY (0,0) O.bk];rfl
   have m0:G.cell? ⟨A.heap.size,0,none⟩=some (.int .u8 rc):=eK;have m1:G.cell? ⟨A.heap.size,1,none⟩=some (.slice U KS.length V):=eK;have m2:G.cell? ⟨A.heap.size,2,none⟩=some (.int .i64 (Z:Int)):=eK;obtain⟨E,hE⟩:=Zg0 (uk I KS);have T2:=An I KS ae VU.o.1 VU.o.2;have Vl:Hid (Calls prog 201 #[.string I,.slice U KS.length V] G.drew fun e w'=>e=.returned E/\Below G.heap.size G w'):=(IF I w5.heap.size (.slice U KS.length V) KS G.drew VU.o.1 (xA (w':=G.drew) WZ (fun _ _=>rfl))).mono fun e w' ⟨h1,h2⟩=>⟨by rw[h1,hE],⟨h2.os,h2.tape,h2.output,h2.size,h2.block⟩⟩
   rw[hE]at T2;obtain⟨ni,fi,Vg,Wv3,WZ6⟩:=O.ins;have ZU:A.heap.size<G.heap.size:=by have:=Tt.size;omega
   have KF:Hid (∀w9,Below G.heap.size G w9->∃To,(Instr.mapUpdate 243 (.map (some (w.heap.size+2))) E (.agg #[.int .u8 rc,.slice U KS.length V,.int .i64 (Z:Int)])).run prog w9=.ok () To/\NB w To (w.heap.size+3) D.heap.size (D.heap.size+1) R.heap.size (k+1) (k+1)/\w9.grownBy To (some (w.heap.size+2))):=fun w9 J=>by
    have VK6:=O.d;have Vp4:=Wv3.at1B (J.block _ ae);obtain⟨To,KZ,WE1,P4⟩:=Vp4.store (val:=qW rc (.slice U KS.length V) (Z:Int)) IU underlying243 ak T2;have VK7:=J.size;have W5:∀j,j<G.heap.size->j≠w.heap.size+2->To.heap[j]?=G.heap[j]?:=fun j hj Kk=>(P4.block j ae (fun e=>Kk (kp e))).trans (J.block j hj)
    have VP:=pC (xA (w':=To) WZ (fun g e=>W5 g (WZ.lt g e).2 (by have:=(QQ g e).1;omega))) j4;have T3:=S1.o To R.heap.size fi (WZ6.keep (fun j h1 h2=>W5 j h2 ae)) (.slice U KS.length V) VP (fun j e=>by have:=(QQ j e).1;omega);rw[HZ.o]at T3;exact⟨To,KZ,(O.grow J).lay P4 ⟨_,_,by have:=vk ni (fi (sr I KS));omega,WE1,T3⟩,P4⟩
   have VQ:¬w.heap.size+2=D.heap.size:=ae;have Yn:¬w.heap.size+2=A.heap.size:=ae;have QP:D.heap.size<G.heap.size:=ae;clear Wg6 Tt O QQ Lj Ym Wv2 WZ T2 hE Wv3 WZ6 Vg WZ5 Wv1 WE0 Yk PZ S1 Rg HZ VU t0;go_region_held3 (fun w'=>w'.cell? ⟨D.heap.size,1,none⟩=some (.map (some (w.heap.size+2)))/\w'.cell? ⟨A.heap.size,0,none⟩=some (.int .u8 rc)/\w'.cell? ⟨A.heap.size,1,none⟩=some (.slice U KS.length V)/\w'.cell? ⟨A.heap.size,2,none⟩=some (.int .i64 (Z:Int))) (go_keep) (first| (go_at_call 201;refine Vl.o.mono ?_;rintro e w9 ⟨rfl,J⟩;obtain⟨To,KZ,WZ7,P4⟩:=KF.o w9 J;have v1:=(jW (a:=⟨D.heap.size,1,none⟩) (J.block _ QP)).trans u1;have v2:=(jW (a:=⟨A.heap.size,0,none⟩) (J.block _ ZU)).trans m0;have v3:=(jW (a:=⟨A.heap.size,1,none⟩) (J.block _ ZU)).trans m1;have v4:=(jW (a:=⟨A.heap.size,2,none⟩) (J.block _ ZU)).trans m2;have x1:=(jW (a:=⟨D.heap.size,1,none⟩) (P4.block _ (ke QP J.size) (fun e=>VQ (kp e).symm))).trans v1;have x2:=(jW (a:=⟨A.heap.size,0,none⟩) (P4.block _ (ke ZU J.size) (fun e=>Yn (kp e).symm))).trans v2;have x3:=(jW (a:=⟨A.heap.size,1,none⟩) (P4.block _ (ke ZU J.size) (fun e=>Yn (kp e).symm))).trans v3;have x4:=(jW (a:=⟨A.heap.size,2,none⟩) (P4.block _ (ke ZU J.size) (fun e=>Yn (kp e).symm))).trans v4;have Wg8:=oP WZ7;clear J P4 WZ7))
   all_goals
    go_wp2;go_roundw
    case rel=>exact⟨k+1,ae,ao,Wg8.o⟩
    case measure=>simp[intOf];omega
  have QR:¬(k:Int)<111:=ae;have ek:k=111:=ae;subst ek;have b0:wr.cell? ⟨D.heap.size,0,none⟩=some (.map (some (w.heap.size+1))):=eM;have b1:wr.cell? ⟨D.heap.size,1,none⟩=some (.map (some (w.heap.size+2))):=eM;have b2:wr.cell? ⟨D.heap.size,2,none⟩=some (.map (some (w.heap.size+3))):=eM;have p0:wr.cell? ⟨w.heap.size,0,none⟩=some (.map none):=eO;have p1:wr.cell? ⟨w.heap.size,1,none⟩=some (.map none):=eO;have p2:wr.cell? ⟨w.heap.size,2,none⟩=some (.map none):=eO;have f0:=kD wr w.heap.size 0 _ _ hN.hd;have f1:=kD wr w.heap.size 1 _ _ hN.hd;have f2:=kD wr w.heap.size 2 _ _ hN.hd;have HN:=oP hN;clear hN;go_wp2_with fail;refine kf (v:=.agg #[.map (some (w.heap.size+1)),.map (some (w.heap.size+2)),.map (some (w.heap.size+3))]) (by simp[results,results161,go_sem,p0,p1,p2]) rfl ⟨w.heap.size+3,rfl,D.heap.size,D.heap.size+1,R.heap.size,wr,HN.o,?_⟩
  exact⟨rfl,rfl,rfl,az,fun j hj Kk=>by
   have Pq:j≠w.heap.size:=fun e=>Kk (by rw[e])
   rw[kk _ ⟨w.heap.size,2,none⟩ j _ Pq,kk _ ⟨w.heap.size,1,none⟩ j _ Pq,kk _ ⟨w.heap.size,0,none⟩ j _ Pq]⟩
structure KV(w:World)(base:Nat)(v6:Value)(ks:List Nat)(v:Value)(es:List (List Trm))(vs:List Value):Prop where
 kr:w.ownsRow base 111 1 v6 ks.length (qp ks)
 vr:w.ownsRow base 259 1 v es.length vs
 ee:EachE w base v vs es
 e6:∀x∈vs,∀j,v6.ownBlock=some j->x.ownBlock≠some j
 s6:∀j,v6.ownBlock=some j->v.ownBlock≠some j
theorem KV.kept{w w':World}{base:Nat}{G:Value}{ks:List Nat}{v:Value}{es:List (List Trm)}{vs:List Value}(h:KV w base G ks v es vs)(D:∀j,base<=j->j<w.heap.size->w'.heap[j]?=w.heap[j]?):KV w' base G ks v es vs:=
 ⟨rQ h.kr (fun j A=>D j (h.kr.lt j A).1 (h.kr.lt j A).2),rQ h.vr (fun j A=>D j (h.vr.lt j A).1 (h.vr.lt j A).2),h.ee.kept (fun j h1 h2 _=>D j h1 h2) (fun _ _ h=>h),h.e6,h.s6⟩
theorem EachE.mem{w:World}{base:Nat}{v:Value}:∀ {vs:List Value} {es:List (List Trm)},EachE w base v vs es->∀x∈vs,∃e,w.ownsRow base 261 4 x (List.length e) (pN e)
 |[],[],_,x,hx=>by cases hx
 |y::vs,e::es,h,x,hx=>by
  rcases kF.1 hx with rfl|hx
  ·exact⟨e,h.1.1⟩
  exact EachE.mem h.2 x hx
 |[],_::_,h,_,_=>h.elim
 |_::_,[],h,_,_=>h.elim
theorem EachE.kept2{w w':World}{base:Nat}{v D:Value}:∀ {vs:List Value} {es:List (List Trm)},EachE w base v vs es->(∀x∈vs,∀j,x.ownBlock=some j->j<w.heap.size->w'.heap[j]?=w.heap[j]?)->(∀j,j<w.heap.size->v.ownBlock≠some j->D.ownBlock≠some j)->EachE w' base D vs es
 |[],[],_,_,_=>trivial
 |x::vs,e::es,h,h1,h2=>by
  obtain⟨⟨a,b⟩,c⟩:=h
  refine⟨⟨rQ a (fun j A=>h1 x af j A (a.lt j A).2),fun j A=>h2 j (a.lt j A).2 (b j A)⟩,EachE.kept2 c (fun y hy=>h1 y (mo _ hy)) h2⟩
 |[],_::_,h,_,_=>h.elim
 |_::_,[],h,_,_=>h.elim
theorem Z2q{D J:World}{base:Nat}{G I:Value}{ks:List Nat}{k:Nat}{v:Value}{es:List (List Trm)}{vs:List Value}{o:Obj}(h:KV D base G ks v es vs)(_hb:base<=D.heap.size)
  (O:J.ownsRow base 111 1 I (ks.length+1) (qp ks++[.int .i64 k])) (R:(D.alloc o).grownBy J G.ownBlock) (S:I.ownBlock=G.ownBlock\/I.ownBlock=some (D.alloc o).heap.size):KV J base I (ks++[k]) v es vs:=by
 have hk:∀j,j<D.heap.size->G.ownBlock≠some j->J.heap[j]?=D.heap[j]?:=fun j A U=>by
  rw[R.block j ai (fun e=>U e.symm),kt A]
 have h6:∀j,I.ownBlock=some j->G.ownBlock=some j\/D.heap.size<j+1:=fun j A=>by
  rcases S with h'|h'
  ·left;rw[<-h'];exact A
  right;rw[h']at A;simp at A;omega
 refine⟨?_,rQ h.vr (fun j A=>hk j (h.vr.lt j A).2 (fun e=>h.s6 j e A)),h.ee.kept2 (fun x hx j A V=>hk j V (fun e=>h.e6 x hx j e A)) (fun _ _ h=>h),fun x hx j A e=>?_,fun j A e=>?_⟩
 ·rw[kq];have:qp (ks++[k])=qp ks++[.int .i64 k]:=by simp[qp]
  rw[this];exact O
 ·rcases h6 j A with h'|h'
  ·exact h.e6 x hx j h' e
  obtain⟨Z,M⟩:=h.ee.mem x hx;have:=(M.lt j e).2;omega
 rcases h6 j A with h'|h'
 ·exact h.s6 j h' e
 have:=(h.vr.lt j e).2;omega
theorem Z6b{D I:World}{base:Nat}{J:Value}{ks:List Nat}{v G x:Value}{es:List (List Trm)}{e:List Trm}{vs:List Value}{o:Obj}(h:KV D base J ks v es vs)(hx:D.ownsRow base 261 4 x e.length (pN e))(R:∀j,x.ownBlock=some j->v.ownBlock≠some j)(S:∀j,J.ownBlock=some j->x.ownBlock≠some j)
  (U:I.ownsRow base 259 1 G (es.length+1) (vs++[x])) (V:(D.alloc o).grownBy I v.ownBlock) (Z:G.ownBlock=v.ownBlock\/G.ownBlock=some (D.alloc o).heap.size):KV I base J ks G (es++[e]) (vs++[x]):=by
 have hk:∀j,j<D.heap.size->v.ownBlock≠some j->I.heap[j]?=D.heap[j]?:=fun j A hv=>by
  rw[V.block j ai (fun e=>hv e.symm),kt A]
 have M:∀j,j<D.heap.size->v.ownBlock≠some j->G.ownBlock≠some j:=fun j A O e=>by
  rcases Z with h'|h'
  ·rw[h']at e;exact O e
  rw[h']at e;simp at e;omega
 refine⟨rQ h.kr (fun j A=>hk j (h.kr.lt j A).2 (h.s6 j A)),?_,EachE.snoc ⟨rQ hx (fun j A=>hk j (hx.lt j A).2 (R j A)),fun j A=>M j (hx.lt j A).2 (R j A)⟩ (h.ee.kept (fun j _ A O=>hk j A O) M),fun y hy j A=>?_,fun j A=>M j (h.kr.lt j A).2 (h.s6 j A)⟩
 ·rw[kq];exact U
 rcases kW.1 hy with hy|hy
 ·exact h.e6 y hy j A
 simp at hy;subst hy;exact S j A
def tX:Nat->List Nat->List (List Trm)->List Tok->Option ((List Nat×List (List Trm))×List Tok)
 |0,_,_,_=>none
 |f+1,ks,vs,A=>match pOp A with
  |none=>none
  |some (_,[])=>none
  |some (x,t::l)=>if t.text=⟨#[44]⟩ then tX f (ks++[x.1]) (vs++[x.2]) l else some ((ks++[x.1],vs++[x.2]),t::l)
def wX:List Tok->Option ((List Nat×List (List Trm))×List Tok)
 |[]=>none
 |t::l=>if t.kind=0 then some (([],[]),t::l) else tX (l.length+1) [] [] (t::l)
def x9(s:List UInt8)(A:List Tok):Option ((InsD×List (List Trm))×List Tok):=(wX A).bind fun x=>(sZ s x.1.1).map fun d=>((d,x.1.2),x.2)
theorem InsAt.kept{w w':World}{b:Bk}{B A sb:Nat}(h:InsAt w b A)(G:Grow2 w w' A sb)(hi:b.ib<A)(J:B<=sb)(M:A<B):InsAt w' b A:=by
 obtain⟨f,n,hf,I⟩:=h;refine⟨f,n,hf.at1 (G.block b.ib hf.lt ae ae),fun s ks h1 h2 h3=>?_⟩;have:=I s ks h1 h2 h3;split at this
 ·exact this
 rename_i d e
 obtain⟨v,a1,a2,a3⟩:=this;exact⟨v,a1,rQ a2 (fun j D=>G.block j (a2.lt j D).2 (by have:=a3 j D;omega) (by have:=a3 j D;omega)),a3⟩
theorem Tryz.infoKind:(Tryz.prog.info? 111).map (fun i=>(i.zero,i.size,i.bytes))=some (some (.int .i64 0),1,8):=aj
def Z5h(w:World)(B A sb:Nat)(b:Bk)(line D p0:Int)(lb:ByteArray)(nm:ByteArray)(o:Option ((InsD×List (List Trm))×List Tok))(e:Ending)(w':World):Prop:=
 match o with
 |none=>e=pj line/\Grow2 w w' A sb
 |some (x,l)=>∃v kv,e=.returned (.tuple #[])/\VAt w' w.heap.size v x.2/\SS w' sb D p0 lb 6 nm v x.1.code kv x.1.size/\w'.ownsRow 0 111 1 kv x.1.kinds.length (qp x.1.kinds)/\(∀j,kv.ownBlock=some j->j<A)/\PS w' B A b line l/\Grow2 w w' A sb
theorem Z7L{A:List Tok}{x:Nat×List Trm}{l:List Tok}(h:pAt A=some (x,l)):l.length+1<=A.length:=by
 match A with
 |[]=>simp[pAt]at h
 |[_]=>simp[pAt]at h
 |t::u::A=>
  simp only[pAt]at h;split at h
  ·split at h
   ·cases A with
    |nil=>simp at h
    |cons v l3=>
     simp only at h;split at h
     ·unfold ru at h;obtain⟨y,_,hy⟩:=kJ.1 h;cases hy;simp
     cases h
   unfold ru at h;obtain⟨y,_,hy⟩:=kJ.1 h;cases hy;simp
  cases h
theorem F6{A:List Tok}{x:Nat×List Trm}{l:List Tok}(h:pOp A=some (x,l)):l.length+1<=A.length:=by
 cases A with
 |nil=>simp[pOp]at h
 |cons t A=>
  simp only[pOp]at h;split at h
  ·obtain⟨y,hy,e⟩:=kJ.1 h;cases e;have:=yX (x:=y.1) (l:=y.2) hy;simp;omega
  split at h
  ·obtain⟨y,hy,e⟩:=kJ.1 h;cases e;have:=yX (x:=y.1) (l:=y.2) hy;simp;omega
  split at h
  ·have:=Z7L h;simp;omega
  split at h
  ·cases h;simp
  obtain⟨y,hy,e⟩:=kJ.1 h;cases e;exact yX (x:=y.1) (l:=y.2) hy
theorem Ci{l:List UInt8}{y:Nat×Nat}(h:pH l=some y):y.1<=100:=by
 unfold pH at h;obtain⟨z,hz,rfl⟩:=kJ.1 h;have A:=mE hz;have D:∀z∈pU,z.2.1<=100:=ah;exact D z A
theorem Z7T{A:List Tok}{x:Nat×List Trm}{l:List Tok}(h:pOp A=some (x,l)):x.1<=100:=by
 cases A with
 |nil=>simp[pOp]at h
 |cons t A=>
  simp only[pOp]at h;split at h
  ·obtain⟨y,hy,e⟩:=kJ.1 h;cases e;show 9<=100;omega
  split at h
  ·obtain⟨y,hy,e⟩:=kJ.1 h;cases e;show 13<=100;omega
  split at h
  ·match A with
   |[]=>simp[pAt]at h
   |[_]=>simp[pAt]at h
   |t::u::A=>
    simp only[pAt]at h;split at h
    ·split at h
     ·cases A with
      |nil=>simp at h
      |cons v l3=>
       simp only at h;split at h
       ·unfold ru at h;obtain⟨y,hf,hy⟩:=kJ.1 h;cases hy;exact Ci hf
       cases h
     unfold ru at h;obtain⟨y,hf,hy⟩:=kJ.1 h;cases hy;exact Ci hf
    cases h
  split at h
  ·rename_i y hf
   cases h;exact Ci hf
  obtain⟨y,hy,e⟩:=kJ.1 h;cases e;show 11<=100;omega
def uQ(f:Nat)(ks:List Nat)(es:List (List Trm))(l:List Tok)(A:Bool):Option ((List Nat×List (List Trm))×List Tok):=match A with
 |true=>tX f ks es l
 |false=>some ((ks,es),l)
structure BM(w:World)(B pb sb:Nat)(b:Bk)(line l0 p0:Int)(lb:ByteArray)(tk:Nat)(nm:ByteArray)(cd:Int)(ka:Option Addr)(kn kc:Nat)(sz:Int)(R0:Option ((List Nat×List (List Trm))×List Tok))(v6:Value)(more:Bool)(wr:World)(ks:List Nat)(es:List (List Trm))(vs:List Value)(l:List Tok)(f:Nat)(va:Option Addr)(vn vc:Nat):Prop where
 kv:KV wr w.heap.size v6 ks (.slice va vn vc) es vs
 ss:SS wr sb l0 p0 lb tk nm (.slice va vn vc) cd (.slice ka kn kc) sz
 ps:PS wr B pb b line l
 g2:Grow2 w wr pb sb
 kl:∀k∈ks,k<=100
 el:es.length=ks.length
 len:ks.length+l.length<=1000000
 fuel:l.length<=f
 res:uQ f ks es l more=R0
theorem Z2V(k:Int):∀u∈[Value.int .i64 k],u.oneCell'=true:=ax
theorem Z3x(a:Option Addr)(m c:Nat):∀u∈[Value.slice a m c],u.oneCell'=true:=ax
theorem Z2S{A D:World}{base sb n:Nat}{G:Value}{xs:List Value}{o:Obj}{J p0:Int}{lb:ByteArray}{tk:Int}{nm:ByteArray}{v:Value}{M:Int}{kd:Value}{sz:Int}(h:A.ownsRow base 111 1 G n xs)(O:(A.alloc o).grownBy D G.ownBlock)(I:SS A sb J p0 lb tk nm v M kd sz)(hs:sb<base):D.cell? ⟨sb,5,none⟩=some v:=by
 have R:=I.lt;have e:=O.block sb ai (fun e=>dc);rw[jW (a:=⟨sb,5,none⟩) e,lO ai];exact I.c5
theorem Z9d{A D:World}{base sb n:Nat}{G:Value}{xs:List Value}{o:Obj}{J p0:Int}{lb:ByteArray}{tk:Int}{nm:ByteArray}{v:Value}{M:Int}{kd:Value}{sz:Int}(h:A.ownsRow base 111 1 G n xs)(O:(A.alloc o).grownBy D G.ownBlock)(I:SS A sb J p0 lb tk nm v M kd sz)(hs:sb<base):D.frozen? ⟨sb,5,none⟩=false:=by
 have R:=I.lt;have e:=O.block sb ai (fun e=>dc);rw[ku (a:=⟨sb,5,none⟩) e,ku (a:=⟨sb,5,none⟩) (kt ai)];exact I.fz 5
theorem Z2j{A D:World}{sb:Nat}{G:Value}{o:Obj}{I p0:Int}{lb:ByteArray}{tk:Int}{nm:ByteArray}{v:Value}{J:Int}{kd:Value}{sz:Int}(M:(A.alloc o).grownBy D G.ownBlock)(O:SS A sb I p0 lb tk nm v J kd sz):sb<D.heap.size:=by
 have h1:=O.lt;have h2:=M.size;simp at h2;omega
theorem Z3u{A D:World}{base sb n:Nat}{v u:Value}{xs:List Value}{o:Obj}(h:A.ownsRow base 259 1 v n xs)(Kg:(A.alloc o).grownBy D v.ownBlock)(hc:A.cell? ⟨sb,5,none⟩=some u)(G:sb<A.heap.size)(hs:sb<base):D.cell? ⟨sb,5,none⟩=some u:=Mbl
theorem Z8l{A D:World}{base sb n:Nat}{v:Value}{xs:List Value}{o:Obj}(h:A.ownsRow base 259 1 v n xs)(Kg:(A.alloc o).grownBy D v.ownBlock)(hc:A.frozen? ⟨sb,5,none⟩=false)(G:sb<A.heap.size)(hs:sb<base):D.frozen? ⟨sb,5,none⟩=false:=Mbc
theorem Z1d{w wr D I G:World}{B O sb:Nat}{b:Bk}{line l0 p0:Int}{lb:ByteArray}{tk:Int}{nm:ByteArray}{v A R V x kd:Value}{cd sz:Int}{ks:List Nat}{k:Nat}{es:List (List Trm)}{e:List Trm}{vs:List Value}{l2:List Tok}{o6 o:Obj}
  (hK:KV wr w.heap.size R ks v es vs) (hS:SS wr sb l0 p0 lb tk nm v cd kd sz) (U:Grow2 w wr O sb) (S:wr.grownBy D (some O)) (RI:D.ownsRow wr.heap.size 261 4 x e.length (pN e)) (LK:PS D B O b line l2)
  (W6:KV I w.heap.size V (ks++[k]) v es vs) (M:(D.alloc o6).grownBy I R.ownBlock) (PA:V.ownBlock=R.ownBlock\/V.ownBlock=some (D.alloc o6).heap.size)
  (Kc:G.ownsRow w.heap.size 259 1 A (es.length+1) (vs++[x])) (J:(I.alloc o).grownBy G v.ownBlock) (Kj:A.ownBlock=v.ownBlock\/A.ownBlock=some (I.alloc o).heap.size) (Kk:sb≠O) (hB:B<=sb) (Oh:sb<w.heap.size) (_hpw:O<w.heap.size) :
  KV (G.setCell ⟨sb,5,none⟩ A) w.heap.size V (ks++[k]) A (es++[e]) (vs++[x])/\SS (G.setCell ⟨sb,5,none⟩ A) sb l0 p0 lb tk nm A cd kd sz/\PS (G.setCell ⟨sb,5,none⟩ A) B O b line l2/\Grow2 w (G.setCell ⟨sb,5,none⟩ A) O sb:=by
 have z0:=U.size;have z3:=S.size;have z4:D.heap.size+1<=I.heap.size:=by have:=M.size;simpa using this
 have zn:I.heap.size+1<=G.heap.size:=by have:=J.size;simpa using this
 have h6:∀j,R.ownBlock=some j->w.heap.size<=j/\j<wr.heap.size:=fun j hj=>hK.kr.lt j hj
 have hv:∀j,v.ownBlock=some j->w.heap.size<=j/\j<wr.heap.size:=fun j hj=>hK.vr.lt j hj
 have Z:∀j,x.ownBlock=some j->wr.heap.size<=j/\j<D.heap.size:=fun j hj=>RI.lt j hj
 have b4:∀j,j<D.heap.size->R.ownBlock≠some j->I.heap[j]?=D.heap[j]?:=fun j hj hh=>by
  rw[M.block j ai (fun e=>hh e.symm),kt hj]
 have bn:∀j,j<I.heap.size->v.ownBlock≠some j->G.heap[j]?=I.heap[j]?:=fun j hj hh=>by
  rw[J.block j ai (fun e=>hh e.symm),kt hj]
 have bs:∀j,j≠sb->(G.setCell ⟨sb,5,none⟩ A).heap[j]?=G.heap[j]?:=fun j hj=>ly bz
 have n6:∀j,j<w.heap.size->R.ownBlock≠some j:=fun j hj e=>by have:=(h6 j e).1;omega
 have nv:∀j,j<w.heap.size->v.ownBlock≠some j:=fun j hj e=>by have:=(hv j e).1;omega
 have lo:∀j,j<w.heap.size->G.heap[j]?=D.heap[j]?:=fun j hj=>(bn j ae (nv j hj)).trans (b4 j ae (n6 j hj))
 have Vp6:I.ownsRow w.heap.size 261 4 x e.length (pN e):=rQ (pC RI z0) (fun j hj=>b4 j (Z j hj).2 (fun e=>by have:=(h6 j e).2;have:=(Z j hj).1;omega))
 have Vp7:=Z6b W6 Vp6 (fun j hj e=>by have:=(hv j e).2;have:=(Z j hj).1;omega) (fun j hj e=>by
  have h1:=Z j e;rcases PA with h'|h'
  ·rw[h']at hj;have:=(h6 j hj).2;omega
  ·rw[h']at hj;simp at hj;omega) Kc J Kj
 refine⟨Vp7.kept (fun j hj _=>bs j ae),?_,?_,?_⟩
 ·have e3:D.heap[sb]?=wr.heap[sb]?:=S.block sb hS.lt ay;exact((hS.grown e3 z3).grown (lo sb Oh) ae).set5 A
 ·have hl:=LK.le;refine LK.kept ⟨J.os.trans M.os,J.tape.trans M.tape,J.output.trans M.output,bO,fun j hj=>?_⟩;rw[bs j ae];exact lo j ae
 refine Grow2.set ⟨((J.os.trans M.os).trans S.os).trans U.os,((J.tape.trans M.tape).trans S.tape).trans U.tape,((J.output.trans M.output).trans S.output).trans U.output,ae,fun j hj h1 h2=>?_⟩ 5 A;rw[lo j hj,S.block j ae dD];exact U.block j hj h1 h2
theorem SS.done1{w:World}{sb:Nat}{D p0:Int}{lb:ByteArray}{tk:Int}{nm:ByteArray}{v:Value}{M:Int}{kd:Value}{sz:Int}(h:SS w sb D p0 lb tk nm v M kd sz)(A G:Int)(I:Value)(J:Int):SS ((((w.setCell ⟨sb,3,none⟩ (.int .i64 A)).setCell ⟨sb,6,none⟩ (.int .u8 G)).setCell ⟨sb,7,none⟩ I).setCell ⟨sb,8,none⟩ (.int .i64 J)) sb D p0 lb A nm v G I J:=by
 have a3:=World.cell?_setCell_same w _ (.int .i64 A) h.c3;refine⟨?_,?_,?_,?_,?_,?_,?_,?_,?_,fun j=>aV,cJ⟩
 ·rw[j3 af,j3 af,j3 af,j3 af];exact h.c0
 ·rw[j3 af,j3 af,j3 af,j3 af];exact h.c1
 ·rw[j3 af,j3 af,j3 af,j3 af];exact h.c2
 ·rw[j3 af,j3 af,j3 af];exact a3
 ·rw[j3 af,j3 af,j3 af,j3 af];exact h.c4
 ·rw[j3 af,j3 af,j3 af,j3 af];exact h.c5
 ·rw[j3 af,j3 af];exact kP _ (by rw[j3 af];exact h.c6)
 ·rw[j3 af];exact kP _ (by rw[j3 af,j3 af];exact h.c7)
 exact kP _ (by rw[j3 af,j3 af,j3 af];exact h.c8)
theorem VAt.set{w:World}{base sb j:Nat}{v:Value}{es:List (List Trm)}(h:VAt w base v es)(hs:sb<base)(u:Value):VAt (w.setCell ⟨sb,j,none⟩ u) base v es:=by
 obtain⟨vs,h1,h2⟩:=h;have A:∀k,base<=k->(w.setCell ⟨sb,j,none⟩ u).heap[k]?=w.heap[k]?:=fun k hk=>ly ai
 exact⟨vs,rQ h1 (fun k hk=>A k (h1.lt k hk).1),h2.kept (fun k hk _ _=>A k hk) (fun _ _ h=>h)⟩
theorem Z5c{f:Nat}{ks:List Nat}{es:List (List Trm)}{l:List Tok}(h:pOp l=none):uQ (f+1) ks es l true=none:=by simp only[uQ,tX,h]
theorem Z73{f:Nat}{ks:List Nat}{es:List (List Trm)}{l l2:List Tok}{x:Nat×List Trm}{t:Tok}(h:pOp l=some (x,t::l2))(ht:¬t.text=⟨#[44]⟩):uQ (f+1) ks es l true=some ((ks++[x.1],es++[x.2]),t::l2):=by simp only[uQ,tX,h];rw[jS ht]
theorem Z7K{f:Nat}{ks:List Nat}{es:List (List Trm)}{l l2:List Tok}{x:Nat×List Trm}{t:Tok}(h:pOp l=some (x,t::l2))(ht:t.text=⟨#[44]⟩):uQ (f+1) ks es l true=uQ f (ks++[x.1]) (es++[x.2]) l2 true:=by simp only[uQ,tX,h];rw[jT ht]
theorem Z4t(w:World)(B D sb:Nat)(b:Bk)(line:Int)(ts:List Tok)(h:PS w B D b line ts)(hb:BookAt w b)(hI:InsAt w b D)(On:b.ib<D)(ha:Apart B D b)(hn:ts.length<=1000000)(s:ByteArray)(hs:s.size<=1000000)(l0 p0:Int)(lb:ByteArray)(tk:Nat)(nm:ByteArray)(cd:Int)(ka:Option Addr)(kn kc:Nat)(sz:Int)
  (hS:SS w sb l0 p0 lb tk nm (.slice none 0 0) cd (.slice ka kn kc) sz) (Kk:sb≠D) (hB:B<=sb) :
  Calls prog 211 #[.pointer (some ⟨D,0,none⟩),.pointer (some ⟨sb,0,none⟩),.string s] w (Z5h w B D sb b line l0 p0 lb nm (x9 s.data.toList ts)):=by
 obtain⟨i0,hi,KJ,KC,Ky⟩:=kQ Tryz.infoExp;obtain⟨k0,gi,Vp8,Vp9,Vq0⟩:=kQ Tryz.infoKind;obtain⟨t,l,rfl⟩:=h.ne;have RH:D<w.heap.size:=ke h.lt h.le;have T4:=h.lt;have TK:=oP hS.lt;have Lu:=oP hb;have So:=oP hI;obtain⟨O,WE2⟩:=Zg0 (wX (t::l));obtain⟨R,hR⟩:=Zg0 (x9 s.data.toList (t::l));rw[hR];have HR:=oP (show R=O.bind fun x=>(sZ s.data.toList x.1.1).map fun d=>((d,x.1.2),x.2) by rw[<-hR,<- WE2];rfl);have HA:=oP (vP w B D b line t l h)
 have G:BM w B D sb b line l0 p0 lb tk nm cd ka kn kc sz O (.slice none 0 0) (!decide (t.kind=0)) w [] [] [] (t::l) (l.length+1) none 0 0:=by
  refine⟨⟨kA,kA,trivial,(fun x hx=>by cases hx),(fun j hj=>by cases hj)⟩,hS,h,Grow2.refl _ _ _,(fun k hk=>by cases hk),rfl,by simp at hn⊢;exact hn,af,?_⟩;rw[<-WE2];by_cases hk:t.kind=0
  ·simp[wX,uQ,hk]
  simp[wX,uQ,hk]
 have KF:=oP G;clear h hb hS hI hR WE2 G;go_enter func211,ntmps211;go_wp2_with fail;refine HA.o.mono ?_;rintro e w0 ⟨rfl,Kv⟩;rw[Kv];clear Kv w0;go_wp2_with fail;go_loopw [6,7] (fun v6 v7 wr=>∃(Pa:Bool) (ks:List Nat) (es:List (List Trm)) (vs:List Value) (l:List Tok) (f:Nat) (va:Option Addr) (vn vc:Nat),v7=.bool Pa/\Hid (BM w B D sb b line l0 p0 lb tk nm cd ka kn kc sz O v6 Pa wr ks es vs l f va vn vc)) (fun _ _ wr=>zP wr D)
 case atStart=>exact⟨_,[],[],[],t::l,l.length+1,none,0,0,af,KF⟩
 case round=>
  obtain⟨Pa,ks,es,vs,l1,f,va,vn,vc,rfl,A⟩:=hrel;have QM:=A.o.ps.left;have RC:=oP QM;have WY1:=A.o.g2.size;have Kl:=A.o.len;have Wv4:=A.o.fuel;clear QM KF HA;cases Pa with
  |true=>
   have NF:=Z3Q wr B D b line l1 A.o.ps (Lu.o.belowG2 A.o.g2 ha hB) ha A.o.ps.sz ae;obtain⟨f',rfl⟩:∃f',f=f'+1:=⟨f-1,by obtain⟨t1,VK8,rfl⟩:=A.o.ps.ne;simp at Wv4;omega⟩;cases S:pOp l1 with
   |none=>
    have Ld:=oP (show R=none by rw[HR.o,<- A.o.res,Z5c S];rfl);rw[S]at NF;have HO:=oP NF;clear NF S;go_wp2_with fail;refine HO.o.mono ?_;rintro e w3 ⟨rfl,U⟩;unfold pj;go_wp2_with fail;rw[Ld.o];exact⟨rfl,rfl,A.o.g2.trans (Grow2.of1 U _)⟩
   |some xl=>
    obtain⟨⟨k,x⟩,l2⟩:=xl;have hpl:=F6 S;have Va:k<=100:=Z7T S;rw[S]at NF;have HO:=oP NF;have WZ8:=oP S;clear NF S;go_wp2_with fail;refine HO.o.mono ?_;rintro e w3 ⟨xv,rfl,RI,LK,U⟩;obtain⟨xa,xn,xc,rfl⟩:=vS RI;have TX:=U.size;have WZ9:KV w3 w.heap.size u6 ks (.slice va vn vc) es vs:=A.o.kv.kept (fun j hj K2=>U.block j K2 ai);have P5:=oP WZ9;clear WZ9;have I:=oP (A.o.ss.grown (U.block sb A.o.ss.lt ay) TX);have Rh:=A.o.kv.ee.len;have VK9:es.length<=1000000:=by rw[A.o.el];omega
    go_wp2_with (first| (at_builtin;refine kH _ rfl _ _ 126 rfl w.heap.size 111 k0 _ 1 8 underlying126 gi Vp8 Vp9 Vq0 rfl ah _ _ _ rfl (P5.o.kr.alloc _) ⟨w3.heap.size,0,none⟩ 1 1 [.int .i64 k] rfl rfl l8 (Z2V _) ak ae ai ?_;intro S2 w4 T5 V _ PA;have W6:=oP (Z2q P5.o (j8 WY1 TX) T5 V PA);have q5:=Z2S P5.o.kr V I.o TK.o;have q6:=Z9d P5.o.kr V I.o TK.o;have q7:=Z2j V I.o)|(at_builtin;refine kH _ rfl _ _ 125 rfl w.heap.size 259 i0 _ 1 24 underlying125 hi KJ KC Ky rfl ah _ _ _ rfl (W6.o.vr.alloc _) ⟨w4.heap.size,0,none⟩ 1 1 [.slice xa xn xc] rfl rfl l8 (Z3x _ _ _) ak ae (by have:=V.size;simp at this⊢;omega) ?_;intro v' wn Kc Kg _ Kj;obtain⟨RJ,Ve,RL,rfl⟩:=vS Kc;have r5:=Z3u W6.o.vr Kg q5 q7 TK.o;have r6:=Z8l W6.o.vr Kg q6 q7 TK.o));have G:=Z1d A.o.kv A.o.ss A.o.g2 U RI LK W6.o V PA Kc Kg Kj Kk hB TK.o RH;have Z:=oP G;obtain⟨t2,l3,rfl⟩:=LK.ne
    have O5:∀j∈ks++[k],j<=100:=fun j hj=>by
     rcases kW.1 hj with h'|h'
     ·exact A.o.kl j h'
     simp at h';omega
    have VW:(es++[x]).length=(ks++[k]).length:=by simp[A.o.el]
    have J:=A.o.res;have Va0:=oP (And.intro O5 VW);simp at hpl;by_cases Vm:t2.text=⟨#[44]⟩
    ·have Wh0:=oP (vN _ B D b line t2 l3 ⟨#[44]⟩ G.2.2.1 Vm ah);have Yo:=oP (show uQ f' (ks++[k]) (es++[x]) l3 true=O by rw[<-J,Z7K WZ8.o Vm]);clear G LK Kc Kg Kj T5 V PA q5 q6 r5 r6 RI U O5 VW J W6 P5 I;refine Wh0.o.mono ?_;rintro e w6 ⟨rfl,Yp,No⟩;have Sp:=Yp.left;have VH:=oP Sp
     have HN:=oP (show BM w B D sb b line l0 p0 lb tk nm cd ka kn kc sz O S2 true w6 (ks++[k]) (es++[x]) (vs++[.slice xa xn xc]) l3 f' RJ Ve RL from
      ⟨Z.o.1.kept (fun j hj K2=>No.block j K2 ai),Z.o.2.1.grown (No.block sb Z.o.2.1.lt ay) No.size,Yp,Z.o.2.2.2.trans (Grow2.of1 No _),Va0.o.1,Va0.o.2,ai,ae,Yo.o⟩)
     clear Yp Sp Z A;go_wp2;go_roundw
     case rel=>exact⟨true,_,_,_,_,_,_,_,_,af,HN⟩
     case measure=>rw[VH.o,RC.o];omega
    have Wh0:=oP (wQ _ B D b line t2 l3 ⟨#[44]⟩ G.2.2.1 Vm);have Yo:=oP (show uQ f' (ks++[k]) (es++[x]) (t2::l3) false=O by rw[<-J,Z73 WZ8.o Vm];rfl);have Sp:=G.2.2.1.left;have VH:=oP Sp
    have HN:=oP (show BM w B D sb b line l0 p0 lb tk nm cd ka kn kc sz O S2 false _ (ks++[k]) (es++[x]) (vs++[.slice xa xn xc]) (t2::l3) f' RJ Ve RL from
     ⟨G.1,G.2.1,G.2.2.1,G.2.2.2,O5,VW,ai,ai,Yo.o⟩)
    clear G LK Kc Kg Kj T5 V PA q5 q6 r5 r6 RI U O5 VW J W6 P5 I Sp Z A;refine Wh0.o.mono ?_;rintro e w6 ⟨rfl,L6⟩;rw[L6];clear L6 w6;go_wp2;go_roundw
    case rel=>exact⟨false,_,_,_,_,_,_,_,_,af,HN⟩
    case measure=>rw[VH.o,RC.o];simp;omega
  |false=>
   have J:some ((ks,es),l1)=O:=A.o.res;have WE3:=So.o.kept A.o.g2 On hB T4;have VF:=Z6K wr b D w.heap.size s u6 ks WE3 hs ae A.o.kl A.o.kv.kr;unfold bkV at VF;have hps:=A.o.ps;have e0:=hps.c0;have e1:=hps.c1;have e2:=hps.c2;have Yq:=hps.le;have Yr:=A.o.ss;have WE4:=Yr.lt;cases Nk:sZ s.data.toList ks with
   |none=>
    have Ld:=oP (show R=none by rw[HR.o,<- J];simp[Nk]);rw[Nk]at VF;have HF:=oP VF;clear VF Nk J WE3 hps Yr;go_wp2_with fail;refine HF.o.mono ?_;rintro e w4 ⟨Lr,c,RJ,Ve,RL,m,rfl⟩;unfold qW;have VX:=Lr.size;go_wp2_with fail;refine(vB _ B D b line l1 ((A.o.ps.kept (Lr.mono Yq)).kept (jV.alloc (j8 Yq VX) _))).mono ?_;rintro e w5 ⟨rfl,rfl⟩;unfold pj;go_wp2_with fail;rw[Ld.o];exact⟨rfl,rfl,A.o.g2.trans (Grow2.ofB (Lr.alloc VX _) _ _)⟩
   |some d=>
    have Ld:=oP (show R=some ((d,es),l1) by rw[HR.o,<- J];simp[Nk]);rw[Nk]at VF;have HF:=oP VF;clear VF Nk J WE3 hps Yr;go_wp2_with fail;refine HF.o.mono ?_;rintro e w4 ⟨Lr,WW,rfl,Vn,QQ⟩;obtain⟨WE5,WE6,Yh,rfl⟩:=vS Vn;unfold qW;have VX:=Lr.size;have M:=Lr.alloc VX (.cells #[.int .u8 d.code,.slice WE5 WE6 Yh,.int .i64 d.size] 128);have ZV:=A.o.ss.grown (M.block sb WE4) M.size;have Z:=oP (And.intro M (And.intro ZV (And.intro Vn QQ)));obtain⟨s0,s1,s2,s3,s4,s5,s6,s7,s8,sf,sl⟩:=ZV;have VL0:=sf 3;have VL1:=sf 6;have VL2:=sf 7;have VL3:=sf 8;clear M Vn QQ sf;go_wp2_with fail;go_region;go_end0;rw[Ld.o];obtain⟨M,ZV,Vn,QQ⟩:=Z.o;have Vq1:VAt (w4.alloc (.cells #[.int .u8 d.code,.slice WE5 WE6 Yh,.int .i64 d.size] 128)) w.heap.size (.slice va vn vc) es:=VAt.below (w:=wr) ⟨vs,A.o.kv.vr,A.o.kv.ee⟩ M;have Oh:=TK.o;have hd:∀x:World,Below x.heap.size x x.drew:=fun x=>(jV).drew
    refine⟨_,_,rfl,((((Vq1.set Oh _).set Oh _).set Oh _).set Oh _).below (hd _),(ZV.done1 6 d.code (.slice WE5 WE6 Yh) d.size).grown rfl jU,?_,QQ,?_,?_⟩
    ·refine rQ (Vn.below3 M) (fun j hj=>?_);have Pq:j≠sb:=by have:=QQ j hj;omega
     rw[show ∀x:World,x.drew.heap=x.heap from fun _=>rfl];rw[ly dF,ly dF,ly dF,ly dF]
    ·exact A.o.ps.kept ((((((M.mono Yq).setCell hB _).setCell hB _).setCell hB _).setCell hB _).drew)
    exact((((A.o.g2.trans (Grow2.ofB M _ _)).set 3 _).set 6 _).set 7 _ |>.set 8 _).trans (Grow2.ofB (hd _) _ _)
def rL:List Tok->Option (ByteArray×List Tok)
 |[]=>none
 |[t]=>some (⟨#[]⟩,[t])
 |t::u::l=>if t.kind=0\/¬u.text=⟨#[58]⟩ then some (⟨#[]⟩,t::u::l) else if t.kind=1/\pd t.text.data.toList=true then some (t.text,l) else none
theorem Z15(w:World)(B A:Nat)(b:Bk)(line:Int)(J:List Tok)(h:PS w B A b line J)(G:BookAt w b)(S:Apart B A b)(Kk:∀t u l,J=t::u::l->t.kind=0->False) :
  Calls prog 165 #[.pointer (some ⟨A,0,none⟩)] w (Hi w B A b line (fun s=>.string s) (rL J)):=by
 obtain⟨t,l,rfl⟩:=h.ne;have HA:=oP (vP w B A b line t l h);cases l with
 |nil=>
  have hk:t.kind=0:=by have:=h.last;simp at this;subst this;rfl
  have e:rL [t]=some (⟨#[]⟩,[t]):=rfl;rw[e];have hd:decide (t.kind=0)=true:=bD;rw[hd]at HA;have HP:=oP h;clear h;exact Mbw
 |cons u l=>
  have hk:t.kind≠0:=fun e=>Kk t u l rfl e
  have hd:decide (t.kind=0)=false:=bD;rw[hd]at HA;obtain⟨g,off,Kd,k1,k2,WX6,k3,k4,k5⟩:=h.tk;have u1:=k3.2.2.2.2.1;have hp:(1:Int)<(l.length:Int)+1+1:=ae;by_cases D:u.text=⟨#[58]⟩
  ·rw[D]at u1;have M:((⟨#[58]⟩:ByteArray).toList==(⟨#[58]⟩:ByteArray).toList)=true:=af;have KE:=h.sz t af;by_cases I:t.kind=1/\pd t.text.data.toList=true
   ·have e:rL (t::u::l)=some (t.text,l):=by simp only[rL];rw[jS (by simp[hk,D]),jT I]
    rw[e];have O:=oP (Fg w B A b line t (u::l) h G S ae I.1 I.2);clear h G;go_enter func165,ntmps165;go_wp2_with fail;refine HA.o.mono ?_;rintro e w1 ⟨rfl,rfl⟩;go_wp2_with fail;refine O.o.mono ?_;rintro e U ⟨rfl,V,R⟩;have HS:=oP (vN U B A b line u l ⟨#[58]⟩ V D ah);clear V;go_wp2_with fail;refine HS.o.mono ?_;rintro e w3 ⟨rfl,LK,Kr⟩;go_wp2_with fail;go_ret;exact⟨rfl,LK,R.trans2 Kr⟩
   have e:rL (t::u::l)=none:=by simp only[rL];rw[jS (by simp[hk,D]),jS I]
   rw[e]
   have hn:t.kind≠1\/pd t.text.data.toList=false:=by
    by_cases Z:t.kind=1
    ·right;cases ho:pd t.text.data.toList with
     |true=>exact absurd ⟨Z,ho⟩ I
     |false=>rfl
    exact .inl Z
   have O:=oP (IM w B A b line t (u::l) h G S ae hn);clear h G;go_enter func165,ntmps165;go_wp2_with fail;refine HA.o.mono ?_;rintro e w1 ⟨rfl,rfl⟩;go_wp2_with fail;refine O.o.mono ?_;rintro e U ⟨rfl,R⟩;unfold pj;go_wp2_with fail;exact⟨rfl,rfl,R⟩
  have M:(u.text.toList==[58])=false:=by rw[<-show (⟨#[58]⟩:ByteArray).toList=[58] by rw[lB]];exact Hx _ _ D
  have e:rL (t::u::l)=some (⟨#[]⟩,t::u::l):=by simp only[rL];rw[jT (.inr D)]
  rw[e];have HP:=oP h;clear h G;exact Mbw
