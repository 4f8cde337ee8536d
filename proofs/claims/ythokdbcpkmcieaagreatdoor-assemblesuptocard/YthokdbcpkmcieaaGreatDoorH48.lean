import Derived.Test.YthokdbcpkmcieaaGreatDoorH46
import Derived.Test.YthokdbcpkmcieaaGreatDoorH47
import Derived.Test.YthokdbcpkmcieaaGreatDoorH32
set_option maxRecDepth 200000
set_option maxHeartbeats 16000000
namespace Go.Proofs.YthokdbcpkmcieaaGreatDoor
open RowKit Shelf WideMaps Maps Proofs.Tryz
theorem Z9Z(s:ByteArray)(hs:s.size<=2000)(w:World):Calls prog 22 #[.string s] w (zZ w (tz s)):=by
 obtain⟨OF,hi,KJ,KC,Ky⟩:=kQ Tryz.infoLineA;have ho:xR (sJ s)=tz s:=by unfold tz;rw[jS ae]
 obtain⟨R,hR⟩:=Zg0 (tz s);rw[hR]at ho⊢;have HO:=oP ho;have Wz0:¬(2000:Int)<(s.size:Int):=ae;obtain⟨w0,Kv⟩:=Zg0 ((w.alloc (.cells #[.slice none 0 0,.slice none 0 0,.slice none 0 0] 35)).alloc (.cells zeroCells85 85));obtain⟨rb,LO⟩:=Zg0 w.heap.size;obtain⟨ab,Nw⟩:=Zg0 (w.heap.size+1);have Vl1:=oP (And.intro LO Nw);have TG:rb+1=ab:=by rw[<-Nw,<- LO]
 have Mo:Hid (RAM w0 ab (ab+1) rasm0):=by
  show RAM w0 ab (ab+1) rasm0;have:=Z6l (w.alloc (.cells #[.slice none 0 0,.slice none 0 0,.slice none 0 0] 35));rwa [Kv,show (w.alloc (.cells #[.slice none 0 0,.slice none 0 0,.slice none 0 0] 35)).heap.size=ab by rw[<-Nw];simp]at this
 have XC:Hid (w0.heap[rb]?=some (.cells #[.slice none 0 0,.slice none 0 0,.slice none 0 0] 35)):=by
  rw[<-Kv,<- LO];exact(nz _ _ af).trans (kg w _)
 have NT:Hid (Below w.heap.size w w0):=gp;have Ta:=oP (Z3U s hs w0);obtain⟨ls,hls⟩:=Zg0 (sJ s);obtain⟨n,hn⟩:=Zg0 ls.length;have Kl:=Z1D s hs;rw[hls,hn]at Kl;rw[hls]at HO;rw[hls,hn]at Ta;have RX:=oP Kl.2;have HN:=oP hn;have RY:n<=2001:=Kl.1;clear ho hR Kl hn hls hs;go_enter func22,ntmps22;go_wp2_with fail;refine Ta.o.mono ?_;rintro e w1 ⟨la,lc,rfl,Ke,Kn⟩
 have PB:Hid (ASt w w1 rb ab (.slice la n lc) (.slice none 0 0) ls [] [] rasm0):=by
  have hM:=Mo.o.below Kn;have h1:=Vl1.o.1;have h2:=Vl1.o.2;have Kf:=Mo.o.lt;exact⟨NT.o.trans (Kn.mono NT.o.size),(Kn.block rb ae).trans XC.o,hM,by rw[HN.o];exact pC Ke Kf.2,AllR.nil _ _,ae,ae⟩
 clear Ta Ke Kn Mo XC NT Kv Nw;go_wp2_with fail;obtain⟨D,hD⟩:=Zg0 (rdR 0 rasm0 ls);have HD:=oP hD;clear hD;go_loopw [6,8] (fun va y wr=>∃(k:Nat) (xs:List RLine) (vs:List (Value×Value)) (a:RAsm) (aa:Option Addr) (ac:Nat),va=.slice aa k ac/\y=.int .i64 (k:Int)/\k<=n/\xs.length=k/\vD xs (rdR k a (ls.drop k))=D/\RdO rasm0 xs a/\a.pl<=1024/\a.L.length<=40/\ASt w wr rb ab (.slice la n lc) (.slice aa k ac) ls xs vs a) (fun _ y _=>n-(intOf y).toNat)
 case atStart=>exact⟨0,[],[],rasm0,none,0,rfl,rfl,j4,rfl,by rw[Z2x];exact HD.o,rfl,ah,ah,PB.o⟩
 case round=>
  clear PB;obtain⟨k,xs,vs,a,aa,ac,rfl,rfl,LD,Pp,Vl2,Nq,hpl,O,G⟩:=hrel;have HJ:=oP Vl2;have A:=oP (And.intro Nq (And.intro hpl (And.intro O Pp)));have HS:=oP G;clear Vl2 Nq hpl O Pp;by_cases Kf:k<n
  ·have QR:(k:Int)<(n:Int):=by omega
   have WO5:IntKind.i64.wrap ((k:Int)+1)=(k:Int)+1:=ar;have O5:k<ls.length:=aA;obtain⟨t,ht⟩:=Zg0 (ls[k]);have OQ:ls.drop k=t::ls.drop (k+1):=by rw[lY O5,ht]
   have I:=oP (And.intro Kf (And.intro OQ (RX.o t (by rw[<-ht];exact kC O5))));obtain⟨lg,el,_,ec⟩:=z8 G.ln bI;have ec:=ec k (.string t) (by unfold xJ;rw[kS,jX O5,ht];rfl);have Wu:=oP (Z0t t I.o.2.2);subst el;clear G Kf OQ ht O5;go_wp2_with fail;refine(Wu.o wr).mono ?_;rintro e w2 ⟨KQ,he⟩;have Ox:=oP (HS.o.below KQ);have Lo:=oP KQ;have TW:=KQ.size;clear Wu KQ;cases hp:qE (rlT t) with
   |none=>
    rw[hp]at he;obtain⟨lb,nm,wh,c,m,en,_,_,rfl,⟨J,e1,e2,rfl⟩,⟨M,o1,o2,rfl⟩⟩:=he
    have Mj:Hid (.error (2,k+1)=R):=by
     show .error (2,k+1)=R;have h1:=HJ.o;rw[I.o.2.1,Z8X xs hp]at h1;have h2:=HO.o;unfold xR at h2;rw[HD.o,<- h1]at h2;exact h2
    clear hp;obtain⟨w3,LF⟩:=Zg0 (w2.alloc (.cells #[.string lb,.string nm,.string wh,.int .i64 c,.int .i64 m,.string en,.slice J e1 e2,.slice M o1 o2] 92));have NW:ASt w w3 rb ab (.slice (some ⟨lg,0,none⟩) n lc) (.slice aa k ac) ls xs vs a:=by rw[<-LF];exact Ox.o.below (jV.alloc jU _)
    have Pb:=oP NW;obtain⟨z0,z1,z2,zf⟩:=wH NW.im;have y0:=zf 0;have y1:=zf 1;have y2:=zf 2;have QV:w.heap.size<=rb:=ae;clear NW zf;unfold liV;go_wp2_with fail;exact AV Mj.o Pb.o.im Pb.o.bw QV rfl rfl rfl rfl
   |some x=>
    rw[hp]at he;obtain⟨v,rfl,hl⟩:=he;obtain⟨ev,ov,rfl,SW,WU5⟩:=hl.at_;obtain⟨J,rfl,_⟩:=SW.slice;obtain⟨M,U,rfl⟩:=WU5.slice;obtain⟨WU6,Vx,Wx3⟩:=Z9r I.o.2.2 hp;have HP:=oP hp;obtain⟨w3,LF⟩:=Zg0 (w2.alloc (.cells #[.string x.label,.string x.name,.string x.what,.int .i64 (x.ent.1:Int),.int .i64 (x.ent.2.1:Int),.string ⟨x.ent.2.2.1.toArray⟩,.slice J x.ent.2.2.2.length x.ent.2.2.2.length,.slice M x.ops.length U] 92));have KH:Below w2.heap.size w2 w3:=by rw[<-LF];exact(jV).alloc jU _
    have NW:ASt w w3 rb ab (.slice (some ⟨lg,0,none⟩) n lc) (.slice aa k ac) ls xs vs a:=Ox.o.below KH;have XJ:w3.heap[w2.heap.size]?=some (liC x.label x.name x.what (x.ent.1:Int) (x.ent.2.1:Int) ⟨x.ent.2.2.1.toArray⟩ (.slice J x.ent.2.2.2.length x.ent.2.2.2.length) (.slice M x.ops.length U)):=by rw[<-LF];exact kg w2 _
    have Pb:=oP NW;have S:=oP XJ;have V6:=oP (SW.later KH);have OX:=oP ((WU5.kept (fun j _ hj=>KH.block j hj)).base (b':=ab+1) (by have:=NW.ram.lt;have:=HS.o.ram.lt;omega));obtain⟨xb,NV⟩:=Zg0 w2.heap.size;rw[NV]at S;have Vi5:ab+1<=xb:=by have:=Ox.o.ram.lt;omega
    obtain⟨⟨y0,y1,y2,y3,y4,y5,y6,y7⟩,_⟩:=oY S.o;have V:=oP (Z6o ab (ab+1) a x J x.ent.2.2.2.length x.ent.2.2.2.length M U w3 Pb.o.ram (ab+1) lW OX.o V6.o WU6 (by have:=A.o.2.2.1;omega) A.o.2.1 Vx);have PZ:=oP (And.intro WU6 (And.intro Vx Wx3));clear hp hl SW WU5 WU6 Vx Wx3 KH NW XJ;unfold liV at V⊢;go_wp2_with fail;refine V.o.mono ?_;rintro e w4 ⟨rfl,UM,Ul⟩;have Ri:=Pb.o.chg UM Ul;have WU7:w4.heap[xb]?=some (liC x.label x.name x.what (x.ent.1:Int) (x.ent.2.1:Int) ⟨x.ent.2.2.1.toArray⟩ (.slice J x.ent.2.2.2.length x.ent.2.2.2.length) (.slice M x.ops.length U)):=(UM.block xb (oV S.o) ae (.inr fun cs fr q=>by rw[S.o]at q;unfold liC at q;simp at q)).trans S.o;have U0:=oP Ri;have Yw:=oP (UM.opsIn Pb.o.ram V6.o);have PJ:=oP (UM.opsR OX.o lW);clear V y0 y1 y2 y3 y4 y5 y6 y7 LF;obtain⟨⟨y0,y1,y2,y3,y4,y5,y6,y7⟩,_⟩:=oY WU7;have VH8:xb<w4.heap.size:=oV WU7;obtain⟨E,hE⟩:=Zg0 ((oT a x).1);rw[hE];clear UM Ul WU7;by_cases SG:E=0
    ·have HQ:Hid (vD (xs++[x]) (rdR (k+1) (oT a x).2 (ls.drop (k+1)))=D):=by
      have h1:=HJ.o;rw[I.o.2.1,Z0x xs HP.o (hE.trans SG)]at h1;exact h1
     have HK:Hid (LnK a x):=⟨hE.trans SG,A.o.2.1,PZ.o.1,PZ.o.2.1,PZ.o.2.2,Z4A HP.o⟩
     have Ki:Hid (w4.ownsRow (ab+1) 92 8 (.slice aa k ac) k (vw xs vs)):=by
      have:=Ri.all.row;rw[A.o.2.2.2]at this;exact this
     subst SG;have V9:ab+1<=w4.heap.size:=ae;clear hE Ri;go_wp2_with (at_builtin;refine kH _ rfl _ _ 86 rfl (ab+1) 92 OF _ 8 128 underlying86 hi KJ KC Ky rfl ah _ _ _ rfl (Ki.o.alloc _) ⟨w4.heap.size,0,none⟩ 1 1 [.string x.label,.string x.name,.string x.what,.int .i64 (x.ent.1:Int),.int .i64 (x.ent.2.1:Int),.string ⟨x.ent.2.2.1.toArray⟩,.slice J x.ent.2.2.2.length x.ent.2.2.2.length,.slice M x.ops.length U] rfl rfl (Z2p _ _ _ _ _ _ _ _ _ _) (by intro u hu;simp at hu;rcases hu with rfl|rfl|rfl|rfl|rfl|rfl|rfl|rfl <;> rfl) ak ae ai ?_;intro v2 wn Kc Kg _ _;obtain⟨a',c',ev⟩:=rP Kc;subst ev);have hl:(xs++[x]).length=k+1:=by rw[kq,A.o.2.2.2];rfl
     have WS0:Hid (ASt w wn rb ab (.slice (some ⟨lg,0,none⟩) n lc) (.slice a' (k+1) c') ls (xs++[x]) (vs++[(.slice J x.ent.2.2.2.length x.ent.2.2.2.length,.slice M x.ops.length U)]) (oT a x).2):=U0.o.snoc (v:=(.slice J x.ent.2.2.2.length x.ent.2.2.2.length,.slice M x.ops.length U)) Yw.o PJ.o (jV.alloc jU _) (by rw[A.o.2.2.2];exact Kc) Kg;clear Kc Kg;go_wp2_with fail;go_roundw
     case rel=>exact⟨k+1,xs++[x],_,(oT a x).2,a',c',rfl,ao,I.o.1,hl,HQ.o,A.o.1.snoc HK.o,Z8E HK.o.ok A.o.2.1,Z6U HK.o.ok A.o.2.2.1,WS0.o⟩
     case measure=>have:=I.o.1;simp[intOf];omega
    have WU8:Hid (.error (E,k+1)=R):=by
     show .error (E,k+1)=R;have h1:=HJ.o;rw[I.o.2.1,Z5r xs HP.o (by rw[hE];exact SG),hE]at h1;have h2:=HO.o;unfold xR at h2;rw[HD.o,<- h1]at h2;exact h2
    exact MaE
  have NK:k=n:=ae;have QR:¬(k:Int)<(n:Int):=ae
  have Vl3:Hid (flR 0 {a with pl:=0} xs=R):=by
   show flR 0 {a with pl:=0} xs=R;have h1:=HJ.o;rw[NK,mY (by rw[HN.o];exact jU)]at h1;have h3:.ok (xs++[],a)=D:=h1;rw[kX]at h3;have h2:=HO.o;unfold xR at h2;rw[HD.o,<- h3]at h2;exact h2
  have Yl:Hid (ASt w (wr.setCell ⟨ab,1,none⟩ (.int .i64 0)) rb ab (.slice la n lc) (.slice aa k ac) ls xs vs {a with pl:=0}):=HS.o.chg (AChg.set wr ab (ab+1) 1 _) (HS.o.ram.setPl 0);have q1:=G.ram.c1;have q2:=G.ram.fz 1;have Ws4:=oP A.o.1;have Vl4:=oP A.o.2.2.2;have VI1:k<=2001:=ae;clear HJ A HS G Kf NK HD HO LD;go_wp2_with fail;go_loopw [12] (fun y wx=>∃(j:Nat) (b b0:RAsm),y=.int .i64 (j:Int)/\j<=k/\flR j b (xs.drop j)=R/\RdO b0 (xs.drop j) a/\b.pl=b0.pl/\b.L=a.L/\ASt w wx rb ab (.slice la n lc) (.slice aa k ac) ls xs vs b) (fun y _=>k-(intOf y).toNat)
  case atStart=>exact⟨0,{a with pl:=0},rasm0,rfl,j4,Vl3.o,Ws4.o,rfl,rfl,Yl.o⟩
  case round=>
   clear Yl Ws4 Vl3 q1 q2;obtain⟨j,b,b0,rfl,Vf,Om,Nq,Sl,O,G⟩:=hrel;have Z:=oP Om;have A:=oP (And.intro Nq (And.intro Sl O));have HS:=oP G;clear Om Nq Sl O;by_cases Kf:j<k
   ·have K6:(j:Int)<(k:Int):=by omega
    have Wx1:IntKind.i64.wrap ((j:Int)+1)=(j:Int)+1:=ar;have K2:j<xs.length:=by rw[Vl4.o];exact Kf
    have PU:j<vs.length:=by rw[<-G.all.len];exact K2
    obtain⟨x,hx⟩:=Zg0 (xs[j]);obtain⟨⟨v1,v2⟩,hv⟩:∃v,vs[j]=v:=⟨_,rfl⟩;have hx?:xs[j]?=some x:=by rw[jX K2,hx]
    have hv?:vs[j]?=some (v1,v2):=by rw[jX PU,hv]
    have OQ:xs.drop j=x::xs.drop (j+1):=by rw[lY K2,hx]
    obtain⟨p1,p2⟩:=G.all.ins j x (v1,v2) hx? hv?;obtain⟨J,e1,_⟩:=p1.slice;obtain⟨M,U,e2⟩:=p2.slice;have WN0:v1=_:=e1;have WN2:v2=_:=e2;subst WN0 WN2;obtain⟨ag,eg,_,cg⟩:=z8 G.all.row ae;subst eg;have d0:=cg (j*8) (.string x.label) ((wE xs vs j 0 x _ hx? hv? ae).trans rfl);have d1:=cg (j*8+1) (.string x.name) ((wE xs vs j 1 x _ hx? hv? ae).trans rfl);have d2:=cg (j*8+2) (.string x.what) ((wE xs vs j 2 x _ hx? hv? ae).trans rfl);have d3:=cg (j*8+3) (.int .i64 (x.ent.1:Int)) ((wE xs vs j 3 x _ hx? hv? ae).trans rfl);have d4:=cg (j*8+4) (.int .i64 (x.ent.2.1:Int)) ((wE xs vs j 4 x _ hx? hv? ae).trans rfl);have d5:=cg (j*8+5) (.string ⟨x.ent.2.2.1.toArray⟩) ((wE xs vs j 5 x _ hx? hv? ae).trans rfl);have d6:=cg (j*8+6) (.slice J x.ent.2.2.2.length x.ent.2.2.2.length) ((wE xs vs j 6 x _ hx? hv? ae).trans rfl);have d7:=cg (j*8+7) (.slice M x.ops.length U) ((wE xs vs j 7 x _ hx? hv? ae).trans rfl);have UF:=A.o.1;rw[OQ]at UF;have h2:=UF.second A.o.2.1 A.o.2.2;have V:=oP (Z84 ab (ab+1) b x J x.ent.2.2.2.length x.ent.2.2.2.length M U wr G.ram (ab+1) lW p2 p1 UF.1.b UF.1.s h2.1);have Mj:=oP (And.intro UF.2 h2.2);have I:=oP (And.intro Kf OQ);clear G cg UF h2 p1 p2 e1 e2 hx? hv? hx hv OQ K2 PU Kf;unfold liV at V;go_wp2_with fail;refine V.o.mono ?_;rintro e w4 ⟨rfl,UM,Ul⟩;have Ri:=HS.o.chg UM Ul;have U0:=oP Ri;obtain⟨E,hE⟩:=Zg0 ((pz b x).1);rw[hE];clear V d0 d1 d2 d3 d4 d5 d6 d7 UM Ul;by_cases SG:E=0
    ·have HQ:Hid (flR (j+1) (pz b x).2 (xs.drop (j+1))=R):=by
      have h1:=Z.o;rw[I.o.2,Z00 (hE.trans SG)]at h1;exact h1
     subst SG;clear hE Ri;go_wp2_with fail;go_roundw
     case rel=>exact⟨j+1,(pz b x).2,(oT b0 x).2,ao,I.o.1,HQ.o,Mj.o.1,Mj.o.2.1,Mj.o.2.2,U0.o⟩
     case measure=>have:=I.o.1;simp[intOf];omega
    have WU8:Hid (.error (E,j+1)=R):=by
     show .error (E,j+1)=R;have h1:=Z.o;rw[I.o.2,Z83 (by rw[hE];exact SG),hE]at h1;exact h1
    exact MaE
   have K6:¬(j:Int)<(k:Int):=ae
   have XN:Hid (.ok b=R):=by
    have h1:=Z.o;rw[mY (by rw[Vl4.o];omega),Z1M]at h1;exact h1
   have V:=oP (Z1K ab (ab+1) b wr G.ram);have Rr:rb<wr.heap.size:=by have:=G.ram.lt;omega
   have QV:w.heap.size<=rb:=ae;clear G Kf Z A;go_wp2_with fail;refine V.o.mono ?_;rintro e w4 ⟨ba,bc,VR0,VR1,sa,sc,rfl,r1,r2,r3,MI⟩;have U0:=oP (HS.o.below MI);have Qb:=oP (And.intro r1 (And.intro r2 r3));obtain⟨z0,z1,z2,zf⟩:=wH U0.o.im;have f0:=zf 0;have f1:=zf 1;have f2:=zf 2;clear V r1 r2 r3 MI zf;go_wp2_with fail;exact Z2J XN.o U0.o.im U0.o.bw QV Qb.o.1 Qb.o.2.1 Qb.o.2.2 Rr rfl rfl rfl rfl
theorem Z6d(s:ByteArray)(w:World):Calls prog 22 #[.string s] w (zZ w (tz s)):=by
 rcases lQ 2000 s.size with h|h
 ·exact Z8F s h w
 exact Z9Z s h w
theorem Gs(src:ByteArray)(mm:Int)(w:World)(M:w.cell? ⟨0,0,none⟩=some (.int .i64 mm)) :
  Calls prog 15 #[.string src] w (Bp w (rC src)):=by
 obtain⟨R,U⟩:=Zg0 (rC src);have h0:0<w.heap.size:=lD _ M;obtain⟨W,hW⟩:=Zg0 (w.alloc (.cells #[.slice none 0 0,.slice none 0 0,.slice none 0 0] 35));have O:Below w.heap.size w W:=eP;have NY:W.heap.size=w.heap.size+1:=by rw[<-hW];simp
 have hh:W.heap[w.heap.size]?=some (.cells #[.slice none 0 0,.slice none 0 0,.slice none 0 0] 35 (0,0)):=by rw[<-hW];exact kg w _
 have I:=oP (Z5g src mm W ((jW (a:=⟨0,0,none⟩) (O.block 0 h0)).trans M));rw[U]at I⊢
 have V:∀(A:World),Below W.heap.size W A->A.cell? ⟨w.heap.size,0,none⟩=some (.slice none 0 0)/\A.cell? ⟨w.heap.size,1,none⟩=some (.slice none 0 0)/\A.cell? ⟨w.heap.size,2,none⟩=some (.slice none 0 0)/\A.frozen? ⟨w.heap.size,0,none⟩=false/\A.frozen? ⟨w.heap.size,1,none⟩=false/\A.frozen? ⟨w.heap.size,2,none⟩=false:=fun A J=>by
  have Mn:=(J.block w.heap.size ae).trans hh;exact⟨fK,fK,fK,kD A w.heap.size 0 _ _ Mn,kD A w.heap.size 1 _ _ Mn,kD A w.heap.size 2 _ _ Mn⟩
 have HB:=oP (And.intro O V);clear O hh V M U;cases R with
 |error q=>
  have G:Hid (Calls prog 31 #[.string src] W fun e A=>e=.returned (.tuple #[.agg #[.slice none 0 0,.slice none 0 0,.slice none 0 0],.int .i64 q.1,.int .i64 (q.2:Int)])/\Below W.heap.size W A):=I.o.mono fun e A hh=>⟨hh.2,hh.1⟩
  clear I;go_enter func15,ntmps15;go_wp2_with (first| (go_at_call 31;refine G.o.mono ?_;rintro e A ⟨rfl,D⟩;obtain⟨r0,r1,r2,f0,f1,f2⟩:=HB.o.2 A D;have S:=oP D;clear D));refine kf (v:=.tuple #[.agg #[pI,pI,pI],.int .i64 q.1,.int .i64 (q.2:Int)]) (by simp[results,results15,go_sem,r0,r1,r2]) rfl ⟨?_,rfl⟩;have J:=HB.o.1.trans (S.o.mono HB.o.1.size);exact uX (uX (uX J jU 0 _) jU 1 _) jU 2 _
 |ok a=>
  have G:Hid (Calls prog 31 #[.string src] W fun e A=>∃ik lk sk,e=.returned (.tuple #[.agg #[.slice (some ⟨ik,0,none⟩) 1024 1024,.slice (some ⟨lk,0,none⟩) 1024 1024,.slice (some ⟨sk,0,none⟩) 1024 1024],.int .i64 0,.int .i64 0])/\(YRow A ik a.bytes/\BRow A lk a.laid/\BRow A sk a.starts/\W.heap.size<=ik/\W.heap.size<=lk/\W.heap.size<=sk/\lk≠sk)/\Below W.heap.size W A):=I.o.mono fun e A hh=>by
   obtain⟨h1,ik,lk,sk,h2,h3⟩:=hh;exact⟨ik,lk,sk,h2,h3,h1⟩
  clear I;go_enter func15,ntmps15;go_wp2_with (first| (go_at_call 31;refine G.o.mono ?_;rintro e A ⟨ik,lk,sk,rfl,Z,D⟩;obtain⟨r0,r1,r2,f0,f1,f2⟩:=HB.o.2 A D;have S:=oP (And.intro D Z);clear D Z));refine kf (v:=.tuple #[.agg #[iV ik 1024,iV lk 1024,iV sk 1024],.int .i64 0,.int .i64 0]) (by simp[iV,results,results15,go_sem,r0,r1,r2]) rfl ?_;obtain⟨D,hy,hl,hs,l1,l2,l3,l4⟩:=S.o;have J:=HB.o.1.trans (D.mono HB.o.1.size)
  have e3:∀(k:Nat) (v0 v1 v2:Value),k≠w.heap.size->(((A.setCell ⟨w.heap.size,0,none⟩ v0).setCell ⟨w.heap.size,1,none⟩ v1).setCell ⟨w.heap.size,2,none⟩ v2).heap[k]?=A.heap[k]?:=fun k v0 v1 v2 hk=>by
   exact MbF
  exact⟨uX (uX (uX J jU 0 _) jU 1 _) jU 2 _,ik,lk,sk,rfl,hy.kept (e3 _ _ _ _ ae),hl.kept (e3 _ _ _ _ ae),hs.kept (e3 _ _ _ _ ae),ae,ae,ae,l4⟩
def GC(w:World)(a:Asm)(ik lk sk:Nat)(w':World):Prop:=YRow w' ik a.bytes/\BRow w' lk a.laid/\BRow w' sk a.starts/\w.heap.size<=ik/\w.heap.size<=lk/\w.heap.size<=sk/\lk≠sk
theorem FV(src:ByteArray)(a:Asm)(mm:Int)(w:World)(A:w.cell? ⟨0,0,none⟩=some (.int .i64 mm))(h:rC src=.ok a) :
  Calls prog 15 #[.string src] w fun e w'=>∃ik lk sk,e=.returned (.tuple #[.agg #[.slice (some ⟨ik,0,none⟩) 1024 1024,.slice (some ⟨lk,0,none⟩) 1024 1024,.slice (some ⟨sk,0,none⟩) 1024 1024],.int .i64 0,.int .i64 0])/\GC w a ik lk sk w'/\Below w.heap.size w w':=by
 have:=Gs src mm w A;rw[h]at this;refine this.mono fun e w' hh=>?_
 obtain⟨h1,ik,lk,sk,h2,h3⟩:=hh;exact⟨ik,lk,sk,h2,h3,h1⟩
theorem Z3y(src:ByteArray)(q:Int×Nat)(mm:Int)(w:World)(A:w.cell? ⟨0,0,none⟩=some (.int .i64 mm))(h:rC src=.error q) :
  Calls prog 15 #[.string src] w fun e w'=>e=.returned (.tuple #[.agg #[.slice none 0 0,.slice none 0 0,.slice none 0 0],.int .i64 q.1,.int .i64 (q.2:Int)])/\Below w.heap.size w w':=by
 have:=Gs src mm w A;rw[h]at this;exact this.mono fun e w' hh=>⟨hh.2,hh.1⟩
def asI(s:ByteArray):Img:=match rC s with
 |.error _=>⟨[],[],[]⟩
 |.ok a=>⟨a.bytes,a.laid,a.starts⟩
def asE(s:ByteArray):Int:=match rC s with
 |.error q=>q.1
 |.ok _=>0
def asN(s:ByteArray):Int:=match rC s with
 |.error q=>(q.2:Int)
 |.ok _=>0
theorem Z19{w:World}{B b:Nat}{l:List UInt8}(h:YRow w b l)(D:B<=b):w.ownsRow B 5 1 (.slice (some ⟨b,0,none⟩) 1024 1024) l.length (pA l):=by
 have A:=h.len;refine⟨by rw[sg,kR],.inr ⟨b,1024,_,by rw[A],D,h.at_,ae,ak,by simp[A],?_⟩⟩;rw[kR,show (l.map fun x=>Value.int .u8 (x.toNat:Int)).toArray.toList=pA l from rfl];exact lL (by rw[sg];omega)
theorem GR{w:World}{B b:Nat}{l:List Bool}(h:BRow w b l)(D:B<=b):w.ownsRow B 4 1 (.slice (some ⟨b,0,none⟩) 1024 1024) l.length (pG l):=by
 have A:=h.len;refine⟨by rw[rh,kR],.inr ⟨b,1024,_,by rw[A],D,h.at_,ae,ak,by simp[A],?_⟩⟩;rw[kR,show (l.map Value.bool).toArray.toList=pG l from rfl];exact lL (by rw[rh];omega)
theorem Z1W(s:ByteArray)(mm:Int)(w:World)(D:w.cell? ⟨0,0,none⟩=some (.int .i64 mm)) :
  Calls prog 15 #[.string s] w fun e w'=>∃v0 G v2,e=.returned (.tuple #[.agg #[v0,G,v2],.int .i64 (asE s),.int .i64 (asN s)])/\IR3 w' w.heap.size v0 G v2 (asI s).bytes.length (asI s).laid.length (asI s).starts.length (pA (asI s).bytes) (pG (asI s).laid) (pG (asI s).starts)/\xf (asI s)/\Below w.heap.size w w':=by
 unfold asE asN asI;cases h:rC s with
 |error q=>
  refine(Z3y s q mm w D h).mono ?_;rintro e w' ⟨rfl,A⟩;exact⟨_,_,_,rfl,⟨kA,kA,kA,fun g hg=>cp⟩,⟨af,af,af⟩,A⟩
 |ok a=>
  refine(FV s a mm w D h).mono ?_;rintro e w' ⟨ik,lk,sk,rfl,hi,A⟩;obtain⟨hy,I,hs,l1,l2,l3,J⟩:=hi;refine⟨_,_,_,rfl,⟨Z19 hy l1,GR I l2,GR hs l3,fun g hg e=>?_⟩,⟨by have:=hy.len;simp only;omega,by have:=I.len;simp only;omega,by have:=hs.len;simp only;omega⟩,A⟩;simp only[Value.ownBlock,me]at hg e;omega
theorem Z6H(l:List UInt8):byC l=pA l:=rfl
theorem Z0P(l:List Bool):boC l=pG l:=rfl
theorem Z7l(s:ByteArray)(w:World) :
  Calls prog 22 #[.string s] w fun e w'=>∃v0 G v2,e=.returned (.tuple #[.agg #[v0,G,v2],.int .i64 (asE s),.int .i64 (asN s)])/\HImgAt w' v0 G v2 (asI s)/\Below w.heap.size w w':=by
 unfold asE asN asI;have A:=Z1n s;have D:=Z6d s w;cases h:rC s with
 |error q=>
  rw[h]at A;obtain⟨k,h1,h2⟩:=A;rw[h1]at D;refine D.mono ?_;rintro e w' ⟨A,he⟩;simp only at he⊢;rw[<-h2];exact⟨_,_,_,he,⟨uz (oz w' 0 5 1) rfl,uz (oz w' 0 4 1) rfl,uz (oz w' 0 4 1) rfl⟩,A⟩
 |ok a=>
  rw[h]at A;obtain⟨b,h1,h2,h3,h4⟩:=A;rw[h1]at D;refine D.mono ?_;rintro e w' ⟨A,I,J,la,M,O,R,he,r0,r1,r2⟩;simp only;rw[h2,h3,h4];rw[Z6H]at r0;rw[Z0P]at r1 r2;have q0:SlV w' (.slice I 1024 J) (pA (td b)):=uz r0 (r0.1.trans (kR _)).symm;have q1:SlV w' (.slice la 1024 M) (pG b.laid):=uz r1 (r1.1.trans (kR _)).symm;have q2:SlV w' (.slice O 1024 R) (pG b.starts):=uz r2 (r2.1.trans (kR _)).symm;exact⟨.slice I 1024 J,.slice la 1024 M,.slice O 1024 R,he,⟨q0,q1,q2⟩,A⟩
structure KpA(w w':World)(bb:Nat)(sv iv:Value):Prop where
 os:w'.os=w.os
 tape:w'.tape=w.tape
 output:w'.output=w.output
 size:w.heap.size<=w'.heap.size
 block:∀k,k<w.heap.size->k≠bb->sv.ownBlock≠some k->iv.ownBlock≠some k->w'.heap[k]?=w.heap[k]?
theorem AB.bookI{w w':World}{D base G T:Nat}{I sv' J:Value}{es:List Snt}{is:List qX}(h:AB w D base G I es J is)(hk:KeptB 0 w w' D T I sv')(O:G<=T):BookI w' D base G J is:=
 h.i.kept (hk.cell 1 ah) (hk.fz 1) (fun j A=>hk.block j (by have:=h.i.rtop j A;omega) (by have:=(h.i.row.lt j A).1;have:=h.s.lt;omega) (fun e=>h.si j e A)) (fun e he v M j A=>by
  have h1:=(h.i.full e he).lt v M j A
  have h2:=h.s.lt
  exact hk.block j ae ae (h.sI e he v M j A)) jU
theorem IR3.img{w:World}{B:Nat}{v0 A v2:Value}{im:Img}(h:IR3 w B v0 A v2 im.bytes.length im.laid.length im.starts.length (pA im.bytes) (pG im.laid) (pG im.starts)):HImgAt w v0 A v2 im:=⟨uz h.r0 (sg _).symm,uz h.r1 (rh _).symm,uz h.r2 (rh _).symm⟩
theorem IR3.kept{w w':World}{B:Nat}{v0 D v2:Value}{n0 n1 G:Nat}{I J M:List Value}(h:IR3 w B v0 D v2 n0 n1 G I J M)(hk:∀k,B<=k->k<w.heap.size->w'.heap[k]?=w.heap[k]?):IR3 w' B v0 D v2 n0 n1 G I J M:=
 ⟨qO h.r0 (fun g A=>hk g (h.r0.lt g A).1 (h.r0.lt g A).2),qO h.r1 (fun g A=>hk g (h.r1.lt g A).1 (h.r1.lt g A).2),qO h.r2 (fun g A=>hk g (h.r2.lt g A).1 (h.r2.lt g A).2),h.d⟩
theorem IR3.free{w:World}{B:Nat}{v0 A v2:Value}{n0 n1 D:Nat}{G I J:List Value}(h:IR3 w B v0 A v2 n0 n1 D G I J){k:Nat}(hk:k<B\/w.heap.size<=k):vM v0 A v2 k:=
 ⟨fun e=>by have:=h.r0.lt k e;omega,fun e=>by have:=h.r1.lt k e;omega,fun e=>by have:=h.r2.lt k e;omega⟩
theorem AB.act{w w1 J M D:World}{A base Kx:Nat}{U sv' S iv' v0 V v2:Value}{es:List Snt}{is:List qX}{Z:Snt}{ei:qX}{n0 n1 n2:Nat}{x0 x1 x2:List Value}(hA:AB w A base Kx U es S is)(Nz:Kx<=w.heap.size)(hR:IR3 w1 w.heap.size v0 V v2 n0 n1 n2 x0 x1 x2)(O:Below w.heap.size w J)(XW:w1.heap.size<=J.heap.size)
  (WB0:AB M A base M.heap.size sv' (es++[Z]) S is) (G:KeptB 0 J M A J.heap.size U sv') (Wb4:∀v∈rV Z,∀g,v.ownBlock=some g->J.heap.size<=g)
  (KU:BookI D A base D.heap.size iv' (is++[ei])) (I:Ae M D (vM v0 V v2) A S iv') (WB1:∀v∈sj ei,∀g,v.ownBlock=some g->vM v0 V v2 g->M.heap.size<=g) :
  AB D A base D.heap.size sv' (es++[Z]) iv' (is++[ei])/\KpA w D A U S:=by
 have TX:=O.size;have VX:=G.size;refine⟨WB0.keepI KU I WB1 (fun g R=>hR.free ?_) (fun e he v hv g R=>hR.free ?_),⟨I.os.trans (G.os.trans O.os),I.tape.trans (G.tape.trans O.tape),I.output.trans (G.output.trans O.output),by have:=I.size;omega,fun k hk h1 h2 h3=>?_⟩⟩
 ·rcases G.loc with e|e
  ·have:=hA.s.rtop g (e ▸ R);omega
  have:=e g R;omega
 ·rcases kW.1 he with he|he
  ·have:=(Cc hA.s he hv R).2;omega
  simp only[kF,lE,lF]at he;subst he;have:=Wb4 v hv g R;omega
 rw[I.block k ae (hR.free (.inl hk)) h1 h3,G.block k ae h1 h2,O.block k hk]
theorem Z68(w:World)(S base Kx:Nat)(sv iv:Value)(es:List Snt)(is:List qX)(hA:AB w S base Kx sv es iv is)(Y2:es.length<=2000000)(Wm6:is.length<=2000000)(Nz:Kx<=w.heap.size)(s:ByteArray)(m:Int)(hm:w.cell? ⟨0,0,none⟩=some (.int .i64 m)) :
  Calls prog 9 #[.pointer (some ⟨S,0,none⟩),.string s] w fun e w'=>e=.returned (.bool true)/\∃sv' iv' en ei,AB w' S base w'.heap.size sv' (es++[en]) iv' (is++[ei])/\KpA w w' S sv iv:=by
 have ML:S<Kx:=by have:=hA.s.lt;have:=hA.s.le;omega
 have UA:0<w.heap.size:=lD _ hm;have HM:Hid (∀w',Below w.heap.size w w'->w'.cell? ⟨0,0,none⟩=some (.int .i64 m)):=fun w' J=>(jW (a:=⟨0,0,none⟩) (J.block 0 UA)).trans hm
 have HA:=oP hA;have H1:=oP (Z1W s m w hm);have H2:=oP (Z7l s);obtain⟨im,Vl5⟩:=Zg0 (asI s);obtain⟨E,hE⟩:=Zg0 (asE s);obtain⟨N,hN⟩:=Zg0 (asN s);rw[Vl5,hE,hN]at H1 H2;clear hA hm Vl5 hE hN;go_enter func9,ntmps9;go_wp2_with fail;refine H1.o.mono ?_;rintro e A ⟨v0,v1,v2,rfl,D,hf,G⟩;obtain⟨a0,c0,rfl⟩:=tr D.r0;obtain⟨a1,c1,rfl⟩:=tr D.r1;obtain⟨a2,c2,rfl⟩:=tr D.r2;obtain⟨W1,Qv,I,M,q0,q1,q2⟩:=xC A (.slice a0 im.bytes.length c0) (.slice a1 im.laid.length c1) (.slice a2 im.starts.length c2);have HX:Hid (∀w':World,w'.heap[A.heap.size]?=W1.heap[A.heap.size]?->w'.cell? ⟨A.heap.size,0,none⟩=some (.slice a0 im.bytes.length c0)/\w'.cell? ⟨A.heap.size,1,none⟩=some (.slice a1 im.laid.length c1)/\w'.cell? ⟨A.heap.size,2,none⟩=some (.slice a2 im.starts.length c2)):=fun w' J=>⟨(jW (a:=⟨A.heap.size,0,none⟩) J).trans q0,(jW (a:=⟨A.heap.size,1,none⟩) J).trans q1,(jW (a:=⟨A.heap.size,2,none⟩) J).trans q2⟩
 have HR:=oP (And.intro D (And.intro hf (And.intro G (And.intro I M))));clear D hf G I M H1;go_wp2_with fail;refine(H2.o W1).mono ?_;rintro e U ⟨u0,u1,u2,rfl,hI,KQ⟩;obtain⟨p0,d0,e0⟩:=hI.b.slice;obtain⟨p1,d1,e1⟩:=hI.l.slice;obtain⟨p2,d2,e2⟩:=hI.s.slice;subst e0 e1 e2;obtain⟨W2,P7,R6,ZC,r0,r1,r2⟩:=xC U (.slice p0 (pA im.bytes).length d0) (.slice p1 (pG im.laid).length d1) (.slice p2 (pG im.starts).length d2);have Sa:Below W1.heap.size W1 W2:=KQ.trans (R6.mono KQ.size);obtain⟨D,hf,G,I,M⟩:=HR.o;have U1:Below A.heap.size A W2:=I.trans (Sa.mono I.size);obtain⟨x0,x1,x2⟩:=HX.o W2 (Sa.block _ M);have Wn0:=oP (Hc _ _ _ _ _ _ im W2 (D.img.below U1) (hI.below R6) hf);have HY:Hid (∀w',Below W2.heap.size W2 w'->w'.cell? ⟨U.heap.size,0,none⟩=some (.slice p0 (pA im.bytes).length d0)/\w'.cell? ⟨U.heap.size,1,none⟩=some (.slice p1 (pG im.laid).length d1)/\w'.cell? ⟨U.heap.size,2,none⟩=some (.slice p2 (pG im.starts).length d2)):=fun w' J=>⟨(jW (a:=⟨U.heap.size,0,none⟩) (J.block _ ZC)).trans r0,(jW (a:=⟨U.heap.size,1,none⟩) (J.block _ ZC)).trans r1,(jW (a:=⟨U.heap.size,2,none⟩) (J.block _ ZC)).trans r2⟩
 have HJ:=oP (And.intro (hI.below R6) (And.intro Sa U1));clear D hf G I M hI KQ R6 Sa U1 H2 q0 q1 q2 Qv;go_wp2_with fail;refine Wn0.o.mono ?_;rintro e O ⟨rfl,KH⟩;obtain⟨D,hf,G,I,M⟩:=HR.o;obtain⟨y0,y1,y2⟩:=HY.o O KH;have V:Below A.heap.size A O:=HJ.o.2.2.trans (KH.mono HJ.o.2.2.size);have R:Below w.heap.size w O:=G.trans (V.mono G.size);have Rb:=oP (Fs O S base Kx sv iv es is (HA.o.below R Nz jU) Y2 (j8 Nz R.size) _ _ _ im (HJ.o.1.below KH) hf m (HM.o O R));have Vl6:A.heap.size<O.heap.size:=ke M (j8 HJ.o.2.1.size KH.size);have Mi:=oP (And.intro V (And.intro R ((KH.block A.heap.size (ke M HJ.o.2.1.size)).trans (HJ.o.2.1.block _ M))));clear D hf G I KH V R Wn0 x0 x1 x2 r0 r1 r2 P7;go_wp2_with fail;refine Rb.o.mono ?_;rintro e w4 ⟨rfl,sv',en,WB0,Ol,Wb4⟩;obtain⟨D,hf,G,I,_⟩:=HR.o;obtain⟨V,R,Ma⟩:=Mi.o;have KC:=G.size;have TX:=V.size;have VX:=Ol.size;have Vb:∀k,w.heap.size<=k->k<O.heap.size->w4.heap[k]?=O.heap[k]?:=fun k h1 h2=>Ol.block k h2 ae (fun e=>by have:=HA.o.s.rtop k e;omega)
 obtain⟨x0,x1,x2⟩:=HX.o w4 ((Vb _ KC ae).trans Ma);have Vl7:=(D.kept (w':=O) (fun k _ hk=>V.block k hk)).kept (w':=w4) (fun k h1 h2=>Vb k h1 h2);have Vl8:=(HA.o.below R Nz jU).bookI Ol (j8 Nz R.size);have Vl9:=oP (Z1S w4 S base Kx iv is Vl8 HA.o.s.lt HA.o.s.le Wm6 ae w.heap.size _ _ _ _ _ _ _ _ _ Vl7 Nz ae hf.1 hf.2.1 hf.2.2);have Z:=oP (And.intro WB0 (And.intro Ol Wb4));clear D hf G I V R Ma Vb Vl7 Vl8 WB0 Ol Wb4 Rb y0 y1 y2;go_wp2_with fail;refine Vl9.o.mono ?_;rintro e w5 ⟨rfl,iv',ei,KU,Um,WB1⟩;have Oz:=HA.o.act Nz HR.o.1 Mi.o.2.1 Mi.o.1.size Z.o.1 Z.o.2.1 Z.o.2.2 KU Um WB1;have MA:=oP Oz;clear Oz KU Um WB1 Vl9 x0 x1 x2;go_wp2;go_ret;exact⟨rfl,sv',iv',en,ei,MA.o⟩
def IY:ByteArray:=⟨#[120,32,101,113,117,32,51,10,79,82,71,32,120,43,49,10,109,111,118,32,97,44,35,120,45,52,32,59,32,45,49]⟩
theorem Z5K:(match rC IY with
 |.ok a=>decide (a.bytes[4]?=some 116)&&(decide (a.bytes[5]?=some 255)&&(decide (a.laid[5]?=some true)&&decide (a.laid[6]?=some false)))
 | .error _=>false)=true:=aq
theorem Z54(mm:Int)(w:World)(J:w.cell? ⟨0,0,none⟩=some (.int .i64 mm)) :
  Calls prog 8 #[] w fun e w'=>e=.returned (.bool true)/\Below w.heap.size w w':=by
 obtain⟨a,M,b4,b5,O,R⟩:∃a,rC IY=.ok a/\a.bytes[4]?=some 116/\a.bytes[5]?=some 255/\a.laid[5]?=some true/\a.laid[6]?=some false:=by
  have h:=Z5K;split at h
  ·rename_i a hq
   simp only[kB,kI]at h;exact⟨a,hq,h.1,h.2.1,h.2.2.1,h.2.2.2⟩
  cases h
 have S:=oP (FV _ a mm w J M)
 have U:Hid (∀(w':World) (ik lk sk:Nat),GC w a ik lk sk w'->w'.cell? ⟨ik,4,none⟩=some (.int .u8 116)/\w'.cell? ⟨ik,5,none⟩=some (.int .u8 255)/\w'.cell? ⟨lk,5,none⟩=some (.bool true)/\w'.cell? ⟨lk,6,none⟩=some (.bool false)/\ik<w'.heap.size/\lk<w'.heap.size):=fun w' ik lk sk h=>by
  obtain⟨hy,G,_⟩:=h;obtain⟨i4,Z⟩:=mh.1 b4;obtain⟨i5,e5⟩:=mh.1 b5;obtain⟨j5,f5⟩:=mh.1 O;obtain⟨j6,f6⟩:=mh.1 R;have c4:=hy.cell 4 i4;have c5:=hy.cell 5 i5;have d5:=G.cell 5 j5;have d6:=G.cell 6 j6;rw[Z]at c4;rw[e5]at c5;rw[f5]at d5;rw[f6]at d6;exact⟨c4,c5,d5,d6,hy.lt,G.lt⟩
 clear M b4 b5 O R J;go_enter func8,ntmps8;go_wp2_with fail;refine S.o.mono ?_;rintro e w1 ⟨ik,lk,sk,rfl,D,I⟩;obtain⟨c4,c5,d5,d6,V,ll⟩:=U.o _ _ _ _ D;obtain⟨W1,Qv,A,Nc,q0,q1,q2⟩:=xC w1 (.slice (some ⟨ik,0,none⟩) 1024 1024) (.slice (some ⟨lk,0,none⟩) 1024 1024) (.slice (some ⟨sk,0,none⟩) 1024 1024);have k4:=(jW (a:=⟨ik,4,none⟩) (A.block ik V)).trans c4;have k5:=(jW (a:=⟨ik,5,none⟩) (A.block ik V)).trans c5;have m5:=(jW (a:=⟨lk,5,none⟩) (A.block lk ll)).trans d5;have m6:=(jW (a:=⟨lk,6,none⟩) (A.block lk ll)).trans d6;have HB:=oP (I.trans (A.mono I.size));clear D I A c4 c5 d5 d6 S U;go_wp2;go_ret;exact⟨rfl,HB.o⟩
def TxAt(w:World)(a:Option Addr)(n:Nat):Prop:=∀i,i<n->∃b off u,a=some ⟨b,off,none⟩/\b<w.heap.size/\w.cell? ⟨b,off+i,none⟩=some (.string u)
def ImsAt(w:World)(a:Option Addr)(n:Nat):Prop:=∀i,i<n->∃b off v0 A v2 im,a=some ⟨b,off,none⟩/\b<w.heap.size/\w.cell? ⟨b,off+i*3,none⟩=some v0/\w.cell? ⟨b,off+i*3+1,none⟩=some A/\w.cell? ⟨b,off+i*3+2,none⟩=some v2/\HImgAt w v0 A v2 im/\xf im
theorem TxAt.below{w w':World}{a:Option Addr}{n:Nat}(h:TxAt w a n)(A:Below w.heap.size w w'):TxAt w' a n:=fun i hi=>by
 obtain⟨b,off,u,h1,h2,h3⟩:=h i hi
 exact⟨b,off,u,h1,ke h2 A.size,(jW (a:=⟨b,off+i,none⟩) (A.block b h2)).trans h3⟩
theorem ImsAt.below{w w':World}{a:Option Addr}{n:Nat}(h:ImsAt w a n)(A:Below w.heap.size w w'):ImsAt w' a n:=fun i hi=>by
 obtain⟨b,off,v0,G,v2,im,h1,h2,h3,h4,I,h6,h7⟩:=h i hi
 have D:∀j,w'.cell? ⟨b,j,none⟩=w.cell? ⟨b,j,none⟩:=fun j=>jW (a:=⟨b,j,none⟩) (A.block b h2)
 exact⟨b,off,v0,G,v2,im,h1,ke h2 A.size,(D _).trans h3,(D _).trans h4,(D _).trans I,h6.below A,h7⟩
structure AL(w wr:World)(c d:Nat):Prop where
 book:∃sv es iv is,AB wr w.heap.size (w.heap.size+1) wr.heap.size sv es iv is/\es.length=c/\is.length=d
 below:Below w.heap.size w wr
theorem Ih{w wr w':World}{D base M:Nat}{I J:Value}{es:List Snt}{is:List qX}(A:Below w.heap.size w wr)(G:AB wr D base M I es J is)(h:KpA wr w' D I J)(O:w.heap.size<=D):Below w.heap.size w w':=by
 have hz:=A.size;have h1:=G.s.lt;exact⟨h.os.trans A.os,h.tape.trans A.tape,h.output.trans A.output,by have:=h.size;omega,fun k hk=>(h.block k ae ae (fun e=>by have:=(G.s.row.lt k e).1;omega) (fun e=>by have:=(G.i.row.lt k e).1;omega)).trans (A.block k hk)⟩
theorem KeptB.kpa{w w':World}{A:Nat}{D sv' G:Value}(h:KeptB 0 w w' A w.heap.size D sv'):KpA w w' A D G:=⟨h.os,h.tape,h.output,h.size,fun k h1 h2 h3 _=>h.block k h1 h2 h3⟩
theorem AL.look{w wr w':World}{c d:Nat}(h:AL w wr c d)(A:Below wr.heap.size wr w'):AL w w' c d:=by
 obtain⟨D,es,G,is,h1,h2,h3⟩:=h.book;exact⟨⟨D,es,G,is,h1.below A jU A.size,h2,h3⟩,h.below.trans (A.mono h.below.size)⟩
theorem AL.looks{w wr:World}{c d:Nat}(h:AL w wr c d)(hc:c<=2000000)(hd:d<=2000000):Calls prog 10 #[.pointer (some ⟨w.heap.size,0,none⟩)] wr fun e w'=>e=.returned (.bool true)/\AL w w' c d:=by
 obtain⟨A,es,D,is,h1,h2,h3⟩:=h.book;refine(Z25 wr _ _ _ A D es is h1 ae ae jU).mono ?_;rintro e w' ⟨rfl,G⟩;exact⟨rfl,h.look G⟩
theorem AL.assembled{w wr:World}{c d:Nat}(h:AL w wr c d)(hc:c<=2000000)(hd:d<=2000000)(s:ByteArray)(m:Int)(A:w.cell? ⟨0,0,none⟩=some (.int .i64 m)):Calls prog 9 #[.pointer (some ⟨w.heap.size,0,none⟩),.string s] wr fun e w'=>e=.returned (.bool true)/\AL w w' (c+1) (d+1):=by
 obtain⟨D,es,G,is,h1,h2,h3⟩:=h.book;have I:0<w.heap.size:=lD _ A;refine(Z68 wr _ _ _ D G es is h1 ae ae jU s m ((jW (a:=⟨0,0,none⟩) (h.below.block 0 I)).trans A)).mono ?_;rintro e w' ⟨rfl,sv',iv',M,O,J,hk⟩;exact⟨rfl,⟨_,_,_,_,J,cG,by simp[h3]⟩,Ih h.below h1 hk jU⟩
theorem AL.listed{w wr:World}{c d:Nat}(h:AL w wr c d)(hc:c<=2000000)(v0 A v2:Value)(im:Img)(G:HImgAt w v0 A v2 im)(hf:xf im)(m:Int)(D:w.cell? ⟨0,0,none⟩=some (.int .i64 m)):Calls prog 11 #[.pointer (some ⟨w.heap.size,0,none⟩),.agg #[v0,A,v2]] wr fun e w'=>e=.returned (.bool true)/\AL w w' (c+1) d:=by
 obtain⟨I,es,J,is,h1,h2,h3⟩:=h.book;have M:0<w.heap.size:=lD _ D;refine(Fs wr _ _ _ I J es is h1 ae jU v0 A v2 im (G.below h.below) hf m ((jW (a:=⟨0,0,none⟩) (h.below.block 0 M)).trans D)).mono ?_;rintro e w' ⟨rfl,sv',R,O,hk,_⟩;exact⟨rfl,⟨_,_,_,_,O,cG,h3⟩,Ih h.below h1 hk.kpa jU⟩
theorem Z3q(w:World):AL w (w.alloc (.cells #[.slice none 0 0,.slice none 0 0] 28)) 0 0:=by
 have hh:=kg w (.cells #[.slice none 0 0,.slice none 0 0] 28);have hz:(w.alloc (.cells #[.slice none 0 0,.slice none 0 0] 28)).heap.size=w.heap.size+1:=af;refine⟨⟨.slice none 0 0,[],.slice none 0 0,[],⟨⟨bE,kT _ _ _ hh,lW,by rw[hz];exact jU,kA,fun g hg=>cp,fun e he=>(by cases he),fun e he=>(by cases he)⟩,⟨bE,kT _ _ _ hh,kA,fun g hg=>cp,fun e he=>(by cases he),fun e he=>(by cases he)⟩,fun g hg=>cp,fun e he=>(by cases he),fun e he=>(by cases he)⟩,rfl,rfl⟩,jV.alloc jU _⟩
theorem Z2P(a:Option Addr)(n ca:Nat)(b:Option Addr)(k cb:Nat)(w:World)(ht:TxAt w a n)(hi:ImsAt w b k)(Z2:n+k<=1048576)(m:Int)(J:w.cell? ⟨0,0,none⟩=some (.int .i64 m)) :
  Calls prog 3 #[.slice a n ca,.slice b k cb] w fun e w'=>e=.returned (.bool true)/\Below w.heap.size w w':=by
 have UA:0<w.heap.size:=lD _ J;obtain⟨W,hW⟩:=Zg0 (w.alloc (.cells #[.slice none 0 0,.slice none 0 0] 28));have V:=Z3q w;rw[hW]at V;have HF:=oP (Z54 m W ((jW (a:=⟨0,0,none⟩) (V.below.block 0 UA)).trans J));have Wd4:=oP V;have HT:Hid (∀w',Below w.heap.size w w'->TxAt w' a n):=fun w' M=>ht.below M
 have Vy7:Hid (∀w',Below w.heap.size w w'->ImsAt w' b k):=fun w' M=>hi.below M
 have MY:=oP hi;have VI2:Hid (∀(wr:World) (c d:Nat) (s:ByteArray),AL w wr c d->c<=2000000->d<=2000000->Calls prog 9 #[.pointer (some ⟨w.heap.size,0,none⟩),.string s] wr fun e w'=>e=.returned (.bool true)/\AL w w' (c+1) (d+1)):=fun wr c d s h hc hd=>h.assembled hc hd s m J
 have Rb:Hid (∀(wr:World) (c d:Nat) (v0 I v2:Value) (im:Img),AL w wr c d->c<=2000000->HImgAt w v0 I v2 im->xf im->Calls prog 11 #[.pointer (some ⟨w.heap.size,0,none⟩),.agg #[v0,I,v2]] wr fun e w'=>e=.returned (.bool true)/\AL w w' (c+1) d):=fun wr c d v0 I v2 im h hc G hf=>h.listed hc v0 I v2 im G hf m J
 clear ht hi J V;go_enter func3,ntmps3;go_wp2_with fail;refine HF.o.mono ?_;rintro e w1 ⟨rfl,Kh⟩;have WB8:=oP (Wd4.o.look Kh);clear Kh hW;go_wp2_with fail;go_loopw [6,7] (fun o i wz=>o=.bool true/\∃q:Nat,q<=n/\i=.int .i64 q/\AL w wz q q) (fun _ i _=>n-(intOf i).toNat)
 case atStart=>exact⟨rfl,0,j4,rfl,WB8.o⟩
 case round=>
  obtain⟨rfl,q,hq,rfl,A⟩:=hrel;by_cases Z:q<n
  ·obtain⟨g,off,u,rfl,hg,L3⟩:=HT.o wr A.below q Z;have O:=oP (VI2.o wr q q u A ae ae);have N0:(q:Int)<(n:Int):=ae;clear A;go_wp2_with fail;refine O.o.mono ?_;rintro e w2 ⟨rfl,D⟩;have R:=oP (D.looks ae ae);clear D L3 O;go_wp2_with fail;refine R.o.mono ?_;rintro e w3 ⟨rfl,S⟩;have P8:=oP S;clear S R;go_wp2;go_roundw
   case rel=>exact⟨rfl,q+1,ae,ao,P8.o⟩
   case measure=>simp[intOf];omega
  have U:q=n:=ae;have N0:¬(q:Int)<(n:Int):=ae;rw[U]at A;have HA:=oP A;obtain⟨wo,Ut⟩:∃wo,wo=wr:=⟨_,rfl⟩;subst Ut;clear A U Z;go_wp2_with fail;clear N0;go_loopw [6,8] (fun o i wz=>o=.bool true/\∃p:Nat,p<=k/\i=.int .i64 p/\AL w wz (n+p) n) (fun _ i _=>k-(intOf i).toNat)
  case atStart=>exact⟨rfl,0,j4,rfl,HA.o⟩
  case round=>
   obtain⟨rfl,p,hp,rfl,A⟩:=hrel;by_cases Z:p<k
   ·obtain⟨g,off,v0,I,v2,im,M,hg,e0,e1,e2,G,hf⟩:=MY.o p Z;have Lc:=fun j=>jW (a:=⟨g,j,none⟩) (A.below.block g hg)
    have x0:=(Lc (off+p*3)).trans e0;have x1:=(Lc (off+p*3+1)).trans e1;have x2:=(Lc (off+p*3+2)).trans e2;have Mw:g<wr.heap.size:=ke hg A.below.size;have O:=oP (Rb.o wr (n+p) n v0 I v2 im A ae G hf);obtain⟨y0,z0,f0⟩:=G.b.slice;obtain⟨y1,z1,f1⟩:=G.l.slice;obtain⟨y2,z2,f2⟩:=G.s.slice;subst f0 f1 f2;subst M;have N0:(p:Int)<(k:Int):=ae;clear A Lc e0 e1 e2 G hf;go_wp2_with fail;refine O.o.mono ?_;rintro e w2 ⟨rfl,D⟩;have R:=oP (D.looks ae ae);clear D x0 x1 x2 O;go_wp2_with fail;refine R.o.mono ?_;rintro e w3 ⟨rfl,S⟩;have P8:=oP S;clear S R;go_wp2;go_roundw
    case rel=>exact⟨rfl,p+1,ae,ao,P8.o⟩
    case measure=>simp[intOf];omega
   have N0:¬(p:Int)<(k:Int):=ae;have HB:=oP A.below;clear A;go_wp2;go_ret;exact⟨rfl,HB.o⟩
