import Derived.Test.YthokdbcpkmcieaaGreatDoorH38
set_option maxRecDepth 200000
set_option maxHeartbeats 16000000
namespace Go.Proofs.YthokdbcpkmcieaaGreatDoor
open RowKit Proofs.Tryz
variable{P:Prop}
structure Cl(a:RAsm)(x:RLine):Prop where
 fit:a.pl+pg x<=1024
 val:x.what=wORG\/x.what=wDS->0<=(rVF a.L (a.pl:Int) (x.ops.getD 0 op0).e 0 0).1/\(rVF a.L (a.pl:Int) (x.ops.getD 0 op0).e 0 0).1<=1024
 len:x.what=wINS->x.ops.length=x.ent.2.2.2.length
theorem Mcy(h:P:=by
 clear r1 r2;go_wp2_with fail;go_meet;exact⟨by rw[HQ.o],rfl⟩):P:=h
theorem Z84(ab base:Nat)(a:RAsm)(x:RLine)(ea:Option Addr)(en ec:Nat)(oa:Option Addr)(oc:Nat)(w:World)(h:RAM w ab base a)(b0:Nat)(N4:ab<b0)(hO:OpsR w b0 (.slice oa x.ops.length oc) x.ops)(O:OpsIn w (.slice ea en ec) x.ent.2.2.2)(hB:LnB x)(hS:LnS x)(hK:Cl a x):Calls prog 50 #[.pointer (some ⟨ab,0,none⟩),liV x.label x.name x.what (x.ent.1:Int) (x.ent.2.1:Int) ⟨x.ent.2.2.1.toArray⟩ (.slice ea en ec) (.slice oa x.ops.length oc)] w (vA w ab base (pz a x)):=by
 have hp:a.pl<=1024:=by have:=hK.fit;omega
 obtain⟨R,hR⟩:=Zg0 (pz a x);rw[hR];have HR:=oP hR;obtain⟨N,hN⟩:=Zg0 x.ops.length;have HN:=oP hN;obtain⟨lb,NX⟩:=Zg0 x.label;obtain⟨nm,hnm⟩:=Zg0 x.name;obtain⟨wh,XF⟩:=Zg0 x.what;have Wb1:=oP NX;have Rz:=oP hnm;have Zg:=oP XF;rw[hN]at hO;rw[hN,NX,hnm,XF];obtain⟨G,Kv⟩:=Zg0 (w.alloc (liC lb nm wh (x.ent.1:Int) (x.ent.2.1:Int) ⟨x.ent.2.2.1.toArray⟩ (.slice ea en ec) (.slice oa N oc)));have Nn:Below w.heap.size w G:=cU;have MZ:Hid (G.heap[w.heap.size]?=some (liC lb nm wh (x.ent.1:Int) (x.ent.2.1:Int) ⟨x.ent.2.2.1.toArray⟩ (.slice ea en ec) (.slice oa N oc))):=dO;obtain⟨xb,NV⟩:=Zg0 w.heap.size;have R8:Hid (xb≠ab/\ab<b0):=⟨cL,N4⟩;rw[NV]at MZ;have NT:=oP Nn;have Mo:=oP (h.below Nn);have SD:=oP (AChg.below ab base Nn);have OW:Hid (OpsR G b0 (.slice oa N oc) x.ops):=hO.kept (fun k _ hk=>Nn.block k hk);have OJ:=oP hB;have HP:=oP hp;have Yx:(a.pl:Int)<=1024:=ae;have c1:=Mo.o.c1;obtain⟨⟨x0,x1,x2,x3,x4,x5,x6,x7⟩,_⟩:=oY MZ.o;unfold liC at Kv;unfold liV;clear hR h hO hB hN NX hnm XF hp Nn;go_enter func50,ntmps50;go_upto_region 3 with fail;clear Kv
 have Oy:((x.what=⟨#[]⟩/\wh=⟨#[]⟩)\/(x.what=wEQU/\wh=⟨#[101,113,117]⟩))\/(((x.what=wORG/\wh=⟨#[111,114,103]⟩)\/(x.what=wDS/\wh=⟨#[100,115]⟩))/\x.ops.length=1)\/(x.what=wDB/\wh=⟨#[100,98]⟩)\/(x.what=wDW/\wh=⟨#[100,119]⟩)\/(x.what=wINS/\wh=⟨#[105,110,115]⟩/\x.ent∈allEnts):=by
  rw[<-Zg.o];rcases hS with hw|⟨hw|hw|hw,hn⟩|hw|hw|⟨hw,he⟩
  ·exact .inl (.inl ⟨hw,hw⟩)
  ·exact .inr (.inl ⟨.inl ⟨hw,hw⟩,hn⟩)
  ·exact .inr (.inl ⟨.inr ⟨hw,hw⟩,hn⟩)
  ·exact .inl (.inr ⟨hw,hw⟩)
  ·exact .inr (.inr (.inl ⟨hw,hw⟩))
  ·exact .inr (.inr (.inr (.inl ⟨hw,hw⟩)))
  exact .inr (.inr (.inr (.inr ⟨hw,hw,he⟩)))
 have Lg:=hK.fit;rcases Oy with hq|⟨hq,hn1⟩|⟨hw,LA⟩|⟨hw,LA⟩|⟨hw,LA,he⟩
 ·have HF:Hid ((0,a)=R):=by
   show _=R;rw[<-HR.o];unfold pz;rcases hq with⟨hw,_⟩|⟨hw,_⟩
   all_goals
    rw[hw];rfl
  clear hS hK O Lg;rcases hq with⟨_,LA⟩|⟨_,LA⟩
  all_goals
   rw[LA]at x2;clear LA;exact Mb3
 ·have Wb5:=hK.val (by rcases hq with h|h;exact .inl h.1;exact .inr h.1);clear hS hK O Lg;rcases hq with⟨hw,LA⟩|⟨hw,LA⟩
  all_goals
   obtain⟨V,hV⟩:=Zg0 (rVF a.L (a.pl:Int) (x.ops.getD 0 op0).e 0 0);rw[hV]at Wb5;have Su:0<N:=by rw[<-HN.o,hn1];decide
   have hn0:(0:Int)<(N:Int):=ae;obtain⟨A,Ml⟩:=OW.o.opx.at_;obtain⟨o0,_,_,_,_,xa,xc,o3,o4,_⟩:=Ml 0 (by rw[HN.o];exact Su)
   have LN:x.ops.getD 0 op0∈x.ops:=by
    rw[jZ,jX (by rw[hn1];decide)];exact kC _
   have Mf:=OJ.o.2 _ LN
   have HV:Hid (∀n,Calls prog 91 #[.pointer (some ⟨ab,0,none⟩),.slice xa (x.ops.getD 0 op0).e.length xc,.int .i64 (a.pl:Int)] (G.drewN n) fun r w'=>r=.returned (.tuple #[.int .i64 V.1,.int .i64 (V.2:Int)])/\w'=G.drewN n):=fun n=>by
    have:=zX (Mo.o.below (show Below G.heap.size G (G.drewN n) from ⟨rfl,rfl,rfl,jU,fun _ _=>rfl⟩)) a.pl dS (xc:=xc) (o4.below (show Below G.heap.size G (G.drewN n) from ⟨rfl,rfl,rfl,jU,fun _ _=>rfl⟩)) Mf.1 Mf.2;rw[hV]at this;exact this
   obtain⟨p,QB⟩:∃p:Nat,V.1=(p:Int):=⟨V.1.toNat,ae⟩;obtain⟨Q,hQ⟩:=Zg0 ((if x.what=wDS then a.pl+p else p))
   have HF:Hid ((0,{a with pl:=Q})=R):=by
    show _=R;rw[<-HR.o,<- hQ];unfold pz
    first
     |rw[jT (show x.what=wORG from hw),hV,QB,jS (show ¬x.what=wDS by rw[hw];decide)]
      rfl
     |rw[jS (show ¬x.what=wORG by rw[hw];decide),jT (show x.what=wDS from hw),hV,QB,jT (show x.what=wDS from hw)]
      rfl
   have HQ:=oP hQ;clear hQ;rw[QB]at HV;rw[LA]at x2;rw[o0]at x7;rw[nH,kN]at o3;obtain⟨M,hM⟩:=Zg0 ((x.ops.getD 0 op0).e.length);rw[hM]at o3 HV;have LK:(p:Int)<=1024:=ae;clear Ml o4 LN Mf hV hM hn1 o0 Wb5 QB;go_upto_region 6 with fail;go_quiet (first| (go_at_call 91;exact nL (HV.o _)));go_upto_region 7 with fail;obtain⟨wq,L8⟩:=Zg0 (G.drewN nq);rw[L8];have R2:Hid (Below G.heap.size G wq):=gj;have Qe:=oP (Mo.o.below R2.o);have WQ0:Hid (wq.heap[xb]?=some (liC lb nm wh (x.ent.1:Int) (x.ent.2.1:Int) ⟨x.ent.2.2.1.toArray⟩ (.slice ea en ec) (.slice oa N oc))):=xw R2.o (oV MZ.o) MZ.o;have Tl:=oP (SD.o.trans (AChg.below ab base R2.o));have f1:=Qe.o.fz 1;have d1:=Qe.o.c1;have Vi5:=R8.o.1;have VP3:¬ab=xb:=fun e=>Vi5 e.symm
   clear L8 x0 x1 x2 x3 x4 x5 x6 x7 c1 o3;obtain⟨⟨x0,x1,x2,x3,x4,x5,x6,x7⟩,_⟩:=oY WQ0.o;rw[LA]at x2;clear x0 x1 x3 x4 x5 x6 x7
  ·have hQ:=HQ.o;rw[jS (show ¬x.what=wDS by rw[hw];decide)]at hQ;subst hQ;have Wn:=oP (Qe.o.setPl p);have Rg:=oP (Tl.o.trans (AChg.set wq ab base 1 (.int .i64 (p:Int))));exact MbK
  have hQ:=HQ.o;rw[jT (show x.what=wDS from hw)]at hQ;subst hQ;have M8:IntKind.i64.wrap ((a.pl:Int)+(p:Int))=(a.pl:Int)+(p:Int):=ar;have Wn:=oP ((Qe.o.setPl p).setPl (a.pl+p));have Rg:=oP ((Tl.o.trans (AChg.set wq ab base 1 (.int .i64 (p:Int)))).trans (AChg.set _ ab base 1 (.int .i64 ((a.pl+p:Nat):Int))));rw[show ((a.pl+p:Nat):Int)=(a.pl:Int)+(p:Int) from by omega]at Wn Rg;exact MbK
 ·clear hS hK O;obtain⟨D,hD⟩:=Zg0 (qS false a.pl x.ops 0 a);obtain⟨n,I⟩:=Zg0 (pg x);rw[I]at Lg
  have Vs:n=1*N:=by
   rw[<-I,<- HN.o];unfold pg;rw[hw];rw[jT ah,Nat.one_mul]
  have HF:Hid ((D.1,{D.2 with pl:=a.pl+n})=R):=by
   show _=R;rw[<-HR.o];unfold pz;rw[jS au,jS au,jT (show x.what=wDB\/x.what=wDW from .inl hw),show decide (x.what=wDW)=false from by rw[hw];rfl,hD,I]
  have HD:=oP hD;have Uq:N<=2001:=ft;have RY:(N:Int)<=2001:=ae;have M8:IntKind.i64.wrap ((a.pl:Int)+(n:Int))=(a.pl:Int)+(n:Int):=ar;have Ta:=oP I;have Uy:=oP Lg;have Wg8:=oP Vs;rw[LA]at x2;clear hD I Lg Vs x0 x1 x3 x4 x5 x6;go_wp2_with fail;go_loopw [6,9] (fun v y wr=>∃(E q:Nat) (a2:RAsm),v=.int .i64 (E:Int)/\y=.int .i64 (q:Int)/\q<=N/\qS false a.pl (x.ops.drop q) E a2=D/\RAM wr ab base a2/\a2.L=a.L/\AChg G wr ab base/\wr.heap[xb]?=some (liC lb nm wh (x.ent.1:Int) (x.ent.2.1:Int) ⟨x.ent.2.2.1.toArray⟩ (.slice ea en ec) (.slice oa N oc))/\a2.pl+1*(N-q)<=1024) (fun _ y _=>N-(intOf y).toNat)
  case atStart=>exact⟨0,0,a,rfl,rfl,j4,HD.o,Mo.o,rfl,AChg.refl _ _ _,MZ.o,gl⟩
  case round=>
   clear c1 x2 x7;obtain⟨E,q,a2,rfl,rfl,hq,PC,Mc,UN,Ps,Ph,PK⟩:=hrel;have O0:=oP Mc;have Rq:=oP Ps;have Vv:=oP Ph;have Vi6:=oP PC;have RM:=oP UN;obtain⟨⟨x0,x1,x2,x3,x4,x5,x6,x7⟩,_⟩:=oY Ph;rw[LA]at x2;have Od:=oP (Ps.opsR OW.o R8.o.2);by_cases Kf:q<N
   ·have Wg:(q:Int)<(N:Int):=by omega
    have L8:IntKind.i64.wrap ((q:Int)+1)=(q:Int)+1:=ar;obtain⟨A,Ml⟩:=Od.o.opx.at_;obtain⟨o0,_,_,_,_,xa,xc,o3,o4,_⟩:=Ml q aA
    have LN:x.ops.getD q op0∈x.ops:=by
     rw[jZ,jX aA];exact kC _
    have Mf:=OJ.o.2 _ LN;obtain⟨V,hV⟩:=Zg0 (rVF a2.L (a.pl:Int) (x.ops.getD q op0).e 0 0);have HV:=oP (zX Mc a.pl dS (xc:=xc) o4 Mf.1 Mf.2);rw[hV]at HV;have MH:=yz a2.L (a.pl:Int) (x.ops.getD q op0).e 0 0 ah;rw[hV]at MH;have Ti:Hid (Calls prog 93 #[.pointer (some ⟨ab,0,none⟩),.int .i64 V.1,.int .i64 (V.2:Int),.int .i64 (-128),.int .i64 255,.int .i64 1] wr (vA wr ab base (pM a2 V.1 V.2 (-128) 255 false))):=vj ab base a2 V.1 V.2 (-128) 255 false wr Mc MH ah (by show a2.pl+1<=1024;omega);obtain⟨P,hP⟩:=Zg0 (pM a2 V.1 V.2 (-128) 255 false);rw[hP]at Ti
    have KF:Hid (qS false a.pl (x.ops.drop (q+1)) (oU E P.1) P.2=D/\P.2.L=a.L/\P.2.pl+1*(N-(q+1))<=1024):=by
     refine⟨?_,?_,?_⟩
     ·have SC:=lY (l:=x.ops) (i:=q) aA;exact Mbm
     ·rw[<-hP,JM];exact UN
     have:=wV a2 V.1 V.2 (-128) 255 false;rw[hP]at this;have h2:P.2.pl<=a2.pl+1:=this;omega
    exact Mac
   exact Mah
 ·clear hS hK O;obtain⟨D,hD⟩:=Zg0 (qS true a.pl x.ops 0 a);obtain⟨n,I⟩:=Zg0 (pg x);rw[I]at Lg
  have Vs:n=2*N:=by
   rw[<-I,<- HN.o];unfold pg;rw[hw];rw[jS ah,jT ah]
  have HF:Hid ((D.1,{D.2 with pl:=a.pl+n})=R):=by
   show _=R;rw[<-HR.o];unfold pz;rw[jS au,jS au,jT (show x.what=wDB\/x.what=wDW from .inr hw),show decide (x.what=wDW)=true from by rw[hw];rfl,hD,I]
  have HD:=oP hD;have Uq:N<=2001:=ft;have RY:(N:Int)<=2001:=ae;have M8:IntKind.i64.wrap ((a.pl:Int)+(n:Int))=(a.pl:Int)+(n:Int):=ar;have Ta:=oP I;have Uy:=oP Lg;have Wg8:=oP Vs;rw[LA]at x2;clear hD I Lg Vs x0 x1 x3 x4 x5 x6;go_wp2_with fail;go_loopw [6,9] (fun v y wr=>∃(E q:Nat) (a2:RAsm),v=.int .i64 (E:Int)/\y=.int .i64 (q:Int)/\q<=N/\qS true a.pl (x.ops.drop q) E a2=D/\RAM wr ab base a2/\a2.L=a.L/\AChg G wr ab base/\wr.heap[xb]?=some (liC lb nm wh (x.ent.1:Int) (x.ent.2.1:Int) ⟨x.ent.2.2.1.toArray⟩ (.slice ea en ec) (.slice oa N oc))/\a2.pl+2*(N-q)<=1024) (fun _ y _=>N-(intOf y).toNat)
  case atStart=>exact⟨0,0,a,rfl,rfl,j4,HD.o,Mo.o,rfl,AChg.refl _ _ _,MZ.o,gl⟩
  case round=>
   clear c1 x2 x7;obtain⟨E,q,a2,rfl,rfl,hq,PC,Mc,UN,Ps,Ph,PK⟩:=hrel;have O0:=oP Mc;have Rq:=oP Ps;have Vv:=oP Ph;have Vi6:=oP PC;have RM:=oP UN;obtain⟨⟨x0,x1,x2,x3,x4,x5,x6,x7⟩,_⟩:=oY Ph;rw[LA]at x2;have Od:=oP (Ps.opsR OW.o R8.o.2);by_cases Kf:q<N
   ·have Wg:(q:Int)<(N:Int):=by omega
    have L8:IntKind.i64.wrap ((q:Int)+1)=(q:Int)+1:=ar;obtain⟨A,Ml⟩:=Od.o.opx.at_;obtain⟨o0,_,_,_,_,xa,xc,o3,o4,_⟩:=Ml q aA
    have LN:x.ops.getD q op0∈x.ops:=by
     rw[jZ,jX aA];exact kC _
    have Mf:=OJ.o.2 _ LN;obtain⟨V,hV⟩:=Zg0 (rVF a2.L (a.pl:Int) (x.ops.getD q op0).e 0 0);have HV:=oP (zX Mc a.pl dS (xc:=xc) o4 Mf.1 Mf.2);rw[hV]at HV;have MH:=yz a2.L (a.pl:Int) (x.ops.getD q op0).e 0 0 ah;rw[hV]at MH;have Ti:Hid (Calls prog 93 #[.pointer (some ⟨ab,0,none⟩),.int .i64 V.1,.int .i64 (V.2:Int),.int .i64 (-32768),.int .i64 65535,.int .i64 2] wr (vA wr ab base (pM a2 V.1 V.2 (-32768) 65535 true))):=vj ab base a2 V.1 V.2 (-32768) 65535 true wr Mc MH ah (by show a2.pl+2<=1024;omega);obtain⟨P,hP⟩:=Zg0 (pM a2 V.1 V.2 (-32768) 65535 true);rw[hP]at Ti
    have KF:Hid (qS true a.pl (x.ops.drop (q+1)) (oU E P.1) P.2=D/\P.2.L=a.L/\P.2.pl+2*(N-(q+1))<=1024):=by
     refine⟨?_,?_,?_⟩
     ·have SC:=lY (l:=x.ops) (i:=q) aA;exact Mbm
     ·rw[<-hP,JM];exact UN
     have:=wV a2 V.1 V.2 (-32768) 65535 true;rw[hP]at this;have h2:P.2.pl<=a2.pl+2:=this;omega
    exact Mac
   exact Mah
 have O:=And.intro he O;have Kl:=hK.len hw;clear hS hK he;obtain⟨n,I⟩:=Zg0 (pg x);rw[I]at Lg
 have KB:rk (x.ent.2.2.2.map kd)=n:=by
  rw[<-I];unfold pg;rw[jS au,jS au,jT hw]
 have Q3:=Z0K O.1;rw[KB]at Q3;have Ng:=Z1k O.1;rw[KB]at Ng;obtain⟨D,hD⟩:∃D,qN a.pl (a.pl+n) (x.ent.2.2.2.map kd) x.ops 0 {a with bytes:=a.bytes.set a.pl (UInt8.ofNat x.ent.1),pl:=a.pl+1} = D:=⟨_,rfl⟩
 have HF:Hid ((D.1,{D.2 with bytes:=if x.ent.1=133/\D.1=0 then u9 D.2.bytes (a.pl+1) else D.2.bytes,pl:=a.pl+n})=R):=by
  show _=R;rw[<-HR.o];unfold pz;rw[jS (show ¬x.what=wORG by rw[hw];decide),jS (show ¬x.what=wDS by rw[hw];decide),jS (show ¬(x.what=wDB\/x.what=wDW) by rw[hw];decide),jT (show x.what=wINS from hw),I,hD]
 have RX:=oP (JD (w:=G) O.1 (O.2.later NT.o));rw[KB]at RX;have Wz4:=oP (O.2.later NT.o);have VC7:=oP O.1;have HD:=oP hD;have VG:=oP Kl;have Uy:=oP Lg;have VC8:=oP Ng;have OU:=oP Q3;have hn1:1<=n:=ae;have PT:a.pl<1024:=ae;have Vh8:(a.pl:Int)<1024:=ae;have RY:(n:Int)<=1024:=ae;have VP4:IntKind.i64.wrap ((a.pl:Int)+(n:Int))=(a.pl:Int)+(n:Int):=ar;have WF7:IntKind.i64.wrap ((a.pl:Int)+1)=(a.pl:Int)+1:=ar;have Uq:N<=2001:=ft;have Vc3:(N:Int)<=2001:=ae;rw[LA]at x2;clear hD I KB Q3 Ng O Kl Lg;go_wp2_with fail;refine RX.o.mono ?_;rintro e w5 ⟨rfl,KU⟩;have XE:=oP (Mo.o.below KU);have Q1:=oP (AChg.below ab base KU:AChg G w5 ab base);have Wo8:Hid (w5.heap[xb]?=some (liC lb nm wh (x.ent.1:Int) (x.ent.2.1:Int) ⟨x.ent.2.2.1.toArray⟩ (.slice ea en ec) (.slice oa N oc))):=xw KU (oV MZ.o) MZ.o;have VP5:=oP (Wz4.o.later KU);clear KU RX x0 x1 x2 x3 x4 x5 x6 x7 c1;obtain⟨⟨x0,x1,x2,x3,x4,x5,x6,x7⟩,_⟩:=oY Wo8.o;have cb:=XE.o.cb a.pl PT;have fb:=XE.o.fz (2+a.pl);have L3:((UInt8.ofNat x.ent.1).toNat:Int)=(x.ent.1:Int)%256:=by rw[nA];omega
 have Q2:=(XE.o.setByte a.pl PT (UInt8.ofNat x.ent.1)).drew;rw[L3]at Q2;have Wo4:=Q1.o.trans (AChg.set w5 ab base (2+a.pl) (.int .u8 ((x.ent.1:Int)%256))).drew;obtain⟨w6,L6⟩:=Zg0 ((w5.setCell ⟨ab,2+a.pl,none⟩ (.int .u8 ((x.ent.1:Int)%256))).drew);rw[L6]at Q2 Wo4;clear L3;go_upto_region 23 with fail;go_region
 all_goals
  have d1:=Q2.c1;have f1:=Q2.fz 1;have WQ5:=Q2.setPl (a.pl+1);rw[show ((a.pl+1:Nat):Int)=(a.pl:Int)+1 from by omega]at WQ5;have WQ6:=Wo4.trans (AChg.set w6 ab base 1 (.int .i64 ((a.pl:Int)+1)));have VC9:Hid ((w6.setCell ⟨ab,1,none⟩ (.int .i64 ((a.pl:Int)+1))).heap[xb]?=some (liC lb nm wh (x.ent.1:Int) (x.ent.2.1:Int) ⟨x.ent.2.2.1.toArray⟩ (.slice ea en ec) (.slice oa N oc))):=(WQ6.block xb (oV MZ.o) R8.o.1 (.inr fun cs fr q=>fu)).trans MZ.o;have Wy9:=oP WQ5;have WP5:=oP WQ6;clear L6 Q2 Wo4 WQ5 WQ6 cb fb x0 x1 x2 x3 x4 x5 x6 x7;go_wp2_with fail;go_loopw [6,13] (fun v y wr=>∃(E q:Nat) (a2:RAsm),v=.int .i64 (E:Int)/\y=.int .i64 (q:Int)/\q<=N/\qN a.pl (a.pl+n) ((x.ent.2.2.2.map kd).drop q) (x.ops.drop q) E a2=D/\RAM wr ab base a2/\AChg G wr ab base/\wr.heap[xb]?=some (liC lb nm wh (x.ent.1:Int) (x.ent.2.1:Int) ⟨x.ent.2.2.1.toArray⟩ (.slice ea en ec) (.slice oa N oc))/\a2.pl+xZ ((x.ent.2.2.2.map kd).drop q)<=1024) (fun _ y _=>N-(intOf y).toNat)
  case atStart=>exact⟨0,0,_,rfl,rfl,j4,HD.o,Wy9.o,WP5.o,VC9.o,by have h1:=Uy.o;have h2:=OU.o;show a.pl+1+xZ (x.ent.2.2.2.map kd)<=1024;omega⟩
  case round=>
   clear d1 f1;obtain⟨E,q,a2,rfl,rfl,hq,PC,Mc,Ps,Ph,PK⟩:=hrel;have O0:=oP Mc;have Rq:=oP Ps;have Vv:=oP Ph;have Vi6:=oP PC;obtain⟨⟨x0,x1,x2,x3,x4,x5,x6,x7⟩,_⟩:=oY Ph;have Od:=oP (Ps.opsR OW.o R8.o.2);have NO:=oP (Ps.opsIn Mo.o Wz4.o);by_cases Kf:q<N
   ·have Wg:(q:Int)<(N:Int):=by omega
    have L8:IntKind.i64.wrap ((q:Int)+1)=(q:Int)+1:=ar;have S:q<x.ops.length:=aA;have XI:q<x.ent.2.2.2.length:=by rw[<-VG.o];exact S
    have WQ7:q<(x.ent.2.2.2.map kd).length:=by simpa using XI
    obtain⟨tx,hk17⟩:=Z4l VC7.o q XI;obtain⟨o,ho⟩:=Zg0 (x.ops.getD q op0)
    have LN:o∈x.ops:=by
     rw[<-ho,jZ,jX S];exact kC _
    have Vr:=oP (OJ.o.2 _ LN);have KE:=Z2O (st:=a.pl) (bh:=a.pl+n) (E:=E) (a:=a2) WQ7 S;rw[PC,ho]at KE;obtain⟨k,hk⟩:=Zg0 ((x.ent.2.2.2.map kd).getD q 0);have WQ8:=Z3l WQ7;rw[hk]at tx hk17 KE WQ8;have KF:=oP KE;have Vi7:=oP WQ8;have WC8:=oP tx;have Wo9:=oP hk17;have XH:=oP Kf;have U:=oP (And.intro S XI);have Vi8:=oP ho;have Pv:=oP PK;obtain⟨A,Ml⟩:=Od.o.opx.at_;obtain⟨o0,o1,o2,VD0,VD1,xa,xc,o5,o6,_⟩:=Ml q S;rw[ho]at o1;have UI:=x7;rw[o0]at UI;clear Mc Ps Ph PC KE WQ8 Ml o0 o2 VD0 VD1 o5 o6 tx hk17 hk ho LN S XI WQ7 Kf hq PK x0 x1 x2 x3 x4 x5 x6 x7;go_upto_region 28 with fail;go_cut [137] from 115 to 173 (fun v wx=>v=.bool (decide (o.fixed=p9 8\/o.fixed=p9 7))/\wx=wr)
    case first=>
     by_cases r1:o.fixed=⟨#[82]⟩
     ·have n1:(o.fixed.toList==[82])=true:=tG r1;have HQ:Hid (decide (o.fixed=p9 8\/o.fixed=p9 7)=true):=kj (.inl r1);clear r1;go_wp2_with fail;go_meet;exact⟨by rw[HQ.o],rfl⟩
     have n1:(o.fixed.toList==[82])=false:=po r1;by_cases r2:o.fixed=⟨#[64,82]⟩
     ·have n2:(o.fixed.toList==[64,82])=true:=tG r2;have HQ:Hid (decide (o.fixed=p9 8\/o.fixed=p9 7)=true):=kj (.inr r2);exact Mcy
     have n2:(o.fixed.toList==[64,82])=false:=po r2;have HQ:Hid (decide (o.fixed=p9 8\/o.fixed=p9 7)=false):=j9 (fun e=>e.elim r1 r2);exact Mcy
    obtain⟨rfl,Ye⟩:=hcut;rw[Ye];clear Ye o1 UI;go_upto_if 137 with fail;go_cut [] from 115 to 173 (fun wx=>RAM wx ab base (tB a.pl o a2)/\AChg G wx ab base/\wx.heap[xb]?=some (liC lb nm wh (x.ent.1:Int) (x.ent.2.1:Int) ⟨x.ent.2.2.1.toArray⟩ (.slice ea en ec) (.slice oa N oc)))
    case first=>
     obtain⟨⟨x0,x1,x2,x3,x4,x5,x6,x7⟩,_⟩:=oY Vv.o;obtain⟨A,Ml⟩:=Od.o.opx.at_;obtain⟨o0,o1,o2,_,_,_,_,_,_,_⟩:=Ml q U.o.1;rw[Vi8.o]at o2;rw[o0]at x7;clear Ml o0 o1 x0 x1 x2 x3 x4 x5 x6;cases Th:decide (o.fixed=p9 8\/o.fixed=p9 7) with
     |false=>
      have HQ:Hid (tB a.pl o a2=a2):=by
       show tB a.pl o a2=a2;unfold tB;rw[jS (T0d Th)]
      clear Th;go_wp2_with fail;go_meet;exact⟨by rw[HQ.o];exact O0.o,Rq.o,Vv.o⟩
     |true=>
      obtain⟨B,hB⟩:=Zg0 (a2.bytes.getD a.pl 0)
      have HQ:Hid (tB a.pl o a2 = {a2 with bytes:=a2.bytes.set a.pl (B+UInt8.ofNat o.number)}):=by
       show tB a.pl o a2=_;unfold tB;rw[jT (mQ Th),hB]
      have cb:=O0.o.cb a.pl PT;rw[hB]at cb;have fb:=O0.o.fz (2+a.pl)
      have hz:((B+UInt8.ofNat o.number).toNat:Int)=((B.toNat:Int)+(o.number:Int))%256:=by
       rw[T0f,nA];omega
      have Wp:=(O0.o.setByte a.pl PT (B+UInt8.ofNat o.number)).drew;rw[hz]at Wp;have Vi9:=oP Wp;have YG:=oP (Rq.o.trans (AChg.set wr ab base (2+a.pl) (.int .u8 (((B.toNat:Int)+(o.number:Int))%256))).drew);clear Th hB Wp hz;go_upto_region 29 with fail;go_region
      all_goals
       go_wp2_with fail;go_meet;exact⟨by rw[HQ.o];exact Vi9.o,YG.o,(YG.o.block xb (oV MZ.o) R8.o.1 (.inr fun cs fr q=>fu)).trans MZ.o⟩
    obtain⟨Wp,Z,XJ⟩:=hcut;generalize wc=wz at *;obtain⟨a3,ZM⟩:=Zg0 (tB a.pl o a2);have Wq:=Z18 a.pl o a2;rw[ZM]at Wp KF Wq;have Vi9:=oP Wp;have YG:=oP Z;have Wb9:=oP XJ;obtain⟨⟨x0,x1,x2,x3,x4,x5,x6,x7⟩,_⟩:=oY XJ;obtain⟨A,Ml⟩:=(Z.opsR OW.o R8.o.2).opx.at_;obtain⟨o0,o1,o2,o3,_,xa,xc,o5,o6,_⟩:=Ml q U.o.1;rw[Vi8.o]at o1 o2 o3 o5 o6;rw[o0]at x7;obtain⟨VD2,Vj0,Us⟩:=(Z.opsIn Mo.o Wz4.o).slice;obtain⟨bo,Wx4,t0⟩:=Us q U.o.2
    have Py:en=x.ent.2.2.2.length/\ea=VD2:=by
     have:=Vj0;simp at this;exact⟨this.2.1,this.1⟩
    have VP6:(q:Int)<(en:Int):=by rw[Py.1];have:=U.o.2;omega
    rw[Py.2,Wx4]at x6;rw[WC8.o]at t0
    have QG:a3.pl+pw k<=1024:=by
     have h1:=Pv.o;have h2:=Vi7.o;rw[Wq.1];omega
    have Wz5:=oP (Z5f ab base a3 k Wo9.o o xa xc a.pl (a.pl+n) wz.drew Wp.drew (o6.below ⟨rfl,rfl,rfl,jU,fun _ _=>rfl⟩) Vr.o.1 Vr.o.2 PT (by have:=Uy.o;omega) QG);obtain⟨P,hP⟩:=Zg0 (qK a3 k (r9 a3 o a.pl) a.pl (a.pl+n));have Sl:=Z9s a3 k Wo9.o (r9 a3 o a.pl) a.pl (a.pl+n);rw[hP]at Wz5 KF Sl;rw[show ((a.pl+n:Nat):Int)=(a.pl:Int)+(n:Int) from by omega]at Wz5;have UJ:Hid (∀w',Calls prog 89 #[.int .i64 (E:Int),.int .i64 (P.1:Int)] w' fun e MB=>e=.returned (.int .i64 (oU E P.1:Int))/\MB=w'):=fun w'=>ue _ _ w'
    have VD3:Hid (P.2.pl+xZ ((x.ent.2.2.2.map kd).drop (q+1))<=1024):=by
     show _<=1024;have h1:=Pv.o;have h2:=Vi7.o;rw[Wq.1]at Sl;omega
    obtain⟨M,hM⟩:=Zg0 o.e.length;rw[hM]at o5 Wz5
    have Zj:Hid (∀w',AChg wz w' ab base->w'.heap[A]?=wz.heap[A]?/\w'.heap[bo]?=wz.heap[bo]?/\w'.heap[xb]?=wz.heap[xb]?):=fun w' hC=>by
     obtain⟨g1,e1,k1⟩:=(Z.opsR OW.o R8.o.2).blk (by have:=U.o.1;omega) R8.o.2 hC;obtain⟨g2,e2,k2⟩:=(Z.opsIn Mo.o Wz4.o).blk (by have:=U.o.2;omega) Wp hC;have i1:A=g1:=by have:=o0.symm.trans e1;simpa using this
     have i2:bo=g2:=by have:=(Py.2.trans Wx4).symm.trans e2;simpa using this
     exact⟨by rw[i1];exact k1,by rw[i2];exact k2,hC.block xb (oV XJ) R8.o.1 (.inr fun cs fr q=>by rw[XJ]at q;unfold liC at q;simp at q)⟩
    have WQ9:=t0.1;clear Wp Z XJ Ml o6 Us Vj0 Wx4 Py QG hP Sl ZM Wq hM o0 x0 x1 x2 x3 x4 x5 t0;go_upto_region 30 with fail;go_region_held3 (fun w'=>w'.cell? ⟨xb,6,none⟩=some (.slice (some ⟨bo,0,none⟩) en ec)/\w'.cell? ⟨xb,7,none⟩=some (.slice (some ⟨A,0,none⟩) N oc)/\w'.cell? ⟨bo,q,none⟩=some (.string (qd k))/\w'.cell? ⟨A,q*4,none⟩=some (.string o.fixed)/\w'.cell? ⟨A,q*4+1,none⟩=some (.int .i64 (o.number:Int))/\w'.cell? ⟨A,q*4+2,none⟩=some (.int .u8 (o.sign.toNat:Int))/\w'.cell? ⟨A,q*4+3,none⟩=some (.slice xa M xc)) (first| exact⟨x6,x7,WQ9,o1,o2,o3,o5⟩|exact G8.o) (first| (go_at_call 95;refine Wz5.o.mono ?_;rintro e J ⟨rfl,Wc0,Wg6⟩;have VD4:=oP Wg6;have XK:Hid (AChg wz J ab base):=⟨Wc0.os,Wc0.tape,Wc0.output,Wc0.size,Wc0.block⟩;have G8:Hid (J.cell? ⟨xb,6,none⟩=some (.slice (some ⟨bo,0,none⟩) en ec)/\J.cell? ⟨xb,7,none⟩=some (.slice (some ⟨A,0,none⟩) N oc)/\J.cell? ⟨bo,q,none⟩=some (.string (qd k))/\J.cell? ⟨A,q*4,none⟩=some (.string o.fixed)/\J.cell? ⟨A,q*4+1,none⟩=some (.int .i64 (o.number:Int))/\J.cell? ⟨A,q*4+2,none⟩=some (.int .u8 (o.sign.toNat:Int))/\J.cell? ⟨A,q*4+3,none⟩=some (.slice xa M xc)):=⟨(jW (a:=⟨xb,6,none⟩) (Zj.o J XK.o).2.2).trans x6,(jW (a:=⟨xb,7,none⟩) (Zj.o J XK.o).2.2).trans x7,(jW (a:=⟨bo,q,none⟩) (Zj.o J XK.o).2.1).trans WQ9,(jW (a:=⟨A,q*4,none⟩) (Zj.o J XK.o).1).trans o1,(jW (a:=⟨A,q*4+1,none⟩) (Zj.o J XK.o).1).trans o2,(jW (a:=⟨A,q*4+2,none⟩) (Zj.o J XK.o).1).trans o3,(jW (a:=⟨A,q*4+3,none⟩) (Zj.o J XK.o).1).trans o5⟩;clear Wg6 Wc0)|(go_at_call 89;refine(UJ.o _).mono ?_;rintro e w9 ⟨rfl,Tv⟩;rw[Tv];clear Tv))
    all_goals
     have Vj1:=oP (YG.o.trans XK.o);clear o1 o2 o3 o5 x6 x7 WQ9;go_wp2_with fail;go_roundw
     case rel=>exact⟨_,q+1,P.2,rfl,ao,XH.o,KF.o.symm,VD4.o,Vj1.o,(Vj1.o.block xb (oV MZ.o) R8.o.1 (.inr fun cs fr q=>fu)).trans MZ.o,VD3.o⟩
     case measure=>have:=XH.o;simp[intOf];omega
   have XG:q=N:=ae;have Wg:¬(q:Int)<(N:Int):=ae;have WR0:(E,a2)=D:=by rw[<-PC,Z7D bI]
   have Wl:Hid ((E,{a2 with bytes:=if x.ent.1=133/\E=0 then u9 a2.bytes (a.pl+1) else a2.bytes,pl:=a.pl+n})=R):=by
    show _=R;rw[<-HF.o,<- WR0]
   have f1:=O0.o.fz 1;have d1:=O0.o.c1;by_cases Oh:x.ent.1=133/\E=0
   ·rw[jT Oh]at Wl;have h3:=VC8.o.2 Oh.1;have VD5:=Uy.o;have b1:((x.ent.1:Int)==133)=true:=by rw[Oh.1];rfl
    have b2:((E:Int)==0)=true:=by rw[Oh.2];rfl
    have Wv5:(a.pl:Int)+1<1024:=ae;have Yp:(a.pl:Int)+2<1024:=ae;have WP4:IntKind.i64.wrap ((a.pl:Int)+2)=(a.pl:Int)+2:=ar;have e1:=O0.o.cb (a.pl+1) ae;have e2:=O0.o.cb (a.pl+2) ae;have g1:=O0.o.fz (2+(a.pl+1));have g2:=O0.o.fz (2+(a.pl+2));obtain⟨B1,Kn⟩:∃B,a2.bytes.getD (a.pl+1) 0=B:=⟨_,rfl⟩;obtain⟨B2,KQ⟩:∃B,a2.bytes.getD (a.pl+2) 0=B:=⟨_,rfl⟩
    have Wp0:u9 a2.bytes (a.pl+1)=(a2.bytes.set (a.pl+1) B2).set (a.pl+2) B1:=by
     unfold u9;rw[Kn,show a.pl+1+1=a.pl+2 from rfl,KQ]
    rw[Wp0]at Wl;rw[Kn]at e1;rw[KQ]at e2;have Q5:=oP (((O0.o.setByte (a.pl+1) ae B2).drew.setByte (a.pl+2) ae B1).setPl (a.pl+n));have Pf:=oP ((((SD.o.trans Rq.o).trans (AChg.set wr ab base (2+(a.pl+1)) (.int .u8 (B2.toNat:Int))).drew).trans (AChg.set _ ab base (2+(a.pl+2)) (.int .u8 (B1.toNat:Int)))).trans (AChg.set _ ab base 1 (.int .i64 ((a.pl+n:Nat):Int))));rw[show ((a.pl+n:Nat):Int)=(a.pl:Int)+(n:Int) from by omega]at Q5 Pf;have QK:((a.pl:Int)+1).toNat=a.pl+1:=ae;have RB:((a.pl:Int)+2).toNat=a.pl+2:=ae;clear Mc Ps Ph PC Kf hq PK XG WR0 Oh h3 VD5 Kn KQ Wp0;go_upto_region 33 with fail;go_region
    all_goals
     exact Mb5
   rw[jS Oh]at Wl;have Q5:=oP (O0.o.setPl (a.pl+n));have Pf:=oP ((SD.o.trans Rq.o).trans (AChg.set wr ab base 1 (.int .i64 ((a.pl+n:Nat):Int))));rw[show ((a.pl+n:Nat):Int)=(a.pl:Int)+(n:Int) from by omega]at Q5 Pf
   have N3:((x.ent.1:Int)==133)=false\/(((x.ent.1:Int)==133)=true/\((E:Int)==0)=false):=by
    by_cases c:x.ent.1=133
    ·exact .inr ⟨by rw[c];rfl,by have:¬E=0:=fun e=>Oh ⟨c,e⟩;simp;omega⟩
    exact .inl ai
   clear Mc Ps Ph PC Kf hq PK XG WR0 Oh;rcases N3 with b1|⟨b1,b2⟩
   all_goals
    exact Mb5
