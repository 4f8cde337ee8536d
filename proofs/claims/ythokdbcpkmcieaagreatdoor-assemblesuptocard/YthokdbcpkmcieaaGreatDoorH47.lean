import Derived.Test.YthokdbcpkmcieaaGreatDoorH28
set_option maxRecDepth 200000
set_option maxHeartbeats 16000000
namespace Go.Proofs.YthokdbcpkmcieaaGreatDoor
open RowKit Proofs.Tryz
variable{P:Prop}
theorem McR(h:P:=by
 unfold qA;clear OT hm;go_upto_region 46 with fail;have La:=oP (OL.o.ent ent0 (.slice none 0 0));have Of:=oP ((Ra.o.kept (fun k hk h2=>(wg Nr xb ent0 (.slice none 0 0)).block k h2 fH)).base (show w.heap.size<=pb+1 by have:=Kw.o;omega));obtain⟨Qr,LL⟩:=Zg0 (tZ Nr xb ent0 (.slice none 0 0));have Lb:=LL;unfold tZ at Lb;rw[Lb];rw[LL]at La Of;clear LL Lb x0 x1 x2 x3 x4 x5 x6 x7 f3 f4 f5 f6 O2 SH LR;obtain⟨⟨r0,r1,r2,r3,r4,r5,r6,r7⟩,fr⟩:=oY La.o.rc;have z0:=fr 0;have z1:=fr 1;have z2:=fr 2;have z3:=fr 3;have z4:=fr 4;have z5:=fr 5;have z6:=fr 6;have z7:=fr 7;obtain⟨⟨x0,x1,x2,x3,x4,x5,x6,x7⟩,fx⟩:=oY La.o.xc;have Rr:¬xb=rb:=an;have Oa:¬rb=xb:=an;have OB:¬pb=rb:=an;have K7:¬rb=pb:=an;have Kg:¬g=rb:=an;have Nv:¬rb=g:=an;clear fr;clear fx;have c2:=La.o.ps.c2;go_region
 all_goals
  go_wp2_with fail;exact uY La.o Pv.o _ _ _ _ _ _ _ _ rfl rfl rfl):P:=h
theorem Maa(h:P:=by
 clear Pk Pm Mu;go_upto_region 40 with fail;go_quiet (fail);go_upto_region 44 with fail;obtain⟨wq,L8⟩:=Zg0 (wr.drewN nq);rw[L8];have SI:PX w wq rb xb pb g Kd T I true (liC K9 ⟨#[]⟩ ⟨#[105,110,115]⟩ 0 0 ⟨#[]⟩ (.slice none 0 0) (.slice oa os.length oc)):=fI;have SJ:OpsR wq (pb+1) (.slice oa os.length oc) os:=fJ;obtain⟨_,ob,XR⟩:=SJ.opR Ws0.o;have TN:=oP (DX ti.s ob oa oc os wq XR);have Q6:=oP SI;have Td:=oP SJ;obtain⟨⟨x0,x1,x2,x3,x4,x5,x6,x7⟩,fx⟩:=oY SI.xc;clear x0 x1 x2 x3 x4 x5 x6 fx SI SJ XR L8 Qm HO c0 c1 c2 k0;go_wp2_with fail;refine TN.o.mono ?_;rintro e Nr ⟨Ni,hm⟩;have Ws1:=oP Ni;have Nj:=Q6.o.below Ni;have Ra:=oP (Td.o.kept (fun k _ hk=>Ni.block k hk));have OL:=oP Nj;obtain⟨⟨x0,x1,x2,x3,x4,x5,x6,x7⟩,fx⟩:=oY Nj.xc;have f3:=fx 3;have f4:=fx 4;have f5:=fx 5;have f6:=fx 6;have O2:xb<Nr.heap.size:=oV Nj.xc;have SH:¬Nr.heap.size=xb:=ae;have LR:¬xb=Nr.heap.size:=ae;clear fx Nj Ni TN Q6 Td;cases OT:qD ti.s.data.toList os with
 |none=>
  rw[OT]at hm;have OZ:_=Ending.returned (.tuple #[qA ent0 (.slice none 0 0),.bool false]):=hm;subst OZ;have Pv:Hid (none=R):=HF.o;exact McR
 |some x=>
  rw[OT]at hm;obtain⟨ev,OZ,UY⟩:=hm;subst OZ;obtain⟨ea,rfl,_⟩:=UY.slice;have Pv:Hid (none=R):=HF.o;have UZ:=oP UY;unfold qA;clear OT UY;go_upto_region 46 with fail;have La:=oP (OL.o.ent x (.slice ea x.2.2.2.length x.2.2.2.length));have Of:=oP ((Ra.o.kept (fun k hk h2=>(wg Nr xb x (.slice ea x.2.2.2.length x.2.2.2.length)).block k h2 fH)).base (show w.heap.size<=pb+1 by have:=Kw.o;omega));have Tn:=oP (UZ.o.otype OL.o.xc ah (wg Nr xb x (.slice ea x.2.2.2.length x.2.2.2.length)));obtain⟨Qr,LL⟩:=Zg0 (tZ Nr xb x (.slice ea x.2.2.2.length x.2.2.2.length));have Lb:=LL;unfold tZ at Lb;rw[Lb];rw[LL]at La Of Tn;clear LL Lb x0 x1 x2 x3 x4 x5 x6 x7 f3 f4 f5 f6 O2 SH LR;obtain⟨⟨r0,r1,r2,r3,r4,r5,r6,r7⟩,fr⟩:=oY La.o.rc;have z0:=fr 0;have z1:=fr 1;have z2:=fr 2;have z3:=fr 3;have z4:=fr 4;have z5:=fr 5;have z6:=fr 6;have z7:=fr 7;obtain⟨⟨x0,x1,x2,x3,x4,x5,x6,x7⟩,fx⟩:=oY La.o.xc;have Rr:¬xb=rb:=an;have Oa:¬rb=xb:=an;have OB:¬pb=rb:=an;have K7:¬rb=pb:=an;have Kg:¬g=rb:=an;have Nv:¬rb=g:=an;clear fr;clear fx;have c2:=La.o.ps.c2;go_region
  all_goals
   go_wp2_with fail;exact uY La.o Pv.o _ _ _ _ _ _ _ _ rfl rfl rfl):P:=h
theorem Mbt(h:P:=by
 go_upto_region 38 with fail;go_region
 all_goals
  go_wp2_with fail;exact uY Qm.o HF.o _ _ _ _ _ _ _ _ rfl rfl rfl):P:=h
theorem Mcp(h:P:=by
 clear hq N3 Q9 QK;go_wp2_with fail;go_meet;exact⟨by rw[HB.o],rfl⟩):P:=h
theorem Z0t(s:ByteArray)(hs:s.size<=2000)(w:World):Calls prog 48 #[.string s] w (zG w (qE (rlT s))):=by
 obtain⟨WT7,Zv⟩:=Gw s hs;have WA7:=Z0b s;have Vi:=oP (Z4Z s hs ((w.alloc liZ).alloc liZ));obtain⟨T,hT⟩:=Zg0 (rlT s);rw[hT]at WT7 Zv WA7 Vi⊢;obtain⟨R,hR⟩:=Zg0 (qE T);rw[hR];have Ln:=oP hR;have Q8:=oP WA7;have Vk9:=oP (Z9e Zv WA7);obtain⟨w0,Kv⟩:=Zg0 ((w.alloc liZ).alloc liZ);have Wr5:=Kv;rw[Kv]at Vi;unfold liZ liC at Kv;clear hT hR WA7;go_enter func48,ntmps48;go_wp2_with fail;refine Vi.o.mono ?_;rintro e w1 ⟨g,Kd,rfl,Ke,Kn⟩;rw[<-Wr5]at Ke Kn;have Zw:=Z8U Ke Kn ae;clear Ke Kn Vi Kv Wr5;go_upto_region 3 with fail;obtain⟨w2,PR⟩:=Zg0 (w1.alloc (.cells #[.slice (some ⟨g,0,none⟩) T.length Kd,.int .i64 0,.bool false] 168));rw[PR]at Zw⊢;obtain⟨pb,Wk4⟩:=Zg0 w1.heap.size;rw[Wk4]at Zw⊢;obtain⟨xb,NV⟩:=Zg0 (w.heap.size+1);rw[NV]at Zw⊢;obtain⟨rb,LO⟩:=Zg0 w.heap.size;rw[LO]at Zw⊢;have Pd:=oP LO;obtain⟨N,hN⟩:=Zg0 T.length;rw[hN]at WT7 Zv⊢;have HN:=oP hN;have RY:(N:Int)<=2001:=ae;have Kw:=oP Zw.lt;have D:=oP Zw;clear Wk4 NV LO hN PR Zw;cases My:xY T with
 |true=>
  have HF:Hid (none=R):=(Z0S My).symm.trans Ln.o;unfold xY at My;rw[kB]at My;obtain⟨RN,Lv⟩:=(zL T).1 My.1;have hn1:(0:Int)<(N:Int):=ae;have c0:=D.o.ps.c0;obtain⟨k0,S,_⟩:=D.o.ps.tk 0 br;rw[HN.o]at c0
  have Rn:Hid (∀w',Calls prog 82 #[.string (T.getD 0 endR).s] w' fun e MB=>e=.returned (.bool true)/\Below w'.heap.size w' MB):=fun w'=>by
   have:=zU (T.getD 0 endR).s w';rw[My.2]at this;exact this
  obtain⟨t0,Q9⟩:∃t,T.getD 0 endR=t:=⟨_,rfl⟩;have hq:t0.kind=119:=by rw[<-Q9];exact RN
  rw[Q9]at k0 S Rn;rw[nH]at k0 S;rw[kN]at S;have b1:((t0.kind.toNat:Int)==119)=true:=by rw[hq];rfl
  have Z3:1<N:=gq;have QI:(1:Int)<(N:Int):=ae;obtain⟨Wr6,_⟩:=D.o.ps.tk 1 br;rw[Nat.one_mul]at Wr6;obtain⟨t1,QK⟩:∃t,T.getD 1 endR=t:=⟨_,rfl⟩;have N3:t1.kind=58:=by rw[<-QK];exact Lv
  rw[QK]at Wr6;have b2:((t1.kind.toNat:Int)==58)=true:=by rw[N3];rfl
  obtain⟨⟨x0,x1,x2,x3,x4,x5,x6,x7⟩,fx⟩:=oY D.o.xc;have f0:=fx 0;have WT8:¬pb=xb:=an;have Xb:¬xb=pb:=an;have VQ8:¬g=xb:=an;have MX:=oP (D.o.set0 t0.s);clear Q9 QK My RN Lv hq N3 fx D;go_upto_region 5 with fail;obtain⟨wl,OC⟩:=Zg0 (w2.setCell ⟨xb,0,none⟩ (.string t0.s));rw[OC]at MX⊢;clear OC x0 x1 x2 x3 x4 x5 x6 x7 f0 c0 k0 S;obtain⟨⟨x0,_⟩,_⟩:=oY MX.o.xc;go_wp2_with fail;refine(Rn.o _).mono ?_;rintro e w3 ⟨rfl,KH⟩;have Nu:=oP (MX.o.below KH);clear KH MX Rn x0;obtain⟨⟨r0,r1,r2,r3,r4,r5,r6,r7⟩,fr⟩:=oY Nu.o.rc;have z0:=fr 0;have z1:=fr 1;have z2:=fr 2;have z3:=fr 3;have z4:=fr 4;have z5:=fr 5;have z6:=fr 6;have z7:=fr 7;obtain⟨⟨x0,x1,x2,x3,x4,x5,x6,x7⟩,fx⟩:=oY Nu.o.xc;have Rr:¬xb=rb:=an;have Oa:¬rb=xb:=an;have OB:¬pb=rb:=an;have K7:¬rb=pb:=an;have Kg:¬g=rb:=an;have Nv:¬rb=g:=an;clear fr;go_wp2_with fail;exact AP Nu.o HF.o 0 _ _ _ _ _ _ _ _ rfl rfl rfl
 |false=>
  have WX:Hid (qF (vO T) (T.drop (uO T))=R):=(Z1c My).symm.trans Ln.o;go_cut [34] from 17 to 34 (fun v wx=>v=.bool (rN T)/\wx=w2)
  case first=>
   have hn1:(0:Int)<(N:Int):=ae;have c0:=D.o.ps.c0;obtain⟨k0,S,_⟩:=D.o.ps.tk 0 br;rw[HN.o]at c0;obtain⟨t0,Q9⟩:∃t,T.getD 0 endR=t:=⟨_,rfl⟩;rw[Q9]at k0 S;rw[nH]at k0 S;rw[kN]at S;by_cases hq:t0.kind=119
   ·have b1:((t0.kind.toNat:Int)==119)=true:=by rw[hq];rfl
    have Z3:1<N:=gq;have QI:(1:Int)<(N:Int):=ae;obtain⟨Wr6,_⟩:=D.o.ps.tk 1 br;rw[Nat.one_mul]at Wr6;obtain⟨t1,QK⟩:∃t,T.getD 1 endR=t:=⟨_,rfl⟩;rw[QK]at Wr6;by_cases N3:t1.kind=58
    ·have b2:((t1.kind.toNat:Int)==58)=true:=by rw[N3];rfl
     have HB:Hid (rN T=true):=by show rN T=true;unfold rN kAt;rw[Q9,QK,hq,N3];rfl
     exact Mcp
    have b2:((t1.kind.toNat:Int)==58)=false:=by have:¬t1.kind.toNat=58:=fun e=>N3 (lA.1 e);simp;omega
    have HB:Hid (rN T=false):=by show rN T=false;unfold rN kAt;rw[Q9,QK,hq];simp[N3]
    exact Mcp
   have b1:((t0.kind.toNat:Int)==119)=false:=by have:¬t0.kind.toNat=119:=fun e=>hq (lA.1 e);simp;omega
   have HB:Hid (rN T=false):=by show rN T=false;unfold rN kAt;rw[Q9];simp[hq]
   clear hq Q9;go_wp2_with fail;go_meet;exact⟨by rw[HB.o],rfl⟩
  obtain⟨rfl,rfl⟩:=hcut;generalize wc=w2 at *;go_upto_if 34 with fail;go_cut [6] from 34 to 50 (fun _ wx=>PX w wx rb xb pb g Kd T (uO T) false (liC (vO T) ⟨#[]⟩ ⟨#[]⟩ 0 0 ⟨#[]⟩ (.slice none 0 0) (.slice none 0 0)))
  case first=>
   cases hB:rN T with
   |false=>
    have HX:Hid (PX w w2 rb xb pb g Kd T (uO T) false (liC (vO T) ⟨#[]⟩ ⟨#[]⟩ 0 0 ⟨#[]⟩ (.slice none 0 0) (.slice none 0 0))):=by
     rw[(AT hB).1,(AT hB).2];exact D.o
    clear D hB;go_wp2_with fail;go_meet;exact HX.o
   |true=>
    have HL:=oP (Dy hB);have hn1:(0:Int)<(N:Int):=ae;have c0:=D.o.ps.c0;have c1:=D.o.ps.c1;have p1:=D.o.ps.fz 1;obtain⟨k0,S,_⟩:=D.o.ps.tk 0 br;rw[HN.o]at c0;rw[nH]at k0 S;rw[kN]at S
    have Rn:Hid (∀w',Calls prog 82 #[.string (T.getD 0 endR).s] w' fun e MB=>e=.returned (.bool false)/\Below w'.heap.size w' MB):=fun w'=>by
     have:=zU (T.getD 0 endR).s w';rw[HL.o.2.2 My]at this;exact this
    obtain⟨t0,Q9⟩:∃t,T.getD 0 endR=t:=⟨_,rfl⟩;rw[Q9]at k0 S Rn;have Sv:=oP Q9;obtain⟨⟨x0,x1,x2,x3,x4,x5,x6,x7⟩,fx⟩:=oY D.o.xc;have f0:=fx 0;have WT8:¬pb=xb:=an;have Xb:¬xb=pb:=an;have MX:=oP (D.o.set0 t0.s);clear Q9 hB fx D My;go_upto_region 5 with fail;obtain⟨wl,OC⟩:=Zg0 (w2.setCell ⟨xb,0,none⟩ (.string t0.s));rw[OC]at MX⊢;clear OC x0 x1 x2 x3 x4 x5 x6 x7 f0 c0 c1 p1 k0 S;obtain⟨⟨x0,_⟩,_⟩:=oY MX.o.xc;go_wp2_with fail;refine(Rn.o _).mono ?_;rintro e w3 ⟨rfl,KH⟩;have V:=MX.o.below KH;have c1:=V.ps.c1;have p1:=V.ps.fz 1
    have HX:Hid (PX w (w3.setCell ⟨pb,1,none⟩ (.int .i64 2)) rb xb pb g Kd T (uO T) false (liC (vO T) ⟨#[]⟩ ⟨#[]⟩ 0 0 ⟨#[]⟩ (.slice none 0 0) (.slice none 0 0))):=by
     rw[HL.o.1,HL.o.2.1,Sv.o];exact V.setI 2
    clear V KH MX Rn;go_wp2_with fail;go_meet;exact HX.o
  have MJ:=oP hcut;have HI:Hid (uO T<T.length):=Vk9.o;clear hcut D My Vk9;generalize uO T=i at *;generalize vO T=K9 at *;generalize wc=wz at *;go_upto_region 9 with fail;have c0:=MJ.o.ps.c0;have c1:=MJ.o.ps.c1;obtain⟨k0,S,_⟩:=MJ.o.ps.tk i HI.o;rw[HN.o]at c0;obtain⟨ti,PD⟩:∃t,T.getD i endR=t:=⟨_,rfl⟩;rw[PD]at k0 S;have QC:=oP PD;have N0:(i:Int)<(N:Int):=by have:=HI.o;rw[HN.o]at this;omega
  have OS:kAt T i=ti.kind:=by unfold kAt;rw[PD]
  by_cases hk:kAt T i=0
  ·have b3:((ti.kind.toNat:Int)==0)=true:=by rw[<-OS,hk];rfl
   have HX:Hid (some ⟨K9,⟨#[]⟩,⟨#[]⟩,ent0,[]⟩=R):=by
    have:=WX.o;unfold qF at this;rw[uo,kK,jT hk]at this;exact this
   clear PD OS hk;obtain⟨⟨r0,r1,r2,r3,r4,r5,r6,r7⟩,fr⟩:=oY MJ.o.rc;have z0:=fr 0;have z1:=fr 1;have z2:=fr 2;have z3:=fr 3;have z4:=fr 4;have z5:=fr 5;have z6:=fr 6;have z7:=fr 7;obtain⟨⟨x0,x1,x2,x3,x4,x5,x6,x7⟩,fx⟩:=oY MJ.o.xc;have Rr:¬xb=rb:=an;have Oa:¬rb=xb:=an;have OB:¬pb=rb:=an;have K7:¬rb=pb:=an;have Kg:¬g=rb:=an;have Nv:¬rb=g:=an;clear fr;go_quiet (fail);go_wp2_with fail;exact Z9Q MJ.o ⟨K9,⟨#[]⟩,⟨#[]⟩,ent0,[]⟩ HX.o _ (.slice none 0 0) (.slice none 0 0) (.inl ⟨rfl,rfl⟩) (OpsR.nil _ _) rfl rfl rfl
  have RN:=hk;clear hk;by_cases hk:kAt T i=119
  case neg=>
   have hk:=And.intro RN hk;have b3:((ti.kind.toNat:Int)==0)=false:=by have h1:=hk.1;rw[OS]at h1;have:¬ti.kind.toNat=0:=fun e=>h1 (lA.1 e);simp;omega
   have b4:((ti.kind.toNat:Int) != 119)=true:=by have h1:=hk.2;rw[OS]at h1;have:¬ti.kind.toNat=119:=fun e=>h1 (lA.1 e);simp;omega
   have HX:Hid (none=R):=by
    have:=WX.o;unfold qF at this;rw[uo,kK,jS hk.1,jT hk.2]at this;exact this
   clear PD OS hk;obtain⟨⟨r0,r1,r2,r3,r4,r5,r6,r7⟩,fr⟩:=oY MJ.o.rc;have z0:=fr 0;have z1:=fr 1;have z2:=fr 2;have z3:=fr 3;have z4:=fr 4;have z5:=fr 5;have z6:=fr 6;have z7:=fr 7;obtain⟨⟨x0,x1,x2,x3,x4,x5,x6,x7⟩,fx⟩:=oY MJ.o.xc;have Rr:¬xb=rb:=an;have Oa:¬rb=xb:=an;have OB:¬pb=rb:=an;have K7:¬rb=pb:=an;have Kg:¬g=rb:=an;have Nv:¬rb=g:=an;clear fr;go_quiet (fail);go_wp2_with fail;go_quiet (fail);go_wp2_with fail;exact AP MJ.o HX.o _ _ _ _ _ _ _ _ _ rfl rfl rfl
  clear RN;obtain⟨v,KP⟩:=Zg0 (qt (T.getD i endR).s.data.toList);have b3:((ti.kind.toNat:Int)==0)=false:=by rw[<-OS,hk];rfl
  have b4:((ti.kind.toNat:Int) != 119)=false:=by rw[<-OS,hk];rfl
  have Rn:Hid (∀w',Calls prog 82 #[.string ti.s] w' fun e MB=>e=.returned (.bool v)/\Below w'.heap.size w' MB):=fun w'=>by
   have:=zU ti.s w';rw[<-PD,KP]at this;rw[<-PD];exact this
  have MT:=oP (qB HI.o (by rw[show (T.getD i endR).kind=119 from hk];decide) Q8.o);have Ot:Hid (qF K9 (T.drop i)=R/\kAt T i=119/\qt ti.s.data.toList=v):=⟨WX.o,hk,by rw[<-PD];exact KP⟩;clear PD OS hk KP;go_quiet (fail);go_wp2_with fail;go_quiet (fail);go_wp2_with fail;go_quiet (fail);go_wp2_with fail;refine(Rn.o _).mono ?_;rintro e w3 ⟨rfl,KH⟩;have V:=MJ.o.below (show Below wz.heap.size wz w3 from ⟨KH.os,KH.tape,KH.output,KH.size,KH.block⟩);have Nu:=oP V;clear KH Rn c0 c1 k0 S MJ;cases v with
  |false=>
   obtain⟨⟨x0,x1,x2,x3,x4,x5,x6,x7⟩,fx⟩:=oY V.xc;have f1:=fx 1;have f2:=fx 2;have f7:=fx 7;have c1:=V.ps.c1;have p1:=V.ps.fz 1;have WT8:¬pb=xb:=an;have Xb:¬xb=pb:=an;have Sy:IntKind.i64.wrap ((i:Int)+1)=(i:Int)+1:=ar;have Ny:Hid (PX w ((w3.setCell ⟨xb,1,none⟩ (.string ti.s)).setCell ⟨pb,1,none⟩ (.int .i64 ((i:Int)+1))) rb xb pb g Kd T (i+1) false (liC K9 ti.s ⟨#[]⟩ 0 0 ⟨#[]⟩ (.slice none 0 0) (.slice none 0 0))):=(V.set1 ti.s).setI (i+1);clear V fx;go_upto_region 18 with fail;obtain⟨w4,Rp⟩:=Zg0 ((w3.setCell ⟨xb,1,none⟩ (.string ti.s)).setCell ⟨pb,1,none⟩ (.int .i64 ((i:Int)+1)));rw[Rp]at Ny⊢;clear Rp x0 x1 x2 x3 x4 x5 x6 x7 f1 f2 f7 c1 p1;have So:=oP (xr pb g Kd T (i+1) false ⟨#[101,113,117]⟩ w4 Ny.o.ps MT.o);by_cases Wy:pr (T.getD (i+1) endR) ⟨#[101,113,117]⟩
   ·rw[kj Wy,jT Wy]at So;have Mg:=oP (qB MT.o (by rw[Wy.1];decide) Q8.o)
    have HX:Hid ((qq (T.drop (i+2))).map (fun o=>(⟨K9,ti.s,⟨#[101,113,117]⟩,ent0,[o]⟩:RLine))=R):=by
     have:=Ot.o.1;unfold qF at this;rw[uo,kK,uy,uy,kK,QC.o,jS aU,jS aU,jT Ot.o.2.2,jT Wy,lV]at this;exact this
    clear Wy;go_wp2_with fail;refine So.o.mono ?_;rintro e w5 ⟨rfl,Xr,Wr7⟩;have NA:=Ny.o.grown Xr Wr7;clear Xr Wr7 Ny So MT Ot;obtain⟨⟨x0,x1,x2,x3,x4,x5,x6,x7⟩,fx⟩:=oY NA.xc;have f2:=fx 2;have f7:=fx 7;have G:=oP (NA.set2 ⟨#[101,113,117]⟩);clear NA fx;go_upto_region 22 with fail;obtain⟨w6,L6⟩:=Zg0 (w5.setCell ⟨xb,2,none⟩ (.string ⟨#[101,113,117]⟩));rw[L6]at G⊢;clear L6 x0 x1 x2 x3 x4 x5 x6 x7 f2 f7;obtain⟨q,hq⟩:=Zg0 (oR (T.drop (i+2)) false);have Z:=oP (wT pb g Kd T (i+2) false w6 G.o.ps Mg.o Q8.o);rw[hq]at Z;have Pj:=oP (fun e=>Au _ T (i+2) false jU Mg.o Q8.o e);rw[hq]at Pj
    have Sc:Hid (qq (T.drop (i+2))=if q.2.2=true/\kAt T ((i+2)+q.2.1)=0 then some (sL q.1) else none):=by
     show qq (T.drop (i+2))=_;unfold qq;rw[hq,uo]
    clear hq;go_wp2_with fail;refine Z.o.mono ?_;rintro e A ⟨ya,yn,yc,rfl,UU,Tm,M⟩;have NC:=G.o.grown UU M;obtain⟨⟨x0,x1,x2,x3,x4,x5,x6,x7⟩,fx⟩:=oY NC.xc;have f7:=fx 7;have Mr:=NC.bw.size;have O2:xb<A.heap.size:=oV NC.xc;have SH:¬A.heap.size=xb:=ae;have Wr8:(A.setCell ⟨xb,7,none⟩ (.slice (some ⟨A.heap.size,0,none⟩) 1 1)).ownsRow w.heap.size 229 5 (.slice ya yn yc) q.1.length (qv q.1):=pC (Tm.kept (pV A xb 7 _) (Bb Tm NC.xc ah)) G.o.bw.size;have UW:=oP (OpsR.one Wr8 (by simpa [World.setCell]using Mr));have Na:=oP ((NC.set7 (.slice (some ⟨A.heap.size,0,none⟩) 1 1)).below (jV.alloc jU (opC ⟨#[]⟩ 0 0 (.slice ya yn yc))));unfold opC at UW Na;clear NC UU Tm M Wr8 fx Z G Mr;go_upto_region 23 with fail;rw[show (A.setCell ⟨xb,7,none⟩ (.slice (some ⟨A.heap.size,0,none⟩) 1 1)).heap.size=A.heap.size by simp[World.setCell]]at UW;obtain⟨ob,Ml⟩:=Zg0 A.heap.size;rw[Ml]at UW Na⊢;obtain⟨w8,RW⟩:=Zg0 ((A.setCell ⟨xb,7,none⟩ (.slice (some ⟨ob,0,none⟩) 1 1)).alloc (.cells #[.string ⟨#[]⟩,.int .i64 0,.int .u8 0,.slice ya yn yc] 174));rw[RW]at UW Na⊢;clear RW Ml O2 SH x0 x1 x2 x3 x4 x5 x6 x7 f7;obtain⟨I2,Ua⟩:=Zg0 ((i+2)+q.2.1);rw[Ua]at Na Pj Sc;clear Ua;have c0:=Na.o.ps.c0;have c1:=Na.o.ps.c1;have c2:=Na.o.ps.c2;rw[HN.o]at c0;rw[mN]at c2;obtain⟨⟨r0,r1,r2,r3,r4,r5,r6,r7⟩,fr⟩:=oY Na.o.rc;have z0:=fr 0;have z1:=fr 1;have z2:=fr 2;have z3:=fr 3;have z4:=fr 4;have z5:=fr 5;have z6:=fr 6;have z7:=fr 7;obtain⟨⟨x0,x1,x2,x3,x4,x5,x6,x7⟩,fx⟩:=oY Na.o.xc;have Rr:¬xb=rb:=an;have Oa:¬rb=xb:=an;have OB:¬pb=rb:=an;have K7:¬rb=pb:=an;have Kg:¬g=rb:=an;have Nv:¬rb=g:=an;clear fr;clear fx;cases Me:q.2.2 with
    |false=>exact MaD
    |true=>
     rw[Me]at c2;have WT9:w8.cell? ⟨pb,2,none⟩=some (.bool false):=c2;clear c2;have XQ:=oP (Pj.o Me);obtain⟨k0,_⟩:=Na.o.ps.tk I2 XQ.o;have Yd:(I2:Int)<(N:Int):=by have:=XQ.o;rw[HN.o]at this;omega
     obtain⟨tj,Pk⟩:∃t,T.getD I2 endR=t:=⟨_,rfl⟩;rw[Pk]at k0;have Pm:kAt T I2=tj.kind:=dX;by_cases Mu:tj.kind=0
     ·have b5:((tj.kind.toNat:Int)==0)=true:=by rw[Mu];rfl
      have HF:Hid (some ⟨K9,ti.s,⟨#[101,113,117]⟩,ent0,[sL q.1]⟩=R):=Mcx;clear HX Sc Pj Me Pk Pm Mu;go_region
      all_goals
       go_wp2_with fail;exact AQ Na.o ⟨K9,ti.s,⟨#[101,113,117]⟩,ent0,[sL q.1]⟩ HF.o (.slice none 0 0) (.slice (some ⟨ob,0,none⟩) 1 1) (.inl ⟨rfl,rfl⟩) UW.o rfl rfl rfl
     exact Maz
   rw[j9 Wy,jS Wy]at So
   have HX:Hid (none=R):=by
    have:=Ot.o.1;unfold qF at this;rw[uo,kK,uy,uy,kK,QC.o,jS aU,jS aU,jT Ot.o.2.2,jS Wy]at this;exact this
   clear Wy;go_wp2_with fail;refine So.o.mono ?_;rintro e w5 ⟨rfl,Xr,Wr7⟩;have Wf:=oP (Ny.o.grown Xr Wr7);clear Xr Wr7;obtain⟨⟨r0,r1,r2,r3,r4,r5,r6,r7⟩,fr⟩:=oY Wf.o.rc;have z0:=fr 0;have z1:=fr 1;have z2:=fr 2;have z3:=fr 3;have z4:=fr 4;have z5:=fr 5;have z6:=fr 6;have z7:=fr 7;obtain⟨⟨x0,x1,x2,x3,x4,x5,x6,x7⟩,fx⟩:=oY Wf.o.xc;have Rr:¬xb=rb:=an;have Oa:¬rb=xb:=an;have OB:¬pb=rb:=an;have K7:¬rb=pb:=an;have Kg:¬g=rb:=an;have Nv:¬rb=g:=an;clear fr;go_wp2_with fail;exact AP Wf.o HX.o 0 _ _ _ _ _ _ _ _ rfl rfl rfl
  |true=>
   have c1:=V.ps.c1;have p1:=V.ps.fz 1;have WT8:¬pb=xb:=an;have Xb:¬xb=pb:=an;have Sy:IntKind.i64.wrap ((i:Int)+1)=(i:Int)+1:=ar;have Ny:Hid (PX w (w3.setCell ⟨pb,1,none⟩ (.int .i64 ((i:Int)+1))) rb xb pb g Kd T (i+1) false (liC K9 ⟨#[]⟩ ⟨#[]⟩ 0 0 ⟨#[]⟩ (.slice none 0 0) (.slice none 0 0))):=V.setI (i+1);clear V;go_upto_region 25 with fail;obtain⟨w5,Lj⟩:=Zg0 (w3.setCell ⟨pb,1,none⟩ (.int .i64 ((i:Int)+1)));rw[Lj]at Ny⊢;clear Lj c1 p1;have NA:=Ny.o;have Mg:=MT;clear Ny MT;by_cases Rw:ti.s=⟨#[111,114,103]⟩\/ti.s=⟨#[100,115]⟩
   ·have HX:Hid ((qq (T.drop (i+1))).map (fun o=>(⟨K9,⟨#[]⟩,ti.s,ent0,[o]⟩:RLine))=R):=by
     have h1:=Ot.o.1;have h2:=Ot.o.2.2;unfold qF at h1;rw[uo,kK,uy,kK,QC.o,jS aU,jS aU,jS (by rw[h2];decide),jT Rw,lV]at h1;exact h1
    have hn:(ti.s.toList==[111,114,103])=true\/((ti.s.toList==[111,114,103])=false/\(ti.s.toList==[100,115])=true):=by
     rcases Rw with e|e
     ·exact .inl (by rw[e,lB];rfl)
     exact .inr (by rw[e,lB];exact⟨rfl,rfl⟩)
    clear Rw Ot;rcases hn with n1|⟨n1,n2⟩
    all_goals
     obtain⟨⟨x0,x1,x2,x3,x4,x5,x6,x7⟩,fx⟩:=oY NA.xc;have f2:=fx 2;have f7:=fx 7;have G:=oP (NA.set2 ti.s);clear NA fx;go_upto_region 29 with fail;obtain⟨w6,L6⟩:=Zg0 (w5.setCell ⟨xb,2,none⟩ (.string ti.s));rw[L6]at G⊢;clear L6 x0 x1 x2 x3 x4 x5 x6 x7 f2 f7;obtain⟨q,hq⟩:=Zg0 (oR (T.drop (i+1)) false);have Z:=oP (wT pb g Kd T (i+1) false w6 G.o.ps Mg.o Q8.o);rw[hq]at Z;have Pj:=oP (fun e=>Au _ T (i+1) false jU Mg.o Q8.o e);rw[hq]at Pj
     have Sc:Hid (qq (T.drop (i+1))=if q.2.2=true/\kAt T ((i+1)+q.2.1)=0 then some (sL q.1) else none):=by
      show qq (T.drop (i+1))=_;unfold qq;rw[hq,uo]
     clear hq;go_wp2_with fail;refine Z.o.mono ?_;rintro e A ⟨ya,yn,yc,rfl,UU,Tm,M⟩;have NC:=G.o.grown UU M;obtain⟨⟨x0,x1,x2,x3,x4,x5,x6,x7⟩,fx⟩:=oY NC.xc;have f7:=fx 7;have Mr:=NC.bw.size;have O2:xb<A.heap.size:=oV NC.xc;have SH:¬A.heap.size=xb:=ae;have Wr8:(A.setCell ⟨xb,7,none⟩ (.slice (some ⟨A.heap.size,0,none⟩) 1 1)).ownsRow w.heap.size 229 5 (.slice ya yn yc) q.1.length (qv q.1):=pC (Tm.kept (pV A xb 7 _) (Bb Tm NC.xc ah)) G.o.bw.size;have UW:=oP (OpsR.one Wr8 (by simpa [World.setCell]using Mr));have Na:=oP ((NC.set7 (.slice (some ⟨A.heap.size,0,none⟩) 1 1)).below (jV.alloc jU (opC ⟨#[]⟩ 0 0 (.slice ya yn yc))));unfold opC at UW Na;clear NC UU Tm M Wr8 fx Z G Mr;go_upto_region 30 with fail;rw[show (A.setCell ⟨xb,7,none⟩ (.slice (some ⟨A.heap.size,0,none⟩) 1 1)).heap.size=A.heap.size by simp[World.setCell]]at UW;obtain⟨ob,Ml⟩:=Zg0 A.heap.size;rw[Ml]at UW Na⊢;obtain⟨w8,RW⟩:=Zg0 ((A.setCell ⟨xb,7,none⟩ (.slice (some ⟨ob,0,none⟩) 1 1)).alloc (.cells #[.string ⟨#[]⟩,.int .i64 0,.int .u8 0,.slice ya yn yc] 174));rw[RW]at UW Na⊢;clear RW Ml O2 SH x0 x1 x2 x3 x4 x5 x6 x7 f7;obtain⟨I2,Ua⟩:=Zg0 ((i+1)+q.2.1);rw[Ua]at Na Pj Sc;clear Ua;have c0:=Na.o.ps.c0;have c1:=Na.o.ps.c1;have c2:=Na.o.ps.c2;rw[HN.o]at c0;rw[mN]at c2;obtain⟨⟨r0,r1,r2,r3,r4,r5,r6,r7⟩,fr⟩:=oY Na.o.rc;have z0:=fr 0;have z1:=fr 1;have z2:=fr 2;have z3:=fr 3;have z4:=fr 4;have z5:=fr 5;have z6:=fr 6;have z7:=fr 7;obtain⟨⟨x0,x1,x2,x3,x4,x5,x6,x7⟩,fx⟩:=oY Na.o.xc;have Rr:¬xb=rb:=an;have Oa:¬rb=xb:=an;have OB:¬pb=rb:=an;have K7:¬rb=pb:=an;have Kg:¬g=rb:=an;have Nv:¬rb=g:=an;clear fr;clear fx;cases Me:q.2.2 with
     |false=>exact MaD
     |true=>
      rw[Me]at c2;have WT9:w8.cell? ⟨pb,2,none⟩=some (.bool false):=c2;clear c2;have XQ:=oP (Pj.o Me);obtain⟨k0,_⟩:=Na.o.ps.tk I2 XQ.o;have Yd:(I2:Int)<(N:Int):=by have:=XQ.o;rw[HN.o]at this;omega
      obtain⟨tj,Pk⟩:∃t,T.getD I2 endR=t:=⟨_,rfl⟩;rw[Pk]at k0;have Pm:kAt T I2=tj.kind:=dX;by_cases Mu:tj.kind=0
      ·have b5:((tj.kind.toNat:Int)==0)=true:=by rw[Mu];rfl
       have HF:Hid (some ⟨K9,⟨#[]⟩,ti.s,ent0,[sL q.1]⟩=R):=Mcx;clear HX Sc Pj Me Pk Pm Mu;go_region
       all_goals
        go_wp2_with fail;exact AQ Na.o ⟨K9,⟨#[]⟩,ti.s,ent0,[sL q.1]⟩ HF.o (.slice none 0 0) (.slice (some ⟨ob,0,none⟩) 1 1) (.inl ⟨rfl,rfl⟩) UW.o rfl rfl rfl
      exact Maz
   have n1:(ti.s.toList==[111,114,103])=false:=po (fun e=>Rw (.inl e));have n2:(ti.s.toList==[100,115])=false:=po (fun e=>Rw (.inr e));by_cases Zx:ti.s=⟨#[100,98]⟩\/ti.s=⟨#[100,119]⟩
   ·have HX:Hid (DbInv T K9 ti.s R (i+1) [] false true):=by
     have h1:=Ot.o.1;have h2:=Ot.o.2.2;unfold qF at h1;rw[uo,kK,uy,kK,QC.o,jS aU,jS aU,jS (by rw[h2];decide),jS Rw,jT Zx,lV]at h1;exact⟨fun e=>(by cases e),fun _ _=>⟨_,by rw[mD];omega,h1⟩,fun _ e=>(by cases e)⟩
    have hn:(ti.s.toList==[100,98])=true\/((ti.s.toList==[100,98])=false/\(ti.s.toList==[100,119])=true):=by
     rcases Zx with e|e
     ·exact .inl (by rw[e,lB];rfl)
     exact .inr (by rw[e,lB];exact⟨rfl,rfl⟩)
    clear Rw Zx Ot;rcases hn with n3|⟨n3,n4⟩
    all_goals
     obtain⟨⟨x0,x1,x2,x3,x4,x5,x6,x7⟩,fx⟩:=oY NA.xc;have f2:=fx 2;have G:=oP (NA.set2 ti.s);clear NA fx;go_upto_region 34 with fail;obtain⟨w6,L6⟩:=Zg0 (w5.setCell ⟨xb,2,none⟩ (.string ti.s));rw[L6]at G⊢;clear L6 x0 x1 x2 x3 x4 x5 x6 x7 f2;obtain⟨OF,hi,KJ,KC,Ky⟩:=kQ Tryz.infoROp;have VH5:=WT7;go_wp2_with fail;go_loopw [10] (fun v wr=>∃(I:Nat) (os:List ROp) (oa:Option Addr) (oc:Nat) (Kp Pa:Bool),v=.bool Pa/\PX w wr rb xb pb g Kd T I Kp (liC K9 ⟨#[]⟩ ti.s 0 0 ⟨#[]⟩ (.slice none 0 0) (.slice oa os.length oc))/\OpsR wr (pb+1) (.slice oa os.length oc) os/\(Kp=false->os.length<=I)/\I<T.length/\DbInv T K9 ti.s R I os Kp Pa) (xV T.length pb)
     case atStart=>exact⟨i+1,[],none,0,false,true,rfl,G.o,OpsR.nil _ _,fun _=>j4,Mg.o,HX.o⟩
     case round=>
      clear G Mg HX Nu;obtain⟨I,os,oa,oc,Kp,Pa,rfl,O,hO,Vy,U,ND⟩:=hrel;have Qm:=oP O;have HO:=oP hO;have R1:=oP U;have WN5:=oP Vy;have c0:=O.ps.c0;have c1:=O.ps.c1;have c2:=O.ps.c2;rw[HN.o]at c0;have Yd:(I:Int)<(N:Int):=by rw[HN.o]at U;omega
      cases Kp with
      |true=>
       have HF:=oP (ND.1 rfl);clear ND hO O Vy U;obtain⟨⟨r0,r1,r2,r3,r4,r5,r6,r7⟩,fr⟩:=oY Qm.o.rc;have z0:=fr 0;have z1:=fr 1;have z2:=fr 2;have z3:=fr 3;have z4:=fr 4;have z5:=fr 5;have z6:=fr 6;have z7:=fr 7;obtain⟨⟨x0,x1,x2,x3,x4,x5,x6,x7⟩,fx⟩:=oY Qm.o.xc;have Rr:¬xb=rb:=an;have Oa:¬rb=xb:=an;have OB:¬pb=rb:=an;have K7:¬rb=pb:=an;have Kg:¬g=rb:=an;have Nv:¬rb=g:=an;clear fr;clear fx;cases Pa
       all_goals
        exact Mbt
      |false=>
       cases Pa with
       |false=>
        have HV:=oP (ND.2.2 rfl rfl);clear ND hO O Vy U;obtain⟨⟨r0,r1,r2,r3,r4,r5,r6,r7⟩,fr⟩:=oY Qm.o.rc;have z0:=fr 0;have z1:=fr 1;have z2:=fr 2;have z3:=fr 3;have z4:=fr 4;have z5:=fr 5;have z6:=fr 6;have z7:=fr 7;obtain⟨⟨x0,x1,x2,x3,x4,x5,x6,x7⟩,fx⟩:=oY Qm.o.xc;have Rr:¬xb=rb:=an;have Oa:¬rb=xb:=an;have OB:¬pb=rb:=an;have K7:¬rb=pb:=an;have Kg:¬g=rb:=an;have Nv:¬rb=g:=an;clear fr;clear fx;obtain⟨k0,_⟩:=Qm.o.ps.tk I R1.o;obtain⟨tj,Pk⟩:∃t,T.getD I endR=t:=⟨_,rfl⟩;rw[Pk]at k0;have Pm:kAt T I=tj.kind:=dX;by_cases Mu:tj.kind=0
        ·have b5:((tj.kind.toNat:Int)==0)=true:=by rw[Mu];rfl
         have HF:Hid (some ⟨K9,⟨#[]⟩,ti.s,ent0,os⟩=R):=by
          have:=HV.o;rw[jT (Pm.trans Mu)]at this;exact this
         clear HV Pk Pm Mu;go_upto_region 38 with fail;go_region
         all_goals
          go_wp2_with fail;exact AQ Qm.o ⟨K9,⟨#[]⟩,ti.s,ent0,os⟩ HF.o (.slice none 0 0) (.slice oa os.length oc) (.inl ⟨rfl,rfl⟩) (HO.o.base an) rfl rfl rfl
        have b5:((tj.kind.toNat:Int)==0)=false:=cZ
        have HF:Hid (none=R):=by
         have:=HV.o;rw[jS (fun e=>Mu (Pm.symm.trans e))]at this;exact this
        clear HV Pk Pm Mu;exact Mbt
       |true=>
        obtain⟨q,hq⟩:=Zg0 (oR (T.drop I) false);have Zy:=oP (ND.next U Q8.o hq);have Pj:=oP (Bo _ T I false jU U Q8.o);have MQ:=oP (fun e=>CZ (m:=false) U Q8.o e);have Z:=oP (wT pb g Kd T I false wr.drew (O.ps.kept rfl rfl jU) U Q8.o);rw[hq]at Pj MQ Z;obtain⟨⟨x0,x1,x2,x3,x4,x5,x6,x7⟩,fx⟩:=oY O.xc;have Zz:=O.ps.lt;have Wc6:=oP (Vy rfl);clear x0 x1 x2 x3 x4 x5 x6 fx ND hO O Vy U hq;go_upto_region 37 with fail;go_region_law (first| (refine zi 84 #[.pointer (some ⟨pb,0,none⟩)] rfl cX _ (fun v A=>∃ya yn yc,v=.slice ya yn yc/\RPS A pb g Kd T (I+q.2.1) (false||!q.2.2)/\A.ownsRow wr.drew.heap.size 229 5 (.slice ya yn yc) q.1.length (qv q.1)/\wr.drew.grownBy A (some pb)) Z.o (fun e w' hh=>gu) ?_;rintro v A ⟨ya,yn,yc,rfl,UU,Tm,M⟩;have Sd:wr.grownBy A (some pb):=⟨M.os,M.tape,M.output,M.size,M.block⟩;have Qc:=oP (Qm.o.grown UU Sd);have UI:=(oY Qc.o.xc).1.2.2.2.2.2.2.2;have O2:xb<A.heap.size:=oV Qc.o.xc;have SH:¬A.heap.size=xb:=(ae);have LR:¬xb=A.heap.size:=(ae);obtain⟨cs,h1,h2⟩:=(HO.o.pass ae Sd).row;have H1:=oP h1;have H2:=oP h2;have HE:=oP (pC Tm (show pb+1<=wr.drew.heap.size from Zz));have VH6:pb+1<=A.heap.size:=Qc.o.ps.lt;clear UU Tm M h1 h2 Sd)|(refine xj rfl (.tmp 186) (.tmp 190) 90 rfl (pb+1) 174 OF _ 4 56 underlying90 hi KJ KC Ky rfl ah (.slice oa os.length oc) os.length cs aB (by exact H1.o.alloc _) ⟨A.heap.size,0,none⟩ 1 1 [.string ⟨#[]⟩,.int .i64 0,.int .u8 0,.slice ya yn yc] aB rfl (IP _ _ _ _ _ _) (by intro u hu;simp at hu;rcases hu with rfl|rfl|rfl|rfl <;> rfl) (by have:=Wc6.o;have:=R1.o;have:=HN.o;unfold maxLen;omega) (by have:=Wc6.o;have:=R1.o;have:=HN.o;omega) ai ?_;intro v2 wn Kc Kg Kj;obtain⟨va,vc,rfl⟩:=rP Kc;have HA:=oP (Iu (o:=sL q.1) Qc.o H1.o H2.o HE.o (jV.alloc jU _) Kc Kg);have f7:wn.frozen? ⟨xb,7,none⟩=false:=(ku (a:=⟨xb,7,none⟩) HA.o.1).trans ((oY Qc.o.xc).2 7);have x8:=(jW (a:=⟨xb,7,none⟩) HA.o.1).trans UI;clear Kc Kg Kj))
        all_goals
         obtain⟨_,ZA,Wc7⟩:=HA.o;go_upto_region 36 with fail;obtain⟨w9,Tv⟩:=Zg0 (wn.setCell ⟨xb,7,none⟩ (.slice va (os.length+1) vc));rw[Tv]at ZA Wc7⊢;have KX:=oP (uR pb g Kd T (I+q.2.1) (false||!q.2.2) 44 w9 ZA.ps Pj.o);have Vj:=oP ZA;have WU0:=oP Wc7;clear ZA Wc7 Tv HA x8 f7 H1 H2 HE Qc UI x7 c0 c1 c2 Z;go_wp2_with fail;refine KX.o.mono ?_;rintro e To ⟨rfl,UX,Se⟩;have Wz:=oP (Vj.o.grown UX Se);have ZB:=oP (WU0.o.pass ae Se);clear UX Se KX;have hl:(os++[sL q.1]).length=os.length+1:=af
         have Wr9:Hid (∀b:Bool,b = !q.2.2->b=false->os.length+1<=(if kAt T (I+q.2.1)=44 then I+q.2.1+1 else I+q.2.1)/\I<(if kAt T (I+q.2.1)=44 then I+q.2.1+1 else I+q.2.1)):=fun b hb e=>by
          have h1:=Wc6.o;have h2:=MQ.o (by rw[hb]at e;simpa using e);constructor
          ·split <;> omega
          split <;> omega
         go_wp2_with fail;go_roundw
         case rel=>exact⟨_,os++[sL q.1],va,vc,_,_,rfl,by rw[hl];exact Wz.o,by rw[hl];exact ZB.o,fun e=>by rw[hl];exact(Wr9.o _ rfl e).1,EF Pj.o Q8.o,Zy.o⟩
         case measure=>exact Jn Qm.o.ps Wz.o.ps R1.o (fun e _=>(Wr9.o _ rfl e).2)
   have n3:(ti.s.toList==[100,98])=false:=po (fun e=>Zx (.inl e));have n4:(ti.s.toList==[100,119])=false:=po (fun e=>Zx (.inr e))
   have HX:Hid (InInv T K9 ti.s R (i+1) [] false):=by
    have h1:=Ot.o.1;have h2:=Ot.o.2.2;unfold qF at h1;rw[uo,kK,uy,kK,QC.o,jS aU,jS aU,jS (by rw[h2];decide),jS Rw,jS Zx,lV]at h1;exact⟨fun e=>(by cases e),fun _=>⟨_,by rw[mD];have:=HI.o;omega,h1⟩⟩
   clear Rw Zx Ot;obtain⟨⟨x0,x1,x2,x3,x4,x5,x6,x7⟩,fx⟩:=oY NA.xc;have f2:=fx 2;have G:=oP (NA.set2 ⟨#[105,110,115]⟩);clear NA fx;go_upto_region 39 with fail;clear n1 n2 n3 n4;go_wp2_with fail;obtain⟨w6,L6⟩:=Zg0 (w5.setCell ⟨xb,2,none⟩ (.string ⟨#[105,110,115]⟩));rw[L6]at G⊢;clear L6 x0 x1 x2 x3 x4 x5 x6 x7 f2;obtain⟨OF,hi,KJ,KC,Ky⟩:=kQ Tryz.infoROp;go_loopw [] (fun wr=>∃(I:Nat) (os:List ROp) (oa:Option Addr) (oc:Nat) (Kp:Bool),PX w wr rb xb pb g Kd T I Kp (liC K9 ⟨#[]⟩ ⟨#[105,110,115]⟩ 0 0 ⟨#[]⟩ (.slice none 0 0) (.slice oa os.length oc))/\OpsR wr (pb+1) (.slice oa os.length oc) os/\os.length<=I+1/\I<T.length/\(Kp=false->os.length<=I)/\InInv T K9 ti.s R I os Kp) (fun wr=>xV T.length pb (.bool true) wr)
   case atStart=>exact⟨i+1,[],none,0,false,G.o,OpsR.nil _ _,j4,Mg.o,fun _=>j4,HX.o⟩
   case round=>
    clear G Mg HX Nu;obtain⟨I,os,oa,oc,Kp,O,hO,WU1,U,Vy,ND⟩:=hrel;have Qm:=oP O;have HO:=oP hO;have R1:=oP U;have Ws0:Hid (os.length<=4000):=by show os.length<=4000;have:=HN.o;omega
    have c0:=O.ps.c0;have c1:=O.ps.c1;have c2:=O.ps.c2;rw[HN.o]at c0;have Yd:(I:Int)<(N:Int):=by rw[HN.o]at U;omega
    obtain⟨k0,_⟩:=O.ps.tk I U;obtain⟨tj,Pk⟩:∃t,T.getD I endR=t:=⟨_,rfl⟩;rw[Pk]at k0;have Pm:kAt T I=tj.kind:=dX;cases Kp with
    |true=>
     have HF:=oP (ND.1 rfl);clear ND hO O Vy WU1 U;by_cases Mu:tj.kind=0
     ·have b5:((tj.kind.toNat:Int) != 0)=false:=by rw[Mu];rfl
      exact Maa
     have b5:((tj.kind.toNat:Int) != 0)=true:=cZ;exact Maa
    |false=>
     by_cases Mu:tj.kind=0
     ·have b5:((tj.kind.toNat:Int) != 0)=false:=by rw[Mu];rfl
      have HV:=oP (ND.done (Pm.trans Mu));clear ND hO O Vy WU1 U Pk Pm Mu;go_upto_region 40 with fail;go_quiet (fail);go_upto_region 44 with fail;obtain⟨wq,L8⟩:=Zg0 (wr.drewN nq);rw[L8];have SI:PX w wq rb xb pb g Kd T I false (liC K9 ⟨#[]⟩ ⟨#[105,110,115]⟩ 0 0 ⟨#[]⟩ (.slice none 0 0) (.slice oa os.length oc)):=fI;have SJ:OpsR wq (pb+1) (.slice oa os.length oc) os:=fJ;obtain⟨_,ob,XR⟩:=SJ.opR Ws0.o;have TN:=oP (DX ti.s ob oa oc os wq XR);have Q6:=oP SI;have Td:=oP SJ;obtain⟨⟨x0,x1,x2,x3,x4,x5,x6,x7⟩,fx⟩:=oY SI.xc;clear x0 x1 x2 x3 x4 x5 x6 fx SI SJ XR L8 Qm HO c0 c1 c2 k0;go_wp2_with fail;refine TN.o.mono ?_;rintro e Nr ⟨Ni,hm⟩;have Ws1:=oP Ni;have Nj:=Q6.o.below Ni;have Ra:=oP (Td.o.kept (fun k _ hk=>Ni.block k hk));have OL:=oP Nj;obtain⟨⟨x0,x1,x2,x3,x4,x5,x6,x7⟩,fx⟩:=oY Nj.xc;have f3:=fx 3;have f4:=fx 4;have f5:=fx 5;have f6:=fx 6;have O2:xb<Nr.heap.size:=oV Nj.xc;have SH:¬Nr.heap.size=xb:=ae;have LR:¬xb=Nr.heap.size:=ae;clear fx Nj Ni TN Q6 Td;cases OT:qD ti.s.data.toList os with
      |none=>
       rw[OT]at hm;have OZ:_=Ending.returned (.tuple #[qA ent0 (.slice none 0 0),.bool false]):=hm;subst OZ;have Pv:Hid (none=R):=by show none=R;rw[<-HV.o,OT];rfl
       exact McR
      |some x=>
       rw[OT]at hm;obtain⟨ev,OZ,UY⟩:=hm;subst OZ;obtain⟨ea,rfl,_⟩:=UY.slice;have Pv:Hid (some ⟨K9,⟨#[]⟩,⟨#[105,110,115]⟩,x,os⟩=R):=by show some _=R;rw[<-HV.o,OT];rfl
       have UZ:=oP UY;unfold qA;clear OT UY;go_upto_region 46 with fail;have La:=oP (OL.o.ent x (.slice ea x.2.2.2.length x.2.2.2.length));have Of:=oP ((Ra.o.kept (fun k hk h2=>(wg Nr xb x (.slice ea x.2.2.2.length x.2.2.2.length)).block k h2 fH)).base (show w.heap.size<=pb+1 by have:=Kw.o;omega));have Tn:=oP (UZ.o.otype OL.o.xc ah (wg Nr xb x (.slice ea x.2.2.2.length x.2.2.2.length)));obtain⟨Qr,LL⟩:=Zg0 (tZ Nr xb x (.slice ea x.2.2.2.length x.2.2.2.length));have Lb:=LL;unfold tZ at Lb;rw[Lb];rw[LL]at La Of Tn;clear LL Lb x0 x1 x2 x3 x4 x5 x6 x7 f3 f4 f5 f6 O2 SH LR;obtain⟨⟨r0,r1,r2,r3,r4,r5,r6,r7⟩,fr⟩:=oY La.o.rc;have z0:=fr 0;have z1:=fr 1;have z2:=fr 2;have z3:=fr 3;have z4:=fr 4;have z5:=fr 5;have z6:=fr 6;have z7:=fr 7;obtain⟨⟨x0,x1,x2,x3,x4,x5,x6,x7⟩,fx⟩:=oY La.o.xc;have Rr:¬xb=rb:=an;have Oa:¬rb=xb:=an;have OB:¬pb=rb:=an;have K7:¬rb=pb:=an;have Kg:¬g=rb:=an;have Nv:¬rb=g:=an;clear fr;clear fx;have c2:=La.o.ps.c2;go_region
       all_goals
        go_wp2_with fail;exact AQ La.o ⟨K9,⟨#[]⟩,⟨#[105,110,115]⟩,x,os⟩ Pv.o (.slice ea x.2.2.2.length x.2.2.2.length) (.slice oa os.length oc) Tn.o Of.o rfl rfl rfl
     have b5:((tj.kind.toNat:Int) != 0)=true:=cZ;have Vl0:Hid (¬kAt T I=0):=fun e=>Mu (Pm.symm.trans e)
     have Ws2:=oP ND;have Wc6:=oP (Vy rfl);have VH7:(T.getD I endR).kind=kAt T I:=rfl;clear ND hO O Vy WU1 U Pk Pm Mu;go_upto_region 40 with fail;go_quiet (fail);go_upto_region 41 with fail;obtain⟨wq,L8⟩:=Zg0 (wr.drewN nq);rw[L8];have SI:PX w wq rb xb pb g Kd T I false (liC K9 ⟨#[]⟩ ⟨#[105,110,115]⟩ 0 0 ⟨#[]⟩ (.slice none 0 0) (.slice oa os.length oc)):=fI;have SJ:OpsR wq (pb+1) (.slice oa os.length oc) os:=fJ;have Q6:=oP SI;have Td:=oP SJ;clear SI SJ L8 HO c0 c1 c2 k0;go_cut [241] from 214 to 249 (fun v wx=>∃(J:Nat) (c:Bool),v=.bool c/\PX w wx rb xb pb g Kd T J false (liC K9 ⟨#[]⟩ ⟨#[105,110,115]⟩ 0 0 ⟨#[]⟩ (.slice none 0 0) (.slice oa os.length oc))/\OpsR wx (pb+1) (.slice oa os.length oc) os/\J<T.length/\I<=J/\(c=true->none=R)/\(c=false->(J=I/\os.length=0)\/(J=I+1/\0<os.length/\kAt T I=44)))
     case first=>
      obtain⟨⟨x0,x1,x2,x3,x4,x5,x6,x7⟩,fx⟩:=oY Q6.o.xc;clear x0 x1 x2 x3 x4 x5 x6 fx;by_cases h0:os.length=0
      ·have UA:=mv.1 h0;subst UA;have H0:=oP h0;clear h0;go_wp2_with fail;go_meet;exact⟨I,false,rfl,Q6.o,Td.o,R1.o,jU,fun e=>(by cases e),fun _=>.inl ⟨rfl,H0.o⟩⟩
      have d1:(0:Int)<(os.length:Int):=ae;have H0:Hid (0<os.length):=by show 0<os.length;omega
      have KX:=oP (uR pb g Kd T I false 44 wq Q6.o.ps R1.o);clear h0;go_wp2_with fail;refine KX.o.mono ?_;rintro e To ⟨rfl,UX,Se⟩;have Wz:=oP (Q6.o.grown UX Se);have ZB:=oP (Td.o.pass lW Se);clear UX Se;go_wp2_with fail;go_meet;exact⟨_,!decide ((T.getD I endR).kind=44),rfl,Wz.o,ZB.o,EF R1.o Q8.o,by split <;> omega,fun e=>Ws2.o.nocomma Vl0.o H0.o (by simpa [kAt]using e),fun e=>.inr ⟨by rw[jT dC],H0.o,by simpa [kAt]using e⟩⟩
     obtain⟨J,c,rfl,Wc8,WU2,Xv,WU3,QL,Ll⟩:=hcut;generalize wc=wj at *;have WA8:=oP Wc8;have WU4:=oP WU2;have VQ9:=oP Xv;have XQ:=oP WU3;cases c with
     |true=>
      have HF:=oP (QL rfl);clear Wc8 WU2 Xv WU3 QL Ll;obtain⟨⟨r0,r1,r2,r3,r4,r5,r6,r7⟩,fr⟩:=oY WA8.o.rc;have z0:=fr 0;have z1:=fr 1;have z2:=fr 2;have z3:=fr 3;have z4:=fr 4;have z5:=fr 5;have z6:=fr 6;have z7:=fr 7;obtain⟨⟨x0,x1,x2,x3,x4,x5,x6,x7⟩,fx⟩:=oY WA8.o.xc;have Rr:¬xb=rb:=an;have Oa:¬rb=xb:=an;have OB:¬pb=rb:=an;have K7:¬rb=pb:=an;have Kg:¬g=rb:=an;have Nv:¬rb=g:=an;clear fr;go_wp2_with fail;exact AP WA8.o HF.o 0 _ _ _ _ _ _ _ _ rfl rfl rfl
     |false=>
      obtain⟨q,hq⟩:=Zg0 (o7 (T.drop J));have Zy:=oP (Ws2.o.next R1.o Vl0.o (Ll rfl) Q8.o Xv hq);have Pj:=oP (Hf Xv Q8.o);have Z:=oP (Z5J pb g Kd T J false wj.drew (Wc8.ps.kept rfl rfl jU) Xv Q8.o);rw[hq]at Pj Z;obtain⟨⟨x0,x1,x2,x3,x4,x5,x6,x7⟩,fx⟩:=oY Wc8.xc;have Zz:=Wc8.ps.lt;clear x0 x1 x2 x3 x4 x5 x6 fx Wc8 WU2 Xv WU3 QL Ll hq;go_upto_region 43 with fail;go_region_law (first| (refine zi 86 #[.pointer (some ⟨pb,0,none⟩)] rfl cX _ (fun v A=>∃ya yn yc,v=.agg #[.string q.1.fixed,.int .i64 (q.1.number:Int),.int .u8 (q.1.sign.toNat:Int),.slice ya yn yc]/\A.ownsRow wj.drew.heap.size 229 5 (.slice ya yn yc) q.1.e.length (qv q.1.e)/\RPS A pb g Kd T (J+q.2.1) (false||!q.2.2)/\wj.drew.grownBy A (some pb)) Z.o (fun e w' hh=>gu) ?_;rintro v A ⟨ya,yn,yc,rfl,Tm,UU,M⟩;have Sd:wj.grownBy A (some pb):=⟨M.os,M.tape,M.output,M.size,M.block⟩;have Qc:=oP (WA8.o.grown UU Sd);have UI:=(oY Qc.o.xc).1.2.2.2.2.2.2.2;have O2:xb<A.heap.size:=oV Qc.o.xc;have SH:¬A.heap.size=xb:=(ae);have LR:¬xb=A.heap.size:=(ae);obtain⟨cs,h1,h2⟩:=(WU4.o.pass lW Sd).row;have H1:=oP h1;have H2:=oP h2;have HE:=oP (pC Tm (show pb+1<=wj.drew.heap.size from Zz));have VH6:pb+1<=A.heap.size:=Qc.o.ps.lt;clear UU Tm M h1 h2 Sd)|(refine xj rfl (.tmp 244) (.tmp 247) 90 rfl (pb+1) 174 OF _ 4 56 underlying90 hi KJ KC Ky rfl ah (.slice oa os.length oc) os.length cs aB (by exact H1.o.alloc _) ⟨A.heap.size,0,none⟩ 1 1 [.string q.1.fixed,.int .i64 (q.1.number:Int),.int .u8 (q.1.sign.toNat:Int),.slice ya yn yc] aB rfl (IP _ _ _ _ _ _) (by intro u hu;simp at hu;rcases hu with rfl|rfl|rfl|rfl <;> rfl) (by have:=Ws0.o;unfold maxLen;omega) (by have:=Ws0.o;omega) ai ?_;intro v2 wn Kc Kg Kj;obtain⟨va,vc,rfl⟩:=rP Kc;have HA:=oP (Iu (o:=q.1) Qc.o H1.o H2.o HE.o (jV.alloc jU _) Kc Kg);have f7:wn.frozen? ⟨xb,7,none⟩=false:=(ku (a:=⟨xb,7,none⟩) HA.o.1).trans ((oY Qc.o.xc).2 7);have x8:=(jW (a:=⟨xb,7,none⟩) HA.o.1).trans UI;clear Kc Kg Kj))
      all_goals
       obtain⟨_,ZA,Wc7⟩:=HA.o;have Vj:=oP ZA;have WU0:=oP Wc7;have hl:(os++[q.1]).length=os.length+1:=af
       have Wr9:Hid (∀b:Bool,b = !q.2.2->b=false->os.length+1<=J+q.2.1/\I<J+q.2.1):=fun b hb e=>by
        have h1:=Wc6.o;have h2:=Pj.o.2 (by rw[hb]at e;simpa using e);have h3:=XQ.o;omega
       clear ZA Wc7 HA H1 H2 HE Qc UI x7 Z;go_wp2_with fail;go_roundw
       case rel=>exact⟨_,os++[q.1],va,vc,_,by rw[hl];exact Vj.o,by rw[hl];exact WU0.o,by rw[hl];have:=Wc6.o;have:=XQ.o;omega,Pj.o.1,fun e=>by rw[hl];exact(Wr9.o _ rfl e).1,Zy.o⟩
       case measure=>exact Jn Qm.o.ps Vj.o.ps R1.o (fun e _=>(Wr9.o _ rfl e).2)
