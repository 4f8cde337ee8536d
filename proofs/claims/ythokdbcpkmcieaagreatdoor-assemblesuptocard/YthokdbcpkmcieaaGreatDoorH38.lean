import Derived.Test.YthokdbcpkmcieaaGreatDoorH37
set_option maxRecDepth 200000
set_option maxHeartbeats 16000000
namespace Go.Proofs.YthokdbcpkmcieaaGreatDoor
open RowKit Proofs.Tryz
theorem RAM.drew{w:World}{ab base:Nat}{a:RAsm}(h:RAM w ab base a):RAM w.drew ab base a:=h.below ⟨rfl,rfl,rfl,jU,fun _ _=>rfl⟩
theorem AChg.drew{w w':World}{ab base:Nat}(h:AChg w w' ab base):AChg w w'.drew ab base:=⟨h.os,h.tape,h.output,h.size,h.block⟩
theorem vj(ab base:Nat)(a:RAsm)(n:Int)(e:Nat)(lo hi:Int)(M:Bool)(w:World)(h:RAM w ab base a)(hn:-2000000<=n/\n<=2000000)(X6:-65536<=lo)(O:a.pl+(if M=true then 2 else 1)<=1024):Calls prog 93 #[.pointer (some ⟨ab,0,none⟩),.int .i64 n,.int .i64 (e:Int),.int .i64 lo,.int .i64 hi,.int .i64 (if M=true then 2 else 1)] w (vA w ab base (pM a n e lo hi M)):=by
 obtain⟨R,A⟩:=Zg0 (pM a n e lo hi M);rw[A];unfold pM at A;have H:=oP h;obtain⟨K,hK⟩:∃K:Int,(if M=true then (2:Int) else 1)=K:=⟨_,rfl⟩;rw[hK];have HK:=oP hK;clear hK;by_cases h3:e=3
 ·rw[jT h3]at A;have HR:=oP A;have b1:((e:Int)==3)=true:=by rw[h3];rfl
  have HE:=oP h3;clear A h h3;go_enter func93,ntmps93;go_wp2_with fail;go_ret;exact⟨by rw[<-HR.o,HE.o];rfl,AChg.refl _ _ _,by rw[<-HR.o];exact H.o⟩
 rw[jS h3]at A;have b1:((e:Int)==3)=false:=ai;clear h3;by_cases D:e≠0\/n<lo\/hi<n
 ·rw[jT D]at A;have HR:=oP A
  have hq:((e:Int) != 0)=true\/(((e:Int) != 0)=false/\(decide (n<lo)=true\/(decide (n<lo)=false/\decide (hi<n)=true))):=by
   by_cases c:e=0
   ·refine .inr ⟨by rw[c];rfl,?_⟩;by_cases d:n<lo
    ·exact .inl (kj d)
    refine .inr ⟨j9 d,kj ?_⟩;rcases D with q|q|q
    ·exact absurd c q
    ·exact absurd q d
    exact q
   exact .inl ai
  clear A h D O;rcases hq with b2|⟨b2,b3|⟨b3,b4⟩⟩
  all_goals
   go_enter func93,ntmps93;go_wp2_with fail;go_ret;exact⟨cC,AChg.refl _ _ _,by rw[<-HR.o];exact H.o⟩
 rw[jS D]at A;have RV:e=0:=T1d fun q=>D (.inl q)
 have hl:¬n<lo:=fun q=>D (.inr (.inl q))
 have hh:¬hi<n:=fun q=>D (.inr (.inr q))
 have b2:((e:Int) != 0)=false:=by rw[RV];rfl
 have b3:decide (n<lo)=false:=j9 hl;have b4:decide (hi<n)=false:=j9 hh;have HR:=oP A;have SA:IntKind.i64.wrap (n+65536)=n+65536:=ar;obtain⟨p,hpl⟩:=Zg0 a.pl;have c1:=h.c1;rw[hpl]at c1 O;have ZH:=oP hpl;have f1:=h.fz 1;have WF7:IntKind.i64.wrap ((p:Int)+1)=(p:Int)+1:=ar;clear A h D RV hpl;cases M with
 |false=>
  have I:(1:Int)=K:=HK.o;subst I;have Qp:p+1<=1024:=O;have Yx:(p:Int)<1024:=ae;have cb:=H.o.cb p ae;have fb:=H.o.fz (2+p);have hz:((toB (IntKind.u8.wrap n)).toNat:Int)=(n+65536)%256:=by rw[zl aL,lG];omega
  have HM:=oP ((H.o.setByte p ae (toB (IntKind.u8.wrap n))).setPl (p+1));rw[hz,show ((p+1:Nat):Int)=(p:Int)+1 from by omega]at HM;have HC:=oP ((AChg.set w ab base (2+p) (.int .u8 ((n+65536)%256))).trans (AChg.set _ ab base 1 (.int .i64 ((p:Int)+1))));clear O hl hh hz;go_enter func93,ntmps93;go_upto_region 9 with fail;go_region
  all_goals
   go_wp2_with fail;go_ret;exact⟨cC,HC.o.drew,by rw[<-HR.o,ZH.o];exact HM.o.drew⟩
 |true=>
  have I:(2:Int)=K:=HK.o;subst I;have Qp:p+2<=1024:=O;have Yx:(p:Int)<1024:=ae;have Vh8:(p:Int)+1<1024:=ae;have cb:=H.o.cb p ae;have fb:=H.o.fz (2+p);have WP4:IntKind.i64.wrap ((p:Int)+1+1)=(p:Int)+1+1:=ar;have VB9:Hid (0<=n+65536):=by show 0<=n+65536;omega
  clear O hl hh;go_enter func93,ntmps93;go_upto_region 7 with fail;go_region
  all_goals
   have KC:((toB (IntKind.u8.wrap (n/256))).toNat:Int)=(n+65536).tdiv 256%256:=by
    rw[zl aL,lG,ox VB9.o];omega
   have Ky:((toB (IntKind.u8.wrap n)).toNat:Int)=(n+65536)%256:=by rw[zl aL,lG];omega
   have J:=(H.o.setByte p ae (toB (IntKind.u8.wrap (n/256)))).drew;rw[KC]at J;have Q1:=oP (AChg.set w ab base (2+p) (.int .u8 ((n+65536).tdiv 256%256))).drew;obtain⟨w5,Lj⟩:=Zg0 ((w.setCell ⟨ab,2+p,none⟩ (.int .u8 ((n+65536).tdiv 256%256))).drew);rw[Lj]at J Q1⊢;have S:=J.c1;have U:({a with bytes:=a.bytes.set p (toB (IntKind.u8.wrap (n/256)))}:RAsm).pl=p:=ZH.o;rw[U]at S;have VC0:=J.fz 1;have G:=J.setPl (p+1);rw[show ((p+1:Nat):Int)=(p:Int)+1 from by omega]at G;have XE:=oP J;clear Lj J U cb fb c1 f1 KC;go_upto_region 9 with fail;have V:=oP (Q1.o.trans (AChg.set w5 ab base 1 (.int .i64 ((p:Int)+1))));obtain⟨w6,L6⟩:=Zg0 (w5.setCell ⟨ab,1,none⟩ (.int .i64 ((p:Int)+1)));rw[L6]at G V⊢;have c6:=G.c1;rw[show (({a with bytes:=a.bytes.set p (toB (IntKind.u8.wrap (n/256))),pl:=p+1}:RAsm).pl:Int)=(p:Int)+1 from by show ((p+1:Nat):Int)=_;omega]at c6;have f6:=G.fz 1;have VP1:=G.cb (p+1) ae;have VP2:=G.fz (2+(p+1));have Z:=oP ((G.setByte (p+1) ae (toB (IntKind.u8.wrap n))).setPl (p+2));rw[Ky,show ((p+2:Nat):Int)=(p:Int)+1+1 from by omega]at Z;have WP5:=oP ((V.o.trans (AChg.set w6 ab base (2+(p+1)) (.int .u8 ((n+65536)%256)))).trans (AChg.set _ ab base 1 (.int .i64 ((p:Int)+1+1))));have Ow:((p:Int)+1).toNat=p+1:=ae;clear L6 G S VC0 Ky;go_region
   all_goals
    go_wp2_with fail;go_ret;exact⟨cC,WP5.o.drew,by rw[<-HR.o,ZH.o];exact Z.o.drew⟩
theorem JM(a:RAsm)(n:Int)(e:Nat)(lo hi:Int)(A:Bool):(pM a n e lo hi A).2.L=a.L:=by
 unfold pM;split
 ·rfl
 split
 ·rfl
 rfl
theorem wV(a:RAsm)(n:Int)(e:Nat)(lo hi:Int)(A:Bool):(pM a n e lo hi A).2.pl<=a.pl+if A=true then 2 else 1:=by
 unfold pM;split
 ·exact ou
 split
 ·exact ou
 exact jU
theorem Z5f(ab base:Nat)(a:RAsm)(k:Nat)(hk:k<17)(o:ROp)(O:Option Addr)(xc:Nat)(st bh:Nat)(w:World)(h:RAM w ab base a)(hX:ExR w O o.e)(hl:o.e.length<=2001)(hn:∀t∈o.e,t.t.n<=10000000)(hs:st<1024)(hb:bh<=1024)(hp:a.pl+pw k<=1024):Calls prog 95 #[.pointer (some ⟨ab,0,none⟩),.string (qd k),.agg #[.string o.fixed,.int .i64 (o.number:Int),.int .u8 (o.sign.toNat:Int),.slice O o.e.length xc],.int .i64 (st:Int),.int .i64 (bh:Int)] w (vA w ab base (qK a k (r9 a o st) st bh)):=by
 obtain⟨V,Z⟩:=Zg0 (r9 a o st);rw[Z];obtain⟨X,Rj⟩:=Zg0 (qd k);rw[Rj];have S:=oP Rj;obtain⟨R,hR⟩:=Zg0 (qK a k V st bh);rw[hR];have HR:=oP hR
 have TF:Hid (-2000000<=V.1/\V.1<=2000000):=by
  show -2000000<=V.1/\V.1<=2000000;rw[<-Z];unfold r9;split
  ·exact⟨ah,ah⟩
  exact yz _ _ _ _ _ ah
 obtain⟨M,hM⟩:=Zg0 o.e.length;have HM:=oP hM;have HV:=oP Z;have HN:=oP (And.intro hl hn);have HX:=oP hX;have Wz0:(st:Int)<1024:=ae;have Tx:(bh:Int)<=1024:=ae;rw[hM];obtain⟨w0,Kv⟩:=Zg0 (w.alloc (.cells #[.string o.fixed,.int .i64 (o.number:Int),.int .u8 (o.sign.toNat:Int),.slice O M xc] 174));have Nn:Below w.heap.size w w0:=cU;have y3:w0.cell? ⟨w.heap.size,3,none⟩=some (.slice O M xc):=by rw[<-Kv];simp
 have Mo:=oP (h.below Nn);have SD:=oP (AChg.below ab base Nn);have NT:=oP Nn;clear Z hR hM hl hn h hX Nn Rj;go_enter func95,ntmps95;go_upto_if 17 with fail;go_cut [11,12] from 14 to 25 (fun VC1 VC2 wx=>VC1=.int .i64 V.1/\VC2=.int .i64 (V.2:Int)/\wx=w0)
 case first=>
  by_cases h0:M=0
  ·have he:V=(0,0):=by
    rw[<-HV.o];unfold r9;rw[jT (mv.1 (HM.o.trans h0))]
   subst he;subst h0;go_wp2_with fail;go_meet;exact⟨rfl,rfl,rfl⟩
  have b0:(0:Int)<(M:Int):=ae
  have VC3:Hid (Calls prog 91 #[.pointer (some ⟨ab,0,none⟩),.slice O M xc,.int .i64 (st:Int)] w0 fun r w'=>r=.returned (.tuple #[.int .i64 V.1,.int .i64 (V.2:Int)])/\w'=w0):=by
   have:=zX Mo.o st ae (xc:=xc) (HX.o.below NT.o) HN.o.1 HN.o.2;have hv:=HV.o;unfold r9 at hv;rw[jS (fun e=>h0 (by rw[<-HM.o,e];rfl))]at hv;rw[hv,HM.o]at this;exact this
  clear h0;go_wp2_with fail;refine VC3.o.mono ?_;rintro e w3 ⟨rfl,LF⟩;rw[LF];clear LF;go_wp2_with fail;go_meet;exact⟨rfl,rfl,rfl⟩
 obtain⟨rfl,rfl,U⟩:=hcut;rw[U];clear U Kv y3;have hx:=S.o;have hr:=HR.o;by_cases h9:k<9
 ·have HF:Hid ((0,a)=R):=by
   unfold qK at hr;rw[jT ae]at hr;exact hr
  have hc:X=⟨#[65]⟩\/X=⟨#[65,66]⟩\/X=⟨#[67]⟩\/X=⟨#[68,80,84,82]⟩\/X=⟨#[64,65,43,68,80,84,82]⟩\/X=⟨#[64,65,43,80,67]⟩\/X=⟨#[64,68,80,84,82]⟩\/X=⟨#[64,82]⟩\/X=⟨#[82]⟩:=by
   rw[<-hx];clear hx hr hp S HR;revert k;decide
  clear h9 hx hr hk hp S HR;rcases hc with rfl|rfl|rfl|rfl|rfl|rfl|rfl|rfl|rfl
  all_goals
   exact Mb3
 by_cases VB:k<15
 ·have hc:∃lo hi sz:Int,Calls prog 93 #[.pointer (some ⟨ab,0,none⟩),.int .i64 V.1,.int .i64 (V.2:Int),.int .i64 lo,.int .i64 hi,.int .i64 sz] w0 (vA w0 ab base R)/\(X=⟨#[35,98,121,116,101]⟩/\lo=(-128)/\hi=255/\sz=1\/X=⟨#[35,119,111,114,100]⟩/\lo=(-32768)/\hi=65535/\sz=2\/X=⟨#[100,105,114]⟩/\lo=0/\hi=255/\sz=1\/X=⟨#[98,105,116]⟩/\lo=0/\hi=255/\sz=1\/X=⟨#[47,98,105,116]⟩/\lo=0/\hi=255/\sz=1\/X=⟨#[97,100,100,114]⟩/\lo=0/\hi=65535/\sz=2):=by
   rcases (show k=9\/k=10\/k=11\/k=12\/k=13\/k=14 by omega) with rfl|rfl|rfl|rfl|rfl|rfl
   ·exact⟨(-128),255,1,by rw[<-hr];exact vj ab base a V.1 V.2 (-128) 255 false w0 Mo.o TF.o ah hp,.inl ⟨hx.symm,rfl,rfl,rfl⟩⟩
   ·exact⟨(-32768),65535,2,by rw[<-hr];exact vj ab base a V.1 V.2 (-32768) 65535 true w0 Mo.o TF.o ah hp,.inr (.inl ⟨hx.symm,rfl,rfl,rfl⟩)⟩
   ·exact⟨0,255,1,fp,.inr (.inr (.inl ⟨hx.symm,rfl,rfl,rfl⟩))⟩
   ·exact⟨0,255,1,fp,.inr (.inr (.inr (.inl ⟨hx.symm,rfl,rfl,rfl⟩)))⟩
   ·exact⟨0,255,1,fp,.inr (.inr (.inr (.inr (.inl ⟨hx.symm,rfl,rfl,rfl⟩))))⟩
   exact⟨0,65535,2,by rw[<-hr];exact vj ab base a V.1 V.2 0 65535 true w0 Mo.o TF.o ah hp,.inr (.inr (.inr (.inr (.inr (⟨hx.symm,rfl,rfl,rfl⟩)))))⟩
  obtain⟨lo,hi,sz,hq,hc⟩:=hc;have Ti:=oP hq;clear h9 VB hx hr hk hp S hq;rcases hc with⟨rfl,rfl,rfl,rfl⟩|⟨rfl,rfl,rfl,rfl⟩|⟨rfl,rfl,rfl,rfl⟩|⟨rfl,rfl,rfl,rfl⟩|⟨rfl,rfl,rfl,rfl⟩|⟨rfl,rfl,rfl,rfl⟩
  all_goals
   go_wp2_with fail;refine Ti.o.mono ?_;rintro e w5 ⟨rfl,Tj,Oq⟩;go_wp2_with fail;go_ret;exact⟨rfl,SD.o.trans Tj,Oq⟩
 unfold qK at hr;rw[jS ae,jS ae,jS ae,jS ae,jS ae]at hr;have A:=hr;clear hr
 have hc:k=15/\X=⟨#[114,101,108]⟩\/k=16/\X=⟨#[112,97,103,101]⟩:=by
  rcases (show k=15\/k=16 by omega) with rfl|rfl
  ·exact .inl ⟨rfl,hx.symm⟩
  exact .inr ⟨rfl,hx.symm⟩
 clear hx S;by_cases D:V.2≠0\/V.1<0\/65535<V.1
 ·rw[jT D]at A;have HF:=oP A;have H6:Hid (Calls prog 89 #[.int .i64 (V.2:Int),.int .i64 6] w0 fun e MB=>e=.returned (.int .i64 (oU V.2 6:Int))/\MB=w0):=ue V.2 6 w0
  have hq:((V.2:Int) != 0)=true\/(((V.2:Int) != 0)=false/\(decide (V.1<0)=true\/(decide (V.1<0)=false/\decide (65535<V.1)=true))):=by
   by_cases c:V.2=0
   ·refine .inr ⟨by rw[c];rfl,?_⟩;by_cases d:V.1<0
    ·exact .inl (kj d)
    refine .inr ⟨j9 d,kj ?_⟩;rcases D with q|q|q
    ·exact absurd c q
    ·exact absurd q d
    exact q
   exact .inl ai
  clear A D h9 VB hk hp HR;rcases hc with⟨rfl,rfl⟩|⟨rfl,rfl⟩
  all_goals
   rcases hq with b2|⟨b2,b3|⟨b3,b4⟩⟩
   all_goals
    go_wp2_with fail;refine H6.o.mono ?_;rintro e w5 ⟨rfl,Lj⟩;rw[Lj];clear Lj;exact Mb3
 rw[jS D]at A;have I:V.2=0:=T1d fun q=>D (.inl q)
 have hl0:¬V.1<0:=fun q=>D (.inr (.inl q))
 have G:¬65535<V.1:=fun q=>D (.inr (.inr q))
 have b2:((V.2:Int) != 0)=false:=by rw[I];rfl
 have b3:decide (V.1<0)=false:=j9 hl0;have b4:decide (65535<V.1)=false:=j9 G;obtain⟨n,hn⟩:∃n:Nat,V.1=(n:Int):=⟨V.1.toNat,ae⟩;clear hk h9 VB;rcases hc with⟨rfl,rfl⟩|⟨rfl,rfl⟩
 ·rw[jT rfl,hn]at A;rw[hn]at b3 b4 G⊢;rw[I]at b2⊢;have HF:=oP A;have SA:IntKind.i64.wrap ((n:Int)-(bh:Int))=(n:Int)-(bh:Int):=ar;have PR:IntKind.i64.wrap ((n:Int)-(bh:Int)+65536)=(n:Int)-(bh:Int)+65536:=ar;have LF:((n:Int)-(bh:Int)+65536).tmod 65536=((n:Int)-(bh:Int)+65536)%65536:=oC ae;obtain⟨d,hd⟩:∃d:Int,((n:Int)-(bh:Int)+65536)%65536=d:=⟨_,rfl⟩;have Wa3:0<=d/\d<65536:=by rw[<-hd];omega
  have HD:=oP hd;rw[hd]at LF;have WP7:IntKind.i64.wrap d=d:=ar;have VC4:IntKind.i64.wrap (d-65536)=d-65536:=ar;clear A D I hl0 hn hd;by_cases NN:32768<=d
  ·have b5:decide (32768<=d)=true:=kj NN;have Ti:Hid (Calls prog 93 #[.pointer (some ⟨ab,0,none⟩),.int .i64 (d-65536),.int .i64 0,.int .i64 (-128),.int .i64 127,.int .i64 1] w0 (vA w0 ab base (pM a (d-65536) 0 (-128) 127 false))):=vj ab base a (d-65536) 0 (-128) 127 false w0 Mo.o ae ah hp
   have HG:Hid (pM a (d-65536) 0 (-128) 127 false=R):=by
    show _=R;rw[<-HF.o];unfold zJ;rw[HD.o,jT NN]
   exact Mbf
  have b5:decide (32768<=d)=false:=j9 NN;have Ti:Hid (Calls prog 93 #[.pointer (some ⟨ab,0,none⟩),.int .i64 d,.int .i64 0,.int .i64 (-128),.int .i64 127,.int .i64 1] w0 (vA w0 ab base (pM a d 0 (-128) 127 false))):=vj ab base a d 0 (-128) 127 false w0 Mo.o ae ah hp
  have HG:Hid (pM a d 0 (-128) 127 false=R):=by
   show _=R;rw[<-HF.o];unfold zJ;rw[HD.o,jS NN]
  exact Mbf
 rw[jS ah,hn]at A;rw[hn]at b3 b4 G⊢;rw[I]at b2⊢;have Mq:((n:Int)).tdiv 2048=(n:Int)/2048:=ox ae;have Me:((bh:Int)).tdiv 2048=(bh:Int)/2048:=ox ae;by_cases J:(n:Int)/2048=(bh:Int)/2048
 case neg=>
  rw[jT J]at A;have HF:=oP A;have b5:((n:Int)/2048 != (bh:Int)/2048)=true:=by simpa using J
  clear A D I hl0 hn J;exact Mb3
 rw[jS (fun q=>q J)]at A;have HF:=oP A;have b5:((n:Int)/2048 != (bh:Int)/2048)=false:=by simpa using J
 have cb:=Mo.o.cb st hs;have fb:=Mo.o.fz (2+st);obtain⟨B,hB⟩:=Zg0 (a.bytes.getD st 0);rw[hB]at cb
 have hz:((B+toB (IntKind.u8.wrap ((n:Int)/256%8*32))).toNat:Int)=((B.toNat:Int)+(n:Int)/256%8*32)%256:=by
  have h1:=zl (z:=IntKind.u8.wrap ((n:Int)/256%8*32)) aL;rw[lG]at h1;rw[T0f,lG];omega
 have Oq:=(Mo.o.setByte st hs (B+toB (IntKind.u8.wrap ((n:Int)/256%8*32)))).drew;rw[hz]at Oq;have Q1:=oP (SD.o.trans (AChg.set w0 ab base (2+st) (.int .u8 (((B.toNat:Int)+(n:Int)/256%8*32)%256))).drew);obtain⟨w5,Lj⟩:=Zg0 ((w0.setCell ⟨ab,2+st,none⟩ (.int .u8 (((B.toNat:Int)+(n:Int)/256%8*32)%256))).drew);rw[Lj]at Oq Q1;have N3:((n:Int)).tmod 256=(n:Int)%256:=oC ae;have Ti:Hid (Calls prog 93 #[.pointer (some ⟨ab,0,none⟩),.int .i64 ((n:Int)%256),.int .i64 0,.int .i64 0,.int .i64 255,.int .i64 1] w5 (vA w5 ab base (pM {a with bytes:=a.bytes.set st (B+toB (IntKind.u8.wrap ((n:Int)/256%8*32)))} ((n:Int)%256) 0 0 255 false))):=vj ab base _ ((n:Int)%256) 0 0 255 false w5 Oq ae ah hp;rw[hB]at HF;clear A D I hl0 hn J hB Oq hz;go_upto_region 23 with fail;go_region
 all_goals
  go_wp2_with fail;refine Ti.o.mono ?_;rintro e w6 ⟨rfl,Wo4,Q2⟩;go_wp2_with fail;go_ret;exact⟨by rw[HF.o];rfl,Q1.o.trans Wo4,by rw[<-HF.o];exact Q2⟩
theorem Z9s(a:RAsm)(k:Nat)(hk:k<17)(v:Int×Nat)(st bh:Nat):(qK a k v st bh).2.pl<=a.pl+pw k:=by
 have hs:pw k=if k<=8 then 0 else if k=10\/k=14 then 2 else 1:=by
  have M:∀k:Fin 17,pw k.val=if k.val<=8 then 0 else if k.val=10\/k.val=14 then 2 else 1:=ah
  exact M ⟨k,hk⟩
 rw[hs];unfold qK;by_cases A:k<=8
 ·rw[jT A,jT A];exact jU
 rw[jS A,jS A];by_cases D:k=9
 ·rw[jT D,jS ae];exact wV ..
 rw[jS D];by_cases G:k=10
 ·rw[jT G,jT ae];exact wV ..
 rw[jS G];by_cases I:k<=13
 ·rw[jT I,jS ae];exact wV ..
 rw[jS I];by_cases J:k=14
 ·rw[jT J,jT ae];exact wV ..
 rw[jS J,jS (show ¬(k=10\/k=14) by omega)];split
 ·exact ou
 split
 ·exact wV ..
 split
 ·exact ou
 exact wV ..
theorem Z4l{x:Ent}(hx:x∈allEnts)(j:Nat)(hj:j<x.2.2.2.length):(⟨(x.2.2.2.getD j []).toArray⟩:ByteArray)=qd ((x.2.2.2.map kd).getD j 0)/\(x.2.2.2.map kd).getD j 0<17:=by
 have hk:=kx.1 CQ x hx;simp only[kB,kI,kx]at hk;obtain⟨D,_,G,_⟩:=hk;have A:j<(x.2.2.2.map kd).length:=bz;have e1:(x.2.2.2.map kd).getD j 0=(x.2.2.2.map kd)[j]:=by rw[jZ,jX A];rfl
 have e2:x.2.2.2.getD j []=(qd ((x.2.2.2.map kd)[j])).data.toList:=by
  have:=lp (fun l:List (List UInt8)=>l.getD j []) D;unfold uJ at this;rw[jZ,kS,jX A]at this;exact this.symm
 rw[e1,e2];exact⟨af,G _ (kC A)⟩
def xZ(ks:List Nat):Nat:=(ks.map pw).sum
theorem Z0K{x:Ent}(hx:x∈allEnts):rk (x.2.2.2.map kd)=1+xZ (x.2.2.2.map kd):=by
 have hk:=kx.1 CQ x hx;simp only[kB,kI,kx]at hk;exact hk.2.2.2.symm
theorem Z3l{ks:List Nat}{q:Nat}(h:q<ks.length):xZ (ks.drop q)=pw (ks.getD q 0)+xZ (ks.drop (q+1)):=by
 unfold xZ;rw[lY h,kZ,T0n,jZ,jX h];rfl
theorem Z0Z:(allEnts.all fun e=>decide (e.1<256)&&(!decide (e.1=133)||decide (rk (e.2.2.2.map kd)=3)))=true:=aq
theorem Z1k{x:Ent}(hx:x∈allEnts):x.1<256/\(x.1=133->rk (x.2.2.2.map kd)=3):=by
 have hk:=kx.1 Z0Z x hx;simp only[kB,kI,mM,mW,lC]at hk;exact⟨hk.1,fun e=>hk.2.resolve_left (fun q=>q e)⟩
def tB(st:Nat)(o:ROp)(a:RAsm):RAsm:=if o.fixed=p9 8\/o.fixed=p9 7 then {a with bytes:=a.bytes.set st (a.bytes.getD st 0+UInt8.ofNat o.number)} else a
theorem Z18(st:Nat)(o:ROp)(a:RAsm):(tB st o a).pl=a.pl/\(tB st o a).L=a.L:=by
 unfold tB;split <;> exact⟨rfl,rfl⟩
theorem Z2O{ks:List Nat}{os:List ROp}{q st bh E:Nat}{a:RAsm}(hk:q<ks.length)(ho:q<os.length):qN st bh (ks.drop q) (os.drop q) E a=qN st bh (ks.drop (q+1)) (os.drop (q+1)) (oU E (qK (tB st (os.getD q op0) a) (ks.getD q 0) (r9 (tB st (os.getD q op0) a) (os.getD q op0) st) st bh).1) (qK (tB st (os.getD q op0) a) (ks.getD q 0) (r9 (tB st (os.getD q op0) a) (os.getD q op0) st) st bh).2:=by
 have h1:=lY hk;have h2:=lY ho;have e1:ks.getD q 0=ks[q]:=by rw[jZ,jX hk];rfl
 have e2:os.getD q op0=os[q]:=by rw[jZ,jX ho];rfl
 rw[h1,h2,qN,e1,e2];rfl
theorem Z7D{ks:List Nat}{os:List ROp}{q st bh E:Nat}{a:RAsm}(ho:os.length<=q):qN st bh (ks.drop q) (os.drop q) E a=(E,a):=by
 rw[mY ho];cases ks.drop q <;> rfl
theorem OpsR.blk{w w':World}{b ab base n D:Nat}{A:Option Addr}{os:List ROp}(h:OpsR w b (.slice A n D) os)(hq:0<os.length)(I:ab<b)(G:AChg w w' ab base):∃g,A=some ⟨g,0,none⟩/\w'.heap[g]?=w.heap[g]?:=by
 obtain⟨cs,h1,_⟩:=h.row;rcases h1.2 with⟨_,h0⟩|⟨g,J,M,h0,O,hc,_⟩
 ·omega
 cases h0;exact⟨g,rfl,G.block g (kV.1 hc).1 ae (.inr fun cs R q=>fo)⟩
theorem OpsIn.blk{w w':World}{ab base n D:Nat}{a:RAsm}{A:Option Addr}{os:List (List UInt8)}(h:OpsIn w (.slice A n D) os)(hq:0<os.length)(hM:RAM w ab base a)(G:AChg w w' ab base):∃g,A=some ⟨g,0,none⟩/\w'.heap[g]?=w.heap[g]?:=by
 rcases h with⟨h0,_⟩|⟨_,b,I,hc⟩
 ·rw[h0]at hq;simp at hq
 cases I;refine⟨b,rfl,G.block b (kV.1 hc).1 (fun e=>?_) (.inr fun cs J q=>fo)⟩;exact MaU
def LnS(x:RLine):Prop:=x.what=⟨#[]⟩\/((x.what=wORG\/x.what=wDS\/x.what=wEQU)/\x.ops.length=1)\/x.what=wDB\/x.what=wDW\/(x.what=wINS/\x.ent∈allEnts)
theorem Z6o(ab base:Nat)(a:RAsm)(x:RLine)(G:Option Addr)(I J:Nat)(O:Option Addr)(S:Nat)(w:World)(h:RAM w ab base a)(b0:Nat)(N4:ab<b0)(hO:OpsR w b0 (.slice O x.ops.length S) x.ops)(hE:OpsIn w (.slice G I J) x.ent.2.2.2)(hB:LnB x)(hL:a.L.length<=2990)(hp:a.pl<=1024)(hS:LnS x):Calls prog 49 #[.pointer (some ⟨ab,0,none⟩),liV x.label x.name x.what (x.ent.1:Int) (x.ent.2.1:Int) ⟨x.ent.2.2.1.toArray⟩ (.slice G I J) (.slice O x.ops.length S)] w (vA w ab base (oT a x)):=by
 obtain⟨R,hR⟩:=Zg0 (oT a x);rw[hR];have HR:=oP hR;have PZ:=oP (Z8i x.label x.name x.what (x.ent.1:Int) (x.ent.2.1:Int) ⟨x.ent.2.2.1.toArray⟩ (.slice G I J) G I J rfl O S x.ops (w.alloc (liC x.label x.name x.what (x.ent.1:Int) (x.ent.2.1:Int) ⟨x.ent.2.2.1.toArray⟩ (.slice G I J) (.slice O x.ops.length S))) (hO.opx.below (jV.alloc jU _)));obtain⟨N,hN⟩:=Zg0 x.ops.length;have HN:=oP hN;obtain⟨lb,NX⟩:=Zg0 x.label;obtain⟨nm,hnm⟩:=Zg0 x.name;obtain⟨D,XF⟩:=Zg0 x.what;have Wb1:=oP NX;have Rz:=oP hnm;have Zg:=oP XF;rw[hN]at hO;rw[hN,NX,hnm,XF]at PZ;rw[hN,NX,hnm,XF];have QY:(w.alloc (liC lb nm D (x.ent.1:Int) (x.ent.2.1:Int) ⟨x.ent.2.2.1.toArray⟩ (.slice G I J) (.slice O N S))).heap.size=w.heap.size+1:=af;obtain⟨w0,Kv⟩:=Zg0 (w.alloc (liC lb nm D (x.ent.1:Int) (x.ent.2.1:Int) ⟨x.ent.2.2.1.toArray⟩ (.slice G I J) (.slice O N S)));rw[Kv]at PZ QY;have NT:Hid (Below w.heap.size w w0):=cU;have MZ:Hid (w0.heap[w.heap.size]?=some (liC lb nm D (x.ent.1:Int) (x.ent.2.1:Int) ⟨x.ent.2.2.1.toArray⟩ (.slice G I J) (.slice O N S))):=dO;have H:=oP h;have HO:=oP hO;have OJ:=oP hB;have Qs:=oP hL;have HP:=oP hp;obtain⟨xb,NV⟩:=Zg0 w.heap.size;have YR:=oP NV;rw[NV]at MZ QY;have WP8:=oP QY;unfold liC at Kv;have Yx:(a.pl:Int)<=1024:=ae;unfold liV at PZ⊢;obtain⟨⟨y0,y1,y2,y3,y4,y5,y6,y7⟩,_⟩:=oY MZ.o;clear hR h hO hB hL hN NX hnm XF QY hp;go_enter func49,ntmps49;go_wp2_with fail;refine PZ.o.mono ?_;rintro e w1 ⟨rfl,Kn⟩;have KK:=oP Kn;have Wb2:Hid (w1.heap[xb]?=some (liC lb nm D (x.ent.1:Int) (x.ent.2.1:Int) ⟨x.ent.2.2.1.toArray⟩ (.slice G I J) (.slice O N S))):=xw Kn (by have:=WP8.o;omega) MZ.o;have Wm:=oP (NT.o.trans (Kn.mono NT.o.size));have H1:=oP (H.o.below Wm.o);obtain⟨⟨x0,x1,x2,x3,x4,x5,x6,x7⟩,_⟩:=oY Wb2.o;clear PZ Kn Kv NV y0 y1 y2 y3 y4 y5 y6 y7 x1 x2 x3 x4 x5 x6 x7;go_upto_if 14 with fail;obtain⟨E0,SG⟩:=Zg0 (xS x.ops);rw[SG];have Tu:=oP SG;clear SG;go_cut [5] from 12 to 24 (fun v wx=>v=.int .i64 (pX a x:Int)/\RAM wx ab base (oS a x)/\AChg w wx ab base/\wx.heap[xb]?=some (liC lb nm D (x.ent.1:Int) (x.ent.2.1:Int) ⟨x.ent.2.2.1.toArray⟩ (.slice G I J) (.slice O N S)))
 case first=>
  by_cases hl:lb=⟨#[]⟩
  ·have HQ:Hid (pX a x=E0/\oS a x=a):=by
    show pX a x=E0/\oS a x=a;unfold pX oS;rw[Wb1.o,jT hl,jT hl];exact⟨Tu.o,rfl⟩
   have N6:lb.toList.isEmpty=true:=by rw[hl,lB];rfl
   have OD:(!lb.toList.isEmpty)=false:=by simp[N6]
   clear hl;first| rw[OD]|skip
   go_wp2_with fail;go_meet;exact⟨by rw[HQ.o.1],by rw[HQ.o.2];exact H1.o,AChg.below ab base Wm.o,Wb2.o⟩
  have HQ:Hid (pX a x=oU E0 (rD a.L lb)/\oS a x = {a with L:=a.L++[(lb,(a.pl:Int))]}):=by
   show pX a x=_/\oS a x=_;unfold pX oS;rw[Wb1.o,jS hl,jS hl,Tu.o];exact⟨rfl,rfl⟩
  have N6:=BN hl;have OD:(!lb.toList.isEmpty)=true:=by simp[N6]
  have c1:=H1.o.c1;have YP:=oP (I8 ab base a lb (a.pl:Int) ae (by have:=Qs.o;omega) w1.drew (H1.o.below ⟨rfl,rfl,rfl,jU,fun _ _=>rfl⟩));have UJ:Hid (∀w',Calls prog 89 #[.int .i64 (E0:Int),.int .i64 (rD a.L lb:Int)] w' fun e MB=>e=.returned (.int .i64 (oU E0 (rD a.L lb):Int))/\MB=w'):=fun w'=>ue _ _ w'
  clear hl;first| rw[OD]|skip
  go_upto_region 3 with fail;go_region_with (first| (go_at_call 90;refine YP.o.mono ?_;rintro e w2 ⟨rfl,Mc,Ps⟩;have O0:=oP Mc;have Rq:=oP Ps;clear Mc Ps)|(go_at_call 89;refine(UJ.o _).mono ?_;rintro e w4 ⟨rfl,Rp⟩;rw[Rp];clear Rp))
  all_goals
   go_wp2_with fail;go_meet;have hC:AChg w1 w2 ab base:=⟨Rq.o.os,Rq.o.tape,Rq.o.output,Rq.o.size,Rq.o.block⟩;exact⟨by rw[HQ.o.1],by rw[HQ.o.2];exact O0.o,(AChg.below ab base Wm.o).trans hC,(hC.block xb (oV Wb2.o) (by have h1:=H.o.lt;have h2:=YR.o;omega) (.inr fun cs fr q=>by rw[Wb2.o]at q;unfold liC at q;simp at q)).trans Wb2.o⟩
 obtain⟨rfl,Vi0,WP9,Wg2⟩:=hcut;generalize wc=wz at *;have Wb3:=oP Vi0;have Wz1:=oP WP9;have Wo5:=oP Wg2;obtain⟨A,ZS⟩:=Zg0 (pX a x);rw[ZS];have Tk:=oP ZS;obtain⟨⟨WO7,x1,x2,x3,x4,x5,x6,x7⟩,_⟩:=oY Wg2;have OY:=oP (WP9.opsR HO.o N4);clear Vi0 WP9 Wg2 ZS x0 WO7 H1 Wb2 Wm KK Tu MZ
 have Oy:x.what=⟨#[]⟩\/(((x.what=wORG/\D=⟨#[111,114,103]⟩)\/(x.what=wDS/\D=⟨#[100,115]⟩)\/(x.what=wEQU/\D=⟨#[101,113,117]⟩))/\x.ops.length=1)\/(((x.what=wDB/\D=⟨#[100,98]⟩)\/(x.what=wDW/\D=⟨#[100,119]⟩)\/(x.what=wINS/\D=⟨#[105,110,115]⟩))/\pg x<=4002):=by
  rw[<-Zg.o];have NX:=OJ.o.1;rcases hS with hw|⟨hw|hw|hw,hn⟩|hw|hw|⟨hw,he⟩
  ·exact .inl hw
  ·exact .inr (.inl ⟨.inl ⟨hw,hw⟩,hn⟩)
  ·exact .inr (.inl ⟨.inr (.inl ⟨hw,hw⟩),hn⟩)
  ·exact .inr (.inl ⟨.inr (.inr ⟨hw,hw⟩),hn⟩)
  ·refine .inr (.inr ⟨.inl ⟨hw,hw⟩,?_⟩);unfold pg;rw[hw,jT ah];omega
  ·refine .inr (.inr ⟨.inr (.inl ⟨hw,hw⟩),?_⟩);unfold pg;rw[hw,jS ah,jT ah];omega
  refine .inr (.inr ⟨.inr (.inr ⟨hw,hw⟩),?_⟩);unfold pg;rw[hw,jS ah,jS ah,jT ah];exact j8 (Z05 he) ah
 rcases Oy with hw|⟨hq,hn1⟩|⟨hq,Wb4⟩
 ·clear hE hS;have LA:D=⟨#[]⟩:=by rw[<-Zg.o];exact hw
  have HF:Hid ((A,oS a x)=R):=by
   show (A,oS a x)=R;rw[<-HR.o,<- Tk.o];unfold oT;rw[jT hw]
  rw[LA]at x2;clear hw LA;go_wp2_with fail;go_ret;exact⟨aM,Wz1.o,by rw[<-HF.o];exact Wb3.o⟩
 ·clear hE hS;rcases hq with⟨hw,LA⟩|⟨hw,LA⟩|⟨hw,LA⟩
  all_goals
   obtain⟨V,hV⟩:=Zg0 (rVF (oS a x).L (a.pl:Int) (x.ops.getD 0 op0).e 0 0);have Su:0<N:=by rw[<-HN.o,hn1];decide
   have hn0:(0:Int)<(N:Int):=ae;obtain⟨ob,Ml⟩:=OY.o.opx.at_;obtain⟨o0,_,_,_,_,xa,xc,o3,o4,_⟩:=Ml 0 (by rw[HN.o];exact Su)
   have LN:x.ops.getD 0 op0∈x.ops:=by
    rw[jZ,jX (by rw[hn1];decide)];exact kC _
   have Mf:=OJ.o.2 _ LN;have Oe:(oS a x).pl=a.pl:=fq
   have HV:Hid (∀n,Calls prog 91 #[.pointer (some ⟨ab,0,none⟩),.slice xa (x.ops.getD 0 op0).e.length xc,.int .i64 (a.pl:Int)] (wz.drewN n) fun r w'=>r=.returned (.tuple #[.int .i64 V.1,.int .i64 (V.2:Int)])/\w'=wz.drewN n):=fun n=>by
    have:=zX (Wb3.o.below (show Below wz.heap.size wz (wz.drewN n) from ⟨rfl,rfl,rfl,jU,fun _ _=>rfl⟩)) a.pl dS (xc:=xc) (o4.below (show Below wz.heap.size wz (wz.drewN n) from ⟨rfl,rfl,rfl,jU,fun _ _=>rfl⟩)) Mf.1 Mf.2;rw[hV]at this;exact this
   have TF:Hid (-2000000<=V.1/\V.1<=2000000):=by show -2000000<=V.1/\V.1<=2000000;rw[<-hV];exact yz _ _ _ _ _ ah
   have Qx:=oP hV;have c1:=Wb3.o.c1;rw[Oe]at c1;rw[LA]at x2;rw[o0]at x7;rw[nH,kN]at o3;obtain⟨M,hM⟩:=Zg0 ((x.ops.getD 0 op0).e.length);rw[hM]at o3 HV;clear Ml o4 LN Mf Oe hV hM hn1 o0;go_upto_region 10 with fail;go_quiet (first| (go_at_call 91;exact nL (HV.o _)));go_upto_region 11 with fail;obtain⟨wq,L8⟩:=Zg0 (wz.drewN nq);rw[L8];have R2:Hid (Below wz.heap.size wz wq):=gj;have Qe:=oP (Wb3.o.below R2.o);have WQ0:Hid (wq.heap[xb]?=some (liC lb nm D (x.ent.1:Int) (x.ent.2.1:Int) ⟨x.ent.2.2.1.toArray⟩ (.slice G I J) (.slice O N S))):=xw R2.o (oV Wo5.o) Wo5.o;have Tl:=oP (Wz1.o.trans (AChg.below ab base R2.o));have UJ:Hid (∀w',Calls prog 89 #[.int .i64 (A:Int),.int .i64 (V.2:Int)] w' fun e MB=>e=.returned (.int .i64 (oU A V.2:Int))/\MB=w'):=fun w'=>ue _ _ w'
   clear L8 x1 x2 x3 x4 x5 x6 x7 c1 o3;obtain⟨⟨x0,x1,x2,x3,x4,x5,x6,x7⟩,_⟩:=oY WQ0.o;rw[LA]at x2;go_wp2_with fail;refine(UJ.o _).mono ?_;rintro e w3 ⟨rfl,LF⟩;rw[LF];clear LF;obtain⟨E2,SW⟩:=Zg0 (oU A V.2);rw[SW];have NO:=oP SW;clear SW
  ·by_cases hf:V.2=0
   case neg=>exact MaA
   have UK:E2=A:=by
    rw[<-NO.o,hf];unfold oU;split <;> omega
   have b1:((V.2:Int) != 0)=false:=by rw[hf];rfl
   rw[UK];have H6:Hid (∀w',Calls prog 89 #[.int .i64 (A:Int),.int .i64 6] w' fun e MB=>e=.returned (.int .i64 (oU A 6:Int))/\MB=w'):=fun w'=>ue A 6 w'
   have f1:=Qe.o.fz 1;have c1:=Qe.o.c1;have Oe:(oS a x).pl=a.pl:=fq;rw[Oe]at c1;have MH:=TF.o;clear UK NO Oe;by_cases U:V.1<0
   case pos=>
    have b3:decide (V.1<0)=true:=kj U
    have HF:Hid ((oU A 6,oS a x)=R):=by
     show (oU A 6,oS a x)=R;rw[<-HR.o];unfold oT;rw[Qx.o,Tk.o,jS au,jT au,jS au,jS (fun q=>q hf),jT (show x.what=wORG from hw),jT (.inl U)]
    exact Ma2
   by_cases Z:1023<V.1
   case pos=>
    have b3:decide (V.1<0)=false:=j9 U
    have HF:Hid ((oU A 6,oS a x)=R):=by
     show (oU A 6,oS a x)=R;rw[<-HR.o];unfold oT;rw[Qx.o,Tk.o,jS au,jT au,jS au,jS (fun q=>q hf),jT (show x.what=wORG from hw),jT (.inr Z)]
    exact Ma2
   have b3:decide (V.1<0)=false:=j9 U;have b4:decide (1023<V.1)=false:=j9 Z
   have HF:Hid ((A,{oS a x with pl:=V.1.toNat})=R):=by
    show (A,{oS a x with pl:=V.1.toNat})=R;rw[<-HR.o];unfold oT;rw[Qx.o,Tk.o,jS au,jT au,jS au,jS (fun q=>q hf),jT (show x.what=wORG from hw),jS (fun q=>q.elim U Z)]
   obtain⟨p,QB⟩:∃p:Nat,V.1=(p:Int):=⟨V.1.toNat,ae⟩;have UL:V.1.toNat=p:=ae;rw[UL]at HF;rw[QB]at b3 b4⊢;have Wn:=oP (Qe.o.setPl p);have Rg:=oP (Tl.o.trans (AChg.set wq ab base 1 (.int .i64 (p:Int))));clear hf hw LA U Z QB UL HV TF MH Qx UJ;exact Mb4
  ·by_cases hf:V.2=0
   case neg=>exact MaA
   have UK:E2=A:=by
    rw[<-NO.o,hf];unfold oU;split <;> omega
   have b1:((V.2:Int) != 0)=false:=by rw[hf];rfl
   rw[UK];have H6:Hid (∀w',Calls prog 89 #[.int .i64 (A:Int),.int .i64 6] w' fun e MB=>e=.returned (.int .i64 (oU A 6:Int))/\MB=w'):=fun w'=>ue A 6 w'
   have f1:=Qe.o.fz 1;have c1:=Qe.o.c1;have Oe:(oS a x).pl=a.pl:=fq;rw[Oe]at c1;have MH:=TF.o;clear UK NO Oe;have M8:IntKind.i64.wrap ((a.pl:Int)+V.1)=(a.pl:Int)+V.1:=ar;by_cases U:V.1<0
   case pos=>
    have b3:decide (V.1<0)=true:=kj U
    have HF:Hid ((oU A 6,oS a x)=R):=by
     show (oU A 6,oS a x)=R;rw[<-HR.o];unfold oT;rw[Qx.o,Tk.o,jS au,jT au,jS au,jS (fun q=>q hf),jS au,jT (.inl U)]
    exact Ma2
   by_cases Z:1024<V.1
   case pos=>
    have b3:decide (V.1<0)=false:=j9 U
    have HF:Hid ((oU A 6,oS a x)=R):=by
     show (oU A 6,oS a x)=R;rw[<-HR.o];unfold oT;rw[Qx.o,Tk.o,jS au,jT au,jS au,jS (fun q=>q hf),jS au,jT (.inr ae)]
    exact Ma2
   by_cases Q3:1024<(a.pl:Int)+V.1
   case pos=>
    have b3:decide (V.1<0)=false:=j9 U;have b4:decide (1024<V.1)=false:=j9 Z
    have HF:Hid ((oU A 6,oS a x)=R):=by
     show (oU A 6,oS a x)=R;rw[<-HR.o];unfold oT;rw[Qx.o,Tk.o,jS au,jT au,jS au,jS (fun q=>q hf),jS au,jT (.inr Q3)]
    exact Ma2
   have b3:decide (V.1<0)=false:=j9 U;have b4:decide (1024<V.1)=false:=j9 Z;have b5:decide (1024<(a.pl:Int)+V.1)=false:=j9 Q3
   have HF:Hid ((A,{oS a x with pl:=a.pl+V.1.toNat})=R):=by
    show (A,{oS a x with pl:=a.pl+V.1.toNat})=R;rw[<-HR.o];unfold oT;rw[Qx.o,Tk.o,jS au,jT au,jS au,jS (fun q=>q hf),jS au,jS (fun q=>q.elim U Q3)]
   obtain⟨p,QB⟩:∃p:Nat,V.1=(p:Int):=⟨V.1.toNat,ae⟩;have UL:V.1.toNat=p:=ae;rw[UL]at HF;rw[QB]at b3 b4 b5 M8⊢;have Wn:=oP (Qe.o.setPl (a.pl+p));have Rg:=oP (Tl.o.trans (AChg.set wq ab base 1 (.int .i64 ((a.pl+p:Nat):Int))));rw[show ((a.pl+p:Nat):Int)=(a.pl:Int)+(p:Int) from by omega]at Wn Rg;clear hf hw LA U Z Q3 QB UL HV TF MH Qx UJ;exact Mb4
  have YP:=oP (I8 ab base (oS a x) nm V.1 TF.o (by have:=Qs.o;unfold oS;split <;> simp <;> omega) wq Qe.o);obtain⟨E3,Vu⟩:=Zg0 (rD (oS a x).L nm);rw[Vu]at YP;have Yw:Hid (∀w',Calls prog 89 #[.int .i64 (E2:Int),.int .i64 (E3:Int)] w' fun e MB=>e=.returned (.int .i64 (oU E2 E3:Int))/\MB=w'):=fun w'=>ue _ _ w'
  have HF:Hid ((oU E2 E3,{oS a x with L:=(oS a x).L++[(nm,V.1)]})=R):=by
   show _=R;rw[<-HR.o,<- NO.o,<- Tk.o,<- Vu,<- Qx.o,<- Rz.o];unfold oT;rw[jS au,jT au,jT hw]
  clear Vu hw LA;go_wp2_with fail;refine YP.o.mono ?_;rintro e w4 ⟨rfl,Ul,UM⟩;have Wo6:=oP Ul;have Wz2:=oP UM;clear Ul UM;go_wp2_with fail;refine(Yw.o _).mono ?_;rintro e w5 ⟨rfl,Lj⟩;rw[Lj];clear Lj;go_wp2_with fail;go_ret;exact⟨aM,Tl.o.trans Wz2.o,by rw[<-HF.o];exact Wo6.o⟩
 have hE:=fun e:x.what=wINS=>And.intro (show x.ent∈allEnts from by
  rcases hS with hw|⟨hw|hw|hw,_⟩|hw|hw|⟨_,he⟩
  case inr.inr.inr.inr=>exact he
  all_goals
   rw[hw]at e;exact absurd e ah) hE
 have WQ1:=oP (Dn x G I J O S wz (fun e=>⟨(hE e).1,Wz1.o.opsIn H.o (hE e).2⟩) (by have:=OJ.o.1;omega));clear hE hS;rcases hq with⟨hw,LA⟩|⟨hw,LA⟩|⟨hw,LA⟩
 all_goals
  have Q4:=WQ1;obtain⟨n,Mh⟩:=Zg0 (pg x);rw[Wb1.o,Rz.o,Zg.o,HN.o,Mh]at Q4;rw[Mh]at Wb4;unfold liV at Q4;rw[LA]at x2 Q4;obtain⟨⟨x0,_⟩,_⟩:=oY Wo5.o;go_wp2_with fail;refine Q4.o.mono ?_;rintro e w4 ⟨rfl,MI⟩;have Wo6:=oP (Wb3.o.below MI);have Wz2:=oP (Wz1.o.trans (AChg.below ab base MI));have VC5:Hid (w4.heap[xb]?=some (liC lb nm D (x.ent.1:Int) (x.ent.2.1:Int) ⟨x.ent.2.2.1.toArray⟩ (.slice G I J) (.slice O N S))):=xw MI (oV Wo5.o) Wo5.o;have Oe:(oS a x).pl=a.pl/\(oS a x).laid=a.laid/\(oS a x).starts=a.starts:=by unfold oS;split <;> exact⟨rfl,rfl,rfl⟩
  have c1:=Wo6.o.c1;rw[Oe.1]at c1;have M8:IntKind.i64.wrap ((a.pl:Int)+(n:Int))=(a.pl:Int)+(n:Int):=ar;clear MI Q4 x0 x1 x2 x3 x4 x5 x6 x7;by_cases Z:1024<a.pl+n
  case pos=>
   have b1:(1024:Int)<(a.pl:Int)+(n:Int):=ae;have H6:Hid (∀w',Calls prog 89 #[.int .i64 (A:Int),.int .i64 6] w' fun e MB=>e=.returned (.int .i64 (oU A 6:Int))/\MB=w'):=fun w'=>ue A 6 w'
   have HF:Hid ((oU A 6,oS a x)=R):=by
    show (oU A 6,oS a x)=R;rw[<-HR.o];unfold oT;rw[Mh,Tk.o,jS au,jS au,jT Z]
   clear hw LA Z;go_wp2_with fail;refine(H6.o _).mono ?_;rintro e w5 ⟨rfl,Lj⟩;rw[Lj];clear Lj;go_wp2_with fail;go_ret;exact⟨aM,Wz2.o,by rw[<-HF.o];exact Wo6.o⟩
  have b1:¬(1024:Int)<(a.pl:Int)+(n:Int):=ae;have Vi1:=oP Z;have H7:Hid (∀(E:Nat) (w':World),Calls prog 89 #[.int .i64 (E:Int),.int .i64 7] w' fun e MB=>e=.returned (.int .i64 (oU E 7:Int))/\MB=w'):=fun E w'=>ue E 7 w'
  have HF:Hid ((vo a A n,{oS a x with pl:=a.pl+n,laid:=qm a.laid a.pl n,starts:=if x.what=wINS then a.starts.set a.pl true else a.starts})=R):=by
   show (vo a A n,{oS a x with pl:=a.pl+n,laid:=qm a.laid a.pl n,starts:=if x.what=wINS then a.starts.set a.pl true else a.starts})=R;rw[<-HR.o];unfold oT;rw[Mh,Tk.o,jS (show ¬x.what=⟨#[]⟩ by rw[hw];decide),jS (show ¬(x.what=wORG\/x.what=wDS\/x.what=wEQU) by rw[hw];decide),jS Z];rfl
  have MJ:=oP Oe;clear Z Oe;go_upto_region 29 with fail;clear b1;go_wp2_with fail;go_loopw [5,9] (fun v y wr=>∃q:Nat,a.pl<=q/\q<=a.pl+n/\y=.int .i64 (q:Int)/\v=.int .i64 (vo a A (q-a.pl):Int)/\RAM wr ab base {oS a x with laid:=qm a.laid a.pl (q-a.pl)}/\AChg w wr ab base/\wr.heap[xb]?=some (liC lb nm D (x.ent.1:Int) (x.ent.2.1:Int) ⟨x.ent.2.2.1.toArray⟩ (.slice G I J) (.slice O N S))) (fun _ y _=>(a.pl+n)-(intOf y).toNat)
  case atStart=>exact⟨a.pl,jU,ou,rfl,by rw[my,Z6u],by rw[my];have:=Wo6.o;rw[<-MJ.o.2.1];exact this,Wz2.o,VC5.o⟩
  case round=>
   clear c1;obtain⟨q,Mq,Me,rfl,rfl,Zh,Wz3,Wo7⟩:=hrel;have Zi:=oP Zh;have Vi2:=oP Wz3;have Wy8:=oP Wo7;have c1:=Zh.c1;have QL:({oS a x with laid:=qm a.laid a.pl (q-a.pl)}:RAsm).pl=a.pl:=MJ.o.1;rw[QL]at c1;have MQ:=oP Mq;by_cases Kf:q<a.pl+n
   ·have Wg:(q:Int)<(a.pl:Int)+(n:Int):=by omega
    have TC:q<1024:=by have:=Vi1.o;omega
    have WQ2:(q:Int)<1024:=ae;have L8:IntKind.i64.wrap ((q:Int)+1)=(q:Int)+1:=ar;have cl:=Zh.cl q TC;have fl:=Zh.fz (1026+q);obtain⟨Lq,WQ3⟩:∃b,({oS a x with laid:=qm a.laid a.pl (q-a.pl)}:RAsm).laid.getD q false=b:=⟨_,rfl⟩;rw[WQ3]at cl;have KF:=oP (Z6X (E:=A) (by rw[<-MJ.o.2.1];exact Wb3.o.len.2.1) Mq TC WQ3)
    have Pz:Hid (RAM (wr.setCell ⟨ab,1026+q,none⟩ (.bool true)) ab base {oS a x with laid:=qm a.laid a.pl (q+1-a.pl)}):=by
     have:=Zh.setLaid q TC;rw[show q+1-a.pl=(q-a.pl)+1 by omega];show RAM _ ab base {oS a x with laid:=(qm a.laid a.pl (q-a.pl)).set (a.pl+(q-a.pl)) true};rw[show a.pl+(q-a.pl)=q by omega];exact this
    have Vi3:=oP (Wz3.trans (AChg.set wr ab base (1026+q) (.bool true)));have Vi4:Hid ((wr.setCell ⟨ab,1026+q,none⟩ (.bool true)).heap[xb]?=some (liC lb nm D (x.ent.1:Int) (x.ent.2.1:Int) ⟨x.ent.2.2.1.toArray⟩ (.slice G I J) (.slice O N S))):=(kk wr ⟨ab,1026+q,none⟩ xb _ (by have h1:=H.o.lt;have h2:=YR.o;simp;omega)).trans Wo7;have Wo:=oP Kf;obtain⟨EQ,WQ4⟩:∃e,vo a A (q-a.pl)=e:=⟨_,rfl⟩;rw[WQ4]at KF;rw[WQ4];clear Zh Wz3 Wo7 WQ3 QL Mq Me Kf WQ4;cases Lq with
    |true=>
     rw[jT rfl]at KF;go_wp2_with fail;refine(H7.o _ _).mono ?_;rintro e w5 ⟨rfl,Lj⟩;rw[Lj];clear Lj;exact Mbd
    |false=>
     rw[jS ah]at KF;exact Mbd
   have XG:q=a.pl+n:=ae;subst XG;have Wg:¬((a.pl+n:Nat):Int)<(a.pl:Int)+(n:Int):=ae;rw[show a.pl+n-a.pl=n by omega]at Zi⊢;obtain⟨⟨x0,x1,x2,x3,x4,x5,x6,x7⟩,_⟩:=oY Wo7;rw[LA]at x2;clear Zh Wz3 Wo7 QL Mq Me Kf x0 x1 x3 x4 x5 x6 x7;first
   |have PT:a.pl<1024:=by
     have h1:=Vi1.o
     have h2:1<=n:=by
      rw[<-Mh];unfold pg;rw[jS au,jS au,jT hw];unfold rk;omega
     omega
    have Vh8:(a.pl:Int)<1024:=ae;have VC6:(0:Int)<=(a.pl:Int):=ae;have cs:=Zi.o.cs a.pl PT;have fs:=Zi.o.fz (2050+a.pl);have f1:=Zi.o.fz 1;have Q5:=oP ((Zi.o.setStart a.pl PT).setPl (a.pl+n));have Pf:=oP ((Vi2.o.trans (AChg.set wr ab base (2050+a.pl) (.bool true))).trans (AChg.set _ ab base 1 (.int .i64 ((a.pl+n:Nat):Int))));rw[show ((a.pl+n:Nat):Int)=(a.pl:Int)+(n:Int) from by omega]at Q5 Pf;have KE:({oS a x with laid:=qm a.laid a.pl n}:RAsm).starts=a.starts:=MJ.o.2.2;clear LA Mh;go_upto_region 36 with fail;go_region
    all_goals
     go_wp2_with fail;go_ret;refine⟨aM,?_,?_⟩
     ·exact⟨Pf.o.os,Pf.o.tape,Pf.o.output,Pf.o.size,Pf.o.block⟩
     rw[<-HF.o,jT (show x.what=wINS from hw),<- KE];exact Q5.o.below ⟨rfl,rfl,rfl,jU,fun _ _=>rfl⟩
   |have f1:=Zi.o.fz 1
    have Q5:=oP (Zi.o.setPl (a.pl+n));have Pf:=oP (Vi2.o.trans (AChg.set wr ab base 1 (.int .i64 ((a.pl+n:Nat):Int))));rw[show ((a.pl+n:Nat):Int)=(a.pl:Int)+(n:Int) from by omega]at Q5 Pf;clear LA Mh;go_wp2_with fail;go_ret;exact⟨aM,Pf.o,by rw[<-HF.o,jS au,<- MJ.o.2.2];exact Q5.o⟩
