import Derived.Test.YthokdbcpkmcieaaGreatDoorH25
set_option maxRecDepth 200000
set_option maxHeartbeats 16000000
namespace Go.Proofs.YthokdbcpkmcieaaGreatDoor
open RowKit Proofs.Tryz
def ud:Nat->ByteArray
 |0=>⟨#[65]⟩
 |1=>⟨#[65,66]⟩
 |2=>⟨#[67]⟩
 |_=>⟨#[68,80,84,82]⟩
def Ar:Obj:=.cells #[.string ⟨#[65]⟩,.string ⟨#[65,66]⟩,.string ⟨#[67]⟩,.string ⟨#[68,80,84,82]⟩] 9
theorem Ir{j:Nat}(h:j<4):j=0\/j=1\/j=2\/j=3:=ae
theorem JS{w:World}{fb j:Nat}(h:w.heap[fb]?=some Ar)(A:j<4):w.cell? ⟨fb,j,none⟩=some (.string (ud j)):=by
 unfold Ar at h;rw[jY (0,0) h];rcases Ir A with rfl|rfl|rfl|rfl <;> rfl
theorem Z8S{j:Nat}(A:j<4):vC (txt (oQ (ud j).data.toList))=some (ud j):=by
 rcases Ir A with rfl|rfl|rfl|rfl <;> decide +kernel
theorem Z5x(j:Nat):(ud j).size<=4000000:=by
 unfold ud;split <;> decide
theorem Z5p{x:ByteArray}(h:∀k,k<4->¬x=txt (oQ (ud k).data.toList)):vC x=none:=by
 have A:txt (oQ (ud 0).data.toList)=⟨#[97]⟩:=aq;have e1:txt (oQ (ud 1).data.toList)=⟨#[97,98]⟩:=aq;have e2:txt (oQ (ud 2).data.toList)=⟨#[99]⟩:=aq;have e3:txt (oQ (ud 3).data.toList)=⟨#[100,112,116,114]⟩:=aq;have h0:=h 0 ae;have h1:=h 1 ae;have h2:=h 2 ae;have h3:=h 3 ae;rw[A]at h0;rw[e1]at h1;rw[e2]at h2;rw[e3]at h3;unfold vC;rw[jS h0,jS h1,jS h2,jS h3]
theorem Z3J(pb g Kd:Nat)(T:List RTok)(i:Nat)(Kp:Bool)(w:World)(h:RPS w pb g Kd T i Kp)(hi:i<T.length)(hT:(T.getD (T.length-1) endR).kind=0)(hk:(T.getD i endR).kind=119) :
  Calls prog 86 #[.pointer (some ⟨pb,0,none⟩)] w fun e w'=>∃va vn vc,e=.returned (.agg #[.string (o7 (T.drop i)).1.fixed,.int .i64 ((o7 (T.drop i)).1.number:Int),.int .u8 ((o7 (T.drop i)).1.sign.toNat:Int),.slice va vn vc])/\w'.ownsRow w.heap.size 229 5 (.slice va vn vc) (o7 (T.drop i)).1.e.length (qv (o7 (T.drop i)).1.e)/\RPS w' pb g Kd T (i+(o7 (T.drop i)).2.1) (Kp||!(o7 (T.drop i)).2.2)/\w.grownBy w' (some pb):=by
 obtain⟨R,hR⟩:=Zg0 (o7 (T.drop i));rw[hR];unfold o7 at hR;simp only[uy,kK,lV]at hR;have HR:=oP hR;have HT:=oP hT;have MY:=oP hi;have HK:=oP hk;obtain⟨rb,LO⟩:=Zg0 w.heap.size;have K7:¬pb=rb:=cL;have Kg:¬g=rb:=by have:=h.lg;omega
 have I:RPS (w.alloc (opC ⟨#[]⟩ 0 0 (.slice none 0 0))) pb g Kd T i Kp:=h.below (jV.alloc jU _);have PE:Hid (w.grownBy (w.alloc (opC ⟨#[]⟩ 0 0 (.slice none 0 0))) (some pb)):=xT ⟨rfl,rfl,rfl,jU,fun _ _ _=>rfl⟩ _;have OW:Hid ((w.alloc (opC ⟨#[]⟩ 0 0 (.slice none 0 0))).heap[rb]?=some (opC ⟨#[]⟩ 0 0 (.slice none 0 0))):=eV;have HS:Hid (w.heap.size=rb):=LO;have HZ:Hid ((w.alloc (opC ⟨#[]⟩ 0 0 (.slice none 0 0))).heap.size=rb+1):=by show _=_;rw[<-LO];simp
 obtain⟨O,Kv⟩:=Zg0 (w.alloc (opC ⟨#[]⟩ 0 0 (.slice none 0 0)));rw[Kv]at I PE OW HZ;unfold opC at Kv;have c0:=I.c0;have c1:=I.c1;obtain⟨t,ht⟩:=Zg0 (T.getD i endR);obtain⟨k0,k1,k2,k3⟩:=I.tk i hi;rw[ht]at k0 k1 k2 k3;obtain⟨tk,A,tn,tg⟩:=t;simp only at k0 k1 k2 k3;have Uq:=I.le.2;obtain⟨N,hN⟩:=Zg0 T.length;rw[hN]at c0 hi Uq;have N0:(i:Int)<(N:Int):=ae;have RY:(N:Int)<=3000:=ae;have hpl:=I.lt;have Mw:=I.lg;have QB:¬pb=O.heap.size:=nW hpl;have OR:¬g=O.heap.size:=nW Mw;have Wa4:=oP I;have QC:=oP ht;rw[ht]at hk;simp only at hk;have b9:((tk.toNat:Int)==119)=true:=bZ;clear hR h hT Uq I ht hk hN hi;go_enter func86,ntmps86;go_upto_region 1 with fail;try rw[LO]
 try clear LO
 clear Kv;go_region;obtain⟨w1,SA⟩:=Zg0 ((O.alloc (Obj.cells #[Value.int IntKind.u8 (tk.toNat:Int),Value.string A,Value.int IntKind.i64 (tn:Int),Value.bool tg] 170)).drew);obtain⟨D,PH⟩:=Zg0 O.heap.size;rw[SA,PH];have KK:Hid (Below O.heap.size O w1):=fY;have D1:Hid (w1.heap[D]?=some (Obj.cells #[Value.int IntKind.u8 (tk.toNat:Int),Value.string A,Value.int IntKind.i64 (tn:Int),Value.bool tg] 170)):=by rw[<-SA,<- PH];exact kg O _
 have M9:=oP (Wa4.o.below KK.o);have QA:=oP (yi PE.o KK.o);have Pc:Hid (w1.heap[rb]?=_):=(KK.o.block rb (oV OW.o)).trans OW.o;have Ow:¬pb=D:=ae;clear SA PH c0 c1 k0 k1 k2 k3 QB OR hpl Mw;have Mq:¬(T.getD i endR).kind=64:=by rw[HK.o];decide
 have YV:=oP (uR pb g Kd T i Kp 64 w1 M9.o MY.o);rw[j9 Mq,jS Mq]at YV;have MQ:=oP Mq;clear Mq;go_wp2_with fail;refine YV.o.mono ?_;rintro e w2 ⟨rfl,hP,hG⟩;have MX:=oP hP;have QS:=oP (QA.o.trans2 hG);have Od:Hid (w2.heap[rb]?=_):=(hG.block rb (oV Pc.o) aw).trans Pc.o;have D2:Hid (w2.heap[D]?=_):=(hG.block D (oV D1.o) aT).trans D1.o;clear hP hG YV;have Me:¬(T.getD i endR).kind=35:=by rw[HK.o];decide
 have YW:=oP (uR pb g Kd T i Kp 35 w2 MX.o MY.o);rw[j9 Me,jS Me]at YW;have Qy:=oP Me;clear Me;go_wp2_with fail;refine YW.o.mono ?_;rintro e w3 ⟨rfl,hP,hG⟩;have Nu:=oP hP;have PI:=oP (QS.o.trans2 hG);have OX:Hid (w3.heap[rb]?=_):=(hG.block rb (oV Od.o) aw).trans Od.o;have D3:Hid (w3.heap[D]?=_):=(hG.block D (oV D2.o) aT).trans D2.o;clear hP hG YW;have N3:¬(T.getD i endR).kind=47:=by rw[HK.o];decide
 have YX:=oP (uR pb g Kd T i Kp 47 w3 Nu.o MY.o);rw[j9 N3,jS N3]at YX;have Sz:=oP N3;clear N3;go_wp2_with fail;refine YX.o.mono ?_;rintro e M ⟨rfl,hP,hG⟩;have Ny:=oP hP;have QD:=oP (PI.o.trans2 hG);have PJ:Hid (M.heap[rb]?=_):=(hG.block rb (oV OX.o) aw).trans OX.o;have D4:Hid (M.heap[D]?=_):=(hG.block D (oV D3.o) aT).trans D3.o;clear hP hG YX;have d0:M.cell? ⟨D,0,none⟩=some (.int .u8 (tk.toNat:Int)):=by rw[jY (0,0) D4.o];rfl
 obtain⟨fb,Vu7⟩:=Zg0 M.heap.size;go_wp2_with fail;clear d0;have Pu:¬pb=fb:=by have:=Ny.o.lt;omega
 have Vc7:Hid (xg ⟨tk,A,tn,tg⟩ (T.drop i)=R):=by
  have:=HR.o;rw[jS MQ.o,jS Qy.o,jS Sz.o,jT HK.o,QC.o]at this;exact this
 have Wu6:Hid ((T.getD i endR).s=A):=by show _=_;rw[QC.o]
 go_loopw [5] (fun x wr=>∃j:Nat,j<=4/\x=.int .i64 (j:Int)/\(∀k,k<j->¬A=txt (oQ (ud k).data.toList))/\RPS wr pb g Kd T i Kp/\wr.heap[rb]?=some (opC ⟨#[]⟩ 0 0 (.slice none 0 0))/\wr.heap[D]?=some (Obj.cells #[Value.int IntKind.u8 (tk.toNat:Int),Value.string A,Value.int IntKind.i64 (tn:Int),Value.bool tg] 170)/\wr.heap[fb]?=some Ar/\w.grownBy wr (some pb)) (fun x _=>4-(intOf x).toNat)
 case atStart=>
  have S:Below M.heap.size M (M.alloc Ar):=(jV).alloc jU _;exact⟨0,ae,rfl,fun k hk=>absurd hk (lH _),Ny.o.below S,(S.block rb (oV PJ.o)).trans PJ.o,(S.block D (oV D4.o)).trans D4.o,by rw[<-Vu7];exact kg M _,xT QD.o _⟩
 case round=>
  obtain⟨j,hj,rfl,K0,hP,hO,hD,hF,hG⟩:=hrel;have LM:=oP K0;have YY:=oP hP;have HOr:=oP hO;have J:=oP hD;have U:=oP hF;have Y0:=oP hG;have HJ:=oP hj;clear K0 hP hO hD hF hG hj;by_cases Kf:j<4
  ·have K6:(j:Int)<4:=by omega
   have Wx1:IntKind.i64.wrap ((j:Int)+1)=(j:Int)+1:=ar;have f0:=JS U.o Kf;have OU:=oP (Ab (ud j) (Z5x j) wr);have V:=oP (Z8S Kf);have SB:=oP Kf;obtain⟨X,hX⟩:=Zg0 (ud j);obtain⟨Y,hY⟩:=Zg0 (txt (oQ (ud j).data.toList));rw[hY]at OU V;rw[hX]at OU V f0;have HY:=oP hY;have HX:=oP hX;clear hX hY Kf;go_wp2_with fail;refine OU.o.mono ?_;rintro e w5 ⟨rfl,KU⟩;have Xr:=YY.o.below KU;have KX:=oP (xr pb g Kd T i Kp Y w5 Xr MY.o);have G:=oP KU;clear KU Xr;by_cases hw:pr (T.getD i endR) Y
   ·rw[kj hw,jT hw]at KX;have Z:Hid (A=Y):=Wu6.o.symm.trans hw.2;clear hw;go_wp2_with fail;refine KX.o.mono ?_;rintro e wz ⟨rfl,hP,hG⟩;have MJ:=oP hP;have Tc:=oP ((yi Y0.o G.o).trans2 hG);have OY:Hid (wz.heap[rb]?=_):=(hG.block rb (ke (oV HOr.o) G.o.size) aw).trans ((G.o.block rb (oV HOr.o)).trans HOr.o);have Vu8:Hid (wz.heap[fb]?=_):=(hG.block fb (ke (oV U.o) G.o.size) (by simpa using fun e=>Pu e.symm)).trans ((G.o.block fb (oV U.o)).trans U.o);have f1:=JS Vu8.o SB.o;rw[HX.o]at f1;clear hP hG KX;obtain⟨⟨o0,o1,o2,o3⟩,fz⟩:=ta OY.o;have z0:=fz 0;have z1:=fz 1;have z2:=fz 2;have z3:=fz 3;clear fz;go_wp2_with fail;refine kf (kY rfl _ _ rb 174 _ (0,0) _ rfl (j7 (j7 (j7 (j7 OY.o)))) underlying174 rfl aj) rfl ?_;have hX:=Vc7.o;unfold xg at hX;rw[show vC (RTok.mk tk A tn tg).s=some X by rw[<-V.o];exact lp vC Z.o]at hX;subst hX;exact⟨none,0,0,rfl,kA,by simpa using MJ.o.set4 K7 Kg _ _ _ _,tw Tc.o (lZ HS.o) _ _ _ _⟩
   rw[j9 hw,jS hw]at KX;have Z:Hid (¬A=Y):=fun e=>hw ⟨HK.o,Wu6.o.trans e⟩
   clear hw;go_wp2_with fail;refine KX.o.mono ?_;rintro e wz ⟨rfl,hP,hG⟩;have MJ:=oP hP;have Wv7:=oP hG;clear hP hG KX;go_wp2_with fail;go_roundw
   case rel=>
    have hG:=Wv7.o;refine⟨j+1,by have:=SB.o;omega,ao,fun k hk=>?_,MJ.o,(hG.block rb (ke (oV HOr.o) G.o.size) aw).trans ((G.o.block rb (oV HOr.o)).trans HOr.o),(hG.block D (ke (oV J.o) G.o.size) aT).trans ((G.o.block D (oV J.o)).trans J.o),(hG.block fb (ke (oV U.o) G.o.size) (by simpa using fun e=>Pu e.symm)).trans ((G.o.block fb (oV U.o)).trans U.o),(yi Y0.o G.o).trans2 hG⟩;rcases lQ k j with h|h
    ·exact LM.o k h
    have e:k=j:=ae;rw[e,HY.o];exact Z.o
   case measure=>have:=SB.o;simp[intOf];omega
  have K6:¬(j:Int)<4:=ae;have Qu:=oP (Z5p (x:=A) (fun k hk=>LM.o k ae));have d1:wr.cell? ⟨D,1,none⟩=some (.string A):=by rw[jY (0,0) J.o];rfl
  have hl:A.data.toList.length=A.size:=aK
  have Qw:Hid ((if qV A.data.toList=true then ((⟨⟨#[82]⟩,(A.data.toList.getD 1 0).toNat-48,0,[]⟩,1,true):ROp×Nat×Bool) else rG 0 0 (oR (T.drop i) false))=R):=by
   have hX:=Vc7.o;unfold xg at hX;rw[show vC (RTok.mk tk A tn tg).s=none from Qu.o]at hX;exact hX
  by_cases KB:A.size=2
  ·have z1:((A.size:Int)==2)=true:=by rw[KB];rfl
   have z2:(0:Int)<(A.size:Int):=ae;have z3:(1:Int)<(A.size:Int):=ae;have i0:0<A.size:=ae;have i1:1<A.size:=ae
   have g0:A.data.toList.getD 0 0=A[0]:=by
    rw[jZ,jX (by rw[hl];exact i0)];rfl
   have g1:A.data.toList.getD 1 0=A[1]:=by
    rw[jZ,jX (by rw[hl];exact i1)];rfl
   obtain⟨c,hc⟩:=Zg0 (A[0]);obtain⟨d,hd⟩:=Zg0 (A[1]);rw[hc]at g0;rw[hd]at g1
   have Nv:qV A.data.toList=(decide (c.toNat=114)&&(decide (48<=d.toNat)&&decide (d.toNat<=55))):=by
    unfold qV;rw[g0,g1,hl,KB];rfl
   rw[Nv,g1]at Qw;clear g0 g1 KB hl Nv;by_cases KA:c.toNat=114/\48<=d.toNat/\d.toNat<=55
   ·have y1:((c.toNat:Int)==114)=true:=by rw[KA.1];rfl
    have y2:(48:Int)<=(d.toNat:Int):=ae;have y3:(d.toNat:Int)<=55:=ae;rw[kj KA.1,kj KA.2.1,kj KA.2.2]at Qw;obtain⟨n,hn⟩:=Zg0 (d.toNat-48);rw[hn]at Qw;have VN6:(d.toNat:Int)-48=(n:Int):=ae;have WG0:IntKind.u8.wrap (n:Int)=(n:Int):=aL;have Vg:IntKind.i64.wrap (n:Int)=(n:Int):=ar;clear KA hn;have c1:=YY.o.c1;have f1:=YY.o.fz 1;have Sy:IntKind.i64.wrap ((i:Int)+1)=(i:Int)+1:=by have:=YY.o.le;have:=MY.o;rw[ky];omega
    have WJ4:=Ow;obtain⟨⟨o0,o1,o2,o3⟩,fz⟩:=ta HOr.o;have Vc8:=fz 0;have Vc9:=fz 1;have Vd0:=fz 2;have Vd1:=fz 3;clear fz;go_wp2_with fail;refine kf (kY rfl _ _ rb 174 _ (0,0) _ rfl (j7 (j7 (j7 (j7 ((kk _ ⟨pb,1,none⟩ rb _ (fun e=>K7 e.symm)).trans HOr.o))))) underlying174 rfl aj) rfl ?_;have hX:=Qw.o;rw[jT (show (true&&(true&&true))=true from rfl)]at hX;subst hX;exact⟨none,0,0,rfl,kA,by simpa using (YY.o.setI (i+1)).set4 K7 Kg _ _ _ _,tw (Y0.o.trans2 (pV _ _ _ _)) (lZ HS.o) _ _ _ _⟩
   have Om:(decide (c.toNat=114)&&(decide (48<=d.toNat)&&decide (d.toNat<=55)))=false:=Mbi;rw[Om,jS ah]at Qw
   rcases (show (((c.toNat:Int)==114)=false)\/(((c.toNat:Int)==114)=true/\¬(48:Int)<=(d.toNat:Int))\/(((c.toNat:Int)==114)=true/\(48:Int)<=(d.toNat:Int)/\¬(d.toNat:Int)<=55) from by
    by_cases a1:c.toNat=114
    ·have b1:((c.toNat:Int)==114)=true:=by rw[a1];rfl
     exact Mbr
    ·exact .inl ai) with y1|⟨y1,y2⟩|⟨y1,y2,y3⟩
   all_goals
    clear KA Om;exact Maj
  have z1:((A.size:Int)==2)=false:=ai
  have VO:qV A.data.toList=false:=by
   unfold qV;rw[hl,j9 KB];rfl
  rw[VO,jS ah]at Qw;clear VO KB hl;exact Maj
theorem Z5J(A g D:Nat)(T:List RTok)(i:Nat)(G:Bool)(w:World)(h:RPS w A g D T i G)(hi:i<T.length)(I:(T.getD (T.length-1) endR).kind=0) :
  Calls prog 86 #[.pointer (some ⟨A,0,none⟩)] w fun e w'=>∃J M O,e=.returned (.agg #[.string (o7 (T.drop i)).1.fixed,.int .i64 ((o7 (T.drop i)).1.number:Int),.int .u8 ((o7 (T.drop i)).1.sign.toNat:Int),.slice J M O])/\w'.ownsRow w.heap.size 229 5 (.slice J M O) (o7 (T.drop i)).1.e.length (qv (o7 (T.drop i)).1.e)/\RPS w' A g D T (i+(o7 (T.drop i)).2.1) (G||!(o7 (T.drop i)).2.2)/\w.grownBy w' (some A):=by
 by_cases hk:(T.getD i endR).kind=119
 ·exact Z3J A g D T i G w h hi I hk
 exact Z34 A g D T i G w h hi I hk
def qP(x f:ByteArray)(s:UInt8):Bool:=
 if x=⟨#[35,98,121,116,101]⟩\/x=⟨#[35,119,111,114,100]⟩ then decide (s=35)
 else if x=⟨#[47,98,105,116]⟩ then decide (s=47)
 else if x=⟨#[100,105,114]⟩\/x=⟨#[98,105,116]⟩\/x=⟨#[114,101,108]⟩\/x=⟨#[97,100,100,114]⟩\/x=⟨#[112,97,103,101]⟩ then decide (f=⟨#[]⟩/\s=0)
 else decide (f=x)
theorem B5(x y:ByteArray):(x.toList==y.toList)=decide (x=y):=by
 by_cases h:x=y
 ·subst h;simp
 rw[j9 h];exact wS (fun e=>h (by rcases x with⟨⟨a⟩⟩;rcases y with⟨⟨b⟩⟩;have:a=b:=e;rw[this]))
theorem po{x:ByteArray}{l:List UInt8}(h:¬x=⟨l.toArray⟩):(x.toList==l)=false:=by
 have:=wS (x:=x) (y:=⟨l.toArray⟩) (fun e=>h (by rcases x with⟨⟨a⟩⟩;have:a=l:=e;rw[this]));rw[show (⟨l.toArray⟩:ByteArray).toList=l from by rw[lB]]at this;exact this
theorem tG{x:ByteArray}{l:List UInt8}(h:x=⟨l.toArray⟩):(x.toList==l)=true:=by
 subst h;rw[show (⟨l.toArray⟩:ByteArray).toList=l from by rw[lB]];simp
theorem BR(s:UInt8)(k:UInt8):((s.toNat:Int)==(k.toNat:Int))=decide (s=k):=by
 by_cases h:s=k
 ·subst h;simp
 have A:¬s.toNat=k.toNat:=fun e=>h (lA.1 e)
 rw[j9 h];simp;omega
theorem Z0A(x f:ByteArray)(n:Int)(s:UInt8)(U:Option Addr)(V Z:Nat)(w:World):Calls prog 134 #[.string x,.agg #[.string f,.int .i64 n,.int .u8 (s.toNat:Int),.slice U V Z]] w fun e w'=>e=.returned (.bool (qP x f s))/\Below w.heap.size w w':=by
 obtain⟨K,O⟩:=Zg0 (qP x f s);rw[O];have D:=oP O;clear O;have HB:Hid (∀o,Below w.heap.size w (w.alloc o)):=fun o=>(jV).alloc jU o
 have R:=BR s 35;have S:=BR s 47;have y0:=BR s 0;have G:=B5 f x;have J:((UInt8.toNat 35:Nat):Int)=35:=rfl;have M:((UInt8.toNat 47:Nat):Int)=47:=rfl;have r0:((UInt8.toNat 0:Nat):Int)=0:=rfl;rw[J]at R;rw[M]at S;rw[r0]at y0;clear J M r0;by_cases h0:x=⟨#[35,98,121,116,101]⟩
 ·have HX:Hid (decide (s=35)=K):=by
   have:=D.o;unfold qP at this;rw[jT (.inl h0)]at this;exact this
  have I:(x.toList==[35,98,121,116,101])=true:=tG h0;clear G h0;exact Mcf
 skip;by_cases h1:x=⟨#[35,119,111,114,100]⟩
 ·have HX:Hid (decide (s=35)=K):=by
   have:=D.o;unfold qP at this;rw[jT (.inr h1)]at this;exact this
  have I:(x.toList==[35,98,121,116,101])=false:=po h0;have b1:(x.toList==[35,119,111,114,100])=true:=tG h1;clear G h0 h1;exact Mcf
 skip;by_cases h2:x=⟨#[47,98,105,116]⟩
 ·have HX:Hid (decide (s=47)=K):=by
   have:=D.o;unfold qP at this;rw[jS (mF.2 ⟨h0,h1⟩),jT h2]at this;exact this
  have I:(x.toList==[35,98,121,116,101])=false:=po h0;have b1:(x.toList==[35,119,111,114,100])=false:=po h1;have b2:(x.toList==[47,98,105,116])=true:=tG h2;clear G h0 h1 h2;exact Mcf
 skip;by_cases h3:x=⟨#[100,105,114]⟩
 ·have HX:Hid (decide (f=⟨#[]⟩/\s=0)=K):=by
   have:=D.o;unfold qP at this;rw[jS (mF.2 ⟨h0,h1⟩),jS h2,jT (.inl h3)]at this;exact this
  have I:(x.toList==[35,98,121,116,101])=false:=po h0;have b1:(x.toList==[35,119,111,114,100])=false:=po h1;have b2:(x.toList==[47,98,105,116])=false:=po h2;have b3:(x.toList==[100,105,114])=true:=tG h3;clear G h0 h1 h2 h3;exact Mas
 skip;by_cases h4:x=⟨#[98,105,116]⟩
 ·have HX:Hid (decide (f=⟨#[]⟩/\s=0)=K):=by
   have:=D.o;unfold qP at this;rw[jS (mF.2 ⟨h0,h1⟩),jS h2,jT (.inr <| .inl h4)]at this;exact this
  have I:(x.toList==[35,98,121,116,101])=false:=po h0;have b1:(x.toList==[35,119,111,114,100])=false:=po h1;have b2:(x.toList==[47,98,105,116])=false:=po h2;have b3:(x.toList==[100,105,114])=false:=po h3;have b4:(x.toList==[98,105,116])=true:=tG h4;clear G h0 h1 h2 h3 h4;exact Mas
 skip;by_cases A:x=⟨#[114,101,108]⟩
 ·have HX:Hid (decide (f=⟨#[]⟩/\s=0)=K):=by
   have:=D.o;unfold qP at this;rw[jS (mF.2 ⟨h0,h1⟩),jS h2,jT (.inr <| .inr <| .inl A)]at this;exact this
  have I:(x.toList==[35,98,121,116,101])=false:=po h0;have b1:(x.toList==[35,119,111,114,100])=false:=po h1;have b2:(x.toList==[47,98,105,116])=false:=po h2;have b3:(x.toList==[100,105,114])=false:=po h3;have b4:(x.toList==[98,105,116])=false:=po h4;have b5:(x.toList==[114,101,108])=true:=tG A;clear G h0 h1 h2 h3 h4 A;exact Mas
 skip;by_cases h6:x=⟨#[97,100,100,114]⟩
 ·have HX:Hid (decide (f=⟨#[]⟩/\s=0)=K):=by
   have:=D.o;unfold qP at this;rw[jS (mF.2 ⟨h0,h1⟩),jS h2,jT (.inr <| .inr <| .inr <| .inl h6)]at this;exact this
  have I:(x.toList==[35,98,121,116,101])=false:=po h0;have b1:(x.toList==[35,119,111,114,100])=false:=po h1;have b2:(x.toList==[47,98,105,116])=false:=po h2;have b3:(x.toList==[100,105,114])=false:=po h3;have b4:(x.toList==[98,105,116])=false:=po h4;have b5:(x.toList==[114,101,108])=false:=po A;have b6:(x.toList==[97,100,100,114])=true:=tG h6;clear G h0 h1 h2 h3 h4 A h6;exact Mas
 skip;by_cases h7:x=⟨#[112,97,103,101]⟩
 ·have HX:Hid (decide (f=⟨#[]⟩/\s=0)=K):=by
   have:=D.o;unfold qP at this;rw[jS (mF.2 ⟨h0,h1⟩),jS h2,jT (.inr <| .inr <| .inr <| .inr <| h7)]at this;exact this
  have I:(x.toList==[35,98,121,116,101])=false:=po h0;have b1:(x.toList==[35,119,111,114,100])=false:=po h1;have b2:(x.toList==[47,98,105,116])=false:=po h2;have b3:(x.toList==[100,105,114])=false:=po h3;have b4:(x.toList==[98,105,116])=false:=po h4;have b5:(x.toList==[114,101,108])=false:=po A;have b6:(x.toList==[97,100,100,114])=false:=po h6;have b7:(x.toList==[112,97,103,101])=true:=tG h7;clear G h0 h1 h2 h3 h4 A h6 h7;exact Mas
 have HX:Hid (decide (f=x)=K):=by
  have:=D.o;unfold qP at this;rw[jS (mF.2 ⟨h0,h1⟩),jS h2,jS (by simp only[h3,h4,A,h6,h7,or_self,not_false_iff])]at this;exact this
 have I:(x.toList==[35,98,121,116,101])=false:=po h0;have b1:(x.toList==[35,119,111,114,100])=false:=po h1;have b2:(x.toList==[47,98,105,116])=false:=po h2;have b3:(x.toList==[100,105,114])=false:=po h3;have b4:(x.toList==[98,105,116])=false:=po h4;have b5:(x.toList==[114,101,108])=false:=po A;have b6:(x.toList==[97,100,100,114])=false:=po h6;have b7:(x.toList==[112,97,103,101])=false:=po h7;clear h0 h1 h2 h3 h4 A h6 h7;exact Mcf
def oU(a b:Nat):Nat:=if a=0\/(b≠0/\b<a) then b else a
theorem ue(a b:Nat)(w:World):Calls prog 89 #[.int .i64 (a:Int),.int .i64 (b:Int)] w fun e w'=>e=.returned (.int .i64 (oU a b:Int))/\w'=w:=by
 obtain⟨K,D⟩:=Zg0 (oU a b);rw[D];have A:=oP D;clear D;rcases (show a=0\/(¬a=0/\b=0)\/(¬a=0/\¬b=0/\b<a)\/(¬a=0/\¬b=0/\¬b<a) by omega) with h|⟨h1,h2⟩|⟨h1,h2,h3⟩|⟨h1,h2,h3⟩
 ·have HX:Hid (b=K):=by have:=A.o;unfold oU at this;rw[jT (.inl h)]at this;exact this
  have b1:((a:Int)==0)=true:=by rw[h];rfl
  clear h;exact Mcn
 ·have HX:Hid (a=K):=by have:=A.o;unfold oU at this;rw[jS ae]at this;exact this
  have b1:((a:Int)==0)=false:=ai;have b2:((b:Int) != 0)=false:=by rw[h2];rfl
  clear h1 h2;exact Mcn
 ·have HX:Hid (b=K):=by have:=A.o;unfold oU at this;rw[jT (.inr ⟨h2,h3⟩)]at this;exact this
  have b1:((a:Int)==0)=false:=ai;have b2:((b:Int) != 0)=true:=ai;have b3:(b:Int)<(a:Int):=ae;exact MbZ
 have HX:Hid (a=K):=by have:=A.o;unfold oU at this;rw[jS ae]at this;exact this
 have b1:((a:Int)==0)=false:=ai;have b2:((b:Int) != 0)=true:=ai;have b3:¬(b:Int)<(a:Int):=ae;exact MbZ
def nm0:ByteArray×Int:=(⟨#[]⟩,0)
def qH(L:List (ByteArray×Int))(x:ByteArray):Option Int:=(L.find? fun p=>decide (p.1=x)).map (·.2)
structure NmR(w:World)(ab nb:Nat)(na:Option Addr)(cap:Nat)(L:List (ByteArray×Int)):Prop where
 c0:w.cell? ⟨ab,0,none⟩=some (.slice na L.length cap)
 row:∀k,k<L.length->na=some ⟨nb,0,none⟩/\w.cell? ⟨nb,k*2,none⟩=some (.string (L.getD k nm0).1)/\w.cell? ⟨nb,k*2+1,none⟩=some (.int .i64 (L.getD k nm0).2)
 le:L.length<=cap/\L.length<=4000
theorem Z9T{L:List (ByteArray×Int)}{x:ByteArray}{j:Nat}(A:j<L.length)(h:∀k,k<j->¬(L.getD k nm0).1=x)(he:(L.getD j nm0).1=x):qH L x=some (L.getD j nm0).2:=by
 unfold qH;have g:∀k (hk:k<L.length),L.getD k nm0=L[k]:=fun k hk=>by rw[jZ,jX hk];rfl
 have:L.find? (fun p=>decide (p.1=x))=some L[j]:=by
  rw[T0W];refine⟨by rw[<-g j A];simpa using he,j,A,rfl,fun k hk=>?_⟩;have:=h k hk;rw[g k ae]at this;simpa using this
 rw[this,g j A];rfl
theorem Z9x{L:List (ByteArray×Int)}{x:ByteArray}(h:∀k,k<L.length->¬(L.getD k nm0).1=x):qH L x=none:=by
 unfold qH
 have:L.find? (fun p=>decide (p.1=x))=none:=by
  rw[nU];intro p A;obtain⟨k,hk,rfl⟩:=mP A;have:=h k hk;rw[jZ,jX hk]at this;simpa using this
 rw[this];rfl
theorem Hv(ab nb:Nat)(na:Option Addr)(Kd:Nat)(L:List (ByteArray×Int))(x:ByteArray)(w:World)(h:NmR w ab nb na Kd L):Calls prog 135 #[.pointer (some ⟨ab,0,none⟩),.string x] w fun e w'=>e=.returned (.tuple #[.int .i64 ((qH L x).getD 0),.bool (qH L x).isSome])/\w'=w:=by
 obtain⟨K,A⟩:=Zg0 (qH L x);rw[A];have R:=oP A;have c0:=h.c0;have HH:=oP h;have S:=h.le;obtain⟨N,D⟩:=Zg0 L.length;rw[D]at c0 S;have RY:(N:Int)<=4000:=ae;have HN:=oP D;clear A h D S;go_enter func135,ntmps135;go_wp2_with fail;go_loopw [6] (fun v wr=>∃j:Nat,j<=N/\v=.int .i64 (j:Int)/\(∀k,k<j->¬(L.getD k nm0).1=x)/\wr=w) (fun v _=>N-(intOf v).toNat)
 case atStart=>exact⟨0,j4,rfl,fun k hk=>absurd hk (lH _),rfl⟩
 case round=>
  obtain⟨j,U,rfl,V,Z⟩:=hrel;rw[Z];clear Z;have G:=oP V;have HJ:=oP U;clear V U;by_cases Kf:j<N
  ·have K6:(j:Int)<(N:Int):=by omega
   have Wx1:IntKind.i64.wrap ((j:Int)+1)=(j:Int)+1:=ar;obtain⟨r0,r1,r2⟩:=HH.o.row j aA;obtain⟨p,I⟩:=Zg0 (L.getD j nm0);rw[I]at r1 r2;rw[r0]at c0;have J:=oP I;have M:=oP Kf;clear I r0 Kf;by_cases he:p.1=x
   ·have b1:(p.1.toList==x.toList)=true:=(B5 _ _).trans (kj he)
    have O:Hid (some p.2=K):=by
     have:=Z9T (by rw[HN.o];exact M.o) G.o (by rw[J.o];exact he);rw[J.o]at this;exact this.symm.trans R.o
    clear he;go_wp2_with fail;refine kf (v:=.tuple #[.int .i64 p.2,.bool true]) (by simp[results,results135,go_sem]) rfl ?_;rw[<-O.o];exact⟨rfl,rfl⟩
   have b1:(p.1.toList==x.toList)=false:=(B5 _ _).trans (j9 he);have HE:=oP he;clear he;go_wp2_with fail;go_roundw
   case rel=>
    refine⟨j+1,M.o,ao,fun k hk=>?_,af⟩;rcases lQ k j with h|h
    ·exact G.o k h
    have e:k=j:=ae;rw[e,J.o];exact HE.o
   case measure=>have:=M.o;simp[intOf];omega
  have K6:¬(j:Int)<(N:Int):=ae
  have O:Hid (none=K):=by
   have hJ:=HJ.o;have:=Z9x (L:=L) (x:=x) (fun k hk=>G.o k (by rw[HN.o]at hk;omega));exact this.symm.trans R.o
  clear Kf;go_wp2_with fail;refine kf (v:=.tuple #[.int .i64 0,.bool false]) (by simp[results,results135,go_sem]) rfl ?_;rw[<-O.o];exact⟨rfl,rfl⟩
def rTv(L:List (ByteArray×Int))(p:Int)(t:RTok):Option Int:=if t.kind=119 then qH L t.s else if t.kind=36 then some p else some (t.n:Int)
def rSg(m:Bool)(v:Int):Int:=if m=true then -v else v
def rVF(L:List (ByteArray×Int))(p:Int):List RTerm->Int->Nat->Int×Nat
 |[],n,e=>(n,e)
 |x::r,n,e=>match rTv L p x.t with
  |none=>(0,3)
  |some v=>if n+rSg x.minus v>1000000\/n+rSg x.minus v < -1000000 then rVF L p r (min (max (n+rSg x.minus v) (-2000000)) 2000000) 6 else rVF L p r (n+rSg x.minus v) e
def te0:RTerm:=⟨false,endR⟩
structure TeR(w:World)(eb:Nat)(va:Option Addr)(E:List RTerm):Prop where
 row:∀k,k<E.length->va=some ⟨eb,0,none⟩/\w.cell? ⟨eb,k*5,none⟩=some (.bool (E.getD k te0).minus)/\w.cell? ⟨eb,k*5+1,none⟩=some (.int .u8 ((E.getD k te0).t.kind.toNat:Int))/\w.cell? ⟨eb,k*5+2,none⟩=some (.string (E.getD k te0).t.s)/\w.cell? ⟨eb,k*5+3,none⟩=some (.int .i64 ((E.getD k te0).t.n:Int))
 le:E.length<=4000
 nb:∀k,(E.getD k te0).t.n<=10000000
theorem Z4k{L:List (ByteArray×Int)}(A:∀p∈L,-2000000<=p.2/\p.2<=2000000){x:ByteArray}{v:Int}(h:qH L x=some v):-2000000<=v/\v<=2000000:=by
 unfold qH at h;cases hf:L.find? (fun p=>decide (p.1=x)) with
 |none=>rw[hf]at h;cases h
 |some p=>
  rw[hf]at h;cases h;exact A p (mE hf)
theorem Z5G(ab nb:Nat)(na:Option Addr)(Kd:Nat)(L:List (ByteArray×Int))(p:Int)(eb:Nat)(va:Option Addr)(vc:Nat)(E:List RTerm)(w:World)(h:NmR w ab nb na Kd L)(O:TeR w eb va E)(hp:-2000000<=p/\p<=2000000)(hL:∀p∈L,-2000000<=p.2/\p.2<=2000000):Calls prog 91 #[.pointer (some ⟨ab,0,none⟩),.slice va E.length vc,.int .i64 p] w fun e w'=>e=.returned (.tuple #[.int .i64 (rVF L p E 0 0).1,.int .i64 ((rVF L p E 0 0).2:Int)])/\w'=w:=by
 obtain⟨R,S⟩:=Zg0 (rVF L p E 0 0);rw[S];have HR:=oP S;have HH:=oP h;have HE:=oP O;have HL:=oP hL;have U:=oP hp;have KR:=O.le;obtain⟨N,V⟩:=Zg0 E.length;rw[V]at KR⊢;have RY:(N:Int)<=4000:=ae;have HN:=oP V;clear S h O hL V KR hp;go_enter func91,ntmps91;go_wp2_with fail;go_loopw [8,9,10] (fun x y z wr=>∃(n:Int) (e j:Nat),j<=N/\x=.int .i64 n/\y=.int .i64 (e:Int)/\z=.int .i64 (j:Int)/\-2000000<=n/\n<=2000000/\rVF L p (E.drop j) n e=R/\wr=w) (fun _ _ z _=>N-(intOf z).toNat)
 case atStart=>exact⟨0,0,0,j4,rfl,rfl,rfl,ae,ae,HR.o,rfl⟩
 case round=>
  obtain⟨n,e,j,hj,rfl,rfl,rfl,hn1,QI,KE,M8⟩:=hrel;rw[M8];clear M8;have Z:=oP KE;have HJ:=oP hj;clear KE hj;by_cases Kf:j<N
  ·have K6:(j:Int)<(N:Int):=by omega
   have Wx1:IntKind.i64.wrap ((j:Int)+1)=(j:Int)+1:=ar;have D:j<E.length:=aA;obtain⟨r0,r1,r2,r3,r4⟩:=HE.o.row j D;have Xs:=HE.o.nb j;obtain⟨x,hx⟩:=Zg0 (E.getD j te0);rw[hx]at r1 r2 r3 r4 Xs;subst r0
   have Ox:Hid (rVF L p (x::E.drop (j+1)) n e=R):=by
    have:=Z.o;rw[lY D]at this;rw[<-hx,jZ,jX D];exact this
   obtain⟨m,tk,I,tn,tg⟩:=x;simp only at r1 r2 r3 r4 Xs;have SB:=oP Kf;have WK0:(tn:Int)<=10000000:=ae;clear hx Kf D Z;have J:=oP (Hv ab nb na Kd L I w HH.o);cases A:rTv L p ⟨tk,I,tn,tg⟩ with
   |none=>
    have LX:tk=119:=by
     unfold rTv at A;by_cases a:tk=119
     ·exact a
     rw[jS a]at A;by_cases b:tk=36
     ·rw[jT b]at A;cases A
     rw[jS b]at A;cases A
    have LD:qH L I=none:=by unfold rTv at A;rw[jT LX]at A;exact A
    have G:Hid (((0:Int),3)=R):=by
     have:=Ox.o;unfold rVF at this;rw[A]at this;exact this
    have b1:((tk.toNat:Int)==36)=false:=bX;have b2:((tk.toNat:Int)==119)=true:=bX;rw[LD]at J;clear A LD LX;go_wp2_with (first| (go_at_call 135;refine J.o.mono ?_;rintro e w1 ⟨rfl,rfl⟩));refine kf (v:=.tuple #[.int .i64 0,.int .i64 3]) (by simp[results,results91,go_sem]) rfl ?_;rw[<-G.o];exact⟨rfl,rfl⟩
   |some v=>
    have G:Hid ((if n+rSg m v>1000000\/n+rSg m v < -1000000 then rVF L p (E.drop (j+1)) (min (max (n+rSg m v) (-2000000)) 2000000) 6 else rVF L p (E.drop (j+1)) (n+rSg m v) e)=R):=by
     have:=Ox.o;unfold rVF at this;rw[A]at this;exact this
    have hc:(tk=119/\qH L I=some v)\/(tk=36/\p=v)\/(¬tk.toNat=119/\¬tk.toNat=36/\(tn:Int)=v):=by
     unfold rTv at A;by_cases a:tk=119
     ·rw[jT a]at A;exact .inl ⟨a,A⟩
     rw[jS a]at A;by_cases b:tk=36
     ·rw[jT b]at A;exact .inr (.inl ⟨b,by cases A;rfl⟩)
     rw[jS b]at A;exact .inr (.inr ⟨fun q=>a (lA.1 q),fun q=>b (lA.1 q),by cases A;rfl⟩)
    have MH:-10000000<=v/\v<=10000000:=by
     rcases hc with⟨_,hk⟩|⟨_,hk⟩|⟨_,_,hk⟩
     ·have:=Z4k HL.o hk;omega
     ·have:=U.o;omega
     omega
    obtain⟨s,hs⟩:=Zg0 (n+rSg m v);rw[hs]at G;have Wi6:-12000000<=s/\s<=12000000:=by rw[<-hs];unfold rSg;split <;> omega
    have NH:IntKind.i64.wrap s=s:=ar;have Vu0:IntKind.i64.wrap (-v) = -v:=ar
    have hm:(m=true/\n + -v=s)\/(m=false/\n+v=s):=by
     unfold rSg at hs;cases m
     ·exact .inr ⟨rfl,by simpa using hs⟩
     exact .inl ⟨rfl,by simpa using hs⟩
    have ho:(1000000<s)\/(¬1000000<s/\s < -1000000)\/(¬1000000<s/\¬s < -1000000):=ae;clear hs A MH Wi6 WK0 Xs;rcases hc with⟨LX,hk⟩|⟨h36,hk⟩|⟨LX,h36,hk⟩
    case' inl=>
     have b1:((tk.toNat:Int)==36)=false:=bX;have b2:((tk.toNat:Int)==119)=true:=bX;rw[hk]at J;clear hk LX
    case' inr.inl=>
     have b1:((tk.toNat:Int)==36)=true:=by rw[h36];rfl
     have b2:((tk.toNat:Int)==119)=false:=by rw[h36];rfl
     clear h36
    case' inr.inr=>
     have b1:((tk.toNat:Int)==36)=false:=ai;have b2:((tk.toNat:Int)==119)=false:=ai;rw[hk]at r4;clear hk LX h36
    all_goals
     rcases hm with⟨rfl,hm⟩|⟨rfl,hm⟩ <;> rcases ho with o1|⟨o1,o2⟩|⟨o1,o2⟩
     all_goals
      go_wp2_with (first| (go_at_call 135;refine J.o.mono ?_;rintro e w1 ⟨rfl,SA⟩;rw[SA];clear SA w1));go_roundw
      case rel=>
       have M:=G.o;first
       | (have hb:s>1000000\/s < -1000000:=ae;rw[jT hb]at M;exact⟨min (max s (-2000000)) 2000000,6,j+1,SB.o,rfl,rfl,ao,ae,ae,M,af⟩)
       | (have hb:¬(s>1000000\/s < -1000000):=ae;rw[jS hb]at M;exact⟨s,e,j+1,SB.o,rfl,rfl,ao,ae,ae,M,af⟩)
      case measure=>have:=SB.o;simp[intOf];omega
  have K6:¬(j:Int)<(N:Int):=ae
  have G:Hid ((n,e)=R):=by
   have:=Z.o;rw[T0V bI]at this;exact this
  clear Kf;go_wp2_with fail;refine kf (v:=.tuple #[.int .i64 n,.int .i64 (e:Int)]) (by simp[results,results91,go_sem]) rfl ?_;rw[<-G.o];exact⟨rfl,rfl⟩
structure RLine where
 label:ByteArray
 name:ByteArray
 what:ByteArray
 ent:Ent
 ops:List ROp
def sL(e:List RTerm):ROp:=⟨⟨#[]⟩,0,0,e⟩
def op0:ROp:=⟨⟨#[]⟩,0,0,[]⟩
def kAt(l:List RTok)(i:Nat):UInt8:=(l.getD i endR).kind
def qq(l:List RTok):Option ROp:=if (oR l false).2.2=true/\kAt l (oR l false).2.1=0 then some (sL (oR l false).1) else none
def rDb:Nat->List RTok->Option (List ROp)
 |0,_=>none
 |f+1,l=>if (oR l false).2.2=true then
  (
   if kAt l (oR l false).2.1=44 then (rDb f (l.drop ((oR l false).2.1+1))).map (sL (oR l false).1 :: ·)
   else if kAt l (oR l false).2.1=0 then some [sL (oR l false).1] else none)
  else none
def qI:Nat->Bool->List RTok->Option (List ROp)
 |0,_,_=>none
 |f+1,m,l=>if kAt l 0=0 then some []
  else if m=true then (if kAt l 0=44 then (if (o7 (l.drop 1)).2.2=true then (qI f true (l.drop (1+(o7 (l.drop 1)).2.1))).map ((o7 (l.drop 1)).1 :: ·) else none) else none)
  else if (o7 l).2.2=true then (qI f true (l.drop (o7 l).2.1)).map ((o7 l).1 :: ·) else none
def rU(nm:List UInt8)(os:List ROp)(e:Ent):Bool:=(oQ e.2.2.1==nm)&&(decide (e.2.2.2.length=os.length)&&(List.range os.length).all fun k=>qP ⟨(e.2.2.2.getD k []).toArray⟩ (os.getD k op0).fixed (os.getD k op0).sign)
def allEnts:List Ent:=pa++sM
def qD(nm:List UInt8)(os:List ROp):Option Ent:=allEnts.find? (rU nm os)
def qF(A:ByteArray)(l:List RTok):Option RLine:=
 if kAt l 0=0 then some ⟨A,⟨#[]⟩,⟨#[]⟩,ent0,[]⟩
 else if ¬kAt l 0=119 then none
 else if qt (l.getD 0 endR).s.data.toList=false then
  (if pr (l.getD 1 endR) ⟨#[101,113,117]⟩ then (qq (l.drop 2)).map fun o=>⟨A,(l.getD 0 endR).s,⟨#[101,113,117]⟩,ent0,[o]⟩ else none)
 else if (l.getD 0 endR).s=⟨#[111,114,103]⟩\/(l.getD 0 endR).s=⟨#[100,115]⟩ then (qq (l.drop 1)).map fun o=>⟨A,⟨#[]⟩,(l.getD 0 endR).s,ent0,[o]⟩
 else if (l.getD 0 endR).s=⟨#[100,98]⟩\/(l.getD 0 endR).s=⟨#[100,119]⟩ then (rDb l.length (l.drop 1)).map fun os=>⟨A,⟨#[]⟩,(l.getD 0 endR).s,ent0,os⟩
 else (qI l.length false (l.drop 1)).bind fun os=>(qD (l.getD 0 endR).s.data.toList os).map fun e=>⟨A,⟨#[]⟩,⟨#[105,110,115]⟩,e,os⟩
def qE(l:List RTok):Option RLine:=
 if kAt l 0=119/\kAt l 1=58 then (if qt (l.getD 0 endR).s.data.toList=true then none else qF (l.getD 0 endR).s (l.drop 2)) else qF ⟨#[]⟩ l
