import Derived.Test.YthokdbcpkmcieaaGreatDoorH16
import Derived.Test.YthokdbcpkmcieaaGreatDoorH06
set_option maxRecDepth 200000
set_option maxHeartbeats 16000000
namespace Go.Proofs.YthokdbcpkmcieaaGreatDoor
open RowKit Shelf WideMaps Maps Proofs.Tryz
def pE(tk A sz:Nat):Nat:=if tk=2 then A else if tk=3 then 2*A else if tk=6 then sz else 0
theorem Z4j(w:World)(A:Int)(D:Option Addr)(G I:Nat)(sz:Int) :
  Calls prog 173 #[.agg #[.int .u8 A,.slice D G I,.int .i64 sz]] w fun e w'=>e=.returned (.int .i64 sz)/\Below w.heap.size w w':=by
 go_enter func173,ntmps173;exact McO
theorem Ea(w:World)(M p0:Int)(lb:ByteArray)(tk:Nat)(nm:ByteArray)(O:Option Addr)(A R:Nat)(D:Int)(G:Option Addr)(I J sz:Nat)(Z:A<=1000000) :
  Calls prog 107 #[.agg #[.int .i64 M,.int .i64 p0,.string lb,.int .i64 tk,.string nm,.slice O A R,.int .u8 D,.slice G I J,.int .i64 sz]] w fun e w'=>e=.returned (.int .i64 (pE tk A sz:Nat))/\Below w.heap.size w w':=by
 have S:(A:Int)<=1000000:=ae;have U:=oP (fun w'=>Z4j w' D G I J (sz:Int));unfold pE;by_cases h2:tk=2
 ·subst h2;rw[jT rfl];exact Mcs
 rw[jS h2];by_cases h3:tk=3
 ·subst h3;rw[jT rfl];go_enter func107,ntmps107;go_wp2;go_ret;exact⟨af,jV.alloc jU _⟩
 rw[jS h3];by_cases h6:tk=6
 ·subst h6;rw[jT rfl];go_enter func107,ntmps107;go_wp2_with fail;refine(U.o _).mono ?_;rintro e w1 ⟨rfl,V⟩;go_wp2;go_ret;exact⟨rfl,(jV.alloc jU _).trans (V.mono af)⟩
 rw[jS h6];have i2:¬(tk:Int)=2:=ae;have i3:¬(tk:Int)=3:=ae;have i6:¬(tk:Int)=6:=ae;clear h2 h3 h6;exact Mcs
theorem Tryz.infoStrB:(Tryz.prog.info? 9).map (fun i=>(i.zero,i.size,i.bytes))=some (some (.string ⟨#[]⟩),1,16):=aj
def qe(l:List ByteArray):List Value:=l.map Value.string
def pW(lb:ByteArray)(tk:Nat)(nm:ByteArray):List ByteArray:=(if lb=⟨#[]⟩ then [] else [lb])++(if tk=5 then [nm] else [])
theorem BN{T:ByteArray}(h:¬T=⟨#[]⟩):T.toList.isEmpty=false:=by
 rw[lB];cases e:T.data.toList with
 |nil=>exact absurd (by cases T;simp at e;simp[e]) h
 |cons a b=>rfl
theorem I3(w:World)(Z p0:Int)(lb:ByteArray)(tk:Nat)(nm:ByteArray)(va:Option Addr)(vn vc:Nat)(cd:Int)(ka:Option Addr)(kn kc:Nat)(sz:Int) :
 Calls prog 215 #[.agg #[.int .i64 Z,.int .i64 p0,.string lb,.int .i64 tk,.string nm,.slice va vn vc,.int .u8 cd,.slice ka kn kc,.int .i64 sz]] w fun e w'=>∃v,e=.returned v/\w'.ownsRow w.heap.size 9 1 v (pW lb tk nm).length (qe (pW lb tk nm))/\Below w.heap.size w w':=by
 obtain⟨R,hi,S,U,V⟩:=kQ Tryz.infoStrB;obtain⟨T,D⟩:∃T:Int,(tk:Int)=T:=⟨_,rfl⟩;rw[D];obtain⟨W,hW⟩:=Zg0 (w.alloc (.cells #[.int .i64 Z,.int .i64 p0,.string lb,.int .i64 T,.string nm,.slice va vn vc,.int .u8 cd,.slice ka kn kc,.int .i64 sz] 130));have G:Below w.heap.size w W:=eP;have NY:W.heap.size=w.heap.size+1:=by rw[<-hW];simp
 have hh:W.heap[w.heap.size]?=some (.cells #[.int .i64 Z,.int .i64 p0,.string lb,.int .i64 T,.string nm,.slice va vn vc,.int .u8 cd,.slice ka kn kc,.int .i64 sz] 130 (0,0)):=by rw[<-hW];exact kg w _
 have c2:W.cell? ⟨w.heap.size,2,none⟩=some (.string lb):=bE;have c3:W.cell? ⟨w.heap.size,3,none⟩=some (.int .i64 T):=bE;have c4:W.cell? ⟨w.heap.size,4,none⟩=some (.string nm):=bE;have HB:=oP (And.intro G hh);have I:(tk=5/\T=5)\/(¬tk=5/\¬T=5):=ae;unfold pW;by_cases h1:lb=⟨#[]⟩
 ·subst h1;rw[jT rfl];rcases I with⟨A,rfl⟩|⟨A,Vq6⟩
  ·rw[jT A];clear D A;clear G hh;go_enter func215,ntmps215
   go_wp2_with (
    at_builtin;refine kH _ rfl _ _ 22 rfl w.heap.size 9 R _ 1 16 underlying22 hi S U V rfl ah (.slice none 0 0) 0 [] rfl kA ⟨w.heap.size+1,0,none⟩ 1 1 [.string nm] rfl rfl (by have:=vz W [.string nm] 9;rwa [NY]at this) ax ak ae ai ?_;intro v' J Kc Kg _ Kj;obtain⟨RJ,RL,M⟩:=sP Kc;subst M)
   exact Mbn
  rw[jS A];clear D A;clear G hh;go_enter func215,ntmps215;go_wp2;go_ret;exact⟨_,rfl,kA,HB.o.1⟩
 have N6:=BN h1;rw[jS h1];rcases I with⟨A,rfl⟩|⟨A,Vq6⟩
 ·rw[jT A];clear D A;clear G hh;go_enter func215,ntmps215
  go_wp2_with (first
   | (at_builtin;refine kH _ rfl _ _ 22 rfl w.heap.size 9 R _ 1 16 underlying22 hi S U V rfl ah (.slice none 0 0) 0 [] rfl kA ⟨w.heap.size+1,0,none⟩ 1 1 [.string lb] rfl rfl fU ax ak ae ai ?_;intro v' J Kc Kg _ Kj;obtain⟨RJ,RL,M⟩:=sP Kc;have Kh:=(HB.o.1.alloc HB.o.1.size (.cells #[.string lb] 9)).grown Kg ai (fun k hk=>by simp[Value.ownBlock]at hk);have O:J.heap[w.heap.size]?=W.heap[w.heap.size]?:=fV;have d3:=(jW (a:=⟨w.heap.size,3,none⟩) O).trans c3;have d4:=(jW (a:=⟨w.heap.size,4,none⟩) O).trans c4;have HO:=oP Kc;have KK:=oP Kh;have WF5:=Kh.size;subst M;clear Kc Kg Kj Kh O)
   | (
    at_builtin;refine kH _ rfl _ _ 22 rfl w.heap.size 9 R _ 1 16 underlying22 hi S U V rfl ah (.slice RJ 1 RL) 1 [.string lb] rfl (HO.o.alloc _) ⟨J.heap.size,0,none⟩ 1 1 [.string nm] rfl rfl (vz _ _ _) ax ak ae ai ?_;intro v2 wm Mz WF6 _ Va5;obtain⟨Vq7,VL7,Wv8⟩:=sP Mz;subst Wv8))
  go_ret;refine⟨_,rfl,Mz,?_⟩;exact(KK.o.alloc KK.o.size _).grown WF6 ai (fun k hk=>(HO.o.lt k hk).1)
 rw[jS A];clear D A;clear G hh;go_enter func215,ntmps215
 go_wp2_with (
  at_builtin;refine kH _ rfl _ _ 22 rfl w.heap.size 9 R _ 1 16 underlying22 hi S U V rfl ah (.slice none 0 0) 0 [] rfl kA ⟨w.heap.size+1,0,none⟩ 1 1 [.string lb] rfl rfl fU ax ak ae ai ?_;intro v' J Kc Kg _ Kj;obtain⟨RJ,RL,M⟩:=sP Kc;have O:J.heap[w.heap.size]?=W.heap[w.heap.size]?:=fV;have d3:=(jW (a:=⟨w.heap.size,3,none⟩) O).trans c3;subst M)
 exact Mbn
theorem Z3n:(List.range 256).all (fun n=>decide (pk (n:Int)=111)||!(ph (n:Int)).1.isEmpty)=true:=aq
theorem Z7p{c:Int}(ho:OpD c)(code:ByteArray)(bh:Int):(∀o∈uP c code,(qn (o.at bh)).size<=2000)/\(uP c code).length<=3:=by
 have hn:(o9 c).length<=3:=by rw[tA];exact ho.n1
 have D:∀i j,j<(o9 c).length->(qn ((opA (qQ c) (o9 c) code i j).at bh)).size<=2000:=fun i j A=>by
  refine Ca _ (Cr _ _ code i j bh (ho.kind j A) ho.own0 (fun O=>?_))
  have I:(o9 c).getD j 0∈o9 c:=by
   rw[jZ,jX A];exact kC A
  rcases ho.own _ I with h'|h'
  ·omega
  omega
 unfold uP;cases J:(c==133) with
 |false=>
  rw[jS ah];unfold lAt;refine⟨fun o G=>?_,by simpa using hn⟩;obtain⟨j,A,rfl⟩:=lf.1 G;exact D _ j (lM.1 A)
 |true=>
  rw[jT rfl];have M:=ho.swap J;generalize qQ c=own at *;rw[M]at D⊢;have e:ub (lAt own [11,11] code ([11,11]:List Nat).length)=[opA own [11,11] code 2 1,opA own [11,11] code 2 0]:=rfl;rw[e];refine⟨fun o G=>?_,af⟩;simp only[kF,lE,lF]at G;rcases G with rfl|rfl
  ·exact D 2 1 ah
  exact D 2 0 ah
theorem EC(code:ByteArray)(A:Int):((qR code A).2=0/\(qR code A).1=⟨#[]⟩)\/(1<=(qR code A).2/\0<(qR code A).1.size/\(qR code A).1.size<=20000):=by
 unfold qR;by_cases h:0<code.size
 ·rw[mR h];have D:=Ee code[0];unfold okD at D;by_cases G:pk (code[0].toNat:Int)=111
  ·rw[jT G];exact .inl ⟨rfl,rfl⟩
  rw[jS G];rw[jS G]at D;simp only[kB,kI]at D;obtain⟨V,J⟩:=D;have I:=kx.1 Z3n code[0].toNat (lM.2 (by have:=code[0].toNat_lt;omega));rw[j9 G,mN]at I
  have O:0<(ph (code[0].toNat:Int)).1.length:=by
   rcases T0D (ph (code[0].toNat:Int)).1.length with e|e
   ·rw[mv.1 e]at I;cases I
   exact e
  have Z:(ph (code[0].toNat:Int)).1.length<=(rowAt (pk (code[0].toNat:Int))).2.2.length:=by
   unfold ph Lib.cut;split
   ·exact T0p _ _
   exact jU
  cases hcut:(ph (code[0].toNat:Int)).2.2 with
  |false=>
   rw[jT rfl];refine .inr ⟨jU,?_,?_⟩
   ·show 0<(ph (code[0].toNat:Int)).1.toArray.size;rw[lJ];exact O
   show (ph (code[0].toNat:Int)).1.toArray.size<=20000;rw[lJ];omega
  |true=>
   rw[hcut]at J;have ho:=I5 _ J;rw[jS ah];by_cases M:pv (o9 (code[0].toNat:Int))<=code.size
   ·rw[jT M];obtain⟨h1,h2⟩:=Z7p ho code (rK A (pv (o9 (code[0].toNat:Int)):Nat))
    have R:=A5 ((uP (code[0].toNat:Int) code).map fun o:Opn=>(qn (o.at (rK A (pv (o9 (code[0].toNat:Int)):Nat)))).data.toList) (fun x hx=>by
     obtain⟨o,S,rfl⟩:=lf.1 hx;have:=h1 o S;rw[kE];exact this)
    rw[kL]at R
    have hs:(xK ⟨(ph (code[0].toNat:Int)).1.toArray⟩ (uP (code[0].toNat:Int) code) (rK A (pv (o9 (code[0].toNat:Int)):Nat))).size=(ph (code[0].toNat:Int)).1.length+1+(Lib.join ((uP (code[0].toNat:Int) code).map fun o:Opn=>(qn (o.at (rK A (pv (o9 (code[0].toNat:Int)):Nat)))).data.toList) [44]).length:=by
     unfold xK;rw[lK,lK];show (ph (code[0].toNat:Int)).1.toArray.size+1+(Lib.join _ [44]).toArray.size=_;rw[lJ,lJ]
    have U:(uP (code[0].toNat:Int) code).length*(2000+1)<=3*2001:=T0E _ h2;refine .inr ⟨?_,?_,?_⟩
    ·show 1<=pv _;unfold pv;omega
    ·show 0<(xK _ _ _).size;omega
    show (xK _ _ _).size<=20000;omega
   rw[jS M];exact .inl ⟨rfl,rfl⟩
 rw[nh h];exact .inl ⟨rfl,rfl⟩
def wZ(B:List UInt8)(L:List Bool)(p:Nat):ByteArray:=if (qR (tW B L p) (p:Int)).2=0 then ⟨#[63]⟩ else (qR (tW B L p) (p:Int)).1
def wB(B:List UInt8)(L:List Bool)(p:Nat):ByteArray:=((⟨#[hd ((p:Int)/4096),hd ((p:Int)/256),hd ((p:Int)/16),hd (p:Int)]⟩:ByteArray)++⟨#[32]⟩)++wZ B L p
theorem DW(L:List Bool)(p:Nat):ldN L p<=3/\ldN L p<=L.length-p:=by
 unfold ldN;have h1:(((L.drop p).take 3).takeWhile id).length<=((L.drop p).take 3).length:=(oj _).length_le;rw[nD,mD]at h1;omega
theorem B8{B:List UInt8}{L:List Bool}(A:B.length=1024)(D:L.length=1024)(p:Nat):(tW B L p).size=ldN L p:=by
 show ((B.drop p).take (ldN L p)).toArray.size=_;rw[lJ,nD,mD];have:=DW L p;omega
theorem EB{B:List UInt8}{L:List Bool}(A:B.length=1024)(D:L.length=1024)(p:Nat)(_hp:p<1024):(wZ B L p).size<=20000:=by
 unfold wZ;split
 ·exact(by decide:(1:Nat)<=20000)
 rename_i h
 have hs:=B8 A D p;have:=DW L p;rcases EC (tW B L p) (p:Int) with⟨h1,_⟩|⟨_,_,hx⟩
 ·exact absurd h1 h
 exact hx
theorem Z7j(J M A lb lo V sb O Z:Nat)(B:List UInt8)(L S:List Bool)(p:Nat)(hp:p<1024)(m:Int)(w:World)(h:ImgR w J M lb lo sb O B L S)(Sq:1024<=A/\A<=maxLen)(hm:w.cell? ⟨0,0,none⟩=some (.int .i64 m)) :
  Calls prog 67 #[imV J M A lb lo V sb O Z,.int .i64 (p:Int)] w fun e w'=>e=.returned (.string (wB B L p))/\Below w.heap.size w w':=by
 obtain⟨W,hW,D,hz,u0,u1,u2⟩:=xm w (.slice (some ⟨J,M,none⟩) 1024 A) (.slice (some ⟨lb,lo,none⟩) 1024 V) (.slice (some ⟨sb,O,none⟩) 1024 Z);have h0:0<w.heap.size:=lD _ hm;have Ls:=h.bl;have N5:=h.ll;have LZ:(tW B L p).size<=3:=by rw[B8 Ls N5];exact(DW L p).1
 have NH:=EB Ls N5 p hp;have HL:=oP (Z1H J M A lb lo V sb O Z B L S p hp W (h.below D) Sq);obtain⟨C,hC⟩:=Zg0 (tW B L p);obtain⟨T,R⟩:=Zg0 (wZ B L p);have Wi0:T=if (qR C (p:Int)).2=0 then ⟨#[63]⟩ else (qR C (p:Int)).1:=by rw[<-R,<- hC];rfl
 rw[hC]at LZ HL;rw[R]at NH
 have HD:Hid (∀w':World,Below W.heap.size W w'->Calls prog 30 #[.string C,.int .i64 (p:Int)] w' fun e w2=>e=.returned (.tuple #[.string (qR C (p:Int)).1,.int .i64 ((qR C (p:Int)).2:Nat)])/\Below w'.heap.size w' w2):=fun w' hb=>by
  have Vp:=D.trans (hb.mono D.size);exact JQ C (p:Int) ak w' m ((jW (a:=⟨0,0,none⟩) (Vp.block 0 h0)).trans hm) (ke h0 Vp.size)
 obtain⟨D1,Z0⟩:=Zg0 ((qR C (p:Int)).1);obtain⟨U,G⟩:=Zg0 ((qR C (p:Int)).2);rw[Z0,G]at Wi0 HD;have Yx:(p:Int)<=65535:=ae;have WF7:IntKind.u16.wrap (p:Int)=(p:Int):=by rw[mq];omega
 have HX:Hid (∀w':World,Calls prog 112 #[.int .u16 (p:Int),.int .i64 4] w' fun e w2=>e=.returned (.string ⟨#[hd ((p:Int)/4096),hd ((p:Int)/256),hd ((p:Int)/16),hd (p:Int)]⟩)/\Below w'.heap.size w' w2):=fun w'=>AK (p:Int) ae Yx w'
 have Xe:wB B L p=((⟨#[hd ((p:Int)/4096),hd ((p:Int)/256),hd ((p:Int)/16),hd (p:Int)]⟩:ByteArray)++⟨#[32]⟩)++T:=by unfold wB;rw[R]
 rw[Xe];obtain⟨I,Rj⟩:∃I:ByteArray,⟨#[hd ((p:Int)/4096),hd ((p:Int)/256),hd ((p:Int)/16),hd (p:Int)]⟩=I:=⟨_,rfl⟩;have MR:I.size=4:=by rw[<-Rj];rfl
 rw[Rj]at HX⊢;obtain⟨X1,V7⟩:=Zg0 (I++(⟨#[32]⟩:ByteArray));have MS:X1.size=5:=by rw[<-V7,lK,MR];rfl
 have Vq8:(I.size:Int)<=4:=ae;have Vq9:(X1.size:Int)<=5:=ae;have bT:(T.size:Int)<=20000:=ae;have HB:=oP D;rw[V7];clear h hm hC R Z0 G Xe Rj D LZ NH Ls N5;by_cases ZJ:U=0
 ·rw[jT ZJ]at Wi0;have g0:((U:Int)==0)=true:=ai;exact Mar
 rw[jS ZJ]at Wi0;have g0:((U:Int)==0)=false:=ai;have g1:¬(U:Int)=0:=ae;exact Mar
def lsF(B:List UInt8)(L S:List Bool)(k:Nat):List ByteArray:=((List.range k).filter fun j=>S.getD j false).map (wB B L)
theorem CS(B:List UInt8)(L S:List Bool)(k:Nat):(lsF B L S k).length<=k:=by
 unfold lsF;rw[kL];have:=T0y (fun j=>S.getD j false) (List.range k);rw[mA]at this;exact this
theorem ET(B:List UInt8)(L S:List Bool)(k:Nat):lsF B L S (k+1)=lsF B L S k++(if S.getD k false=true then [wB B L k] else []):=by
 unfold lsF;rw[oq,T0z,l7]
 have e:List.filter (fun j=>S.getD j false) [k]=if S.getD k false=true then [k] else []:=by
  rw[List.filter_cons,List.filter_nil]
 rw[e];congr 1;split <;> rfl
theorem Z5v(G I A lb lo M sb D O:Nat)(B:List UInt8)(L S:List Bool)(m:Int)(w:World)(h:ImgR w G I lb lo sb D B L S)(Sq:1024<=A/\A<=maxLen)(hm:w.cell? ⟨0,0,none⟩=some (.int .i64 m)) :
  Calls prog 32 #[imV G I A lb lo M sb D O] w fun e w'=>∃v,e=.returned (.tuple #[v,.int .i64 0])/\w'.ownsRow w.heap.size 9 1 v (lsF B L S 1024).length (qe (lsF B L S 1024))/\Below w.heap.size w w':=by
 obtain⟨i0,hi,KJ,KC,Ky⟩:=kQ Tryz.infoStrB;obtain⟨W,hW,hB,hz,u0,u1,u2⟩:=xm w (.slice (some ⟨G,I,none⟩) 1024 A) (.slice (some ⟨lb,lo,none⟩) 1024 M) (.slice (some ⟨sb,D,none⟩) 1024 O);have h0:0<w.heap.size:=lD _ hm;have TO:=h.sl;have HI:Hid (Calls prog 66 #[imV G I A lb lo M sb D O] W fun e w'=>e=.returned (.bool true)/\Below W.heap.size W w'):=(Gd (some ⟨G,I,none⟩) (some ⟨lb,lo,none⟩) (some ⟨sb,D,none⟩) 1024 A 1024 M 1024 O ak ak ak W)
 have HL:Hid (∀(w':World) (p:Nat),Below w.heap.size w w'->p<1024->Calls prog 67 #[imV G I A lb lo M sb D O,.int .i64 (p:Int)] w' fun e w2=>e=.returned (.string (wB B L p))/\Below w'.heap.size w' w2):=fun w' p U hp=>
  Z7j G I A lb lo M sb D O B L S p hp m w' (h.below U) Sq ((jW (a:=⟨0,0,none⟩) (U.block 0 h0)).trans hm)
 have KV:Hid (∀w':World,Below W.heap.size W w'->w'.cell? ⟨w.heap.size,0,none⟩=some (.slice (some ⟨G,I,none⟩) 1024 A)/\w'.cell? ⟨w.heap.size,1,none⟩=some (.slice (some ⟨lb,lo,none⟩) 1024 M)/\w'.cell? ⟨w.heap.size,2,none⟩=some (.slice (some ⟨sb,D,none⟩) 1024 O)):=fun w' U=>
  ⟨(jW (a:=⟨w.heap.size,0,none⟩) (U.block w.heap.size ae)).trans u0,(jW (a:=⟨w.heap.size,1,none⟩) (U.block w.heap.size ae)).trans u1,(jW (a:=⟨w.heap.size,2,none⟩) (U.block w.heap.size ae)).trans u2⟩
 have HH:=oP h;have HB:=oP hB;clear h hB hm;go_enter func32,ntmps32;go_upto_region 5 with(first| (go_at_call 66;refine HI.o.mono ?_;rintro e R ⟨rfl,Z⟩;obtain⟨v0,v1,v2⟩:=KV.o _ Z;have KK:=oP (HB.o.trans (Z.mono HB.o.size));have We9:=Z.size;clear Z));have VV:=oP (And.intro v0 (And.intro v1 v2));clear u0 u1 u2 hW v0 v1 v2;go_loopw [4,13] (fun v i wz=>∃k:Nat,k<=1024/\i=.int .i64 (k:Int)/\wz.ownsRow R.heap.size 9 1 v (lsF B L S k).length (qe (lsF B L S k))/\Below R.heap.size R wz) (fun _ i _=>1024-(intOf i).toNat)
 case atStart=>exact⟨0,j4,rfl,kA,jV⟩
 case round=>
  obtain⟨k,hk,rfl,V,J⟩:=hrel;have LQ:Below w.heap.size w wr:=KK.o.trans (J.mono KK.o.size);have Lu:=oP LQ;have Xf:=oP J;obtain⟨p0,p1,p2⟩:=VV.o;have v0:=(jW (a:=⟨w.heap.size,0,none⟩) (J.block w.heap.size ae)).trans p0;have v1:=(jW (a:=⟨w.heap.size,1,none⟩) (J.block w.heap.size ae)).trans p1;have v2:=(jW (a:=⟨w.heap.size,2,none⟩) (J.block w.heap.size ae)).trans p2;clear p0 p1 p2;have WQ:=J.size;have Ki:=oP V;have Mh:=CS B L S k;have MN:=ET B L S k;by_cases Ol:k<1024
  ·have d1:(k:Int)<1024:=by omega
   obtain⟨x,hx⟩:∃x,S[k]?=some x:=⟨_,jX ae⟩
   have cs:wr.cell? ⟨sb,D+k,none⟩=some (.bool x):=by
    obtain⟨Ub,e2⟩:=mh.1 hx;rw[(HH.o.below LQ).s k Ub,e2]
   have LH:S.getD k false=x:=by rw[jZ,hx];rfl
   rw[LH]at MN;clear V LQ J hx LH;cases x with
   |false=>exact Ma4
   |true=>
    rw[jT rfl]at MN;have SN:=oP MN;obtain⟨T,hT⟩:=Zg0 (wB B L k);have PZ:=oP (HL.o wr k Lu.o Ol);rw[hT]at PZ;have HT:=oP hT;obtain⟨n,hn⟩:=Zg0 ((lsF B L S k).length);have HN:=oP hn;rw[hn]at Ki Mh;clear MN hT hn;go_wp2_with (first| (go_at_call 67;refine PZ.o.mono ?_;rintro e w2 ⟨rfl,Km⟩;have LC:=Ki.o.below3 Km;have Wi2:=Km.size;have Lo:=oP Km;clear Km)|(at_builtin;refine nr _ rfl _ _ 22 rfl R.heap.size 9 i0 _ 1 16 underlying22 hi KJ KC Ky rfl ah _ _ _ rfl (LC.alloc _) ⟨w2.heap.size,0,none⟩ 1 1 [.string T] rfl rfl ?c1 ?c2 ?c3 ?c4 ?c5 ?_))
    case c1=>
     intro j u hj;match j,hj with
     |0,hj=>simp at hj;subst hj;simp[Addr.add]
    case c2=>intro u hu;simp at hu;subst hu;rfl
    case c3=>unfold maxLen;omega
    case c4=>omega
    case c5=>simp;omega
    intro v' wn K4 K8 _;have M4:Below R.heap.size R wn:=((Xf.o.trans (Lo.o.mono WQ)).alloc ae _).grown K8 ai (uH LC)
    have Og:wn.ownsRow R.heap.size 9 1 v' (lsF B L S (k+1)).length (qe (lsF B L S (k+1))):=by
     rw[SN.o,kq,HN.o,HT.o];unfold qe at K4⊢;rw[l7];exact K4
    have LV:=oP (And.intro Og M4);clear K4 K8 LC Og M4;exact MbD
  have d1:¬(k:Int)<1024:=ae;have Rx:k=1024:=ae
  have Oz:wr.ownsRow w.heap.size 9 1 u4 (lsF B L S 1024).length (qe (lsF B L S 1024)):=by
   rw[Rx]at V;exact pC V ae
  have HF:=oP Oz;clear V Oz Rx LQ J MN Mh;go_wp2;go_ret2;exact⟨_,rfl,HF.o,Lu.o⟩
theorem Z4B(D G A lb lo M sb I O:Nat)(B:List UInt8)(L S:List Bool)(m:Int)(w:World)(h:ImgR w D G lb lo sb I B L S)(Sq:1024<=A/\A<=maxLen)(R:w.cell? ⟨0,0,none⟩=some (.int .i64 m)) :
  Calls prog 18 #[imV D G A lb lo M sb I O] w fun e w'=>∃v,e=.returned (.tuple #[v,.int .i64 0])/\w'.ownsRow w.heap.size 9 1 v (lsF B L S 1024).length (qe (lsF B L S 1024))/\Below w.heap.size w w':=by
 obtain⟨W,hW,J,hz,u0,u1,u2⟩:=xm w (.slice (some ⟨D,G,none⟩) 1024 A) (.slice (some ⟨lb,lo,none⟩) 1024 M) (.slice (some ⟨sb,I,none⟩) 1024 O);have h0:0<w.heap.size:=lD _ R;have HL:=oP (Z5v D G A lb lo M sb I O B L S m W (h.below J) Sq ((jW (a:=⟨0,0,none⟩) (J.block 0 h0)).trans R));have HB:=oP J;clear h J R;go_enter func18,ntmps18;go_wp2_with (first| (go_at_call 32;refine HL.o.mono ?_;rintro e w1 ⟨v,rfl,U,V⟩;have Z:=oP (And.intro U V);clear U V));go_ret2;exact⟨v,rfl,pC Z.o.1 ae,HB.o.trans (Z.o.2.mono HB.o.size)⟩
theorem EW{P:Program}{n:Nat}{m m1:Machine}{o:Outcome}{w:World}(h:_root_.Go.runN P n m=.next m1)(h1:step P m1=.ended o w):_root_.Go.runN P (n+1) m=.ended o w:=by
 rw[_root_.Go.runN_add,h];show _root_.Go.runN P 1 m1=_;simp[_root_.Go.runN,h1]
theorem Fp{P:Program}{o:Outcome}{w:World}:∀(n k:Nat) (m:Machine),_root_.Go.runN P n m=.ended o w->_root_.Go.runN P (n+k) m=.ended o w:=fun n k m h=>by rw[_root_.Go.runN_add,h]
theorem Z57{P:Program}{f:FuncId}{args:Array Value}{w:World}{a b:Value}{Q R:World->Prop}(hi:P.inits.idxOf? f=none)(h1:Calls P f args w fun e w'=>e=.returned a/\Q w')(h2:Calls P f args w fun e w'=>e=.returned b/\R w'):a=b:=by
 obtain⟨e,O,f1,⟨rfl,_⟩,⟨n,hn⟩,A,D⟩:=h1 [];obtain⟨e,S,f2,⟨rfl,_⟩,⟨k,hk⟩,G,I⟩:=h2 [];have J:=EW hn (step_leave_done D (by rw[A];exact hi));have M:=EW hk (step_leave_done I (by rw[G];exact hi));have t1:=Fp (n+1) (k+1) _ J;have t2:=Fp (k+1) (n+1) _ M;rw[show k+1+(n+1)=n+1+(k+1) by omega,t1]at t2;injection t2 with e1 _;injection e1
theorem Z5U(code:ByteArray)(A:Int)(hc:code.size<=maxLen)(D:World)(m:Int)(G:D.cell? ⟨0,0,none⟩=some (.int .i64 m))(h0:0<D.heap.size)(w:World) :
  Calls prog 55 #[.string code,.int .i64 A] w fun e w'=>e=.returned (.tuple #[.string (qR code A).1,.int .i64 ((qR code A).2:Nat)])/\Below w.heap.size w w':=by
 obtain⟨R,S,h1,h2⟩:=Z1L code A hc;have e:=Z57 aj (h1 D m G h0) (JQ code A hc D m G h0);rw[<-e];exact h2 w
theorem F0(a0 a1 a2:Option Addr)(n0 c0 n1 c1 A c2:Nat)(h0:n0<=maxLen)(h1:n1<=maxLen)(h2:A<=maxLen)(w:World) :
  Calls prog 54 #[.agg #[.slice a0 n0 c0,.slice a1 n1 c1,.slice a2 A c2]] w fun e w'=>e=.returned (.bool (decide (n0=1024/\n1=1024/\A=1024)))/\Below w.heap.size w w':=by
 have hb:Below w.heap.size w (w.alloc (.cells #[.slice a0 n0 c0,.slice a1 n1 c1,.slice a2 A c2] 35)):=(jV).alloc jU _;by_cases D:n0=1024
 ·by_cases e1:n1=1024
  ·by_cases e2:A=1024
   ·rw[kj ⟨D,e1,e2⟩];subst D e1 e2;exact McF
   rw[j9 (fun h=>e2 h.2.2)];subst D e1;have g2:((A:Int)==1024)=false:=ai;exact McF
  rw[j9 (fun h=>e1 h.2.1)];subst D;have g1:((n1:Int)==1024)=false:=ai;exact McF
 rw[j9 (fun h=>D h.1)];have g0:((n0:Int)==1024)=false:=ai;exact McF
theorem Z3N(a0 a1 a2:Option Addr)(n0 c0 n1 c1 A c2:Nat)(h0:n0<=maxLen)(h1:n1<=maxLen)(h2:A<=maxLen)(hn:¬(n0=1024/\n1=1024/\A=1024))(w:World) :
  Calls prog 18 #[.agg #[.slice a0 n0 c0,.slice a1 n1 c1,.slice a2 A c2]] w fun e w'=>e=.returned (.tuple #[.slice none 0 0,.int .i64 9])/\Below w.heap.size w w':=by
 obtain⟨W,O,G,hz,u0,u1,u2⟩:=xm w (.slice a0 n0 c0) (.slice a1 n1 c1) (.slice a2 A c2);obtain⟨V,R,I,S,t0,t1,t2⟩:=xm W (.slice a0 n0 c0) (.slice a1 n1 c1) (.slice a2 A c2);have J:=oP (Gd a0 a1 a2 n0 c0 n1 c1 A c2 h0 h1 h2 V);rw[j9 hn]at J;have HB:=oP (G.trans (I.mono G.size))
 have U:Hid (Calls prog 32 #[.agg #[.slice a0 n0 c0,.slice a1 n1 c1,.slice a2 A c2]] W fun e w'=>e=.returned (.tuple #[.slice none 0 0,.int .i64 9])/\Below w.heap.size w w'):=by
  show Calls _ _ _ _ _;clear u0 u1 u2 G I hn h0 h1 h2 O hz;go_enter func32,ntmps32;go_wp2_with (go_at_call 66;refine J.o.mono ?_;rintro e Z ⟨rfl,D⟩;have M:=oP (HB.o.trans (D.mono HB.o.size));clear D);go_ret2;exact⟨rfl,M.o⟩
 clear G I R t0 t1 t2 S J hn h0 h1 h2;go_enter func18,ntmps18;go_wp2_with (go_at_call 32;refine U.o.mono ?_;rintro e Z ⟨rfl,D⟩;have M:=oP D;clear D);go_ret2;exact⟨rfl,M.o⟩
theorem Z6A(a0 a1 a2:Option Addr)(n0 c0 n1 c1 A c2:Nat)(h0:n0<=maxLen)(h1:n1<=maxLen)(h2:A<=maxLen)(hn:¬(n0=1024/\n1=1024/\A=1024))(w:World) :
  Calls prog 27 #[.agg #[.slice a0 n0 c0,.slice a1 n1 c1,.slice a2 A c2]] w fun e w'=>e=.returned (.tuple #[.slice none 0 0,.int .i64 9])/\Below w.heap.size w w':=by
 obtain⟨W,M,D,hz,u0,u1,u2⟩:=xm w (.slice a0 n0 c0) (.slice a1 n1 c1) (.slice a2 A c2);have G:=oP (F0 a0 a1 a2 n0 c0 n1 c1 A c2 h0 h1 h2 W);rw[j9 hn]at G;have HB:=oP D;clear D hn h0 h1 h2;go_enter func27,ntmps27;go_wp2_with fail;refine G.o.mono ?_;rintro e O ⟨rfl,I⟩;have J:=oP (HB.o.trans (I.mono HB.o.size));clear I;go_wp2_with fail;go_ret2;exact⟨rfl,J.o⟩
theorem Z8A(B:List UInt8)(L:List Bool)(p:Nat):wZ B L p=if (qR (tW B L p) (p:Int)).1=⟨#[]⟩ then ⟨#[63]⟩ else (qR (tW B L p) (p:Int)).1:=by
 unfold wZ;rcases EC (tW B L p) (p:Int) with h|h
 ·rw[jT h.1,jT h.2]
 rw[jS (fun c=>by have:=h.1;omega),jS (fun e=>by have:=h.2.1;rw[e]at this;exact absurd this ah)]
def qU(e:List Trm):List ByteArray:=(e.filter fun t=>!decide (t.name=⟨#[]⟩)).map (·.name)
def pq(es:List (List Trm)):List ByteArray:=es.flatMap qU
def pL(es:List (List Trm)):Nat:=(es.map List.length).sum
theorem Hs(es:List (List Trm))(j:Nat)(h:j<es.length):pL (es.take (j+1))=pL (es.take j)+es[j].length:=by
 unfold pL;rw[lR,jX h,l7,List.sum_append_nat];rfl
theorem J8(es:List (List Trm))(j:Nat):pL (es.take j)<=pL es:=by
 have:pL es=pL (es.take j)+pL (es.drop j):=by
  unfold pL;rw[<-List.sum_append_nat,<- l7,nB]
 omega
theorem Z0q(es:List (List Trm))(j:Nat)(h:j<es.length):pq (es.take (j+1))=pq (es.take j)++qU es[j]:=by
 unfold pq;rw[lR,jX h,nQ];simp only[oK,mT,T0F,kX]
theorem Z3Y(e:List Trm)(k:Nat)(h:k<e.length):qU (e.take (k+1))=qU (e.take k)++(if e[k].name=⟨#[]⟩ then [] else [e[k].name]):=by
 unfold qU;rw[lR,jX h,T0z,l7];congr 1;by_cases hn:e[k].name=⟨#[]⟩
 ·simp[hn]
 simp[hn]
theorem Hr(e:List Trm):(qU e).length<=e.length:=by
 unfold qU;rw[kL];exact T0y _ _
theorem Cb(es:List (List Trm)):(pq es).length<=pL es:=by
 induction es with
 |nil=>exact jU
 |cons e es ih=>
  have:=Hr e;have h1:pq (e::es)=qU e++pq es:=rfl;have h2:pL (e::es)=e.length+pL es:=bV;rw[h1,h2,kq];omega
theorem zQ{w:World}{base:Nat}{v:Value}:∀ {vs:List Value} {es:List (List Trm)},EachE w base v vs es->∀j (h:j<es.length),∃x,vs[j]?=some x/\w.ownsRow base 261 4 x es[j].length (pN es[j])
 |[],[],_,j,h=>absurd h (lH _)
 |x::vs,e::es,A,0,_=>⟨x,rfl,A.1.1⟩
 |x::vs,e::es,A,j+1,h=>zQ A.2 j av
theorem I0(l:List Trm):∀(k:Nat) (h:k<l.length),(pN l)[k*4]?=some (.bool l[k].minus)/\(pN l)[k*4+1]?=some (.string l[k].name)/\(pN l)[k*4+2]?=some (.bool l[k].here)/\(pN l)[k*4+3]?=some (.int .i64 l[k].num):=by
 induction l with
 |nil=>intro k h;exact absurd h (lH _)
 |cons t l ih=>
  intro k h;cases k with
  |zero=>simp[pN,Trm.cells]
  |succ k=>
   have:=ih k av;have e:∀i,(pN (t::l))[(k+1)*4+i]?=(pN l)[k*4+i]?:=Mci;have A:=e 0;simp only[kK]at A;rw[A,e 1,e 2,e 3];exact this
theorem xO{w:World}{base e size n g off A:Nat}{xs:List Value}(h:w.ownsRow base e size (.slice (some ⟨g,off,none⟩) n A) n xs):off=0/\∀i u,xs[i]?=some u->w.cell? ⟨g,i,none⟩=some u:=by
 have h2:=h;obtain⟨_,⟨e1,_⟩|⟨G,I,J,e1,_⟩⟩:=h
 ·cases e1
 cases e1;refine⟨rfl,fun i u D=>?_⟩;have:=h2.cells (g:=g) rfl i u D;rwa [k9,kN]at this
theorem xU{w:World}{base e size n:Nat}{v:Value}{xs:List Value}(h:w.ownsRow base e size v n xs)(hn:0<n):∃g A,v=.slice (some ⟨g,0,none⟩) n A:=by
 obtain⟨_,⟨_,e2⟩|⟨g,A,D,rfl,_⟩⟩:=h
 ·omega
 exact⟨g,A,rfl⟩
theorem tV{w:World}{base:Nat}{e:TypeId}{size n:Nat}{v:Value}{xs:List Value}(h:w.ownsRow base e size v n xs):∃a m c,v=.slice a m c:=by
 obtain⟨a,c,e⟩:=sP h;exact⟨a,n,c,e⟩
theorem Gh(w:World)(base:Nat)(es:List (List Trm))(l0 p0:Int)(lb:ByteArray)(tk:Int)(nm:ByteArray)(va:Option Addr)(vn vc:Nat)(cd:Int)(ka:Option Addr)(kn kc:Nat)(sz:Int)(hv:VAt w base (.slice va vn vc) es)(hn:es.length<=1000000)(hc:pL es<=1000000) :
  Calls prog 108 #[.agg #[.int .i64 l0,.int .i64 p0,.string lb,.int .i64 tk,.string nm,.slice va vn vc,.int .u8 cd,.slice ka kn kc,.int .i64 sz]] w fun e w'=>∃v,e=.returned v/\w'.ownsRow w.heap.size 9 1 v (pq es).length (qe (pq es))/\Below w.heap.size w w':=by
 obtain⟨i0,hi,KJ,KC,Ky⟩:=kQ Tryz.infoStrB;obtain⟨vs,Ke,hE⟩:=hv;obtain⟨a',c',R⟩:=sP Ke;obtain rfl:vn=es.length:=by cases R;rfl
 have Ki:=oP Ke;have HE:=oP (fun j (h:j<es.length)=>zQ hE j h);have HC:=oP hc;have Vg:(es.length:Int)<=1000000:=ae;clear Ke hE R hc;go_enter func108,ntmps108;go_wp2_with fail;go_loopw [3,11] (fun v i wr=>∃j:Nat,j<=es.length/\i=.int .i64 j/\wr.ownsRow w.heap.size 9 1 v (pq (es.take j)).length (qe (pq (es.take j)))/\Below w.heap.size w wr) (fun _ i _=>es.length-(intOf i).toNat)
 case atStart=>exact⟨0,j4,rfl,kA,jV.alloc jU _⟩
 case round=>
  obtain⟨j,hj,rfl,D,G⟩:=hrel;obtain⟨ra,rn,rc,rfl⟩:=tV D;have A:=oP D;have HB:=oP G;clear D G;by_cases Kf:j<es.length
  ·have K6:(j:Int)<(es.length:Int):=by omega
   obtain⟨g,Kd,R⟩:=xU Ki.o ae;cases R;obtain⟨x,hx,U⟩:=HE.o j Kf;have V:=rO U HB.o;have cj:=(xO (rO Ki.o HB.o)).2 j x hx;obtain⟨xa,xc,rfl⟩:=sP U;obtain⟨E,Z1⟩:=Zg0 (es[j]);have h1:=Hs es j Kf;have h2:=J8 es (j+1);have h3:=Cb (es.take j);have h4:=Z0q es j Kf;rw[Z1]at U V cj h1 h4;have HX:=oP U;obtain⟨L,hL⟩:=Zg0 (pq (es.take j));rw[hL]at A h3 h4;have Vr0:(E.length:Int)<=1000000:=by have:=HC.o;omega
   have VL8:L.length+E.length<=1000000:=by have:=HC.o;omega
   have HU:=oP h4;clear hx U V h1 h2 h3 h4 Z1;go_wp2_with fail;go_loopw [3,17] (fun v i wr=>∃k:Nat,k<=E.length/\i=.int .i64 k/\wr.ownsRow w.heap.size 9 1 v (L++qU (E.take k)).length (qe (L++qU (E.take k)))/\Below w.heap.size w wr) (fun _ i _=>E.length-(intOf i).toNat)
   case atStart=>exact⟨0,j4,rfl,by simpa [qU]using A.o,HB.o⟩
   case round=>
    clear A HB cj;obtain⟨k,hk,rfl,D,G⟩:=hrel;obtain⟨ra,rn,rc,rfl⟩:=tV D;by_cases O9:k<E.length
    ·have QR:(k:Int)<(E.length:Int):=by omega
     obtain⟨gx,cx,R⟩:=xU HX.o ae;cases R;have Z:=(xO (rO HX.o G)).2;obtain⟨t0,t1,t2,t3⟩:=I0 E k O9;have I:=Z3Y E k O9;have Va7:=Hr (E.take k);rw[nD]at Va7;obtain⟨t,ht⟩:=Zg0 (E[k]);rw[ht]at t0 t1 t2 t3 I;have d0:=Z _ _ t0;have d1:=Z _ _ t1;have d2:=Z _ _ t2;have d3:=Z _ _ t3;obtain⟨mi,J,he,nu⟩:=t;simp only at d0 d1 d2 d3 I;obtain⟨M,S⟩:=Zg0 (L++qU (E.take k));have VL9:M.length<=1000000:=by rw[<-S,kq];omega
     rw[S]at D;have A:=oP D;have HB:=oP G;have WK:=G.size;clear Z t0 t1 t2 t3 ht D G Va7;by_cases RR:J=⟨#[]⟩
     ·subst RR;rw[jT rfl,kX]at I
      have O:Hid (L++qU (E.take (k+1))=M):=by
       show L++qU (E.take (k+1))=M;rw[I,S]
      clear I S;go_wp2;go_roundw
      case rel=>exact⟨k+1,ae,ao,by rw[O.o];exact A.o.alloc _,HB.o.alloc WK _⟩
      case measure=>simp[intOf];omega
     have N6:=BN RR;rw[jS RR]at I
     have O:Hid (L++qU (E.take (k+1))=M++[J]):=by
      show L++qU (E.take (k+1))=M++[J];rw[I,<- mS,S]
     clear I S
     go_wp2_with (
      at_builtin;refine kH _ rfl _ _ 22 rfl w.heap.size 9 i0 _ 1 16 underlying22 hi KJ KC Ky rfl ah (.slice ra rn rc) M.length (qe M) rfl ((A.o.alloc _).alloc _) ⟨wr.heap.size+1,0,none⟩ 1 1 [.string J] rfl rfl (by have:=vz (wr.alloc (.cells #[.bool mi,.string J,.bool he,.int .i64 nu] 261)) [.string J] 9;rwa [xh]at this) ax ak ae ai ?_;intro v' wn Kc Kg _ Kj;obtain⟨RJ,Ve,RL,VR⟩:=tV Kc;have Kh:=((HB.o.alloc WK (.cells #[.bool mi,.string J,.bool he,.int .i64 nu] 261)).alloc ai (.cells #[.string J] 9)).grown Kg ai (fun k hk=>(A.o.lt k hk).1);have HO:=oP Kc;have KK:=oP Kh;subst VR;clear Kc Kg Kj Kh)
     go_roundw
     case rel=>exact⟨k+1,ae,ao,by rw[O.o];simpa [qe]using HO.o,KK.o⟩
     case measure=>simp[intOf];omega
    have QR:¬(k:Int)<(E.length:Int):=ae;have ek:k=E.length:=ae;subst ek;rw[mL,<- HU.o]at D;have A:=oP D;have HB:=oP G;clear D G;go_wp2;go_roundw
    case rel=>exact⟨j+1,ae,ao,by first| exact A.o|simpa using A.o,HB.o⟩
    case measure=>simp[intOf];omega
  have K6:¬(j:Int)<(es.length:Int):=ae;have ej:j=es.length:=ae;subst ej;rw[mL]at A;go_wp2;go_ret;exact⟨_,rfl,A.o,HB.o⟩
