import Derived.Test.YthokdbcpkmcieaaGreatDoorH24
set_option maxRecDepth 200000
set_option maxHeartbeats 16000000
namespace Go.Proofs.YthokdbcpkmcieaaGreatDoor
open RowKit Proofs.Tryz
def qx(t:RTok):Bool:=if t.kind=119 then !qt t.s.data.toList else decide (t.kind=110\/t.kind=36)
structure RTerm where
 minus:Bool
 t:RTok
def RTerm.cells(x:RTerm):List Value:=.bool x.minus::x.t.cells
def qv(l:List RTerm):List Value:=l.flatMap RTerm.cells
theorem Z0n(l:List RTerm)(t:RTerm):qv (l++[t])=qv l++t.cells:=by simp[qv]
def oR:List RTok->Bool->List RTerm×Nat×Bool
 |[],_=>([],0,false)
 |[t],m=>if qx t=true then ([⟨m,t⟩],1,true) else ([],0,false)
 |t::u::r,m=>
  if qx t=true then
   if u.kind=43 then (⟨m,t⟩::(oR r false).1,(oR r false).2.1+2,(oR r false).2.2)
   else if u.kind=45 then (⟨m,t⟩::(oR r true).1,(oR r true).2.1+2,(oR r true).2.2)
   else ([⟨m,t⟩],1,true)
  else ([],0,false)
def zj(w:World)(A:Nat):Nat:=match w.cell? ⟨A,1,none⟩ with
 |some v=>(intOf v).toNat
 |none=>0
theorem RPS.at{w:World}{A g D:Nat}{T:List RTok}{i:Nat}{G:Bool}(h:RPS w A g D T i G):zj w A=i:=by
 unfold zj;rw[h.c1];simp[intOf]
theorem RPS.grown{w w':World}{A g G:Nat}{T:List RTok}{i:Nat}{I:Bool}(h:RPS w A g G T i I){r:Option Nat}(D:w.grownBy w' r)(h1:r≠some A)(h2:r≠some g):RPS w' A g G T i I:=h.kept (D.block A h.lt (fun e=>h1 e.symm)) (D.block g h.lg (fun e=>h2 e.symm)) D.size
theorem Tryz.infoRTe:(Tryz.prog.info? 229).map (fun i=>(i.zero,i.size,i.bytes))=some (some (.agg (#[.bool false]++xN)),5,48):=aj
theorem Z0k{w w':World}(h:Below w.heap.size w w'):w.grownBy w' none:=⟨h.os,h.tape,h.output,h.size,fun k hk _=>h.block k hk⟩
theorem B7{w w':World}{base:Nat}{e:TypeId}{size n:Nat}{v:Value}{xs:List Value}(h:w.ownsRow base e size v n xs)(A:Below w.heap.size w w'):w'.ownsRow base e size v n xs:=h.kept (Z0k A) (by cases D:v.ownBlock <;> simp)
theorem yi{w A D:World}{r:Option Nat}(h:w.grownBy A r)(k:Below A.heap.size A D):w.grownBy D r:=⟨k.os.trans h.os,k.tape.trans h.tape,k.output.trans h.output,j8 h.size k.size,fun j G hn=>(k.block j (ke G h.size)).trans (h.block j G hn)⟩
theorem Z6s(w:World)(a b c d e:Value)(t:TypeId){k:Nat}(hk:w.heap.size=k):∀j u,[a,b,c,d,e][j]?=some u->(w.alloc (.cells #[a,b,c,d,e] t)).cell? ((⟨k,0,none⟩:Addr).add j)=some u:=fun j u h=>by
 subst hk
 rw[k9,jY (0,0) (kg w _)]
 simpa using h
theorem Z4q(m:Bool)(k:Int)(s:ByteArray)(n:Int)(g:Bool):∀u∈[.bool m,Value.int .u8 k,.string s,.int .i64 n,.bool g],u.oneCell'=true:=by
 intro u A;simp at A;rcases A with rfl|rfl|rfl|rfl|rfl <;> rfl
theorem Z0r{k:UInt8}{s:ByteArray}{n:Nat}{g:Bool}(h:qx ⟨k,s,n,g⟩=true):(k=119/\qt s.data.toList=false)\/k=110\/k=36:=by
 unfold qx at h;by_cases e:k=119
 ·rw[jT e]at h;exact .inl ⟨e,av⟩
 rw[jS e]at h;exact .inr av
theorem Z8t{k:UInt8}{s:ByteArray}{n:Nat}{g:Bool}(h:qx ⟨k,s,n,g⟩=false):(k=119/\qt s.data.toList=true)\/(¬k.toNat=119/\¬k.toNat=110/\¬k.toNat=36):=by
 unfold qx at h;by_cases e:k=119
 ·rw[jT e]at h;exact .inl ⟨e,av⟩
 rw[jS e]at h;have h2:¬k=110/\¬k=36:=av;exact .inr ⟨fun x=>e (lA.1 x),fun x=>h2.1 (lA.1 x),fun x=>h2.2 (lA.1 x)⟩
theorem CL{T:List RTok}{i:Nat}(h:i<T.length):T.drop i=T.getD i endR::T.drop (i+1):=by
 rw[lY h,jZ,jX h];rfl
theorem DP{T:List RTok}{i:Nat}(h:i+1<T.length):T.drop i=T.getD i endR::T.getD (i+1) endR::T.drop (i+2):=by
 rw[CL (show i<T.length by omega),CL h]
theorem Av{T:List RTok}{i:Nat}{m:Bool}(h:i<T.length)(hf:qx (T.getD i endR)=false):oR (T.drop i) m=([],0,false):=by
 rw[CL h];cases T.drop (i+1) <;> · unfold oR;rw[hf];rfl
theorem Bf{T:List RTok}{i:Nat}{m:Bool}(h:i+1<T.length)(hf:qx (T.getD i endR)=true)(A:(T.getD (i+1) endR).kind=43):oR (T.drop i) m=(⟨m,T.getD i endR⟩::(oR (T.drop (i+2)) false).1,(oR (T.drop (i+2)) false).2.1+2,(oR (T.drop (i+2)) false).2.2):=by
 rw[DP h];conv=>lhs;unfold oR
 rw[jT hf,jT A]
theorem A7{T:List RTok}{i:Nat}{m:Bool}(h:i+1<T.length)(hf:qx (T.getD i endR)=true)(A:¬(T.getD (i+1) endR).kind=43)(D:(T.getD (i+1) endR).kind=45):oR (T.drop i) m=(⟨m,T.getD i endR⟩::(oR (T.drop (i+2)) true).1,(oR (T.drop (i+2)) true).2.1+2,(oR (T.drop (i+2)) true).2.2):=by
 rw[DP h];conv=>lhs;unfold oR
 rw[jT hf,jS A,jT D]
theorem Aw{T:List RTok}{i:Nat}{m:Bool}(h:i+1<T.length)(hf:qx (T.getD i endR)=true)(A:¬(T.getD (i+1) endR).kind=43)(D:¬(T.getD (i+1) endR).kind=45):oR (T.drop i) m=([⟨m,T.getD i endR⟩],1,true):=by
 rw[DP h];conv=>lhs;unfold oR
 rw[jT hf,jS A,jS D]
theorem Ac{T:List RTok}{i:Nat}(h:i<T.length)(hf:qx (T.getD i endR)=true)(A:(T.getD (T.length-1) endR).kind=0):i+1<T.length:=by
 rcases lQ (i+1) T.length with h1|h1
 ·exact h1
 have e:i=T.length-1:=ae;rw[<-e]at A;unfold qx at hf;rw[A]at hf;simp at hf
theorem qB{T:List RTok}{i:Nat}(h:i<T.length)(hk:¬(T.getD i endR).kind=0)(A:(T.getD (T.length-1) endR).kind=0):i+1<T.length:=by
 rcases lQ (i+1) T.length with h1|h1
 ·exact h1
 have e:i=T.length-1:=ae;rw[<-e]at A;exact absurd A hk
theorem wT(A g Kd:Nat)(T:List RTok)(S:Nat)(Kp:Bool)(w:World)(h:RPS w A g Kd T S Kp)(ZI:S<T.length)(hT:(T.getD (T.length-1) endR).kind=0) :
  Calls prog 84 #[.pointer (some ⟨A,0,none⟩)] w fun e w'=>∃ya yn yc,e=.returned (.slice ya yn yc)/\RPS w' A g Kd T (S+(oR (T.drop S) false).2.1) (Kp||!(oR (T.drop S) false).2.2)/\w'.ownsRow w.heap.size 229 5 (.slice ya yn yc) (oR (T.drop S) false).1.length (qv (oR (T.drop S) false).1)/\w.grownBy w' (some A):=by
 obtain⟨OF,hi,KJ,KC,Ky⟩:=kQ Tryz.infoRTe;obtain⟨R,hR⟩:=Zg0 (oR (T.drop S) false);rw[hR];have HR:=oP hR;have U:=oP h;have HT:=oP hT;have MY:=oP ZI;clear hR h hT ZI;go_enter func84,ntmps84;go_wp2_with fail;go_loopw [3,4] (fun v x wr=>∃(i:Nat) (acc:List RTerm) (m:Bool) (ya:Option Addr) (yn yc:Nat),v=.slice ya yn yc/\x=.bool m/\i<T.length/\acc.length<=i/\acc++(oR (T.drop i) m).1=R.1/\i+(oR (T.drop i) m).2.1=S+R.2.1/\(oR (T.drop i) m).2.2=R.2.2/\RPS wr A g Kd T i Kp/\wr.ownsRow w.heap.size 229 5 (.slice ya yn yc) acc.length (qv acc)/\w.grownBy wr (some A)) (fun _ _ wr=>T.length-zj wr A)
 case atStart=>exact⟨S,[],false,none,0,0,rfl,rfl,MY.o,j4,by rw[HR.o];rfl,by rw[HR.o],by rw[HR.o],U.o,kA,⟨rfl,rfl,rfl,jU,fun _ _ _=>rfl⟩⟩
 case round=>
  obtain⟨i,acc,m,ya,yn,yc,rfl,rfl,Ww5,Vc6,Pt,Mn,Sn,hps,Ke,Kg⟩:=hrel;have Ki:=oP Ke;have HG:=oP Kg;have HP:=oP hps;have HI:=oP (And.intro Ww5 (And.intro Vc6 hps.le));have c0:=hps.c0;have c1:=hps.c1;have c2:=hps.c2;have f1:=hps.fz 1;have f2:=hps.fz 2;obtain⟨t,ht⟩:=Zg0 (T.getD i endR);obtain⟨k0,k1,k2,k3⟩:=hps.tk i Ww5;rw[ht]at k0 k1 k2 k3;obtain⟨tk,I,V,Z⟩:=t;simp only at k0 k1 k2 k3;have Uq:=hps.le.2;obtain⟨N,hN⟩:=Zg0 T.length;rw[hN]at c0 Ww5 Uq;have N0:(i:Int)<(N:Int):=ae;have RY:(N:Int)<=3000:=ae;have Sy:IntKind.i64.wrap ((i:Int)+1)=(i:Int)+1:=ar;have hpl:=hps.lt;have Mw:=hps.lg;have QB:¬A=wr.heap.size:=nW hpl;have OR:¬g=wr.heap.size:=nW Mw;have HX:=oP (And.intro Pt (And.intro Mn Sn));clear Ke Kg hps Vc6 Pt Mn Sn Ww5 Uq;have QC:=oP ht;go_upto_region 3 with fail;go_region;obtain⟨G,PH⟩:=Zg0 wr.heap.size;obtain⟨J,Kv⟩:=Zg0 ((wr.alloc (Obj.cells #[Value.int IntKind.u8 (tk.toNat:Int),Value.string I,Value.int IntKind.i64 (V:Int),Value.bool Z] 170)).drew);rw[Kv,PH];have Nn:Below wr.heap.size wr J:=by rw[<-Kv];exact below_drewN (jV.alloc jU _) 1
  have d0:J.cell? ⟨G,0,none⟩=some (.int .u8 (tk.toNat:Int)):=cQ;have d1:J.cell? ⟨G,1,none⟩=some (.string I):=cQ;have d2:J.cell? ⟨G,2,none⟩=some (.int .i64 (V:Int)):=cQ;have d3:J.cell? ⟨G,3,none⟩=some (.bool Z):=cQ;have QY:J.heap.size=G+1:=cQ;clear Kv c0 c1 c2 f1 f2 k0 k1 k2 k3 hN QB OR;cases hf:qx ⟨tk,I,V,Z⟩ with
  |true=>
   have HF:=oP hf;have hc:=Z0r hf;clear hf;rcases hc with⟨LX,KP⟩|h110|h36
   case' inl=>
    have Nb:(tk.toNat:Int)=119:=bX;have b1:((tk.toNat:Int)==110)=false:=bY;have b2:((tk.toNat:Int)==36)=false:=bY;have b3:((tk.toNat:Int)==119)=true:=bY;have Rn:=oP (zU I J);rw[KP]at Rn;clear KP LX Nb;go_wp2_with fail;refine Rn.o.mono ?_;rintro e w1 ⟨rfl,N8⟩;have M:Hid (Below wr.heap.size wr w1):=Nn.trans (N8.mono ae);have WJ1:=(jW (a:=⟨G,0,none⟩) (N8.block G ae)).trans d0;have WJ2:=(jW (a:=⟨G,1,none⟩) (N8.block G ae)).trans d1;have WJ3:=(jW (a:=⟨G,2,none⟩) (N8.block G ae)).trans d2;have Ww6:=(jW (a:=⟨G,3,none⟩) (N8.block G ae)).trans d3;clear d0 d1 d2 d3 Nn N8 QY
   case' inr.inl=>
    have hk:(tk.toNat:Int)=110:=by rw[h110];rfl
    have b1:((tk.toNat:Int)==110)=true:=bZ;have b3:((tk.toNat:Int)==119)=false:=bZ;have WJ1:=d0;have WJ2:=d1;have WJ3:=d2;have Ww6:=d3;have M:=oP Nn;clear d0 d1 d2 d3 Nn hk h110 QY;generalize J=w1 at *
   case' inr.inr=>
    have hk:(tk.toNat:Int)=36:=by rw[h36];rfl
    have b1:((tk.toNat:Int)==110)=false:=bZ;have b2:((tk.toNat:Int)==36)=true:=bZ;have b3:((tk.toNat:Int)==119)=false:=bZ;have WJ1:=d0;have WJ2:=d1;have WJ3:=d2;have Ww6:=d3;have M:=oP Nn;clear d0 d1 d2 d3 Nn hk h36 QY;generalize J=w1 at *
   all_goals
    have Qu:=oP (Ac HI.o.1 cR HT.o);have Ur:=HP.o.below M.o;have c1:=Ur.c1;have f1:=Ur.fz 1;have WJ4:¬A=G:=ae;have M9:=oP Ur;have RS:=oP (sY (B7 Ki.o M.o) (pV w1 A 1 (.int .i64 ((i:Int)+1))) U.o.lt);clear Ur;go_wp2_with (first| (at_builtin;refine kH _ rfl _ _ 171 rfl w.heap.size 229 OF _ 5 48 underlying171 hi KJ KC Ky rfl ah _ _ _ rfl (RS.o.alloc _) ⟨w1.heap.size,0,none⟩ 1 1 [.bool m,.int .u8 (tk.toNat:Int),.string I,.int .i64 (V:Int),.bool Z] rfl rfl (Z6s _ _ _ _ _ _ _ az) (Z4q _ _ _ _ _) (by have:=HI.o;unfold maxLen;omega) (by have:=HI.o;omega) (by have:=HG.o.size;have:=M.o.size;simp[World.setCell];omega) ?_;intro v' wn Kc Ru _ _;obtain⟨a',n',c',ev⟩:=rW Kc;subst ev))
    have WJ5:RPS wn A g Kd T (i+1) Kp:=by
     have h2:=(M9.o.setI (i+1)).below (jV.alloc jU (Obj.cells #[.bool m,.int .u8 (tk.toNat:Int),.string I,.int .i64 (V:Int),.bool Z] 229));exact h2.grown Ru (fun e=>by have:=uH RS.o _ e;have:=U.o.lt;omega) (fun e=>by have:=uH RS.o _ e;have:=U.o.lg;omega)
    have Px:w.grownBy wn (some A):=by
     have g1:=xT ((yi HG.o M.o).trans2 (pV w1 A 1 (.int .i64 ((i:Int)+1)))) (Obj.cells #[.bool m,.int .u8 (tk.toNat:Int),.string I,.int .i64 (V:Int),.bool Z] 229);exact⟨Ru.os.trans g1.os,Ru.tape.trans g1.tape,Ru.output.trans g1.output,j8 g1.size Ru.size,fun k hk Kk=>(Ru.block k (ke hk g1.size) (fun e=>by have:=uH RS.o _ e.symm;omega)).trans (g1.block k hk Kk)⟩
    have QV:wn.ownsRow w.heap.size 229 5 (.slice a' n' c') (acc++[RTerm.mk m ⟨tk,I,V,Z⟩]).length (qv (acc++[RTerm.mk m ⟨tk,I,V,Z⟩])):=by
     rw[Z0n,kq];exact Kc
    have MX:=oP WJ5;have QS:=oP Px;have Qb:=oP QV;have KX:=oP (uR A g Kd T (i+1) Kp 43 wn WJ5 Qu.o);clear WJ5 Px QV Kc Ru c1 f1 WJ1 WJ2 WJ3 Ww6;by_cases RZ:(T.getD (i+1) endR).kind=43
    ·rw[kj RZ,jT RZ]at KX;have Mg:=oP (qB Qu.o (by rw[RZ];decide) HT.o);have SK:=oP (Bf (m:=m) Qu.o cR RZ);clear RZ;go_wp2_with fail;refine KX.o.mono ?_;rintro e w3 ⟨rfl,Nl,V0⟩;have Nu:=oP Nl;have PI:=oP V0;clear Nl V0;go_wp2_with fail;go_roundw
     case rel=>
      have D:=HX.o;rw[SK.o,QC.o]at D;exact⟨i+2,acc++[RTerm.mk m ⟨tk,I,V,Z⟩],false,a',n',c',rfl,rfl,Mg.o,by have:=HI.o;simp;omega,by rw[<-D.1];simp,by rw[<-D.2.1];simp;omega,D.2.2,Nu.o,sY Qb.o PI.o U.o.lt,QS.o.trans2 PI.o⟩
     case measure=>rw[Nu.o.at,HP.o.at];have:=HI.o;omega
    rw[j9 RZ,jS RZ]at KX;have HV:=oP RZ;clear RZ;go_wp2_with fail;refine KX.o.mono ?_;rintro e w3 ⟨rfl,Nl,V0⟩;have PI:=oP V0;have R1:=oP (uR A g Kd T (i+1) Kp 45 w3 Nl Qu.o);clear Nl V0;by_cases TA:(T.getD (i+1) endR).kind=45
    ·rw[kj TA,jT TA]at R1;have Mg:=oP (qB Qu.o (by rw[TA];decide) HT.o);have SK:=oP (A7 (m:=m) Qu.o cR HV.o TA);clear TA;go_wp2_with fail;refine R1.o.mono ?_;rintro e w4 ⟨rfl,O,T8⟩;have Ny:=oP O;have QD:=oP T8;clear O T8;go_wp2_with fail;go_roundw
     case rel=>
      have D:=HX.o;rw[SK.o,QC.o]at D;exact⟨i+2,acc++[RTerm.mk m ⟨tk,I,V,Z⟩],true,a',n',c',rfl,rfl,Mg.o,by have:=HI.o;simp;omega,by rw[<-D.1];simp,by rw[<-D.2.1];simp;omega,D.2.2,Ny.o,sY (sY Qb.o PI.o U.o.lt) QD.o U.o.lt,(QS.o.trans2 PI.o).trans2 QD.o⟩
     case measure=>rw[Ny.o.at,HP.o.at];have:=HI.o;omega
    rw[j9 TA,jS TA]at R1;have SK:=oP (Aw (m:=m) Qu.o cR HV.o TA);clear TA;go_wp2_with fail;refine R1.o.mono ?_;rintro e w4 ⟨rfl,O,T8⟩;have Ny:=oP O;have QD:=oP T8;clear O T8;go_wp2_with fail;go_ret;have D:=HX.o;rw[SK.o,QC.o]at D;obtain⟨x1,x2,x3⟩:=D;rw[<-x1,<- x2,<- x3];exact⟨a',n',c',rfl,by simpa using Ny.o,sY (sY Qb.o PI.o U.o.lt) QD.o U.o.lt,(QS.o.trans2 PI.o).trans2 QD.o⟩
  |false=>
   have HF:=oP hf;have hc:=Z8t hf;clear hf;rcases hc with⟨LX,KP⟩|⟨LX,h110,h36⟩
   case' inl=>
    have Nb:(tk.toNat:Int)=119:=bX;have b1:((tk.toNat:Int)==110)=false:=bY;have b2:((tk.toNat:Int)==36)=false:=bY;have b3:((tk.toNat:Int)==119)=true:=bY;have Rn:=oP (zU I J);rw[KP]at Rn;clear KP LX Nb;go_wp2_with fail;refine Rn.o.mono ?_;rintro e w1 ⟨rfl,N8⟩;have M:Hid (Below wr.heap.size wr w1):=Nn.trans (N8.mono ae);clear Nn N8
   case' inr=>
    have b1:((tk.toNat:Int)==110)=false:=ai;have b2:((tk.toNat:Int)==36)=false:=ai;have b3:((tk.toNat:Int)==119)=false:=ai;have M:=oP Nn;clear Nn LX h110 h36;generalize J=w1 at *
   all_goals
    have Ur:=HP.o.below M.o;have c2:=Ur.c2;have f2:=Ur.fz 2;have M9:=oP Ur;have YR:=oP (Av (m:=m) HI.o.1 cR);clear Ur;go_wp2;go_ret;have D:=HX.o;rw[YR.o]at D;obtain⟨x1,x2,x3⟩:=D;simp only[kX]at x1 x3;rw[<-x1,<- x2,<- x3];refine⟨ya,yn,yc,rfl,by have:=M9.o.setBad true;simpa using this,?_,?_⟩
    ·exact sY (B7 Ki.o M.o) (pV _ _ _ _) U.o.lt
    exact(yi HG.o M.o).trans2 (pV _ _ _ _)
def pr(t:RTok)(x:ByteArray):Prop:=t.kind=119/\t.s=x
instance (t:RTok) (x:ByteArray):Decidable (pr t x):=inferInstanceAs (Decidable (_/\_))
def qJ(l:List RTok):ByteArray×Nat×Nat×Bool:=
 if pr (l.getD 0 endR) ⟨#[100,112,116,114]⟩ then (⟨#[64,68,80,84,82]⟩,0,1,true)
 else if pr (l.getD 0 endR) ⟨#[114,48]⟩ then (⟨#[64,82]⟩,0,1,true)
 else if pr (l.getD 0 endR) ⟨#[114,49]⟩ then (⟨#[64,82]⟩,1,1,true)
 else if pr (l.getD 0 endR) ⟨#[97]⟩ then
  if (l.getD 1 endR).kind=43 then
   if pr (l.getD 2 endR) ⟨#[100,112,116,114]⟩ then (⟨#[64,65,43,68,80,84,82]⟩,0,3,true)
   else if pr (l.getD 2 endR) ⟨#[112,99]⟩ then (⟨#[64,65,43,80,67]⟩,0,3,true)
   else (⟨#[]⟩,0,2,false)
  else (⟨#[]⟩,0,1,false)
 else (⟨#[]⟩,0,0,false)
theorem xr(A g D:Nat)(T:List RTok)(i:Nat)(G:Bool)(x:ByteArray)(w:World)(h:RPS w A g D T i G)(hi:i<T.length) :
  Calls prog 83 #[.pointer (some ⟨A,0,none⟩),.string x] w fun e w'=>e=.returned (.bool (decide (pr (T.getD i endR) x)))/\RPS w' A g D T (if pr (T.getD i endR) x then i+1 else i) G/\w.grownBy w' (some A):=Z1Q A g D T i G x w h hi
theorem oV{w:World}{b:Nat}{o:Obj}(h:w.heap[b]?=some o):b<w.heap.size:=(kV.1 h).1
theorem uy(T:List RTok)(i k:Nat):(T.drop i).getD k endR=T.getD (i+k) endR:=by simp[List.getD_eq_getElem?_getD]
def opC(f:ByteArray)(n:Int)(s:Int)(v:Value):Obj:=.cells #[.string f,.int .i64 n,.int .u8 s,v] 174
theorem ta{w:World}{rb:Nat}{f:ByteArray}{n s:Int}{v:Value}(h:w.heap[rb]?=some (opC f n s v)):(w.cell? ⟨rb,0,none⟩=some (.string f)/\w.cell? ⟨rb,1,none⟩=some (.int .i64 n)/\w.cell? ⟨rb,2,none⟩=some (.int .u8 s)/\w.cell? ⟨rb,3,none⟩=some v)/\∀j,w.frozen? ⟨rb,j,none⟩=false:=by
 unfold opC at h;refine⟨⟨?_,?_,?_,?_⟩,fun j=>?_⟩
 ·rw[jY (0,0) h];rfl
 ·rw[jY (0,0) h];rfl
 ·rw[jY (0,0) h];rfl
 ·rw[jY (0,0) h];rfl
 simp[World.frozen?,h]
theorem DI(w:World)(rb k:Nat)(a b c d:Value)(h:k≠rb):((((w.setCell ⟨rb,0,none⟩ a).setCell ⟨rb,1,none⟩ b).setCell ⟨rb,2,none⟩ c).setCell ⟨rb,3,none⟩ d).heap[k]?=w.heap[k]?:=by
 rw[kk _ ⟨rb,3,none⟩ k _ h,kk _ ⟨rb,2,none⟩ k _ h,kk _ ⟨rb,1,none⟩ k _ h,kk _ ⟨rb,0,none⟩ k _ h]
theorem tw{w A:World}{D rb:Nat}(h:w.grownBy A (some D))(G:w.heap.size<=rb)(a b c d:Value):w.grownBy ((((A.setCell ⟨rb,0,none⟩ a).setCell ⟨rb,1,none⟩ b).setCell ⟨rb,2,none⟩ c).setCell ⟨rb,3,none⟩ d) (some D):=⟨h.os,h.tape,h.output,by have:=h.size;simp[World.setCell];exact this,fun k hk hn=>(DI _ _ _ _ _ _ _ ae).trans (h.block k hk hn)⟩
theorem RPS.set4{w:World}{A g D:Nat}{T:List RTok}{i:Nat}{G:Bool}(h:RPS w A g D T i G){rb:Nat}(h1:A≠rb)(h2:g≠rb)(a b c d:Value):RPS ((((w.setCell ⟨rb,0,none⟩ a).setCell ⟨rb,1,none⟩ b).setCell ⟨rb,2,none⟩ c).setCell ⟨rb,3,none⟩ d) A g D T i G:=h.kept (DI _ _ _ _ _ _ _ h1) (DI _ _ _ _ _ _ _ h2) az
theorem Z0v(J g U:Nat)(T:List RTok)(i:Nat)(V:Bool)(w:World)(h:RPS w J g U T i V)(hi:i<T.length)(hT:(T.getD (T.length-1) endR).kind=0) :
  Calls prog 132 #[.pointer (some ⟨J,0,none⟩)] w fun e w'=>e=.returned (.agg #[.string (qJ (T.drop i)).1,.int .i64 ((qJ (T.drop i)).2.1:Int),.int .u8 0,.slice none 0 0])/\RPS w' J g U T (i+(qJ (T.drop i)).2.2.1) (V||!(qJ (T.drop i)).2.2.2)/\w.grownBy w' (some J):=by
 obtain⟨R,hR⟩:=Zg0 (qJ (T.drop i));rw[hR];unfold qJ at hR;simp only[uy,kK]at hR;have HR:=oP hR;have HH:=oP h;have HT:=oP hT;have MY:=oP hi;obtain⟨rb,LO⟩:=Zg0 w.heap.size;have K7:¬J=rb:=cL;have Kg:¬g=rb:=by have:=h.lg;omega
 have Wa4:Hid (RPS (w.alloc (opC ⟨#[]⟩ 0 0 (.slice none 0 0))) J g U T i V):=h.below (jV.alloc jU _);have PE:Hid (w.grownBy (w.alloc (opC ⟨#[]⟩ 0 0 (.slice none 0 0))) (some J)):=xT ⟨rfl,rfl,rfl,jU,fun _ _ _=>rfl⟩ _;have OW:Hid ((w.alloc (opC ⟨#[]⟩ 0 0 (.slice none 0 0))).heap[rb]?=some (opC ⟨#[]⟩ 0 0 (.slice none 0 0))):=eV;have HS:Hid (w.heap.size=rb):=LO;have Vu5:Hid (rb<(w.alloc (opC ⟨#[]⟩ 0 0 (.slice none 0 0))).heap.size):=by show _<_;simp;omega
 obtain⟨w0,Kv⟩:=Zg0 (w.alloc (opC ⟨#[]⟩ 0 0 (.slice none 0 0)));rw[Kv]at Wa4 PE OW Vu5;unfold opC at Kv;clear hR h hT hi;go_enter func132,ntmps132;go_wp2_with fail;try rw[LO]
 clear Kv LO;have D:=oP (xr J g U T i V ⟨#[100,112,116,114]⟩ w0 Wa4.o MY.o);by_cases TB:pr (T.getD i endR) ⟨#[100,112,116,114]⟩
 ·rw[kj TB,jT TB]at D;have Z:=oP TB;clear TB;go_wp2_with fail;refine D.o.mono ?_;rintro e w1 ⟨rfl,G,A⟩;have M9:=oP G;have QA:=oP (PE.o.trans2 A);have Pc:Hid (w1.heap[rb]?=_):=(A.block rb ((oV OW.o)) aw).trans OW.o;clear G A D;have Le:=oP (qB MY.o (by rw[Z.o.1];decide) HT.o);obtain⟨⟨o0,o1,o2,o3⟩,fz⟩:=ta Pc.o;have z0:=fz 0;have z1:=fz 1;have z2:=fz 2;have z3:=fz 3;clear fz;go_wp2_with fail;refine kf (kY rfl _ _ rb 174 _ (0,0) _ rfl (j7 (j7 (j7 (j7 Pc.o)))) underlying174 rfl aj) rfl ?_;have I:=HR.o;rw[jT Z.o]at I;subst I;exact⟨rfl,by simpa using M9.o.set4 K7 Kg _ _ _ _,tw QA.o (lZ HS.o) _ _ _ _⟩
 rw[j9 TB,jS TB]at D;have Z:=oP TB;clear TB;go_wp2_with fail;refine D.o.mono ?_;rintro e w1 ⟨rfl,G,A⟩;have M9:=oP G;have QA:=oP (PE.o.trans2 A);have Pc:Hid (w1.heap[rb]?=_):=(A.block rb ((oV OW.o)) aw).trans OW.o;clear G A D;have D:=oP (xr J g U T i V ⟨#[114,48]⟩ w1 M9.o MY.o);by_cases Mq:pr (T.getD i endR) ⟨#[114,48]⟩
 ·rw[kj Mq,jT Mq]at D;have MQ:=oP Mq;clear Mq;go_wp2_with fail;refine D.o.mono ?_;rintro e w2 ⟨rfl,G,A⟩;have MX:=oP G;have QS:=oP (QA.o.trans2 A);have Od:Hid (w2.heap[rb]?=_):=(A.block rb ((oV Pc.o)) aw).trans Pc.o;clear G A D;have Le:=oP (qB MY.o (by rw[MQ.o.1];decide) HT.o);obtain⟨⟨o0,o1,o2,o3⟩,fz⟩:=ta Od.o;have z0:=fz 0;have z1:=fz 1;have z2:=fz 2;have z3:=fz 3;clear fz;go_wp2_with fail;refine kf (kY rfl _ _ rb 174 _ (0,0) _ rfl (j7 (j7 (j7 (j7 Od.o)))) underlying174 rfl aj) rfl ?_;have I:=HR.o;rw[jS Z.o,jT MQ.o]at I;subst I;exact⟨rfl,by simpa using MX.o.set4 K7 Kg _ _ _ _,tw QS.o (lZ HS.o) _ _ _ _⟩
 rw[j9 Mq,jS Mq]at D;have MQ:=oP Mq;clear Mq;go_wp2_with fail;refine D.o.mono ?_;rintro e w2 ⟨rfl,G,A⟩;have MX:=oP G;have QS:=oP (QA.o.trans2 A);have Od:Hid (w2.heap[rb]?=_):=(A.block rb ((oV Pc.o)) aw).trans Pc.o;clear G A D;have D:=oP (xr J g U T i V ⟨#[114,49]⟩ w2 MX.o MY.o);by_cases Me:pr (T.getD i endR) ⟨#[114,49]⟩
 ·rw[kj Me,jT Me]at D;have Qy:=oP Me;clear Me;go_wp2_with fail;refine D.o.mono ?_;rintro e w3 ⟨rfl,G,A⟩;have Nu:=oP G;have PI:=oP (QS.o.trans2 A);have OX:Hid (w3.heap[rb]?=_):=(A.block rb ((oV Od.o)) aw).trans Od.o;clear G A D;have Le:=oP (qB MY.o (by rw[Qy.o.1];decide) HT.o);obtain⟨⟨o0,o1,o2,o3⟩,fz⟩:=ta OX.o;have z0:=fz 0;have z1:=fz 1;have z2:=fz 2;have z3:=fz 3;clear fz;go_wp2_with fail;refine kf (kY rfl _ _ rb 174 _ (0,0) _ rfl (j7 (j7 (j7 (j7 OX.o)))) underlying174 rfl aj) rfl ?_;have I:=HR.o;rw[jS Z.o,jS MQ.o,jT Qy.o]at I;subst I;exact⟨rfl,by simpa using Nu.o.set4 K7 Kg _ _ _ _,tw PI.o (lZ HS.o) _ _ _ _⟩
 rw[j9 Me,jS Me]at D;have Qy:=oP Me;clear Me;go_wp2_with fail;refine D.o.mono ?_;rintro e w3 ⟨rfl,G,A⟩;have Nu:=oP G;have PI:=oP (QS.o.trans2 A);have OX:Hid (w3.heap[rb]?=_):=(A.block rb ((oV Od.o)) aw).trans Od.o;clear G A D;have D:=oP (xr J g U T i V ⟨#[97]⟩ w3 Nu.o MY.o);by_cases N3:pr (T.getD i endR) ⟨#[97]⟩
 ·rw[kj N3,jT N3]at D;have Sz:=oP N3;clear N3;go_wp2_with fail;refine D.o.mono ?_;rintro e w4 ⟨rfl,G,A⟩;have Ny:=oP G;have QD:=oP (PI.o.trans2 A);have PJ:Hid (w4.heap[rb]?=_):=(A.block rb ((oV OX.o)) aw).trans OX.o;clear G A D;have Le:=oP (qB MY.o (by rw[Sz.o.1];decide) HT.o);have D:=oP (uR J g U T (i+1) V 43 w4 Ny.o Le.o);by_cases TC:(T.getD (i+1) endR).kind=43
  ·rw[kj TC,jT TC]at D;have M:=oP TC;clear TC;go_wp2_with fail;refine D.o.mono ?_;rintro e w5 ⟨rfl,G,A⟩;have Wf:=oP G;have Ww7:=oP (QD.o.trans2 A);have YS:Hid (w5.heap[rb]?=_):=(A.block rb ((oV PJ.o)) aw).trans PJ.o;clear G A D;have Mg:=oP (qB Le.o (by rw[M.o];decide) HT.o);have D:=oP (xr J g U T (i+2) V ⟨#[100,112,116,114]⟩ w5 Wf.o Mg.o);by_cases Xp:pr (T.getD (i+2) endR) ⟨#[100,112,116,114]⟩
   ·rw[kj Xp,jT Xp]at D;have O:=oP Xp;clear Xp;go_wp2_with fail;refine D.o.mono ?_;rintro e w6 ⟨rfl,G,A⟩;have OG:=oP G;have Ww8:=oP (Ww7.o.trans2 A);have YT:Hid (w6.heap[rb]?=_):=(A.block rb ((oV YS.o)) aw).trans YS.o;clear G A D;have Vu6:=oP (qB Mg.o (by rw[O.o.1];decide) HT.o);obtain⟨⟨o0,o1,o2,o3⟩,fz⟩:=ta YT.o;have z0:=fz 0;have z1:=fz 1;have z2:=fz 2;have z3:=fz 3;clear fz;go_wp2_with fail;refine kf (kY rfl _ _ rb 174 _ (0,0) _ rfl (j7 (j7 (j7 (j7 YT.o)))) underlying174 rfl aj) rfl ?_;have I:=HR.o;rw[jS Z.o,jS MQ.o,jS Qy.o,jT Sz.o,jT M.o,jT O.o]at I;subst I;exact⟨rfl,by simpa using OG.o.set4 K7 Kg _ _ _ _,tw Ww8.o (lZ HS.o) _ _ _ _⟩
   rw[j9 Xp,jS Xp]at D;have O:=oP Xp;clear Xp;go_wp2_with fail;refine D.o.mono ?_;rintro e w6 ⟨rfl,G,A⟩;have OG:=oP G;have Ww8:=oP (Ww7.o.trans2 A);have YT:Hid (w6.heap[rb]?=_):=(A.block rb ((oV YS.o)) aw).trans YS.o;clear G A D;have D:=oP (xr J g U T (i+2) V ⟨#[112,99]⟩ w6 OG.o Mg.o);by_cases Xq:pr (T.getD (i+2) endR) ⟨#[112,99]⟩
   ·rw[kj Xq,jT Xq]at D;have Ww9:=oP Xq;clear Xq;go_wp2_with fail;refine D.o.mono ?_;rintro e w7 ⟨rfl,G,A⟩;have Qc:=oP G;have WJ6:=oP (Ww8.o.trans2 A);have S:Hid (w7.heap[rb]?=_):=(A.block rb ((oV YT.o)) aw).trans YT.o;clear G A D;have Vu6:=oP (qB Mg.o (by rw[Ww9.o.1];decide) HT.o);obtain⟨⟨o0,o1,o2,o3⟩,fz⟩:=ta S.o;have z0:=fz 0;have z1:=fz 1;have z2:=fz 2;have z3:=fz 3;clear fz;go_wp2_with fail;refine kf (kY rfl _ _ rb 174 _ (0,0) _ rfl (j7 (j7 (j7 (j7 S.o)))) underlying174 rfl aj) rfl ?_;have I:=HR.o;rw[jS Z.o,jS MQ.o,jS Qy.o,jT Sz.o,jT M.o,jS O.o,jT Ww9.o]at I;subst I;exact⟨rfl,by simpa using Qc.o.set4 K7 Kg _ _ _ _,tw WJ6.o (lZ HS.o) _ _ _ _⟩
   rw[j9 Xq,jS Xq]at D;have Ww9:=oP Xq;clear Xq;go_wp2_with fail;refine D.o.mono ?_;rintro e w7 ⟨rfl,G,A⟩;have Qc:=oP G;have WJ6:=oP (Ww8.o.trans2 A);have S:Hid (w7.heap[rb]?=_):=(A.block rb ((oV YT.o)) aw).trans YT.o;clear G A D;obtain⟨⟨o0,o1,o2,o3⟩,fz⟩:=ta S.o;have z0:=fz 0;have z1:=fz 1;have z2:=fz 2;have z3:=fz 3;clear fz;have c2:=Qc.o.c2;have f2:=Qc.o.fz 2;go_wp2_with fail;refine kf (kY rfl _ _ rb 174 _ (0,0) _ rfl (j7 (j7 (j7 (j7 ((kk _ ⟨J,2,none⟩ rb _ (fun e=>K7 e.symm)).trans S.o))))) underlying174 rfl aj) rfl ?_;have I:=HR.o;rw[jS Z.o,jS MQ.o,jS Qy.o,jT Sz.o,jT M.o,jS O.o,jS Ww9.o]at I;subst I;exact⟨rfl,by simpa using (Qc.o.setBad true).set4 K7 Kg _ _ _ _,tw (WJ6.o.trans2 (pV _ _ _ _)) (lZ HS.o) _ _ _ _⟩
  rw[j9 TC,jS TC]at D;have M:=oP TC;clear TC;go_wp2_with fail;refine D.o.mono ?_;rintro e w5 ⟨rfl,G,A⟩;have Wf:=oP G;have Ww7:=oP (QD.o.trans2 A);have YS:Hid (w5.heap[rb]?=_):=(A.block rb ((oV PJ.o)) aw).trans PJ.o;clear G A D;obtain⟨⟨o0,o1,o2,o3⟩,fz⟩:=ta YS.o;have z0:=fz 0;have z1:=fz 1;have z2:=fz 2;have z3:=fz 3;clear fz;have c2:=Wf.o.c2;have f2:=Wf.o.fz 2;go_wp2_with fail;refine kf (kY rfl _ _ rb 174 _ (0,0) _ rfl (j7 (j7 (j7 (j7 ((kk _ ⟨J,2,none⟩ rb _ (fun e=>K7 e.symm)).trans YS.o))))) underlying174 rfl aj) rfl ?_;have I:=HR.o;rw[jS Z.o,jS MQ.o,jS Qy.o,jT Sz.o,jS M.o]at I;subst I;exact⟨rfl,by simpa using (Wf.o.setBad true).set4 K7 Kg _ _ _ _,tw (Ww7.o.trans2 (pV _ _ _ _)) (lZ HS.o) _ _ _ _⟩
 rw[j9 N3,jS N3]at D;have Sz:=oP N3;clear N3;go_wp2_with fail;refine D.o.mono ?_;rintro e w4 ⟨rfl,G,A⟩;have Ny:=oP G;have QD:=oP (PI.o.trans2 A);have PJ:Hid (w4.heap[rb]?=_):=(A.block rb ((oV OX.o)) aw).trans OX.o;clear G A D;obtain⟨⟨o0,o1,o2,o3⟩,fz⟩:=ta PJ.o;have z0:=fz 0;have z1:=fz 1;have z2:=fz 2;have z3:=fz 3;clear fz;have c2:=Ny.o.c2;have f2:=Ny.o.fz 2;go_wp2_with fail;refine kf (kY rfl _ _ rb 174 _ (0,0) _ rfl (j7 (j7 (j7 (j7 ((kk _ ⟨J,2,none⟩ rb _ (fun e=>K7 e.symm)).trans PJ.o))))) underlying174 rfl aj) rfl ?_;have I:=HR.o;rw[jS Z.o,jS MQ.o,jS Qy.o,jS Sz.o]at I;subst I;exact⟨rfl,by simpa using (Ny.o.setBad true).set4 K7 Kg _ _ _ _,tw (QD.o.trans2 (pV _ _ _ _)) (lZ HS.o) _ _ _ _⟩
structure ROp where
 fixed:ByteArray
 number:Nat
 sign:UInt8
 e:List RTerm
def vC(x:ByteArray):Option ByteArray:=
 if x=⟨#[97]⟩ then some ⟨#[65]⟩ else if x=⟨#[97,98]⟩ then some ⟨#[65,66]⟩ else if x=⟨#[99]⟩ then some ⟨#[67]⟩ else if x=⟨#[100,112,116,114]⟩ then some ⟨#[68,80,84,82]⟩ else none
def rG(s:UInt8)(k:Nat)(q:List RTerm×Nat×Bool):ROp×Nat×Bool:=(⟨⟨#[]⟩,0,s,q.1⟩,q.2.1+k,q.2.2)
def xg(t:RTok)(l:List RTok):ROp×Nat×Bool:=match vC t.s with
 |some f=>(⟨f,0,0,[]⟩,1,true)
 |none=>if qV t.s.data.toList=true then (⟨⟨#[82]⟩,(t.s.data.toList.getD 1 0).toNat-48,0,[]⟩,1,true) else rG 0 0 (oR l false)
def o7(l:List RTok):ROp×Nat×Bool:=
 if (l.getD 0 endR).kind=64 then (⟨(qJ (l.drop 1)).1,(qJ (l.drop 1)).2.1,0,[]⟩,(qJ (l.drop 1)).2.2.1+1,(qJ (l.drop 1)).2.2.2)
 else if (l.getD 0 endR).kind=35 then rG 35 1 (oR (l.drop 1) false)
 else if (l.getD 0 endR).kind=47 then rG 47 1 (oR (l.drop 1) false)
 else if (l.getD 0 endR).kind=119 then xg (l.getD 0 endR) l
 else rG 0 0 (oR l false)
theorem za{w:World}{base rb:Nat}{e:TypeId}{size n:Nat}{v:Value}{xs:List Value}(h:w.ownsRow base e size v n xs)(A:rb<base)(a b c d:Value):((((w.setCell ⟨rb,0,none⟩ a).setCell ⟨rb,1,none⟩ b).setCell ⟨rb,2,none⟩ c).setCell ⟨rb,3,none⟩ d).ownsRow base e size v n xs:=sY (sY (sY (sY h (pV _ _ _ _) A) (pV _ _ _ _) A) (pV _ _ _ _) A) (pV _ _ _ _) A
theorem Z34(I g U:Nat)(T:List RTok)(i:Nat)(V:Bool)(w:World)(h:RPS w I g U T i V)(hi:i<T.length)(hT:(T.getD (T.length-1) endR).kind=0)(hk:¬(T.getD i endR).kind=119) :
  Calls prog 86 #[.pointer (some ⟨I,0,none⟩)] w fun e w'=>∃va vn vc,e=.returned (.agg #[.string (o7 (T.drop i)).1.fixed,.int .i64 ((o7 (T.drop i)).1.number:Int),.int .u8 ((o7 (T.drop i)).1.sign.toNat:Int),.slice va vn vc])/\w'.ownsRow w.heap.size 229 5 (.slice va vn vc) (o7 (T.drop i)).1.e.length (qv (o7 (T.drop i)).1.e)/\RPS w' I g U T (i+(o7 (T.drop i)).2.1) (V||!(o7 (T.drop i)).2.2)/\w.grownBy w' (some I):=by
 obtain⟨R,hR⟩:=Zg0 (o7 (T.drop i));rw[hR];unfold o7 at hR;simp only[uy,kK,lV]at hR;have HR:=oP hR;have HT:=oP hT;have MY:=oP hi;have HK:=oP hk;obtain⟨rb,LO⟩:=Zg0 w.heap.size;have K7:¬I=rb:=cL;have Kg:¬g=rb:=by have:=h.lg;omega
 have Z:RPS (w.alloc (opC ⟨#[]⟩ 0 0 (.slice none 0 0))) I g U T i V:=h.below (jV.alloc jU _);have PE:Hid (w.grownBy (w.alloc (opC ⟨#[]⟩ 0 0 (.slice none 0 0))) (some I)):=xT ⟨rfl,rfl,rfl,jU,fun _ _ _=>rfl⟩ _;have OW:Hid ((w.alloc (opC ⟨#[]⟩ 0 0 (.slice none 0 0))).heap[rb]?=some (opC ⟨#[]⟩ 0 0 (.slice none 0 0))):=eV;have HS:Hid (w.heap.size=rb):=LO;have HZ:Hid ((w.alloc (opC ⟨#[]⟩ 0 0 (.slice none 0 0))).heap.size=rb+1):=by show _=_;rw[<-LO];simp
 obtain⟨w0,Kv⟩:=Zg0 (w.alloc (opC ⟨#[]⟩ 0 0 (.slice none 0 0)));rw[Kv]at Z PE OW HZ;unfold opC at Kv;have c0:=Z.c0;have c1:=Z.c1;obtain⟨t,ht⟩:=Zg0 (T.getD i endR);obtain⟨k0,k1,k2,k3⟩:=Z.tk i hi;rw[ht]at k0 k1 k2 k3;obtain⟨tk,ts,tn,tg⟩:=t;simp only at k0 k1 k2 k3;have Uq:=Z.le.2;obtain⟨N,hN⟩:=Zg0 T.length;rw[hN]at c0 hi Uq;have N0:(i:Int)<(N:Int):=ae;have RY:(N:Int)<=3000:=ae;have hpl:=Z.lt;have Mw:=Z.lg;have QB:¬I=w0.heap.size:=nW hpl;have OR:¬g=w0.heap.size:=nW Mw;have Wa4:=oP Z;have QC:=oP ht;rw[ht]at hk;have b9:((tk.toNat:Int)==119)=false:=by have:¬tk.toNat=119:=fun e=>hk (lA.1 e);simp;omega
 clear hR h hT Uq Z ht hk hN hi;go_enter func86,ntmps86;go_upto_region 1 with fail;try rw[LO]
 try clear LO
 clear Kv;go_region;obtain⟨w1,SA⟩:=Zg0 ((w0.alloc (Obj.cells #[Value.int IntKind.u8 (tk.toNat:Int),Value.string ts,Value.int IntKind.i64 (tn:Int),Value.bool tg] 170)).drew);obtain⟨J,PH⟩:=Zg0 w0.heap.size;rw[SA,PH];have KK:Hid (Below w0.heap.size w0 w1):=fY;have D1:Hid (w1.heap[J]?=some (Obj.cells #[Value.int IntKind.u8 (tk.toNat:Int),Value.string ts,Value.int IntKind.i64 (tn:Int),Value.bool tg] 170)):=by rw[<-SA,<- PH];exact kg w0 _
 have M9:=oP (Wa4.o.below KK.o);have QA:=oP (yi PE.o KK.o);have Pc:Hid (w1.heap[rb]?=_):=(KK.o.block rb (oV OW.o)).trans OW.o;have Ow:¬I=J:=ae;clear SA PH c0 c1 k0 k1 k2 k3 QB OR hpl Mw;have G:=oP (uR I g U T i V 64 w1 M9.o MY.o);by_cases hq:(T.getD i endR).kind=64
 ·rw[kj hq,jT hq]at G;have MQ:=oP hq;clear hq;go_wp2_with fail;refine G.o.mono ?_;rintro e w2 ⟨rfl,D,A⟩;have MX:=oP D;have QS:=oP (QA.o.trans2 A);have Od:Hid (w2.heap[rb]?=_):=(A.block rb (oV Pc.o) aw).trans Pc.o;have D2:Hid (w2.heap[J]?=_):=(A.block J (oV D1.o) aT).trans D1.o;clear D A G;have Le:=oP (qB MY.o (by rw[MQ.o];decide) HT.o);have M:=oP (Z0v I g U T (i+1) V w2 MX.o Le.o HT.o);obtain⟨q,hq⟩:=Zg0 (qJ (T.drop (i+1)));rw[hq]at M;have YU:=oP hq;clear hq;go_wp2_with fail;refine M.o.mono ?_;rintro e wz ⟨rfl,D,A⟩;have MJ:=oP D;have Tc:=oP (QS.o.trans2 A);have O:Hid (wz.heap[rb]?=_):=(A.block rb (oV Od.o) aw).trans Od.o;clear D A M;obtain⟨⟨o0,o1,o2,o3⟩,fz⟩:=ta O.o;have z0:=fz 0;have z1:=fz 1;have z2:=fz 2;have z3:=fz 3;clear fz;go_wp2_with fail;refine kf (kY rfl _ _ rb 174 _ (0,0) _ rfl (j7 (j7 (j7 (j7 O.o)))) underlying174 rfl aj) rfl ?_;have S:=HR.o;rw[jT MQ.o]at S;subst S;rw[YU.o];exact⟨none,0,0,rfl,kA,by have:=MJ.o.set4 K7 Kg (.string q.1) (.int .i64 (q.2.1:Int)) (.int .u8 0) (.slice none 0 0);rw[show i+(q.2.2.1+1)=i+1+q.2.2.1 by omega];exact this,tw Tc.o (lZ HS.o) _ _ _ _⟩
 rw[j9 hq,jS hq]at G;have MQ:=oP hq;clear hq;go_wp2_with fail;refine G.o.mono ?_;rintro e w2 ⟨rfl,D,A⟩;have MX:=oP D;have QS:=oP (QA.o.trans2 A);have Od:Hid (w2.heap[rb]?=_):=(A.block rb (oV Pc.o) aw).trans Pc.o;have D2:Hid (w2.heap[J]?=_):=(A.block J (oV D1.o) aT).trans D1.o;clear D A G;have G:=oP (uR I g U T i V 35 w2 MX.o MY.o);by_cases hq:(T.getD i endR).kind=35
 ·rw[kj hq,jT hq]at G;have Qy:=oP hq;clear hq;go_wp2_with fail;refine G.o.mono ?_;rintro e w3 ⟨rfl,D,A⟩;have Nu:=oP D;have PI:=oP (QS.o.trans2 A);have OX:Hid (w3.heap[rb]?=_):=(A.block rb (oV Od.o) aw).trans Od.o;have D3:Hid (w3.heap[J]?=_):=(A.block J (oV D2.o) aT).trans D2.o;clear D A G;have Le:=oP (qB MY.o (by rw[Qy.o];decide) HT.o);have M:=oP (wT I g U T (i+1) V w3 Nu.o Le.o HT.o);obtain⟨q,hq⟩:=Zg0 (oR (T.drop (i+1)) false);rw[hq]at M;have YU:=oP hq;clear hq;go_wp2_with fail;refine M.o.mono ?_;rintro e wz ⟨ya,yn,yc,rfl,D,Ke,A⟩;have MJ:=oP D;have Tc:=oP (PI.o.trans2 A);have Qb:=oP Ke;have O:Hid (wz.heap[rb]?=_):=(A.block rb (oV OX.o) aw).trans OX.o;have Pd:=oP (oV OX.o);clear D A Ke M;obtain⟨⟨o0,o1,o2,o3⟩,fz⟩:=ta O.o;have z0:=fz 0;have z1:=fz 1;have z2:=fz 2;have z3:=fz 3;clear fz;go_wp2_with fail;refine kf (kY rfl _ _ rb 174 _ (0,0) _ rfl (j7 (j7 (j7 (j7 O.o)))) underlying174 rfl aj) rfl ?_;have S:=HR.o;rw[jS MQ.o,jT Qy.o]at S;subst S;rw[YU.o];unfold rG;exact⟨ya,yn,yc,rfl,pC (za Qb.o Pd.o _ _ _ _) PI.o.size,by have:=MJ.o.set4 K7 Kg (.string ⟨#[]⟩) (.int .i64 0) (.int .u8 35) (.slice ya yn yc);rw[show i+(q.2.1+1)=(i+1)+q.2.1 by omega];exact this,tw Tc.o (lZ HS.o) _ _ _ _⟩
 rw[j9 hq,jS hq]at G;have Qy:=oP hq;clear hq;go_wp2_with fail;refine G.o.mono ?_;rintro e w3 ⟨rfl,D,A⟩;have Nu:=oP D;have PI:=oP (QS.o.trans2 A);have OX:Hid (w3.heap[rb]?=_):=(A.block rb (oV Od.o) aw).trans Od.o;have D3:Hid (w3.heap[J]?=_):=(A.block J (oV D2.o) aT).trans D2.o;clear D A G;have G:=oP (uR I g U T i V 47 w3 Nu.o MY.o);by_cases hq:(T.getD i endR).kind=47
 ·rw[kj hq,jT hq]at G;have Sz:=oP hq;clear hq;go_wp2_with fail;refine G.o.mono ?_;rintro e w4 ⟨rfl,D,A⟩;have Ny:=oP D;have QD:=oP (PI.o.trans2 A);have PJ:Hid (w4.heap[rb]?=_):=(A.block rb (oV OX.o) aw).trans OX.o;have D4:Hid (w4.heap[J]?=_):=(A.block J (oV D3.o) aT).trans D3.o;clear D A G;have Le:=oP (qB MY.o (by rw[Sz.o];decide) HT.o);have M:=oP (wT I g U T (i+1) V w4 Ny.o Le.o HT.o);obtain⟨q,hq⟩:=Zg0 (oR (T.drop (i+1)) false);rw[hq]at M;have YU:=oP hq;clear hq;go_wp2_with fail;refine M.o.mono ?_;rintro e wz ⟨ya,yn,yc,rfl,D,Ke,A⟩;have MJ:=oP D;have Tc:=oP (QD.o.trans2 A);have Qb:=oP Ke;have O:Hid (wz.heap[rb]?=_):=(A.block rb (oV PJ.o) aw).trans PJ.o;have Pd:=oP (oV PJ.o);clear D A Ke M;obtain⟨⟨o0,o1,o2,o3⟩,fz⟩:=ta O.o;have z0:=fz 0;have z1:=fz 1;have z2:=fz 2;have z3:=fz 3;clear fz;go_wp2_with fail;refine kf (kY rfl _ _ rb 174 _ (0,0) _ rfl (j7 (j7 (j7 (j7 O.o)))) underlying174 rfl aj) rfl ?_;have S:=HR.o;rw[jS MQ.o,jS Qy.o,jT Sz.o]at S;subst S;rw[YU.o];unfold rG;exact⟨ya,yn,yc,rfl,pC (za Qb.o Pd.o _ _ _ _) QD.o.size,by have:=MJ.o.set4 K7 Kg (.string ⟨#[]⟩) (.int .i64 0) (.int .u8 47) (.slice ya yn yc);rw[show i+(q.2.1+1)=(i+1)+q.2.1 by omega];exact this,tw Tc.o (lZ HS.o) _ _ _ _⟩
 rw[j9 hq,jS hq]at G;have Sz:=oP hq;clear hq;go_wp2_with fail;refine G.o.mono ?_;rintro e w4 ⟨rfl,D,A⟩;have Ny:=oP D;have QD:=oP (PI.o.trans2 A);have PJ:Hid (w4.heap[rb]?=_):=(A.block rb (oV OX.o) aw).trans OX.o;have D4:Hid (w4.heap[J]?=_):=(A.block J (oV D3.o) aT).trans D3.o;clear D A G;have M:=oP (wT I g U T i V w4 Ny.o MY.o HT.o);obtain⟨q,hq⟩:=Zg0 (oR (T.drop i) false);rw[hq]at M;have YU:=oP hq;clear hq;have d0:w4.cell? ⟨J,0,none⟩=some (.int .u8 (tk.toNat:Int)):=by rw[jY (0,0) D4.o];rfl
 go_wp2_with fail;refine M.o.mono ?_;rintro e wz ⟨ya,yn,yc,rfl,D,Ke,A⟩;have MJ:=oP D;have Tc:=oP (QD.o.trans2 A);have Qb:=oP Ke;have O:Hid (wz.heap[rb]?=_):=(A.block rb (oV PJ.o) aw).trans PJ.o;have Pd:=oP (oV PJ.o);clear D A Ke M;obtain⟨⟨o0,o1,o2,o3⟩,fz⟩:=ta O.o;have z0:=fz 0;have z1:=fz 1;have z2:=fz 2;have z3:=fz 3;clear fz;go_wp2_with fail;refine kf (kY rfl _ _ rb 174 _ (0,0) _ rfl (j7 (j7 (j7 (j7 O.o)))) underlying174 rfl aj) rfl ?_;have S:=HR.o;rw[jS MQ.o,jS Qy.o,jS Sz.o,jS HK.o]at S;subst S;rw[YU.o];unfold rG;exact⟨ya,yn,yc,rfl,pC (za Qb.o Pd.o _ _ _ _) QD.o.size,by have:=MJ.o.set4 K7 Kg (.string ⟨#[]⟩) (.int .i64 0) (.int .u8 0) (.slice ya yn yc);rw[show i+(q.2.1+0)=i+q.2.1 by omega];exact this,tw Tc.o (lZ HS.o) _ _ _ _⟩
