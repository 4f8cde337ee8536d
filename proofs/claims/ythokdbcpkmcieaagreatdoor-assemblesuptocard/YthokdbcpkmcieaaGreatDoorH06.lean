import Derived.Test.YthokdbcpkmcieaaGreatDoorH05
set_option maxRecDepth 200000
set_option maxHeartbeats 16000000
namespace Go.Proofs.YthokdbcpkmcieaaGreatDoor
open RowKit Proofs.Tryz
def C1(behind x:Int):Int:=(behind+(if (127:Int)<x then x-(256:Int) else x)+(65536:Int))%(65536:Int)
def xM(behind code x:Int):Int:=behind/(2048:Int)*(2048:Int)+code/(32:Int)*(256:Int)+x
def tC(k:Nat)(b:ByteArray)(number code behind:Int):ByteArray:=
 if k<=6 then qd k
 else if k=7 then ⟨([64,82,hd number]:List UInt8).toArray⟩
 else if k=8 then ⟨([82,hd number]:List UInt8).toArray⟩
 else if k=9 then ⟨([35,48,120]++h2 (bAt b 0)).toArray⟩
 else if k=10 then ⟨([35,48,120]++h4 ((256:Int)*bAt b 0+bAt b 1)).toArray⟩
 else if k<=12 then ⟨([48,120]++h2 (bAt b 0)).toArray⟩
 else if k=13 then ⟨([47,48,120]++h2 (bAt b 0)).toArray⟩
 else if k=14 then ⟨([48,120]++h4 ((256:Int)*bAt b 0+bAt b 1)).toArray⟩
 else if k=15 then ⟨([48,120]++h4 (C1 behind (bAt b 0))).toArray⟩
 else ⟨([48,120]++h4 (xM behind code (bAt b 0))).toArray⟩
theorem zM(k:Nat)(h:k<17)(b:ByteArray)(number code behind:Int):(tC k b number code behind).size<=100:=by
 match k,h with
 |0,_=>exact(by decide:(1:Nat)<=100)
 |1,_=>exact(by decide:(2:Nat)<=100)
 |2,_=>exact(by decide:(1:Nat)<=100)
 |3,_=>exact(by decide:(4:Nat)<=100)
 |4,_=>exact(by decide:(7:Nat)<=100)
 |5,_=>exact(by decide:(5:Nat)<=100)
 |6,_=>exact(by decide:(5:Nat)<=100)
 |7,_=>exact(by decide:(3:Nat)<=100)
 |8,_=>exact(by decide:(2:Nat)<=100)
 |9,_=>exact(by decide:(5:Nat)<=100)
 |10,_=>exact(by decide:(7:Nat)<=100)
 |11,_=>exact(by decide:(4:Nat)<=100)
 |12,_=>exact(by decide:(4:Nat)<=100)
 |13,_=>exact(by decide:(5:Nat)<=100)
 |14,_=>exact(by decide:(6:Nat)<=100)
 |15,_=>exact(by decide:(6:Nat)<=100)
 |16,_=>exact(by decide:(6:Nat)<=100)
 |n+17,h=>exact absurd h ae
theorem tE{P:Program}{f:FuncId}{args:Array Value}{w:World}{v:Value}(h:Calls P f args w fun e w'=>e=.returned v/\w'=w):Calls P f args w fun e w'=>e=.returned v/\Below w.heap.size w w':=
 h.mono fun _ _ ⟨he,hw⟩=>⟨he,by rw[hw];exact jV⟩
theorem Ch(k:Nat)(h:k<17)(b:ByteArray)(number code behind:Int)(w:World)(hb:b.size=pw k)(n0:0<=number)(n1:number<=65535)(D:0<=code)(G:code<=255)(A:0<=behind)(b1:behind<=65535)(I:k=16->xM behind code (bAt b 0)<=65535) :
  Calls prog 98 #[.string (qd k),.string b,.int .i64 number,.int .i64 code,.int .i64 behind] w fun e w'=>e=.returned (.string (tC k b number code behind))/\Below w.heap.size w w':=by
 match k,h,hb with
 |0,_,_=>exact tE (Z7I b number code behind w)
 |1,_,_=>exact tE (Z9M b number code behind w)
 |2,_,_=>exact tE (Z9O b number code behind w)
 |3,_,_=>exact tE (Z3h b number code behind w)
 |4,_,_=>exact tE (Z2c b number code behind w)
 |5,_,_=>exact tE (Z2t b number code behind w)
 |6,_,_=>exact tE (Z7y b number code behind w)
 |7,_,_=>exact tE (Z1I b number code behind w n0 n1)
 |8,_,_=>exact tE (Z2k b number code behind w n0 n1)
 |9,_,hb=>have h:=Z8y b number code behind w hb;rw[vd b 0 aS]at h;exact tE h
 |10,_,hb=>exact Z76 b number code behind w hb _ fM
 |11,_,hb=>have h:=Z6C b number code behind w hb;rw[vd b 0 aS]at h;exact tE h
 |12,_,hb=>have h:=Z9R b number code behind w hb;rw[vd b 0 aS]at h;exact tE h
 |13,_,hb=>have h:=Z51 b number code behind w hb;rw[vd b 0 aS]at h;exact tE h
 |14,_,hb=>exact Z3E b number code behind w hb _ fM
 |15,_,hb=>exact Z2b b number code behind w hb A b1 _ (by rw[vd b 0 aS];rfl)
 |16,_,hb=>exact Z8I b number code behind w hb A b1 D G _ (by rw[vd b 0 aS];rfl) (I rfl)
 |n+17,h,_=>exact absurd h ae
theorem Z50(code:ByteArray)(A:Int)(w:World)(h:code.toList.isEmpty=true) :
  Calls prog 55 #[.string code,.int .i64 A] w fun e w'=>e=.returned (.tuple #[.string ⟨#[]⟩,.int .i64 0])/\w'=w:=by
 go_enter func55,ntmps55;go_wp2;go_ret2;exact⟨rfl,rfl⟩
def Cx(c:Int):Prop:=(c%16==1)=false/\∀j,j<109->inR c (pa.getD j ent0)=false
def As(c:Int)(e:Ent)(number:Int):Prop:=
 ((c%16==1)=true/\e=sM.getD (c/16%2).toNat ent0/\number=0) \/
 ((c%16==1)=false/\∃k,k<109/\inR c (pa.getD k ent0)=true/\(∀j,j<k->inR c (pa.getD j ent0)=false)/\e=pa.getD k ent0/\number=c-((pa.getD k ent0).1:Int))
theorem Z8w(c:Int)(w:World)(h0:0<=c)(h1:c<=255)(h:Cx c) :
  Calls prog 96 #[.int .i64 c] w fun e w'=>e=.returned (.tuple #[.agg #[.int .i64 0,.int .i64 0,.string ⟨#[]⟩,.slice none 0 0],.int .i64 0,.bool false])/\Below w.heap.size w w':=by
 refine(GU c w h0 h1 h.1).mono ?_;rintro e w' (⟨k,v,hk,A,_⟩|⟨_,he,D⟩)
 ·rw[h.2 k hk]at A;cases A
 exact⟨he,D⟩
theorem Hm(c:Int)(w:World)(h0:0<=c)(h1:c<=255)(A:Ent)(number:Int)(h:As c A number) :
  Calls prog 96 #[.int .i64 c] w fun e w'=>∃v,e=.returned (.tuple #[.agg #[.int .i64 A.1,.int .i64 A.2.1,.string ⟨A.2.2.1.toArray⟩,v],.int .i64 number,.bool true])/\OpsIn w' v A.2.2.2/\Below w.heap.size w w':=by
 rcases h with⟨I,rfl,rfl⟩|⟨I,k,hk,G,hf,rfl,rfl⟩
 ·exact Z1G c w h0 h1 I
 refine(GU c w h0 h1 I).mono ?_;rintro e w' (⟨j,v,O,D,J,he,ho,M⟩|⟨hn,_⟩)
 ·have:j=k:=by
   rcases Nat.lt_trichotomy j k with h|h|h
   ·rw[hf j h]at D;cases D
   ·exact h
   rw[J k h]at G;cases G
  subst this;exact⟨v,he,ho,M⟩
 rw[hn k hk]at G;cases G
theorem Z0N(code:ByteArray)(A:Int)(w:World)(h:0<code.size)(hc:Cx (code[0].toNat:Int)) :
  Calls prog 55 #[.string code,.int .i64 A] w fun e w'=>e=.returned (.tuple #[.string ⟨#[]⟩,.int .i64 0])/\Below w.heap.size w w':=by
 have hs:code.toList.isEmpty=false:=aI;have D:=(code[0]).toNat_lt;have G:(code[0].toNat:Int)<=255:=ae;have I:=oP hc;clear hc D;go_enter func55,ntmps55;go_wp2_with fail;refine(Z8w _ _ ae G I.o).mono ?_;exact Mco
theorem Cg(a:Int):a.tmod 65536=if 0<=a then a%65536 else -((-a)%65536):=by
 split
 ·rename_i h;exact oC h
 have e:a.tmod 65536 = -((-a).tmod 65536):=by rw[Int.neg_tmod,Int.neg_neg]
 rw[e,oC ae]
theorem CX(a:Int):∃t,a.tmod 65536=t/\-65535<=t/\t<=65535:=by
 refine⟨_,rfl,?_,?_⟩
 ·rw[Cg];split <;> omega
 rw[Cg];split <;> omega
theorem Io(a t:Int)(h:a.tmod 65536=t):(if t<0 then t+65536 else t)=a%65536:=by
 rw[<-h,Cg];split <;> split <;> omega
theorem vX{A D:World}{x y z u:Value}(hb:Below (A.heap.size+1) (A.alloc (.cells #[x,y,z,u] 89)) D) :
  D.cell? ⟨A.heap.size,0,none⟩=some x/\D.cell? ⟨A.heap.size,1,none⟩=some y/\D.cell? ⟨A.heap.size,2,none⟩=some z/\D.cell? ⟨A.heap.size,3,none⟩=some u:=
 ⟨aQ,aQ,aQ,aQ⟩
theorem Z8V(code:ByteArray)(I:Int)(w:World)(h:0<code.size)(U:code.size<=maxLen)(A:Ent)(number:Int)(hc:As (code[0].toNat:Int) A number)(J:A.2.2.2=[]) :
  Calls prog 55 #[.string code,.int .i64 I] w fun e w'=>e=.returned (.tuple #[.string ⟨A.2.2.1.toArray⟩,.int .i64 1])/\Below w.heap.size w w':=by
 have hs:code.toList.isEmpty=false:=aI;have V:=(code[0]).toNat_lt;have Z:(code[0].toNat:Int)<=255:=ae;have HC:=oP hc;have G:=oP J;unfold maxLen at U;clear hc V J;go_enter func55,ntmps55;go_wp2_with fail;refine(Hm _ _ ae Z A number HC.o).mono ?_;rintro e D ⟨v,rfl,ho,M⟩;rw[G.o]at ho
 have O:v=.slice none 0 0:=by
  rcases ho with⟨_,h⟩|⟨h,_⟩
  ·exact h
  exact absurd rfl h
 rw[O];clear O ho;have MK:=M.size;go_wp2_with fail;refine(A6 _ _ _ _).mono ?_;rintro e R ⟨rfl,Km⟩;have Lf:Below (D.heap.size+1) (D.alloc (.cells #[.int .i64 A.1,.int .i64 A.2.1,.string ⟨A.2.2.1.toArray⟩,.slice none 0 0] 89)) R:=Km.mono af;obtain⟨d0,d1,d2,d3⟩:=vX Lf;have NJ:D.heap.size+1<=R.heap.size:=bA;obtain⟨tm,Wt5,t0,t1⟩:=CX I;by_cases L9:tm<0
 all_goals
  go_wp2_with fail;refine(A6 _ _ _ _).mono ?_;rintro e S ⟨rfl,Kq⟩;have M7:Below (D.heap.size+1) (D.alloc (.cells #[.int .i64 A.1,.int .i64 A.2.1,.string ⟨A.2.2.1.toArray⟩,.slice none 0 0] 89)) S:=Lf.trans (Kq.mono NJ);obtain⟨e0,e1,e2,e3⟩:=vX M7;have WC2:D.heap.size+1<=S.heap.size:=eA;go_wp2_with fail;refine lS 1 ?_;rw[kG];go_wp2_with fail;refine(A6 _ _ _ _).mono ?_;rintro e w4 ⟨rfl,Lr⟩;go_wp2;go_ret2;exact⟨rfl,((M.alloc MK _).trans (M7.mono ae)).trans (Lr.mono ae)⟩
structure EntOps(c:Int)(en:Ent)(number:Int)(ks:List Nat)(n:Nat):Prop where
 is:As c en number
 ops:en.2.2.2=uJ ks
 len:ks.length=n
 n0:0<n
 n1:n<=3
 kinds:∀j,j<n->ks.getD j 0<17
theorem EntOps.val{c:Int}{D:Ent}{number:Int}{ks:List Nat}{n:Nat}(h:EntOps c D number ks n){w:World}{v:Value}(ho:OpsIn w v D.2.2.2):∃b,v=.slice (some ⟨b,0,none⟩) n n/\w.heap[b]?=some (.cells ((uJ ks).map fun x=>Value.string ⟨x.toArray⟩).toArray 9 (0,0)):=by
 rw[h.ops]at ho;have A:(uJ ks).length=n:=by rw[uJ,kL];exact h.len
 rcases ho with⟨h',_⟩|⟨_,b,G,hc⟩
 ·rw[h']at A;have:=h.n0;simp at A;omega
 rw[A]at G;exact⟨b,G,hc⟩
theorem CI(c:Int)(w:World)(h0:0<=c)(h1:c<=255)(A:Ent)(number:Int)(ks:List Nat)(n:Nat)(h:EntOps c A number ks n) :
  Calls prog 96 #[.int .i64 c] w fun e w'=>∃b,e=.returned (.tuple #[.agg #[.int .i64 A.1,.int .i64 A.2.1,.string ⟨A.2.2.1.toArray⟩,.slice (some ⟨b,0,none⟩) n n],.int .i64 number,.bool true])/\w'.heap[b]?=some (.cells ((uJ ks).map fun x=>Value.string ⟨x.toArray⟩).toArray 9 (0,0))/\Below w.heap.size w w':=by
 refine(Hm c w h0 h1 A number h.is).mono ?_;rintro e w' ⟨v,he,ho,D⟩;obtain⟨b,rfl,hc⟩:=h.val ho;exact⟨b,he,hc,D⟩
theorem yV{w w':World}{b:Nat}{o:Obj}{B:Nat}(h:w.heap[b]?=some o)(A:Below B w w')(D:w.heap.size<=B):w'.heap[b]?=some o:=by
 rw[A.block b (ke (kV.1 h).1 D)];exact h
theorem vY{w:World}{b:Nat}{o x:Obj}(h:w.heap[b]?=some o):(w.alloc x).heap[b]?=some o:=by
 rw[kt (kV.1 h).1];exact h
theorem Z39(code:ByteArray)(J:Int)(w:World)(h:0<code.size)(A:Ent)(number:Int)(ks:List Nat)(n:Nat)(hc:EntOps (code[0].toNat:Int) A number ks n)(M:code.size<pv ks) :
  Calls prog 55 #[.string code,.int .i64 J] w fun e w'=>e=.returned (.tuple #[.string ⟨#[]⟩,.int .i64 0])/\Below w.heap.size w w':=by
 have hs:code.toList.isEmpty=false:=aI;have O:=(code[0]).toNat_lt;have R:(code[0].toNat:Int)<=255:=ae;have S:=oP hc;obtain⟨sz,D⟩:=Zg0 (pv ks);rw[D]at M;have G:=oP (fun c m nm b w=>Bg c m nm b ks n w hc.len (by have:=hc.n1;omega) hc.kinds);rw[D]at G;clear hc O;go_enter func55,ntmps55;go_wp2_with fail;refine(CI _ _ ae R A number ks n S.o).mono ?_;rintro e Z ⟨b,rfl,ho,I⟩;have U:=I.size;go_wp2_with fail;refine(G.o _ _ _ b _ (by exact vY ho)).mono ?_;rintro e w2 ⟨rfl,V⟩;go_wp2;go_ret2;exact⟨rfl,(I.alloc U _).trans (V.mono ai)⟩
def uU(nm:ByteArray)(ks:List Nat)(code:ByteArray)(number c behind:Int):Nat->ByteArray
 |0=>nm
 |i+1=>(uU nm ks code number c behind i++(if i=0 then ⟨#[32]⟩ else ⟨#[44]⟩))++tC (ks.getD i 0) (code.extract (pD ks i) (pD ks i+pw (ks.getD i 0))) number c behind
theorem IV(nm:ByteArray)(ks:List Nat)(code:ByteArray)(number c behind:Int)(n:Nat)(hk:∀j,j<n->ks.getD j 0<17):∀i,i<=n->(uU nm ks code number c behind i).size<=nm.size+101*i
 |0,_=>by simp[uU]
 |i+1,h=>by
  have ih:=IV nm ks code number c behind n hk i ae
  have hs:=zM (ks.getD i 0) (hk i ae) (code.extract (pD ks i) (pD ks i+pw (ks.getD i 0))) number c behind
  have h1:(if i=0 then (⟨#[32]⟩:ByteArray) else ⟨#[44]⟩).size=1:=by split <;> rfl
  simp only[uU,lK]
  omega
def rm(A:Int)(sz:Nat):Int:=(A%65536+(sz:Int))%65536
theorem DY(A:Int)(sz:Nat):0<=rm A sz/\rm A sz<=65535:=by unfold rm;omega
theorem Z5k(ks:List Nat)(h:ks.length<=3):pv ks<=7:=by
 have:=CH ks;unfold pv;omega
theorem Z0I(code:ByteArray)(I:Int)(w:World)(h:0<code.size)(Ll:code.size<=maxLen)(G:Ent)(number:Int)(ks:List Nat)(n:Nat)(hc:EntOps (code[0].toNat:Int) G number ks n)(Tp:pv ks<=code.size)
  (Kk:((code[0].toNat:Int)==133)=false) (nm:ByteArray) (hnm:⟨G.2.2.1.toArray⟩=nm) (OO:nm.size<=1000) (k0:0<=number) (k1:number<=65535)
  (A:∀i,i<n->ks.getD i 0=16->xM (rm I (pv ks)) (code[0].toNat:Int) (bAt (code.extract (pD ks i) (pD ks i+pw (ks.getD i 0))) 0)<=65535) :
  Calls prog 55 #[.string code,.int .i64 I] w fun e w'=>e=.returned (.tuple #[.string (uU nm ks code number (code[0].toNat:Int) (rm I (pv ks)) n),.int .i64 (pv ks)])/\Below w.heap.size w w':=by
 have hs:code.toList.isEmpty=false:=aI;have Kf:=(code[0]).toNat_lt;have hl:(code[0].toNat:Int)<=255:=ae;have HC:=oP hc;unfold maxLen at Ll;have hn1:=hc.n1;have hn0:=hc.n0;have O5:=hc.len;have WC3:=Z5k ks ae;have WC4:=oP (fun i (hi:i<n)=>j8 (Z4O ks i ae) Tp);have SN:=oP (fun i (hi:i<n)=>A1 ks i ae);obtain⟨bh,QH⟩:=Zg0 (rm I (pv ks));have Mf:=DY I (pv ks);have We0:=oP (IV nm ks code number (code[0].toNat:Int) bh n hc.kinds);rw[QH]at A Mf⊢;have N4:=Mf.1;have MG:=Mf.2;have Wt6:=oP A;obtain⟨sz,KB⟩:=Zg0 (pv ks);rw[KB]at Tp WC3⊢;have O4:Hid ((I%65536+(sz:Int))%65536=bh):=by rw[<-KB];exact QH
 have HE:=oP (fun c m nm b w=>Bg c m nm b ks n w hc.len (by have:=hc.n1;omega) hc.kinds);rw[KB]at HE;have HK:=oP hc.kinds;have Rz:=oP hnm;obtain⟨J,Wt5,t0,t1⟩:=CX I;have WC5:=oP (Io I J Wt5);clear hc Kf Mf A QH hnm KB;go_enter func55,ntmps55;go_wp2_with fail;refine(CI _ _ ae hl G number ks n HC.o).mono ?_;rintro e D ⟨b,rfl,ho,Kh⟩;rw[Rz.o];have MK:=Kh.size;have HO:=oP ho;have LQ:b<D.heap.size:=(kV.1 ho).1;clear ho;go_wp2_with fail;refine(HE.o _ _ _ b _ (by exact vY HO.o)).mono ?_;rintro e w2 ⟨rfl,Km⟩;have Lf:Below (D.heap.size+1) (D.alloc (.cells #[.int .i64 G.1,.int .i64 G.2.1,.string nm,.slice (some ⟨b,0,none⟩) n n] 89)) w2:=Km.mono af;obtain⟨d0,d1,d2,d3⟩:=vX Lf;have NJ:D.heap.size+1<=w2.heap.size:=bA
 have TQ:(if J<0 then (J+65536+(sz:Int))%65536 else (J+(sz:Int))%65536)=bh:=by
  rw[<-O4.o,<- WC5.o];split <;> rfl
 have X3:=oP TQ;clear TQ;by_cases L9:J<0
 all_goals
  go_wp2_with fail;refine(HE.o _ _ _ b _ (by exact yV (vY HO.o) Lf af)).mono ?_;rintro e w3 ⟨rfl,Kq⟩;have M7:Below (D.heap.size+1) (D.alloc (.cells #[.int .i64 G.1,.int .i64 G.2.1,.string nm,.slice (some ⟨b,0,none⟩) n n] 89)) w3:=Lf.trans (Kq.mono NJ);obtain⟨e0,e1,e2,e3⟩:=vX M7;have WC2:D.heap.size+1<=w3.heap.size:=eA;clear d0 d1 d2 d3;have Mi:=oP M7;clear Kq M7 Km Lf;go_wp2_with fail;first| rw[show (J+65536+(sz:Int))%65536=bh by have:=X3.o;rw[jT L9]at this;exact this]|rw[show (J+(sz:Int))%65536=bh by have:=X3.o;rw[jS ae]at this;exact this]
  go_loopw [11,12,13] (fun s k i wr=>∃j:Nat,j<=n/\i=.int .i64 j/\k=.int .i64 (pD ks j)/\s=.string (uU nm ks code number (code[0].toNat:Int) bh j)/\Below (D.heap.size+1) (D.alloc (.cells #[.int .i64 G.1,.int .i64 G.2.1,.string nm,.slice (some ⟨b,0,none⟩) n n] 89)) wr) (fun _ _ i _=>n-(intOf i).toNat)
  case atStart=>exact⟨0,j4,rfl,rfl,rfl,Mi.o⟩
  case round=>
   obtain⟨j,hj,rfl,rfl,rfl,U⟩:=hrel;obtain⟨e0,e1,e2,e3⟩:=vX U;have WH:D.heap.size+1<=wr.heap.size:=by have:=U.size;simpa using this
   have Oi:=We0.o j hj;obtain⟨S,hS⟩:=Zg0 (uU nm ks code number (code[0].toNat:Int) bh j);rw[hS]at Oi⊢;have HS:=oP hS;have V:=oP (yV (vY HO.o) U af);have ON:=oP U;clear U hS;by_cases TR:j<n
   ·obtain⟨q,hq⟩:=Zg0 (ks.getD j 0);have TP:q<17:=by rw[<-hq];exact HK.o j TR
    have ct:wr.cell? ⟨b,j,none⟩=some (.string (qd q)):=by rw[OpsIn.cellAt V.o j ae,hq]
    have X4:=WC4.o j TR;have Z:=SN.o j TR;have A:=Wt6.o j TR;have M:uU nm ks code number (code[0].toNat:Int) bh (j+1)=(uU nm ks code number (code[0].toNat:Int) bh j++(if j=0 then ⟨#[32]⟩ else ⟨#[44]⟩))++tC (ks.getD j 0) (code.extract (pD ks j) (pD ks j+pw (ks.getD j 0))) number (code[0].toNat:Int) bh:=rfl;rw[HS.o,hq]at M;rw[hq]at X4 Z A;obtain⟨P,hP⟩:=Zg0 (pD ks j);rw[hP]at X4 Z A M⊢;have Wd8:=CT q;obtain⟨z,hz⟩:=Zg0 (pw q);rw[hz]at X4 Z A M Wd8;obtain⟨B,hB⟩:=Zg0 (code.extract P (P+z));have WK:B.size=pw q:=by rw[<-hB,kU,hz];omega
    rw[hB]at A M;have O:=oP (fun w=>Ch q TP B number (code[0].toNat:Int) bh w WK k0 k1 ae hl N4 MG A);have TO:=zM q TP B number (code[0].toNat:Int) bh;obtain⟨T,hT⟩:=Zg0 (tC q B number (code[0].toNat:Int) bh);rw[hT]at O TO M;have HZ:=oP (fun w=>Ck q TP w);rw[hz]at HZ;have HB:=oP hB;have KF:=oP M;have We1:=oP Z
    have VJ4:P<=10000000:=by
     have:=CH (ks.take j);have h2:(ks.take j).length<=j:=T0q _ _;rw[<-hP];unfold pD;omega
    have SL:(⟨#[32]⟩:ByteArray).size=1:=rfl;have X5:(⟨#[44]⟩:ByteArray).size=1:=rfl;have Rc:∀w,(Op.stringOp .add S ⟨#[32]⟩).run prog w=.ok (.string (S++⟨#[32]⟩)) w:=fun w=>mn w _ _ ae
    have Rd:∀w,(Op.stringOp .add S ⟨#[44]⟩).run prog w=.ok (.string (S++⟨#[44]⟩)) w:=fun w=>mn w _ _ ae
    have ZM:∀w,(Op.stringOp .add (S++⟨#[32]⟩) T).run prog w=.ok (.string ((S++⟨#[32]⟩)++T)) w:=fun w=>mn w _ _ di
    have Vn4:∀w,(Op.stringOp .add (S++⟨#[44]⟩) T).run prog w=.ok (.string ((S++⟨#[44]⟩)++T)) w:=fun w=>mn w _ _ di
    clear hq hP hz hB hT M Z A WK SL X5;by_cases VD:j=0
    ·have Vn5:((j:Int)==0)=true:=by simp[VD]
     have HJ:=oP VD;clear VD;go_wp2_with fail;refine(HZ.o _).mono ?_;rintro e wz ⟨rfl,rfl⟩;go_wp2_with fail;rw[HB.o];refine(O.o _).mono ?_;rintro e w4 ⟨rfl,R⟩;have OP:=oP (ON.o.trans (R.mono WH));clear R;go_wp2;go_roundw
     case rel=>exact⟨j+1,ae,ao,by rw[We1.o];go_num,by rw[KF.o];rw[jT HJ.o],OP.o⟩
     case measure=>simp[intOf];omega
    have Vn5:((j:Int)==0)=false:=ai;have HJ:=oP VD;clear VD;go_wp2_with fail;refine(HZ.o _).mono ?_;rintro e wz ⟨rfl,rfl⟩;go_wp2_with fail;rw[HB.o];refine(O.o _).mono ?_;rintro e w4 ⟨rfl,R⟩;have OP:=oP (ON.o.trans (R.mono WH));clear R;go_wp2;go_roundw
    case rel=>exact⟨j+1,ae,ao,by rw[We1.o];go_num,by rw[KF.o];rw[jS HJ.o],OP.o⟩
    case measure=>simp[intOf];omega
   have We2:j=n:=ae;have HJ:=oP We2;clear We2;go_wp2_with fail;refine(HE.o _ _ _ b _ V.o).mono ?_;rintro e w4 ⟨rfl,R⟩;go_wp2;go_ret2;refine⟨?_,((Kh.alloc MK _).trans (ON.o.mono ae)).trans (R.mono ae)⟩;rw[<-HS.o,HJ.o];rfl
theorem Z85(code:ByteArray)(I:Int)(w:World)(h:0<code.size)(Ll:code.size<=maxLen)(D:Ent)(number:Int)(hc:EntOps (code[0].toNat:Int) D number [11,11] 2)(Tp:3<=code.size)
  (Kk:((code[0].toNat:Int)==133)=true) (nm:ByteArray) (hnm:⟨D.2.2.1.toArray⟩=nm) (OO:nm.size<=1000) (k0:0<=number) (k1:number<=65535) (bh:Int) (Z:rm I 3=bh) (x y:ByteArray) (hx:tC 11 (code.extract 2 3) number (code[0].toNat:Int) bh=x) (hy:tC 11 (code.extract 1 2) number (code[0].toNat:Int) bh=y) :
  Calls prog 55 #[.string code,.int .i64 I] w fun e w'=>e=.returned (.tuple #[.string ((((nm++⟨#[32]⟩)++x)++⟨#[44]⟩)++y),.int .i64 3])/\Below w.heap.size w w':=by
 have hs:code.toList.isEmpty=false:=aI;have Kf:=(code[0]).toNat_lt;have hl:(code[0].toNat:Int)<=255:=ae;have HC:=oP hc;unfold maxLen at Ll;have S:=DY I 3;rw[Z]at S;have N4:=S.1;have MG:=S.2;have O4:Hid ((I%65536+((3:Nat):Int))%65536=bh):=Z;have U:=oP (fun c m nm b w=>Bg c m nm b [11,11] 2 w rfl ae hc.kinds);rw[show pv [11,11]=3 from rfl]at U;have Rz:=oP hnm;obtain⟨G,Wt5,t0,t1⟩:=CX I;have WC5:=oP (Io I G Wt5);have HZ:=oP (fun w=>Ck 11 ae w);rw[show ((pw 11:Nat):Int)=1 from rfl]at HZ;have ZN:(code.extract 2 3).size=pw 11:=by rw[kU];show min 3 code.size-2=1;omega
 have J:(code.extract 1 2).size=pw 11:=by rw[kU];show min 2 code.size-1=1;omega
 have U9:=oP (fun w=>Ch 11 ae (code.extract 2 3) number (code[0].toNat:Int) bh w ZN k0 k1 ae hl N4 MG ae);have M:=oP (fun w=>Ch 11 ae (code.extract 1 2) number (code[0].toNat:Int) bh w J k0 k1 ae hl N4 MG ae);have Pp:=zM 11 ae (code.extract 2 3) number (code[0].toNat:Int) bh;have TS:=zM 11 ae (code.extract 1 2) number (code[0].toNat:Int) bh;rw[hx]at U9 Pp;rw[hy]at M TS;have SL:(⟨#[32]⟩:ByteArray).size=1:=rfl;have X5:(⟨#[44]⟩:ByteArray).size=1:=rfl;have Rc:∀w,(Op.stringOp .add nm ⟨#[32]⟩).run prog w=.ok (.string (nm++⟨#[32]⟩)) w:=fun w=>mn w _ _ ae
 have Rd:∀w,(Op.stringOp .add (nm++⟨#[32]⟩) x).run prog w=.ok (.string ((nm++⟨#[32]⟩)++x)) w:=fun w=>mn w _ _ di
 have ZM:∀w,(Op.stringOp .add ((nm++⟨#[32]⟩)++x) ⟨#[44]⟩).run prog w=.ok (.string (((nm++⟨#[32]⟩)++x)++⟨#[44]⟩)) w:=fun w=>mn w _ _ (by rw[lK,lK];omega)
 have Vn4:∀w,(Op.stringOp .add (((nm++⟨#[32]⟩)++x)++⟨#[44]⟩) y).run prog w=.ok (.string ((((nm++⟨#[32]⟩)++x)++⟨#[44]⟩)++y)) w:=fun w=>mn w _ _ (by rw[lK,lK,lK];omega)
 clear hc Kf S Z hnm hx hy ZN J SL X5;go_enter func55,ntmps55;go_wp2_with fail;refine(CI _ _ ae hl D number [11,11] 2 HC.o).mono ?_;rintro e A ⟨b,rfl,ho,Kh⟩;rw[Rz.o];have MK:=Kh.size;have O:=oP ho;have LQ:b<A.heap.size:=(kV.1 ho).1;clear ho;go_wp2_with fail;refine(U.o _ _ _ b _ (by exact vY O.o)).mono ?_;rintro e w2 ⟨rfl,Km⟩;have Lf:Below (A.heap.size+1) (A.alloc (.cells #[.int .i64 D.1,.int .i64 D.2.1,.string nm,.slice (some ⟨b,0,none⟩) 2 2] 89)) w2:=Km.mono af;obtain⟨d0,d1,d2,d3⟩:=vX Lf;have NJ:A.heap.size+1<=w2.heap.size:=bA
 have TQ:(if G<0 then (G+65536+3)%65536 else (G+3)%65536)=bh:=by
  rw[<-O4.o,<- WC5.o];split <;> rfl
 have X3:=oP TQ;clear TQ;by_cases L9:G<0
 all_goals
  go_wp2_with fail;refine(U.o _ _ _ b _ (by exact yV (vY O.o) Lf af)).mono ?_;rintro e w3 ⟨rfl,Kq⟩;have M7:Below (A.heap.size+1) (A.alloc (.cells #[.int .i64 D.1,.int .i64 D.2.1,.string nm,.slice (some ⟨b,0,none⟩) 2 2] 89)) w3:=Lf.trans (Kq.mono NJ);obtain⟨e0,e1,e2,e3⟩:=vX M7;have WC2:A.heap.size+1<=w3.heap.size:=eA;have c0:w3.cell? ⟨b,0,none⟩=some (.string (qd 11)):=OpsIn.cellAt (ks:=[11,11]) (yV (vY O.o) M7 af) 0 ah;clear d0 d1 d2 d3;have Mi:=oP M7;clear Kq M7 Km Lf;go_wp2_with fail;first| rw[show (G+65536+3)%65536=bh by have:=X3.o;rw[jT L9]at this;exact this]|rw[show (G+3)%65536=bh by have:=X3.o;rw[jS ae]at this;exact this]
  refine lS 3 ?_;rw[kG];go_wp2_with fail;refine(HZ.o _).mono ?_;rintro e wz ⟨rfl,rfl⟩;go_wp2_with fail;refine(U9.o _).mono ?_;rintro e w4 ⟨rfl,Lr⟩;have R:=Mi.o.trans (Lr.mono WC2);obtain⟨f0,f1,f2,f3⟩:=vX R;have We3:A.heap.size+1<=w4.heap.size:=by have:=R.size;simpa using this
  have c1:w4.cell? ⟨b,1,none⟩=some (.string (qd 11)):=OpsIn.cellAt (ks:=[11,11]) (yV (vY O.o) R af) 1 ah;have OP:=oP R;clear Lr R e0 e1 e2 e3 c0;go_wp2;rw[kG];go_wp2_with fail;refine(HZ.o _).mono ?_;rintro e wz ⟨rfl,rfl⟩;go_wp2_with fail;refine(M.o _).mono ?_;rintro e w5 ⟨rfl,Lp⟩;have V:=OP.o.trans (Lp.mono We3);obtain⟨g0,g1,g2,g3⟩:=vX V;have Wt7:A.heap.size+1<=w5.heap.size:=by have:=V.size;simpa using this
  have Lx:=oP V;clear Lp V f0 f1 f2 f3 c1;go_wp2;rw[kG];go_wp2_with fail;refine(U.o _ _ _ b _ (by exact yV (vY O.o) Lx.o af)).mono ?_;rintro e w6 ⟨rfl,Vn6⟩;go_wp2;go_ret2;exact⟨rfl,((Kh.alloc MK _).trans (Lx.o.mono ae)).trans (Vn6.mono ae)⟩
def Ag(c:Int):Nat:=(List.range 109).findIdx fun j=>inR c (pa.getD j ent0)
def ur(c:Int):Ent:=if (c%16==1)=true then sM.getD (c/16%2).toNat ent0 else pa.getD (Ag c) ent0
def sN(c:Int):Int:=if (c%16==1)=true then 0 else c-((pa.getD (Ag c) ent0).1:Int)
def Iy(c:Int):Bool:=!(c%16==1)&&(List.range 109).all (fun j=>!inR c (pa.getD j ent0))
def yH(c:Int):Bool:=(c%16==1)||decide (Ag c<109)
def A9(c:Int):Bool:=decide ((ur c).2.2.2=[])&&decide ((ur c).2.2.1=(ph c).1)&&decide ((ph c).2.1=[])&&!(((rowAt (pk c)).1:Int)==133)
def zK(c:Int)(k:Nat):Bool:=decide (k<17)&&(decide (k≠7/\k≠8)||(decide (qQ c=sN c)&&decide (sN c<8)))&&(decide (k≠16)||decide (qQ c=c/32*32))
def Bc(c:Int):Bool:=decide (1<=(qZ c).length)&&decide ((qZ c).length<=3)&&decide ((ur c).2.2.1=(ph c).1)&&decide ((ur c).2.2.2=uJ (o9 c)) &&
 (qZ c).all (fun t=>decide (t.size<=1000)&&decide (0<=qa t)&&decide (qd (qa t).toNat=t)&&zK c (qa t).toNat)&&decide (0<=sN c)&&decide (sN c<=255)&&decide (0<=qQ c) &&
 decide ((((rowAt (pk c)).1:Int)==133)=(c==133))&&(!(c==133)||decide (o9 c=[11,11]))&&decide ((ph c).2.1.length<1000)
def okC(c:Int):Bool:=if pk c=111 then Iy c else yH c&&decide ((rowAt (pk c)).2.2.length<1000)&&(if (ph c).2.2 then Bc c else A9 c)
theorem Z2E:(List.range 256).all (fun c=>okC (c:Int))=true:=aq
theorem Z5a(x:UInt8):okC (x.toNat:Int)=true:=by
 have:=x.toNat_lt;exact kx.1 Z2E x.toNat (lM.2 ae)
theorem Z95(c:Int)(h:okC c=true)(D:pk c=111):(∀j,j<111->hit c j=false)/\Cx c:=by
 unfold okC at h;rw[jT D]at h;refine⟨fun j A=>AN 111 (hit c) j (by show j<pk c;omega),?_⟩;simp only[Iy,kB,mW,kx,lM]at h;exact⟨h.1,fun j A=>by simpa using h.2 j A⟩
theorem Fo(c:Int)(h:yH c=true):As c (ur c) (sN c):=by
 unfold ur sN;by_cases A:(c%16==1)=true
 ·rw[jT A,jT A];exact .inl ⟨A,rfl,rfl⟩
 rw[jS A,jS A];have D:(c%16==1)=false:=by simpa using A
 simp only[yH,D,mN,kI]at h;exact .inr ⟨D,Ag c,h,EV 109 (fun j=>inR c (pa.getD j ent0)) h,fun j G=>AN 109 (fun j=>inR c (pa.getD j ent0)) j G,rfl,rfl⟩
theorem Z0C(c:Int)(h:okC c=true)(A:pk c≠111):yH c=true/\(rowAt (pk c)).2.2.length<1000/\(if (ph c).2.2 then Bc c else A9 c)=true:=by
 unfold okC at h;rw[jS A]at h;simp only[kB,kI]at h;exact⟨h.1.1,h.1.2,h.2⟩
structure OpsC(c:Int):Prop where
 n0:1<=(qZ c).length
 n1:(qZ c).length<=3
 name:(ur c).2.2.1=(ph c).1
 texts:(ur c).2.2.2=uJ (o9 c)
 ps:∀t∈qZ c,t.size<=1000/\0<=qa t/\qd (qa t).toNat=t/\zK c (qa t).toNat=true
 num0:0<=sN c
 num1:sN c<=255
 own0:0<=qQ c
 same:(((rowAt (pk c)).1:Int)==133)=(c==133)
 swap:(c==133)=true->o9 c=[11,11]
 short:(ph c).2.1.length<1000
theorem Z07(c:Int)(h:Bc c=true):OpsC c:=by
 simp only[Bc,kB,kI,kx,mM,mW]at h;obtain⟨⟨⟨⟨⟨⟨⟨⟨⟨⟨h1,h2⟩,h3⟩,h4⟩,A⟩,h6⟩,h7⟩,D⟩,G⟩,I⟩,J⟩:=h;exact⟨h1,h2,h3,h4,fun t ht=>by have:=A t ht;exact⟨this.1.1.1,this.1.1.2,this.1.2,this.2⟩,h6,h7,D,G,fun hc=>I.resolve_left (by rw[hc];simp),J⟩
theorem Z6f(c:Int)(h:A9 c=true):(ur c).2.2.2=[]/\(ur c).2.2.1=(ph c).1/\(ph c).2.1=[]/\(((rowAt (pk c)).1:Int)==133)=false:=by
 simp only[A9,kB,kI,mW]at h;exact⟨h.1.1.1,h.1.1.2,h.1.2,h.2⟩
theorem Gr(A:Int)(s:Nat):rK A (s:Int)=rm A s:=by
 unfold rK rm;rw[mq,mq,mq];omega
theorem Z8p(h a:Int)(h0:0<=a)(h1:a<=255):sy h a=C1 h a:=by
 unfold sy C1;rw[Z77 a h0 h1,mq,mq];split <;> omega
theorem Z7s(h c a:Int)(h0:0<=h)(h1:h<=65535)(c0:0<=c)(c1:c<=255)(a0:0<=a)(a1:a<=255):sE h (c/32*32) a=xM h c a:=by
 unfold sE xM;obtain⟨n,rfl⟩:=nZ h0
 have e1:bits BinOp.and IntKind.u16 (n:Int) 63488=((2048*(n/2048):Nat):Int):=by
  have:=u16_and_nat n 63488 ae ah;rw[Z9U n ae]at this;exact this
 rw[e1,mq,mq];rw[show c/32*32%65536*8%65536=c/32*256 by omega];rw[bits_join .u16 16 ah CR 11 ((2048*(n/2048):Nat):Int) (c/32*256) ae ae ae ae ae ae];rw[bits_join .u16 16 ah CR 8 (((2048*(n/2048):Nat):Int)+c/32*256) a ae ae ae ae ae ae];omega
theorem Z5X(k:Nat)(M:k<17)(c own number bh:Int)(b:ByteArray)(J:(k≠7/\k≠8)\/(own=number/\0<=number/\number<8))(O:k=16->own=c/32*32)(c0:0<=c)(c1:c<=255)(R:0<=bh)(b1:bh<=65535) :
  qn ⟨k,qd k,own,tQ k b,bh⟩=tC k b number c bh:=by
 have A:=zD b 0;have D:=zD b 1;have G:=Gp (bAt b 0) (bAt b 1) A.1 A.2 D.1 D.2;match k,M with
 |0,_=>rfl
 |1,_=>rfl
 |2,_=>rfl
 |3,_=>rfl
 |4,_=>rfl
 |5,_=>rfl
 |6,_=>rfl
 |7,_=>
  obtain⟨rfl,n0,n1⟩:=J.resolve_left ae;have I:∀n:Fin 8,qd 7++vH (n.val:Int)=⟨([64,82,hd (n.val:Int)]:List UInt8).toArray⟩:=aq;obtain⟨n,rfl⟩:=nZ n0;exact I ⟨n,ae⟩
 |8,_=>
  obtain⟨rfl,n0,n1⟩:=J.resolve_left ae;have I:∀n:Fin 8,qd 8++vH (n.val:Int)=⟨([82,hd (n.val:Int)]:List UInt8).toArray⟩:=aq;obtain⟨n,rfl⟩:=nZ n0;exact I ⟨n,ae⟩
 |9,_=>rfl
 |10,_=>
  show (⟨#[35,48,120,hd (bits BinOp.or IntKind.u16 (bAt b 0*256) (bAt b 1)/4096),hd (bits BinOp.or IntKind.u16 (bAt b 0*256) (bAt b 1)/256),hd (bits BinOp.or IntKind.u16 (bAt b 0*256) (bAt b 1)/16),hd (bits BinOp.or IntKind.u16 (bAt b 0*256) (bAt b 1))]⟩:ByteArray)=_;rw[G];rfl
 |11,_=>rfl
 |12,_=>rfl
 |13,_=>rfl
 |14,_=>
  show (⟨#[48,120,hd (bits BinOp.or IntKind.u16 (bAt b 0*256) (bAt b 1)/4096),hd (bits BinOp.or IntKind.u16 (bAt b 0*256) (bAt b 1)/256),hd (bits BinOp.or IntKind.u16 (bAt b 0*256) (bAt b 1)/16),hd (bits BinOp.or IntKind.u16 (bAt b 0*256) (bAt b 1))]⟩:ByteArray)=_;rw[G];rfl
 |15,_=>
  show (⟨#[48,120,hd (sy bh (bAt b 0)/4096),hd (sy bh (bAt b 0)/256),hd (sy bh (bAt b 0)/16),hd (sy bh (bAt b 0))]⟩:ByteArray)=_;rw[Z8p bh (bAt b 0) A.1 A.2];rfl
 |16,_=>
  show (⟨#[48,120,hd (sE bh own (bAt b 0)/4096),hd (sE bh own (bAt b 0)/256),hd (sE bh own (bAt b 0)/16),hd (sE bh own (bAt b 0))]⟩:ByteArray)=_;rw[O rfl,Z7s bh c (bAt b 0) R b1 c0 c1 A.1 A.2];rfl
 |n+17,h=>exact absurd h ae
theorem Bd(c:Int)(k:Nat)(h:zK c k=true)(hn:0<=sN c):k<17/\((k≠7/\k≠8)\/(qQ c=sN c/\0<=sN c/\sN c<8))/\(k=16->qQ c=c/32*32):=by
 simp only[zK,kB,kI,mM]at h;refine⟨h.1.1,?_,fun e=>?_⟩
 ·rcases h.1.2 with h|h
  ·exact .inl h
  exact .inr ⟨h.1,hn,h.2⟩
 rcases h.2 with h|h
 ·exact absurd e h
 exact h
theorem Z5H(nm x:ByteArray):(nm++⟨#[32]⟩)++⟨(Lib.join [x.data.toList] [44]).toArray⟩=(nm++⟨#[32]⟩)++x:=Mcu
theorem Fk(nm x y:ByteArray):(nm++⟨#[32]⟩)++⟨(Lib.join [x.data.toList,y.data.toList] [44]).toArray⟩=(((nm++⟨#[32]⟩)++x)++⟨#[44]⟩)++y:=Mcu
theorem Z6k(nm x y z:ByteArray):(nm++⟨#[32]⟩)++⟨(Lib.join [x.data.toList,y.data.toList,z.data.toList] [44]).toArray⟩=(((((nm++⟨#[32]⟩)++x)++⟨#[44]⟩)++y)++⟨#[44]⟩)++z:=Mcu
theorem Z1e(nm:ByteArray)(own:Int)(ks:List Nat)(code:ByteArray)(number c bh:Int)(n0:1<=ks.length)(n1:ks.length<=3)
  (hw:∀j,j<ks.length->qn ((opA own ks code ks.length j).at bh)=tC (ks.getD j 0) (code.extract (pD ks j) (pD ks j+pw (ks.getD j 0))) number c bh) :
  (nm++⟨#[32]⟩)++⟨(Lib.join ((lAt own ks code ks.length).map fun o=>(qn (o.at bh)).data.toList) [44]).toArray⟩=uU nm ks code number c bh ks.length:=by
 have A:(lAt own ks code ks.length).map (fun o=>(qn (o.at bh)).data.toList)=(List.range ks.length).map fun j=>(tC (ks.getD j 0) (code.extract (pD ks j) (pD ks j+pw (ks.getD j 0))) number c bh).data.toList:=by
  unfold lAt;rw[nO];apply oD;intro j hj;have D:j<ks.length:=bz;simp only[Function.comp];rw[hw j D]
 rw[A];match G:ks.length,n0,n1 with
 |1,_,_=>exact Z5H nm _
 |2,_,_=>exact Fk nm _ _
 |3,_,_=>exact Z6k nm _ _ _
def Same(code:ByteArray)(A:Int)(R:ByteArray)(S:Int):Prop:=
 (∀(w:World) (m:Int),w.cell? ⟨0,0,none⟩=some (.int .i64 m)->0<w.heap.size->Calls prog 30 #[.string code,.int .i64 A] w fun e w'=>e=.returned (.tuple #[.string R,.int .i64 S])/\Below w.heap.size w w') /\
 (∀(w:World),Calls prog 55 #[.string code,.int .i64 A] w fun e w'=>e=.returned (.tuple #[.string R,.int .i64 S])/\Below w.heap.size w w')
theorem BZ(c:Int)(h:OpsC c)(j:Nat)(hj:j<(o9 c).length):zK c ((o9 c).getD j 0)=true:=Mbv
theorem Z1g(c:Int)(h:OpsC c)(code:ByteArray):(qZ c).map (opn (qQ c))=lAt (qQ c) (o9 c) code 0:=Max
theorem GJ(c:Int)(A:pk c≠111)(D:(rowAt (pk c)).2.2.length<1000)(hcut:(ph c).2.2=true)(h:OpsC c)(code:ByteArray) :
  RowIs c (pk c) (o9 c).length ((rowAt (pk c)).1:Int) ((rowAt (pk c)).2.1:Int) ⟨(rowAt (pk c)).2.2.toArray⟩ ⟨(ph c).1.toArray⟩ ⟨(ph c).2.1.toArray⟩ (qZ c) (lAt (qQ c) (o9 c) code 0) where
 hk:=zS c A
 hh:=Bl c A
 hf:=Ah c
 e1:=rfl
 e2:=rfl
 e3:=rfl
 hs:=D
 hls:=h.short
 hcut:=by
  show Lib.cut (rowAt (pk c)).2.2 [32]=((ph c).1,(ph c).2.1,true)
  rw[<-hcut];rfl
 hps:=rfl
 hn:=(tA c).symm
 hn0:=eu
 hn1:=ew
 hpl:=fun t ht=>(h.ps t ht).1
 hkd:=fun t ht=>(h.ps t ht).2.1
 hk17:=fun t ht=>(Bd c _ (h.ps t ht).2.2.2 h.num0).1
 hl0:=Z1g c h code
 hnm:=by
  have:(ph c).1.length<=(rowAt (pk c)).2.2.length:=by
   unfold ph Lib.cut
   split
   ·exact T0p _ _
   exact jU
  show (ph c).1.toArray.size<=1000
  rw[lJ]
  omega
theorem Gv(c:Int)(A:yH c=true)(h:OpsC c):EntOps c (ur c) (sN c) (o9 c) (o9 c).length where
 is:=Fo c A
 ops:=h.texts
 len:=rfl
 n0:=eu
 n1:=ew
 kinds:=fun j D=>(Bd c _ (BZ c h j D) h.num0).1
theorem Z0J(code:ByteArray)(A:Int)(h:0<code.size)(D:code.size<=maxLen)(G:pk (code[0].toNat:Int)≠111)(I:(rowAt (pk (code[0].toNat:Int))).2.2.length<1000)(hcut:(ph (code[0].toNat:Int)).2.2=true)(J:yH (code[0].toNat:Int)=true)(ho:OpsC (code[0].toNat:Int))
  (R:¬pv (o9 (code[0].toNat:Int))<=code.size):Same code A ⟨#[]⟩ 0:=by
 refine⟨fun w m M h0=>?_,fun w=>Z39 code A w h _ _ _ _ (Gv _ J ho) ae⟩;refine IX code A m w h D M h0 _ _ _ _ _ _ _ _ _ (GJ _ G I hcut ho code) ?_;exact Ds _ _ code h (fun j O=>(Bd _ _ (BZ _ ho j O) ho.num0).1) _ jU (by rw[yM];omega)
theorem Z9n(h c a:Int)(h0:0<=h)(h1:h<=65535)(c0:0<=c)(c1:c<=255)(a0:0<=a)(a1:a<=255):xM h c a<=65535:=by
 unfold xM;omega
theorem Z1A(code:ByteArray)(D:Int)(h:0<code.size)(R:code.size<=maxLen)(k:Nat)(rc rf:Int)(rt nm ls:ByteArray)(ps:List ByteArray)(ks:List Nat)(own number:Int)(M:Ent)
  (S:RowIs (code[0].toNat:Int) k ks.length rc rf rt nm ls ps (lAt own ks code 0)) (G:EntOps (code[0].toNat:Int) M number ks ks.length) (U:pv ks<=code.size) (L5:((code[0].toNat:Int)==133)=false) (U6:(rc==133)=false) (Pr:⟨M.2.2.1.toArray⟩=nm)
  (num0:0<=number) (num1:number<=255) (own0:0<=own) (V:∀j,j<ks.length->((ks.getD j 0≠7/\ks.getD j 0≠8)\/(own=number/\0<=number/\number<8))/\(ks.getD j 0=16->own=(code[0].toNat:Int)/32*32)) :
  Same code D (uU nm ks code number (code[0].toNat:Int) (rm D (pv ks)) ks.length) (pv ks:Int):=by
 have I:0<=(code[0].toNat:Int)/\(code[0].toNat:Int)<=255:=by have:=(code[0]).toNat_lt;omega
 have M5:=ym own ks code G.kinds ks.length jU (by rw[yM];exact U);have J:=DY D (pv ks)
 have LB:(code.size:Int)-((code.extract (pD ks ks.length) code.size).size:Int)=(pv ks:Int):=by
  rw[yM,kU];omega
 have Z:∀j,j<ks.length->qn ((opA own ks code ks.length j).at (rm D (pv ks)))=tC (ks.getD j 0) (code.extract (pD ks j) (pD ks j+pw (ks.getD j 0))) number (code[0].toNat:Int) (rm D (pv ks)):=by
  intro j A;have hk:=V j A
  have e:(opA own ks code ks.length j).at (rm D (pv ks))=⟨ks.getD j 0,qd (ks.getD j 0),own,tQ (ks.getD j 0) (code.extract (pD ks j) (pD ks j+pw (ks.getD j 0))),rm D (pv ks)⟩:=by
   simp only[opA,Opn.at,A,mC]
  rw[e];exact Z5X _ (G.kinds j A) _ _ _ _ _ hk.1 hk.2 I.1 I.2 J.1 J.2
 refine⟨fun w m hm h0=>?_,fun w=>?_⟩
 ·rw[<-Z1e nm own ks code number (code[0].toNat:Int) (rm D (pv ks)) G.n0 G.n1 Z];have O:rK D (pv ks:Int)=rm D (pv ks):=Gr _ _;rw[<-O];refine Gn code D m w h R hm h0 _ _ _ _ _ _ _ _ _ S _ _ bf dr bf U6 ?_ ?_
  ·intro j A;rw[O,yu _ _ _ _ j A];have hk:=V j A;have ha:=yB (ks.getD j 0) (code.extract (pD ks j) (pD ks j+pw (ks.getD j 0)));refine⟨G.kinds j A,own0,fun TM=>?_,?_,?_,?_⟩
   ·show own<100;have Vn7:ks.getD j 0=7\/ks.getD j 0=8:=TM;rcases hk.1 with h'|h'
    ·omega
    omega
   ·simp only[opA,Opn.at,A,mC];exact ha.1
   ·simp only[opA,Opn.at,A,mC];exact ha.2
   show (qd (ks.getD j 0)).size<=1000;exact yZ _
  intro j A;rw[O,yu _ _ _ _ j A,Z j A];exact j8 (zM _ (G.kinds j A) _ _ _ _) ah
 refine Z0I code D w h R M number ks _ G U L5 nm Pr S.hnm num0 ae ?_;intro j A _;have:=zD (code.extract (pD ks j) (pD ks j+pw (ks.getD j 0))) 0;exact Z9n _ _ _ J.1 J.2 I.1 I.2 this.1 this.2
theorem JZ(h:(11:Nat)=7\/(11:Nat)=8):False:=ae
theorem Z4R(code:ByteArray)(A:Int)(h:0<code.size)(I:code.size<=maxLen)(k:Nat)(rc J:Int)(M nm ls:ByteArray)(ps:List ByteArray)(own number:Int)(D:Ent)
  (O:RowIs (code[0].toNat:Int) k 2 rc J M nm ls ps (lAt own [11,11] code 0)) (U:EntOps (code[0].toNat:Int) D number [11,11] 2) (V:3<=code.size) (L5:((code[0].toNat:Int)==133)=true) (U6:(rc==133)=true) (Pr:⟨D.2.2.1.toArray⟩=nm)
  (num0:0<=number) (num1:number<=255) (own0:0<=own) :
  ∃R S,Same code A R S:=by
 have SQ:0<=(code[0].toNat:Int)/\(code[0].toNat:Int)<=255:=by have:=(code[0]).toNat_lt;omega
 have M5:=ym own [11,11] code U.kinds 2 jU (by show 3<=code.size;exact V);have hb:rK A ((3:Nat):Int)=rm A 3:=Gr _ _
 have LB:(code.size:Int)-((code.extract 3 code.size).size:Int)=((3:Nat):Int):=by
  rw[kU];omega
 have Oh:ub (lAt own [11,11] code 2)=[⟨11,qd 11,own,tQ 11 (code.extract 2 3),0⟩,⟨11,qd 11,own,tQ 11 (code.extract 1 2),0⟩]:=rfl;have hx:qn ((⟨11,qd 11,own,tQ 11 (code.extract 2 3),0⟩:Opn).at (rm A 3))=tC 11 (code.extract 2 3) number (code[0].toNat:Int) (rm A 3):=rfl;have hy:qn ((⟨11,qd 11,own,tQ 11 (code.extract 1 2),0⟩:Opn).at (rm A 3))=tC 11 (code.extract 1 2) number (code[0].toNat:Int) (rm A 3):=rfl;refine⟨(((nm++⟨#[32]⟩)++tC 11 (code.extract 2 3) number (code[0].toNat:Int) (rm A 3))++⟨#[44]⟩)++tC 11 (code.extract 1 2) number (code[0].toNat:Int) (rm A 3),3,fun w m hm h0=>?_,fun w=>?_⟩
 ·rw[<-Fk,<- hx,<- hy,<- hb];have Z:=Ja code A m w h I hm h0 k 2 rc J M nm ls ps _ O (lAt own [11,11] code 2) ((3:Nat):Int) bf dr bf U6 rfl;rw[Oh]at Z;refine Z ?_ ?_
  ·intro j G;have Rc:=yB 11 (code.extract 1 2);have Rd:=yB 11 (code.extract 2 3);match j,G with
   |0,_=>exact⟨dt,own0,fun h'=>(JZ h').elim,Rd.1,Rd.2,yZ 11⟩
   |1,_=>exact⟨dt,own0,fun h'=>(JZ h').elim,Rc.1,Rc.2,yZ 11⟩
  intro j G;match j,G with
  |0,_=>exact(by decide:(4:Nat)<=2000)
  |1,_=>exact(by decide:(4:Nat)<=2000)
 exact Z85 code A w h I D number U V L5 nm Pr O.hnm num0 ae _ rfl _ _ rfl rfl
theorem Z1L(code:ByteArray)(A:Int)(G:code.size<=maxLen):∃R S,Same code A R S:=by
 by_cases h:0<code.size
 ·have Z:=Z5a code[0];by_cases D:pk (code[0].toNat:Int)=111
  ·obtain⟨h1,h2⟩:=Z95 _ Z D;exact⟨⟨#[]⟩,0,fun w _ _ _=>I7 code A w h h1,fun w=>Z0N code A w h h2⟩
  obtain⟨M,O,I⟩:=Z0C _ Z D;cases hcut:(ph (code[0].toNat:Int)).2.2 with
  |false=>
   rw[hcut]at I;obtain⟨p1,p2,p3,p4⟩:=Z6f _ I;refine⟨⟨(ph (code[0].toNat:Int)).1.toArray⟩,1,fun w m hm h0=>?_,fun w=>?_⟩
   ·refine IH code A m w h G hm h0 _ (zS _ D) (Bl _ D) (Ah _) _ _ _ _ rfl rfl rfl O ?_ p4;show Lib.cut (rowAt (pk (code[0].toNat:Int))).2.2 [32]=((ph (code[0].toNat:Int)).1,[],false);exact oB rfl (oB p3 hcut)
   rw[<-p2];exact Z8V code A w h G _ _ (Fo _ M) p1
  |true=>
   rw[hcut]at I;have ho:=Z07 _ I;by_cases U:pv (o9 (code[0].toNat:Int))<=code.size
   ·have Ke:=GJ _ D O hcut ho code;have SP:=Gv _ M ho;have Pr:(⟨(ur (code[0].toNat:Int)).2.2.1.toArray⟩:ByteArray)=⟨(ph (code[0].toNat:Int)).1.toArray⟩:=by rw[ho.name]
    have Lc:=ho.same
    have NK:∀j,j<(o9 (code[0].toNat:Int)).length->(((o9 (code[0].toNat:Int)).getD j 0≠7/\(o9 (code[0].toNat:Int)).getD j 0≠8)\/(qQ (code[0].toNat:Int)=sN (code[0].toNat:Int)/\0<=sN (code[0].toNat:Int)/\sN (code[0].toNat:Int)<8))/\((o9 (code[0].toNat:Int)).getD j 0=16->qQ (code[0].toNat:Int)=(code[0].toNat:Int)/32*32):=
     fun j hj=>(Bd _ _ (BZ _ ho j hj) ho.num0).2
    have WL:=ho.num0;have WM:=ho.num1;have Sj:=ho.own0;have V:=ho.swap;clear ho I;generalize o9 (code[0].toNat:Int)=ks at *;generalize qQ (code[0].toNat:Int)=own at *;generalize sN (code[0].toNat:Int)=number at *;generalize ur (code[0].toNat:Int)=en at *;generalize (⟨(ph (code[0].toNat:Int)).1.toArray⟩:ByteArray)=nm at *;generalize rowAt (pk (code[0].toNat:Int))=row at *;cases J:((code[0].toNat:Int)==133) with
    |false=>exact⟨_,_,Z1A code A h G _ _ _ _ nm _ _ ks own number en Ke SP U J (by rw[Lc];exact J) Pr WL WM Sj NK⟩
    |true=>
     have QJ:=V J;subst QJ;exact Z4R code A h G _ _ _ _ nm _ _ own number en Ke SP U J (by rw[Lc];exact J) Pr WL WM Sj
   exact⟨_,_,Z0J code A h G D O hcut M ho U⟩
 have he:code.toList.isEmpty=true:=et;exact⟨⟨#[]⟩,0,fun w _ _ _=>tE (Z0a code A w he),fun w=>tE (Z50 code A w he)⟩
