import Derived.Test.YthokdbcpkmcieaaGreatDoorH28
import Derived.Test.YthokdbcpkmcieaaGreatDoorH36
set_option maxRecDepth 200000
set_option maxHeartbeats 16000000
namespace Go.Proofs.YthokdbcpkmcieaaGreatDoor
open RowKit Proofs.Tryz
def ExR(w:World)(D:Option Addr)(e:List RTerm):Prop:=∃A,∀j,j<e.length->D=some ⟨A,0,none⟩/\w.cell? ⟨A,j*5,none⟩=some (.bool (e.getD j te0).minus)/\w.cell? ⟨A,j*5+1,none⟩=some (.int .u8 ((e.getD j te0).t.kind.toNat:Int))/\w.cell? ⟨A,j*5+2,none⟩=some (.string (e.getD j te0).t.s)/\w.cell? ⟨A,j*5+3,none⟩=some (.int .i64 ((e.getD j te0).t.n:Int))/\w.cell? ⟨A,j*5+4,none⟩=some (.bool (e.getD j te0).t.great)/\A<w.heap.size
structure OpX(w:World)(oa:Option Addr)(os:List ROp):Prop where
 at_:∃ob,∀k,k<os.length->oa=some ⟨ob,0,none⟩/\w.cell? ⟨ob,k*4,none⟩=some (.string (os.getD k op0).fixed)/\w.cell? ⟨ob,k*4+1,none⟩=some (.int .i64 ((os.getD k op0).number:Int))/\w.cell? ⟨ob,k*4+2,none⟩=some (.int .u8 ((os.getD k op0).sign.toNat:Int))/\ob<w.heap.size/\∃xa xc,w.cell? ⟨ob,k*4+3,none⟩=some (.slice xa (os.getD k op0).e.length xc)/\ExR w xa (os.getD k op0).e/\(os.getD k op0).e.length<=maxLen
 le:os.length<=maxLen
theorem EZ:∀(e:List RTerm) (k:Nat),k<e.length->(qv e)[k*5]?=some (.bool (e.getD k te0).minus)/\(qv e)[k*5+1]?=some (.int .u8 ((e.getD k te0).t.kind.toNat:Int))/\(qv e)[k*5+2]?=some (.string (e.getD k te0).t.s)/\(qv e)[k*5+3]?=some (.int .i64 ((e.getD k te0).t.n:Int))/\(qv e)[k*5+4]?=some (.bool (e.getD k te0).t.great)
 |[],k,h=>aR
 |t::T,0,_=>by simp[qv,RTerm.cells,RTok.cells]
 |t::T,k+1,h=>by
  have ih:=EZ T k av
  have e:∀j,(qv (t::T))[(k+1)*5+j]?=(qv T)[k*5+j]?:=fun j=>by
   rw[show (k+1)*5+j=(k*5+j)+1+1+1+1+1 by omega]
   simp[qv,RTerm.cells,RTok.cells]
  have A:=e 0
  rw[kK,kK]at A
  rw[A,e 1,e 2,e 3,e 4]
  exact ih
theorem GM{w:World}{b:Nat}{e:TypeId}{s n:Nat}{v:Value}{xs:List Value}(h:w.ownsRow b e s v n xs):n<=maxLen:=by
 rcases h.2 with⟨_,h0⟩|⟨g,A,D,_,_,_,h1,h2,_⟩
 ·rw[h0];exact j4
 exact j8 h1 h2
theorem z8{w:World}{b:Nat}{t:TypeId}{s n m:Nat}{A:Option Addr}{D:Nat}{xs:List Value}(h:w.ownsRow b t s (.slice A n D) m xs)(J:0<m):∃g,A=some ⟨g,0,none⟩/\g<w.heap.size/\∀j u,xs[j]?=some u->w.cell? ⟨g,j,none⟩=some u:=by
 rcases h.2 with⟨_,h0⟩|⟨g,M,O,h0,_,G,_⟩
 ·omega
 cases h0;refine⟨g,rfl,(kV.1 G).1,fun j u I=>?_⟩;have:=h.cells (g:=g) rfl j u I;rw[k9,kN]at this;exact this
theorem ExR.of{w:World}{b n G:Nat}{A:Option Addr}{e:List RTerm}(h:w.ownsRow b 229 5 (.slice A n G) e.length (qv e)):ExR w A e:=by
 by_cases c:0<e.length
 ·obtain⟨g,h1,h2,h3⟩:=z8 h c;refine⟨g,fun j D=>?_⟩;obtain⟨a1,a2,a3,a4,a5⟩:=EZ e j D;exact⟨h1,h3 _ _ a1,h3 _ _ a2,h3 _ _ a3,h3 _ _ a4,h3 _ _ a5,h2⟩
 exact⟨0,fun j D=>ae⟩
theorem OpsR.opX{w:World}{b:Nat}{G:Value}{os:List ROp}(h:OpsR w b G os):∃A D,G=.slice A os.length D/\OpX w A os:=by
 obtain⟨cs,h1,h2⟩:=h.row;obtain⟨A,D,rfl⟩:=rP h1;refine⟨A,D,rfl,?_,GM h1⟩;by_cases c:0<os.length
 ·obtain⟨g,e1,e2,e3⟩:=z8 h1 c;refine⟨g,fun k hk=>?_⟩;obtain⟨a1,a2,a3,I,J,xc,a4,a5⟩:=h2 k hk;obtain⟨_,_,e⟩:=rP a5;cases e;exact⟨e1,e3 _ _ a1,e3 _ _ a2,e3 _ _ a3,e2,I,xc,e3 _ _ a4,ExR.of a5,GM a5⟩
 exact⟨0,fun k hk=>ae⟩
theorem ExR.below{w w':World}{D:Option Addr}{e:List RTerm}(h:ExR w D e)(G:Below w.heap.size w w'):ExR w' D e:=by
 obtain⟨A,h⟩:=h;refine⟨A,fun j J=>?_⟩;obtain⟨a0,a1,a2,a3,a4,a5,I⟩:=h j J;have k:∀i,w'.cell? ⟨A,i,none⟩=w.cell? ⟨A,i,none⟩:=fun i=>jW (a:=⟨A,i,none⟩) (G.block A I)
 exact⟨a0,(k _).trans a1,(k _).trans a2,(k _).trans a3,(k _).trans a4,(k _).trans a5,ke I G.size⟩
theorem OpX.below{w w':World}{G:Option Addr}{os:List ROp}(h:OpX w G os)(D:Below w.heap.size w w'):OpX w' G os:=by
 obtain⟨A,h1⟩:=h.at_;refine⟨⟨A,fun k hk=>?_⟩,h.le⟩;obtain⟨a0,a1,a2,a3,a4,I,xc,a5,J,M⟩:=h1 k hk;have c:∀i,w'.cell? ⟨A,i,none⟩=w.cell? ⟨A,i,none⟩:=fun i=>jW (a:=⟨A,i,none⟩) (D.block A a4)
 exact⟨a0,(c _).trans a1,(c _).trans a2,(c _).trans a3,ke a4 D.size,I,xc,(c _).trans a5,J.below D,M⟩
theorem xw{w w':World}{n b:Nat}{o:Obj}(h:Below n w w')(A:b<n)(e:w.heap[b]?=some o):w'.heap[b]?=some o:=(h.block b A).trans e
theorem Z8i(lb nm wh:ByteArray)(c m:Int)(en:ByteArray)(ev:Value)(ea:Option Addr)(D G:Nat)(Us:ev=.slice ea D G)(S:Option Addr)(oc:Nat)(os:List ROp)(w:World)(h:OpX w S os):Calls prog 88 #[liV lb nm wh c m en ev (.slice S os.length oc)] w fun e w'=>e=.returned (.int .i64 (xS os:Int))/\Below w.heap.size w w':=by
 subst Us;obtain⟨R,hR⟩:=Zg0 (xS os);rw[hR];obtain⟨U,Kv⟩:=Zg0 (w.alloc (liC lb nm wh c m en (.slice ea D G) (.slice S os.length oc)));have NT:Hid (Below w.heap.size w U):=cU;have MZ:Hid (U.heap[w.heap.size]?=some (liC lb nm wh c m en (.slice ea D G) (.slice S os.length oc))):=dO;have ZL:Hid (U.heap.size=w.heap.size+1):=by show U.heap.size=_;rw[<-Kv];simp
 have OW:=oP (h.below NT.o);have OO:=h.le;obtain⟨xb,NV⟩:=Zg0 w.heap.size;have YR:=oP NV;obtain⟨N,hN⟩:=Zg0 os.length;have HN:=oP hN;have HR:=oP hR;unfold maxLen at OO;rw[hN]at OO;have RY:(N:Int)<=9223372036854775807:=ae;unfold liV;unfold liC at Kv;rw[hN]at Kv⊢;clear hR h hN OO;go_enter func88,ntmps88;go_wp2_with fail;clear Kv NV;go_loopw [3,4] (fun v x wr=>∃(E k:Nat),v=.int .i64 (E:Int)/\x=.int .i64 (k:Int)/\k<=N/\(os.drop k).foldl xz E=R/\Below U.heap.size U wr) (fun _ x _=>N-(intOf x).toNat)
 case atStart=>exact⟨0,0,rfl,rfl,j4,HR.o,jV⟩
 case round=>
  obtain⟨E,k,rfl,rfl,hk,hE,hb⟩:=hrel;have HB:=oP hb;have HE:=oP hE
  have J:Hid (wr.heap[xb]?=some (liC lb nm wh c m en (.slice ea D G) (.slice S os.length oc))):=by
   rw[<-YR.o];exact xw hb (by rw[ZL.o];omega) MZ.o
  obtain⟨⟨x0,x1,x2,x3,x4,x5,x6,x7⟩,_⟩:=oY J.o;rw[HN.o]at x7;clear x0 x1 x2 x3 x4 x5 x6 hb hE;by_cases Kf:k<N
  ·have QR:(k:Int)<(N:Int):=by omega
   have WO5:IntKind.i64.wrap ((k:Int)+1)=(k:Int)+1:=ar;obtain⟨ob,Ml⟩:=(OW.o.below HB.o).at_;obtain⟨a0,a1,a2,a3,a4,xa,xc,a5,a6,a7⟩:=Ml k aA;rw[a0]at x7;have R8:=oP a6;have Wd4:=oP a0;have VA8:=oP a4;obtain⟨M,hM⟩:=Zg0 ((os.getD k op0).e.length);rw[hM]at a5 a7;unfold maxLen at a7;have Va6:(M:Int)<=9223372036854775807:=ae;have HM:=oP hM;have HK:=oP Kf
   have KF:Hid ((os.drop k).foldl xz E=(os.drop (k+1)).foldl xz ((os.getD k op0).e.foldl tO E)):=by
    show (os.drop k).foldl xz E=_;rw[lY aA,oi,jZ,jX aA];rfl
   clear a1 a2 a3 a4 a6 a7 Ml a0 hM Kf hk;go_wp2_with fail;generalize wr=wo at *;go_loopw [3,5] (fun v x wi=>∃(A j:Nat),v=.int .i64 (A:Int)/\x=.int .i64 (j:Int)/\j<=M/\((os.getD k op0).e.drop j).foldl tO A=(os.getD k op0).e.foldl tO E/\Below wo.heap.size wo wi) (fun _ x _=>M-(intOf x).toNat)
   case atStart=>exact⟨E,0,rfl,rfl,j4,rfl,jV⟩
   case round=>
    obtain⟨A,j,rfl,rfl,hj,SW,V⟩:=hrel;have O:=oP V;have NO:=oP SW;have VA9:Hid (wr.heap[xb]?=some (liC lb nm wh c m en (.slice ea D G) (.slice S os.length oc))):=xw V (oV J.o) J.o;obtain⟨⟨WO7,VB0,VB1,VB2,VB3,VB4,VB5,UI⟩,_⟩:=oY VA9.o;rw[HN.o,Wd4.o]at UI;have Vh7:=(jW (a:=⟨ob,k*4+3,none⟩) (V.block ob VA8.o)).trans a5;clear WO7 VB0 VB1 VB2 VB3 VB4 VB5 SW;by_cases Wb0:j<M
    ·have K6:(j:Int)<(M:Int):=by omega
     have Wx1:IntKind.i64.wrap ((j:Int)+1)=(j:Int)+1:=ar;obtain⟨eb,Ro⟩:=R8.o.below V;obtain⟨d0,d1,d2,d3,d4,d5,d6⟩:=Ro j fh;rw[d0]at Vh7;obtain⟨y,hy⟩:=Zg0 ((os.getD k op0).e.getD j te0);rw[hy]at d2 d3 d4 d5;have HJ:=oP Wb0
     have YN:Hid (((os.getD k op0).e.drop j).foldl tO A=((os.getD k op0).e.drop (j+1)).foldl tO (tO A y)):=by
      show ((os.getD k op0).e.drop j).foldl tO A=_;rw[lY fh,oi,<- hy,jZ (l:=(os.getD k op0).e),jX fh];rfl
     obtain⟨mi,ty⟩:=y;obtain⟨tk,I,tn,tg⟩:=ty;simp only at d2 d3 d4 d5;clear d0 d1 Ro Wb0 hj V hy;have Wl:Hid (∀(E:Nat) (w':World),Calls prog 89 #[.int .i64 (E:Int),.int .i64 3] w' fun e MB=>e=.returned (.int .i64 (oU E 3:Int))/\MB=w'):=fun E w'=>ue E 3 w'
     have VB6:Hid (∀(E:Nat) (w':World),Calls prog 89 #[.int .i64 (E:Int),.int .i64 6] w' fun e MB=>e=.returned (.int .i64 (oU E 6:Int))/\MB=w'):=fun E w'=>ue E 6 w'
     obtain⟨E3,Z⟩:=Zg0 ((if tk=119/\8<I.size then oU A 3 else A))
     have PZ:Hid (tO A ⟨mi,⟨tk,I,tn,tg⟩⟩=if tg=true then oU E3 6 else E3):=by
      show tO A _=_;unfold tO;rw[<-Z]
     have hq:(¬tk=119)\/(tk=119/\¬8<I.size)\/(tk=119/\8<I.size):=by
      by_cases e1:tk=119 <;> by_cases e2:8<I.size <;> simp[e1,e2]
     go_upto_region 9 with fail;obtain⟨tb,PH⟩:=Zg0 wr.heap.size;rw[PH];obtain⟨w8,RW⟩:=Zg0 (wr.alloc (.cells #[.int .u8 (tk.toNat:Int),.string I,.int .i64 (tn:Int),.bool tg] 170));rw[RW];have e0:w8.cell? ⟨tb,0,none⟩=some (.int .u8 (tk.toNat:Int)):=fm;have e1:w8.cell? ⟨tb,1,none⟩=some (.string I):=fm;have e3:w8.cell? ⟨tb,3,none⟩=some (.bool tg):=fm;have VB7:Hid (Below wo.heap.size wo w8):=by rw[<-RW];exact O.o.trans ((jV.alloc jU _).mono O.o.size)
     clear RW PH d2 d3 d4 d5 d6 Vh7 UI x7 a5;rcases hq with q|⟨q,q2⟩|⟨q,q2⟩
     case' inl=>
      have b1:((tk.toNat:Int)==119)=false:=by have:¬tk.toNat=119:=fun e=>q (lA.1 e);simp;omega
      rw[jS (fun e=>q e.1)]at Z
     case' inr.inl=>
      have b1:((tk.toNat:Int)==119)=true:=by rw[q];rfl
      have b2:¬(8:Int)<(I.size:Int):=ae;rw[jS (fun e=>q2 e.2)]at Z;clear q2
     case' inr.inr=>
      have b1:((tk.toNat:Int)==119)=true:=by rw[q];rfl
      have b2:(8:Int)<(I.size:Int):=ae;rw[jT ⟨q,q2⟩]at Z;clear q2
     case' inr.inr=>
      go_upto_region 10 with fail;go_wp2_with fail;refine(Wl.o _ _).mono ?_;rintro e w9 ⟨rfl,rfl⟩
     all_goals
      have V6:=oP Z;clear Z q;cases tg
     case' inl.true|inr.inl.true|inr.inr.true=>
      go_wp2_with fail;refine(VB6.o _ _).mono ?_;rintro e w9 ⟨rfl,rfl⟩
     all_goals
      go_wp2_with fail;go_roundw
      case rel=>exact⟨_,j+1,rfl,ao,HJ.o,by rw[<-NO.o,YN.o,PZ.o,<- V6.o];rfl,VB7.o⟩
      case measure=>have:=HJ.o;simp[intOf];omega
    have K6:¬(j:Int)<(M:Int):=ae
    have HF:Hid (A=(os.getD k op0).e.foldl tO E):=by
     show A=_;rw[<-NO.o,mY (by rw[HM.o];omega)];rfl
    clear Wb0 hj V;go_wp2_with fail;go_roundw
    case rel=>exact⟨A,k+1,rfl,ao,HK.o,by rw[HF.o,<- KF.o,HE.o],HB.o.trans (O.o.mono HB.o.size)⟩
    case measure=>have:=HK.o;simp[intOf];omega
  have QR:¬(k:Int)<(N:Int):=ae
  have HF:Hid (E=R):=by
   show E=R;rw[<-HE.o,mY bI];rfl
  clear Kf hk;go_wp2_with fail;go_ret;exact⟨by rw[HF.o];rfl,NT.o.trans (HB.o.mono NT.o.size)⟩
def uu(L:List (ByteArray×Int)):List Value:=L.flatMap fun p=>[.string p.1,.int .i64 p.2]
theorem E8:∀(L:List (ByteArray×Int)) (k:Nat),k<L.length->(uu L)[k*2]?=some (.string (L.getD k nm0).1)/\(uu L)[k*2+1]?=some (.int .i64 (L.getD k nm0).2)
 |[],k,h=>aR
 |t::T,0,_=>by simp[uu]
 |t::T,k+1,h=>by
  have ih:=E8 T k av
  have e:∀j,(uu (t::T))[(k+1)*2+j]?=(uu T)[k*2+j]?:=fun j=>by
   rw[show (k+1)*2+j=(k*2+j)+1+1 by omega]
   simp[uu]
  have A:=e 0
  rw[kK,kK]at A
  rw[A,e 1]
  exact ih
structure RAM(w:World)(ab base:Nat)(a:RAsm):Prop where
 row:∃na cap,w.cell? ⟨ab,0,none⟩=some (.slice na a.L.length cap)/\w.ownsRow base 233 2 (.slice na a.L.length cap) a.L.length (uu a.L)
 c1:w.cell? ⟨ab,1,none⟩=some (.int .i64 (a.pl:Int))
 cb:∀i,i<1024->w.cell? ⟨ab,2+i,none⟩=some (.int .u8 ((a.bytes.getD i 0).toNat:Int))
 cl:∀i,i<1024->w.cell? ⟨ab,1026+i,none⟩=some (.bool (a.laid.getD i false))
 cs:∀i,i<1024->w.cell? ⟨ab,2050+i,none⟩=some (.bool (a.starts.getD i false))
 fz:∀j,w.frozen? ⟨ab,j,none⟩=false
 lt:ab<base/\base<=w.heap.size
 len:a.bytes.length=1024/\a.laid.length=1024/\a.starts.length=1024
 le:a.L.length<=3000
 nb:∀p∈a.L,-2000000<=p.2/\p.2<=2000000
structure AChg(w w':World)(ab base:Nat):Prop where
 os:w'.os=w.os
 tape:w'.tape=w.tape
 output:w'.output=w.output
 size:w.heap.size<=w'.heap.size
 block:∀k,k<w.heap.size->k≠ab->(k<base\/∀cs fr,w.heap[k]?≠some (.cells cs 233 fr))->w'.heap[k]?=w.heap[k]?
theorem AChg.refl(w:World)(ab base:Nat):AChg w w ab base:=⟨rfl,rfl,rfl,jU,fun _ _ _ _=>rfl⟩
theorem AChg.trans{w A D:World}{ab base:Nat}(h:AChg w A ab base)(g:AChg A D ab base):AChg w D ab base:=⟨g.os.trans h.os,g.tape.trans h.tape,g.output.trans h.output,j8 h.size g.size,fun k hk h1 h2=>by
 have e:=h.block k hk h1 h2
 refine(g.block k (ke hk h.size) h1 ?_).trans e
 rcases h2 with q|q
 ·exact .inl q
 ·exact .inr (by rw[e];exact q)⟩
theorem AChg.below{w w':World}(ab base:Nat)(h:Below w.heap.size w w'):AChg w w' ab base:=⟨h.os,h.tape,h.output,h.size,fun k hk _ _=>h.block k hk⟩
theorem AChg.set(w:World)(ab base j:Nat)(v:Value):AChg w (w.setCell ⟨ab,j,none⟩ v) ab base:=⟨rfl,rfl,rfl,az,fun k _ h1 _=>kk w ⟨ab,j,none⟩ k v h1⟩
theorem AChg.low{w w':World}{ab base B:Nat}(h:AChg w w' ab base)(A:B<=ab)(D:ab<base)(hs:B<=w.heap.size):Below B w w':=⟨h.os,h.tape,h.output,h.size,fun k hk=>h.block k ae ae (.inl ae)⟩
theorem AChg.own{w w':World}{ab base b:Nat}{e:TypeId}{s n:Nat}{v:Value}{xs:List Value}(h:AChg w w' ab base)(ho:w.ownsRow b e s v n xs)(J:ab<b)(he:e≠233):w'.ownsRow b e s v n xs:=by
 refine⟨ho.1,?_⟩;rcases ho.2 with hn|⟨g,D,G,rfl,I,A,rest⟩
 ·exact .inl hn
 refine .inr ⟨g,D,G,rfl,I,?_,rest⟩;rw[h.block g (kV.1 A).1 ae (.inr fun cs M q=>by rw[A]at q;simp at q;exact he q.2.1)];exact A
theorem AChg.opsR{w w':World}{ab base b:Nat}{A:Value}{os:List ROp}(h:AChg w w' ab base)(ho:OpsR w b A os)(D:ab<b):OpsR w' b A os:=by
 obtain⟨cs,h1,h2⟩:=ho.row
 exact⟨cs,h.own h1 D ah,fun k hk=>by
  obtain⟨a1,a2,a3,G,I,J,a4,a5⟩:=h2 k hk;exact⟨a1,a2,a3,G,I,J,a4,h.own a5 D ah⟩⟩
theorem RAM.below{w w':World}{ab base:Nat}{a:RAsm}(h:RAM w ab base a)(A:Below w.heap.size w w'):RAM w' ab base a:=by
 have D:ab<w.heap.size:=ke h.lt.1 h.lt.2;have k:∀i,w'.cell? ⟨ab,i,none⟩=w.cell? ⟨ab,i,none⟩:=fun i=>jW (a:=⟨ab,i,none⟩) (A.block ab D)
 obtain⟨G,I,r1,r2⟩:=h.row;have J:w.grownBy w' none:=⟨A.os,A.tape,A.output,A.size,fun j M _=>A.block j M⟩;exact⟨⟨G,I,(k _).trans r1,r2.kept J (by cases (Value.slice G a.L.length I).ownBlock <;> simp)⟩,(k _).trans h.c1,fun i hi=>(k _).trans (h.cb i hi),fun i hi=>(k _).trans (h.cl i hi),fun i hi=>(k _).trans (h.cs i hi),fun j=>(ku (a:=⟨ab,j,none⟩) (A.block ab D)).trans (h.fz j),⟨h.lt.1,j8 h.lt.2 A.size⟩,h.len,h.le,h.nb⟩
theorem RAM.nm{w:World}{ab base:Nat}{a:RAsm}(h:RAM w ab base a):∃nb D A,NmR w ab nb D A a.L:=by
 obtain⟨D,A,r1,r2⟩:=h.row
 have I:a.L.length<=A:=by
  rcases r2.2 with⟨e,h0⟩|⟨g,c,M,e,_,_,h1,_⟩
  ·rw[h0];exact j4
  cases e;exact h1
 have G:a.L.length<=A/\a.L.length<=4000:=⟨I,by have:=h.le;omega⟩;by_cases c:0<a.L.length
 ·obtain⟨g,e1,_,e3⟩:=z8 r2 c;refine⟨g,D,A,r1,fun k hk=>?_,G⟩;obtain⟨n1,J⟩:=E8 a.L k hk;exact⟨e1,e3 _ _ n1,e3 _ _ J⟩
 exact⟨0,D,A,r1,fun k hk=>ae,G⟩
theorem Z5N(L:List (ByteArray×Int))(s:ByteArray)(z:Int):uu (L++[(s,z)])=uu L++[.string s,.int .i64 z]:=by simp[uu]
theorem Tryz.infoKnown:(Tryz.prog.info? 233).map (fun i=>(i.zero,i.size,i.bytes))=some (some (.agg #[.string ⟨#[]⟩,.int .i64 0]),2,24):=aj
theorem RAM.name{w S A:World}{ab base:Nat}{a:RAsm}(h:RAM w ab base a){U:Option Addr}{V:Nat}(O:w.ownsRow base 233 2 (.slice U a.L.length V) a.L.length (uu a.L))(D:Below w.heap.size w S){s:ByteArray}{z:Int}(hz:-2000000<=z/\z<=2000000){G:Option Addr}{I:Nat}(hn:A.ownsRow base 233 2 (.slice G (a.L.length+1) I) (a.L.length+1) (uu a.L++[.string s,.int .i64 z]))(J:S.grownBy A (Value.slice U a.L.length V).ownBlock)(hl:a.L.length<3000):A.heap[ab]?=w.heap[ab]?/\RAM (A.setCell ⟨ab,0,none⟩ (.slice G (a.L.length+1) I)) ab base {a with L:=a.L++[(s,z)]}/\AChg w (A.setCell ⟨ab,0,none⟩ (.slice G (a.L.length+1) I)) ab base:=by
 obtain⟨l1,l2⟩:=h.lt;have M:A.heap[ab]?=w.heap[ab]?:=(J.block ab (ke ae D.size) (fun e=>by have:=(O.lt ab e.symm).1;omega)).trans (D.block ab ae);obtain⟨VO8,VB8,r1,_⟩:=h.row;have k:∀j,j≠0->(A.setCell ⟨ab,0,none⟩ (.slice G (a.L.length+1) I)).cell? ⟨ab,j,none⟩=w.cell? ⟨ab,j,none⟩:=fun j R=>(j3 af).trans (jW (a:=⟨ab,j,none⟩) M)
 have Z:(a.L++[(s,z)]).length=a.L.length+1:=af;have KB:w.heap.size<=A.heap.size:=j8 D.size J.size;refine⟨M,⟨⟨G,I,?_,?_⟩,(k 1 ae).trans h.c1,fun i hi=>(k _ ae).trans (h.cb i hi),fun i hi=>(k _ ae).trans (h.cl i hi),fun i hi=>(k _ ae).trans (h.cs i hi),fun j=>?_,⟨l1,bO⟩,h.len,by show (a.L++[(s,z)]).length<=3000;omega,fun p hp=>?_⟩,?_⟩
 ·show _=some (Value.slice G (a.L++[(s,z)]).length I);rw[Z];exact kP _ ((jW (a:=⟨ab,0,none⟩) M).trans r1)
 ·show World.ownsRow _ _ _ _ (.slice G (a.L++[(s,z)]).length I) (a.L++[(s,z)]).length (uu (a.L++[(s,z)]));rw[Z,Z5N]
  exact hn.kept (pV A ab 0 _) (by
   cases e:(Value.slice G (a.L.length+1) I).ownBlock with
   |none=>exact .inl rfl
   | some j=>exact .inr (fun q=>by have:=(hn.lt j e).1;simp at q;omega))
 ·rw[mO];exact(ku (a:=⟨ab,j,none⟩) M).trans (h.fz j)
 ·rcases kW.1 hp with q|q
  ·exact h.nb p q
  rw[lu.1 q];exact hz
 refine AChg.trans ⟨J.os.trans D.os,J.tape.trans D.tape,J.output.trans D.output,KB,fun j R h1 h2=>?_⟩ (AChg.set A ab base 0 _);refine(J.block j (ke R D.size) (fun e=>?_)).trans (D.block j R);have MV:=(O.lt j e.symm).1;rcases h2 with q|q
 ·omega
 rcases O.2 with⟨e1,_⟩|⟨g,c,KG,e1,_,KT,_⟩
 ·rw[e1]at e;cases e
 rw[e1]at e;have:j=g:=by simpa [Value.ownBlock]using e
 subst this;exact q _ _ KT
theorem xu(w:World)(x y:Value)(t:TypeId):∀j v,[x,y][j]?=some v->(w.alloc (.cells #[x,y] t)).cell? ((⟨w.heap.size,0,none⟩:Addr).add j)=some v:=by
 intro j v A;rw[k9,kN,kM _ _ j #[x,y] t (0,0) (kg w _)];rw[<-A];simp
theorem I8(ab base:Nat)(a:RAsm)(s:ByteArray)(z:Int)(hz:-2000000<=z/\z<=2000000)(hl:a.L.length<3000)(w:World)(h:RAM w ab base a):Calls prog 90 #[.pointer (some ⟨ab,0,none⟩),.string s,.int .i64 z] w fun e w'=>e=.returned (.int .i64 (rD a.L s:Int))/\RAM w' ab base {a with L:=a.L++[(s,z)]}/\AChg w w' ab base:=by
 obtain⟨K,M⟩:=Zg0 (rD a.L s);rw[M];obtain⟨OF,hi,KJ,KC,Ky⟩:=kQ Tryz.infoKnown;obtain⟨nb,YE,O7,hnm⟩:=h.nm;have RU:=oP (Hv ab nb YE O7 a.L s w hnm);obtain⟨na,Kd,c0,Ke⟩:=h.row;have f0:=h.fz 0;have S3:base<=w.heap.size:=h.lt.2;have MU:ab<w.heap.size:=ke h.lt.1 S3;have Kk:¬w.heap.size=ab:=ae;have Py:¬ab=w.heap.size:=ae;have H:=oP h;have Ki:=oP Ke;have HZ:=oP hz;have HL:=oP hl;obtain⟨N,O⟩:=Zg0 a.L.length;rw[O]at c0 Ki;have HN:=oP O;rw[O]at hl;have D:∀(x y:Nat),Calls prog 89 #[.int .i64 (x:Int),.int .i64 (y:Int)] w fun e w'=>e=.returned (.int .i64 (oU x y:Int))/\w'=w:=fun x y=>ue x y w
 have R:Hid (Calls prog 89 #[.int .i64 0,.int .i64 3] w fun e w'=>e=.returned (.int .i64 3)/\w'=w):=D 0 3;have S:Hid (Calls prog 89 #[.int .i64 3,.int .i64 4] w fun e w'=>e=.returned (.int .i64 3)/\w'=w):=D 3 4;have U:Hid (Calls prog 89 #[.int .i64 0,.int .i64 4] w fun e w'=>e=.returned (.int .i64 4)/\w'=w):=D 0 4;have Wo2:Hid (Calls prog 89 #[.int .i64 3,.int .i64 5] w fun e w'=>e=.returned (.int .i64 3)/\w'=w):=D 3 5;have V:Hid (Calls prog 89 #[.int .i64 4,.int .i64 5] w fun e w'=>e=.returned (.int .i64 4)/\w'=w):=D 4 5;have Z:Hid (Calls prog 89 #[.int .i64 0,.int .i64 5] w fun e w'=>e=.returned (.int .i64 5)/\w'=w):=D 0 5;have U8:=oP M;clear h hnm Ke D hz M;go_enter func90,ntmps90;by_cases J:8<s.size
 ·have H8:=oP J;have b8:(8:Int)<(s.size:Int):=ae;clear J;go_wp2_with fail;refine R.o.mono ?_;rintro e w3 ⟨rfl,LF⟩;rw[LF];clear LF;go_wp2_with fail;refine RU.o.mono ?_;rintro e w5 ⟨rfl,G⟩;rw[G];clear G;cases A:(qH a.L s).isSome with
  |true=>
   have S0:=oP A;clear A;go_wp2_with fail;refine S.o.mono ?_;rintro e w4 ⟨rfl,I⟩;rw[I];clear I;by_cases Nx:N=40
   ·have R9:=oP Nx;exact Mae
   have R9:=oP Nx;have Zf:((N:Int)==40)=false:=ai;clear Nx;have HK:Hid ((3:Nat)=K):=McT;exact Mak
  |false=>
   have S0:=oP A;clear A;by_cases Nx:N=40
   ·have R9:=oP Nx;exact Mae
   have R9:=oP Nx;have Zf:((N:Int)==40)=false:=ai;clear Nx
   have HK:Hid ((3:Nat)=K):=by
    show (3:Nat)=K;rw[<-U8.o];unfold rD;rw[HN.o];simp[H8.o,S0.o,R9.o]
   exact Mak
 have H8:=oP J;have b8:¬(8:Int)<(s.size:Int):=ae;clear J;go_wp2_with fail;refine RU.o.mono ?_;rintro e w5 ⟨rfl,G⟩;rw[G];clear G;cases A:(qH a.L s).isSome with
 |true=>
  have S0:=oP A;clear A;go_wp2_with fail;refine U.o.mono ?_;rintro e w4 ⟨rfl,I⟩;rw[I];clear I;by_cases Nx:N=40
  ·have R9:=oP Nx;have Zf:((N:Int)==40)=true:=by rw[Nx];rfl
   clear Nx;go_wp2_with fail;refine V.o.mono ?_;rintro e w6 ⟨rfl,L6⟩;rw[L6];clear L6;exact Mag
  have R9:=oP Nx;have Zf:((N:Int)==40)=false:=ai;clear Nx;exact Mag
 |false=>
  have S0:=oP A;clear A;by_cases Nx:N=40
  ·have R9:=oP Nx;have Zf:((N:Int)==40)=true:=by rw[Nx];rfl
   clear Nx;go_wp2_with fail;refine Z.o.mono ?_;rintro e w6 ⟨rfl,L6⟩;rw[L6];clear L6
   have HK:Hid ((5:Nat)=K):=by
    show (5:Nat)=K;rw[<-U8.o];unfold rD;rw[HN.o];simp[H8.o,S0.o,R9.o,oU]
   exact Mak
  have R9:=oP Nx;have Zf:((N:Int)==40)=false:=ai;clear Nx
  have HK:Hid ((0:Nat)=K):=by
   show (0:Nat)=K;rw[<-U8.o];unfold rD;rw[HN.o];simp[H8.o,S0.o,R9.o]
  exact Mak
theorem CQ:(allEnts.all fun e=>decide (uJ (e.2.2.2.map kd)=e.2.2.2)&&(decide (e.2.2.2.length<=3)&&(((e.2.2.2.map kd).all fun k=>decide (k<17))&&decide (pv (e.2.2.2.map kd)=rk (e.2.2.2.map kd)))))=true:=aq
theorem JD{x:Ent}(hx:x∈allEnts){A:Value}{w:World}(h:OpsIn w A x.2.2.2):Calls prog 94 #[.agg #[.int .i64 (x.1:Int),.int .i64 (x.2.1:Int),.string ⟨x.2.2.1.toArray⟩,A]] w fun e w'=>e=.returned (.int .i64 (rk (x.2.2.2.map kd):Int))/\Below w.heap.size w w':=by
 have hk:=kx.1 CQ x hx;simp only[kB,kI,kx]at hk;obtain⟨G,M,I,J⟩:=hk;rcases h with⟨h1,h2⟩|⟨h1,b,h2,h3⟩
 ·rw[h1,h2];exact A6 _ _ _ w
 rw[<-J,h2];refine Bg _ _ _ b (x.2.2.2.map kd) x.2.2.2.length w af ae (fun j hj=>?_) (by rw[G];exact h3);have D:j<(x.2.2.2.map kd).length:=bz;rw[jZ,jX D];exact I _ (kC D)
theorem Dn(x:RLine)(I:Option Addr)(J M:Nat)(O:Option Addr)(S:Nat)(w:World)(D:x.what=wINS->x.ent∈allEnts/\OpsIn w (.slice I J M) x.ent.2.2.2)(Z:x.ops.length<=3000):Calls prog 92 #[liV x.label x.name x.what (x.ent.1:Int) (x.ent.2.1:Int) ⟨x.ent.2.2.1.toArray⟩ (.slice I J M) (.slice O x.ops.length S)] w fun e w'=>e=.returned (.int .i64 (pg x:Int))/\Below w.heap.size w w':=by
 obtain⟨R,A⟩:=Zg0 (pg x);rw[A];unfold pg wDB wDW wINS at A;unfold wINS at D;obtain⟨N,G⟩:=Zg0 x.ops.length;rw[G]at A Z⊢;have RY:(N:Int)<=3000:=ae;have HB:Hid (∀o,Below w.heap.size w (w.alloc o)):=fun o=>(jV).alloc jU _
 unfold liV;by_cases h1:x.what=⟨#[100,98]⟩
 ·rw[jT h1]at A;have HR:=oP A;rw[h1];clear A h1 D G;exact Mb1
 rw[jS h1]at A;have n1:(x.what.toList==[100,98])=false:=po h1;by_cases h2:x.what=⟨#[100,119]⟩
 ·rw[jT h2]at A;have HR:=oP A;have PR:IntKind.i64.wrap (2*(N:Int))=2*(N:Int):=ar;rw[h2];clear A h1 h2 n1 D G;exact Mb1
 rw[jS h2]at A;have n2:(x.what.toList==[100,119])=false:=po h2;by_cases h3:x.what=⟨#[105,110,115]⟩
 ·rw[jT h3]at A;obtain⟨e1,e2⟩:=D h3;have HR:=oP A;have U:=oP (JD (w:=w.alloc (liC x.label x.name ⟨#[105,110,115]⟩ (x.ent.1:Int) (x.ent.2.1:Int) ⟨x.ent.2.2.1.toArray⟩ (.slice I J M) (.slice O N S))) e1 (e2.later (HB.o _)));unfold liC at U;rw[h3];clear A h1 h2 h3 n1 n2 D G e1 e2;go_enter func92,ntmps92;go_wp2_with fail;refine U.o.mono ?_;rintro e w5 ⟨rfl,V⟩;have Lx:=oP ((HB.o _).trans (V.mono (HB.o _).size));clear V;go_wp2_with fail;go_ret;exact⟨cC,Lx.o⟩
 rw[jS h3]at A;have n3:(x.what.toList==[105,110,115])=false:=po h3;have HR:=oP A;clear A h1 h2 h3 D G;exact Mb1
theorem yz(L:List (ByteArray×Int))(p:Int):∀(es:List RTerm) (n:Int) (e:Nat),-2000000<=n/\n<=2000000->-2000000<=(rVF L p es n e).1/\(rVF L p es n e).1<=2000000
 |[],n,e,h=>h
 |x::r,n,e,h=>by
  rw[rVF]
  cases rTv L p x.t with
  |none=>
   show -2000000<=(0:Int)/\(0:Int)<=2000000
   omega
  |some v=>
   show -2000000<=(if n+rSg x.minus v>1000000\/n+rSg x.minus v < -1000000 then rVF L p r (min (max (n+rSg x.minus v) (-2000000)) 2000000) 6 else rVF L p r (n+rSg x.minus v) e).1/\(if n+rSg x.minus v>1000000\/n+rSg x.minus v < -1000000 then rVF L p r (min (max (n+rSg x.minus v) (-2000000)) 2000000) 6 else rVF L p r (n+rSg x.minus v) e).1<=2000000
   split
   ·exact yz L p r _ _ ae
   exact yz L p r _ _ ae
def LnB(x:RLine):Prop:=x.ops.length<=2001/\∀o∈x.ops,o.e.length<=2001/\∀t∈o.e,t.t.n<=10000000
theorem ExR.te{w:World}{D:Option Addr}{e:List RTerm}(h:ExR w D e)(G:e.length<=2001)(hn:∀t∈e,t.t.n<=10000000):∃A,TeR w A D e:=by
 obtain⟨A,h⟩:=h;refine⟨A,fun k hk=>?_,ae,fun k=>?_⟩
 ·obtain⟨a0,a1,a2,a3,a4,_,_⟩:=h k hk;exact⟨a0,a1,a2,a3,a4⟩
 rw[jZ];cases hk:e[k]? with
 |none=>exact j4
 |some t=>exact hn t (lT hk)
theorem zX{w:World}{ab base:Nat}{a:RAsm}(h:RAM w ab base a)(p:Nat)(O:p<=2000){A:Option Addr}{xc:Nat}{e:List RTerm}(he:ExR w A e)(G:e.length<=2001)(hn:∀t∈e,t.t.n<=10000000):Calls prog 91 #[.pointer (some ⟨ab,0,none⟩),.slice A e.length xc,.int .i64 (p:Int)] w fun r w'=>r=.returned (.tuple #[.int .i64 (rVF a.L (p:Int) e 0 0).1,.int .i64 ((rVF a.L (p:Int) e 0 0).2:Int)])/\w'=w:=by
 obtain⟨nb,I,J,hnm⟩:=h.nm;obtain⟨M,D⟩:=he.te G hn;exact Z5G ab nb I J a.L (p:Int) M A xc e w hnm D ae h.nb
theorem RAM.setPl{w:World}{ab base:Nat}{a:RAsm}(h:RAM w ab base a)(p:Nat):RAM (w.setCell ⟨ab,1,none⟩ (.int .i64 (p:Int))) ab base {a with pl:=p}:=by
 have k:∀j,j≠1->(w.setCell ⟨ab,1,none⟩ (.int .i64 (p:Int))).cell? ⟨ab,j,none⟩=w.cell? ⟨ab,j,none⟩:=fun j I=>j3 af
 obtain⟨A,D,r1,r2⟩:=h.row
 have G:=r2.kept (pV w ab 1 (.int .i64 (p:Int))) (by
  cases e:(Value.slice A a.L.length D).ownBlock with
  |none=>exact .inl rfl
  | some j=>exact .inr (fun q=>dP))
 exact⟨⟨A,D,(k 0 ae).trans r1,G⟩,kP _ h.c1,fun i hi=>(k _ ae).trans (h.cb i hi),fun i hi=>(k _ ae).trans (h.cl i hi),fun i hi=>(k _ ae).trans (h.cs i hi),fun j=>dQ,⟨h.lt.1,dR⟩,h.len,h.le,h.nb⟩
theorem RAM.setLaid{w:World}{ab base:Nat}{a:RAsm}(h:RAM w ab base a)(i:Nat)(hi:i<1024):RAM (w.setCell ⟨ab,1026+i,none⟩ (.bool true)) ab base {a with laid:=a.laid.set i true}:=by
 have k:∀j,j≠1026+i->(w.setCell ⟨ab,1026+i,none⟩ (.bool true)).cell? ⟨ab,j,none⟩=w.cell? ⟨ab,j,none⟩:=fun j A=>j3 af
 obtain⟨D,G,r1,r2⟩:=h.row
 have I:=r2.kept (pV w ab (1026+i) (.bool true)) (by
  cases e:(Value.slice D a.L.length G).ownBlock with
  |none=>exact .inl rfl
  | some j=>exact .inr (fun q=>dP))
 refine⟨⟨D,G,(k 0 ae).trans r1,I⟩,(k 1 ae).trans h.c1,fun j A=>(k _ ae).trans (h.cb j A),fun j A=>?_,fun j A=>(k _ ae).trans (h.cs j A),fun j=>dQ,⟨h.lt.1,dR⟩,⟨h.len.1,by show (a.laid.set i true).length=1024;rw[mJ];exact h.len.2.1,h.len.2.2⟩,h.le,h.nb⟩;show _=some (Value.bool ((a.laid.set i true).getD j false));rw[jZ,mz];by_cases c:i=j
 ·subst c;rw[jT rfl,jT (by rw[h.len.2.1];exact hi)];exact kP _ (h.cl i hi)
 rw[jS c,(k _ ae),h.cl j A,jZ]
theorem RAM.setStart{w:World}{ab base:Nat}{a:RAsm}(h:RAM w ab base a)(i:Nat)(hi:i<1024):RAM (w.setCell ⟨ab,2050+i,none⟩ (.bool true)) ab base {a with starts:=a.starts.set i true}:=by
 have k:∀j,j≠2050+i->(w.setCell ⟨ab,2050+i,none⟩ (.bool true)).cell? ⟨ab,j,none⟩=w.cell? ⟨ab,j,none⟩:=fun j A=>j3 af
 obtain⟨D,G,r1,r2⟩:=h.row
 have I:=r2.kept (pV w ab (2050+i) (.bool true)) (by
  cases e:(Value.slice D a.L.length G).ownBlock with
  |none=>exact .inl rfl
  | some j=>exact .inr (fun q=>dP))
 refine⟨⟨D,G,(k 0 ae).trans r1,I⟩,(k 1 ae).trans h.c1,fun j A=>(k _ ae).trans (h.cb j A),fun j A=>(k _ ae).trans (h.cl j A),fun j A=>?_,fun j=>dQ,⟨h.lt.1,dR⟩,⟨h.len.1,h.len.2.1,by show (a.starts.set i true).length=1024;rw[mJ];exact h.len.2.2⟩,h.le,h.nb⟩;show _=some (Value.bool ((a.starts.set i true).getD j false));rw[jZ,mz];by_cases c:i=j
 ·subst c;rw[jT rfl,jT (by rw[h.len.2.2];exact hi)];exact kP _ (h.cs i hi)
 rw[jS c,(k _ ae),h.cs j A,jZ]
theorem RAM.setByte{w:World}{ab base:Nat}{a:RAsm}(h:RAM w ab base a)(i:Nat)(hi:i<1024)(b:UInt8):RAM (w.setCell ⟨ab,2+i,none⟩ (.int .u8 (b.toNat:Int))) ab base {a with bytes:=a.bytes.set i b}:=by
 have k:∀j,j≠2+i->(w.setCell ⟨ab,2+i,none⟩ (.int .u8 (b.toNat:Int))).cell? ⟨ab,j,none⟩=w.cell? ⟨ab,j,none⟩:=fun j A=>j3 af
 obtain⟨D,G,r1,r2⟩:=h.row
 have I:=r2.kept (pV w ab (2+i) (.int .u8 (b.toNat:Int))) (by
  cases e:(Value.slice D a.L.length G).ownBlock with
  |none=>exact .inl rfl
  | some j=>exact .inr (fun q=>dP))
 refine⟨⟨D,G,(k 0 ae).trans r1,I⟩,(k 1 ae).trans h.c1,fun j A=>?_,fun j A=>(k _ ae).trans (h.cl j A),fun j A=>(k _ ae).trans (h.cs j A),fun j=>dQ,⟨h.lt.1,dR⟩,⟨by show (a.bytes.set i b).length=1024;rw[mJ];exact h.len.1,h.len.2⟩,h.le,h.nb⟩;show _=some (Value.int .u8 (((a.bytes.set i b).getD j 0).toNat:Int));rw[jZ,mz];by_cases c:i=j
 ·subst c;rw[jT rfl,jT (by rw[h.len.1];exact hi)];exact kP _ (h.cb i hi)
 rw[jS c,(k _ ae),h.cb j A,jZ]
theorem OpsR.opx{w:World}{b:Nat}{A:Option Addr}{n D:Nat}{os:List ROp}(h:OpsR w b (.slice A n D) os):OpX w A os:=by
 obtain⟨G,I,e,hx⟩:=h.opX;cases e;exact hx
theorem AChg.opsIn{w w':World}{ab base:Nat}{a:RAsm}{v:Value}{os:List (List UInt8)}(h:AChg w w' ab base)(hM:RAM w ab base a)(ho:OpsIn w v os):OpsIn w' v os:=by
 rcases ho with ho|⟨ho,b,A,hc⟩
 ·exact .inl ho
 refine .inr ⟨ho,b,A,?_⟩;rw[h.block b (kV.1 hc).1 (fun e=>?_) (.inr fun cs D q=>fo)]
 ·exact hc
 exact MaU
theorem Z8m:(allEnts.all fun e=>decide (rk (e.2.2.2.map kd)<=3))=true:=aq
theorem Z05{e:Ent}(h:e∈allEnts):rk (e.2.2.2.map kd)<=3:=by
 have:=kx.1 Z8m e h;simpa using this
def vo(a:RAsm)(E k:Nat):Nat:=if true∈(a.laid.drop a.pl).take k then oU E 7 else E
theorem Z6u(a:RAsm)(E:Nat):vo a E 0=E:=by
 unfold vo;rw[jS af]
theorem Jw(l:List Bool)(p:Nat):∀(n i:Nat),p+n<=i->(qm l p n).getD i false=l.getD i false
 |0,_,_=>rfl
 |n+1,i,h=>by
  unfold qm
  rw[jZ,mz,jS ae,<- jZ,Jw l p n i ae]
theorem Z6X{a:RAsm}{E q:Nat}{x:RAsm}{b:Bool}(J:a.laid.length=1024)(h1:a.pl<=q)(h2:q<1024)(G:({x with laid:=qm a.laid a.pl (q-a.pl)}:RAsm).laid.getD q false=b):vo a E (q+1-a.pl)=if b=true then oU (vo a E (q-a.pl)) 7 else vo a E (q-a.pl):=by
 have D:a.laid.getD q false=b:=by
  rw[<-G];exact(Jw a.laid a.pl (q-a.pl) q ae).symm
 have I:(a.laid.drop a.pl)[q-a.pl]?=some b:=by
  rw[mK,show a.pl+(q-a.pl)=q by omega,jX ae];rw[jZ,jX ae]at D;rw[<-D];rfl
 have A:(true∈(a.laid.drop a.pl).take (q+1-a.pl))↔(true∈(a.laid.drop a.pl).take (q-a.pl)\/b=true):=by
  rw[show q+1-a.pl=(q-a.pl)+1 by omega,lR,I,kW];simp[eq_comm]
 unfold vo;cases b with
 |true=>
  rw[jT (A.2 (.inr rfl)),jT rfl];split
  ·unfold oU;repeat' split
   all_goals omega
  rfl
 |false=>
  rw[jS (show ¬false=true by decide)];by_cases c:true∈(a.laid.drop a.pl).take (q-a.pl)
  ·rw[jT (A.2 (.inl c)),jT c]
  rw[jS (fun e=>(A.1 e).elim c ah),jS c]
def vA(w:World)(ab base:Nat)(q:Nat×RAsm)(e:Ending)(w':World):Prop:=e=.returned (.int .i64 (q.1:Int))/\AChg w w' ab base/\RAM w' ab base q.2
