import Derived.Test.YthokdbcpkmcieaaGreatDoorH19
set_option maxRecDepth 200000
set_option maxHeartbeats 16000000
namespace Go.Proofs.YthokdbcpkmcieaaGreatDoor
open RowKit Shelf WideMaps Maps Proofs.Tryz
def intCells(l:List Int):List Value:=l.map fun z=>.int .i64 z
theorem Z2X(l:List Int)(j:Nat)(h:j<l.length):(intCells l)[j]?=some (.int .i64 l[j]):=by
 unfold intCells;rw[kS,jX h];rfl
theorem G4(l:List Nat)(j:Nat)(h:j<l.length):(qp l)[j]?=some (.int .i64 ((l[j]:Nat):Int)):=by
 unfold qp;rw[kS,jX h];rfl
def uF(code:Nat)(A:List Int):List Int:=if code=133 then [A.getD 1 0,A.getD 0 0] else A
def rp(bh:Int)(ks:List Nat)(A:List Int)(s:LayD):Nat->LayD
 |0=>s
 |j+1=>pF bh (ks.getD j 0) (A.getD j 0) (rp bh ks A s j)
def bhN(at_ size:Int):Int:=IntKind.u16.wrap (IntKind.u16.wrap at_+IntKind.u16.wrap size)
def uN(d:InsD)(A:List Int)(at_:Int):LayD:=rp (bhN at_ d.size) d.kinds (uF d.code A) ⟨d.code,[],false⟩ d.kinds.length
theorem Z1l(bh:Int)(k:Nat)(n:Int)(s:LayD):(pF bh k n s).add.length<=s.add.length+2:=by
 unfold pF;repeat' split
 all_goals simp
theorem CF(bh:Int)(ks:List Nat)(A:List Int)(s:LayD):∀j,(rp bh ks A s j).add.length<=s.add.length+2*j
 |0=>jU
 |j+1=>by
  have h1:=Z1l bh (ks.getD j 0) (A.getD j 0) (rp bh ks A s j)
  have h2:=CF bh ks A s j
  unfold rp
  omega
theorem Z7U{code:Nat}{A:List Int}(h:code=133->A.length=2):(uF code A).length=A.length:=by
 unfold uF;split
 ·rename_i e
  rw[h e];rfl
 rfl
structure IBox(w:World)(sb:Nat)(cd:Int)(kd:Value)(sz:Int):Prop where
 c0:w.cell? ⟨sb,0,none⟩=some (.int .u8 cd)
 c1:w.cell? ⟨sb,1,none⟩=some kd
 c2:w.cell? ⟨sb,2,none⟩=some (.int .i64 sz)
 lt:sb<w.heap.size
theorem Z6c(w:World)(A:Int)(kd:Value)(sz:Int):∃W,w.alloc (.cells #[.int .u8 A,kd,.int .i64 sz] 128)=W/\Below w.heap.size w W/\W.heap.size=w.heap.size+1/\IBox W w.heap.size A kd sz:=by
 have hh:=kg w (.cells #[.int .u8 A,kd,.int .i64 sz] 128);refine⟨_,rfl,jV.alloc jU _,af,?_⟩;have hc:∀j u,#[.int .u8 A,kd,.int .i64 sz][j]?=some u->(w.alloc (.cells #[.int .u8 A,kd,.int .i64 sz] 128)).cell? ⟨w.heap.size,j,none⟩=some u:=fun j u hu=>dG
 exact⟨hc 0 _ rfl,hc 1 _ rfl,hc 2 _ rfl,af⟩
theorem IBox.below{w w':World}{sb:Nat}{A:Int}{kd:Value}{sz:Int}(h:IBox w sb A kd sz)(D:Below w.heap.size w w'):IBox w' sb A kd sz:=by
 have hc:∀j,w'.cell? ⟨sb,j,none⟩=w.cell? ⟨sb,j,none⟩:=fun j=>jW (a:=⟨sb,j,none⟩) (D.block _ h.lt)
 exact⟨(hc 0).trans h.c0,(hc 1).trans h.c1,(hc 2).trans h.c2,ke h.lt D.size⟩
def Z7C(w:World)(r:LayD)(e:Ending)(w':World):Prop:=∃v,e=.returned (.tuple #[v,.bool (!r.wrong)])/\w'.ownsRow w.heap.size 5 1 v (r.add.length+1) (qg (r.code::r.add))/\Below w.heap.size w w'
structure RowK(w:World)(kd:Value)(ks:List Nat):Prop where
 is:∃(a:Option Addr) (c:Nat),kd=.slice a ks.length c
 row:ks≠[]->w.ownsRow 0 111 1 kd ks.length (qp ks)
theorem RowK.below{w w':World}{kd:Value}{ks:List Nat}(h:RowK w kd ks)(A:Below w.heap.size w w'):RowK w' kd ks:=⟨h.is,fun hn=>rO (h.row hn) A⟩
structure LayIn(w wr:World)(yb base tb:Nat)(ka:Option Addr)(kn kc:Nat)(ks:List Nat)(na:Option Addr)(nn nc:Nat)(ns:List Int):Prop where
 kinds:RowK wr (.slice ka kn kc) ks
 nums:wr.ownsRow 0 3 1 (.slice na nn nc) ns.length (intCells ns)
 tab:wr.heap[tb]?=some (.cells rA 200 (0,0))
 low:(ks≠[]->∀j,(Value.slice ka kn kc).ownBlock=some j->j<yb)/\(∀j,(Value.slice na nn nc).ownBlock=some j->j<yb)/\tb<yb
 blw:Below w.heap.size w wr
theorem LayIn.grow{w wr w':World}{D base I:Nat}{J:Option Addr}{M O:Nat}{ks:List Nat}{R:Option Addr}{S U:Nat}{V:List Int}(h:LayIn w wr D base I J M O ks R S U V)(A:LGrow wr w' base D)(hy:D<base)(hw:w.heap.size<=D):LayIn w w' D base I J M O ks R S U V:=
 ⟨⟨h.kinds.is,fun hn=>zk (h.kinds.row hn) (fun j G=>A.block j (by have:=h.low.1 hn j G;omega) (by have:=h.low.1 hn j G;omega))⟩,zk h.nums (fun j G=>A.block j (by have:=h.low.2.1 j G;omega) (by have:=h.low.2.1 j G;omega)),(A.block I (by have:=h.low.2.2;omega) (by have:=h.low.2.2;omega)).trans h.tab,h.low,⟨A.os.trans h.blw.os,A.tape.trans h.blw.tape,A.output.trans h.blw.output,j8 h.blw.size A.size,fun k hk=>(A.block k ae ae).trans (h.blw.block k hk)⟩⟩
theorem Ka{w:World}{base:Nat}{e:TypeId}{size n:Nat}{v:Value}{xs:List Value}(h:w.ownsRow base e size v n xs):∀j,v.ownBlock=some j->j<w.heap.size:=fun j A=>(h.lt j A).2
theorem Z4C(w:World)(A bh:Int):LS (w.alloc (.cells #[.int .u8 A,.slice none 0 0,.int .u16 bh,.bool false] 282)) w.heap.size (w.heap.size+1) A [] bh false:=by
 have hh:=kg w (.cells #[.int .u8 A,.slice none 0 0,.int .u16 bh,.bool false] 282);have hc:∀j u,#[.int .u8 A,.slice none 0 0,.int .u16 bh,.bool false][j]?=some u->(w.alloc (.cells #[.int .u8 A,.slice none 0 0,.int .u16 bh,.bool false] 282)).cell? ⟨w.heap.size,j,none⟩=some u:=fun j u hu=>dG
 exact⟨hc 0 _ rfl,⟨none,0,0,hc 1 _ rfl,kA⟩,hc 2 _ rfl,hc 3 _ rfl,fun j=>kT _ _ _ hh,lW,af⟩
theorem Iz(l:List Int):∀u∈qg l,u.oneCell'=true:=by
 intro u A;obtain⟨x,_,rfl⟩:=lf.1 A;rfl
theorem Z6P(w:World)(base b2:Nat)(M:TypeId)(v x:Value)(n m:Nat)(xs A:List Value)(G:w.ownsRow base 5 1 v n xs)(hx:w.ownsRow b2 5 1 x m A)(h1:∀u∈A,u.oneCell'=true)(hn:n+m<=4000000)(O:base<=w.heap.size) :
  ∃D w',(Builtin.append_ #[32,32] M #[v,x]).run prog w=.ok D w'/\w'.ownsRow base 5 1 D (n+m) (xs++A)/\w.grownBy w' v.ownBlock:=by
 obtain⟨i,hi,R,S,U⟩:=kQ Tryz.infoU8;have hc:∀g,x.ownBlock=some g->∀j u,A[j]?=some u->w.cell? ((⟨g,0,none⟩:Addr).add j)=some u:=fun g I=>hx.cells I
 obtain⟨hl,⟨rfl,rfl⟩|⟨g,J,V,rfl,I,hh,h3,h4,Z,h6⟩⟩:=hx
 ·have hy:A=[]:=ny bL;subst hy;have Mz:=G;obtain⟨MU,⟨rfl,rfl⟩|⟨g,J,V,rfl,I,hh,h3,h4,Z,h6⟩⟩:=G
  ·refine⟨.slice none 0 0,w,?_,dH,⟨rfl,rfl,rfl,jU,fun _ _ _=>rfl⟩⟩;simp[Builtin.append_,run_underlying underlying32,sizeOf,typeInfo,hi,Builtin.lenOf,Builtin.firstCells]
  refine⟨.slice (some ⟨g,0,none⟩) n J,w,?_,dH,⟨rfl,rfl,rfl,jU,fun _ _ _=>rfl⟩⟩;simp[Builtin.append_,run_underlying underlying32,sizeOf,typeInfo,hi,Builtin.lenOf,Builtin.firstCells,storeCells,h3]
 obtain⟨D,w',r0,r1,r2,_⟩:=ow (P:=prog) w base 32 M 5 i _ 1 1 underlying32 hi R S U rfl ah v n xs G ⟨g,0,none⟩ m J A hl (hc g rfl) h1 ak ae O;exact⟨D,w',r0,r1,r2⟩
theorem Z69{ops:Array Oper}{o:Oper}{a:Act}{w:World}{K:Act->World->Prop}{Q:Exit->Act->World->Prop}{E:Prop}
  (hg:o.guard=none) (s x:Operand) (J:o.op=Op.call {callee:=Callee.builtin Builtin.append,args:=#[s,x],argTypes:=#[32,32]})
  (base b2:Nat) (v G:Value) (n m:Nat) (xs A:List Value) (hs:a.eval s=v) (hx:a.eval x=G) (M:w.ownsRow base 5 1 v n xs) (I:w.ownsRow b2 5 1 G m A) (h1:∀u∈A,u.oneCell'=true) (hn:n+m<=4000000) (O:base<=w.heap.size)
  (R:∀D w',w'.ownsRow base 5 1 D (n+m) (xs++A)->w.grownBy w' v.ownBlock->K (a.put o.dst D) w') :
  if Region.wanted o (yielded ops a.tmps)=true then Oper.wp prog o a w K Q else E:=by
 have hw:Region.wanted o (yielded ops a.tmps)=true:=da;rw[jT hw];obtain⟨D,w',S,r1,r2⟩:=Z6P w base b2 o.type v G n m xs A M I h1 hn O;unfold Oper.wp;simp[execOp,J,resolve,invoke,builtin,hs,hx,S,Result.andThen];exact R D w' r1 r2
theorem Z4W(w:World)(d:InsD)(ka:Option Addr)(kn kc:Nat)(na:Option Addr)(nn nc:Nat)(J:List Int)(at_:Int)(hd:uw d J.length)(hk:RowK w (.slice ka kn kc) d.kinds)(Z7:w.ownsRow 0 3 1 (.slice na nn nc) J.length (intCells J)) :
  Calls prog 176 #[.agg #[.int .u8 (d.code:Int),.slice ka kn kc,.int .i64 (d.size:Int)],.slice na nn nc,.int .i64 at_] w (Z7C w (uN d J at_)):=by
 obtain⟨R,hR⟩:=Zg0 (uN d J at_);rw[hR];have Ln:=oP hR;clear hR;obtain⟨W,hW,K1,NY,M⟩:=Z6c w (d.code:Int) (.slice ka kn kc) (d.size:Int);have b0:=M.c0;have b1:=M.c1;have b2:=M.c2;have HB:=oP (And.intro K1 M);have HK:=oP (And.intro hk Z7);have HD:=oP hd;clear K1 M hk Z7 hd;go_enter func176,ntmps176;go_upto_if 14 with fail;go_cut [1] (fun s wx=>∃(YE:Option Addr) (I O:Nat),s=.slice YE I O/\wx.ownsRow 0 3 1 (.slice YE I O) (uF d.code J).length (intCells (uF d.code J))/\Below W.heap.size W wx)
 case first=>
  by_cases hc:d.code=133
  ·have SQ:((d.code:Int)==133)=true:=by simp[hc]
   have h2:=HD.o.swap hc
   obtain⟨z0,z1,rfl⟩:∃z0 z1,J=[z0,z1]:=by
    match J,h2 with
    |[a,b],_=>exact⟨a,b,rfl⟩
   have Ke:=HK.o.2;have RR:nn=2:=tI Ke rfl;obtain⟨g,V,c0⟩:=uM Ke af (show (intCells [z0,z1])[0]?=some (.int .i64 z0) from rfl);obtain⟨g',NR,c1⟩:=uM Ke af (show (intCells [z0,z1])[1]?=some (.int .i64 z1) from rfl);subst RR V;cases NR;have Mw:=lD _ c0;have hl0:g<w.heap.size:=Mw;have VM8:=(jW (a:=⟨g,0,none⟩) (HB.o.1.block _ Mw)).trans c0;have Wj1:=(jW (a:=⟨g,1,none⟩) (HB.o.1.block _ Mw)).trans c1;have Vr7:=oP hc;have hR:=oI (base:=0) (e:=3) (size:=1) W #[.int .i64 z1,.int .i64 z0] 2 af ah rfl;rw[NY]at hR;have HR:=oP hR;clear hR;clear Ke c0 c1 hc h2 Mw;go_wp2_with fail;go_region
   all_goals
    go_wp2_with fail;go_meet;refine⟨_,_,_,rfl,?_,?_⟩
    ·unfold uF;rw[jT Vr7.o];exact HR.o
    exact(jV.alloc jU _).drew
  have SQ:((d.code:Int)==133)=false:=by
   simp;omega
  have hs:uF d.code J=J:=by unfold uF;rw[jS hc]
  have HS:=oP hs;clear hs;go_wp2_with fail;go_meet;exact⟨_,_,_,rfl,by rw[HS.o];exact rO HK.o.2 HB.o.1,jV⟩
 case rest=>
 obtain⟨YE,I,O,rfl,YF,WH0⟩:=hcut;obtain⟨G,Z⟩:=Zg0 (uF d.code J);have Wj2:G.length=d.kinds.length:=by rw[<-Z,Z7U HD.o.swap,HD.o.len]
 rw[Z]at YF;have Vr8:=oP Z;have Yz:=oP Wj2;have On:=HB.o.2.below WH0;have Wj3:Below w.heap.size w wc:=HB.o.1.trans (WH0.mono HB.o.1.size);have S:=oP (And.intro YF Wj3);obtain⟨D,Z8⟩:=Zg0 (bhN at_ (d.size:Int));have O4:Hid (IntKind.u16.wrap (IntKind.u16.wrap at_+IntKind.u16.wrap (d.size:Int))=D):=Z8;have WH1:=oP Z8;have Vb2:=oP On;clear YF Z Wj2 WH0 Wj3 On Z8 b0 b1 b2 HB;go_wp2_with fail;refine(zt wc).mono ?_;rintro e A ⟨rfl,Kh⟩;have Wj5:=Vb2.o.below Kh;obtain⟨W2,P7⟩:=Zg0 (A.alloc (.cells rA 200));have Km:Below A.heap.size A W2:=by rw[<-P7];exact(jV).alloc jU _
 have Ky:W2.heap.size=A.heap.size+1:=by rw[<-P7];simp
 have ME:W2.heap[A.heap.size]?=some (.cells rA 200 (0,0)):=by rw[<-P7];exact kg A _
 have Uf:=Wj5.below Km;have d0:=Uf.c0;have d1:=Uf.c1;have d2:=Uf.c2;have Lo:=oP (And.intro (S.o.2.trans (Kh.mono S.o.2.size)) (And.intro Km ME));obtain⟨W3,Z9⟩:=Zg0 (W2.alloc (.cells #[.int .u8 (d.code:Int),.slice none 0 0,.int .u16 (IntKind.u16.wrap (IntKind.u16.wrap at_+IntKind.u16.wrap (d.size:Int))),.bool false] 282));have Kq:Below W2.heap.size W2 W3:=by rw[<-Z9];exact(jV).alloc jU _
 have TX:W3.heap.size=A.heap.size+2:=by rw[<-Z9];simp[Ky]
 have e1:=(Uf.below Kq).c1
 have Ug:Hid (LS W3 (A.heap.size+1) (A.heap.size+2) (d.code:Int) [] D false):=by
  have:=Z4C W2 (d.code:Int) D;rw[Ky]at this;rw[<-Z9,O4.o];exact this
 have S5:Below w.heap.size w W3:=Lo.o.1.trans ((Km.trans (Kq.mono Km.size)).mono Lo.o.1.size);have hn1:=rO S.o.1 Kh;have O9:=fun hn=>Ka (HK.o.1.row hn)
 have Mh:=Ka hn1;have NH:=Lo.o.1.size;have Rb:Hid (LayIn w W3 (A.heap.size+1) (A.heap.size+2) A.heap.size ka kn kc d.kinds YE I O G):=⟨HK.o.1.below S5,rO (rO hn1 Km) Kq,(Kq.block _ ae).trans Lo.o.2.2,⟨fun hn j hj=>by have:=O9 hn j hj;omega,fun j hj=>by have:=Mh j hj;omega,lW⟩,S5⟩
 have LD:kn=d.kinds.length:=by
  obtain⟨a9,c9,e9⟩:=HK.o.1.is;cases e9;rfl
 have WH2:I=d.kinds.length:=(tI S.o.1 rfl).trans Yz.o;have Pw:kn<=3:=by rw[LD,HD.o.len];exact HD.o.le
 have Vr9:(kn:Int)<=3:=ae;have WH3:I=kn:=ae;subst WH3;have RU:=oP LD;have WH4:=oP NH;clear Wj5 Uf Km Kq ME Vb2 S5 hn1 O9 Mh LD WH2 NH Kh S HK;have Wa0:=oP Z9;clear Z9;go_upto_region 5 with(refine nM rfl 200 (.tmp 8) (.tmp 22) rfl A.heap.size rA rfl rfl 200 _ (mr A _) xD rfl yN ?_;rw[nN]);rw[Wa0.o];go_wp2_with fail;go_loopw [35] (fun i wr=>∃j:Nat,j<=I/\i=.int .i64 j/\LS wr (A.heap.size+1) (A.heap.size+2) (rp D d.kinds G ⟨d.code,[],false⟩ j).code (rp D d.kinds G ⟨d.code,[],false⟩ j).add D (rp D d.kinds G ⟨d.code,[],false⟩ j).wrong/\LayIn w wr (A.heap.size+1) (A.heap.size+2) A.heap.size ka I kc d.kinds YE I O G) (fun i _=>I-(intOf i).toNat)
 case atStart=>exact⟨0,j4,rfl,Ug.o,Rb.o⟩
 case round=>
  clear Ug Rb d0 d1 d2 e1 P7 Wa0 hW;obtain⟨j,hj,rfl,hls,Tw⟩:=hrel;by_cases Kf:j<I
  ·have K6:(j:Int)<(I:Int):=by omega
   have Vf:j<d.kinds.length:=by rw[<-RU.o];exact Kf
   have TR:j<G.length:=by rw[Yz.o];exact Vf
   obtain⟨g,V,ck⟩:=uM (Tw.kinds.row (fun e=>by rw[e]at Vf;cases Vf)) ae (G4 d.kinds j Vf);obtain⟨g',NR,cn⟩:=uM Tw.nums ae (Z2X G j TR);subst V NR;obtain⟨k,hk⟩:=Zg0 (d.kinds[j]);obtain⟨z,hz⟩:=Zg0 (G[j]);rw[hk]at ck;rw[hz]at cn;have hk17:k<17:=HD.o.kinds k (by rw[<-hk];exact kC Vf);have QR:(k:Int)<17:=ae
   have ct:wr.cell? ⟨A.heap.size,k*3,none⟩=some (fv (xe k)):=by
    rw[jY (0,0) Tw.tab,nj];exact Z5B k hk17
   have Kl:=CF D d.kinds G ⟨d.code,[],false⟩ j;have HC:=oP (Z3s wr.drew (A.heap.size+1) (A.heap.size+2) k D z (rp D d.kinds G ⟨d.code,[],false⟩ j) ⟨hls.c0,hls.c1,hls.c2,hls.c3,hls.fz,hls.lt,hls.le⟩ (by simp at Kl;omega))
   have HJ:=oP (show rp D d.kinds G ⟨d.code,[],false⟩ (j+1)=pF D k z (rp D d.kinds G ⟨d.code,[],false⟩ j) by
    show pF D (d.kinds.getD j 0) (G.getD j 0) _=_;rw[jZ,jZ,jX Vf,jX TR,hk,hz];rfl)
   have Lm:=Z5Q k;have Rb:=oP Tw;clear hls Tw Kl hk hz Vf TR hk17;go_wp2_with fail;go_region_law (first| (refine zi (xe k) #[.pointer (some ⟨A.heap.size+1,0,none⟩),.int .i64 z] rfl (by simp[execOp,resolve,invoke,go_sem,Lm]) _ (fun v w'=>v=.tuple #[]/\LS w' (A.heap.size+1) (A.heap.size+2) (pF D k z (rp D d.kinds G ⟨d.code,[],false⟩ j)).code (pF D k z (rp D d.kinds G ⟨d.code,[],false⟩ j)).add D (pF D k z (rp D d.kinds G ⟨d.code,[],false⟩ j)).wrong/\LGrow wr w' (A.heap.size+2) (A.heap.size+1)) HC.o (fun e w' hh=>⟨_,hh.1,rfl,hh.2.1,⟨hh.2.2.os,hh.2.2.tape,hh.2.2.output,hh.2.2.size,hh.2.2.block⟩⟩) ?_;rintro v w5 ⟨rfl,WH5,RG⟩))
   all_goals
    go_wp2_with fail;go_roundw
    case rel=>exact⟨j+1,ae,ao,by rw[HJ.o];exact WH5,Rb.o.grow RG lW (Nat.le_succ_of_le WH4.o)⟩
    case measure=>simp[intOf];omega
  have K6:¬(j:Int)<(I:Int):=ae;have K2:j=d.kinds.length:=by rw[<-RU.o];omega
  obtain⟨L,hL⟩:=Zg0 (rp D d.kinds G ⟨d.code,[],false⟩ j)
  have eR:R=L:=by
   rw[<-Ln.o,<- hL,K2];unfold uN;rw[WH1.o,Vr8.o]
  have Kl:=CF D d.kinds G ⟨d.code,[],false⟩ j;rw[hL]at hls Kl;subst eR;have Vb3:R.add.length<=1000:=by simp at Kl;omega
  obtain⟨ya,yn,yc,c1,Ke⟩:=hls.c1;have c0:=hls.c0;have c3:=hls.c3;have TS:A.heap.size+1<wr.heap.size:=ke hls.lt hls.le;have KR:=hls.le;have Rb:=oP Tw;have M8:=Tw.blw.size;have HO:=oP (oI (base:=w.heap.size) (e:=5) (size:=1) wr #[.int .u8 R.code] 1 M8 ah rfl);have Ki:=oP (Ke.alloc (.cells #[.int .u8 R.code] 5));have Vs0:=oP Vb3;have Uh:=Tw.blw
  have YG:Hid (∀w5:World,(wr.alloc (.cells #[.int .u8 R.code] 5)).grownBy w5 (some wr.heap.size)->w5.cell? ⟨A.heap.size+1,3,none⟩=some (.bool R.wrong)/\Below w.heap.size w w5):=fun w5 V=>by
   have Ko:∀k,k<wr.heap.size->w5.heap[k]?=wr.heap[k]?:=fun k hk=>(V.block k ai (fun e=>by have h9:=kp e;omega)).trans (kt hk)
   have hz:=V.size;simp at hz;exact⟨(jW (a:=⟨A.heap.size+1,3,none⟩) (Ko _ TS)).trans c3,⟨V.os.trans Uh.os,V.tape.trans Uh.tape,V.output.trans Uh.output,ae,fun k hk=>(Ko k ae).trans (Uh.block k hk)⟩⟩
  have NZ:=oP M8;clear hls Tw Ke hL K2 Kl Kf hj Vb3 Uh;go_wp2_with fail;go_region_law (first| (refine Z69 rfl (.tmp 52) (.tmp 54) rfl w.heap.size (A.heap.size+2) _ _ 1 R.add.length [.int .u8 R.code] (qg R.add) rfl rfl HO.o Ki.o (Iz _) (by have:=Vs0.o;omega) (by have:=NZ.o;simp;omega) ?_;intro v' w5 Kc U;obtain⟨a',n',c',rfl⟩:=rW Kc;have VM9:=(YG.o w5 ⟨U.os,U.tape,U.output,U.size,U.block⟩).1;have Yl:=oP (And.intro Kc (YG.o w5 ⟨U.os,U.tape,U.output,U.size,U.block⟩).2);clear Kc U))
  all_goals
   go_wp2_with fail;go_ret2;refine⟨_,rfl,?_,Yl.o.2⟩;have h9:=Yl.o.1;rw[nF]at h9;exact h9
def Z4V(z:Int)(l:List Bool):Prop:=(0<=z↔true∈l)/\-1<=z
theorem Z23(b off O:Nat)(l:List Bool)(w:World)(hc:∀i (hi:i<l.length),w.cell? ⟨b,off+i,none⟩=some (.bool l[i]))(V:l.length<=2000) :
  Calls prog 255 #[.slice (some ⟨b,off,none⟩) l.length O,.bool true] w fun e w'=>∃z:Int,e=.returned (.int .i64 z)/\Z4V z l/\w'=w:=by
 have R:=oP hc;clear hc;have Z:(l.length:Int)<=2000:=ae;go_enter func255,ntmps255;go_wp2_with fail;go_loopw [8] (fun i wr=>∃j:Nat,j<=l.length/\i=.int .i64 j/\true ∉ l.take j/\wr=w) (fun i _=>l.length-(intOf i).toNat)
 case atStart=>exact⟨0,j4,rfl,af,rfl⟩
 case round=>
  obtain⟨j,hj,rfl,A,rfl⟩:=hrel;by_cases G:j<l.length
  ·have S:(j:Int)<(l.length:Int):=by omega
   have U:=R.o j G;obtain⟨x,hx⟩:=Zg0 (l[j]);rw[hx]at U;cases x
   ·have I:true ∉ l.take (j+1):=by
     rw[lR,jX G,hx];simpa using A
    have D:=oP I;clear I A hx;go_wp2;go_roundw
    case rel=>exact⟨j+1,ae,ao,D.o,by first| rfl|trivial⟩
    case measure=>simp[intOf];omega
   have J:true∈l:=by rw[<-hx];exact kC G
   have D:=oP J;clear J A hx;go_wp2;go_ret;exact⟨(j:Int),rfl,⟨⟨fun _=>D.o,fun _=>ae⟩,ae⟩,rfl⟩
  have S:¬(j:Int)<(l.length:Int):=ae;have M:true ∉ l:=by rw[show l.take j=l from lL ae]at A;exact A
  have D:=oP M;clear M A;go_wp2;go_ret;exact⟨-1,rfl,⟨⟨fun e=>absurd e ae,fun e=>absurd e D.o⟩,ae⟩,rfl⟩
theorem Z0G(b off A:Nat)(l:List Bool)(w:World)(hc:∀i (hi:i<l.length),w.cell? ⟨b,off+i,none⟩=some (.bool l[i]))(D:l.length<=2000) :
  Calls prog 219 #[.slice (some ⟨b,off,none⟩) l.length A,.bool true] w fun e w'=>e=.returned (.bool (decide (true∈l)))/\w'=w:=by
 have G:=oP (Z23 b off A l w hc D);clear hc;go_enter func219,ntmps219;go_wp2_with fail;refine G.o.mono ?_;rintro e J ⟨z,rfl,hz,rfl⟩;have I:=oP (show decide (0<=z)=decide (true∈l) from oe.2 hz.1);have M:=hz.2;clear hz;go_wp2;go_ret;exact⟨by rw[<-I.o];rfl,rfl⟩
structure BRow(w:World)(b:Nat)(l:List Bool):Prop where
 at_:w.heap[b]?=some (.cells (l.map Value.bool).toArray 4 (0,0))
 len:l.length=1024
theorem BRow.cell{w:World}{b:Nat}{l:List Bool}(h:BRow w b l)(i:Nat)(hi:i<l.length):w.cell? ⟨b,i,none⟩=some (.bool l[i]):=by
 rw[jY (0,0) h.at_];simp[hi]
theorem BRow.fz{w:World}{b:Nat}{l:List Bool}(h:BRow w b l)(i:Nat):w.frozen? ⟨b,i,none⟩=false:=kT _ _ _ h.at_
theorem BRow.lt{w:World}{b:Nat}{l:List Bool}(h:BRow w b l):b<w.heap.size:=(kV.1 h.at_).1
theorem BRow.kept{w w':World}{b:Nat}{l:List Bool}(h:BRow w b l)(e:w'.heap[b]?=w.heap[b]?):BRow w' b l:=⟨e.trans h.at_,h.len⟩
theorem BRow.put{w:World}{b:Nat}{l:List Bool}(h:BRow w b l)(i:Nat)(x:Bool):BRow (w.setCell ⟨b,i,none⟩ (.bool x)) b (l.set i x):=by
 refine⟨?_,by rw[mJ];exact h.len⟩;rw[lq w b i _ _ (.bool x) h.at_];simp[List.map_set]
def qm(l:List Bool)(p:Nat):Nat->List Bool
 |0=>l
 |j+1=>(qm l p j).set (p+j) true
def tq(pl size:Nat)(laid:List Bool):Option Int:=if 1024<pl+size then some 6 else if true∈(laid.drop pl).take size then some 7 else none
structure Chg3(w w':World)(a b c:Nat):Prop where
 os:w'.os=w.os
 tape:w'.tape=w.tape
 output:w'.output=w.output
 size:w.heap.size<=w'.heap.size
 block:∀k,k<w.heap.size->k≠a->k≠b->k≠c->w'.heap[k]?=w.heap[k]?
theorem Chg3.of_below{w w':World}(a b c:Nat)(h:Below w.heap.size w w'):Chg3 w w' a b c:=⟨h.os,h.tape,h.output,h.size,fun k hk _ _ _=>h.block k hk⟩
theorem Chg3.set{w w':World}{a b c:Nat}(h:Chg3 w w' a b c)(k:Nat)(hk:k=a\/k=b\/k=c)(i:Nat)(v:Value):Chg3 w (w'.setCell ⟨k,i,none⟩ v) a b c:=
 ⟨h.os,h.tape,h.output,bj,fun j A h1 h2 h3=>(kk w' ⟨k,i,none⟩ j v (by show j≠k;omega)).trans (h.block j A h1 h2 h3)⟩
theorem AS.place{w:World}{ab:Nat}{A D G:Value}{nb n:Nat}{nm:List UInt8->Option Int}{pl:Int}(h:AS w ab A D G nb n nm pl)(z:Int):AS (w.setCell ⟨ab,4,none⟩ (.int .i64 z)) ab A D G nb n nm z:=
 ⟨(j3 af).trans h.c0,(j3 af).trans h.c1,(j3 af).trans h.c2,(j3 af).trans h.c3,kP _ h.c4,fun j=>eQ,MapAt.at1B h.nms (kk w ⟨ab,4,none⟩ nb _ h.ne),h.ne⟩
theorem Chg3.drewN{w w':World}{a b c:Nat}(h:Chg3 w w' a b c)(m:Nat):Chg3 w (w'.drewN m) a b c:=⟨h.os,h.tape,h.output,h.size,h.block⟩
structure LayMid(w wr:World)(ab lk sk nb n:Nat)(i0 i1 i2:Value)(nm:List UInt8->Option Int)(pl:Nat)(laid starts:List Bool)(tk:Nat)(j:Nat):Prop where
 st:AS wr ab i0 i1 i2 nb n nm (pl:Int)
 laid:BRow wr lk (qm laid pl j)
 starts:BRow wr sk starts
 chg:Chg3 w wr ab lk sk
 task:wr.cell? ⟨w.heap.size,3,none⟩=some (.int .i64 (tk:Int))
 lt:w.heap.size<wr.heap.size
theorem LayMid.step{w wr:World}{ab lk sk nb n:Nat}{A D G:Value}{nm:List UInt8->Option Int}{pl:Nat}{laid starts:List Bool}{tk j:Nat}(h:LayMid w wr ab lk sk nb n A D G nm pl laid starts tk j)(hd:ab≠lk/\ab≠sk/\lk≠sk/\nb≠lk/\nb≠sk)(I:lk<w.heap.size):LayMid w (wr.setCell ⟨lk,pl+j,none⟩ (.bool true)) ab lk sk nb n A D G nm pl laid starts tk (j+1):=
 ⟨h.st.kept (lX hd.1) (lX hd.2.2.2.1),h.laid.put _ true,h.starts.kept (lX (fun e=>hd.2.2.1 e.symm)),h.chg.set lk (.inr (.inl rfl)) _ _,(j3 aY).trans h.task,cJ⟩
def GO(w:World)(ab lk sk nb n:Nat)(A D G:Value)(nm:List UInt8->Option Int)(pl size:Nat)(laid starts:List Bool)(tk:Nat)(I:Int)(e:Ending)(w':World):Prop:=
 e=okO (tq pl size laid) I/\Chg3 w w' ab lk sk/\(tq pl size laid=none->AS w' ab A D G nb n nm ((pl+size:Nat):Int)/\BRow w' lk (qm laid pl size)/\BRow w' sk (if tk=6 then starts.set pl true else starts))
theorem Z9F(w:World)(ab lk sk c1 c2:Nat)(i0:Value)(nb n:Nat)(nm:List UInt8->Option Int)(pl:Nat)(laid starts:List Bool)(Z p0:Int)(lb:ByteArray)(tk:Nat)(K3:ByteArray)(va:Option Addr)(O vc:Nat)(cd:Int)(ka:Option Addr)(kn kc sz:Nat)(h:AS w ab i0 (.slice (some ⟨lk,0,none⟩) 1024 c1) (.slice (some ⟨sk,0,none⟩) 1024 c2) nb n nm (pl:Int))(hL:BRow w lk laid)(hS:BRow w sk starts)(hd:ab≠lk/\ab≠sk/\lk≠sk/\nb≠lk/\nb≠sk)(QL:1024<=c1/\c1<=maxLen)(hv:O<=1000000)(hp:pl<=1024)(hz:sz<=100)(h6:tk=6->1<=sz) :
  Calls prog 172 #[.pointer (some ⟨ab,0,none⟩),.agg #[.int .i64 Z,.int .i64 p0,.string lb,.int .i64 (tk:Int),.string K3,.slice va O vc,.int .u8 cd,.slice ka kn kc,.int .i64 (sz:Int)]] w (GO w ab lk sk nb n i0 (.slice (some ⟨lk,0,none⟩) 1024 c1) (.slice (some ⟨sk,0,none⟩) 1024 c2) nm pl (pE tk O sz) laid starts tk Z):=by
 obtain⟨W,hW,K1,NY,M⟩:=tv w Z p0 lb (tk:Int) K3 (.slice va O vc) cd (.slice ka kn kc) (sz:Int);have hA:=h.below K1;obtain⟨A,Vq⟩:=Zg0 (pE tk O sz);have HZ:Hid (Calls prog 107 #[.agg #[.int .i64 Z,.int .i64 p0,.string lb,.int .i64 (tk:Int),.string K3,.slice va O vc,.int .u8 cd,.slice ka kn kc,.int .i64 (sz:Int)]] W.drew fun e w'=>e=.returned (.int .i64 (A:Int))/\Below W.heap.size W w'):=(Ea W.drew Z p0 lb tk K3 va O vc cd ka kn kc sz hv).mono fun e w' ⟨h1,h2⟩=>⟨by rw[h1,Vq],⟨h2.os,h2.tape,h2.output,h2.size,h2.block⟩⟩
 have Vs1:A<=2000000:=by
  rw[<-Vq];unfold pE;split
  ·omega
  split
  ·omega
  split <;> omega
 have YH:tk=6->1<=A:=fun e=>by
  rw[<-Vq,e];exact h6 e
 rw[Vq]
 have PV:Hid (∀w',Below W.heap.size W w'->(w'.cell? ⟨ab,4,none⟩=some (.int .i64 (pl:Int))/\w'.cell? ⟨w.heap.size,0,none⟩=some (.int .i64 Z)/\w'.cell? ⟨w.heap.size,1,none⟩=some (.int .i64 p0)/\w'.cell? ⟨w.heap.size,2,none⟩=some (.string lb)/\w'.cell? ⟨w.heap.size,3,none⟩=some (.int .i64 (tk:Int))/\w'.cell? ⟨w.heap.size,4,none⟩=some (.string K3)/\w'.cell? ⟨w.heap.size,5,none⟩=some (.slice va O vc)/\w'.cell? ⟨w.heap.size,6,none⟩=some (.int .u8 cd)/\w'.cell? ⟨w.heap.size,7,none⟩=some (.slice ka kn kc)/\w'.cell? ⟨w.heap.size,8,none⟩=some (.int .i64 (sz:Int)))):=fun w' hb=>by
  have e:=hb.block w.heap.size ae;have S:∀j,w'.cell? ⟨w.heap.size,j,none⟩=W.cell? ⟨w.heap.size,j,none⟩:=fun j=>jW (a:=⟨w.heap.size,j,none⟩) e
  exact⟨(hA.below hb).c4,(S 0).trans M.c0,(S 1).trans M.c1,(S 2).trans M.c2,(S 3).trans M.c3,(S 4).trans M.c4,(S 5).trans M.c5,(S 6).trans M.c6,(S 7).trans M.c7,(S 8).trans M.c8⟩
 have RT:Below W.heap.size W W.drew:=(jV).drew;have Yx:(pl:Int)<=1024:=ae;have WH6:(A:Int)<=2000000:=ae;have WH7:=oP hL.lt;have HB:=oP K1;have HH:=oP (And.intro h (And.intro hL hS));clear K1 M hA Vq h hL hS;go_enter func172,ntmps172;go_wp2_with fail
 go_region_held3 (fun w'=>w'.cell? ⟨ab,4,none⟩=some (.int .i64 (pl:Int))/\w'.cell? ⟨w.heap.size,0,none⟩=some (.int .i64 Z)/\w'.cell? ⟨w.heap.size,1,none⟩=some (.int .i64 p0)/\w'.cell? ⟨w.heap.size,2,none⟩=some (.string lb)/\w'.cell? ⟨w.heap.size,3,none⟩=some (.int .i64 (tk:Int))/\w'.cell? ⟨w.heap.size,4,none⟩=some (.string K3)/\w'.cell? ⟨w.heap.size,5,none⟩=some (.slice va O vc)/\w'.cell? ⟨w.heap.size,6,none⟩=some (.int .u8 cd)/\w'.cell? ⟨w.heap.size,7,none⟩=some (.slice ka kn kc)/\w'.cell? ⟨w.heap.size,8,none⟩=some (.int .i64 (sz:Int))) (first| exact PV.o _ RT|exact PV.o _ Kn)
  (first| (go_at_call 107;refine HZ.o.mono ?_;rintro e w1 ⟨rfl,Kn⟩))
 all_goals
  have Ui:=HB.o.trans (Kn.mono HB.o.size);obtain⟨_,s0,_,_,s3,_,_,_,_,_⟩:=PV.o w1 Kn;have YI:=HH.o.1.below Ui;have S7:=HH.o.2.1.kept (Ui.block _ HH.o.2.1.lt);have QT:=HH.o.2.2.kept (Ui.block _ HH.o.2.2.lt);have a1:=YI.c1;have a2:=YI.c2;have a4:=YI.c4;have OC:w.heap.size<w1.heap.size:=by have:=Kn.size;omega
  have U:=oP (And.intro YI (And.intro S7 (And.intro QT Ui)));obtain⟨D,Z8⟩:∃D:Nat,pl+A=D:=⟨_,rfl⟩;have Vs2:(pl:Int)+(A:Int)=(D:Int):=ae;have Vs3:(pl:Int)<=(D:Int):=ae;have VN0:IntKind.i64.wrap (D:Int)=(D:Int):=ar;have J:=oP Z8;clear YI S7 QT Ui Kn RT PV HZ HH Z8;by_cases Mk:1024<D
  ·have Tx:(1024:Int)<(D:Int):=by omega
   go_wp2;refine⟨rfl,?_,Chg3.of_below _ _ _ U.o.2.2.2,fun e=>?_⟩
   ·unfold tq;rw[J.o,jT Mk];rfl
   unfold tq at e;rw[J.o,jT Mk]at e;cases e
  have Tx:¬(1024:Int)<(D:Int):=ae;have WH8:(D:Int)<=1024:=ae;have Vs4:(1024:Int)<=(c1:Int):=ae;have Vs5:(c1:Int)<=9223372036854775807:=by have:=QL.2;unfold maxLen at this;omega
  have Vs6:(D:Int)<=(c1:Int):=ae;have Vs7:D-pl=A:=by have:=J.o;omega
  obtain⟨o,ho,NF⟩:∃o:Nat,(if c1=pl then (some ⟨lk,0,none⟩:Option Addr) else some ⟨lk,pl,none⟩)=some ⟨lk,o,none⟩/\(A≠0->o=pl):=by
   by_cases he:c1=pl
   ·exact⟨0,jT he,fun hz=>by have:=J.o;omega⟩
   exact⟨pl,jS he,fun _=>rfl⟩
  obtain⟨R,hR⟩:=Zg0 ((laid.drop pl).take A)
  have Vb4:R.length=A:=by
   rw[<-hR,nD,mD,U.o.2.1.len];have:=J.o;omega
  have HC:Hid (∀m,Calls prog 219 #[.slice (some ⟨lk,o,none⟩) A (c1-pl),.bool true] (w1.drewN m) fun e w'=>e=.returned (.bool (decide (true∈R)))/\w'=w1.drewN m):=fun m=>by
   have q:=Z0G lk o (c1-pl) R (w1.drewN m) (fun i hi=>by
    have S7:=U.o.2.1;have hb:=J.o;have Ub:pl+i<laid.length:=by rw[S7.len];omega
    have:=S7.cell (pl+i) Ub;rw[NF ae];refine this.trans ?_;congr 2;simp[<-hR]) ae
   rw[Vb4]at q;exact q
  have Vb5:tq pl A laid=if true∈R then some 7 else none:=by
   unfold tq;rw[J.o,jS Mk,hR]
  have HR:=oP (And.intro Vb5 NF);have Vs8:(A:Int)<=1024:=ae;clear hR Vb4 Vb5 NF;go_wp2_with fail;go_quiet (fail);go_wp2_with fail;refine(HC.o _).mono ?_;rintro e w2 ⟨rfl,rfl⟩;by_cases V:true∈R
  ·have PC:decide (true∈R)=true:=kj V;have HI:=oP V;clear V;go_wp2;refine⟨rfl,?_,Chg3.of_below _ _ _ (below_drewN U.o.2.2.2 _),fun e=>?_⟩
   ·rw[HR.o.1,jT HI.o];rfl
   rw[HR.o.1,jT HI.o]at e;cases e
  have PC:decide (true∈R)=false:=j9 V;have HI:=oP V;clear V HC;have H0:Hid (∀m,LayMid w (w1.drewN m) ab lk sk nb n i0 (.slice (some ⟨lk,0,none⟩) 1024 c1) (.slice (some ⟨sk,0,none⟩) 1024 c2) nm pl laid starts tk 0):=fun m=>⟨U.o.1.kept rfl rfl,U.o.2.1.kept rfl,U.o.2.2.1.kept rfl,Chg3.of_below _ _ _ (below_drewN U.o.2.2.2 _),s3,OC⟩
  have Vs9:Hid (lk<w.heap.size):=WH7.o;go_wp2_with fail;go_loopw [39] (fun i wr=>∃j:Nat,j<=A/\i=.int .i64 j/\LayMid w wr ab lk sk nb n i0 (.slice (some ⟨lk,0,none⟩) 1024 c1) (.slice (some ⟨sk,0,none⟩) 1024 c2) nm pl laid starts tk j) (fun i _=>A-(intOf i).toNat)
  case atStart=>exact⟨0,j4,rfl,H0.o _⟩
  case round=>
   clear a1 a2 a4 s0 s3 U H0 OC;obtain⟨j,hj,rfl,G⟩:=hrel;by_cases Kf:j<A
   ·have K6:(j:Int)<(A:Int):=by omega
    have Xh:=HR.o.2 ae;have Wj6:=J.o;have V:pl+j<(qm laid pl j).length:=by rw[G.laid.len];omega
    obtain⟨x,cj⟩:∃x,wr.cell? ⟨lk,o+j,none⟩=some (.bool x):=⟨_,by rw[Xh];exact G.laid.cell (pl+j) V⟩;have fj:wr.frozen? ⟨lk,o+j,none⟩=false:=G.laid.fz _;have I:=oP (show LayMid w (wr.setCell ⟨lk,o+j,none⟩ (.bool true)) ab lk sk nb n i0 (.slice (some ⟨lk,0,none⟩) 1024 c1) (.slice (some ⟨sk,0,none⟩) 1024 c2) nm pl laid starts tk (j+1) by rw[Xh];exact G.step hd Vs9.o);clear G V Xh Wj6;go_wp2;go_roundw
    case rel=>exact⟨j+1,ae,ao,I.o⟩
    case measure=>simp[intOf];omega
   have K6:¬(j:Int)<(A:Int):=ae;have Vb6:j=A:=ae;rw[Vb6]at G K6⊢;have s3:=G.task;have a2:=G.st.c2;have a4:=G.st.c4;have fa:=G.st.fz 4;have OC:=G.lt;have I:=oP G;clear G Vb6 Kf hj;by_cases htk:tk=6
   ·have PD:(tk:Int)=6:=by omega
    have h1:=YH htk;have hpl:(pl:Int)<1024:=by have:=J.o;omega
    have Wj7:pl<starts.length:=by rw[I.o.starts.len];omega
    obtain⟨x,cs⟩:∃x,wr.cell? ⟨sk,pl,none⟩=some (.bool x):=⟨_,I.o.starts.cell pl Wj7⟩;have fs:=I.o.starts.fz pl;have Vi:=oP htk;clear htk Wj7 YH;go_wp2_with fail;go_region
    all_goals
     go_wp2;go_end0;refine⟨?_,?_,fun _=>⟨?_,?_,?_⟩⟩
     ·rw[HR.o.1,jS HI.o];rfl
     ·exact((Chg3.set I.o.chg sk (.inr (.inr rfl)) _ _).drewN 1).set ab (.inl rfl) _ _
     ·rw[J.o];exact(AS.place (I.o.st.kept (kk wr ⟨sk,pl,none⟩ ab (.bool true) hd.2.1) (kk wr ⟨sk,pl,none⟩ nb (.bool true) hd.2.2.2.2)) (D:Int)).kept rfl rfl
     ·exact I.o.laid.kept ((lX (fun e=>hd.1 e.symm)).trans (kk wr ⟨sk,pl,none⟩ lk (.bool true) hd.2.2.1))
     rw[jT Vi.o];exact(I.o.starts.put pl true).kept (lX (fun e=>hd.2.1 e.symm))
   have PD:¬(tk:Int)=6:=ae;have Vi:=oP htk;clear htk YH;go_wp2;go_end0;refine⟨?_,?_,fun _=>⟨?_,?_,?_⟩⟩
   ·rw[HR.o.1,jS HI.o];rfl
   ·exact I.o.chg.set ab (.inl rfl) _ _
   ·rw[J.o];exact AS.place I.o.st _
   ·exact I.o.laid.kept (lX (fun e=>hd.1 e.symm))
   rw[jS Vi.o];exact I.o.starts.kept (lX (fun e=>hd.2.1 e.symm))
structure Asm where
 nm:List UInt8->Option Int
 n:Nat
 pl:Nat
 laid:List Bool
 starts:List Bool
 bytes:List UInt8
def Asm.put(a:Asm)(k:ByteArray)(z:Int):Asm:={a with nm:=fun x=>if x=k.data.toList then some z else a.nm x,n:=if (a.nm k.data.toList).isSome then a.n else a.n+1}
structure Asm.Ok(a:Asm):Prop where
 pl:a.pl<=1024
 n:a.n<=1000
 nm:∀l z,a.nm l=some z->-1000000<=z/\z<=1000000
def py(a:Asm)(lb:ByteArray)(x:Stm):Except Int Asm:=
 if cuF a.nm lb x.task x.name x.vals=false then .error 3
 else match cgF a.nm a.n (pW lb x.task x.name) with
  |some k=>.error k
  |none=>
   if pB x.vals=true then .error 6
   else
    let b:=if lb=⟨#[]⟩ then a else a.put lb (a.pl:Int)
    if x.task=1 then match qh b.nm (a.pl:Int) (x.vals.headD []) 0 1023 with
     |some z=>.ok {b with pl:=z.toNat}
     |none=>.error 6
    else if x.task=4 then match qh b.nm (a.pl:Int) (x.vals.headD []) 0 (1024-(a.pl:Int)) with
     |some z=>.ok {b with pl:=a.pl+z.toNat}
     |none=>.error 6
    else if x.task=5 then match qh b.nm (a.pl:Int) (x.vals.headD []) (-1000000) 1000000 with
     |some z=>.ok (b.put x.name z)
     |none=>.error 6
    else match tq a.pl (pE x.task x.vals.length x.ins.size) a.laid with
     |some k=>.error k
     |none=>.ok {b with pl:=a.pl+pE x.task x.vals.length x.ins.size,laid:=qm a.laid a.pl (pE x.task x.vals.length x.ins.size),starts:=if x.task=6 then a.starts.set a.pl true else a.starts}
structure AMem where
 ab:Nat
 ik:Nat
 lk:Nat
 sk:Nat
 nb:Nat
 c0:Nat
 c1:Nat
 c2:Nat
structure AMem.Ok(m:AMem):Prop where
 d:m.ab≠m.lk/\m.ab≠m.sk/\m.lk≠m.sk/\m.nb≠m.lk/\m.nb≠m.sk
 e:m.ik≠m.ab/\m.ik≠m.lk/\m.ik≠m.sk/\m.ik≠m.nb
 h0:1024<=m.c0/\m.c0<=maxLen
 h1:1024<=m.c1/\m.c1<=maxLen
 h2:1024<=m.c2/\m.c2<=maxLen
def iV(b c:Nat):Value:=.slice (some ⟨b,0,none⟩) 1024 c
structure YRow(w:World)(b:Nat)(l:List UInt8):Prop where
 at_:w.heap[b]?=some (.cells (l.map fun x=>Value.int .u8 (x.toNat:Int)).toArray 5 (0,0))
 len:l.length=1024
theorem YRow.kept{w w':World}{b:Nat}{l:List UInt8}(h:YRow w b l)(e:w'.heap[b]?=w.heap[b]?):YRow w' b l:=⟨e.trans h.at_,h.len⟩
theorem YRow.lt{w:World}{b:Nat}{l:List UInt8}(h:YRow w b l):b<w.heap.size:=(kV.1 h.at_).1
structure AsmAt(w:World)(m:AMem)(a:Asm):Prop where
 st:AS w m.ab (iV m.ik m.c0) (iV m.lk m.c1) (iV m.sk m.c2) m.nb a.n a.nm (a.pl:Int)
 bytes:YRow w m.ik a.bytes
 laid:BRow w m.lk a.laid
 starts:BRow w m.sk a.starts
theorem AsmAt.nlt{w:World}{m:AMem}{a:Asm}(h:AsmAt w m a):m.nb<w.heap.size:=MapAt.lt h.st.nms
theorem AsmAt.below{w w':World}{m:AMem}{a:Asm}(h:AsmAt w m a)(A:Below w.heap.size w w'):AsmAt w' m a:=⟨h.st.below A,h.bytes.kept (A.block _ h.bytes.lt),h.laid.kept (A.block _ h.laid.lt),h.starts.kept (A.block _ h.starts.lt)⟩
theorem AsmAt.kept{w w':World}{m:AMem}{a:Asm}(h:AsmAt w m a)(e:∀k,k=m.ab\/k=m.ik\/k=m.lk\/k=m.sk\/k=m.nb->w'.heap[k]?=w.heap[k]?):AsmAt w' m a:=⟨h.st.kept (e _ (.inl rfl)) (e _ af),h.bytes.kept (e _ af),h.laid.kept (e _ af),h.starts.kept (e _ af)⟩
structure ChgM(w w':World)(m:AMem):Prop where
 os:w'.os=w.os
 tape:w'.tape=w.tape
 output:w'.output=w.output
 size:w.heap.size<=w'.heap.size
 block:∀k,k<w.heap.size->k≠m.ab->k≠m.ik->k≠m.lk->k≠m.sk->k≠m.nb->w'.heap[k]?=w.heap[k]?
theorem ChgM.trans{w A D:World}{m:AMem}(h:ChgM w A m)(h2:ChgM A D m):ChgM w D m:=⟨h2.os.trans h.os,h2.tape.trans h.tape,h2.output.trans h.output,j8 h.size h2.size,fun k a b c d e f=>(h2.block k (ke a h.size) b c d e f).trans (h.block k a b c d e f)⟩
theorem ChgM.below{w A:World}(m:AMem)(h:Below w.heap.size w A):ChgM w A m:=⟨h.os,h.tape,h.output,h.size,fun k a _ _ _ _ _=>h.block k a⟩
theorem ChgM.of3{w A:World}{m:AMem}(h:Chg3 w A m.ab m.lk m.sk):ChgM w A m:=⟨h.os,h.tape,h.output,h.size,fun k a b _ d e _=>h.block k a b d e⟩
theorem ChgM.set{w A:World}{m:AMem}(h:ChgM w A m)(k i:Nat)(v:Value)(hk:k=m.ab\/k=m.ik\/k=m.lk\/k=m.sk):ChgM w (A.setCell ⟨k,i,none⟩ v) m:=
 ⟨h.os,h.tape,h.output,bj,fun j a b c d e f=>(kk A ⟨k,i,none⟩ j v (by show j≠k;omega)).trans (h.block j a b c d e f)⟩
theorem Ik{w w':World}{nb:Nat}{a:Asm}{k:ByteArray}{z:Int}(h:MapAt prog 9 w' nb (vq a.n ((fun l=>(a.nm l).map fun x=>Value.int .i64 x) k.data.toList)) (rB (fun l=>(a.nm l).map fun x=>.int .i64 x) k.data.toList (.int .i64 z)))(hw:w'=w):NamesAt w nb (a.put k z).n (a.put k z).nm:=by
 subst hw;unfold NamesAt
 have e1:vq a.n ((a.nm k.data.toList).map fun x=>Value.int .i64 x)=(a.put k z).n:=by
  unfold Asm.put vq;cases a.nm k.data.toList <;> rfl
 rw[<-e1];refine MapAt.ext h (fun l=>?_);unfold rB Asm.put;simp only;split <;> rfl
theorem AsmAt.put{w w':World}{m:AMem}{a:Asm}{k:ByteArray}{z:Int}(h:AsmAt w m a)(D:m.Ok)(hn:NamesAt w' m.nb (a.put k z).n (a.put k z).nm)(A:w.grownBy w' (some m.nb)):AsmAt w' m (a.put k z):=by
 have G:w'.heap[m.ab]?=w.heap[m.ab]?:=A.block _ h.st.lt (fun e=>h.st.ne (kp e).symm);have hc:∀j,w'.cell? ⟨m.ab,j,none⟩=w.cell? ⟨m.ab,j,none⟩:=fun j=>jW (a:=⟨m.ab,j,none⟩) G
 have hd:=D.d;have he:=D.e;exact⟨⟨(hc 0).trans h.st.c0,(hc 1).trans h.st.c1,(hc 2).trans h.st.c2,(hc 3).trans h.st.c3,(hc 4).trans h.st.c4,fun j=>(ku (a:=⟨m.ab,j,none⟩) G).trans (h.st.fz j),hn,h.st.ne⟩,h.bytes.kept (A.block _ h.bytes.lt (fun e=>he.2.2.2 (kp e))),h.laid.kept (A.block _ h.laid.lt (fun e=>hd.2.2.2.1 (kp e).symm)),h.starts.kept (A.block _ h.starts.lt (fun e=>hd.2.2.2.2 (kp e).symm))⟩
theorem Asm.Ok.put{a:Asm}(h:a.Ok)(k:ByteArray)(z:Int)(hz:-1000000<=z/\z<=1000000)(hn:a.n<=999):(a.put k z).Ok:=by
 refine⟨h.pl,?_,fun l y e=>?_⟩
 ·unfold Asm.put;simp only;split <;> omega
 unfold Asm.put at e;simp only at e;split at e
 ·cases e;exact hz
 exact h.nm l y e
theorem VAt.keptM{w w':World}{base:Nat}{v:Value}{es:List (List Trm)}(h:VAt w base v es)(A:∀j,base<=j->j<w.heap.size->w'.heap[j]?=w.heap[j]?):VAt w' base v es:=by
 obtain⟨vs,h1,h2⟩:=h;exact⟨vs,rQ h1 (fun j D=>A j (h1.lt j D).1 (h1.lt j D).2),h2.kept (fun j a b _=>A j a b) (fun _ _ e=>e)⟩
theorem Z0f{a:Asm}(h:∀l z,a.nm l=some z->-1000000<=z/\z<=1000000){es:List (List Trm)}(ht:pB es=false)(hz:∀e∈es,∀t∈e,0<=t.num){e:List Trm}(he:e∈es){t:Trm}(A:t∈e){p:Nat}(D:p<=1024):-1000000<=pS a.nm (p:Int) t/\pS a.nm (p:Int) t<=1000000:=by
 unfold pS;split
 ·cases hn:a.nm t.name.data.toList with
  |none=>simp
  |some z=>exact h _ _ hn
 split
 ·omega
 have h0:=hz e he t A
 have:decide (65535<t.num)=false:=by
  unfold pB at ht;rw[om]at ht;have h2:=ht e he;unfold ve at h2;rw[Bool.not_eq_true,om]at h2;simpa using h2 t A
 have h3:=T0d this;omega
