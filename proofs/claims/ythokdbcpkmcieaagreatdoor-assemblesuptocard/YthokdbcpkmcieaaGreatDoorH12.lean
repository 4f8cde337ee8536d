import Derived.Test.YthokdbcpkmcieaaGreatDoorH11
set_option maxRecDepth 200000
set_option maxHeartbeats 16000000
namespace Go.Proofs.YthokdbcpkmcieaaGreatDoor
open RowKit Shelf WideMaps Maps Proofs.Tryz
theorem Z8C(code:ByteArray)(w:World)(hc:0<code.size)(Ll:code.size<=maxLen) :
  Calls prog 60 #[.slice none 0 0,.string code] w fun e w'=>e=.returned (.tuple #[.int .i64 1,.bool true])/\Below w.heap.size w w':=by
 exact Mal
theorem Tryz.infoKindB:(Tryz.prog.info? 111).map (fun i=>(i.zero,i.size,i.bytes))=some (some (.int .i64 0),1,8):=aj
theorem xh(w:World)(o:Obj):(w.alloc o).heap.size=w.heap.size+1:=af
theorem vz(w:World)(l:List Value)(t:TypeId):∀j u,l[j]?=some u->(w.alloc (.cells l.toArray t)).cell? ((⟨w.heap.size,0,none⟩:Addr).add j)=some u:=by
 intro j u A;rw[k9,kN,jY (0,0) (kg w _)];simpa using A
theorem sP{w:World}{base:Nat}{e:TypeId}{size n:Nat}{v:Value}{xs:List Value}(h:w.ownsRow base e size v n xs):∃a c,v=.slice a n c:=Mch
theorem Ge{w w':World}{base e:Nat}{size n g D:Nat}{xs:List Value}(h:w.ownsRow base e size (.slice (some ⟨g,0,none⟩) n D) n xs)(A:Below w.heap.size w w'):w'.ownsRow base e size (.slice (some ⟨g,0,none⟩) n D) n xs:=
 h.kept (row:=none) ⟨A.os,A.tape,A.output,A.size,fun k hk _=>A.block k hk⟩ (.inr bd)
structure NI(w wr:World)(c:Int)(kv:Value)(j:Nat)(ks:List Nat):Prop where
 hd:wr.heap[w.heap.size]?=some (.cells #[.int .u8 0,.slice none 0 0,.int .i64 0] 128 (0,0))
 mb:wr.heap[w.heap.size+1]?=some (.cells #[.int .u8 c,kv,.int .i64 0] 128 (0,0))
 row:wr.ownsRow (w.heap.size+2) 111 1 kv j (qp ks)
 below:Below w.heap.size w wr
theorem NI.cell{w wr:World}{c:Int}{kv:Value}{j:Nat}{ks:List Nat}(h:NI w wr c kv j ks)(i:Nat):wr.cell? ⟨w.heap.size+1,i,none⟩=#[.int .u8 c,kv,.int .i64 0][i]?:=jY (0,0) h.mb
theorem NI.fz{w wr:World}{c:Int}{kv:Value}{j:Nat}{ks:List Nat}(h:NI w wr c kv j ks)(i:Nat):wr.frozen? ⟨w.heap.size+1,i,none⟩=false:=kT _ _ _ h.mb
theorem NI.lt{w wr:World}{c:Int}{kv:Value}{j:Nat}{ks:List Nat}(h:NI w wr c kv j ks):w.heap.size+1<wr.heap.size:=(kV.1 h.mb).1
theorem NI.alloc{w wr:World}{c:Int}{kv:Value}{j:Nat}{ks:List Nat}(h:NI w wr c kv j ks)(o:Obj):NI w (wr.alloc o) c kv j ks:=
 ⟨by rw[kt cL];exact h.hd,by rw[kt h.lt];exact h.mb,h.row.alloc _,h.below.alloc h.below.size _⟩
theorem NI.step{w wr A:World}{c:Int}{kv D:Value}{j k:Nat}{ks:List Nat}(h:NI w wr c kv j ks)(R:A.ownsRow (w.heap.size+2) 111 1 D (j+1) (qp ks++[.int .i64 (k:Int)]))(G:wr.grownBy A kv.ownBlock):NI w (A.setCell ⟨w.heap.size+1,1,none⟩ D) c D (j+1) (ks++[k]):=by
 have Kf:=h.lt;have S:(A.setCell ⟨w.heap.size+1,1,none⟩ D).heap.size=A.heap.size:=az;have hz:=G.size;have U:∀g,kv.ownBlock=some g->w.heap.size+2<=g:=fun g I=>(h.row.lt g I).1
 have J:∀k,k<w.heap.size+2->A.heap[k]?=wr.heap[k]?:=fun k hk=>G.block k ae (fun e=>by have:=U k e.symm;omega)
 have M:∀k,k≠w.heap.size+1->(A.setCell ⟨w.heap.size+1,1,none⟩ D).heap[k]?=A.heap[k]?:=fun k hk=>kk A ⟨w.heap.size+1,1,none⟩ k D hk
 refine⟨?_,?_,?_,?_⟩
 ·rw[M _ ae,J _ ae];exact h.hd
 ·exact lq A _ 1 _ _ D ((J _ ae).trans h.mb)
 ·have e:qp (ks++[k])=qp ks++[.int .i64 (k:Int)]:=by simp[qp]
  rw[e];obtain⟨O,⟨e1,e2⟩|⟨g,V,Z,e1,I,hh,r⟩⟩:=R
  ·exact⟨O,.inl ⟨e1,e2⟩⟩
  exact⟨O,.inr ⟨g,V,Z,e1,I,by rw[M g ae];exact hh,r⟩⟩
 exact⟨G.os.trans h.below.os,G.tape.trans h.below.tape,G.output.trans h.below.output,by rw[S];have:=h.below.size;omega,fun k hk=>by rw[M k ae,J k ae];exact h.below.block k hk⟩
theorem Z2Z(c:Int)(l:List Opn)(base g Kd n:Nat)(w:World)(hl:l.length=n)(hn:n<=1000)(Ke:w.ownsRow base 114 5 (.slice (some ⟨g,0,none⟩) n Kd) n (pP l))(hk:∀k,k<n->(l.getD k opn0).kind<17) :
  Calls prog 200 #[.int .u8 c,.slice (some ⟨g,0,none⟩) n Kd] w fun e w'=>∃kv,e=.returned (qW c kv (3-((pR l ⟨#[0,0]⟩ false n).2.1.size:Int)))/\w'.ownsRow w.heap.size 111 1 kv n (qp (l.map (·.kind)))/\w.grownBy w' (some g):=by
 obtain⟨ki,QR,RN,Lv,MO⟩:=kQ Tryz.infoKindB;have Ru:g<w.heap.size:=(Ke.lt g rfl).2;have HL:=oP hl;have Ki:=oP Ke;have S0:=oP hk;have Vg:(n:Int)<=1000:=ae;clear hl Ke hk;go_enter func200,ntmps200;go_wp2_with fail;go_loopw [13] (fun i wr=>∃(j:Nat) (kv:Value),j<=n/\i=.int .i64 j/\NI w wr c kv j ((l.take j).map (·.kind))) (fun i _=>n-(intOf i).toNat)
 case atStart=>
  refine⟨0,.slice none 0 0,j4,rfl,?_,?_,kA,(jV.alloc jU _).alloc af _⟩
  ·rw[kt af];exact kg w _
  exact Mbg
 case round=>
  obtain⟨j,kv,hj,rfl,D⟩:=hrel;obtain⟨J,M,rfl⟩:=sP D.row;have c1:wr.cell? ⟨w.heap.size+1,1,none⟩=some (.slice J j M):=D.cell 1;by_cases Kf:j<n
  ·have K6:(j:Int)<(n:Int):=by omega
   have hr:=Ge Ki.o D.below;have K2:j<l.length:=bQ;obtain⟨a0,a1,a2,a3,a4⟩:=xX l j K2
   have hc:∀i u,(pP l)[i]?=some u->wr.cell? ⟨g,i,none⟩=some u:=fun i u hu=>by
    have:=hr.cells (g:=g) rfl i u hu;rwa [k9,kN]at this
   obtain⟨O,NF⟩:=Zg0 (l.getD j opn0);rw[NF]at a0 a1 a2 a3 a4;have b0:=hc _ _ a0;have b1:=hc _ _ a1;have b2:=hc _ _ a2;have b3:=hc _ _ a3;have b4:=hc _ _ a4
   have Z:(l.take (j+1)).map (·.kind)=(l.take j).map (·.kind)++[O.kind]:=by
    rw[lR,jX K2,l7,<- NF,jZ,jX K2];rfl
   have Wu6:=oP Z;have U:=oP D;have Wu7:=D.fz 1;have Wd1:=D.lt;clear a0 a1 a2 a3 a4 hc hr NF Z D
   go_wp2_with (
    at_builtin;refine kH _ rfl _ _ 126 rfl (w.heap.size+2) 111 ki _ 1 8 underlying126 QR RN Lv MO rfl ah (.slice J j M) j (qp ((l.take j).map (·.kind))) rfl ((U.o.row.alloc _).alloc _) ⟨wr.heap.size+1,0,none⟩ 1 1 [.int .i64 (O.kind:Int)] rfl rfl (by have:=vz (wr.alloc (.cells #[.int .i64 (O.kind:Int),.string O.name,.int .u8 O.own,.int .u16 O.added,.int .u16 O.behind] 114)) [.int .i64 (O.kind:Int)] 111;rwa [xh]at this) ax ak ae ai ?_;intro v' wn Kc Kg _ Kj;obtain⟨RJ,RL,VR⟩:=sP Kc;have KE:=((U.o.alloc _).alloc _).step Kc Kg
    have Lt:wn.heap[w.heap.size+1]?=some (.cells #[.int .u8 c,.slice J j M,.int .i64 0] 128 (0,0)):=by
     rw[Kg.block (w.heap.size+1) ai (fun e=>by have:=(U.o.row.lt _ e.symm).1;omega)];exact((U.o.alloc _).alloc _).mb
    have d1:wn.cell? ⟨w.heap.size+1,1,none⟩=some (.slice J j M):=by rw[jY (0,0) Lt];rfl
    have d2:=kD wn (w.heap.size+1) 1 _ _ Lt;subst VR;have KF:=oP KE;clear KE Kc Kg Kj Lt)
   go_roundw
   case rel=>exact⟨j+1,_,ae,ao,by rw[Wu6.o];exact KF.o⟩
   case measure=>simp[intOf];omega
  have K6:¬(j:Int)<(n:Int):=ae;have ej:j=n:=ae;subst ej;have U:=oP D;have Wd1:=D.lt;clear D;obtain⟨V,hV⟩:=Zg0 (wr.alloc (.cells #[.int .u8 0,.int .u8 0,.int .u8 0] 326))
  have O1:(convert 32 9 (.slice (some ⟨wr.heap.size,0,none⟩) 3 3)).run prog V=.ok (.string ⟨#[0,0,0]⟩) V:=by
   have:=og (P:=prog) V 32 9 5 ⟨wr.heap.size,0,none⟩ 3 [0,0,0] underlying32 underlying5 underlying9 (fun k hk=>by
    rw[<-hV];refine vz wr [.int .u8 0,.int .u8 0,.int .u8 0] _ k _ ?_;have OS:k=0\/k=1\/k=2:=cM;rcases OS with rfl|rfl|rfl <;> rfl)
   exact this
  have I:=U.o.alloc (.cells #[.int .u8 0,.int .u8 0,.int .u8 0] 326);rw[hV]at I;have WY7:V.heap.size=wr.heap.size+1:=by rw[<-hV];simp
  have MD:=oP (DU base g Kd j l ⟨#[0,0,0]⟩ V HL.o hn (Ge Ki.o I.below) S0.o ah ah);have MW:(⟨#[0,0,0]⟩:ByteArray).extract 1 (⟨#[0,0,0]⟩:ByteArray).size=⟨#[0,0]⟩:=aq;rw[MW,show ((⟨#[0,0,0]⟩:ByteArray).size:Int)=3 from rfl]at MD;obtain⟨R,hR⟩:=Zg0 (pR l ⟨#[0,0]⟩ false j);rw[hR]at MD;obtain⟨z,hz⟩:∃z:Int,3-(R.2.1.size:Int)=z:=⟨_,rfl⟩;rw[hz]at MD;have WX:=oP (And.intro hR hz);have G:=oP I;have htk:(l.take j).map (·.kind)=l.map (·.kind):=by rw[lL (by rw[HL.o];exact jU)]
  have Vi:=oP htk;clear MW hR hz I htk;go_wp2_with fail;refine MD.o.mono ?_;rintro e A ⟨rfl,_,KM⟩;have Yf:=G.o.lt
  have e1:A.heap[w.heap.size+1]?=some (.cells #[.int .u8 c,.slice J j M,.int .i64 0] 128 (0,0)):=by
   rw[KM.block _ Yf (fun e=>bN)];exact G.o.mb
  have e0:A.heap[w.heap.size]?=some (.cells #[.int .u8 0,.slice none 0 0,.int .i64 0] 128 (0,0)):=by
   rw[KM.block _ ae (fun e=>bN)];exact G.o.hd
  have q0:A.cell? ⟨w.heap.size+1,0,none⟩=some (.int .u8 c):=bS;have q1:A.cell? ⟨w.heap.size+1,1,none⟩=some (.slice J j M):=bS;have q2:A.cell? ⟨w.heap.size+1,2,none⟩=some (.int .i64 0):=bS;have q3:=kD A (w.heap.size+1) 2 _ _ e1;have p0:A.cell? ⟨w.heap.size,0,none⟩=some (.int .u8 0):=bU;have p1:A.cell? ⟨w.heap.size,1,none⟩=some (.slice none 0 0):=bU;have p2:A.cell? ⟨w.heap.size,2,none⟩=some (.int .i64 0):=bU;have f0:=kD A w.heap.size 0 _ _ e0;have f1:=kD A w.heap.size 1 _ _ e0;have f2:=kD A w.heap.size 2 _ _ e0;have QS:=oP KM;clear KM e0 e1 c1;go_wp2_with fail;obtain⟨X,hX⟩:=Zg0 ((((A.setCell ⟨w.heap.size+1,2,none⟩ (.int .i64 z)).setCell ⟨w.heap.size,0,none⟩ (.int .u8 c)).setCell ⟨w.heap.size,1,none⟩ (.slice J j M)).setCell ⟨w.heap.size,2,none⟩ (.int .i64 z))
  have WY8:∀k,k≠w.heap.size->k≠w.heap.size+1->X.heap[k]?=A.heap[k]?:=fun k h1 h2=>by
   rw[<-hX,kk _ ⟨w.heap.size,2,none⟩ k _ h1,kk _ ⟨w.heap.size,1,none⟩ k _ h1,kk _ ⟨w.heap.size,0,none⟩ k _ h1,kk _ ⟨w.heap.size+1,2,none⟩ k _ h2]
  have Wg2:X.heap.size=A.heap.size:=by rw[<-hX];simp[World.setCell]
  have S:X.os=A.os/\X.tape=A.tape/\X.output=A.output:=by rw[<-hX];exact⟨rfl,rfl,rfl⟩
  refine kf (v:=qW c (.slice J j M) z) fT rfl ?_;rw[hX];have g2:=QS.o;have hr:=G.o.row;refine⟨_,by rw[WX.o.1,WX.o.2],?_,S.1.trans (g2.os.trans G.o.below.os),S.2.1.trans (g2.tape.trans G.o.below.tape),S.2.2.trans (g2.output.trans G.o.below.output),by rw[Wg2];exact j8 G.o.below.size g2.size,fun k hk Kk=>?_⟩
  ·rw[<-Vi.o];obtain⟨WY9,⟨e1,e2⟩|⟨gk,O7,KG,e1,VK4,hh,r⟩⟩:=hr
   ·exact⟨WY9,.inl ⟨e1,e2⟩⟩
   have Mw:gk<V.heap.size:=(kV.1 hh).1;exact⟨WY9,.inr ⟨gk,O7,KG,e1,ae,by rw[WY8 gk ae ae,g2.block gk Mw (fun e=>bN)];exact hh,r⟩⟩
  rw[WY8 k ae ae,g2.block k (ke hk G.o.below.size) Kk];exact G.o.below.block k hk
theorem Z7J(c:Int)(w:World) :
  Calls prog 200 #[.int .u8 c,.slice none 0 0] w fun e w'=>e=.returned (qW c (.slice none 0 0) 1)/\Below w.heap.size w w':=by
 have R:=oP (fun w'=>Z8C ⟨#[0,0,0]⟩ w' ah ah);go_enter func200,ntmps200;go_wp2_with fail;refine lS 1 ?_;rw[kG];obtain⟨U,J⟩:=Zg0 ((w.alloc (.cells #[.int .u8 0,.slice none 0 0,.int .i64 0] 128)).alloc (.cells #[.int .u8 c,.slice none 0 0,.int .i64 0] 128));have D:U.heap.size=w.heap.size+2:=by rw[<-J];simp
 obtain⟨V,G⟩:=Zg0 (U.alloc (.cells #[.int .u8 0,.int .u8 0,.int .u8 0] 326));have S:V.heap.size=w.heap.size+3:=by rw[<-G];simp[D]
 have O1:(convert 32 9 (.slice (some ⟨w.heap.size+2,0,none⟩) 3 3)).run prog V=.ok (.string ⟨#[0,0,0]⟩) V:=by
  have:=og (P:=prog) V 32 9 5 ⟨w.heap.size+2,0,none⟩ 3 [0,0,0] underlying32 underlying5 underlying9 (fun k hk=>by
   rw[<-G,<- D];refine vz U [.int .u8 0,.int .u8 0,.int .u8 0] _ k _ ?_;have Z:k=0\/k=1\/k=2:=cM;rcases Z with rfl|rfl|rfl <;> rfl)
  exact this
 have h0:V.heap[w.heap.size]?=some (.cells #[.int .u8 0,.slice none 0 0,.int .i64 0] 128 (0,0)):=by
  rw[<-G,kt ae,<- J,kt af];exact kg w _
 have h1:V.heap[w.heap.size+1]?=some (.cells #[.int .u8 c,.slice none 0 0,.int .i64 0] 128 (0,0)):=by
  rw[<-G,kt ae,<- J];exact Mbg
 have O:Below w.heap.size w V:=by
  rw[<-G,<- J];exact Mcq
 have HB:=oP (And.intro O (And.intro h0 h1));clear O h0 h1;go_wp2_with fail;refine(R.o _).mono ?_;rintro e A ⟨rfl,M⟩;have e1:=(M.block (w.heap.size+1) ae).trans HB.o.2.2;have e0:=(M.block w.heap.size ae).trans HB.o.2.1;have q0:A.cell? ⟨w.heap.size+1,0,none⟩=some (.int .u8 c):=bS;have q1:A.cell? ⟨w.heap.size+1,1,none⟩=some (.slice none 0 0):=bS;have q2:A.cell? ⟨w.heap.size+1,2,none⟩=some (.int .i64 0):=bS;have q3:=kD A (w.heap.size+1) 2 _ _ e1;have p0:A.cell? ⟨w.heap.size,0,none⟩=some (.int .u8 0):=bU;have p1:A.cell? ⟨w.heap.size,1,none⟩=some (.slice none 0 0):=bU;have p2:A.cell? ⟨w.heap.size,2,none⟩=some (.int .i64 0):=bU;have f0:=kD A w.heap.size 0 _ _ e0;have f1:=kD A w.heap.size 1 _ _ e0;have f2:=kD A w.heap.size 2 _ _ e0;have I:=oP (HB.o.1.trans (M.mono HB.o.1.size));clear M e0 e1;go_wp2_with fail;refine kf (v:=qW c (.slice none 0 0) 1) fT rfl ⟨rfl,?_⟩;exact⟨I.o.os,I.o.tape,I.o.output,by simpa [World.setCell]using I.o.size,fun k hk=>by rw[kk _ ⟨w.heap.size,2,none⟩ k _ eH,kk _ ⟨w.heap.size,1,none⟩ k _ eH,kk _ ⟨w.heap.size,0,none⟩ k _ eH,kk _ ⟨w.heap.size+1,2,none⟩ k _ (by show k≠w.heap.size+1;omega)];exact I.o.block k hk⟩
def opsOf(r:Nat×Nat×List UInt8):List Opn:=(tH r.2.2).map fun p=>⟨(qa p).toNat,p,bits BinOp.and IntKind.u8 r.1 r.2.1,0,0⟩
def EU(r:Nat×Nat×List UInt8):Bool:=
 decide (r.2.2.length<1000)&&(decide ((Lib.cut r.2.2 [32]).1=qk r.2.2)&&(((Lib.cut r.2.2 [32]).2.2||decide ((Lib.cut r.2.2 [32]).2.1=[]))&&(decide ((Lib.cut r.2.2 [32]).2.1.length<1000)&&((tH r.2.2).all (fun p=>decide (p.size<=1000)&&(decide (0<=qa p)&&decide (qa p<17)))&&(decide ((tH r.2.2).length<=3)&&(decide (3-((pR (opsOf r) ⟨#[0,0]⟩ false (opsOf r).length).2.1.size:Int)=(rk (qo r.2.2):Int))&&((Lib.cut r.2.2 [32]).2.2==!(tH r.2.2).isEmpty)))))))
theorem Z6p:rowsL.all EU=true:=aq
structure yj(r:Nat×Nat×List UInt8):Prop where
 len:r.2.2.length<1000
 nm:(Lib.cut r.2.2 [32]).1=qk r.2.2
 ls0:(Lib.cut r.2.2 [32]).2.2=false->(Lib.cut r.2.2 [32]).2.1=[]
 ls:(Lib.cut r.2.2 [32]).2.1.length<1000
 ps:∀p∈tH r.2.2,p.size<=1000/\0<=qa p/\qa p<17
 few:(tH r.2.2).length<=3
 size:3-((pR (opsOf r) ⟨#[0,0]⟩ false (opsOf r).length).2.1.size:Int)=(rk (qo r.2.2):Int)
 fl:(Lib.cut r.2.2 [32]).2.2 = !(tH r.2.2).isEmpty
theorem EM{r:Nat×Nat×List UInt8}(h:r∈rowsL):yj r:=by
 have:=kx.1 Z6p r h;unfold EU at this;simp only[kB,kI,mM,kx,mx]at this;obtain⟨a1,a2,a3,a4,a5,A,D,G⟩:=this;exact⟨a1,a2,fun e=>a3.elim (fun a3=>by rw[e]at a3;cases a3) id,a4,a5,A,D,G⟩
theorem Z56{r:Nat×Nat×List UInt8}(h:yj r):(tH r.2.2).flatMap (uc (bits BinOp.and IntKind.u8 r.1 r.2.1))=pP (opsOf r):=by
 have G:∀l:List ByteArray,(∀p∈l,0<=qa p)->l.flatMap (uc (bits BinOp.and IntKind.u8 r.1 r.2.1))=pP (l.map fun p=>⟨(qa p).toNat,p,bits BinOp.and IntKind.u8 r.1 r.2.1,0,0⟩):=by
  intro l;induction l with
  |nil=>intro _;rfl
  |cons p l ih=>
   intro D;have A:=D p af;have e:=ih (fun q hq=>D q (by simp[hq]));simp only[pP,kZ,mT]at e⊢;rw[e];simp[uc,Opn.cells,Int.toNat_of_nonneg A]
 exact G _ (fun p A=>(h.ps p A).2.1)
theorem Dk(r:Nat×Nat×List UInt8):(opsOf r).map (·.kind)=qo r.2.2:=by simp[opsOf,qo]
theorem Z6S(r:Nat×Nat×List UInt8)(D:yj r)(m:Int)(G:Nat)(w:World)(J:w.ownsMap prog 9 (plainElem prog 111) G 17 kindsD)(I:w.cell? ⟨0,0,none⟩=some (.int .i64 m))(h0:0<w.heap.size) :
  Calls prog 58 #[.agg #[.int .u8 r.1,.int .u8 r.2.1,.string ⟨r.2.2.toArray⟩],.int .u8 r.1,.map (some G)] w fun e w'=>∃v,e=.returned (.tuple #[.string ⟨(qk r.2.2).toArray⟩,v])/\w'.ownsRow w.heap.size 114 5 v (opsOf r).length (pP (opsOf r))/\Below w.heap.size w w':=by
 have hs:(⟨r.2.2.toArray⟩:ByteArray).size<1000:=by simpa [ByteArray.size]using D.len
 have M:(opsOf r).length=(tH r.2.2).length:=by simp[opsOf]
 rw[M,<- Z56 D];cases A:(Lib.cut r.2.2 [32]).2.2 with
 |false=>
  have hcut:Lib.cut r.2.2 [32]=(qk r.2.2,[],false):=by
   have e1:=D.nm;have e2:=D.ls0 A;revert e1 e2 A;generalize Lib.cut r.2.2 [32]=t;obtain⟨x,y,z⟩:=t;rintro A e1 e2;simp only at A e1 e2;rw[e1,e2,A]
  have he:tH r.2.2=[]:=by
   have:=D.fl;rw[A]at this;cases h:tH r.2.2 with
   |nil=>rfl
   |cons a b=>rw[h]at this;cases this
  refine(IN r.1 r.2.1 r.1 m ⟨r.2.2.toArray⟩ ⟨(qk r.2.2).toArray⟩ G w hs I h0 hcut).mono fun e w' ⟨h1,h2⟩=>⟨_,h1,?_,h2⟩
  rw[he];exact kA
 |true=>
  obtain⟨ls,hls⟩:=Zg0 ((Lib.cut r.2.2 [32]).2.1)
  have hcut:Lib.cut r.2.2 [32]=(qk r.2.2,ls,true):=by
   have e1:=D.nm;revert e1 hls A;generalize Lib.cut r.2.2 [32]=t;obtain⟨x,y,z⟩:=t;rintro A e2 e1;simp only at A e1 e2;rw[e1,e2,A]
  have hps:pieces ⟨ls.toArray⟩=tH r.2.2:=by
   unfold tH;rw[hcut]
  have O:(⟨ls.toArray⟩:ByteArray).size<1000:=by have:=D.ls;rw[hls]at this;simpa [ByteArray.size]using this
  exact Gq r.1 r.2.1 r.1 m ⟨r.2.2.toArray⟩ ⟨(qk r.2.2).toArray⟩ ⟨ls.toArray⟩ (tH r.2.2) _ G w J hs O I h0 hcut hps rfl (by have:=D.few;omega) (fun t ht=>(D.ps t ht).1)
theorem Z02(r:Nat×Nat×List UInt8)(A:yj r)(base:Nat)(v:Value)(w:World)(D:w.ownsRow base 114 5 v (opsOf r).length (pP (opsOf r))) :
  Calls prog 200 #[.int .u8 r.1,v] w fun e w'=>∃kv,e=.returned (qW r.1 kv (rk (qo r.2.2):Nat))/\w'.ownsRow w.heap.size 111 1 kv (qo r.2.2).length (qp (qo r.2.2))/\w.grownBy w' v.ownBlock:=by
 have G:(opsOf r).length=(qo r.2.2).length:=by rw[<-Dk,kL]
 have I:=D;obtain⟨_,⟨rfl,e2⟩|⟨g,J,U,rfl,_⟩⟩:=D
 ·have he:opsOf r=[]:=ny e2;have hz:=A.size;rw[he]at hz;have M:(rk (qo r.2.2):Int)=1:=by rw[<-hz];rfl
  refine(Z7J r.1 w).mono fun e w' ⟨h1,h2⟩=>⟨.slice none 0 0,by rw[h1,M],?_,⟨h2.os,h2.tape,h2.output,h2.size,fun k hk _=>h2.block k hk⟩⟩
  have O:qo r.2.2=[]:=by rw[<-Dk,he];rfl
  rw[O];exact kA
 have hn:(opsOf r).length<=3:=by have:=A.few;simpa [opsOf]using this
 refine(Z2Z r.1 (opsOf r) base g J _ w rfl ae I (fun k hk=>?_)).mono fun e w' ⟨kv,h1,h2,h3⟩=>⟨kv,by rw[h1,A.size],?_,h3⟩
 ·rw[jZ,jX hk];have R:(opsOf r)[k]∈opsOf r:=kC hk;show ((opsOf r)[k]).kind<17;obtain⟨p,S,e⟩:=lf.1 R;rw[<-e];have:=A.ps p S;show (qa p).toNat<17;omega
 rw[G,Dk]at h2;exact h2
def tM(k:Nat)(l:List UInt8):Nat:=((rowsL.take k).filter fun r=>qk r.2.2==l).length
def tF(k:Nat)(l:List UInt8):Option Value:=if tM k l=0 then none else some (.int .i64 (tM k l:Int))
theorem Z2v(k:Nat)(l:List UInt8):tM k l<=k:=by
 unfold tM;have h1:=T0y (fun r:Nat×Nat×List UInt8=>qk r.2.2==l) (rowsL.take k);have h2:=T0q k rowsL;omega
theorem JN(k:Nat)(h:k<rowsL.length)(l:List UInt8):tM (k+1) l=tM k l+(if qk (rowsL[k]).2.2=l then 1 else 0):=by
 unfold tM;rw[lR,jX h,T0z,kq];congr 1;by_cases e:qk (rowsL[k]).2.2=l
 ·simp[e]
 simp[e]
theorem Z2f(k:Nat)(l:List UInt8):uB false (.int .i64 0) (tF k l)=.int .i64 (tM k l:Int):=by
 unfold tF;by_cases e:tM k l=0
 ·rw[jT e,e];rfl
 rw[jS e];rfl
theorem Z7Y(k:Nat)(h:k<rowsL.length)(A:List UInt8):rB (tF k) (qk (rowsL[k]).2.2) (.int .i64 ((tM k (qk (rowsL[k]).2.2):Int)+1)) A=tF (k+1) A:=by
 unfold rB;by_cases e:A=qk (rowsL[k]).2.2
 ·subst e;rw[jT rfl];unfold tF;rw[JN k h,jT rfl,jS ae];rfl
 have e3:tM (k+1) A=tM k A:=by
  rw[JN k h,jS (fun e2=>e e2.symm),kK]
 rw[jS e];unfold tF;rw[e3]
theorem Z9J(l:List UInt8):(ri l=false/\tF rowsL.length l=none)\/(ri l=true/\∃c:Int,0<c/\tF rowsL.length l=some (.int .i64 c)):=by
 unfold tF tM ri;rw[mL];by_cases e:((rowsL.filter fun r=>qk r.2.2==l).length=0)
 ·left;refine⟨?_,jT e⟩;have:=ny e;rw[T0T]at this;rw[om];exact this
 right;refine⟨?_,_,?_,jS e⟩
 ·cases A:rowsL.any fun r=>qk r.2.2==l with
  |true=>rfl
  |false=>
   rw[om]at A;exact absurd (by rw[T0T.2 A];rfl) e
 omega
def yo(k:Nat)(s:List UInt8)(ks:List Nat):Option InsD:=((rowsL.take k).reverse.find? (uf s ks)).map B0
theorem Z4G(k:Nat)(h:k<rowsL.length)(s:List UInt8)(ks:List Nat):yo (k+1) s ks=if uf s ks rowsL[k]=true then some (B0 rowsL[k]) else yo k s ks:=by
 unfold yo;rw[lR,jX h];simp only[oK,List.reverse_append,List.reverse_cons,List.reverse_nil,mu,mU,List.find?_cons];cases uf s ks rowsL[k] with
 |true=>rfl
 |false=>rfl
theorem Z2u(s:List UInt8)(ks:List Nat):yo rowsL.length s ks=tU s ks:=by
 unfold yo tU;rw[mL]
theorem Z8u{s:ByteArray}{ks A:List Nat}(h:ks.map lkN=A.map lkN):sr s ks=sr s A:=by
 have D:ks.length=A.length:=by have:=lp List.length h;simpa using this
 have hi:∀i:Nat,(match ks[i]? with|some k=>((lkN k:Nat):Int)|none=>0)=(match A[i]? with|some k=>((lkN k:Nat):Int)|none=>0):=fun i=>by
  have:=lp (·[i]?) h;simp only[kS]at this;cases h1:ks[i]? with
  |none=>cases h2:A[i]? with
   |none=>rfl
   |some b=>rw[h1,h2]at this;cases this
  |some a=>cases h2:A[i]? with
   |none=>rw[h1,h2]at this;cases this
   |some b=>rw[h1,h2]at this;simp at this;simp[this]
 unfold sr;rw[D];exact congr (congr (lp (zx s _) (hi 0)) (hi 1)) (hi 2)
theorem Z79{s D:ByteArray}{ks A:List Nat}(hs:s.size<=1000000)(I:D.size<=1000000)(hk:ks.length<=3)(J:A.length<=3)(h1:∀k∈ks,k<=100)(h2:∀k∈A,k<=100)(h:sr s ks=sr D A):s=D/\ks.map lkN=A.map lkN:=by
 have e:=GF.inj (An s ks hs hk h1) (by rw[h];exact An D A I J h2);unfold uk tJ at e;simp only[Value.agg.injEq,Array.mk.injEq,nT,Value.string.injEq,Value.int.injEq,nE,mX]at e;obtain⟨M,e1,e2,e3,G⟩:=e;have hl:ks.length=A.length:=ae;refine⟨M,List.ext_getElem bL (fun i p q=>?_)⟩;simp only[kL]at p q;simp only[List.getElem_map];have hi:i=0\/i=1\/i=2:=ae;rcases hi with rfl|rfl|rfl
 ·rw[jX p,jX q]at e2;exact T0A e2
 ·rw[jX p,jX q]at e3;exact T0A e3
 rw[jX p,jX q]at G;exact T0A G
theorem MapAt.at1B{P:Program}{k:TypeId}{w w':World}{b n:Nat}{f:List UInt8->Option Value}(h:MapAt P k w b n f)(he:w'.heap[b]?=w.heap[b]?):MapAt P k w' b n f:=Mcr
theorem xA{w w':World}{base e size n:Nat}{v:Value}{xs:List Value}(h:w.ownsRow base e size v n xs)(D:∀j,v.ownBlock=some j->w'.heap[j]?=w.heap[j]?):w'.ownsRow base e size v n xs:=by
 obtain⟨A,⟨e1,e2⟩|⟨g,G,I,e1,J,hh,r⟩⟩:=h
 ·exact⟨A,.inl ⟨e1,e2⟩⟩
 exact⟨A,.inr ⟨g,G,I,e1,J,(D g (by rw[e1];rfl)).trans hh,r⟩⟩
def InsK(wr:World)(rb k:Nat)(f:List UInt8->Option Value):Prop:=∀(s:ByteArray) (ks:List Nat),s.size<=1000000->ks.length<=3->(∀k∈ks,k<=100) ->
 match yo k s.data.toList ks with
 |none=>f (sr s ks)=none
 |some d=>∃v,f (sr s ks)=some (qW d.code v d.size)/\wr.ownsRow 0 111 1 v d.kinds.length (qp d.kinds)/\∀j,v.ownBlock=some j->rb<j
theorem InsK.keep{wr w':World}{rb k:Nat}{f:List UInt8->Option Value}(h:InsK wr rb k f)(G:∀j,rb<j->j<wr.heap.size->w'.heap[j]?=wr.heap[j]?):InsK w' rb k f:=by
 intro s ks h1 h2 h3;have:=h s ks h1 h2 h3;split at this
 ·exact this
 obtain⟨v,q1,q2,A⟩:=this;exact⟨v,q1,xA q2 (fun j D=>G j (A j D) (q2.lt j D).2),A⟩
theorem Z33(wr:World)(rb:Nat):InsK wr rb 0 (fun _=>none):=fun _ _ _ _ _=>rfl
theorem JY{r:Nat×Nat×List UInt8}(h:yj r):(qo r.2.2).length<=3/\∀k∈qo r.2.2,k<=100:=by
 refine⟨by have:=h.few;simpa [qo]using this,fun k hk=>?_⟩;obtain⟨p,A,e⟩:=lf.1 hk;have:=h.ps p A;omega
theorem Fz{r:Nat×Nat×List UInt8}(h:yj r):(⟨(qk r.2.2).toArray⟩:ByteArray).size<=1000:=by
 have h1:(qk r.2.2).length<=r.2.2.length:=(T0B _).length_le;have h2:=h.len;show (qk r.2.2).toArray.size<=1000;rw[lJ];omega
theorem InsK.put{wr:World}{rb k:Nat}{f:List UInt8->Option Value}(h:InsK wr rb k f)(hk:k<rowsL.length)(kv:Value)(G:wr.ownsRow 0 111 1 kv (qo (rowsL[k]).2.2).length (qp (qo (rowsL[k]).2.2)))(I:∀j,kv.ownBlock=some j->rb<j) :
  InsK wr rb (k+1) (rB f (sr ⟨(qk (rowsL[k]).2.2).toArray⟩ (qo (rowsL[k]).2.2)) (qW (rowsL[k]).1 kv (rk (qo (rowsL[k]).2.2):Nat))):=by
 have D:=EM (kC hk);obtain⟨g1,g2⟩:=JY D;have g3:=Fz D;intro s ks h1 h2 h3;rw[Z4G k hk];have J:=h s ks h1 h2 h3;unfold rB;by_cases A:uf s.data.toList ks rowsL[k]=true
 ·rw[jT A];unfold uf at A;simp only[kB,mx]at A
  have hs:s=⟨(qk (rowsL[k]).2.2).toArray⟩:=by
   rw[A.1]
  have he:sr s ks=sr ⟨(qk (rowsL[k]).2.2).toArray⟩ (qo (rowsL[k]).2.2):=by
   rw[<-hs];exact Z8u A.2.symm
  refine⟨kv,?_,G,I⟩;rw[jT he];rfl
 rw[jS A]
 have M:¬sr s ks=sr ⟨(qk (rowsL[k]).2.2).toArray⟩ (qo (rowsL[k]).2.2):=fun e=>by
  obtain⟨a,b⟩:=Z79 h1 ae h2 g1 h3 g2 e;refine A ?_;unfold uf;rw[a];simp[b]
 rw[jS M];exact J
structure NB(w wr:World)(fb bb kb rb kc ki:Nat):Prop where
 hd:wr.heap[w.heap.size]?=some (.cells #[.map none,.map none,.map none] 246 (0,0))
 bk:wr.heap[bb]?=some (.cells #[.map (some (w.heap.size+1)),.map (some (w.heap.size+2)),.map (some fb)] 246 (0,0))
 cn:∃n,n<=kc/\MapAt prog 9 wr (w.heap.size+1) n (tF kc)
 ins:∃n f,n<=ki/\MapAt prog 292 wr (w.heap.size+2) n f/\InsK wr rb ki f
 fx:∃n,MapAt prog 9 wr fb n (fun l=>(pH l).map fixV)
 km:wr.ownsMap prog 9 (plainElem (H:=Unit) prog 111) kb 17 kindsD
 rws:wr.heap[rb]?=some (.cells vJ.toArray 101 (0,0))
 below:Below w.heap.size w wr
 d:w.heap.size+2<fb/\fb<bb/\bb<kb/\kb<rb/\rb<wr.heap.size
theorem NB.upd{w wr w':World}{fb I J rb M O D A:Nat}(h:NB w wr fb I J rb M O)(ho:w'.os=wr.os/\w'.tape=wr.tape/\w'.output=wr.output)(hz:wr.heap.size<=w'.heap.size)
  (hk:∀j,j<wr.heap.size->j≠w.heap.size+1->j≠w.heap.size+2->w'.heap[j]?=wr.heap[j]?) (G:∃n,n<=D/\MapAt prog 9 w' (w.heap.size+1) n (tF D)) (R:∃n f,n<=A/\MapAt prog 292 w' (w.heap.size+2) n f/\InsK w' rb A f):NB w w' fb I J rb D A:=by
 obtain⟨d1,d2,d3,d4,d5⟩:=h.d;obtain⟨n,hf⟩:=h.fx;refine⟨(hk _ ae ae ae).trans h.hd,(hk _ ae ae ae).trans h.bk,G,R,⟨n,hf.at1B (hk _ ae ae ae)⟩,?_,(hk _ ae ae ae).trans h.rws,?_,⟨d1,d2,d3,d4,ae⟩⟩
 ·obtain⟨es,S,h1,h2⟩:=h.km;exact⟨es,S,(hk _ ae ae ae).trans h1,h2⟩
 exact⟨ho.1.trans h.below.os,ho.2.1.trans h.below.tape,ho.2.2.trans h.below.output,j8 h.below.size hz,fun k U=>(hk k ae ae ae).trans (h.below.block k U)⟩
theorem NB.grow{w wr w':World}{fb G I rb J M:Nat}(h:NB w wr fb G I rb J M)(A:Below wr.heap.size wr w'):NB w w' fb G I rb J M:=by
 obtain⟨d1,d2,d3,d4,d5⟩:=h.d;obtain⟨n,hn,hc⟩:=h.cn;obtain⟨O,f,R,hi,S⟩:=h.ins;exact h.upd ⟨A.os,A.tape,A.output⟩ A.size (fun j D _ _=>A.block j D) ⟨n,hn,hc.at1B (A.block _ ae)⟩ ⟨O,f,R,hi.at1B (A.block _ ae),S.keep (fun j _ D=>A.block j D)⟩
theorem NB.count{w wr w':World}{fb M O rb G R:Nat}(h:NB w wr fb M O rb G R)(A:wr.grownBy w' (some (w.heap.size+1)))(I:∃n,n<=G+1/\MapAt prog 9 w' (w.heap.size+1) n (tF (G+1))):NB w w' fb M O rb (G+1) R:=by
 obtain⟨d1,d2,d3,d4,d5⟩:=h.d;obtain⟨S,f,U,hi,V⟩:=h.ins;have J:∀j,j<wr.heap.size->j≠w.heap.size+1->w'.heap[j]?=wr.heap[j]?:=fun j D Z=>A.block j D (fun e=>Z (kp e))
 exact h.upd ⟨A.os,A.tape,A.output⟩ A.size (fun j D h1 _=>J j D h1) I ⟨S,f,U,hi.at1B (J _ ae ae),V.keep (fun j h1 D=>J j D ae)⟩
theorem NB.lay{w wr w':World}{fb I J rb M D:Nat}(h:NB w wr fb I J rb M D)(A:wr.grownBy w' (some (w.heap.size+2)))(R:∃n f,n<=D+1/\MapAt prog 292 w' (w.heap.size+2) n f/\InsK w' rb (D+1) f):NB w w' fb I J rb M (D+1):=by
 obtain⟨d1,d2,d3,d4,d5⟩:=h.d;obtain⟨n,hn,hc⟩:=h.cn;have O:∀j,j<wr.heap.size->j≠w.heap.size+2->w'.heap[j]?=wr.heap[j]?:=fun j G S=>A.block j G (fun e=>S (kp e))
 exact h.upd ⟨A.os,A.tape,A.output⟩ A.size (fun j G _ h2=>O j G h2) ⟨n,hn,hc.at1B (O _ ae ae)⟩ R
