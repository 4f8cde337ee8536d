import Derived.Test.YthokdbcpkmcieaaGreatDoorH09
import Derived.Test.YthokdbcpkmcieaaGreatDoorH05
set_option maxRecDepth 200000
set_option maxHeartbeats 16000000
namespace Go.Proofs.YthokdbcpkmcieaaGreatDoor
open RowKit Maps WideMaps Proofs.Tryz
structure SS(w:World)(sb:Nat)(line place:Int)(label:ByteArray)(task:Int)(name:ByteArray)(vals:Value)(code:Int)(kinds:Value)(size:Int):Prop where
 c0:w.cell? ⟨sb,0,none⟩=some (.int .i64 line)
 c1:w.cell? ⟨sb,1,none⟩=some (.int .i64 place)
 c2:w.cell? ⟨sb,2,none⟩=some (.string label)
 c3:w.cell? ⟨sb,3,none⟩=some (.int .i64 task)
 c4:w.cell? ⟨sb,4,none⟩=some (.string name)
 c5:w.cell? ⟨sb,5,none⟩=some vals
 c6:w.cell? ⟨sb,6,none⟩=some (.int .u8 code)
 c7:w.cell? ⟨sb,7,none⟩=some kinds
 c8:w.cell? ⟨sb,8,none⟩=some (.int .i64 size)
 fz:∀j,w.frozen? ⟨sb,j,none⟩=false
 lt:sb<w.heap.size
theorem MapAt.at1{P:Program}{k:TypeId}{w w':World}{b n:Nat}{f:List UInt8->Option Value}(h:MapAt P k w b n f)(he:w'.heap[b]?=w.heap[b]?):MapAt P k w' b n f:=Mcr
structure Grow2(w w':World)(p q:Nat):Prop where
 os:w'.os=w.os
 tape:w'.tape=w.tape
 output:w'.output=w.output
 size:w.heap.size<=w'.heap.size
 block:∀k,k<w.heap.size->k≠p->k≠q->w'.heap[k]?=w.heap[k]?
theorem Grow2.refl(w:World)(p q:Nat):Grow2 w w p q:=⟨rfl,rfl,rfl,jU,fun _ _ _ _=>rfl⟩
theorem Grow2.trans{w A D:World}{p q:Nat}(h:Grow2 w A p q)(k:Grow2 A D p q):Grow2 w D p q:=
 ⟨k.os.trans h.os,k.tape.trans h.tape,k.output.trans h.output,j8 h.size k.size,fun i hi h1 h2=>(k.block i (ke hi h.size) h1 h2).trans (h.block i hi h1 h2)⟩
theorem Grow2.of1{w w':World}{p:Nat}(h:w.grownBy w' (some p))(q:Nat):Grow2 w w' p q:=⟨h.os,h.tape,h.output,h.size,fun k hk h1 _=>h.block k hk dD⟩
theorem Grow2.ofB{w w':World}(h:Below w.heap.size w w')(p q:Nat):Grow2 w w' p q:=⟨h.os,h.tape,h.output,h.size,fun k hk _ _=>h.block k hk⟩
theorem Grow2.set{w w':World}{p q:Nat}(h:Grow2 w w' p q)(j:Nat)(v:Value):Grow2 w (w'.setCell ⟨q,j,none⟩ v) p q:=
 ⟨h.os,h.tape,h.output,bj,fun k hk h1 h2=>by rw[ly aO];exact h.block k hk h1 h2⟩
theorem rQ{w w':World}{base:Nat}{e:TypeId}{size n:Nat}{v:Value}{xs:List Value}(h:w.ownsRow base e size v n xs)(hb:∀j,v.ownBlock=some j->w'.heap[j]?=w.heap[j]?):w'.ownsRow base e size v n xs:=Mbs
def EachE(w:World)(base:Nat)(v:Value):List Value->List (List Trm)->Prop
 |[],[]=>True
 |x::vs,e::es=>(w.ownsRow base 261 4 x e.length (pN e)/\∀j,x.ownBlock=some j->v.ownBlock≠some j)/\EachE w base v vs es
 |_,_=>False
theorem EachE.kept{w w':World}{base:Nat}{v D:Value}:∀ {vs:List Value} {es:List (List Trm)},EachE w base v vs es->(∀j,base<=j->j<w.heap.size->v.ownBlock≠some j->w'.heap[j]?=w.heap[j]?)->(∀j,j<w.heap.size->v.ownBlock≠some j->D.ownBlock≠some j)->EachE w' base D vs es
 |[],[],_,_,_=>trivial
 |x::vs,e::es,h,h1,h2=>by
  obtain⟨⟨a,b⟩,c⟩:=h
  refine⟨⟨rQ a (fun j A=>h1 j (a.lt j A).1 (a.lt j A).2 (b j A)),fun j A=>h2 j (a.lt j A).2 (b j A)⟩,EachE.kept c h1 h2⟩
 |[],_::_,h,_,_=>h.elim
 |_::_,[],h,_,_=>h.elim
theorem EachE.snoc{w:World}{base:Nat}{v x:Value}{e:List Trm}(hx:w.ownsRow base 261 4 x e.length (pN e)/\∀j,x.ownBlock=some j->v.ownBlock≠some j):∀ {vs:List Value} {es:List (List Trm)},EachE w base v vs es->EachE w base v (vs++[x]) (es++[e])
 |[],[],_=>⟨hx,trivial⟩
 |_::_,_::_,h=>⟨h.1,EachE.snoc hx h.2⟩
 |[],_::_,h=>h.elim
 |_::_,[],h=>h.elim
theorem EachE.len{w:World}{base:Nat}{v:Value}:∀ {vs:List Value} {es:List (List Trm)},EachE w base v vs es->vs.length=es.length
 |[],[],_=>rfl
 |_::_,_::_,h=>by simp[EachE.len h.2]
 |[],_::_,h=>h.elim
 |_::_,[],h=>h.elim
def VAt(w:World)(base:Nat)(v:Value)(es:List (List Trm)):Prop:=∃vs,w.ownsRow base 259 1 v es.length vs/\EachE w base v vs es
theorem SS.grown{w w':World}{sb:Nat}{A p0:Int}{lb:ByteArray}{tk:Int}{nm:ByteArray}{v:Value}{D:Int}{kd:Value}{sz:Int}(h:SS w sb A p0 lb tk nm v D kd sz)(he:w'.heap[sb]?=w.heap[sb]?)(hz:w.heap.size<=w'.heap.size):SS w' sb A p0 lb tk nm v D kd sz:=
 ⟨(jW (a:=⟨sb,0,none⟩) he).trans h.c0,(jW (a:=⟨sb,1,none⟩) he).trans h.c1,(jW (a:=⟨sb,2,none⟩) he).trans h.c2,(jW (a:=⟨sb,3,none⟩) he).trans h.c3,(jW (a:=⟨sb,4,none⟩) he).trans h.c4,(jW (a:=⟨sb,5,none⟩) he).trans h.c5,(jW (a:=⟨sb,6,none⟩) he).trans h.c6,(jW (a:=⟨sb,7,none⟩) he).trans h.c7,(jW (a:=⟨sb,8,none⟩) he).trans h.c8,
  fun j=>(ku (a:=⟨sb,j,none⟩) he).trans (h.fz j),ke h.lt hz⟩
theorem SS.set5{w:World}{sb:Nat}{A p0:Int}{lb:ByteArray}{tk:Int}{nm:ByteArray}{v:Value}{D:Int}{kd:Value}{sz:Int}(h:SS w sb A p0 lb tk nm v D kd sz)(G:Value):SS (w.setCell ⟨sb,5,none⟩ G) sb A p0 lb tk nm G D kd sz:=by
 refine⟨?_,?_,?_,?_,?_,kP _ h.c5,?_,?_,?_,fun j=>aV,cJ⟩
 ·rw[j3 af];exact h.c0
 ·rw[j3 af];exact h.c1
 ·rw[j3 af];exact h.c2
 ·rw[j3 af];exact h.c3
 ·rw[j3 af];exact h.c4
 ·rw[j3 af];exact h.c6
 ·rw[j3 af];exact h.c7
 rw[j3 af];exact h.c8
theorem E5{wr J D:World}{B I sb base:Nat}{b:Bk}{line:Int}{l:List Tok}{l0 p0:Int}{lb:ByteArray}{tk:Int}{nm:ByteArray}{v A x:Value}{cd:Int}{kd:Value}{sz:Int}{acc:List (List Trm)}{e:List Trm}{vs:List Value}{o:Obj}
  (hS:SS wr sb l0 p0 lb tk nm v cd kd sz) (Ke:wr.ownsRow base 259 1 v acc.length vs) (hE:EachE wr base v vs acc) (R:wr.grownBy J (some I)) (hx:J.ownsRow wr.heap.size 261 4 x e.length (pN e)) (LK:PS J B I b line l)
  (Kc:D.ownsRow base 259 1 A (acc.length+1) (vs++[x])) (M:(J.alloc o).grownBy D v.ownBlock) (Kj:A.ownBlock=v.ownBlock\/A.ownBlock=some (J.alloc o).heap.size) (Kk:sb≠I) (hB:B<=sb) (h1:sb<base) (h2:I<base) (h3:base<=wr.heap.size) :
  VAt (D.setCell ⟨sb,5,none⟩ A) base A (acc++[e])/\SS (D.setCell ⟨sb,5,none⟩ A) sb l0 p0 lb tk nm A cd kd sz/\PS (D.setCell ⟨sb,5,none⟩ A) B I b line l/\∀V:World,V.heap.size<=base->Grow2 V wr I sb->Grow2 V (D.setCell ⟨sb,5,none⟩ A) I sb:=by
 have O:∀j,v.ownBlock=some j->base<=j/\j<wr.heap.size:=fun j G=>Ke.lt j G
 have TX:=R.size;have Ya:J.heap.size+1<=D.heap.size:=by have:=M.size;simpa using this
 have hk:∀k,k<wr.heap.size->k≠I->v.ownBlock≠some k->D.heap[k]?=wr.heap[k]?:=fun k hk Z WU=>by
  rw[M.block k ai (fun e=>WU e.symm),kt ae,R.block k hk (by simpa using Z)]
 have Pw:∀k,k<J.heap.size->v.ownBlock≠some k->D.heap[k]?=J.heap[k]?:=fun k hk WU=>by
  rw[M.block k ai (fun e=>WU e.symm),kt hk]
 have Vb:v.ownBlock≠some sb:=fun e=>by have:=(O sb e).1;omega
 have VJ7:v.ownBlock≠some I:=fun e=>by have:=(O I e).1;omega
 have O6:∀k,k≠sb->(D.setCell ⟨sb,5,none⟩ A).heap[k]?=D.heap[k]?:=fun k hk=>ly aJ
 have ZQ:∀j,j<J.heap.size->v.ownBlock≠some j->A.ownBlock≠some j:=fun j G S e=>by
  rcases Kj with h|h
  ·rw[h]at e;exact S e
  rw[h]at e;simp at e;omega
 refine⟨⟨vs++[x],?_,?_⟩,?_,?_,?_⟩
 ·rw[kq];refine rQ Kc (fun j G=>O6 j ?_);have:=(Kc.lt j G).1;omega
 ·refine EachE.snoc ⟨rQ (pC hx h3) (fun j G=>?_),fun j G=>?_⟩ (hE.kept (fun j hb G S=>?_) (fun j G S=>ZQ j ae S))
  ·have Pq:=hx.lt j G;rw[O6 j ae,Pw j Pq.2 (fun e=>by have:=(O j e).2;omega)]
  ·have Pq:=hx.lt j G;exact ZQ j Pq.2 (fun e=>by have:=(O j e).2;omega)
  rw[O6 j ae,hk j G ae S]
 ·exact(hS.grown (hk sb hS.lt Kk Vb) ae).set5 A
 ·refine LK.kept ⟨?_,?_,?_,?_,fun k OS=>?_⟩
  ·exact M.os
  ·exact M.tape
  ·exact M.output
  ·simp[World.setCell];omega
  have SU:=LK.le;rw[O6 k ae,Pw k ae (fun e=>by have:=(O k e).1;omega)]
 intro V Kv U;have KJ:=U.size;refine Grow2.set ⟨(M.os.trans R.os).trans U.os,(M.tape.trans R.tape).trans U.tape,(M.output.trans R.output).trans U.output,ae,fun k OS Z QJ=>?_⟩ 5 A;rw[hk k ae Z (fun e=>by have:=(O k e).1;omega)];exact U.block k OS Z QJ
def qz(tk:Nat):Bool:=tk==1||tk==4||tk==5
def stV(A p0:Int)(lb:ByteArray)(tk:Int)(nm:ByteArray)(v:Value)(D:Int)(kd:Value)(sz:Int):Value:=.agg #[.int .i64 A,.int .i64 p0,.string lb,.int .i64 tk,.string nm,v,.int .u8 D,kd,.int .i64 sz]
theorem GK(w:World)(A p0:Int)(lb:ByteArray)(tk:Nat)(nm:ByteArray)(D:Option Addr)(G I:Nat)(J:Int)(M:Option Addr)(O R:Nat)(sz:Int) :
  Calls prog 216 #[.agg #[.int .i64 A,.int .i64 p0,.string lb,.int .i64 tk,.string nm,.slice D G I,.int .u8 J,.slice M O R,.int .i64 sz]] w fun e w'=>e=.returned (.bool (qz tk))/\Below w.heap.size w w':=by
 have hz:Below w.heap.size w (w.alloc (.cells #[.int .i64 A,.int .i64 p0,.string lb,.int .i64 tk,.string nm,.slice D G I,.int .u8 J,.slice M O R,.int .i64 sz] 130)):=(jV).alloc jU _;by_cases h1:tk=1
 ·subst h1;exact McB
 have U:((tk:Int)==1)=false:=ai;by_cases h4:tk=4
 ·subst h4;exact McB
 have i4:((tk:Int)==4)=false:=ai;by_cases S:tk=5
 ·subst S;exact McB
 have i5:((tk:Int)==5)=false:=ai;have e:qz tk=false:=by unfold qz;simp[h1,h4,S]
 rw[e];exact McB
def qM:Nat->List (List Trm)->List Tok->Option (List (List Trm)×List Tok)
 |0,acc,A=>some (acc,A)
 |_+1,_,[]=>none
 |f+1,acc,t::l=>if t.text=⟨#[44]⟩ then (pQ l).bind fun x=>qM f (acc++[x.1]) x.2 else some (acc,t::l)
def sK(tk:Nat)(A:List Tok):Option (List (List Trm)×List Tok):=(pQ A).bind fun x=>if qz tk=true then some ([x.1],x.2) else qM x.2.length [x.1] x.2
theorem vS{w:World}{base:Nat}{e:TypeId}{size n:Nat}{v:Value}{xs:List Value}(h:w.ownsRow base e size v n xs):∃a m c,v=.slice a m c:=Mcc
theorem IT{wr A:World}{base D n:Nat}{v:Value}{vs:List Value}(h:wr.ownsRow base 259 1 v n vs)(G:wr.grownBy A (some D))(I:D<base)(o:Obj):(A.alloc o).ownsRow base 259 1 v n vs:=(sY h G I).alloc o
theorem Fq{wr A D:World}{base G sb n:Nat}{v u:Value}{vs:List Value}{o:Obj}(Kg:(A.alloc o).grownBy D v.ownBlock)(hc:A.cell? ⟨sb,5,none⟩=some u)(h:wr.ownsRow base 259 1 v n vs)(hs:sb<base/\sb<wr.heap.size)(I:wr.grownBy A (some G)):D.cell? ⟨sb,5,none⟩=some u:=by
 have hz:=I.size;exact Mbl
theorem IK{wr A D:World}{base G sb n:Nat}{v:Value}{vs:List Value}{o:Obj}(Kg:(A.alloc o).grownBy D v.ownBlock)(hc:A.frozen? ⟨sb,5,none⟩=false)(h:wr.ownsRow base 259 1 v n vs)(hs:sb<base/\sb<wr.heap.size)(I:wr.grownBy A (some G)):D.frozen? ⟨sb,5,none⟩=false:=by
 have hz:=I.size;exact Mbc
theorem Tryz.infoExp:(Tryz.prog.info? 259).map (fun i=>(i.zero,i.size,i.bytes))=some (some (.slice none 0 0),1,24):=aj
theorem Gc{w:World}{base:Nat}{e:TypeId}{size n:Nat}{v:Value}{xs:List Value}(h:w.ownsRow base e size v n xs):w.drew.ownsRow base e size v n xs:=h
theorem VAt.below{w w':World}{base:Nat}{v:Value}{es:List (List Trm)}(h:VAt w base v es)(A:Below w.heap.size w w'):VAt w' base v es:=by
 obtain⟨vs,h1,h2⟩:=h;exact⟨vs,h1.below3 A,h2.kept (fun j _ D _=>A.block j D) (fun _ _ h=>h)⟩
theorem VAt.slice{w:World}{base:Nat}{v:Value}{es:List (List Trm)}(h:VAt w base v es):∃a m c,v=.slice a m c:=by
 obtain⟨vs,h1,_⟩:=h;exact vS h1
def Z1u(w:World)(B A sb:Nat)(b:Bk)(line D p0:Int)(lb:ByteArray)(tk:Int)(nm:ByteArray)(G:Int)(kd:Value)(sz:Int)(o:Option (List (List Trm)×List Tok))(e:Ending)(w':World):Prop:=
 match o with
 |none=>e=pj line/\Grow2 w w' A sb
 |some (es,l)=>∃v,e=.returned (.tuple #[])/\VAt w' w.heap.size v es/\SS w' sb D p0 lb tk nm v G kd sz/\PS w' B A b line l/\Grow2 w w' A sb
theorem C7:∀ {f:Nat} {acc x:List Trm} {l l2:List Tok},qu f acc l=some (x,l2)->l2.length<=l.length
 |0,acc,x,l,l2,h=>by simp[qu]at h;rw[h.2];exact jU
 |f+1,acc,x,[],l2,h=>by simp[qu]at h
 |f+1,acc,x,t::l,l2,h=>by
  simp only[qu]at h
  split at h
  ·cases ht:pZ l with
   |none=>rw[ht]at h;cases h
   |some y=>
    rw[ht]at h
    have h1:=C7 (f:=f) h
    have h2:=wa (x:=y.1) (l:=y.2) ht
    simp at h1⊢
    omega
  split at h
  ·cases ht:pZ l with
   |none=>rw[ht]at h;cases h
   |some y=>
    rw[ht]at h
    have h1:=C7 (f:=f) h
    have h2:=wa (x:=y.1) (l:=y.2) ht
    simp at h1⊢
    omega
  cases h;exact jU
theorem yX{A:List Tok}{x:List Trm}{l:List Tok}(h:pQ A=some (x,l)):l.length+1<=A.length:=by
 unfold pQ at h;cases ht:pZ A with
 |none=>rw[ht]at h;cases h
 |some y=>
  rw[ht]at h;have h1:=C7 h;have h2:=wa (x:=y.1) (l:=y.2) ht;omega
theorem Eu{f:Nat}{acc:List (List Trm)}{t:Tok}{l:List Tok}(h:t.text=⟨#[44]⟩):qM (f+1) acc (t::l)=(pQ l).bind fun x=>qM f (acc++[x.1]) x.2:=by simp only[qM];rw[jT h]
theorem Z0w{f:Nat}{acc:List (List Trm)}{t:Tok}{l:List Tok}(h:¬t.text=⟨#[44]⟩):qM (f+1) acc (t::l)=some (acc,t::l):=by simp only[qM];rw[jS h]
theorem BookAt.belowG2{w w':World}{B D sb:Nat}{b:Bk}(h:BookAt w b)(I:Grow2 w w' D sb)(A:Apart B D b)(O:B<=sb):BookAt w' b:=by
 obtain⟨J,hx⟩:=h.fixed;obtain⟨f,n,hf,M⟩:=h.counts;have G:∀k,k<B->k≠D->k<w.heap.size->w'.heap[k]?=w.heap[k]?:=fun k h1 h2 h3=>I.block k h3 h2 ae
 exact⟨⟨f,n,hf.at1 (G _ A.l1 A.h1 hf.lt),M⟩,⟨J,hx.at1 (G _ A.l2 A.h2 hx.lt)⟩,h.dirs.at1 (G _ A.l3 A.h3 h.dirs.lt)⟩
theorem Jt(w:World)(B A sb:Nat)(b:Bk)(line:Int)(ts:List Tok)(h:PS w B A b line ts)(hb:BookAt w b)(ha:Apart B A b)(hn:ts.length<=1000000)(l0 p0:Int)(lb:ByteArray)(tk:Nat)(nm:ByteArray)(cd:Int)(ka:Option Addr)(kn kc:Nat)(sz:Int)
 (hS:SS w sb l0 p0 lb tk nm (.slice none 0 0) cd (.slice ka kn kc) sz) (Kk:sb≠A) (hB:B<=sb) :
 Calls prog 212 #[.pointer (some ⟨A,0,none⟩),.pointer (some ⟨sb,0,none⟩)] w (Z1u w B A sb b line l0 p0 lb tk nm cd (.slice ka kn kc) sz (sK tk ts)):=by
 obtain⟨i0,hi,KJ,KC,Ky⟩:=kQ Tryz.infoExp;have RH:A<w.heap.size:=ke h.lt h.le;have MW:=zW w.drew B A b line ts (h.kept jV.drew) (hb.below jV.drew) ha hn;obtain⟨R,hR⟩:=Zg0 (sK tk ts);rw[hR];have c5:=hS.c5;have f5:=hS.fz 5;have Kz:=oP hS;have S:=oP hS.lt;have PV:=oP (And.intro hS.lt hS.lt);have U:=oP (Gc (oz w w.heap.size 259 1));have Lm:∀args w,(callFunc 250 args).run prog w=.ok (.enter 250 args) w:=enters_of func250 aj rfl;have Lu:=oP hb;have TK:=oP hS.lt;clear h hb hS;cases hx:pQ ts with
 |none=>
  have e:R=none:=by rw[<-hR];unfold sK;rw[hx];rfl
  rw[e];rw[hx]at MW;have HX:=oP MW;have TO:=S.o;clear MW hx e hR;go_enter func212,ntmps212;go_wp2_with fail;go_region_law (first| (refine A8 250 #[.pointer (some ⟨A,0,none⟩)] rfl aW _ HX.o (fun e w' hh=>⟨_,hh.1,rfl,rfl,Grow2.of1 ((sR jV.drew).trans2 hh.2) _⟩) ?_;intro HF)|(refine yO HF ?_))
  all_goals exact HF.o.elim
 |some xl=>
  obtain⟨x,l⟩:=xl;have N5:=yX hx;have e:R=if qz tk=true then some ([x],l) else qM l.length [x] l:=by rw[<-hR];unfold sK;rw[hx];rfl
  have HE:=oP e;rw[hx]at MW;have HX:=oP MW;clear MW hx e hR;go_enter func212,ntmps212;go_wp2_with fail;go_cut [] (fun wx=>∃D G I,VAt wx w.heap.size (.slice D G I) [x]/\SS wx sb l0 p0 lb tk nm (.slice D G I) cd (.slice ka kn kc) sz/\PS wx B A b line l/\Grow2 w wx A sb)
  case first=>
   go_region_law (first| (refine zi 250 #[.pointer (some ⟨A,0,none⟩)] rfl aW _ _ HX.o (fun e w' hh=>hh) ?_;rintro xv w3 ⟨RI,LK,Kr⟩;obtain⟨xa,xn,xc,rfl⟩:=vS RI;have M:=(th Kr ⟨sb,5,none⟩ S.o ay).trans c5;have O:=(tY Kr ⟨sb,5,none⟩ S.o ay).trans f5;have l5:sb<w3.heap.size:=ke S.o Kr.size)|(refine xj rfl (.tmp 8) (.tmp 11) 125 rfl w.heap.size 259 i0 _ 1 24 underlying125 hi KJ KC Ky rfl ah (.slice none 0 0) 0 [] aB (by exact IT U.o Kr RH _) ⟨w3.heap.size,0,none⟩ 1 1 [.slice xa xn xc] aB rfl l8 ax ak ae fR ?_;intro v' wn Kc V Kj;obtain⟨RJ,Ve,RL,rfl⟩:=vS Kc;have q5:=Fq V M (U.o) PV.o Kr;have q6:=IK V O (U.o) PV.o Kr))
   all_goals
    have VN:=E5 (acc:=[]) (e:=x) (vs:=[]) (Kz.o.grown (w':=w.drew) rfl jU) U.o trivial Kr RI LK Kc V Kj Kk hB S.o RH jU;have Z:=oP VN;clear VN Kc V Kj q5 q6 M O RI LK Kr;go_wp2_with fail;go_meet;exact⟨_,_,_,Z.o.1,Z.o.2.1,Z.o.2.2.1,Z.o.2.2.2 w jU (Grow2.ofB jV.drew _ _)⟩
  case rest=>
  obtain⟨D,G,I,hV,ZR,WX8,Yb⟩:=hcut;have HZ:=oP (And.intro hV (And.intro WX8 Yb));have U9:=oP ZR;obtain⟨s0,s1,s2,s3,s4,s5,s6,s7,s8,sf,sl⟩:=ZR;have HD:=oP (GK wc l0 p0 lb tk nm D G I cd ka kn kc sz);clear HX U Kz c5 f5 hV WX8 Yb sf;cases hd:qz tk with
  |true=>
   rw[hd]at HD;have Ld:=oP (show R=some ([x],l) by rw[HE.o,jT hd]);clear hd;go_wp2_with fail;refine HD.o.mono ?_;rintro e w4 ⟨rfl,J⟩;go_wp2_with fail;refine kf (nt rfl _ _ _) rfl ?_;rw[Ld.o];exact⟨_,rfl,HZ.o.1.below J,U9.o.grown (J.block sb sl) J.size,HZ.o.2.1.kept (J.mono HZ.o.2.1.le),HZ.o.2.2.trans (Grow2.ofB J _ _)⟩
  |false=>
   rw[hd]at HD;have Ld:=oP (show qM l.length [x] l=R by rw[HE.o,jS cF]);clear hd HE;go_wp2_with fail;refine HD.o.mono ?_;rintro e w4 ⟨rfl,J⟩;go_wp2_with fail;have H0:=oP (And.intro (HZ.o.1.below J) (And.intro (U9.o.grown (J.block sb sl) J.size) (And.intro (HZ.o.2.1.kept (J.mono HZ.o.2.1.le)) (HZ.o.2.2.trans (Grow2.ofB J _ _)))));clear HZ U9 HD s0 s1 s2 s3 s4 s5 s6 s7 s8 sl J;go_loopw [] (fun wr=>∃(acc:List (List Trm)) (l1:List Tok) (f:Nat) (D:Option Addr) (G I:Nat),l1.length<=f/\acc.length+l1.length<=1000001/\Hid (qM f acc l1=R)/\VAt wr w.heap.size (.slice D G I) acc/\SS wr sb l0 p0 lb tk nm (.slice D G I) cd (.slice ka kn kc) sz/\PS wr B A b line l1/\Grow2 w wr A sb) (fun wr=>zP wr A)
   case atStart=>exact⟨[x],l,l.length,D,G,I,jU,ai,Ld,H0.o.1,H0.o.2.1,H0.o.2.2.1,H0.o.2.2.2⟩
   case round=>
    obtain⟨acc,l1,f,D,G,I,hf,PN,NO,hV,Wu2,Yc,WD4⟩:=hrel;obtain⟨t,l2,rfl⟩:=Yc.ne;have QM:=Yc.left;have RC:=oP QM;clear QM H0;obtain⟨f',rfl⟩:∃f',f=f'+1:=⟨f-1,bM⟩;simp at hf PN;by_cases h1:t.text=⟨#[44]⟩
    ·have HS:=oP (vN wr B A b line t l2 ⟨#[44]⟩ Yc h1 ah);have WX9:=oP hV;have WY0:=oP Wu2;clear Yc hV Wu2;go_wp2_with fail;refine HS.o.mono ?_;rintro e w2 ⟨rfl,MC,KM⟩;have SV:sb<wr.heap.size:=WY0.o.lt;have Oy:=WY0.o.grown (KM.block sb SV ay) KM.size;have Px:=WD4.trans (Grow2.of1 KM sb);have WY1:=Px.size;obtain⟨vs,Pt,ZS⟩:=WX9.o;have Mn:w2.ownsRow w.heap.size 259 1 (.slice D G I) acc.length vs:=sY Pt KM RH;have MH:∀j,(Value.slice D G I).ownBlock=some j->w.heap.size<=j:=fun j hj=>(Pt.lt j hj).1
     have SW:EachE w2 w.heap.size (.slice D G I) vs acc:=ZS.kept (fun j hj K2 _=>KM.block j K2 ai) (fun _ _ h=>h);have Mb:=Lu.o.belowG2 Px ha hB;have SX:=zW w2.drew B A b line l2 (MC.kept jV.drew) (Mb.below jV.drew) ha ae;have c5:=Oy.c5;have f5:=Oy.fz 5;have S:=oP Oy.lt;have PV:=oP (And.intro TK.o Oy.lt);have U:=oP (Gc Mn);have Kz:=oP Oy;have Wu3:=oP SW;clear MC Mb WX9 Pt ZS Mn SW Oy;cases hx:pQ l2 with
     |none=>
      have SY:=oP (show R=none by rw[<-NO.o,Eu h1,hx];rfl);rw[hx]at SX;have HX:=oP SX;have TO:=S.o;clear SX hx;go_wp2_with fail;go_region_law (first| (refine A8 250 #[.pointer (some ⟨A,0,none⟩)] rfl aW _ HX.o (fun e w' hh=>⟨_,hh.1,rfl,by rw[SY.o];exact⟨rfl,Px.trans (Grow2.of1 ((sR jV.drew).trans2 hh.2) _)⟩⟩) ?_;intro HF)|(refine yO HF ?_))
      all_goals exact HF.o.elim
     |some yl=>
      obtain⟨y,l3⟩:=yl;have SU:=yX hx;have SY:=oP (show qM f' (acc++[y]) l3=R by rw[<-NO.o,Eu h1,hx];rfl);rw[hx]at SX;have HX:=oP SX;clear SX hx;go_wp2_with fail;go_region_law (first| (refine zi 250 #[.pointer (some ⟨A,0,none⟩)] rfl aW _ _ HX.o (fun e w' hh=>hh) ?_;rintro xv w3 ⟨RI,LK,Kr⟩;obtain⟨xa,xn,xc,rfl⟩:=vS RI;have M:=(th Kr ⟨sb,5,none⟩ S.o ay).trans c5;have O:=(tY Kr ⟨sb,5,none⟩ S.o ay).trans f5;have l5:sb<w3.heap.size:=ke S.o Kr.size)|(refine xj rfl (.tmp 25) (.tmp 28) 125 rfl w.heap.size 259 i0 _ 1 24 underlying125 hi KJ KC Ky rfl ah (.slice D G I) acc.length vs aB (by exact IT U.o Kr RH _) ⟨w3.heap.size,0,none⟩ 1 1 [.slice xa xn xc] aB rfl l8 ax ak ae fR ?_;intro v' wn Kc V Kj;obtain⟨RJ,Ve,RL,rfl⟩:=vS Kc;have q5:=Fq V M (U.o) PV.o Kr;have q6:=IK V O (U.o) PV.o Kr))
      all_goals
       have VN:=E5 (acc:=acc) (e:=y) (vs:=vs) (Kz.o.grown (w':=w2.drew) rfl jU) U.o (Wu3.o.kept (fun _ _ _ _=>rfl) (fun _ _ h=>h)) Kr RI LK Kc V Kj Kk hB TK.o RH (by have:=Px.size;exact this);have Sp:=VN.2.2.1.left;have VH:=oP Sp;have Z:=oP VN;clear VN Kc V Kj q5 q6 M O RI LK Kr Sp;go_wp2;go_roundw
       case rel=>exact⟨acc++[y],l3,f',_,_,_,ae,ai,SY,Z.o.1,Z.o.2.1,Z.o.2.2.1,Z.o.2.2.2 w jU (Px.trans (Grow2.ofB jV.drew _ _))⟩
       case measure=>rw[VH.o,RC.o];simp;omega
    have HS:=oP (wQ wr B A b line t l2 ⟨#[44]⟩ Yc h1);have SY:=oP (show R=some (acc,t::l2) by rw[<-NO.o,Z0w h1]);have HQ:=oP (And.intro hV (And.intro Wu2 (And.intro Yc WD4)));clear hV Wu2 Yc WD4;go_wp2_with fail;refine HS.o.mono ?_;rintro e w0 ⟨rfl,Kv⟩;rw[Kv];clear Kv w0;go_wp2_with fail
    first
     | (refine kf (nt rfl _ _ _) rfl ?_;rw[SY.o];exact⟨_,rfl,HQ.o.1,HQ.o.2.1,HQ.o.2.2.1,HQ.o.2.2.2⟩)
     | (go_end0;rw[SY.o];exact⟨_,rfl,HQ.o.1,HQ.o.2.1,HQ.o.2.2.1,HQ.o.2.2.2⟩)
structure ImgR(w:World)(bb bo lb lo sb so:Nat)(B:List UInt8)(L S:List Bool):Prop where
 y:∀k (h:k<B.length),w.cell? ⟨bb,bo+k,none⟩=some (.int .u8 (B[k].toNat:Int))
 l:∀k (h:k<L.length),w.cell? ⟨lb,lo+k,none⟩=some (.bool L[k])
 s:∀k (h:k<S.length),w.cell? ⟨sb,so+k,none⟩=some (.bool S[k])
 bl:B.length=1024
 ll:L.length=1024
 sl:S.length=1024
 b1:bb<w.heap.size
 b2:lb<w.heap.size
 b3:sb<w.heap.size
theorem ImgR.below{w w':World}{D G lb lo sb I:Nat}{B:List UInt8}{L S:List Bool}(h:ImgR w D G lb lo sb I B L S)(A:Below w.heap.size w w'):ImgR w' D G lb lo sb I B L S:=
 ⟨fun k hk=>(jW (a:=⟨D,G+k,none⟩) (A.block D h.b1)).trans (h.y k hk),fun k hk=>(jW (a:=⟨lb,lo+k,none⟩) (A.block lb h.b2)).trans (h.l k hk),fun k hk=>(jW (a:=⟨sb,I+k,none⟩) (A.block sb h.b3)).trans (h.s k hk),
  h.bl,h.ll,h.sl,ke h.b1 A.size,ke h.b2 A.size,ke h.b3 A.size⟩
abbrev imV(bb bo bc lb lo lc sb so sc:Nat):Value:=.agg #[.slice (some ⟨bb,bo,none⟩) 1024 bc,.slice (some ⟨lb,lo,none⟩) 1024 lc,.slice (some ⟨sb,so,none⟩) 1024 sc]
theorem xm(w:World)(v0 A v2:Value):∃W,w.alloc (.cells #[v0,A,v2] 35)=W/\Below w.heap.size w W/\W.heap.size=w.heap.size+1/\W.cell? ⟨w.heap.size,0,none⟩=some v0/\W.cell? ⟨w.heap.size,1,none⟩=some A/\W.cell? ⟨w.heap.size,2,none⟩=some v2:=by
 have hh:=kg w (.cells #[v0,A,v2] 35);refine⟨_,rfl,jV.alloc jU _,af,?_,?_,?_⟩
 ·rw[jY (0,0) hh];rfl
 ·rw[jY (0,0) hh];rfl
 rw[jY (0,0) hh];rfl
theorem Gd(a0 a1 a2:Option Addr)(n0 c0 n1 c1 A c2:Nat)(h0:n0<=maxLen)(h1:n1<=maxLen)(h2:A<=maxLen)(w:World) :
  Calls prog 66 #[.agg #[.slice a0 n0 c0,.slice a1 n1 c1,.slice a2 A c2]] w fun e w'=>e=.returned (.bool (decide (n0=1024/\n1=1024/\A=1024)))/\Below w.heap.size w w':=by
 have hb:Below w.heap.size w (w.alloc (.cells #[.slice a0 n0 c0,.slice a1 n1 c1,.slice a2 A c2] 35)):=(jV).alloc jU _;by_cases D:n0=1024
 ·by_cases e1:n1=1024
  ·by_cases e2:A=1024
   ·rw[kj ⟨D,e1,e2⟩];subst D e1 e2;exact McE
   rw[j9 (fun h=>e2 h.2.2)];subst D e1;have g2:((A:Int)==1024)=false:=ai;exact McE
  rw[j9 (fun h=>e1 h.2.1)];subst D;have g1:((n1:Int)==1024)=false:=ai;exact McE
 rw[j9 (fun h=>D h.1)];have g0:((n0:Int)==1024)=false:=ai;exact McE
def ldN(L:List Bool)(p:Nat):Nat:=(((L.drop p).take 3).takeWhile id).length
def tW(B:List UInt8)(L:List Bool)(p:Nat):ByteArray:=⟨((B.drop p).take (ldN L p)).toArray⟩
theorem IZ:∀(l:List Bool) (k:Nat),(∀j,j<k->l[j]?=some true)->(∀b,l[k]?=some b->b=false)->(l.takeWhile id).length=k
 |[],k,h,_=>by
  cases k with
  |zero=>rfl
  |succ k=>have:=h 0 ae;simp at this
 |x::l,0,_,h2=>by
  have:x=false:=h2 x rfl
  subst this
  rfl
 |x::l,k+1,h,h2=>by
  have hx:x=true:=by have:=h 0 ae;simpa using this
  subst hx
  have ih:=IZ l k (fun j D=>by have:=h (j+1) ae;simpa using this) (fun b A=>h2 b (by simpa using A))
  simp[ih]
theorem Af{L:List Bool}{p k:Nat}(G:L.length=1024)(hk:k<=3)(_hp:p+k<=1024)(h1:∀j,j<k->L[p+j]?=some true)(h2:k=3\/p+k=1024\/L[p+k]?=some false):ldN L p=k:=by
 unfold ldN;refine IZ _ _ (fun j D=>?_) (fun b A=>?_)
 ·rw[n9,jT ae,mK];exact h1 j D
 rw[n9]at A;split at A
 ·rename_i h3
  rw[mK]at A;rcases h2 with e|e|e
  ·omega
  ·rw[mg ae]at A;cases A
  rw[e]at A;exact(kp A).symm
 cases A
theorem Z3a{w:World}{D A lb lo sb J:Nat}{B:List UInt8}{L S:List Bool}(h:ImgR w D A lb lo sb J B L S)(p k G:Nat)(O:p+k<=1024):(convert 32 9 (.slice (some ⟨D,A+p,none⟩) k G)).run prog w=.ok (.string ⟨((B.drop p).take k).toArray⟩) w:=by
 have R:=h.bl;have I:((B.drop p).take k).length=k:=by rw[nD,mD];omega
 have:=og (P:=prog) w 32 9 5 ⟨D,A+p,none⟩ G ((B.drop p).take k) underlying32 underlying5 underlying9 (fun j M=>by
  rw[I]at M;have hc:=h.y (p+j) ae;rw[k9,show A+p+j=A+(p+j) by omega,hc];rw[T0t,T0u])
 rw[I]at this;exact this
theorem Z1H(D G bc lb lo Z sb O sc:Nat)(B:List UInt8)(L S:List Bool)(p:Nat)(hp:p<1024)(w:World)(h:ImgR w D G lb lo sb O B L S)(Sq:1024<=bc/\bc<=maxLen) :
  Calls prog 111 #[imV D G bc lb lo Z sb O sc,.int .i64 (p:Int)] w fun e w'=>e=.returned (.string (tW B L p))/\Below w.heap.size w w':=by
 obtain⟨W,hW,R,hz,u0,u1,u2⟩:=xm w (.slice (some ⟨D,G,none⟩) 1024 bc) (.slice (some ⟨lb,lo,none⟩) 1024 Z) (.slice (some ⟨sb,O,none⟩) 1024 sc);have hR:=h.below R;have HR:=oP hR;have HB:=oP R;have U:=h.ll;have Vo9:(1024:Int)<=(bc:Int):=ae;have Vp0:(bc:Int)<=9223372036854775807:=by unfold maxLen at Sq;omega
 obtain⟨A,Nl⟩:∃A:Nat,p+3=A:=⟨_,rfl⟩;have LK:(p:Int)+3=(A:Int):=ae;clear h hR R;go_enter func111,ntmps111;go_upto_region 2 with fail;clear hW;go_loopw [5] (fun i wz=>∃k:Nat,k<=3/\p+k<=1024/\i=.int .i64 ((p+k:Nat):Int)/\wz=W/\∀j,j<k->L[p+j]?=some true) (fun i _=>1024-(intOf i).toNat)
 case atStart=>exact⟨0,ae,ae,rfl,rfl,fun j hj=>absurd hj (lH _)⟩
 case round=>
  obtain⟨k,V,I,rfl,rfl,WV⟩:=hrel;have J:=oP WV;obtain⟨E,hE⟩:∃E:Nat,p+k=E:=⟨_,rfl⟩;rw[hE]
  have Oz:ldN L p=k->(convert 32 9 (.slice (some ⟨D,G+p,none⟩) (E-p) (bc-p))).run prog wr=.ok (.string (tW B L p)) wr:=fun e=>by
   have:=Z3a HR.o p k (bc-p) I;unfold tW;rw[e,show E-p=k by omega];exact this
  have Qu:=oP Oz;clear Oz WV;by_cases c1:E<1024
  ·by_cases c2:E<A
   ·obtain⟨x,hx⟩:∃x,L[E]?=some x:=⟨_,jX ae⟩
    have cl:wr.cell? ⟨lb,lo+E,none⟩=some (.bool x):=by
     obtain⟨hi,e2⟩:=mh.1 hx;rw[HR.o.l E hi,e2]
    have d1:(E:Int)<1024:=ae;have d2:(E:Int)<(A:Int):=ae;cases x with
    |true=>
     have HX:=oP hx;have M:=oP hE;clear hx hE;go_wp2;go_roundw
     case rel=>exact⟨k+1,by have:=M.o;omega,by have:=M.o;omega,by rw[<-M.o];go_num,(by first| rfl|trivial),fun j hj=>by
      by_cases Vf:j<k
      ·exact J.o j Vf
      ·rw[show p+j=E by have:=M.o;omega];exact HX.o⟩
     case measure=>simp[intOf];omega
    |false=>
     have TZ:ldN L p=k:=Af U V I J.o (.inr (.inr (by rw[hE];exact hx)));have O1:=Qu.o TZ;have d3:(p:Int)<=(E:Int):=ae;have d4:(E:Int)<=(bc:Int):=ae;have d5:¬bc=p:=ae;clear Qu hx hE TZ;go_wp2;go_ret;exact⟨rfl,HB.o⟩
   have d1:(E:Int)<1024:=ae;have d2:¬(E:Int)<(A:Int):=ae;have TZ:ldN L p=k:=Af U V I J.o (.inl ae);exact Ma7
  have d1:¬(E:Int)<1024:=ae;have TZ:ldN L p=k:=Af U V I J.o (.inr (.inl ae));exact Ma7
def uW(f:List UInt8->Option Value)(nm:List UInt8)(k:Nat):Nat->(List UInt8->Option Value)
 |0=>f
 |i+1=>rB (uW f nm k i) (nm++Lib.decDigits i) (fixV (k,i))
theorem vk(n:Nat)(o:Option Value):vq n o<=n+1:=by
 cases o
 ·exact jU
 exact Nat.le_succ _
theorem Z16{w A D:World}{r:Option Nat}(h:w.grownBy A r)(g:A.grownBy D r):w.grownBy D r:=
 ⟨g.os.trans h.os,g.tape.trans h.tape,g.output.trans h.output,j8 h.size g.size,fun k hk G=>(g.block k (ke hk h.size) G).trans (h.block k hk G)⟩
theorem JU(fb n:Nat)(f:List UInt8->Option Value)(nm:ByteArray)(k cnt:Nat)(w:World)(J:MapAt prog 9 w fb n f)(hn:n<=1000)(hnm:nm.size<=1000)(hc:cnt<=10) :
  Calls prog 242 #[.map (some fb),.string nm,.int .i64 (k:Int),.int .i64 (cnt:Int)] w fun e w'=>e=.returned (.tuple #[])/\(∃A,A<=n+cnt/\MapAt prog 9 w' fb A (uW f nm.data.toList k cnt))/\w.grownBy w' (some fb):=by
 have M:=oP J;clear J;go_enter func242,ntmps242;go_wp2_with fail;go_loopw [10] (fun i wr=>∃j:Nat,j<=cnt/\i=.int .i64 j/\(∃A,A<=n+j/\MapAt prog 9 wr fb A (uW f nm.data.toList k j))/\w.grownBy wr (some fb)) (fun i _=>cnt-(intOf i).toNat)
 case atStart=>exact⟨0,j4,rfl,⟨n,jU,M.o⟩,⟨rfl,rfl,rfl,jU,fun _ _ _=>rfl⟩⟩
 case round=>
  obtain⟨j,hj,rfl,⟨A,Rt,O⟩,R⟩:=hrel;have S:=oP O;have U:=oP R;clear O R M;by_cases Kf:j<cnt
  ·have K6:(j:Int)<(cnt:Int):=by omega
   have V:=oP (fun w'=>Tryz.strconv_Itoa_small j ae w')
   have Z:(Lib.decDigits j).length<=100:=by
    have Ko:∀i:Fin 10,(Lib.decDigits i.val).length<=100:=aq;exact Ko ⟨j,ae⟩
   obtain⟨D,I⟩:∃D:ByteArray,(⟨(Lib.decDigits j).toArray⟩:ByteArray)=D:=⟨_,rfl⟩;have VJ8:D.size<=100:=by rw[<-I];simpa [ByteArray.size]using Z
   have G:D.data.toList=Lib.decDigits j:=by rw[<-I]
   have KN:keyOf prog 9 (.string (nm++D))=some (.string (nm.data.toList++Lib.decDigits j)):=by
    rw[<-G,<- T0v,<- oy];exact kO underlying9 (by unfold maxLen;rw[lK];omega)
   rw[I]at V;have HK:=oP KN;have KB:nm.size+D.size<=2000:=ae;clear I G KN Z;go_wp2_with fail;refine(V.o _).mono ?_;rintro e w1 ⟨rfl,rfl⟩;go_wp2_with (at_mapUpdate;refine vV _ rfl _ _ _ 244 rfl 9 324 rz underlying244 fb A _ rfl S.o ak _ (fixV (k,j)) _ rfl rfl HK.o ?_;intro w2 Mc KM);go_roundw
   case rel=>exact⟨j+1,ae,ao,⟨_,by have:=vk A (uW f nm.data.toList k j (nm.data.toList++Lib.decDigits j));omega,Mc⟩,Z16 U.o KM⟩
   case measure=>simp[intOf];omega
  have K6:¬(j:Int)<(cnt:Int):=ae;have ej:j=cnt:=ae;subst ej;go_wp2;go_end0;exact⟨rfl,⟨A,Rt,S.o⟩,U.o⟩
def rX(x:List UInt8×Nat×Nat):List UInt8:=if x.2.1=7 then [64,82] else if x.2.1=8 then [82] else x.1
def rq(left:Lit->Bool)(l:List UInt8):Option Value:=match pU.find? (fun x=>x.1==l) with
 |some x=>if left (.string (rX x)) then none else some (fixV x.2)
 |none=>none
def vF(l:List UInt8)(f:List UInt8->Option Value)(A:List UInt8):Option Value:=match pU.find? (fun x=>x.1==A) with
 |some x=>if rX x=l then some (fixV x.2) else f A
 |none=>none
theorem Z4T(left:Lit->Bool)(l A:List UInt8):rq (fun z=>left z&&!z.sameKey (.string l)) A=vF l (rq left) A:=by
 unfold vF;cases h:pU.find? (fun x=>x.1==A) with
 |none=>
  unfold rq;rw[h]
 |some x=>
  unfold rq;rw[h];by_cases e:rX x=l
  ·subst e;have:Lit.sameKey (.string (rX x)) (.string (rX x))=true:=WideAt.sameKey_self trivial;simp[this]
  have:Lit.sameKey (.string (rX x)) (.string l)=false:=by
   cases hs:Lit.sameKey (.string (rX x)) (.string l) with
   |false=>rfl
   |true=>exact absurd (by simpa [Lit.sameKey]using hs) e
  simp[this,e]
theorem Z91(left:Lit->Bool)(l:List UInt8)(h:pU.find? (fun x=>x.1==l)=none):rq left l=none:=by
 unfold rq;rw[h]
theorem Z0m(left:Lit->Bool)(h:∀z,left z=false)(l:List UInt8):rq left l=(pH l).map fixV:=by
 unfold rq pH;cases pU.find? (fun x=>x.1==l) with
 |none=>rfl
 |some x=>simp[h]
theorem Z5I:∀x∈pU,Maps.has kindsD (.string (rX x))=true:=aq
theorem Z1X(l:List UInt8):rq (Maps.has kindsD) l=none:=by
 unfold rq;cases h:pU.find? (fun x=>x.1==l) with
 |none=>rfl
 |some x=>simp[Z5I x (List.mem_of_find?_eq_some h)]
theorem Z5C:∀(L:List (List UInt8×Nat)) (D:DataW Unit),IsMap D->IsMap (L.foldl (fun D kv=>D.put (.string kv.1) (.lit (.int .i64 kv.2))) D)
 |[],_,h=>h
 |kv::L,D,h=>Z5C L _ fS
theorem ES(l:List UInt8)(z:DataW Unit):∀(L:List (List UInt8×Nat)) (D:DataW Unit),IsMap D->(L.foldl (fun D kv=>D.put (.string kv.1) (.lit (.int .i64 kv.2))) D).atKey (.string l) z=D.atKey (.string l) z\/∃kv∈L,kv.1=l/\(L.foldl (fun D kv=>D.put (.string kv.1) (.lit (.int .i64 kv.2))) D).atKey (.string l) z=.lit (.int .i64 kv.2)
 |[],_,_=>.inl rfl
 |kv::L,D,h=>by
  have G:IsMap (D.put (.string kv.1) (.lit (.int .i64 kv.2))):=fS
  rcases ES l z L _ G with e|⟨x,hx,e1,e2⟩
  ·by_cases A:kv.1=l
   ·right
    refine⟨kv,af,A,?_⟩
    show (L.foldl _ (D.put (.string kv.1) (.lit (.int .i64 kv.2)))).atKey (.string l) z=_
    rw[e,<- A,atKey_put_same h (k:=.string kv.1) trivial]
   left
   show (L.foldl _ (D.put (.string kv.1) (.lit (.int .i64 kv.2)))).atKey (.string l) z=_
   rw[e,atKey_put_other (by simpa using fun e=>A e.symm)]
  exact .inr ⟨x,by simp[hx],e1,e2⟩
theorem Z1y{l:List UInt8}{c:Int}(h:∀D,kindsD.atKey (.string l) D=.lit (.int .i64 c)):∃kv∈wL,kv.1=l/\(kv.2:Int)=c:=by
 rcases ES l .nil wL (.map []) isMap_empty with e|⟨kv,h1,h2,h3⟩
 ·have h0:=h .nil;have A:kindsD.atKey (.string l) .nil=.nil:=e;rw[A]at h0;cases h0
 have h0:=h .nil;have A:kindsD.atKey (.string l) .nil=.lit (.int .i64 kv.2):=h3;rw[A]at h0;injection h0 with h0;injection h0 with _ h0;exact⟨kv,h1,h2,h0⟩
theorem Z04(l:List UInt8)(D:∀x∈pU,rX x≠l)(f:List UInt8->Option Value)(hf:∀A,pU.find? (fun x=>x.1==A)=none->f A=none)(A:List UInt8):vF l f A=f A:=by
 unfold vF;cases h:pU.find? (fun x=>x.1==A) with
 |none=>exact(hf A h).symm
 |some x=>exact jS (D x (mE h))
theorem Z9z(l:List UInt8)(c:Nat)(h1:∀x∈pU,rX x=l->x.1=l/\x.2=(c,0))(h2:∀x∈pU,x.1=l->rX x=l)(h3:pU.find? (fun x=>x.1==l)≠none)(f:List UInt8->Option Value)(hf:∀A,pU.find? (fun x=>x.1==A)=none->f A=none)(A:List UInt8):vF l f A=rB f l (fixV (c,0)) A:=by
 unfold vF rB;cases h:pU.find? (fun x=>x.1==A) with
 |none=>
  rw[jS (fun e=>h3 (by rw[<-e];exact h))];exact(hf A h).symm
 |some x=>
  have D:=mE h;have he:x.1=A:=by simpa using nw h
  by_cases e:rX x=l
  ·obtain⟨a,b⟩:=h1 x D e;show (if rX x=l then some (fixV x.2) else f A)=_;rw[jT e,b,jT (he.symm.trans a)]
  show (if rX x=l then some (fixV x.2) else f A)=_;rw[jS e,jS (fun e2=>e (h2 x D (he.trans e2)))]
theorem F9(f:List UInt8->Option Value)(nm:List UInt8)(k:Nat)(A:List UInt8):∀n,(∃i,i<n/\A=nm++Lib.decDigits i/\(∀j,j<n->i<j->A≠nm++Lib.decDigits j)/\uW f nm k n A=some (fixV (k,i)))\/((∀i,i<n->A≠nm++Lib.decDigits i)/\uW f nm k n A=f A)
 |0=>.inr ⟨fun i hi=>absurd hi (lH _),rfl⟩
 |n+1=>by
  by_cases e:A=nm++Lib.decDigits n
  ·refine .inl ⟨n,lW,e,fun j h1 h2=>ae,?_⟩
   show (if A=nm++Lib.decDigits n then _ else _)=_
   rw[jT e]
  have hn:uW f nm k (n+1) A=uW f nm k n A:=jS e
  rcases F9 f nm k A n with⟨i,h1,h2,h3,h4⟩|⟨h1,h2⟩
  ·refine .inl ⟨i,ae,h2,fun j J D=>?_,hn.trans h4⟩
   by_cases G:j=n
   ·rw[G];exact e
   exact h3 j ae D
  refine .inr ⟨fun i hi=>?_,hn.trans h2⟩
  by_cases I:i=n
  ·rw[I];exact e
  exact h1 i ae
theorem JW(l:List UInt8)(k n:Nat)(h1:∀i,i<n->(pU.find? (fun x=>x.1==l++Lib.decDigits i))=some (l++Lib.decDigits i,k,i))(h2:∀i,i<n->rX (l++Lib.decDigits i,k,i)=l)(h3:∀x∈pU,rX x=l->∃i,i<n/\x.1=l++Lib.decDigits i)(f:List UInt8->Option Value)(hf:∀A,pU.find? (fun x=>x.1==A)=none->f A=none)(A:List UInt8):vF l f A=uW f l k n A:=by
 rcases F9 f l k A n with⟨i,hi,e1,_,e2⟩|⟨e1,e2⟩
 ·rw[e2];unfold vF;rw[e1,h1 i hi];simp[h2 i hi]
 rw[e2];unfold vF;cases h:pU.find? (fun x=>x.1==A) with
 |none=>exact(hf A h).symm
 |some x=>
  have he:x.1=A:=by simpa using nw h
  refine jS (fun e=>?_);obtain⟨i,hi,e3⟩:=h3 x (mE h) e;exact e1 i hi (he.symm.trans e3)
def rI(kv:List UInt8×Nat)(f:List UInt8->Option Value):List UInt8->Option Value:=
 if kv.2<=6 then rB f kv.1 (fixV (kv.2,0)) else if kv.2=7 then uW f kv.1 7 2 else if kv.2=8 then uW f kv.1 8 8 else f
theorem Z8O:∀kv∈wL,kv.2<=6->(∀x∈pU,rX x=kv.1->x.1=kv.1/\x.2=(kv.2,0))/\(∀x∈pU,x.1=kv.1->rX x=kv.1)/\pU.find? (fun x=>x.1==kv.1)≠none:=aq
theorem Z4F:∀kv∈wL,9<=kv.2->∀x∈pU,rX x≠kv.1:=aq
theorem Z9u:∀kv∈wL,kv.2=7->kv.1=[64,82]:=aq
theorem Z47:∀kv∈wL,kv.2=8->kv.1=[82]:=aq
theorem Z4p(kv:List UInt8×Nat)(D:kv∈wL)(f:List UInt8->Option Value)(hf:∀A,pU.find? (fun x=>x.1==A)=none->f A=none)(A:List UInt8):rI kv f A=vF kv.1 f A:=by
 unfold rI;by_cases h6:kv.2<=6
 ·obtain⟨a,b,c⟩:=Z8O kv D h6;rw[jT h6,Z9z kv.1 kv.2 a b c f hf]
 rw[jS h6];by_cases h7:kv.2=7
 ·rw[jT h7,Z9u kv D h7];refine(JW [64,82] 7 2 ?_ ?_ ?_ f hf A).symm
  ·decide +kernel
  ·decide +kernel
  decide +kernel
 rw[jS h7];by_cases G:kv.2=8
 ·rw[jT G,Z47 kv D G];refine(JW [82] 8 8 ?_ ?_ ?_ f hf A).symm
  ·decide +kernel
  ·decide +kernel
  decide +kernel
 rw[jS G,Z04 kv.1 (Z4F kv D ae) f hf]
