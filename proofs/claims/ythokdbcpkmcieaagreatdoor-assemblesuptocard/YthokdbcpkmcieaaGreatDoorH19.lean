import Derived.Test.YthokdbcpkmcieaaGreatDoorH18
import Derived.Lib.AppendZerosOnto
set_option maxRecDepth 200000
set_option maxHeartbeats 16000000
namespace Go.Proofs.YthokdbcpkmcieaaGreatDoor
open RowKit Shelf WideMaps Maps Proofs.Tryz
variable{P:Prop}
def Bw(n line:Int):Ending:=.panicked [{v:=.iface 117 (.agg #[.int .i64 n,.int .i64 line]),recovered:=false}]
theorem Z5j(w:World):(zeroValue 3).run prog w=.ok (.int .i64 0) w:=Bn w
structure AS(w:World)(ab:Nat)(i0 i1 i2:Value)(nb n:Nat)(nm:List UInt8->Option Int)(pl:Int):Prop where
 c0:w.cell? ⟨ab,0,none⟩=some i0
 c1:w.cell? ⟨ab,1,none⟩=some i1
 c2:w.cell? ⟨ab,2,none⟩=some i2
 c3:w.cell? ⟨ab,3,none⟩=some (.map (some nb))
 c4:w.cell? ⟨ab,4,none⟩=some (.int .i64 pl)
 fz:∀j,w.frozen? ⟨ab,j,none⟩=false
 nms:NamesAt w nb n nm
 ne:nb≠ab
theorem AS.lt{w:World}{ab:Nat}{A D G:Value}{nb n:Nat}{nm:List UInt8->Option Int}{pl:Int}(h:AS w ab A D G nb n nm pl):ab<w.heap.size:=lD _ h.c0
theorem AS.kept{w w':World}{ab:Nat}{A D G:Value}{nb n:Nat}{nm:List UInt8->Option Int}{pl:Int}(h:AS w ab A D G nb n nm pl)(e1:w'.heap[ab]?=w.heap[ab]?)(e2:w'.heap[nb]?=w.heap[nb]?):AS w' ab A D G nb n nm pl:=by
 have hc:∀j,w'.cell? ⟨ab,j,none⟩=w.cell? ⟨ab,j,none⟩:=fun j=>jW (a:=⟨ab,j,none⟩) e1
 exact⟨(hc 0).trans h.c0,(hc 1).trans h.c1,(hc 2).trans h.c2,(hc 3).trans h.c3,(hc 4).trans h.c4,fun j=>(ku (a:=⟨ab,j,none⟩) e1).trans (h.fz j),MapAt.at1B h.nms e2,h.ne⟩
theorem AS.below{w w':World}{ab:Nat}{A D G:Value}{nb n:Nat}{nm:List UInt8->Option Int}{pl:Int}(h:AS w ab A D G nb n nm pl)(I:Below w.heap.size w w'):AS w' ab A D G nb n nm pl:=
 h.kept (I.block _ h.lt) (I.block _ (MapAt.lt h.nms))
theorem Z2Q(nm:List UInt8->Option Int)(l:List UInt8):uB true (.int .i64 0) ((nm l).map fun x=>.int .i64 x)=.tuple #[.int .i64 ((nm l).getD 0),.bool (nm l).isSome]:=by
 cases nm l <;> rfl
theorem Dp(w:World)(ab:Nat)(D G I:Value)(nb n:Nat)(nm:List UInt8->Option Int)(pl:Int)(s:ByteArray)(h:AS w ab D G I nb n nm pl)(hs:s.size<=1000000) :
  Calls prog 109 #[.pointer (some ⟨ab,0,none⟩),.string s] w fun e w'=>e=.returned (.bool (nm s.data.toList).isSome)/\w'=w:=by
 have A:keyOf prog 9 (.string s)=some (.string s.data.toList):=kO underlying9 ak
 have J:(Instr.lookup 119 (.map (some nb)) (.string s) true).run prog w=.ok (.tuple #[.int .i64 ((nm s.data.toList).getD 0),.bool (nm s.data.toList).isSome]) w:=by
  rw[MapAt.look h.nms rz underlying119 (Z5j _) A true,Z2Q]
 have c3:=h.c3;clear h A;go_enter func109,ntmps109;go_wp2;go_ret;exact⟨rfl,rfl⟩
def qh(nm:List UInt8->Option Int)(pl:Int)(l:List Trm)(lo hi:Int):Option Int:=(qj nm pl 0 l).bind fun z=>if z<lo\/hi<z then none else some z
def B4(o:Option Int)(line:Int):Ending:=match o with
 |some z=>.returned (.int .i64 z)
 |none=>Bw 6 line
theorem tv(w:World)(A p0:Int)(lb:ByteArray)(tk:Int)(nm:ByteArray)(v:Value)(D:Int)(kd:Value)(sz:Int):∃W,w.alloc (.cells #[.int .i64 A,.int .i64 p0,.string lb,.int .i64 tk,.string nm,v,.int .u8 D,kd,.int .i64 sz] 130)=W/\Below w.heap.size w W/\W.heap.size=w.heap.size+1/\SS W w.heap.size A p0 lb tk nm v D kd sz:=by
 have hh:=kg w (.cells #[.int .i64 A,.int .i64 p0,.string lb,.int .i64 tk,.string nm,v,.int .u8 D,kd,.int .i64 sz] 130);refine⟨_,rfl,jV.alloc jU _,af,?_⟩;have hc:∀j u,#[.int .i64 A,.int .i64 p0,.string lb,.int .i64 tk,.string nm,v,.int .u8 D,kd,.int .i64 sz][j]?=some u->(w.alloc (.cells #[.int .i64 A,.int .i64 p0,.string lb,.int .i64 tk,.string nm,v,.int .u8 D,kd,.int .i64 sz] 130)).cell? ⟨w.heap.size,j,none⟩=some u:=fun j u hu=>dG
 exact⟨hc 0 _ rfl,hc 1 _ rfl,hc 2 _ rfl,hc 3 _ rfl,hc 4 _ rfl,hc 5 _ rfl,hc 6 _ rfl,hc 7 _ rfl,hc 8 _ rfl,fun j=>kT _ _ _ hh,af⟩
theorem Map(h:P:=by
 rw[RR];clear RR;go_enter func171,ntmps171;go_wp2_with fail;go_region_held3 (fun w'=>w'.cell? ⟨ab,3,none⟩=some (.map (some nb))/\w'.cell? ⟨w.heap.size,1,none⟩=some (.int .i64 p0)) (go_keep) (first| (go_at_call 218;refine Qx.o.mono ?_;rintro e w1 ⟨rfl,Kn⟩;have d3:=(jW (a:=⟨ab,3,none⟩) (Kn.block _ Nw)).trans c3;have e0:=(jW (a:=⟨w.heap.size,0,none⟩) (Kn.block _ OC)).trans s0;have e1:=(jW (a:=⟨w.heap.size,1,none⟩) (Kn.block _ OC)).trans s1;have KK:=oP (HB.o.trans (Kn.mono HB.o.size));clear Kn))
 all_goals
  go_wp2;exact⟨rfl,rfl,KK.o⟩):P:=h
theorem Hw(w:World)(ab:Nat)(i0 i1 i2:Value)(nb n:Nat)(nm:List UInt8->Option Int)(pl:Int)(base:Nat)(l:List Trm)(M p0:Int)(lb:ByteArray)(tk:Int)(U:ByteArray)(V:Option Addr)(Z vc:Nat)(cd:Int)(ka:Option Addr)(kn kc:Nat)(sz:Int)(A:Option Addr)(D xc:Nat)(lo hi:Int)(h:AS w ab i0 i1 i2 nb n nm pl)(Ke:w.ownsRow base 261 4 (.slice A D xc) l.length (pN l))(hl:l.length<=1000000)(hs:∀t∈l,t.name.size<=1000000)(hv:∀t∈l,-1000000<=pS nm p0 t/\pS nm p0 t<=1000000) :
  Calls prog 171 #[.pointer (some ⟨ab,0,none⟩),.agg #[.int .i64 M,.int .i64 p0,.string lb,.int .i64 tk,.string U,.slice V Z vc,.int .u8 cd,.slice ka kn kc,.int .i64 sz],.slice A D xc,.int .i64 lo,.int .i64 hi] w fun e w'=>e=B4 (qh nm p0 l lo hi) M/\Below w.heap.size w w':=by
 obtain⟨W,hW,I,NY,R⟩:=tv w M p0 lb tk U (.slice V Z vc) cd (.slice ka kn kc) sz;have J:=h.below I;have G:=oP (Z9S W.drew base nb n nm p0 (.slice A D xc) l (MapAt.at1B J.nms rfl) (xA (rO Ke I) (fun _ _=>rfl)) hl hs hv);have c3:=J.c3;have s0:=R.c0;have s1:=R.c1;have Nw:=J.lt;have OC:w.heap.size<W.heap.size:=ae;have HB:=oP I;unfold qh;obtain⟨O,hO⟩:=Zg0 (qj nm p0 0 l);rw[hO]at G⊢;clear h Ke hl hs hv I R J hO;cases O with
 |none=>
  have Qx:Hid (Calls prog 218 #[.slice A D xc,.map (some nb),.int .i64 p0] W.drew fun e w'=>e=.returned (.tuple #[.int .i64 0,.bool false])/\Below W.heap.size W w'):=G.o.mono fun e w' ⟨h1,h2⟩=>⟨h1,⟨h2.os,h2.tape,h2.output,h2.size,h2.block⟩⟩
  clear G;go_enter func171,ntmps171;go_wp2_with fail;go_region_held3 (fun w'=>w'.cell? ⟨ab,3,none⟩=some (.map (some nb))/\w'.cell? ⟨w.heap.size,1,none⟩=some (.int .i64 p0)) (go_keep) (first| (go_at_call 218;refine Qx.o.mono ?_;rintro e w1 ⟨rfl,Kn⟩;have d3:=(jW (a:=⟨ab,3,none⟩) (Kn.block _ Nw)).trans c3;have e0:=(jW (a:=⟨w.heap.size,0,none⟩) (Kn.block _ OC)).trans s0;have e1:=(jW (a:=⟨w.heap.size,1,none⟩) (Kn.block _ OC)).trans s1;have KK:=oP (HB.o.trans (Kn.mono HB.o.size));clear Kn))
  all_goals
   go_wp2;exact⟨rfl,rfl,KK.o⟩
 |some z=>
  have Qx:Hid (Calls prog 218 #[.slice A D xc,.map (some nb),.int .i64 p0] W.drew fun e w'=>e=.returned (.tuple #[.int .i64 z,.bool true])/\Below W.heap.size W w'):=G.o.mono fun e w' ⟨h1,h2⟩=>⟨h1,⟨h2.os,h2.tape,h2.output,h2.size,h2.block⟩⟩
  clear G;have S:z<lo\/(¬z<lo/\hi<z)\/(¬z<lo/\¬hi<z):=ae;rcases S with h1|⟨h1,h2⟩|⟨h1,h2⟩
  ·have RR:(Option.some z).bind (fun z=>if z<lo\/hi<z then none else some z)=none:=jT (.inl h1);exact Map
  ·have RR:(Option.some z).bind (fun z=>if z<lo\/hi<z then none else some z)=none:=jT (.inr h2);exact Map
  have RR:(Option.some z).bind (fun z=>if z<lo\/hi<z then none else some z)=some z:=jS (fun e=>e.elim h1 h2);rw[RR];clear RR;go_enter func171,ntmps171;go_wp2_with fail;go_region_held3 (fun w'=>w'.cell? ⟨ab,3,none⟩=some (.map (some nb))/\w'.cell? ⟨w.heap.size,1,none⟩=some (.int .i64 p0)) (go_keep) (first| (go_at_call 218;refine Qx.o.mono ?_;rintro e w1 ⟨rfl,Kn⟩;have d3:=(jW (a:=⟨ab,3,none⟩) (Kn.block _ Nw)).trans c3;have e0:=(jW (a:=⟨w.heap.size,0,none⟩) (Kn.block _ OC)).trans s0;have e1:=(jW (a:=⟨w.heap.size,1,none⟩) (Kn.block _ OC)).trans s1;have KK:=oP (HB.o.trans (Kn.mono HB.o.size));clear Kn))
  all_goals
   go_wp2;go_ret;exact⟨rfl,KK.o⟩
theorem Z89(w:World)(base b2:Nat)(M:TypeId)(v x:Value)(n m:Nat)(xs A:List Value)(G:w.ownsRow base 9 1 v n xs)(hx:w.ownsRow b2 9 1 x m A)(h1:∀u∈A,u.oneCell'=true)(hn:n+m<=4000000)(O:base<=w.heap.size) :
  ∃D w',(Builtin.append_ #[22,22] M #[v,x]).run prog w=.ok D w'/\w'.ownsRow base 9 1 D (n+m) (xs++A)/\w.grownBy w' v.ownBlock:=by
 obtain⟨i,hi,R,S,U⟩:=kQ Tryz.infoStrB;have hc:∀g,x.ownBlock=some g->∀j u,A[j]?=some u->w.cell? ((⟨g,0,none⟩:Addr).add j)=some u:=fun g I=>hx.cells I
 obtain⟨hl,⟨rfl,rfl⟩|⟨g,J,V,rfl,I,hh,h3,h4,Z,h6⟩⟩:=hx
 ·have hy:A=[]:=ny bL;subst hy;have Mz:=G;obtain⟨MU,⟨rfl,rfl⟩|⟨g,J,V,rfl,I,hh,h3,h4,Z,h6⟩⟩:=G
  ·refine⟨.slice none 0 0,w,?_,dH,⟨rfl,rfl,rfl,jU,fun _ _ _=>rfl⟩⟩;simp[Builtin.append_,run_underlying underlying22,sizeOf,typeInfo,hi,Builtin.lenOf,Builtin.firstCells]
  refine⟨.slice (some ⟨g,0,none⟩) n J,w,?_,dH,⟨rfl,rfl,rfl,jU,fun _ _ _=>rfl⟩⟩;simp[Builtin.append_,run_underlying underlying22,sizeOf,typeInfo,hi,Builtin.lenOf,Builtin.firstCells,storeCells,h3]
 obtain⟨D,w',r0,r1,r2,_⟩:=ow (P:=prog) w base 22 M 9 i _ 1 16 underlying22 hi R S U rfl ah v n xs G ⟨g,0,none⟩ m J A hl (hc g rfl) h1 ak ae O;exact⟨D,w',r0,r1,r2⟩
theorem JI{ops:Array Oper}{rest:List Oper}{o:Oper}{a:Act}{Q:Exit->Act->World->Prop}(w:World)(G:o.guard=none)(s x:Operand)
  (ho:o.op=.call {callee:=.builtin .append,args:=#[s,x],argTypes:=#[22,22]}) (base b2:Nat) (v y:Value) (n m:Nat) (xs A:List Value) (hs:a.eval s=v) (hx:a.eval x=y) (I:w.ownsRow base 9 1 v n xs) (hy:w.ownsRow b2 9 1 y m A) (h1:∀u∈A,u.oneCell'=true) (hn:n+m<=4000000) (J:base<=w.heap.size)
  (h:∀D w',w'.ownsRow base 9 1 D (n+m) (xs++A)->w.grownBy w' v.ownBlock->wpList prog ops Q rest (a.put o.dst D) w') :
  wpList prog ops Q (o::rest) a w:=by
 refine np G fun K M=>?_
 obtain⟨D,w',O,h2,h3⟩:=Z89 w base b2 o.type v y n m xs A I hy h1 hn J;unfold Oper.wp execOp;simp only[ho,resolve,invoke,builtin,oO,T0a,T0b,T0c,kZ,mZ,hs,hx,O];exact M _ _ (h D w' h2 h3)
theorem Z6q{ops:Array Oper}{rest:List Oper}{o:Oper}{a:Act}{Q:Exit->Act->World->Prop}(w:World)(D:o.guard=none)(s x:Operand)(t1 t2:TypeId)
  (ho:o.op=.call {callee:=.builtin .append,args:=#[s,x],argTypes:=#[t1,t2]}) (vs A:Value) (hs:a.eval s=vs) (hx:a.eval x=A) (v:Value) (w':World) (G:∀I,(Builtin.append_ #[t1,t2] I #[vs,A]).run prog w=.ok v w')
  (h:wpList prog ops Q rest (a.put o.dst v) w') :
  wpList prog ops Q (o::rest) a w:=by
 refine np D fun K J=>?_
 unfold Oper.wp execOp;simp only[ho,resolve,invoke,builtin,oO,T0a,T0b,T0c,kZ,mZ,hs,hx,G];exact J _ _ h
theorem Ho(l:List ByteArray):∀u∈qe l,u.oneCell'=true:=by
 intro u A;simp only[qe,lf]at A;obtain⟨b,_,rfl⟩:=A;rfl
theorem Z0y(n:Nat)(w:World)(hn:n<=4000000) :
  Calls prog 252 #[.slice none 0 0,.int .i64 (n:Int)] w fun e w'=>∃v,e=.returned v/\w'.ownsRow w.heap.size 9 1 v 0 []/\Below w.heap.size w w':=by
 have Vg:(n:Int)<=4000000:=ae;by_cases h0:n=0
 ·subst h0;go_enter func252,ntmps252;go_wp2;go_ret;exact⟨_,rfl,kA,jV⟩
 have V:(0:Int)<(n:Int):=ae;obtain⟨i,hi,Z,KC,S⟩:=kQ Tryz.infoStrB
 have A:∀D,(Builtin.append_ #[22,3] D #[.slice none 0 0,.int .i64 (n:Int)]).run prog w=.ok (.slice (some ⟨w.heap.size,0,none⟩) n (grownCap w n 0 9)) (w.drew.alloc (.cells (([]:List Value).toArray++Builtin.zeroCells (Value.string ⟨#[]⟩).cells n++Builtin.zeroCells (Value.string ⟨#[]⟩).cells (grownCap w n 0 9-n)) 9)):=fun D=>by
  have h:=Lib.run_append_grow_zeros w 22 3 D 9 i _ .i64 .i64 underlying22 underlying3 hi Z none 0 0 [] (run_firstCells_none w.drew i.size 0 0 0) n ae ae ae ae (by rw[S];omega) (by rw[S];unfold Builtin.nextslicecap;rw[jT ae];omega);rw[kN]at h;exact h
 have MV:=grownCap_ge w n 0 9;have M:grownCap w n 0 9<=maxLen:=grownCap_le_maxLen w n 0 9 ak;obtain⟨G,U⟩:=Zg0 (grownCap w n 0 9);rw[U]at A MV M;have VM3:(G:Int)<=9223372036854775807:=by unfold maxLen at M;omega
 have O:(w.drew.alloc (.cells (([]:List Value).toArray++Builtin.zeroCells (Value.string ⟨#[]⟩).cells n++Builtin.zeroCells (Value.string ⟨#[]⟩).cells (G-n)) 9)).ownsRow w.heap.size 9 1 (.slice (some ⟨w.heap.size,0,none⟩) 0 G) 0 []:=by
  refine⟨rfl,.inr ⟨w.heap.size,G,_,rfl,jU,kg w.drew _,j4,M,?_,af⟩⟩;simp only[T0r,size_zeroCells];simp[Value.cells];omega
 have I:Below w.heap.size w (w.drew.alloc (.cells (([]:List Value).toArray++Builtin.zeroCells (Value.string ⟨#[]⟩).cells n++Builtin.zeroCells (Value.string ⟨#[]⟩).cells (G-n)) 9)):=(jV).drew.alloc jU _;obtain⟨X,R⟩:=Zg0 (w.drew.alloc (.cells (([]:List Value).toArray++Builtin.zeroCells (Value.string ⟨#[]⟩).cells n++Builtin.zeroCells (Value.string ⟨#[]⟩).cells (G-n)) 9));rw[R]at O I;have J:∀D,(Builtin.append_ #[22,3] D #[.slice none 0 0,.int .i64 (n:Int)]).run prog w=.ok (.slice (some ⟨w.heap.size,0,none⟩) n G) X:=fun D=>by rw[<-R];exact A D
 have HO:=oP (And.intro O I);have WX:=oP J;clear O U A J I R;go_enter func252,ntmps252;go_wp2_with (at_builtin;refine Z6q _ rfl _ _ 22 3 rfl (.slice none 0 0) (.int .i64 (n:Int)) rfl rfl _ _ WX.o ?_);go_ret;exact⟨_,rfl,HO.o⟩
theorem Z3M(w:World)(sb b1 b2:Nat)(v1 v2:Value)(l1 l2:List ByteArray)(c0:w.cell? ⟨sb,0,none⟩=some v1)(c1:w.cell? ⟨sb,1,none⟩=some v2)(r1:w.ownsRow b1 9 1 v1 l1.length (qe l1))(r2:w.ownsRow b2 9 1 v2 l2.length (qe l2))(hn:l1.length+l2.length<=4000000) :
  Calls prog 214 #[.slice (some ⟨sb,0,none⟩) 2 2] w fun e w'=>∃v,e=.returned v/\w'.ownsRow w.heap.size 9 1 v (l1++l2).length (qe (l1++l2))/\Below w.heap.size w w':=by
 obtain⟨a1,k1,rfl⟩:=sP r1;obtain⟨a2,k2,rfl⟩:=sP r2;obtain⟨A,O⟩:=Zg0 l1.length;obtain⟨I,R⟩:=Zg0 l2.length;rw[O]at c0 r1 hn;rw[R]at c1 r2 hn;obtain⟨N,hN⟩:∃N:Nat,A+I=N:=⟨_,rfl⟩;have Z4:(A:Int)+(I:Int)=(N:Int):=ae;have VM4:(A:Int)<=4000000:=ae;have VM5:(N:Int)<=4000000:=ae;have HG:=oP (Z0y N w ae);have RS:=oP r1;have Mj:=oP r2;have D:sb<w.heap.size:=lD _ c0
 have HL:Hid ((l1++l2).length=A+I):=by
  show (l1++l2).length=A+I;rw[kq,O,R]
 have HH:=oP (And.intro hN (And.intro O R));clear r1 r2 O R hN;go_enter func214,ntmps214;go_wp2_with fail;refine lS 3 ?_;rw[kG];go_wp2_with fail;rw[kG];go_wp2_with fail;rw[kG];go_wp2_with fail;refine HG.o.mono ?_;rintro e w1 ⟨v,rfl,V,J⟩;obtain⟨va,vn,vc,rfl⟩:=tV V;have d0:=(jW (a:=⟨sb,0,none⟩) (J.block sb D)).trans c0;have d1:=(jW (a:=⟨sb,1,none⟩) (J.block sb D)).trans c1;have S:=oP (And.intro V J);have Z:=J.size;have MQ:=oP (rO RS.o J);clear V J c0 c1;go_wp2_with fail;refine lS 3 ?_;rw[kG]
 go_wp2_with (
  at_builtin;refine JI _ rfl _ _ rfl w.heap.size b1 (.slice va vn vc) (.slice a1 A k1) 0 A [] (qe l1) rfl rfl S.o.1 MQ.o (Ho _) ae Z ?_;intro v' w2 G M;obtain⟨xa,xn,xc,ev⟩:=tV G;have U:Below w.heap.size w w2:=S.o.2.grown M Z (fun k hk=>(S.o.1.lt k hk).1);have e1:=(jW (a:=⟨sb,1,none⟩) (M.block sb (ke D Z) (fun e=>by have:=(S.o.1.lt sb e.symm).1;omega))).trans d1;have HO:=oP (And.intro G U);have Qy:=oP (rO Mj.o U);have Ky:=U.size;subst ev;clear G M U)
 rw[kG]
 go_wp2_with (
  at_builtin;refine JI _ rfl _ _ rfl w.heap.size b2 (.slice xa xn xc) (.slice a2 I k2) (0+A) I ([]++qe l1) (qe l2) rfl rfl HO.o.1 Qy.o (Ho _) ae Ky ?_;intro VM6 w3 G M;obtain⟨ya,yn,yc,ev⟩:=tV G;have KH:Below w.heap.size w w3:=HO.o.2.grown M Ky (fun k hk=>(HO.o.1.lt k hk).1);have HP:=oP (And.intro G KH);subst ev;clear G M KH)
 rw[kG];go_wp2;go_ret;refine⟨_,rfl,?_,HP.o.2⟩;have:=HP.o.1;rw[kN,mu]at this;rw[HL.o];simpa [qe]using this
def pO(s:ByteArray):Bool:=decide (8<s.size)
def cuF(nm:List UInt8->Option Int)(lb:ByteArray)(tk:Nat)(A:ByteArray)(es:List (List Trm)):Bool:=
 !((pW lb tk A++pq es).any pO)&&(!qz tk||!((pq es).any fun s=>!decide (s=lb)&&!(nm s.data.toList).isSome))
def okE(b:Bool)(n line:Int):Ending:=if b then .returned (.tuple #[]) else Bw n line
theorem zI(l:List ByteArray)(j:Nat)(h:j<l.length):(qe l)[j]?=some (.string l[j]):=by
 unfold qe;rw[kS,jX h];rfl
theorem toList_inj{a b:ByteArray}(h:a.toList=b.toList):a=b:=by
 rw[lB,lB]at h;cases a;cases b;simp at h;simp[h]
theorem tI{w:World}{base:Nat}{e:TypeId}{size n m c:Nat}{a:Option Addr}{v:Value}{xs:List Value}(h:w.ownsRow base e size v n xs)(A:v=.slice a m c):m=n:=by
 obtain⟨x,y,e⟩:=sP h;rw[A]at e;cases e;rfl
theorem uM{w:World}{base e size n m c:Nat}{a:Option Addr}{xs:List Value}{j:Nat}{u:Value}(h:w.ownsRow base e size (.slice a m c) n xs)(hn:0<n)(A:xs[j]?=some u):∃g,a=some ⟨g,0,none⟩/\w.cell? ⟨g,j,none⟩=some u:=by
 obtain⟨g,G,D⟩:=xU h hn;cases D;exact⟨g,rfl,(xO h).2 j u A⟩
theorem Z9m{nm:List UInt8->Option Int}{lb:ByteArray}{tk:Nat}{A:ByteArray}{es:List (List Trm)}(h:(pW lb tk A++pq es).any pO=true):cuF nm lb tk A es=false:=by
 unfold cuF;rw[h];rfl
theorem Z3P{nm:List UInt8->Option Int}{lb:ByteArray}{tk:Nat}{A:ByteArray}{es:List (List Trm)}(h:(pW lb tk A++pq es).any pO=false)(h2:qz tk=false):cuF nm lb tk A es=true:=by
 unfold cuF;rw[h,h2];rfl
theorem Z7e{nm:List UInt8->Option Int}{lb:ByteArray}{tk:Nat}{A:ByteArray}{es:List (List Trm)}(h:(pW lb tk A++pq es).any pO=false)(h2:qz tk=true):cuF nm lb tk A es = !((pq es).any fun s=>!decide (s=lb)&&!(nm s.data.toList).isSome):=by
 unfold cuF;rw[h,h2];simp
theorem BA(w:World)(ab:Nat)(i0 i1 i2:Value)(nb n:Nat)(nm:List UInt8->Option Int)(pl:Int)(base:Nat)(es:List (List Trm))(I p0:Int)(lb:ByteArray)(tk:Nat)(A:ByteArray)(J:Option Addr)(M O:Nat)(V:Int)(Z:Option Addr)(kn kc:Nat)(sz:Int)(h:AS w ab i0 i1 i2 nb n nm pl)(hv:VAt w base (.slice J M O) es)(hn:es.length<=1000000)(hc:pL es<=1000000)(hs:∀s∈pq es,s.size<=1000000) :
  Calls prog 168 #[.pointer (some ⟨ab,0,none⟩),.agg #[.int .i64 I,.int .i64 p0,.string lb,.int .i64 (tk:Int),.string A,.slice J M O,.int .u8 V,.slice Z kn kc,.int .i64 sz]] w fun e w'=>e=okE (cuF nm lb tk A es) 3 I/\Below w.heap.size w w':=by
 obtain⟨W,hW,K1,NY,G⟩:=tv w I p0 lb (tk:Int) A (.slice J M O) V (.slice Z kn kc) sz;have HG:=oP (fun w'=>I3 w' I p0 lb tk A J M O V Z kn kc sz);have HU:=oP (fun w' (hb:Below w.heap.size w w')=>Gh w' base es I p0 lb (tk:Int) A J M O V Z kn kc sz (hv.below hb) hn hc);have HD:=oP (fun w'=>GK w' I p0 lb tk A J M O V Z kn kc sz)
 have PV:Hid (∀w',Below W.heap.size W w'->(w'.cell? ⟨w.heap.size,0,none⟩=some (.int .i64 I)/\w'.cell? ⟨w.heap.size,1,none⟩=some (.int .i64 p0)/\w'.cell? ⟨w.heap.size,2,none⟩=some (.string lb)/\w'.cell? ⟨w.heap.size,3,none⟩=some (.int .i64 (tk:Int))/\w'.cell? ⟨w.heap.size,4,none⟩=some (.string A)/\w'.cell? ⟨w.heap.size,5,none⟩=some (.slice J M O)/\w'.cell? ⟨w.heap.size,6,none⟩=some (.int .u8 V)/\w'.cell? ⟨w.heap.size,7,none⟩=some (.slice Z kn kc)/\w'.cell? ⟨w.heap.size,8,none⟩=some (.int .i64 sz))):=fun w' hb=>by
  have e:=hb.block w.heap.size ae;have R:∀j,w'.cell? ⟨w.heap.size,j,none⟩=W.cell? ⟨w.heap.size,j,none⟩:=fun j=>jW (a:=⟨w.heap.size,j,none⟩) e
  exact⟨(R 0).trans G.c0,(R 1).trans G.c1,(R 2).trans G.c2,(R 3).trans G.c3,(R 4).trans G.c4,(R 5).trans G.c5,(R 6).trans G.c6,(R 7).trans G.c7,(R 8).trans G.c8⟩
 have HB:=oP K1
 have S:Hid ((pW lb tk A).length+(pq es).length<=4000000):=by
  have h1:=Cb es
  have h2:(pW lb tk A).length<=2:=by
   unfold pW;rw[kq];split <;> split <;> simp
  show _<=_;omega
 have RT:Below W.heap.size W W.drew:=(jV).drew;have RU:=oP (fun w' (hb:Below w.heap.size w w') s (hx:s∈pq es)=>Dp w' ab i0 i1 i2 nb n nm pl s (h.below hb) (hs s hx));clear K1 G h hv hn hc hs;go_enter func168,ntmps168;go_wp2_with fail
 go_region_held3 (fun w'=>w'.cell? ⟨w.heap.size,0,none⟩=some (.int .i64 I)/\w'.cell? ⟨w.heap.size,1,none⟩=some (.int .i64 p0)/\w'.cell? ⟨w.heap.size,2,none⟩=some (.string lb)/\w'.cell? ⟨w.heap.size,3,none⟩=some (.int .i64 (tk:Int))/\w'.cell? ⟨w.heap.size,4,none⟩=some (.string A)/\w'.cell? ⟨w.heap.size,5,none⟩=some (.slice J M O)/\w'.cell? ⟨w.heap.size,6,none⟩=some (.int .u8 V)/\w'.cell? ⟨w.heap.size,7,none⟩=some (.slice Z kn kc)/\w'.cell? ⟨w.heap.size,8,none⟩=some (.int .i64 sz)) (first| exact PV.o _ RT|exact PV.o _ Kn|exact PV.o _ KQ|exact PV.o _ (KQ.alloc KQ.size _)|exact PV.o _ KH)
  (first
   |(go_at_call 215;refine(HG.o W.drew).mono ?_;rintro e w1 ⟨v1,rfl,Pt,Kh⟩;obtain⟨x1,y1,z1,rfl⟩:=tV Pt;have Kn:Below W.heap.size W w1:=⟨Kh.os,Kh.tape,Kh.output,Kh.size,Kh.block⟩;have RS:=oP Pt;clear Pt Kh)
   |(go_at_call 108;refine(HU.o w1 (HB.o.trans (Kn.mono HB.o.size))).mono ?_;rintro e w2 ⟨v2,rfl,Mn,Km⟩;obtain⟨x2,y2,z2,rfl⟩:=tV Mn;have KQ:Below W.heap.size W w2:=Kn.trans (Km.mono Kn.size);have Mj:=oP (And.intro Mn (rO RS.o Km));clear Mn Km)
   | (go_at_call 214;refine(Z3M _ w2.heap.size _ _ (.slice x1 y1 z1) (.slice x2 y2 z2) (pW lb tk A) (pq es) af af (Mj.o.2.alloc _) (Mj.o.1.alloc _) S.o).mono ?_;rintro e w3 ⟨v3,rfl,Sn,Kq⟩;obtain⟨x3,y3,z3,Va8⟩:=tV Sn;have KH:Below W.heap.size W w3:=(KQ.alloc KQ.size _).trans (Kq.mono (by have:=KQ.size;simp;omega));have Ud:=oP (tI Sn Va8);have Ue:=oP Sn;subst Va8;clear Sn Kq))
 all_goals
  have Mi:=oP (HB.o.trans (KH.mono HB.o.size));obtain⟨s0,s1,s2,s3,s4,s5,s6,s7,s8⟩:=PV.o w3 KH;obtain⟨L,hL⟩:=Zg0 (pW lb tk A++pq es);rw[hL]at Ue Ud
  have TS:(y3:Int)<=4000000:=by
   have:=S.o;rw[<-kq,hL,<- Ud.o]at this;omega
  have HL:=oP hL
  have Yy:Hid (∀w',Below w3.heap.size w3 w'->(w'.cell? ⟨w.heap.size,0,none⟩=some (.int .i64 I)/\w'.cell? ⟨w.heap.size,2,none⟩=some (.string lb))/\(w'.cell? ⟨w.heap.size,1,none⟩=some (.int .i64 p0)/\w'.cell? ⟨w.heap.size,3,none⟩=some (.int .i64 (tk:Int))/\w'.cell? ⟨w.heap.size,4,none⟩=some (.string A)/\w'.cell? ⟨w.heap.size,5,none⟩=some (.slice J M O)/\w'.cell? ⟨w.heap.size,6,none⟩=some (.int .u8 V)/\w'.cell? ⟨w.heap.size,7,none⟩=some (.slice Z kn kc)/\w'.cell? ⟨w.heap.size,8,none⟩=some (.int .i64 sz))):=fun w' hb=>by
   obtain⟨q0,q1,q2,q3,q4,q5,q6,q7,q8⟩:=PV.o w' (KH.trans (hb.mono KH.size));exact⟨⟨q0,q2⟩,q1,q3,q4,q5,q6,q7,q8⟩
  clear Kn KQ KH RT RS Mj HG PV hL;go_wp2_with fail;go_loopw [15] (fun i wr=>∃j:Nat,j<=y3/\i=.int .i64 j/\(L.take j).any pO=false/\wr=w3) (fun i _=>y3-(intOf i).toNat)
  case atStart=>exact⟨0,j4,rfl,rfl,rfl⟩
  case round=>
   obtain⟨j,hj,rfl,K0,LF⟩:=hrel;subst LF;have LM:=oP K0;clear K0;by_cases Kf:j<y3
   ·have K6:(j:Int)<(y3:Int):=by omega
    have K2:j<L.length:=by rw[<-Ud.o];exact Kf
    obtain⟨g,cj⟩:∃g,x3=some ⟨g,0,none⟩/\wr.cell? ⟨g,j,none⟩=some (.string L[j]):=uM Ue.o ae (zI L j K2);obtain⟨rfl,cj⟩:=cj;obtain⟨x,hx⟩:=Zg0 (L[j]);rw[hx]at cj;have HX:=oP hx;clear hx;by_cases h8:8<x.size
    ·have Vr1:(8:Int)<(x.size:Int):=by omega
     go_wp2
     have L3:cuF nm lb tk A es=false:=Z9m (by
      rw[HL.o,mj];exact⟨x,by rw[<-HX.o];exact kC K2,by unfold pO;simpa using h8⟩)
     exact⟨rfl,cO,Mi.o⟩
    have Vr1:¬(8:Int)<(x.size:Int):=ae;go_wp2;go_roundw
    case rel=>exact⟨j+1,ae,ao,zH K2 LM.o (by rw[HX.o];unfold pO;simpa using h8),by first| rfl|trivial⟩
    case measure=>simp[intOf];omega
   have K6:¬(j:Int)<(y3:Int):=ae
   have OO:(pW lb tk A++pq es).any pO=false:=by
    have:=LM.o;rw[lL dI]at this;rw[HL.o];exact this
   have Yz:=oP OO;clear OO LM Ue;by_cases MF:qz tk=true
   ·rw[MF]at HD
    go_wp2_with (first
     |(go_at_call 216;refine(HD.o _).mono ?_;rintro e w4 ⟨rfl,MI⟩;obtain⟨⟨q0,q2⟩,q1,q3,q4,q5,q6,q7,q8⟩:=Yy.o w4 MI;have OP:=oP MI;clear MI)
     | (go_at_call 108;refine(HU.o w4 (Mi.o.trans (OP.o.mono Mi.o.size))).mono ?_;rintro e w5 ⟨v5,rfl,QW,Lp⟩;obtain⟨x5,y5,z5,Va9⟩:=tV QW;have D:=oP (tI QW Va9);have YA:=OP.o.trans (Lp.mono OP.o.size);obtain⟨⟨t0,t2⟩,_⟩:=Yy.o w5 YA;have Lx:=oP (Mi.o.trans (YA.mono Mi.o.size));have Rk:=oP QW;subst Va9;clear QW Lp YA))
    obtain⟨U,hU⟩:=Zg0 (pq es);have L3:=Z7e (nm:=nm) Yz.o MF;rw[hU]at Rk D L3
    have Vr2:(y5:Int)<=4000000:=by
     have:=S.o;rw[hU,<- D.o]at this;omega
    have Z5:Hid (∀s,s∈U->Calls prog 109 #[.pointer (some ⟨ab,0,none⟩),.string s] w5 fun e w'=>e=.returned (.bool (nm s.data.toList).isSome)/\w'=w5):=fun s hx=>RU.o w5 Lx.o s (by rw[hU];exact hx)
    have Vb0:=oP L3;clear L3 hU RU HU HD Yy q0 q1 q2 q3 q4 q5 q6 q7 q8 s0 s1 s2 s3 s4 s5 s6 s7 s8 MF S;go_loopw [33] (fun i wz=>∃j:Nat,j<=y5/\i=.int .i64 j/\(U.take j).any (fun s=>!decide (s=lb)&&!(nm s.data.toList).isSome)=false/\wz=w5) (fun i _=>y5-(intOf i).toNat)
    case atStart=>exact⟨0,j4,rfl,rfl,rfl⟩
    case round=>
     obtain⟨j,hj,rfl,K0,Lj⟩:=hrel;subst Lj;have YB:=oP K0;clear K0;by_cases Kf:j<y5
     ·have K6:(j:Int)<(y5:Int):=by omega
      have K2:j<U.length:=by rw[<-D.o];exact Kf
      obtain⟨g,rfl,cj⟩:=uM Rk.o (by rw[<-D.o];omega) (zI U j K2);have YC:U[j]∈U:=kC K2;have KL:=fun hx=>zH (p:=fun s=>!decide (s=lb)&&!(nm s.data.toList).isSome) K2 YB.o hx
      obtain⟨x,hx⟩:=Zg0 (U[j]);rw[hx]at cj YC KL;have KF:=oP KL;have WG4:=oP YC;clear hx KL YC YB;by_cases Pp:x=lb
      ·subst Pp;go_wp2;go_roundw
       case rel=>exact⟨j+1,ae,ao,KF.o af,by first| rfl|trivial⟩
       case measure=>simp[intOf];omega
      have Vr3:¬x.toList=lb.toList:=fun e=>Pp (toList_inj e)
      have NV:(x.toList==lb.toList)=false:=by simpa using Vr3
      cases LD:(nm x.data.toList).isSome with
      |true=>
       have PW:=oP (Z5.o x WG4.o);rw[LD]at PW;go_wp2_with (go_at_call 109;refine PW.o.mono ?_;rintro e w6 ⟨rfl,rfl⟩);go_roundw
       case rel=>exact⟨j+1,ae,ao,KF.o (by simp[LD]),by first| rfl|trivial⟩
       case measure=>simp[intOf];omega
      |false=>
       have PW:=oP (Z5.o x WG4.o);rw[LD]at PW;go_wp2_with (go_at_call 109;refine PW.o.mono ?_;rintro e w6 ⟨rfl,rfl⟩)
       have Vr4:cuF nm lb tk A es=false:=by
        rw[Vb0.o]
        have:(U.any fun s=>!decide (s=lb)&&!(nm s.data.toList).isSome)=true:=by
         rw[mj];exact⟨x,WG4.o,by simp[LD,Pp]⟩
        rw[this];rfl
       exact⟨rfl,by rw[Vr4];rfl,Lx.o⟩
     have K6:¬(j:Int)<(y5:Int):=ae
     have YD:cuF nm lb tk A es=true:=by
      have:=YB.o;rw[lL (by rw[<-D.o];omega)]at this;rw[Vb0.o,this];rfl
     have Vr5:=oP YD;clear YD;go_wp2;go_end0;exact⟨by rw[Vr5.o];rfl,Lx.o⟩
   have Wi8:qz tk=false:=by simpa using MF
   rw[Wi8]at HD;go_wp2_with (go_at_call 216;refine(HD.o _).mono ?_;rintro e w4 ⟨rfl,MI⟩;have OP:=oP (Mi.o.trans (MI.mono Mi.o.size));clear MI);exact kf (v:=.tuple #[]) (by simp[results,results168]) rfl ⟨by rw[Z3P Yz.o Wi8];rfl,OP.o⟩
def twI(nm:List UInt8->Option Int)(l:List ByteArray)(i:Nat):Bool:=(nm (l.getD i ⟨#[]⟩).data.toList).isSome||Lib.containsS (l.take i) (l.getD i ⟨#[]⟩)
def cgF(nm:List UInt8->Option Int)(n:Nat)(l:List ByteArray):Option Int:=if (List.range l.length).any (twI nm l)=true then some 4 else if 40<n+l.length then some 5 else none
def okO(o:Option Int)(line:Int):Ending:=match o with
 |none=>.returned (.tuple #[])
 |some n=>Bw n line
theorem Z3z{p:Nat->Bool}{j:Nat}(h1:(List.range j).any p=false)(h2:p j=false):(List.range (j+1)).any p=false:=by
 rw[oq,nV,h1];simp[h2]
theorem Z2z{w:World}{base:Nat}{e:TypeId}{size n m c:Nat}{a:Option Addr}{v:Value}{xs:List Value}(h:w.ownsRow base e size v n xs)(A:v=.slice a m c):m<=c/\c<=maxLen:=by
 obtain⟨_,⟨rfl,e2⟩|⟨g,D,G,rfl,_,_,h3,h4,_⟩⟩:=h
 ·cases A;exact⟨jU,j4⟩
 cases A;exact⟨h3,h4⟩
theorem Be(w:World)(ab:Nat)(i0 i1 i2:Value)(nb n:Nat)(nm:List UInt8->Option Int)(pl:Int)(l0 p0:Int)(lb:ByteArray)(tk:Nat)(G:ByteArray)(va:Option Addr)(vn vc:Nat)(cd:Int)(ka:Option Addr)(kn kc:Nat)(sz:Int)(h:AS w ab i0 i1 i2 nb n nm pl)(RR:n<=1000)(hs:∀s∈pW lb tk G,s.size<=1000000) :
  Calls prog 169 #[.pointer (some ⟨ab,0,none⟩),.agg #[.int .i64 l0,.int .i64 p0,.string lb,.int .i64 (tk:Int),.string G,.slice va vn vc,.int .u8 cd,.slice ka kn kc,.int .i64 sz]] w fun e w'=>e=okO (cgF nm n (pW lb tk G)) l0/\Below w.heap.size w w':=by
 obtain⟨W,hW,K1,NY,D⟩:=tv w l0 p0 lb (tk:Int) G (.slice va vn vc) cd (.slice ka kn kc) sz;have HG:=oP (I3 W l0 p0 lb tk G va vn vc cd ka kn kc sz);have q0:=D.c0;have q1:=D.c1;have q2:=D.c2;have q3:=D.c3;have q4:=D.c4;have q5:=D.c5;have q6:=D.c6;have q7:=D.c7;have q8:=D.c8
 have MU:(pW lb tk G).length<=2:=by
  unfold pW;rw[kq];split <;> split <;> simp
 obtain⟨U,hU⟩:=Zg0 (pW lb tk G);rw[hU]at HG MU hs⊢;have RU:=oP (fun w' (hb:Below w.heap.size w w') s (hx:s∈U)=>Dp w' ab i0 i1 i2 nb n nm pl s (h.below hb) (hs s hx));have HA:=oP (fun w' (hb:Below w.heap.size w w')=>h.below hb);have HB:=oP K1;have Vg:(n:Int)<=1000:=ae;clear K1 D hU h hs;go_enter func169,ntmps169;go_wp2_with fail;refine HG.o.mono ?_;rintro e w1 ⟨v,rfl,R,Kh⟩;obtain⟨x3,A,z3,ev⟩:=tV R;have Ud:=oP (tI R ev);have HR:=oP R;have Z6:(A:Int)<=2:=by have:=tI R ev;omega
 have r0:=(jW (a:=⟨w.heap.size,0,none⟩) (Kh.block w.heap.size ae)).trans q0;have S:=oP (HB.o.trans (Kh.mono HB.o.size));have WG5:Hid (A<=z3/\z3<=maxLen):=Z2z R ev;have V:=WG5.o;have KC:(A:Int)<=(z3:Int):=ae;have Ky:(z3:Int)<=9223372036854775807:=by have:=V.2;unfold maxLen at this;omega
 subst ev;clear R Kh HG q0 q1 q2 q3 q4 q5 q6 q7 q8 V;go_wp2_with fail;go_loopw [11] (fun i wr=>∃j:Nat,j<=A/\i=.int .i64 j/\(List.range j).any (twI nm U)=false/\wr=w1) (fun i _=>A-(intOf i).toNat)
 case atStart=>exact⟨0,j4,rfl,rfl,rfl⟩
 case round=>
  obtain⟨j,hj,rfl,I,hw⟩:=hrel;subst hw;have LM:=oP I;clear I;by_cases Kf:j<A
  ·have K6:(j:Int)<(A:Int):=by omega
   have Z:j<U.length:=by rw[<-Ud.o];exact Kf
   obtain⟨g,rfl,cj⟩:=uM HR.o dI (zI U j Z);have YC:U[j]∈U:=kC Z;have LH:U.getD j ⟨#[]⟩=U[j]:=by rw[jZ,jX Z];rfl
   have J:twI nm U j=((nm (U[j]).data.toList).isSome||Lib.containsS (U.take j) U[j]):=by unfold twI;rw[LH]
   obtain⟨x,hx⟩:=Zg0 (U[j]);rw[hx]at cj YC J
   have HC:Hid (Calls prog 217 #[.slice (some ⟨g,0,none⟩) j z3,.string x] wr fun e w'=>e=.returned (.bool (Lib.containsS (U.take j) x))/\w'=wr):=Tryz.slices_Contains_string g 0 j z3 U x wr ae ae (fun k hk=>by
    obtain⟨g',e,c⟩:=uM HR.o dI (zI U k hk);cases e;rw[kN,c,jZ,jX hk];rfl)
   have PW:=oP (RU.o wr S.o x YC);have M:=oP J;have VM7:(j:Int)<=(z3:Int):=ae;clear hx LH J YC;cases LD:(nm x.data.toList).isSome with
   |true=>
    rw[LD]at PW;go_wp2_with (go_at_call 109;refine PW.o.mono ?_;rintro e w6 ⟨rfl,rfl⟩)
    have Mp:cgF nm n U=some 4:=by
     unfold cgF;rw[jT];rw[mj];exact⟨j,lM.2 Z,by rw[M.o];simp[LD]⟩
    exact⟨rfl,cP,S.o⟩
   |false=>
    rw[LD]at PW;cases YD:Lib.containsS (U.take j) x with
    |true=>
     rw[YD]at HC;go_wp2_with (first| (go_at_call 109;refine PW.o.mono ?_;rintro e w6 ⟨rfl,rfl⟩)|(go_at_call 217;refine HC.o.mono ?_;rintro e w7 ⟨rfl,rfl⟩))
     have Mp:cgF nm n U=some 4:=by
      unfold cgF;rw[jT];rw[mj];exact⟨j,lM.2 Z,by rw[M.o];simp[YD]⟩
     exact⟨rfl,cP,S.o⟩
    |false=>
     rw[YD]at HC;go_wp2_with (first| (go_at_call 109;refine PW.o.mono ?_;rintro e w6 ⟨rfl,rfl⟩)|(go_at_call 217;refine HC.o.mono ?_;rintro e w7 ⟨rfl,rfl⟩));go_roundw
     case rel=>exact⟨j+1,ae,ao,Z3z LM.o (by rw[M.o,LD,YD];rfl),by first| rfl|trivial⟩
     case measure=>simp[intOf];omega
  have K6:¬(j:Int)<(A:Int):=ae
  have I:(List.range U.length).any (twI nm U)=false:=by
   have ej:j=U.length:=dI;rw[<-ej];exact LM.o
  have Qz:=HA.o wr S.o;have c3:=Qz.c3;have Kl:∀ty,(Builtin.len_ #[119] ty #[.map (some nb)]).run prog wr=.ok (.int .i64 (n:Int)) wr:=fun ty=>MapAt.len Qz.nms underlying119 ty
  by_cases Nx:40<n+A
  ·have Mp:cgF nm n U=some 5:=by
    unfold cgF;rw[I,jS af,jT (by rw[<-Ud.o];exact Nx)]
   have O:=oP Mp;have WG9:(40:Int)<(n:Int)+(A:Int):=ae;clear I Qz Mp;go_wp2;exact⟨rfl,by rw[O.o];rfl,S.o⟩
  have Mp:cgF nm n U=none:=by
   unfold cgF;rw[I,jS af,jS (by rw[<-Ud.o];exact Nx)]
  have O:=oP Mp;have WG9:¬(40:Int)<(n:Int)+(A:Int):=ae;clear I Qz Mp;go_wp2;go_end0;exact⟨by rw[O.o];rfl,S.o⟩
