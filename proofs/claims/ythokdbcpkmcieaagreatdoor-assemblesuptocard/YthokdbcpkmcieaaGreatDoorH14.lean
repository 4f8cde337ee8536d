import Derived.Test.YthokdbcpkmcieaaGreatDoorH13
set_option maxRecDepth 200000
set_option maxHeartbeats 16000000
namespace Go.Proofs.YthokdbcpkmcieaaGreatDoor
open RowKit Maps WideMaps Proofs.Tryz
structure Stm where
 task:Nat
 name:ByteArray
 vals:List (List Trm)
 ins:InsD
def re:InsD:=⟨0,[],0⟩
def rH(s:ByteArray):List Tok->Option (Stm×List Tok)
 |[]=>none
 |u::l=>if pd s.data.toList=true/\u.kind=1/\px u.text.data.toList=some 5 then (sK 5 l).map fun x=>(⟨5,s,x.1,re⟩,x.2) else none
def qy:List Tok->Option (Stm×List Tok)
 |[]=>none
 |t::l=>
  if t.kind=0 then some (⟨0,⟨#[]⟩,[],re⟩,t::l)
  else if ¬t.kind=1 then none
  else if ri t.text.data.toList=true then (x9 t.text.data.toList l).map fun x=>(⟨6,⟨#[]⟩,x.1.2,x.1.1⟩,x.2)
  else match px t.text.data.toList with
   |some tk=>if tk=5 then rH t.text l else (sK tk l).map fun x=>(⟨tk,⟨#[]⟩,x.1,re⟩,x.2)
   |none=>rH t.text l
def wI(w:World)(B A sb:Nat)(b:Bk)(line D p0:Int)(lb:ByteArray)(o:Option (Stm×List Tok))(e:Ending)(w':World):Prop:=
 match o with
 |none=>e=pj line/\Grow2 w w' A sb
 |some (x,l)=>∃v kv,e=.returned (.tuple #[])/\VAt w' w.heap.size v x.vals/\SS w' sb D p0 lb x.task x.name v x.ins.code kv x.ins.size/\w'.ownsRow 0 111 1 kv x.ins.kinds.length (qp x.ins.kinds)/\(∀j,kv.ownBlock=some j->j<A)/\PS w' B A b line l/\Grow2 w w' A sb
theorem VAt.lower{w:World}{base base':Nat}{v:Value}{es:List (List Trm)}(h:VAt w base v es)(A:base'<=base):VAt w base' v es:=by
 obtain⟨vs,h1,h2⟩:=h;refine⟨vs,pC h1 A,?_⟩;clear h1;induction vs generalizing es with
 |nil=>cases es with
  |nil=>trivial
  |cons _ _=>exact h2.elim
 |cons x vs ih=>cases es with
  |nil=>exact h2.elim
  |cons e es=>exact⟨⟨pC h2.1.1 A,h2.1.2⟩,ih h2.2⟩
theorem SS.task{w:World}{sb:Nat}{A p0:Int}{lb:ByteArray}{tk:Int}{nm:ByteArray}{v:Value}{D:Int}{kd:Value}{sz:Int}(h:SS w sb A p0 lb tk nm v D kd sz)(G:Int):SS (w.setCell ⟨sb,3,none⟩ (.int .i64 G)) sb A p0 lb G nm v D kd sz:=by
 refine⟨?_,?_,?_,kP _ h.c3,?_,?_,?_,?_,?_,fun j=>aV,cJ⟩
 ·rw[j3 af];exact h.c0
 ·rw[j3 af];exact h.c1
 ·rw[j3 af];exact h.c2
 ·rw[j3 af];exact h.c4
 ·rw[j3 af];exact h.c5
 ·rw[j3 af];exact h.c6
 ·rw[j3 af];exact h.c7
 rw[j3 af];exact h.c8
theorem SS.name{w:World}{sb:Nat}{A p0:Int}{lb:ByteArray}{tk:Int}{nm:ByteArray}{v:Value}{D:Int}{kd:Value}{sz:Int}(h:SS w sb A p0 lb tk nm v D kd sz)(G:ByteArray):SS (w.setCell ⟨sb,4,none⟩ (.string G)) sb A p0 lb tk G v D kd sz:=by
 refine⟨?_,?_,?_,?_,kP _ h.c4,?_,?_,?_,?_,fun j=>aV,cJ⟩
 ·rw[j3 af];exact h.c0
 ·rw[j3 af];exact h.c1
 ·rw[j3 af];exact h.c2
 ·rw[j3 af];exact h.c3
 ·rw[j3 af];exact h.c5
 ·rw[j3 af];exact h.c6
 ·rw[j3 af];exact h.c7
 rw[j3 af];exact h.c8
theorem Z6M(w:World)(B A sb:Nat)(b:Bk)(line:Int)(t:Tok)(l:List Tok)(h:PS w B A b line (t::l))(_hb:BookAt w b)(_hI:InsAt w b A)(_hib:b.ib<A)(_ha:Apart B A b)(_hn:(t::l).length<=1000000)(D p0:Int)(lb:ByteArray)
  (G:SS w sb D p0 lb (0:Nat) ⟨#[]⟩ (.slice none 0 0) 0 (.slice none 0 0) 0) (_hne:sb≠A) (_hB:B<=sb) (hk:t.kind=0):Calls prog 166 #[.pointer (some ⟨A,0,none⟩),.pointer (some ⟨sb,0,none⟩)] w (wI w B A sb b line D p0 lb (qy (t::l))):=by
 have I:=oP (vP w B A b line t l h);have e:qy (t::l)=some (⟨0,⟨#[]⟩,[],re⟩,t::l):=by simp only[qy];rw[jT hk]
 rw[e];have hd:decide (t.kind=0)=true:=bD;rw[hd]at I;have J:=oP (And.intro h G);clear h _hb _hI G;go_enter func166,ntmps166;go_wp2_with (refine I.o.mono ?_;rintro e O ⟨rfl,rfl⟩);refine kf (nt rfl _ _ _) rfl ?_;exact⟨_,_,rfl,⟨[],kA,trivial⟩,J.o.2,kA,(fun j M=>by cases M),J.o.1,Grow2.refl _ _ _⟩
theorem Z4h(w:World)(B A sb:Nat)(b:Bk)(line:Int)(t:Tok)(l:List Tok)(h:PS w B A b line (t::l))(_hb:BookAt w b)(_hI:InsAt w b A)(_hib:b.ib<A)(_ha:Apart B A b)(_hn:(t::l).length<=1000000)(D p0:Int)(lb:ByteArray)
  (_hS:SS w sb D p0 lb (0:Nat) ⟨#[]⟩ (.slice none 0 0) 0 (.slice none 0 0) 0) (_hne:sb≠A) (_hB:B<=sb) (hk:¬t.kind=0) (G:¬t.kind=1):Calls prog 166 #[.pointer (some ⟨A,0,none⟩),.pointer (some ⟨sb,0,none⟩)] w (wI w B A sb b line D p0 lb (qy (t::l))):=by
 have I:=oP (vP w B A b line t l h);have e:qy (t::l)=none:=by simp only[qy];rw[jS hk,jT G]
 rw[e];have hd:decide (t.kind=0)=false:=bD;rw[hd]at I;have M:=oP (zc w B A b line t l h G);clear h _hb _hI _hS;go_enter func166,ntmps166;go_wp2_with fail;refine I.o.mono ?_;rintro e O ⟨rfl,J⟩;rw[J];clear J O;go_wp2_with fail;refine M.o.mono ?_;rintro e R ⟨rfl,rfl⟩;unfold pj;go_wp2_with fail;exact⟨rfl,rfl,Grow2.refl _ _ _⟩
theorem Z8c(w:World)(B A sb:Nat)(b:Bk)(line:Int)(t:Tok)(l:List Tok)(h:PS w B A b line (t::l))(hb:BookAt w b)(hI:InsAt w b A)(Z:b.ib<A)(M:Apart B A b)(hn:(t::l).length<=1000000)(l0 p0:Int)(lb:ByteArray)
  (hS:SS w sb l0 p0 lb (0:Nat) ⟨#[]⟩ (.slice none 0 0) 0 (.slice none 0 0) 0) (Kk:sb≠A) (hB:B<=sb) (Lv:t.kind=1) (hh:ri t.text.data.toList=true):Calls prog 166 #[.pointer (some ⟨A,0,none⟩),.pointer (some ⟨sb,0,none⟩)] w (wI w B A sb b line l0 p0 lb (qy (t::l))):=by
 have HA:=oP (vP w B A b line t l h);obtain⟨R,hR⟩:=Zg0 (x9 t.text.data.toList l);have e:qy (t::l)=R.map fun x=>(⟨6,⟨#[]⟩,x.1.2,x.1.1⟩,x.2):=by simp only[qy];rw[jS ae,jS cN,jT hh,hR]
 rw[e];have hd:decide (t.kind=0)=false:=ai;rw[hd]at HA;have KE:=h.sz t af;have HW:=oP (vv w B A b line t l h Lv);have T4:=h.lt;have VZ:=h.le;have Lu:=oP hb;have So:=oP hI;have Kz:=oP hS;clear h hb hI hS e;go_enter func166,ntmps166;go_wp2_with fail;refine HA.o.mono ?_;rintro e w0 ⟨rfl,Kv⟩;rw[Kv];clear Kv w0;go_wp2_with fail;refine HW.o.mono ?_;rintro e w1 ⟨rfl,G,O⟩;have S:=Lu.o.kept O M.h1 M.h2 M.h3;have Vo:=Grow2.of1 O sb;have QT:=Kz.o.grown (O.block sb Kz.o.lt ay) O.size;have OQ:=yg w1 b t.text S ae
 obtain⟨dv,dz,T6⟩:∃(dv:Nat) (dz:Bool),vg (px t.text.data.toList)=.tuple #[.int .i64 dv,.bool dz]:=by
  cases px t.text.data.toList with
  |none=>exact⟨0,false,rfl⟩
  |some x=>exact⟨x,true,rfl⟩
 rw[T6]at OQ;have U:=yv w1 b t.text S ae;rw[hh]at U;unfold bkV at U;have HH:=oP U;have d0:=G.c0;have d1:=G.c1;have d2:=G.c2;have d3:=G.c3;have M9:=oP G;have KK:=oP S;have PB:=oP QT;have Vq3:=oP (So.o.kept Vo Z hB T4);clear G S QT U T6;go_wp2_with fail;refine HH.o.mono ?_;rintro e w2 ⟨rfl,I⟩;have Px:=Vo.trans (Grow2.ofB I _ _);have J:=Z4t w2 B A sb b line l (M9.o.kept (I.mono M9.o.le)) (KK.o.below I) (Vq3.o.kept (Grow2.ofB I A sb) Z hB T4) Z M cH t.text ae l0 p0 lb 0 ⟨#[]⟩ 0 none 0 0 0 (PB.o.grown (I.block sb PB.o.lt) I.size) Kk hB;rw[hR]at J;cases R with
 |none=>
  have D:=oP J;clear J;go_wp2_with fail;refine D.o.mono ?_;rintro e w3 ⟨rfl,Kr⟩;unfold pj;go_wp2_with fail;exact⟨rfl,rfl,Px.trans Kr⟩
 |some x=>
  obtain⟨⟨d,es⟩,l2⟩:=x;have D:=oP J;clear J;go_wp2_with fail;refine D.o.mono ?_;rintro e w3 ⟨v,kv,rfl,h1,h2,h3,h4,V,h6⟩;have HZ:=oP (And.intro h1 (And.intro h2 (And.intro h3 (And.intro h4 (And.intro V h6)))));clear h1 h2 h3 h4 V h6;go_wp2_with fail
  first
   |go_end0
   |refine kf (nt rfl _ _ _) rfl ?_
  obtain⟨h1,h2,h3,h4,V,h6⟩:=HZ.o;exact⟨v,kv,rfl,h1.lower Px.size,h2,h3,h4,V,Px.trans h6⟩
theorem Z8g(w:World)(B A sb:Nat)(b:Bk)(line:Int)(t:Tok)(l:List Tok)(h:PS w B A b line (t::l))(hb:BookAt w b)(_hI:InsAt w b A)(_hib:b.ib<A)(D:Apart B A b)(hn:(t::l).length<=1000000)(Z p0:Int)(lb:ByteArray)
  (hS:SS w sb Z p0 lb (0:Nat) ⟨#[]⟩ (.slice none 0 0) 0 (.slice none 0 0) 0) (Kk:sb≠A) (hB:B<=sb) (Lv:t.kind=1) (hh:ri t.text.data.toList=false) (tk:Nat) (htk:px t.text.data.toList=some tk) (h5:¬tk=5):Calls prog 166 #[.pointer (some ⟨A,0,none⟩),.pointer (some ⟨sb,0,none⟩)] w (wI w B A sb b line Z p0 lb (qy (t::l))):=by
 have HA:=oP (vP w B A b line t l h);obtain⟨R,hR⟩:=Zg0 (sK tk l);have e:qy (t::l)=R.map fun x=>(⟨tk,⟨#[]⟩,x.1,re⟩,x.2):=by simp only[qy];rw[jS ae,jS cN,jS (by simp[hh]),htk];simp only;rw[jS h5,hR]
 rw[e];have hd:decide (t.kind=0)=false:=ai;rw[hd]at HA;have KE:=h.sz t af;have HW:=oP (vv w B A b line t l h Lv);have T4:=h.lt;have VZ:=h.le;have Lu:=oP hb;have Kz:=oP hS;have i5:((tk:Int)==5)=false:=ai;clear h hb _hI hS e;go_enter func166,ntmps166;go_wp2_with fail;refine HA.o.mono ?_;rintro e w0 ⟨rfl,Kv⟩;rw[Kv];clear Kv w0;go_wp2_with fail;refine HW.o.mono ?_;rintro e w1 ⟨rfl,G,O⟩;have S:=Lu.o.kept O D.h1 D.h2 D.h3;have Vo:=Grow2.of1 O sb;have QT:=Kz.o.grown (O.block sb Kz.o.lt ay) O.size;have OQ:=yg w1 b t.text S ae;rw[htk]at OQ;simp only[vg]at OQ;have U:=yv w1 b t.text S ae;rw[hh]at U;unfold bkV at U;have HH:=oP U;have d0:=G.c0;have d1:=G.c1;have d2:=G.c2;have d3:=G.c3;have M9:=oP G;have KK:=oP S;have PB:=oP QT;clear G S QT U;go_wp2_with fail;refine HH.o.mono ?_;rintro e w2 ⟨rfl,I⟩;have Px:=Vo.trans (Grow2.ofB I _ _);have V:=PB.o.grown (I.block sb PB.o.lt) I.size;have s3:=V.c3;have f3:=V.fz 3;have NW:=V.task tk;have Kq:Below B w2 (w2.setCell ⟨sb,3,none⟩ (.int .i64 tk)):=(jV).setCell hB _;have V0:=Px.set 3 (.int .i64 (tk:Int));have LK:=(M9.o.kept (I.mono M9.o.le)).kept Kq;have J:=(KK.o.below I).belowB Kq D.l1 D.l2 D.l3;have M:=Jt (w2.setCell ⟨sb,3,none⟩ (.int .i64 tk)) B A sb b line l LK J D cH Z p0 lb tk ⟨#[]⟩ 0 none 0 0 0 NW Kk hB;rw[hR]at M;clear V NW LK J;cases R with
 |none=>
  have Qw:=oP M;clear M;go_wp2_with fail;refine Qw.o.mono ?_;rintro e w4 ⟨rfl,Qt⟩;unfold pj;go_wp2_with fail;exact⟨rfl,rfl,V0.trans Qt⟩
 |some x=>
  obtain⟨es,l2⟩:=x;have Qw:=oP M;clear M;go_wp2_with fail;refine Qw.o.mono ?_;rintro e w4 ⟨v,rfl,h1,h2,h3,h4⟩;have HZ:=oP (And.intro h1 (And.intro h2 (And.intro h3 h4)));clear h1 h2 h3 h4;go_wp2_with fail
  first
   |go_end0
   |refine kf (nt rfl _ _ _) rfl ?_
  obtain⟨h1,h2,h3,h4⟩:=HZ.o;exact⟨v,_,rfl,h1.lower V0.size,h2,kA,(fun j hj=>by cases hj),h3,V0.trans h4⟩
theorem FY(w:World)(b:Bk)(s:ByteArray)(h:BookAt w b)(hs:s.size<=1000000):(Instr.lookup 248 (.map (some b.db)) (.string s) false).run prog w=.ok (.int .i64 ((px s.data.toList).getD 0:Nat)) w:=by
 have A:keyOf prog 9 (.string s)=some (.string s.data.toList):=kO underlying9 ak;rw[h.dirs.look rz underlying248 (Fw _) A false];cases px s.data.toList <;> rfl
theorem Z11(w:World)(B A sb:Nat)(b:Bk)(line:Int)(t:Tok)(l:List Tok)(h:PS w B A b line (t::l))(Z:BookAt w b)(_hI:InsAt w b A)(_hib:b.ib<A)(R:Apart B A b)(_hn:(t::l).length<=1000000)(l0 p0:Int)(lb:ByteArray)
  (hS:SS w sb l0 p0 lb (0:Nat) ⟨#[]⟩ (.slice none 0 0) 0 (.slice none 0 0) 0) (Kk:sb≠A) (_hB:B<=sb) (Lv:t.kind=1) (hh:ri t.text.data.toList=false) (htk:px t.text.data.toList=none\/px t.text.data.toList=some 5) (KA:pd t.text.data.toList=false):Calls prog 166 #[.pointer (some ⟨A,0,none⟩),.pointer (some ⟨sb,0,none⟩)] w (wI w B A sb b line l0 p0 lb none):=by
 have HA:=oP (vP w B A b line t l h);have hd:decide (t.kind=0)=false:=ai;rw[hd]at HA;have KE:=h.sz t af;have HW:=oP (vv w B A b line t l h Lv);have T4:=h.lt;have VZ:=h.le;have Lu:=oP Z;have Kz:=oP hS;obtain⟨dv,I,T6,W8⟩:∃(dv:Nat) (I:Bool),vg (px t.text.data.toList)=.tuple #[.int .i64 dv,.bool I]/\(I=true->dv=5):=MbB;have V4:=oP T6;have S:=oP W8;clear h Z _hI hS T6 W8;go_enter func166,ntmps166;go_wp2_with fail;refine HA.o.mono ?_;rintro e w0 ⟨rfl,Kv⟩;rw[Kv];clear Kv w0;go_wp2_with fail;refine HW.o.mono ?_;rintro e w1 ⟨rfl,D,J⟩;have M:=Lu.o.kept J R.h1 R.h2 R.h3;have Vo:=Grow2.of1 J sb;have QT:=Kz.o.grown (J.block sb Kz.o.lt ay) J.size;have OQ:=yg w1 b t.text M ae;rw[V4.o]at OQ;have O:=yv w1 b t.text M ae;rw[hh]at O;unfold bkV at O;have HH:=oP O;have d0:=D.c0;have d1:=D.c1;have d2:=D.c2;have d3:=D.c3;have M9:=oP D;have KK:=oP M;have PB:=oP QT;clear D M QT O;go_wp2_with fail;refine HH.o.mono ?_;rintro e U ⟨rfl,G⟩;have Px:=Vo.trans (Grow2.ofB G _ _);have Oy:=PB.o.grown (G.block sb PB.o.lt) G.size;have MC:=M9.o.kept (G.mono M9.o.le);have Mb:=KK.o.below G;have V:=zR U B A b line l t.text MC Mb ae;rw[Jg _ _ KA]at V;have HC:=oP V;clear V MC Mb Oy;have W9:∀(w3:World),Below U.heap.size U w3->Grow2 w w3 A sb:=fun w3 Kq=>Px.trans (Grow2.ofB Kq _ _)
 have Ws9:=oP W9;clear W9;cases I with
 |true=>
  have h5:=S.o rfl;subst h5;exact Mby
 |false=>exact Mby
theorem Z8q(w:World)(B A sb:Nat)(b:Bk)(line:Int)(t:Tok)(u:Tok)(l2:List Tok)(h:PS w B A b line (t::u::l2))(hb:BookAt w b)(_hI:InsAt w b A)(_hib:b.ib<A)(G:Apart B A b)(_hn:(t::u::l2).length<=1000000)(l0 p0:Int)(lb:ByteArray)
  (hS:SS w sb l0 p0 lb (0:Nat) ⟨#[]⟩ (.slice none 0 0) 0 (.slice none 0 0) 0) (Kk:sb≠A) (hB:B<=sb) (Lv:t.kind=1) (hh:ri t.text.data.toList=false) (htk:px t.text.data.toList=none\/px t.text.data.toList=some 5) (KA:pd t.text.data.toList=true) (hu:¬u.kind=1):Calls prog 166 #[.pointer (some ⟨A,0,none⟩),.pointer (some ⟨sb,0,none⟩)] w (wI w B A sb b line l0 p0 lb none):=by
 have HA:=oP (vP w B A b line t (u::l2) h);have hd:decide (t.kind=0)=false:=ai;rw[hd]at HA;have KE:=h.sz t af;have HW:=oP (vv w B A b line t (u::l2) h Lv);have T4:=h.lt;have VZ:=h.le;have Lu:=oP hb;have Kz:=oP hS;obtain⟨dv,O,T6,W8⟩:∃(dv:Nat) (O:Bool),vg (px t.text.data.toList)=.tuple #[.int .i64 dv,.bool O]/\(O=true->dv=5):=MbB;have V4:=oP T6;have Wh2:=oP W8;clear h hb _hI hS T6 W8;go_enter func166,ntmps166;go_wp2_with fail;refine HA.o.mono ?_;rintro e w0 ⟨rfl,Kv⟩;rw[Kv];clear Kv w0;go_wp2_with fail;refine HW.o.mono ?_;rintro e w1 ⟨rfl,I,R⟩;have S:=Lu.o.kept R G.h1 G.h2 G.h3;have Vo:=Grow2.of1 R sb;have QT:=Kz.o.grown (R.block sb Kz.o.lt ay) R.size;have OQ:=yg w1 b t.text S ae;rw[V4.o]at OQ;have U:=yv w1 b t.text S ae;rw[hh]at U;unfold bkV at U;have HH:=oP U;have d0:=I.c0;have d1:=I.c1;have d2:=I.c2;have d3:=I.c3;have M9:=oP I;have KK:=oP S;have PB:=oP QT;clear I S QT U;go_wp2_with fail;refine HH.o.mono ?_;rintro e w2 ⟨rfl,J⟩;have Px:=Vo.trans (Grow2.ofB J _ _);have Oy:=PB.o.grown (J.block sb PB.o.lt) J.size;have V:=M9.o.kept (J.mono M9.o.le);have Z:=KK.o.below J;have Tr:=zR w2 B A b line (u::l2) t.text V Z ae;rw[CY _ _ KA]at Tr;have HC:=oP Tr;have MX:=oP V;have Lo:=oP Z;have Ox:=oP Oy;have Lm:∀args w,(callFunc 209 args).run prog w=.ok (.enter 209 args) w:=enters_of func209 aj rfl;clear Tr V Z Oy;cases O with
 |true=>exact Ma0
 |false=>
  go_wp2_with fail;refine HC.o.mono ?_;rintro e w3 ⟨rfl,M⟩;have D:=Ox.o.grown (M.block sb Ox.o.lt) M.size;have s3:=D.c3;have s4:=D.c4;have f3:=D.fz 3;have f4:=D.fz 4;have WE8:=D.lt;have Ri:=(D.task 5).name t.text;have Ma:Below B w3 ((w3.setCell ⟨sb,3,none⟩ (.int .i64 5)).setCell ⟨sb,4,none⟩ (.string t.text)):=(jV.setCell hB _).setCell hB _;have T8:=((Px.trans (Grow2.ofB M _ _)).set 3 (.int .i64 5)).set 4 (.string t.text);have PT:=(MX.o.kept (M.mono MX.o.le)).kept Ma;have T9:=(Lo.o.below M).belowB Ma G.l1 G.l2 G.l3;have H4:=oP (And.intro Ri (And.intro PT T9));have d33:=PT.c3;clear D Ri Ma PT T9;go_wp2_with fail;obtain⟨W,hW⟩:=Zg0 ((w3.setCell ⟨sb,3,none⟩ (.int .i64 5)).setCell ⟨sb,4,none⟩ (.string t.text));rw[hW]at H4 T8 d33⊢;clear hW s3 s4 f3 f4;have WE9:=oP (zc W.drew B A b line u l2 (H4.o.2.1.kept jV.drew) hu);have O9:=FY W.drew b ⟨#[]⟩ (H4.o.2.2.below jV.drew) ah;go_region_law (refine C5 (.string ⟨#[]⟩) 209 #[.pointer (some ⟨A,0,none⟩)] rfl aW _ WE9.o (fun e w' hh=>⟨_,hh.1,rfl,rfl,by rw[hh.2];exact T8.trans (Grow2.ofB jV.drew _ _)⟩) ?_;intro HF)
  all_goals exact HF.o.elim
theorem Z0L(w:World)(B A sb:Nat)(b:Bk)(line:Int)(t:Tok)(u:Tok)(l2:List Tok)(h:PS w B A b line (t::u::l2))(hb:BookAt w b)(_hI:InsAt w b A)(_hib:b.ib<A)(D:Apart B A b)(hn:(t::u::l2).length<=1000000)(l0 p0:Int)(lb:ByteArray)
  (hS:SS w sb l0 p0 lb (0:Nat) ⟨#[]⟩ (.slice none 0 0) 0 (.slice none 0 0) 0) (Kk:sb≠A) (hB:B<=sb) (Lv:t.kind=1) (hh:ri t.text.data.toList=false) (htk:px t.text.data.toList=none\/px t.text.data.toList=some 5) (KA:pd t.text.data.toList=true) (hu:u.kind=1):Calls prog 166 #[.pointer (some ⟨A,0,none⟩),.pointer (some ⟨sb,0,none⟩)] w (wI w B A sb b line l0 p0 lb (if px u.text.data.toList=some 5 then (sK 5 l2).map fun x=>(⟨5,t.text,x.1,re⟩,x.2) else none)):=by
 have Vo7:=h.sz u af;obtain⟨T0,I⟩:=Zg0 ((if px u.text.data.toList=some 5 then (sK 5 l2).map fun x=>((⟨5,t.text,x.1,re⟩:Stm),x.2) else none));rw[I];have Sv:=oP I;clear I;have HA:=oP (vP w B A b line t (u::l2) h);have hd:decide (t.kind=0)=false:=ai;rw[hd]at HA;have KE:=h.sz t af;have HW:=oP (vv w B A b line t (u::l2) h Lv);have T4:=h.lt;have VZ:=h.le;have Lu:=oP hb;have Kz:=oP hS;obtain⟨dv,dz,T6,W8⟩:∃(dv:Nat) (dz:Bool),vg (px t.text.data.toList)=.tuple #[.int .i64 dv,.bool dz]/\(dz=true->dv=5):=MbB;have V4:=oP T6;have Wh2:=oP W8;clear h hb _hI hS T6 W8;go_enter func166,ntmps166;go_wp2_with fail;refine HA.o.mono ?_;rintro e w0 ⟨rfl,Kv⟩;rw[Kv];clear Kv w0;go_wp2_with fail;refine HW.o.mono ?_;rintro e w1 ⟨rfl,U,KT⟩;have LG:=Lu.o.kept KT D.h1 D.h2 D.h3;have Vo:=Grow2.of1 KT sb;have QT:=Kz.o.grown (KT.block sb Kz.o.lt ay) KT.size;have OQ:=yg w1 b t.text LG ae;rw[V4.o]at OQ;have Oo:=yv w1 b t.text LG ae;rw[hh]at Oo;unfold bkV at Oo;have HH:=oP Oo;have d0:=U.c0;have d1:=U.c1;have d2:=U.c2;have d3:=U.c3;have M9:=oP U;have KK:=oP LG;have PB:=oP QT;clear U LG QT Oo;go_wp2_with fail;refine HH.o.mono ?_;rintro e w2 ⟨rfl,Km⟩;have Px:=Vo.trans (Grow2.ofB Km _ _);have Oy:=PB.o.grown (Km.block sb PB.o.lt) Km.size;have MC:=M9.o.kept (Km.mono M9.o.le);have Mb:=KK.o.below Km;have Tr:=zR w2 B A b line (u::l2) t.text MC Mb ae;rw[CY _ _ KA]at Tr;have HC:=oP Tr;have MX:=oP MC;have Lo:=oP Mb;have Ox:=oP Oy;clear Tr MC Mb Oy;cases dz with
 |true=>exact Ma0
 |false=>
  go_wp2_with fail;refine HC.o.mono ?_;rintro e w3 ⟨rfl,Kq⟩;have J:=Ox.o.grown (Kq.block sb Ox.o.lt) Kq.size;have s3:=J.c3;have s4:=J.c4;have f3:=J.fz 3;have f4:=J.fz 4;have WE8:=J.lt;have Ri:=(J.task 5).name t.text;have Ma:Below B w3 ((w3.setCell ⟨sb,3,none⟩ (.int .i64 5)).setCell ⟨sb,4,none⟩ (.string t.text)):=(jV.setCell hB _).setCell hB _;have T8:=((Px.trans (Grow2.ofB Kq _ _)).set 3 (.int .i64 5)).set 4 (.string t.text);have PT:=(MX.o.kept (Kq.mono MX.o.le)).kept Ma;have T9:=(Lo.o.below Kq).belowB Ma D.l1 D.l2 D.l3;have V:=oP (And.intro Ri (And.intro PT T9));have d33:=PT.c3;clear J Ri Ma PT T9;go_wp2_with fail;obtain⟨W,hW⟩:=Zg0 ((w3.setCell ⟨sb,3,none⟩ (.int .i64 5)).setCell ⟨sb,4,none⟩ (.string t.text));rw[hW]at V T8 d33⊢;clear hW s3 s4 f3 f4;have WE9:=oP (vv W.drew B A b line u l2 (V.o.2.1.kept jV.drew) hu);have Ys:=oP (fun(Z:World) (hg:W.drew.grownBy Z (some A))=>FY Z b u.text ((V.o.2.2.below jV.drew).kept hg D.h1 D.h2 D.h3) ae);obtain⟨dd,G⟩:=Zg0 ((px u.text.data.toList).getD 0);rw[G]at Ys;go_region_with (go_at_call 209;refine WE9.o.mono ?_;rintro e Z ⟨rfl,M,O⟩;have O9:=Ys.o Z O;have d34:=M.c3)
  all_goals
   have Yb:=T8.trans ((Grow2.ofB (nY W.heap.size _).drew A sb).trans (Grow2.of1 O sb));have ZW:sb<W.heap.size:=V.o.1.lt;have ZR:=V.o.1.grown (O.block sb ZW ay) O.size;have Yt:=(V.o.2.2.below jV.drew).kept O D.h1 D.h2 D.h3;have Xb:=M;clear O9 d34 M;by_cases Va1:dd=5
   ·subst Va1
    have S:px u.text.data.toList=some 5:=by
     cases hq:px u.text.data.toList with
     |none=>rw[hq]at G;cases G
     |some z=>rw[hq]at G;simp at G;rw[G]
    obtain⟨R,Wu1⟩:=Zg0 (sK 5 l2);have Tu:=oP (show T0=R.map fun x=>((⟨5,t.text,x.1,re⟩:Stm),x.2) by rw[<-Sv.o,jT S,Wu1]);have T7:=Jt Z B A sb b line l2 Xb Yt D cH l0 p0 lb 5 t.text 0 none 0 0 0 ZR Kk hB;rw[Wu1]at T7;clear Xb Yt ZR;cases R with
    |none=>
     have Qw:=oP T7;clear T7;go_wp2_with fail;refine Qw.o.mono ?_;rintro e w5 ⟨rfl,O⟩;unfold pj;go_wp2_with fail;rw[Tu.o];exact⟨rfl,rfl,Yb.trans O⟩
    |some x=>
     obtain⟨es,l3⟩:=x;have Qw:=oP T7;clear T7;go_wp2_with fail;refine Qw.o.mono ?_;rintro e w5 ⟨v,rfl,h1,h2,h3,h4⟩;have HZ:=oP (And.intro h1 (And.intro h2 (And.intro h3 h4)));clear h1 h2 h3 h4;go_wp2_with fail
     first
      |go_end0
      |refine kf (nt rfl _ _ _) rfl ?_
     rw[Tu.o];obtain⟨h1,h2,h3,h4⟩:=HZ.o;exact⟨v,_,rfl,h1.lower Yb.size,h2,kA,(fun j hj=>by cases hj),h3,Yb.trans h4⟩
   have i5:((dd:Int)==5)=false:=ai;have S:¬px u.text.data.toList=some 5:=fun e=>by rw[e]at G;exact Va1 G.symm
   have Tu:=oP (show T0=none by rw[<-Sv.o,jS S]);have HG:=oP (vB Z B A b line l2 Xb);clear Xb Yt ZR;go_wp2_with fail;refine HG.o.mono ?_;rintro e w5 ⟨rfl,rfl⟩;unfold pj;go_wp2_with fail;rw[Tu.o];exact⟨rfl,rfl,Yb⟩
theorem Z0X(w:World)(B A sb:Nat)(b:Bk)(line:Int)(ts:List Tok)(h:PS w B A b line ts)(G:BookAt w b)(I:InsAt w b A)(J:b.ib<A)(M:Apart B A b)(hn:ts.length<=1000000)(D p0:Int)(lb:ByteArray)
  (O:SS w sb D p0 lb (0:Nat) ⟨#[]⟩ (.slice none 0 0) 0 (.slice none 0 0) 0) (R:sb≠A) (S:B<=sb) :
  Calls prog 166 #[.pointer (some ⟨A,0,none⟩),.pointer (some ⟨sb,0,none⟩)] w (wI w B A sb b line D p0 lb (qy ts)):=by
 obtain⟨t,l,rfl⟩:=h.ne;by_cases hk:t.kind=0
 ·exact Z6M w B A sb b line t l h G I J M hn D p0 lb O R S hk
 by_cases Lv:t.kind=1
 ·cases hh:ri t.text.data.toList with
  |true=>exact Z8c w B A sb b line t l h G I J M hn D p0 lb O R S Lv hh
  |false=>
   have hl:=CW h.last hk;obtain⟨u,l2,rfl⟩:∃u l2,l=u::l2:=Mcl
   have U:px t.text.data.toList=none\/px t.text.data.toList=some 5->Calls prog 166 #[.pointer (some ⟨A,0,none⟩),.pointer (some ⟨sb,0,none⟩)] w (wI w B A sb b line D p0 lb (rH t.text (u::l2))):=by
    intro htk;cases V:pd t.text.data.toList with
    |false=>
     have e:rH t.text (u::l2)=none:=by simp only[rH];rw[jS (by simp[V])]
     rw[e];exact Z11 w B A sb b line t (u::l2) h G I J M hn D p0 lb O R S Lv hh htk V
    |true=>
     by_cases Z:u.kind=1
     ·have e:rH t.text (u::l2)=if px u.text.data.toList=some 5 then (sK 5 l2).map fun x=>(⟨5,t.text,x.1,re⟩,x.2) else none:=by
       simp only[rH];by_cases hd:px u.text.data.toList=some 5
       ·rw[jT ⟨V,Z,hd⟩,jT hd]
       rw[jS (fun h=>hd h.2.2),jS hd]
      rw[e];exact Z0L w B A sb b line t u l2 h G I J M hn D p0 lb O R S Lv hh htk V Z
     have e:rH t.text (u::l2)=none:=by simp only[rH];rw[jS (fun h=>Z h.2.1)]
     rw[e];exact Z8q w B A sb b line t u l2 h G I J M hn D p0 lb O R S Lv hh htk V Z
   cases hd:px t.text.data.toList with
   |none=>
    have e:qy (t::u::l2)=rH t.text (u::l2):=by simp only[qy];rw[jS hk,jS cN,jS (by simp[hh]),hd]
    rw[e];exact U (.inl hd)
   |some tk=>
    by_cases h5:tk=5
    ·subst h5;have e:qy (t::u::l2)=rH t.text (u::l2):=by simp only[qy];rw[jS hk,jS cN,jS (by simp[hh]),hd];simp
     rw[e];exact U (.inr hd)
    exact Z8g w B A sb b line t (u::l2) h G I J M hn D p0 lb O R S Lv hh tk hd h5
 exact Z4h w B A sb b line t l h G I J M hn D p0 lb O R S hk Lv
theorem Cu:∀(f:Nat) (r:ByteArray) (A:List Tok),pY f r=some A->∀t∈A,t.kind≠0/\t.text.size<=r.size
 |0,r,A,h,t,ht=>by simp[pY]at h;subst h;cases ht
 |f+1,r,A,h,t,ht=>by
  unfold pY at h
  by_cases D:0<r.size
  ·rw[mR D]at h
   obtain⟨o,ho,h2⟩:=l9.1 h
   obtain⟨G,h3,rfl⟩:=kJ.1 h2
   rcases kW.1 ht with h4|h4
   ·have I:(yD r).size<=r.size:=by unfold yD;rw[kU];omega
    unfold sq at ho
    split at ho
    ·cases ho;cases h4
    split at ho
    ·obtain⟨v,_,rfl⟩:=kJ.1 ho
     simp[tf]at h4
     subst h4
     exact⟨af,I⟩
    split at ho
    ·cases ho
     simp[tf]at h4
     subst h4
     exact⟨af,I⟩
    cases ho
    simp[tf]at h4
    subst h4
    exact⟨af,I⟩
   have J:=Cu f (wM r) G h3 t h4
   have h6:=FF r D
   exact⟨J.1,ae⟩
  rw[nh D]at h
  cases h
  cases ht
theorem Ct:∀(f:Nat) (r:ByteArray) (A:List Tok),pY f r=some A->A.length<=f
 |0,r,A,h=>by simp[pY]at h;subst h;simp
 |f+1,r,A,h=>by
  unfold pY at h
  by_cases G:0<r.size
  ·rw[mR G]at h
   obtain⟨o,ho,h2⟩:=l9.1 h
   obtain⟨D,h3,rfl⟩:=kJ.1 h2
   have:=Ct f (wM r) D h3
   cases o <;> simp[tf] <;> omega
  rw[nh G]at h
  cases h
  simp
