import Derived.Test.YthokdbcpkmcieaaGreatDoorH07
import Derived.Test.YthokdbcpkmcieaaGreatDoorH04
set_option maxRecDepth 200000
set_option maxHeartbeats 16000000
namespace Go.Proofs.YthokdbcpkmcieaaGreatDoor
open RowKit Maps WideMaps Proofs.Tryz
structure Tok where
 kind:Nat
 text:ByteArray
 num:Int
def ux:Tok:=⟨0,⟨#[]⟩,0⟩
def Tok.cells(t:Tok):List Value:=[.int .i64 t.kind,.string t.text,.int .i64 t.num]
def sQ(l:List Tok):List Value:=l.flatMap Tok.cells
theorem Az(l:List Tok)(t:Tok):sQ (l++[t])=sQ l++t.cells:=by simp[sQ]
def vQ(r:ByteArray):Nat:=max (runN r.data.toList) 1
def yD(r:ByteArray):ByteArray:=r.extract 0 (vQ r)
def wM(r:ByteArray):ByteArray:=r.extract (vQ r) r.size
def sq(c:UInt8)(t:ByteArray):Option (Option Tok):=
 if c.toNat=32 then some none
 else if isD c=true then (numOf t.data.toList).map fun v=>some ⟨2,t,v⟩
 else if isW c=true then some (some ⟨1,t,0⟩)
 else some (some ⟨3,t,0⟩)
def tf{α:Type}:Option α->List α
 |some x=>[x]
 |none=>[]
def pY:Nat->ByteArray->Option (List Tok)
 |0,_=>some []
 |f+1,r=>if h:0<r.size then (sq r[0] (yD r)).bind fun o=>(pY f (wM r)).map (tf o ++ ·) else some []
theorem Z3C(r:ByteArray)(h:0<r.size):vQ r<=r.size:=by
 unfold vQ;have h1:runN r.data.toList<=r.data.toList.length:=(oj _).length_le;rw[kE]at h1;have h2:r.data.size=r.size:=rfl;omega
theorem FF(r:ByteArray)(h:0<r.size):(wM r).size<r.size:=by
 unfold wM;have h1:1<=vQ r:=by unfold vQ;omega
 rw[kU];omega
theorem DV(f:Nat)(r:ByteArray)(h:r.size=0):pY f r=some []:=by
 cases f with
 |zero=>rfl
 |succ f=>unfold pY;rw[nh ae]
theorem Tryz.infoTok:(Tryz.prog.info? 296).map (fun i=>(i.zero,i.size,i.bytes))=some (some (.agg #[.int .i64 0,.string ⟨#[]⟩,.int .i64 0]),3,32):=aj
def Z5M(n0:Nat)(w:World)(o:Option (List Tok))(e:Ending)(w':World):Prop:=
 match o with
 |none=>e=.returned (.tuple #[.slice none 0 0,.bool false])/\Below n0 w w'
 |some D=>∃g A,e=.returned (.tuple #[.slice (some ⟨g,0,none⟩) (D.length+1:Nat) A,.bool true])/\w'.ownsRow n0 296 3 (.slice (some ⟨g,0,none⟩) (D.length+1) A) (D.length+1) (sQ (D++[ux]))/\Below n0 w w'
theorem BG{k:Int}{t:ByteArray}{v:Int}:∀u∈[Value.int .i64 k,.string t,.int .i64 v],u.oneCell'=true:=by
 intro u A;simp at A;rcases A with rfl|rfl|rfl <;> rfl
theorem Z3W(c:UInt8)(t:ByteArray)(h:c.toNat=32):sq c t=some none:=by unfold sq;rw[jT h]
theorem Z6y(c:UInt8)(t:ByteArray)(h:¬c.toNat=32)(hd:isD c=true)(A:numOf t.data.toList=none):sq c t=none:=by unfold sq;rw[jS h,jT hd,A];rfl
theorem Z06(c:UInt8)(t:ByteArray)(v:Int)(h:¬c.toNat=32)(hd:isD c=true)(A:numOf t.data.toList=some v):sq c t=some (some ⟨2,t,v⟩):=by unfold sq;rw[jS h,jT hd,A];rfl
theorem Z2m(c:UInt8)(t:ByteArray)(h:¬c.toNat=32)(hd:isD c=false)(hw:isW c=true):sq c t=some (some ⟨1,t,0⟩):=by unfold sq;rw[jS h,jS cF,jT hw]
theorem Z8J(c:UInt8)(t:ByteArray)(h:¬c.toNat=32)(hd:isD c=false)(hw:isW c=false):sq c t=some (some ⟨3,t,0⟩):=by unfold sq;rw[jS h,jS cF,jS (by simp[hw])]
theorem _root_.Go.World.ownsRow.below3{w w':World}{base:Nat}{e:TypeId}{size n:Nat}{v:Value}{xs:List Value}(h:w.ownsRow base e size v n xs)(A:Below w.heap.size w w'):w'.ownsRow base e size v n xs:=
 by
 obtain⟨h1,h2|⟨g,D,G,rfl,I,h3⟩⟩:=id h
 ·exact⟨h1,.inl h2⟩
 exact h.kept (row:=none) ⟨A.os,A.tape,A.output,A.size,fun k hk _=>A.block k hk⟩ (.inr bd)
theorem EX(s:ByteArray)(w:World)(hs:s.size<=1000000) :
  Calls prog 163 #[.string s] w (Z5M w.heap.size w (pY s.size (tp s))):=by
 obtain⟨i0,hi,KJ,KC,Ky⟩:=kQ Tryz.infoTok;obtain⟨R,hR⟩:=Zg0 (pY s.size (tp s));rw[hR];have Ln:=oP hR;have LZ:(tp s).size=s.size:=by unfold tp;show (s.data.map oZ).size=_;rw[oE];rfl
 clear hR;go_enter func163,ntmps163;go_wp2_with fail;refine(Z4v s _ hs).mono ?_;rintro e w1 ⟨rfl,Kh⟩;have MK:=Kh.size;go_wp2_with fail;go_loopw [4,5] (fun v vr wr=>∃(r:ByteArray) (acc:List Tok) (f:Nat),vr=.string r/\r.size<=f/\acc.length+r.size<=s.size/\Hid ((pY f r).map (acc ++ ·)=R)/\wr.ownsRow w.heap.size 296 3 v acc.length (sQ acc)/\Below w.heap.size w wr) (fun _ vr _=>match vr with | .string r=>r.size|_=>0)
 case atStart=>exact⟨tp s,[],s.size,af,ae,ai,oP (by rw[Ln.o];simp),kA,Kh⟩
 case round=>
  obtain⟨r,acc,f,rfl,VJ5,PN,HR,G,hb⟩:=hrel;have Oh:=hb.size;by_cases hp:0<r.size
  ·have X7:r.toList.isEmpty=false:=by rw[qw,lC];omega
   obtain⟨m,hm⟩:=Zg0 (runN r.data.toList);obtain⟨n,hn⟩:=Zg0 (vQ r);have Vo2:=Z3C r hp;rw[hn]at Vo2
   have VJ6:max (m:Int) 1=(n:Int):=by
    rw[<-hn,<- hm];unfold vQ;omega
   have Vo3:=oP (fun w=>show Calls prog 203 #[.string r] w fun e w'=>e=.returned (.int .i64 (m:Nat))/\w'=w by rw[<-hm];exact Z10 r w ae);clear hm;obtain⟨c,hc⟩:=Zg0 (r[0]);have Ow:yD r=r.extract 0 n:=by unfold yD;rw[hn]
   have K7:wM r=r.extract n r.size:=by unfold wM;rw[hn]
   have hps:=FF r hp;rw[K7]at hps;obtain⟨V,rfl⟩:∃V,f=V+1:=⟨f-1,ae⟩
   have KL:R=((sq c (r.extract 0 n)).bind fun o=>(pY V (r.extract n r.size)).map (tf o ++ ·)).map (acc ++ ·):=by
    rw[<-HR.o];conv=>lhs;unfold pY
    rw[mR hp,hc,Ow,K7]
   have KF:=oP KL;obtain⟨rn,Og⟩:=Zg0 (r.extract n r.size);obtain⟨A,O⟩:=Zg0 (r.extract 0 n);have WC7:A.size<=1000000:=by rw[<-O,kU];omega
   rw[Og,O]at KF;rw[Og]at hps;have LV:=oP Og;have WC8:=oP O;clear hn Ow K7 KL Og O HR;go_wp2_with (refine(Vo3.o _).mono ?_;rintro e w2 ⟨rfl,rfl⟩);go_quiet (fail);have Mf:Below w.heap.size w (w2.drewN nq):=below_drewN hb nq;have WN:(w2.drewN nq).ownsRow w.heap.size 296 3 u4 acc.length (sQ acc):=G;clear G hb;generalize w2.drewN nq=wd at *;have G:=WN;have WX5:=Mf.size;clear WN;rw[WC8.o];have Vo4:=LV.o;by_cases NN:c.toNat=32
   ·have Vo5:((c.toNat:Int)==32)=true:=by simp[NN]
    go_wp2_with fail;refine⟨⟨rn,acc,V,af,ae,ae,oP ?_,G,Mf⟩,ai⟩;rw[KF.o,Z3W c A NN];simp[tf]
   have Vo5:((c.toNat:Int)==32)=false:=ai;have ZO:=oP (J4 c);cases hd:isD c with
   |true=>
    rw[hd]at ZO;have MD:=oP (fun w=>Z2M A w WC7);cases hv:numOf A.data.toList with
    |none=>
     rw[hv]at MD;have HE:=oP (show R=none by rw[KF.o,Z6y c A NN hd hv];rfl);go_wp2_with (first| (go_at_call 204;refine(ZO.o _).mono ?_;rintro e S ⟨rfl,D⟩;rw[D];clear D)|(go_at_call 205;refine(MD.o _).mono ?_;rintro e S ⟨rfl,Kq⟩;unfold DQ));go_ret2;rw[HE.o];exact⟨rfl,Mf.trans (Kq.mono WX5)⟩
    |some v=>
     rw[hv]at MD;go_wp2_with (first| (go_at_call 204;refine(ZO.o _).mono ?_;rintro e S ⟨rfl,D⟩;rw[D];clear D)|(go_at_call 205;refine(MD.o _).mono ?_;rintro e S ⟨rfl,Kq⟩;unfold DQ;have TX:=Kq.size)|(at_builtin;refine nr _ rfl _ _ 250 rfl w.heap.size 296 i0 _ 3 32 underlying250 hi KJ KC Ky rfl ah _ _ _ rfl ((G.below3 Kq).alloc _) ⟨S.heap.size,0,none⟩ 1 1 [.int .i64 2,.string A,.int .i64 v] rfl rfl ?c1 ?c2 ?c3 ?c4 ?c5 ?_))
     case c1=>exact Mbb
     case c2=>exact BG
     case c3=>unfold maxLen;omega
     case c4=>omega
     case c5=>simp;omega
     intro Z I J M _;have M4:Below w.heap.size w I:=((Mf.trans (Kq.mono WX5)).alloc (by have:=Kq.size;omega) _).grown M ai (uH G)
     have U:I.ownsRow w.heap.size 296 3 Z (acc++[(⟨2,A,v⟩:Tok)]).length (sQ (acc++[(⟨2,A,v⟩:Tok)])):=by
      rw[Az,kq];exact J
     clear J M;go_wp2;go_roundw
     case rel=>
      refine⟨rn,acc++[(⟨2,A,v⟩:Tok)],V,af,ae,ai,oP ?_,U,M4⟩;rw[KF.o,Z06 c A v NN hd hv];exact McM
     case measure=>simp;omega
   |false=>
    rw[hd]at ZO;have So:=oP (Gl c);cases hw:isW c with
    |true=>
     rw[hw]at So;go_wp2_with (first| (go_at_call 204;refine(ZO.o _).mono ?_;rintro e S ⟨rfl,D⟩;rw[D];clear D)|(go_at_call 206;refine(So.o _).mono ?_;rintro e S ⟨rfl,D⟩;rw[D];clear D)|(at_builtin;refine nr _ rfl _ _ 250 rfl w.heap.size 296 i0 _ 3 32 underlying250 hi KJ KC Ky rfl ah _ _ _ rfl (G.alloc _) ⟨wd.heap.size,0,none⟩ 1 1 [.int .i64 1,.string A,.int .i64 0] rfl rfl ?c1 ?c2 ?c3 ?c4 ?c5 ?_))
     case c1=>exact Mbb
     case c2=>exact BG
     case c3=>unfold maxLen;omega
     case c4=>omega
     case c5=>simp;omega
     intro Z I J M _;have M4:Below w.heap.size w I:=(Mf.alloc ae _).grown M ai (uH G)
     have U:I.ownsRow w.heap.size 296 3 Z (acc++[(⟨1,A,0⟩:Tok)]).length (sQ (acc++[(⟨1,A,0⟩:Tok)])):=by
      rw[Az,kq];exact J
     clear J M;go_wp2;go_roundw
     case rel=>
      refine⟨rn,acc++[(⟨1,A,0⟩:Tok)],V,af,ae,ai,oP ?_,U,M4⟩;rw[KF.o,Z2m c A NN hd hw];exact McM
     case measure=>simp;omega
    |false=>
     rw[hw]at So;go_wp2_with (first| (go_at_call 204;refine(ZO.o _).mono ?_;rintro e S ⟨rfl,D⟩;rw[D];clear D)|(go_at_call 206;refine(So.o _).mono ?_;rintro e S ⟨rfl,D⟩;rw[D];clear D)|(at_builtin;refine nr _ rfl _ _ 250 rfl w.heap.size 296 i0 _ 3 32 underlying250 hi KJ KC Ky rfl ah _ _ _ rfl (G.alloc _) ⟨wd.heap.size,0,none⟩ 1 1 [.int .i64 3,.string A,.int .i64 0] rfl rfl ?c1 ?c2 ?c3 ?c4 ?c5 ?_))
     case c1=>exact Mbb
     case c2=>exact BG
     case c3=>unfold maxLen;omega
     case c4=>omega
     case c5=>simp;omega
     intro Z I J M _;have M4:Below w.heap.size w I:=(Mf.alloc ae _).grown M ai (uH G)
     have U:I.ownsRow w.heap.size 296 3 Z (acc++[(⟨3,A,0⟩:Tok)]).length (sQ (acc++[(⟨3,A,0⟩:Tok)])):=by
      rw[Az,kq];exact J
     clear J M;go_wp2;go_roundw
     case rel=>
      refine⟨rn,acc++[(⟨3,A,0⟩:Tok)],V,af,ae,ai,oP ?_,U,M4⟩;rw[KF.o,Z8J c A NN hd hw];exact McM
     case measure=>simp;omega
  have hz:r.size=0:=ae;have X7:r.toList.isEmpty=true:=by rw[qw];simp[hz]
  have HE:=oP (show R=some acc by rw[<-HR.o,DV _ _ hz];simp);go_wp2_with (at_builtin;refine nr _ rfl _ _ 250 rfl w.heap.size 296 i0 _ 3 32 underlying250 hi KJ KC Ky rfl ah _ _ _ rfl (G.alloc _) ⟨wr.heap.size,0,none⟩ 1 1 [.int .i64 0,.string ⟨#[]⟩,.int .i64 0] rfl rfl ?c1 ?c2 ?c3 ?c4 ?c5 ?_)
  case c1=>exact Mbb
  case c2=>exact BG
  case c3=>unfold maxLen;omega
  case c4=>omega
  case c5=>simp;omega
  intro Z I J M _;have M4:Below w.heap.size w I:=(hb.alloc ae _).grown M ai (uH G)
  have U:I.ownsRow w.heap.size 296 3 Z (acc.length+1) (sQ (acc++[ux])):=by
   rw[Az];exact J
  clear J M;go_wp2;go_ret2;rw[HE.o];obtain⟨_,⟨_,h'⟩|⟨g,Kd,KG,rfl,_⟩⟩:=id U
  ·omega
  exact⟨g,Kd,rfl,U,M4⟩
def BO(v:Value):Option (DataW Value×List MemPlace):=some (.held v,[])
def atD(z:DataW Value):Option Value->DataW Value
 |some v=>.held v
 |none=>z
def MapAt(P:Program)(k:TypeId)(w:World)(b n:Nat)(f:List UInt8->Option Value):Prop:=
 ∃D,w.ownsMap P k BO b n D/\size D=n/\∀l z,D.atKey (.string l) z=atD z (f l)
def rB(f:List UInt8->Option Value)(l:List UInt8)(v:Value):List UInt8->Option Value:=fun x=>if x=l then some v else f x
def vq(n:Nat):Option Value->Nat
 |some _=>n
 |none=>n+1
def uB(c:Bool)(z:Value):Option Value->Value
 |some v=>if c then .tuple #[v,.bool true] else v
 |none=>if c then .tuple #[z,.bool false] else z
section
variable {P:Program} {k:TypeId} {w:World} {b n:Nat} {f:List UInt8->Option Value}
theorem MapAt.made(w:World)(P:Program)(k:TypeId):MapAt P k (w.alloc (.map #[] 0)) w.heap.size 0 (fun _=>none):=
 ⟨_,World.ownsMap_made w P k BO,rfl,fun _ _=>rfl⟩
theorem MapAt.lt(h:MapAt P k w b n f):b<w.heap.size:=by
 obtain⟨D,h1,_⟩:=h;exact h1.lt
theorem MapAt.kept{w':World}{row:Option Nat}(h:MapAt P k w b n f)(A:w.grownBy w' row)(G:some b≠row):MapAt P k w' b n f:=by
 obtain⟨D,h1,h2⟩:=h;exact⟨D,h1.kept A G,h2⟩
theorem MapAt.below{w':World}{B:Nat}(h:MapAt P k w b n f)(A:Below B w w')(G:b<B):MapAt P k w' b n f:=by
 obtain⟨D,⟨es,I,h1,h2⟩,h3⟩:=h;exact⟨D,⟨es,I,(A.block b G).trans h1,h2⟩,h3⟩
theorem MapAt.alloc(h:MapAt P k w b n f)(o:Obj):MapAt P k (w.alloc o) b n f:=h.kept (World.grownBy_alloc w o none) af
theorem MapAt.ext{g:List UInt8->Option Value}(h:MapAt P k w b n f)(he:∀l,f l=g l):MapAt P k w b n g:=by
 obtain⟨D,h1,h2,h3⟩:=h;exact⟨D,h1,h2,fun l z=>by rw[h3,he]⟩
theorem MapAt.look{t e:TypeId}(h:MapAt P k w b n f)(K:Keyed P k)(ht:P.underlying t=some (.map k e)){z:Value}(hz:(zeroValue e).run P w=.ok z w){J:Value}{l:List UInt8}(M:keyOf P k J=some (.string l))(c:Bool) :
  (Instr.lookup t (.map (some b)) J c).run P w=.ok (uB c z (f l)) w:=by
 obtain⟨D,⟨es,S,O,F,hs,rfl⟩,_,h3⟩:=h;rcases Maps.fit_look c K ht hz O F M with⟨A,_,G⟩|⟨R,y,_,_,A,I,G,_⟩
 ·have hn:f l=none:=by
   cases hf:f l with
   |none=>rfl
   |some v=>
    have:=G .nil;rw[h3,hf]at this;cases this
  rw[hn];exact A
 have hy:f l=some R.val:=by
  have e1:=G .nil;have e2:=h3 l .nil;rw[e1]at e2;cases I;cases hf:f l with
  |none=>rw[hf]at e2;cases e2
  |some v=>rw[hf]at e2;cases e2;rfl
 rw[hy];exact A
theorem MapAt.has{D:DataW Value}(h3:∀l z,D.atKey (.string l) z=atD z (f l))(l:List UInt8):Maps.has D (.string l)=(f l).isSome:=by
 cases hf:f l with
 |none=>exact Maps.has_false_of_atKey (fun A=>by rw[h3,hf];rfl)
 |some v=>exact Maps.has_true_of_atKey (y:=.held v) (fun A=>by rw[h3,hf];rfl)
theorem MapAt.store{t e:TypeId}(h:MapAt P k w b n f)(K:Keyed P k)(ht:P.underlying t=some (.map k e))(hn:n<maxLen){A val:Value}{l:List UInt8}(J:keyOf P k A=some (.string l)) :
  ∃w',(Instr.mapUpdate t (.map (some b)) A val).run P w=.ok () w'/\MapAt P k w' b (vq n (f l)) (rB f l val)/\w.grownBy w' (some b):=by
 obtain⟨D,h1,h2,h3⟩:=h;obtain⟨w',M,O,R⟩:=h1.update K ht hn J (show BO val=some (.held val,[]) from rfl);have S:WideAt.IsKeyLit (.string l):=trivial
 have G:size (D.put (.string l) (.held val))=vq n (f l):=by
  rw[size_put (h1.tidy K),MapAt.has h3,h2];cases f l <;> rfl
 refine⟨w',M,⟨_,?_,G,fun x z=>?_⟩,R⟩
 ·obtain⟨es,U,V,F,hs,I⟩:=O;refine⟨es,U,V,F,?_,I⟩;rw[<-G,I];simp[size,length_sorted]
 unfold rB;by_cases e:x=l
 ·subst e;rw[jT rfl,atKey_put_same h1.isMap S];rfl
 rw[jS e,atKey_put_other dC,h3]
theorem MapAt.len{t e:TypeId}(h:MapAt P k w b n f)(ht:P.underlying t=some (.map k e))(A:TypeId):(Builtin.len_ #[t] A #[.map (some b)]).run P w=.ok (.int .i64 n) w:=by
 obtain⟨D,h1,h2,_⟩:=h;rw[<-h2];exact h1.len ht A
end
theorem Z4E{P:Program}(w:World){ops:Array Oper}{rest:List Oper}{o:Oper}{a:Act}{Q:Exit->Act->World->Prop}
  (D:o.guard=none) (m x:Operand) (t:TypeId) (c:Bool) (G:o.op=Op.lookup t m x c)
  (k e:TypeId) (K:Keyed P k) (ht:P.underlying t=some (.map k e)) (z:Value) (hz:(zeroValue e).run P w=.ok z w) (b n:Nat) (f:List UInt8->Option Value)
  (I:a.eval m=.map (some b)) (J:MapAt P k w b n f) (A:Value) (l:List UInt8) (hx:a.eval x=A) (M:keyOf P k A=some (.string l))
  (v:Value) (O:uB c z (f l)=v) (R:wpList P ops Q rest (a.put o.dst v) w):wpList P ops Q (o::rest) a w:=by
 refine np D fun V S=>?_
 have U:=J.look K ht hz M c;unfold Oper.wp;subst O;simp[execOp,G,I,hx,U,Result.andThen];exact S _ _ R
theorem vV{P:Program}(w:World){ops:Array Oper}{rest:List Oper}{o:Oper}{a:Act}{Q:Exit->Act->World->Prop}
  (hg:o.guard=none) (m x v:Operand) (t:TypeId) (NF:o.op=Op.mapUpdate t m x v)
  (k e:TypeId) (K:Keyed P k) (ht:P.underlying t=some (.map k e)) (b n:Nat) (f:List UInt8->Option Value)
  (hm:a.eval m=.map (some b)) (Kc:MapAt P k w b n f) (hn:n<maxLen) (A val:Value) (l:List UInt8) (hx:a.eval x=A) (hv:a.eval v=val) (KN:keyOf P k A=some (.string l))
  (hK:∀w',MapAt P k w' b (vq n (f l)) (rB f l val)->w.grownBy w' (some b)->wpList P ops Q rest (a.put o.dst undef) w'):wpList P ops Q (o::rest) a w:=by
 exact Ma6
structure Bk where
 cb:Nat
 ib:Nat
 fb:Nat
 db:Nat
def pj(line:Int):Ending:=.panicked [{v:=.iface 117 (.agg #[.int .i64 2,.int .i64 line]),recovered:=false}]
def TokAt(w:World)(g:Nat):Nat->List Tok->Prop
 |_,[]=>True
 |off,t::l=>w.cell? ⟨g,off,none⟩=some (.int .i64 t.kind)/\w.cell? ⟨g,off+1,none⟩=some (.string t.text)/\w.cell? ⟨g,off+2,none⟩=some (.int .i64 t.num)/\TokAt w g (off+3) l
theorem TokAt.kept{w w':World}{g:Nat}(he:w'.heap[g]?=w.heap[g]?):∀ {off:Nat} {l:List Tok},TokAt w g off l->TokAt w' g off l
 |_,[],_=>trivial
 |off,_t::_l,h=>⟨(jW (a:=⟨g,off,none⟩) he).trans h.1,(jW (a:=⟨g,off+1,none⟩) he).trans h.2.1,(jW (a:=⟨g,off+2,none⟩) he).trans h.2.2.1,TokAt.kept he h.2.2.2⟩
structure PS(w:World)(B pb:Nat)(b:Bk)(line:Int)(ts:List Tok):Prop where
 c0:w.cell? ⟨pb,0,none⟩=some (.map (some b.cb))
 c1:w.cell? ⟨pb,1,none⟩=some (.map (some b.ib))
 c2:w.cell? ⟨pb,2,none⟩=some (.map (some b.fb))
 c3:w.cell? ⟨pb,3,none⟩=some (.map (some b.db))
 c4:w.cell? ⟨pb,4,none⟩=some (.int .i64 line)
 f5:w.frozen? ⟨pb,5,none⟩=false
 f4:w.frozen? ⟨pb,4,none⟩=false
 lt:pb<B
 le:B<=w.heap.size
 tk:∃g off cap,w.cell? ⟨pb,5,none⟩=some (.slice (some ⟨g,off,none⟩) ts.length cap)/\ts.length<=cap/\cap<=maxLen/\TokAt w g off ts/\g≠pb/\g<B
 last:ts.getLast?=some ux
 sz:∀t∈ts,t.text.size<=400000
theorem PS.kept{w w':World}{B A:Nat}{b:Bk}{line:Int}{G:List Tok}(h:PS w B A b line G)(D:Below B w w'):PS w' B A b line G:=by
 obtain⟨g,off,J,h1,h2,M,h3,h4,I⟩:=h.tk;have e:=D.block A h.lt
 exact⟨(jW (a:=⟨A,0,none⟩) e).trans h.c0,(jW (a:=⟨A,1,none⟩) e).trans h.c1,(jW (a:=⟨A,2,none⟩) e).trans h.c2,(jW (a:=⟨A,3,none⟩) e).trans h.c3,(jW (a:=⟨A,4,none⟩) e).trans h.c4,(ku (a:=⟨A,5,none⟩) e).trans h.f5,(ku (a:=⟨A,4,none⟩) e).trans h.f4,
  h.lt,j8 h.le D.size,⟨g,off,J,(jW (a:=⟨A,5,none⟩) e).trans h1,h2,M,h3.kept (D.block g I),h4,I⟩,h.last,h.sz⟩
theorem PS.ne{w:World}{B D:Nat}{b:Bk}{line:Int}{A:List Tok}(h:PS w B D b line A):∃t l,A=t::l:=by
 cases A with
 |nil=>have:=h.last;simp at this
 |cons t l=>exact⟨t,l,rfl⟩
theorem PS.step{w:World}{B A:Nat}{b:Bk}{line:Int}{t:Tok}{l:List Tok}(h:PS w B A b line (t::l))(J:l≠[]){g off D:Nat}(h1:w.cell? ⟨A,5,none⟩=some (.slice (some ⟨g,off,none⟩) (l.length+1) (D+1))) :
  PS (w.setCell ⟨A,5,none⟩ (.slice (some ⟨g,off+3,none⟩) l.length D)) B A b line l:=by
 obtain⟨M,G,R,I,h2,S,h3,h4,O⟩:=h.tk;rw[I]at h1;simp only[kh,me,mw,T0s]at h1;obtain⟨⟨rfl,rfl,_⟩,_,rfl⟩:=h1;refine⟨?_,?_,?_,?_,?_,?_,?_,h.lt,eB,⟨M,G+3,D,kP _ I,aO,ae,?_,h4,O⟩,?_,fun t ht=>h.sz t (mo _ ht)⟩
 ·rw[j3 af];exact h.c0
 ·rw[j3 af];exact h.c1
 ·rw[j3 af];exact h.c2
 ·rw[j3 af];exact h.c3
 ·rw[j3 af];exact h.c4
 ·simp[h.f5]
 ·simp[h.f4]
 ·exact h3.2.2.2.kept (ly (by simpa using h4))
 have:=h.last;cases l with
 |nil=>exact absurd rfl J
 |cons u l=>rw[List.getLast?_cons_cons]at this;exact this
theorem vB(w:World)(B A:Nat)(b:Bk)(line:Int)(D:List Tok)(h:PS w B A b line D) :
  Calls prog 164 #[.pointer (some ⟨A,0,none⟩)] w fun e w'=>e=pj line/\w'=w:=by
 have c4:=h.c4;go_enter func164,ntmps164;go_wp2;exact⟨rfl,rfl,rfl⟩
theorem vP(w:World)(B A:Nat)(b:Bk)(line:Int)(t:Tok)(l:List Tok)(h:PS w B A b line (t::l)) :
  Calls prog 167 #[.pointer (some ⟨A,0,none⟩)] w fun e w'=>e=.returned (.bool (decide (t.kind=0)))/\w'=w:=by
 obtain⟨g,off,D,h1,h2,G,h3,h4,I⟩:=h.tk;have J:=h3.1;have M:(0:Int)<(l.length:Int)+1:=ae
 have hd:decide (t.kind=0)=((t.kind:Int)==0):=by
  by_cases e:t.kind=0 <;> simp[e]
 rw[hd];clear hd h;go_enter func167,ntmps167;go_wp2;go_ret;exact⟨rfl,rfl⟩
def yK(t:Tok):Value:=.agg #[.int .i64 t.kind,.string t.text,.int .i64 t.num]
theorem sR{w w':World}{r:Option Nat}(h:Below w.heap.size w w'):w.grownBy w' r:=⟨h.os,h.tape,h.output,h.size,fun k hk _=>h.block k hk⟩
theorem By(w:World)(B A:Nat)(b:Bk)(line:Int)(t:Tok)(l:List Tok)(h:PS w B A b line (t::l))(D:l≠[]) :
  Calls prog 247 #[.pointer (some ⟨A,0,none⟩)] w fun e w'=>e=.returned (yK t)/\PS w' B A b line l/\w.grownBy w' (some A):=by
 obtain⟨g,off,G,h1,h2,R,h3,h4,M⟩:=h.tk;have S:g<w.heap.size:=ke M h.le;obtain⟨c,rfl⟩:∃c,G=c+1:=⟨G-1,by simp at h2;omega⟩
 have U:1<=l.length:=by
  cases l with
  |nil=>exact absurd rfl D
  |cons u l=>simp
 have V:1<=c:=by simp at h2;omega
 obtain⟨Z,k1,k2,_⟩:=h3;have Kf:A<w.heap.size:=ke h.lt h.le;have HP:=oP h;have f5:=h.f5;have I:=oP h1
 have a0:∀o J,((w.alloc o).alloc J).cell? ⟨A,5,none⟩=some (.slice (some ⟨g,off,none⟩) (l.length+1) (c+1)):=fun o J=>by
  rw[lO ai,lO ai];exact I.o
 have HA:=oP a0;clear h a0;go_enter func247,ntmps247;go_wp2_with fail;have O:=HP.o.step D I.o;refine kf (v:=yK t) (by simp[results,results247,go_sem,yK]) rfl ⟨rfl,?_,?_⟩
 ·exact O.kept ((jV.alloc fN _).alloc fN _)
 refine zO (Bs _ _ _ _) (sR ((jV.alloc af _).alloc af _))
theorem Z17(k:Int)(t:ByteArray)(n:Int)(w:World):(Instr.field 296 (.agg #[.int .i64 k,.string t,.int .i64 n]) 1).run prog w=.ok (.string t) w:=aj
theorem Z8e(k:Int)(t:ByteArray)(n:Int)(w:World):(Instr.field 296 (.agg #[.int .i64 k,.string t,.int .i64 n]) 2).run prog w=.ok (.int .i64 n) w:=aj
theorem Hx(a b:ByteArray)(h:a≠b):(a.toList==b.toList)=false:=by
 rw[beq_eq_false_iff_ne];intro e;apply h;rw[lB,lB]at e;exact mI (mV e)
theorem EP{t:Tok}{l:List Tok}(h:(t::l).getLast?=some ux)(A:t.text.size≠0):l≠[]:=by
 intro e;subst e;simp at h;subst h;exact A rfl
theorem wQ(w:World)(B A:Nat)(b:Bk)(line:Int)(t:Tok)(l:List Tok)(x:ByteArray)(h:PS w B A b line (t::l))(hx:t.text≠x) :
  Calls prog 208 #[.pointer (some ⟨A,0,none⟩),.string x] w fun e w'=>e=.returned (.bool false)/\w'=w:=by
 obtain⟨g,off,D,h1,h2,G,h3,h4,I⟩:=h.tk;have J:=h3.2.1;have M:(0:Int)<(l.length:Int)+1:=ae;have hn:=Hx _ _ hx;clear h hx;go_enter func208,ntmps208;go_wp2_with fail;go_ret;exact⟨rfl,rfl⟩
theorem vN(w:World)(B A:Nat)(b:Bk)(line:Int)(t:Tok)(l:List Tok)(x:ByteArray)(h:PS w B A b line (t::l))(hx:t.text=x)(D:x.size≠0) :
  Calls prog 208 #[.pointer (some ⟨A,0,none⟩),.string x] w fun e w'=>e=.returned (.bool true)/\PS w' B A b line l/\w.grownBy w' (some A):=by
 obtain⟨g,off,I,h1,h2,J,h3,h4,M⟩:=h.tk;have G:=h3.2.1;have O:(0:Int)<(l.length:Int)+1:=ae;have HN:=oP (By w B A b line t l h (EP h.last (by rw[hx];exact D)));rw[hx]at G;have hn:(x.toList==x.toList)=true:=af;clear h;go_enter func208,ntmps208;exact MbV
theorem zc(w:World)(B A:Nat)(b:Bk)(line:Int)(t:Tok)(l:List Tok)(h:PS w B A b line (t::l))(hk:t.kind≠1) :
  Calls prog 209 #[.pointer (some ⟨A,0,none⟩)] w fun e w'=>e=pj line/\w'=w:=by
 obtain⟨g,off,G,h1,h2,I,h3,h4,J⟩:=h.tk;have M:=h3.1;have O:(0:Int)<(l.length:Int)+1:=ae;have hn:((t.kind:Int)==1)=false:=ai;have D:=oP (vB w B A b line _ h);clear h;go_enter func209,ntmps209;go_wp2_with (refine D.o.mono ?_;rintro e R ⟨rfl,rfl⟩;unfold pj);exact⟨rfl,rfl,rfl⟩
theorem vv(w:World)(B A:Nat)(b:Bk)(line:Int)(t:Tok)(l:List Tok)(h:PS w B A b line (t::l))(hk:t.kind=1) :
  Calls prog 209 #[.pointer (some ⟨A,0,none⟩)] w fun e w'=>e=.returned (.string t.text)/\PS w' B A b line l/\w.grownBy w' (some A):=by
 obtain⟨g,off,G,h1,h2,I,h3,h4,J⟩:=h.tk;have M:=h3.1;have O:(0:Int)<(l.length:Int)+1:=ae
 have D:l≠[]:=by
  intro e;subst e;have:=h.last;simp at this;subst this;cases hk
 have HN:=oP (By w B A b line t l h D);have hn:((t.kind:Int)==1)=true:=bD;unfold yK at HN;have R:=Z17;clear h;go_enter func209,ntmps209;exact MbV
def qk(t:List UInt8):List UInt8:=t.takeWhile fun c=>c != 32
def ri(l:List UInt8):Bool:=rowsL.any fun r=>qk r.2.2==l
def pU:List (List UInt8×Nat×Nat):=
 [([65],0,0),([65,66],1,0),([67],2,0),([68,80,84,82],3,0),([64,65,43,68,80,84,82],4,0),([64,65,43,80,67],5,0),([64,68,80,84,82],6,0),([64,82,48],7,0),([64,82,49],7,1),
  ([82,48],8,0),([82,49],8,1),([82,50],8,2),([82,51],8,3),([82,52],8,4),([82,53],8,5),([82,54],8,6),([82,55],8,7)]
def pH(l:List UInt8):Option (Nat×Nat):=(pU.find? fun x=>x.1==l).map (·.2)
def fixV(x:Nat×Nat):Value:=.agg #[.int .i64 x.1,.int .i64 x.2]
def dirL:List (List UInt8×Nat):=[([79,82,71],1),([68,66],2),([68,87],3),([68,83],4),([69,81,85],5)]
def px(l:List UInt8):Option Nat:=(dirL.find? fun x=>x.1==l).map (·.2)
theorem rz:Keyed prog 9:=string_keyed underlying9
structure BookAt(w:World)(b:Bk):Prop where
 counts:∃f n,MapAt prog 9 w b.cb n f/\∀l,(ri l=false/\f l=none)\/(ri l=true/\∃c:Int,0<c/\f l=some (.int .i64 c))
 fixed:∃n,MapAt prog 9 w b.fb n (fun l=>(pH l).map fixV)
 dirs:MapAt prog 9 w b.db 5 (fun l=>(px l).map fun t=>.int .i64 t)
theorem Z9I(w:World):(zeroValue 324).run prog w=.ok (fixV (0,0)) w:=aj
theorem Fw(w:World):(zeroValue 124).run prog w=.ok (.int .i64 0) w:=aj
theorem Bn(w:World):(zeroValue 3).run prog w=.ok (.int .i64 0) w:=aj
theorem BookAt.kept{w w':World}{b:Bk}{r:Nat}(h:BookAt w b)(A:w.grownBy w' (some r))(h1:b.cb≠r)(h2:b.fb≠r)(h3:b.db≠r):BookAt w' b:=by
 obtain⟨D,hx⟩:=h.fixed;obtain⟨f,n,hf,G⟩:=h.counts;exact⟨⟨f,n,hf.kept A dD,G⟩,⟨D,hx.kept A aO⟩,h.dirs.kept A (by simpa using h3)⟩
theorem BookAt.belowB{w w':World}{b:Bk}{B:Nat}(h:BookAt w b)(A:Below B w w')(l1:b.cb<B)(l2:b.fb<B)(l3:b.db<B):BookAt w' b:=by
 obtain⟨D,hx⟩:=h.fixed;obtain⟨f,n,hf,G⟩:=h.counts;exact⟨⟨f,n,hf.below A l1,G⟩,⟨D,hx.below A l2⟩,h.dirs.below A l3⟩
theorem BookAt.below{w w':World}{b:Bk}(h:BookAt w b)(A:Below w.heap.size w w'):BookAt w' b:=by
 obtain⟨D,hx⟩:=h.fixed;obtain⟨f,n,hf,G⟩:=h.counts;exact⟨⟨f,n,hf.below A hf.lt,G⟩,⟨D,hx.below A hx.lt⟩,h.dirs.below A h.dirs.lt⟩
def bkV(b:Bk):Value:=.agg #[.map (some b.cb),.map (some b.ib),.map (some b.fb)]
theorem yv(w:World)(b:Bk)(s:ByteArray)(h:BookAt w b)(hs:s.size<=1000000) :
  Calls prog 210 #[bkV b,.string s] w fun e w'=>e=.returned (.bool (ri s.data.toList))/\Below w.heap.size w w':=by
 obtain⟨f,n,hf,D⟩:=h.counts;have G:keyOf prog 9 (.string s)=some (.string s.data.toList):=kO underlying9 ak;have A:∀o,(Instr.lookup 119 (.map (some b.cb)) (.string s) false).run prog (w.alloc o)=.ok (uB false (.int .i64 0) (f s.data.toList)) (w.alloc o):=fun o=>(hf.alloc o).look rz underlying119 (Bn _) G false
 unfold bkV;rcases D s.data.toList with⟨e1,e2⟩|⟨e1,c,hc,e2⟩
 ·rw[e1];rw[e2]at A;simp only[uB,nS,mB]at A;clear G e1 e2 D;go_enter func210,ntmps210;go_wp2_with fail;go_ret;exact⟨rfl,jV.alloc jU _⟩
 rw[e1];rw[e2]at A;simp only[uB,nS,mB]at A;clear G e1 e2 D;go_enter func210,ntmps210;go_wp2_with fail;go_ret;exact⟨by simp ,jV.alloc jU _⟩
def ui(o:Option (Nat×Nat)):Value:=match o with
 |some x=>.tuple #[fixV x,.bool true]
 |none=>.tuple #[fixV (0,0),.bool false]
theorem Z5u(o:Option (Nat×Nat)):uB true (fixV (0,0)) (o.map fixV)=ui o:=by cases o <;> rfl
theorem zE(w:World)(b:Bk)(s:ByteArray)(h:BookAt w b)(hs:s.size<=1000000) :
  Calls prog 251 #[bkV b,.string s] w fun e w'=>e=.returned (ui (pH s.data.toList))/\Below w.heap.size w w':=by
 have G:keyOf prog 9 (.string s)=some (.string s.data.toList):=kO underlying9 ak;obtain⟨I,hx⟩:=h.fixed
 have A:∀o D,(Instr.lookup 244 (.map (some b.fb)) (.string s) true).run prog ((w.alloc o).alloc D)=.ok (ui (pH s.data.toList)) ((w.alloc o).alloc D):=fun o D=>by
  rw[((hx.alloc o).alloc D).look rz underlying244 (Z9I _) G true,Z5u]
 unfold bkV;clear h hx;cases hf:pH s.data.toList with
 |none=>
  rw[hf]at A;simp only[ui,fixV]at A⊢;go_enter func251,ntmps251;go_wp2_with fail;refine kf (v:=.tuple #[.agg #[.int .i64 0,.int .i64 0],.bool false]) (by simp[results,results251,go_sem]) rfl ⟨af,?_⟩;exact Mcq
 |some x=>
  obtain⟨k,n⟩:=x;rw[hf]at A;simp only[ui,fixV]at A⊢;go_enter func251,ntmps251;go_wp2_with fail;refine kf (v:=.tuple #[.agg #[.int .i64 k,.int .i64 n],.bool true]) (by simp[results,results251,go_sem]) rfl ⟨rfl,?_⟩;exact Mcq
def pd(l:List UInt8):Bool:=!(px l).isSome&&!(pH l).isSome&&!ri l&&l != [80,67]
structure Apart(B pb:Nat)(b:Bk):Prop where
 l1:b.cb<B
 l2:b.fb<B
 l3:b.db<B
 h1:b.cb≠pb
 h2:b.fb≠pb
 h3:b.db≠pb
def vg(o:Option Nat):Value:=match o with
 |some x=>.tuple #[.int .i64 x,.bool true]
 |none=>.tuple #[.int .i64 0,.bool false]
theorem Z65(o:Option Nat):uB true (.int .i64 0) (o.map fun t=>.int .i64 t)=vg o:=by cases o <;> rfl
theorem yg(w:World)(b:Bk)(s:ByteArray)(h:BookAt w b)(hs:s.size<=1000000):(Instr.lookup 248 (.map (some b.db)) (.string s) true).run prog w=.ok (vg (px s.data.toList)) w:=by
 have A:keyOf prog 9 (.string s)=some (.string s.data.toList):=kO underlying9 ak;rw[h.dirs.look rz underlying248 (Fw _) A true,Z65]
theorem Z8K(s:ByteArray):(s.toList==[80,67])=(s.data.toList==[80,67]):=by
 rw[lB]
theorem zR(w:World)(B pb:Nat)(b:Bk)(line:Int)(ts:List Tok)(s:ByteArray)(h:PS w B pb b line ts)(A:BookAt w b)(hs:s.size<=1000000) :
  Calls prog 213 #[.pointer (some ⟨pb,0,none⟩),.string s] w fun e w'=>(e=if pd s.data.toList=true then .returned (.string s) else pj line)/\Below w.heap.size w w':=by
 have J:=oP (yg w b s A hs);have HF:=oP (zE w b s A hs);have HB:=oP A;have HP:=oP h;have G:=yg w b s A hs;have c0:=h.c0;have c1:=h.c1;have c2:=h.c2;have c3:=h.c3;have KR:=h.le;have M:pb<w.heap.size:=ke h.lt h.le;unfold bkV at HF;have D:=Z8K s;clear h A;cases hd:px s.data.toList with
 |some x=>
  rw[hd]at G;have e1:pd s.data.toList=false:=by unfold pd;rw[hd];rfl
  rw[e1];simp only[vg]at G;go_enter func213,ntmps213;go_wp2_with fail;refine HF.o.mono ?_;rintro e w1 ⟨rfl,Kh⟩;have hz:=Kh.size
  obtain⟨y,z,hy⟩:∃y z,ui (pH s.data.toList)=.tuple #[fixV y,.bool z]:=by
   cases pH s.data.toList with
   |none=>exact⟨_,_,rfl⟩
   |some y=>exact⟨_,_,rfl⟩
  rw[hy];simp only[fixV];exact MaS
 |none=>
  rw[hd]at G;simp only[vg]at G;have HH:=oP (fun(w':World) (I:Below w.heap.size w w')=>yv w' b s (HB.o.below I) hs);unfold bkV at HH;cases hf:pH s.data.toList with
  |some y=>
   obtain⟨O,R⟩:=y;have e1:pd s.data.toList=false:=by unfold pd;rw[hd,hf];rfl
   rw[e1];rw[hf]at HF;simp only[ui,fixV]at HF;go_enter func213,ntmps213;go_wp2_with fail;refine HF.o.mono ?_;rintro e w1 ⟨rfl,Kh⟩;have hz:=Kh.size;exact MaS
  |none=>
   rw[hf]at HF;simp only[ui,fixV]at HF;cases hh:ri s.data.toList with
   |true=>
    have e1:pd s.data.toList=false:=by unfold pd;rw[hd,hf,hh];rfl
    rw[e1];rw[hh]at HH;exact Mam
   |false=>
    rw[hh]at HH;cases hq:(s.data.toList==[80,67]) with
    |true=>
     have e1:pd s.data.toList=false:=by unfold pd;rw[hd,hf,hh,bne,hq];rfl
     rw[e1];rw[hq]at D;exact Mam
    |false=>
     have e1:pd s.data.toList=true:=by unfold pd;rw[hd,hf,hh,bne,hq];rfl
     rw[e1];rw[hq]at D;go_enter func213,ntmps213;go_wp2_with fail;refine HF.o.mono ?_;rintro e w1 ⟨rfl,Kh⟩;have hz:=Kh.size;have K5:=(HP.o.kept (Kh.mono KR)).kept (jV.alloc (j8 KR hz) (.cells #[.int .i64 0,.int .i64 0] 324));have d0:=K5.c0;have d1:=K5.c1;have d2:=K5.c2;have H1:=oP K5;have MG:=Kh.alloc hz (.cells #[.int .i64 0,.int .i64 0] 324);clear K5;go_wp2_with fail;refine(HH.o _ MG).mono ?_;rintro e w2 ⟨rfl,Km⟩;go_wp2_with fail;go_ret;exact⟨af,MG.trans (Km.mono MG.size)⟩
theorem CY(s:ByteArray)(line:Int)(h:pd s.data.toList=true):(if pd s.data.toList=true then Ending.returned (.string s) else pj line)=.returned (.string s):=by rw[jT h]
theorem Jg(s:ByteArray)(line:Int)(h:pd s.data.toList=false):(if pd s.data.toList=true then Ending.returned (.string s) else pj line)=pj line:=by rw[jS (by simp[h])]
theorem Fg(w:World)(B A:Nat)(b:Bk)(line:Int)(t:Tok)(l:List Tok)(h:PS w B A b line (t::l))(I:BookAt w b)(D:Apart B A b)(hs:t.text.size<=1000000)(hk:t.kind=1)(ho:pd t.text.data.toList=true) :
  Calls prog 207 #[.pointer (some ⟨A,0,none⟩)] w fun e w'=>e=.returned (.string t.text)/\PS w' B A b line l/\w.grownBy w' (some A):=by
 have R:=oP (vv w B A b line t l h hk);have HB:=oP I;clear h I;go_enter func207,ntmps207;go_wp2_with fail;refine R.o.mono ?_;rintro e S ⟨rfl,G,J⟩;have hc:=zR S B A b line l t.text G (HB.o.kept J D.h1 D.h2 D.h3) hs;rw[CY _ _ ho]at hc;have U:=oP hc;have M:=oP G;clear hc G;go_wp2_with fail;refine U.o.mono ?_;rintro e V ⟨rfl,O⟩;go_wp2_with fail;go_ret;exact⟨rfl,M.o.kept (O.mono M.o.le),zO J (sR O)⟩
theorem IM(w:World)(B A:Nat)(b:Bk)(line:Int)(t:Tok)(l:List Tok)(h:PS w B A b line (t::l))(I:BookAt w b)(D:Apart B A b)(hs:t.text.size<=1000000)(hn:t.kind≠1\/pd t.text.data.toList=false) :
  Calls prog 207 #[.pointer (some ⟨A,0,none⟩)] w fun e w'=>e=pj line/\w.grownBy w' (some A):=by
 by_cases hk:t.kind=1
 ·have ho:pd t.text.data.toList=false:=by
   rcases hn with h'|h'
   ·exact absurd hk h'
   exact h'
  have G:=oP (vv w B A b line t l h hk);have HB:=oP I;clear h I;go_enter func207,ntmps207;go_wp2_with fail;refine G.o.mono ?_;rintro e J ⟨rfl,M,O⟩;have hc:=zR J B A b line l t.text M (HB.o.kept O D.h1 D.h2 D.h3) hs;rw[Jg _ _ ho]at hc;have R:=oP hc;clear hc M;go_wp2_with fail;refine R.o.mono ?_;rintro e U ⟨rfl,S⟩;unfold pj;go_wp2_with fail;exact⟨rfl,rfl,zO O (sR S)⟩
 have G:=oP (zc w B A b line t l h hk);clear h;go_enter func207,ntmps207;go_wp2_with fail;refine G.o.mono ?_;rintro e J ⟨rfl,rfl⟩;unfold pj;go_wp2_with fail;exact⟨rfl,rfl,⟨rfl,rfl,rfl,jU,fun _ _ _=>rfl⟩⟩
