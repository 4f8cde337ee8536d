import Derived.Test.YthokdbcpkmcieaaGreatDoorH27
set_option maxRecDepth 200000
set_option maxHeartbeats 16000000
namespace Go.Proofs.YthokdbcpkmcieaaGreatDoor
open RowKit Proofs.Tryz
def rN(T:List RTok):Bool:=decide (kAt T 0=119)&&decide (kAt T 1=58)
def uO(T:List RTok):Nat:=if rN T=true then 2 else 0
def vO(T:List RTok):ByteArray:=if rN T=true then (T.getD 0 endR).s else ⟨#[]⟩
def xY(T:List RTok):Bool:=rN T&&qt (T.getD 0 endR).s.data.toList
theorem AT{T:List RTok}(h:rN T=false):uO T=0/\vO T=⟨#[]⟩:=by
 unfold uO vO;rw[h];exact⟨rfl,rfl⟩
theorem Dy{T:List RTok}(h:rN T=true):uO T=2/\vO T=(T.getD 0 endR).s/\(xY T=false->qt (T.getD 0 endR).s.data.toList=false):=by
 unfold uO vO xY;rw[h];exact⟨rfl,rfl,fun e=>dC⟩
theorem zL(T:List RTok):rN T=true↔(kAt T 0=119/\kAt T 1=58):=by
 unfold rN;rw[kB,kI,kI]
theorem Z1c{T:List RTok}(h:xY T=false):qE T=qF (vO T) (T.drop (uO T)):=by
 unfold qE;cases A:rN T with
 |true=>
  obtain⟨h1,h2,h3⟩:=Dy A;rw[jT ((zL T).1 A),jS (by rw[h3 h];decide),h1,h2]
 |false=>
  obtain⟨h1,h2⟩:=AT A;rw[jS (fun e=>by rw[(zL T).2 e]at A;cases A),h1,h2];rfl
theorem Z0S{T:List RTok}(h:xY T=true):qE T=none:=by
 unfold xY at h;rw[kB]at h;unfold qE;rw[jT ((zL T).1 h.1),jT h.2]
theorem Z9e{T:List RTok}(h1:1<=T.length)(D:(T.getD (T.length-1) endR).kind=0):uO T<T.length:=by
 cases A:rN T with
 |false=>rw[(AT A).1];omega
 |true=>
  rw[(Dy A).1];obtain⟨G,I⟩:=(zL T).1 A;have a:=qB (T:=T) (i:=0) ae (by show kAt T 0≠0;rw[G];decide) D;exact qB (T:=T) (i:=1) a (by show kAt T 1≠0;rw[I];decide) D
theorem Il{P:Program}{A:Func}{p q:Tmp}{ty:TypeId}(h:A.results=#[.cell p ty,.tmp q])(tmps:Array Value)(w:World)(g:Nat)(t:TypeId)(cs:Array Value)(fr:Nat×Nat)(d:TypeDesc)
  (hp:tmps.getD p undef=.pointer (some ⟨g,0,none⟩)) (hg:w.heap[g]?=some (.cells cs t fr)) (hu:P.underlying ty=some d) (hd:(match d with | .struct _ | .array _ _=>true|_=>false)=true) (hi:(P.info? ty).map (·.size)=some cs.size):(results A tmps).run P w=.ok (.tuple #[.agg cs,tmps.getD q undef]) w:=by
 exact Mbh
theorem Tryz.infoLine:(Tryz.prog.info? 92).map (·.size)=some 8:=aj
theorem FX{w:World}{rb:Nat}{R O M J I G D A:Value}{t:TypeId}(h:w.heap[rb]?=some (.cells #[R,O,M,J,I,G,D,A] t))(a b c d e f g k:Value):(tK w rb a b c d e f g k).heap[rb]?=some (.cells #[a,b,c,d,e,f,g,k] t):=
 lq _ _ 7 #[a,b,c,d,e,f,g,A] _ k (lq _ _ 6 #[a,b,c,d,e,f,D,A] _ g (lq _ _ 5 #[a,b,c,d,e,G,D,A] _ f (lq _ _ 4 #[a,b,c,d,I,G,D,A] _ e (lq _ _ 3 #[a,b,c,J,I,G,D,A] _ d (lq _ _ 2 #[a,b,M,J,I,G,D,A] _ c (lq _ _ 1 #[a,O,M,J,I,G,D,A] _ b (lq w rb 0 _ _ a h)))))))
theorem Ht{w A:World}{rb M O S U:Nat}{T:List RTok}{i:Nat}{V:Bool}{X:Obj}{R:Ending->World->Prop}{a:Act}(h:PX w A rb M O S U T i V X)(n:Nat)(lb nm D:ByteArray)(c m:Int)(G:ByteArray)(I J:Value)(b:Bool)(hd:a.defers=[])(h2:a.tmps.getD 2 undef=.pointer (some ⟨rb,0,none⟩))(h3:a.tmps.getD 3 undef=.bool b)
  (Z:R (.returned (.tuple #[liV lb nm D c m G I J,.bool b])) (tK (A.drewN n) rb (.string lb) (.string nm) (.string D) (.int .i64 c) (.int .i64 m) (.string G) I J)):bodyPost prog f48 R .ret a (tK (A.drewN n) rb (.string lb) (.string nm) (.string D) (.int .i64 c) (.int .i64 m) (.string G) I J):=by
 refine kf (v:=.tuple #[liV lb nm D c m G I J,.bool b]) ?_ hd Z;have:=Il (P:=prog) results48 a.tmps (tK (A.drewN n) rb (.string lb) (.string nm) (.string D) (.int .i64 c) (.int .i64 m) (.string G) I J) rb _ _ _ _ h2 (FX (w:=A.drewN n) h.rc _ _ _ _ _ _ _ _) underlying92 rfl Tryz.infoLine;rw[h3]at this;exact this
theorem Ec{w J:World}{rb O S U V:Nat}{T:List RTok}{i:Nat}{Z:Bool}{X:Obj}{R:Ending->World->Prop}{a:Act}(h:PX w J rb O S U V T i Z X)(lb nm A:ByteArray)(c m:Int)(D:ByteArray)(G I:Value)(b:Bool)(hd:a.defers=[])(h2:a.tmps.getD 2 undef=.pointer (some ⟨rb,0,none⟩))(h3:a.tmps.getD 3 undef=.bool b)
  (hR:R (.returned (.tuple #[liV lb nm A c m D G I,.bool b])) (tK J rb (.string lb) (.string nm) (.string A) (.int .i64 c) (.int .i64 m) (.string D) G I).drew):bodyPost prog f48 R .ret a (tK J rb (.string lb) (.string nm) (.string A) (.int .i64 c) (.int .i64 m) (.string D) G I).drew:=by
 refine kf (v:=.tuple #[liV lb nm A c m D G I,.bool b]) ?_ hd hR;have M:=FX (w:=J) h.rc (.string lb) (.string nm) (.string A) (.int .i64 c) (.int .i64 m) (.string D) G I;generalize tK J rb (.string lb) (.string nm) (.string A) (.int .i64 c) (.int .i64 m) (.string D) G I=W at M;have:=Il (P:=prog) results48 a.tmps W.drew rb _ _ _ _ h2 (show W.drew.heap[rb]?=_ from M) underlying92 rfl Tryz.infoLine;rw[h3]at this;exact this
theorem OpsR.drew{w:World}{base:Nat}{A:Value}{os:List ROp}(h:OpsR w base A os):OpsR w.drew base A os:=h.kept fun _ _ _=>rfl
theorem OpsIn.drew{w:World}{v:Value}{os:List (List UInt8)}(h:OpsIn w v os):OpsIn w.drew v os:=by
 rcases h with h|⟨h,b,A,hc⟩
 ·exact .inl h
 exact .inr ⟨h,b,A,hc⟩
theorem LineIn.drew{w:World}{base:Nat}{v:Value}{x:RLine}(h:LineIn w base v x):LineIn w.drew base v x:=by
 obtain⟨A,D,h1,h2,h4⟩:=h.at_;exact⟨A,D,h1,h2.drew,h4.drew⟩
theorem uY{w I:World}{rb O S U V:Nat}{T:List RTok}{i:Nat}{Z:Bool}{X:Obj}{R:Option RLine}{a:Act}(h:PX w I rb O S U V T i Z X)(hR:none=R)(lb nm J:ByteArray)(c m:Int)(M:ByteArray)(A D:Value)(hd:a.defers=[])(h2:a.tmps.getD 2 undef=.pointer (some ⟨rb,0,none⟩))(h3:a.tmps.getD 3 undef=.bool false)(Us:∃ea e1 e2,A=.slice ea e1 e2:=by exact⟨_,_,_,rfl⟩)(G:∃oa o1 o2,D=.slice oa o1 o2:=by exact⟨_,_,_,rfl⟩):bodyPost prog f48 (zG w R) .ret a (tK I rb (.string lb) (.string nm) (.string J) (.int .i64 c) (.int .i64 m) (.string M) A D).drew:=by
 subst hR;exact Ec h lb nm J c m M A D false hd h2 h3 ⟨(A0 h 0 _ _ _ _ _ _ _ _).drew,_,_,_,_,_,_,_,_,rfl,Us,G⟩
theorem AQ{w A:World}{rb I J M O:Nat}{T:List RTok}{i:Nat}{S:Bool}{X:Obj}{R:Option RLine}{a:Act}(h:PX w A rb I J M O T i S X)(x:RLine)(U:some x=R)(D G:Value)(h1:OpsIn A D x.ent.2.2.2)(h3:OpsR A w.heap.size G x.ops)(hd:a.defers=[])(g2:a.tmps.getD 2 undef=.pointer (some ⟨rb,0,none⟩))(g3:a.tmps.getD 3 undef=.bool true):bodyPost prog f48 (zG w R) .ret a (tK A rb (.string x.label) (.string x.name) (.string x.what) (.int .i64 (x.ent.1:Int)) (.int .i64 (x.ent.2.1:Int)) (.string ⟨x.ent.2.2.1.toArray⟩) D G).drew:=by
 subst U;exact Ec h _ _ _ _ _ _ D G true hd g2 g3 ⟨(A0 h 0 _ _ _ _ _ _ _ _).drew,_,rfl,(Ig h 0 _ _ _ _ _ _ _ _ x D G h1 h3).drew⟩
theorem AP{w I:World}{rb O S U V:Nat}{T:List RTok}{i:Nat}{Z:Bool}{X:Obj}{R:Option RLine}{a:Act}(h:PX w I rb O S U V T i Z X)(hR:none=R)(n:Nat)(lb nm J:ByteArray)(c m:Int)(M:ByteArray)(A D:Value)(hd:a.defers=[])(h2:a.tmps.getD 2 undef=.pointer (some ⟨rb,0,none⟩))(h3:a.tmps.getD 3 undef=.bool false)(Us:∃ea e1 e2,A=.slice ea e1 e2:=by exact⟨_,_,_,rfl⟩)(G:∃oa o1 o2,D=.slice oa o1 o2:=by exact⟨_,_,_,rfl⟩):bodyPost prog f48 (zG w R) .ret a (tK (I.drewN n) rb (.string lb) (.string nm) (.string J) (.int .i64 c) (.int .i64 m) (.string M) A D):=by
 subst hR;exact Ht h n lb nm J c m M A D false hd h2 h3 ⟨A0 h n _ _ _ _ _ _ _ _,_,_,_,_,_,_,_,_,rfl,Us,G⟩
theorem Z9Q{w A:World}{rb I J M O:Nat}{T:List RTok}{i:Nat}{S:Bool}{X:Obj}{R:Option RLine}{a:Act}(h:PX w A rb I J M O T i S X)(x:RLine)(U:some x=R)(n:Nat)(D G:Value)(h1:OpsIn A D x.ent.2.2.2)(h3:OpsR A w.heap.size G x.ops)(hd:a.defers=[])(g2:a.tmps.getD 2 undef=.pointer (some ⟨rb,0,none⟩))(g3:a.tmps.getD 3 undef=.bool true):bodyPost prog f48 (zG w R) .ret a (tK (A.drewN n) rb (.string x.label) (.string x.name) (.string x.what) (.int .i64 (x.ent.1:Int)) (.int .i64 (x.ent.2.1:Int)) (.string ⟨x.ent.2.2.1.toArray⟩) D G):=by
 subst U;exact Ht h n _ _ _ _ _ _ D G true hd g2 g3 ⟨A0 h n _ _ _ _ _ _ _ _,_,rfl,Ig h n _ _ _ _ _ _ _ _ x D G h1 h3⟩
theorem Tryz.infoROp:(Tryz.prog.info? 174).map (fun i=>(i.zero,i.size,i.bytes))=some (some (.agg #[.string ⟨#[]⟩,.int .i64 0,.int .u8 0,.slice none 0 0]),4,56):=aj
theorem OpsR.snoc{w W G:World}{base:Nat}{R v2:Value}{os:List ROp}{cs:List Value}{o:ROp}{S:Option Addr}{U V:Nat}(h1:w.ownsRow base 174 4 R os.length cs)
  (h2:∀k,k<os.length->cs[k*4]?=some (.string (os.getD k op0).fixed)/\cs[k*4+1]?=some (.int .i64 ((os.getD k op0).number:Int))/\cs[k*4+2]?=some (.int .u8 ((os.getD k op0).sign.toNat:Int))/\∃I J M,cs[k*4+3]?=some (.slice I J M)/\w.ownsRow base 229 5 (.slice I J M) (os.getD k op0).e.length (qv (os.getD k op0).e))
  (hE:w.ownsRow base 229 5 (.slice S U V) o.e.length (qv o.e)) (A:Below w.heap.size w W)
  (hn:G.ownsRow base 174 4 v2 (os.length+1) (cs++[.string o.fixed,.int .i64 (o.number:Int),.int .u8 (o.sign.toNat:Int),.slice S U V])) (hg:W.grownBy G R.ownBlock):OpsR G base v2 (os++[o]):=by
 have hW:w.grownBy W none:=⟨A.os,A.tape,A.output,A.size,fun k hk _=>A.block k hk⟩;have Z:=h1.kept hW (by cases R.ownBlock <;> simp)
 have QZ:∀ {n:Nat} {v:Value} {xs:List Value},w.ownsRow base 229 5 v n xs->G.ownsRow base 229 5 v n xs:=fun {n v xs} ho=>by
  have D:=ho.kept hW (by cases v.ownBlock <;> simp);exact D.kept hg (zF D Z ah)
 have O:cs.length=os.length*4:=h1.1;refine⟨_,by rw[kq];exact hn,fun k hk=>?_⟩;by_cases c:k<os.length
 ·obtain⟨a1,a2,a3,I,J,M,a4,a5⟩:=h2 k c;have e:(os++[o]).getD k op0=os.getD k op0:=by rw[jZ,lz c,<- jZ]
  rw[e];refine⟨?_,?_,?_,I,J,M,?_,QZ a5⟩
  ·rw[lz ae];exact a1
  ·rw[lz ae];exact a2
  ·rw[lz ae];exact a3
  rw[lz ae];exact a4
 have MO:k=os.length:=cM;subst MO;have e:(os++[o]).getD os.length op0=o:=by rw[jZ,lr jU,my];rfl
 rw[e];refine⟨?_,?_,?_,S,U,V,?_,QZ hE⟩
 ·rw[lr ae,O,my];rfl
 ·rw[lr ae,O,show os.length*4+1-os.length*4=1 by omega];rfl
 ·rw[lr ae,O,show os.length*4+2-os.length*4=2 by omega];rfl
 rw[lr ae,O,show os.length*4+3-os.length*4=3 by omega];rfl
theorem Bo:∀(n:Nat) (T:List RTok) (i:Nat) (m:Bool),T.length-i<=n->i<T.length->(T.getD (T.length-1) endR).kind=0->i+(oR (T.drop i) m).2.1<T.length
 |0,T,i,m,hn,hi,A=>ae
 |n+1,T,i,m,hn,hi,A=>by
  cases hf:qx (T.getD i endR) with
  |false=>rw[Av hi hf];exact hi
  |true=>
   have h1:=Ac hi hf A
   by_cases c1:(T.getD (i+1) endR).kind=43
   ·rw[Bf h1 hf c1]
    have h2:=qB h1 dL A
    have:=Bo n T (i+2) false ae h2 A
    show i+((oR (T.drop (i+2)) false).2.1+2)<T.length
    omega
   by_cases c2:(T.getD (i+1) endR).kind=45
   ·rw[A7 h1 hf c1 c2]
    have h2:=qB h1 (by rw[c2];decide) A
    have:=Bo n T (i+2) true ae h2 A
    show i+((oR (T.drop (i+2)) true).2.1+2)<T.length
    omega
   rw[Aw h1 hf c1 c2]
   exact h1
theorem CZ{T:List RTok}{i:Nat}{m:Bool}(hi:i<T.length)(A:(T.getD (T.length-1) endR).kind=0)(h:(oR (T.drop i) m).2.2=true):1<=(oR (T.drop i) m).2.1:=by
 cases hf:qx (T.getD i endR) with
 |false=>rw[Av hi hf]at h;cases h
 |true=>
  have h1:=Ac hi hf A;by_cases c1:(T.getD (i+1) endR).kind=43
  ·rw[Bf h1 hf c1];show 1<=(oR (T.drop (i+2)) false).2.1+2;omega
  by_cases c2:(T.getD (i+1) endR).kind=45
  ·rw[A7 h1 hf c1 c2];show 1<=(oR (T.drop (i+2)) true).2.1+2;omega
  rw[Aw h1 hf c1 c2];exact jU
def DbInv(T:List RTok)(G J:ByteArray)(R:Option RLine)(I:Nat)(os:List ROp)(D A:Bool):Prop:=
 (D=true->none=R)/\(D=false->A=true->∃f,T.length-I<=f/\(rDb f (T.drop I)).map (fun l=>(⟨G,⟨#[]⟩,J,ent0,os++l⟩:RLine))=R)/\(D=false->A=false->(if kAt T I=0 then some (⟨G,⟨#[]⟩,J,ent0,os⟩:RLine) else none)=R)
theorem DbInv.next{T:List RTok}{M O:ByteArray}{R:Option RLine}{I:Nat}{os:List ROp}(h:DbInv T M O R I os false true)(S:I<T.length)(U:(T.getD (T.length-1) endR).kind=0){q:List RTerm×Nat×Bool}(hq:oR (T.drop I) false=q):DbInv T M O R (if kAt T (I+q.2.1)=44 then I+q.2.1+1 else I+q.2.1) (os++[sL q.1]) (!q.2.2) (decide (kAt T (I+q.2.1)=44)):=by
 obtain⟨f,hf,A⟩:=h.2.1 rfl rfl;obtain⟨f,rfl⟩:∃g,f=g+1:=⟨f-1,ae⟩;rw[rDb,hq,uo,lV]at A;cases D:q.2.2 with
 |false=>
  rw[D,jS ah]at A;exact⟨fun _=>A,fun e=>(by cases e),fun e=>(by cases e)⟩
 |true=>
  have h1:=CZ S U (by rw[hq];exact D);rw[hq]at h1;rw[D,jT rfl]at A;refine⟨fun e=>(by cases e),fun _ G=>?_,fun _ G=>?_⟩
  ·have J:kAt T (I+q.2.1)=44:=mQ G;rw[jT J]at A⊢;refine⟨f,ae,?_⟩;rw[<-A,<- ng,Option.map_map];congr 1;funext l;simp
  have J:¬kAt T (I+q.2.1)=44:=T0d G;rw[jS J]at A⊢;rw[<-A];by_cases c:kAt T (I+q.2.1)=0
  ·rw[jT c,jT c];rfl
  rw[jS c,jS c];rfl
def xV(n A:Nat)(v:Value)(w:World):Nat:=match v,w.cell? ⟨A,2,none⟩ with
 |.bool true,some (.bool false)=>n-zj w A+1
 |_,_=>0
theorem PX.over{w wr w':World}{rb G D g I:Nat}{T:List RTok}{i:Nat}{J:Bool}{X:Obj}(h:PX w wr rb G D g I T i J X)(A:Below (D+1) wr w'):PX w w' rb G D g I T i J X:=by
 obtain⟨l1,l2,l3,M⟩:=h.lt;exact⟨h.ps.kept (A.block D ae) (A.block g ae) A.size,(A.block G ae).trans h.xc,(A.block rb ae).trans h.rc,⟨A.os.trans h.bw.os,A.tape.trans h.bw.tape,A.output.trans h.bw.output,j8 h.bw.size A.size,fun k hk=>(A.block k ae).trans (h.bw.block k hk)⟩,h.lt⟩
theorem OpsR.base{w:World}{b b':Nat}{A:Value}{os:List ROp}(h:OpsR w b A os)(D:b'<=b):OpsR w b' A os:=by
 obtain⟨cs,h1,h2⟩:=h.row
 exact⟨cs,pC h1 D,fun k hk=>by
  obtain⟨a1,a2,a3,G,I,J,a4,a5⟩:=h2 k hk;exact⟨a1,a2,a3,G,I,J,a4,pC a5 D⟩⟩
theorem OpsR.pass{w w':World}{b A:Nat}{D:Value}{os:List ROp}(h:OpsR w b D os)(I:A<b)(G:w.grownBy w' (some A)):OpsR w' b D os:=h.kept fun k h1 h2=>G.block k h2 ai
theorem rP{w:World}{b:Nat}{e:TypeId}{s n:Nat}{v:Value}{xs:List Value}(h:w.ownsRow b e s v n xs):∃a c,v=.slice a n c:=by
 rcases h.2 with⟨rfl,h0⟩|⟨g,A,_,rfl,_⟩
 ·exact⟨none,0,bu⟩
 exact⟨_,_,rfl⟩
theorem Iu{w A W I:World}{rb D G g S:Nat}{T:List RTok}{i:Nat}{U:Bool}{lb nm V:ByteArray}{c m:Int}{Z:ByteArray}{ev O v2:Value}{os:List ROp}{cs:List Value}{o:ROp}{ya:Option Addr}{yn yc:Nat}(R:PX w A rb D G g S T i U (liC lb nm V c m Z ev O))(h1:A.ownsRow (G+1) 174 4 O os.length cs)
  (h2:∀k,k<os.length->cs[k*4]?=some (.string (os.getD k op0).fixed)/\cs[k*4+1]?=some (.int .i64 ((os.getD k op0).number:Int))/\cs[k*4+2]?=some (.int .u8 ((os.getD k op0).sign.toNat:Int))/\∃va vn vc,cs[k*4+3]?=some (.slice va vn vc)/\A.ownsRow (G+1) 229 5 (.slice va vn vc) (os.getD k op0).e.length (qv (os.getD k op0).e))
  (hE:A.ownsRow (G+1) 229 5 (.slice ya yn yc) o.e.length (qv o.e)) (J:Below A.heap.size A W)
  (hn:I.ownsRow (G+1) 174 4 v2 (os.length+1) (cs++[.string o.fixed,.int .i64 (o.number:Int),.int .u8 (o.sign.toNat:Int),.slice ya yn yc])) (M:W.grownBy I O.ownBlock) :
  I.heap[D]?=A.heap[D]?/\PX w (I.setCell ⟨D,7,none⟩ v2) rb D G g S T i U (liC lb nm V c m Z ev v2)/\OpsR (I.setCell ⟨D,7,none⟩ v2) (G+1) v2 (os++[o]):=by
 have hpl:=R.ps.lt;obtain⟨l1,l2,l3,l4⟩:=R.lt;have hb:Below (G+1) A I:=⟨M.os.trans J.os,M.tape.trans J.tape,M.output.trans J.output,j8 J.size M.size,fun k hk=>(M.block k (ke ae J.size) (fun e=>by have:=(h1.lt k e.symm).1;omega)).trans (J.block k ae)⟩;refine⟨hb.block D ae,(R.over hb).setX 7 _,?_⟩;refine(OpsR.snoc h1 h2 hE J hn M).kept fun k hk _=>kk I ⟨D,7,none⟩ k v2 ai
theorem IP(w:World)(x y z u:Value)(t:TypeId):∀j v,[x,y,z,u][j]?=some v->(w.alloc (.cells #[x,y,z,u] t)).cell? ((⟨w.heap.size,0,none⟩:Addr).add j)=some v:=by
 intro j v A;rw[k9,kN,kM _ _ j #[x,y,z,u] t (0,0) (kg w _)];rw[<-A];simp
theorem Jn{wr D:World}{A g G:Nat}{T:List RTok}{I J:Nat}{b m:Bool}(h:RPS wr A g G T I false)(h2:RPS D A g G T J b)(O:I<T.length)(M:b=false->m=true->I<J):xV T.length A (.bool m) D<xV T.length A (.bool true) wr:=by
 have e1:xV T.length A (.bool true) wr=T.length-I+1:=by
  unfold xV;rw[h.c2,h.at]
 rw[e1];unfold xV;rw[h2.c2];cases b
 ·cases m
  ·exact T0i
  show T.length-zj D A+1<_;rw[h2.at];have:=M rfl rfl;omega
 cases m
 ·exact T0i
 exact T0i
theorem EF{T:List RTok}{J:Nat}(h:J<T.length)(A:(T.getD (T.length-1) endR).kind=0):(if kAt T J=44 then J+1 else J)<T.length:=by
 by_cases c:kAt T J=44
 ·rw[jT c];exact qB h (by show kAt T J≠0;rw[c];decide) A
 rw[jS c];exact h
theorem Z9L{T:List RTok}{i:Nat}(hi:i<T.length)(D:(T.getD (T.length-1) endR).kind=0):i+(qJ (T.drop i)).2.2.1<T.length:=by
 have A:∀ {k:Nat} {x:ByteArray},i+k<T.length->pr ((T.drop i).getD k endR) x->i+k+1<T.length:=fun {k x} hk h=>by
  rw[uy]at h;exact qB hk (by rw[h.1];decide) D
 unfold qJ;by_cases c1:pr ((T.drop i).getD 0 endR) ⟨#[100,112,116,114]⟩
 ·rw[jT c1];exact A hi c1
 rw[jS c1];by_cases c2:pr ((T.drop i).getD 0 endR) ⟨#[114,48]⟩
 ·rw[jT c2];exact A hi c2
 rw[jS c2];by_cases c3:pr ((T.drop i).getD 0 endR) ⟨#[114,49]⟩
 ·rw[jT c3];exact A hi c3
 rw[jS c3];by_cases c4:pr ((T.drop i).getD 0 endR) ⟨#[97]⟩
 ·rw[jT c4];have h1:=A hi c4;by_cases c5:((T.drop i).getD 1 endR).kind=43
  ·rw[jT c5]
   have h2:i+1+1<T.length:=by
    rw[uy]at c5;exact qB h1 (by rw[c5];decide) D
   by_cases c6:pr ((T.drop i).getD 2 endR) ⟨#[100,112,116,114]⟩
   ·rw[jT c6];exact A h2 c6
   rw[jS c6];by_cases c7:pr ((T.drop i).getD 2 endR) ⟨#[112,99]⟩
   ·rw[jT c7];exact A h2 c7
   rw[jS c7];exact h2
  rw[jS c5];exact h1
 rw[jS c4];exact hi
theorem Hf{T:List RTok}{i:Nat}(hi:i<T.length)(A:(T.getD (T.length-1) endR).kind=0):i+(o7 (T.drop i)).2.1<T.length/\((o7 (T.drop i)).2.2=true->1<=(o7 (T.drop i)).2.1):=by
 have J:(T.drop i).getD 0 endR=T.getD i endR:=by rw[uy,kK]
 have D:∀(s:UInt8) (k j:Nat),i+k=j->j<T.length->i+(rG s k (oR (T.drop j) false)).2.1<T.length/\((rG s k (oR (T.drop j) false)).2.2=true->1<=(rG s k (oR (T.drop j) false)).2.1):=fun s k j hk I=>by
  have h1:=Bo _ T j false jU I A;refine⟨?_,fun e=>?_⟩
  ·show i+((oR (T.drop j) false).2.1+k)<T.length;omega
  have:=CZ (m:=false) I A e;show 1<=(oR (T.drop j) false).2.1+k;omega
 have G:(T.getD i endR).kind≠0->i+1<T.length:=fun h=>qB hi h A
 unfold o7;rw[J,lV];by_cases c1:(T.getD i endR).kind=64
 ·rw[jT c1];have h1:=G dL;have:=Z9L h1 A;exact⟨by show i+((qJ (T.drop (i+1))).2.2.1+1)<T.length;omega,fun _=>T0i⟩
 rw[jS c1];by_cases c2:(T.getD i endR).kind=35
 ·rw[jT c2];exact D 35 1 (i+1) rfl (G (by rw[c2];decide))
 rw[jS c2];by_cases c3:(T.getD i endR).kind=47
 ·rw[jT c3];exact D 47 1 (i+1) rfl (G (by rw[c3];decide))
 rw[jS c3];by_cases c4:(T.getD i endR).kind=119
 ·rw[jT c4];have h1:=G (by rw[c4];decide);unfold xg;cases vC (T.getD i endR).s with
  |some f=>exact⟨h1,fun _=>jU⟩
  |none=>
   show i+(if qV (T.getD i endR).s.data.toList=true then _ else _:ROp×Nat×Bool).2.1<T.length/\_;by_cases c5:qV (T.getD i endR).s.data.toList=true
   ·rw[jT c5];exact⟨h1,fun _=>jU⟩
   rw[jS c5];exact D 0 0 i rfl hi
 rw[jS c4];exact D 0 0 i rfl hi
def InInv(T:List RTok)(D nm:ByteArray)(R:Option RLine)(I:Nat)(os:List ROp)(A:Bool):Prop:=
 (A=true->none=R)/\(A=false->∃f,T.length-I<f/\((qI f (decide (0<os.length)) (T.drop I)).bind fun l=>(qD nm.data.toList (os++l)).map fun e=>(⟨D,⟨#[]⟩,⟨#[105,110,115]⟩,e,os++l⟩:RLine))=R)
theorem InInv.done{T:List RTok}{D nm:ByteArray}{R:Option RLine}{I:Nat}{os:List ROp}(h:InInv T D nm R I os false)(hk:kAt T I=0):((qD nm.data.toList os).map fun e=>(⟨D,⟨#[]⟩,⟨#[105,110,115]⟩,e,os⟩:RLine))=R:=by
 obtain⟨f,hf,G⟩:=h.2 rfl;obtain⟨f,rfl⟩:∃g,f=g+1:=⟨f-1,ae⟩;rw[qI,uo,kK,jT hk]at G;have A:(qD nm.data.toList (os++[])).map (fun e=>(⟨D,⟨#[]⟩,⟨#[105,110,115]⟩,e,os++[]⟩:RLine))=R:=G;rw[kX]at A;exact A
theorem InInv.nocomma{T:List RTok}{D nm:ByteArray}{R:Option RLine}{I:Nat}{os:List ROp}(h:InInv T D nm R I os false)(hk:¬kAt T I=0)(ho:0<os.length)(hc:¬kAt T I=44):none=R:=by
 obtain⟨f,hf,A⟩:=h.2 rfl;obtain⟨f,rfl⟩:∃g,f=g+1:=⟨f-1,ae⟩;rw[qI,uo,kK,jS hk,kj ho,jT rfl,jS hc]at A;exact A
theorem InInv.next{T:List RTok}{G nm:ByteArray}{R:Option RLine}{I J:Nat}{os:List ROp}(h:InInv T G nm R I os false)(hI:I<T.length)(hk:¬kAt T I=0)(O:(J=I/\os.length=0)\/(J=I+1/\0<os.length/\kAt T I=44))(U:(T.getD (T.length-1) endR).kind=0)(V:J<T.length){q:ROp×Nat×Bool}(hq:o7 (T.drop J)=q):InInv T G nm R (J+q.2.1) (os++[q.1]) (!q.2.2):=by
 obtain⟨f,hf,A⟩:=h.2 rfl;obtain⟨f,rfl⟩:∃g,f=g+1:=⟨f-1,ae⟩;have h1:=(Hf V U).2;rw[hq]at h1;have Z:(0<(os++[q.1]).length):=af
 have D:(if q.2.2=true then (qI f true (T.drop (J+q.2.1))).map (q.1 :: ·) else none).bind (fun l=>(qD nm.data.toList (os++l)).map fun e=>(⟨G,⟨#[]⟩,⟨#[105,110,115]⟩,e,os++l⟩:RLine))=R->InInv T G nm R (J+q.2.1) (os++[q.1]) (!q.2.2):=fun hh=>by
  cases M:q.2.2 with
  |false=>
   rw[M,jS ah]at hh;exact⟨fun _=>hh,fun e=>(by cases e)⟩
  |true=>
   rw[M,jT rfl]at hh;have h2:=h1 M;refine⟨fun e=>(by cases e),fun _=>⟨f,by rcases O with e|e <;> omega,?_⟩⟩;rw[kj Z,<- hh,Option.bind_map];congr 1;funext l;simp
 rw[qI,uo,kK,jS hk]at A;rcases O with⟨rfl,S⟩|⟨rfl,S,e1⟩
 ·rw[j9 ae,jS ah,hq,lV]at A;exact D A
 rw[kj S,jT rfl,jT e1,lV,hq,lV,<- ng]at A;exact D A
theorem OpsR.opR{w:World}{b:Nat}{A:Option Addr}{n G:Nat}{os:List ROp}(h:OpsR w b (.slice A n G) os)(D:os.length<=4000):n=os.length/\∃I,OpR w I A os:=by
 obtain⟨cs,h1,h2⟩:=h.row
 have hn:n=os.length:=by
  obtain⟨_,_,e⟩:=rP h1;cases e;rfl
 refine⟨hn,?_⟩;by_cases c:os.length=0
 ·exact⟨0,fun k hk=>ae,D⟩
 rcases h1.2 with⟨h0,e⟩|⟨g,O,_,h0,_⟩
 ·omega
 cases h0;have hc:=h1.cells (g:=g) rfl;refine⟨g,fun k hk=>?_,D⟩;obtain⟨a1,a2,a3,J,R,xc,a4,a5⟩:=h2 k hk
 have f:∀j u,cs[j]?=some u->w.cell? ⟨g,j,none⟩=some u:=fun j u M=>by
  have:=hc j u M;rw[k9,kN]at this;exact this
 obtain⟨_,_,e⟩:=rP a5;cases e;exact⟨rfl,f _ _ a1,f _ _ a2,f _ _ a3,J,xc,f _ _ a4⟩
abbrev tZ(w:World)(xb:Nat)(x:Ent)(ev:Value):World:=((((w.setCell ⟨xb,3,none⟩ (.int .i64 (x.1:Int))).setCell ⟨xb,4,none⟩ (.int .i64 (x.2.1:Int))).setCell ⟨xb,5,none⟩ (.string ⟨x.2.2.1.toArray⟩)).setCell ⟨xb,6,none⟩ ev).alloc (.cells #[.int .i64 (x.1:Int),.int .i64 (x.2.1:Int),.string ⟨x.2.2.1.toArray⟩,ev] 89)
theorem wg(w:World)(A:Nat)(x:Ent)(D:Value):w.grownBy (tZ w A x D) (some A):=by
 have h:=(((pV w A 3 (.int .i64 (x.1:Int))).trans2 (pV _ A 4 (.int .i64 (x.2.1:Int)))).trans2 (pV _ A 5 (.string ⟨x.2.2.1.toArray⟩))).trans2 (pV _ A 6 D);exact⟨h.os,h.tape,h.output,j8 h.size af,fun k hk G=>(nz _ _ (ke hk h.size)).trans (h.block k hk G)⟩
theorem PX.ent{w wr:World}{rb A G g I:Nat}{T:List RTok}{i:Nat}{J:Bool}{lb nm M:ByteArray}{O:Value}(h:PX w wr rb A G g I T i J (liC lb nm M 0 0 ⟨#[]⟩ (.slice none 0 0) O))(x:Ent)(D:Value):PX w (tZ wr A x D) rb A G g I T i J (liC lb nm M (x.1:Int) (x.2.1:Int) ⟨x.2.2.1.toArray⟩ D O):=
 ((((h.setX 3 (.int .i64 (x.1:Int))).setX 4 (.int .i64 (x.2.1:Int))).setX 5 (.string ⟨x.2.2.1.toArray⟩)).setX 6 D).below (jV.alloc jU _)
