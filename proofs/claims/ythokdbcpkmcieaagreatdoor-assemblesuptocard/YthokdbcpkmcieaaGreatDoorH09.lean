import Derived.Test.YthokdbcpkmcieaaGreatDoorH08
import Derived.Deep.DeepCutAuto
set_option maxRecDepth 200000
set_option maxHeartbeats 16000000
namespace Go.Proofs.YthokdbcpkmcieaaGreatDoor
open RowKit Maps WideMaps Proofs.Tryz
structure Trm where
 minus:Bool
 name:ByteArray
 here:Bool
 num:Int
def Trm.cells(t:Trm):List Value:=[.bool t.minus,.string t.name,.bool t.here,.int .i64 t.num]
def vG(t:Trm):Value:=.agg #[.bool t.minus,.string t.name,.bool t.here,.int .i64 t.num]
def pZ:List Tok->Option (Trm×List Tok)
 |[]=>none
 |t::l=>
  if t.text=⟨#[36]⟩ then some (⟨false,⟨#[]⟩,true,0⟩,l)
  else if t.kind=2 then some (⟨false,⟨#[]⟩,false,t.num⟩,l)
  else if t.kind=1/\pd t.text.data.toList=true then some (⟨false,t.text,false,0⟩,l)
  else none
def Hi{α:Type}(w:World)(B A:Nat)(b:Bk)(line:Int)(val:α->Value)(o:Option (α×List Tok))(e:Ending)(w':World):Prop:=
 match o with
 |some (x,l)=>e=.returned (val x)/\PS w' B A b line l/\w.grownBy w' (some A)
 |none=>e=pj line/\w.grownBy w' (some A)
theorem CW{t:Tok}{l:List Tok}(h:(t::l).getLast?=some ux)(A:t.kind≠0):l≠[]:=by
 intro e;subst e;simp at h;subst h;exact A rfl
theorem Cs(w:World)(r:Option Nat):w.grownBy w r:=⟨rfl,rfl,rfl,jU,fun _ _ _=>rfl⟩
theorem th{w A:World}{r:Nat}(D:w.grownBy A (some r))(a:Addr)(h:a.block<w.heap.size)(Kk:a.block≠r):A.cell? a=w.cell? a:=jW (D.block a.block h ay)
theorem tY{w A:World}{r:Nat}(D:w.grownBy A (some r))(a:Addr)(h:a.block<w.heap.size)(Kk:a.block≠r):A.frozen? a=w.frozen? a:=ku (D.block a.block h ay)
theorem grown_fresh{w D:World}{r:Option Nat}(A:w.grownBy D r){a:Addr}(h:w.heap.size<=a.block)(v:Value):w.grownBy (D.setCell a v) r:=
 ⟨A.os,A.tape,A.output,by simpa [World.setCell]using A.size,fun k hk G=>by rw[ly ae];exact A.block k hk G⟩
theorem xT{w D:World}{r:Option Nat}(A:w.grownBy D r)(o:Obj):w.grownBy (D.alloc o) r:=
 ⟨A.os,A.tape,A.output,j8 A.size af,fun k hk G=>by rw[kt (ke hk A.size)];exact A.block k hk G⟩
theorem _root_.Go.World.grownBy.trans2{w A D:World}{r:Option Nat}(h:w.grownBy A r)(k:A.grownBy D r):w.grownBy D r:=
 ⟨k.os.trans h.os,k.tape.trans h.tape,k.output.trans h.output,j8 h.size k.size,fun i hi G=>(k.block i (ke hi h.size) G).trans (h.block i hi G)⟩
theorem Dl(w:World)(B G:Nat)(b:Bk)(line:Int)(Z:List Tok)(h:PS w B G b line Z)(hb:BookAt w b)(ha:Apart B G b) :
  Calls prog 280 #[.pointer (some ⟨G,0,none⟩)] w (Hi w B G b line vG (pZ Z)):=by
 obtain⟨t,l,rfl⟩:=h.ne;have J:∀D,Below w.heap.size w (w.alloc D):=fun D=>(jV).alloc jU _
 have VG:=oP h.le;have Kf:G<w.heap.size:=ke h.lt h.le;have I:∀D,PS (w.alloc D) B G b line (t::l):=fun D=>h.kept ((J D).mono h.le)
 have HW:=oP J;by_cases h1:t.text=⟨#[36]⟩
 ·have e:pZ (t::l)=some (⟨false,⟨#[]⟩,true,0⟩,l):=by simp only[pZ];rw[jT h1]
  rw[e];have S:=oP (fun D=>vN (w.alloc D) B G b line t l ⟨#[36]⟩ (I D) h1 ah);clear h e J I;go_enter func280,ntmps280;go_wp2_with fail;refine(S.o _).mono ?_;rintro e A ⟨rfl,M,KT⟩;have HP:=oP M;have hz:=KT.size;have q0:A.cell? ⟨w.heap.size,0,none⟩=some (.bool false):=aF;have q1:A.cell? ⟨w.heap.size,1,none⟩=some (.string ⟨#[]⟩):=aF;have q2:A.cell? ⟨w.heap.size,2,none⟩=some (.bool false):=aF;have q3:A.cell? ⟨w.heap.size,3,none⟩=some (.int .i64 0):=aF;have f0:A.frozen? ⟨w.heap.size,0,none⟩=false:=aG;have f1:A.frozen? ⟨w.heap.size,1,none⟩=false:=aG;have f2:A.frozen? ⟨w.heap.size,2,none⟩=false:=aG;have f3:A.frozen? ⟨w.heap.size,3,none⟩=false:=aG;have WQ:w.heap.size<A.heap.size:=by simp at hz;omega
  clear M;go_wp2_with fail;refine kf (v:=vG ⟨false,⟨#[]⟩,true,0⟩) eC rfl ⟨rfl,?_,?_⟩
  ·have KR:=HP.o.le;exact MbX
  exact Mb2
 have S:=oP (fun D=>wQ (w.alloc D) B G b line t l ⟨#[36]⟩ (I D) h1);obtain⟨g,off,Kd,k1,k2,WX6,k3,k4,V⟩:=h.tk;have k5:g<w.heap.size:=ke V h.le;have t0:=k3.1;have hp:(0:Int)<(l.length:Int)+1:=ae;have VF:=Z8e;by_cases h2:t.kind=2
 ·have e:pZ (t::l)=some (⟨false,⟨#[]⟩,false,t.num⟩,l):=by simp only[pZ];rw[jS h1,jT h2]
  rw[e];have R:=oP (fun D=>By (w.alloc D) B G b line t l (I D) (CW h.last ae));unfold yK at R;have i2:((t.kind:Int)==2)=true:=cG;clear h e J I;go_enter func280,ntmps280;go_wp2_with fail;refine(S.o _).mono ?_;rintro e U ⟨rfl,O⟩;rw[O];clear O U;go_wp2_with fail;refine(R.o _).mono ?_;rintro e A ⟨rfl,M,KT⟩;have HP:=oP M;have hz:=KT.size;have q0:A.cell? ⟨w.heap.size,0,none⟩=some (.bool false):=aF;have q1:A.cell? ⟨w.heap.size,1,none⟩=some (.string ⟨#[]⟩):=aF;have q2:A.cell? ⟨w.heap.size,2,none⟩=some (.bool false):=aF;have q3:A.cell? ⟨w.heap.size,3,none⟩=some (.int .i64 0):=aF;have f0:A.frozen? ⟨w.heap.size,0,none⟩=false:=aG;have f1:A.frozen? ⟨w.heap.size,1,none⟩=false:=aG;have f2:A.frozen? ⟨w.heap.size,2,none⟩=false:=aG;have f3:A.frozen? ⟨w.heap.size,3,none⟩=false:=aG;have WQ:w.heap.size<A.heap.size:=by simp at hz;omega
  clear M;go_wp2_with fail;refine kf (v:=vG ⟨false,⟨#[]⟩,false,t.num⟩) eC rfl ⟨rfl,?_,?_⟩
  ·have KR:=HP.o.le;exact MbX
  exact Mb2
 have i2:((t.kind:Int)==2)=false:=ai;have KB:t.text.size<=1000000:=j8 (h.sz t af) ae;by_cases h3:t.kind=1/\pd t.text.data.toList=true
 ·have e:pZ (t::l)=some (⟨false,t.text,false,0⟩,l):=by simp only[pZ];rw[jS h1,jS h2,jT h3]
  rw[e];have R:=oP (fun D=>Fg (w.alloc D) B G b line t l (I D) (hb.below (J D)) ha KB h3.1 h3.2);clear h e J I;go_enter func280,ntmps280;go_wp2_with fail;refine(S.o _).mono ?_;rintro e U ⟨rfl,O⟩;rw[O];clear O U;go_wp2_with fail;refine(R.o _).mono ?_;rintro e A ⟨rfl,M,KT⟩;have HP:=oP M;have hz:=KT.size;have q0:A.cell? ⟨w.heap.size,0,none⟩=some (.bool false):=aF;have q1:A.cell? ⟨w.heap.size,1,none⟩=some (.string ⟨#[]⟩):=aF;have q2:A.cell? ⟨w.heap.size,2,none⟩=some (.bool false):=aF;have q3:A.cell? ⟨w.heap.size,3,none⟩=some (.int .i64 0):=aF;have f0:A.frozen? ⟨w.heap.size,0,none⟩=false:=aG;have f1:A.frozen? ⟨w.heap.size,1,none⟩=false:=aG;have f2:A.frozen? ⟨w.heap.size,2,none⟩=false:=aG;have f3:A.frozen? ⟨w.heap.size,3,none⟩=false:=aG;have WQ:w.heap.size<A.heap.size:=by simp at hz;omega
  clear M;go_wp2_with fail;refine kf (v:=vG ⟨false,t.text,false,0⟩) eC rfl ⟨rfl,?_,?_⟩
  ·have KR:=HP.o.le;exact MbX
  exact Mb2
 have e:pZ (t::l)=none:=by simp only[pZ];rw[jS h1,jS h2,jS h3]
 rw[e]
 have hn:t.kind≠1\/pd t.text.data.toList=false:=by
  by_cases hk:t.kind=1
  ·right;cases ho:pd t.text.data.toList with
   |true=>exact absurd ⟨hk,ho⟩ h3
   |false=>rfl
  exact .inl hk
 have R:=oP (fun D=>IM (w.alloc D) B G b line t l (I D) (hb.below (J D)) ha KB hn);clear h e J I;go_enter func280,ntmps280;go_wp2_with fail;refine(S.o _).mono ?_;rintro e U ⟨rfl,O⟩;rw[O];clear O U;go_wp2_with fail;refine(R.o _).mono ?_;rintro e A ⟨rfl,KT⟩;unfold pj;go_wp2_with fail;exact⟨rfl,rfl,(sR (HW.o _)).trans2 KT⟩
def pN(l:List Trm):List Value:=l.flatMap Trm.cells
theorem GN(l:List Trm)(t:Trm):pN (l++[t])=pN l++t.cells:=by simp[pN]
def qu:Nat->List Trm->List Tok->Option (List Trm×List Tok)
 |0,acc,A=>some (acc,A)
 |_+1,_,[]=>none
 |f+1,acc,t::l=>
  if t.text=⟨#[45]⟩ then (pZ l).bind fun x=>qu f (acc++[{x.1 with minus:=true}]) x.2
  else if t.text=⟨#[43]⟩ then (pZ l).bind fun x=>qu f (acc++[{x.1 with minus:=false}]) x.2
  else some (acc,t::l)
def pQ(A:List Tok):Option (List Trm×List Tok):=(pZ A).bind fun x=>qu x.2.length [x.1] x.2
def zP(w:World)(A:Nat):Nat:=match w.cell? ⟨A,5,none⟩ with
 |some (.slice _ n _)=>n
 |_=>0
theorem PS.left{w:World}{B A:Nat}{b:Bk}{line:Int}{D:List Tok}(h:PS w B A b line D):zP w A=D.length:=by
 obtain⟨g,off,G,h1,_⟩:=h.tk;unfold zP;rw[h1]
theorem sY{w w':World}{base r:Nat}{e:TypeId}{size n:Nat}{v:Value}{xs:List Value}(h:w.ownsRow base e size v n xs)(A:w.grownBy w' (some r))(D:r<base):w'.ownsRow base e size v n xs:=by
 obtain⟨h1,h2|⟨g,G,I,rfl,J,h3⟩⟩:=id h
 ·exact⟨h1,.inl h2⟩
 exact h.kept A (.inr (by simp[Value.ownBlock];omega))
theorem wa{A:List Tok}{x:Trm}{l:List Tok}(h:pZ A=some (x,l)):A.length=l.length+1:=by
 cases A with
 |nil=>simp[pZ]at h
 |cons t A=>
  simp only[pZ]at h;split at h
  ·cases h;simp
  split at h
  ·cases h;simp
  split at h
  ·cases h;simp
  cases h
theorem Tryz.infoTrm:(Tryz.prog.info? 261).map (fun i=>(i.zero,i.size,i.bytes))=some (some (.agg #[.bool false,.string ⟨#[]⟩,.bool false,.int .i64 0]),4,40):=aj
theorem JR{a:Bool}{s:ByteArray}{c:Bool}{n:Int}:∀u∈[Value.bool a,.string s,.bool c,.int .i64 n],u.oneCell'=true:=by
 intro u A;simp at A;rcases A with rfl|rfl|rfl|rfl <;> rfl
theorem Hk{f:Nat}{acc:List Trm}{t:Tok}{l:List Tok}(h:t.text=⟨#[45]⟩):qu (f+1) acc (t::l)=(pZ l).bind fun x=>qu f (acc++[{x.1 with minus:=true}]) x.2:=by simp only[qu];rw[jT h]
theorem Ie{f:Nat}{acc:List Trm}{t:Tok}{l:List Tok}(h:¬t.text=⟨#[45]⟩)(h2:t.text=⟨#[43]⟩):qu (f+1) acc (t::l)=(pZ l).bind fun x=>qu f (acc++[{x.1 with minus:=false}]) x.2:=by simp only[qu];rw[jS h,jT h2]
theorem Z03{f:Nat}{acc:List Trm}{t:Tok}{l:List Tok}(h:¬t.text=⟨#[45]⟩)(h2:¬t.text=⟨#[43]⟩):qu (f+1) acc (t::l)=some (acc,t::l):=by simp only[qu];rw[jS h,jS h2]
def Z0B(w:World)(B A:Nat)(b:Bk)(line:Int)(o:Option (List Trm×List Tok))(e:Ending)(w':World):Prop:=
 match o with
 |some (x,l)=>∃v,e=.returned v/\w'.ownsRow w.heap.size 261 4 v x.length (pN x)/\PS w' B A b line l/\w.grownBy w' (some A)
 |none=>e=pj line/\w.grownBy w' (some A)
theorem zW(w:World)(B A:Nat)(b:Bk)(line:Int)(V:List Tok)(h:PS w B A b line V)(hb:BookAt w b)(J:Apart B A b)(hn:V.length<=1000000) :
  Calls prog 250 #[.pointer (some ⟨A,0,none⟩)] w (Z0B w B A b line (pQ V)):=by
 obtain⟨i0,hi,KJ,KC,Ky⟩:=kQ Tryz.infoTrm;have Kf:A<w.heap.size:=ke h.lt h.le;have Lu:=oP hb;have K1:=h.le;obtain⟨R,hR⟩:=Zg0 (pQ V);rw[hR];have Lh:=Dl w B A b line V h hb J;cases ht:pZ V with
 |none=>
  have e:R=none:=by rw[<-hR];unfold pQ;rw[ht];rfl
  rw[e];rw[ht]at Lh;have HT:=oP Lh;clear Lh h hb;go_enter func250,ntmps250;go_wp2_with fail;refine HT.o.mono ?_;rintro e w1 ⟨rfl,KT⟩;unfold pj;go_wp2_with fail;exact⟨rfl,rfl,KT⟩
 |some xl=>
  obtain⟨x,l⟩:=xl;have e:qu l.length [x] l=R:=by rw[<-hR];unfold pQ;rw[ht];rfl
  rw[ht]at Lh;have N5:=wa ht;have HE:=oP e;have HT:=oP Lh;clear Lh h hb e hR ht;go_enter func250,ntmps250;go_wp2_with fail;refine HT.o.mono ?_;rintro e w1 ⟨rfl,K5,KT⟩;have HP:=oP K5;have hz:=KT.size;unfold vG;clear K5;go_wp2_with fail
  have WR:(w1.alloc (.cells #[.bool x.minus,.string x.name,.bool x.here,.int .i64 x.num] 261)).ownsRow w.heap.size 261 4 (.slice (some ⟨w1.heap.size,0,none⟩) 1 1) 1 (pN [x]):=
   oI w1 #[.bool x.minus,.string x.name,.bool x.here,.int .i64 x.num] 1 hz ah rfl
  have VG:=oP (show B<=w.heap.size from K1);go_loopw [3] (fun v wr=>∃(acc:List Trm) (l2:List Tok) (f:Nat),l2.length<=f/\acc.length+l2.length<=1000000/\Hid (qu f acc l2=R)/\wr.ownsRow w.heap.size 261 4 v acc.length (pN acc)/\PS wr B A b line l2/\w.grownBy wr (some A)) (fun _ wr=>zP wr A)
  case atStart=>
   exact⟨[x],l,l.length,jU,ai,oP HE.o,WR,HP.o.kept (jV.alloc (j8 VG.o hz) _),xT KT _⟩
  case round=>
   obtain⟨acc,l1,f,hf,PN,NO,Ke,I,Kg⟩:=hrel;obtain⟨t,l2,rfl⟩:=I.ne;have QM:=I.left;have RC:=oP QM;have Wd7:=Kg.size;clear QM HE HP HT WR;obtain⟨Z,rfl⟩:∃Z,f=Z+1:=⟨f-1,bM⟩;simp at hf PN;by_cases h1:t.text=⟨#[45]⟩
   ·have HS:=oP (vN wr B A b line t l2 ⟨#[45]⟩ I h1 ah);clear I;go_wp2_with fail;refine HS.o.mono ?_;rintro e w2 ⟨rfl,MC,KM⟩;have Lh:=Dl w2 B A b line l2 MC (Lu.o.kept (Kg.trans2 KM) J.h1 J.h2 J.h3) J;cases ht:pZ l2 with
    |none=>
     have e:R=none:=by rw[<-NO.o,Hk h1,ht];rfl
     exact MaT
    |some yl=>
     obtain⟨y,l3⟩:=yl;have e:qu Z (acc++[{y with minus:=true}]) l3=R:=by rw[<-NO.o,Hk h1,ht];rfl
     have Ld:=oP e;have SU:=wa ht;rw[ht]at Lh;have X8:=oP Lh;clear Lh MC ht e;go_wp2_with fail;refine X8.o.mono ?_;rintro e w3 ⟨rfl,LK,Kr⟩;have S:=oP LK;have TX:=Kr.size;have D:=(Kg.trans2 KM).trans2 Kr;have KO:w3.ownsRow w.heap.size 261 4 u3 acc.length (pN acc):=sY (sY Ke KM Kf) Kr Kf;unfold vG;clear LK;go_wp2_with (at_builtin;refine nr _ rfl _ _ 259 rfl w.heap.size 261 i0 _ 4 40 underlying259 hi KJ KC Ky rfl ah _ _ _ rfl ((KO.alloc _).alloc _) ⟨w3.heap.size+1,0,none⟩ 1 1 [.bool true,.string y.name,.bool y.here,.int .i64 y.num] rfl rfl ?c1 ?c2 ?c3 ?c4 ?c5 ?_)
     case c1=>exact MaR
     case c2=>exact JR
     case c3=>unfold maxLen;omega
     case c4=>omega
     case c5=>have:=D.size;simp;omega
     intro v' M K4 K8 _;have U:=D.size;have KR:=S.o.le;have hB:=S.o.lt;have G:Below w.heap.size w3 M:=((jV.alloc U _).alloc ai _).grown K8 ai (uH KO);have OR:w.grownBy M (some A):=⟨G.os.trans D.os,G.tape.trans D.tape,G.output.trans D.output,j8 D.size G.size,fun k hk Kk=>(G.block k hk).trans (D.block k hk Kk)⟩
     have N7:M.ownsRow w.heap.size 261 4 v' (acc++[{y with minus:=true}]).length (pN (acc++[{y with minus:=true}])):=by
      rw[GN,kq];exact K4
     have hps:PS M B A b line l3:=S.o.kept (G.mono VG.o);have Sp:=hps.left;have VH:=oP Sp;clear K4 K8 Sp;go_wp2;go_roundw
     case rel=>exact⟨acc++[{y with minus:=true}],l3,Z,ae,ai,oP Ld.o,N7,hps,OR⟩
     case measure=>rw[VH.o,RC.o];simp;omega
   have HS:=oP (wQ wr B A b line t l2 ⟨#[45]⟩ I h1);by_cases h2:t.text=⟨#[43]⟩
   ·have Ox:=oP (vN wr B A b line t l2 ⟨#[43]⟩ I h2 ah);clear I;go_wp2_with fail;refine HS.o.mono ?_;rintro e w0 ⟨rfl,O⟩;rw[O];clear O w0;go_wp2_with fail;refine Ox.o.mono ?_;rintro e w2 ⟨rfl,MC,KM⟩;have Lh:=Dl w2 B A b line l2 MC (Lu.o.kept (Kg.trans2 KM) J.h1 J.h2 J.h3) J;cases ht:pZ l2 with
    |none=>
     have e:R=none:=by rw[<-NO.o,Ie h1 h2,ht];rfl
     exact MaT
    |some yl=>
     obtain⟨y,l3⟩:=yl;have e:qu Z (acc++[{y with minus:=false}]) l3=R:=by rw[<-NO.o,Ie h1 h2,ht];rfl
     have Ld:=oP e;have SU:=wa ht;rw[ht]at Lh;have X8:=oP Lh;clear Lh MC ht e;go_wp2_with fail;refine X8.o.mono ?_;rintro e w3 ⟨rfl,LK,Kr⟩;have S:=oP LK;have TX:=Kr.size;have D:=(Kg.trans2 KM).trans2 Kr;have KO:w3.ownsRow w.heap.size 261 4 u3 acc.length (pN acc):=sY (sY Ke KM Kf) Kr Kf;unfold vG;clear LK;go_wp2_with (at_builtin;refine nr _ rfl _ _ 259 rfl w.heap.size 261 i0 _ 4 40 underlying259 hi KJ KC Ky rfl ah _ _ _ rfl ((KO.alloc _).alloc _) ⟨w3.heap.size+1,0,none⟩ 1 1 [.bool false,.string y.name,.bool y.here,.int .i64 y.num] rfl rfl ?c1 ?c2 ?c3 ?c4 ?c5 ?_)
     case c1=>exact MaR
     case c2=>exact JR
     case c3=>unfold maxLen;omega
     case c4=>omega
     case c5=>have:=D.size;simp;omega
     intro v' M K4 K8 _;have U:=D.size;have KR:=S.o.le;have hB:=S.o.lt;have G:Below w.heap.size w3 M:=((jV.alloc U _).alloc ai _).grown K8 ai (uH KO);have OR:w.grownBy M (some A):=⟨G.os.trans D.os,G.tape.trans D.tape,G.output.trans D.output,j8 D.size G.size,fun k hk Kk=>(G.block k hk).trans (D.block k hk Kk)⟩
     have N7:M.ownsRow w.heap.size 261 4 v' (acc++[{y with minus:=false}]).length (pN (acc++[{y with minus:=false}])):=by
      rw[GN,kq];exact K4
     have hps:PS M B A b line l3:=S.o.kept (G.mono VG.o);have Sp:=hps.left;have VH:=oP Sp;clear K4 K8 Sp;go_wp2;go_roundw
     case rel=>exact⟨acc++[{y with minus:=false}],l3,Z,ae,ai,oP Ld.o,N7,hps,OR⟩
     case measure=>rw[VH.o,RC.o];simp;omega
   have Ox:=oP (wQ wr B A b line t l2 ⟨#[43]⟩ I h2);have e:R=some (acc,t::l2):=by rw[<-NO.o,Z03 h1 h2]
   have Ld:=oP e;have Vo6:=oP I;clear I e;go_wp2_with fail;refine HS.o.mono ?_;rintro e w0 ⟨rfl,O⟩;rw[O];clear O w0;go_wp2_with fail;refine Ox.o.mono ?_;rintro e w0 ⟨rfl,O⟩;rw[O];clear O w0;go_wp2_with fail;go_ret;rw[Ld.o];exact⟨_,rfl,Ke,Vo6.o,Kg⟩
def rv(n:Int):Trm:=⟨false,⟨#[]⟩,false,n⟩
theorem CM(k n:Int)(w:World) :
  Calls prog 279 #[.agg #[.int .i64 k,.int .i64 n]] w fun e w'=>∃v,e=.returned v/\w'.ownsRow w.heap.size 261 4 v 1 (pN [rv n])/\Below w.heap.size w w':=by
 go_enter func279,ntmps279;go_wp2_with fail;go_ret;have A:=oI (base:=w.heap.size) (e:=261) (size:=4) (w.alloc (.cells #[.int .i64 k,.int .i64 n] 324)) #[.bool false,.string ⟨#[]⟩,.bool false,.int .i64 n] 1 af ah rfl;refine⟨_,rfl,?_,(jV.alloc jU _).alloc af _⟩;rw[show (w.alloc (.cells #[.int .i64 k,.int .i64 n] 324)).heap.size=w.heap.size+1 by simp]at A;exact A
def ru(A:ByteArray)(l:List Tok):Option ((Nat×List Trm)×List Tok):=(pH A.data.toList).map fun x=>((x.1,[rv x.2]),l)
def pAt:List Tok->Option ((Nat×List Trm)×List Tok)
 |[]=>none
 |[_]=>none
 |t::u::l=>
  if t.kind=1 then
   (if u.text=⟨#[43]⟩ then
    (match l with
    |[]=>none
    | v::l3=>if v.kind=1 then ru ((⟨#[64]⟩++t.text)++(⟨#[43]⟩++v.text)) l3 else none)
   else ru (⟨#[64]⟩++t.text) (u::l))
  else none
def GY(w:World)(B A:Nat)(b:Bk)(line:Int)(o:Option ((Nat×List Trm)×List Tok))(e:Ending)(w':World):Prop:=
 match o with
 |some (x,l)=>∃v,e=.returned (.tuple #[.int .i64 x.1,v])/\w'.ownsRow w.heap.size 261 4 v x.2.length (pN x.2)/\PS w' B A b line l/\w.grownBy w' (some A)
 |none=>e=pj line/\w.grownBy w' (some A)
theorem Z9k{t u:Tok}{l:List Tok}(h:¬t.kind=1):pAt (t::u::l)=none:=by simp only[pAt];rw[jS h]
theorem Gt{t u:Tok}{l:List Tok}(h:t.kind=1)(h2:¬u.text=⟨#[43]⟩):pAt (t::u::l)=ru (⟨#[64]⟩++t.text) (u::l):=by simp only[pAt];rw[jT h,jS h2]
theorem Z78{t u v:Tok}{l:List Tok}(h:t.kind=1)(h2:u.text=⟨#[43]⟩)(h3:¬v.kind=1):pAt (t::u::v::l)=none:=by simp only[pAt];rw[jT h,jT h2,jS h3]
theorem Ei{t u v:Tok}{l:List Tok}(h:t.kind=1)(h2:u.text=⟨#[43]⟩)(h3:v.kind=1):pAt (t::u::v::l)=ru ((⟨#[64]⟩++t.text)++(⟨#[43]⟩++v.text)) l:=by simp only[pAt];rw[jT h,jT h2,jT h3]
theorem CC(t:ByteArray):((⟨#[64]⟩:ByteArray)++t).size=t.size+1:=by rw[lK];show 1+t.size=_;omega
theorem Ix(t:ByteArray):((⟨#[43]⟩:ByteArray)++t).size=t.size+1:=by rw[lK];show 1+t.size=_;omega
theorem Z3R(w:World)(B G:Nat)(b:Bk)(line:Int)(ts:List Tok)(h:PS w B G b line ts)(hb:BookAt w b)(J:Apart B G b)(Sm:∀t∈ts,t.text.size<=400000) :
  Calls prog 278 #[.pointer (some ⟨G,0,none⟩)] w (GY w B G b line (pAt ts)):=by
 obtain⟨t,l,rfl⟩:=h.ne;have Lu:=oP hb;have Kf:G<w.heap.size:=ke h.lt h.le;obtain⟨R,hR⟩:=Zg0 (pAt (t::l));rw[hR];have HR:=oP hR;clear hR;have KE:=Sm t af;by_cases hk:t.kind=1
 ·have hl:=CW h.last ae;obtain⟨u,l2,rfl⟩:∃u l2,l=u::l2:=Mcl;have V:=oP (vv w B G b line t (u::l2) h hk);have Vo7:=Sm u af;have WB3:∀w,(Op.stringOp .add ⟨#[64]⟩ t.text).run prog w=.ok (.string (⟨#[64]⟩++t.text)) w:=fun w=>mn w _ _ (by show 1+t.text.size<=_;omega)
  clear h hb;by_cases h2:u.text=⟨#[43]⟩
  ·go_enter func278,ntmps278;go_wp2_with fail;refine V.o.mono ?_;rintro e M ⟨rfl,K5,Z⟩;have HS:=oP (vN M B G b line u l2 ⟨#[43]⟩ K5 h2 ah);clear K5;go_wp2_with fail;refine HS.o.mono ?_;rintro e w2 ⟨rfl,O,KM⟩;obtain⟨v,l3,rfl⟩:=O.ne;have Vb:=Sm v af;by_cases h3:v.kind=1
   ·have QN:=oP (vv w2 B G b line v l3 O h3);have Wd0:∀w,(Op.stringOp .add ⟨#[43]⟩ v.text).run prog w=.ok (.string (⟨#[43]⟩++v.text)) w:=fun w=>mn w _ _ (by show 1+v.text.size<=_;omega)
    have WX7:∀w,(Op.stringOp .add (⟨#[64]⟩++t.text) (⟨#[43]⟩++v.text)).run prog w=.ok (.string ((⟨#[64]⟩++t.text)++(⟨#[43]⟩++v.text))) w:=fun w=>mn w _ _ (by rw[CC,Ix];omega)
    clear O;go_wp2_with fail;refine QN.o.mono ?_;rintro e S ⟨rfl,A,Kr⟩;have VI:=(Z.trans2 KM).trans2 Kr;have U:=Lu.o.kept VI J.h1 J.h2 J.h3;have D:=oP (zE S b (((⟨#[64]⟩:ByteArray)++t.text)++(⟨#[43]⟩++v.text)) U (by rw[lK,CC,Ix];omega));unfold bkV at D;have d0:=A.c0;have d1:=A.c1;have d2:=A.c2;have Wf0:=oP A;have RF:=A.le;clear A U;cases Nk:pH (((⟨#[64]⟩:ByteArray)++t.text)++(⟨#[43]⟩++v.text)).data.toList with
    |none=>
     have e:R=none:=fO;have Ld:=oP e;rw[Nk]at D;simp only[ui,fixV]at D;clear Nk e;go_wp2_with fail;refine D.o.mono ?_;rintro e I ⟨rfl,Ma⟩;have VJ:=Ma.size;go_wp2_with fail;refine(vB _ B G b line l3 ((Wf0.o.kept (Ma.mono RF)).kept (jV.alloc (j8 RF VJ) _))).mono ?_;exact MbC
    |some y=>
     obtain⟨k,n⟩:=y;have e:R=some ((k,[rv n]),l3):=fO;have Ld:=oP e;rw[Nk]at D;simp only[ui,fixV]at D;clear Nk e;go_wp2_with fail;refine D.o.mono ?_;rintro e I ⟨rfl,Ma⟩;have VJ:=Ma.size;go_wp2_with fail;go_region_with (go_at_call 279;refine(CM _ _ _).mono ?_;rintro e wy ⟨v,rfl,NP,Pn⟩;have m0:wy.cell? ⟨I.heap.size,0,none⟩=some (.int .i64 k):=(dE);have m1:wy.cell? ⟨I.heap.size,1,none⟩=some (.int .i64 n):=(dE))
     all_goals
      have QO:Below I.heap.size I wy:=((jV.alloc jU _).drew).trans (Pn.mono (B':=I.heap.size) af);have Mt:Below (S).heap.size (S) wy:=Ma.trans (QO.mono VJ);exact MaL
   have QN:=oP (zc w2 B G b line v l3 O h3);have e:R=none:=by rw[<-HR.o,Z78 hk h2 h3]
   have Ld:=oP e;clear O e;go_wp2_with fail;refine QN.o.mono ?_;rintro e S ⟨rfl,rfl⟩;unfold pj;go_wp2_with fail;rw[Ld.o];exact⟨rfl,rfl,Z.trans2 KM⟩
  go_enter func278,ntmps278;go_wp2_with fail;refine V.o.mono ?_;rintro e M ⟨rfl,A,Z⟩;have HS:=oP (wQ M B G b line u l2 ⟨#[43]⟩ A h2);have VI:=Z;have WD2:=oP A;clear A;go_wp2_with fail;refine HS.o.mono ?_;rintro e w2 ⟨rfl,PR⟩;rw[PR];clear PR w2;have A:=WD2.o;have U:=Lu.o.kept VI J.h1 J.h2 J.h3;have D:=oP (zE M b ((⟨#[64]⟩:ByteArray)++t.text) U (by rw[CC];omega));unfold bkV at D;have d0:=A.c0;have d1:=A.c1;have d2:=A.c2;have Wf0:=oP A;have RF:=A.le;clear A U;cases Nk:pH ((⟨#[64]⟩:ByteArray)++t.text).data.toList with
  |none=>
   have e:R=none:=fP;have Ld:=oP e;rw[Nk]at D;simp only[ui,fixV]at D;clear Nk e;go_wp2_with fail;refine D.o.mono ?_;rintro e I ⟨rfl,Ma⟩;have VJ:=Ma.size;go_wp2_with fail;refine(vB _ B G b line (u::l2) ((Wf0.o.kept (Ma.mono RF)).kept (jV.alloc (j8 RF VJ) _))).mono ?_;exact MbC
  |some y=>
   obtain⟨k,n⟩:=y;have e:R=some ((k,[rv n]),(u::l2)):=fP;have Ld:=oP e;rw[Nk]at D;simp only[ui,fixV]at D;clear Nk e;go_wp2_with fail;refine D.o.mono ?_;rintro e I ⟨rfl,Ma⟩;have VJ:=Ma.size;go_wp2_with fail;go_region_with (go_at_call 279;refine(CM _ _ _).mono ?_;rintro e wy ⟨v,rfl,NP,Pn⟩;have m0:wy.cell? ⟨I.heap.size,0,none⟩=some (.int .i64 k):=(dE);have m1:wy.cell? ⟨I.heap.size,1,none⟩=some (.int .i64 n):=(dE))
   all_goals
    have QO:Below I.heap.size I wy:=((jV.alloc jU _).drew).trans (Pn.mono (B':=I.heap.size) af);have Mt:Below (M).heap.size (M) wy:=Ma.trans (QO.mono VJ);exact MaL
 have V:=oP (zc w B G b line t l h hk)
 have e:R=none:=by
  rw[<-HR.o];cases l with
  |nil=>rfl
  |cons u l2=>exact Z9k hk
 rw[e];clear h hb;go_enter func278,ntmps278;go_wp2_with fail;refine V.o.mono ?_;rintro e S ⟨rfl,rfl⟩;unfold pj;go_wp2_with fail;exact⟨rfl,rfl,Cs _ _⟩
def pOp:List Tok->Option ((Nat×List Trm)×List Tok)
 |[]=>none
 |t::l=>
  if t.text=⟨#[35]⟩ then (pQ l).map fun x=>((9,x.1),x.2)
  else if t.text=⟨#[47]⟩ then (pQ l).map fun x=>((13,x.1),x.2)
  else if t.text=⟨#[64]⟩ then pAt l
  else match pH t.text.data.toList with
   |some y=>some ((y.1,[rv y.2]),l)
   |none=>(pQ (t::l)).map fun x=>((11,x.1),x.2)
theorem Z36:pH []=none:=ah
theorem Z1f{s:ByteArray}{y:Nat×Nat}(h:pH s.data.toList=some y):s.size≠0:=by
 intro h0;have:s.data.toList=[]:=mv.1 (by rw[kE];exact h0);rw[this,Z36]at h;cases h
structure QF(w wq:World)(B pb sb:Nat)(k n:Int):Prop where
 c0:wq.cell? ⟨sb,0,none⟩=some (.int .i64 k)
 c1:wq.cell? ⟨sb,1,none⟩=some (.int .i64 n)
 bel:Below B w wq
 gr:w.grownBy wq (some pb)
 lt:sb<wq.heap.size
 ne:pb<w.heap.size->sb≠pb
 ge:w.heap.size<=sb
theorem Z5W{w A:World}{B D:Nat}(k n:Int)(h:Below w.heap.size w.drew A)(G:B<=w.heap.size):QF w (A.alloc (.cells #[.int .i64 k,.int .i64 n] 324)) B D A.heap.size k n:=by
 have h0:Below w.heap.size w A:=(jV).drew.trans h;have h1:=h0.alloc h0.size (.cells #[.int .i64 k,.int .i64 n] 324);have hz:=h0.size;exact⟨af,af,h1.mono G,sR h1,af,fun _=>ae,hz⟩
theorem Z5V{w A:World}{B D:Nat}{o:Obj}(k n:Int)(h:Below (w.alloc o).drew.heap.size (w.alloc o).drew A)(G:B<=w.heap.size)(I:A.cell? ⟨w.heap.size,0,none⟩=some (.int .i64 0))(m1:A.cell? ⟨w.heap.size,1,none⟩=some (.int .i64 0)) :
  QF w ((A.setCell ⟨w.heap.size,0,none⟩ (.int .i64 k)).setCell ⟨w.heap.size,1,none⟩ (.int .i64 n)) B D w.heap.size k n:=by
 have h0:Below w.heap.size w A:=(jV.alloc jU _).drew.trans (h.mono af);have h1:=(h0.setCell (p:=⟨w.heap.size,0,none⟩) af (.int .i64 k)).setCell (p:=⟨w.heap.size,1,none⟩) af (.int .i64 n);have hz:w.heap.size+1<=A.heap.size:=eD;have J:A.heap.size<=((A.setCell ⟨w.heap.size,0,none⟩ (.int .i64 k)).setCell ⟨w.heap.size,1,none⟩ (.int .i64 n)).heap.size:=az;refine⟨?_,?_,h1.mono G,sR h1,ae,fun M=>ae,jU⟩
 ·rw[j3 af];exact kP _ I
 exact kP _ (by rw[j3 af];exact m1)
theorem Z2h{w A:World}(h:Below (w.alloc (.cells #[.int .i64 0,.int .i64 0] 324)).drew.heap.size (w.alloc (.cells #[.int .i64 0,.int .i64 0] 324)).drew A) :
  A.cell? ⟨w.heap.size,0,none⟩=some (.int .i64 0)/\A.cell? ⟨w.heap.size,1,none⟩=some (.int .i64 0)/\A.frozen? ⟨w.heap.size,0,none⟩=false/\A.frozen? ⟨w.heap.size,1,none⟩=false:=by
 refine⟨?_,?_,?_,?_⟩
 ·rw[h.cell af];simp
 ·rw[h.cell af];simp
 ·rw[h.frozen af];simp
 rw[h.frozen af];simp
theorem Eg{t:Tok}{l:List Tok}(h:t.text=⟨#[35]⟩):pOp (t::l)=(pQ l).map fun x=>((9,x.1),x.2):=by simp only[pOp];rw[jT h]
theorem G5{t:Tok}{l:List Tok}(h:¬t.text=⟨#[35]⟩)(h2:t.text=⟨#[47]⟩):pOp (t::l)=(pQ l).map fun x=>((13,x.1),x.2):=by simp only[pOp];rw[jS h,jT h2]
theorem Z7H{t:Tok}{l:List Tok}(h:¬t.text=⟨#[35]⟩)(h2:¬t.text=⟨#[47]⟩)(h3:t.text=⟨#[64]⟩):pOp (t::l)=pAt l:=by simp only[pOp];rw[jS h,jS h2,jT h3]
theorem Z8j{t:Tok}{l:List Tok}{y:Nat×Nat}(h:¬t.text=⟨#[35]⟩)(h2:¬t.text=⟨#[47]⟩)(h3:¬t.text=⟨#[64]⟩)(h4:pH t.text.data.toList=some y):pOp (t::l)=some ((y.1,[rv y.2]),l):=fQ
theorem Z2d{t:Tok}{l:List Tok}(h:¬t.text=⟨#[35]⟩)(h2:¬t.text=⟨#[47]⟩)(h3:¬t.text=⟨#[64]⟩)(h4:pH t.text.data.toList=none):pOp (t::l)=(pQ (t::l)).map fun x=>((11,x.1),x.2):=fQ
theorem Z3Q(w:World)(B A:Nat)(b:Bk)(line:Int)(ts:List Tok)(h:PS w B A b line ts)(M:BookAt w b)(G:Apart B A b)(Sm:∀t∈ts,t.text.size<=400000)(hn:ts.length<=1000000) :
  Calls prog 248 #[.pointer (some ⟨A,0,none⟩)] w (GY w B A b line (pOp ts)):=by
 obtain⟨t,l,rfl⟩:=h.ne;have Lu:=oP M;have Kf:A<w.heap.size:=ke h.lt h.le;obtain⟨R,hR⟩:=Zg0 (pOp (t::l));rw[hR];have J:=oP hR;clear hR;have KE:=Sm t af;have OO:l.length<=1000000:=cH;by_cases h1:t.text=⟨#[35]⟩
 ·have HS:=oP (vN w B A b line t l ⟨#[35]⟩ h h1 ah);clear h M;go_enter func248,ntmps248;go_wp2_with fail;refine HS.o.mono ?_;rintro e w2 ⟨rfl,Re,MV⟩;have MW:=zW w2 B A b line l Re (Lu.o.kept MV G.h1 G.h2 G.h3) G (by exact OO);cases hx:pQ l with
  |none=>
   have e:R=none:=by rw[<-J.o,Eg h1,hx];rfl
   exact MaY
  |some y=>
   obtain⟨x,Z⟩:=y;have e:R=some ((9,x),Z):=by rw[<-J.o,Eg h1,hx];rfl
   exact MaB
 have VK:=oP (wQ w B A b line t l ⟨#[35]⟩ h h1);by_cases h2:t.text=⟨#[47]⟩
 ·have HS:=oP (vN w B A b line t l ⟨#[47]⟩ h h2 ah);clear h M;go_enter func248,ntmps248;go_wp2_with fail;refine VK.o.mono ?_;rintro e I ⟨rfl,D⟩;rw[D];clear D I;go_wp2_with fail;refine HS.o.mono ?_;rintro e w2 ⟨rfl,Re,MV⟩;have MW:=zW w2 B A b line l Re (Lu.o.kept MV G.h1 G.h2 G.h3) G (by exact OO);cases hx:pQ l with
  |none=>
   have e:R=none:=by rw[<-J.o,G5 h1 h2,hx];rfl
   exact MaY
  |some y=>
   obtain⟨x,Z⟩:=y;have e:R=some ((13,x),Z):=by rw[<-J.o,G5 h1 h2,hx];rfl
   exact MaB
 have X9:=oP (wQ w B A b line t l ⟨#[47]⟩ h h2);by_cases h3:t.text=⟨#[64]⟩
 ·have HS:=oP (vN w B A b line t l ⟨#[64]⟩ h h3 ah);clear h M;go_enter func248,ntmps248;go_wp2_with fail;refine VK.o.mono ?_;rintro e I ⟨rfl,D⟩;rw[D];clear D I;go_wp2_with fail;refine X9.o.mono ?_;rintro e I ⟨rfl,D⟩;rw[D];clear D I;go_wp2_with fail;refine HS.o.mono ?_;rintro e w2 ⟨rfl,Re,MV⟩;have O:=Z3R w2 B A b line l Re (Lu.o.kept MV G.h1 G.h2 G.h3) G (fun x hx=>Sm x (mo _ hx));have e:pAt l=R:=by rw[<-J.o,Z7H h1 h2 h3]
  rw[e]at O;clear Re e;cases ZP:R with
  |none=>
   have S:=oP ZP;rw[ZP]at O;clear ZP;have HX:=oP O;clear O;go_wp2_with fail;refine HX.o.mono ?_;rintro e w3 ⟨rfl,Kr⟩;unfold pj;go_wp2_with fail;rw[S.o];exact⟨rfl,rfl,MV.trans2 Kr⟩
  |some y=>
   obtain⟨⟨k,x⟩,Z⟩:=y;have S:=oP ZP;rw[ZP]at O;clear ZP;have HX:=oP O;clear O;go_wp2_with fail;refine HX.o.mono ?_;rintro e w3 ⟨v,rfl,KO,LK,Kr⟩;have H3:=oP (And.intro (pC KO MV.size) (And.intro LK (MV.trans2 Kr)));clear KO LK Kr;go_wp2_with fail;go_ret2;rw[S.o];exact⟨_,rfl,H3.o.1,H3.o.2.1,H3.o.2.2⟩
 have Wf2:=oP (wQ w B A b line t l ⟨#[64]⟩ h h3);obtain⟨g,off,Kd,k1,k2,WX6,k3,k4,WD1⟩:=h.tk;have k5:g<w.heap.size:=ke WD1 h.le;have t1:=k3.2.1;have hp:(0:Int)<(l.length:Int)+1:=ae;have c0:=h.c0;have c1:=h.c1;have c2:=h.c2;have KR:=h.le;have WS:=oP h
 obtain⟨k,n,z,Mu,KC,Ky⟩:∃(k n:Nat) (z:Bool),ui (pH t.text.data.toList)=.tuple #[.agg #[.int .i64 k,.int .i64 n],.bool z]/\(z=true->pH t.text.data.toList=some (k,n))/\(z=false->pH t.text.data.toList=none):=by
  cases U:pH t.text.data.toList with
  |none=>exact⟨0,0,false,rfl,(fun h=>by cases h),fun _=>rfl⟩
  |some y=>exact⟨y.1,y.2,true,rfl,fun _=>rfl,fun h=>by cases h⟩
 have Vc:=zE w.drew b t.text (M.below jV.drew) ae;have PK:=(zE (w.alloc (.cells #[.int .i64 0,.int .i64 0] 324)).drew b t.text (M.below (jV.alloc jU _).drew) ae).mono (fun e w' hh=>And.intro hh.1 (And.intro hh.2 (Z2h hh.2)));unfold bkV at Vc PK;rw[Mu]at Vc PK;have Vo8:=oP Vc;have Pv:=oP PK;have Wf3:=oP KC;have Wf4:=oP Ky;have WT:=h.last;have Wf5:=oP WT;clear h M Vc PK KC Ky Mu WT;go_enter func248,ntmps248;go_wp2_with fail;refine VK.o.mono ?_;rintro e I ⟨rfl,D⟩;rw[D];clear D I;go_wp2_with fail;refine X9.o.mono ?_;rintro e I ⟨rfl,D⟩;rw[D];clear D I;go_wp2_with fail;refine Wf2.o.mono ?_;rintro e I ⟨rfl,D⟩;rw[D];clear D I;go_wp2_with fail;go_cut [4,5] (fun s4 s5 wx=>∃sb,s4=.pointer (some ⟨sb,0,none⟩)/\s5=.bool z/\QF w wx B A sb k n)
 case first=>
  clear VK X9 Wf2 Lu J WS Wf3 Wf4 Wf5;go_region_with (first| (go_at_call 251;refine Vo8.o.mono ?_;rintro e wx ⟨rfl,Ma⟩)|(go_at_call 251;refine Pv.o.mono ?_;rintro e wx ⟨rfl,Ma,m0,m1,m2,m3⟩))
  all_goals
   go_wp2_with fail;go_meet
   first
    |exact⟨_,rfl,rfl,Z5W (k:Int) (n:Int) Ma KR⟩
    |exact⟨_,rfl,rfl,Z5V (k:Int) (n:Int) Ma KR m0 m1⟩
 case rest=>
 obtain⟨sb,rfl,rfl,hQ⟩:=hcut;have Q:=oP hQ;have Kk:sb≠A:=hQ.ne Kf;clear hQ;cases z with
 |true=>
  have U:=Wf3.o rfl;have e:R=some ((k,[rv n]),l):=by rw[<-J.o,Z8j h1 h2 h3 U]
  have Ld:=oP e;have MT:=oP (By wc B A b line t l (WS.o.kept Q.o.bel) (EP Wf5.o (Z1f U)));unfold yK at MT;clear U e;go_wp2_with fail;refine MT.o.mono ?_;rintro e V ⟨rfl,PT,Qt⟩;have n0:V.cell? ⟨sb,0,none⟩=some (.int .i64 k):=by rw[th Qt _ Q.o.lt ay];exact Q.o.c0
  have n1:V.cell? ⟨sb,1,none⟩=some (.int .i64 n):=by rw[th Qt _ Q.o.lt ay];exact Q.o.c1
  have RG:=Q.o.gr.trans2 Qt;have TO:sb<V.heap.size:=ke Q.o.lt Qt.size;have H4:=oP PT;clear PT Q;go_wp2_with fail;go_region_with (go_at_call 279;refine(CM _ _ _).mono ?_;rintro e wy ⟨v,rfl,NP,Pn⟩;have o0:wy.cell? ⟨sb,0,none⟩=some (.int .i64 k):=(by rw[Pn.cell (by simpa using TO)];exact n0);have o1:wy.cell? ⟨sb,1,none⟩=some (.int .i64 n):=(by rw[Pn.cell (by simpa using TO)];exact n1))
  all_goals
   have QO:Below V.heap.size V wy:=(jV.drew).trans (Pn.mono (B':=V.heap.size) af);have NQ:=pC NP (base':=V.heap.size) af;have HZ:=oP (And.intro NQ QO);clear NP Pn QO NQ;go_wp2_with fail;go_ret2;rw[Ld.o];exact⟨_,rfl,pC HZ.o.1 RG.size,H4.o.kept (HZ.o.2.mono H4.o.le),RG.trans2 (sR HZ.o.2)⟩
 |false=>
  have U:=Wf4.o rfl;have e:R=(pQ (t::l)).map fun x=>((11,x.1),x.2):=by rw[<-J.o,Z2d h1 h2 h3 U]
  have Wf6:=oP e;have Re:=WS.o.kept Q.o.bel;have MV:=Q.o.gr;clear Q U e;have MW:=zW wc B A b line (t::l) Re (Lu.o.kept MV G.h1 G.h2 G.h3) G (by exact hn);cases hx:pQ (t::l) with
  |none=>
   have e:R=none:=by rw[Wf6.o,hx];rfl
   exact MaY
  |some y=>
   obtain⟨x,Z⟩:=y;have e:R=some ((11,x),Z):=by rw[Wf6.o,hx];rfl
   exact MaB
