import Derived.Test.YthokdbcpkmcieaaGreatDoorH48
import Derived.Deep.DeepHandedRow
import Derived.Deep.Slices
set_option maxRecDepth 200000
set_option maxHeartbeats 16000000
namespace Go.Proofs.YthokdbcpkmcieaaGreatDoor
open ChangeShapes ChangeMaps WideShapes ChangeAt RowKit WideElems Deep Proofs.Tryz
theorem Tryz.ownAs:ownKnob Tryz.prog.godebug=none:=aj
theorem Tryz.laidOutAs:laidOutB Tryz.prog=true:=aj
theorem Z2W(W:World)(h:W.ShapedOpen prog):∃m,W.cell? ⟨0,0,none⟩=some (.int .i64 m):=laysM145.s1_3 W h
theorem Z4X{z:Int}(h:(Lit.int .u8 z).wf=true):0<=z/\z<=255:=by simpa [Lit.wf,IntKind.min,IntKind.max,IntKind.signed,IntKind.bits]using h
theorem B3{H:Type}(D:Nat->DataW H):∀l:List Nat,(∀i∈l,1<=Rows.uptoBulk (D i))->l.length<=Rows.uptoBulkAll (l.map D)
 |[],_=>jU
 |i::l,h=>by
  have h1:=h i af
  have h2:=B3 D l (fun j A=>h j (by simp[A]))
  simp only[kZ,Rows.uptoBulkAll,kh]
  omega
theorem G9{H:Type}:∀(l:List (DataW H)) (d:DataW H),d∈l->Rows.uptoBulk d<=Rows.uptoBulkAll l
 |[],_,h=>by cases h
 |x::l,d,h=>by
  simp only[Rows.uptoBulkAll]
  rcases kF.1 h with rfl|h
  ·omega
  have:=G9 l d h
  omega
theorem At{H α:Type}[Inhabited α]{enc:TypeId×Value->H}{W:World}{t e:TypeId}{fuel:Nat}{v:Value}{x:DataW H×List MemPlace}(F:α->Value)(ht:prog.underlying t=some (.slice e))(hc:prog.cellsOf e=1)(h:DataW.trod enc prog W 0 (fun _=>true) true fuel t [v]=some x)
  (I:∀n u D J,DataW.trod enc prog W 0 (fun _=>true) true n e [u]=some (D,J)->(∃y,u=F y)/\1<=Rows.uptoBulk D):∃l:List α,SlV W v (l.map F)/\l.length<=Rows.uptoBulk x.1:=by
 rcases open_slice1 ht hc h with⟨A,hx⟩|⟨a,len,Kd,mm,n,V,D,J,A,_,R,S,M,hx,G⟩
 ·simp only[nT,mX]at A;subst A;exact⟨[],⟨none,0,rfl,jU,ae,fun e=>absurd e (Nat.lt_irrefl _)⟩,j4⟩
 simp only[nT,mX]at A;subst A;simp only[mC]at M;subst M hx;have U:∀i,i<len->∃y,V i=F y:=fun i hi=>(I _ _ _ _ (G i ae).2).1
 obtain⟨X,Z⟩:=choose_lt (α:=α) (p:=fun i y=>V i=F y) U;have Lt:=B3 D (List.range len) (fun i hi=>(I _ _ _ _ (G i (by have q:i<len:=(by simpa using hi);omega)).2).2);rw[mA]at Lt;refine⟨(List.range len).map X,⟨some a,mm,af,ai,by unfold maxLen at S;omega,fun hl=>?_⟩,by simp only[Rows.uptoBulk,kL,mA];omega⟩;simp only[kL,mA]at hl;obtain⟨b,off,ZE⟩:=a;have c0:=(G 0 ae).1;have U2:ZE=none:=by simpa [Addr.add]using World.cell?_spot c0
 subst U2;refine⟨b,off,rfl,by have:=lD _ c0;simpa [Addr.add]using this,fun i hi=>?_⟩;simp only[kL,mA]at hi;have O:=(G i ae).1;rw[k9]at O;rw[O,Z i hi];simp
theorem CN{α:Type}{l:List α}(h:l.length=3):∃a b c,l=[a,b,c]:=by
 match l,h with
 |[a,b,c],_=>exact⟨a,b,c,rfl⟩
theorem Z2s{H:Type}{enc:TypeId×Value->H}{W:World}{n:Nat}{c0 c1 c2:Value}{x:DataW H×List MemPlace}(h:DataW.trod enc prog W 0 (fun _=>true) true n 35 [c0,c1,c2]=some x)(R:Rows.uptoBulk x.1<=1048576) :
  ∃im,HImgAt W c0 c1 c2 im/\xf im:=by
 obtain⟨xs,M,_,hx,_,S,A⟩:=DataW.trod_struct underlying35 h;obtain⟨U,V,Z,rfl⟩:=CN S;subst hx;simp only[kZ,mZ,Rows.uptoBulk,Rows.uptoBulkAll]at R
 have hB:∀n u D G,DataW.trod enc prog W 0 (fun _=>true) true n 5 [u]=some (D,G)->(∃y:UInt8,u=.int .u8 (y.toNat:Int))/\1<=Rows.uptoBulk D:=fun n u D G hh=>by
  obtain⟨z,I,J,wz⟩:=DataW.trod_int underlying5 hh;simp only[nT,mX]at I;simp only[mH]at J;obtain⟨rfl,_⟩:=J;have hz:=Z4X wz;refine⟨⟨UInt8.ofNat z.toNat,?_⟩,jU⟩;rw[I,nA];congr 1;omega
 have O:∀n u D G,DataW.trod enc prog W 0 (fun _=>true) true n 4 [u]=some (D,G)->(∃y:Bool,u=.bool y)/\1<=Rows.uptoBulk D:=fun n u D G hh=>by
  obtain⟨z,I,J⟩:=DataW.trod_bool underlying4 hh;simp only[nT,mX]at I;simp only[mH]at J;obtain⟨rfl,_⟩:=J;exact⟨⟨z,I⟩,jU⟩
 obtain⟨l0,s0,m0⟩:=At (fun b:UInt8=>.int .u8 (b.toNat:Int)) underlying32 aj (show DataW.trod enc prog W 0 (fun _=>true) true M 32 [c0]=some U from A 0 _ rfl) hB;obtain⟨l1,s1,m1⟩:=At Value.bool underlying33 aj (show DataW.trod enc prog W 0 (fun _=>true) true M 33 [c1]=some V from A 1 _ rfl) O;obtain⟨l2,s2,m2⟩:=At Value.bool underlying33 aj (show DataW.trod enc prog W 0 (fun _=>true) true M 33 [c2]=some Z from A 2 _ rfl) O;exact⟨⟨l0,l1,l2⟩,⟨s0,s1,s2⟩,aH,aH,aH⟩
theorem ID{H:Type}(d:DataW H):1<=Rows.uptoBulk d:=by
 cases d with
 |lit l=>cases l <;> simp only[Rows.uptoBulk] <;> omega
 |_=>simp only[Rows.uptoBulk] <;> omega
theorem Z5O{H:Type}{enc:TypeId×Value->H}{W:World}{base:Nat}{v:Value}{d:DataW H}{p:List MemPlace}(V:Value.okWide prog W .any base 23 v)(h:∃fuel,DataW.trod enc prog W 0 (fun _=>true) true fuel 23 v.cells.toList=some (d,p))(Z:Rows.uptoBulk d<=1048576) :
  ∃a n c,v=.slice a n c/\ImsAt W a n/\n<=Rows.uptoBulk d:=by
 obtain⟨ca,cn,cc,rfl⟩:=okWide_slice underlying23 V;obtain⟨fuel,hf⟩:=h;rcases open_slice underlying23 hf with⟨A,hx⟩|⟨a,len,Kd,mm,n,D,Pl,A,_,VI3,Uc,MM,hx,R⟩
 ·simp[Value.cells]at A;obtain⟨rfl,rfl,rfl⟩:=A;exact⟨none,0,0,rfl,fun i hi=>absurd hi (lH _),j4⟩
 simp[Value.cells]at A;obtain⟨rfl,rfl,rfl⟩:=A;simp only[mC]at MM;simp only[mH]at hx;obtain⟨rfl,_⟩:=hx;have S:prog.cellsOf 35=3:=aj;have Lt:=B3 D (List.range cn) (fun i _=>ID (D i));simp only[Rows.uptoBulk]at Z⊢;rw[mA]at Lt;refine⟨some a,cn,cc,rfl,fun i hi=>?_,ae⟩;obtain⟨Ws8,g1,_⟩:=R 0 ae;rw[S]at g1;obtain⟨_,G,I⟩:=World.cells?_some g1;obtain⟨q0,q1,q2,rfl⟩:=CN G;obtain⟨b,off,ZE⟩:=a;have U:W.cell? _=some q0:=I 0 ae;have U2:ZE=none:=by simpa [Addr.add]using World.cell?_spot U
 subst U2;have Ls:b<W.heap.size:=by have:=lD _ U;simpa [Addr.add]using this
 obtain⟨VR2,h1,h2⟩:=R i ae;rw[S,k9]at h1;obtain⟨_,SU,J⟩:=World.cells?_some h1;obtain⟨c0,c1,c2,rfl⟩:=CN SU
 have M:Rows.uptoBulk (D i)<=1048576:=by
  have:=G9 ((List.range cn).map D) (D i) (lf.2 ⟨i,by simpa using hi,rfl⟩);omega
 obtain⟨im,hI,O⟩:=Z2s h2 M;refine⟨b,off,c0,c1,c2,im,rfl,Ls,?_,?_,?_,hI,O⟩
 ·have:=J 0 ae;simpa [Addr.add]using this
 ·have:=J 1 ae;simpa [Addr.add]using this
 have:=J 2 ae;simpa [Addr.add]using this
theorem Z7a{H:Type}{enc:TypeId×Value->H}{W:World}{base:Nat}{v:Value}{d:DataW H}{p:List MemPlace}(I:Value.okWide prog W .any base 22 v)(h:∃fuel,DataW.trod enc prog W 0 (fun _=>true) true fuel 22 v.cells.toList=some (d,p)) :
  ∃a n c,v=.slice a n c/\TxAt W a n/\n<=Rows.uptoBulk d:=by
 obtain⟨J,cn,M,rfl⟩:=okWide_slice underlying22 I;obtain⟨fuel,hf⟩:=h
 have O:∀n u D A,DataW.trod enc prog W 0 (fun _=>true) true n 9 [u]=some (D,A)->(∃y:ByteArray,u=.string y)/\1<=Rows.uptoBulk D:=fun n u D A hh=>by
  obtain⟨s,G,V,_⟩:=DataW.trod_string underlying9 hh;simp only[nT,mX]at G;exact⟨⟨s,G⟩,ID D⟩
 have R:DataW.trod enc prog W 0 (fun _=>true) true fuel 22 [.slice J cn M]=some (d,p):=hf;obtain⟨l,S,hn⟩:=At Value.string underlying22 aj R O;obtain⟨a,Z,e,_,_,U⟩:=S.is;simp only[mw,kL]at e;obtain⟨rfl,rfl,rfl⟩:=e;refine⟨_,_,_,rfl,fun i hi=>?_,hn⟩;obtain⟨b,off,h1,h2,h3⟩:=U (by rw[kL];omega);exact⟨b,off,l[i],h1,h2,by rw[h3 i (by rw[kL];exact hi)];simp⟩
theorem Z7k(H:Type)(enc:TypeId×Value->H)(W:World)(base:Nat)(args:Array Value)(D M:List (DataW H))(Sg:List MemPlace)
  (G:∀(j:Nat) t v,Tryz.f3.params[j]?=some t->args[j]?=some v->Value.okWide prog W .any base t v)
  (O:DataW.Whole enc prog Tryz.f3.params.toList Rows.assemblesSpec.vars false W args.toList D M Sg) (hk:Rows.uptoSmall H (D++M)=true) (Tp:W.ShapedOpen prog) :
  Calls prog 3 args W fun e R=>∃v,e=.returned v/\Rows.assemblesSpec.post enc prog Tryz.f3 false true false false W args v R:=by
 obtain⟨mm,hm⟩:=Z2W W Tp;have A:=O;obtain⟨p,q,S,hV,rfl,Wu7,XB⟩:=O;have U:DataW.TrodAll enc prog W 0 (fun _=>true) true Tryz.f3.params.toList args.toList D p:=S;rw[params3]at U G;obtain⟨v0,V,d0,d1,p0,Z,Vm1,rfl,rfl,h0,h1⟩:=trodAll_two U;obtain rfl:args=#[v0,V]:=by cases args;simp_all
 obtain⟨rfl,rfl⟩:=trodVars_none hV;clear S;simp only[kX]at A;have Kf:∀x∈p0++Z,x.block<W.heap.size:=fun x hx=>by simpa using A.lt x hx
 have I:Rows.uptoBulkAll ([d0,d1]++[])<=1048576:=mQ hk;simp only[kX,Rows.uptoBulkAll]at I;obtain⟨a0,n0,c0,rfl,t0,u0⟩:=Z7a (G 0 22 v0 rfl rfl) h0;obtain⟨a1,n1,c1,rfl,t1,u1⟩:=Z5O (G 1 23 V rfl rfl) h1 ae;refine(Z2P a0 n0 c0 a1 n1 c1 W t0 t1 ae mm hm).mono fun e R ⟨he,J⟩=>?_
 subst he;refine⟨_,rfl,_,_,_,[],p0++Z,[],A,?_,?_,rfl,J.frame _,fun h=>by cases h⟩
 ·exact trodAll_mk1 (shut_bool underlying4 _)
 exact trodAll_mk2 (Below.trod Tryz.laidOutAs aj (mQ aj) h0 J (fun x hx=>Kf x (List.mem_append_left _ hx))) (Below.trod Tryz.laidOutAs aj (mQ aj) h1 J (fun x hx=>Kf x (List.mem_append_right _ hx)))
