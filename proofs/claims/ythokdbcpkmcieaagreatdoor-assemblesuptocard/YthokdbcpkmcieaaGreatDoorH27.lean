import Derived.Test.YthokdbcpkmcieaaGreatDoorH26
set_option maxRecDepth 200000
set_option maxHeartbeats 16000000
namespace Go.Proofs.YthokdbcpkmcieaaGreatDoor
open RowKit Proofs.Tryz
structure OpR(w:World)(ob:Nat)(va:Option Addr)(os:List ROp):Prop where
 row:∀k,k<os.length->va=some ⟨ob,0,none⟩/\w.cell? ⟨ob,k*4,none⟩=some (.string (os.getD k op0).fixed)/\w.cell? ⟨ob,k*4+1,none⟩=some (.int .i64 ((os.getD k op0).number:Int))/\w.cell? ⟨ob,k*4+2,none⟩=some (.int .u8 ((os.getD k op0).sign.toNat:Int))/\∃xa xc,w.cell? ⟨ob,k*4+3,none⟩=some (.slice xa (os.getD k op0).e.length xc)
 le:os.length<=4000
theorem OpR.below{w w':World}{A:Nat}{I:Option Addr}{os:List ROp}(h:OpR w A I os)(D:Below w.heap.size w w'):OpR w' A I os:=by
 refine⟨fun k hk=>?_,h.le⟩;obtain⟨a,b,c,d,J,xc,e⟩:=h.row k hk;have G:=lD _ b;exact⟨a,(D.cell G).trans b,(D.cell (p:=⟨A,k*4+1,none⟩) G).trans c,(D.cell (p:=⟨A,k*4+2,none⟩) G).trans d,J,xc,(D.cell (p:=⟨A,k*4+3,none⟩) G).trans e⟩
def EntsIn(w:World)(cs:List Value)(l:List Ent):Prop:=cs.length=l.length*4/\∀k,k<l.length->∃v,cs[k*4]?=some (.int .i64 ((l.getD k ent0).1:Int))/\cs[k*4+1]?=some (.int .i64 ((l.getD k ent0).2.1:Int))/\cs[k*4+2]?=some (.string ⟨(l.getD k ent0).2.2.1.toArray⟩)/\cs[k*4+3]?=some v/\OpsIn w v (l.getD k ent0).2.2.2
theorem EntsIn.later{w w':World}{cs:List Value}{l:List Ent}(h:EntsIn w cs l)(A:Below w.heap.size w w'):EntsIn w' cs l:=⟨h.1,fun k hk=>by
 obtain⟨v,a,b,c,d,e⟩:=h.2 k hk
 exact⟨v,a,b,c,d,e.later A⟩⟩
theorem EntsIn.append{w:World}{a b:List Value}{l m:List Ent}(h:EntsIn w a l)(g:EntsIn w b m):EntsIn w (a++b) (l++m):=by
 refine⟨by rw[kq,kq,h.1,g.1,Nat.add_mul],fun k hk=>?_⟩;by_cases M:k<l.length
 ·obtain⟨v,A,D,G,I,J⟩:=h.2 k M;have e:(l++m).getD k ent0=l.getD k ent0:=by simp[List.getD_eq_getElem?_getD,List.getElem?_append_left M]
  have O:=h.1;rw[e];exact⟨v,by rw[lz ae];exact A,by rw[lz ae];exact D,by rw[lz ae];exact G,by rw[lz ae];exact I,J⟩
 obtain⟨j,rfl⟩:∃j,k=l.length+j:=⟨k-l.length,ae⟩;obtain⟨v,A,D,G,I,J⟩:=g.2 j cM;have e:(l++m).getD (l.length+j) ent0=m.getD j ent0:=by simp[List.getD_eq_getElem?_getD,List.getElem?_append_right]
 have O:=h.1;rw[e];refine⟨v,?_,?_,?_,?_,J⟩
 ·rw[lr ae,show (l.length+j)*4-a.length=j*4 by omega];exact A
 ·rw[lr ae,show (l.length+j)*4+1-a.length=j*4+1 by omega];exact D
 ·rw[lr ae,show (l.length+j)*4+2-a.length=j*4+2 by omega];exact G
 rw[lr ae,show (l.length+j)*4+3-a.length=j*4+3 by omega];exact I
theorem yy:∀(l:List Ent) (w:World),(pT w l).length=l.length*4
 |[],_=>rfl
 |(_,_,_,[])::r,w=>by simp[pT,yy r w];omega
 |(_,_,_,o::os)::r,w=>by
  have:=yy r (w.alloc (.cells ((o::os).map fun x=>Value.string ⟨x.toArray⟩).toArray 9))
  simp only[pT,kh]
  rw[this]
  omega
theorem Dw:∀(l:List Ent) (w:World),∀u∈pT w l,u.oneCell'=true
 |[],_,u,h=>by simp[pT]at h
 |(_,_,_,[])::r,w,u,h=>by
  simp only[pT,kF]at h
  rcases h with rfl|rfl|rfl|rfl|h
  ·rfl
  ·rfl
  ·rfl
  ·rfl
  exact Dw r w u h
 |(_,_,_,o::os)::r,w,u,h=>by
  simp only[pT,kF]at h
  rcases h with rfl|rfl|rfl|rfl|h
  ·rfl
  ·rfl
  ·rfl
  ·rfl
  exact Dw r _ u h
theorem EI(w:World)(l:List Ent):EntsIn (sw w l) (pT w l) l:=⟨yy l w,fun k hk=>by
 obtain⟨v,a,b,c,d,e⟩:=Bt l w k hk
 rw[nj k 4]
 exact⟨v,a,b,c,d,e⟩⟩
theorem E9(w:World)(l:List Ent)(n:Nat)(hn:l.length=n)(A:n<=200):((sw w l).alloc (.cells (pT w l).toArray 89)).ownsRow w.heap.size 89 4 (.slice (some ⟨(sw w l).heap.size,0,none⟩) n n) n (pT w l):=
 ⟨by rw[yy,hn],.inr ⟨_,n,_,rfl,(ug l w).size,kg _ _,jU,ak,by rw[lJ,yy,hn],by rw[<-hn,<- yy l w];simp⟩⟩
theorem Z4x(w:World):Calls prog 131 #[] w fun e w'=>∃b cs,e=.returned (.slice (some ⟨b,0,none⟩) 109 109)/\w'.ownsRow w.heap.size 89 4 (.slice (some ⟨b,0,none⟩) 109 109) 109 cs/\EntsIn w' cs pa/\Below w.heap.size w w':=by
 refine(Fh w).mono ?_;rintro e w' ⟨rfl,rfl⟩;exact⟨_,_,rfl,E9 w pa 109 aq ae,(EI w pa).later (jV.alloc jU _),(ug _ _).alloc (ug _ _).size _⟩
theorem Z7r(w:World):Calls prog 133 #[] w fun e w'=>∃b cs,e=.returned (.slice (some ⟨b,0,none⟩) 2 2)/\w'.ownsRow w.heap.size 89 4 (.slice (some ⟨b,0,none⟩) 2 2) 2 cs/\EntsIn w' cs sM/\(∀u∈cs,u.oneCell'=true)/\Below w.heap.size w w':=by
 refine(Ii w).mono ?_;rintro e w' ⟨rfl,rfl⟩;exact⟨_,_,rfl,E9 w sM 2 aq ae,(EI w sM).later (jV.alloc jU _),Dw _ _,(ug _ _).alloc (ug _ _).size _⟩
theorem Z2n{w:World}{base g A n:Nat}{cs:List Value}{l:List Ent}(h:w.ownsRow base 89 4 (.slice (some ⟨g,0,none⟩) n A) n cs)(he:EntsIn w cs l):TabIn w g l:=by
 have hc:=h.cells (g:=g) rfl;intro k hk;obtain⟨v,a,b,c,d,e⟩:=he.2 k hk;have f:∀j u,cs[j]?=some u->w.cell? ⟨g,j,none⟩=some u:=fun j u D=>by have:=hc j u D;rwa [k9,kN]at this
 exact⟨v,f _ _ a,f _ _ b,f _ _ c,f _ _ d,e⟩
theorem Tryz.infoEnt:(Tryz.prog.info? 89).map (fun i=>(i.zero,i.size,i.bytes))=some (some (.agg #[.int .i64 0,.int .i64 0,.string ⟨#[]⟩,.slice none 0 0]),4,56):=aj
theorem Z1E(k:Nat):(allEnts.getD k ent0).2.2.1.length<=8/\(allEnts.getD k ent0).2.2.2.length<=3:=by
 have A:allEnts.all (fun e=>decide (e.2.2.1.length<=8)&&decide (e.2.2.2.length<=3))=true:=aq;rw[jZ];cases h:allEnts[k]? with
 |none=>exact⟨j4,j4⟩
 |some e=>
  have:=kx.1 A e (lT h);simpa using this
theorem BJ:allEnts.length=111:=aq
theorem Z6G{nm:List UInt8}{os:List ROp}{k:Nat}(hk:k<111)(G:∀j,j<k->rU nm os (allEnts.getD j ent0)=false)(h:rU nm os (allEnts.getD k ent0)=true):qD nm os=some (allEnts.getD k ent0):=by
 unfold qD;have D:k<allEnts.length:=by rw[BJ];exact hk
 have e:∀j,j<111->∀A:j<allEnts.length,allEnts.getD j ent0=allEnts[j]:=fun j _ A=>by rw[jZ,jX A];rfl
 rw[e k hk D]at h⊢;rw[T0W];refine⟨h,k,D,rfl,fun j A=>?_⟩;have:=G j A;rw[e j ae ae]at this;simp[this]
theorem Z1v{nm:List UInt8}{os:List ROp}(D:∀j,j<111->rU nm os (allEnts.getD j ent0)=false):qD nm os=none:=by
 unfold qD;rw[nU];intro x hx;obtain⟨j,A,rfl⟩:=mP hx;have:=D j (by rw[<-BJ];exact A);rw[jZ,jX A]at this;simpa using this
def um(nm:List UInt8)(os:List ROp)(e:Ent)(k:Nat):Bool:=(oQ e.2.2.1==nm)&&(decide (e.2.2.2.length=os.length)&&(List.range k).all fun k=>qP ⟨(e.2.2.2.getD k []).toArray⟩ (os.getD k op0).fixed (os.getD k op0).sign)
theorem Z8a(nm:List UInt8)(os:List ROp)(e:Ent)(k:Nat)(h:um nm os e k=true):um nm os e (k+1)=qP ⟨(e.2.2.2.getD k []).toArray⟩ (os.getD k op0).fixed (os.getD k op0).sign:=by
 unfold um at h⊢;simp only[kB]at h;rw[oq,oG,h.1,h.2.1,h.2.2];simp
theorem Ep(nm:List UInt8)(os:List ROp)(e:Ent){k:Nat}(hk:k<=os.length)(h:um nm os e k=false):rU nm os e=false:=by
 unfold rU;unfold um at h;refine T0g.2 (fun q=>?_);simp only[kB]at q;rw[q.1,q.2.1]at h;have:(List.range k).all (fun k=>qP ⟨(e.2.2.2.getD k []).toArray⟩ (os.getD k op0).fixed (os.getD k op0).sign)=true:=kx.2 fun j A=>kx.1 q.2.2 j (lM.2 (by have:=lM.1 A;omega))
 rw[this]at h;cases h
theorem Z5E{B:Nat}{w D G:World}{base:Nat}{e:TypeId}{size n:Nat}{v:Value}{xs:List Value}(h:Below B w D)(ho:D.ownsRow base e size v n xs)(A:D.grownBy G v.ownBlock)(I:B<=base)(hw:B<=w.heap.size):Below B w G:=⟨A.os.trans h.os,A.tape.trans h.tape,A.output.trans h.output,j8 h.size A.size,fun k hk=>(A.block k (by have:=h.size;omega) (fun q=>by have:=(ho.lt k q.symm).1;omega)).trans (h.block k hk)⟩
theorem OpsIn.grown{w w':World}{v:Value}{os:List (List UInt8)}{A:Nat}{cs:Array Value}(h:OpsIn w v os)(ht:w.heap[A]?=some (.cells cs 89 (0,0)))(D:w.grownBy w' (some A)):OpsIn w' v os:=by
 rcases h with h|⟨h,b,G,hc⟩
 ·exact .inl h
 refine .inr ⟨h,b,G,?_⟩
 rw[D.block b (kV.1 hc).1 (fun q=>by
  have I:b=A:=by simpa using q
  subst I;rw[hc]at ht;simp at ht)]
 exact hc
theorem EntsIn.grown{w w':World}{cs:List Value}{l:List Ent}{A:Nat}{D:Array Value}(h:EntsIn w cs l)(ht:w.heap[A]?=some (.cells D 89 (0,0)))(G:w.grownBy w' (some A)):EntsIn w' cs l:=⟨h.1,fun k hk=>by
 obtain⟨v,a,b,c,d,e⟩:=h.2 k hk
 exact⟨v,a,b,c,d,e.grown ht G⟩⟩
theorem OpsIn.slice{w:World}{v:Value}{os:List (List UInt8)}(h:OpsIn w v os):∃G,v=.slice G os.length os.length/\∀j,j<os.length->∃A,G=some ⟨A,0,none⟩/\w.cell? ⟨A,j,none⟩=some (.string ⟨(os.getD j []).toArray⟩)/\A<w.heap.size:=by
 rcases h with⟨rfl,rfl⟩|⟨h,b,rfl,hc⟩
 ·exact⟨none,rfl,fun j D=>absurd D (lH _)⟩
 refine⟨_,rfl,fun j D=>⟨b,rfl,?_,(kV.1 hc).1⟩⟩;rw[jY (0,0) hc];simp[List.getElem?_eq_getElem D,List.getD_eq_getElem?_getD]
theorem DX(nm:ByteArray)(ob:Nat)(va:Option Addr)(vc:Nat)(os:List ROp)(w:World)(h:OpR w ob va os):Calls prog 87 #[.string nm,.slice va os.length vc] w fun e w'=>Below w.heap.size w w'/\match qD nm.data.toList os with
  |some x=>∃v,e=.returned (.tuple #[qA x v,.bool true])/\OpsIn w' v x.2.2.2
  |none=>e=.returned (.tuple #[qA ent0 (.slice none 0 0),.bool false]):=by
 obtain⟨OF,hi,KJ,KC,Ky⟩:=kQ Tryz.infoEnt;obtain⟨R,hR⟩:=Zg0 (qD nm.data.toList os);rw[hR];have HR:=oP hR;have HH:=oP h;have KR:=h.le;obtain⟨N,hN⟩:=Zg0 os.length;rw[hN]at KR⊢;have HN:=oP hN;have RY:(N:Int)<=4000:=ae;clear hR h hN KR;have Xm:=oP (Z4x (w.alloc (.cells #[.int .i64 0,.int .i64 0,.string ⟨#[]⟩,.slice none 0 0] 89)));go_enter func87,ntmps87;go_wp2_with fail;refine Xm.o.mono ?_;rintro e w1 ⟨tb,cs,rfl,Sh,Wl2,Kn⟩;have Wt6:=oP (Z7r w1);have O:=oP (And.intro Sh (And.intro Wl2 Kn));clear Sh Wl2 Kn Xm;go_wp2_with fail;refine Wt6.o.mono ?_;rintro e w2 ⟨qb,ds,rfl,Mz,YO,Xt,KQ⟩;have I:=oP (And.intro Mz (And.intro YO (And.intro Xt KQ)));have Pc:=oP (B7 O.o.1 KQ);clear Mz YO Xt KQ Wt6;go_wp2_with (first| (at_builtin;refine kH _ rfl _ _ 226 rfl (w.alloc (.cells #[.int .i64 0,.int .i64 0,.string ⟨#[]⟩,.slice none 0 0] 89)).heap.size 89 OF _ 4 56 underlying226 hi KJ KC Ky rfl ah _ _ _ rfl Pc.o ⟨qb,0,none⟩ 2 2 ds rfl (by have:=I.o.1.1;omega) (I.o.1.cells (g:=qb) rfl) I.o.2.2.1 ak ae (j8 O.o.2.2.size I.o.2.2.2.size) ?_;intro v' J Kc Ru _ _))
 obtain⟨g,U,rfl,OH⟩:∃g U,v'=.slice (some ⟨g,0,none⟩) 111 U/\111<=U:=by
  rcases Kc.2 with⟨_,h0⟩|⟨g,U,KG,rfl,_,_,hc,_⟩
  ·cases h0
  exact⟨g,U,rfl,hc⟩
 have ME:TabIn J g allEnts:=by
  obtain⟨cu,L3⟩:∃cu,w2.heap[tb]?=some (.cells cu 89 (0,0)):=by
   rcases Pc.o.2 with⟨h0,_⟩|⟨g,U,KG,h0,_,hg,_⟩
   ·cases h0
   cases h0;exact⟨KG,hg⟩
  exact Z2n Kc (((O.o.2.1.later I.o.2.2.2).append I.o.2.1).grown L3 Ru)
 have S5:Below w.heap.size w J:=by
  have b0:Below w.heap.size w (w.alloc (.cells #[.int .i64 0,.int .i64 0,.string ⟨#[]⟩,.slice none 0 0] 89)):=(jV).alloc jU _;have b1:=b0.trans (O.o.2.2.mono b0.size);have b2:=b1.trans (I.o.2.2.2.mono b1.size);exact Z5E b2 Pc.o Ru af jU
 have Ke:J.heap[w.heap.size]?=some (.cells #[.int .i64 0,.int .i64 0,.string ⟨#[]⟩,.slice none 0 0] 89 (0,0)):=by
  have e0:(w.alloc (.cells #[.int .i64 0,.int .i64 0,.string ⟨#[]⟩,.slice none 0 0] 89)).heap.size=w.heap.size+1:=af;have s1:=O.o.2.2.size;have s2:=I.o.2.2.2.size;rw[Ru.block w.heap.size ae (fun q=>by have:=(Pc.o.lt _ q.symm).1;omega),I.o.2.2.2.block _ ae,O.o.2.2.block _ ae];exact mr w _
 have Mw:g<J.heap.size:=by obtain⟨v,hc,_⟩:=ME 0 (by rw[BJ];omega);exact lD _ hc
 have Vb7:w.heap.size+1<=g:=by have:=(Kc.lt g rfl).1;simpa using this
 have WK1:=oP ME;have Lu:=oP S5;have Ki:=oP Ke;have LF:w.heap.size+1<=J.heap.size:=ae;clear Kc Ru ME S5 Ke O I Pc;obtain⟨rb,LO⟩:=Zg0 w.heap.size;rw[LO]at Vb7 LF Lu Ki⊢;have Pd:=oP LO;clear LO;go_wp2_with fail;go_loopw [7] (fun i wr=>∃k:Nat,k<=111/\i=.int .i64 (k:Int)/\(∀j,j<k->rU nm.data.toList os (allEnts.getD j ent0)=false)/\Below J.heap.size J wr) (fun i _=>111-(intOf i).toNat)
 case atStart=>exact⟨0,ae,rfl,fun j h=>ae,jV⟩
 case round=>
  obtain⟨k,hk,rfl,K0,V⟩:=hrel;have LM:=oP K0;have ON:=oP V;have D:wr.heap[rb]?=some (.cells #[.int .i64 0,.int .i64 0,.string ⟨#[]⟩,.slice none 0 0] 89 (0,0)):=by rw[V.block rb ae];exact Ki.o
  have M:=oP D;have Wd7:=V.size;clear K0 D;by_cases Kf:k<111
  ·have QR:(k:Int)<111:=by omega
   obtain⟨v,c0,c1,c2,c3,ho⟩:=(WK1.o.later V) k (by rw[BJ];exact Kf);obtain⟨x,hx⟩:=Zg0 (allEnts.getD k ent0);rw[hx]at c0 c1 c2 ho;have HX:=oP hx;have Pp:x.2.2.1.length<=8/\x.2.2.2.length<=3:=by rw[<-hx];exact Z1E k
   obtain⟨oa,rfl,Vd4⟩:=ho.slice;have HO:=oP ho;have Vv2:=oP Vd4;obtain⟨L,hL⟩:=Zg0 x.2.2.2.length;rw[hL]at c3;have HL:=oP hL;obtain⟨X,hX⟩:=Zg0 ((⟨x.2.2.1.toArray⟩:ByteArray));rw[hX]at c2;have Xo:X.data.toList=x.2.2.1:=by rw[<-hX]
   have Xn:X.size<=4000000:=by
    rw[<-hX];have e:(⟨x.2.2.1.toArray⟩:ByteArray).size=x.2.2.1.length:=lJ;omega
   have OU:Hid (∀w',Calls prog 126 #[.string X] w' fun e MB=>e=.returned (.string (txt (oQ x.2.2.1)))/\Below w'.heap.size w' MB):=fun w'=>by
    have:=Ab X Xn w';rw[Xo]at this;exact this
   obtain⟨Y,hY⟩:=Zg0 (txt (oQ x.2.2.1));rw[hY]at OU;have SK:=oP hX;clear V hx ho Vd4 hL hX Xo Xn;have Kw:=oP Kf;have OR:¬g=wr.heap.size:=ae;have Wl3:IntKind.i64.wrap ((k:Int)+1)=(k:Int)+1:=ar
   have f0:(um nm.data.toList os x 0=false/\(Y.toList==nm.toList)=false)\/(um nm.data.toList os x 0=false/\(Y.toList==nm.toList)=true/\((L:Int)==(N:Int))=false)\/(um nm.data.toList os x 0=true/\(Y.toList==nm.toList)=true/\((L:Int)==(N:Int))=true):=by
    unfold um;by_cases e1:oQ x.2.2.1=nm.data.toList
    ·have S:(Y.toList==nm.toList)=true:=AM (by rw[<-hY,vW];exact e1);by_cases e2:L=N
     ·exact .inr (.inr ⟨by rw[HL.o,HN.o,e1,kj e2];simp,S,by rw[e2];simp⟩)
     exact .inr (.inl ⟨by rw[HL.o,HN.o,j9 e2];simp,S,ai⟩)
    exact .inl ⟨by rw[nG e1];rfl,wS (by rw[<-hY,vW];exact e1)⟩
   clear hY Kf;rcases f0 with⟨f0,b1⟩|⟨f0,b1,b2⟩|⟨f0,b1,b2⟩
   all_goals
    have Vv3:=oP f0;clear f0;go_wp2_with fail;refine(OU.o _).mono ?_;rintro e Z ⟨rfl,MI⟩;obtain⟨A,Ro⟩:=Zg0 wr.heap.size;have WK2:(wr.alloc (Obj.cells #[.int .i64 (x.1:Int),.int .i64 (x.2.1:Int),.string X,.slice oa L L] 89)).heap.size=A+1:=by rw[<-Ro];simp
    have hE:Z.heap[A]?=some (.cells #[.int .i64 (x.1:Int),.int .i64 (x.2.1:Int),.string X,.slice oa L L] 89 (0,0)):=by
     rw[MI.block A ae,<- Ro];exact mr wr _
    have Wl4:Below wr.heap.size wr Z:=(jV.alloc jU _).trans (MI.mono af);have HE:=oP hE;have Pe:=oP Wl4;have Vv4:A+1<=Z.heap.size:=by have:=MI.size;omega
    have d3:Z.cell? ⟨A,3,none⟩=some (.slice oa L L):=by rw[jY (0,0) hE];rfl
    rw[Ro]at Wd7 OR⊢;have Vd5:=oP Ro;clear MI hE Wl4 Ro WK2 c0 c1 c2 c3;go_wp2_with fail;go_loopw [9,10] (fun f i wq=>∃j:Nat,j<=N/\f=.bool (um nm.data.toList os x j)/\i=.int .i64 (j:Int)/\Below Z.heap.size Z wq) (fun _ i _=>N-(intOf i).toNat)
    case atStart=>exact⟨0,j4,by rw[Vv3.o],rfl,jV⟩
    case round=>
     obtain⟨j,hj,rfl,rfl,G⟩:=hrel;have R2:=oP G;have Xk:Hid (wr.heap[A]?=_):=(G.block A ae).trans HE.o;have VN7:=G.size;have HJ:=oP hj;have Ww6:=(jW (a:=⟨A,3,none⟩) (G.block A ae)).trans d3;obtain⟨F,hF⟩:=Zg0 (um nm.data.toList os x j);rw[hF];have HF:=oP hF;clear G hj hF d3;by_cases K2:j<N
     ·have K6:(j:Int)<(N:Int):=by omega
      cases F with
      |true=>
       have Wx3:L=N:=by
        have:=HF.o;unfold um at this;simp only[kB,kI]at this;rw[<-HL.o,<- HN.o];exact this.2.1
       subst Wx3;obtain⟨bo,rfl,o1,Wx4⟩:=Vv2.o j (by rw[HL.o];exact K2);have TB:Below A _ wr:=Vd5.o ▸ Pe.o.trans (R2.o.mono Pe.o.size);have Vv5:=(jW (a:=⟨bo,j,none⟩) (TB.block bo (by have:=Vd5.o;omega))).trans o1
       have L8:Below w.heap.size w wr:=by
        have b3:Below w.heap.size w _:=(Pd.o ▸ Lu.o:Below w.heap.size w J).trans (ON.o.mono (by have:=Pd.o;omega));exact b3.trans (TB.mono (by have:=Pd.o;omega))
       obtain⟨p0,p1,p2,p3,xa,xc,p4⟩:=(HH.o.below L8).row j (by rw[HN.o];exact K2);subst p0;obtain⟨o,ho⟩:=Zg0 (os.getD j op0);rw[ho]at p1 p2 p3 p4;obtain⟨t,ht⟩:∃t:ByteArray,⟨(x.2.2.2.getD j []).toArray⟩=t:=⟨_,rfl⟩;rw[ht]at Vv5
       have Qu:Hid (um nm.data.toList os x (j+1)=qP t o.fixed o.sign):=by
        have:=Z8a nm.data.toList os x j HF.o;rw[ho,ht]at this;exact this
       have VU:Hid (∀w',Calls prog 134 #[.string t,.agg #[.string o.fixed,.int .i64 (o.number:Int),.int .u8 (o.sign.toNat:Int),.slice xa o.e.length xc]] w' fun e MB=>e=.returned (.bool (qP t o.fixed o.sign))/\Below w'.heap.size w' MB):=fun w'=>Z0A t o.fixed _ o.sign xa _ xc w'
       have VN8:IntKind.i64.wrap ((j:Int)+1)=(j:Int)+1:=ar;have SB:=oP K2;clear TB L8 o1 ho ht K2;go_wp2_with fail;go_region_with (first| (go_at_call 134;refine(VU.o _).mono ?_;rintro e w5 ⟨rfl,KU⟩))
       all_goals
        have Lx:Hid (Below wr.heap.size wr w5):=⟨KU.os,KU.tape,KU.output,KU.size,KU.block⟩;clear KU;go_wp2;go_roundw
        case rel=>exact⟨j+1,SB.o,by rw[Qu.o],ao,R2.o.trans (Lx.o.mono R2.o.size)⟩
        case measure=>have:=SB.o;simp[intOf];omega
      |false=>exact Mau
     have K6:¬(j:Int)<(N:Int):=ae;have Wx5:j=N:=bH;cases F with
     |false=>exact Mau
     |true=>
      have Vd6:Hid (R=some x):=by
       have h1:rU nm.data.toList os (allEnts.getD k ent0)=true:=by
        rw[HX.o];have:=HF.o;rw[Wx5,<- HN.o]at this;exact this
       have h2:=Z6G Kw.o LM.o h1;rw[HX.o]at h2;exact HR.o.symm.trans h2
      have Kq:Below J.heap.size J wr:=ON.o.trans ((Pe.o.trans (R2.o.mono Pe.o.size)).mono ON.o.size);have D:wr.heap[rb]?=some (.cells #[.int .i64 0,.int .i64 0,.string ⟨#[]⟩,.slice none 0 0] 89 (0,0)):=by rw[Kq.block rb ae];exact Ki.o
      have r0:=kM _ _ 0 _ _ _ D;have r1:=kM _ _ 1 _ _ _ D;have r2:=kM _ _ 2 _ _ _ D;have r3:=kM _ _ 3 _ _ _ D;have z0:=kT 0 _ _ D;have z1:=kT 1 _ _ D;have z2:=kT 2 _ _ D;have z3:=kT 3 _ _ D;have e0:wr.cell? ⟨A,0,none⟩=some (.int .i64 (x.1:Int)):=eW;have e1:wr.cell? ⟨A,1,none⟩=some (.int .i64 (x.2.1:Int)):=eW;have e2:wr.cell? ⟨A,2,none⟩=some (.string X):=eW;have Vv6:¬A=rb:=ae;have Vd7:¬rb=A:=ae;have Qb:=oP D;have Mi:=oP Kq;have Td:=oP (HO.o.later (Pe.o.trans (R2.o.mono Pe.o.size)));clear D Kq Wx5 K2;go_wp2_with fail;refine kf (v:=.tuple #[qA x (.slice oa L L),.bool true]) (by simp[results,results87,go_sem,r0,r1,r2,r3,qA,SK.o]) rfl ⟨?_,?_⟩
      ·have S:Below rb w wr:=Lu.o.trans (Mi.o.mono ae);rw[Pd.o];exact xG _ _ _ _ S jU
      obtain rfl:=kp Vd6.o;refine⟨_,rfl,?_⟩;have:=Td.o;rw[HL.o]at this;exact this.set4 _ _ _ _ Qb.o
  have QR:¬(k:Int)<111:=ae
  have Vd6:Hid (R=none):=by
   have:=Z1v (nm:=nm.data.toList) (os:=os) (fun j hj=>LM.o j ae);exact HR.o.symm.trans this
  have r0:=kM _ _ 0 _ _ _ M.o;have r1:=kM _ _ 1 _ _ _ M.o;have r2:=kM _ _ 2 _ _ _ M.o;have r3:=kM _ _ 3 _ _ _ M.o;have z0:=kT 0 _ _ M.o;have z1:=kT 1 _ _ M.o;have z2:=kT 2 _ _ M.o;have z3:=kT 3 _ _ M.o;clear Kf V;go_wp2_with fail;refine kf (v:=.tuple #[qA ent0 (.slice none 0 0),.bool false]) (by simp[results,results87,go_sem,r0,r1,r2,r3,qA,ent0]) rfl ⟨?_,?_⟩
  ·have S:Below rb w wr:=Lu.o.trans (ON.o.mono ae);rw[Pd.o];first| exact xG _ _ _ _ S jU|exact S
  rfl
theorem BP:∀(f:Nat) (l:List UInt8),(rtL f l).length<=f
 |0,_=>j4
 |_+1,[]=>j4
 |f+1,c::r=>by
  rw[rtL]
  have h1:=BP f r
  have h2:=BP f ((c::r).drop (pK (c::r)))
  split
  ·exact j4
  split
  ·omega
  split
  ·rw[kh];omega
  split
  ·rw[kh];omega
  split
  ·rw[kh];omega
  rw[kh];omega
def rlT(s:ByteArray):List RTok:=rtL s.size (oQ s.data.toList)++[endR]
theorem Gw(s:ByteArray)(h:s.size<=2000):(rlT s).length<=2001/\1<=(rlT s).length:=by
 unfold rlT;have:=BP s.size (oQ s.data.toList);rw[kq];simp;omega
theorem Z0b(s:ByteArray):((rlT s).getD ((rlT s).length-1) endR).kind=0:=by
 unfold rlT;rw[kq,jZ];simp[endR]
theorem D7:∀(T:List RTok) (k:Nat),k<T.length->(se T)[k*4]?=some (.int .u8 ((T.getD k endR).kind.toNat:Int))/\(se T)[k*4+1]?=some (.string (T.getD k endR).s)/\(se T)[k*4+2]?=some (.int .i64 ((T.getD k endR).n:Int))/\(se T)[k*4+3]?=some (.bool (T.getD k endR).great)
 |[],k,h=>aR
 |t::T,0,_=>by simp[se,RTok.cells]
 |t::T,k+1,h=>by
  have ih:=D7 T k av
  have e:∀j,(se (t::T))[(k+1)*4+j]?=(se T)[k*4+j]?:=fun j=>by
   rw[show (k+1)*4+j=(k*4+j)+1+1+1+1 by omega]
   simp[se,RTok.cells]
  have A:=e 0
  rw[kK,kK]at A
  rw[A,e 1,e 2,e 3]
  exact ih
theorem Z4a{w:World}{base g A:Nat}{T:List RTok}(h:w.ownsRow base 170 4 (.slice (some ⟨g,0,none⟩) T.length A) T.length (se T))(D:T.length<=3000):RPS (w.alloc (.cells #[.slice (some ⟨g,0,none⟩) T.length A,.int .i64 0,.bool false] 168)) w.heap.size g A T 0 false:=by
 have G:=(h.lt g rfl).2;have hc:=h.cells (g:=g) rfl
 have I:T.length<=A:=by
  rcases h.2 with⟨h0,_⟩|⟨_,_,_,h0,_,_,h1,_⟩
  ·cases h0
  cases h0;exact h1
 refine⟨af,af,af,fun j=>af,fun k hk=>?_,ae,ai,I,D⟩;obtain⟨a,b,c,d⟩:=D7 T k hk
 have f:∀j u,(se T)[j]?=some u->(w.alloc (.cells #[.slice (some ⟨g,0,none⟩) T.length A,.int .i64 0,.bool false] 168)).cell? ⟨g,j,none⟩=some u:=fun j u J=>by
  have:=hc j u J;rw[k9,kN]at this;rw[jW (a:=⟨g,j,none⟩) (nz w _ G)];exact this
 exact⟨f _ _ a,f _ _ b,f _ _ c,f _ _ d⟩
def liC(lb nm A:ByteArray)(c m:Int)(D:ByteArray)(G I:Value):Obj:=.cells #[.string lb,.string nm,.string A,.int .i64 c,.int .i64 m,.string D,G,I] 92
def liV(lb nm A:ByteArray)(c m:Int)(D:ByteArray)(G I:Value):Value:=.agg #[.string lb,.string nm,.string A,.int .i64 c,.int .i64 m,.string D,G,I]
structure OpsR(w:World)(base:Nat)(ov:Value)(os:List ROp):Prop where
 row:∃cs,w.ownsRow base 174 4 ov os.length cs/\∀k,k<os.length->cs[k*4]?=some (.string (os.getD k op0).fixed)/\cs[k*4+1]?=some (.int .i64 ((os.getD k op0).number:Int))/\cs[k*4+2]?=some (.int .u8 ((os.getD k op0).sign.toNat:Int))/\∃va vn vc,cs[k*4+3]?=some (.slice va vn vc)/\w.ownsRow base 229 5 (.slice va vn vc) (os.getD k op0).e.length (qv (os.getD k op0).e)
theorem zF{w:World}{b1 b2:Nat}{e1 e2:TypeId}{G I n1 J:Nat}{A v2:Value}{M O:List Value}(h1:w.ownsRow b1 e1 G A n1 M)(h2:w.ownsRow b2 e2 I v2 J O)(he:e1≠e2):A.ownBlock=none\/A.ownBlock≠v2.ownBlock:=by
 rcases h1.2 with⟨rfl,_⟩|⟨g,V,Z,rfl,_,R,_⟩
 ·exact .inl rfl
 refine .inr (fun q=>?_);rcases h2.2 with⟨rfl,_⟩|⟨S,O7,U,rfl,_,D,_⟩
 ·cases q
 have:g=S:=eX;subst this;rw[R]at D;simp at D;exact he D.2
theorem Bb{w:World}{b1:Nat}{e1 e2:TypeId}{D n1:Nat}{A:Value}{G:List Value}{k:Nat}{cs:Array Value}(h1:w.ownsRow b1 e1 D A n1 G)(h2:w.heap[k]?=some (.cells cs e2 (0,0)))(he:e1≠e2):A.ownBlock=none\/A.ownBlock≠some k:=by
 rcases h1.2 with⟨rfl,_⟩|⟨g,J,M,rfl,_,I,_⟩
 ·exact .inl rfl
 refine .inr (fun q=>?_);have:g=k:=eX;subst this;rw[I]at h2;simp at h2;exact he h2.2
theorem OpsR.nil(w:World)(base:Nat):OpsR w base (.slice none 0 0) []:=⟨[],kA,fun k hk=>by simp at hk⟩
theorem OpsR.kept{w w':World}{base:Nat}{A:Value}{os:List ROp}(h:OpsR w base A os)(J:∀k,base<=k->k<w.heap.size->w'.heap[k]?=w.heap[k]?):OpsR w' base A os:=by
 obtain⟨cs,h1,h2⟩:=h.row
 have D:∀ {e:TypeId} {s n:Nat} {v:Value} {xs:List Value},w.ownsRow base e s v n xs->w'.ownsRow base e s v n xs:=fun {e s n v xs} ho=>by
  refine⟨ho.1,?_⟩;rcases ho.2 with hn|⟨g,M,O,rfl,G,I,rest⟩
  ·exact .inl hn
  exact .inr ⟨g,M,O,rfl,G,by rw[J g G (kV.1 I).1];exact I,rest⟩
 exact⟨cs,D h1,fun k hk=>by
  obtain⟨a,b,c,R,S,U,d,e⟩:=h2 k hk;exact⟨a,b,c,R,S,U,d,D e⟩⟩
theorem OpsR.slice{w:World}{base:Nat}{A:Value}{os:List ROp}(h:OpsR w base A os):∃D G,A=.slice D os.length G:=by
 obtain⟨cs,h1,_⟩:=h.row;rcases h1.2 with⟨rfl,h0⟩|⟨g,I,_,rfl,_⟩
 ·exact⟨none,0,bu⟩
 exact⟨_,_,rfl⟩
structure LineIn(w:World)(base:Nat)(v:Value)(x:RLine):Prop where
 at_:∃ev ov,v=liV x.label x.name x.what (x.ent.1:Int) (x.ent.2.1:Int) ⟨x.ent.2.2.1.toArray⟩ ev ov/\OpsIn w ev x.ent.2.2.2/\OpsR w base ov x.ops
def zG(w:World)(o:Option RLine)(e:Ending)(w':World):Prop:=Below w.heap.size w w'/\match o with
 |some x=>∃v,e=.returned (.tuple #[v,.bool true])/\LineIn w' w.heap.size v x
 |none=>∃lb nm G c m I A D,e=.returned (.tuple #[liV lb nm G c m I A D,.bool false])/\(∃J e1 e2,A=.slice J e1 e2)/\∃M o1 o2,D=.slice M o1 o2
structure PX(w wr:World)(rb xb pb g cap:Nat)(T:List RTok)(i:Nat)(bad:Bool)(X:Obj):Prop where
 ps:RPS wr pb g cap T i bad
 xc:wr.heap[xb]?=some X
 rc:wr.heap[rb]?=some (liC ⟨#[]⟩ ⟨#[]⟩ ⟨#[]⟩ 0 0 ⟨#[]⟩ (.slice none 0 0) (.slice none 0 0))
 bw:Below rb w wr
 lt:rb=w.heap.size/\xb=rb+1/\xb<g/\g<pb
theorem PX.grown{w wr w':World}{rb I G g J:Nat}{T:List RTok}{i M:Nat}{O D:Bool}{X:Obj}(h:PX w wr rb I G g J T i O X)(R:RPS w' G g J T M D)(A:wr.grownBy w' (some G)):PX w w' rb I G g J T M D X:=by
 obtain⟨l1,l2,l3,S⟩:=h.lt;have hpl:=h.ps.lt;exact⟨R,(A.block I ae ai).trans h.xc,(A.block rb ae ai).trans h.rc,⟨A.os.trans h.bw.os,A.tape.trans h.bw.tape,A.output.trans h.bw.output,j8 h.bw.size A.size,fun k hk=>(A.block k ae ai).trans (h.bw.block k hk)⟩,h.lt⟩
theorem PX.below{w wr w':World}{rb D G g I:Nat}{T:List RTok}{i:Nat}{J:Bool}{X:Obj}(h:PX w wr rb D G g I T i J X)(A:Below wr.heap.size wr w'):PX w w' rb D G g I T i J X:=h.grown (h.ps.below A) ⟨A.os,A.tape,A.output,A.size,fun k hk _=>A.block k hk⟩
theorem PX.setX{w wr:World}{rb A D g G:Nat}{T:List RTok}{i:Nat}{I:Bool}{cs:Array Value}{t:TypeId}(h:PX w wr rb A D g G T i I (.cells cs t))(j:Nat)(v:Value):PX w (wr.setCell ⟨A,j,none⟩ v) rb A D g G T i I (.cells (cs.setIfInBounds j v) t):=by
 obtain⟨l1,l2,l3,J⟩:=h.lt;refine⟨h.ps.kept (kk wr ⟨A,j,none⟩ D v ai) (kk wr ⟨A,j,none⟩ g v ai) az,j7 h.xc,(kk wr ⟨A,j,none⟩ rb v ai).trans h.rc,h.bw.setCell (show rb<=A by omega) v,h.lt⟩
theorem PX.setI{w wr:World}{rb D A g G:Nat}{T:List RTok}{i:Nat}{I:Bool}{X:Obj}(h:PX w wr rb D A g G T i I X)(n:Nat):PX w (wr.setCell ⟨A,1,none⟩ (.int .i64 (n:Int))) rb D A g G T n I X:=h.grown (h.ps.setI n) (pV wr A 1 _)
theorem oY{w:World}{b:Nat}{A D G:ByteArray}{I J:Int}{M:ByteArray}{O R:Value}(h:w.heap[b]?=some (liC A D G I J M O R)):(w.cell? ⟨b,0,none⟩=some (.string A)/\w.cell? ⟨b,1,none⟩=some (.string D)/\w.cell? ⟨b,2,none⟩=some (.string G)/\w.cell? ⟨b,3,none⟩=some (.int .i64 I)/\w.cell? ⟨b,4,none⟩=some (.int .i64 J)/\w.cell? ⟨b,5,none⟩=some (.string M)/\w.cell? ⟨b,6,none⟩=some O/\w.cell? ⟨b,7,none⟩=some R)/\∀j,w.frozen? ⟨b,j,none⟩=false:=
 ⟨⟨kM _ _ 0 _ _ _ h,kM _ _ 1 _ _ _ h,kM _ _ 2 _ _ _ h,kM _ _ 3 _ _ _ h,kM _ _ 4 _ _ _ h,kM _ _ 5 _ _ _ h,kM _ _ 6 _ _ _ h,kM _ _ 7 _ _ _ h⟩,fun j=>kT j _ _ h⟩
theorem Z4Z(s:ByteArray)(hs:s.size<=2000)(w:World):Calls prog 81 #[.string s] w fun e w'=>∃g A,e=.returned (.slice (some ⟨g,0,none⟩) (rlT s).length A)/\w'.ownsRow w.heap.size 170 4 (.slice (some ⟨g,0,none⟩) (rlT s).length A) (rlT s).length (se (rlT s))/\Below w.heap.size w w':=by
 have e:(rlT s).length=(rtL s.size (oQ s.data.toList)).length+1:=by unfold rlT;rw[kq];rfl
 rw[e];exact Z08 s hs w
def liZ:Obj:=liC ⟨#[]⟩ ⟨#[]⟩ ⟨#[]⟩ 0 0 ⟨#[]⟩ (.slice none 0 0) (.slice none 0 0)
theorem uo(l:List RTok)(i k:Nat):kAt (l.drop i) k=kAt l (i+k):=fZ
theorem Z8U{w A:World}{g G:Nat}{T:List RTok}(h:A.ownsRow ((w.alloc liZ).alloc liZ).heap.size 170 4 (.slice (some ⟨g,0,none⟩) T.length G) T.length (se T))(D:Below ((w.alloc liZ).alloc liZ).heap.size ((w.alloc liZ).alloc liZ) A)(J:T.length<=3000):PX w (A.alloc (.cells #[.slice (some ⟨g,0,none⟩) T.length G,.int .i64 0,.bool false] 168)) w.heap.size (w.heap.size+1) A.heap.size g G T 0 false liZ:=by
 obtain⟨g1,g2⟩:=h.lt g rfl;have e1:((w.alloc liZ).alloc liZ).heap.size=w.heap.size+2:=af;have M:=D.size;rw[e1]at g1 M;have I:∀k,k<w.heap.size+2->(A.alloc (.cells #[.slice (some ⟨g,0,none⟩) T.length G,.int .i64 0,.bool false] 168)).heap[k]?=((w.alloc liZ).alloc liZ).heap[k]?:=fun k hk=>by rw[nz _ _ ae,D.block k ae]
 refine⟨Z4a h J,?_,?_,⟨D.os,D.tape,D.output,ai,fun k hk=>?_⟩,rfl,rfl,ae,ae⟩
 ·rw[I _ ae];have:=kg (w.alloc liZ) liZ;rwa [show (w.alloc liZ).heap.size=w.heap.size+1 by simp]at this
 ·rw[I _ ae,nz _ _ af];exact kg w liZ
 rw[I _ ae,nz _ _ ai,nz _ _ hk]
abbrev tK(w:World)(rb:Nat)(a b c d e f g h:Value):World:=(((((((w.setCell ⟨rb,0,none⟩ a).setCell ⟨rb,1,none⟩ b).setCell ⟨rb,2,none⟩ c).setCell ⟨rb,3,none⟩ d).setCell ⟨rb,4,none⟩ e).setCell ⟨rb,5,none⟩ f).setCell ⟨rb,6,none⟩ g).setCell ⟨rb,7,none⟩ h
theorem FG(w:World)(rb:Nat)(a b c d e f g h:Value):w.grownBy (tK w rb a b c d e f g h) (some rb):=(((((((pV _ _ _ _).trans2 (pV _ _ _ _)).trans2 (pV _ _ _ _)).trans2 (pV _ _ _ _)).trans2 (pV _ _ _ _)).trans2 (pV _ _ _ _)).trans2 (pV _ _ _ _)).trans2 (pV _ _ _ _)
theorem A0{w D:World}{rb G I J M:Nat}{T:List RTok}{i:Nat}{O:Bool}{X:Obj}(h:PX w D rb G I J M T i O X)(n:Nat)(a b c d e f g k:Value):Below w.heap.size w (tK (D.drewN n) rb a b c d e f g k):=by
 have A:=FG (D.drewN n) rb a b c d e f g k;have l1:=h.lt.1;exact⟨A.os.trans h.bw.os,A.tape.trans h.bw.tape,A.output.trans h.bw.output,j8 h.bw.size A.size,fun j R=>(A.block j (by have:=h.bw.size;show j<D.heap.size;omega) ai).trans (h.bw.block j ae)⟩
theorem OpsR.otype{w w':World}{base:Nat}{A:Value}{os:List ROp}{k:Nat}{cs:Array Value}{t:TypeId}(h:OpsR w base A os)(hk:w.heap[k]?=some (.cells cs t (0,0)))(h1:t≠174)(h2:t≠229)(D:w.grownBy w' (some k)):OpsR w' base A os:=by
 obtain⟨xs,a,b⟩:=h.row;refine⟨xs,a.kept D (Bb a hk (fun e=>h1 e.symm)),fun j G=>?_⟩;obtain⟨p,q,r,I,J,M,u,v⟩:=b j G;exact⟨p,q,r,I,J,M,u,v.kept D (Bb v hk (fun e=>h2 e.symm))⟩
theorem OpsIn.otype{w w':World}{v:Value}{os:List (List UInt8)}{k:Nat}{cs:Array Value}{t:TypeId}(h:OpsIn w v os)(hk:w.heap[k]?=some (.cells cs t (0,0)))(h1:t≠9)(A:w.grownBy w' (some k)):OpsIn w' v os:=by
 rcases h with h|⟨h,b,D,hc⟩
 ·exact .inl h
 refine .inr ⟨h,b,D,?_⟩
 rw[A.block b (kV.1 hc).1 (fun q=>by
  have G:b=k:=by simpa using q
  subst G;rw[hc]at hk;simp at hk;exact h1 hk.2.symm)]
 exact hc
theorem Ig{w A:World}{rb J M O R:Nat}{T:List RTok}{i:Nat}{S:Bool}{X:Obj}(h:PX w A rb J M O R T i S X)(n:Nat)(a b c d e f g k:Value)(x:RLine)(D G:Value)(h1:OpsIn A D x.ent.2.2.2)(h3:OpsR A w.heap.size G x.ops):LineIn (tK (A.drewN n) rb a b c d e f g k) w.heap.size (liV x.label x.name x.what (x.ent.1:Int) (x.ent.2.1:Int) ⟨x.ent.2.2.1.toArray⟩ D G) x:=by
 have I:A.grownBy (tK (A.drewN n) rb a b c d e f g k) (some rb):=by
  have:=FG (A.drewN n) rb a b c d e f g k;exact⟨this.os,this.tape,this.output,this.size,this.block⟩
 exact⟨D,G,rfl,h1.otype h.rc ah I,h3.otype h.rc ah ah I⟩
theorem PX.set0{w wr:World}{rb A D g G:Nat}{T:List RTok}{i:Nat}{I:Bool}{Z J M:ByteArray}{O R:Int}{S:ByteArray}{U V:Value}(h:PX w wr rb A D g G T i I (liC Z J M O R S U V))(v:ByteArray):PX w (wr.setCell ⟨A,0,none⟩ (.string v)) rb A D g G T i I (liC v J M O R S U V):=h.setX 0 _
theorem PX.set1{w wr:World}{rb A D g G:Nat}{T:List RTok}{i:Nat}{I:Bool}{J Z M:ByteArray}{O R:Int}{S:ByteArray}{U V:Value}(h:PX w wr rb A D g G T i I (liC J Z M O R S U V))(v:ByteArray):PX w (wr.setCell ⟨A,1,none⟩ (.string v)) rb A D g G T i I (liC J v M O R S U V):=h.setX 1 _
theorem PX.set2{w wr:World}{rb A D g G:Nat}{T:List RTok}{i:Nat}{I:Bool}{J M Z:ByteArray}{O R:Int}{S:ByteArray}{U V:Value}(h:PX w wr rb A D g G T i I (liC J M Z O R S U V))(v:ByteArray):PX w (wr.setCell ⟨A,2,none⟩ (.string v)) rb A D g G T i I (liC J M v O R S U V):=h.setX 2 _
theorem PX.set7{w wr:World}{rb A D g G:Nat}{T:List RTok}{i:Nat}{I:Bool}{J M O:ByteArray}{R S:Int}{U:ByteArray}{V Z:Value}(h:PX w wr rb A D g G T i I (liC J M O R S U V Z))(v:Value):PX w (wr.setCell ⟨A,7,none⟩ v) rb A D g G T i I (liC J M O R S U V v):=h.setX 7 _
theorem Au:∀(n:Nat) (T:List RTok) (i:Nat) (m:Bool),T.length-i<=n->i<T.length->(T.getD (T.length-1) endR).kind=0->(oR (T.drop i) m).2.2=true->i+(oR (T.drop i) m).2.1<T.length
 |0,T,i,m,hn,hi,A,h=>ae
 |n+1,T,i,m,hn,hi,A,h=>by
  cases hf:qx (T.getD i endR) with
  |false=>rw[Av hi hf]at h;cases h
  |true=>
   have h1:=Ac hi hf A
   by_cases c1:(T.getD (i+1) endR).kind=43
   ·rw[Bf h1 hf c1]at h⊢
    have h2:=qB h1 dL A
    have:=Au n T (i+2) false ae h2 A h
    show i+((oR (T.drop (i+2)) false).2.1+2)<T.length
    omega
   by_cases c2:(T.getD (i+1) endR).kind=45
   ·rw[A7 h1 hf c1 c2]at h⊢
    have h2:=qB h1 (by rw[c2];decide) A
    have:=Au n T (i+2) true ae h2 A h
    show i+((oR (T.drop (i+2)) true).2.1+2)<T.length
    omega
   rw[Aw h1 hf c1 c2]
   show i+1<T.length
   exact h1
theorem OpsR.one{w:World}{base:Nat}{A:Option Addr}{D G:Nat}{e:List RTerm}(h:w.ownsRow base 229 5 (.slice A D G) e.length (qv e))(I:base<=w.heap.size):OpsR (w.alloc (opC ⟨#[]⟩ 0 0 (.slice A D G))) base (.slice (some ⟨w.heap.size,0,none⟩) 1 1) [sL e]:=by
 refine⟨[.string ⟨#[]⟩,.int .i64 0,.int .u8 0,.slice A D G],⟨rfl,.inr ⟨_,1,_,rfl,I,kg w _,jU,ak,rfl,rfl⟩⟩,fun k hk=>?_⟩;have:k=0:=aJ;subst this;exact⟨rfl,rfl,rfl,A,D,G,rfl,h.alloc _⟩
