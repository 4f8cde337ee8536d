import Derived.Test.YthokdbcpkmcieaaGreatDoorH39
import Derived.Test.YthokdbcpkmcieaaGreatDoorH45
set_option maxRecDepth 200000
set_option maxHeartbeats 16000000
namespace Go.Proofs.YthokdbcpkmcieaaGreatDoor
open RowKit Proofs.Tryz
def lnC(x:RLine)(v:Value×Value):List Value:=[.string x.label,.string x.name,.string x.what,.int .i64 (x.ent.1:Int),.int .i64 (x.ent.2.1:Int),.string ⟨x.ent.2.2.1.toArray⟩,v.1,v.2]
def vw(xs:List RLine)(vs:List (Value×Value)):List Value:=(xs.zip vs).flatMap fun p=>lnC p.1 p.2
theorem Z8s(xs:List RLine)(vs:List (Value×Value))(x:RLine)(v:Value×Value)(h:xs.length=vs.length):vw (xs++[x]) (vs++[v])=vw xs vs++lnC x v:=by
 unfold vw;rw[List.zip_append h,nQ];simp
theorem wE:∀(xs:List RLine) (vs:List (Value×Value)) (k j:Nat) (x:RLine) (v:Value×Value),xs[k]?=some x->vs[k]?=some v->j<8->(vw xs vs)[k*8+j]?=(lnC x v)[j]?
 |[],_,k,_,_,_,h,_,_=>aR
 |_::_,[],k,_,_,_,_,h,_=>aR
 |y::xs,u::vs,0,j,x,v,hx,A,D=>by
  have e1:y=x:=by simpa using hx
  have e2:u=v:=by simpa using A
  subst e1 e2
  show (lnC y u++vw xs vs)[0*8+j]?=_
  rw[lz (by simp[lnC];omega)]
  simp
 |y::xs,u::vs,k+1,j,x,v,hx,A,D=>by
  show (lnC y u++vw xs vs)[(k+1)*8+j]?=_
  rw[lr (by simp[lnC];omega),show (k+1)*8+j-(lnC y u).length=k*8+j by simp[lnC];omega]
  exact wE xs vs k j x v (by simpa using hx) (by simpa using A) D
structure AllR(w:World)(ab:Nat)(va:Value)(xs:List RLine)(vs:List (Value×Value)):Prop where
 len:xs.length=vs.length
 row:w.ownsRow (ab+1) 92 8 va xs.length (vw xs vs)
 ins:∀(k:Nat) (x:RLine) (v:Value×Value),xs[k]?=some x->vs[k]?=some v->OpsIn w v.1 x.ent.2.2.2/\OpsR w (ab+1) v.2 x.ops
theorem AllR.nil(w:World)(ab:Nat):AllR w ab (.slice none 0 0) [] []:=⟨rfl,kA,fun k x v h=>aR⟩
theorem AllR.below{w w':World}{ab:Nat}{D:Value}{xs:List RLine}{vs:List (Value×Value)}(h:AllR w ab D xs vs)(A:Below w.heap.size w w'):AllR w' ab D xs vs:=by
 have J:w.grownBy w' none:=⟨A.os,A.tape,A.output,A.size,fun j G _=>A.block j G⟩;exact⟨h.len,h.row.kept J (by cases D.ownBlock <;> simp),fun k x v hx I=>⟨(h.ins k x v hx I).1.later A,(h.ins k x v hx I).2.kept (fun j _ G=>A.block j G)⟩⟩
theorem AllR.chg{w w':World}{ab base:Nat}{a:RAsm}{D:Value}{xs:List RLine}{vs:List (Value×Value)}(h:AllR w ab D xs vs)(I:RAM w ab base a)(A:AChg w w' ab base):AllR w' ab D xs vs:=
 ⟨h.len,A.own h.row lW ah,fun k x v hx G=>⟨A.opsIn I (h.ins k x v hx G).1,A.opsR (h.ins k x v hx G).2 lW⟩⟩
theorem BI{w w':World}{b b2:Nat}{e e2:TypeId}{s A n D:Nat}{v v2:Value}{xs G:List Value}(h:w.ownsRow b e s v n xs)(h2:w.ownsRow b2 e2 A v2 D G)(I:w.grownBy w' v2.ownBlock)(he:e≠e2):w'.ownsRow b e s v n xs:=h.kept I (zF h h2 he)
theorem OpsR.ty{w w':World}{b b2:Nat}{A v2:Value}{os:List ROp}{G:Nat}{I:List Value}(h:OpsR w b A os)(h2:w.ownsRow b2 92 8 v2 G I)(D:w.grownBy w' v2.ownBlock):OpsR w' b A os:=by
 obtain⟨cs,a1,a2⟩:=h.row
 exact⟨cs,BI a1 h2 D ah,fun k hk=>by
  obtain⟨p,q,r,J,M,O,u,v⟩:=a2 k hk;exact⟨p,q,r,J,M,O,u,BI v h2 D ah⟩⟩
theorem OpsIn.ty{w w':World}{b2:Nat}{v v2:Value}{os:List (List UInt8)}{D:Nat}{G:List Value}(h:OpsIn w v os)(h2:w.ownsRow b2 92 8 v2 D G)(I:w.grownBy w' v2.ownBlock):OpsIn w' v os:=by
 rcases h with h|⟨h,b,J,hc⟩
 ·exact .inl h
 refine .inr ⟨h,b,J,?_⟩;rw[I.block b (kV.1 hc).1 (fun q=>?_)]
 ·exact hc
 rcases h2.2 with⟨r,_⟩|⟨g,M,O,r,_,A,_⟩
 ·rw[r]at q;cases q
 rw[r]at q;have:b=g:=eX;subst this;rw[hc]at A;simp at A
theorem AllR.snoc{w W I:World}{ab:Nat}{O v2:Value}{xs:List RLine}{vs:List (Value×Value)}{x:RLine}{v:Value×Value}(h:AllR w ab O xs vs)(h1:OpsIn w v.1 x.ent.2.2.2)(h2:OpsR w (ab+1) v.2 x.ops)(J:Below w.heap.size w W)(hn:I.ownsRow (ab+1) 92 8 v2 (xs.length+1) (vw xs vs++lnC x v))(D:W.grownBy I O.ownBlock):AllR I ab v2 (xs++[x]) (vs++[v]):=by
 have A:=h.below J;have R:∀j,j<w.heap.size->W.heap[j]?=w.heap[j]?:=fun j M=>J.block j M
 refine⟨by simp[h.len],by rw[kq,Z8s _ _ _ _ h.len];exact hn,fun k y u hy G=>?_⟩;by_cases c:k<xs.length
 ·rw[lz c]at hy;rw[lz (by rw[<-h.len];exact c)]at G;obtain⟨p,q⟩:=A.ins k y u hy G;exact⟨p.ty A.row D,q.ty A.row D⟩
 have hk:k=xs.length:=by
  have:k<(xs++[x]).length:=by
   rcases lQ k (xs++[x]).length with q|q
   ·exact q
   rw[mg q]at hy;cases hy
  simp at this;omega
 subst hk;have e1:x=y:=by simpa using hy
 have e2:v=u:=by rw[h.len]at G;simpa using G
 subst e1 e2;exact⟨(h1.later J).ty A.row D,(h2.kept (fun j _ M=>R j M)).ty A.row D⟩
theorem RAM.ty{w w':World}{ab base:Nat}{a:RAsm}{v2:Value}{G:Nat}{I:List Value}(h:RAM w ab base a)(h2:w.ownsRow (ab+1) 92 8 v2 G I)(A:w.grownBy w' v2.ownBlock):RAM w' ab base a:=by
 have J:ab<w.heap.size:=ke h.lt.1 h.lt.2;have D:w'.heap[ab]?=w.heap[ab]?:=A.block ab J (fun q=>by have:=(h2.lt ab q.symm).1;omega);have k:∀i,w'.cell? ⟨ab,i,none⟩=w.cell? ⟨ab,i,none⟩:=fun i=>jW (a:=⟨ab,i,none⟩) D
 obtain⟨M,O,r1,r2⟩:=h.row;exact⟨⟨M,O,(k _).trans r1,BI r2 h2 A ah⟩,(k _).trans h.c1,fun i hi=>(k _).trans (h.cb i hi),fun i hi=>(k _).trans (h.cl i hi),fun i hi=>(k _).trans (h.cs i hi),fun j=>(ku (a:=⟨ab,j,none⟩) D).trans (h.fz j),⟨h.lt.1,j8 h.lt.2 A.size⟩,h.len,h.le,h.nb⟩
theorem Tryz.zeroAsm:Tryz.zeroCells85=([Value.slice none 0 0,Value.int .i64 0]++(List.replicate 1024 (Value.int .u8 0)++List.replicate 2048 (Value.bool false))).toArray:=aj
theorem Dv(n m i:Nat)(x y A B:Value):([x,y]++(List.replicate n A++List.replicate m B))[2+i]?=if i<n then some A else if i<n+m then some B else none:=by
 rw[lr af,show 2+i - [x,y].length=i by simp];by_cases c:i<n
 ·rw[jT c,lz (by rw[ld];exact c),mG,jT c]
 rw[jS c,lr (by rw[ld];omega),ld,mG];by_cases d:i<n+m
 ·rw[jT d,jT ae]
 rw[jS d,jS ae]
theorem Z6l(w:World):RAM (w.alloc (.cells zeroCells85 85)) w.heap.size (w.heap.size+1) rasm0:=by
 rw[Tryz.zeroAsm];have h:=kg w (.cells ([Value.slice none 0 0,Value.int .i64 0]++(List.replicate 1024 (Value.int .u8 0)++List.replicate 2048 (Value.bool false))).toArray 85)
 have c:∀j,(w.alloc (.cells ([Value.slice none 0 0,Value.int .i64 0]++(List.replicate 1024 (Value.int .u8 0)++List.replicate 2048 (Value.bool false))).toArray 85)).cell? ⟨w.heap.size,j,none⟩=([Value.slice none 0 0,Value.int .i64 0]++(List.replicate 1024 (Value.int .u8 0)++List.replicate 2048 (Value.bool false)))[j]?:=fun j=>by
  rw[kM _ _ j _ _ (0,0) h];exact nP
 generalize w.alloc (.cells ([Value.slice none 0 0,Value.int .i64 0]++(List.replicate 1024 (Value.int .u8 0)++List.replicate 2048 (Value.bool false))).toArray 85)=W at h c;have A:w.heap.size<W.heap.size:=oV h;refine⟨⟨none,0,?_,kA⟩,?_,fun i hi=>?_,fun i hi=>?_,fun i hi=>?_,fun j=>kT j _ _ h,⟨lW,A⟩,⟨ld,ld,ld⟩,j4,fun p D=>by cases D⟩
 ·rw[c];rfl
 ·rw[c];rfl
 ·rw[c,Dv,jT hi];show _=some (Value.int .u8 (((List.replicate 1024 (0:UInt8)).getD i 0).toNat:Int));rw[jZ,mG,jT hi];rfl
 ·rw[c,show 1026+i=2+(1024+i) by omega,Dv,jS ae,jT ae];exact Mcb
 rw[c,show 2050+i=2+(2048+i) by omega,Dv,jS ae,jT ae];exact Mcb
theorem I1{P:Program}{A:Func}{p q r:Tmp}{ty:TypeId}(h:A.results=#[.cell p ty,.tmp q,.tmp r])(tmps:Array Value)(w:World)(g:Nat)(t:TypeId)(cs:Array Value)(fr:Nat×Nat)(d:TypeDesc)
  (hp:tmps.getD p undef=.pointer (some ⟨g,0,none⟩)) (hg:w.heap[g]?=some (.cells cs t fr)) (hu:P.underlying ty=some d) (hd:(match d with | .struct _ | .array _ _=>true|_=>false)=true) (hi:(P.info? ty).map (·.size)=some cs.size):(results A tmps).run P w=.ok (.tuple #[.agg cs,tmps.getD q undef,tmps.getD r undef]) w:=by
 exact Mbh
def zZ(w:World)(o:Except (Nat×Nat) RAsm)(e:Ending)(w':World):Prop:=Below w.heap.size w w'/\match o with
 |.error p=>e=.returned (.tuple #[.agg #[.slice none 0 0,.slice none 0 0,.slice none 0 0],.int .i64 (p.1:Int),.int .i64 (p.2:Int)])
 |.ok b=>∃A D la G I J,e=.returned (.tuple #[.agg #[.slice A 1024 D,.slice la 1024 G,.slice I 1024 J],.int .i64 0,.int .i64 0])/\w'.ownsRow w.heap.size 5 1 (.slice A 1024 D) 1024 (byC (td b))/\w'.ownsRow w.heap.size 4 1 (.slice la 1024 G) 1024 (boC b.laid)/\w'.ownsRow w.heap.size 4 1 (.slice I 1024 J) 1024 (boC b.starts)
abbrev set3(w:World)(rb:Nat)(x y z:Value):World:=((w.setCell ⟨rb,0,none⟩ x).setCell ⟨rb,1,none⟩ y).setCell ⟨rb,2,none⟩ z
theorem EO{w:World}{rb:Nat}{p q r:Value}(h:w.heap[rb]?=some (.cells #[p,q,r] 35))(x y z:Value):(set3 w rb x y z).heap[rb]?=some (.cells #[x,y,z] 35):=
 lq _ rb 2 #[x,y,r] _ z (lq _ rb 1 #[x,q,r] _ y (lq w rb 0 #[p,q,r] _ x h))
theorem AV{w A:World}{rb:Nat}{a:Act}{k n:Nat}{o:Except (Nat×Nat) RAsm}(ho:.error (k,n)=o)(hz:A.heap[rb]?=some (.cells #[.slice none 0 0,.slice none 0 0,.slice none 0 0] 35))(G:Below w.heap.size w A)(D:w.heap.size<=rb)(hd:a.defers=[])(h2:a.tmps.getD 2 undef=.pointer (some ⟨rb,0,none⟩))(h3:a.tmps.getD 3 undef=.int .i64 (k:Int))(h4:a.tmps.getD 4 undef=.int .i64 (n:Int)):bodyPost prog f22 (zZ w o) .ret a (set3 A rb (.slice none 0 0) (.slice none 0 0) (.slice none 0 0)):=by
 subst ho;refine kf (v:=.tuple #[.agg #[.slice none 0 0,.slice none 0 0,.slice none 0 0],.int .i64 (k:Int),.int .i64 (n:Int)]) ?_ hd ⟨((G.setCell D _).setCell D _).setCell D _,rfl⟩;have:=I1 (P:=prog) results22 a.tmps (set3 A rb (.slice none 0 0) (.slice none 0 0) (.slice none 0 0)) rb _ _ _ _ h2 (EO hz _ _ _) underlying35 rfl Tryz.infoImI;rw[h3,h4]at this;exact this
theorem Z8F(s:ByteArray)(hs:2000<s.size)(w:World):Calls prog 22 #[.string s] w (zZ w (tz s)):=by
 have ho:.error (1,0)=tz s:=by unfold tz;rw[jT hs]
 obtain⟨R,D⟩:=Zg0 (tz s);rw[D]at ho⊢;have J:=oP ho;have M:(2000:Int)<(s.size:Int):=ae;obtain⟨G,Kv⟩:=Zg0 (w.alloc (.cells #[.slice none 0 0,.slice none 0 0,.slice none 0 0] 35));have I:Hid (G.heap[w.heap.size]?=some (.cells #[.slice none 0 0,.slice none 0 0,.slice none 0 0] 35)):=dO;have HB:Hid (Below w.heap.size w G):=cU;obtain⟨z0,O,z2,A⟩:=wH I.o;have S:=A 0;have U:=A 1;have V:=A 2;clear ho D A hs;go_enter func22,ntmps22;go_wp2_with fail;exact AV J.o I.o HB.o jU rfl rfl rfl rfl
theorem Gg:∀(sts:List St) (xs:List RLine) (i:Nat) (D b:RAsm) (a:Asm) (b1:RAsm) (F:Nat->Bool),RelL i D sts xs b->SF a b1 F->b1.L=b.L->b1.pl=D.pl->match flL a sts with
  |.error e=>∃m,flR i b1 xs=.error (m,e.2)/\(m:Int)=e.1
  |.ok a2=>∃b2,flR i b1 xs=.ok b2/\SF a2 b2 fun k=>F k||vp sts k
 |[],[],i,D,b,a,b1,F,_,h,_,_=>⟨b1,rfl,by simpa [vp]using h⟩
 |st::sts,x::xs,i,D,b,a,b1,F,G,h,I,J=>by
  obtain⟨⟨r1,r2,O,U,V,Z,r7⟩,R⟩:=G
  obtain⟨M,hM⟩:=R.L
  have hs:=Z4d h O (J.trans r2.symm) V U Z
  have hpl:=Fc (b:=b1) O r7 J ⟨M,by rw[I];exact hM⟩
  unfold wY at hs
  rw[flL,flR]
  cases hf:sV a st.pl st.x with
  |error k=>
   rw[hf]at hs
   have A:((pz b1 x).1:Int)=k/\k≠0:=hs
   rw[jS (fun e=>A.2 (by rw[<-A.1,e];rfl))]
   exact⟨_,by rw[r1],A.1⟩
  |ok a2=>
   rw[hf]at hs
   have A:(pz b1 x).1=0/\SF a2 (pz b1 x).2 _:=hs
   rw[jT A.1]
   have ih:=Gg sts xs (i+1) (oT D x).2 b a2 (pz b1 x).2 _ R A.2 ((FE b1 x).trans I) hpl
   show match flL a2 sts with
    |.error e=>_
    |.ok a3=>_
   cases S:flL a2 sts with
   |error e=>
    rw[S]at ih
    exact ih
   |ok a3=>
    rw[S]at ih
    obtain⟨b2,h1,h2⟩:=ih
    refine⟨b2,h1,?_⟩
    have e:(fun k=>F k||vp (st::sts) k)=fun k=>(F k||rZ st.pl (pE st.x.task st.x.vals.length st.x.ins.size) k)||vp sts k:=by
     funext k
     unfold vp
     rw[lN,nJ]
    rw[e]
    exact h2
 |[],_::_,_,_,_,_,_,_,G,_,_,_=>G.elim
 |_::_,[],_,_,_,_,_,_,G,_,_,_=>G.elim
def sT:Stm:=⟨0,⟨#[]⟩,[],re⟩
theorem Z3D:sd ⟨#[]⟩=some (⟨#[]⟩,sT):=aj
theorem Z4J{a:Asm}(A:a.pl<=1024)(hn:a.n<=40):py a ⟨#[]⟩ sT=.ok a:=by
 unfold py;have h1:cuF a.nm ⟨#[]⟩ sT.task sT.name sT.vals=true:=by simp[cuF,sT,pW,pq,qz]
 have h2:cgF a.nm a.n (pW ⟨#[]⟩ sT.task sT.name)=none:=by
  show cgF a.nm a.n []=none;unfold cgF;rw[jS af,jS ai]
 have h3:tq a.pl (pE sT.task sT.vals.length sT.ins.size) a.laid=none:=by
  show tq a.pl 0 a.laid=none;unfold tq;rw[jS ae,jS af]
 rw[h1,jS ah,h2];show (if pB sT.vals=true then _ else _)=_;rw[jS ah];dsimp only;rw[jT rfl,jS ah,jS ah,jS ah,h3];rfl
theorem Em:∀(ls:List ByteArray) (i:Nat) (a:Asm),match rdL i a ls with
  |.error e=>rdL i a (ls++[⟨#[]⟩])=.error e
  |.ok r=>r.2.pl<=1024->r.2.n<=40->∃n,rdL i a (ls++[⟨#[]⟩])=.ok (r.1++[⟨n,r.2.pl,⟨#[]⟩,sT⟩],r.2)
 | [],i,a=>fun D hn=>⟨i+1,by
   show rdL i a [⟨#[]⟩]=_
   rw[rdL,Z3D]
   show (match py a ⟨#[]⟩ sT with
    |.error k=>.error (k,i+1)
    |.ok b=>match rdL (i+1) b [] with
     |.error e=>.error e
     | .ok r=>.ok (⟨i+1,a.pl,⟨#[]⟩,sT⟩::r.1,r.2):Except (Int×Nat) (List St×Asm))=_
   rw[Z4J D hn]
   rfl⟩
 |t::ls,i,a=>by
  rw[mU,rdL,rdL]
  cases sd t with
  |none=>rfl
  |some q=>
   show match (match py a q.1 q.2 with
    |.error k=>.error (k,i+1)
    |.ok b=>match rdL (i+1) b ls with
     |.error e=>.error e
     | .ok r=>.ok (⟨i+1,a.pl,q.1,q.2⟩::r.1,r.2):Except (Int×Nat) (List St×Asm)) with
    | .error e=>(match py a q.1 q.2 with
     |.error k=>.error (k,i+1)
     |.ok b=>match rdL (i+1) b (ls++[⟨#[]⟩]) with
      |.error e=>.error e
      | .ok r=>.ok (⟨i+1,a.pl,q.1,q.2⟩::r.1,r.2):Except (Int×Nat) (List St×Asm))=.error e
    | .ok r=>r.2.pl<=1024->r.2.n<=40->∃n,(match py a q.1 q.2 with
     |.error k=>.error (k,i+1)
     |.ok b=>match rdL (i+1) b (ls++[⟨#[]⟩]) with
      |.error e=>.error e
      | .ok r=>.ok (⟨i+1,a.pl,q.1,q.2⟩::r.1,r.2):Except (Int×Nat) (List St×Asm))=.ok (r.1++[⟨n,r.2.pl,⟨#[]⟩,sT⟩],r.2)
   cases py a q.1 q.2 with
   |error k=>rfl
   |ok b=>
    have ih:=Em ls (i+1) b
    cases A:rdL (i+1) b ls with
    |error e=>
     rw[A]at ih
     simp only[A]
     rw[show rdL (i+1) b (ls++[⟨#[]⟩])=.error e from ih]
    |ok r=>
     rw[A]at ih
     simp only[A]
     intro D hn
     obtain⟨n,h⟩:=ih D hn
     exact⟨n,by rw[h];rfl⟩
theorem Im(n p:Nat):∀(sts:List St) (a:Asm),flL a (sts++[⟨n,p,⟨#[]⟩,sT⟩])=flL a sts
 |[],a=>rfl
 |st::sts,a=>by
  rw[mU,flL,flL]
  cases sV a st.pl st.x with
  |error k=>rfl
  |ok b=>exact Im n p sts b
theorem Z62{a b:Asm}{lb:ByteArray}{x:Stm}(h:py a lb x=.ok b):b.bytes=a.bytes:=by
 have A:(if lb=⟨#[]⟩ then a else a.put lb (a.pl:Int)).bytes=a.bytes:=by split <;> rfl
 unfold py at h;dsimp only at h;generalize (if lb=⟨#[]⟩ then a else a.put lb (a.pl:Int))=c at h A;repeat' split at h
 all_goals first| (cases h;exact A)|cases h
theorem FB:∀(ls:List ByteArray) (i:Nat) (a:Asm) (r:List St×Asm),rdL i a ls=.ok r->r.2.bytes=a.bytes
 |[],i,a,r,h=>by cases h;rfl
 |t::ls,i,a,r,h=>by
  rw[rdL]at h
  split at h
  ·cases h
  split at h
  ·cases h
  rename_i hs
  split at h
  ·cases h
  rename_i A
  cases h
  exact(FB ls _ _ _ A).trans (Z62 hs)
theorem Z37(a:RAsm)(x:RLine):(oT a x).2.bytes=a.bytes:=by
 have A:=(CK a x).2.2.2;unfold oT;repeat' split
 all_goals exact A
theorem RelL.bytes:∀ {i:Nat} {A:RAsm} {sts:List St} {xs:List RLine} {b:RAsm},RelL i A sts xs b->b.bytes=A.bytes
 |_,_,[],[],_,h=>by rw[show _=_ from h]
 |_,A,_::_,x::_,_,h=>(RelL.bytes h.2).trans (Z37 A x)
 |_,_,[],_::_,_,h=>h.elim
 |_,_,_::_,[],_,h=>h.elim
theorem Z9N{a b:Asm}{p:Nat}{x:Stm}(h:sV a p x=.ok b):b.laid=a.laid:=by
 unfold sV at h;repeat' split at h
 all_goals first| (cases h;rfl)|cases h
theorem IG:∀(sts:List St) (a b:Asm),flL a sts=.ok b->b.laid=a.laid
 |[],a,b,h=>by cases h;rfl
 |st::sts,a,b,h=>by
  rw[flL]at h
  split at h
  ·cases h
  rename_i hf
  exact(IG sts _ _ h).trans (Z9N hf)
theorem sm0:SM tc rasm0:=⟨fun _ _=>rfl,rfl,rfl,rfl,rfl,ah,ah,fun _ _ h=>by cases h⟩
theorem Z1n(s:ByteArray):match rC s with
  |.error e=>∃m,tz s=.error (m,e.2)/\(m:Int)=e.1
  |.ok a=>∃b,tz s=.ok b/\a.laid=b.laid/\a.starts=b.starts/\a.bytes=td b:=by
 by_cases h2:2000<s.size
 ·have e1:rC s=.error (1,0):=by unfold rC;rw[jT h2]
  have e2:tz s=.error (1,0):=by unfold tz;rw[jT h2]
  rw[e1,e2];exact⟨1,rfl,rfl⟩
 have e2:tz s=xR (sJ s):=by unfold tz;rw[jS h2]
 rw[Z9c ae,e2];obtain⟨e,he,S⟩:=Is (s.size+1) s ae;have G:=Fm (sJ s) 0 tc rasm0 sm0 ld
 have U:xx (rM s)=xx (sJ s):=by
  rw[S];rcases he with rfl|rfl
  ·rw[kX];rfl
  show xx (sJ s++[⟨#[]⟩])=_;have hs:=Em (sJ s) 0 tc;unfold xx;cases I:rdL 0 tc (sJ s) with
  |error e=>
   rw[I]at hs;rw[show rdL 0 tc (sJ s++[⟨#[]⟩])=.error e from hs]
  |ok r=>
   rw[I]at hs G;obtain⟨q,_,hq,_⟩:=G;obtain⟨n,hn⟩:=hs hq.fit hq.le;rw[hn];exact Im n _ r.1 r.2
 rw[U];unfold xx xR;cases I:rdL 0 tc (sJ s) with
 |error e=>
  rw[I]at G;obtain⟨m,h1,h3⟩:=G;rw[h1];exact⟨m,rfl,h3⟩
 |ok r=>
  rw[I]at G;obtain⟨q,h1,A,hrel,Kl,M⟩:=G;rw[h1]
  show match flL r.2 r.1 with
   |.error e=>∃m,flR 0 {q.2 with pl:=0} q.1=.error (m,e.2)/\(m:Int)=e.1
   |.ok a=>∃b,flR 0 {q.2 with pl:=0} q.1=.ok b/\a.laid=b.laid/\a.starts=b.starts/\a.bytes=td b
  have O:r.2.bytes=b255/\q.2.bytes=List.replicate 1024 0:=⟨FB _ _ _ _ I,hrel.bytes⟩
  have V:SF r.2 {q.2 with pl:=0} (fun _=>false):=⟨A.nm,A.laid,A.starts,by rw[O.1];exact ld,by show q.2.bytes.length=1024;rw[O.2];exact ld,fun _ _ h=>(by cases h),fun i hi _=>by
   rw[O.1];unfold b255;rw[mG,jT hi]⟩
  have J:=Gg r.1 q.1 0 rasm0 q.2 r.2 {q.2 with pl:=0} (fun _=>false) hrel V rfl rfl;cases hf:flL r.2 r.1 with
  |error e=>rw[hf]at J;exact J
  |ok a=>
   rw[hf]at J;obtain⟨b,Z,D⟩:=J;refine⟨b,Z,D.laid,D.starts,?_⟩;have PN:a.laid=r.2.laid:=IG _ _ _ hf;apply List.ext_getElem?;intro i;unfold td;by_cases hi:i<1024
   ·rw[kS,nk hi];show _=some (if b.laid.getD i false=true then b.bytes.getD i 0 else 255);have hc:=M i
    have h0:tc.laid.getD i false=false:=by
     rw[jZ];show (bF[i]?).getD false=false;unfold bF;rw[mG,jT hi];rfl
    rw[h0,mN,<- PN,D.laid]at hc;rw[hc];cases R:vp r.1 i with
    |true=>
     rw[jT rfl,D.same i hi (by simp[R]),jZ,jX (by rw[D.lb];exact hi)];rfl
    |false=>
     rw[jS ah];exact D.un i hi (by simp[R])
   rw[mg (by rw[D.la];omega),mg ai]
theorem Fi{L:List (ByteArray×Int)}{s:ByteArray}(h:rD L s=0):L.length≠40:=by
 intro e;unfold rD at h;rw[jT e]at h;exact absurd (rr h).2 ah
theorem y9{a:RAsm}{x:RLine}(h:pX a x=0)(A:a.L.length<=40):(oS a x).L.length<=40:=by
 unfold pX at h;unfold oS;by_cases c:x.label=⟨#[]⟩
 ·rw[jT c];exact A
 rw[jS c]at h⊢;have:=Fi (rr h).2;show (a.L++[_]).length<=40;rw[kq];simp;omega
theorem Z6U{a:RAsm}{x:RLine}(h:(oT a x).1=0)(A:a.L.length<=40):(oT a x).2.L.length<=40:=by
 unfold oT at h⊢;by_cases c0:x.what=⟨#[]⟩
 ·rw[jT c0]at h⊢;exact y9 h A
 rw[jS c0]at h⊢;by_cases c1:x.what=wORG\/x.what=wDS\/x.what=wEQU
 ·rw[jT c1]at h⊢;by_cases c2:x.what=wEQU
  ·rw[jT c2]at h⊢;have h1:=y9 (rr (rr h).1).1 A;have h2:=Fi (rr h).2;show ((oS a x).L++[_]).length<=40;rw[kq];simp;omega
  rw[jS c2]at h⊢;by_cases c3:(rVF (oS a x).L (a.pl:Int) (x.ops.getD 0 op0).e 0 0).2=0
  ·rw[jS (fun q=>q c3)]at h⊢;by_cases c4:x.what=wORG
   ·rw[jT c4]at h⊢;by_cases c5:(rVF (oS a x).L (a.pl:Int) (x.ops.getD 0 op0).e 0 0).1<0\/1023<(rVF (oS a x).L (a.pl:Int) (x.ops.getD 0 op0).e 0 0).1
    ·rw[jT c5]at h;exact absurd (rr h).2 ah
    rw[jS c5]at h⊢;exact y9 h A
   rw[jS c4]at h⊢;by_cases c5:(rVF (oS a x).L (a.pl:Int) (x.ops.getD 0 op0).e 0 0).1<0\/1024<(a.pl:Int)+(rVF (oS a x).L (a.pl:Int) (x.ops.getD 0 op0).e 0 0).1
   ·rw[jT c5]at h;exact absurd (rr h).2 ah
   rw[jS c5]at h⊢;exact y9 h A
  exact McQ
 rw[jS c1]at h⊢;by_cases c2:1024<a.pl+pg x
 ·rw[jT c2]at h;exact absurd (rr h).2 ah
 rw[jS c2]at h⊢;by_cases c3:true∈(a.laid.drop a.pl).take (pg x)
 ·have h':(if true∈(a.laid.drop a.pl).take (pg x) then oU (pX a x) 7 else pX a x)=0:=h;rw[jT c3]at h';exact absurd (rr h').2 ah
 have h':(if true∈(a.laid.drop a.pl).take (pg x) then oU (pX a x) 7 else pX a x)=0:=h;rw[jS c3]at h';exact y9 h' A
theorem Z8E{a:RAsm}{x:RLine}(h:(oT a x).1=0)(A:a.pl<=1024):(oT a x).2.pl<=1024:=by
 have D:=(CK a x).1;unfold oT at h⊢;by_cases c0:x.what=⟨#[]⟩
 ·rw[jT c0];exact D ▸ A
 rw[jS c0]at h⊢;by_cases c1:x.what=wORG\/x.what=wDS\/x.what=wEQU
 ·rw[jT c1]at h⊢;by_cases c2:x.what=wEQU
  ·rw[jT c2];exact D ▸ A
  rw[jS c2]at h⊢;by_cases c3:(rVF (oS a x).L (a.pl:Int) (x.ops.getD 0 op0).e 0 0).2=0
  ·rw[jS (fun q=>q c3)]at h⊢;by_cases c4:x.what=wORG
   ·rw[jT c4]at h⊢;by_cases c5:(rVF (oS a x).L (a.pl:Int) (x.ops.getD 0 op0).e 0 0).1<0\/1023<(rVF (oS a x).L (a.pl:Int) (x.ops.getD 0 op0).e 0 0).1
    ·rw[jT c5]at h;exact absurd (rr h).2 ah
    rw[jS c5];show (rVF (oS a x).L (a.pl:Int) (x.ops.getD 0 op0).e 0 0).1.toNat<=1024;omega
   rw[jS c4]at h⊢;by_cases c5:(rVF (oS a x).L (a.pl:Int) (x.ops.getD 0 op0).e 0 0).1<0\/1024<(a.pl:Int)+(rVF (oS a x).L (a.pl:Int) (x.ops.getD 0 op0).e 0 0).1
   ·rw[jT c5]at h;exact absurd (rr h).2 ah
   rw[jS c5];show a.pl+(rVF (oS a x).L (a.pl:Int) (x.ops.getD 0 op0).e 0 0).1.toNat<=1024;omega
  exact McQ
 rw[jS c1]at h⊢;by_cases c2:1024<a.pl+pg x
 ·rw[jT c2]at h;exact absurd (rr h).2 ah
 rw[jS c2];show a.pl+pg x<=1024;omega
theorem Z6V{A b:RAsm}{x:RLine}(h:(oT A x).1=0)(h0:A.pl<=1024)(I:b.pl=A.pl)(J:∃M,b.L=(oT A x).2.L++M)(hn:x.what=wINS->x.ops.length=x.ent.2.2.2.length):Cl b x:=by
 obtain⟨M,O⟩:=J;obtain⟨R,D⟩:=Cz A x;have G:b.L=(oS A x).L++(R++M):=by rw[O,D,mS]
 refine⟨?_,fun hw=>?_,hn⟩
 ·rw[I];by_cases c0:x.what=⟨#[]⟩\/x.what=wORG\/x.what=wDS\/x.what=wEQU
  ·have:pg x=0:=by
    unfold pg;rcases c0 with e|e|e|e <;> rw[e,jS ah,jS ah,jS ah]
   omega
  unfold oT at h;rw[jS (fun e=>c0 (.inl e)),jS (fun e=>c0 (.inr e))]at h;by_cases c2:1024<A.pl+pg x
  ·rw[jT c2]at h;exact absurd (rr h).2 ah
  omega
 have c0:¬x.what=⟨#[]⟩:=by rcases hw with e|e <;> rw[e] <;> decide
 have c1:x.what=wORG\/x.what=wDS\/x.what=wEQU:=by rcases hw with e|e;exact .inl e;exact .inr (.inl e)
 have c2:¬x.what=wEQU:=by rcases hw with e|e <;> rw[e] <;> decide
 unfold oT at h;rw[jS c0,jT c1,jS c2]at h;by_cases c3:(rVF (oS A x).L (A.pl:Int) (x.ops.getD 0 op0).e 0 0).2=0
 ·rw[jS (fun q=>q c3)]at h;rw[G,I,zr (by rw[c3];decide)];by_cases c4:x.what=wORG
  ·rw[jT c4]at h;by_cases c5:(rVF (oS A x).L (A.pl:Int) (x.ops.getD 0 op0).e 0 0).1<0\/1023<(rVF (oS A x).L (A.pl:Int) (x.ops.getD 0 op0).e 0 0).1
   ·rw[jT c5]at h;exact absurd (rr h).2 ah
   omega
  rw[jS c4]at h;by_cases c5:(rVF (oS A x).L (A.pl:Int) (x.ops.getD 0 op0).e 0 0).1<0\/1024<(A.pl:Int)+(rVF (oS A x).L (A.pl:Int) (x.ops.getD 0 op0).e 0 0).1
  ·rw[jT c5]at h;exact absurd (rr h).2 ah
  omega
 exact McQ
structure LnK(a:RAsm)(x:RLine):Prop where
 ok:(oT a x).1=0
 pl:a.pl<=1024
 b:LnB x
 s:LnS x
 n:x.what=wINS->x.ops.length=x.ent.2.2.2.length
 m:∃q,sx q x
def RdO:RAsm->List RLine->RAsm->Prop
 |a,[],b=>a=b
 |a,x::xs,b=>LnK a x/\RdO (oT a x).2 xs b
theorem RdO.snoc:∀ {a:RAsm} {xs:List RLine} {b:RAsm} {x:RLine},RdO a xs b->LnK b x->RdO a (xs++[x]) (oT b x).2
 |_,[],_,_,h,k=>by
  have e:_=_:=h
  subst e
  exact⟨k,rfl⟩
 |_,_::_,_,_,h,k=>⟨h.1,h.2.snoc k⟩
theorem RdO.L:∀ {a:RAsm} {xs:List RLine} {b:RAsm},RdO a xs b->∃M,b.L=a.L++M
 |_,[],_,h=>by
  have e:_=_:=h
  subst e
  exact⟨[],(kX _).symm⟩
 |a,x::_,_,h=>by
  obtain⟨M,A⟩:=RdO.L h.2
  obtain⟨N,D⟩:=Cz a x
  obtain⟨K,G⟩:=JP a x
  exact⟨K++N++M,by rw[A,D,G];simp⟩
theorem RdO.second{A b1 b:RAsm}{x:RLine}{xs:List RLine}(h:RdO A (x::xs) b)(D:b1.pl=A.pl)(G:b1.L=b.L):Cl b1 x/\(pz b1 x).2.pl=(oT A x).2.pl/\(pz b1 x).2.L=b.L:=by
 obtain⟨M,J⟩:=RdO.L h.2;have I:∃M,b1.L=(oT A x).2.L++M:=⟨M,G.trans J⟩;obtain⟨q,hq⟩:=h.1.m;exact⟨Z6V h.1.ok h.1.pl D I h.1.n,Fc (lb:=q.1) (x:=q.2) hq h.1.ok D I,(FE b1 x).trans G⟩
def vD(xs:List RLine):Except (Nat×Nat) (List RLine×RAsm)->Except (Nat×Nat) (List RLine×RAsm)
 |.error e=>.error e
 |.ok r=>.ok (xs++r.1,r.2)
theorem Z2x(o:Except (Nat×Nat) (List RLine×RAsm)):vD [] o=o:=by cases o <;> rfl
theorem Z8X{i:Nat}{a:RAsm}{t:ByteArray}{l:List ByteArray}(xs:List RLine)(h:qE (rlT t)=none):vD xs (rdR i a (t::l))=.error (2,i+1):=by
 rw[rdR,h];rfl
theorem Z5r{i:Nat}{a:RAsm}{t:ByteArray}{l:List ByteArray}{x:RLine}(xs:List RLine)(h:qE (rlT t)=some x)(h0:(oT a x).1≠0):vD xs (rdR i a (t::l))=.error ((oT a x).1,i+1):=by
 rw[rdR,h];show vD xs (if (oT a x).1=0 then _ else _)=_;rw[jS h0];rfl
theorem Z0x{i:Nat}{a:RAsm}{t:ByteArray}{l:List ByteArray}{x:RLine}(xs:List RLine)(h:qE (rlT t)=some x)(h0:(oT a x).1=0):vD xs (rdR i a (t::l))=vD (xs++[x]) (rdR (i+1) (oT a x).2 l):=by
 rw[rdR,h];show vD xs (if (oT a x).1=0 then _ else _)=_;rw[jT h0];cases rdR (i+1) (oT a x).2 l with
 |error e=>rfl
 |ok r=>simp[vD]
theorem Z4A{t:ByteArray}{x:RLine}(h:qE (rlT t)=some x):∃q,sx q x:=by
 have A:=Fy t;cases hq:sd t with
 |none=>
  rw[hq]at A;have D:qE (rlT t)=none:=A;rw[D]at h;cases h
 |some q=>
  rw[hq]at A;obtain⟨r,G,I⟩:=A;have J:qE (rlT t)=some r:=G;rw[J]at h;cases h;exact⟨q,I⟩
theorem Hd:∀(F:Nat) (l:List UInt8),(tL F l).length<=F/\∀t∈tL F l,t.size<=l.length
 |0,_=>⟨jU,fun t h=>by cases h⟩
 |F+1,l=>by
  rw[tL]
  have A:=lp List.length (T1h (p:=fun c=>decide (c≠(10:UInt8))) (l:=l))
  rw[kq]at A
  cases hd:l.dropWhile (fun c=>decide (c≠10)) with
  |nil=>
   show (if l=[] then [] else [(⟨l.toArray⟩:ByteArray)]).length<=F+1/\∀t∈(if l=[] then [] else [(⟨l.toArray⟩:ByteArray)]),t.size<=l.length
   by_cases c:l=[]
   ·rw[jT c]
    exact⟨j4,fun t h=>by cases h⟩
   rw[jS c]
   refine⟨af,fun t h=>?_⟩
   rw[lu.1 h]
   show l.toArray.size<=_
   simp
  |cons c r=>
   rw[hd,kh]at A
   obtain⟨h1,h2⟩:=Hd F r
   refine⟨dD,fun t h=>?_⟩
   rcases kF.1 h with q|q
   ·rw[q]
    show (l.takeWhile fun c=>decide (c≠10)).toArray.size<=_
    simp only[lJ]
    omega
   have:=h2 t q
   omega
theorem Z1D(s:ByteArray)(hs:s.size<=2000):(sJ s).length<=2001/\∀t∈sJ s,t.size<=2000:=by
 obtain⟨h1,h2⟩:=Hd (s.size+1) s.data.toList;refine⟨j8 h1 ae,fun t h=>j8 (h2 t h) ?_⟩;have:s.data.toList.length=s.size:=aK;omega
structure ASt(w wr:World)(rb ab:Nat)(lv va:Value)(ls:List ByteArray)(xs:List RLine)(vs:List (Value×Value))(a:RAsm):Prop where
 bw:Below w.heap.size w wr
 im:wr.heap[rb]?=some (.cells #[.slice none 0 0,.slice none 0 0,.slice none 0 0] 35)
 ram:RAM wr ab (ab+1) a
 ln:wr.ownsRow (ab+1) 9 1 lv ls.length (xJ ls)
 all:AllR wr ab va xs vs
 lt:rb=w.heap.size/\ab=rb+1
theorem ASt.below{w wr D:World}{rb ab:Nat}{G I:Value}{ls:List ByteArray}{xs:List RLine}{vs:List (Value×Value)}{a:RAsm}(h:ASt w wr rb ab G I ls xs vs a)(A:Below wr.heap.size wr D):ASt w D rb ab G I ls xs vs a:=by
 obtain⟨l1,l2⟩:=h.lt;have J:=h.ram.lt;exact⟨h.bw.trans (A.mono h.bw.size),(A.block rb ae).trans h.im,h.ram.below A,uh h.ln A,h.all.below A,h.lt⟩
theorem ASt.chg{w wr D:World}{rb ab:Nat}{G I:Value}{ls:List ByteArray}{xs:List RLine}{vs:List (Value×Value)}{a b:RAsm}(h:ASt w wr rb ab G I ls xs vs a)(A:AChg wr D ab (ab+1))(J:RAM D ab (ab+1) b):ASt w D rb ab G I ls xs vs b:=by
 obtain⟨l1,l2⟩:=h.lt;have M:=h.ram.lt;exact⟨h.bw.trans (A.low ae lW h.bw.size),(A.block rb ae ae (.inl ae)).trans h.im,J,A.own h.ln lW ah,h.all.chg h.ram A,h.lt⟩
theorem ASt.snoc{w wr W G:World}{rb ab:Nat}{M I v2:Value}{ls:List ByteArray}{xs:List RLine}{vs:List (Value×Value)}{a:RAsm}{x:RLine}{v:Value×Value}(h:ASt w wr rb ab M I ls xs vs a)(h1:OpsIn wr v.1 x.ent.2.2.2)(h2:OpsR wr (ab+1) v.2 x.ops)(J:Below wr.heap.size wr W)(hn:G.ownsRow (ab+1) 92 8 v2 (xs.length+1) (vw xs vs++lnC x v))(D:W.grownBy G I.ownBlock):ASt w G rb ab M v2 ls (xs++[x]) (vs++[v]) a:=by
 obtain⟨l1,l2⟩:=h.lt;have A:=h.below J;have O:∀k,I.ownBlock=some k->ab+1<=k:=fun k hk=>(A.all.row.lt k hk).1
 have R:=A.ram.lt;exact⟨A.bw.grown D (j8 h.bw.size J.size) (fun k hk=>by have:=O k hk;omega),(D.block rb ae (fun q=>by have:=O rb q.symm;omega)).trans A.im,A.ram.ty A.all.row D,BI A.ln A.all.row D ah,h.all.snoc h1 h2 J hn D,h.lt⟩
theorem Tryz.infoLineA:(Tryz.prog.info? 92).map (fun i=>(i.zero,i.size,i.bytes))=some (some (.agg #[.string ⟨#[]⟩,.string ⟨#[]⟩,.string ⟨#[]⟩,.int .i64 0,.int .i64 0,.string ⟨#[]⟩,.slice none 0 0,.slice none 0 0]),8,128):=aj
theorem Z2p(w:World)(a b c d e f g h:Value)(t:TypeId):∀j v,[a,b,c,d,e,f,g,h][j]?=some v->(w.alloc (.cells #[a,b,c,d,e,f,g,h] t)).cell? ((⟨w.heap.size,0,none⟩:Addr).add j)=some v:=by
 intro j v A;rw[k9,kN,kM _ _ j #[a,b,c,d,e,f,g,h] t (0,0) (kg w _)];simpa using A
theorem Z2J{w D:World}{rb base:Nat}{a:Act}{b:RAsm}{o:Except (Nat×Nat) RAsm}(ho:.ok b=o)(hz:D.heap[rb]?=some (.cells #[.slice none 0 0,.slice none 0 0,.slice none 0 0] 35))(S:Below w.heap.size w D)(R:w.heap.size<=rb){G la I:Option Addr}{J M O:Nat}(U:D.ownsRow base 5 1 (.slice G 1024 J) 1024 (byC (td b)))(h6:D.ownsRow base 4 1 (.slice la 1024 M) 1024 (boC b.laid))(h7:D.ownsRow base 4 1 (.slice I 1024 O) 1024 (boC b.starts))(A:rb<base)(hd:a.defers=[])(h2:a.tmps.getD 2 undef=.pointer (some ⟨rb,0,none⟩))(h3:a.tmps.getD 3 undef=.int .i64 0)(h4:a.tmps.getD 4 undef=.int .i64 0):bodyPost prog f22 (zZ w o) .ret a (set3 D rb (.slice G 1024 J) (.slice la 1024 M) (.slice I 1024 O)):=by
 subst ho;have hw:w.heap.size<=base:=ae;refine kf (v:=.tuple #[.agg #[.slice G 1024 J,.slice la 1024 M,.slice I 1024 O],.int .i64 0,.int .i64 0]) ?_ hd ⟨((S.setCell R _).setCell R _).setCell R _,G,J,la,M,I,O,rfl,pC (qC (qC (qC U A) A) A) hw,pC (qC (qC (qC h6 A) A) A) hw,pC (qC (qC (qC h7 A) A) A) hw⟩;have:=I1 (P:=prog) results22 a.tmps (set3 D rb (.slice G 1024 J) (.slice la 1024 M) (.slice I 1024 O)) rb _ _ _ _ h2 (EO hz _ _ _) underlying35 rfl Tryz.infoImI;rw[h3,h4]at this;exact this
theorem Z1M(i:Nat)(b:RAsm):flR i b []=.ok b:=rfl
theorem Z00{i:Nat}{b:RAsm}{x:RLine}{xs:List RLine}(h:(pz b x).1=0):flR i b (x::xs)=flR (i+1) (pz b x).2 xs:=by rw[flR,jT h]
theorem Z83{i:Nat}{b:RAsm}{x:RLine}{xs:List RLine}(h:(pz b x).1≠0):flR i b (x::xs)=.error ((pz b x).1,i+1):=by rw[flR,jS h]
