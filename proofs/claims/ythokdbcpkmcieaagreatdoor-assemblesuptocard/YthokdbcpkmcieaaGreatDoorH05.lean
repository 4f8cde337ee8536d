import Derived.Test.YthokdbcpkmcieaaGreatDoorH04
set_option maxRecDepth 200000
set_option maxHeartbeats 16000000
namespace Go.Proofs.YthokdbcpkmcieaaGreatDoor
open RowKit Proofs.Tryz
variable{P:Prop}
def pk(c:Int):Nat:=(List.range 111).findIdx (hit c)
def ph(c:Int):List UInt8×List UInt8×Bool:=Lib.cut (rowAt (pk c)).2.2 [32]
def qZ(c:Int):List ByteArray:=pieces ⟨(ph c).2.1.toArray⟩
def o9(c:Int):List Nat:=(qZ c).map fun t=>(qa t).toNat
def qQ(c:Int):Int:=bits BinOp.and IntKind.u8 c ((rowAt (pk c)).2.1:Int)
theorem Z3c(n:Nat)(p:Nat->Bool):(List.range n).findIdx p<=n:=by
 have:=List.findIdx_le_length (p:=p) (xs:=List.range n);simpa using this
theorem EV(n:Nat)(p:Nat->Bool)(h:(List.range n).findIdx p<n):p ((List.range n).findIdx p)=true:=by
 have hw:(List.range n).findIdx p<(List.range n).length:=av;have:=List.findIdx_getElem (w:=hw);simpa using this
theorem AN(n:Nat)(p:Nat->Bool)(j:Nat)(h:j<(List.range n).findIdx p):p j=false:=by
 have:=List.not_of_lt_findIdx h;simpa using this
theorem zS(c:Int)(A:pk c≠111):pk c<111:=by
 have:pk c<=111:=Z3c 111 (hit c);omega
theorem Bl(c:Int)(A:pk c≠111):hit c (pk c)=true:=EV 111 (hit c) (zS c A)
theorem Ah(c:Int):∀j,j<pk c->hit c j=false:=fun j h=>AN 111 (hit c) j h
theorem yM(ks:List Nat):pD ks ks.length=pv ks:=by unfold pD pv;rw[mL]
theorem tA(c:Int):(o9 c).length=(qZ c).length:=by unfold o9;rw[kL]
theorem yZ(k:Nat):(qd k).size<=1000:=by
 by_cases h:k<17
 ·have A:∀k:Fin 17,(qd k.val).size<=1000:=by decide +kernel
  exact A ⟨k,h⟩
 unfold qd;rw[jZ,mg ai];exact j4
theorem yB(k:Nat)(b:ByteArray):0<=tQ k b/\tQ k b<=65535:=by
 have A:=zD b 0;have D:=zD b 1;unfold tQ;split
 ·omega
 split
 ·rw[Gp _ _ A.1 A.2 D.1 D.2];omega
 omega
def Db(c:Int):Bool:=decide (1<=(qZ c).length)&&decide ((qZ c).length<=3) &&
 (qZ c).all (fun t=>decide (t.size<=1000)&&decide (0<=qa t)&&decide (qd (qa t).toNat=t)&&decide ((qa t).toNat<17))&&decide (0<=qQ c)&&((o9 c).all fun k=>decide (k≠7/\k≠8)||decide (qQ c<8)) &&
 decide ((((rowAt (pk c)).1:Int)==133)=(c==133))&&(!(c==133)||decide (o9 c=[11,11]))&&decide ((ph c).2.1.length<1000)
def I9(c:Int):Bool:=decide ((ph c).2.1=[])&&!(((rowAt (pk c)).1:Int)==133)
def okD(c:Int):Bool:=if pk c=111 then true else decide ((rowAt (pk c)).2.2.length<1000)&&(if (ph c).2.2 then Db c else I9 c)
theorem Z3Z:(List.range 256).all (fun c=>okD (c:Int))=true:=aq
theorem Ee(x:UInt8):okD (x.toNat:Int)=true:=by
 have:=x.toNat_lt;exact kx.1 Z3Z x.toNat (lM.2 ae)
structure OpD(c:Int):Prop where
 n0:1<=(qZ c).length
 n1:(qZ c).length<=3
 ps:∀t∈qZ c,t.size<=1000/\0<=qa t/\qd (qa t).toNat=t/\(qa t).toNat<17
 own0:0<=qQ c
 own:∀k∈o9 c,(k≠7/\k≠8)\/qQ c<8
 same:(((rowAt (pk c)).1:Int)==133)=(c==133)
 swap:(c==133)=true->o9 c=[11,11]
 short:(ph c).2.1.length<1000
theorem I5(c:Int)(h:Db c=true):OpD c:=by
 simp only[Db,kB,kI,kx,mM,mW]at h;obtain⟨⟨⟨⟨⟨⟨⟨h1,h2⟩,h3⟩,h4⟩,A⟩,h6⟩,h7⟩,D⟩:=h;exact⟨h1,h2,fun t ht=>by have:=h3 t ht;exact⟨this.1.1.1,this.1.1.2,this.1.2,this.2⟩,h4,A,h6,fun hc=>h7.resolve_left (by rw[hc];simp),D⟩
theorem OpD.kind{c:Int}(h:OpD c)(j:Nat)(hj:j<(o9 c).length):(o9 c).getD j 0<17:=Mbv
theorem OpD.l0{c:Int}(h:OpD c)(code:ByteArray):(qZ c).map (opn (qQ c))=lAt (qQ c) (o9 c) code 0:=Max
theorem OpD.row{c:Int}(h:OpD c)(A:pk c≠111)(D:(rowAt (pk c)).2.2.length<1000)(hcut:(ph c).2.2=true)(code:ByteArray) :
  RowIs c (pk c) (o9 c).length ((rowAt (pk c)).1:Int) ((rowAt (pk c)).2.1:Int) ⟨(rowAt (pk c)).2.2.toArray⟩ ⟨(ph c).1.toArray⟩ ⟨(ph c).2.1.toArray⟩ (qZ c) (lAt (qQ c) (o9 c) code 0) where
 hk:=zS c A
 hh:=Bl c A
 hf:=Ah c
 e1:=rfl
 e2:=rfl
 e3:=rfl
 hs:=D
 hls:=h.short
 hcut:=by
  show Lib.cut (rowAt (pk c)).2.2 [32]=((ph c).1,(ph c).2.1,true)
  rw[<-hcut];rfl
 hps:=rfl
 hn:=(tA c).symm
 hn0:=eu
 hn1:=ew
 hpl:=fun t ht=>(h.ps t ht).1
 hkd:=fun t ht=>(h.ps t ht).2.1
 hk17:=fun t ht=>(h.ps t ht).2.2.2
 hl0:=h.l0 code
 hnm:=by
  have:(ph c).1.length<=(rowAt (pk c)).2.2.length:=by
   unfold ph Lib.cut
   split
   ·exact T0p _ _
   exact jU
  show (ph c).1.toArray.size<=1000
  rw[lJ]
  omega
theorem Ca(o:Opn)(h:o.Fine):(qn o).size<=2000:=by
 have hn:=h.name;unfold qn;split
 ·omega
 split
 ·rw[lK];have:=GW o.own h.own0 (h.own1 ae);omega
 repeat' split
 all_goals exact lh rfl
def xK(nm:ByteArray)(l:List Opn)(bh:Int):ByteArray:=(nm++⟨#[32]⟩)++⟨(Lib.join (l.map fun o=>(qn (o.at bh)).data.toList) [44]).toArray⟩
def uP(c:Int)(code:ByteArray):List Opn:=if (c==133)=true then ub (lAt (qQ c) (o9 c) code (o9 c).length) else lAt (qQ c) (o9 c) code (o9 c).length
def qR(code:ByteArray)(A:Int):ByteArray×Nat:=
 if h:0<code.size then
  if pk (code[0].toNat:Int)=111 then (⟨#[]⟩,0)
  else if (ph (code[0].toNat:Int)).2.2=false then (⟨(ph (code[0].toNat:Int)).1.toArray⟩,1)
  else if pv (o9 (code[0].toNat:Int))<=code.size then (xK ⟨(ph (code[0].toNat:Int)).1.toArray⟩ (uP (code[0].toNat:Int) code) (rK A (pv (o9 (code[0].toNat:Int)):Nat)),pv (o9 (code[0].toNat:Int)))
  else (⟨#[]⟩,0)
 else (⟨#[]⟩,0)
theorem Cr(own:Int)(ks:List Nat)(code:ByteArray)(i j:Nat)(bh:Int)(hk:ks.getD j 0<17)(own0:0<=own)(D:ks.getD j 0=7\/ks.getD j 0=8->own<100):((opA own ks code i j).at bh).Fine:=by
 have A:=yB (ks.getD j 0) (code.extract (pD ks j) (pD ks j+pw (ks.getD j 0)));refine⟨hk,own0,D,?_,?_,yZ _⟩
 ·show 0<=(if j<i then _ else (0:Int));split
  ·exact A.1
  omega
 show (if j<i then _ else (0:Int))<=65535;split
 ·exact A.2
 omega
theorem Z3j(code:ByteArray)(D:Int)(h:0<code.size)(I:code.size<=maxLen)(k:Nat)(rc J:Int)(M nm ls:ByteArray)(ps:List ByteArray)(ks:List Nat)(own:Int)
  (O:RowIs (code[0].toNat:Int) k ks.length rc J M nm ls ps (lAt own ks code 0)) (hk17:∀j,j<ks.length->ks.getD j 0<17) (R:pv ks<=code.size) (S:(rc==133)=false)
  (own0:0<=own) (G:∀j,j<ks.length->ks.getD j 0=7\/ks.getD j 0=8->own<100) (w:World) (m:Int) (U:w.cell? ⟨0,0,none⟩=some (.int .i64 m)) (h0:0<w.heap.size) :
  Calls prog 30 #[.string code,.int .i64 D] w fun e w'=>e=.returned (.tuple #[.string (xK nm (lAt own ks code ks.length) (rK D (pv ks:Nat))),.int .i64 (pv ks:Nat)])/\Below w.heap.size w w':=by
 have M5:=ym own ks code hk17 ks.length jU (by rw[yM];exact R)
 have LB:(code.size:Int)-((code.extract (pD ks ks.length) code.size).size:Int)=(pv ks:Int):=by
  rw[yM,kU];omega
 refine Gn code D m w h I U h0 _ _ _ _ _ _ _ _ _ O _ _ bf dr bf S ?_ ?_
 ·intro j A;rw[yu _ _ _ _ j A];exact Cr own ks code _ j _ (hk17 j A) own0 (G j A)
 intro j A;rw[yu _ _ _ _ j A];exact Ca _ (Cr own ks code _ j _ (hk17 j A) own0 (G j A))
theorem Z5z(code:ByteArray)(D:Int)(h:0<code.size)(S:code.size<=maxLen)(k:Nat)(rc G:Int)(I nm ls:ByteArray)(ps:List ByteArray)(own:Int)
  (U:RowIs (code[0].toNat:Int) k 2 rc G I nm ls ps (lAt own [11,11] code 0)) (V:3<=code.size) (Z:(rc==133)=true) (own0:0<=own)
  (w:World) (m:Int) (hm:w.cell? ⟨0,0,none⟩=some (.int .i64 m)) (h0:0<w.heap.size) :
  Calls prog 30 #[.string code,.int .i64 D] w fun e w'=>e=.returned (.tuple #[.string (xK nm (ub (lAt own [11,11] code 2)) (rK D ((3:Nat):Int))),.int .i64 ((3:Nat):Int)])/\Below w.heap.size w w':=by
 have hk17:∀j,j<([11,11]:List Nat).length->([11,11]:List Nat).getD j 0<17:=by
  intro j A;match j,A with
  |0,_=>exact(by decide:(11:Nat)<17)
  |1,_=>exact(by decide:(11:Nat)<17)
 have M5:=ym own [11,11] code hk17 2 jU (by show 3<=code.size;exact V)
 have LB:(code.size:Int)-((code.extract 3 code.size).size:Int)=((3:Nat):Int):=by
  rw[kU];omega
 have Oh:ub (lAt own [11,11] code 2)=[⟨11,qd 11,own,tQ 11 (code.extract 2 3),0⟩,⟨11,qd 11,own,tQ 11 (code.extract 1 2),0⟩]:=rfl;have Ko:=Ja code D m w h S hm h0 k 2 rc G I nm ls ps _ U (lAt own [11,11] code 2) ((3:Nat):Int) bf dr bf Z rfl;have J:=yB 11 (code.extract 1 2);have M:=yB 11 (code.extract 2 3);have O:¬((11:Nat)=7\/(11:Nat)=8):=ae
 have R:∀j,j<2->(((ub (lAt own [11,11] code 2)).getD j opn0).at (rK D ((3:Nat):Int))).Fine:=by
  intro j A;rw[Oh];match j,A with
  |0,_=>exact⟨dt,own0,fun h'=>(O h').elim,M.1,M.2,yZ 11⟩
  |1,_=>exact⟨dt,own0,fun h'=>(O h').elim,J.1,J.2,yZ 11⟩
 exact Ko R (fun j A=>Ca _ (R j A))
theorem JQ(code:ByteArray)(A:Int)(O:code.size<=maxLen)(w:World)(m:Int)(R:w.cell? ⟨0,0,none⟩=some (.int .i64 m))(h0:0<w.heap.size) :
  Calls prog 30 #[.string code,.int .i64 A] w fun e w'=>e=.returned (.tuple #[.string (qR code A).1,.int .i64 ((qR code A).2:Nat)])/\Below w.heap.size w w':=by
 unfold qR;by_cases h:0<code.size
 ·rw[mR h];have S:=Ee code[0];unfold okD at S;by_cases G:pk (code[0].toNat:Int)=111
  ·rw[jT G];exact I7 code A w h (fun j D=>AN 111 (hit _) j (by show j<pk _;omega))
  rw[jS G];rw[jS G]at S;simp only[kB,kI]at S;obtain⟨V,I⟩:=S;cases hcut:(ph (code[0].toNat:Int)).2.2 with
  |false=>
   rw[hcut]at I;simp only[nS,mB,I9,kB,kI,mW]at I;rw[jT rfl];refine IH code A m w h O R h0 _ (zS _ G) (Bl _ G) (Ah _) _ _ _ _ rfl rfl rfl V ?_ I.2;show Lib.cut (rowAt (pk (code[0].toNat:Int))).2.2 [32]=((ph (code[0].toNat:Int)).1,[],false);exact oB rfl (oB I.1 hcut)
  |true=>
   rw[hcut]at I;have ho:=I5 _ I;rw[jS ah];have U:=ho.row G V hcut code;by_cases J:pv (o9 (code[0].toNat:Int))<=code.size
   ·rw[jT J];cases M:((code[0].toNat:Int)==133) with
    |false=>
     have e:uP (code[0].toNat:Int) code=lAt (qQ (code[0].toNat:Int)) (o9 (code[0].toNat:Int)) code (o9 (code[0].toNat:Int)).length:=by unfold uP;rw[M];rfl
     rw[e];refine Z3j code A h O _ _ _ _ _ _ _ _ _ U (fun j D=>ho.kind j D) J (by rw[ho.same];exact M) ho.own0 (fun j D TM=>?_) w m R h0
     have Z:(o9 (code[0].toNat:Int)).getD j 0∈o9 (code[0].toNat:Int):=by
      rw[jZ,jX D];exact kC D
     rcases ho.own _ Z with h'|h'
     ·omega
     omega
    |true=>
     have QJ:=ho.swap M;have Sj:=ho.own0;have Lc:=ho.same;have e:uP (code[0].toNat:Int) code=ub (lAt (qQ (code[0].toNat:Int)) (o9 (code[0].toNat:Int)) code (o9 (code[0].toNat:Int)).length):=by unfold uP;rw[M];rfl
     rw[e];rw[QJ]at U J⊢;exact Z5z code A h O _ _ _ _ _ _ _ _ U J (by rw[Lc];exact M) Sj w m R h0
   rw[jS J];refine IX code A m w h O R h0 _ _ _ _ _ _ _ _ _ U ?_;exact Ds _ _ code h (fun j D=>ho.kind j D) _ jU (by rw[yM];omega)
 rw[nh h];have he:code.toList.isEmpty=true:=et;refine(Z0a code A w he).mono ?_;rintro e w' ⟨rfl,rfl⟩;exact⟨rfl,jV⟩
def sw(w:World):List (Nat×Nat×List UInt8×List (List UInt8))->World
 |[]=>w
 |(_,_,_,[])::r=>sw w r
 |(_,_,_,o::os)::r=>sw (w.alloc (.cells ((o::os).map fun x=>Value.string ⟨x.toArray⟩).toArray 9)) r
def pT(w:World):List (Nat×Nat×List UInt8×List (List UInt8))->List Value
 |[]=>[]
 |(c,m,n,[])::r=>.int .i64 c :: .int .i64 m :: .string ⟨n.toArray⟩ :: .slice none 0 0::pT w r
 |(c,m,n,o::os)::r=>.int .i64 c :: .int .i64 m :: .string ⟨n.toArray⟩ :: .slice (some ⟨w.heap.size,0,none⟩) (os.length+1) (os.length+1) ::
   pT (w.alloc (.cells ((o::os).map fun x=>Value.string ⟨x.toArray⟩).toArray 9)) r
theorem Ii(w:World) :
  Calls prog 133 #[] w fun e w'=>e=.returned (.slice (some ⟨(sw w sM).heap.size,0,none⟩) 2 2)/\w'=(sw w sM).alloc (.cells (pT w sM).toArray 89):=
 DK (.slice (some ⟨(sw w sM).heap.size,0,none⟩) 2 2) ((sw w sM).alloc (.cells (pT w sM).toArray 89)) func133 rfl aj ⟨rfl,rfl⟩
theorem Fh(w:World) :
  Calls prog 131 #[] w fun e w'=>e=.returned (.slice (some ⟨(sw w pa).heap.size,0,none⟩) 109 109)/\w'=(sw w pa).alloc (.cells (pT w pa).toArray 89):=
 DK (.slice (some ⟨(sw w pa).heap.size,0,none⟩) 109 109) ((sw w pa).alloc (.cells (pT w pa).toArray 89)) func131 rfl aj ⟨rfl,rfl⟩
theorem A2(n:Int):(ByteArray.mk #[48,49,50,51,52,53,54,55,56,57,65,66,67,68,69,70]).extract (n%16).toNat (n%16+1).toNat=⟨#[hd n]⟩:=by
 have A:∀k:Fin 16,(ByteArray.mk #[48,49,50,51,52,53,54,55,56,57,65,66,67,68,69,70]).extract k.val (k.val+1)=⟨#[(#[48,49,50,51,52,53,54,55,56,57,65,66,67,68,69,70]:Array UInt8).getD k.val 0]⟩:=aq;have D:0<=n%16/\n%16<16:=ae;have h:=A ⟨(n%16).toNat,ae⟩;rw[show (n%16+1).toNat=(n%16).toNat+1 by omega];exact h
theorem Ic(n:Int)(hn:0<=n)(A:n<=65535)(w:World) :
  Calls prog 56 #[.int .i64 n,.int .i64 1] w fun e w'=>e=.returned (.string ⟨#[hd n]⟩)/\w'=w:=by
 go_enter func56,ntmps56;go_wp2;refine lS 2 ?_;rw[kG];go_wp2;rw[kG];go_wp2;go_ret;refine⟨qY ?_,rfl⟩;rw[A2];rfl
theorem AI(n:Int)(hn:0<=n)(A:n<=65535)(w:World) :
  Calls prog 56 #[.int .i64 n,.int .i64 2] w fun e w'=>e=.returned (.string ⟨#[hd (n/16),hd n]⟩)/\w'=w:=by
 go_enter func56,ntmps56;go_wp2;refine lS 3 ?_;rw[kG];go_wp2;rw[kG];go_wp2;rw[kG];go_wp2;go_ret;refine⟨qY ?_,rfl⟩;rw[A2,A2];rfl
theorem yI(n:Int)(hn:0<=n)(A:n<=65535)(w:World) :
  Calls prog 56 #[.int .i64 n,.int .i64 4] w fun e w'=>e=.returned (.string ⟨#[hd (n/4096),hd (n/256),hd (n/16),hd n]⟩)/\w'=w:=by
 go_enter func56,ntmps56;go_wp2;refine lS 5 ?_;rw[kG];go_wp2;rw[kG];go_wp2;rw[kG];go_wp2;rw[kG];go_wp2;rw[kG];go_wp2;go_ret;refine⟨qY ?_,rfl⟩;rw[show n/4096=n/16/16/16 by omega,show n/256=n/16/16 by omega];simp only[A2];rfl
theorem Z2T(w:World):Calls prog 97 #[.string ⟨#[65]⟩] w fun e w'=>e=.returned (.int .i64 0)/\w'=w:=McC
theorem Z6J(w:World):Calls prog 97 #[.string ⟨#[65,66]⟩] w fun e w'=>e=.returned (.int .i64 0)/\w'=w:=McC
theorem Z22(w:World):Calls prog 97 #[.string ⟨#[67]⟩] w fun e w'=>e=.returned (.int .i64 0)/\w'=w:=McC
theorem Z9h(w:World):Calls prog 97 #[.string ⟨#[68,80,84,82]⟩] w fun e w'=>e=.returned (.int .i64 0)/\w'=w:=McC
theorem Z30(w:World):Calls prog 97 #[.string ⟨#[64,65,43,68,80,84,82]⟩] w fun e w'=>e=.returned (.int .i64 0)/\w'=w:=McC
theorem Z90(w:World):Calls prog 97 #[.string ⟨#[64,65,43,80,67]⟩] w fun e w'=>e=.returned (.int .i64 0)/\w'=w:=McC
theorem Z5d(w:World):Calls prog 97 #[.string ⟨#[64,68,80,84,82]⟩] w fun e w'=>e=.returned (.int .i64 0)/\w'=w:=McC
theorem Z7d(w:World):Calls prog 97 #[.string ⟨#[64,82]⟩] w fun e w'=>e=.returned (.int .i64 0)/\w'=w:=McC
theorem Z4c(w:World):Calls prog 97 #[.string ⟨#[82]⟩] w fun e w'=>e=.returned (.int .i64 0)/\w'=w:=McC
theorem Z9p(w:World):Calls prog 97 #[.string ⟨#[35,98,121,116,101]⟩] w fun e w'=>e=.returned (.int .i64 1)/\w'=w:=McC
theorem Z9v(w:World):Calls prog 97 #[.string ⟨#[35,119,111,114,100]⟩] w fun e w'=>e=.returned (.int .i64 2)/\w'=w:=McC
theorem Z7V(w:World):Calls prog 97 #[.string ⟨#[100,105,114]⟩] w fun e w'=>e=.returned (.int .i64 1)/\w'=w:=McC
theorem Z3V(w:World):Calls prog 97 #[.string ⟨#[98,105,116]⟩] w fun e w'=>e=.returned (.int .i64 1)/\w'=w:=McC
theorem Z0M(w:World):Calls prog 97 #[.string ⟨#[47,98,105,116]⟩] w fun e w'=>e=.returned (.int .i64 1)/\w'=w:=McC
theorem Z6n(w:World):Calls prog 97 #[.string ⟨#[97,100,100,114]⟩] w fun e w'=>e=.returned (.int .i64 2)/\w'=w:=McC
theorem Z8N(w:World):Calls prog 97 #[.string ⟨#[114,101,108]⟩] w fun e w'=>e=.returned (.int .i64 1)/\w'=w:=McC
theorem Z45(w:World):Calls prog 97 #[.string ⟨#[112,97,103,101]⟩] w fun e w'=>e=.returned (.int .i64 1)/\w'=w:=McC
theorem Ck(k:Nat)(h:k<17)(w:World):Calls prog 97 #[.string (qd k)] w fun e w'=>e=.returned (.int .i64 (pw k))/\w'=w:=by
 match k,h with
 |0,_=>exact Z2T w
 |1,_=>exact Z6J w
 |2,_=>exact Z22 w
 |3,_=>exact Z9h w
 |4,_=>exact Z30 w
 |5,_=>exact Z90 w
 |6,_=>exact Z5d w
 |7,_=>exact Z7d w
 |8,_=>exact Z4c w
 |9,_=>exact Z9p w
 |10,_=>exact Z9v w
 |11,_=>exact Z7V w
 |12,_=>exact Z3V w
 |13,_=>exact Z0M w
 |14,_=>exact Z6n w
 |15,_=>exact Z8N w
 |16,_=>exact Z45 w
 |n+17,h=>exact absurd h ae
theorem Z7I(b:ByteArray)(number code behind:Int)(w:World) :Calls prog 98 #[.string ⟨#[65]⟩,.string b,.int .i64 number,.int .i64 code,.int .i64 behind] w fun e w'=>e=.returned (.string ⟨#[65]⟩)/\w'=w:=McD
theorem Z9M(b:ByteArray)(number code behind:Int)(w:World) :Calls prog 98 #[.string ⟨#[65,66]⟩,.string b,.int .i64 number,.int .i64 code,.int .i64 behind] w fun e w'=>e=.returned (.string ⟨#[65,66]⟩)/\w'=w:=McD
theorem Z9O(b:ByteArray)(number code behind:Int)(w:World) :Calls prog 98 #[.string ⟨#[67]⟩,.string b,.int .i64 number,.int .i64 code,.int .i64 behind] w fun e w'=>e=.returned (.string ⟨#[67]⟩)/\w'=w:=McD
theorem Z3h(b:ByteArray)(number code behind:Int)(w:World) :Calls prog 98 #[.string ⟨#[68,80,84,82]⟩,.string b,.int .i64 number,.int .i64 code,.int .i64 behind] w fun e w'=>e=.returned (.string ⟨#[68,80,84,82]⟩)/\w'=w:=McD
theorem Z2c(b:ByteArray)(number code behind:Int)(w:World) :Calls prog 98 #[.string ⟨#[64,65,43,68,80,84,82]⟩,.string b,.int .i64 number,.int .i64 code,.int .i64 behind] w fun e w'=>e=.returned (.string ⟨#[64,65,43,68,80,84,82]⟩)/\w'=w:=McD
theorem Z2t(b:ByteArray)(number code behind:Int)(w:World) :Calls prog 98 #[.string ⟨#[64,65,43,80,67]⟩,.string b,.int .i64 number,.int .i64 code,.int .i64 behind] w fun e w'=>e=.returned (.string ⟨#[64,65,43,80,67]⟩)/\w'=w:=McD
theorem Z7y(b:ByteArray)(number code behind:Int)(w:World) :Calls prog 98 #[.string ⟨#[64,68,80,84,82]⟩,.string b,.int .i64 number,.int .i64 code,.int .i64 behind] w fun e w'=>e=.returned (.string ⟨#[64,68,80,84,82]⟩)/\w'=w:=McD
theorem Z1I(b:ByteArray)(number code behind:Int)(w:World)(h0:0<=number)(h1:number<=65535):Calls prog 98 #[.string ⟨#[64,82]⟩,.string b,.int .i64 number,.int .i64 code,.int .i64 behind] w fun e w'=>e=.returned (.string ⟨#[64,82,hd number]⟩)/\w'=w:=Mbj
theorem Z2k(b:ByteArray)(number code behind:Int)(w:World)(h0:0<=number)(h1:number<=65535):Calls prog 98 #[.string ⟨#[82]⟩,.string b,.int .i64 number,.int .i64 code,.int .i64 behind] w fun e w'=>e=.returned (.string ⟨#[82,hd number]⟩)/\w'=w:=Mbj
theorem Z8y(b:ByteArray)(number code behind:Int)(w:World)(A:b.size=1):Calls prog 98 #[.string ⟨#[35,98,121,116,101]⟩,.string b,.int .i64 number,.int .i64 code,.int .i64 behind] w fun e w'=>e=.returned (.string ⟨#[35,48,120,hd ((b[0].toNat:Int)/16),hd (b[0].toNat:Int)]⟩)/\w'=w:=MaH
theorem Z6C(b:ByteArray)(number code behind:Int)(w:World)(A:b.size=1):Calls prog 98 #[.string ⟨#[100,105,114]⟩,.string b,.int .i64 number,.int .i64 code,.int .i64 behind] w fun e w'=>e=.returned (.string ⟨#[48,120,hd ((b[0].toNat:Int)/16),hd (b[0].toNat:Int)]⟩)/\w'=w:=MaH
theorem Z9R(b:ByteArray)(number code behind:Int)(w:World)(A:b.size=1):Calls prog 98 #[.string ⟨#[98,105,116]⟩,.string b,.int .i64 number,.int .i64 code,.int .i64 behind] w fun e w'=>e=.returned (.string ⟨#[48,120,hd ((b[0].toNat:Int)/16),hd (b[0].toNat:Int)]⟩)/\w'=w:=MaH
theorem Z51(b:ByteArray)(number code behind:Int)(w:World)(A:b.size=1):Calls prog 98 #[.string ⟨#[47,98,105,116]⟩,.string b,.int .i64 number,.int .i64 code,.int .i64 behind] w fun e w'=>e=.returned (.string ⟨#[47,48,120,hd ((b[0].toNat:Int)/16),hd (b[0].toNat:Int)]⟩)/\w'=w:=MaH
theorem Maq(h:P:=by
 have ZI:(0:Int)<(b.size:Int):=ae;have Vn3:(1:Int)<(b.size:Int):=ae;have Ou:=(b[0]).toNat_lt;have XZ:=(b[1]).toNat_lt;have g0:(b[0].toNat:Int)<=255:=ae;have g1:(b[1].toNat:Int)<=255:=ae;have HX:=oP hx;have MR:0<=x:=ae;have MS:x<=65535:=ae;clear Ou XZ hx;go_enter func98,ntmps98;go_wp2_with fail;go_quiet ((go_at_call 56;exact nL (yI _ ae ae _)));go_wp2;go_ret;refine⟨qY ?_,below_drewN jV _⟩;rw[HX.o];exact sG _ _):P:=h
theorem Z76(b:ByteArray)(number code behind:Int)(w:World)(A:b.size=2)(x:Int)(hx:x=(256:Int)*(b[0].toNat:Int)+(b[1].toNat:Int)):Calls prog 98 #[.string ⟨#[35,119,111,114,100]⟩,.string b,.int .i64 number,.int .i64 code,.int .i64 behind] w fun e w'=>e=.returned (.string ⟨#[35,48,120,hd (x/4096),hd (x/256),hd (x/16),hd x]⟩)/\Below w.heap.size w w':=Maq
theorem Z3E(b:ByteArray)(number code behind:Int)(w:World)(A:b.size=2)(x:Int)(hx:x=(256:Int)*(b[0].toNat:Int)+(b[1].toNat:Int)):Calls prog 98 #[.string ⟨#[97,100,100,114]⟩,.string b,.int .i64 number,.int .i64 code,.int .i64 behind] w fun e w'=>e=.returned (.string ⟨#[48,120,hd (x/4096),hd (x/256),hd (x/16),hd x]⟩)/\Below w.heap.size w w':=Maq
theorem Z2b(b:ByteArray)(number code behind:Int)(w:World)(I:b.size=1)(h0:0<=behind)(h1:behind<=65535)(x:Int)(hx:x=(behind+(if (127:Int)<(b[0].toNat:Int) then (b[0].toNat:Int)-(256:Int) else (b[0].toNat:Int))+(65536:Int))%(65536:Int)):Calls prog 98 #[.string ⟨#[114,101,108]⟩,.string b,.int .i64 number,.int .i64 code,.int .i64 behind] w fun e w'=>e=.returned (.string ⟨#[48,120,hd (x/4096),hd (x/256),hd (x/16),hd x]⟩)/\Below w.heap.size w w':=by
 have J:0<b.size:=ae;have G:=(b[0]).toNat_lt;have g0:(b[0].toNat:Int)<=255:=ae;have D:=oP hx;have MR:0<=x:=ae;have MS:x<=65535:=ae;clear G hx;go_enter func98,ntmps98;by_cases A:(127:Int)<(b[0].toNat:Int)
 ·go_wp2_with fail;rw[show (behind+((b[0].toNat:Int)-256))%65536=x by rw[D.o,jT A];omega];exact MbQ
 go_wp2_with fail;rw[show (behind+(b[0].toNat:Int))%65536=x by rw[D.o,jS ae];omega];exact MbQ
theorem Z8I(b:ByteArray)(number code behind:Int)(w:World)(G:b.size=1)(h0:0<=behind)(h1:behind<=65535)(I:0<=code)(J:code<=255)(x:Int)(hx:x=behind/(2048:Int)*(2048:Int)+code/(32:Int)*(256:Int)+(b[0].toNat:Int))(MS:x<=65535):Calls prog 98 #[.string ⟨#[112,97,103,101]⟩,.string b,.int .i64 number,.int .i64 code,.int .i64 behind] w fun e w'=>e=.returned (.string ⟨#[48,120,hd (x/4096),hd (x/256),hd (x/16),hd x]⟩)/\Below w.heap.size w w':=by
 have M:0<b.size:=ae;have A:=(b[0]).toNat_lt;have g0:(b[0].toNat:Int)<=255:=ae;have D:=oP hx;have MR:0<=x:=ae;clear A hx;go_enter func98,ntmps98;go_wp2_with fail;rw[<-D.o];exact MbQ
def OpsIn(w:World)(v:Value)(os:List (List UInt8)):Prop:=
 (os=[]/\v=.slice none 0 0)\/(os≠[]/\∃b,v=.slice (some ⟨b,0,none⟩) os.length os.length/\w.heap[b]?=some (.cells (os.map fun x=>Value.string ⟨x.toArray⟩).toArray 9 (0,0)))
theorem OpsIn.later{w w':World}{v:Value}{os:List (List UInt8)}(h:OpsIn w v os)(A:Below w.heap.size w w'):OpsIn w' v os:=by
 rcases h with h|⟨h,b,D,hc⟩
 ·exact .inl h
 exact .inr ⟨h,b,D,by rw[A.block b (kV.1 hc).1];exact hc⟩
abbrev Ent:=Nat×Nat×List UInt8×List (List UInt8)
theorem ug:∀(l:List Ent) (w:World),Below w.heap.size w (sw w l)
 |[],w=>jV
 |(_,_,_,[])::r,w=>ug r w
 |(_,_,_,o::os)::r,w=>(jV.alloc jU _).trans ((ug r _).mono af)
def ent0:Ent:=(0,0,[],[])
theorem Bt:∀(l:List Ent) (w:World) (k:Nat),k<l.length->∃v,(pT w l)[4*k]?=some (.int .i64 (l.getD k ent0).1)/\(pT w l)[4*k+1]?=some (.int .i64 (l.getD k ent0).2.1)/\(pT w l)[4*k+2]?=some (.string ⟨(l.getD k ent0).2.2.1.toArray⟩)/\(pT w l)[4*k+3]?=some v/\OpsIn (sw w l) v (l.getD k ent0).2.2.2
 |[],w,k,h=>aR
 |(c,m,nm,[])::r,w,0,_=>⟨.slice none 0 0,bg,bg,bg,bg,.inl ⟨rfl,rfl⟩⟩
 | (c,m,nm,o::os)::r,w,0,_=>⟨.slice (some ⟨w.heap.size,0,none⟩) (os.length+1) (os.length+1),bg,bg,bg,bg,.inr ⟨af,w.heap.size,rfl,by
   show (sw (w.alloc (.cells ((o::os).map fun x=>Value.string ⟨x.toArray⟩).toArray 9)) r).heap[w.heap.size]?=_
   rw[(ug r _).block w.heap.size af]
   exact mr w _⟩⟩
 |(c,m,nm,[])::r,w,k+1,h=>by
  obtain⟨v,h1,h2,h3,h4,A⟩:=Bt r w k av
  refine⟨v,?_,?_,?_,?_,A⟩
  ·rw[show 4*(k+1)=4*k+1+1+1+1 by omega];simpa [pT]using h1
  ·rw[show 4*(k+1)+1=4*k+1+1+1+1+1 by omega];simpa [pT]using h2
  ·rw[show 4*(k+1)+2=4*k+2+1+1+1+1 by omega];simpa [pT]using h3
  rw[show 4*(k+1)+3=4*k+3+1+1+1+1 by omega];simpa [pT]using h4
 |(c,m,nm,o::os)::r,w,k+1,h=>by
  obtain⟨v,h1,h2,h3,h4,A⟩:=Bt r (w.alloc (.cells ((o::os).map fun x=>Value.string ⟨x.toArray⟩).toArray 9)) k av
  refine⟨v,?_,?_,?_,?_,A⟩
  ·rw[show 4*(k+1)=4*k+1+1+1+1 by omega];simpa [pT]using h1
  ·rw[show 4*(k+1)+1=4*k+1+1+1+1+1 by omega];simpa [pT]using h2
  ·rw[show 4*(k+1)+2=4*k+2+1+1+1+1 by omega];simpa [pT]using h3
  rw[show 4*(k+1)+3=4*k+3+1+1+1+1 by omega];simpa [pT]using h4
def qA(e:Ent)(v:Value):Value:=.agg #[.int .i64 e.1,.int .i64 e.2.1,.string ⟨e.2.2.1.toArray⟩,v]
def TabIn(w:World)(b:Nat)(l:List Ent):Prop:=∀k,k<l.length->∃v,w.cell? ⟨b,k*4,none⟩=some (.int .i64 (l.getD k ent0).1)/\w.cell? ⟨b,k*4+1,none⟩=some (.int .i64 (l.getD k ent0).2.1)/\w.cell? ⟨b,k*4+2,none⟩=some (.string ⟨(l.getD k ent0).2.2.1.toArray⟩)/\w.cell? ⟨b,k*4+3,none⟩=some v/\OpsIn w v (l.getD k ent0).2.2.2
theorem Gx(w:World)(l:List Ent):TabIn ((sw w l).alloc (.cells (pT w l).toArray 89)) (sw w l).heap.size l:=by
 intro k hk;obtain⟨v,h1,h2,h3,h4,A⟩:=Bt l w k hk;refine⟨v,?_,?_,?_,?_,A.later (jV.alloc jU _)⟩
 ·simp[Nat.mul_comm k 4,h1]
 ·simp[Nat.mul_comm k 4,h2]
 ·simp[Nat.mul_comm k 4,h3]
 simp[Nat.mul_comm k 4,h4]
theorem TabIn.later{w w':World}{b:Nat}{l:List Ent}(h:TabIn w b l)(A:Below w.heap.size w w'):TabIn w' b l:=by
 intro k hk;obtain⟨v,h1,h2,h3,h4,G⟩:=h k hk;have D:=lD _ h1;exact⟨v,(A.cell D).trans h1,(A.cell (p:=⟨b,k*4+1,none⟩) D).trans h2,(A.cell (p:=⟨b,k*4+2,none⟩) D).trans h3,(A.cell (p:=⟨b,k*4+3,none⟩) D).trans h4,G.later A⟩
theorem BS(w:World):Calls prog 131 #[] w fun e w'=>∃b,e=.returned (.slice (some ⟨b,0,none⟩) 109 109)/\w.heap.size<=b/\b<w'.heap.size/\TabIn w' b pa/\Below w.heap.size w w':=by
 refine(Fh w).mono ?_;rintro e w' ⟨rfl,rfl⟩;exact⟨_,rfl,(ug _ _).size,af,Gx w pa,(ug _ _).alloc (ug _ _).size _⟩
theorem Z7v(w:World):Calls prog 133 #[] w fun e w'=>∃b,e=.returned (.slice (some ⟨b,0,none⟩) 2 2)/\w.heap.size<=b/\b<w'.heap.size/\TabIn w' b sM/\Below w.heap.size w w':=by
 refine(Ii w).mono ?_;rintro e w' ⟨rfl,rfl⟩;exact⟨_,rfl,(ug _ _).size,af,Gx w sM,(ug _ _).alloc (ug _ _).size _⟩
def inR(c:Int)(e:Ent):Bool:=decide ((e.1:Int)<=c)&&decide (c<(e.1:Int)+(e.2.1:Int))
theorem OpsIn.set4{w:World}{v:Value}{os:List (List UInt8)}{g:Nat}{c:Array Value}(x y z u:Value)(h:OpsIn w v os)(D:w.heap[g]?=some (.cells c 89 (0,0))) :
  OpsIn ((((w.setCell ⟨g,0,none⟩ x).setCell ⟨g,1,none⟩ y).setCell ⟨g,2,none⟩ z).setCell ⟨g,3,none⟩ u) v os:=by
 rcases h with h|⟨h,b,G,hc⟩
 ·exact .inl h
 have A:b≠g:=by
  intro e;subst e;rw[hc]at D;simp at D
 exact .inr ⟨h,b,G,by rw[ly A,ly A,ly A,ly A];exact hc⟩
theorem xG{B g:Nat}{D w:World}(x y z u:Value)(h:Below B D w)(A:B<=g):Below B D ((((w.setCell ⟨g,0,none⟩ x).setCell ⟨g,1,none⟩ y).setCell ⟨g,2,none⟩ z).setCell ⟨g,3,none⟩ u):=
 (((h.setCell A x).setCell A y).setCell A z).setCell A u
theorem Z1G(c:Int)(w:World)(h0:0<=c)(h1:c<=255)(hp:(c%16==1)=true) :
  Calls prog 96 #[.int .i64 c] w fun e w'=>∃v,e=.returned (.tuple #[qA (sM.getD (c/16%2).toNat ent0) v,.int .i64 0,.bool true])/\OpsIn w' v (sM.getD (c/16%2).toNat ent0).2.2.2/\Below w.heap.size w w':=by
 obtain⟨p,D⟩:=Zg0 (sM.getD (c/16%2).toNat ent0);rw[D];have U:=oP D;clear D;go_enter func96,ntmps96;go_wp2_with fail;refine(Z7v _).mono ?_;rintro e A ⟨b,rfl,J,Kh,ht,Lz⟩;obtain⟨v,c0,c1,c2,c3,ho⟩:=ht (c/16%2).toNat (by show _<2;omega);rw[U.o]at c0 c1 c2 ho;have MK:w.heap.size+1<=A.heap.size:=by have:=Lz.size;simpa using this
 have V:w.heap.size+1<=b:=by simpa using J
 have KJ:w.heap.size<A.heap.size:=ae;have r0:A.cell? ⟨w.heap.size,0,none⟩=some (.int .i64 0):=du;have r1:A.cell? ⟨w.heap.size,1,none⟩=some (.int .i64 0):=du;have r2:A.cell? ⟨w.heap.size,2,none⟩=some (.string ⟨#[]⟩):=du;have r3:A.cell? ⟨w.heap.size,3,none⟩=some (.slice none 0 0):=du;have f0:A.frozen? ⟨w.heap.size,0,none⟩=false:=dw;have f1:A.frozen? ⟨w.heap.size,1,none⟩=false:=dw;have f2:A.frozen? ⟨w.heap.size,2,none⟩=false:=dw;have f3:A.frozen? ⟨w.heap.size,3,none⟩=false:=dw;have M:=oP ho;have HB:=oP Lz;clear ht Lz J;have O:A.heap[w.heap.size]?=some (.cells #[.int .i64 0,.int .i64 0,.string ⟨#[]⟩,.slice none 0 0] 89 (0,0)):=by rw[HB.o.block w.heap.size af];exact mr w _
 have R:=oP O;have S:=oP (show Below w.heap.size w A from (jV.alloc jU _).trans (HB.o.mono af));clear O;rcases ho with⟨G,rfl⟩|⟨G,Z,rfl,I⟩
 ·clear G;go_wp2;refine kf (v:=.tuple #[qA p (.slice none 0 0),.int .i64 0,.bool true]) dx rfl ⟨_,rfl,?_,?_⟩
  ·exact M.o.set4 _ _ _ _ R.o
  exact xG _ _ _ _ S.o jU
 clear G I;go_wp2;refine kf (v:=.tuple #[qA p (.slice (some ⟨Z,0,none⟩) p.2.2.2.length p.2.2.2.length),.int .i64 0,.bool true]) dx rfl ⟨_,rfl,?_,?_⟩
 ·exact M.o.set4 _ _ _ _ R.o
 exact xG _ _ _ _ S.o jU
theorem Z6B(k:Nat):(pa.getD k ent0).1<=255/\(pa.getD k ent0).2.1<=255:=by
 have A:pa.all (fun e=>decide (e.1<=255)&&decide (e.2.1<=255))=true:=aq;rw[jZ];cases h:pa[k]? with
 |none=>simp[ent0]
 |some e=>
  have:=kx.1 A e (lT h);simpa using this
theorem GU(c:Int)(w:World)(h0:0<=c)(h1:c<=255)(hp:(c%16==1)=false) :
  Calls prog 96 #[.int .i64 c] w fun e w'=>
   (∃k v,k<109/\inR c (pa.getD k ent0)=true/\(∀j,j<k->inR c (pa.getD j ent0)=false)/\e=.returned (.tuple #[qA (pa.getD k ent0) v,.int .i64 (c-((pa.getD k ent0).1:Int)),.bool true])/\OpsIn w' v (pa.getD k ent0).2.2.2/\Below w.heap.size w w') \/
   ((∀j,j<109->inR c (pa.getD j ent0)=false)/\e=.returned (.tuple #[qA ent0 (.slice none 0 0),.int .i64 0,.bool false])/\Below w.heap.size w w'):=by
 go_enter func96,ntmps96;go_wp2_with fail;refine(BS _).mono ?_;rintro e J ⟨b,rfl,N4,Kh,ht,S⟩;have MK:w.heap.size+1<=J.heap.size:=by have:=S.size;simpa using this
 have WB9:w.heap.size+1<=b:=by simpa using N4
 have Ke:J.heap[w.heap.size]?=some (.cells #[.int .i64 0,.int .i64 0,.string ⟨#[]⟩,.slice none 0 0] 89 (0,0)):=by rw[S.block w.heap.size af];exact mr w _
 have LQ:Below w.heap.size w J:=(jV.alloc jU _).trans (S.mono af);go_wp2_with fail;go_loopw [6] (fun i wr=>∃k:Nat,k<=109/\i=.int .i64 k/\(∀j,j<k->inR c (pa.getD j ent0)=false)/\Below J.heap.size J wr) (fun i _=>109-(intOf i).toNat)
 case atStart=>exact⟨0,ae,rfl,fun j h=>ae,jV⟩
 case round=>
  obtain⟨k,hk,rfl,K0,I⟩:=hrel;have M:=oP K0;have O:=ht.later I;have R:Below w.heap.size w wr:=LQ.trans (I.mono ae);have A:wr.heap[w.heap.size]?=some (.cells #[.int .i64 0,.int .i64 0,.string ⟨#[]⟩,.slice none 0 0] 89 (0,0)):=by rw[I.block w.heap.size ae];exact Ke
  have r0:wr.cell? ⟨w.heap.size,0,none⟩=some (.int .i64 0):=kM _ _ 0 _ _ _ A;have r1:wr.cell? ⟨w.heap.size,1,none⟩=some (.int .i64 0):=kM _ _ 1 _ _ _ A;have r2:wr.cell? ⟨w.heap.size,2,none⟩=some (.string ⟨#[]⟩):=kM _ _ 2 _ _ _ A;have r3:wr.cell? ⟨w.heap.size,3,none⟩=some (.slice none 0 0):=kM _ _ 3 _ _ _ A;have f0:wr.frozen? ⟨w.heap.size,0,none⟩=false:=kT 0 _ _ A;have f1:wr.frozen? ⟨w.heap.size,1,none⟩=false:=kT 1 _ _ A;have f2:wr.frozen? ⟨w.heap.size,2,none⟩=false:=kT 2 _ _ A;have f3:wr.frozen? ⟨w.heap.size,3,none⟩=false:=kT 3 _ _ A;have Wd7:=I.size;have KJ:w.heap.size<wr.heap.size:=ae;have Wt3:w.heap.size<b:=ae;have HR:=oP A;have HB:=oP R;have ON:=oP I;clear K0 A R I Ke S LQ;by_cases U:k<109
  ·obtain⟨v,c0,c1,c2,c3,ho⟩:=O k (by show k<109;exact U);obtain⟨p,V⟩:=Zg0 (pa.getD k ent0);rw[V]at c0 c1 c2 ho;have G:=oP V;have HO:=oP ho;clear O V ht;have Lp:p.1<=255/\p.2.1<=255:=by rw[<-G.o];exact Z6B k
   have K5:(p.1:Int)<=255:=ae;have MC:(p.2.1:Int)<=255:=ae;by_cases MV:(p.1:Int)<=c
   ·have D:decide ((p.1:Int)<=c)=true:=by simpa using MV
    by_cases hl:c<(p.1:Int)+(p.2.1:Int)
    ·have Z:decide (c<(p.1:Int)+(p.2.1:Int))=true:=by simpa using hl
     have M6:inR c (pa.getD k ent0)=true:=by rw[G.o];simp[inR,D,Z]
     have TN:=oP M6;clear M6;rcases ho with⟨X2,rfl⟩|⟨X2,bo,rfl,WC0⟩
     ·clear X2;go_wp2_with fail;go_quiet (fail);go_wp2;go_region
      all_goals
       go_wp2;refine kf (v:=.tuple #[qA p (.slice none 0 0),.int .i64 (c-(p.1:Int)),.bool true]) dx rfl (.inl ⟨k,_,U,TN.o,M.o,by rw[G.o],?_,?_⟩)
       ·rw[G.o];exact HO.o.set4 _ _ _ _ HR.o
       exact xG _ _ _ _ (below_drewN HB.o _) jU
     clear X2 WC0;go_wp2_with fail;go_quiet (fail);go_wp2;go_region
     all_goals
      go_wp2;refine kf (v:=.tuple #[qA p (.slice (some ⟨bo,0,none⟩) p.2.2.2.length p.2.2.2.length),.int .i64 (c-(p.1:Int)),.bool true]) dx rfl (.inl ⟨k,_,U,TN.o,M.o,by rw[G.o],?_,?_⟩)
      ·rw[G.o];exact HO.o.set4 _ _ _ _ HR.o
      exact xG _ _ _ _ (below_drewN HB.o _) jU
    have Z:decide (c<(p.1:Int)+(p.2.1:Int))=false:=bL;go_wp2_with fail;go_quiet (fail);go_wp2;go_roundw
    case rel=>exact⟨k+1,ae,ao,fun j hj=>by
     rcases lQ j k with h|h
     ·exact M.o j h
     ·have e:j=k:=by omega
      rw[e,G.o];simp[inR,D,Z],below_drewN ON.o _⟩
    case measure=>simp[intOf];omega
   have D:decide ((p.1:Int)<=c)=false:=by simpa using MV
   go_wp2_with fail;go_quiet (fail);go_wp2;go_roundw
   case rel=>exact⟨k+1,ae,ao,fun j hj=>by
     rcases lQ j k with h|h
     ·exact M.o j h
     ·have e:j=k:=by omega
      rw[e,G.o];simp[inR,D],below_drewN ON.o _⟩
   case measure=>simp[intOf];omega
  have Rx:k=109:=ae;have U8:=oP Rx;clear Rx;go_wp2;refine kf (v:=.tuple #[qA ent0 (.slice none 0 0),.int .i64 0,.bool false]) (by simp[results,results96,go_sem,r0,r1,r2,r3,qA,ent0]) rfl (.inr ⟨fun j hj=>M.o j (by rw[U8.o];exact hj),rfl,?_⟩);exact xG _ _ _ _ HB.o jU
theorem OpsIn.cellAt{w:World}{b:Nat}{ks:List Nat}(hc:w.heap[b]?=some (.cells ((uJ ks).map fun x=>Value.string ⟨x.toArray⟩).toArray 9 (0,0)))(j:Nat)(A:j<ks.length):w.cell? ⟨b,j,none⟩=some (.string (qd (ks.getD j 0))):=by
 rw[kM w b j _ _ _ hc];simp only[uJ,nO,nP,kS,jX A,nC,Function.comp,me,Value.string.injEq];rw[jZ,jX A];rfl
theorem A6(c m:Int)(nm:ByteArray)(w:World) :
  Calls prog 94 #[.agg #[.int .i64 c,.int .i64 m,.string nm,.slice none 0 0]] w fun e w'=>e=.returned (.int .i64 1)/\Below w.heap.size w w':=by
 go_enter func94,ntmps94;go_wp2;refine lS 1 ?_;rw[kG];exact McO
theorem Bg(c m:Int)(nm:ByteArray)(b:Nat)(ks:List Nat)(n:Nat)(w:World)(hn:ks.length=n)(hn1:n<=1000)(hk:∀j,j<n->ks.getD j 0<17)
  (hc:w.heap[b]?=some (.cells ((uJ ks).map fun x=>Value.string ⟨x.toArray⟩).toArray 9 (0,0))) :
  Calls prog 94 #[.agg #[.int .i64 c,.int .i64 m,.string nm,.slice (some ⟨b,0,none⟩) n n]] w fun e w'=>e=.returned (.int .i64 (pv ks))/\Below w.heap.size w w':=by
 have Z:b<w.heap.size:=(kV.1 hc).1;have I:=oP hc;clear hc;go_enter func94,ntmps94;go_wp2;go_loop [3,4] (fun s i=>∃k:Nat,k<=n/\i=.int .i64 k/\s=.int .i64 (1+((ks.take k).map pw).sum:Nat)) (fun _ i=>n-(intOf i).toNat)
 case atStart=>exact⟨0,j4,rfl,rfl⟩
 case round=>
  obtain⟨k,LD,rfl,rfl⟩:=hrel;have J:=CH (ks.take k);have Kl:(ks.take k).length<=k:=T0q _ _;by_cases M:k<n
  ·obtain⟨q,hq⟩:=Zg0 (ks.getD k 0);have O:q<17:=by rw[<-hq];exact hk k M
   have ct:∀o,(w.alloc o).cell? ⟨b,k,none⟩=some (.string (qd q)):=fun o=>by rw[lO ai,OpsIn.cellAt I.o k ae,hq]
   have A:=Fu ks k ae;rw[hq]at A;have R:=oP A;have S:=CT q;obtain⟨s0,D⟩:=Zg0 (((ks.take k).map pw).sum);rw[D]at J⊢;have U:=oP D;clear A hq D;go_wp2_with (go_at_call 97;refine(Ck q O _).mono ?_;rintro e w' ⟨rfl,rfl⟩);go_round
   case rel=>exact⟨k+1,ae,ao,by rw[R.o,U.o];go_num⟩
   case measure=>simp[intOf];omega
  have G:k=n:=ae;have V:=oP G;clear G;go_wp2;go_ret;refine⟨?_,jV.alloc jU _⟩;unfold pv;rw[V.o,lL (by first| omega|(rw[kL];omega))];rfl
