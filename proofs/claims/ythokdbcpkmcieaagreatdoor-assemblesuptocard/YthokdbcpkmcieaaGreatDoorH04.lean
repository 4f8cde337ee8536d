import Derived.Test.YthokdbcpkmcieaaGreatDoorH03
set_option maxRecDepth 200000
set_option maxHeartbeats 16000000
namespace Go.Proofs.YthokdbcpkmcieaaGreatDoor
open RowKit WideMaps Maps Shelf Proofs.Tryz
variable{P:Prop}
abbrev nR:=@Lib.extract_data
def Z5L:DataW Unit->Int
 |.lit (.int _ c)=>c
 |_=>0
def qa(t:ByteArray):Int:=Z5L (kindsD.atKey (.string t.data.toList) (.lit (.int .i64 0)))
def uc(b:Int)(t:ByteArray):List Value:=[.int .i64 (qa t),.string t,.int .u8 b,.int .u16 0,.int .u16 0]
def pieces(l:ByteArray):List ByteArray:=Lib.splitB ⟨#[44]⟩ 0 (Lib.countB l ⟨#[44]⟩) l
theorem Z5s(w:World):(zeroValue 111).run prog w=.ok (.int .i64 0) w:=aj
theorem Tryz.info48:(Tryz.prog.info? 114).map (fun i=>(i.zero,i.size,i.bytes))=some (some (.agg #[.int .i64 0,.string ⟨#[]⟩,.int .u8 0,.int .u16 0,.int .u16 0]),5,32):=aj
theorem FI{H:Type}{P:Program}{k:TypeId}{R:Value->Option (DataW H×List MemPlace)}{B b n:Nat}{D:DataW H}{w w':World}(h:w.ownsMap P k R b n D)(A:Below B w w')(G:b<B):w'.ownsMap P k R b n D:=by
 obtain⟨es,I,h1,h2,h3,h4⟩:=h;exact⟨es,I,(A.block b G).trans h1,h2,h3,h4⟩
theorem Z7W(l:ByteArray):(pieces l).length=Lib.countB l ⟨#[44]⟩ + 1:=Lib.splitB_all ⟨#[44]⟩ ah 0 _ l rfl
theorem Z3S(s nm:ByteArray)(m:Int)(w:World)(hs:s.size<1000)(hm:w.cell? ⟨0,0,none⟩=some (.int .i64 m))(hcut:Lib.cut s.data.toList [32]=(nm.data.toList,[],false)) :
  Calls prog 100 #[.string s,.string ⟨#[32]⟩] w fun e w'=>e=.returned (.tuple #[.string nm,.string ⟨#[]⟩,.bool false])/\Below w.heap.size w w':=by
 exact Ma1
theorem Z7B(s nm ls:ByteArray)(m:Int)(w:World)(hs:s.size<1000)(hm:w.cell? ⟨0,0,none⟩=some (.int .i64 m))(hcut:Lib.cut s.data.toList [32]=(nm.data.toList,ls.data.toList,true)) :
  Calls prog 100 #[.string s,.string ⟨#[32]⟩] w fun e w'=>e=.returned (.tuple #[.string nm,.string ls,.bool true])/\Below w.heap.size w w':=by
 exact Ma1
theorem IN(rc D c m:Int)(A nm:ByteArray)(G:Nat)(w:World)(hs:A.size<1000)(I:w.cell? ⟨0,0,none⟩=some (.int .i64 m))(h0:0<w.heap.size)
  (hcut:Lib.cut A.data.toList [32]=(nm.data.toList,[],false)) :
  Calls prog 58 #[.agg #[.int .u8 rc,.int .u8 D,.string A],.int .u8 c,.map (some G)] w fun e w'=>e=.returned (.tuple #[.string nm,.slice none 0 0])/\Below w.heap.size w w':=by
 have J:Hid (Lib.cut A.data.toList [32]=(nm.data.toList,[],false)):=hcut;clear hcut;have M:∀o,(w.alloc o).cell? ⟨0,0,none⟩=some (.int .i64 m):=fun o=>by rw[lO ai];exact I
 go_enter func58,ntmps58;go_wp2_with fail;refine(Z3S A nm m _ hs (M _) J.o).mono ?_;rintro e R ⟨rfl,O⟩;go_wp2;go_ret2;exact⟨rfl,(jV.alloc jU _).trans (O.mono af)⟩
theorem Z7o(ls:ByteArray)(ps:List ByteArray)(n:Nat)(m:Int)(w:World)(hls:ls.size<1000)(D:w.cell? ⟨0,0,none⟩=some (.int .i64 m))(hps:pieces ls=ps)(hn:ps.length=n) :
  Calls prog 101 #[.string ls,.string ⟨#[44]⟩] w fun e w'=>e=.returned (.slice (some ⟨w.heap.size,0,none⟩) n n)/\w'=w.alloc (.cells (ps.map Value.string).toArray 9):=by
 have h:=Tryz.strings_Split ls ⟨#[44]⟩ m w ae D ah;have A:=Z7W ls;rw[hps,hn]at A;rw[<-A]at h;rw[show Lib.splitB ⟨#[44]⟩ 0 (Lib.countB ls ⟨#[44]⟩) ls=ps from hps]at h;exact h
theorem Z9Y(b:Int)(ps:List ByteArray)(k:Nat)(h:k<ps.length):(ps.take (k+1)).flatMap (uc b)=(ps.take k).flatMap (uc b)++uc b ps[k]:=by
 rw[T0O h,nQ];simp
theorem uH{w:World}{base:Nat}{e:TypeId}{size n:Nat}{v:Value}{xs:List Value}(h:w.ownsRow base e size v n xs):∀j,v.ownBlock=some j->base<=j:=by
 obtain⟨_,⟨rfl,_⟩|⟨g,G,I,rfl,D,_⟩⟩:=h
 ·intro j A;cases A
 intro j A;cases A;exact D
theorem pC{w:World}{base base':Nat}{e:TypeId}{size n:Nat}{v:Value}{xs:List Value}(h:w.ownsRow base e size v n xs)(A:base'<=base):w.ownsRow base' e size v n xs:=by
 obtain⟨h1,h|⟨g,D,G,rfl,I,h2⟩⟩:=h
 ·exact⟨h1,.inl h⟩
 exact⟨h1,.inr ⟨g,D,G,rfl,j8 A I,h2⟩⟩
theorem Z3w(t:ByteArray)(x:Int)(h:kindsD.atKey (.string t.data.toList) (.lit (.int .i64 0))=.lit (.int .i64 x)):qa t=x:=by
 unfold qa;rw[h];rfl
theorem Gq(rc G c m:Int)(M nm ls:ByteArray)(ps:List ByteArray)(n J:Nat)(w:World)(Kc:w.ownsMap prog 9 (plainElem prog 111) J 17 kindsD)(hs:M.size<1000)(hls:ls.size<1000)(hm:w.cell? ⟨0,0,none⟩=some (.int .i64 m))(h0:0<w.heap.size)
  (hcut:Lib.cut M.data.toList [32]=(nm.data.toList,ls.data.toList,true)) (hps:pieces ls=ps) (hn:ps.length=n) (hn1:n<=1000) (hpl:∀t,t∈ps->t.size<=1000) :
  Calls prog 58 #[.agg #[.int .u8 rc,.int .u8 G,.string M],.int .u8 c,.map (some J)] w fun e w'=>∃v,e=.returned (.tuple #[.string nm,v]) /\
   w'.ownsRow w.heap.size 114 5 v n (ps.flatMap (uc (bits BinOp.and IntKind.u8 c G)))/\Below w.heap.size w w':=by
 have HC:Hid (Lib.cut M.data.toList [32]=(nm.data.toList,ls.data.toList,true)):=hcut;have HP:Hid (∀t,t∈ps->t.size<=1000):=hpl;have HS:Hid (pieces ls=ps):=hps;have U:Hid (ps.length=n):=hn;clear hcut hpl hps hn;have OM:∀o,(w.alloc o).cell? ⟨0,0,none⟩=some (.int .i64 m):=fun o=>by rw[lO ai];exact hm
 obtain⟨i0,hi,KJ,KC,Ky⟩:=kQ Tryz.info48;go_enter func58,ntmps58;go_wp2_with fail;refine(Z7B M nm ls m _ hs (OM _) HC.o).mono ?_;rintro e D ⟨rfl,O⟩;have MK:w.heap.size+1<=D.heap.size:=by have:=O.size;simpa using this
 have Wd1:J<w.heap.size:=by
  obtain⟨es,L4,h1,_⟩:=Kc;exact(kV.1 h1).1
 have Sh:D.ownsMap prog 9 (plainElem prog 111) J 17 kindsD:=FI (Kc.alloc _) O ai;have Si:D.cell? ⟨0,0,none⟩=some (.int .i64 m):=by rw[O.cell af];exact OM _
 have PK:D.cell? ⟨w.heap.size,1,none⟩=some (.int .u8 G):=by rw[O.cell af];simp
 go_wp2_with fail;refine(Z7o ls ps n m _ hls Si HS.o U.o).mono ?_;rintro e w3 ⟨rfl,rfl⟩;go_wp2_with fail;go_loopw [11,27] (fun v i wr=>∃k:Nat,k<=n/\i=.int .i64 k/\wr.ownsRow (D.heap.size+1) 114 5 v k ((ps.take k).flatMap (uc (bits BinOp.and IntKind.u8 c G)))/\Below (D.heap.size+1) (D.alloc (.cells (ps.map Value.string).toArray 9)) wr) (fun _ i _=>n-(intOf i).toNat)
 case atStart=>exact⟨0,j4,rfl,by simpa using kA,jV⟩
 case round=>
  obtain⟨k,hk,rfl,R,I⟩:=hrel;have WH:D.heap.size+1<=wr.heap.size:=by have:=I.size;simpa using this
  by_cases Kf:k<n
  ·have V:k<ps.length:=by rw[U.o];exact Kf
   obtain⟨t,ht⟩:=Zg0 (ps[k]);have Z:t.size<=maxLen:=by have:=HP.o t (ht ▸ kC V);unfold maxLen;omega
   have HT:Hid (ps[k]=t):=ht;have ct:wr.cell? ⟨D.heap.size,k,none⟩=some (.string t):=by rw[I.cell af];simp[V,ht]
   have cf:wr.cell? ⟨w.heap.size,1,none⟩=some (.int .u8 G):=by rw[I.cell ai,lO ai];exact PK
   have S:wr.ownsMap prog 9 (plainElem prog 111) J 17 kindsD:=FI (Sh.alloc _) I ae;clear ht;go_wp2_with (first| (at_lookup;refine wpList_lookup_own_int _ rfl _ _ 107 rfl 9 111 .i64 rJ underlying107 underlying111 (Z5s _) J 17 _ rfl S (.string t) _ rfl (kO underlying9 Z) ?_;intro x MF Wt0;have HX:Hid (qa t=x):=Z3w t x MF;clear MF Wt0)|(at_builtin;refine nr _ rfl _ _ 104 rfl (D.heap.size+1) 114 i0 _ 5 32 underlying104 hi KJ KC Ky rfl ah _ _ _ rfl (R.alloc _) ⟨wr.heap.size,0,none⟩ 1 1 [.int .i64 x,.string t,.int .u8 (bits BinOp.and IntKind.u8 c G),.int .u16 0,.int .u16 0] rfl rfl ?c1 ?c2 ?c3 ?c4 ?c5 ?_))
   case c1=>
    intro j u A;match j,A with
    |0,A=>simp at A;subst A;simp[Addr.add]
    |1,A=>simp at A;subst A;simp[Addr.add]
    |2,A=>simp at A;subst A;simp[Addr.add]
    |3,A=>simp at A;subst A;simp[Addr.add]
    |4,A=>simp at A;subst A;simp[Addr.add]
   case c2=>intro u hu;simp at hu;rcases hu with rfl|rfl|rfl|rfl|rfl <;> rfl
   case c3=>unfold maxLen;omega
   case c4=>omega
   case c5=>simp;omega
   intro v' wn K4 K8 _;have M4:Below (D.heap.size+1) (D.alloc (.cells (ps.map Value.string).toArray 9)) wn:=(I.alloc WH _).grown K8 ai (uH R)
   have Og:wn.ownsRow (D.heap.size+1) 114 5 v' (k+1) ((ps.take (k+1)).flatMap (uc (bits BinOp.and IntKind.u8 c G))):=by
    rw[Z9Y _ _ _ V,HT.o];unfold uc at K4⊢;rw[HX.o];exact K4
   clear K4 K8 R I S ct cf;go_wp2;go_roundw
   case rel=>exact⟨k+1,ae,ao,Og,M4⟩
   case measure=>simp[intOf];omega
  have LD:k=n:=ae
  have WJ:wr.ownsRow w.heap.size 114 5 u11 n (ps.flatMap (uc (bits BinOp.and IntKind.u8 c G))):=by
   have:=pC R (base':=w.heap.size) ae;rw[LD,lL (by rw[U.o];exact jU)]at this;exact this
  have HF:Hid (wr.ownsRow w.heap.size 114 5 u11 n (ps.flatMap (uc (bits BinOp.and IntKind.u8 c G)))):=WJ;clear WJ R LD;go_wp2;go_ret2;refine⟨u11,rfl,HF.o,?_⟩;have e1:Below w.heap.size w D:=(jV.alloc jU _).trans (O.mono af);exact(e1.alloc ae _).trans (I.mono ae)
theorem Z0a(code:ByteArray)(A:Int)(w:World)(h:code.toList.isEmpty=true) :
  Calls prog 30 #[.string code,.int .i64 A] w fun e w'=>e=.returned (.tuple #[.string ⟨#[]⟩,.int .i64 0])/\w'=w:=by
 go_enter func30,ntmps30;go_wp2;go_ret2;exact⟨rfl,rfl⟩
theorem Z0j(c:Int)(w:World)(h:∀j,j<111->hit c j=false) :
  Calls prog 57 #[.int .u8 c] w fun e w'=>e=.returned (.tuple #[.agg #[.int .u8 0,.int .u8 0,.string ⟨#[]⟩],.bool false])/\Below w.heap.size w w':=by
 refine(Hp c w).mono ?_;rintro e w' (⟨k,hk,hh,_⟩|⟨_,he,A⟩)
 ·rw[h k hk]at hh;cases hh
 exact⟨he,A⟩
theorem BK(c:Int)(w:World)(k:Nat)(hk:k<111)(hh:hit c k=true)(hf:∀j,j<k->hit c j=false)(rc D:Int)(G:ByteArray)(e1:((rowAt k).1:Int)=rc)(e2:((rowAt k).2.1:Int)=D)(e3:(⟨(rowAt k).2.2.toArray⟩:ByteArray)=G) :
  Calls prog 57 #[.int .u8 c] w fun e w'=>e=.returned (.tuple #[.agg #[.int .u8 rc,.int .u8 D,.string G],.bool true])/\Below w.heap.size w w':=by
 subst e1 e2 e3;refine(Hp c w).mono ?_;rintro e w' (⟨j,M,A,I,he,J⟩|⟨hn,_⟩)
 ·have:j=k:=by
   rcases Nat.lt_trichotomy j k with h|h|h
   ·rw[hf j h]at A;cases A
   ·exact h
   rw[I k h]at hh;cases hh
  subst this;exact⟨he,J⟩
 rw[hn k hk]at hh;cases hh
theorem I7(code:ByteArray)(D:Int)(w:World)(h:0<code.size)(A:∀j,j<111->hit (code[0].toNat:Int) j=false) :
  Calls prog 30 #[.string code,.int .i64 D] w fun e w'=>e=.returned (.tuple #[.string ⟨#[]⟩,.int .i64 0])/\Below w.heap.size w w':=by
 have hs:code.toList.isEmpty=false:=aI;have G:=oP A;clear A;go_enter func30,ntmps30;go_wp2_with fail;refine(Z0j _ _ G.o).mono ?_;exact Mco
theorem Mal(h:P:=by
 go_enter func60,ntmps60;go_wp2_with fail;refine(zt _).mono ?_;rintro e w1 ⟨rfl,Kh⟩;go_wp2_with (refine nM rfl 200 (.tmp 6) (.tmp 9) rfl w1.heap.size rA rfl rfl 200 _ (mr w1 _) xD rfl yN ?_;rw[nN]);refine lS 1 ?_;rw[kG];unfold maxLen at Ll;have hx:(code.extract 1 code.size).size=code.size-1:=aN;have HX:=oP hx;have KR:(code.extract 1 code.size).size<=9223372036854775807:=ae;clear hx;go_wp2;go_quiet (fail);go_wp2;go_ret2;refine⟨?_,below_drewN ((Kh.alloc Kh.size _).alloc (by have:=Kh.size;simp;omega) _) _⟩;show Ending.returned (.tuple #[.int .i64 ((code.size:Int)-((code.size-1:Nat):Int)),.bool true])=_;rw[show (code.size:Int)-((code.size-1:Nat):Int)=1 by omega]):P:=h
theorem Z4n(code:ByteArray)(w:World)(hc:0<code.size)(Ll:code.size<=maxLen) :
  Calls prog 60 #[.slice none 0 0,.string code] w fun e w'=>e=.returned (.tuple #[.int .i64 1,.bool true])/\Below w.heap.size w w':=by
 exact Mal
theorem IH(code:ByteArray)(M m:Int)(w:World)(h:0<code.size)(O:code.size<=maxLen)(hm:w.cell? ⟨0,0,none⟩=some (.int .i64 m))(h0:0<w.heap.size)(k:Nat)(hk:k<111)(hh:hit (code[0].toNat:Int) k=true)(hf:∀j,j<k->hit (code[0].toNat:Int) j=false)
  (rc G:Int) (A nm:ByteArray) (e1:((rowAt k).1:Int)=rc) (e2:((rowAt k).2.1:Int)=G) (e3:(⟨(rowAt k).2.2.toArray⟩:ByteArray)=A) (hs:A.size<1000) (hcut:Lib.cut A.data.toList [32]=(nm.data.toList,[],false)) (U6:(rc==133)=false) :
  Calls prog 30 #[.string code,.int .i64 M] w fun e w'=>e=.returned (.tuple #[.string nm,.int .i64 1])/\Below w.heap.size w w':=by
 have Kk:code.toList.isEmpty=false:=aI;have R:=oP (fun w=>BK (code[0].toNat:Int) w k hk hh hf rc G A e1 e2 e3);have S:=oP hcut;clear hh hf e1 e2 e3 hcut;go_enter func30,ntmps30;go_wp2_with fail;refine(R.o _).mono ?_;rintro e w1 ⟨rfl,Kh⟩;have U:=Kh.size;have OM:∀o,(w1.alloc o).cell? ⟨0,0,none⟩=some (.int .i64 m):=fun o=>dj
 go_wp2_with fail;go_region_with (first| (go_at_call 59;refine(yk _).mono ?_;rintro e D ⟨rfl,V,Lt⟩;have Z:D.cell? ⟨w1.heap.size,0,none⟩=some (.int .u8 rc):=(aE);have k1:D.cell? ⟨w1.heap.size,1,none⟩=some (.int .u8 G):=(aE);have k2:D.cell? ⟨w1.heap.size,2,none⟩=some (.string A):=(aE);have km:D.cell? ⟨0,0,none⟩=some (.int .i64 m):=(dk);have kz:0<D.heap.size:=(dn);have PL:Below (w1.heap.size+1) (w1.alloc (.cells #[.int .u8 rc,.int .u8 G,.string A] 101)) D:=(dp))|(go_at_call 58;refine(IN rc G _ m A nm _ _ hs (by exact km) (by exact kz) S.o).mono ?_;rintro e w2 ⟨rfl,I⟩))
 all_goals
  have U7:w1.heap.size+1<=D.heap.size:=dq;have Lf:=PL.trans (I.mono (B':=w1.heap.size+1) U7);have NJ:w1.heap.size+1<=w2.heap.size:=bA;clear I Z k1 k2 km PL Lt V;go_wp2_with fail;refine(Z4n code _ h O).mono ?_;rintro e w3 ⟨rfl,J⟩;have cr:w3.cell? ⟨w1.heap.size,0,none⟩=some (.int .u8 rc):=by rw[J.cell ai,Lf.cell af];simp
  go_wp2_with fail;refine(Z0z nm none 0 _ _).mono ?_;rintro e w4 ⟨rfl,rfl⟩;go_wp2;go_ret2;exact⟨rfl,((Kh.alloc U _).trans (Lf.mono ae)).trans (J.mono ae)⟩
def opn(b:Int)(t:ByteArray):Opn:=⟨(qa t).toNat,t,b,0,0⟩
theorem Z9b(b:Int)(ps:List ByteArray)(h:∀t∈ps,0<=qa t):ps.flatMap (uc b)=pP (ps.map (opn b)):=by
 induction ps with
 |nil=>rfl
 |cons t ps ih=>
  have ht:=h t af;have:=ih (fun x hx=>h x (mo _ hx));simp only[mT,kZ,pP]at this⊢;rw[this];congr 1;simp only[uc,opn,Opn.cells];rw[Int.toNat_of_nonneg ht]
theorem C6(rc G c m:Int)(A nm ls:ByteArray)(ps:List ByteArray)(n I:Nat)(w:World)(O:w.ownsMap prog 9 (plainElem prog 111) I 17 kindsD)(hs:A.size<1000)(hls:ls.size<1000)(R:w.cell? ⟨0,0,none⟩=some (.int .i64 m))(h0:0<w.heap.size)
  (hcut:Lib.cut A.data.toList [32]=(nm.data.toList,ls.data.toList,true)) (hps:pieces ls=ps) (hn:ps.length=n) (hn0:0<n) (hn1:n<=1000) (hpl:∀t,t∈ps->t.size<=1000) (hk:∀t∈ps,0<=qa t) (M:List Opn) (hl0:ps.map (opn (bits BinOp.and IntKind.u8 c G))=M) :
  Calls prog 58 #[.agg #[.int .u8 rc,.int .u8 G,.string A],.int .u8 c,.map (some I)] w fun e w'=>∃g D,e=.returned (.tuple #[.string nm,.slice (some ⟨g,0,none⟩) n D]) /\
   w'.ownsRow w.heap.size 114 5 (.slice (some ⟨g,0,none⟩) n D) n (pP M)/\Below w.heap.size w w':=by
 refine(Gq rc G c m A nm ls ps n I w O hs hls R h0 hcut hps hn hn1 hpl).mono ?_;rintro e w' ⟨v,rfl,J,S⟩;rw[Z9b _ _ hk,hl0]at J;obtain⟨_,⟨_,h'⟩|⟨g,D,U,rfl,_⟩⟩:=id J
 ·omega
 exact⟨g,D,rfl,J,S⟩
def ub(l:List Opn):List Opn:=(l.set 0 ((l.getD 0 opn0).put (l.getD 1 opn0).added)).set 1 ((l.getD 1 opn0).put (l.getD 0 opn0).added)
structure RowIs(c:Int)(k n:Nat)(rc rf:Int)(rt nm ls:ByteArray)(ps:List ByteArray)(l0:List Opn):Prop where
 hk:k<111
 hh:hit c k=true
 hf:∀j,j<k->hit c j=false
 e1:((rowAt k).1:Int)=rc
 e2:((rowAt k).2.1:Int)=rf
 e3:(⟨(rowAt k).2.2.toArray⟩:ByteArray)=rt
 hs:rt.size<1000
 hls:ls.size<1000
 hcut:Lib.cut rt.data.toList [32]=(nm.data.toList,ls.data.toList,true)
 hps:pieces ls=ps
 hn:ps.length=n
 hn0:0<n
 hn1:n<=3
 hpl:∀t,t∈ps->t.size<=1000
 hkd:∀t∈ps,0<=qa t
 hk17:∀t∈ps,(qa t).toNat<17
 hl0:ps.map (opn (bits BinOp.and IntKind.u8 c rf))=l0
 hnm:nm.size<=1000
theorem RowIs.len{c:Int}{k n:Nat}{rc D:Int}{G nm ls:ByteArray}{ps:List ByteArray}{A:List Opn}(h:RowIs c k n rc D G nm ls ps A):A.length=n:=by rw[<-h.hl0,kL];exact h.hn
theorem RowIs.kinds{c:Int}{k n:Nat}{rc G:Int}{I nm ls:ByteArray}{ps:List ByteArray}{D:List Opn}(h:RowIs c k n rc G I nm ls ps D):∀j,j<n->(D.getD j opn0).kind<17:=by
 intro j J;have A:j<ps.length:=by rw[h.hn];exact J
 rw[<-h.hl0,jZ,kS,jX A];exact h.hk17 _ (kC A)
theorem IX(code:ByteArray)(Kt m:Int)(w:World)(h:0<code.size)(Ll:code.size<=maxLen)(hm:w.cell? ⟨0,0,none⟩=some (.int .i64 m))(h0:0<w.heap.size)(k n:Nat)(rc G:Int)(I nm ls:ByteArray)(ps:List ByteArray)(J:List Opn)
  (hr:RowIs (code[0].toNat:Int) k n rc G I nm ls ps J) (R:(pR J (code.extract 1 code.size) false n).2.2=true) :
  Calls prog 30 #[.string code,.int .i64 Kt] w fun e w'=>e=.returned (.tuple #[.string ⟨#[]⟩,.int .i64 0])/\Below w.heap.size w w':=by
 have Kk:code.toList.isEmpty=false:=aI;have HF:=oP (fun w=>BK (code[0].toNat:Int) w k hr.hk hr.hh hr.hf rc G I hr.e1 hr.e2 hr.e3);have HP:=oP (fun w kb Kc hm h0=>C6 rc G (code[0].toNat:Int) m I nm ls ps n kb w Kc hr.hs hr.hls hm h0 hr.hcut hr.hps hr.hn hr.hn0 bB hr.hpl hr.hkd J hr.hl0);have HL:=oP hr.len;have HK:=oP hr.kinds;have hn1:=hr.hn1;have HS:=oP R;clear hr R;go_enter func30,ntmps30;go_wp2_with fail;refine(HF.o _).mono ?_;rintro e w1 ⟨rfl,Kh⟩;have MK:=Kh.size;have OM:∀o,(w1.alloc o).cell? ⟨0,0,none⟩=some (.int .i64 m):=fun o=>dj
 go_wp2_with fail;go_region_with (first| (go_at_call 59;refine(yk _).mono ?_;rintro e A ⟨rfl,S,Lt⟩;have U:A.ownsMap prog 9 (plainElem prog 111) (w1.heap.size+1) 17 kindsD:=(by simpa using S);have k0:A.cell? ⟨w1.heap.size,0,none⟩=some (.int .u8 rc):=(aE);have k1:A.cell? ⟨w1.heap.size,1,none⟩=some (.int .u8 G):=(aE);have k2:A.cell? ⟨w1.heap.size,2,none⟩=some (.string I):=(aE);have km:A.cell? ⟨0,0,none⟩=some (.int .i64 m):=(dk);have kz:0<A.heap.size:=(dn);have PL:Below (w1.heap.size+1) (w1.alloc (.cells #[.int .u8 rc,.int .u8 G,.string I] 101)) A:=(dp))|(go_at_call 58;refine(HP.o _ _ (by exact U) (by exact km) (by exact kz)).mono ?_;rintro e M ⟨g,V,rfl,Z,Km⟩))
 all_goals
  have U7:w1.heap.size+1<=A.heap.size:=dq;have Lf:=PL.trans (Km.mono (B':=w1.heap.size+1) U7);have NJ:w1.heap.size+1<=M.heap.size:=bA;have O:M.ownsRow (w1.heap.size+1) 114 5 (.slice (some ⟨g,0,none⟩) n V) n (pP J):=pC Z U7;have hg:=(O.lt g rfl).1;clear Km Z k0 k1 k2 km PL Lt S U;go_wp2_with fail;refine(DU (w1.heap.size+1) g V n J code _ HL.o ae O HK.o h Ll).mono ?_;rintro e w3 ⟨rfl,KO,D⟩;rw[HS.o];have Kq:Below (w1.heap.size+1) M w3:=⟨D.os,D.tape,D.output,D.size,fun j hj=>D.block j ae ai⟩;have HB:=oP (((Kh.alloc MK _).trans (Lf.mono ae)).trans (Kq.mono (B':=w.heap.size) ae));clear O KO D Kq;go_wp2;go_ret2;exact⟨rfl,HB.o⟩
def rK(A sz:Int):Int:=IntKind.u16.wrap (IntKind.u16.wrap A+IntKind.u16.wrap sz)
theorem Hj(base g A n:Nat)(l:List Opn)(code:ByteArray)(w:World)(D:l.length=n)(hn:n<=1000)(G:w.ownsRow base 114 5 (.slice (some ⟨g,0,none⟩) n A) n (pP l))
  (hk:∀k,k<n->(l.getD k opn0).kind<17) (hc:0<code.size) (I:code.size<=maxLen) (sl:List Opn) (sz:Int) (ss:Bool) (h1:(pR l (code.extract 1 code.size) false n).1=sl) (h2:(code.size:Int)-((pR l (code.extract 1 code.size) false n).2.1.size:Int)=sz) (h3:(pR l (code.extract 1 code.size) false n).2.2=ss) :
  Calls prog 60 #[.slice (some ⟨g,0,none⟩) n A,.string code] w fun e w'=>
   e=.returned (.tuple #[.int .i64 sz,.bool (!ss)])/\w'.ownsRow base 114 5 (.slice (some ⟨g,0,none⟩) n A) n (pP sl)/\w.grownBy w' (some g):=by
 subst h1 h2 h3;exact DU base g A n l code w D hn G hk hc I
theorem Gn(code:ByteArray)(I m:Int)(w:World)(h:0<code.size)(Ll:code.size<=maxLen)(hm:w.cell? ⟨0,0,none⟩=some (.int .i64 m))(h0:0<w.heap.size)(k n:Nat)(rc M:Int)(O nm ls:ByteArray)(ps:List ByteArray)(D:List Opn)
  (hr:RowIs (code[0].toNat:Int) k n rc M O nm ls ps D) (sl:List Opn) (sz:Int) (h1:(pR D (code.extract 1 code.size) false n).1=sl) (h2:(code.size:Int)-((pR D (code.extract 1 code.size) false n).2.1.size:Int)=sz) (h3:(pR D (code.extract 1 code.size) false n).2.2=false)
  (U6:(rc==133)=false) (hf:∀k,k<n->((sl.getD k opn0).at (rK I sz)).Fine) (U:∀k,k<n->(qn ((sl.getD k opn0).at (rK I sz))).size<=2000) :
  Calls prog 30 #[.string code,.int .i64 I] w fun e w'=>e=.returned (.tuple #[.string ((nm++⟨#[32]⟩)++⟨(Lib.join (sl.map fun o=>(qn (o.at (rK I sz))).data.toList) [44]).toArray⟩),.int .i64 sz])/\Below w.heap.size w w':=by
 have Kk:code.toList.isEmpty=false:=aI;have HF:=oP (fun w=>BK (code[0].toNat:Int) w k hr.hk hr.hh hr.hf rc M O hr.e1 hr.e2 hr.e3);have HP:=oP (fun w kb S hm h0=>C6 rc M (code[0].toNat:Int) m O nm ls ps n kb w S hr.hs hr.hls hm h0 hr.hcut hr.hps hr.hn hr.hn0 bB hr.hpl hr.hkd D hr.hl0);have HR:=oP (fun base g G w S=>Hj base g G n D code w hr.len bB S hr.kinds h Ll sl sz false h1 h2 h3);have N5:sl.length=n:=by rw[<-h1,DG];exact hr.len
 obtain⟨bh,V⟩:=Zg0 (rK I sz);rw[V]at hf U⊢;obtain⟨R,hR⟩:∃R:ByteArray,(nm++⟨#[32]⟩)++⟨(Lib.join (sl.map fun o=>(qn (o.at bh)).data.toList) [44]).toArray⟩=R:=⟨_,rfl⟩;have Rb:=oP (fun base g G w S=>Ju base g G n sl nm bh w N5 hr.hn0 bB S hf hr.hnm U);rw[hR]at Rb⊢;have O4:Hid (IntKind.u16.wrap (IntKind.u16.wrap I+IntKind.u16.wrap sz)=bh):=V;have hn1:=hr.hn1;clear hr h1 h2 h3 hf U V hR N5;go_enter func30,ntmps30;go_wp2_with fail;refine(HF.o _).mono ?_;rintro e w1 ⟨rfl,Kh⟩;have MK:=Kh.size;have OM:∀o,(w1.alloc o).cell? ⟨0,0,none⟩=some (.int .i64 m):=fun o=>dj
 go_wp2_with fail;go_region_with (first| (go_at_call 59;refine(yk _).mono ?_;rintro e A ⟨rfl,KA,Lt⟩;have O3:A.ownsMap prog 9 (plainElem prog 111) (w1.heap.size+1) 17 kindsD:=(by simpa using KA);have k0:A.cell? ⟨w1.heap.size,0,none⟩=some (.int .u8 rc):=(aE);have k1:A.cell? ⟨w1.heap.size,1,none⟩=some (.int .u8 M):=(aE);have k2:A.cell? ⟨w1.heap.size,2,none⟩=some (.string O):=(aE);have km:A.cell? ⟨0,0,none⟩=some (.int .i64 m):=(dk);have kz:0<A.heap.size:=(dn);have PL:Below (w1.heap.size+1) (w1.alloc (.cells #[.int .u8 rc,.int .u8 M,.string O] 101)) A:=(dp))|(go_at_call 58;refine(HP.o _ _ (by exact O3) (by exact km) (by exact kz)).mono ?_;rintro e Z ⟨g,G,rfl,Ke,Km⟩))
 all_goals
  have U7:w1.heap.size+1<=A.heap.size:=dq;have Lf:=PL.trans (Km.mono (B':=w1.heap.size+1) U7);have NJ:w1.heap.size+1<=Z.heap.size:=bA;have Ms:Z.ownsRow (w1.heap.size+1) 114 5 (.slice (some ⟨g,0,none⟩) n G) n (pP D):=pC Ke U7;have hg:=(Ms.lt g rfl).1;clear Km Ke k0 k1 k2 km PL Lt KA O3;go_wp2_with fail;refine(HR.o (w1.heap.size+1) g G _ Ms).mono ?_;rintro e w3 ⟨rfl,KO,J⟩;have Kq:Below (w1.heap.size+1) Z w3:=⟨J.os,J.tape,J.output,J.size,fun j hj=>J.block j ae ai⟩;have HB:=oP (((Kh.alloc MK _).trans (Lf.mono ae)).trans (Kq.mono (B':=w.heap.size) ae));have cr:w3.cell? ⟨w1.heap.size,0,none⟩=some (.int .u8 rc):=fL;have H3:=oP KO;clear Ms KO J Kq Lf;go_wp2_with fail;rw[O4.o];refine(Rb.o (w1.heap.size+1) g G _ H3.o).mono ?_;rintro e w4 ⟨rfl,Lr⟩;go_wp2;go_ret2;exact⟨rfl,HB.o.trans (Lr.mono HB.o.size)⟩
theorem Z6T(l:List Opn)(h:l.length=2):((pP l).set 3 (.int .u16 (l.getD 1 opn0).added)).set 8 (.int .u16 (l.getD 0 opn0).added)=pP (ub l):=by
 match l,h with
 |[a,b],_=>rfl
theorem Ja(code:ByteArray)(O m:Int)(w:World)(h:0<code.size)(Ll:code.size<=maxLen)(hm:w.cell? ⟨0,0,none⟩=some (.int .i64 m))(h0:0<w.heap.size)(k n:Nat)(rc Z:Int)(rt nm ls:ByteArray)(ps:List ByteArray)(I:List Opn)
  (hr:RowIs (code[0].toNat:Int) k n rc Z rt nm ls ps I) (sl:List Opn) (sz:Int) (h1:(pR I (code.extract 1 code.size) false n).1=sl) (h2:(code.size:Int)-((pR I (code.extract 1 code.size) false n).2.1.size:Int)=sz) (h3:(pR I (code.extract 1 code.size) false n).2.2=false)
  (U6:(rc==133)=true) (QI:n=2) (hf:∀k,k<n->(((ub sl).getD k opn0).at (rK O sz)).Fine) (NH:∀k,k<n->(qn (((ub sl).getD k opn0).at (rK O sz))).size<=2000) :
  Calls prog 30 #[.string code,.int .i64 O] w fun e w'=>e=.returned (.tuple #[.string ((nm++⟨#[32]⟩)++⟨(Lib.join ((ub sl).map fun o=>(qn (o.at (rK O sz))).data.toList) [44]).toArray⟩),.int .i64 sz])/\Below w.heap.size w w':=by
 have Kk:code.toList.isEmpty=false:=aI;have HF:=oP (fun w=>BK (code[0].toNat:Int) w k hr.hk hr.hh hr.hf rc Z rt hr.e1 hr.e2 hr.e3);have HP:=oP (fun w kb Kc hm h0=>C6 rc Z (code[0].toNat:Int) m rt nm ls ps n kb w Kc hr.hs hr.hls hm h0 hr.hcut hr.hps hr.hn hr.hn0 bB hr.hpl hr.hkd I hr.hl0);have HR:=oP (fun base g J w Kc=>Hj base g J n I code w hr.len bB Kc hr.kinds h Ll sl sz false h1 h2 h3);have N5:sl.length=n:=by rw[<-h1,DG];exact hr.len
 obtain⟨bh,QH⟩:=Zg0 (rK O sz);rw[QH]at hf NH⊢;obtain⟨R,hR⟩:∃R:ByteArray,(nm++⟨#[32]⟩)++⟨(Lib.join ((ub sl).map fun o=>(qn (o.at bh)).data.toList) [44]).toArray⟩=R:=⟨_,rfl⟩;have Rb:=oP (fun base g J w Kc=>Ju base g J n (ub sl) nm bh w (by simp only[ub,mJ];exact N5) hr.hn0 bB Kc hf hr.hnm NH);rw[hR]at Rb⊢;have O4:Hid (IntKind.u16.wrap (IntKind.u16.wrap O+IntKind.u16.wrap sz)=bh):=QH;have hn1:=hr.hn1;subst QI;have Qs:=oP N5;obtain⟨a0,M⟩:∃a,(sl.getD 0 opn0).added=a:=⟨_,rfl⟩;obtain⟨a1,Rc⟩:∃a,(sl.getD 1 opn0).added=a:=⟨_,rfl⟩;have Wd4:=oP M;have WB8:=oP Rc;have Oh:=Z6T sl N5;rw[M,Rc]at Oh;have TK:=oP Oh;clear hr h1 h2 h3 hf NH QH hR N5 M Rc Oh;go_enter func30,ntmps30;go_wp2_with fail;refine(HF.o _).mono ?_;rintro e w1 ⟨rfl,Kh⟩;have MK:=Kh.size;have OM:∀o,(w1.alloc o).cell? ⟨0,0,none⟩=some (.int .i64 m):=fun o=>dj
 go_wp2_with fail;go_region_with (first| (go_at_call 59;refine(yk _).mono ?_;rintro e G ⟨rfl,KA,Lt⟩;have O3:G.ownsMap prog 9 (plainElem prog 111) (w1.heap.size+1) 17 kindsD:=(by simpa using KA);have k0:G.cell? ⟨w1.heap.size,0,none⟩=some (.int .u8 rc):=(aE);have k1:G.cell? ⟨w1.heap.size,1,none⟩=some (.int .u8 Z):=(aE);have k2:G.cell? ⟨w1.heap.size,2,none⟩=some (.string rt):=(aE);have km:G.cell? ⟨0,0,none⟩=some (.int .i64 m):=(dk);have kz:0<G.heap.size:=(dn);have PL:Below (w1.heap.size+1) (w1.alloc (.cells #[.int .u8 rc,.int .u8 Z,.string rt] 101)) G:=(dp))|(go_at_call 58;refine(HP.o _ _ (by exact O3) (by exact km) (by exact kz)).mono ?_;rintro e w2 ⟨g,J,rfl,Ke,Km⟩))
 all_goals
  have U7:w1.heap.size+1<=G.heap.size:=dq;have Lf:=PL.trans (Km.mono (B':=w1.heap.size+1) U7);have NJ:w1.heap.size+1<=w2.heap.size:=bA;have Ms:w2.ownsRow (w1.heap.size+1) 114 5 (.slice (some ⟨g,0,none⟩) 2 J) 2 (pP I):=pC Ke U7;have hg:=(Ms.lt g rfl).1;clear Km Ke k0 k1 k2 km PL Lt KA O3;go_wp2_with fail;refine(HR.o (w1.heap.size+1) g J _ Ms).mono ?_;rintro e S ⟨rfl,U,V⟩;have Kq:Below (w1.heap.size+1) w2 S:=⟨V.os,V.tape,V.output,V.size,fun j hj=>V.block j ae ai⟩;have HB:=oP (((Kh.alloc MK _).trans (Lf.mono ae)).trans (Kq.mono (B':=w.heap.size) ae));have cr:S.cell? ⟨w1.heap.size,0,none⟩=some (.int .u8 rc):=fL;have XX:=(xX sl 0 (by rw[Qs.o];omega)).2.2.2.1;have XY:=(xX sl 1 (by rw[Qs.o];omega)).2.2.2.1;rw[Wd4.o]at XX;rw[WB8.o]at XY;have ca:S.cell? ⟨g,3,none⟩=some (.int .u16 a0):=by rw[U.cellAt 3 ae];exact XX
  have cb:S.cell? ⟨g,8,none⟩=some (.int .u16 a1):=by rw[U.cellAt 8 ae];exact XY
  have fa:S.frozen? ⟨g,3,none⟩=false:=U.frozenAt 3;have fb:S.frozen? ⟨g,8,none⟩=false:=U.frozenAt 8;have A:=U.stored 3 (.int .u16 a1);have D:=A.1.stored 8 (.int .u16 a0);rw[TK.o]at D;have Lo:=oP ((HB.o.grown (B:=w.heap.size) A.2 HB.o.size (fun k hk=>by cases hk;omega)).grown D.2 (by have:=HB.o.size;have:=A.2.size;omega) (fun k hk=>by cases hk;omega));have H3:=oP D.1;clear Ms U V Kq Lf A D XX XY;go_wp2_with fail;go_region
  all_goals
   go_wp2_with fail;rw[O4.o];refine(Rb.o (w1.heap.size+1) g J _ (by exact H3.o)).mono ?_;rintro e w4 ⟨rfl,Lr⟩;go_wp2;go_ret2;exact⟨rfl,Lo.o.drew.trans (Lr.mono Lo.o.size)⟩
theorem Aj{a b:ByteArray}(h:a.data.toList=b.data.toList):a=b:=by
 apply mI;exact mV h
theorem Z4K(s:ByteArray)(a b c:Nat):(s.extract a b).extract c (b-a)=s.extract (a+c) b:=by
 apply Aj;rw[nR,nR,nR];rw[List.drop_take,lV,List.take_take];congr 1;omega
theorem FC(b:ByteArray)(i:Nat):bAt b i=((b.data.toList.getD i 0).toNat:Int):=by
 unfold bAt;rw[nK,jZ,oA]
theorem Aq(s:ByteArray)(p q i:Nat)(h:p+i<q):bAt (s.extract p q) i=bAt s (p+i):=by
 rw[FC,FC,nR];rw[jZ,jZ,n9,jT ae,mK]
def tQ(k:Nat)(b:ByteArray):Int:=if k<=8 then 0 else if k=10\/k=14 then bits BinOp.or IntKind.u16 (bAt b 0*256) (bAt b 1) else bAt b 0
theorem Df(s:ByteArray)(p:Nat)(h:p<s.size)(A:Bool):qi (s.extract p s.size) A=(bAt s p,s.extract (p+1) s.size,A):=by
 have hz:(s.extract p s.size).size=s.size-p:=aN;have h0:0<(s.extract p s.size).size:=ae;unfold qi;rw[mR h0,vd _ _ h0,Aq s p s.size 0 ae,hz,Z4K s p s.size 1];rfl
theorem Gu(k:Nat)(h:k<=8):pw k=0:=by
 match k,h with
 |0,_=>rfl
 |1,_=>rfl
 |2,_=>rfl
 |3,_=>rfl
 |4,_=>rfl
 |5,_=>rfl
 |6,_=>rfl
 |7,_=>rfl
 |8,_=>rfl
theorem Jp(k:Nat)(h:¬k<=8)(A:k<17):pw k=if k=10\/k=14 then 2 else 1:=by
 match k,h,A with
 |9,_,_=>rfl
 |10,_,_=>rfl
 |11,_,_=>rfl
 |12,_,_=>rfl
 |13,_,_=>rfl
 |14,_,_=>rfl
 |15,_,_=>rfl
 |16,_,_=>rfl
 |n+17,_,h=>exact absurd h ae
theorem Z4f(k:Nat)(D:k<17)(s:ByteArray)(p:Nat)(h:p+pw k<=s.size):tt k (s.extract p s.size) false=(tQ k (s.extract p (p+pw k)),s.extract (p+pw k) s.size,false):=by
 unfold tt tQ;by_cases A:k<=8
 ·rw[jT A,jT A,Gu k A];rfl
 rw[jS A,jS A];rw[Jp k A D]at h⊢;by_cases hw:k=10\/k=14
 ·rw[jT hw]at h⊢;rw[jT hw,jT hw];unfold wW;rw[Df s p ae];simp only;rw[Df s (p+1) ae,Aq s p (p+2) 0 ae,Aq s p (p+2) 1 ae];rfl
 rw[jS hw]at h⊢;rw[jS hw,jS hw,Df s p ae,Aq s p (p+1) 0 ae];rfl
theorem C3(r:ByteArray)(A:Bool)(h:r.size=0):qi r A=(0,r,true):=by
 unfold qi;rw[nh ae]
theorem Br(r:ByteArray):(qi r true).2.2=true:=by
 unfold qi;split <;> rfl
theorem Z92(k:Nat)(r:ByteArray):(tt k r true).2.2=true:=by
 unfold tt;split
 ·rfl
 split
 ·unfold wW;simp only;rw[Br];exact Br _
 exact Br r
theorem Z5l(k:Nat)(G:k<17)(r:ByteArray)(A:Bool)(h:r.size<pw k):(tt k r A).2.2=true:=by
 unfold tt;by_cases D:k<=8
 ·rw[Gu k D]at h;omega
 rw[jS D];rw[Jp k D G]at h;by_cases hw:k=10\/k=14
 ·rw[jT hw]at h⊢;unfold wW;by_cases hz:r.size=0
  ·rw[C3 r A hz];exact Br r
  have h1:r.size=1:=ae;have h0:0<r.size:=ae;have e:qi r A=((r[0].toNat:Int),r.extract 1 r.size,A):=by unfold qi;rw[mR h0]
  rw[e];simp only;rw[C3 _ _ aN]
 rw[jS hw]at h⊢;rw[C3 r A ae]
def opA(own:Int)(ks:List Nat)(code:ByteArray)(i j:Nat):Opn:=⟨ks.getD j 0,qd (ks.getD j 0),own,if j<i then tQ (ks.getD j 0) (code.extract (pD ks j) (pD ks j+pw (ks.getD j 0))) else 0,0⟩
def lAt(own:Int)(ks:List Nat)(code:ByteArray)(i:Nat):List Opn:=(List.range ks.length).map (opA own ks code i)
theorem yu(own:Int)(ks:List Nat)(code:ByteArray)(i j:Nat)(h:j<ks.length):(lAt own ks code i).getD j opn0=opA own ks code i j:=by
 unfold lAt;rw[jZ,kS,nk h];rfl
theorem Z8z(own:Int)(ks:List Nat)(code:ByteArray)(i:Nat)(h:i<ks.length):(lAt own ks code i).set i ((opA own ks code i i).put (tQ (ks.getD i 0) (code.extract (pD ks i) (pD ks i+pw (ks.getD i 0)))))=lAt own ks code (i+1):=by
 apply List.ext_getElem?;intro j;rw[mz];simp only[lAt,kL,mA,kS];by_cases hj:j<ks.length
 ·rw[nk hj];by_cases e:i=j
  ·subst e;simp[hj,opA,Opn.put]
  simp only[e,mB,nC,opA];by_cases h1:j<i
  ·rw[jT h1,jT ae]
  rw[jS h1,jS ae]
 rw[mg bz];simp;intro e;omega
theorem Z7h(ks:List Nat):pD ks 0=1:=rfl
theorem ym(own:Int)(ks:List Nat)(code:ByteArray)(hk:∀j,j<ks.length->ks.getD j 0<17):∀i,i<=ks.length->pD ks i<=code.size ->
  pR (lAt own ks code 0) (code.extract 1 code.size) false i=(lAt own ks code i,code.extract (pD ks i) code.size,false)
 |0,_,_=>rfl
 |i+1,hi,A=>by
  have hs:=A1 ks i ae
  have ih:=ym own ks code hk i ae ae
  simp only[pR,ih]
  rw[yu own ks code i i ae]
  show (_:List Opn×ByteArray×Bool)=_
  rw[show (opA own ks code i i).kind=ks.getD i 0 from rfl,Z4f (ks.getD i 0) (hk i ae) code (pD ks i) ae]
  simp only
  rw[Z8z own ks code i ae,hs]
theorem Ds(own:Int)(ks:List Nat)(code:ByteArray)(h1:1<=code.size)(hk:∀j,j<ks.length->ks.getD j 0<17):∀i,i<=ks.length->code.size<pD ks i ->
  (pR (lAt own ks code 0) (code.extract 1 code.size) false i).2.2=true
 |0,_,A=>by rw[Z7h]at A;omega
 |i+1,hi,A=>by
  have hs:=A1 ks i ae
  by_cases hq:code.size<pD ks i
  ·have ih:=Ds own ks code h1 hk i ae hq
   simp only[pR]
   rw[ih]
   exact Z92 _ _
  have ih:=ym own ks code hk i ae ae
  simp only[pR,ih]
  rw[yu own ks code i i ae]
  show (tt (ks.getD i 0) _ _).2.2=true
  exact Z5l _ (hk i ae) _ _ aN
theorem CR(n:Int)(h0:0<=n)(h1:n<2 ^ 16):IntKind.u16.wrap n=n:=by rw[mq];omega
theorem Z77(a:Int)(h0:0<=a)(h1:a<=255):IntKind.i8.wrap a=if (127:Int)<a then a-(256:Int) else a:=by
 have A:∀n:Fin 256,IntKind.i8.wrap (n.val:Int)=if (127:Int)<(n.val:Int) then (n.val:Int)-(256:Int) else (n.val:Int):=aq
 obtain⟨n,rfl⟩:=nZ h0;exact A ⟨n,ae⟩
theorem Z9U(h:Nat)(hh:h<65536):h &&& 63488=2048*(h/2048):=by
 apply Nat.eq_of_testBit_eq;intro i;rw[Nat.testBit_and,show 2048*(h/2048)=2 ^ 11*(h/2 ^ 11) from rfl,Nat.testBit_two_pow_mul,Nat.testBit_div_two_pow];by_cases hi:i<16
 ·have D:∀i:Fin 16,Nat.testBit 63488 i.val=decide (11<=i.val):=by decide
  have:=D ⟨i,hi⟩;simp only at this;rw[this];by_cases A:11<=i
  ·simp[A]
  simp[A]
 have e:h.testBit i=false:=Nat.testBit_lt_two_pow (ke hh (by
  have:(2:Nat) ^ 16<=2 ^ i:=od ah ae;omega))
 rw[e];by_cases A:11<=i
 ·rw[show i-11+11=i by omega,e];simp
 omega
theorem Gp(p q:Int)(p0:0<=p)(A:p<=255)(q0:0<=q)(q1:q<=255):bits BinOp.or IntKind.u16 (p*256) q=(256:Int)*p+q:=by
 rw[bits_join .u16 16 ah CR 8]
 all_goals omega
