import Derived.Test.YthokdbcpkmcieaaGreatDoorH10
import Derived.Sort.MapsRangeIn
import Derived.DeepKeys4
set_option maxRecDepth 200000
set_option maxHeartbeats 16000000
namespace Go.Proofs.YthokdbcpkmcieaaGreatDoor
open RowKit Maps WideMaps Proofs.Tryz
theorem Z75(w:World) :
  Calls prog 199 #[] w fun e w'=>e=.returned (.map (some w.heap.size))/\(∃n,n<=1000/\MapAt prog 9 w' w.heap.size n (fun l=>(pH l).map fixV))/\Below w.heap.size w w':=by
 have MM:=@n8 prog;have Z:=oP (yk (w.alloc (.map #[] 0)));have hz:(w.alloc (.map #[] 0)).heap.size=w.heap.size+1:=af;rw[hz]at Z;go_enter func199,ntmps199;go_wp2_with fail;refine Z.o.mono ?_;rintro e D ⟨rfl,Kc,Kn⟩;have I:MapAt prog 9 D w.heap.size 0 (fun _=>none):=(MapAt.made w prog 9).below Kn ae;have N8:Below w.heap.size w D:=(jV.alloc jU _).trans (Kn.mono af);have QP:=Kc.lt;go_wp2_with (at_range;refine wpList_range_own _ rfl _ 107 rfl 9 111 rJ underlying107 _ (w.heap.size+1) 17 _ rfl Kc ?_;intro w0 J VM ZK);go_frame;have VO:=oP J;have M:MapAt prog 9 w0 w.heap.size 0 (rq (Maps.has kindsD)):=(I.kept VM af).ext (fun l=>(Z1X l).symm);have Nn:Below w.heap.size w w0:=N8.grown VM (by have:=N8.size;omega) (fun j hj=>by cases hj);have Mo:=oP M;have NT:=oP Nn;clear J M Nn I N8 Kn Kc VM ZK Z;go_loopw [7] (fun _ wr=>∃(left:Lit->Bool) (cnt n:Nat),wr.ranges prog 9 (plainElem (H:=Unit) prog 111) (w.heap.size+1) D.heap.size 17 kindsD left cnt/\n+10*cnt<=170/\MapAt prog 9 wr w.heap.size n (rq left)/\Below w.heap.size w wr) (fun _ wr=>wr.rangeLeft (w.heap.size+1) D.heap.size)
 case atStart=>exact⟨_,_,0,VO.o,aq,Mo.o,NT.o⟩
 case round=>
  obtain⟨left,cnt,n,U,Tr,hM,hB⟩:=hrel;clear VO Mo NT;have HM:=oP hM;have HB:=oP hB;have HR:=oP U;clear hM hB;go_wp2_with (at_next;refine wpList_next_ranges _ rfl _ rfl 9 rJ _ Value.string (Value.int .i64) (fun Ko kl O=>Maps.keyOf_string_inv underlying9 O) (fun v y V=>by obtain⟨c,rfl,_⟩:=plainElem_int_inv underlying111 V;exact⟨c,rfl⟩) (w.heap.size+1) D.heap.size 17 _ _ _ rfl U ?_ ?_)
  ·intro Sr hl0;go_wp2;go_ret;exact⟨rfl,⟨n,ae,HM.o.ext (Z0m left hl0)⟩,HB.o⟩
  intro x c kl yd yp wn Mv O Wu5 V MF R Kf KT MK Py;obtain⟨x',ex,rfl,O2⟩:=string_of_keyOf underlying9 O;cases ex;obtain⟨c',ec,ey,Ye⟩:=plainElem_int_inv underlying111 V;cases ec;simp only[mH]at ey;obtain⟨rfl,rfl⟩:=ey;obtain⟨kv,hm,Lv,MO⟩:=Z1y MF;have KL:∀l',rI kv (rq left) l'=rq (fun z=>left z&&!z.sameKey (.string x.data.toList)) l':=fun l'=>by rw[Z4T,Z4p kv hm _ (Z91 left),Lv]
  have TJ:∀kv∈wL,kv.2<=16/\kv.1.length<=10:=aq;obtain⟨Wg1,VP⟩:=TJ kv hm
  have Pp:x.size<=1000:=by
   have:x.data.toList.length<=10:=by rw[<-Lv];exact VP
   have e:x.size=x.data.toList.length:=aK;omega
  have VQ:some w.heap.size≠some D.heap.size:=fun e=>bN
  have S:=HM.o.kept KT VQ;have NU:Below w.heap.size w wn:=HB.o.grown KT (by have:=HB.o.size;omega) (fun j hj=>by cases hj;omega);have Pz:=oP S;have MP:=oP NU;have LV:=oP R;have G:=oP O;have KF:=oP (And.intro KL Lv);have Ln:=oP (And.intro U.left_eq Kf);have LW:some (w.heap.size+1)≠some w.heap.size:=fun e=>bN
  have N9:some D.heap.size≠some w.heap.size:=fun e=>VQ e.symm
  clear S NU R O KL TJ hm V MF HM HB HR U Ye KT MK Kf Wu5 VP;by_cases h0:kv.2=0
  ·obtain rfl:c=0:=by omega
   have HV:=oP h0;clear MO;go_wp2_with (at_mapUpdate;refine vV _ rfl _ _ _ 244 rfl 9 324 rz underlying244 w.heap.size n _ rfl Pz.o ak _ (fixV (0,0)) _ rfl rfl G.o ?_;intro A Mc KM;go_frame);exact Maw
  by_cases h1:kv.2=1
  ·obtain rfl:c=1:=by omega
   have HV:=oP h1;clear MO;go_wp2_with (at_mapUpdate;refine vV _ rfl _ _ _ 244 rfl 9 324 rz underlying244 w.heap.size n _ rfl Pz.o ak _ (fixV (1,0)) _ rfl rfl G.o ?_;intro A Mc KM;go_frame);exact Maw
  by_cases h2:kv.2=2
  ·obtain rfl:c=2:=by omega
   have HV:=oP h2;clear MO;go_wp2_with (at_mapUpdate;refine vV _ rfl _ _ _ 244 rfl 9 324 rz underlying244 w.heap.size n _ rfl Pz.o ak _ (fixV (2,0)) _ rfl rfl G.o ?_;intro A Mc KM;go_frame);exact Maw
  by_cases h3:kv.2=3
  ·obtain rfl:c=3:=by omega
   have HV:=oP h3;clear MO;go_wp2_with (at_mapUpdate;refine vV _ rfl _ _ _ 244 rfl 9 324 rz underlying244 w.heap.size n _ rfl Pz.o ak _ (fixV (3,0)) _ rfl rfl G.o ?_;intro A Mc KM;go_frame);exact Maw
  by_cases h4:kv.2=4
  ·obtain rfl:c=4:=by omega
   have HV:=oP h4;clear MO;go_wp2_with (at_mapUpdate;refine vV _ rfl _ _ _ 244 rfl 9 324 rz underlying244 w.heap.size n _ rfl Pz.o ak _ (fixV (4,0)) _ rfl rfl G.o ?_;intro A Mc KM;go_frame);exact Maw
  by_cases h5:kv.2=5
  ·obtain rfl:c=5:=by omega
   have HV:=oP h5;clear MO;go_wp2_with (at_mapUpdate;refine vV _ rfl _ _ _ 244 rfl 9 324 rz underlying244 w.heap.size n _ rfl Pz.o ak _ (fixV (5,0)) _ rfl rfl G.o ?_;intro A Mc KM;go_frame);exact Maw
  by_cases h6:kv.2=6
  ·obtain rfl:c=6:=by omega
   have HV:=oP h6;clear MO;go_wp2_with (at_mapUpdate;refine vV _ rfl _ _ _ 244 rfl 9 324 rz underlying244 w.heap.size n _ rfl Pz.o ak _ (fixV (6,0)) _ rfl rfl G.o ?_;intro A Mc KM;go_frame);exact Maw
  by_cases h7:kv.2=7
  ·obtain rfl:c=7:=by omega
   have HV:=oP h7;clear MO;have HA:=oP (JU w.heap.size n (rq left) x 7 2 wn Pz.o ae Pp ah);go_wp2_with fail;refine HA.o.mono ?_;rintro e A ⟨rfl,⟨n2,QI,Mc⟩,KM⟩;go_wp2;have Lw:=LV.o.kept KM LW N9;go_roundw
   case rel=>
    refine⟨_,Mv,n2,Lw,?_,Mc.ext (fun l'=>?_),MP.o.grown KM ep (fun j hj=>by cases hj;exact jU)⟩
    ·have:=Ln.o.2;omega
    rw[<-KF.o.1 l'];unfold rI;rw[jS bt,jT HV.o,KF.o.2]
   case measure=>
    rw[Lw.left_eq,Ln.o.1];exact Ln.o.2
  by_cases h8:kv.2=8
  ·obtain rfl:c=8:=by omega
   have HV:=oP h8;clear MO;have HA:=oP (JU w.heap.size n (rq left) x 8 8 wn Pz.o ae Pp ah);go_wp2_with fail;refine HA.o.mono ?_;rintro e A ⟨rfl,⟨n2,QI,Mc⟩,KM⟩;go_wp2;have Lw:=LV.o.kept KM LW N9;go_roundw
   case rel=>
    refine⟨_,Mv,n2,Lw,?_,Mc.ext (fun l'=>?_),MP.o.grown KM ep (fun j hj=>by cases hj;exact jU)⟩
    ·have:=Ln.o.2;omega
    rw[<-KF.o.1 l'];unfold rI;rw[jS bt,jS bt,jT HV.o,KF.o.2]
   case measure=>
    rw[Lw.left_eq,Ln.o.1];exact Ln.o.2
  by_cases h9:kv.2=9
  ·obtain rfl:c=9:=by omega
   have HV:=oP h9;exact MaC
  by_cases Qq:kv.2=10
  ·obtain rfl:c=10:=by omega
   have HV:=oP Qq;exact MaC
  by_cases VA:kv.2=11
  ·obtain rfl:c=11:=by omega
   have HV:=oP VA;exact MaC
  by_cases Rw:kv.2=12
  ·obtain rfl:c=12:=by omega
   have HV:=oP Rw;exact MaC
  by_cases XW:kv.2=13
  ·obtain rfl:c=13:=by omega
   have HV:=oP XW;exact MaC
  by_cases WI:kv.2=14
  ·obtain rfl:c=14:=by omega
   have HV:=oP WI;exact MaC
  by_cases VB:kv.2=15
  ·obtain rfl:c=15:=by omega
   have HV:=oP VB;exact MaC
  obtain rfl:c=16:=ae
  have HV:Hid (kv.2=16):=by
   show kv.2=16;omega
  exact MaC
def tJ(s:ByteArray)(n a b c:Int):Value:=.agg #[.string s,.int .i64 n,.int .i64 a,.int .i64 b,.int .i64 c]
def zx(s:ByteArray)(n a b c:Int):List UInt8:=keyBytes [.string s.data.toList,.int .i64 n,.int .i64 a,.int .i64 b,.int .i64 c]
theorem Tryz.laidOut:laidOutB Tryz.prog=true:=aj
theorem Tryz.entRow:292<Tryz.prog.types.size:=aq
theorem Tryz.entTy3:Tryz.prog.keyTypeAt 3 292=true:=aj
theorem GF:KeyLaw prog 292:=deep_law_laid Tryz.laidOut (m:=3) (lh rfl) Tryz.entRow Tryz.entTy3 aj
theorem IU:Keyed prog 292:=Keyed.of_law GF
theorem DE(n:Int)(h0:0<=n)(h1:n<=1000000):(Lit.int .i64 n).wf=true:=WalkArith.wf_i64 ae
theorem Z1R{P:Program}{E S I A K:TypeId}{f0 f1 f2:Field}{N:Nat}(G:P.types.size=N+4)(J:P.keyType E=true)(D:P.underlying E=some (.struct #[f0,f1,f2]))(M:f0.type=S)(e1:f1.type=I)(e2:f2.type=A)(o0:f0.offset=0)(o1:f1.offset=1)(o2:f2.offset=2)
    (n0 : (f0.name != "_") = true) (n1 : (f1.name != "_") = true) (O : (f2.name != "_") = true) (R : P.underlying S = some .string) (U : P.underlying I = some (.int .i64)) (V : P.underlying A = some (.array 3 K)) (Z : P.underlying K = some (.int .i64))
  (cE:P.cellsOf E=5) (cS:P.cellsOf S=1) (cI:P.cellsOf I=1) (cA:P.cellsOf A=3) (cK:P.cellsOf K=1)
  (s:ByteArray) (n a b c:Int) (hs:s.size<=1000000) (hn:(Lit.int .i64 n).wf=true) (ha:(Lit.int .i64 a).wf=true) (hb:(Lit.int .i64 b).wf=true) (hc:(Lit.int .i64 c).wf=true):keyOf P E (tJ s n a b c)=some (.string (zx s n a b c)):=by
 have KB:s.size<=maxLen:=ak;unfold keyOf;rw[D];simp only[J,G,Value.formed,D,tJ,Value.cells,Program.keyLits,cE];simp[M,e1,e2,o0,o1,o2,n0,n1,O,R,U,V,Z,cS,cI,cA,cK,KB,hn,ha,hb,hc,zx,List.range,List.range.loop]
theorem Tryz.entType:Tryz.prog.keyType 292=true:=aj
theorem Tryz.entN:Tryz.prog.types.size=Tryz.prog.types.size-4+4:=(Nat.sub_add_cancel (j8 ah (oJ Tryz.entRow))).symm
theorem Z5t(s:ByteArray)(n a b c:Int)(hs:s.size<=1000000)(hn:(Lit.int .i64 n).wf=true)(A:(Lit.int .i64 a).wf=true)(D:(Lit.int .i64 b).wf=true)(hc:(Lit.int .i64 c).wf=true):keyOf prog 292 (tJ s n a b c)=some (.string (zx s n a b c)):=
 Z1R Tryz.entN Tryz.entType underlying292 rfl rfl rfl rfl rfl rfl ah ah ah underlying9 underlying3 underlying290 underlying111 aj aj aj aj aj s n a b c hs hn A D hc
def lkN(k:Nat):Nat:=if k=10 then 9 else if k=12\/k=14\/k=15\/k=16 then 11 else k
theorem Z74(k:Nat)(w:World) :
  Calls prog 243 #[.int .i64 k] w fun e w'=>e=.returned (.int .i64 (lkN k:Nat))/\w'=w:=by
 by_cases A:k=10
 ·subst A;exact McA
 have D:((k:Int)==10)=false:=ai;by_cases G:k=12
 ·subst G;exact McA
 have I:((k:Int)==12)=false:=ai;by_cases J:k=14
 ·subst J;exact McA
 have M:((k:Int)==14)=false:=ai;by_cases O:k=15
 ·subst O;exact McA
 have R:((k:Int)==15)=false:=ai;by_cases S:k=16
 ·subst S;exact McA
 have U:((k:Int)==16)=false:=ai;have e:lkN k=k:=by unfold lkN;rw[jS A,jS ae]
 rw[e];exact McA
def qp(ks:List Nat):List Value:=ks.map fun k=>.int .i64 (k:Nat)
def uk(s:ByteArray)(ks:List Nat):Value:=tJ s ks.length (match ks[0]? with|some k=>(lkN k:Nat)|none=>0) (match ks[1]? with|some k=>(lkN k:Nat)|none=>0) (match ks[2]? with|some k=>(lkN k:Nat)|none=>0)
theorem IF(s:ByteArray)(base:Nat)(v:Value)(ks:List Nat)(w:World)(hk:ks.length<=3)(Ke:w.ownsRow base 111 1 v ks.length (qp ks)) :
  Calls prog 201 #[.string s,v] w fun e w'=>e=.returned (uk s ks)/\Below w.heap.size w w':=by
 have J:=oP Z74;match ks,hk with
 |[],_=>
  obtain⟨a,Kd,rfl⟩:∃a Kd,v=.slice a 0 Kd:=by
   obtain⟨_,⟨rfl,_⟩|⟨g,Kd,KG,rfl,_⟩⟩:=Ke
   ·exact⟨none,0,rfl⟩
   exact⟨_,_,rfl⟩
  go_enter func201,ntmps201;go_wp2_with fail;refine lS 1 ?_;rw[kG];go_wp2_with fail;refine kf (v:=uk s []) (by simp[results,results201,go_sem,uk,tJ]) rfl ⟨rfl,?_⟩;exact McP
 |[a],_=>
  obtain⟨g,Kd,rfl⟩:∃g Kd,v=.slice (some ⟨g,0,none⟩) 1 Kd:=Mcm;have V:=(Ke.lt g rfl).2;have Z:w.cell? ⟨g,0,none⟩=some (.int .i64 (a:Nat)):=eE;obtain⟨A,D⟩:∃x,lkN a=x:=⟨_,rfl⟩;have M:=oP (fun w=>show Calls prog 243 #[.int .i64 (a:Nat)] w fun e w'=>e=.returned (.int .i64 (A:Nat))/\w'=w by rw[<-D];exact J.o a w);have he:uk s [a]=tJ s 1 A 0 0:=by simp only[uk,T0w,T0x,List.getElem?_nil,kh,lI,D];rfl
  rw[he];clear Ke he D;go_enter func201,ntmps201;go_wp2_with fail;refine lS 2 ?_;rw[kG];go_wp2_with fail;refine(M.o _).mono ?_;rintro e O ⟨rfl,rfl⟩;go_wp2_with fail;rw[kG];go_wp2_with fail;refine kf (v:=tJ s 1 A 0 0) eG rfl ⟨rfl,?_⟩;exact McP
 |[a,b],_=>
  obtain⟨g,Kd,rfl⟩:∃g Kd,v=.slice (some ⟨g,0,none⟩) 2 Kd:=Mcm;have V:=(Ke.lt g rfl).2;have Z:w.cell? ⟨g,0,none⟩=some (.int .i64 (a:Nat)):=eE;obtain⟨A,D⟩:∃x,lkN a=x:=⟨_,rfl⟩;have M:=oP (fun w=>show Calls prog 243 #[.int .i64 (a:Nat)] w fun e w'=>e=.returned (.int .i64 (A:Nat))/\w'=w by rw[<-D];exact J.o a w);have k1:w.cell? ⟨g,1,none⟩=some (.int .i64 (b:Nat)):=by rw[Ke.cellAt 1 af];rfl
  obtain⟨G,I⟩:∃x,lkN b=x:=⟨_,rfl⟩;have R:=oP (fun w=>show Calls prog 243 #[.int .i64 (b:Nat)] w fun e w'=>e=.returned (.int .i64 (G:Nat))/\w'=w by rw[<-I];exact J.o b w);have he:uk s [a,b]=tJ s 2 A G 0:=by simp only[uk,T0w,T0x,List.getElem?_nil,kh,lI,D,I];rfl
  rw[he];clear Ke he D I;go_enter func201,ntmps201;go_wp2_with fail;refine lS 3 ?_;rw[kG];go_wp2_with fail;refine(M.o _).mono ?_;rintro e O ⟨rfl,rfl⟩;go_wp2_with fail;rw[kG];go_wp2_with fail;refine(R.o _).mono ?_;rintro e O ⟨rfl,rfl⟩;go_wp2_with fail;rw[kG];go_wp2_with fail;refine kf (v:=tJ s 2 A G 0) eG rfl ⟨rfl,?_⟩;exact McP
 |[a,b,c],_=>
  obtain⟨g,Kd,rfl⟩:∃g Kd,v=.slice (some ⟨g,0,none⟩) 3 Kd:=Mcm;have V:=(Ke.lt g rfl).2;have Z:w.cell? ⟨g,0,none⟩=some (.int .i64 (a:Nat)):=eE;obtain⟨A,D⟩:∃x,lkN a=x:=⟨_,rfl⟩;have M:=oP (fun w=>show Calls prog 243 #[.int .i64 (a:Nat)] w fun e w'=>e=.returned (.int .i64 (A:Nat))/\w'=w by rw[<-D];exact J.o a w);have k1:w.cell? ⟨g,1,none⟩=some (.int .i64 (b:Nat)):=by rw[Ke.cellAt 1 af];rfl
  obtain⟨G,I⟩:∃x,lkN b=x:=⟨_,rfl⟩;have R:=oP (fun w=>show Calls prog 243 #[.int .i64 (b:Nat)] w fun e w'=>e=.returned (.int .i64 (G:Nat))/\w'=w by rw[<-I];exact J.o b w);have k2:w.cell? ⟨g,2,none⟩=some (.int .i64 (c:Nat)):=by rw[Ke.cellAt 2 af];rfl
  obtain⟨S,U⟩:∃x,lkN c=x:=⟨_,rfl⟩;have RM:=oP (fun w=>show Calls prog 243 #[.int .i64 (c:Nat)] w fun e w'=>e=.returned (.int .i64 (S:Nat))/\w'=w by rw[<-U];exact J.o c w);have he:uk s [a,b,c]=tJ s 3 A G S:=by simp only[uk,T0w,T0x,kh,lI,D,I,U];rfl
  rw[he];clear Ke he D I U;go_enter func201,ntmps201;go_wp2_with fail;refine lS 4 ?_;rw[kG];go_wp2_with fail;refine(M.o _).mono ?_;rintro e O ⟨rfl,rfl⟩;go_wp2_with fail;rw[kG];go_wp2_with fail;refine(R.o _).mono ?_;rintro e O ⟨rfl,rfl⟩;go_wp2_with fail;rw[kG];go_wp2_with fail;refine(RM.o _).mono ?_;rintro e O ⟨rfl,rfl⟩;go_wp2_with fail;rw[kG];go_wp2_with fail;refine kf (v:=tJ s 3 A G S) eG rfl ⟨rfl,?_⟩;exact McP
structure InsD where
 code:Nat
 kinds:List Nat
 size:Nat
def tH(t:List UInt8):List ByteArray:=match Lib.cut t [32] with
 |(_,l,true)=>pieces ⟨l.toArray⟩
 |_=>[]
def qo(t:List UInt8):List Nat:=(tH t).map fun p=>(qa p).toNat
def rk(ks:List Nat):Nat:=1+(ks.map fun k=>if k<=8 then 0 else if k=10\/k=14 then 2 else 1).sum
def B0(r:Nat×Nat×List UInt8):InsD:=⟨r.1,qo r.2.2,rk (qo r.2.2)⟩
def uf(s:List UInt8)(ks:List Nat)(r:Nat×Nat×List UInt8):Bool:=qk r.2.2==s&&((qo r.2.2).map lkN==ks.map lkN)
def tU(s:List UInt8)(ks:List Nat):Option InsD:=(rowsL.reverse.find? (uf s ks)).map B0
def sr(s:ByteArray)(ks:List Nat):List UInt8:=zx s ks.length (match ks[0]? with|some k=>(lkN k:Nat)|none=>0) (match ks[1]? with|some k=>(lkN k:Nat)|none=>0) (match ks[2]? with|some k=>(lkN k:Nat)|none=>0)
def qW(c:Int)(v:Value)(n:Int):Value:=.agg #[.int .u8 c,v,.int .i64 n]
def InsAt(w:World)(b:Bk)(B:Nat):Prop:=∃f n,MapAt prog 292 w b.ib n f/\∀(s:ByteArray) (ks:List Nat),s.size<=1000000->ks.length<=3->(∀k∈ks,k<=100) ->
 match tU s.data.toList ks with
 |none=>f (sr s ks)=none
 |some d=>∃v,f (sr s ks)=some (qW d.code v d.size)/\w.ownsRow 0 111 1 v d.kinds.length (qp d.kinds)/\∀j,v.ownBlock=some j->j<B
theorem Z2g(k:Nat)(h:k<=100):lkN k<=100:=by
 unfold lkN;split
 ·omega
 split <;> omega
theorem An(s:ByteArray)(ks:List Nat)(hs:s.size<=1000000)(hk:ks.length<=3)(D:∀k∈ks,k<=100):keyOf prog 292 (uk s ks)=some (.string (sr s ks)):=by
 have A:∀i:Nat,(Lit.int .i64 (match ks[i]? with|some k=>((lkN k:Nat):Int)|none=>0)).wf=true:=by
  intro i;cases h:ks[i]? with
  |none=>exact DE 0 ae ae
  |some k=>
   have:=Z2g k (D k (lT h));exact DE ((lkN k:Nat):Int) ae ae
 exact Z5t s _ _ _ _ hs (DE _ ae ae) (A 0) (A 1) (A 2)
theorem Z61(w:World):(zeroValue 128).run prog w=.ok (qW 0 (.slice none 0 0) 0) w:=aj
def Z94(w:World)(B:Nat)(o:Option InsD)(e:Ending)(w':World):Prop:=
 Below w.heap.size w w'/\match o with
 |some d=>∃v,e=.returned (.tuple #[qW d.code v d.size,.bool true])/\w.ownsRow 0 111 1 v d.kinds.length (qp d.kinds)/\∀j,v.ownBlock=some j->j<B
 |none=>∃(c:Int) (A:Option Addr) (D G:Nat) (m:Int),e=.returned (.tuple #[qW c (.slice A D G) m,.bool false])
structure FQ(w wq:World)(sb:Nat)(c:Int)(v:Value)(m:Int):Prop where
 q0:wq.cell? ⟨sb,0,none⟩=some (.int .u8 c)
 q1:wq.cell? ⟨sb,1,none⟩=some v
 q2:wq.cell? ⟨sb,2,none⟩=some (.int .i64 m)
 r0:wq.cell? ⟨w.heap.size+1,0,none⟩=some (.int .u8 0)
 r1:wq.cell? ⟨w.heap.size+1,1,none⟩=some (.slice none 0 0)
 r2:wq.cell? ⟨w.heap.size+1,2,none⟩=some (.int .i64 0)
 g0:wq.frozen? ⟨w.heap.size+1,0,none⟩=false
 g1:wq.frozen? ⟨w.heap.size+1,1,none⟩=false
 g2:wq.frozen? ⟨w.heap.size+1,2,none⟩=false
 bel:Below w.heap.size w wq
 lt:sb<wq.heap.size
 ge:w.heap.size+2<=sb
theorem CA{w A:World}{o1 o2:Obj}(h:Below ((w.alloc o1).alloc o2).drew.heap.size ((w.alloc o1).alloc o2).drew A):Below w.heap.size w A:=((jV.alloc jU _).alloc af _).drew.trans (h.mono ai)
theorem Z6O{w A:World}{o1 o2 D:Obj}(h:Below (((w.alloc o1).alloc o2).alloc D).drew.heap.size (((w.alloc o1).alloc o2).alloc D).drew A):Below w.heap.size w A:=(((jV.alloc jU _).alloc af _).alloc ai _).drew.trans (h.mono ai)
theorem at_new{w:World}{cs:Array Value}{t:TypeId}{k j:Nat}(hk:k=w.heap.size):(w.alloc (.cells cs t)).cell? ⟨k,j,none⟩=cs[j]?/\(w.alloc (.cells cs t)).frozen? ⟨k,j,none⟩=false:=by
 subst hk;simp
theorem Z3i{w A:World}(h:Below w.heap.size w A)(o:Obj):Below w.heap.size w (A.alloc o):=h.alloc h.size o
theorem Z6w{w A:World}{o1 o2:Obj}(h:Below (((w.alloc o1).alloc o2).alloc (.cells #[.int .u8 0,.slice none 0 0,.int .i64 0] 128)).drew.heap.size (((w.alloc o1).alloc o2).alloc (.cells #[.int .u8 0,.slice none 0 0,.int .i64 0] 128)).drew A) :
  A.cell? ⟨w.heap.size+2,0,none⟩=some (.int .u8 0)/\A.cell? ⟨w.heap.size+2,1,none⟩=some (.slice none 0 0)/\A.cell? ⟨w.heap.size+2,2,none⟩=some (.int .i64 0)/\A.frozen? ⟨w.heap.size+2,0,none⟩=false/\A.frozen? ⟨w.heap.size+2,1,none⟩=false/\A.frozen? ⟨w.heap.size+2,2,none⟩=false:=by
 refine⟨?_,?_,?_,?_,?_,?_⟩
 ·rw[h.cell af];exact(at_new af).1
 ·rw[h.cell af];exact(at_new af).1
 ·rw[h.cell af];exact(at_new af).1
 ·rw[h.frozen af];exact(at_new af).2
 ·rw[h.frozen af];exact(at_new af).2
 rw[h.frozen af];exact(at_new af).2
theorem Z53{w A:World}{x y z:Value}{t:TypeId}{o2:Obj}(h:Below ((w.alloc (.cells #[x,y,z] t)).alloc o2).drew.heap.size ((w.alloc (.cells #[x,y,z] t)).alloc o2).drew A):A.cell? ⟨w.heap.size,1,none⟩=some y:=by
 rw[h.cell ai];exact(lO af).trans (at_new rfl).1
theorem Z71{w A:World}{x y z:Value}{t:TypeId}{o2 D:Obj}(h:Below (((w.alloc (.cells #[x,y,z] t)).alloc o2).alloc D).drew.heap.size (((w.alloc (.cells #[x,y,z] t)).alloc o2).alloc D).drew A):A.cell? ⟨w.heap.size,1,none⟩=some y:=by
 rw[h.cell ai];exact((lO ai).trans (lO af)).trans (at_new rfl).1
theorem Z64{w A:World}{o1 o2:Obj}(h:Below ((w.alloc o1).alloc o2).drew.heap.size ((w.alloc o1).alloc o2).drew A):w.heap.size<A.heap.size:=by
 have:=h.size;simp at this;omega
theorem Z5F{w A:World}{o1 o2 D:Obj}(h:Below (((w.alloc o1).alloc o2).alloc D).drew.heap.size (((w.alloc o1).alloc o2).alloc D).drew A):w.heap.size<A.heap.size:=by
 have:=h.size;simp at this;omega
theorem Z6g{w A:World}{o1:Obj}(c:Int)(v:Value)(m:Int)(h:Below ((w.alloc o1).alloc (.cells #[.int .u8 0,.slice none 0 0,.int .i64 0] 128)).drew.heap.size ((w.alloc o1).alloc (.cells #[.int .u8 0,.slice none 0 0,.int .i64 0] 128)).drew A):FQ w (A.alloc (.cells #[.int .u8 c,v,.int .i64 m] 128)) A.heap.size c v m:=by
 have hz:w.heap.size+2<=A.heap.size:=eD;have h1:=h.alloc h.size (.cells #[.int .u8 c,v,.int .i64 m] 128);refine⟨af,af,af,?_,?_,?_,?_,?_,?_,(CA h).alloc ae _,af,hz⟩
 ·rw[h1.cell af];simp
 ·rw[h1.cell af];simp
 ·rw[h1.cell af];simp
 ·rw[h1.frozen af];simp
 ·rw[h1.frozen af];simp
 rw[h1.frozen af];simp
theorem Z8v{w A:World}{o1:Obj}(c:Int)(v:Value)(m:Int)(h:Below (((w.alloc o1).alloc (.cells #[.int .u8 0,.slice none 0 0,.int .i64 0] 128)).alloc (.cells #[.int .u8 0,.slice none 0 0,.int .i64 0] 128)).drew.heap.size (((w.alloc o1).alloc (.cells #[.int .u8 0,.slice none 0 0,.int .i64 0] 128)).alloc (.cells #[.int .u8 0,.slice none 0 0,.int .i64 0] 128)).drew A)(D:A.cell? ⟨w.heap.size+2,0,none⟩=some (.int .u8 0))(m1:A.cell? ⟨w.heap.size+2,1,none⟩=some (.slice none 0 0))(G:A.cell? ⟨w.heap.size+2,2,none⟩=some (.int .i64 0)) :
  FQ w (((A.setCell ⟨w.heap.size+2,0,none⟩ (.int .u8 c)).setCell ⟨w.heap.size+2,1,none⟩ v).setCell ⟨w.heap.size+2,2,none⟩ (.int .i64 m)) (w.heap.size+2) c v m:=by
 have hz:w.heap.size+3<=A.heap.size:=eD
 have h2:Below (w.heap.size+2) ((w.alloc o1).alloc (.cells #[.int .u8 0,.slice none 0 0,.int .i64 0] 128)) (((A.setCell ⟨w.heap.size+2,0,none⟩ (.int .u8 c)).setCell ⟨w.heap.size+2,1,none⟩ v).setCell ⟨w.heap.size+2,2,none⟩ (.int .i64 m)):=
  ((((jV.alloc af _).drew.trans (h.mono af)).setCell af _).setCell af _).setCell af _
 refine⟨?_,?_,?_,?_,?_,?_,?_,?_,?_,((jV.alloc jU _).alloc af _).trans (h2.mono ae),bO,jU⟩
 ·rw[j3 af,j3 af];exact kP _ D
 ·rw[j3 af];exact kP _ (by rw[j3 af];exact m1)
 ·exact kP _ (by rw[j3 af,j3 af];exact G)
 ·rw[h2.cell af];simp
 ·rw[h2.cell af];simp
 ·rw[h2.cell af];simp
 ·rw[h2.frozen af];simp
 ·rw[h2.frozen af];simp
 rw[h2.frozen af];simp
def sZ(s:List UInt8)(ks:List Nat):Option InsD:=if 3<ks.length then none else tU s ks
theorem Z6K(w:World)(b:Bk)(B base:Nat)(s:ByteArray)(v:Value)(ks:List Nat)(hI:InsAt w b B)(hs:s.size<=1000000)(hn:ks.length<=1000000)(Z:∀k∈ks,k<=100)(Ke:w.ownsRow base 111 1 v ks.length (qp ks)) :
  Calls prog 249 #[bkV b,.string s,v] w (Z94 w B (sZ s.data.toList ks)):=by
 obtain⟨a,Kd,rfl⟩:∃a Kd,v=.slice a ks.length Kd:=MbY;unfold bkV;by_cases h3:(3:Int)<(ks.length:Int)
 ·have e:sZ s.data.toList ks=none:=by unfold sZ;rw[jT ae]
  rw[e];go_enter func249,ntmps249;go_wp2_with fail;refine kf (v:=.tuple #[qW 0 (.slice none 0 0) 0,.bool false]) (by simp[results,results249,go_sem,qW]) rfl ⟨?_,_,_,_,_,_,rfl⟩;exact McP
 have e:sZ s.data.toList ks=tU s.data.toList ks:=by unfold sZ;rw[jS ae]
 rw[e];obtain⟨f,n,hf,KD⟩:=hI;have KN:=An s ks hs ae Z;have U:=KD s ks hs ae Z;have V:=oP (fun w' (LQ:Below w.heap.size w w')=>IF s base _ ks w' ae (Ke.below3 LQ));have HK:=oP KN;have HM:=oP hf;obtain⟨E,hE⟩:=Zg0 (uk s ks);rw[hE]at V HK;clear KD Ke KN hf hE e hn Z;obtain⟨O,hO⟩:=Zg0 (tU s.data.toList ks);rw[hO]at U⊢
 obtain⟨c,A,D,G,m,z,O9,KC,Ky⟩:∃(c:Int) (A:Option Addr) (D G:Nat) (m:Int) (z:Bool),uB true (qW 0 (.slice none 0 0) 0) (f (sr s ks))=.tuple #[qW c (.slice A D G) m,.bool z]/\(z=true->∃d,O=some d/\c=(d.code:Int)/\m=(d.size:Int)/\w.ownsRow 0 111 1 (.slice A D G) d.kinds.length (qp d.kinds)/\∀j,(Value.slice A D G).ownBlock=some j->j<B)/\(z=false->O=none):=by
  cases O with
  |none=>exact⟨_,_,_,_,_,false,by rw[U];rfl,(fun h=>by cases h),fun _=>rfl⟩
  |some d=>
   obtain⟨v,h1,h2,h3⟩:=U
   obtain⟨A,D,G,rfl⟩:∃A D G,v=.slice A D G:=by
    obtain⟨_,⟨rfl,_⟩|⟨g,Kd,KG,rfl,_⟩⟩:=h2
    ·exact⟨_,_,_,rfl⟩
    exact⟨_,_,_,rfl⟩
   exact⟨_,A,D,G,_,true,by rw[h1];rfl,fun _=>⟨d,rfl,rfl,rfl,h2,h3⟩,fun h=>by cases h⟩
 have M:∀w',Below w.heap.size w w'->(Instr.lookup 243 (.map (some b.ib)) E true).run prog w'=.ok (.tuple #[.agg #[.int .u8 c,.slice A D G,.int .i64 m],.bool z]) w':=fun w' LQ=>by
  rw[(HM.o.below LQ HM.o.lt).look IU underlying243 (Z61 w') HK.o true,O9];rfl
 have HR:=oP M;have R:=oP KC;have S:=oP Ky;have hn1:=V.o (((w.alloc (.cells #[.map (some b.cb),.map (some b.ib),.map (some b.fb)] 246)).alloc (.cells #[.int .u8 0,.slice none 0 0,.int .i64 0] 128)).drew) ((jV.alloc jU _).alloc af _).drew;have QI:=(V.o ((((w.alloc (.cells #[.map (some b.cb),.map (some b.ib),.map (some b.fb)] 246)).alloc (.cells #[.int .u8 0,.slice none 0 0,.int .i64 0] 128)).alloc (.cells #[.int .u8 0,.slice none 0 0,.int .i64 0] 128)).drew) (((jV.alloc jU _).alloc af _).alloc ai _).drew).mono (fun e w' hh=>And.intro hh.1 (And.intro hh.2 (Z6w hh.2)));have Le:=oP hn1;have Mg:=oP QI;clear U O9 KC Ky M hn1 QI HM HK V hO;go_enter func249,ntmps249;go_wp2_with fail;go_cut [8,9] (fun s8 s9 J=>∃sb,s8=.pointer (some ⟨sb,0,none⟩)/\s9=.bool z/\FQ w J sb c (.slice A D G) m)
 case first=>
  clear R S;go_region_with (first| (go_at_call 201;refine Le.o.mono ?_;rintro e J ⟨rfl,I⟩;have bx:=Z53 I;have lx:=Z64 I;have hr:=HR.o J (CA I);have Mn:=fun o=>HR.o (J.alloc o) (Z3i (CA I) o))|(go_at_call 201;refine Mg.o.mono ?_;rintro e J ⟨rfl,I,m0,m1,m2,m3,m4,m5⟩;have bx:=Z71 I;have lx:=Z5F I;have hr:=HR.o J (Z6O I)))
  all_goals
   go_wp2_with fail;go_meet
   first
    |exact⟨_,rfl,rfl,Z6g c (.slice A D G) m I⟩
    |exact⟨_,rfl,rfl,Z8v c (.slice A D G) m I m0 m1 m2⟩
 case rest=>
 obtain⟨sb,rfl,rfl,hQ⟩:=hcut;obtain⟨q0,q1,q2,r0,r1,r2,g0,g1,g2,Ls,TO,KB⟩:=hQ;go_wp2_with fail;refine kf (v:=.tuple #[qW c (.slice A D G) m,.bool z]) (by simp[results,results249,go_sem,qW,r0,r1,r2]) rfl ⟨?_,?_⟩
 ·exact((Ls.setCell af _).setCell af _).setCell af _
 cases z with
 |true=>
  obtain⟨d,rfl,rfl,rfl,h2,h3⟩:=R.o rfl;exact⟨_,rfl,h2,h3⟩
 |false=>
  have hh:=S.o rfl;subst hh;exact⟨_,_,_,_,_,rfl⟩
