import Derived.Test.YthokdbcpkmcieaaGreatDoorH23
set_option maxRecDepth 200000
set_option maxHeartbeats 16000000
namespace Go.Proofs.YthokdbcpkmcieaaGreatDoor
open RowKit Proofs.Tryz
variable{P:Prop}
def endR:RTok:=⟨0,⟨#[]⟩,0,false⟩
def se(l:List RTok):List Value:=l.flatMap RTok.cells
def rtL:Nat->List UInt8->List RTok
 |0,_=>[]
 |_+1,[]=>[]
 |f+1,c::r=>
  if c.toNat=59 then []
  else if c.toNat=32 then rtL f r
  else if isD c=true then qL (txt ((c::r).take (pK (c::r))))::rtL f ((c::r).drop (pK (c::r)))
  else if isL c=true then ⟨119,txt ((c::r).take (pK (c::r))),0,false⟩::rtL f ((c::r).drop (pK (c::r)))
  else if c.toNat=0 then bangT::rtL f r
  else ⟨c,txt [c],0,false⟩::rtL f r
theorem Tryz.infoRT:(Tryz.prog.info? 170).map (fun i=>(i.zero,i.size,i.bytes))=some (some (.agg xN),4,40):=aj
theorem Z55(L:List UInt8)(i n:Nat):(txt L).extract i (i+n)=txt ((L.drop i).take n):=by
 apply mI;rw[oh];apply mV;unfold txt;simp[List.extract_eq_take_drop]
theorem yQ(l:List RTok)(t:RTok):se (l++[t])=se l++t.cells:=by simp[se]
theorem GZ{l:List UInt8}{c:UInt8}{r:List UInt8}(e:l=c::r)(h:isLW c=true):1<=pK l/\pK l<=l.length:=by
 subst e;unfold pK;rw[lj,h];have:=(T0B (p:=isLW) (l:=r)).length_le;simp;omega
theorem Z2B(l:List UInt8)(k:Nat)(h:k<(txt l).size):(txt l)[k]=l.getD k 0:=by
 have h2:k<l.length:=by rw[Jo]at h;exact h
 rw[jZ,jX h2];rfl
theorem yU(w:World)(a b c d:Value)(t:TypeId):∀j u,[a,b,c,d][j]?=some u->(w.alloc (.cells #[a,b,c,d] t)).cell? ((⟨w.heap.size,0,none⟩:Addr).add j)=some u:=fun j u h=>by
 rw[k9,jY (0,0) (kg w _)]
 simpa using h
theorem yR(k:Int)(s:ByteArray)(n:Int)(g:Bool):∀u∈[Value.int .u8 k,.string s,.int .i64 n,.bool g],u.oneCell'=true:=by
 intro u A;simp at A;rcases A with rfl|rfl|rfl|rfl <;> rfl
theorem Z08(line:ByteArray)(hs:line.size<=2000)(w:World):Calls prog 81 #[.string line] w fun e w'=>∃g Kd,e=.returned (.slice (some ⟨g,0,none⟩) ((rtL line.size (oQ line.data.toList)).length+1) Kd)/\w'.ownsRow w.heap.size 170 4 (.slice (some ⟨g,0,none⟩) ((rtL line.size (oQ line.data.toList)).length+1) Kd) ((rtL line.size (oQ line.data.toList)).length+1) (se (rtL line.size (oQ line.data.toList)++[endR]))/\Below w.heap.size w w':=by
 obtain⟨i0,hi,KJ,KC,Ky⟩:=kQ Tryz.infoRT;have OU:=oP (Ab line ae w);have hl:(oQ line.data.toList).length=line.size:=by unfold oQ;rw[kL,kE];rfl
 obtain⟨L,hL⟩:=Zg0 (oQ line.data.toList);obtain⟨N,hN⟩:=Zg0 line.size;rw[hL,hN]at hl⊢;rw[hL]at OU;obtain⟨R,hR⟩:=Zg0 (rtL N L);rw[hR];have HR:=oP hR;have KB:(txt L).size=N:=by rw[Jo,hl]
 have V:Hid (∀(i:Nat) (w':World),i<=N->Calls prog 127 #[.string ((txt L).extract i (txt L).size)] w' fun e A=>e=.returned (.int .i64 (pK (L.drop i):Int))/\A=w'):=fun i w' WI7=>by
  have:=Z7u ((txt L).extract i (txt L).size) aN w';rw[Z2D,vW]at this;exact this
 have YM:Hid (∀i n:Nat,(txt L).extract i (i+n)=txt ((L.drop i).take n)):=fun i n=>Z55 L i n
 have Z:Hid (∀(i:Nat) (h:i<(txt L).size),(txt L)[i]=L.getD i 0):=fun i h=>Z2B L i h
 obtain⟨S,hS⟩:=Zg0 (txt L);rw[hS]at OU V YM KB;have Wk6:Hid (∀(i:Nat) (h:i<S.size),S[i]=L.getD i 0):=by subst hS;exact Z.o
 have Ta:=oP (And.intro hl (show N<=2000 by omega));have RX:=oP KB;have WH6:(S.size:Int)=(N:Int):=ae;have Z4:(N:Int)<=2000:=ae;clear hL hN hl hR hS KB Z hs;go_enter func81,ntmps81;go_wp2_with (first| (go_at_call 126;refine OU.o.mono ?_;rintro e w1 ⟨rfl,Kn⟩));have KK:=oP Kn;clear Kn;go_loopw [4,5] (fun v x wr=>∃(i:Nat) (acc:List RTok) (f:Nat) (ya:Option Addr) (yn yc:Nat),v=.slice ya yn yc/\x=.int .i64 (i:Int)/\i<=N/\N-i<=f/\acc.length<=i/\acc++rtL f (L.drop i)=R/\wr.ownsRow w.heap.size 170 4 (.slice ya yn yc) acc.length (se acc)/\Below w.heap.size w wr) (fun _ x _=>N-(intOf x).toNat)
 case atStart=>exact⟨0,[],N,none,0,0,rfl,rfl,j4,jU,jU,HR.o,kA,KK.o⟩
 case round=>
  obtain⟨i,acc,f,ya,yn,yc,rfl,rfl,VN3,Wv4,PN,KE,Ke,hB⟩:=hrel;have Ki:=oP Ke;have HB:=oP hB;have We:=oP KE;have OV:Hid (acc.length<=2000):=by have:=Ta.o.2;show _<=_;omega
  have Vt8:=oP PN;clear Ke hB KE PN;by_cases Kf:i<N
  ·have N0:(i:Int)<(N:Int):=by omega
   have Vt9:i<S.size:=by rw[RX.o];exact Kf
   have I:i<L.length:=by rw[Ta.o.1];exact Kf
   have hg:=Wk6.o i Vt9;obtain⟨c,hc⟩:=Zg0 (S[i]);rw[hc]at hg
   have PF:L.drop i=c::L.drop (i+1):=by
    rw[lY I];congr 1;rw[hg,jZ,jX I];rfl
   have U5:=c.toNat_lt;obtain⟨f1,rfl⟩:∃f1,f=f1+1:=⟨f-1,ae⟩;have G:=oP PF
   have KF:Hid (acc++rtL (f1+1) (c::L.drop (i+1))=R):=by
    have:=We.o;rw[G.o]at this;exact this
   have PG:Hid (i<N/\N-i<=f1+1/\acc.length<=i/\N<=2000):=⟨Kf,Wv4,Vt8.o,Ta.o.2⟩;have Sy:IntKind.i64.wrap ((i:Int)+1)=(i:Int)+1:=ar;clear hg PF I We;by_cases J:c.toNat=59
   ·have e1:((c.toNat:Int) != 59)=false:=by rw[J];rfl
    have Ld:Hid (rtL (f1+1) (c::L.drop (i+1))=[]):=by
     show rtL (f1+1) (c::L.drop (i+1))=[];unfold rtL;rw[jT J]
    clear J;exact Maf
   have e1:((c.toNat:Int) != 59)=true:=ai;have M:=oP (V.o i wr ae);obtain⟨n,hn⟩:=Zg0 (pK (L.drop i));rw[hn]at M
   have Vs:n<=N-i:=by
    rw[<-hn];unfold pK;have:=(T0B (p:=isLW) (l:=L.drop i)).length_le;rw[mD,Ta.o.1]at this;exact this
   have HN:=oP hn;have HX:=oP (YM.o i n);by_cases NN:c.toNat=32
   ·have e2:((c.toNat:Int)==32)=true:=by rw[NN];rfl
    have YN:Hid (acc++rtL f1 (L.drop (i+1))=R):=by
     have:=KF.o;unfold rtL at this;rw[jS J,jT NN]at this;exact this
    clear J NN hn;go_wp2_with (first| (go_at_call 127;refine M.o.mono ?_;rintro e A ⟨rfl,rfl⟩));go_roundw
    case rel=>exact⟨i+1,acc,f1,ya,yn,yc,rfl,ao,by have:=PG.o;omega,by have:=PG.o;omega,by have:=PG.o;omega,YN.o,Ki.o,HB.o⟩
    case measure=>have:=PG.o;simp[intOf];omega
   have e2:((c.toNat:Int)==32)=false:=ai;obtain⟨X,hX⟩:=Zg0 (txt ((L.drop i).take n));rw[hX]at HX;obtain⟨q,hq⟩:∃q:Nat,i+n=q:=⟨_,rfl⟩;rw[hq]at HX;have HQ:=oP hq;have M6:(i:Int)+(n:Int)=(q:Int):=ae;have Vu0:IntKind.i64.wrap (q:Int)=(q:Int):=ar;have YO:(q:Int)<=(N:Int):=ae;have Vu1:(i:Int)<=(q:Int):=ae;have Vu2:(q:Int)<=(S.size:Int):=ae;have O:=oP (zz c wr);have Un:=oP (JC c wr)
   have D:Hid (rtL (f1+1) (c::L.drop (i+1))=if isD c=true then qL X::rtL f1 (L.drop q) else if isL c=true then ⟨119,X,0,false⟩::rtL f1 (L.drop q) else if c.toNat=0 then bangT::rtL f1 (L.drop (i+1)) else ⟨c,txt [c],0,false⟩::rtL f1 (L.drop (i+1))):=by
    show rtL (f1+1) (c::L.drop (i+1))=_;conv=>lhs;unfold rtL
    rw[jS J,jS NN,<- G.o,hn,hX,lV,hq]
   clear J NN hX hq;cases hd:isD c with
   |true=>
    rw[hd]at O D;rw[jT rfl]at D
    have hn1:1<=n:=by
     rw[<-hn];exact(GZ G.o (by unfold isLW;rw[hd];simp)).1
    have Le:=oP hn1;have Rz:=oP (Z1z X (by rw[<-HX.o,kU];omega) wr);rcases hT:qL X with⟨tk,tx,tn,tg⟩;rw[hT]at Rz D;have WI9:Hid (Calls prog 129 #[.string X] wr fun e w'=>e=.returned (.agg #[.int .u8 (tk.toNat:Int),.string tx,.int .i64 (tn:Int),.bool tg])/\Below wr.heap.size wr w'):=Rz.o;have hx:=HX.o;clear hd hT hn Rz hn1 Vs;go_wp2_with (first| (go_at_call 127;refine M.o.mono ?_;rintro e A ⟨rfl,rfl⟩)|(go_at_call 128;refine O.o.mono ?_;rintro e A ⟨rfl,rfl⟩)|(go_at_call 129;refine WI9.o.mono ?_;rintro e w3 ⟨rfl,Kq⟩;have Mi:=oP (HB.o.trans (Kq.mono HB.o.size));have Xl:=oP (rO Ki.o Kq);clear Kq)|(at_builtin;refine kH _ rfl _ _ 165 rfl w.heap.size 170 i0 _ 4 40 underlying165 hi KJ KC Ky rfl ah _ _ _ rfl (Xl.o.alloc _) ⟨w3.heap.size,0,none⟩ 1 1 [.int .u8 (tk.toNat:Int),.string tx,.int .i64 (tn:Int),.bool tg] rfl rfl (yU _ _ _ _ _ _) (yR _ _ _ _) cv cz (by have:=(Mi.o).size;simp;omega) ?_;intro v' wn Kc Kg _ _;obtain⟨a',n',c',ev⟩:=rW Kc;subst ev));have NU:Below w.heap.size w wn:=((Mi.o).alloc (Mi.o).size _).grown Kg (by have:=(Mi.o).size;simp;omega) (fun k hk=>((Xl.o).lt k hk).1);go_wp2_with fail;go_roundw
    case rel=>
     refine⟨i+n,acc++[⟨tk,tx,tn,tg⟩],f1,a',n',c',rfl,by have:=Le.o;have:=HQ.o;go_num,dK,dK,fX,?_,?_,NU⟩
     ·rw[mS];have:=KF.o;rw[D.o]at this;rw[HQ.o];exact this
     rw[yQ,kq];exact Kc
    case measure=>have:=PG.o;have:=Le.o;have:=HQ.o;simp[intOf];omega
   |false=>
    rw[hd]at O D;rw[jS af]at D;cases U:isL c with
    |true=>
     rw[U]at Un D;rw[jT rfl]at D
     have hn1:1<=n:=by
      rw[<-hn];exact(GZ G.o (by unfold isLW;rw[U];simp)).1
     have Le:=oP hn1;have hx:=HX.o;clear hd U hn hn1 Vs;go_wp2_with (first| (go_at_call 127;refine M.o.mono ?_;rintro e A ⟨rfl,rfl⟩)|(go_at_call 128;refine O.o.mono ?_;rintro e A ⟨rfl,rfl⟩)|(go_at_call 130;refine Un.o.mono ?_;rintro e A ⟨rfl,rfl⟩)|(at_builtin;refine kH _ rfl _ _ 165 rfl w.heap.size 170 i0 _ 4 40 underlying165 hi KJ KC Ky rfl ah _ _ _ rfl (Ki.o.alloc _) ⟨A.heap.size,0,none⟩ 1 1 [.int .u8 119,.string X,.int .i64 0,.bool false] rfl rfl (yU _ _ _ _ _ _) (yR _ _ _ _) cv cz aZ ?_;intro v' wn Kc Kg _ _;obtain⟨a',n',c',ev⟩:=rW Kc;subst ev));have NU:Below w.heap.size w wn:=((HB.o).alloc (HB.o).size _).grown Kg aZ (fun k hk=>((Ki.o).lt k hk).1);go_wp2_with fail;go_roundw
     case rel=>
      refine⟨i+n,acc++[⟨119,X,0,false⟩],f1,a',n',c',rfl,by have:=Le.o;have:=HQ.o;go_num,dK,dK,fX,?_,?_,NU⟩
      ·rw[mS];have:=KF.o;rw[D.o]at this;rw[HQ.o];exact this
      rw[yQ,kq];exact Kc
     case measure=>have:=PG.o;have:=Le.o;have:=HQ.o;simp[intOf];omega
    |false=>
     rw[U]at Un D;rw[jS af]at D;by_cases Sr:c.toNat=0
     ·rw[jT Sr]at D;have e0:((c.toNat:Int)==0)=true:=by rw[Sr];rfl
      clear hd U hn Vs Sr;go_wp2_with (first| (go_at_call 127;refine M.o.mono ?_;rintro e A ⟨rfl,rfl⟩)|(go_at_call 128;refine O.o.mono ?_;rintro e A ⟨rfl,rfl⟩)|(go_at_call 130;refine Un.o.mono ?_;rintro e A ⟨rfl,rfl⟩)|(at_builtin;refine kH _ rfl _ _ 165 rfl w.heap.size 170 i0 _ 4 40 underlying165 hi KJ KC Ky rfl ah _ _ _ rfl (Ki.o.alloc _) ⟨A.heap.size,0,none⟩ 1 1 [.int .u8 33,.string ⟨#[]⟩,.int .i64 0,.bool false] rfl rfl (yU _ _ _ _ _ _) (yR _ _ _ _) cv cz aZ ?_;intro v' wn Kc Kg _ _;obtain⟨a',n',c',ev⟩:=rW Kc;subst ev));have NU:Below w.heap.size w wn:=((HB.o).alloc (HB.o).size _).grown Kg aZ (fun k hk=>((Ki.o).lt k hk).1);go_wp2_with fail;go_roundw
      case rel=>
       refine⟨i+1,acc++[bangT],f1,a',n',c',rfl,by skip;go_num,by have:=PG.o;skip;omega,by have:=PG.o;skip;omega,by have:=OV.o;have:=PG.o;skip;simp;omega,?_,?_,NU⟩
       ·rw[mS];have:=KF.o;rw[D.o]at this;exact this
       rw[yQ,kq];exact Kc
      case measure=>have:=PG.o;skip;simp[intOf];omega
     rw[jS Sr]at D;have e0:((c.toNat:Int)==0)=false:=ai
     have MS:S.extract i (i+1)=txt [c]:=by
      rw[YM.o i 1,G.o];rfl
     obtain⟨Y,hY⟩:=Zg0 (txt [c]);rw[hY]at MS D;obtain⟨q1,Mq⟩:∃q1:Nat,i+1=q1:=⟨_,rfl⟩;rw[Mq]at MS;have MQ:=oP Mq;have Wk8:(i:Int)+1=(q1:Int):=ae;have QX:IntKind.i64.wrap (q1:Int)=(q1:Int):=ar;have VN4:(q1:Int)<=(N:Int):=ae;have WJ0:(i:Int)<=(q1:Int):=ae;have VN5:(q1:Int)<=(S.size:Int):=ae;clear hd U hn Vs Sr hY Mq Sy;go_wp2_with (first| (go_at_call 127;refine M.o.mono ?_;rintro e A ⟨rfl,rfl⟩)|(go_at_call 128;refine O.o.mono ?_;rintro e A ⟨rfl,rfl⟩)|(go_at_call 130;refine Un.o.mono ?_;rintro e A ⟨rfl,rfl⟩)|(at_builtin;refine kH _ rfl _ _ 165 rfl w.heap.size 170 i0 _ 4 40 underlying165 hi KJ KC Ky rfl ah _ _ _ rfl (Ki.o.alloc _) ⟨A.heap.size,0,none⟩ 1 1 [.int .u8 (c.toNat:Int),.string Y,.int .i64 0,.bool false] rfl rfl (yU _ _ _ _ _ _) (yR _ _ _ _) cv cz aZ ?_;intro v' wn Kc Kg _ _;obtain⟨a',n',c',ev⟩:=rW Kc;subst ev));have NU:Below w.heap.size w wn:=((HB.o).alloc (HB.o).size _).grown Kg aZ (fun k hk=>((Ki.o).lt k hk).1);go_wp2_with fail;go_roundw
     case rel=>
      refine⟨i+1,acc++[⟨c,Y,0,false⟩],f1,a',n',c',rfl,by have:=MQ.o;go_num,by have:=PG.o;have:=MQ.o;omega,by have:=PG.o;have:=MQ.o;omega,by have:=OV.o;have:=PG.o;have:=MQ.o;simp;omega,?_,?_,NU⟩
      ·rw[mS];have:=KF.o;rw[D.o]at this;exact this
      rw[yQ,kq];exact Kc
     case measure=>have:=PG.o;have:=MQ.o;simp[intOf];omega
  have N0:¬(i:Int)<(N:Int):=ae
  have Ld:Hid (rtL f (L.drop i)=[]):=by
   show rtL f (L.drop i)=[];rw[T0V (by rw[Ta.o.1];omega)];cases f <;> rfl
  have KF:=We;clear We;exact Maf
def vK:List (List UInt8):=[[97],[97,98],[99],[100,112,116,114],[112,99],[111,114,103],[100,98],[100,119],[100,115],[101,113,117],[97,106,109,112],[97,99,97,108,108]]
def qV(l:List UInt8):Bool:=decide (l.length=2)&&(decide ((l.getD 0 0).toNat=114)&&(decide (48<=(l.getD 1 0).toNat)&&decide ((l.getD 1 0).toNat<=55)))
def qt(l:List UInt8):Bool:=vK.contains l||(qV l||pa.any fun e=>oQ e.2.2.1==l)
def Co:Array Value:=#[.string ⟨#[97]⟩,.string ⟨#[97,98]⟩,.string ⟨#[99]⟩,.string ⟨#[100,112,116,114]⟩,.string ⟨#[112,99]⟩,.string ⟨#[111,114,103]⟩,.string ⟨#[100,98]⟩,.string ⟨#[100,119]⟩,.string ⟨#[100,115]⟩,.string ⟨#[101,113,117]⟩,.string ⟨#[97,106,109,112]⟩,.string ⟨#[97,99,97,108,108]⟩]
theorem Z1w:∀j,j<12->Co[j]?=some (.string (txt (vK.getD j [])))
 |0,_=>rfl
 |1,_=>rfl
 |2,_=>rfl
 |3,_=>rfl
 |4,_=>rfl
 |5,_=>rfl
 |6,_=>rfl
 |7,_=>rfl
 |8,_=>rfl
 |9,_=>rfl
 |10,_=>rfl
 |11,_=>rfl
theorem wS{x y:ByteArray}(h:¬x.data.toList=y.data.toList):(x.toList==y.toList)=false:=by
 rw[lB,lB];simpa using h
theorem AM{x y:ByteArray}(h:x.data.toList=y.data.toList):(x.toList==y.toList)=true:=by
 rw[lB,lB];simpa using h
theorem xp:pa.length=109:=aq
theorem Kb(k:Nat):(pa.getD k ent0).2.2.1.length<=10:=by
 have h:pa.all (fun e=>decide (e.2.2.1.length<=10))=true:=aq;rcases lQ k pa.length with hk|hk
 ·rw[jZ,jX hk];exact mQ (kx.1 h _ (kC hk))
 rw[jZ,mg hk];exact j4
theorem Ey{α:Type}{l:List α}{f:α->Bool}(h:∀q (hq:q<l.length),f l[q]=false):l.any f=false:=by
 rw[om];intro x hx;obtain⟨q,hq,rfl⟩:=mP hx;rw[h q hq];simp
theorem zU(s:ByteArray)(w:World):Calls prog 82 #[.string s] w fun e w'=>e=.returned (.bool (qt s.data.toList))/\Below w.heap.size w w':=by
 have R:s.data.toList.length=s.size:=aK;obtain⟨V,M⟩:=Zg0 (qt s.data.toList);rw[M];have HV:=oP M;have G:=oP R;obtain⟨I,Qv⟩:=Zg0 (w.alloc (.cells Co 9));have Np:Hid (Below w.heap.size w I):=eI
 have U:Hid (∀j,j<12->I.cell? ⟨w.heap.size,j,none⟩=some (.string (txt (vK.getD j [])))):=fun j hj=>by
  have hh:=kg w (.cells Co 9);rw[Qv]at hh;rw[jY (0,0) hh];exact Z1w j hj
 have Z:=oP (show w.alloc (.cells #[.string ⟨#[97]⟩,.string ⟨#[97,98]⟩,.string ⟨#[99]⟩,.string ⟨#[100,112,116,114]⟩,.string ⟨#[112,99]⟩,.string ⟨#[111,114,103]⟩,.string ⟨#[100,98]⟩,.string ⟨#[100,119]⟩,.string ⟨#[100,115]⟩,.string ⟨#[101,113,117]⟩,.string ⟨#[97,106,109,112]⟩,.string ⟨#[97,99,97,108,108]⟩] 9)=I from Qv);clear M R Qv;go_enter func82,ntmps82;go_upto_region 2 with fail;rw[Z.o];go_wp2_with fail;go_loopw [4] (fun x wr=>∃j:Nat,j<=12/\x=.int .i64 (j:Int)/\(∀q,q<j->vK.getD q []≠s.data.toList)/\wr=I) (fun x _=>12-(intOf x).toNat)
 case atStart=>exact⟨0,j4,rfl,fun q hq=>absurd hq (lH _),rfl⟩
 case round=>
  obtain⟨j,hj,rfl,K0,rfl⟩:=hrel;have LM:=oP K0;clear K0;by_cases Kf:j<12
  ·have K6:(j:Int)<12:=by omega
   have cj:=U.o j Kf;obtain⟨X,hX⟩:=Zg0 (txt (vK.getD j []));rw[hX]at cj;by_cases he:vK.getD j []=s.data.toList
   ·have hb:(X.toList==s.toList)=true:=AM (by rw[<-hX,vW];exact he)
    have HT:Hid (V=true):=by
     show V=true;rw[<-HV.o];unfold qt
     have:vK.contains s.data.toList=true:=by
      rw[<-he,jZ,jX (show j<vK.length from Kf)];exact T0h.2 (kC _)
     rw[this];rfl
    clear he hX;go_wp2;go_ret;exact⟨cY,Np.o⟩
   have hb:(X.toList==s.toList)=false:=wS (by rw[<-hX,vW];exact he);have HE:=oP he;have HJ:=oP Kf;clear he hX;go_wp2;go_roundw
   case rel=>
    refine⟨j+1,bH,ao,fun q hq=>?_,by first| rfl|trivial⟩;by_cases e:q=j
    ·rw[e];exact HE.o
    exact LM.o q ae
   case measure=>have:=HJ.o;simp[intOf];omega
  have K6:¬(j:Int)<12:=ae
  have A:vK.contains s.data.toList=false:=by
   refine T0g.2 (fun e=>?_);obtain⟨q,hq,e2⟩:=mP (T0h.1 e);have Vu3:q<12:=hq;refine LM.o q ae ?_;rw[jZ,jX hq];exact e2
  have YP:=oP A;clear A LM Kf hj;by_cases D:s.size=2
  ·have z1:((s.size:Int)==2)=true:=by rw[D];rfl
   have z2:(0:Int)<(s.size:Int):=ae;have z3:(1:Int)<(s.size:Int):=ae;have i0:0<s.size:=ae;have i1:1<s.size:=ae
   have g0:s.data.toList.getD 0 0=s[0]:=by
    rw[jZ,jX (by rw[G.o];exact i0)];rfl
   have g1:s.data.toList.getD 1 0=s[1]:=by
    rw[jZ,jX (by rw[G.o];exact i1)];rfl
   obtain⟨c,hc⟩:=Zg0 (s[0]);obtain⟨d,hd⟩:=Zg0 (s[1]);rw[hc]at g0;rw[hd]at g1
   have J:qV s.data.toList=(decide (c.toNat=114)&&(decide (48<=d.toNat)&&decide (d.toNat<=55))):=by
    unfold qV;rw[g0,g1,G.o,D];rfl
   clear g0 g1 D;by_cases KA:c.toNat=114/\48<=d.toNat/\d.toNat<=55
   ·have O:((c.toNat:Int)==114)=true:=by rw[KA.1];rfl
    have S:(48:Int)<=(d.toNat:Int):=ae;have y3:(d.toNat:Int)<=55:=ae
    have HT:Hid (V=true):=by
     show V=true;rw[<-HV.o];unfold qt;rw[J,kj KA.1,kj KA.2.1,kj KA.2.2];simp
    clear J KA;go_wp2;go_ret;exact⟨cY,Np.o⟩
   have VO:Hid (qV s.data.toList=false):=by
    show qV s.data.toList=false;rw[J];exact Mbi
   clear J
   rcases (show (((c.toNat:Int)==114)=false)\/(((c.toNat:Int)==114)=true/\¬(48:Int)<=(d.toNat:Int))\/(((c.toNat:Int)==114)=true/\(48:Int)<=(d.toNat:Int)/\¬(d.toNat:Int)<=55) from by
    by_cases a1:c.toNat=114
    ·have b1:((c.toNat:Int)==114)=true:=by rw[a1];rfl
     exact Mbr
    ·exact .inl ai) with O|⟨O,S⟩|⟨O,S,y3⟩
   all_goals
    clear KA;exact Mab
  have z1:((s.size:Int)==2)=false:=ai
  have VO:Hid (qV s.data.toList=false):=by
   show qV s.data.toList=false;unfold qV;rw[G.o,j9 D];rfl
  clear D;exact Mab
structure RPS(w:World)(pb g cap:Nat)(T:List RTok)(i:Nat)(bad:Bool):Prop where
 c0:w.cell? ⟨pb,0,none⟩=some (.slice (some ⟨g,0,none⟩) T.length cap)
 c1:w.cell? ⟨pb,1,none⟩=some (.int .i64 (i:Int))
 c2:w.cell? ⟨pb,2,none⟩=some (.bool bad)
 fz:∀j,w.frozen? ⟨pb,j,none⟩=false
 tk:∀k,k<T.length->w.cell? ⟨g,k*4,none⟩=some (.int .u8 ((T.getD k endR).kind.toNat:Int))/\w.cell? ⟨g,k*4+1,none⟩=some (.string (T.getD k endR).s)/\w.cell? ⟨g,k*4+2,none⟩=some (.int .i64 ((T.getD k endR).n:Int))/\w.cell? ⟨g,k*4+3,none⟩=some (.bool (T.getD k endR).great)
 ne:g≠pb
 lg:g<w.heap.size
 le:T.length<=cap/\T.length<=3000
theorem RPS.lt{w:World}{A g D:Nat}{T:List RTok}{i:Nat}{G:Bool}(h:RPS w A g D T i G):A<w.heap.size:=lD _ h.c0
theorem RPS.kept{w w':World}{A g D:Nat}{T:List RTok}{i:Nat}{G:Bool}(h:RPS w A g D T i G)(e1:w'.heap[A]?=w.heap[A]?)(e2:w'.heap[g]?=w.heap[g]?)(hz:w.heap.size<=w'.heap.size):RPS w' A g D T i G:=by
 have hc:∀j,w'.cell? ⟨A,j,none⟩=w.cell? ⟨A,j,none⟩:=fun j=>jW (a:=⟨A,j,none⟩) e1
 have hg:∀j,w'.cell? ⟨g,j,none⟩=w.cell? ⟨g,j,none⟩:=fun j=>jW (a:=⟨g,j,none⟩) e2
 refine⟨(hc 0).trans h.c0,(hc 1).trans h.c1,(hc 2).trans h.c2,fun j=>(ku (a:=⟨A,j,none⟩) e1).trans (h.fz j),fun k hk=>?_,h.ne,ke h.lg hz,h.le⟩;exact MbI
theorem RPS.below{w w':World}{A g D:Nat}{T:List RTok}{i:Nat}{G:Bool}(h:RPS w A g D T i G)(b:Below w.heap.size w w'):RPS w' A g D T i G:=h.kept (b.block A h.lt) (b.block g h.lg) b.size
theorem RPS.setI{w:World}{A g D:Nat}{T:List RTok}{i:Nat}{G:Bool}(h:RPS w A g D T i G)(n:Nat):RPS (w.setCell ⟨A,1,none⟩ (.int .i64 (n:Int))) A g D T n G:=by
 have hg:∀j,(w.setCell ⟨A,1,none⟩ (.int .i64 (n:Int))).cell? ⟨g,j,none⟩=w.cell? ⟨g,j,none⟩:=fun j=>jW (a:=⟨g,j,none⟩) (kk w ⟨A,1,none⟩ g _ h.ne)
 refine⟨(j3 af).trans h.c0,kP _ h.c1,(j3 af).trans h.c2,fun j=>eQ,fun k hk=>?_,h.ne,by simpa [World.setCell]using h.lg,h.le⟩;exact MbI
theorem RPS.setBad{w:World}{A g D:Nat}{T:List RTok}{i:Nat}{G:Bool}(h:RPS w A g D T i G)(b':Bool):RPS (w.setCell ⟨A,2,none⟩ (.bool b')) A g D T i b':=by
 have hg:∀j,(w.setCell ⟨A,2,none⟩ (.bool b')).cell? ⟨g,j,none⟩=w.cell? ⟨g,j,none⟩:=fun j=>jW (a:=⟨g,j,none⟩) (kk w ⟨A,2,none⟩ g _ h.ne)
 refine⟨(j3 af).trans h.c0,(j3 af).trans h.c1,kP _ h.c2,fun j=>eQ,fun k hk=>?_,h.ne,by simpa [World.setCell]using h.lg,h.le⟩;exact MbI
theorem pV(w:World)(A j:Nat)(v:Value):w.grownBy (w.setCell ⟨A,j,none⟩ v) (some A):=⟨rfl,rfl,rfl,az,fun k _ hk=>kk w ⟨A,j,none⟩ k v (fun e=>hk (by rw[e]))⟩
theorem Mb7(h:P:=by
 go_upto_region 1 with fail;go_quiet (fail);go_wp2;go_ret;exact⟨rfl,HE.o _⟩):P:=h
theorem uR(pb g A:Nat)(T:List RTok)(i:Nat)(D:Bool)(k:UInt8)(w:World)(h:RPS w pb g A T i D)(hi:i<T.length) :
  Calls prog 85 #[.pointer (some ⟨pb,0,none⟩),.int .u8 (k.toNat:Int)] w fun e w'=>e=.returned (.bool (decide ((T.getD i endR).kind=k)))/\RPS w' pb g A T (if (T.getD i endR).kind=k then i+1 else i) D/\w.grownBy w' (some pb):=by
 obtain⟨t,ht⟩:=Zg0 ((T.getD i endR).kind);have c0:=h.c0;have c1:=h.c1;have f1:=h.fz 1;obtain⟨J,_⟩:=h.tk i hi;rw[ht]at J⊢;have G:=h.le;obtain⟨N,I⟩:=Zg0 T.length;rw[I]at c0 hi G;have O:(i:Int)<(N:Int):=ae;have R:(N:Int)<=3000:=ae;have HP:=oP h;have S:IntKind.i64.wrap ((i:Int)+1)=(i:Int)+1:=ar;clear h ht I G hi;by_cases he:t=k
 ·subst he;have b1:((t.toNat:Int) != (t.toNat:Int))=false:=af
  have HE:Hid (∀n,RPS ((w.drewN n).setCell ⟨pb,1,none⟩ (.int .i64 ((i:Int)+1))) pb g A T (i+1) D/\w.grownBy ((w.drewN n).setCell ⟨pb,1,none⟩ (.int .i64 ((i:Int)+1))) (some pb)):=fun n=>by
   exact Ma8
  rw[kj rfl,jT rfl];go_enter func85,ntmps85;exact Mb7
 have M:¬t.toNat=k.toNat:=fun e=>he (lA.1 e)
 have b1:((t.toNat:Int) != (k.toNat:Int))=true:=ai;have b2:((t.toNat:Int)==(k.toNat:Int))=false:=ai;rw[j9 he,jS he];clear he M;go_enter func85,ntmps85;go_upto_region 1 with fail;go_quiet (fail);go_wp2;go_ret;exact⟨rfl,HP.o.below (below_drewN jV _),⟨rfl,rfl,rfl,jU,fun _ _ _=>rfl⟩⟩
theorem Mbe(h:P:=by
 go_enter func83,ntmps83;go_upto_region 1 with fail;go_quiet (fail);go_wp2;go_ret;exact⟨rfl,HP.o.below (below_drewN jV _),⟨rfl,rfl,rfl,jU,fun _ _ _=>rfl⟩⟩):P:=h
theorem Z1Q(pb g A:Nat)(T:List RTok)(i:Nat)(D:Bool)(x:ByteArray)(w:World)(h:RPS w pb g A T i D)(hi:i<T.length) :
  Calls prog 83 #[.pointer (some ⟨pb,0,none⟩),.string x] w fun e w'=>e=.returned (.bool (decide ((T.getD i endR).kind=119/\(T.getD i endR).s=x)))/\RPS w' pb g A T (if (T.getD i endR).kind=119/\(T.getD i endR).s=x then i+1 else i) D/\w.grownBy w' (some pb):=by
 obtain⟨t,ht⟩:=Zg0 ((T.getD i endR).kind);obtain⟨y,hy⟩:=Zg0 ((T.getD i endR).s);have c0:=h.c0;have c1:=h.c1;have f1:=h.fz 1;obtain⟨J,M,_⟩:=h.tk i hi;rw[ht]at J⊢;rw[hy]at M⊢;have G:=h.le;obtain⟨N,I⟩:=Zg0 T.length;rw[I]at c0 hi G;have R:(i:Int)<(N:Int):=ae;have S:(N:Int)<=3000:=ae;have HP:=oP h;have U:IntKind.i64.wrap ((i:Int)+1)=(i:Int)+1:=ar;clear h ht hy I G hi;by_cases h1:t=119
 ·subst h1;by_cases h2:y=x
  ·subst h2;have b1:(y.toList != y.toList)=false:=af
   have HE:Hid (∀n,RPS ((w.drewN n).setCell ⟨pb,1,none⟩ (.int .i64 ((i:Int)+1))) pb g A T (i+1) D/\w.grownBy ((w.drewN n).setCell ⟨pb,1,none⟩ (.int .i64 ((i:Int)+1))) (some pb)):=fun n=>by
    exact Ma8
   rw[kj ⟨rfl,rfl⟩,jT ⟨rfl,rfl⟩];go_enter func83,ntmps83;exact Mb7
  have b2:(y.toList==x.toList)=false:=wS (fun e=>h2 (by rcases y with⟨⟨a⟩⟩;rcases x with⟨⟨b⟩⟩;have:a=b:=e;rw[this]));have b1:(y.toList != x.toList)=true:=by simpa using b2
  rw[j9 (fun e=>h2 e.2),jS (fun e=>h2 e.2)];clear h2;exact Mbe
 have O:¬t.toNat=119:=fun e=>h1 (lA.1 e)
 have b1:((t.toNat:Int) != 119)=true:=ai;have b2:((t.toNat:Int)==119)=false:=ai;rw[j9 (fun e=>h1 e.1),jS (fun e=>h1 e.1)];clear h1 O;exact Mbe
