import Derived.Test.YthokdbcpkmcieaaGreatDoorH02
set_option maxRecDepth 200000
set_option maxHeartbeats 16000000
namespace Go.Proofs.YthokdbcpkmcieaaGreatDoor
open RowKit Shelf WideMaps Maps Proofs.Tryz
abbrev kO:=@keyOf_string_mk
def qn(o:Opn):ByteArray:=
 if o.kind<=6 then o.name else if o.kind<=8 then o.name++vH o.own
 else if o.kind=9 then ⟨#[35,48,120,hd (o.added/16),hd o.added]⟩
 else if o.kind=10 then ⟨#[35,48,120,hd (o.added/4096),hd (o.added/256),hd (o.added/16),hd o.added]⟩
 else if o.kind<=12 then ⟨#[48,120,hd (o.added/16),hd o.added]⟩
 else if o.kind=13 then ⟨#[47,48,120,hd (o.added/16),hd o.added]⟩
 else if o.kind=14 then ⟨#[48,120,hd (o.added/4096),hd (o.added/256),hd (o.added/16),hd o.added]⟩
 else if o.kind=15 then ⟨#[48,120,hd (sy o.behind o.added/4096),hd (sy o.behind o.added/256),hd (sy o.behind o.added/16),hd (sy o.behind o.added)]⟩
 else ⟨#[48,120,hd (sE o.behind o.own o.added/4096),hd (sE o.behind o.own o.added/256),hd (sE o.behind o.own o.added/16),hd (sE o.behind o.own o.added)]⟩
def xW(k:Nat):Nat:=
 if k<=6 then 140 else if k<=8 then 142
 else if k=9 then 145
 else if k=10 then 148
 else if k<=12 then 150
 else if k=13 then 151
 else if k=14 then 153
 else if k=15 then 155
 else 157
structure Opn.Fine(o:Opn):Prop where
 kind:o.kind<17
 own0:0<=o.own
 own1:o.kind=7\/o.kind=8->o.own<100
 add0:0<=o.added
 add1:o.added<=65535
 name:o.name.size<=1000
theorem Z6j(o:Opn)(h:o.Fine)(w:World) :
  Calls prog (xW o.kind) #[.agg #[.int .i64 o.kind,.string o.name,.int .u8 o.own,.int .u16 o.added,.int .u16 o.behind]] w fun e w'=>e=.returned (.string (qn o))/\Below w.heap.size w w':=by
 unfold xW qn;by_cases A:o.kind<=6
 ·rw[jT A,jT A];exact Z4e _ _ _ _ _ _
 rw[jS A,jS A];by_cases D:o.kind<=8
 ·rw[jT D,jT D];exact Z09 _ _ _ _ _ _ h.own0 (h.own1 ae) h.name
 rw[jS D,jS D];by_cases G:o.kind=9
 ·rw[jT G,jT G];exact Z35 _ _ _ _ _ _ h.add0 h.add1
 rw[jS G,jS G];by_cases I:o.kind=10
 ·rw[jT I,jT I];exact Z24 _ _ _ _ _ _ h.add0 h.add1
 rw[jS I,jS I];by_cases J:o.kind<=12
 ·rw[jT J,jT J];exact C2 _ _ _ _ _ _ h.add0 h.add1
 rw[jS J,jS J];by_cases M:o.kind=13
 ·rw[jT M,jT M];exact Z7P _ _ _ _ _ _ h.add0 h.add1
 rw[jS M,jS M];by_cases O:o.kind=14
 ·rw[jT O,jT O];exact JA _ _ _ _ _ _ h.add0 h.add1
 rw[jS O,jS O];by_cases R:o.kind=15
 ·rw[jT R,jT R];exact Z8f _ _ _ _ _ _
 rw[jS R,jS R];exact Z4m _ _ _ _ _ _
theorem Z3k(k:Nat)(args:Array Value)(w:World):(callFunc (xW k) args).run prog w=.ok (.enter (xW k) args) w:=by
 unfold xW;repeat' split
 ·exact enters_of func140 aj rfl args w
 ·exact enters_of func142 aj rfl args w
 ·exact enters_of func145 aj rfl args w
 ·exact enters_of func148 aj rfl args w
 ·exact enters_of func150 aj rfl args w
 ·exact enters_of func151 aj rfl args w
 ·exact enters_of func153 aj rfl args w
 ·exact enters_of func155 aj rfl args w
 exact enters_of func157 aj rfl args w
theorem Z5b(k:Nat)(h:k<17):rA[3*k+2]?=some (fv (xW k)):=MaM
theorem Z0z(nm:ByteArray)(v:Option Addr)(A:Nat)(bh:Int)(w:World) :
  Calls prog 61 #[.string nm,.slice v 0 A,.int .u16 bh] w fun e w'=>e=.returned (.string nm)/\w'=w:=by
 go_enter func61,ntmps61;go_wp2;go_ret;exact⟨rfl,rfl⟩
def Opn.at(o:Opn)(bh:Int):Opn:={o with behind:=bh}
def tu(l:List Opn)(bh:Int)(n k:Nat):List Value:=(List.range n).map fun j=>if j<k then .string (qn ((l.getD j opn0).at bh)) else .string ⟨#[]⟩
theorem Z5T(l:List Opn)(bh:Int)(n k:Nat):(tu l bh n k).length=n:=by simp[tu]
theorem Z29(l:List Opn)(bh:Int)(n k:Nat):(tu l bh n k).set k (.string (qn ((l.getD k opn0).at bh)))=tu l bh n (k+1):=by
 apply List.ext_getElem?;intro j;rw[mz];simp only[tu,kL,mA,kS];by_cases hj:j<n
 ·rw[nk hj];by_cases e:k=j
  ·subst e;simp[hj]
  simp only[e,mB,nC];by_cases h1:j<k
  ·rw[jT h1,jT ae]
  rw[jS h1,jS ae]
 rw[mg bz];simp;intro e;omega
theorem Z5n(l:List Opn)(bh:Int)(n:Nat):List.replicate (n*1) (Value.string ⟨#[]⟩)=tu l bh n 0:=by
 simp only[tu,lH,mB,kR];rw[List.map_const',mA]
theorem Tryz.info9:(Tryz.prog.info? 9).map (fun i=>(i.zero,i.size,i.bytes))=some (some (.string ⟨#[]⟩),1,16):=aj
theorem A5:∀(xs:List (List UInt8)),(∀x∈xs,x.length<=2000)->(Lib.join xs [44]).length<=xs.length*2001
 |[],_=>by simp[Lib.join,List.intercalate]
 |[x],h=>by have:=h x af;simp[Lib.join,List.intercalate];omega
 |x::y::r,h=>by
  have ih:=A5 (y::r) (fun z hz=>h z (mo _ hz))
  have hx:=h x af
  simp only[Lib.join,List.intercalate,List.intersperse_cons_cons,List.flatten_cons,kq,kh,lI]at ih⊢
  omega
theorem Z8o(bk n:Nat)(xs:List ByteArray)(J:ByteArray)(w:World)(hn:xs.length=n)(A:∀(j:Nat) x,xs[j]?=some x->w.cell? ⟨bk,j,none⟩=some (.string x))(D:bk<w.heap.size)(M:n<=1000)(hx:∀x∈xs,x.size<=2000)
  (G:(⟨(Lib.join (xs.map (·.data.toList)) [44]).toArray⟩:ByteArray)=J) :
  Calls prog 103 #[.slice (some ⟨bk,0,none⟩) n n,.string ⟨#[44]⟩] w fun e w'=>e=.returned (.string J)/\Below w.heap.size w w':=by
 subst hn;subst G;refine Tryz.strings_Join bk 0 xs.length xs ⟨#[44]⟩ w (fun j x h=>by rw[kN];exact A j x h) D ae jU ?_
 have:=A5 (xs.map (·.data.toList)) (fun z hz=>by
  obtain⟨b,I,rfl⟩:=lf.1 hz;have:=hx b I;rwa [kE])
 rw[kL]at this;rw[show (⟨#[44]⟩:ByteArray).data.toList=[44] from rfl];omega
theorem Z2N{l:List Opn}{bh:Int}{n k T:Nat}{I wr D:World}{o:Opn}{G:ByteArray}(J:wr.ownsRow (T+1) 9 1 (.slice (some ⟨T+1,0,none⟩) n n) n (tu l bh n k))(M:Below (T+1) I wr)(O:T+2<=wr.heap.size)
  (A:Below wr.heap.size wr D) (ho:l.getD k opn0=o) (hs:qn (o.at bh)=G) :
  (D.setCell ⟨T+1,k,none⟩ (.string G)).ownsRow (T+1) 9 1 (.slice (some ⟨T+1,0,none⟩) n n) n (tu l bh n (k+1))/\Below (T+1) I (D.setCell ⟨T+1,k,none⟩ (.string G))/\T+2<=(D.setCell ⟨T+1,k,none⟩ (.string G)).heap.size:=by
 have R:D.ownsRow (T+1) 9 1 (.slice (some ⟨T+1,0,none⟩) n n) n (tu l bh n k):=J.kept (row:=none) ⟨A.os,A.tape,A.output,A.size,fun k hk _=>A.block k hk⟩ (.inr bd);have st:=R.stored k (.string G);rw[<-hs,<- ho,Z29,ho,hs]at st;have b3:=(M.trans (A.mono ae));exact⟨st.1,b3.setCell af _,j8 O (j8 A.size st.2.size)⟩
theorem Ju(base g Kd n:Nat)(l:List Opn)(nm:ByteArray)(bh:Int)(w:World)(hl:l.length=n)(h0:0<n)(hn:n<=1000)(Kc:w.ownsRow base 114 5 (.slice (some ⟨g,0,none⟩) n Kd) n (pP l))
  (hf:∀k,k<n->((l.getD k opn0).at bh).Fine) (hnm:nm.size<=1000) (NH:∀k,k<n->(qn ((l.getD k opn0).at bh)).size<=2000) :
  Calls prog 61 #[.string nm,.slice (some ⟨g,0,none⟩) n Kd,.int .u16 bh] w fun e w'=>
   e=.returned (.string ((nm++⟨#[32]⟩)++⟨(Lib.join (l.map fun o=>(qn (o.at bh)).data.toList) [44]).toArray⟩))/\Below w.heap.size w w':=by
 have Ru:g<w.heap.size:=(Kc.lt g rfl).2;have Kk:((n:Int)==0)=false:=ai;obtain⟨i0,hi,KJ,KC,Ky⟩:=kQ Tryz.info9;go_enter func61,ntmps61;go_wp2_with fail;refine(zt _).mono ?_;rintro e A ⟨rfl,Kh⟩;have MK:w.heap.size<=A.heap.size:=Kh.size;go_wp2_with (first| (refine nM rfl 200 (.tmp 7) (.tmp 15) rfl A.heap.size rA rfl rfl 200 _ (mr A _) xD rfl yN ?_;rw[nN])|(at_make;refine wpList_make_full _ rfl _ _ 22 rfl (A.heap.size+1) 9 i0 _ 1 underlying22 hi KJ KC .i64 .i64 _ _ n rfl rfl rfl rfl (by rw[Ky];omega) ak af ?_;intro w2 LC S))
 have NJ:A.heap.size+2<=w2.heap.size:=by
  have:=(LC.lt _ rfl).2;simp at this;omega
 have Km:Below (A.heap.size+1) (A.alloc (.cells rA 200)) w2:=⟨S.os,S.tape,S.output,S.size,fun k hk=>S.block k aJ af⟩
 have KE:w2.ownsRow (A.heap.size+1) 9 1 (.slice (some ⟨A.heap.size+1,0,none⟩) n n) n (tu l bh n 0):=by
  have e:(madeCells (Value.string ⟨#[]⟩).cells (n*1)).toList=tu l bh n 0:=by
   rw[show (Value.string ⟨#[]⟩).cells=#[Value.string ⟨#[]⟩] from rfl,toList_madeCells_one];exact Z5n l bh n
  rw[<-e];simpa using LC
 have KF:=oP KE;clear KE LC S;go_loopw [21] (fun i wr=>∃k:Nat,k<=n/\i=.int .i64 k/\wr.ownsRow (A.heap.size+1) 9 1 (.slice (some ⟨A.heap.size+1,0,none⟩) n n) n (tu l bh n k)/\Below (A.heap.size+1) (A.alloc (.cells rA 200)) wr/\A.heap.size+2<=wr.heap.size) (fun i _=>n-(intOf i).toNat)
 case atStart=>exact⟨0,j4,rfl,KF.o,Km,NJ⟩
 case round=>
  obtain⟨k,hk,rfl,U,V,WH⟩:=hrel;clear KF Km NJ
  have Z:wr.ownsRow base 114 5 (.slice (some ⟨g,0,none⟩) n Kd) n (pP l):=by
   have ML:Below w.heap.size w wr:=(Kh.alloc MK _).trans (V.mono ae);exact Kc.kept (row:=none) ⟨ML.os,ML.tape,ML.output,ML.size,fun k hk _=>ML.block k hk⟩ (.inr bd)
  by_cases Kf:k<n
  ·have G:=xX l k ae;have Vz:=hf k Kf;obtain⟨o,ho⟩:=Zg0 (l.getD k opn0);rw[ho]at G Vz;have HO:Hid (l.getD k opn0=o):=ho;have c0:wr.cell? ⟨g,k*5,none⟩=some (.int .i64 o.kind):=by rw[Z.cellAt (k*5) ae];exact G.1
   have c1:wr.cell? ⟨g,k*5+1,none⟩=some (.string o.name):=by rw[Z.cellAt (k*5+1) ae];exact G.2.1
   have c2:wr.cell? ⟨g,k*5+2,none⟩=some (.int .u8 o.own):=by rw[Z.cellAt (k*5+2) ae];exact G.2.2.1
   have c3:wr.cell? ⟨g,k*5+3,none⟩=some (.int .u16 o.added):=by rw[Z.cellAt (k*5+3) ae];exact G.2.2.2.1
   have c4:wr.cell? ⟨g,k*5+4,none⟩=some (.int .u16 o.behind):=by rw[Z.cellAt (k*5+4) ae];exact G.2.2.2.2
   have hkd:o.kind<17:=Vz.kind
   have cw:∀D,(wr.alloc D).cell? ⟨A.heap.size,o.kind*3+2,none⟩=some (fv (xW o.kind)):=fun D=>by
    rw[lO ai,V.cell af];simp[Nat.mul_comm o.kind 3,Z5b o.kind hkd]
   have Lm:=Z3k o.kind;clear ho G;obtain⟨sS,I⟩:∃x,qn (o.at bh)=x:=⟨_,rfl⟩;have HC:=oP (fun w=>Z6j (o.at bh) Vz w);rw[I]at HC;have HS:Hid (qn (o.at bh)=sS):=I;have M:wr.cell? ⟨A.heap.size+1,k,none⟩=(tu l bh n k)[k]?:=U.cellAt k ae;obtain⟨x0,MR⟩:∃x,(tu l bh n k)[k]?=some x:=⟨_,jX (by rw[Z5T];exact Kf)⟩;rw[MR]at M;have WV5:wr.frozen? ⟨A.heap.size+1,k,none⟩=false:=U.frozenAt k;have WV6:∀D,(wr.alloc D).cell? ⟨A.heap.size+1,k,none⟩=some x0:=fun D=>by rw[lO ai];exact M
   have WV7:∀D,(wr.alloc D).frozen? ⟨A.heap.size+1,k,none⟩=false:=fun D=>by rw[ku (kt ai)];exact WV5
   have Vm2:A.heap.size+1<wr.heap.size+1:=ae;clear I Vz MR hf NH;go_wp2_with fail;go_region_with (refine(HC.o _).mono ?_;rintro e w3 ⟨rfl,Kq⟩;have Vm3:=(Kq.cell (p:=⟨A.heap.size+1,k,none⟩) ai).trans (WV6 _);have Vm4:=(Kq.frozen (p:=⟨A.heap.size+1,k,none⟩) ai).trans (WV7 _))
   all_goals
    have Lr:Below wr.heap.size wr w3:=((jV.alloc jU _).drew).trans (Kq.mono (B':=wr.heap.size) af);have R:=Z2N U V WH Lr HO.o HS.o;have HR:=oP R;clear R Lr Kq Vm3 Vm4 U V M WV6 WV5 WV7 cw Lm;go_wp2;go_roundw
    case rel=>exact⟨k+1,ae,ao,HR.o.1,HR.o.2.1,HR.o.2.2⟩
    case measure=>simp[intOf];omega
  have LD:k=n:=ae;obtain⟨xs,O2⟩:=Zg0 (l.map (fun o=>qn (o.at bh)));have Pp:xs.length=n:=by rw[<-O2,kL];exact hl
  have O:∀x∈xs,x.size<=2000:=by
   intro x hx;rw[<-O2]at hx;obtain⟨o,ho,rfl⟩:=lf.1 hx;obtain⟨j,hj,rfl⟩:=List.mem_iff_getElem.1 ho;have:=NH j ae;rwa [jZ,jX hj]at this
  have U5:∀(j:Nat) x,xs[j]?=some x->wr.cell? ⟨A.heap.size+1,j,none⟩=some (.string x):=by
   intro j x hx;have hj:j<n:=by rw[<-Pp];exact(mh.1 hx).1
   rw[U.cellAt j ae];rw[<-O2,kS]at hx;obtain⟨o,ho,rfl⟩:=kJ.1 hx;simp only[tu,kS,nk hj,nC,LD,hj,mC,jZ,ho,Option.getD_some]
  obtain⟨J,hJ⟩:∃J:ByteArray,(⟨(Lib.join (xs.map (·.data.toList)) [44]).toArray⟩:ByteArray)=J:=⟨_,rfl⟩
  have VI8:J.size<=3000000:=by
   rw[<-hJ]
   have:=A5 (xs.map (·.data.toList)) (fun z hz=>by
    obtain⟨b,hb,rfl⟩:=lf.1 hz;have:=O b hb;rwa [kE])
   rw[kL]at this;show (Lib.join (xs.map (·.data.toList)) [44]).toArray.size<=_;rw[lJ];omega
  have HJ:=oP hJ;have HX:=oP O2;have HL:=oP Pp;have SK:=oP O;have Ws9:=oP U5;have SL:(⟨#[32]⟩:ByteArray).size=1:=rfl;have WV8:∀w,(Op.stringOp .add nm ⟨#[32]⟩).run prog w=.ok (.string (nm++⟨#[32]⟩)) w:=fun w=>mn w _ _ ae
  have Wd0:∀w,(Op.stringOp .add (nm++⟨#[32]⟩) J).run prog w=.ok (.string ((nm++⟨#[32]⟩)++J)) w:=fun w=>mn w _ _ di
  have HB:=oP (show Below w.heap.size w wr from (Kh.alloc MK _).trans (V.mono ae));have Lt:A.heap.size+1<wr.heap.size:=ae;clear hJ O2 Pp O U5 LD U V Z Kc hf NH;go_wp2_with fail;refine(Z8o (A.heap.size+1) n xs J _ HL.o Ws9.o Lt hn SK.o HJ.o).mono ?_;rintro e w3 ⟨rfl,Kq⟩;go_wp2;go_ret;refine⟨qY ?_,HB.o.trans (Kq.mono HB.o.size)⟩;rw[<-HJ.o,<- HX.o,nO];rfl
def rowsL:List (Nat×Nat×List UInt8):=
 [(0,0,[78,79,80]),
  (2,0,[76,74,77,80,32,97,100,100,114]),
  (3,0,[82,82,32,65]),
  (4,0,[73,78,67,32,65]),
  (5,0,[73,78,67,32,100,105,114]),
  (6,1,[73,78,67,32,64,82]),
  (8,7,[73,78,67,32,82]),
  (16,0,[74,66,67,32,98,105,116,44,114,101,108]),
  (18,0,[76,67,65,76,76,32,97,100,100,114]),
  (19,0,[82,82,67,32,65]),
  (20,0,[68,69,67,32,65]),
  (21,0,[68,69,67,32,100,105,114]),
  (22,1,[68,69,67,32,64,82]),
  (24,7,[68,69,67,32,82]),
  (32,0,[74,66,32,98,105,116,44,114,101,108]),
  (34,0,[82,69,84]),
  (35,0,[82,76,32,65]),
  (36,0,[65,68,68,32,65,44,35,98,121,116,101]),
  (37,0,[65,68,68,32,65,44,100,105,114]),
  (38,1,[65,68,68,32,65,44,64,82]),
  (40,7,[65,68,68,32,65,44,82]),
  (48,0,[74,78,66,32,98,105,116,44,114,101,108]),
  (50,0,[82,69,84,73]),
  (51,0,[82,76,67,32,65]),
  (52,0,[65,68,68,67,32,65,44,35,98,121,116,101]),
  (53,0,[65,68,68,67,32,65,44,100,105,114]),
  (54,1,[65,68,68,67,32,65,44,64,82]),
  (56,7,[65,68,68,67,32,65,44,82]),
  (64,0,[74,67,32,114,101,108]),
  (66,0,[79,82,76,32,100,105,114,44,65]),
  (67,0,[79,82,76,32,100,105,114,44,35,98,121,116,101]),
  (68,0,[79,82,76,32,65,44,35,98,121,116,101]),
  (69,0,[79,82,76,32,65,44,100,105,114]),
  (70,1,[79,82,76,32,65,44,64,82]),
  (72,7,[79,82,76,32,65,44,82]),
  (80,0,[74,78,67,32,114,101,108]),
  (82,0,[65,78,76,32,100,105,114,44,65]),
  (83,0,[65,78,76,32,100,105,114,44,35,98,121,116,101]),
  (84,0,[65,78,76,32,65,44,35,98,121,116,101]),
  (85,0,[65,78,76,32,65,44,100,105,114]),
  (86,1,[65,78,76,32,65,44,64,82]),
  (88,7,[65,78,76,32,65,44,82]),
  (96,0,[74,90,32,114,101,108]),
  (98,0,[88,82,76,32,100,105,114,44,65]),
  (99,0,[88,82,76,32,100,105,114,44,35,98,121,116,101]),
  (100,0,[88,82,76,32,65,44,35,98,121,116,101]),
  (101,0,[88,82,76,32,65,44,100,105,114]),
  (102,1,[88,82,76,32,65,44,64,82]),
  (104,7,[88,82,76,32,65,44,82]),
  (112,0,[74,78,90,32,114,101,108]),
  (114,0,[79,82,76,32,67,44,98,105,116]),
  (115,0,[74,77,80,32,64,65,43,68,80,84,82]),
  (116,0,[77,79,86,32,65,44,35,98,121,116,101]),
  (117,0,[77,79,86,32,100,105,114,44,35,98,121,116,101]),
  (118,1,[77,79,86,32,64,82,44,35,98,121,116,101]),
  (120,7,[77,79,86,32,82,44,35,98,121,116,101]),
  (128,0,[83,74,77,80,32,114,101,108]),
  (130,0,[65,78,76,32,67,44,98,105,116]),
  (131,0,[77,79,86,67,32,65,44,64,65,43,80,67]),
  (132,0,[68,73,86,32,65,66]),
  (133,0,[77,79,86,32,100,105,114,44,100,105,114]),
  (134,1,[77,79,86,32,100,105,114,44,64,82]),
  (136,7,[77,79,86,32,100,105,114,44,82]),
  (144,0,[77,79,86,32,68,80,84,82,44,35,119,111,114,100]),
  (146,0,[77,79,86,32,98,105,116,44,67]),
  (147,0,[77,79,86,67,32,65,44,64,65,43,68,80,84,82]),
  (148,0,[83,85,66,66,32,65,44,35,98,121,116,101]),
  (149,0,[83,85,66,66,32,65,44,100,105,114]),
  (150,1,[83,85,66,66,32,65,44,64,82]),
  (152,7,[83,85,66,66,32,65,44,82]),
  (160,0,[79,82,76,32,67,44,47,98,105,116]),
  (162,0,[77,79,86,32,67,44,98,105,116]),
  (163,0,[73,78,67,32,68,80,84,82]),
  (164,0,[77,85,76,32,65,66]),
  (166,1,[77,79,86,32,64,82,44,100,105,114]),
  (168,7,[77,79,86,32,82,44,100,105,114]),
  (176,0,[65,78,76,32,67,44,47,98,105,116]),
  (178,0,[67,80,76,32,98,105,116]),
  (179,0,[67,80,76,32,67]),
  (180,0,[67,74,78,69,32,65,44,35,98,121,116,101,44,114,101,108]),
  (181,0,[67,74,78,69,32,65,44,100,105,114,44,114,101,108]),
  (182,1,[67,74,78,69,32,64,82,44,35,98,121,116,101,44,114,101,108]),
  (184,7,[67,74,78,69,32,82,44,35,98,121,116,101,44,114,101,108]),
  (192,0,[80,85,83,72,32,100,105,114]),
  (194,0,[67,76,82,32,98,105,116]),
  (195,0,[67,76,82,32,67]),
  (196,0,[83,87,65,80,32,65]),
  (197,0,[88,67,72,32,65,44,100,105,114]),
  (198,1,[88,67,72,32,65,44,64,82]),
  (200,7,[88,67,72,32,65,44,82]),
  (208,0,[80,79,80,32,100,105,114]),
  (210,0,[83,69,84,66,32,98,105,116]),
  (211,0,[83,69,84,66,32,67]),
  (212,0,[68,65,32,65]),
  (213,0,[68,74,78,90,32,100,105,114,44,114,101,108]),
  (214,1,[88,67,72,68,32,65,44,64,82]),
  (216,7,[68,74,78,90,32,82,44,114,101,108]),
  (224,0,[77,79,86,88,32,65,44,64,68,80,84,82]),
  (226,1,[77,79,86,88,32,65,44,64,82]),
  (228,0,[67,76,82,32,65]),
  (229,0,[77,79,86,32,65,44,100,105,114]),
  (230,1,[77,79,86,32,65,44,64,82]),
  (232,7,[77,79,86,32,65,44,82]),
  (240,0,[77,79,86,88,32,64,68,80,84,82,44,65]),
  (242,1,[77,79,86,88,32,64,82,44,65]),
  (244,0,[67,80,76,32,65]),
  (245,0,[77,79,86,32,100,105,114,44,65]),
  (246,1,[77,79,86,32,64,82,44,65]),
  (248,7,[77,79,86,32,82,44,65]),
  (1,224,[65,74,77,80,32,112,97,103,101]),
  (17,224,[65,67,65,76,76,32,112,97,103,101])]
def pa:List (Nat×Nat×List UInt8×List (List UInt8)):=
 [(0,1,[78,79,80],[]),
  (2,1,[76,74,77,80],[[97,100,100,114]]),
  (3,1,[82,82],[[65]]),
  (4,1,[73,78,67],[[65]]),
  (5,1,[73,78,67],[[100,105,114]]),
  (6,2,[73,78,67],[[64,82]]),
  (8,8,[73,78,67],[[82]]),
  (16,1,[74,66,67],[[98,105,116],[114,101,108]]),
  (18,1,[76,67,65,76,76],[[97,100,100,114]]),
  (19,1,[82,82,67],[[65]]),
  (20,1,[68,69,67],[[65]]),
  (21,1,[68,69,67],[[100,105,114]]),
  (22,2,[68,69,67],[[64,82]]),
  (24,8,[68,69,67],[[82]]),
  (32,1,[74,66],[[98,105,116],[114,101,108]]),
  (34,1,[82,69,84],[]),
  (35,1,[82,76],[[65]]),
  (36,1,[65,68,68],[[65],[35,98,121,116,101]]),
  (37,1,[65,68,68],[[65],[100,105,114]]),
  (38,2,[65,68,68],[[65],[64,82]]),
  (40,8,[65,68,68],[[65],[82]]),
  (48,1,[74,78,66],[[98,105,116],[114,101,108]]),
  (50,1,[82,69,84,73],[]),
  (51,1,[82,76,67],[[65]]),
  (52,1,[65,68,68,67],[[65],[35,98,121,116,101]]),
  (53,1,[65,68,68,67],[[65],[100,105,114]]),
  (54,2,[65,68,68,67],[[65],[64,82]]),
  (56,8,[65,68,68,67],[[65],[82]]),
  (64,1,[74,67],[[114,101,108]]),
  (66,1,[79,82,76],[[100,105,114],[65]]),
  (67,1,[79,82,76],[[100,105,114],[35,98,121,116,101]]),
  (68,1,[79,82,76],[[65],[35,98,121,116,101]]),
  (69,1,[79,82,76],[[65],[100,105,114]]),
  (70,2,[79,82,76],[[65],[64,82]]),
  (72,8,[79,82,76],[[65],[82]]),
  (80,1,[74,78,67],[[114,101,108]]),
  (82,1,[65,78,76],[[100,105,114],[65]]),
  (83,1,[65,78,76],[[100,105,114],[35,98,121,116,101]]),
  (84,1,[65,78,76],[[65],[35,98,121,116,101]]),
  (85,1,[65,78,76],[[65],[100,105,114]]),
  (86,2,[65,78,76],[[65],[64,82]]),
  (88,8,[65,78,76],[[65],[82]]),
  (96,1,[74,90],[[114,101,108]]),
  (98,1,[88,82,76],[[100,105,114],[65]]),
  (99,1,[88,82,76],[[100,105,114],[35,98,121,116,101]]),
  (100,1,[88,82,76],[[65],[35,98,121,116,101]]),
  (101,1,[88,82,76],[[65],[100,105,114]]),
  (102,2,[88,82,76],[[65],[64,82]]),
  (104,8,[88,82,76],[[65],[82]]),
  (112,1,[74,78,90],[[114,101,108]]),
  (114,1,[79,82,76],[[67],[98,105,116]]),
  (115,1,[74,77,80],[[64,65,43,68,80,84,82]]),
  (116,1,[77,79,86],[[65],[35,98,121,116,101]]),
  (117,1,[77,79,86],[[100,105,114],[35,98,121,116,101]]),
  (118,2,[77,79,86],[[64,82],[35,98,121,116,101]]),
  (120,8,[77,79,86],[[82],[35,98,121,116,101]]),
  (128,1,[83,74,77,80],[[114,101,108]]),
  (130,1,[65,78,76],[[67],[98,105,116]]),
  (131,1,[77,79,86,67],[[65],[64,65,43,80,67]]),
  (132,1,[68,73,86],[[65,66]]),
  (133,1,[77,79,86],[[100,105,114],[100,105,114]]),
  (134,2,[77,79,86],[[100,105,114],[64,82]]),
  (136,8,[77,79,86],[[100,105,114],[82]]),
  (144,1,[77,79,86],[[68,80,84,82],[35,119,111,114,100]]),
  (146,1,[77,79,86],[[98,105,116],[67]]),
  (147,1,[77,79,86,67],[[65],[64,65,43,68,80,84,82]]),
  (148,1,[83,85,66,66],[[65],[35,98,121,116,101]]),
  (149,1,[83,85,66,66],[[65],[100,105,114]]),
  (150,2,[83,85,66,66],[[65],[64,82]]),
  (152,8,[83,85,66,66],[[65],[82]]),
  (160,1,[79,82,76],[[67],[47,98,105,116]]),
  (162,1,[77,79,86],[[67],[98,105,116]]),
  (163,1,[73,78,67],[[68,80,84,82]]),
  (164,1,[77,85,76],[[65,66]]),
  (166,2,[77,79,86],[[64,82],[100,105,114]]),
  (168,8,[77,79,86],[[82],[100,105,114]]),
  (176,1,[65,78,76],[[67],[47,98,105,116]]),
  (178,1,[67,80,76],[[98,105,116]]),
  (179,1,[67,80,76],[[67]]),
  (180,1,[67,74,78,69],[[65],[35,98,121,116,101],[114,101,108]]),
  (181,1,[67,74,78,69],[[65],[100,105,114],[114,101,108]]),
  (182,2,[67,74,78,69],[[64,82],[35,98,121,116,101],[114,101,108]]),
  (184,8,[67,74,78,69],[[82],[35,98,121,116,101],[114,101,108]]),
  (192,1,[80,85,83,72],[[100,105,114]]),
  (194,1,[67,76,82],[[98,105,116]]),
  (195,1,[67,76,82],[[67]]),
  (196,1,[83,87,65,80],[[65]]),
  (197,1,[88,67,72],[[65],[100,105,114]]),
  (198,2,[88,67,72],[[65],[64,82]]),
  (200,8,[88,67,72],[[65],[82]]),
  (208,1,[80,79,80],[[100,105,114]]),
  (210,1,[83,69,84,66],[[98,105,116]]),
  (211,1,[83,69,84,66],[[67]]),
  (212,1,[68,65],[[65]]),
  (213,1,[68,74,78,90],[[100,105,114],[114,101,108]]),
  (214,2,[88,67,72,68],[[65],[64,82]]),
  (216,8,[68,74,78,90],[[82],[114,101,108]]),
  (224,1,[77,79,86,88],[[65],[64,68,80,84,82]]),
  (226,2,[77,79,86,88],[[65],[64,82]]),
  (228,1,[67,76,82],[[65]]),
  (229,1,[77,79,86],[[65],[100,105,114]]),
  (230,2,[77,79,86],[[65],[64,82]]),
  (232,8,[77,79,86],[[65],[82]]),
  (240,1,[77,79,86,88],[[64,68,80,84,82],[65]]),
  (242,2,[77,79,86,88],[[64,82],[65]]),
  (244,1,[67,80,76],[[65]]),
  (245,1,[77,79,86],[[100,105,114],[65]]),
  (246,2,[77,79,86],[[64,82],[65]]),
  (248,8,[77,79,86],[[82],[65]])]
def sM:List (Nat×Nat×List UInt8×List (List UInt8)):=[(1,1,[65,74,77,80],[[112,97,103,101]]),(17,1,[65,67,65,76,76],[[112,97,103,101]])]
def vJ:List Value:=rowsL.flatMap fun r=>[.int .u8 r.1,.int .u8 r.2.1,.string ⟨r.2.2.toArray⟩]
theorem Ef(w:World) :
  Calls prog 99 #[] w fun e w'=>e=.returned (.slice (some ⟨w.heap.size,0,none⟩) 111 111)/\w'=w.alloc (.cells vJ.toArray 101):=
 DK (.slice (some ⟨w.heap.size,0,none⟩) 111 111) (w.alloc (.cells vJ.toArray 101)) func99 rfl aj ⟨rfl,rfl⟩
def rowAt(k:Nat):Nat×Nat×List UInt8:=rowsL.getD k (0,0,[])
def hit(c:Int)(k:Nat):Bool:=bits BinOp.andNot IntKind.u8 c (rowAt k).2.1==((rowAt k).1:Int)
theorem Hy(k:Nat)(h:k<111):vJ.toArray[3*k]?=some (.int .u8 (rowAt k).1)/\vJ.toArray[3*k+1]?=some (.int .u8 (rowAt k).2.1)/\vJ.toArray[3*k+2]?=some (.string ⟨(rowAt k).2.2.toArray⟩):=by
 have A:∀(l:List (Nat×Nat×List UInt8)) (k:Nat),k<l.length->∃r,l[k]?=some r/\(l.flatMap fun r=>[Value.int .u8 r.1,.int .u8 r.2.1,.string ⟨r.2.2.toArray⟩])[3*k]?=some (.int .u8 r.1) /\
   (l.flatMap fun r=>[Value.int .u8 r.1,.int .u8 r.2.1,.string ⟨r.2.2.toArray⟩])[3*k+1]?=some (.int .u8 r.2.1) /\
   (l.flatMap fun r=>[Value.int .u8 r.1,.int .u8 r.2.1,.string ⟨r.2.2.toArray⟩])[3*k+2]?=some (.string ⟨r.2.2.toArray⟩):=by
  intro l;induction l with
  |nil=>intro k h;simp at h
  |cons x l ih=>
   intro k h;cases k with
   |zero=>exact⟨x,af⟩
   |succ k=>
    obtain⟨r,h0,h1,h2,h3⟩:=ih k av;refine⟨r,by simpa using h0,?_,?_,?_⟩
    ·rw[show 3*(k+1)=3*k+1+1+1 by omega];simpa using h1
    ·rw[show 3*(k+1)+1=3*k+1+1+1+1 by omega];simpa using h2
    rw[show 3*(k+1)+2=3*k+2+1+1+1 by omega];simpa using h3
 obtain⟨r,h0,h1,h2,h3⟩:=A rowsL k (by have:rowsL.length=111:=(aq);omega);have e:rowAt k=r:=by unfold rowAt;rw[jZ,h0];rfl
 rw[e];simp only[nP];exact⟨h1,h2,h3⟩
theorem Hp(c:Int)(w:World) :
  Calls prog 57 #[.int .u8 c] w fun e w'=>(∃k,k<111/\hit c k=true/\(∀j,j<k->hit c j=false)/\e=.returned (.tuple #[.agg #[.int .u8 (rowAt k).1,.int .u8 (rowAt k).2.1,.string ⟨(rowAt k).2.2.toArray⟩],.bool true])/\Below w.heap.size w w')\/((∀j,j<111->hit c j=false)/\e=.returned (.tuple #[.agg #[.int .u8 0,.int .u8 0,.string ⟨#[]⟩],.bool false])/\Below w.heap.size w w'):=by
 go_enter func57,ntmps57;go_wp2_with (go_at_call 99;refine(Ef _).mono ?_;rintro e R ⟨rfl,rfl⟩);go_loopw [8] (fun i wr=>∃k:Nat,k<=111/\i=.int .i64 k/\(∀j,j<k->hit c j=false)/\Below (w.heap.size+2) ((w.alloc (.cells #[.int .u8 0,.int .u8 0,.string ⟨#[]⟩] 101)).alloc (.cells vJ.toArray 101)) wr) (fun i _=>111-(intOf i).toNat)
 case atStart=>exact⟨0,ae,rfl,fun j h=>ae,jV⟩
 case round=>
  obtain⟨k,hk,rfl,D,hb⟩:=hrel;by_cases I:k<111
  ·have A:=Hy k I;have c0:wr.cell? ⟨w.heap.size+1,k*3,none⟩=some (.int .u8 (rowAt k).1):=by rw[hb.cell af];simp[World.cell?_alloc_at,Nat.mul_comm k 3,A.1]
   have c1:wr.cell? ⟨w.heap.size+1,k*3+1,none⟩=some (.int .u8 (rowAt k).2.1):=by rw[hb.cell af];simp[World.cell?_alloc_at,Nat.mul_comm k 3,A.2.1]
   have c2:wr.cell? ⟨w.heap.size+1,k*3+2,none⟩=some (.string ⟨(rowAt k).2.2.toArray⟩):=by rw[hb.cell af];simp[World.cell?_alloc_at,Nat.mul_comm k 3,A.2.2]
   have r0:wr.cell? ⟨w.heap.size,0,none⟩=some (.int .u8 0):=aQ;have r1:wr.cell? ⟨w.heap.size,1,none⟩=some (.int .u8 0):=aQ;have r2:wr.cell? ⟨w.heap.size,2,none⟩=some (.string ⟨#[]⟩):=aQ;have f0:wr.frozen? ⟨w.heap.size,0,none⟩=false:=bK;have f1:wr.frozen? ⟨w.heap.size,1,none⟩=false:=bK;have f2:wr.frozen? ⟨w.heap.size,2,none⟩=false:=bK;have hz:w.heap.size+2<=wr.heap.size:=by have:=hb.size;simpa using this
   have J:w.heap.size<wr.heap.size:=ae;have S:w.heap.size+1<wr.heap.size:=ae;clear A;by_cases hh:hit c k=true
   ·have ht:(bits BinOp.andNot IntKind.u8 c ((rowAt k).2.1:Int)==((rowAt k).1:Int))=true:=hh;obtain⟨r,G⟩:=Zg0 (rowAt k);rw[G]at c0 c1 c2 ht;have M:Hid (rowAt k=r):=G;clear G;go_wp2;refine kf (v:=.tuple #[.agg #[.int .u8 r.1,.int .u8 r.2.1,.string ⟨r.2.2.toArray⟩],.bool true]) (by simp[results,results57,go_sem,J,r0,r1,r2]) rfl (.inl ⟨k,I,hh,D,by rw[M.o],?_⟩);exact MaP
   have ht:(bits BinOp.andNot IntKind.u8 c ((rowAt k).2.1:Int)==((rowAt k).1:Int))=false:=by simpa [hit]using hh
   generalize rowAt k=r at *;go_wp2;go_roundw
   case rel=>exact⟨k+1,ae,ao,fun j O=>by
    rcases lQ j k with h|h
    ·exact D j h
    ·have:j=k:=by omega
     subst this;simpa using hh,hb.alloc ae _⟩
   case measure=>simp[intOf];omega
  have r0:wr.cell? ⟨w.heap.size,0,none⟩=some (.int .u8 0):=aQ;have r1:wr.cell? ⟨w.heap.size,1,none⟩=some (.int .u8 0):=aQ;have r2:wr.cell? ⟨w.heap.size,2,none⟩=some (.string ⟨#[]⟩):=aQ;have f0:wr.frozen? ⟨w.heap.size,0,none⟩=false:=bK;have f1:wr.frozen? ⟨w.heap.size,1,none⟩=false:=bK;have f2:wr.frozen? ⟨w.heap.size,2,none⟩=false:=bK;have J:w.heap.size<wr.heap.size:=by have:=hb.size;simp at this;omega
  go_wp2;refine kf (v:=.tuple #[.agg #[.int .u8 0,.int .u8 0,.string ⟨#[]⟩],.bool false]) (by simp[results,results57,go_sem,r0,r1,r2]) rfl (.inr ⟨fun j O=>D j ae,rfl,?_⟩);exact MaP
def wL:List (List UInt8×Nat):=[([65],0),([65,66],1),([67],2),([68,80,84,82],3),([64,65,43,68,80,84,82],4),([64,65,43,80,67],5),([64,68,80,84,82],6),([64,82],7),([82],8),([35,98,121,116,101],9),([35,119,111,114,100],10),([100,105,114],11),([98,105,116],12),([47,98,105,116],13),([97,100,100,114],14),([114,101,108],15),([112,97,103,101],16)]
def kindsD:DataW Unit:=wL.foldl (fun D kv=>D.put (.string kv.1) (.lit (.int .i64 kv.2))) (.map [])
theorem rJ:Keyed prog 9:=string_keyed underlying9
theorem sU{H:Type}{P:Program}(w:World){ops:Array Oper}{rest:List Oper}{o:Oper}{a:Act}{Q:Exit->Act->World->Prop}
  (G:o.guard=none) (m x v:Operand) (t:TypeId) (I:o.op=Op.insert t m x v)
  (k e:TypeId) (K:Keyed P k) (ht:P.underlying t=some (.map k e)) (R:Value->Option (DataW H×List MemPlace)) (b n:Nat) (D:DataW H)
  (J:a.eval m=.map (some b)) (M:w.ownsMap P k R b n D) (hn:n<maxLen) (A val:Value) (kl:Lit) (hx:a.eval x=A) (O:a.eval v=val) (S:keyOf P k A=some kl)
  (d:DataW H) (ps:List MemPlace) (U:R val=some (d,ps))
  (V:∀w',w'.ownsMap P k R b (n+1) (D.put kl d)->w.grownBy w' (some b)->wpList P ops Q rest (a.put o.dst undef) w') :
  wpList P ops Q (o::rest) a w:=by
 refine np G fun K' Z=>?_
 obtain⟨w',KZ,r1,r2⟩:=M.update K ht hn S U;unfold Oper.wp;simp[execOp,I,J,hx,O,KZ,Result.andThen];exact Z _ _ (V w' r1 r2)
theorem yk(w:World) :
  Calls prog 59 #[] w fun e w'=>e=.returned (.map (some w.heap.size))/\w'.ownsMap prog 9 (plainElem prog 111) w.heap.size 17 kindsD/\Below w.heap.size w w':=by
 have MM:=@n8 prog;go_enter func59,ntmps59;go_wp2_with (refine sU _ rfl _ _ _ 107 rfl 9 111 rJ underlying107 (plainElem (H:=Unit) prog 111) w.heap.size 0 _ rfl (World.ownsMap_made _ _ _ _) ak (.string ⟨#[65]⟩) (.int .i64 0) (.string [65]) rfl rfl (kO underlying9 ah) (.lit (.int .i64 0)) [] (lU underlying111 ah) ?_;intro w1 h1 g1;refine sU _ rfl _ _ _ 107 rfl 9 111 rJ underlying107 (plainElem (H:=Unit) prog 111) w.heap.size 1 _ rfl h1 ak (.string ⟨#[65,66]⟩) (.int .i64 1) (.string [65,66]) rfl rfl (kO underlying9 ah) (.lit (.int .i64 1)) [] (lU underlying111 ah) ?_;intro w2 h2 g2;refine sU _ rfl _ _ _ 107 rfl 9 111 rJ underlying107 (plainElem (H:=Unit) prog 111) w.heap.size 2 _ rfl h2 ak (.string ⟨#[67]⟩) (.int .i64 2) (.string [67]) rfl rfl (kO underlying9 ah) (.lit (.int .i64 2)) [] (lU underlying111 ah) ?_;intro w3 h3 g3;refine sU _ rfl _ _ _ 107 rfl 9 111 rJ underlying107 (plainElem (H:=Unit) prog 111) w.heap.size 3 _ rfl h3 ak (.string ⟨#[68,80,84,82]⟩) (.int .i64 3) (.string [68,80,84,82]) rfl rfl (kO underlying9 ah) (.lit (.int .i64 3)) [] (lU underlying111 ah) ?_;intro w4 h4 g4;refine sU _ rfl _ _ _ 107 rfl 9 111 rJ underlying107 (plainElem (H:=Unit) prog 111) w.heap.size 4 _ rfl h4 ak (.string ⟨#[64,65,43,68,80,84,82]⟩) (.int .i64 4) (.string [64,65,43,68,80,84,82]) rfl rfl (kO underlying9 ah) (.lit (.int .i64 4)) [] (lU underlying111 ah) ?_;intro w5 h5 g5;refine sU _ rfl _ _ _ 107 rfl 9 111 rJ underlying107 (plainElem (H:=Unit) prog 111) w.heap.size 5 _ rfl h5 ak (.string ⟨#[64,65,43,80,67]⟩) (.int .i64 5) (.string [64,65,43,80,67]) rfl rfl (kO underlying9 ah) (.lit (.int .i64 5)) [] (lU underlying111 ah) ?_;intro w6 h6 g6;refine sU _ rfl _ _ _ 107 rfl 9 111 rJ underlying107 (plainElem (H:=Unit) prog 111) w.heap.size 6 _ rfl h6 ak (.string ⟨#[64,68,80,84,82]⟩) (.int .i64 6) (.string [64,68,80,84,82]) rfl rfl (kO underlying9 ah) (.lit (.int .i64 6)) [] (lU underlying111 ah) ?_;intro w7 h7 g7;refine sU _ rfl _ _ _ 107 rfl 9 111 rJ underlying107 (plainElem (H:=Unit) prog 111) w.heap.size 7 _ rfl h7 ak (.string ⟨#[64,82]⟩) (.int .i64 7) (.string [64,82]) rfl rfl (kO underlying9 ah) (.lit (.int .i64 7)) [] (lU underlying111 ah) ?_;intro w8 h8 g8;refine sU _ rfl _ _ _ 107 rfl 9 111 rJ underlying107 (plainElem (H:=Unit) prog 111) w.heap.size 8 _ rfl h8 ak (.string ⟨#[82]⟩) (.int .i64 8) (.string [82]) rfl rfl (kO underlying9 ah) (.lit (.int .i64 8)) [] (lU underlying111 ah) ?_;intro w9 h9 g9;refine sU _ rfl _ _ _ 107 rfl 9 111 rJ underlying107 (plainElem (H:=Unit) prog 111) w.heap.size 9 _ rfl h9 ak (.string ⟨#[35,98,121,116,101]⟩) (.int .i64 9) (.string [35,98,121,116,101]) rfl rfl (kO underlying9 ah) (.lit (.int .i64 9)) [] (lU underlying111 ah) ?_;intro To Qq R;refine sU _ rfl _ _ _ 107 rfl 9 111 rJ underlying107 (plainElem (H:=Unit) prog 111) w.heap.size 10 _ rfl Qq ak (.string ⟨#[35,119,111,114,100]⟩) (.int .i64 10) (.string [35,119,111,114,100]) rfl rfl (kO underlying9 ah) (.lit (.int .i64 10)) [] (lU underlying111 ah) ?_;intro Nr VA S;refine sU _ rfl _ _ _ 107 rfl 9 111 rJ underlying107 (plainElem (H:=Unit) prog 111) w.heap.size 11 _ rfl VA ak (.string ⟨#[100,105,114]⟩) (.int .i64 11) (.string [100,105,114]) rfl rfl (kO underlying9 ah) (.lit (.int .i64 11)) [] (lU underlying111 ah) ?_;intro Qr Rw U;refine sU _ rfl _ _ _ 107 rfl 9 111 rJ underlying107 (plainElem (H:=Unit) prog 111) w.heap.size 12 _ rfl Rw ak (.string ⟨#[98,105,116]⟩) (.int .i64 12) (.string [98,105,116]) rfl rfl (kO underlying9 ah) (.lit (.int .i64 12)) [] (lU underlying111 ah) ?_;intro VI9 XW V;refine sU _ rfl _ _ _ 107 rfl 9 111 rJ underlying107 (plainElem (H:=Unit) prog 111) w.heap.size 13 _ rfl XW ak (.string ⟨#[47,98,105,116]⟩) (.int .i64 13) (.string [47,98,105,116]) rfl rfl (kO underlying9 ah) (.lit (.int .i64 13)) [] (lU underlying111 ah) ?_;intro VJ0 WI Z;refine sU _ rfl _ _ _ 107 rfl 9 111 rJ underlying107 (plainElem (H:=Unit) prog 111) w.heap.size 14 _ rfl WI ak (.string ⟨#[97,100,100,114]⟩) (.int .i64 14) (.string [97,100,100,114]) rfl rfl (kO underlying9 ah) (.lit (.int .i64 14)) [] (lU underlying111 ah) ?_;intro VJ1 VB Vn0;refine sU _ rfl _ _ _ 107 rfl 9 111 rJ underlying107 (plainElem (H:=Unit) prog 111) w.heap.size 15 _ rfl VB ak (.string ⟨#[114,101,108]⟩) (.int .i64 15) (.string [114,101,108]) rfl rfl (kO underlying9 ah) (.lit (.int .i64 15)) [] (lU underlying111 ah) ?_;intro VJ2 TJ Vn1;refine sU _ rfl _ _ _ 107 rfl 9 111 rJ underlying107 (plainElem (H:=Unit) prog 111) w.heap.size 16 _ rfl TJ ak (.string ⟨#[112,97,103,101]⟩) (.int .i64 16) (.string [112,97,103,101]) rfl rfl (kO underlying9 ah) (.lit (.int .i64 16)) [] (lU underlying111 ah) ?_;intro VJ3 VC g17)
 go_ret;refine⟨rfl,VC,?_⟩;have hz:w.heap.size<=w.heap.size:=jU;have b0:Below w.heap.size w (w.alloc (.map #[] 0)):=(jV).alloc jU _;have b1:=b0.grown g1 (by have:=b0.size;omega) (fun k hk=>by cases hk;exact jU);have b2:=b1.grown g2 (by have:=b1.size;omega) (fun k hk=>by cases hk;exact jU);have b3:=b2.grown g3 (by have:=b2.size;omega) (fun k hk=>by cases hk;exact jU);have b4:=b3.grown g4 (by have:=b3.size;omega) (fun k hk=>by cases hk;exact jU);have b5:=b4.grown g5 (by have:=b4.size;omega) (fun k hk=>by cases hk;exact jU);have b6:=b5.grown g6 (by have:=b5.size;omega) (fun k hk=>by cases hk;exact jU);have b7:=b6.grown g7 (by have:=b6.size;omega) (fun k hk=>by cases hk;exact jU);have b8:=b7.grown g8 (by have:=b7.size;omega) (fun k hk=>by cases hk;exact jU);have b9:=b8.grown g9 (by have:=b8.size;omega) (fun k hk=>by cases hk;exact jU);have A:=b9.grown R (by have:=b9.size;omega) (fun k hk=>by cases hk;exact jU);have D:=A.grown S (by have:=A.size;omega) (fun k hk=>by cases hk;exact jU);have G:=D.grown U (by have:=D.size;omega) (fun k hk=>by cases hk;exact jU);have I:=G.grown V (by have:=G.size;omega) (fun k hk=>by cases hk;exact jU);have J:=I.grown Z (by have:=I.size;omega) (fun k hk=>by cases hk;exact jU);have M:=J.grown Vn0 (by have:=J.size;omega) (fun k hk=>by cases hk;exact jU);have O:=M.grown Vn1 (by have:=M.size;omega) (fun k hk=>by cases hk;exact jU);have Vn2:=O.grown g17 (by have:=O.size;omega) (fun k hk=>by cases hk;exact jU);exact Vn2
