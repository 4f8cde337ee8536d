import Derived.Test.YthokdbcpkmcieaaGreatDoorH14
set_option maxRecDepth 200000
set_option maxHeartbeats 16000000
namespace Go.Proofs.YthokdbcpkmcieaaGreatDoor
open RowKit Maps WideMaps Proofs.Tryz
def rY(s:ByteArray):ByteArray:=⟨(Lib.cut s.data.toList [59]).1.toArray⟩
def pt:List Tok->Bool
 |u::_=>decide (u.kind=0)
 |[]=>false
def zC(A:List Tok):Option (ByteArray×Stm):=(rL (A++[ux])).bind fun x=>(qy x.2).bind fun y=>if pt y.2=true then some (x.1,y.1) else none
def sd(s:ByteArray):Option (ByteArray×Stm):=(pY (rY s).size (tp (rY s))).bind zC
structure P0(w:World)(pb:Nat)(b:Bk):Prop where
 c0:w.cell? ⟨pb,0,none⟩=some (.map (some b.cb))
 c1:w.cell? ⟨pb,1,none⟩=some (.map (some b.ib))
 c2:w.cell? ⟨pb,2,none⟩=some (.map (some b.fb))
 c3:w.cell? ⟨pb,3,none⟩=some (.map (some b.db))
 c4:∃n:Int,w.cell? ⟨pb,4,none⟩=some (.int .i64 n)
 c5:∃(a:Option Addr) (n c:Nat),w.cell? ⟨pb,5,none⟩=some (.slice a n c)
 f4:w.frozen? ⟨pb,4,none⟩=false
 f5:w.frozen? ⟨pb,5,none⟩=false
 lt:pb<w.heap.size
theorem Z7Q(l:List Tok):(sQ l).length=l.length*3:=by
 induction l with
 |nil=>rfl
 |cons x l ih=>simp only[sQ,mT,kq,kh]at ih⊢;rw[ih];simp[Tok.cells];omega
theorem TokAt.of_row{w:World}{base g D:Nat}:∀(A pre:List Tok) (n:Nat),w.ownsRow base 296 3 (.slice (some ⟨g,0,none⟩) n D) n (sQ (pre++A))->n=pre.length+A.length->TokAt w g (pre.length*3) A
 |[],_,_,_,_=>trivial
 |t::A,pre,n,h,hn=>by
  have G:=Z7Q pre
  have hc:∀i,i<3->w.cell? ⟨g,pre.length*3+i,none⟩=t.cells[i]?:=by
   intro i hi
   rw[h.cellAt (pre.length*3+i) cH]
   have e:sQ (pre++t::A)=sQ pre++(t.cells++sQ A):=by simp[sQ]
   rw[e,lr ae,G,Nat.add_sub_cancel_left,lz (by simp[Tok.cells];omega)]
  refine⟨hc 0 ae,hc 1 ae,hc 2 ae,?_⟩
  have:=TokAt.of_row A (pre++[t]) n av (by simp at hn⊢;omega)
  rw[kq,oL,Nat.add_mul]at this
  exact this
theorem Z7f(w:World)(A:Nat)(line:Int)(c4:w.cell? ⟨A,4,none⟩=some (.int .i64 line)) :
  Calls prog 164 #[.pointer (some ⟨A,0,none⟩)] w fun e w'=>e=pj line/\w'=w:=by
 go_enter func164,ntmps164;go_wp2;exact⟨rfl,rfl,rfl⟩
theorem Z4I(s:ByteArray)(m:Int)(w:World)(hs:s.size<1000000)(A:w.cell? ⟨0,0,none⟩=some (.int .i64 m)) :
  Calls prog 100 #[.string s,.string ⟨#[59]⟩] w fun e w'=>∃(r:ByteArray) (z:Bool) (n:Nat),e=.returned (.tuple #[.string (rY s),.string r,.bool z])/\w'=w.drewN n:=by
 refine(Tryz.strings_Cut s ⟨#[59]⟩ m w ae A).mono ?_;rintro e D ⟨rfl,n,rfl⟩;exact⟨_,_,n,rfl,rfl⟩
theorem FU(l:List UInt8):(Lib.cut l [59]).1.length<=l.length:=by
 unfold Lib.cut;split
 all_goals simp
 all_goals exact Nat.min_le_right _ _
def Z0Y(w:World)(A:Nat)(b:Bk)(line:Int)(o:Option (ByteArray×Stm))(e:Ending)(w':World):Prop:=
 match o with
 |none=>e=pj line/\w.grownBy w' (some A)
 |some (lb,x)=>∃v kv,e=.returned (stV line 0 lb x.task x.name v x.ins.code kv x.ins.size)/\VAt w' w.heap.size v x.vals/\w'.ownsRow 0 111 1 kv x.ins.kinds.length (qp x.ins.kinds)/\(∀j,kv.ownBlock=some j->j<A)/\P0 w' A b/\w.grownBy w' (some A)
theorem Hu{A:List Tok}{lb:ByteArray}{l:List Tok}(h:rL A=some (lb,l)):l.length<=A.length:=by
 match A with
 |[]=>simp[rL]at h
 |[t]=>simp[rL]at h;rw[<-h.2];exact jU
 |t::u::A=>
  simp only[rL]at h;split at h
  ·cases h;exact jU
  split at h
  ·cases h;simp;omega
  cases h
theorem FD{w D I J:World}{G:Nat}(h:w.grownBy D (some G))(h7:Below D.heap.size D I)(A:Grow2 I J G D.heap.size):w.grownBy J (some G):=by
 have M:=h.size;have O:=h7.size
 exact⟨(A.os.trans h7.os).trans h.os,(A.tape.trans h7.tape).trans h.tape,(A.output.trans h7.output).trans h.output,by have:=A.size;omega,fun k hk Kk=>by
  rw[A.block k ae ay ae,h7.block k ae];exact h.block k hk Kk⟩
theorem wO{w:World}{r k:Nat}(h:k≠r)(v0 A v2 v3 v4 v5 D G I:Value):(((((((((w.setCell ⟨r,0,none⟩ v0).setCell ⟨r,1,none⟩ A).setCell ⟨r,2,none⟩ v2).setCell ⟨r,3,none⟩ v3).setCell ⟨r,4,none⟩ v4).setCell ⟨r,5,none⟩ v5).setCell ⟨r,6,none⟩ D).setCell ⟨r,7,none⟩ G).setCell ⟨r,8,none⟩ I).heap[k]?=w.heap[k]?:=by
 have e:∀(x:World) (j:Nat) (v:Value),(x.setCell ⟨r,j,none⟩ v).heap[k]?=x.heap[k]?:=fun x j v=>ly av
 rw[e,e,e,e,e,e,e,e,e]
abbrev Zst:Array Value:=#[.int .i64 0,.int .i64 0,.string ⟨#[]⟩,.int .i64 0,.string ⟨#[]⟩,.slice none 0 0,.int .u8 0,.slice none 0 0,.int .i64 0]
theorem Z2K(w:World)(A:Nat)(b:Bk)(s:ByteArray)(line m:Int)(h:P0 w A b)(hb:BookAt w b)(hI:InsAt w b A)(QP:b.cb<A)(MU:b.fb<A)(SU:b.db<A)(On:b.ib<A)(hs:s.size<=100000)(hm:w.cell? ⟨0,0,none⟩=some (.int .i64 m))(_h0:0<A) :
  Calls prog 105 #[.pointer (some ⟨A,0,none⟩),.string s,.int .i64 line] w (Z0Y w A b line (sd s)):=by
 have S3:(rY s).size<=100000:=by
  have:=FU s.data.toList;rw[kE]at this;show (Lib.cut s.data.toList [59]).1.toArray.size<=_;rw[lJ];exact j8 this hs
 obtain⟨c0,c1,c2,c3,⟨n4,c4⟩,⟨a5,n5,k5,c5⟩,f4,f5,Kf⟩:=h;obtain⟨R,hR⟩:=Zg0 (sd s);rw[hR];have HR:=oP hR;have S:Below (w.heap.size) (w.setCell ⟨A,4,none⟩ (.int .i64 line)) ((w.setCell ⟨A,4,none⟩ (.int .i64 line)).alloc (.cells Zst 130)):=(jV).alloc az _;have KM:w.grownBy ((w.setCell ⟨A,4,none⟩ (.int .i64 line)).alloc (.cells Zst 130)) (some A):=xT (Bs _ _ _ _) _;have d0:((w.setCell ⟨A,4,none⟩ (.int .i64 line)).alloc (.cells Zst 130)).cell? ⟨A,0,none⟩=some (.map (some b.cb)):=by rw[S.cell bm,j3 af];exact c0
 have d1:((w.setCell ⟨A,4,none⟩ (.int .i64 line)).alloc (.cells Zst 130)).cell? ⟨A,1,none⟩=some (.map (some b.ib)):=by rw[S.cell bm,j3 af];exact c1
 have d2:((w.setCell ⟨A,4,none⟩ (.int .i64 line)).alloc (.cells Zst 130)).cell? ⟨A,2,none⟩=some (.map (some b.fb)):=by rw[S.cell bm,j3 af];exact c2
 have d3:((w.setCell ⟨A,4,none⟩ (.int .i64 line)).alloc (.cells Zst 130)).cell? ⟨A,3,none⟩=some (.map (some b.db)):=by rw[S.cell bm,j3 af];exact c3
 have d4:((w.setCell ⟨A,4,none⟩ (.int .i64 line)).alloc (.cells Zst 130)).cell? ⟨A,4,none⟩=some (.int .i64 line):=by rw[S.cell bm];exact kP _ c4
 have d5:((w.setCell ⟨A,4,none⟩ (.int .i64 line)).alloc (.cells Zst 130)).cell? ⟨A,5,none⟩=some (.slice a5 n5 k5):=by rw[S.cell bm,j3 af];exact c5
 have df:((w.setCell ⟨A,4,none⟩ (.int .i64 line)).alloc (.cells Zst 130)).frozen? ⟨A,5,none⟩=false:=by rw[S.frozen bm,mO];exact f5
 have O:((w.setCell ⟨A,4,none⟩ (.int .i64 line)).alloc (.cells Zst 130)).frozen? ⟨A,4,none⟩=false:=by rw[S.frozen bm,mO];exact f4
 have dm:((w.setCell ⟨A,4,none⟩ (.int .i64 line)).alloc (.cells Zst 130)).cell? ⟨0,0,none⟩=some (.int .i64 m):=by rw[S.cell ai,j3 af];exact hm
 have Ky:((w.setCell ⟨A,4,none⟩ (.int .i64 line)).alloc (.cells Zst 130)).heap.size=w.heap.size+1:=az
 have dz:((w.setCell ⟨A,4,none⟩ (.int .i64 line)).alloc (.cells Zst 130)).heap[w.heap.size]?=some (.cells Zst 130):=by
  have:w.heap.size=(w.setCell ⟨A,4,none⟩ (.int .i64 line)).heap.size:=az;rw[this];exact mr _ _
 have Mb:=hb.kept KM ae ae ae;have Ua:=hI.kept (B:=A+1) (sb:=w.heap.size) (Grow2.of1 KM w.heap.size) On ae ae;have Yu:=oP (And.intro d0 (And.intro d1 (And.intro d2 (And.intro d3 (And.intro d4 (And.intro d5 (And.intro (And.intro df O) (And.intro Ky (And.intro dz (And.intro Mb (And.intro Ua KM)))))))))));have HC:=oP (Z4I s m _ ae dm);clear d0 d1 d2 d3 d4 d5 df O dm Ky dz Mb Ua KM S f5 hb hI hm hR c0 c1 c2 c3;go_enter func105,ntmps105;go_wp2_with fail;refine HC.o.mono ?_;rintro e w3 ⟨r,z,nd,rfl,rfl⟩;generalize (w.setCell ⟨A,4,none⟩ (.int .i64 line)).alloc (.cells Zst 130)=U at Yu⊢;obtain⟨d0,d1,d2,d3,d4,d5,⟨df,O⟩,Ky,dz,Mb,Ua,KM⟩:=Yu.o;have Mf:Below U.heap.size U (U.drewN nd):=below_drewN jV _;cases Ov:pY (rY s).size (tp (rY s)) with
 |none=>
  have Ld:=oP (show R=none by rw[<-HR.o];unfold sd;rw[Ov];rfl);have RQ:=EX (rY s) (U.drewN nd) ae;rw[Ov]at RQ;have Z:=oP RQ;clear RQ Ov;go_wp2_with fail;refine Z.o.mono ?_;rintro e D ⟨rfl,Lr⟩;have G:Below U.heap.size U D:=Mf.trans Lr;have HG:=oP (Z7f D A line (by rw[G.cell ai];exact d4));go_wp2_with fail;refine HG.o.mono ?_;rintro e w5 ⟨rfl,rfl⟩;unfold pj;go_wp2_with fail;rw[Ld.o];exact⟨rfl,rfl,KM.trans2 (sR G)⟩
 |some ts=>
  have Ld:=oP (show R=zC ts by rw[<-HR.o];unfold sd;rw[Ov];rfl);have RQ:=EX (rY s) (U.drewN nd) ae;rw[Ov]at RQ;have Z:=oP RQ;have htk:=Cu _ _ _ Ov;have WB6:=Ct _ _ _ Ov;have LZ:(tp (rY s)).size=(rY s).size:=by unfold tp;show ((rY s).data.map oZ).size=_;rw[oE];rfl
  clear RQ Ov;go_wp2_with fail;refine Z.o.mono ?_;rintro e D ⟨g,Kd,rfl,Sw,Lr⟩;have G:Below U.heap.size U D:=Mf.trans Lr;have VX:=G.size;have e5:D.cell? ⟨A,5,none⟩=some (.slice a5 n5 k5):=by rw[G.cell ai];exact d5
  have f5:D.frozen? ⟨A,5,none⟩=false:=by rw[G.frozen ai];exact df
  have f44:D.frozen? ⟨A,4,none⟩=false:=by rw[G.frozen ai];exact O
  have Mw:=Sw.lt g rfl;have Vq4:A<D.heap.size:=ae;obtain⟨w5,J⟩:=Zg0 (D.setCell ⟨A,5,none⟩ (.slice (some ⟨g,0,none⟩) (ts.length+1) Kd));have OR:g≠A:=by have:=Mw.1;simp at this;omega
  have Wt7:∀k,k≠A->w5.heap[k]?=D.heap[k]?:=fun k hk=>by rw[<-J];exact ly aJ
  have ZX:w5.heap.size=D.heap.size:=by rw[<-J];simp[World.setCell]
  have hps:PS w5 D.heap.size A b line (ts++[ux]):=by
   obtain⟨_,⟨h',_⟩|⟨g',O7,KG,h',NR,WB7,WF2,WF3,_⟩⟩:=id Sw
   ·cases h'
   cases h';refine⟨?_,?_,?_,?_,?_,?_,?_,Vq4,ae,⟨g,0,Kd,?_,by simpa using WF2,WF3,?_,OR,Mw.2⟩,af,fun t ht=>?_⟩
   ·rw[<-J,j3 af,G.cell ai];exact d0
   ·rw[<-J,j3 af,G.cell ai];exact d1
   ·rw[<-J,j3 af,G.cell ai];exact d2
   ·rw[<-J,j3 af,G.cell ai];exact d3
   ·rw[<-J,j3 af,G.cell ai];exact d4
   ·rw[<-J,mO];exact f5
   ·rw[<-J,mO];exact f44
   ·rw[<-J,kq];exact kP _ e5
   ·have:=TokAt.of_row (ts++[ux]) [] (ts.length+1) Sw af;exact this.kept (Wt7 g OR)
   rcases kW.1 ht with h'|h'
   ·have:=(htk t h').2;omega
   simp at h';subst h';show 0<=400000;omega
  have V5:U.grownBy w5 (some A):=⟨by rw[<-J];exact G.os,by rw[<-J];exact G.tape,by rw[<-J];exact G.output,ae,fun k hk Kk=>by rw[Wt7 k ay];exact G.block k hk⟩;have ZY:Apart D.heap.size A b:=⟨ae,ae,ae,ae,ae,ae⟩;have Yv:=Mb.kept V5 ae ae ae
  have My:=Z15 w5 D.heap.size A b line (ts++[ux]) hps Yv ZY (fun t u l hh hk=>by
   cases ts with
   |nil=>simp at hh
   |cons t1 VL4=>
    simp at hh;have:=(htk t1 af).1;rw[hh.1]at this;exact this hk)
  have Xc:=Ua.kept (B:=A+1) (sb:=w.heap.size) (Grow2.of1 V5 w.heap.size) On ae ae;have Wh5:w5.heap[w.heap.size]?=some (.cells Zst 130):=by rw[Wt7 _ ae,G.block _ ae];exact dz
  have RG:=KM.trans2 V5;have H5:=oP (And.intro Yv (And.intro Xc (And.intro Wh5 RG)));clear Yv Xc Wh5 RG V5 hps Sw Lr Mb Ua d0 d1 d2 d3 d4 d5 df O dz KM htk Z HC Yu;cases NX:rL (ts++[ux]) with
  |none=>
   have NO:=oP (show R=none by rw[Ld.o];unfold zC;rw[NX];rfl);rw[NX]at My;have HL:=oP My;clear My NX;go_wp2_with fail;refine HL.o.mono ?_;rintro e M ⟨rfl,No⟩;unfold pj;go_wp2_with fail;rw[NO.o];exact⟨rfl,rfl,H5.o.2.2.2.trans2 No⟩
  |some xl=>
   obtain⟨lb,l⟩:=xl;have NO:=oP (show R=(qy l).bind fun y=>if pt y.2=true then some (lb,y.1) else none by rw[Ld.o];unfold zC;rw[NX];rfl);have N5:l.length<=ts.length+1:=by have:=Hu NX;simpa using this
   rw[NX]at My;have HL:=oP My;clear My NX;go_wp2_with fail;refine HL.o.mono ?_;rintro e M ⟨rfl,Yp,No⟩;have VL5:=No.size;have Vk:Below M.heap.size M (M.alloc (.cells #[.int .i64 line,.int .i64 0,.string lb,.int .i64 0,.string ⟨#[]⟩,.slice none 0 0,.int .u8 0,.slice none 0 0,.int .i64 0] 130)):=(jV).alloc jU _;have Va3:SS (M.alloc (.cells #[.int .i64 line,.int .i64 0,.string lb,.int .i64 0,.string ⟨#[]⟩,.slice none 0 0,.int .u8 0,.slice none 0 0,.int .i64 0] 130)) M.heap.size line 0 lb (0:Nat) ⟨#[]⟩ (.slice none 0 0) 0 (.slice none 0 0) 0:=⟨af,af,af,af,af,af,af,af,af,fun j=>af,af⟩;have Wh6:=H5.o.1.kept No ae ae ae;have Xd:=H5.o.2.1.kept (B:=A+1) (sb:=w.heap.size) (Grow2.of1 No w.heap.size) On ae ae;have Wh7:M.heap[w.heap.size]?=some (.cells Zst 130):=by rw[No.block _ ae ai];exact H5.o.2.2.1
   have Wh8:=H5.o.2.2.2.trans2 No;have M5:=Z0X _ D.heap.size A M.heap.size b line l (Yp.kept (Vk.mono ae)) (Wh6.below Vk) (Xd.kept (B:=A+1) (sb:=M.heap.size) (Grow2.ofB Vk A M.heap.size) On ae ae) On ZY ae line 0 lb Va3 ae ae;have H6:=oP (And.intro Wh7 Wh8);clear Wh6 Xd Wh7 Wh8 Yp Va3 H5 HL;cases Ow:qy l with
   |none=>
    have V6:=oP (show R=none by rw[NO.o,Ow];rfl);rw[Ow]at M5;have HT:=oP M5;clear M5 Ow;go_wp2_with fail;refine HT.o.mono ?_;rintro e I ⟨rfl,Tt⟩;unfold pj;go_wp2_with fail;rw[V6.o];exact⟨rfl,rfl,FD H6.o.2 Vk Tt⟩
   |some yl=>
    obtain⟨st,l2⟩:=yl;have V6:=oP (show R=if pt l2=true then some (lb,st) else none by rw[NO.o,Ow];rfl);rw[Ow]at M5;have HT:=oP M5;clear M5 Ow;go_wp2_with fail;refine HT.o.mono ?_;rintro e I ⟨v,kv,rfl,hV,Ks,Vn,QQ,ZZ,Tt⟩;obtain⟨u,l3,rfl⟩:=ZZ.ne;have HA:=oP (vP I D.heap.size A b line u l3 ZZ);have Na:=oP ZZ;have Wv7:=oP (FD H6.o.2 Vk Tt);by_cases hk:u.kind=0
    ·have Yw:=oP (show R=some (lb,st) by rw[V6.o,jT (by simp[pt,hk])]);rw[show decide (u.kind=0)=true by simp[hk]]at HA;obtain⟨va,vn,vc,rfl⟩:=hV.slice;obtain⟨ka,kn,kc,rfl⟩:=vS Vn;have VL6:M.heap.size+1<=I.heap.size:=by have:=Tt.size;simpa using this
     have OA:I.heap[w.heap.size]?=some (.cells Zst 130):=by rw[Tt.block _ ai ae ae,Vk.block _ ae];exact H6.o.1
     have r0:I.cell? ⟨w.heap.size,0,none⟩=some (.int .i64 0):=aX;have r1:I.cell? ⟨w.heap.size,1,none⟩=some (.int .i64 0):=aX;have r2:I.cell? ⟨w.heap.size,2,none⟩=some (.string ⟨#[]⟩):=aX;have r3:I.cell? ⟨w.heap.size,3,none⟩=some (.int .i64 0):=aX;have r4:I.cell? ⟨w.heap.size,4,none⟩=some (.string ⟨#[]⟩):=aX;have r5:I.cell? ⟨w.heap.size,5,none⟩=some (.slice none 0 0):=aX;have r6:I.cell? ⟨w.heap.size,6,none⟩=some (.int .u8 0):=aX;have r7:I.cell? ⟨w.heap.size,7,none⟩=some (.slice none 0 0):=aX;have r8:I.cell? ⟨w.heap.size,8,none⟩=some (.int .i64 0):=aX;have V:∀j,I.frozen? ⟨w.heap.size,j,none⟩=false:=fun j=>by simp[World.frozen?,OA]
     have g0:=V 0;have g1:=V 1;have g2:=V 2;have g3:=V 3;have g4:=V 4;have g5:=V 5;have g6:=V 6;have g7:=V 7;have g8:=V 8;have Oi:w.heap.size<I.heap.size:=ae;have HF:=oP (And.intro hV (And.intro Vn QQ));obtain⟨s0,s1,s2,s3,s4,s5,s6,s7,s8,sf,sl⟩:=Ks;clear hV Vn QQ ZZ Tt sf V OA Vk;go_wp2_with fail;refine HA.o.mono ?_;rintro e w9 ⟨rfl,Tv⟩;rw[Tv];clear Tv w9;go_wp2_with fail;refine kf (v:=stV line 0 lb st.task st.name (.slice va vn vc) st.ins.code (.slice ka kn kc) st.ins.size) (by simp[results,results105,go_sem,stV,r0,r1,r2,r3,r4,r5,r6,r7,r8]) rfl ?_;rw[Yw.o];have QU:=Na.o;obtain⟨gg,oo,cc,k1,_⟩:=QU.tk;have OB:A≠w.heap.size:=ae;have LO:w.heap.size<(M.alloc (.cells #[.int .i64 line,.int .i64 0,.string lb,.int .i64 0,.string ⟨#[]⟩,.slice none 0 0,.int .u8 0,.slice none 0 0,.int .i64 0] 130)).heap.size:=ai;refine⟨_,_,rfl,VAt.lower (((((((((HF.o.1.set LO _).set LO _).set LO _).set LO _).set LO _).set LO _).set LO _).set LO _).set LO _) ai,rQ HF.o.2.1 (fun j hj=>?_),HF.o.2.2,⟨?_,?_,?_,?_,⟨line,?_⟩,⟨some ⟨gg,oo,none⟩,(u::l3).length,cc,?_⟩,(ku (a:=⟨A,4,none⟩) (wO OB _ _ _ _ _ _ _ _ _)).trans QU.f4,(ku (a:=⟨A,5,none⟩) (wO OB _ _ _ _ _ _ _ _ _)).trans QU.f5,bO⟩,?_⟩
     ·exact wO (by have:=HF.o.2.2 j hj;omega) _ _ _ _ _ _ _ _ _
     ·exact(jW (a:=⟨A,0,none⟩) (wO OB _ _ _ _ _ _ _ _ _)).trans QU.c0
     ·exact(jW (a:=⟨A,1,none⟩) (wO OB _ _ _ _ _ _ _ _ _)).trans QU.c1
     ·exact(jW (a:=⟨A,2,none⟩) (wO OB _ _ _ _ _ _ _ _ _)).trans QU.c2
     ·exact(jW (a:=⟨A,3,none⟩) (wO OB _ _ _ _ _ _ _ _ _)).trans QU.c3
     ·exact(jW (a:=⟨A,4,none⟩) (wO OB _ _ _ _ _ _ _ _ _)).trans QU.c4
     ·exact(jW (a:=⟨A,5,none⟩) (wO OB _ _ _ _ _ _ _ _ _)).trans k1
     exact grown_fresh (grown_fresh (grown_fresh (grown_fresh (grown_fresh (grown_fresh (grown_fresh (grown_fresh (grown_fresh Wv7.o jU _) jU _) jU _) jU _) jU _) jU _) jU _) jU _) jU _
    have Yw:=oP (show R=none by rw[V6.o,jS (by simp[pt,hk])]);rw[show decide (u.kind=0)=false by simp[hk]]at HA;have Vq5:=oP (vB I D.heap.size A b line (u::l3) ZZ);clear hV Ks Vn QQ ZZ Tt;go_wp2_with fail;refine HA.o.mono ?_;rintro e w9 ⟨rfl,Tv⟩;rw[Tv];clear Tv w9;go_wp2_with fail;refine Vq5.o.mono ?_;rintro e w9 ⟨rfl,rfl⟩;unfold pj;go_wp2_with fail;rw[Yw.o];exact⟨rfl,rfl,Wv7.o⟩
