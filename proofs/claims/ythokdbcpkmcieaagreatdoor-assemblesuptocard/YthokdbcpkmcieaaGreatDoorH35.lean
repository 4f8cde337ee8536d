import Derived.Test.YthokdbcpkmcieaaGreatDoorH34
set_option maxRecDepth 200000
set_option maxHeartbeats 16000000
namespace Go.Proofs.YthokdbcpkmcieaaGreatDoor
open RowKit Shelf WideMaps Maps Proofs.Tryz
def yJ(nm:List UInt8->Option Int)(s:ByteArray):Bool:=!(nm s.data.toList).isSome
def sV(a:Asm)(p:Nat)(x:Stm):Except Int Asm:=
 if pE x.task x.vals.length x.ins.size=0 then .ok a
 else if (pq x.vals).any (yJ a.nm)=true then .error 3
 else match su a.nm p x with
  |none=>.error 6
  |some A=>.ok {a with bytes:=putAt a.bytes p A}
structure JJ(w:World)(m:AMem)(a:Asm)(base:Nat)(x:Stm)(v kd:Value)(p:Nat):Prop where
 pre:FillPre w m a base x v p
 mok:m.Ok
 ins:x.task=6->BY w x kd
 fit:p+pE x.task x.vals.length x.ins.size<=1024
 size:x.ins.size<=100
theorem Z1C{es:List (List Trm)}(h:∀e∈es,∀t∈e,t.name.size<=1000000/\0<=t.num):∀s∈pq es,s.size<=1000000:=fun s hs=>by
 unfold pq qU at hs
 obtain⟨e,he,h1⟩:=T0G.1 hs
 obtain⟨t,ht,rfl⟩:=lf.1 h1
 exact(h e he t (List.mem_filter.1 ht).1).1
theorem Z6R{tk A sz:Nat}(h:¬pE tk A sz=0):tk=2\/tk=3\/tk=6:=by
 unfold pE at h;split at h
 ·exact .inl (by assumption)
 split at h
 ·exact .inr (.inl (by assumption))
 split at h
 ·exact .inr (.inr (by assumption))
 exact absurd rfl h
theorem Z7O(w:World)(m:AMem)(a:Asm)(base:Nat)(x:Stm)(G:Option Addr)(A I:Nat)(p:Nat)(D:Int)(lb:ByteArray)(J:Option Addr)(M O:Nat)(h:JJ w m a base x (.slice G A I) (.slice J M O) p) :
  Calls prog 65 #[.pointer (some ⟨m.ab,0,none⟩),.agg #[.int .i64 D,.int .i64 (p:Int),.string lb,.int .i64 (x.task:Int),.string x.name,.slice G A I,.int .u8 (x.ins.code:Int),.slice J M O,.int .i64 (x.ins.size:Int)]] w (yt w m D (sV a p x)):=by
 obtain⟨R,hR⟩:=Zg0 (sV a p x);rw[hR];unfold sV at hR
 have P9:A=x.vals.length:=by
  obtain⟨vs,h1,_⟩:=h.pre.vals;exact tI h1 rfl
 obtain⟨W,hW,K1,NY,V⟩:=tv w D (p:Int) lb (x.task:Int) x.name (.slice G A I) (x.ins.code:Int) (.slice J M O) (x.ins.size:Int);have XC:=Ea W D (p:Int) lb x.task x.name G A I (x.ins.code:Int) J M O x.ins.size (by rw[P9];exact h.pre.len);obtain⟨SZ,Vq⟩:=Zg0 (pE x.task x.vals.length x.ins.size);rw[Vq]at hR;rw[P9,Vq,<- P9]at XC;have HZ:=oP XC;have Kz:Hid (∀w',Below W.heap.size W w'->SS w' w.heap.size D (p:Int) lb (x.task:Int) x.name (.slice G A I) (x.ins.code:Int) (.slice J M O) (x.ins.size:Int)):=fun w' hb=>V.grown (hb.block _ V.lt) hb.size
 have HB:=oP K1;have Z:=oP h;have RX:=oP Vq;have WS:Hid (∀w',Below W.heap.size W w'->FillPre w' m a base x (.slice G A I) p):=fun w' hb=>(h.pre.below K1).below hb
 have HU:Hid (∀w',Below W.heap.size W w'->Calls prog 108 #[.agg #[.int .i64 D,.int .i64 (p:Int),.string lb,.int .i64 (x.task:Int),.string x.name,.slice G A I,.int .u8 (x.ins.code:Int),.slice J M O,.int .i64 (x.ins.size:Int)]] w' fun e w2=>∃v,e=.returned v/\w2.ownsRow w'.heap.size 9 1 v (pq x.vals).length (qe (pq x.vals))/\Below w'.heap.size w' w2):=fun w' hb=>Gh w' base x.vals D (p:Int) lb (x.task:Int) x.name G A I (x.ins.code:Int) J M O (x.ins.size:Int) ((h.pre.vals.below K1).below hb) h.pre.len h.pre.cnt
 have t0:=V.c0;have t1:=V.c1;have t2:=V.c2;have t3:=V.c3;have t4:=V.c4;have t5:=V.c5;have t6:=V.c6;have t7:=V.c7;have t8:=V.c8;clear h K1 V XC P9 Vq;by_cases hz:SZ=0
 ·rw[jT hz]at hR;subst hz hR;go_enter func65,ntmps65;go_wp2_with (first| (go_at_call 107;refine HZ.o.mono ?_;rintro e w1 ⟨rfl,S⟩));refine kf (nt rfl _ _ _) rfl ?_;have hb:=HB.o.trans (S.mono HB.o.size);exact⟨ChgM.below _ hb,rfl,Z.o.pre.at_.below hb⟩
 rw[jS hz]at hR;have VO5:¬(SZ:Int)=0:=ae;have HR:=oP hR;have Vh2:=oP hz;clear hR hz;go_enter func65,ntmps65;go_wp2_with (first| (go_at_call 107;refine HZ.o.mono ?_;rintro e w1 ⟨rfl,S⟩;have p0:=(Kz.o _ S).c0;have p1:=(Kz.o _ S).c1;have p2:=(Kz.o _ S).c2;have p3:=(Kz.o _ S).c3;have p4:=(Kz.o _ S).c4;have p5:=(Kz.o _ S).c5;have p6:=(Kz.o _ S).c6;have p7:=(Kz.o _ S).c7;have p8:=(Kz.o _ S).c8;have KK:=oP S;clear S)|(go_at_call 108;refine(HU.o w1 KK.o).mono ?_;rintro e w2 ⟨v2,rfl,Mn,Km⟩;obtain⟨x2,y2,z2,Wv8⟩:=tV Mn;have Wy6:=oP (tI Mn Wv8);subst Wv8;have Mj:=oP Mn;have Lo:=oP (KK.o.trans (Km.mono KK.o.size));clear Mn Km));have NJ:=Kz.o w2 Lo.o;have r0:=NJ.c0;have r1:=NJ.c1;have r2:=NJ.c2;have r3:=NJ.c3;have r4:=NJ.c4;have r5:=NJ.c5;have r6:=NJ.c6;have r7:=NJ.c7;have r8:=NJ.c8;have sl:=NJ.lt;obtain⟨U,hU⟩:=Zg0 (pq x.vals)
 have TS:(y2:Int)<=4000000:=by
  have h1:=Cb x.vals;have h2:=Z.o.pre.cnt;have h3:=Wy6.o;omega
 have Z5:Hid (∀s,s∈U->Calls prog 109 #[.pointer (some ⟨m.ab,0,none⟩),.string s] w2 fun e w'=>e=.returned (.bool (a.nm s.data.toList).isSome)/\w'=w2):=fun s hx=>Dp w2 m.ab _ _ _ m.nb _ _ _ s (WS.o w2 Lo.o).at_.st (Z1C Z.o.pre.trms s (by rw[hU];exact hx))
 rw[hU]at Mj Wy6 HR;have VO6:=oP hU;clear hU NJ t0 t1 t2 t3 t4 t5 t6 t7 t8 p0 p1 p2 p3 p4 p5 p6 p7 p8 HU HZ;go_loopw [12] (fun i wr=>∃j:Nat,j<=y2/\i=.int .i64 j/\(U.take j).any (yJ a.nm)=false/\wr=w2) (fun i _=>y2-(intOf i).toNat)
 case atStart=>exact⟨0,j4,rfl,rfl,rfl⟩
 case round=>
  obtain⟨j,hj,rfl,K0,LF⟩:=hrel;subst LF;have LM:=oP K0;clear K0;by_cases Kf:j<y2
  ·have K6:(j:Int)<(y2:Int):=by omega
   have K2:j<U.length:=by rw[<-Wy6.o];exact Kf
   obtain⟨g,hg,cj⟩:=uM Mj.o ae (zI U j K2);subst hg;obtain⟨y,hy⟩:=Zg0 (U[j]);rw[hy]at cj;have HX:=oP hy;have Wy7:=oP (Z5.o y (by rw[<-hy];exact kC K2));clear hy;cases hk:(a.nm y.data.toList).isSome with
   |false=>
    rw[hk]at Wy7
    have eR:R=.error 3:=by
     rw[<-HR.o,jT];rw[mj];exact⟨y,by rw[<-HX.o];exact kC K2,by unfold yJ;rw[hk];rfl⟩
    subst eR;clear hk;go_wp2_with (first| (go_at_call 109;refine Wy7.o.mono ?_;rintro e w4 ⟨rfl,rfl⟩));exact⟨rfl,ChgM.below _ (HB.o.trans (Lo.o.mono HB.o.size)),rfl⟩
   |true=>
    rw[hk]at Wy7;have HK:=oP hk;clear hk;go_wp2_with (first| (go_at_call 109;refine Wy7.o.mono ?_;rintro e w4 ⟨rfl,rfl⟩));go_roundw
    case rel=>exact⟨j+1,ae,ao,zH K2 LM.o (by rw[HX.o];unfold yJ;rw[HK.o];rfl),by first| rfl|trivial⟩
    case measure=>simp[intOf];omega
  have K6:¬(j:Int)<(y2:Int):=ae
  have KD:U.any (yJ a.nm)=false:=by
   have:=LM.o;rw[lL (by rw[<-Wy6.o];omega)]at this;exact this
  have UF:=HR.o;rw[jS (by simp[KD])]at UF;have Ue:=oP UF;have ht:=Z6R (by rw[RX.o];exact Vh2.o:¬pE x.task x.vals.length x.ins.size=0);have Nf:=WS.o wr Lo.o
  have WO0:Calls prog 110 #[.pointer (some ⟨m.ab,0,none⟩),.agg #[.int .i64 D,.int .i64 (p:Int),.string lb,.int .i64 (x.task:Int),.string x.name,.slice G A I,.int .u8 (x.ins.code:Int),.slice J M O,.int .i64 (x.ins.size:Int)]] wr.drew (zT wr.drew D (su a.nm p x)):=by
   rcases ht with h2|h3|h6
   ·exact Es wr.drew m a base x G A I p D lb x.name _ J M O _ (Nf.below jV.drew) (.inl h2)
   ·exact Es wr.drew m a base x G A I p D lb x.name _ J M O _ (Nf.below jV.drew) (.inr h3)
   have hI:=Z.o.ins h6;exact Z6Y wr.drew m a base x G A I p D lb x.name J M O (Nf.below jV.drew) ⟨hI.ins,(hI.kinds.below HB.o).below (w':=wr.drew) ⟨Lo.o.os,Lo.o.tape,Lo.o.output,Lo.o.size,Lo.o.block⟩⟩ h6
  have HT:=oP ht;have a0:wr.cell? ⟨m.ab,0,none⟩=some (.slice (some ⟨m.ik,0,none⟩) 1024 m.c0):=Nf.at_.st.c0;have Ob:=Nf.at_.st.lt;have N8:Below w.heap.size w wr:=HB.o.trans (Lo.o.mono HB.o.size);have Wn9:=oP N8;have Vh3:=oP Nf;have Lg:=Z.o.fit;rw[RX.o]at Lg;have Ya:=Vh2.o;have K5:p<1024:=ae;have Yx:(p:Int)<1024:=ae;have Vz9:(p:Int)<=1024:=ae;have VA0:(1024:Int)<=(m.c0:Int):=by have:=Z.o.mok.h0;omega
  have VA1:(m.c0:Int)<=9223372036854775807:=by have:=Z.o.mok.h0.2;unfold maxLen at this;omega
  have VO7:¬m.c0=p:=by have:=Z.o.mok.h0;omega
  have WD0:(p:Int)<=(m.c0:Int):=ae;have XD:=oP (And.intro Lg Ya);have UG:=oP WO0;cases hO:su a.nm p x with
  |none=>
   rw[hO]at UG Ue;have eR:R=.error 6:=Ue.o.symm;subst eR;have Lm:∀args w,(callFunc 110 args).run prog w=.ok (.enter 110 args) w:=enters_of func110 aj rfl;clear KD UF ht Nf WO0 N8 Lg Ya hO Kf hj LM HR Z5 WS;go_wp2_with fail;go_region_law (first| (refine yO HF ?_)|(refine A8 110 #[.pointer (some ⟨m.ab,0,none⟩),.agg #[.int .i64 D,.int .i64 (p:Int),.string lb,.int .i64 (x.task:Int),.string x.name,.slice G A I,.int .u8 (x.ins.code:Int),.slice J M O,.int .i64 (x.ins.size:Int)]] rfl aW _ UG.o (fun e w' hh=>⟨sH 6 D,hh.2,rfl,((ChgM.below m Wn9.o).trans (ChgM.below m (T0e jV.drew hh.1))),rfl⟩) ?_;intro HF))
   all_goals exact HF.o.elim
  |some bs=>
   rw[hO]at UG Ue;have eR:R=.ok {a with bytes:=putAt a.bytes p bs}:=Ue.o.symm;subst eR;have Ls:=Ce hO HT.o (fun h6=>(Z.o.ins h6).ins);rw[RX.o]at Ls
   have WO1:Hid (Calls prog 110 #[.pointer (some ⟨m.ab,0,none⟩),.agg #[.int .i64 D,.int .i64 (p:Int),.string lb,.int .i64 (x.task:Int),.string x.name,.slice G A I,.int .u8 (x.ins.code:Int),.slice J M O,.int .i64 (x.ins.size:Int)]] wr.drew fun e w5=>∃(ya:Option Addr) (yn yc:Nat),e=.returned (.slice ya yn yc)/\Below wr.heap.size wr w5/\∃v w6,(Builtin.copy_ #[32,32] 3 #[.slice (some ⟨m.ik,p,none⟩) (1024-p) (m.c0-p),.slice ya yn yc]).run prog w5=.ok v w6/\YRow w6 m.ik (putAt a.bytes p bs)/\GA w5 w6 m.ik):=UG.o.mono fun e w5 hh=>by
    obtain⟨h1,v,h2,h3⟩:=hh;obtain⟨ya,yn,yc,rfl⟩:=rW h3;have KU:Below wr.heap.size wr w5:=⟨h1.os,h1.tape,h1.output,h1.size,h1.block⟩;have hf:=XD.o;exact⟨ya,yn,yc,h2,KU,Z41 w5 _ m.ik p (m.c0-p) a.bytes _ ya yn yc bs (Vh3.o.at_.below KU).bytes h3 Ls.2 ae ae⟩
   have U9:Hid (∀w':World,w'.heap[m.ab]?=wr.heap[m.ab]?->w'.heap[w.heap.size]?=wr.heap[w.heap.size]?->w'.cell? ⟨m.ab,0,none⟩=some (.slice (some ⟨m.ik,0,none⟩) 1024 m.c0)/\w'.cell? ⟨w.heap.size,0,none⟩=some (.int .i64 D)/\w'.cell? ⟨w.heap.size,1,none⟩=some (.int .i64 (p:Int))/\w'.cell? ⟨w.heap.size,2,none⟩=some (.string lb)/\w'.cell? ⟨w.heap.size,3,none⟩=some (.int .i64 (x.task:Int))/\w'.cell? ⟨w.heap.size,4,none⟩=some (.string x.name)/\w'.cell? ⟨w.heap.size,5,none⟩=some (.slice G A I)/\w'.cell? ⟨w.heap.size,6,none⟩=some (.int .u8 (x.ins.code:Int))/\w'.cell? ⟨w.heap.size,7,none⟩=some (.slice J M O)/\w'.cell? ⟨w.heap.size,8,none⟩=some (.int .i64 (x.ins.size:Int))):=fun w' k1 k2=>by
    have hc:∀j,w'.cell? ⟨w.heap.size,j,none⟩=wr.cell? ⟨w.heap.size,j,none⟩:=fun j=>jW (a:=⟨w.heap.size,j,none⟩) k2
    exact⟨(jW (a:=⟨m.ab,0,none⟩) k1).trans a0,(hc 0).trans r0,(hc 1).trans r1,(hc 2).trans r2,(hc 3).trans r3,(hc 4).trans r4,(hc 5).trans r5,(hc 6).trans r6,(hc 7).trans r7,(hc 8).trans r8⟩
   have Vh4:m.ab≠m.ik:=fun e=>Z.o.mok.e.1 e.symm
   have VA2:w.heap.size≠m.ik:=fun e=>by have:=Z.o.pre.at_.bytes.lt;omega
   have RT:Below wr.heap.size wr wr.drew:=(jV).drew;clear KD UF ht Nf WO0 N8 Lg Ya hO Kf hj LM HR Z5 WS UG Ls;go_wp2_with fail;go_region_held3 (fun w'=>w'.cell? ⟨m.ab,0,none⟩=some (.slice (some ⟨m.ik,0,none⟩) 1024 m.c0)/\w'.cell? ⟨w.heap.size,0,none⟩=some (.int .i64 D)/\w'.cell? ⟨w.heap.size,1,none⟩=some (.int .i64 (p:Int))/\w'.cell? ⟨w.heap.size,2,none⟩=some (.string lb)/\w'.cell? ⟨w.heap.size,3,none⟩=some (.int .i64 (x.task:Int))/\w'.cell? ⟨w.heap.size,4,none⟩=some (.string x.name)/\w'.cell? ⟨w.heap.size,5,none⟩=some (.slice G A I)/\w'.cell? ⟨w.heap.size,6,none⟩=some (.int .u8 (x.ins.code:Int))/\w'.cell? ⟨w.heap.size,7,none⟩=some (.slice J M O)/\w'.cell? ⟨w.heap.size,8,none⟩=some (.int .i64 (x.ins.size:Int))) (first| exact U9.o _ (RT.block _ Ob) (RT.block _ sl)|exact U9.o _ (KU.block _ Ob) (KU.block _ sl)|exact U9.o _ ((UH.block _ Vh4).trans (KU.block _ Ob)) ((UH.block _ VA2).trans (KU.block _ sl))) (first| (go_at_call 110;refine WO1.o.mono ?_;rintro e w5 ⟨ya,yn,yc,rfl,KU,v6,w6,KZ,Vh5,UH⟩;have VA3:=oP Vh5;clear Vh5))
   all_goals
    go_wp2_with fail;go_end0;have Wa:=Vh3.o.at_.below KU;refine⟨(ChgM.below m Wn9.o).trans ((ChgM.below m KU).trans ⟨UH.os,UH.tape,UH.output,lZ UH.size.symm,fun k _ _ h2 _ _ _=>UH.block k h2⟩),rfl,?_⟩;have he:=Z.o.mok.e;exact⟨Wa.st.kept (UH.block _ Vh4) (UH.block _ (fun e=>he.2.2.2 e.symm)),VA3.o,Wa.laid.kept (UH.block _ (fun e=>he.2.1 e.symm)),Wa.starts.kept (UH.block _ (fun e=>he.2.2.1 e.symm))⟩
theorem Z49:(prog.info? 4).map (fun i=>(i.zero,i.size,i.bytes))=some (some (.bool false),1,1):=aj
theorem Z5m:(prog.info? 5).map (fun i=>(i.zero,i.size,i.bytes))=some (some (.int .u8 0),1,1):=aj
theorem Ib(z:Value)(n:Nat):madeCells #[z] n=(List.replicate n z).toArray:=by
 rw[<-toList_madeCells_one z n,Array.toArray_toList]
def bF:List Bool:=List.replicate 1024 false
def b255:List UInt8:=List.replicate 1024 255
theorem Ex:bF.length=1024:=by unfold bF;exact ld
structure BlankAt(w wx:World)(tb ik lk sk:Nat)(l:List UInt8):Prop where
 box:wx.heap[tb]?=some (.cells #[iV ik 1024,iV lk 1024,iV sk 1024] 35 (0,0))
 bytes:YRow wx ik l
 laid:BRow wx lk bF
 starts:BRow wx sk bF
 low:w.heap.size<ik/\w.heap.size<lk/\w.heap.size<sk/\w.heap.size<tb
 ne:ik≠lk/\ik≠sk/\lk≠sk/\ik≠tb/\lk≠tb/\sk≠tb
 res:wx.heap[w.heap.size]?=some (.cells #[.slice none 0 0,.slice none 0 0,.slice none 0 0] 35 (0,0))
 blw:Below w.heap.size w wx
def Z4L(w:World)(e:Ending)(w':World):Prop:=∃ik lk sk,e=.returned (.agg #[iV ik 1024,iV lk 1024,iV sk 1024])/\YRow w' ik b255/\BRow w' lk bF/\BRow w' sk bF/\(w.heap.size<ik/\w.heap.size<lk/\w.heap.size<sk)/\(ik≠lk/\ik≠sk/\lk≠sk)/\Below w.heap.size w w'
theorem wK(x:World)(o:Obj)(k:Nat)(h:k=x.heap.size):(x.alloc o).heap[k]?=some o:=by
 rw[h];exact kg x o
theorem four(w:World)(A o1 o2 D G:Obj):(((((w.alloc A).alloc o1).alloc o2).alloc D).alloc G).heap[w.heap.size]?=some A/\(((((w.alloc A).alloc o1).alloc o2).alloc D).alloc G).heap[w.heap.size+1]?=some o1/\(((((w.alloc A).alloc o1).alloc o2).alloc D).alloc G).heap[w.heap.size+1+1]?=some o2/\(((((w.alloc A).alloc o1).alloc o2).alloc D).alloc G).heap[w.heap.size+1+1+1]?=some D/\(((((w.alloc A).alloc o1).alloc o2).alloc D).alloc G).heap[w.heap.size+1+1+1+1]?=some G/\Below w.heap.size w (((((w.alloc A).alloc o1).alloc o2).alloc D).alloc G):=by
 refine⟨?_,?_,?_,?_,?_,((((jV.alloc jU _).alloc af _).alloc ai _).alloc ai _).alloc ai _⟩
 ·rw[kt ai,kt ai,kt ai,kt af];exact wK _ _ _ rfl
 ·rw[kt aY,kt aY,kt af];exact wK _ _ _ af
 ·rw[kt aY,kt af];exact wK _ _ _ af
 ·rw[kt af];exact wK _ _ _ af
 exact wK _ _ _ af
theorem YRow.cell{w:World}{b:Nat}{l:List UInt8}(h:YRow w b l)(i:Nat)(hi:i<l.length):w.cell? ⟨b,i,none⟩=some (.int .u8 (l[i].toNat:Int)):=by
 rw[jY (0,0) h.at_];simp[hi]
theorem YRow.put{w:World}{b:Nat}{l:List UInt8}(h:YRow w b l)(i:Nat)(x:UInt8):YRow (w.setCell ⟨b,i,none⟩ (.int .u8 (x.toNat:Int))) b (l.set i x):=by
 refine⟨?_,by rw[mJ];exact h.len⟩;rw[lq w b i _ _ (.int .u8 (x.toNat:Int)) h.at_];simp[List.map_set]
def uv(j:Nat):List UInt8:=List.replicate j 255++List.replicate (1024-j) 0
theorem Z8M(j:Nat)(h:j<1024):(uv j).set j 255=uv (j+1):=by
 unfold uv;obtain⟨k,hk⟩:∃k,1024-j=k+1:=⟨1024-j-1,ae⟩;rw[hk,show 1024-(j+1)=k by omega,List.replicate_succ,T0Y _ _ af];simp[List.replicate_succ']
theorem BlankAt.put{w D:World}{G ik lk sk j:Nat}(h:BlankAt w D G ik lk sk (uv j))(I:j<1024):BlankAt w (D.setCell ⟨ik,j,none⟩ (.int .u8 255)) G ik lk sk (uv (j+1)):=by
 have J:=h.low;have hn:=h.ne;have A:=h.blw;refine⟨(lX (fun e=>hn.2.2.2.1 e.symm)).trans h.box,?_,h.laid.kept (lX (fun e=>hn.1 e.symm)),h.starts.kept (lX (fun e=>hn.2.1 e.symm)),J,hn,(lX (by show w.heap.size≠ik;omega)).trans h.res,⟨A.os,A.tape,A.output,by simpa [World.setCell]using A.size,fun k hk=>(lX (by show k≠ik;omega)).trans (A.block k hk)⟩⟩;have:=h.bytes.put j 255;rw[Z8M j I]at this;exact this
theorem Z1V(w:World):Calls prog 63 #[] w (Z4L w):=by
 obtain⟨V,D⟩:=Zg0 (madeCells #[Value.int .u8 0] 1024);obtain⟨Z,G⟩:=Zg0 (madeCells #[Value.bool false] 1024)
 have VA4:∀w,(Instr.makeSlice 32 (.int .i64 1024) (.int .i64 1024)).run prog w=.ok (.slice (some ⟨w.heap.size,0,none⟩) 1024 1024) (w.alloc (.cells V 5)):=fun w=>by
  rw[<-D];exact run_make_row' 32 5 (.int .u8 0) 1 underlying32 Z5m rfl .i64 .i64 1024 ah ah w
 have VA5:∀w,(Instr.makeSlice 33 (.int .i64 1024) (.int .i64 1024)).run prog w=.ok (.slice (some ⟨w.heap.size,0,none⟩) 1024 1024) (w.alloc (.cells Z 4)):=fun w=>by
  rw[<-G];exact run_make_row' 33 4 (.bool false) 1 underlying33 Z49 rfl .i64 .i64 1024 ah ah w
 have M:Hid (V=((uv 0).map fun x=>Value.int .u8 (x.toNat:Int)).toArray):=by
  show V=_;rw[<-D,Ib,show uv 0=List.replicate 1024 (0:UInt8) from rfl,List.map_replicate];rfl
 have I:Hid (Z=(bF.map Value.bool).toArray):=by
  show Z=_;unfold bF;rw[<-G,Ib,List.map_replicate]
 clear D G;go_enter func63,ntmps63;go_upto_region 1 with fail;go_cut [1] (fun s J=>∃A ik lk sk,s=.pointer (some ⟨A,0,none⟩)/\BlankAt w J A ik lk sk (uv 0))
 case first=>
  go_region
  all_goals
   go_wp2_with fail;go_meet;obtain⟨g0,g1,g2,g3,g4,O⟩:=four w _ _ _ _ _;refine⟨_,_,_,_,rfl,⟨by first| exact g1|exact g2|exact g3|exact g4,⟨by rw[<-M.o];first| exact g1|exact g2|exact g3|exact g4,by simp[uv]⟩,⟨by rw[<-I.o];first| exact g1|exact g2|exact g3|exact g4,Ex⟩,⟨by rw[<-I.o];first| exact g1|exact g2|exact g3|exact g4,Ex⟩,ae,ae,g0,⟨O.os,O.tape,O.output,O.size,O.block⟩⟩⟩
 case rest=>
 obtain⟨A,ik,lk,sk,rfl,hb⟩:=hcut;have Sq:∀(J:World) (l:List UInt8),BlankAt w J A ik lk sk l->J.cell? ⟨A,0,none⟩=some (iV ik 1024)/\J.cell? ⟨A,1,none⟩=some (iV lk 1024)/\J.cell? ⟨A,2,none⟩=some (iV sk 1024):=fun J l h=>⟨ff,ff,ff⟩
 have VA6:=oP Sq;obtain⟨c0,c1,c2⟩:=Sq _ _ hb;unfold iV at c0 c1 c2;have R:=oP hb;clear hb Sq VA4 VA5 M I;go_wp2_with fail;go_loopw [10] (fun i wr=>∃j:Nat,j<=1024/\i=.int .i64 j/\BlankAt w wr A ik lk sk (uv j)) (fun i _=>1024-(intOf i).toNat)
 case atStart=>exact⟨0,j4,rfl,R.o⟩
 case round=>
  clear R c0 c1 c2;obtain⟨j,hj,rfl,hb⟩:=hrel;obtain⟨c0,c1,c2⟩:=VA6.o _ _ hb;unfold iV at c0 c1 c2;have R:=oP hb;by_cases U:j<1024
  ·have K6:(j:Int)<1024:=by omega
   have cj:=hb.bytes.cell j (by rw[hb.bytes.len];exact U);obtain⟨y,hy⟩:∃y:Int,((uv j)[j]'(by rw[hb.bytes.len];exact U)).toNat=y:=⟨_,rfl⟩;rw[hy]at cj;have fj:=kD wr ik j _ _ hb.bytes.at_;have VA7:=oP (hb.put U);clear hb hy;go_wp2;go_roundw
   case rel=>exact⟨j+1,ae,ao,VA7.o⟩
   case measure=>simp[intOf];omega
  have K6:¬(j:Int)<1024:=ae;have S:j=1024:=ae;rw[S]at R K6⊢;have r0:wr.cell? ⟨w.heap.size,0,none⟩=some (.slice none 0 0):=fg;have r1:wr.cell? ⟨w.heap.size,1,none⟩=some (.slice none 0 0):=fg;have r2:wr.cell? ⟨w.heap.size,2,none⟩=some (.slice none 0 0):=fg;have f0:=kD wr w.heap.size 0 _ _ hb.res;have f1:=kD wr w.heap.size 1 _ _ hb.res;have f2:=kD wr w.heap.size 2 _ _ hb.res;have OC:w.heap.size<wr.heap.size:=(kV.1 hb.res).1;clear hb U hj S;go_wp2_with fail;refine kf (v:=.agg #[iV ik 1024,iV lk 1024,iV sk 1024]) (by simp[iV,results,results63,go_sem,r0,r1,r2]) rfl ⟨ik,lk,sk,rfl,?_⟩;have hb:=R.o;have hl:=hb.low
  have e3:∀(k:Nat) (v0 v1 v2:Value),k≠w.heap.size->(((wr.setCell ⟨w.heap.size,0,none⟩ v0).setCell ⟨w.heap.size,1,none⟩ v1).setCell ⟨w.heap.size,2,none⟩ v2).heap[k]?=wr.heap[k]?:=fun k v0 v1 v2 hk=>by
   exact MbF
  have WO4:uv 1024=b255:=by
   unfold uv b255;simp only[my,List.replicate_zero,kX]
  rw[WO4]at hb;exact⟨hb.bytes.kept (e3 _ _ _ _ ae),hb.laid.kept (e3 _ _ _ _ ae),hb.starts.kept (e3 _ _ _ _ ae),⟨hl.1,hl.2.1,hl.2.2.1⟩,⟨hb.ne.1,hb.ne.2.1,hb.ne.2.2.1⟩,⟨hb.blw.os,hb.blw.tape,hb.blw.output,by simpa [World.setCell]using hb.blw.size,fun k hk=>(e3 k _ _ _ ae).trans (hb.blw.block k hk)⟩⟩
