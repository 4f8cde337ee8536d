import Derived.Test.YthokdbcpkmcieaaGreatDoorH43
set_option maxRecDepth 200000
set_option maxHeartbeats 16000000
namespace Go.Proofs.YthokdbcpkmcieaaGreatDoor
open RowKit Shelf WideMaps Maps Proofs.Tryz
abbrev pI:Value:=.slice none 0 0
def Bp(w:World)(o:Except (Int×Nat) Asm)(e:Ending)(w':World):Prop:=
 Below w.heap.size w w'/\match o with
  |.error q=>e=.returned (.tuple #[.agg #[pI,pI,pI],.int .i64 q.1,.int .i64 (q.2:Int)])
  |.ok a=>∃ik lk sk,e=.returned (.tuple #[.agg #[iV ik 1024,iV lk 1024,iV sk 1024],.int .i64 0,.int .i64 0])/\YRow w' ik a.bytes/\BRow w' lk a.laid/\BRow w' sk a.starts/\w.heap.size<=ik/\w.heap.size<=lk/\w.heap.size<=sk/\lk≠sk
theorem Bq{w:World}{tmps:Array Value}{c2 c3 c4:Nat}{A D G:Value}{k l:Int}(h2:tmps.getD 2 undef=.pointer (some ⟨c2,0,none⟩))(h3:tmps.getD 3 undef=.pointer (some ⟨c3,0,none⟩))(h4:tmps.getD 4 undef=.pointer (some ⟨c4,0,none⟩))(h:Res w c2 c3 c4 A D G k l) :
  (results f31 tmps).run prog w=.ok (.tuple #[.agg #[A,D,G],.int .i64 k,.int .i64 l]) w:=by
 rw[nK]at h2 h3 h4;simp[results,results31,go_sem,h2,h3,h4,asAddr,h.a0,h.a1,h.a2,h.b,h.c]
theorem Jh(w:World):∃W,((w.alloc (.cells #[pI,pI,pI] 35)).alloc (.cells #[.int .i64 0] 40)).alloc (.cells #[.int .i64 0] 3)=W/\Below w.heap.size w W/\W.heap.size=w.heap.size+3/\Res W w.heap.size (w.heap.size+1) (w.heap.size+1+1) pI pI pI 0 0:=by
 have b1:Below w.heap.size w (w.alloc (.cells #[pI,pI,pI] 35)):=(jV).alloc jU _;have g2:=wK ((w.alloc (.cells #[pI,pI,pI] 35)).alloc (.cells #[.int .i64 0] 40)) (.cells #[.int .i64 0] 3) (w.heap.size+1+1) af
 have g1:(((w.alloc (.cells #[pI,pI,pI] 35)).alloc (.cells #[.int .i64 0] 40)).alloc (.cells #[.int .i64 0] 3)).heap[w.heap.size+1]?=some (.cells #[.int .i64 0] 40):=by
  rw[kt af];exact wK _ _ _ af
 have g0:(((w.alloc (.cells #[pI,pI,pI] 35)).alloc (.cells #[.int .i64 0] 40)).alloc (.cells #[.int .i64 0] 3)).heap[w.heap.size]?=some (.cells #[pI,pI,pI] 35):=by
  rw[kt aY,kt af];exact wK _ _ _ rfl
 refine⟨_,rfl,(b1.alloc af _).alloc aY _,af,⟨?_,?_,?_,?_,?_,fun j=>kT _ _ _ g0,kT _ _ _ g1,kT _ _ _ g2,aY⟩⟩
 ·rw[jY (0,0) g0];rfl
 ·rw[jY (0,0) g0];rfl
 ·rw[jY (0,0) g0];rfl
 ·rw[jY (0,0) g1];rfl
 rw[jY (0,0) g2];rfl
theorem Res.kept{w w':World}{c2 c3 c4:Nat}{A D G:Value}{k l:Int}(h:Res w c2 c3 c4 A D G k l)(hz:w.heap.size<=w'.heap.size)(h2:w'.heap[c2]?=w.heap[c2]?)(h3:w'.heap[c3]?=w.heap[c3]?)(h4:w'.heap[c4]?=w.heap[c4]?):Res w' c2 c3 c4 A D G k l:=by
 have hc:∀c,w'.heap[c]?=w.heap[c]?->∀j,w'.cell? ⟨c,j,none⟩=w.cell? ⟨c,j,none⟩:=fun c e j=>jW (a:=⟨c,j,none⟩) e
 have hf:∀c,w'.heap[c]?=w.heap[c]?->∀j,w'.frozen? ⟨c,j,none⟩=w.frozen? ⟨c,j,none⟩:=fun c e j=>ku (a:=⟨c,j,none⟩) e
 have:=h.lt;exact⟨(hc _ h2 0).trans h.a0,(hc _ h2 1).trans h.a1,(hc _ h2 2).trans h.a2,(hc _ h3 0).trans h.b,(hc _ h4 0).trans h.c,fun j=>(hf _ h2 j).trans (h.fa j),(hf _ h3 0).trans h.fb,(hf _ h4 0).trans h.fc,ae⟩
theorem Res.put{w:World}{c2 c3 c4:Nat}{I J M:Value}{x y:Int}(h:Res w c2 c3 c4 I J M x y)(hd:c2≠c3/\c2≠c4/\c3≠c4)(A D G:Value)(k l:Int):Res (((((w.setCell ⟨c2,0,none⟩ A).setCell ⟨c2,1,none⟩ D).setCell ⟨c2,2,none⟩ G).setCell ⟨c3,0,none⟩ (.int .i64 k)).setCell ⟨c4,0,none⟩ (.int .i64 l)) c2 c3 c4 A D G k l:=by
 obtain⟨n1,O,R⟩:=hd;have S:¬c3=c2:=fun e=>n1 e.symm
 have U:¬c4=c2:=fun e=>O e.symm
 have V:¬c4=c3:=fun e=>R e.symm
 have hl:=h.lt;have a0:=h.a0;have a1:=h.a1;have a2:=h.a2;have Z:=h.b;have d0:=h.c;refine⟨?_,?_,?_,?_,?_,fun j=>?_,?_,?_,?_⟩
 ·simp[go_sem,a0]
 ·simp[go_sem,a1]
 ·simp[go_sem,a2]
 ·simp[go_sem,Z]
 ·simp[go_sem,d0]
 ·have:=h.fa j;simp[go_sem,this]
 ·have:=h.fb;simp[go_sem,this]
 ·have:=h.fc;simp[go_sem,this]
 simp[World.setCell];omega
theorem D5{w:World}{c2 c3 c4:Nat}(A D G:Value)(k l:Int)(j:Nat)(h2:j≠c2)(h3:j≠c3)(h4:j≠c4):(((((w.setCell ⟨c2,0,none⟩ A).setCell ⟨c2,1,none⟩ D).setCell ⟨c2,2,none⟩ G).setCell ⟨c3,0,none⟩ (.int .i64 k)).setCell ⟨c4,0,none⟩ (.int .i64 l)).heap[j]?=w.heap[j]?:=by
 rw[kk _ ⟨c4,0,none⟩ j _ h4,kk _ ⟨c3,0,none⟩ j _ h3,kk _ ⟨c2,2,none⟩ j _ h2,kk _ ⟨c2,1,none⟩ j _ h2,kk _ ⟨c2,0,none⟩ j _ h2]
theorem uX{A w:World}{B c:Nat}(h:Below B A w)(hc:B<=c)(j:Nat)(v:Value):Below B A (w.setCell ⟨c,j,none⟩ v):=
 ⟨h.os,h.tape,h.output,bj,fun k hk=>(kk w ⟨c,j,none⟩ k v (by show k≠c;omega)).trans (h.block k hk)⟩
theorem Fe{A w:World}{B c2 c3 c4:Nat}(h:Below B A w)(h2:B<=c2)(h3:B<=c3)(h4:B<=c4)(D G I:Value)(k l:Int):Below B A (((((w.setCell ⟨c2,0,none⟩ D).setCell ⟨c2,1,none⟩ G).setCell ⟨c2,2,none⟩ I).setCell ⟨c3,0,none⟩ (.int .i64 k)).setCell ⟨c4,0,none⟩ (.int .i64 l)):=
 uX (uX (uX (uX (uX h h2 0 D) h2 1 G) h2 2 I) h3 0 _) h4 0 _
theorem Z80{A:World}{ik lk sk:Nat}(hy:YRow A ik b255)(G:BRow A lk bF)(I:BRow A sk bF)(M:ik≠lk/\ik≠sk/\lk≠sk):∃D,(A.alloc (.map #[] 0)).alloc (.cells #[iV ik 1024,iV lk 1024,iV sk 1024,.map (some A.heap.size),.int .i64 0] 121)=D/\Below A.heap.size A D/\D.heap.size=A.heap.size+2/\AsmAt D ⟨A.heap.size+1,ik,lk,sk,A.heap.size,1024,1024,1024⟩ tc/\AMem.Ok ⟨A.heap.size+1,ik,lk,sk,A.heap.size,1024,1024,1024⟩/\D.heap[A.heap.size+1]?=some (.cells #[iV ik 1024,iV lk 1024,iV sk 1024,.map (some A.heap.size),.int .i64 0] 121 (0,0)):=by
 have b1:Below A.heap.size A ((A.alloc (.map #[] 0)).alloc (.cells #[iV ik 1024,iV lk 1024,iV sk 1024,.map (some A.heap.size),.int .i64 0] 121)):=(jV.alloc jU _).alloc af _;have g:=wK (A.alloc (.map #[] 0)) (.cells #[iV ik 1024,iV lk 1024,iV sk 1024,.map (some A.heap.size),.int .i64 0] 121) (A.heap.size+1) af;have hc:∀j u,#[iV ik 1024,iV lk 1024,iV sk 1024,.map (some A.heap.size),.int .i64 0][j]?=some u->((A.alloc (.map #[] 0)).alloc (.cells #[iV ik 1024,iV lk 1024,iV sk 1024,.map (some A.heap.size),.int .i64 0] 121)).cell? ⟨A.heap.size+1,j,none⟩=some u:=fun j u J=>by rw[jY (0,0) g];exact J
 have h1:=hy.lt;have h2:=G.lt;have h3:=I.lt;refine⟨_,rfl,b1,af,⟨⟨hc 0 _ rfl,hc 1 _ rfl,hc 2 _ rfl,hc 3 _ rfl,hc 4 _ rfl,fun j=>kT _ _ _ g,?_,af⟩,hy.kept (b1.block _ h1),G.kept (b1.block _ h2),I.kept (b1.block _ h3)⟩,⟨aH,aH,fE,fE,fE⟩,g⟩;exact(MapAt.made A prog 9).alloc _
theorem Z9G(src:ByteArray)(w:World)(hs:2000<src.size) :
  Calls prog 31 #[.string src] w (Bp w (rC src)):=by
 have e:rC src=.error (1,0):=jT hs;rw[e];obtain⟨W,I,D,J,A⟩:=Jh w;have G:(2000:Int)<(src.size:Int):=ae;have a0:=A.a0;have a1:=A.a1;have a2:=A.a2;have M:=A.b;have d0:=A.c;have f0:=A.fa 0;have f1:=A.fa 1;have f2:=A.fa 2;have fb:=A.fb;have fc:=A.fc;have HB:=oP (And.intro D A);clear e hs D A;go_enter_defers func31,ntmps31;go_wp2_with fail;have hd:w.heap.size≠w.heap.size+1/\w.heap.size≠w.heap.size+1+1/\w.heap.size+1≠w.heap.size+1+1:=ae;exact⟨_,Bq (c2:=w.heap.size) (c3:=w.heap.size+1) (c4:=w.heap.size+1+1) rfl rfl rfl (HB.o.2.put hd pI pI pI 1 0),Fe HB.o.1 jU ae ae _ _ _ _ _,rfl⟩
theorem Z6E(src:ByteArray)(mm:Int)(w:World)(hs:src.size<=2000)(MM:w.cell? ⟨0,0,none⟩=some (.int .i64 mm)) :
  Calls prog 31 #[.string src] w (Bp w (rC src)):=by
 obtain⟨R,hR⟩:=Zg0 (rC src);rw[hR];unfold rC at hR;rw[jS ae]at hR;have HR:=oP hR;obtain⟨W,hW,K1,NY,hr⟩:=Jh w;have Wz0:¬(2000:Int)<(src.size:Int):=ae;have VF4:∀(fn:Fn) (first Kd:Array Value) (w:World),(Instr.makeFunc fn first Kd).run prog w=.ok (.func fn first Kd) w:=fun _ _ _ _=>rfl
 have WB2:=@n8 prog;have HB:=oP (And.intro K1 hr);have NZ:Hid (Calls prog 63 #[] W fun e w1=>∃ik lk sk,e=.returned (.agg #[.slice (some ⟨ik,0,none⟩) 1024 1024,.slice (some ⟨lk,0,none⟩) 1024 1024,.slice (some ⟨sk,0,none⟩) 1024 1024])/\YRow w1 ik b255/\BRow w1 lk bF/\BRow w1 sk bF/\(W.heap.size<ik/\W.heap.size<lk/\W.heap.size<sk)/\(ik≠lk/\ik≠sk/\lk≠sk)/\Below W.heap.size W w1):=Z1V W;clear K1 hr hR;go_enter_defers func31,ntmps31;go_upto_region 5 with(first| (go_at_call 63;refine NZ.o.mono ?_;rintro e w1 ⟨ik,lk,sk,rfl,Ls⟩;have Vk1:=oP Ls;clear Ls));obtain⟨hy,hl,O,X6,Kk,Kh⟩:=Vk1.o;obtain⟨A,WS1,WS2,VF5,hA,Wv,Nw⟩:=Z80 hy hl O Kk;unfold iV at WS1;rw[WS1];have VF6:0<w.heap.size:=by have:=lD _ MM;exact this
 have KC:=Kh.size;have VF7:=hy.lt;have N5:=hl.lt;have hls:=O.lt;have Qi:Below w.heap.size w A:=HB.o.1.trans ((Kh.trans (WS2.mono Kh.size)).mono HB.o.1.size)
 have WA1:Res A w.heap.size (w.heap.size+1) (w.heap.size+1+1) pI pI pI 0 0:=by
  have Wi:=Kh.trans (WS2.mono Kh.size);exact HB.o.2.kept Wi.size (Wi.block _ ae) (Wi.block _ ae) (Wi.block _ ae)
 obtain⟨M,hM⟩:∃M:AMem,M=⟨w1.heap.size+1,ik,lk,sk,w1.heap.size,1024,1024,1024⟩:=⟨_,rfl⟩;rw[<-hM]at hA Wv;have US:M.ab=w1.heap.size+1:=by rw[hM]
 have Wq5:w.heap.size+3<=M.ab/\w.heap.size+3<=M.ik/\w.heap.size+3<=M.lk/\w.heap.size+3<=M.sk/\w.heap.size+3<=M.nb:=by rw[hM];simp only;omega
 have Wg5:M.c0=1024/\M.c1=1024/\M.c2=1024:=by rw[hM];exact⟨rfl,rfl,rfl⟩
 have Wq6:A.cell? ⟨0,0,none⟩=some (.int .i64 mm):=(jW (a:=⟨0,0,none⟩) (Qi.block 0 VF6)).trans MM;have Vk2:q9 M 0:=⟨ae,ae,ae,ae,ae⟩;have WA2:=Z9i A M tc src mm _ hA Wv G7 (by rw[US];exact Nw) hs Wq6 Vk2;rw[US]at WA2;obtain⟨ab,Wq7⟩:=Zg0 (w1.heap.size+1);rw[Wq7]at WA2 US⊢;have XN:=oP WA2;have OV:=oP (And.intro Qi (And.intro WA1 (And.intro Wq5 (And.intro Wg5 (And.intro Wv US)))));have WA0:=oP (show M.ab<A.heap.size/\M.ik<A.heap.size/\M.lk<A.heap.size/\M.sk<A.heap.size/\M.nb<A.heap.size from ⟨hA.st.lt,hA.bytes.lt,hA.laid.lt,hA.starts.lt,hA.nlt⟩)
 have G:Hid (∀D:World,ChgM A D M->Below w.heap.size w D/\Res D w.heap.size (w.heap.size+1) (w.heap.size+1+1) pI pI pI 0 0):=fun D hc=>by
  have hf:∀k,k<w.heap.size+3->q9 M k:=fun k hk=>⟨ae,ae,ae,ae,ae⟩
  have WQ:=Qi.size;have SU:=WA1.lt;exact⟨⟨hc.os.trans Qi.os,hc.tape.trans Qi.tape,hc.output.trans Qi.output,j8 Qi.size hc.size,fun k hk=>(hc.free ae (hf k ae)).trans (Qi.block k hk)⟩,WA1.kept hc.size (hc.free SU.1 (hf _ ae)) (hc.free SU.2.1 (hf _ ae)) (hc.free SU.2.2 (hf _ ae))⟩
 have VF8:w.heap.size+3<=A.heap.size:=ae;clear hy hl O X6 Kk Kh WS1 WS2 VF5 hA Wv Nw KC VF7 N5 hls Qi WA1 hM US Wq5 Wg5 Wq6 Vk2 WA2 Wq7 Vk1 NZ HB MM VF4 WB2 NY hW;cases V:qG (rM src) tc (rM src).length with
 |error q=>
  rw[V]at XN HR;have eR:R=.error q:=HR.o.symm;subst eR;have Mj:Hid (Calls prog 64 #[.pointer (some ⟨ab,0,none⟩),.string src] A fun e D=>e=.panicked (sH q.1 (q.2:Int))/\ChgM A D M):=XN.o.mono fun e D hh=>⟨hh.2,hh.1⟩
  clear XN V;go_wp2_with (first| (go_at_call 64;refine Mj.o.mono ?_;rintro e D ⟨rfl,hc⟩));refine leaves_cons (f:=62) (args:=#[.pointer (some ⟨w.heap.size,0,none⟩),.pointer (some ⟨w.heap.size+1,0,none⟩),.pointer (some ⟨w.heap.size+1+1,0,none⟩)]) af cX ?_;refine(Gi w.heap.size (w.heap.size+1) (w.heap.size+1+1) pI pI pI 0 0 q.1 (q.2:Int) D (G.o D hc).2 ae).mono ?_;rintro e u' w4 ⟨rfl,rfl,Wa8,ho,WS3,WS4,hz,hk⟩;have Kq:=(G.o D hc).1;exact MaG
 |ok r=>
  rw[V]at XN HR
  have Mj:Hid (Calls prog 64 #[.pointer (some ⟨ab,0,none⟩),.string src] A fun e D=>∃(sa:Option Addr) (I sc:Nat) (qs:List (St×Value×Value)) (pb B:Nat),e=.returned (.slice sa I sc)/\AsmAt D M r.2/\qs.map Prod.fst=r.1/\Sts D M pb B (.slice sa I sc) qs/\pb<B/\A.heap.size<=B/\ChgM A D M):=XN.o.mono fun e D hh=>by
   obtain⟨h1,sa,I,sc,qs,pb,B,h2,h3,h4,h5,h6,h7⟩:=hh;exact⟨sa,I,sc,qs,pb,B,h2,h3,h4,h5,h6,h7,h1⟩
  have KA:=BW G7 (N:=2000) (fun t ht=>j8 (Hb ht) hs) _ r jU V
  have Oi:r.1.length<=2001:=by
   rw[KA.2.1];have:=JX src;omega
  have WS5:=oP (And.intro KA Oi);clear XN V KA Oi;go_wp2_with (first| (go_at_call 64;refine Mj.o.mono ?_;rintro e D ⟨sa,I,sc,qs,pb,B,rfl,UR,Vk3,Z,T4,Vk4,Wh⟩;have Pb:=oP (And.intro UR (And.intro Vk3 (And.intro Z (And.intro T4 (And.intro Vk4 Wh)))));clear UR Vk3 Z T4 Vk4 Wh));have MN:I=qs.length:=tI Pb.o.2.2.1.row rfl;have Wd8:qs.length=r.1.length:=by rw[<-Pb.o.2.1];simp
  have VF9:(I:Int)<=2001:=by have:=WS5.o.2;omega
  have SN:=oP (And.intro MN Wd8);clear MN Wd8;go_loopw [19] (fun i wr=>∃(j:Nat) (a:Asm),j<=I/\i=.int .i64 j/\rS r.2 r.1 j=.ok a/\a.nm=r.2.nm/\AsmAt wr M a/\Sts wr M pb B (.slice sa I sc) qs/\ChgM A wr M) (fun i _=>I-(intOf i).toNat)
  case atStart=>exact⟨0,r.2,j4,rfl,rfl,rfl,Pb.o.1,Pb.o.2.2.1,Pb.o.2.2.2.2.2⟩
  case round=>
   obtain⟨j,a,hj,rfl,XO,hnm,J,Z,XP⟩:=hrel;have HW:=oP (And.intro XO (And.intro hnm (And.intro J (And.intro Z XP))));by_cases Kf:j<I
   ·have K6:(j:Int)<(I:Int):=by omega
    have WS6:j<qs.length:=by have:=SN.o.1;omega
    obtain⟨q,hq⟩:=Zg0 (qs[j]);have XI:qs[j]?=some q:=by rw[jX WS6,hq]
    obtain⟨st,v,kv⟩:=q;have O:=Z.each (st,v,kv) (by rw[<-hq];exact kC WS6)
    have Wq9:r.1[j]?=some st:=by
     rw[<-Pb.o.2.1,kS,XI];rfl
    have Nh:=WS5.o.1.2.2 st (lT Wq9);obtain⟨va,vn,vc,hv⟩:=O.is;obtain⟨ka,kc,WU⟩:=O.kinds.is;simp only at hv WU;subst hv WU;obtain⟨g,Kd,Vb⟩:=xU Z.row ae;cases Vb;have LZ:∀i u,i<9->(stC st (.slice va vn vc) (.slice ka st.x.ins.kinds.length kc))[i]?=some u->wr.cell? ⟨g,j*9+i,none⟩=some u:=fun i u hi hu=>(xO Z.row).2 _ _ ((Z4Y XI i hi).trans hu)
    have x0:=LZ 0 _ ae rfl;have x1:=LZ 1 _ ae rfl;have x2:=LZ 2 _ ae rfl;have x3:=LZ 3 _ ae rfl;have x4:=LZ 4 _ ae rfl;have x5:=LZ 5 _ ae rfl;have x6:=LZ 6 _ ae rfl;have x7:=LZ 7 _ ae rfl;have x8:=LZ 8 _ ae rfl;rw[kK]at x0;have KF:=oP (And.intro O (And.intro Wq9 Nh));clear XO hnm J Z XP hq XI O Wq9 Nh LZ WS6;go_upto_region 8 with fail;obtain⟨W4,Wq4,MI,VX,Ks⟩:=tv wr (st.line:Int) (st.pl:Int) st.lb (st.x.task:Int) st.x.name (.slice va vn vc) (st.x.ins.code:Int) (.slice ka st.x.ins.kinds.length kc) (st.x.ins.size:Int);rw[Wq4];obtain⟨s0,s1,s2,s3,s4,s5,s6,s7,s8,sf,sl⟩:=Ks;obtain⟨XO,hnm,J,Z,XP⟩:=HW.o;obtain⟨O,Wq9,Nh⟩:=KF.o;obtain⟨lo,hi,WS7,_,Vk5,_⟩:=O.vals;have Q7:=Nh.stm.ok ae;have Nf:JJ W4 M a lo st.x (.slice va vn vc) (.slice ka st.x.ins.kinds.length kc) st.pl:=⟨⟨J.below MI,fun l z hz=>WS5.o.1.1.nm l z (by rw[<-hnm];exact hz),Vk5.vat.below MI,Nh.great,Q7.vals,Q7.cnt,Q7.len,by have:=Nh.fit;omega⟩,OV.o.2.2.2.2.1,fun h6=>⟨Nh.stm.ins h6,O.kinds.below MI⟩,Nh.fit,Q7.size⟩;have WS8:=Z7O W4 M a lo st.x va vn vc st.pl (st.line:Int) st.lb ka st.x.ins.kinds.length kc Nf;rw[OV.o.2.2.2.2.2]at WS8;have XD:=oP WS8;have OP:=oP MI;clear XO hnm J Z XP O Wq9 Nh WS7 Vk5 Q7 Nf WS8 MI Wq4 sf;cases hF:sV a st.pl st.x with
    |error k=>
     rw[hF]at XD
     have eR:R=.error (k,st.line):=by
      rw[<-HR.o];refine G0 (j:=j+1) ?_ (by have:=SN.o;omega);simp only[rS,HW.o.1,KF.o.2.1,hF]
     subst eR;have Pv:Hid (Calls prog 65 #[.pointer (some ⟨ab,0,none⟩),.agg #[.int .i64 (st.line:Int),.int .i64 (st.pl:Int),.string st.lb,.int .i64 (st.x.task:Int),.string st.x.name,.slice va vn vc,.int .u8 (st.x.ins.code:Int),.slice ka st.x.ins.kinds.length kc,.int .i64 (st.x.ins.size:Int)]] W4 fun e S=>e=.panicked (sH k (st.line:Int))/\ChgM W4 S M):=XD.o.mono fun e S hh=>⟨hh.2,hh.1⟩
     clear XD hF;go_wp2_with (first| (go_at_call 65;refine Pv.o.mono ?_;rintro e S ⟨rfl,Qh⟩));have hc:=(HW.o.2.2.2.2.trans (ChgM.below M OP.o)).trans Qh;refine leaves_cons (f:=62) (args:=#[.pointer (some ⟨w.heap.size,0,none⟩),.pointer (some ⟨w.heap.size+1,0,none⟩),.pointer (some ⟨w.heap.size+1+1,0,none⟩)]) af cX ?_;refine(Gi w.heap.size (w.heap.size+1) (w.heap.size+1+1) pI pI pI 0 0 k (st.line:Int) S (G.o S hc).2 ae).mono ?_;rintro e u' w6 ⟨rfl,rfl,Wa8,ho,WS3,WS4,hz,hk⟩;have Kq:=(G.o S hc).1;exact MaG
    |ok c=>
     rw[hF]at XD
     have MT:Hid (rS r.2 r.1 (j+1)=.ok c):=by
      show rS r.2 r.1 (j+1)=.ok c;simp only[rS,HW.o.1,KF.o.2.1,hF]
     have Rz:Hid (c.nm=r.2.nm):=(Z0s hF).trans HW.o.2.1;have Pv:Hid (Calls prog 65 #[.pointer (some ⟨ab,0,none⟩),.agg #[.int .i64 (st.line:Int),.int .i64 (st.pl:Int),.string st.lb,.int .i64 (st.x.task:Int),.string st.x.name,.slice va vn vc,.int .u8 (st.x.ins.code:Int),.slice ka st.x.ins.kinds.length kc,.int .i64 (st.x.ins.size:Int)]] W4 fun e S=>e=.returned (.tuple #[])/\ChgM W4 S M/\AsmAt S M c):=XD.o.mono fun e S hh=>⟨hh.2.1,hh.1,hh.2.2⟩
     clear XD hF;go_wp2_with (first| (go_at_call 65;refine Pv.o.mono ?_;rintro e S ⟨rfl,Qh,Zp⟩;have Q1:=oP (And.intro Qh Zp);clear Qh Zp));go_roundw
     case rel=>
      have Zs:=(ChgM.below M OP.o).trans Q1.o.1;refine⟨j+1,c,ae,ao,MT.o,Rz.o,Q1.o.2,HW.o.2.2.2.1.kept Zs.size Pb.o.2.2.2.1 ?_ (fun k h1 h2=>Zs.free h1 h2),HW.o.2.2.2.2.trans Zs⟩;have h8:=Pb.o.2.2.2.2.1;have h9:=WA0.o;omega
     case measure=>simp[intOf];omega
   have K6:¬(j:Int)<(I:Int):=ae
   have eR:R=.ok a:=by
    rw[<-HR.o];have h9:=HW.o.1;rw[show j=r.1.length by have:=SN.o;omega]at h9;exact h9
   subst eR;have U:=(G.o wr XP).2;have a0:=U.a0;have a1:=U.a1;have a2:=U.a2;have b0:=U.b;have d0:=U.c;have f0:=U.fa 0;have f1:=U.fa 1;have f2:=U.fa 2;have fb:=U.fb;have fc:=U.fc;have m0:=J.st.c0;have m1:=J.st.c1;have m2:=J.st.c2;have Wr0:=OV.o.2.2.2;rw[Wr0.2.2]at m0 m1 m2;rw[Wr0.1.1]at m0;rw[Wr0.1.2.1]at m1;rw[Wr0.1.2.2]at m2;unfold iV at m0 m1 m2;have Yf:=U.lt;clear XO hnm J Z XP U Wr0;go_wp2_with fail;refine leaves_cons (f:=62) (args:=#[.pointer (some ⟨w.heap.size,0,none⟩),.pointer (some ⟨w.heap.size+1,0,none⟩),.pointer (some ⟨w.heap.size+1+1,0,none⟩)]) af cX ?_;refine(Z27 w.heap.size (w.heap.size+1) (w.heap.size+1+1) _).mono ?_;rintro e u' S ⟨rfl,rfl,rfl⟩;have XP:=HW.o.2.2.2.2;have J:=HW.o.2.2.1;have KN:=G.o wr XP;have Wq2:=OV.o.2.2.1;refine⟨_,Bq (c2:=w.heap.size) (c3:=w.heap.size+1) (c4:=w.heap.size+1+1) rfl rfl rfl (KN.2.put ae _ _ _ 0 0),Fe KN.1 jU ae ae _ _ _ _ _,M.ik,M.lk,M.sk,rfl,J.bytes.kept (D5 _ _ _ _ _ _ ae ae ae),J.laid.kept (D5 _ _ _ _ _ _ ae ae ae),J.starts.kept (D5 _ _ _ _ _ _ ae ae ae),ae,ae,ae,OV.o.2.2.2.2.1.d.2.2.1⟩
theorem Z5g(src:ByteArray)(mm:Int)(w:World)(A:w.cell? ⟨0,0,none⟩=some (.int .i64 mm)) :
  Calls prog 31 #[.string src] w (Bp w (rC src)):=by
 by_cases h:2000<src.size
 ·exact Z9G src w h
 exact Z6E src mm w ae A
def NL:ByteArray:=⟨#[10]⟩
def AW(t:ByteArray):Prop:=(10:UInt8) ∉ t.data.toList
theorem Ak(a b:ByteArray):(a++b).data.toList=a.data.toList++b.data.toList:=by
 rw[oy,T0v]
theorem Z2F{t:List UInt8}(h:(10:UInt8) ∉ t)(r:List UInt8):Lib.index (t++10::r) [10]=t.length:=by
 refine Lib.index_first af ?_ (fun j A=>?_)
 ·unfold Lib.occAt;rw[List.drop_left];simp[List.isPrefixOf]
 unfold Lib.occAt;rw[List.drop_append_of_le_length ae,lY A];have hn:¬(10:UInt8)=t[j]:=fun e=>h (e ▸ kC A)
 rw[mU];show ((10:UInt8)==t[j]&&_)=false;rw[beq_eq_false_iff_ne.2 hn];rfl
theorem Z9D{t:List UInt8}(h:(10:UInt8) ∉ t):Lib.index t [10] = -1:=by
 refine Lib.index_none (fun j D=>?_);unfold Lib.occAt;by_cases A:j<t.length
 ·rw[lY A];have hn:¬(10:UInt8)=t[j]:=fun e=>h (e ▸ kC A)
  simp[List.isPrefixOf,hn]
 rw[mY ae];rfl
theorem Z3I{t:ByteArray}(h:AW t):rM t=[t]:=by
 unfold rM;exact Lib.splitB_miss _ _ _ _ (Z9D h)
theorem Z0o{t:ByteArray}(h:AW t)(r:ByteArray):rM (t++(NL++r))=t::rM r:=by
 have hi:Lib.indexB (t++(NL++r)) ⟨#[10]⟩=(t.size:Nat):=by
  show Lib.index (t++(NL++r)).data.toList [10]=_;rw[Ak,Ak];have:=Z2F h r.data.toList;rw[kE]at this;exact this
 have e2:(t++(NL++r)).extract (t.size+1) (t++(NL++r)).size=r:=by
  rw[<-ByteArray.append_assoc];exact ByteArray.extract_append_eq_right (by rw[lK];rfl) lK
 have e1:(t++(NL++r)).extract 0 (t.size+0)=t:=ByteArray.extract_append_eq_left af;unfold rM;have hc:=Lib.countB_hit (t++(NL++r)) ⟨#[10]⟩ t.size ah hi;rw[show (⟨#[10]⟩:ByteArray).size=1 from rfl,e2]at hc;rw[hc,nF,Lib.splitB_hit _ _ _ _ _ hi,e1,show (⟨#[10]⟩:ByteArray).size=1 from rfl,e2]
def rdL:Nat->Asm->List ByteArray->Except (Int×Nat) (List St×Asm)
 |_,a,[]=>.ok ([],a)
 |i,a,t::l=>match sd t with
  |none=>.error (2,i+1)
  |some q=>match py a q.1 q.2 with
   |.error k=>.error (k,i+1)
   |.ok b=>match rdL (i+1) b l with
    |.error e=>.error e
    |.ok r=>.ok (⟨i+1,a.pl,q.1,q.2⟩::r.1,r.2)
def zw(s:List St):Except (Int×Nat) (List St×Asm)->Except (Int×Nat) (List St×Asm)
 |.error e=>.error e
 |.ok r=>.ok (s++r.1,r.2)
theorem Eh(a0:Asm):∀(l pre:List ByteArray) (s:List St) (a:Asm),qG (pre++l) a0 pre.length=.ok (s,a)->qG (pre++l) a0 (pre++l).length=zw s (rdL pre.length a l)
 |[],pre,s,a,h=>by
  simp only[kX]at h⊢
  rw[h]
  simp[rdL,zw]
 |t::l,pre,s,a,h=>by
  have D:(pre++t::l).getD pre.length ⟨#[]⟩=t:=by
   rw[jZ,lr jU,my]
   rfl
  have G:pre.length+1<=(pre++t::l).length:=af
  cases A:sd t with
  |none=>
   rw[Ay (F5 h (by rw[D];exact A)) G]
   simp only[rdL,A,zw]
  |some q=>
   cases hs:py a q.1 q.2 with
   |error k=>
    rw[Ay (IJ h (by rw[D];exact A) hs) G]
    simp only[rdL,A,hs,zw]
   |ok b=>
    have h1:=FT h (by rw[D];exact A) hs
    have e:pre++t::l=(pre++[t])++l:=af
    have I:(pre++[t]).length=pre.length+1:=af
    rw[e,<- I]at h1
    have ih:=Eh a0 l (pre++[t]) _ _ h1
    rw[e,ih,I]
    simp only[rdL,A,hs]
    cases rdL (pre.length+1) b l with
    |error e=>rfl
    |ok r=>simp[zw]
def flL:Asm->List St->Except (Int×Nat) Asm
 |a,[]=>.ok a
 |a,st::l=>match sV a st.pl st.x with
  |.error k=>.error (k,st.line)
  |.ok b=>flL b l
theorem GH(a0:Asm):∀(l pre:List St) (a:Asm),rS a0 (pre++l) pre.length=.ok a->rS a0 (pre++l) (pre++l).length=flL a l
 |[],pre,a,h=>by
  simp only[kX]at h⊢
  rw[h]
  rfl
 |st::l,pre,a,h=>by
  have A:(pre++st::l)[pre.length]?=some st:=by
   rw[lr jU,my]
   rfl
  cases hs:sV a st.pl st.x with
  |error k=>
   have h1:rS a0 (pre++st::l) (pre.length+1)=.error (k,st.line):=by simp only[rS,h,A,hs]
   rw[G0 h1 af]
   simp only[flL,hs]
  |ok b=>
   have h1:rS a0 (pre++st::l) (pre.length+1)=.ok b:=by simp only[rS,h,A,hs]
   have e:pre++st::l=(pre++[st])++l:=af
   have D:(pre++[st]).length=pre.length+1:=af
   rw[e,<- D]at h1
   have ih:=GH a0 l (pre++[st]) _ h1
   rw[e,ih]
   simp only[flL,hs]
def xx(ls:List ByteArray):Except (Int×Nat) Asm:=match rdL 0 tc ls with
 |.error e=>.error e
 |.ok r=>flL r.2 r.1
theorem Z9c{src:ByteArray}(h:src.size<=2000):rC src=xx (rM src):=by
 unfold rC xx;rw[jS ae];have h1:=Eh tc (rM src) [] [] tc rfl;simp only[mu,lI]at h1;rw[h1];cases rdL 0 tc (rM src) with
 |error e=>rfl
 |ok r=>
  have h2:=GH r.2 r.1 [] r.2 rfl;simp only[mu]at h2;show rS r.2 ([]++r.1) ([]++r.1).length=_;rw[mu];exact h2
