import Derived.Test.YthokdbcpkmcieaaGreatDoorH20
set_option maxRecDepth 200000
set_option maxHeartbeats 16000000
namespace Go.Proofs.YthokdbcpkmcieaaGreatDoor
open RowKit Shelf WideMaps Maps Proofs.Tryz
def sH(n line:Int):List PanicEntry:=[{v:=.iface 117 (.agg #[.int .i64 n,.int .i64 line]),recovered:=false}]
structure StmOk(lb:ByteArray)(x:Stm):Prop where
 lb:lb.size<=1000000
 name:x.name.size<=1000000
 vals:∀e∈x.vals,∀t∈e,t.name.size<=1000000/\0<=t.num
 cnt:pL x.vals<=1000000
 len:x.vals.length<=1000000
 once:qz x.task=true->x.vals.length=1
 one6:x.task=6->1<=x.ins.size
 size:x.ins.size<=100
theorem StmOk.used{lb:ByteArray}{x:Stm}(h:StmOk lb x):∀s∈pq x.vals,s.size<=1000000:=fun s hs=>by
 unfold pq qU at hs
 obtain⟨e,he,h1⟩:=T0G.1 hs
 obtain⟨t,ht,rfl⟩:=lf.1 h1
 exact(h.vals e he t (List.mem_filter.1 ht).1).1
theorem StmOk.given{lb:ByteArray}{x:Stm}(h:StmOk lb x):∀s∈pW lb x.task x.name,s.size<=1000000:=fun s hs=>by
 unfold pW at hs
 rcases kW.1 hs with h1|h1
 ·split at h1
  ·cases h1
  rw[lu.1 h1]
  exact h.lb
 split at h1
 ·rw[lu.1 h1]
  exact h.name
 cases h1
structure yC(w:World)(m:AMem)(a:Asm)(base:Nat)(lb:ByteArray)(x:Stm)(v:Value):Prop where
 at_:AsmAt w m a
 mok:m.Ok
 ok:a.Ok
 vals:VAt w base v x.vals
 lo:m.ab<base/\m.ik<base/\m.lk<base/\m.sk<base/\m.nb<base
 stm:StmOk lb x
def yt(w:World)(m:AMem)(A:Int)(r:Except Int Asm)(e:Ending)(w':World):Prop:=
 ChgM w w' m/\match r with
  |.error k=>e=Bw k A
  |.ok b=>e=.returned (.tuple #[])/\AsmAt w' m b
def oW(a:Asm)(lb:ByteArray):Asm:=if lb=⟨#[]⟩ then a else a.put lb (a.pl:Int)
theorem G3(a:Asm)(lb:ByteArray):(oW a lb).pl=a.pl:=by
 unfold oW;split <;> rfl
theorem FW(a:Asm)(lb:ByteArray):(oW a lb).laid=a.laid/\(oW a lb).starts=a.starts/\(oW a lb).bytes=a.bytes:=by
 unfold oW;split <;> exact⟨rfl,rfl,rfl⟩
structure GP(w wx:World)(m:AMem)(b:Asm)(base:Nat)(es:List (List Trm))(v:Value)(l0 p0:Int)(lb:ByteArray)(T:Int)(nm:ByteArray)(cd:Int)(kd:Value)(sz:Int):Prop where
 at_:AsmAt wx m b
 chg:ChgM w wx m
 vals:VAt wx base v es
 ss:SS wx w.heap.size l0 p0 lb T nm v cd kd sz
theorem Ha{nm:List UInt8->Option Int}{n:Nat}{l:List ByteArray}(h:cgF nm n l=none):n+l.length<=40:=by
 unfold cgF at h;split at h
 ·cases h
 split at h
 ·cases h
 omega
theorem VAt.one{w:World}{base:Nat}{I:Option Addr}{G O:Nat}{e:List Trm}(h:VAt w base (.slice I G O) [e]):G=1/\∃g A D xc,I=some ⟨g,0,none⟩/\base<=g/\w.cell? ⟨g,0,none⟩=some (.slice A D xc)/\w.ownsRow base 261 4 (.slice A D xc) e.length (pN e):=by
 obtain⟨vs,h1,h2⟩:=h;have hn:G=1:=tI h1 rfl;obtain⟨y,hy,J⟩:=zQ h2 0 af;obtain⟨g,M,hc⟩:=uM h1 af hy;obtain⟨A,D,xc,rfl⟩:=tV J;exact⟨hn,g,A,D,xc,M,(h1.lt g (by rw[M];rfl)).1,hc,J⟩
theorem FK{a:Asm}{lb:ByteArray}(h:a.Ok)(hn:a.n<=40):(oW a lb).Ok:=by
 unfold oW;split
 ·exact h
 exact h.put _ _ (by have:=h.pl;omega) ae
theorem AsmAt.lab{w w':World}{m:AMem}{a:Asm}{lb:ByteArray}(h:AsmAt w m a)(A:m.Ok)(D:¬lb=⟨#[]⟩)(hn:MapAt prog 9 w' m.nb (vq a.n ((fun l=>(a.nm l).map fun x=>Value.int .i64 x) lb.data.toList)) (rB (fun l=>(a.nm l).map fun x=>.int .i64 x) lb.data.toList (.int .i64 (a.pl:Int))))(G:w.grownBy w' (some m.nb)):AsmAt w' m (oW a lb):=by
 unfold oW;rw[jS D];exact h.put A (Ik hn rfl) G
theorem AsmAt.toPl{w:World}{m:AMem}{a:Asm}(h:AsmAt w m a)(A:m.Ok)(z:Nat)(v:Int)(D:v=(z:Int)):AsmAt (w.setCell ⟨m.ab,4,none⟩ (.int .i64 v)) m {a with pl:=z}:=by
 subst D;exact⟨h.st.place _,h.bytes.kept (lX A.e.1),h.laid.kept (lX (fun e=>A.d.1 e.symm)),h.starts.kept (lX (fun e=>A.d.2.1 e.symm))⟩
theorem wU{nm:List UInt8->Option Int}{p:Int}{l:List Trm}{lo hi z:Int}(h:qh nm p l lo hi=some z):lo<=z/\z<=hi:=by
 unfold qh at h;obtain⟨y,_,h2⟩:=l9.1 h;split at h2
 ·cases h2
 cases h2;omega
def Jm(b:Asm):Option Int->Except Int Asm
 |some z=>.ok {b with pl:=z.toNat}
 |none=>.error 6
def dsR(b:Asm)(p:Nat):Option Int->Except Int Asm
 |some z=>.ok {b with pl:=p+z.toNat}
 |none=>.error 6
def E4(b:Asm)(nm:ByteArray):Option Int->Except Int Asm
 |some z=>.ok (b.put nm z)
 |none=>.error 6
theorem DM{w:World}{m:AMem}{a:Asm}(h:AsmAt w m a)(A:a.n<=1000)(k:ByteArray)(hk:k.size<=1000000)(z:Int):∃w',(Instr.mapUpdate 119 (.map (some m.nb)) (.string k) (.int .i64 z)).run prog w=.ok () w'/\MapAt prog 9 w' m.nb (vq a.n ((fun l=>(a.nm l).map fun x=>Value.int .i64 x) k.data.toList)) (rB (fun l=>(a.nm l).map fun x=>.int .i64 x) k.data.toList (.int .i64 z))/\w.grownBy w' (some m.nb):=
 MapAt.store h.st.nms rz underlying119 ak (kO underlying9 ak)
theorem Z0p(w:World)(m:AMem)(a:Asm)(base:Nat)(lb:ByteArray)(x:Stm)(J:Option Addr)(M O:Nat)(S:Option Addr)(U V:Nat)(G:Int)(I:yC w m a base lb x (.slice J M O))(L3:cuF a.nm lb x.task x.name x.vals=false) :
  Calls prog 106 #[.pointer (some ⟨m.ab,0,none⟩),.agg #[.int .i64 G,.int .i64 (a.pl:Int),.string lb,.int .i64 (x.task:Int),.string x.name,.slice J M O,.int .u8 (x.ins.code:Int),.slice S U V,.int .i64 (x.ins.size:Int)]] w (yt w m G (py a lb x)):=by
 have e:py a lb x=.error 3:=by unfold py;rw[jT L3]
 rw[e];clear e;have R:=I.stm;have Z:=fun w' (D:Below w.heap.size w w')=>BA w' m.ab _ _ _ m.nb a.n a.nm (a.pl:Int) base x.vals G (a.pl:Int) lb x.task x.name J M O (x.ins.code:Int) S U V (x.ins.size:Int) (I.at_.st.below D) (I.vals.below D) R.len R.cnt R.used
 have PE:=fun w' (D:Below w.heap.size w w')=>Be w' m.ab _ _ _ m.nb a.n a.nm (a.pl:Int) G (a.pl:Int) lb x.task x.name J M O (x.ins.code:Int) S U V (x.ins.size:Int) (I.at_.st.below D) I.ok.n R.given
 have Sv:=fun w' (D:Below w.heap.size w w')=>Bh w' base x.vals G (a.pl:Int) lb (x.task:Int) x.name J M O (x.ins.code:Int) S U V (x.ins.size:Int) (I.vals.below D) R.len R.cnt
 have Uk:=fun w' (D:Below w.heap.size w w')=>(Z w' D).mono (R':=fun e w2=>e=.panicked (sH 3 G)/\Below w'.heap.size w' w2) (fun e w2 ⟨h1,h2⟩=>⟨h1.trans cO,h2⟩)
 obtain⟨W,hW,K1,NY,A⟩:=tv w G (a.pl:Int) lb (x.task:Int) x.name (.slice J M O) (x.ins.code:Int) (.slice S U V) (x.ins.size:Int);have Kz:Hid (∀w',Below W.heap.size W w'->SS w' w.heap.size G (a.pl:Int) lb (x.task:Int) x.name (.slice J M O) (x.ins.code:Int) (.slice S U V) (x.ins.size:Int)):=fun w' D=>A.grown (D.block _ A.lt) D.size
 have HU:=oP Uk;have HB:=oP K1;have HP:=oP I;have t0:=A.c0;have t1:=A.c1;have t2:=A.c2;have t3:=A.c3;have t4:=A.c4;have t5:=A.c5;have t6:=A.c6;have t7:=A.c7;have t8:=A.c8;clear Z PE Sv K1 A I R Uk;go_enter func106,ntmps106;go_wp2_with (first| (go_at_call 168;refine(HU.o W HB.o).mono ?_;rintro e w1 ⟨rfl,Kh⟩));exact⟨rfl,ChgM.below _ (HB.o.trans (Kh.mono HB.o.size)),rfl⟩
theorem Z2U(w:World)(m:AMem)(a:Asm)(base:Nat)(lb:ByteArray)(x:Stm)(O:Option Addr)(R S:Nat)(V:Option Addr)(Z kc:Nat)(J:Int)(M:yC w m a base lb x (.slice O R S))(L3:cuF a.nm lb x.task x.name x.vals=true)(k:Int)(Mp:cgF a.nm a.n (pW lb x.task x.name)=some k) :
  Calls prog 106 #[.pointer (some ⟨m.ab,0,none⟩),.agg #[.int .i64 J,.int .i64 (a.pl:Int),.string lb,.int .i64 (x.task:Int),.string x.name,.slice O R S,.int .u8 (x.ins.code:Int),.slice V Z kc,.int .i64 (x.ins.size:Int)]] w (yt w m J (py a lb x)):=by
 have e:py a lb x=.error k:=by unfold py;rw[jS bW,Mp]
 rw[e];clear e;have U:=M.stm;have Uj:=fun w' (A:Below w.heap.size w w')=>BA w' m.ab _ _ _ m.nb a.n a.nm (a.pl:Int) base x.vals J (a.pl:Int) lb x.task x.name O R S (x.ins.code:Int) V Z kc (x.ins.size:Int) (M.at_.st.below A) (M.vals.below A) U.len U.cnt U.used
 have PE:=fun w' (A:Below w.heap.size w w')=>Be w' m.ab _ _ _ m.nb a.n a.nm (a.pl:Int) J (a.pl:Int) lb x.task x.name O R S (x.ins.code:Int) V Z kc (x.ins.size:Int) (M.at_.st.below A) M.ok.n U.given
 have Sv:=fun w' (A:Below w.heap.size w w')=>Bh w' base x.vals J (a.pl:Int) lb (x.task:Int) x.name O R S (x.ins.code:Int) V Z kc (x.ins.size:Int) (M.vals.below A) U.len U.cnt
 have Uk:=fun w' (A:Below w.heap.size w w')=>(Uj w' A).mono (R':=fun e w2=>e=.returned (.tuple #[])/\Below w'.heap.size w' w2) (fun e w2 ⟨h1,h2⟩=>⟨h1.trans cO,h2⟩)
 have QA:=fun w' (A:Below w.heap.size w w')=>(PE w' A).mono (R':=fun e w2=>e=.panicked (sH k J)/\Below w'.heap.size w' w2) (fun e w2 ⟨h1,h2⟩=>⟨h1.trans cP,h2⟩)
 obtain⟨W,hW,K1,NY,D⟩:=tv w J (a.pl:Int) lb (x.task:Int) x.name (.slice O R S) (x.ins.code:Int) (.slice V Z kc) (x.ins.size:Int);have I:Hid (∀w',Below W.heap.size W w'->SS w' w.heap.size J (a.pl:Int) lb (x.task:Int) x.name (.slice O R S) (x.ins.code:Int) (.slice V Z kc) (x.ins.size:Int)):=fun w' A=>D.grown (A.block _ D.lt) A.size
 have HU:=oP Uk;have HG:=oP QA;have HB:=oP K1;have HP:=oP M;have t0:=D.c0;have t1:=D.c1;have t2:=D.c2;have t3:=D.c3;have t4:=D.c4;have t5:=D.c5;have t6:=D.c6;have t7:=D.c7;have t8:=D.c8;clear Uj PE Sv K1 D M U Uk QA;go_enter func106,ntmps106;go_wp2_with (first| (go_at_call 168;refine(HU.o W HB.o).mono ?_;rintro e w1 ⟨rfl,Kh⟩;have G:Below W.heap.size W w1:=Kh;have p0:=(I.o _ G).c0;have p1:=(I.o _ G).c1;have p2:=(I.o _ G).c2;have p3:=(I.o _ G).c3;have p4:=(I.o _ G).c4;have p5:=(I.o _ G).c5;have p6:=(I.o _ G).c6;have p7:=(I.o _ G).c7;have p8:=(I.o _ G).c8;have KK:=oP G;clear Kh G)|(go_at_call 169;refine(HG.o w1 (HB.o.trans (KK.o.mono HB.o.size))).mono ?_;rintro e w2 ⟨rfl,Km⟩));have A:=HB.o.trans (KK.o.mono HB.o.size);exact⟨rfl,ChgM.below _ (A.trans (Km.mono A.size)),rfl⟩
theorem Z9A(w:World)(m:AMem)(a:Asm)(base:Nat)(lb:ByteArray)(x:Stm)(S:Option Addr)(U V:Nat)(ka:Option Addr)(kn kc:Nat)(Z:Int)(R:yC w m a base lb x (.slice S U V))(L3:cuF a.nm lb x.task x.name x.vals=true)(Mp:cgF a.nm a.n (pW lb x.task x.name)=none)(Md:pB x.vals=true) :
  Calls prog 106 #[.pointer (some ⟨m.ab,0,none⟩),.agg #[.int .i64 Z,.int .i64 (a.pl:Int),.string lb,.int .i64 (x.task:Int),.string x.name,.slice S U V,.int .u8 (x.ins.code:Int),.slice ka kn kc,.int .i64 (x.ins.size:Int)]] w (yt w m Z (py a lb x)):=by
 have e:py a lb x=.error 6:=by unfold py;rw[jS bW,Mp];simp only;rw[jT Md]
 rw[e];clear e;have KE:=R.stm;have Uj:=fun w' (D:Below w.heap.size w w')=>BA w' m.ab _ _ _ m.nb a.n a.nm (a.pl:Int) base x.vals Z (a.pl:Int) lb x.task x.name S U V (x.ins.code:Int) ka kn kc (x.ins.size:Int) (R.at_.st.below D) (R.vals.below D) KE.len KE.cnt KE.used
 have PE:=fun w' (D:Below w.heap.size w w')=>Be w' m.ab _ _ _ m.nb a.n a.nm (a.pl:Int) Z (a.pl:Int) lb x.task x.name S U V (x.ins.code:Int) ka kn kc (x.ins.size:Int) (R.at_.st.below D) R.ok.n KE.given
 have Sv:=fun w' (D:Below w.heap.size w w')=>Bh w' base x.vals Z (a.pl:Int) lb (x.task:Int) x.name S U V (x.ins.code:Int) ka kn kc (x.ins.size:Int) (R.vals.below D) KE.len KE.cnt
 have Uk:=fun w' (D:Below w.heap.size w w')=>(Uj w' D).mono (R':=fun e I=>e=.returned (.tuple #[])/\Below w'.heap.size w' I) (fun e I ⟨h1,h2⟩=>⟨h1.trans cO,h2⟩)
 have QA:=fun w' (D:Below w.heap.size w w')=>(PE w' D).mono (R':=fun e I=>e=.returned (.tuple #[])/\Below w'.heap.size w' I) (fun e I ⟨h1,h2⟩=>⟨h1.trans cP,h2⟩)
 have Wj8:=fun w' (D:Below w.heap.size w w')=>(Sv w' D).mono (R':=fun e I=>e=.returned (.bool true)/\Below w'.heap.size w' I) (fun e I ⟨h1,h2⟩=>⟨h1.trans (by rw[Md]),h2⟩)
 obtain⟨W,hW,K1,NY,G⟩:=tv w Z (a.pl:Int) lb (x.task:Int) x.name (.slice S U V) (x.ins.code:Int) (.slice ka kn kc) (x.ins.size:Int);have A:Hid (∀w',Below W.heap.size W w'->SS w' w.heap.size Z (a.pl:Int) lb (x.task:Int) x.name (.slice S U V) (x.ins.code:Int) (.slice ka kn kc) (x.ins.size:Int)):=fun w' D=>G.grown (D.block _ G.lt) D.size
 have HU:=oP Uk;have HG:=oP QA;have HT:=oP Wj8;have HB:=oP K1;have HP:=oP R;have t0:=G.c0;have t1:=G.c1;have t2:=G.c2;have t3:=G.c3;have t4:=G.c4;have t5:=G.c5;have t6:=G.c6;have t7:=G.c7;have t8:=G.c8;clear Uj PE Sv K1 G R KE Uk QA Wj8;go_enter func106,ntmps106;go_wp2_with (first| (go_at_call 168;refine(HU.o W HB.o).mono ?_;rintro e w1 ⟨rfl,Kh⟩;have J:Below W.heap.size W w1:=Kh;have p0:=(A.o _ J).c0;have p1:=(A.o _ J).c1;have p2:=(A.o _ J).c2;have p3:=(A.o _ J).c3;have p4:=(A.o _ J).c4;have p5:=(A.o _ J).c5;have p6:=(A.o _ J).c6;have p7:=(A.o _ J).c7;have p8:=(A.o _ J).c8;have KK:=oP J;clear Kh J)|(go_at_call 169;refine(HG.o w1 (HB.o.trans (KK.o.mono HB.o.size))).mono ?_;rintro e I ⟨rfl,Km⟩;have M:Below W.heap.size W I:=KK.o.trans (Km.mono KK.o.size);have q0:=(A.o _ M).c0;have q1:=(A.o _ M).c1;have q2:=(A.o _ M).c2;have q3:=(A.o _ M).c3;have q4:=(A.o _ M).c4;have q5:=(A.o _ M).c5;have q6:=(A.o _ M).c6;have q7:=(A.o _ M).c7;have q8:=(A.o _ M).c8;have Lo:=oP M;clear Km M)|(go_at_call 170;refine(HT.o I (HB.o.trans (Lo.o.mono HB.o.size))).mono ?_;rintro e w3 ⟨rfl,Kq⟩;have O:Below W.heap.size W w3:=Lo.o.trans (Kq.mono Lo.o.size);have r0:=(A.o _ O).c0;have r1:=(A.o _ O).c1;have r2:=(A.o _ O).c2;have r3:=(A.o _ O).c3;have r4:=(A.o _ O).c4;have r5:=(A.o _ O).c5;have r6:=(A.o _ O).c6;have r7:=(A.o _ O).c7;have r8:=(A.o _ O).c8;have Mi:=oP O;clear Kq O));exact⟨rfl,ChgM.below _ (HB.o.trans (Mi.o.mono HB.o.size)),rfl⟩
theorem Z2e(w:World)(m:AMem)(a:Asm)(base:Nat)(lb:ByteArray)(x:Stm)(va:Option Addr)(vn I:Nat)(U:Option Addr)(V kc:Nat)(D:Int)(hp:yC w m a base lb x (.slice va vn I))(L3:cuF a.nm lb x.task x.name x.vals=true)(Mp:cgF a.nm a.n (pW lb x.task x.name)=none)(Md:pB x.vals=false) :
  Calls prog 106 #[.pointer (some ⟨m.ab,0,none⟩),.agg #[.int .i64 D,.int .i64 (a.pl:Int),.string lb,.int .i64 (x.task:Int),.string x.name,.slice va vn I,.int .u8 (x.ins.code:Int),.slice U V kc,.int .i64 (x.ins.size:Int)]] w (yt w m D (py a lb x)):=by
 have KE:=hp.stm;have Uj:=fun w' (M:Below w.heap.size w w')=>BA w' m.ab _ _ _ m.nb a.n a.nm (a.pl:Int) base x.vals D (a.pl:Int) lb x.task x.name va vn I (x.ins.code:Int) U V kc (x.ins.size:Int) (hp.at_.st.below M) (hp.vals.below M) KE.len KE.cnt KE.used
 have PE:=fun w' (M:Below w.heap.size w w')=>Be w' m.ab _ _ _ m.nb a.n a.nm (a.pl:Int) D (a.pl:Int) lb x.task x.name va vn I (x.ins.code:Int) U V kc (x.ins.size:Int) (hp.at_.st.below M) hp.ok.n KE.given
 have Sv:=fun w' (M:Below w.heap.size w w')=>Bh w' base x.vals D (a.pl:Int) lb (x.task:Int) x.name va vn I (x.ins.code:Int) U V kc (x.ins.size:Int) (hp.vals.below M) KE.len KE.cnt
 have Uk:=fun w' (M:Below w.heap.size w w')=>(Uj w' M).mono (R':=fun e S=>e=.returned (.tuple #[])/\Below w'.heap.size w' S) (fun e S ⟨h1,h2⟩=>⟨h1.trans cO,h2⟩)
 have QA:=fun w' (M:Below w.heap.size w w')=>(PE w' M).mono (R':=fun e S=>e=.returned (.tuple #[])/\Below w'.heap.size w' S) (fun e S ⟨h1,h2⟩=>⟨h1.trans cP,h2⟩)
 have Wj8:=fun w' (M:Below w.heap.size w w')=>(Sv w' M).mono (R':=fun e S=>e=.returned (.bool false)/\Below w'.heap.size w' S) (fun e S ⟨h1,h2⟩=>⟨h1.trans (by rw[Md]),h2⟩)
 obtain⟨W,hW,K1,NY,Ks⟩:=tv w D (a.pl:Int) lb (x.task:Int) x.name (.slice va vn I) (x.ins.code:Int) (.slice U V kc) (x.ins.size:Int);have A:Hid (∀w',Below W.heap.size W w'->SS w' w.heap.size D (a.pl:Int) lb (x.task:Int) x.name (.slice va vn I) (x.ins.code:Int) (.slice U V kc) (x.ins.size:Int)):=fun w' M=>Ks.grown (M.block _ Ks.lt) M.size
 have HU:=oP Uk;have HG:=oP QA;have HT:=oP Wj8;have HB:=oP K1;have HP:=oP hp;have t0:=Ks.c0;have t1:=Ks.c1;have t2:=Ks.c2;have t3:=Ks.c3;have t4:=Ks.c4;have t5:=Ks.c5;have t6:=Ks.c6;have t7:=Ks.c7;have t8:=Ks.c8;clear Uj PE Sv K1 Ks hp KE Uk QA Wj8;obtain⟨R,hR⟩:=Zg0 (py a lb x);rw[hR];have HR:=oP hR;clear hR;go_enter func106,ntmps106;go_upto_if 19 with(first| (go_at_call 168;refine(HU.o W HB.o).mono ?_;rintro e w1 ⟨rfl,Kh⟩;have Kn:Below W.heap.size W w1:=Kh;have p0:=(A.o _ Kn).c0;have p1:=(A.o _ Kn).c1;have p2:=(A.o _ Kn).c2;have p3:=(A.o _ Kn).c3;have p4:=(A.o _ Kn).c4;have p5:=(A.o _ Kn).c5;have p6:=(A.o _ Kn).c6;have p7:=(A.o _ Kn).c7;have p8:=(A.o _ Kn).c8;have KK:=oP Kn;clear Kh Kn)|(go_at_call 169;refine(HG.o w1 (HB.o.trans (KK.o.mono HB.o.size))).mono ?_;rintro e S ⟨rfl,Km⟩;have KQ:Below W.heap.size W S:=KK.o.trans (Km.mono KK.o.size);have q0:=(A.o _ KQ).c0;have q1:=(A.o _ KQ).c1;have q2:=(A.o _ KQ).c2;have q3:=(A.o _ KQ).c3;have q4:=(A.o _ KQ).c4;have q5:=(A.o _ KQ).c5;have q6:=(A.o _ KQ).c6;have q7:=(A.o _ KQ).c7;have q8:=(A.o _ KQ).c8;have Lo:=oP KQ;clear Km KQ)|(go_at_call 170;refine(HT.o S (HB.o.trans (Lo.o.mono HB.o.size))).mono ?_;rintro e w3 ⟨rfl,Kq⟩;have KH:Below W.heap.size W w3:=Lo.o.trans (Kq.mono Lo.o.size);have r0:=(A.o _ KH).c0;have r1:=(A.o _ KH).c1;have r2:=(A.o _ KH).c2;have r3:=(A.o _ KH).c3;have r4:=(A.o _ KH).c4;have r5:=(A.o _ KH).c5;have r6:=(A.o _ KH).c6;have r7:=(A.o _ KH).c7;have r8:=(A.o _ KH).c8;have Mi:=oP KH;clear Kq KH));have S8:=oP (HB.o.trans (Mi.o.mono HB.o.size));have P8:Hid (AsmAt w3 m a):=HP.o.at_.below S8.o;have Pb:=oP (A.o w3 Mi.o);have S9:=oP (Ha Mp);clear HU HG HT KK Lo p0 p1 p2 p3 p4 p5 p6 p7 p8 q0 q1 q2 q3 q4 q5 q6 q7 q8 t0 t1 t2 t3 t4 t5 t6 t7 t8;go_cut [] (fun wx=>GP w wx m (oW a lb) base x.vals (.slice va vn I) D (a.pl:Int) lb (x.task:Int) x.name (x.ins.code:Int) (.slice U V kc) (x.ins.size:Int))
 case first=>
  have WH9:Hid (VAt w3 base (.slice va vn I) x.vals):=HP.o.vals.below S8.o;by_cases NX:lb=⟨#[]⟩
  ·have N6:lb.toList.isEmpty=true:=by rw[NX,lB];rfl
   have OD:(!lb.toList.isEmpty)=false:=by simp[N6]
   have HL:Hid (oW a lb=a):=by unfold oW;exact jT NX
   clear NX;rw[OD];go_wp2_with fail;go_meet;exact⟨HL.o.symm ▸ P8.o,ChgM.below _ S8.o,WH9.o,Pb.o⟩
  have N6:=BN NX;have OD:(!lb.toList.isEmpty)=true:=by simp[N6]
  have HL:=oP NX;clear NX;obtain⟨w4,KZ,Ul,Qt⟩:=DM (w:=w3.drew) ⟨P8.o.st.kept rfl rfl,P8.o.bytes.kept rfl,P8.o.laid.kept rfl,P8.o.starts.kept rfl⟩ HP.o.ok.n lb HP.o.stm.lb (a.pl:Int);have a3:=P8.o.st.c3;have a4:=P8.o.st.c4;have We3:w4.heap[w.heap.size]?=w3.heap[w.heap.size]?:=Qt.block _ Pb.o.lt (fun e=>by have h1:=kp e;have h2:=HP.o.at_.nlt;omega);have V9:w4.heap[m.ab]?=w3.heap[m.ab]?:=Qt.block _ P8.o.st.lt (fun e=>P8.o.st.ne (kp e).symm);have b3:=(jW (a:=⟨m.ab,3,none⟩) V9).trans a3;have b4:=(jW (a:=⟨m.ab,4,none⟩) V9).trans a4;have s4:=(jW (a:=⟨w.heap.size,2,none⟩) We3).trans r2;have H4:Hid (GP w w4 m (oW a lb) base x.vals (.slice va vn I) D (a.pl:Int) lb (x.task:Int) x.name (x.ins.code:Int) (.slice U V kc) (x.ins.size:Int)):=⟨AsmAt.lab (w:=w3.drew) ⟨P8.o.st.kept rfl rfl,P8.o.bytes.kept rfl,P8.o.laid.kept rfl,P8.o.starts.kept rfl⟩ HP.o.mok HL.o Ul Qt,(ChgM.below m S8.o).trans ⟨Qt.os,Qt.tape,Qt.output,Qt.size,fun k h1 _ _ _ _ h2=>Qt.block k h1 (fun e=>h2 (kp e))⟩,WH9.o.keptM (fun j h1 h2=>Qt.block j h2 (fun e=>by have h3:=kp e;have h4:=HP.o.lo.2.2.2.2;omega)),Pb.o.grown We3 Qt.size⟩;clear Ul Qt We3 V9 P8 Pb WH9 HP S8 HB Mi A S9 L3 Mp Md r0 r1 r3 r4 r5 r6 r7 r8;rw[OD];go_wp2_with fail;go_region_held3 (fun w'=>w'.cell? ⟨m.ab,3,none⟩=some (.map (some m.nb))/\w'.cell? ⟨m.ab,4,none⟩=some (.int .i64 (a.pl:Int))/\w'.cell? ⟨w.heap.size,2,none⟩=some (.string lb)) (first| exact⟨b3,b4,s4⟩|exact⟨a3,a4,r2⟩) (fail)
  all_goals
   go_wp2_with fail;go_meet;exact H4.o
 case rest=>
 have G:=oP hcut;have Vt0:(0:Int)<=(a.pl:Int):=ae;have YJ:=oP (FK (lb:=lb) HP.o.ok (by have:=S9.o;omega));clear hcut P8 Pb S8 HB Mi A r0 r1 r2 r3 r4 r5 r6 r7 r8;obtain⟨s0,s1,s2,s3,s4,s5,s6,s7,s8,sf,sl⟩:=G.o.ss;by_cases hn:x.task=1\/x.task=4\/x.task=5
 case pos=>
  obtain⟨e0,RV⟩:∃e0,x.vals=[e0]:=List.length_eq_one_iff.1 (HP.o.stm.once (by unfold qz;rcases hn with h|h|h <;> rw[h] <;> rfl));have Ww3:VAt wc base (.slice va vn I) [e0]:=RV ▸ G.o.vals;obtain⟨P9,g,xa,xn,xc,YK,Vb7,Wj9,Ke⟩:=Ww3.one;subst P9 YK;have LN:e0∈x.vals:=by rw[RV];exact lu.2 rfl
  have KR:e0.length<=1000000:=by
   have:=HP.o.stm.cnt;rw[RV]at this;simpa [pL]using this
  have VT:Hid (∀(w':World) (M:Below wc.heap.size wc w') (lo hi:Int),Calls prog 171 #[.pointer (some ⟨m.ab,0,none⟩),.agg #[.int .i64 D,.int .i64 (a.pl:Int),.string lb,.int .i64 (x.task:Int),.string x.name,.slice (some ⟨g,0,none⟩) 1 I,.int .u8 (x.ins.code:Int),.slice U V kc,.int .i64 (x.ins.size:Int)],.slice xa xn xc,.int .i64 lo,.int .i64 hi] w' fun e S=>e=B4 (qh (oW a lb).nm (a.pl:Int) e0 lo hi) D/\Below w'.heap.size w' S):=fun w' M lo hi=>Hw w' m.ab _ _ _ m.nb _ _ _ base e0 D (a.pl:Int) lb _ x.name _ _ _ _ _ _ _ _ xa xn xc lo hi (G.o.at_.st.below M) (rO Ke M) KR (fun t ht=>(HP.o.stm.vals e0 LN t ht).1) (fun t ht=>Z0f YJ.o.nm Md (fun e he t ht=>(HP.o.stm.vals e he t ht).2) LN ht HP.o.ok.pl)
  have Mw:g<wc.heap.size:=lD _ Wj9;have Ob:m.ab<wc.heap.size:=G.o.at_.st.lt
  have HS:Hid (∀w':World,w'.heap[w.heap.size]?=wc.heap[w.heap.size]?->w'.heap[g]?=wc.heap[g]?->w'.cell? ⟨w.heap.size,0,none⟩=some (.int .i64 D)/\w'.cell? ⟨w.heap.size,1,none⟩=some (.int .i64 (a.pl:Int))/\w'.cell? ⟨w.heap.size,2,none⟩=some (.string lb)/\w'.cell? ⟨w.heap.size,3,none⟩=some (.int .i64 (x.task:Int))/\w'.cell? ⟨w.heap.size,4,none⟩=some (.string x.name)/\w'.cell? ⟨w.heap.size,5,none⟩=some (.slice (some ⟨g,0,none⟩) 1 I)/\w'.cell? ⟨w.heap.size,6,none⟩=some (.int .u8 (x.ins.code:Int))/\w'.cell? ⟨w.heap.size,7,none⟩=some (.slice U V kc)/\w'.cell? ⟨w.heap.size,8,none⟩=some (.int .i64 (x.ins.size:Int))/\w'.cell? ⟨g,0,none⟩=some (.slice xa xn xc)):=fun w' k1 k2=>by
   have hc:∀j,w'.cell? ⟨w.heap.size,j,none⟩=wc.cell? ⟨w.heap.size,j,none⟩:=fun j=>jW (a:=⟨w.heap.size,j,none⟩) k1
   exact⟨(hc 0).trans s0,(hc 1).trans s1,(hc 2).trans s2,(hc 3).trans s3,(hc 4).trans s4,(hc 5).trans s5,(hc 6).trans s6,(hc 7).trans s7,(hc 8).trans s8,(jW (a:=⟨g,0,none⟩) k2).trans Wj9⟩
  have Vb8:g≠m.ab/\g≠m.nb:=by have:=HP.o.lo;omega
  have Ww4:w.heap.size≠m.ab/\w.heap.size≠m.nb:=by have h1:=HP.o.at_.st.lt;have h2:=HP.o.at_.nlt;omega
  have Tu:=oP RV;have Lm:∀args w,(callFunc 171 args).run prog w=.ok (.enter 171 args) w:=enters_of func171 aj rfl;have g4:=G.o.at_.st.c4;have Vb9:=G.o.at_.st.fz 4;have g3:=G.o.at_.st.c3;have WI0:=G.o.at_.st.ne;rw[G3]at g4;clear Ww3 Ke LN KR RV;rcases hn with htk|htk|htk
  ·have Kh:((x.task:Int)==1)=true:=by rw[htk];rfl
   have Rl:py a lb x=Jm (oW a lb) (qh (oW a lb).nm (a.pl:Int) e0 0 1023):=by
    unfold py;rw[jS bW,Mp];simp only;rw[jS (by simp[Md]),jT htk,Tu.o];rfl
   obtain⟨O,hO⟩:=Zg0 (qh (oW a lb).nm (a.pl:Int) e0 0 1023);rw[hO]at Rl;have Rm:Hid (R=Jm (oW a lb) O):=HR.o.symm.trans Rl;have Le:=oP (VT.o wc.drew jV.drew 0 1023);rw[hO]at Le;have HO:=oP hO;have Wk0:(a.pl:Int)<=1024:=eS;clear hO Rl VT L3 Mp Md htk S9;cases O with
   |none=>
    have e6:R=.error 6:=Rm.o;subst e6;go_wp2_with fail;go_region_law (first| (refine A8 171 #[.pointer (some ⟨m.ab,0,none⟩),.agg #[.int .i64 D,.int .i64 (a.pl:Int),.string lb,.int .i64 (x.task:Int),.string x.name,.slice (some ⟨g,0,none⟩) 1 I,.int .u8 (x.ins.code:Int),.slice U V kc,.int .i64 (x.ins.size:Int)],.slice xa xn xc,.int .i64 0,.int .i64 1023] rfl aW _ Le.o (fun e w' hh=>⟨sH 6 D,hh.1,rfl,(G.o.chg.trans (ChgM.below m (T0e jV.drew hh.2))),rfl⟩) ?_;intro HF)|(refine yO HF ?_))
    all_goals exact HF.o.elim
   |some z=>
    have e6:R=.ok {oW a lb with pl:=z.toNat}:=Rm.o;subst e6;have hz:=wU HO.o;have Mg:Hid (Calls prog 171 #[.pointer (some ⟨m.ab,0,none⟩),.agg #[.int .i64 D,.int .i64 (a.pl:Int),.string lb,.int .i64 (x.task:Int),.string x.name,.slice (some ⟨g,0,none⟩) 1 I,.int .u8 (x.ins.code:Int),.slice U V kc,.int .i64 (x.ins.size:Int)],.slice xa xn xc,.int .i64 0,.int .i64 1023] wc.drew fun e S=>e=.returned (.int .i64 z)/\Below wc.heap.size wc S):=Le.o.mono fun e S ⟨h1,h2⟩=>⟨h1,⟨h2.os,h2.tape,h2.output,h2.size,h2.block⟩⟩
    clear Le;have RT:Below wc.heap.size wc wc.drew:=(jV).drew;go_wp2_with fail;go_region_held3 (fun w'=>w'.cell? ⟨w.heap.size,0,none⟩=some (.int .i64 D)/\w'.cell? ⟨w.heap.size,1,none⟩=some (.int .i64 (a.pl:Int))/\w'.cell? ⟨w.heap.size,2,none⟩=some (.string lb)/\w'.cell? ⟨w.heap.size,3,none⟩=some (.int .i64 (x.task:Int))/\w'.cell? ⟨w.heap.size,4,none⟩=some (.string x.name)/\w'.cell? ⟨w.heap.size,5,none⟩=some (.slice (some ⟨g,0,none⟩) 1 I)/\w'.cell? ⟨w.heap.size,6,none⟩=some (.int .u8 (x.ins.code:Int))/\w'.cell? ⟨w.heap.size,7,none⟩=some (.slice U V kc)/\w'.cell? ⟨w.heap.size,8,none⟩=some (.int .i64 (x.ins.size:Int))/\w'.cell? ⟨g,0,none⟩=some (.slice xa xn xc)) (first| exact HS.o _ (RT.block _ sl) (RT.block _ Mw)|exact HS.o _ (J.block _ sl) (J.block _ Mw)|exact HS.o _ ((lX Ww4.1).trans (J.block _ sl)) ((lX Vb8.1).trans (J.block _ Mw))) (first| (go_at_call 171;refine Mg.o.mono ?_;rintro e w5 ⟨rfl,J⟩;have g5:=(jW (a:=⟨m.ab,4,none⟩) (J.block _ Ob)).trans g4;have Vt1:=(ku (a:=⟨m.ab,4,none⟩) (J.block _ Ob)).trans Vb9))
    all_goals
     go_wp2_with fail;go_end0;refine⟨(G.o.chg.trans (ChgM.below m J)).set _ _ _ (.inl rfl),rfl,?_⟩;exact(G.o.at_.below J).toPl HP.o.mok z.toNat z ae
  ·have Kh:((x.task:Int)==1)=false:=by rw[htk];rfl
   have Lr:((x.task:Int)==4)=true:=dJ
   have Rl:py a lb x=dsR (oW a lb) a.pl (qh (oW a lb).nm (a.pl:Int) e0 0 (1024-(a.pl:Int))):=by
    unfold py;rw[jS bW,Mp];simp only;rw[jS (by simp[Md]),jS ae,jT htk,Tu.o];rfl
   obtain⟨O,hO⟩:=Zg0 (qh (oW a lb).nm (a.pl:Int) e0 0 (1024-(a.pl:Int)));rw[hO]at Rl;have Rm:Hid (R=dsR (oW a lb) a.pl O):=HR.o.symm.trans Rl;have Le:=oP (VT.o wc.drew jV.drew 0 (1024-(a.pl:Int)));rw[hO]at Le;have HO:=oP hO;have Wk0:(a.pl:Int)<=1024:=eS;clear hO Rl VT L3 Mp Md htk S9;cases O with
   |none=>
    have e6:R=.error 6:=Rm.o;subst e6;have WF7:IntKind.i64.wrap (a.pl:Int)=(a.pl:Int):=ar;go_wp2_with fail;go_region_law (first| (refine C5 (.int .i64 0) 171 #[.pointer (some ⟨m.ab,0,none⟩),.agg #[.int .i64 D,.int .i64 (a.pl:Int),.string lb,.int .i64 (x.task:Int),.string x.name,.slice (some ⟨g,0,none⟩) 1 I,.int .u8 (x.ins.code:Int),.slice U V kc,.int .i64 (x.ins.size:Int)],.slice xa xn xc,.int .i64 0,.int .i64 (1024-(a.pl:Int))] rfl aW _ Le.o (fun e w' hh=>⟨sH 6 D,hh.1,rfl,(G.o.chg.trans (ChgM.below m (T0e jV.drew hh.2))),rfl⟩) ?_;intro HF)|(refine yO HF ?_))
    all_goals exact HF.o.elim
   |some z=>
    have e6:R=.ok {oW a lb with pl:=a.pl+z.toNat}:=Rm.o;subst e6;have hz:=wU HO.o;have Mg:Hid (Calls prog 171 #[.pointer (some ⟨m.ab,0,none⟩),.agg #[.int .i64 D,.int .i64 (a.pl:Int),.string lb,.int .i64 (x.task:Int),.string x.name,.slice (some ⟨g,0,none⟩) 1 I,.int .u8 (x.ins.code:Int),.slice U V kc,.int .i64 (x.ins.size:Int)],.slice xa xn xc,.int .i64 0,.int .i64 (1024-(a.pl:Int))] wc.drew fun e S=>e=.returned (.int .i64 z)/\Below wc.heap.size wc S):=Le.o.mono fun e S ⟨h1,h2⟩=>⟨h1,⟨h2.os,h2.tape,h2.output,h2.size,h2.block⟩⟩
    clear Le;have RT:Below wc.heap.size wc wc.drew:=(jV).drew;obtain⟨Q,hQ⟩:∃Q:Int,(a.pl:Int)+z=Q:=⟨_,rfl⟩;have VN1:0<=Q/\Q<=1024:=ae;have L8:IntKind.i64.wrap Q=Q:=ar;have HQ:=oP (show Q=((a.pl+z.toNat:Nat):Int) by omega);go_wp2_with fail;go_region_with (first| (go_at_call 171;refine Mg.o.mono ?_;rintro e w5 ⟨rfl,J⟩;have g5:=(jW (a:=⟨m.ab,4,none⟩) (J.block _ Ob)).trans g4;have Vt1:=(ku (a:=⟨m.ab,4,none⟩) (J.block _ Ob)).trans Vb9;have Lx:=oP J;clear J))
    all_goals
     go_wp2_with fail;go_end0;refine⟨(G.o.chg.trans (ChgM.below m Lx.o)).set _ _ _ (.inl rfl),rfl,?_⟩;exact(G.o.at_.below Lx.o).toPl HP.o.mok (a.pl+z.toNat) Q HQ.o
  have Kh:((x.task:Int)==1)=false:=dJ;have Lr:((x.task:Int)==4)=false:=dJ;have Lp:((x.task:Int)==5)=true:=dJ
  have Rl:py a lb x=E4 (oW a lb) x.name (qh (oW a lb).nm (a.pl:Int) e0 (-1000000) 1000000):=by
   unfold py;rw[jS bW,Mp];simp only;rw[jS (by simp[Md]),jS ae,jS ae,jT htk,Tu.o];rfl
  obtain⟨O,hO⟩:=Zg0 (qh (oW a lb).nm (a.pl:Int) e0 (-1000000) 1000000);rw[hO]at Rl;have Rm:Hid (R=E4 (oW a lb) x.name O):=HR.o.symm.trans Rl;have Le:=oP (VT.o wc.drew jV.drew (-1000000) 1000000);rw[hO]at Le;have HO:=oP hO;have Wk0:(a.pl:Int)<=1024:=eS;clear hO Rl VT L3 Mp Md htk S9;cases O with
  |none=>
   have e6:R=.error 6:=Rm.o;subst e6;have WI1:Below wc.heap.size wc wc.drew:=(jV).drew;obtain⟨wF,Vc0,_,_⟩:=DM (w:=wc.drew) (G.o.at_.below WI1) YJ.o.n x.name HP.o.stm.name 0;go_wp2_with fail;go_region_law (first| (refine C5 (.int .i64 0) 171 #[.pointer (some ⟨m.ab,0,none⟩),.agg #[.int .i64 D,.int .i64 (a.pl:Int),.string lb,.int .i64 (x.task:Int),.string x.name,.slice (some ⟨g,0,none⟩) 1 I,.int .u8 (x.ins.code:Int),.slice U V kc,.int .i64 (x.ins.size:Int)],.slice xa xn xc,.int .i64 (-1000000),.int .i64 1000000] rfl aW _ Le.o (fun e w' hh=>⟨sH 6 D,hh.1,rfl,(G.o.chg.trans (ChgM.below m (T0e jV.drew hh.2))),rfl⟩) ?_;intro HF)|(refine yO HF ?_))
   all_goals exact HF.o.elim
  |some z=>
   have e6:R=.ok ((oW a lb).put x.name z):=Rm.o;subst e6;have hz:=wU HO.o;have Mg:Hid (Calls prog 171 #[.pointer (some ⟨m.ab,0,none⟩),.agg #[.int .i64 D,.int .i64 (a.pl:Int),.string lb,.int .i64 (x.task:Int),.string x.name,.slice (some ⟨g,0,none⟩) 1 I,.int .u8 (x.ins.code:Int),.slice U V kc,.int .i64 (x.ins.size:Int)],.slice xa xn xc,.int .i64 (-1000000),.int .i64 1000000] wc.drew fun e S=>e=.returned (.int .i64 z)/\Below wc.heap.size wc S):=Le.o.mono fun e S ⟨h1,h2⟩=>⟨h1,⟨h2.os,h2.tape,h2.output,h2.size,h2.block⟩⟩
   clear Le;have RT:Below wc.heap.size wc wc.drew:=(jV).drew
   have KF:Hid (∀w5,Below wc.heap.size wc w5->∃w6,(Instr.mapUpdate 119 (.map (some m.nb)) (.string x.name) (.int .i64 z)).run prog w5=.ok () w6/\AsmAt w6 m ((oW a lb).put x.name z)/\w5.grownBy w6 (some m.nb)):=fun w5 M=>by
    obtain⟨w6,h1,h2,h3⟩:=DM (G.o.at_.below M) YJ.o.n x.name HP.o.stm.name z;exact⟨w6,h1,(G.o.at_.below M).put HP.o.mok (Ik h2 rfl) h3,h3⟩
   go_wp2_with fail;go_region_held3 (fun w'=>w'.cell? ⟨m.ab,3,none⟩=some (.map (some m.nb))/\w'.cell? ⟨w.heap.size,0,none⟩=some (.int .i64 D)/\w'.cell? ⟨w.heap.size,1,none⟩=some (.int .i64 (a.pl:Int))/\w'.cell? ⟨w.heap.size,2,none⟩=some (.string lb)/\w'.cell? ⟨w.heap.size,3,none⟩=some (.int .i64 (x.task:Int))/\w'.cell? ⟨w.heap.size,4,none⟩=some (.string x.name)/\w'.cell? ⟨w.heap.size,5,none⟩=some (.slice (some ⟨g,0,none⟩) 1 I)/\w'.cell? ⟨w.heap.size,6,none⟩=some (.int .u8 (x.ins.code:Int))/\w'.cell? ⟨w.heap.size,7,none⟩=some (.slice U V kc)/\w'.cell? ⟨w.heap.size,8,none⟩=some (.int .i64 (x.ins.size:Int))/\w'.cell? ⟨g,0,none⟩=some (.slice xa xn xc)) (first| exact⟨g3,HS.o _ (RT.block _ sl) (RT.block _ Mw)⟩|exact⟨v3,HS.o _ (J.block _ sl) (J.block _ Mw)⟩|exact⟨v6,HS.o _ k1 k2⟩) (first| (go_at_call 171;refine Mg.o.mono ?_;rintro e w5 ⟨rfl,J⟩;have v3:=(jW (a:=⟨m.ab,3,none⟩) (J.block _ Ob)).trans g3;obtain⟨w6,KZ,Wk1,No⟩:=KF.o w5 J;have v6:=(jW (a:=⟨m.ab,3,none⟩) (No.block _ (ke Ob J.size) (fun e=>WI0 (kp e).symm))).trans v3;have k1:=(No.block w.heap.size (ke sl J.size) (fun e=>Ww4.2 (kp e))).trans (J.block _ sl);have k2:=(No.block g (ke Mw J.size) (fun e=>Vb8.2 (kp e))).trans (J.block _ Mw);have Vt2:=oP Wk1;clear Wk1))
   all_goals
    go_wp2_with fail;go_end0;exact⟨(G.o.chg.trans (ChgM.below m J)).trans ⟨No.os,No.tape,No.output,No.size,fun k h1 _ _ _ _ h2=>No.block k h1 (fun e=>h2 (kp e))⟩,rfl,Vt2.o⟩
 have h1:x.task≠1:=fun e=>hn (.inl e)
 have h4:x.task≠4:=fun e=>hn (.inr (.inl e))
 have h5:x.task≠5:=fun e=>hn (.inr (.inr e))
 have Lv:¬(x.task:Int)=1:=ae;have Ol:¬(x.task:Int)=4:=ae;have Um:¬(x.task:Int)=5:=ae;have Kh:((x.task:Int)==1)=false:=cN;have Lr:((x.task:Int)==4)=false:=by simp[Ol]
 have Lp:((x.task:Int)==5)=false:=by simp[Um]
 clear hn;obtain⟨vs,Vc1,_⟩:=G.o.vals;have P9:vn=x.vals.length:=tI Vc1 rfl
 have Rl:py a lb x=match tq a.pl (pE x.task vn x.ins.size) a.laid with
   |some k=>.error k
   |none=>.ok {oW a lb with pl:=a.pl+pE x.task vn x.ins.size,laid:=qm a.laid a.pl (pE x.task vn x.ins.size),starts:=if x.task=6 then a.starts.set a.pl true else a.starts}:=by
  unfold py;rw[jS bW,Mp];simp only;rw[jS (by simp[Md]),jS h1,jS h4,jS h5,P9];rfl
 have Rm:=oP (HR.o.symm.trans Rl);have QP:=(FW a lb).1;have MU:=(FW a lb).2.1;have hL:=G.o.at_.laid;have hS:=G.o.at_.starts;have hA:=G.o.at_.st;rw[QP]at hL;rw[MU]at hS;rw[G3]at hA;have Xi:=oP (Z9F wc m.ab m.lk m.sk m.c1 m.c2 (iV m.ik m.c0) m.nb (oW a lb).n (oW a lb).nm a.pl a.laid a.starts D (a.pl:Int) lb x.task x.name va vn I (x.ins.code:Int) U V kc x.ins.size hA hL hS HP.o.mok.d HP.o.mok.h1 (by rw[P9];exact HP.o.stm.len) HP.o.ok.pl HP.o.stm.size HP.o.stm.one6);clear Rl QP MU hL hS hA Vc1 P9 L3 Mp Md S9;unfold GO at Xi;obtain⟨Z,hZ⟩:=Zg0 (pE x.task vn x.ins.size);obtain⟨S6,WI2⟩:=Zg0 ((if x.task=6 then a.starts.set a.pl true else a.starts));rw[hZ,WI2]at Xi Rm;cases hF:tq a.pl Z a.laid with
 |some k=>
  rw[hF]at Xi Rm;have RM:Hid (Calls prog 172 #[.pointer (some ⟨m.ab,0,none⟩),.agg #[.int .i64 D,.int .i64 (a.pl:Int),.string lb,.int .i64 (x.task:Int),.string x.name,.slice va vn I,.int .u8 (x.ins.code:Int),.slice U V kc,.int .i64 (x.ins.size:Int)]] wc fun e w'=>e=.panicked (sH k D)/\Chg3 wc w' m.ab m.lk m.sk):=Xi.o.mono fun e w' hh=>⟨hh.1,hh.2.1⟩
  have e6:R=.error k:=Rm.o;subst e6;clear Xi Rm hF hZ WI2;go_wp2_with (first| (go_at_call 172;refine RM.o.mono ?_;rintro e w5 ⟨rfl,h5⟩));exact⟨rfl,G.o.chg.trans (ChgM.of3 h5),rfl⟩
 |none=>
  rw[hF]at Xi Rm;have RM:Hid (Calls prog 172 #[.pointer (some ⟨m.ab,0,none⟩),.agg #[.int .i64 D,.int .i64 (a.pl:Int),.string lb,.int .i64 (x.task:Int),.string x.name,.slice va vn I,.int .u8 (x.ins.code:Int),.slice U V kc,.int .i64 (x.ins.size:Int)]] wc fun e w'=>e=.returned (.tuple #[])/\Chg3 wc w' m.ab m.lk m.sk/\AS w' m.ab (iV m.ik m.c0) (iV m.lk m.c1) (iV m.sk m.c2) m.nb (oW a lb).n (oW a lb).nm ((a.pl+Z:Nat):Int)/\BRow w' m.lk (qm a.laid a.pl Z)/\BRow w' m.sk S6):=Xi.o.mono fun e w' hh=>⟨hh.1,hh.2.1,hh.2.2 rfl⟩
  have e6:R=.ok {oW a lb with pl:=a.pl+Z,laid:=qm a.laid a.pl Z,starts:=S6}:=Rm.o;subst e6;clear Xi Rm hF hZ WI2;go_wp2_with (first| (go_at_call 172;refine RM.o.mono ?_;rintro e w5 ⟨rfl,h5,Wa,Vt3,ZV⟩));go_end0;exact⟨G.o.chg.trans (ChgM.of3 h5),rfl,Wa,G.o.at_.bytes.kept (h5.block _ G.o.at_.bytes.lt HP.o.mok.e.1 HP.o.mok.e.2.1 HP.o.mok.e.2.2.1),Vt3,ZV⟩
theorem Z1o(w:World)(m:AMem)(a:Asm)(base:Nat)(lb:ByteArray)(x:Stm)(A:Option Addr)(D G:Nat)(J:Option Addr)(M O:Nat)(I:Int)(R:yC w m a base lb x (.slice A D G)) :
  Calls prog 106 #[.pointer (some ⟨m.ab,0,none⟩),.agg #[.int .i64 I,.int .i64 (a.pl:Int),.string lb,.int .i64 (x.task:Int),.string x.name,.slice A D G,.int .u8 (x.ins.code:Int),.slice J M O,.int .i64 (x.ins.size:Int)]] w (yt w m I (py a lb x)):=by
 cases S:cuF a.nm lb x.task x.name x.vals with
 |false=>exact Z0p w m a base lb x A D G J M O I R S
 |true=>
  cases U:cgF a.nm a.n (pW lb x.task x.name) with
  |some k=>exact Z2U w m a base lb x A D G J M O I R S k U
  |none=>
   cases V:pB x.vals with
   |true=>exact Z9A w m a base lb x A D G J M O I R S U V
   |false=>exact Z2e w m a base lb x A D G J M O I R S U V
