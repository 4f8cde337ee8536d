/- Asm8 Asm9 Asm9o -/
import Derived.Test.YthokdbcpkmcieaaGreatDoorS19
import Derived.Test.YthokdbcpkmcieaaGreatDoorS12
set_option maxRecDepth 200000
set_option maxHeartbeats 8000000
namespace Go.Proofs.YthokdbcpkmcieaaGreatDoor
open Go Go.RowKit Go.Shelf Go.WideMaps Go.Maps
structure Asm where
 nm:List UInt8→Option Int
 n:Nat
 pl:Nat
 laid:List Bool
 starts:List Bool
 bytes:List UInt8
def Asm.put (a:Asm) (k:ByteArray) (z:Int):Asm:={ a with nm:=fun x=>if x=k.data.toList then some z else a.nm x,n:=if (a.nm k.data.toList).isSome then a.n else a.n+1 }
structure Asm.Ok (a:Asm):Prop where
 pl:a.pl≤1024
 n:a.n≤1000
 nm:∀ l z,a.nm l=some z→-1000000≤z∧z≤1000000
def Z0o (a:Asm) (lb:ByteArray) (x:Stm):Except Int Asm :=
 if cuF a.nm lb x.task x.name x.vals=false then .error 3
 else match cgF a.nm a.n (Z0O lb x.task x.name) with
  | some k=>.error k
  | none =>
   if tooS x.vals=true then .error 6
   else
    let b:=if lb=⟨#[]⟩ then a else a.put lb (a.pl:Int)
    if x.task=1 then match nmbF b.nm (a.pl:Int) (x.vals.headD []) 0 1023 with
     | some z=>.ok { b with pl:=z.toNat }
     | none=>.error 6
    else if x.task=4 then match nmbF b.nm (a.pl:Int) (x.vals.headD []) 0 (1024-(a.pl:Int)) with
     | some z=>.ok { b with pl:=a.pl+z.toNat }
     | none=>.error 6
    else if x.task=5 then match nmbF b.nm (a.pl:Int) (x.vals.headD []) (-1000000) 1000000 with
     | some z=>.ok (b.put x.name z)
     | none=>.error 6
    else match Z33 a.pl (Z1I x.task x.vals.length x.ins.size) a.laid with
     | some k=>.error k
     | none=>.ok { b with pl:=a.pl+Z1I x.task x.vals.length x.ins.size,laid:=setR a.laid a.pl (Z1I x.task x.vals.length x.ins.size),starts:=if x.task=6 then a.starts.set a.pl true else a.starts }
structure AMem where
 ab:Nat
 ik:Nat
 lk:Nat
 sk:Nat
 nb:Nat
 c0:Nat
 c1:Nat
 c2:Nat
structure AMem.Ok (m:AMem):Prop where
 d:m.ab≠m.lk∧m.ab≠m.sk∧m.lk≠m.sk∧m.nb≠m.lk∧m.nb≠m.sk
 e:m.ik≠m.ab∧m.ik≠m.lk∧m.ik≠m.sk∧m.ik≠m.nb
 h0:1024≤m.c0∧m.c0≤maxLen
 h1:1024≤m.c1∧m.c1≤maxLen
 h2:1024≤m.c2∧m.c2≤maxLen
def iV (b c:Nat):Value:=.slice (some ⟨b,0,none⟩) 1024 c
structure YRow (w:World) (b:Nat) (l:List UInt8):Prop where
 at_:w.heap[b]?=some (.cells (l.map fun x=>Value.int .u8 (x.toNat:Int)).toArray 5 (0,0))
 len:l.length=1024
theorem YRow.kept {w w':World}{b:Nat}{l:List UInt8}(h:YRow w b l)(e:w'.heap[b]?=w.heap[b]?):YRow w' b l:=⟨e.trans h.at_,h.len⟩
theorem YRow.lt {w:World}{b:Nat}{l:List UInt8}(h:YRow w b l):b<w.heap.size:=(Array.getElem?_eq_some_iff.1 h.at_).1
structure AsmAt (w:World) (m:AMem) (a:Asm):Prop where
 st:AS w m.ab (iV m.ik m.c0) (iV m.lk m.c1) (iV m.sk m.c2) m.nb a.n a.nm (a.pl:Int)
 bytes:YRow w m.ik a.bytes
 laid:BRow w m.lk a.laid
 starts:BRow w m.sk a.starts
theorem AsmAt.nlt {w:World}{m:AMem}{a:Asm}(h:AsmAt w m a):m.nb<w.heap.size:=MapAt.lt h.st.nms
theorem AsmAt.below {w w':World}{m:AMem}{a:Asm}(h:AsmAt w m a)(hb:Below w.heap.size w w'):AsmAt w' m a:=⟨h.st.below hb,h.bytes.kept (hb.block _ h.bytes.lt),h.laid.kept (hb.block _ h.laid.lt),h.starts.kept (hb.block _ h.starts.lt)⟩
theorem AsmAt.kept {w w':World}{m:AMem}{a:Asm}(h:AsmAt w m a)(e:∀ k,k=m.ab∨k=m.ik∨k=m.lk∨k=m.sk∨k=m.nb→w'.heap[k]?=w.heap[k]?):AsmAt w' m a:=⟨h.st.kept (e _ (.inl rfl)) (e _ (by simp)),h.bytes.kept (e _ (by simp)),h.laid.kept (e _ (by simp)),h.starts.kept (e _ (by simp))⟩
structure ChgM (w w':World) (m:AMem):Prop where
 os:w'.os=w.os
 tape:w'.tape=w.tape
 output:w'.output=w.output
 size:w.heap.size≤w'.heap.size
 block:∀ k,k<w.heap.size→k≠m.ab→k≠m.ik→k≠m.lk→k≠m.sk→k≠m.nb→w'.heap[k]?=w.heap[k]?
theorem ChgM.trans {w w1 w2:World}{m:AMem}(h:ChgM w w1 m)(h2:ChgM w1 w2 m):ChgM w w2 m:=⟨h2.os.trans h.os,h2.tape.trans h.tape,h2.output.trans h.output,Nat.le_trans h.size h2.size,fun k a b c d e f=>(h2.block k (Nat.lt_of_lt_of_le a h.size) b c d e f).trans (h.block k a b c d e f)⟩
theorem ChgM.below {w w1:World}(m:AMem)(h:Below w.heap.size w w1):ChgM w w1 m:=⟨h.os,h.tape,h.output,h.size,fun k a _ _ _ _ _=>h.block k a⟩
theorem ChgM.of3 {w w1:World}{m:AMem}(h:Chg3 w w1 m.ab m.lk m.sk):ChgM w w1 m:=⟨h.os,h.tape,h.output,h.size,fun k a b _ d e _=>h.block k a b d e⟩
theorem ChgM.set {w w1:World}{m:AMem}(h:ChgM w w1 m)(k i:Nat)(v:Value)(hk:k=m.ab∨k=m.ik∨k=m.lk∨k=m.sk):ChgM w (w1.setCell ⟨k,i,none⟩ v) m :=
 ⟨h.os,h.tape,h.output,by simpa [World.setCell] using h.size,fun j a b c d e f=>(heap_setCell_other w1 ⟨k,i,none⟩ j v (by show j≠k;omega)).trans (h.block j a b c d e f)⟩
theorem put_names {w w':World}{nb:Nat}{a:Asm}{k:ByteArray}{z:Int}(h:MapAt Tryz.prog 9 w' nb (putN a.n ((fun l=>(a.nm l).map fun x=>Value.int .i64 x) k.data.toList)) (putF (fun l=>(a.nm l).map fun x=>.int .i64 x) k.data.toList (.int .i64 z)))(hw:w'=w):NamesAt w nb (a.put k z).n (a.put k z).nm:=by
 subst hw
 unfold NamesAt
 have e1:putN a.n ((a.nm k.data.toList).map fun x=>Value.int .i64 x)=(a.put k z).n:=by
  unfold Asm.put putN
  cases a.nm k.data.toList <;> rfl
 rw [←e1]
 refine MapAt.ext h (fun l=>?_)
 unfold putF Asm.put
 simp only
 split <;> rfl
theorem AsmAt.put {w w':World}{m:AMem}{a:Asm}{k:ByteArray}{z:Int}(h:AsmAt w m a)(hm:m.Ok)(hn:NamesAt w' m.nb (a.put k z).n (a.put k z).nm)(hg:w.grownBy w' (some m.nb)):AsmAt w' m (a.put k z):=by
 have hab:w'.heap[m.ab]?=w.heap[m.ab]?:=hg.block _ h.st.lt (fun e=>h.st.ne (Option.some.inj e).symm)
 have hc:∀ j,w'.cell? ⟨m.ab,j,none⟩=w.cell? ⟨m.ab,j,none⟩:=fun j=>World.cell?_of_block (a:=⟨m.ab,j,none⟩) hab
 have hd:=hm.d
 have he:=hm.e
 exact ⟨⟨(hc 0).trans h.st.c0,(hc 1).trans h.st.c1,(hc 2).trans h.st.c2,(hc 3).trans h.st.c3,(hc 4).trans h.st.c4,fun j=>(World.frozen?_of_block (a:=⟨m.ab,j,none⟩) hab).trans (h.st.fz j),hn,h.st.ne⟩,h.bytes.kept (hg.block _ h.bytes.lt (fun e=>he.2.2.2 (Option.some.inj e))),h.laid.kept (hg.block _ h.laid.lt (fun e=>hd.2.2.2.1 (Option.some.inj e).symm)),h.starts.kept (hg.block _ h.starts.lt (fun e=>hd.2.2.2.2 (Option.some.inj e).symm))⟩
theorem Asm.Ok.put {a:Asm}(h:a.Ok)(k:ByteArray)(z:Int)(hz:-1000000≤z∧z≤1000000)(hn:a.n≤999):(a.put k z).Ok:=by
 refine ⟨h.pl,?_,fun l y e=>?_⟩
 ·unfold Asm.put
  simp only
  split <;> omega
 ·unfold Asm.put at e
  simp only at e
  split at e
  ·cases e
   exact hz
  ·exact h.nm l y e
theorem VAt.keptM {w w':World}{base:Nat}{v:Value}{es:List (List Trm)}(h:VAt w base v es)(hb:∀ j,base≤j→j<w.heap.size→w'.heap[j]?=w.heap[j]?):VAt w' base v es:=by
 obtain ⟨vs,h1,h2⟩:=h
 exact ⟨vs,Z1l h1 (fun j hj=>hb j (h1.lt j hj).1 (h1.lt j hj).2),h2.kept (fun j a b _=>hb j a b) (fun _ _ e=>e)⟩
theorem trm_ok {a:Asm}(h:∀ l z,a.nm l=some z→-1000000≤z∧z≤1000000){es:List (List Trm)}(ht:tooS es=false)(hz:∀ e∈es,∀ t∈e,0≤t.num){e:List Trm}(he:e∈es){t:Trm}(hte:t∈e){p:Nat}(hp:p≤1024):-1000000≤trmN a.nm (p:Int) t∧trmN a.nm (p:Int) t≤1000000:=by
 unfold trmN
 split
 ·cases hn:a.nm t.name.data.toList with
  | none=>simp
  | some z=>exact h _ _ hn
 ·split
  ·omega
  ·have h0:=hz e he t hte
   have:decide (65535<t.num)=false:=by
    unfold tooS at ht
    rw [List.any_eq_false] at ht
    have h2:=ht e he
    unfold tooE at h2
    rw [Bool.not_eq_true,List.any_eq_false] at h2
    simpa using h2 t hte
   have h3:=of_decide_eq_false this
   omega
def fltC (n line:Int):List PanicEntry:=[{ v:=.iface 117 (.agg #[.int .i64 n,.int .i64 line]),recovered:=false }]
structure StmOk (lb:ByteArray) (x:Stm):Prop where
 lb:lb.size≤1000000
 name:x.name.size≤1000000
 vals:∀ e∈x.vals,∀ t∈e,t.name.size≤1000000∧0≤t.num
 cnt:cntT x.vals≤1000000
 len:x.vals.length≤1000000
 once:Z1D x.task=true→x.vals.length=1
 one6:x.task=6→1≤x.ins.size
 size:x.ins.size≤100
theorem StmOk.used {lb:ByteArray}{x:Stm}(h:StmOk lb x):∀ s∈Z1f x.vals,s.size≤1000000:=fun s hs=>by
 unfold Z1f Z3k at hs
 obtain ⟨e,he,h1⟩:=List.mem_flatMap.1 hs
 obtain ⟨t,ht,rfl⟩:=List.mem_map.1 h1
 exact (h.vals e he t (List.mem_filter.1 ht).1).1
theorem StmOk.given {lb:ByteArray}{x:Stm}(h:StmOk lb x):∀ s∈Z0O lb x.task x.name,s.size≤1000000:=fun s hs=>by
 unfold Z0O at hs
 rcases List.mem_append.1 hs with h1 | h1
 ·split at h1
  ·cases h1
  ·rw [List.mem_singleton.1 h1]
   exact h.lb
 ·split at h1
  ·rw [List.mem_singleton.1 h1]
   exact h.name
  ·cases h1
structure Z4y (w:World) (m:AMem) (a:Asm) (base:Nat) (lb:ByteArray) (x:Stm) (v:Value):Prop where
 at_:AsmAt w m a
 mok:m.Ok
 ok:a.Ok
 vals:VAt w base v x.vals
 lo:m.ab<base∧m.ik<base∧m.lk<base∧m.sk<base∧m.nb<base
 stm:StmOk lb x
def Z4m (w:World) (m:AMem) (l0:Int) (r:Except Int Asm) (e:Ending) (w':World):Prop :=
 ChgM w w' m∧match r with
  | .error k=>e=faultE k l0
  | .ok b=>e=.returned (.tuple #[])∧AsmAt w' m b
def labA (a:Asm) (lb:ByteArray):Asm:=if lb=⟨#[]⟩ then a else a.put lb (a.pl:Int)
theorem Z7U (a:Asm)(lb:ByteArray):(labA a lb).pl=a.pl:=by
 unfold labA
 split <;> rfl
theorem labA_laid (a:Asm)(lb:ByteArray):(labA a lb).laid=a.laid∧(labA a lb).starts=a.starts∧(labA a lb).bytes=a.bytes:=by
 unfold labA
 split <;> exact ⟨rfl,rfl,rfl⟩
structure Z49 (w wx:World) (m:AMem) (b:Asm) (base:Nat) (es:List (List Trm)) (v:Value) (l0 p0:Int) (lb:ByteArray) (T:Int) (nm:ByteArray) (cd:Int) (kd:Value) (sz:Int):Prop where
 at_:AsmAt wx m b
 chg:ChgM w wx m
 vals:VAt wx base v es
 ss:SS wx w.heap.size l0 p0 lb T nm v cd kd sz
theorem cgF_n {nm:List UInt8→Option Int}{n:Nat}{l:List ByteArray}(h:cgF nm n l=none):n+l.length≤40:=by
 unfold cgF at h
 split at h
 ·cases h
 ·split at h
  ·cases h
  ·omega
theorem VAt.one {w:World}{base:Nat}{va:Option Addr}{vn vc:Nat}{e:List Trm}(h:VAt w base (.slice va vn vc) [e]):vn=1∧∃ g xa xn xc,va=some ⟨g,0,none⟩∧base≤g∧w.cell? ⟨g,0,none⟩=some (.slice xa xn xc)∧w.ownsRow base 261 4 (.slice xa xn xc) e.length (Z0i e):=by
 obtain ⟨vs,h1,h2⟩:=h
 have hn:vn=1:=Z01 h1 rfl
 obtain ⟨y,hy,hr⟩:=Z51 h2 0 (by simp)
 obtain ⟨g,hg,hc⟩:=Z12 h1 (by simp) hy
 obtain ⟨xa,xn,xc,rfl⟩:=Z0E hr
 exact ⟨hn,g,xa,xn,xc,hg,(h1.lt g (by rw [hg];rfl)).1,hc,hr⟩
theorem Z5Y {a:Asm}{lb:ByteArray}(h:a.Ok)(hn:a.n≤40):(labA a lb).Ok:=by
 unfold labA
 split
 ·exact h
 ·exact h.put _ _ (by have:=h.pl;omega) (by omega)
theorem AsmAt.lab {w w':World}{m:AMem}{a:Asm}{lb:ByteArray}(h:AsmAt w m a)(hm:m.Ok)(hlb:¬ lb=⟨#[]⟩)(hn:MapAt Tryz.prog 9 w' m.nb (putN a.n ((fun l=>(a.nm l).map fun x=>Value.int .i64 x) lb.data.toList)) (putF (fun l=>(a.nm l).map fun x=>.int .i64 x) lb.data.toList (.int .i64 (a.pl:Int))))(hg:w.grownBy w' (some m.nb)):AsmAt w' m (labA a lb):=by
 unfold labA
 rw [if_neg hlb]
 exact h.put hm (put_names hn rfl) hg
theorem AsmAt.toPl {w:World}{m:AMem}{a:Asm}(h:AsmAt w m a)(hm:m.Ok)(z:Nat)(v:Int)(hv:v=(z:Int)):AsmAt (w.setCell ⟨m.ab,4,none⟩ (.int .i64 v)) m { a with pl:=z }:=by
 subst hv
 exact ⟨h.st.place _,h.bytes.kept (heap_setCell_other _ _ _ _ hm.e.1),h.laid.kept (heap_setCell_other _ _ _ _ (fun e=>hm.d.1 e.symm)),h.starts.kept (heap_setCell_other _ _ _ _ (fun e=>hm.d.2.1 e.symm))⟩
theorem Z1m {nm:List UInt8→Option Int}{p:Int}{l:List Trm}{lo hi z:Int}(h:nmbF nm p l lo hi=some z):lo≤z∧z≤hi:=by
 unfold nmbF at h
 obtain ⟨y,_,h2⟩:=Option.bind_eq_some_iff.1 h
 split at h2
 ·cases h2
 ·cases h2
  omega
def orgR (b:Asm):Option Int→Except Int Asm
 | some z=>.ok { b with pl:=z.toNat }
 | none=>.error 6
def dsR (b:Asm) (p:Nat):Option Int→Except Int Asm
 | some z=>.ok { b with pl:=p+z.toNat }
 | none=>.error 6
def equR (b:Asm) (nm:ByteArray):Option Int→Except Int Asm
 | some z=>.ok (b.put nm z)
 | none=>.error 6
theorem Z2O {w:World}{m:AMem}{a:Asm}(h:AsmAt w m a)(ha:a.n≤1000)(k:ByteArray)(hk:k.size≤1000000)(z:Int):∃ w',(Instr.mapUpdate 119 (.map (some m.nb)) (.string k) (.int .i64 z)).run Tryz.prog w=.ok () w'∧MapAt Tryz.prog 9 w' m.nb (putN a.n ((fun l=>(a.nm l).map fun x=>Value.int .i64 x) k.data.toList)) (putF (fun l=>(a.nm l).map fun x=>.int .i64 x) k.data.toList (.int .i64 z))∧w.grownBy w' (some m.nb) :=
 MapAt.store h.st.nms strK Tryz.underlying119 (by unfold maxLen;omega) (keyOf_string_mk Tryz.underlying9 (by unfold maxLen;omega))
theorem settle_used (w:World)(m:AMem)(a:Asm)(base:Nat)(lb:ByteArray)(x:Stm)(va:Option Addr)(vn vc:Nat)(ka:Option Addr)(kn kc:Nat)(l0:Int)(hp:Z4y w m a base lb x (.slice va vn vc))(hcu:cuF a.nm lb x.task x.name x.vals=false) :
  Calls Tryz.prog 106 #[.pointer (some ⟨m.ab,0,none⟩),.agg #[.int .i64 l0,.int .i64 (a.pl:Int),.string lb,.int .i64 (x.task:Int),.string x.name,.slice va vn vc,.int .u8 (x.ins.code:Int),.slice ka kn kc,.int .i64 (x.ins.size:Int)]] w (Z4m w m l0 (Z0o a lb x)):=by
 have e:Z0o a lb x=.error 3:=by unfold Z0o;rw [if_pos hcu]
 rw [e]
 clear e
 have hst:=hp.stm
 have HU0:=fun w' (hb:Below w.heap.size w w')=>Z02 w' m.ab _ _ _ m.nb a.n a.nm (a.pl:Int) base x.vals l0 (a.pl:Int) lb x.task x.name va vn vc (x.ins.code:Int) ka kn kc (x.ins.size:Int) (hp.at_.st.below hb) (hp.vals.below hb) hst.len hst.cnt hst.used
 have HG0:=fun w' (hb:Below w.heap.size w w')=>Z0T w' m.ab _ _ _ m.nb a.n a.nm (a.pl:Int) l0 (a.pl:Int) lb x.task x.name va vn vc (x.ins.code:Int) ka kn kc (x.ins.size:Int) (hp.at_.st.below hb) hp.ok.n hst.given
 have HT0:=fun w' (hb:Below w.heap.size w w')=>Z1b w' base x.vals l0 (a.pl:Int) lb (x.task:Int) x.name va vn vc (x.ins.code:Int) ka kn kc (x.ins.size:Int) (hp.vals.below hb) hst.len hst.cnt
 have HU1:=fun w' (hb:Below w.heap.size w w')=>(HU0 w' hb).mono (R':=fun e w2=>e=.panicked (fltC 3 l0)∧Below w'.heap.size w' w2) (fun e w2 ⟨h1,h2⟩=>⟨h1.trans (by rw [hcu];rfl),h2⟩)
 obtain ⟨W,hW,hBW,hWz,hSS⟩:=Z1y w l0 (a.pl:Int) lb (x.task:Int) x.name (.slice va vn vc) (x.ins.code:Int) (.slice ka kn kc) (x.ins.size:Int)
 have HSS:Hid (∀ w',Below W.heap.size W w'→SS w' w.heap.size l0 (a.pl:Int) lb (x.task:Int) x.name (.slice va vn vc) (x.ins.code:Int) (.slice ka kn kc) (x.ins.size:Int)):=fun w' hb=>hSS.grown (hb.block _ hSS.lt) hb.size
 have HU:=Z0a HU1
 have HB:=Z0a hBW
 have HP:=Z0a hp
 have t0:=hSS.c0
 have t1:=hSS.c1
 have t2:=hSS.c2
 have t3:=hSS.c3
 have t4:=hSS.c4
 have t5:=hSS.c5
 have t6:=hSS.c6
 have t7:=hSS.c7
 have t8:=hSS.c8
 clear HU0 HG0 HT0 hBW hSS hp hst HU1
 go_enter Tryz.func106,Tryz.ntmps106
 go_wp2_with (first | (go_at_call 168;refine (HU.out W HB.out).mono ?_;rintro e w1 ⟨rfl,hb1⟩))
 exact ⟨rfl,ChgM.below _ (HB.out.trans (hb1.mono HB.out.size)),rfl⟩
theorem settle_given (w:World)(m:AMem)(a:Asm)(base:Nat)(lb:ByteArray)(x:Stm)(va:Option Addr)(vn vc:Nat)(ka:Option Addr)(kn kc:Nat)(l0:Int)(hp:Z4y w m a base lb x (.slice va vn vc))(hcu:cuF a.nm lb x.task x.name x.vals=true)(k:Int)(hcg:cgF a.nm a.n (Z0O lb x.task x.name)=some k) :
  Calls Tryz.prog 106 #[.pointer (some ⟨m.ab,0,none⟩),.agg #[.int .i64 l0,.int .i64 (a.pl:Int),.string lb,.int .i64 (x.task:Int),.string x.name,.slice va vn vc,.int .u8 (x.ins.code:Int),.slice ka kn kc,.int .i64 (x.ins.size:Int)]] w (Z4m w m l0 (Z0o a lb x)):=by
 have e:Z0o a lb x=.error k:=by unfold Z0o;rw [if_neg (by simp [hcu]),hcg]
 rw [e]
 clear e
 have hst:=hp.stm
 have HU0:=fun w' (hb:Below w.heap.size w w')=>Z02 w' m.ab _ _ _ m.nb a.n a.nm (a.pl:Int) base x.vals l0 (a.pl:Int) lb x.task x.name va vn vc (x.ins.code:Int) ka kn kc (x.ins.size:Int) (hp.at_.st.below hb) (hp.vals.below hb) hst.len hst.cnt hst.used
 have HG0:=fun w' (hb:Below w.heap.size w w')=>Z0T w' m.ab _ _ _ m.nb a.n a.nm (a.pl:Int) l0 (a.pl:Int) lb x.task x.name va vn vc (x.ins.code:Int) ka kn kc (x.ins.size:Int) (hp.at_.st.below hb) hp.ok.n hst.given
 have HT0:=fun w' (hb:Below w.heap.size w w')=>Z1b w' base x.vals l0 (a.pl:Int) lb (x.task:Int) x.name va vn vc (x.ins.code:Int) ka kn kc (x.ins.size:Int) (hp.vals.below hb) hst.len hst.cnt
 have HU1:=fun w' (hb:Below w.heap.size w w')=>(HU0 w' hb).mono (R':=fun e w2=>e=.returned (.tuple #[])∧Below w'.heap.size w' w2) (fun e w2 ⟨h1,h2⟩=>⟨h1.trans (by rw [hcu];rfl),h2⟩)
 have HG1:=fun w' (hb:Below w.heap.size w w')=>(HG0 w' hb).mono (R':=fun e w2=>e=.panicked (fltC k l0)∧Below w'.heap.size w' w2) (fun e w2 ⟨h1,h2⟩=>⟨h1.trans (by rw [hcg];rfl),h2⟩)
 obtain ⟨W,hW,hBW,hWz,hSS⟩:=Z1y w l0 (a.pl:Int) lb (x.task:Int) x.name (.slice va vn vc) (x.ins.code:Int) (.slice ka kn kc) (x.ins.size:Int)
 have HSS:Hid (∀ w',Below W.heap.size W w'→SS w' w.heap.size l0 (a.pl:Int) lb (x.task:Int) x.name (.slice va vn vc) (x.ins.code:Int) (.slice ka kn kc) (x.ins.size:Int)):=fun w' hb=>hSS.grown (hb.block _ hSS.lt) hb.size
 have HU:=Z0a HU1
 have HG:=Z0a HG1
 have HB:=Z0a hBW
 have HP:=Z0a hp
 have t0:=hSS.c0
 have t1:=hSS.c1
 have t2:=hSS.c2
 have t3:=hSS.c3
 have t4:=hSS.c4
 have t5:=hSS.c5
 have t6:=hSS.c6
 have t7:=hSS.c7
 have t8:=hSS.c8
 clear HU0 HG0 HT0 hBW hSS hp hst HU1 HG1
 go_enter Tryz.func106,Tryz.ntmps106
 go_wp2_with (first | (go_at_call 168;refine (HU.out W HB.out).mono ?_;rintro e w1 ⟨rfl,hb1⟩;have hB1:Below W.heap.size W w1:=hb1;have p0:=(HSS.out _ hB1).c0;have p1:=(HSS.out _ hB1).c1;have p2:=(HSS.out _ hB1).c2;have p3:=(HSS.out _ hB1).c3;have p4:=(HSS.out _ hB1).c4;have p5:=(HSS.out _ hB1).c5;have p6:=(HSS.out _ hB1).c6;have p7:=(HSS.out _ hB1).c7;have p8:=(HSS.out _ hB1).c8;have HB1:=Z0a hB1;clear hb1 hB1) | (go_at_call 169;refine (HG.out w1 (HB.out.trans (HB1.out.mono HB.out.size))).mono ?_;rintro e w2 ⟨rfl,hb2⟩))
 have hb:=HB.out.trans (HB1.out.mono HB.out.size)
 exact ⟨rfl,ChgM.below _ (hb.trans (hb2.mono hb.size)),rfl⟩
theorem settle_great (w:World)(m:AMem)(a:Asm)(base:Nat)(lb:ByteArray)(x:Stm)(va:Option Addr)(vn vc:Nat)(ka:Option Addr)(kn kc:Nat)(l0:Int)(hp:Z4y w m a base lb x (.slice va vn vc))(hcu:cuF a.nm lb x.task x.name x.vals=true)(hcg:cgF a.nm a.n (Z0O lb x.task x.name)=none)(htoo:tooS x.vals=true) :
  Calls Tryz.prog 106 #[.pointer (some ⟨m.ab,0,none⟩),.agg #[.int .i64 l0,.int .i64 (a.pl:Int),.string lb,.int .i64 (x.task:Int),.string x.name,.slice va vn vc,.int .u8 (x.ins.code:Int),.slice ka kn kc,.int .i64 (x.ins.size:Int)]] w (Z4m w m l0 (Z0o a lb x)):=by
 have e:Z0o a lb x=.error 6:=by unfold Z0o;rw [if_neg (by simp [hcu]),hcg];simp only;rw [if_pos htoo]
 rw [e]
 clear e
 have hst:=hp.stm
 have HU0:=fun w' (hb:Below w.heap.size w w')=>Z02 w' m.ab _ _ _ m.nb a.n a.nm (a.pl:Int) base x.vals l0 (a.pl:Int) lb x.task x.name va vn vc (x.ins.code:Int) ka kn kc (x.ins.size:Int) (hp.at_.st.below hb) (hp.vals.below hb) hst.len hst.cnt hst.used
 have HG0:=fun w' (hb:Below w.heap.size w w')=>Z0T w' m.ab _ _ _ m.nb a.n a.nm (a.pl:Int) l0 (a.pl:Int) lb x.task x.name va vn vc (x.ins.code:Int) ka kn kc (x.ins.size:Int) (hp.at_.st.below hb) hp.ok.n hst.given
 have HT0:=fun w' (hb:Below w.heap.size w w')=>Z1b w' base x.vals l0 (a.pl:Int) lb (x.task:Int) x.name va vn vc (x.ins.code:Int) ka kn kc (x.ins.size:Int) (hp.vals.below hb) hst.len hst.cnt
 have HU1:=fun w' (hb:Below w.heap.size w w')=>(HU0 w' hb).mono (R':=fun e w2=>e=.returned (.tuple #[])∧Below w'.heap.size w' w2) (fun e w2 ⟨h1,h2⟩=>⟨h1.trans (by rw [hcu];rfl),h2⟩)
 have HG1:=fun w' (hb:Below w.heap.size w w')=>(HG0 w' hb).mono (R':=fun e w2=>e=.returned (.tuple #[])∧Below w'.heap.size w' w2) (fun e w2 ⟨h1,h2⟩=>⟨h1.trans (by rw [hcg];rfl),h2⟩)
 have HT1:=fun w' (hb:Below w.heap.size w w')=>(HT0 w' hb).mono (R':=fun e w2=>e=.returned (.bool true)∧Below w'.heap.size w' w2) (fun e w2 ⟨h1,h2⟩=>⟨h1.trans (by rw [htoo]),h2⟩)
 obtain ⟨W,hW,hBW,hWz,hSS⟩:=Z1y w l0 (a.pl:Int) lb (x.task:Int) x.name (.slice va vn vc) (x.ins.code:Int) (.slice ka kn kc) (x.ins.size:Int)
 have HSS:Hid (∀ w',Below W.heap.size W w'→SS w' w.heap.size l0 (a.pl:Int) lb (x.task:Int) x.name (.slice va vn vc) (x.ins.code:Int) (.slice ka kn kc) (x.ins.size:Int)):=fun w' hb=>hSS.grown (hb.block _ hSS.lt) hb.size
 have HU:=Z0a HU1
 have HG:=Z0a HG1
 have HT:=Z0a HT1
 have HB:=Z0a hBW
 have HP:=Z0a hp
 have t0:=hSS.c0
 have t1:=hSS.c1
 have t2:=hSS.c2
 have t3:=hSS.c3
 have t4:=hSS.c4
 have t5:=hSS.c5
 have t6:=hSS.c6
 have t7:=hSS.c7
 have t8:=hSS.c8
 clear HU0 HG0 HT0 hBW hSS hp hst HU1 HG1 HT1
 go_enter Tryz.func106,Tryz.ntmps106
 go_wp2_with (first | (go_at_call 168;refine (HU.out W HB.out).mono ?_;rintro e w1 ⟨rfl,hb1⟩;have hB1:Below W.heap.size W w1:=hb1;have p0:=(HSS.out _ hB1).c0;have p1:=(HSS.out _ hB1).c1;have p2:=(HSS.out _ hB1).c2;have p3:=(HSS.out _ hB1).c3;have p4:=(HSS.out _ hB1).c4;have p5:=(HSS.out _ hB1).c5;have p6:=(HSS.out _ hB1).c6;have p7:=(HSS.out _ hB1).c7;have p8:=(HSS.out _ hB1).c8;have HB1:=Z0a hB1;clear hb1 hB1) | (go_at_call 169;refine (HG.out w1 (HB.out.trans (HB1.out.mono HB.out.size))).mono ?_;rintro e w2 ⟨rfl,hb2⟩;have hB2:Below W.heap.size W w2:=HB1.out.trans (hb2.mono HB1.out.size);have q0:=(HSS.out _ hB2).c0;have q1:=(HSS.out _ hB2).c1;have q2:=(HSS.out _ hB2).c2;have q3:=(HSS.out _ hB2).c3;have q4:=(HSS.out _ hB2).c4;have q5:=(HSS.out _ hB2).c5;have q6:=(HSS.out _ hB2).c6;have q7:=(HSS.out _ hB2).c7;have q8:=(HSS.out _ hB2).c8;have HB2:=Z0a hB2;clear hb2 hB2) | (go_at_call 170;refine (HT.out w2 (HB.out.trans (HB2.out.mono HB.out.size))).mono ?_;rintro e w3 ⟨rfl,hb3⟩;have hB3:Below W.heap.size W w3:=HB2.out.trans (hb3.mono HB2.out.size);have r0:=(HSS.out _ hB3).c0;have r1:=(HSS.out _ hB3).c1;have r2:=(HSS.out _ hB3).c2;have r3:=(HSS.out _ hB3).c3;have r4:=(HSS.out _ hB3).c4;have r5:=(HSS.out _ hB3).c5;have r6:=(HSS.out _ hB3).c6;have r7:=(HSS.out _ hB3).c7;have r8:=(HSS.out _ hB3).c8;have HB3:=Z0a hB3;clear hb3 hB3))
 exact ⟨rfl,ChgM.below _ (HB.out.trans (HB3.out.mono HB.out.size)),rfl⟩
theorem settle_org (w:World)(m:AMem)(a:Asm)(base:Nat)(lb:ByteArray)(x:Stm)(va:Option Addr)(vn vc:Nat)(ka:Option Addr)(kn kc:Nat)(l0:Int)(hp:Z4y w m a base lb x (.slice va vn vc))(hcu:cuF a.nm lb x.task x.name x.vals=true)(hcg:cgF a.nm a.n (Z0O lb x.task x.name)=none)(htoo:tooS x.vals=false)(htk:x.task=1) :
  Calls Tryz.prog 106 #[.pointer (some ⟨m.ab,0,none⟩),.agg #[.int .i64 l0,.int .i64 (a.pl:Int),.string lb,.int .i64 (x.task:Int),.string x.name,.slice va vn vc,.int .u8 (x.ins.code:Int),.slice ka kn kc,.int .i64 (x.ins.size:Int)]] w (Z4m w m l0 (Z0o a lb x)):=by
 have hti:(x.task:Int)=1:=by omega
 have hst:=hp.stm
 have HU0:=fun w' (hb:Below w.heap.size w w')=>Z02 w' m.ab _ _ _ m.nb a.n a.nm (a.pl:Int) base x.vals l0 (a.pl:Int) lb x.task x.name va vn vc (x.ins.code:Int) ka kn kc (x.ins.size:Int) (hp.at_.st.below hb) (hp.vals.below hb) hst.len hst.cnt hst.used
 have HG0:=fun w' (hb:Below w.heap.size w w')=>Z0T w' m.ab _ _ _ m.nb a.n a.nm (a.pl:Int) l0 (a.pl:Int) lb x.task x.name va vn vc (x.ins.code:Int) ka kn kc (x.ins.size:Int) (hp.at_.st.below hb) hp.ok.n hst.given
 have HT0:=fun w' (hb:Below w.heap.size w w')=>Z1b w' base x.vals l0 (a.pl:Int) lb (x.task:Int) x.name va vn vc (x.ins.code:Int) ka kn kc (x.ins.size:Int) (hp.vals.below hb) hst.len hst.cnt
 rw [hti] at HU0 HG0 HT0 ⊢
 have HU1:=fun w' (hb:Below w.heap.size w w')=>(HU0 w' hb).mono (R':=fun e w2=>e=.returned (.tuple #[])∧Below w'.heap.size w' w2) (fun e w2 ⟨h1,h2⟩=>⟨h1.trans (by rw [hcu];rfl),h2⟩)
 have HG1:=fun w' (hb:Below w.heap.size w w')=>(HG0 w' hb).mono (R':=fun e w2=>e=.returned (.tuple #[])∧Below w'.heap.size w' w2) (fun e w2 ⟨h1,h2⟩=>⟨h1.trans (by rw [hcg];rfl),h2⟩)
 have HT1:=fun w' (hb:Below w.heap.size w w')=>(HT0 w' hb).mono (R':=fun e w2=>e=.returned (.bool false)∧Below w'.heap.size w' w2) (fun e w2 ⟨h1,h2⟩=>⟨h1.trans (by rw [htoo]),h2⟩)
 obtain ⟨W,hW,hBW,hWz,hSS⟩:=Z1y w l0 (a.pl:Int) lb 1 x.name (.slice va vn vc) (x.ins.code:Int) (.slice ka kn kc) (x.ins.size:Int)
 have HSS:Hid (∀ w',Below W.heap.size W w'→SS w' w.heap.size l0 (a.pl:Int) lb 1 x.name (.slice va vn vc) (x.ins.code:Int) (.slice ka kn kc) (x.ins.size:Int)):=fun w' hb=>hSS.grown (hb.block _ hSS.lt) hb.size
 have HU:=Z0a HU1
 have HG:=Z0a HG1
 have HT:=Z0a HT1
 have HB:=Z0a hBW
 have HP:=Z0a hp
 have t0:=hSS.c0
 have t1:=hSS.c1
 have t2:=hSS.c2
 have t3:=hSS.c3
 have t4:=hSS.c4
 have t5:=hSS.c5
 have t6:=hSS.c6
 have t7:=hSS.c7
 have t8:=hSS.c8
 clear HU0 HG0 HT0 hBW hSS hp hst HU1 HG1 HT1
 obtain ⟨R,hR⟩:∃ R,Z0o a lb x=R:=⟨_,rfl⟩
 rw [hR]
 have HR:=Z0a hR
 clear hR
 go_enter Tryz.func106,Tryz.ntmps106
 go_upto_if 19 with (first | (go_at_call 168;refine (HU.out W HB.out).mono ?_;rintro e w1 ⟨rfl,hb1⟩;have hB1:Below W.heap.size W w1:=hb1;have p0:=(HSS.out _ hB1).c0;have p1:=(HSS.out _ hB1).c1;have p2:=(HSS.out _ hB1).c2;have p3:=(HSS.out _ hB1).c3;have p4:=(HSS.out _ hB1).c4;have p5:=(HSS.out _ hB1).c5;have p6:=(HSS.out _ hB1).c6;have p7:=(HSS.out _ hB1).c7;have p8:=(HSS.out _ hB1).c8;have HB1:=Z0a hB1;clear hb1 hB1) | (go_at_call 169;refine (HG.out w1 (HB.out.trans (HB1.out.mono HB.out.size))).mono ?_;rintro e w2 ⟨rfl,hb2⟩;have hB2:Below W.heap.size W w2:=HB1.out.trans (hb2.mono HB1.out.size);have q0:=(HSS.out _ hB2).c0;have q1:=(HSS.out _ hB2).c1;have q2:=(HSS.out _ hB2).c2;have q3:=(HSS.out _ hB2).c3;have q4:=(HSS.out _ hB2).c4;have q5:=(HSS.out _ hB2).c5;have q6:=(HSS.out _ hB2).c6;have q7:=(HSS.out _ hB2).c7;have q8:=(HSS.out _ hB2).c8;have HB2:=Z0a hB2;clear hb2 hB2) | (go_at_call 170;refine (HT.out w2 (HB.out.trans (HB2.out.mono HB.out.size))).mono ?_;rintro e w3 ⟨rfl,hb3⟩;have hB3:Below W.heap.size W w3:=HB2.out.trans (hb3.mono HB2.out.size);have r0:=(HSS.out _ hB3).c0;have r1:=(HSS.out _ hB3).c1;have r2:=(HSS.out _ hB3).c2;have r3:=(HSS.out _ hB3).c3;have r4:=(HSS.out _ hB3).c4;have r5:=(HSS.out _ hB3).c5;have r6:=(HSS.out _ hB3).c6;have r7:=(HSS.out _ hB3).c7;have r8:=(HSS.out _ hB3).c8;have HB3:=Z0a hB3;clear hb3 hB3))
 have HB03:=Z0a (HB.out.trans (HB3.out.mono HB.out.size))
 have HA3:Hid (AsmAt w3 m a):=HP.out.at_.below HB03.out
 have HS3:=Z0a (HSS.out w3 HB3.out)
 have HN40:=Z0a (cgF_n hcg)
 clear HU HG HT HB1 HB2 p0 p1 p2 p3 p4 p5 p6 p7 p8 q0 q1 q2 q3 q4 q5 q6 q7 q8 t0 t1 t2 t3 t4 t5 t6 t7 t8
 go_cut [] (fun wx=>Z49 w wx m (labA a lb) base x.vals (.slice va vn vc) l0 (a.pl:Int) lb 1 x.name (x.ins.code:Int) (.slice ka kn kc) (x.ins.size:Int))
 case first =>
  have HV3:Hid (VAt w3 base (.slice va vn vc) x.vals):=HP.out.vals.below HB03.out
  by_cases hlb:lb=⟨#[]⟩
  ·have hemp:lb.toList.isEmpty=true:=by rw [hlb,ByteArray.toList_eq];rfl
   have hempn:(!lb.toList.isEmpty)=false:=by simp [hemp]
   have HL:Hid (labA a lb=a):=by unfold labA;exact if_pos hlb
   clear hlb
   rw [hempn]
   go_wp2_with fail
   go_meet
   exact ⟨HL.out.symm ▸ HA3.out,ChgM.below _ HB03.out,HV3.out,HS3.out⟩
  ·have hemp:=Z2g hlb
   have hempn:(!lb.toList.isEmpty)=true:=by simp [hemp]
   have HL:=Z0a hlb
   clear hlb
   obtain ⟨w4,hrun,hM4,hg4⟩:=Z2O (w:=w3.drew) ⟨HA3.out.st.kept rfl rfl,HA3.out.bytes.kept rfl,HA3.out.laid.kept rfl,HA3.out.starts.kept rfl⟩ HP.out.ok.n lb HP.out.stm.lb (a.pl:Int)
   have a3:=HA3.out.st.c3
   have a4:=HA3.out.st.c4
   have hs4:w4.heap[w.heap.size]?=w3.heap[w.heap.size]?:=hg4.block _ HS3.out.lt (fun e=>by have h1:=Option.some.inj e;have h2:=HP.out.at_.nlt;omega)
   have hab4:w4.heap[m.ab]?=w3.heap[m.ab]?:=hg4.block _ HA3.out.st.lt (fun e=>HA3.out.st.ne (Option.some.inj e).symm)
   have b3:=(World.cell?_of_block (a:=⟨m.ab,3,none⟩) hab4).trans a3
   have b4:=(World.cell?_of_block (a:=⟨m.ab,4,none⟩) hab4).trans a4
   have s4:=(World.cell?_of_block (a:=⟨w.heap.size,2,none⟩) hs4).trans r2
   have H4:Hid (Z49 w w4 m (labA a lb) base x.vals (.slice va vn vc) l0 (a.pl:Int) lb 1 x.name (x.ins.code:Int) (.slice ka kn kc) (x.ins.size:Int)):=⟨AsmAt.lab (w:=w3.drew) ⟨HA3.out.st.kept rfl rfl,HA3.out.bytes.kept rfl,HA3.out.laid.kept rfl,HA3.out.starts.kept rfl⟩ HP.out.mok HL.out hM4 hg4,(ChgM.below m HB03.out).trans ⟨hg4.os,hg4.tape,hg4.output,hg4.size,fun k h1 _ _ _ _ h2=>hg4.block k h1 (fun e=>h2 (Option.some.inj e))⟩,HV3.out.keptM (fun j h1 h2=>hg4.block j h2 (fun e=>by have h3:=Option.some.inj e;have h4:=HP.out.lo.2.2.2.2;omega)),HS3.out.grown hs4 hg4.size⟩
   clear hM4 hg4 hs4 hab4 HA3 HS3 HV3 HP HB03 HB HB3 HSS HN40 hcu hcg htoo r0 r1 r3 r4 r5 r6 r7 r8
   rw [hempn]
   go_wp2_with fail
   go_region_held3 (fun w'=>w'.cell? ⟨m.ab,3,none⟩=some (.map (some m.nb))∧w'.cell? ⟨m.ab,4,none⟩=some (.int .i64 (a.pl:Int))∧w'.cell? ⟨w.heap.size,2,none⟩=some (.string lb)) (first | exact ⟨b3,b4,s4⟩ | exact ⟨a3,a4,r2⟩) (fail)
   all_goals
    go_wp2_with fail
    go_meet
    exact H4.out
 case rest =>
 have HM:=Z0a hcut
 have hle0:(0:Int)≤(a.pl:Int):=by omega
 have HOKL:=Z0a (Z5Y (lb:=lb) HP.out.ok (by have:=HN40.out;omega))
 clear hcut HA3 HS3 HB03 HB HB3 HSS r0 r1 r2 r3 r4 r5 r6 r7 r8
 obtain ⟨s0,s1,s2,s3,s4,s5,s6,s7,s8,sf,sl⟩:=HM.out.ss
 obtain ⟨e0,he0⟩:∃ e0,x.vals=[e0]:=List.length_eq_one_iff.1 (HP.out.stm.once (by unfold Z1D;rw [htk];rfl))
 have hV1:VAt wc base (.slice va vn vc) [e0]:=he0 ▸ HM.out.vals
 obtain ⟨hvn,g,xa,xn,xc,hva,hgb,hcg0,hrow⟩:=hV1.one
 subst hvn hva
 have hmem:e0∈x.vals:=by rw [he0];exact List.mem_singleton.2 rfl
 have hle:e0.length≤1000000:=by
  have:=HP.out.stm.cnt
  rw [he0] at this
  simpa [cntT] using this
 have HNB:Hid (∀ (w':World) (hb:Below wc.heap.size wc w') (hi:Int),Calls Tryz.prog 171 #[.pointer (some ⟨m.ab,0,none⟩),.agg #[.int .i64 l0,.int .i64 (a.pl:Int),.string lb,.int .i64 1,.string x.name,.slice (some ⟨g,0,none⟩) 1 vc,.int .u8 (x.ins.code:Int),.slice ka kn kc,.int .i64 (x.ins.size:Int)],.slice xa xn xc,.int .i64 0,.int .i64 hi] w' fun e w2=>e=nmbE (nmbF (labA a lb).nm (a.pl:Int) e0 0 hi) l0∧Below w'.heap.size w' w2):=fun w' hb hi=>Z3Q w' m.ab _ _ _ m.nb _ _ _ base e0 l0 (a.pl:Int) lb _ x.name _ _ _ _ _ _ _ _ xa xn xc _ hi (HM.out.at_.st.below hb) (Z0q hrow hb) hle (fun t ht=>(HP.out.stm.vals e0 hmem t ht).1) (fun t ht=>trm_ok HOKL.out.nm htoo (fun e he t ht=>(HP.out.stm.vals e he t ht).2) hmem ht HP.out.ok.pl)
 have hgl:g<wc.heap.size:=World.block_lt_of_cell? _ _ hcg0
 have habl:m.ab<wc.heap.size:=HM.out.at_.st.lt
 have HS:Hid (∀ w':World,w'.heap[w.heap.size]?=wc.heap[w.heap.size]?→w'.heap[g]?=wc.heap[g]?→w'.cell? ⟨w.heap.size,0,none⟩=some (.int .i64 l0)∧w'.cell? ⟨w.heap.size,1,none⟩=some (.int .i64 (a.pl:Int))∧w'.cell? ⟨w.heap.size,2,none⟩=some (.string lb)∧w'.cell? ⟨w.heap.size,3,none⟩=some (.int .i64 1)∧w'.cell? ⟨w.heap.size,4,none⟩=some (.string x.name)∧w'.cell? ⟨w.heap.size,5,none⟩=some (.slice (some ⟨g,0,none⟩) 1 vc)∧w'.cell? ⟨w.heap.size,6,none⟩=some (.int .u8 (x.ins.code:Int))∧w'.cell? ⟨w.heap.size,7,none⟩=some (.slice ka kn kc)∧w'.cell? ⟨w.heap.size,8,none⟩=some (.int .i64 (x.ins.size:Int))∧w'.cell? ⟨g,0,none⟩=some (.slice xa xn xc)):=fun w' k1 k2=>by
  have hc:∀ j,w'.cell? ⟨w.heap.size,j,none⟩=wc.cell? ⟨w.heap.size,j,none⟩:=fun j=>World.cell?_of_block (a:=⟨w.heap.size,j,none⟩) k1
  exact ⟨(hc 0).trans s0,(hc 1).trans s1,(hc 2).trans s2,(hc 3).trans s3,(hc 4).trans s4,(hc 5).trans s5,(hc 6).trans s6,(hc 7).trans s7,(hc 8).trans s8,(World.cell?_of_block (a:=⟨g,0,none⟩) k2).trans hcg0⟩
 have hgm:g≠m.ab∧g≠m.nb:=by have:=HP.out.lo;omega
 have hwm:w.heap.size≠m.ab∧w.heap.size≠m.nb:=by have h1:=HP.out.at_.st.lt;have h2:=HP.out.at_.nlt;omega
 have HE0:=Z0a he0
 have hent:∀ args w,(callFunc 171 args).run Tryz.prog w=.ok (.enter 171 args) w:=enters_of Tryz.func171 (by kernel_rfl) rfl
 have g4:=HM.out.at_.st.c4
 have gf4:=HM.out.at_.st.fz 4
 have g3:=HM.out.at_.st.c3
 have hgne:=HM.out.at_.st.ne
 rw [Z7U] at g4
 clear hV1 hrow hmem hle he0
 have hsf:Z0o a lb x=orgR (labA a lb) (nmbF (labA a lb).nm (a.pl:Int) e0 0 1023):=by
  unfold Z0o
  rw [if_neg (by simp [hcu]),hcg]
  simp only
  rw [if_neg (by simp [htoo]),if_pos htk,HE0.out]
  rfl
 obtain ⟨O,hO⟩:∃ O,nmbF (labA a lb).nm (a.pl:Int) e0 0 1023=O:=⟨_,rfl⟩
 rw [hO] at hsf
 have HSF:Hid (R=orgR (labA a lb) O):=HR.out.symm.trans hsf
 have HN1:=Z0a (HNB.out wc.drew (Below.refl _ _).drew 1023)
 rw [hO] at HN1
 have HO:=Z0a hO
 have hpl4:(a.pl:Int)≤1024:=by have:=HP.out.ok.pl;omega
 clear hO hsf HNB hcu hcg htoo hti htk HN40
 cases O with
 | none =>
  have e6:R=.error 6:=HSF.out
  subst e6
  go_wp2_with fail
  go_region_law (first | (refine Z4p 171 #[.pointer (some ⟨m.ab,0,none⟩),.agg #[.int .i64 l0,.int .i64 (a.pl:Int),.string lb,.int .i64 1,.string x.name,.slice (some ⟨g,0,none⟩) 1 vc,.int .u8 (x.ins.code:Int),.slice ka kn kc,.int .i64 (x.ins.size:Int)],.slice xa xn xc,.int .i64 0,.int .i64 1023] rfl (by simp [go_sem,hent]) _ HN1.out (fun e w' hh=>⟨fltC 6 l0,hh.1,rfl,(HM.out.chg.trans (ChgM.below m (Below.trans (Below.refl _ _).drew hh.2))),rfl⟩) ?_;intro HF) | (refine Z2V HF ?_))
  all_goals exact HF.out.elim
 | some z =>
  have e6:R=.ok { labA a lb with pl:=z.toNat }:=HSF.out
  subst e6
  have hz:=Z1m HO.out
  have HN2:Hid (Calls Tryz.prog 171 #[.pointer (some ⟨m.ab,0,none⟩),.agg #[.int .i64 l0,.int .i64 (a.pl:Int),.string lb,.int .i64 1,.string x.name,.slice (some ⟨g,0,none⟩) 1 vc,.int .u8 (x.ins.code:Int),.slice ka kn kc,.int .i64 (x.ins.size:Int)],.slice xa xn xc,.int .i64 0,.int .i64 1023] wc.drew fun e w2=>e=.returned (.int .i64 z)∧Below wc.heap.size wc w2):=HN1.out.mono fun e w2 ⟨h1,h2⟩=>⟨h1,⟨h2.os,h2.tape,h2.output,h2.size,h2.block⟩⟩
  clear HN1
  have hBd:Below wc.heap.size wc wc.drew:=(Below.refl _ _).drew
  go_wp2_with fail
  go_region_held3 (fun w'=>w'.cell? ⟨w.heap.size,0,none⟩=some (.int .i64 l0)∧w'.cell? ⟨w.heap.size,1,none⟩=some (.int .i64 (a.pl:Int))∧w'.cell? ⟨w.heap.size,2,none⟩=some (.string lb)∧w'.cell? ⟨w.heap.size,3,none⟩=some (.int .i64 1)∧w'.cell? ⟨w.heap.size,4,none⟩=some (.string x.name)∧w'.cell? ⟨w.heap.size,5,none⟩=some (.slice (some ⟨g,0,none⟩) 1 vc)∧w'.cell? ⟨w.heap.size,6,none⟩=some (.int .u8 (x.ins.code:Int))∧w'.cell? ⟨w.heap.size,7,none⟩=some (.slice ka kn kc)∧w'.cell? ⟨w.heap.size,8,none⟩=some (.int .i64 (x.ins.size:Int))∧w'.cell? ⟨g,0,none⟩=some (.slice xa xn xc)) (first | exact HS.out _ (hBd.block _ sl) (hBd.block _ hgl) | exact HS.out _ (hB5.block _ sl) (hB5.block _ hgl) | exact HS.out _ ((heap_setCell_other _ _ _ _ hwm.1).trans (hB5.block _ sl)) ((heap_setCell_other _ _ _ _ hgm.1).trans (hB5.block _ hgl))) (first | (go_at_call 171;refine HN2.out.mono ?_;rintro e w5 ⟨rfl,hB5⟩;have g5:=(World.cell?_of_block (a:=⟨m.ab,4,none⟩) (hB5.block _ habl)).trans g4;have gf5:=(World.frozen?_of_block (a:=⟨m.ab,4,none⟩) (hB5.block _ habl)).trans gf4))
  all_goals
   go_wp2_with fail
   go_end0
   refine ⟨(HM.out.chg.trans (ChgM.below m hB5)).set _ _ _ (.inl rfl),rfl,?_⟩
   exact (HM.out.at_.below hB5).toPl HP.out.mok z.toNat z (by omega)
end Go.Proofs.YthokdbcpkmcieaaGreatDoor
