/- EarW5 EarW6 Fra1 Fra2 Txt EarO2 -/
import Derived.Test.YthokdbcpkmcieabGreatDoorE30
import Derived.ArgAppend
import Derived.Great.BuildSlice
import Derived.Deep.DeepCutAuto
import Derived.Laws.AppendOwnNone
import Derived.Test.YthokdbcpkmcieabGreatDoorE27
set_option maxRecDepth 200000
set_option maxHeartbeats 8000000
namespace Go.Proofs.YthokdbcpkmcieabGreatDoor
open Go Go.RowKit
theorem bytes_ofE (s:ByteArray)(w:World):∃ w1 cap,(convert 9 32 (.string s)).run Tryz.prog w=.ok (.slice (some ⟨w.heap.size,0,none⟩) s.size cap) w1∧BytesAt w1 w.heap.size 0 s.data.toList ∧
  (∀ j,j<cap→(w1.cell? ⟨w.heap.size,j,none⟩).isSome=true∧w1.frozen? ⟨w.heap.size,j,none⟩=false)∧Below w.heap.size w w1∧w1.heap.size=w.heap.size+1:=by
 have hge:=grownCap_ge w s.size 0 5
 have hsz:(bytesRow s (grownCap w s.size 0 5)).size=grownCap w s.size 0 5:=by
  unfold bytesRow
  rw [Array.size_append,Array.size_map,Array.size_replicate]
  show s.size+_=_
  omega
 refine ⟨_,_,run_bytes_of_string w 9 32 5 s Tryz.underlying9 Tryz.underlying32 Tryz.underlying5,?_,?_,?_,?_⟩
 ·intro i hi
  have h':i<s.data.size:=by simpa using hi
  rw [Nat.zero_add]
  have e:=World.cell?_alloc_mark w.drew (bytesRow s (grownCap w s.size 0 5)) 5 ((bytesRow s (grownCap w s.size 0 5)).size,(bytesRow s (grownCap w s.size 0 5)).size+1) i
  have e2:w.drew.heap.size=w.heap.size:=rfl
  rw [e2] at e
  rw [e,bytesRow_at s _ i h',List.getD_eq_getElem?_getD,Array.getElem?_toList,Array.getElem?_eq_getElem h']
  rfl
 ·intro j hj
  have e:=World.cell?_alloc_mark w.drew (bytesRow s (grownCap w s.size 0 5)) 5 ((bytesRow s (grownCap w s.size 0 5)).size,(bytesRow s (grownCap w s.size 0 5)).size+1) j
  have f:=World.frozen?_alloc_mark w.drew (bytesRow s (grownCap w s.size 0 5)) 5 (bytesRow s (grownCap w s.size 0 5)).size ((bytesRow s (grownCap w s.size 0 5)).size+1) j
  have e2:w.drew.heap.size=w.heap.size:=rfl
  rw [e2] at e f
  refine ⟨?_,?_⟩
  ·rw [e,Array.getElem?_eq_getElem (by omega)];rfl
  ·rw [f,hsz];simp;omega
 ·exact (Below.refl _ _).drew.alloc (Nat.le_refl _) _
 ·show (w.heap.push _).size=_
  simp
theorem Tryz.infoU8E:(Tryz.prog.info? 5).map (fun i=>(i.zero,i.size,i.bytes))=some (some (.int .u8 0),1,1):=by kernel_rfl
def Z0f (l:List UInt8):List Value:=l.map fun b=>.int .u8 (b.toNat:Int)
theorem Z6m (l:List UInt8)(j:Nat)(u:Value)(h:(Z0f l)[j]?=some u):j<l.length∧u=.int .u8 ((l.getD j 0).toNat:Int):=by
 unfold Z0f at h
 rw [List.getElem?_map] at h
 cases hg:l[j]? with
 | none=>rw [hg] at h;cases h
 | some b =>
  rw [hg] at h
  have:=(List.getElem?_eq_some_iff.1 hg).1
  refine ⟨this,?_⟩
  rw [List.getD_eq_getElem?_getD,hg]
  simpa using h.symm
theorem bytes_holds {w:World}{g:Nat}{l:List UInt8}(h:BytesAt w g 0 l):∀ j u,(Z0f l)[j]?=some u→w.cell? ⟨g,0+j,none⟩=some u:=by
 intro j u hj
 obtain ⟨h1,rfl⟩:=Z6m l j u hj
 exact h j h1
theorem Z69 {w:World}{g:Nat}{l:List UInt8}(h:∀ j u,(Z0f l)[j]?=some u→w.cell? ⟨g,j,none⟩=some u):BytesAt w g 0 l:=by
 intro i hi
 rw [Nat.zero_add]
 refine h i _ ?_
 unfold Z0f
 rw [List.getElem?_map,List.getElem?_eq_getElem hi,List.getD_eq_getElem?_getD,List.getElem?_eq_getElem hi]
 rfl
theorem Z0y (l:List UInt8):(Z0f l).length=l.length:=by simp [Z0f]
theorem Z1H (a b:List UInt8):Z0f (a++b)=Z0f a++Z0f b:=by simp [Z0f]
theorem Z6M {w:World}{base g n cap:Nat}{l:List UInt8}(h:w.ownsRow base 5 1 (.slice (some ⟨g,0,none⟩) n cap) n (Z0f l)):BytesAt w g 0 l:=by
 apply Z69
 intro j u hj
 have:=h.cells (g:=g) rfl j u hj
 rwa [Addr.add_lit,Nat.zero_add] at this
theorem set_bytes {w:World}{g n:Nat}{l t:List UInt8}(hn:l.length=n)(h:BytesAt w g 0 l)(hs:∀ j,j<(Z0f t).length→(w.cell? ⟨g,n+j,none⟩).isSome=true):BytesAt (w.setCells g n (Z0f t)) g 0 (l++t):=by
 intro i hi
 rw [Nat.zero_add]
 by_cases hl:i<n
 ·rw [World.cell?_setCells_out _ _ _ _ _ (fun _ _=>.inl hl)]
  have:=h i (by omega)
  rw [Nat.zero_add] at this
  rw [this]
  simp only [List.getD_eq_getElem?_getD]
  rw [List.getElem?_append_left (by omega)]
 ·have hj:i-n<t.length:=by simp at hi;omega
  have:=World.cell?_setCells_in g (Z0f t) n w hs (i-n) (by rw [Z0y];exact hj)
  rw [show n+(i-n)=i by omega] at this
  rw [this]
  simp only [List.getD_eq_getElem?_getD]
  rw [List.getElem?_append_right (by omega),hn,List.getElem?_eq_getElem hj]
  simp [Z0f]
theorem Z4R (b:Nat):∀ (vs:List Value) (o:Nat) (w:World) (k:Nat),k≠b→(w.setCells b o vs).heap[k]?=w.heap[k]?
 | [],_,_,_,_=>rfl
 | v :: vs,o,w,k,h=>by
  show ((w.setCell ⟨b,o,none⟩ v).setCells b (o+1) vs).heap[k]?=_
  rw [Z4R b vs (o+1) _ k h,Below.heap_setCell _ _ _ _ (by simpa using h)]
theorem size_setCells (b:Nat):∀ (vs:List Value) (o:Nat) (w:World),(w.setCells b o vs).heap.size=w.heap.size
 | [],_,_=>rfl
 | v :: vs,o,w=>by
  show ((w.setCell ⟨b,o,none⟩ v).setCells b (o+1) vs).heap.size=_
  rw [size_setCells b vs (o+1) _];simp [World.setCell]
theorem Z4C (b:Nat):∀ (vs:List Value) (o:Nat) (w:World),(w.setCells b o vs).os=w.os∧(w.setCells b o vs).tape=w.tape∧(w.setCells b o vs).output=w.output
 | [],_,_=>⟨rfl,rfl,rfl⟩
 | v :: vs,o,w=>Z4C b vs (o+1) (w.setCell ⟨b,o,none⟩ v)
theorem Z3P {P:Program}{ops:Array Oper}{rest:List Oper}{o:Oper}{a:Act}{w:World}{Q:Exit→Act→World→Prop}(hg:o.guard=none)(t e:TypeId)(len:Nat)(parts:Array (Nat × Operand))(ho:o.op=.buildSlice t len parts)
  (xs:List Operand) (vs:List Value) (hp:parts.toList=(xs.zipIdx 0).map fun x=>(x.2,x.1)) (he:xs.map a.eval=vs) (h1:∀ v∈vs,v.cells=#[v]) (ie:TypeInfo) (z:Value)
  (hu:P.underlying t=some (.slice e)) (hie:P.info? e=some ie) (hz:ie.zero=some z) (hs:ie.size=1) (hlen:len=xs.length) (hpos:0<len) (hsmall:len≤2 ^ 24)
  (h:wpList P ops Q rest (a.put o.dst (.slice (some ⟨w.heap.size,0,none⟩) len len)) (w.alloc (.cells vs.toArray e))):wpList P ops Q (o :: rest) a w:=by
 refine wpList_buildSlice hg t e len parts ho vs.toArray ie z hu hie hz (by rw [hs];omega) (by rw [hs];omega) ?_ h
 rw [hs]
 have e1:(parts.map fun (i,x)=>(i,a.eval x)).toList=(vs.zipIdx 0).map fun x=>(x.2,x.1):=by
  rw [Array.toList_map,hp,← he,List.zipIdx_map,List.map_map,List.map_map]
  rfl
 rw [e1]
 have hl:vs.length=xs.length:=by rw [←he];simp
 exact Great.fill_flat vs _ h1 (by simp [hl,hlen])
theorem ints_one (k:IntKind):∀ (zs:List Int),∀ v∈zs.map (Value.int k),v.cells=#[v]:=by
 intro zs v hv
 obtain ⟨n,_,rfl⟩:=List.mem_map.1 hv
 rfl
theorem Z4H (w:World)(l:List Value)(t:TypeId):∀ j u,l[j]?=some u→(w.alloc (.cells l.toArray t)).cell? ((⟨w.heap.size,0,none⟩:Addr).add j)=some u:=by
 intro j u hj
 rw [Addr.add_lit,Nat.zero_add]
 have:=World.cell?_alloc_mark w l.toArray t (0,0) j
 rw [this]
 simpa using hj
theorem Z2K {w:World}{base:Nat}{e:TypeId}{size n:Nat}{v:Value}{xs:List Value}(h:w.ownsRow base e size v n xs)(hn:0<n):∃ g cap,v=.slice (some ⟨g,0,none⟩) n cap∧base≤g∧g<w.heap.size:=by
 have hl:=h.lt
 obtain ⟨_,⟨rfl,h0⟩ | ⟨g,cap,cur,rfl,hg,_⟩⟩:=h
 ·omega
 ·exact ⟨g,cap,rfl,hg,(hl g rfl).2⟩
theorem World.alloc_size (w:World)(o:Obj):(w.alloc o).heap.size=w.heap.size+1:=by simp
theorem checked_room {w w1 w2:World}{l t:List UInt8}{n cap:Nat}{o:Obj}(hn:l.length=n)(b1:Below w.heap.size w w1)(b2:Below w1.heap.size w1 w2)(hlt:w1.heap.size<w2.heap.size)(hb:BytesAt w2 w1.heap.size 0 l)
  (hs:∀ j,j<cap→(w2.cell? ⟨w1.heap.size,j,none⟩).isSome=true) (hr:n+t.length≤cap) :
  w.heap.size≤w1.heap.size∧w1.heap.size<((w2.alloc o).setCells w1.heap.size n (Z0f t)).heap.size∧BytesAt ((w2.alloc o).setCells w1.heap.size n (Z0f t)) w1.heap.size 0 (l++t)∧Below w.heap.size w ((w2.alloc o).setCells w1.heap.size n (Z0f t)):=by
 have z1:=b1.size
 have z2:=b2.size
 refine ⟨z1,?_,?_,?_⟩
 ·rw [size_setCells,World.alloc_size];omega
 ·refine set_bytes hn (hb.kept (Below.heap_alloc _ _ _ hlt)) (fun j hj=>?_)
  rw [Z0y] at hj
  rw [World.cell?_alloc_old _ _ _ (Nat.ne_of_lt hlt)]
  exact hs _ (by omega)
 ·obtain ⟨r1,r2,r3⟩:=Z4C w1.heap.size (Z0f t) n (w2.alloc o)
  refine ⟨r1.trans (b2.os.trans b1.os),r2.trans (b2.tape.trans b1.tape),r3.trans (b2.output.trans b1.output),?_,fun k hk=>?_⟩
  ·rw [size_setCells,World.alloc_size];omega
  ·rw [Z4R _ _ _ _ _ (by omega),Below.heap_alloc _ _ _ (by omega),b2.block k (by omega),b1.block k hk]
theorem checked_any (m:ByteArray)(w:World)(hm:m.size≤1000) :
  Calls Tryz.prog 151 #[.string m] w fun e w'=>∃ g cap,e=.returned (.slice (some ⟨g,0,none⟩) (m.size+2) cap)∧w.heap.size≤g∧g<w'.heap.size∧BytesAt w' g 0 (m.data.toList++chkB m.data.toList)∧Below w.heap.size w w':=by
 obtain ⟨i0,hi,hz0,hz1,hz2⟩:=Z3n Tryz.infoU8E
 have hlen:m.data.toList.length=m.size:=by rw [Array.length_toList];rfl
 obtain ⟨w1,cap1,hrun1,hb1,_,hB1,hs1⟩:=bytes_ofE m w
 obtain ⟨w2,cap2,hrun2,hb2,hsp2,hB2,hs2⟩:=bytes_ofE m w1
 obtain ⟨l,hl⟩:∃ l,m.data.toList=l:=⟨_,rfl⟩
 rw [hl] at hb1 hb2 hlen ⊢
 have HC:=Z0a (Z4J w.heap.size 0 cap1 l w1 (by omega) hb1)
 rw [hlen] at HC
 obtain ⟨c,hc⟩:∃ c,crcN l=c:=⟨_,rfl⟩
 have hcl:c<65536:=by rw [←hc];exact Z50 l
 have HK:Hid (chkB l=[UInt8.ofNat (c/256),UInt8.ofNat (c%256)]):=by rw [←hc];rfl
 rw [hc] at HC
 have q1:((c:Int)/256%256)=((UInt8.ofNat (c/256)).toNat:Int):=by rw [UInt8.toNat_ofNat'];omega
 have q2:((c:Int)%256)=((UInt8.ofNat (c%256)).toNat:Int):=by rw [UInt8.toNat_ofNat'];omega
 have Q1:=Z0a q1
 have Q2:=Z0a q2
 clear q1 q2
 have HB2:=Z0a hb2
 have HS2:=Z0a hsp2
 have HBB:=Z0a (And.intro hB1 hB2)
 have HZ:=Z0a (And.intro hs1 hs2)
 clear hb1 hb2 hsp2 hB1 hB2 hl hc hs1 hs2
 go_enter Tryz.func151,Tryz.ntmps151
 go_wp2_with fail
 refine HC.out.mono ?_
 rintro e w' ⟨rfl,hw'⟩
 subst hw'
 go_wp2_with (first | (refine Z3P rfl 32 5 2 _ rfl [.tmp 11,.tmp 13] [.int .u8 ((c:Int)/256),.int .u8 ((c:Int)%256)] rfl rfl (ints_one .u8 [(c:Int)/256,(c:Int)%256]) i0 (.int .u8 0) Tryz.underlying32 hi hz0 hz1 rfl (by decide) (by decide) ?_;simp only [Act.put,List.setIfInBounds_toArray,List.set_cons_succ,List.set_cons_zero]) | (at_builtin;refine wpList_append_arg _ rfl _ _ 32 rfl 5 i0 (.int .u8 0) 1 1 Tryz.underlying32 hi hz0 hz1 hz2 rfl (by decide) w'.heap.size 0 m.size cap2 (Z0f l) rfl (by rw [Z0y,hlen,Nat.mul_one]) ?olds ⟨w2.heap.size,0,none⟩ 2 2 [.int .u8 ((c:Int)/256),.int .u8 ((c:Int)%256)] rfl rfl (Z4H _ _ _) ?ones ?spare (by unfold maxLen;omega) (by omega) ?room ?grow))
 case olds =>
  intro j u hj
  rw [World.cell?_alloc_old _ _ _ (by have:=HZ.out.2;show w'.heap.size≠_;omega)]
  exact bytes_holds HB2.out j u hj
 case ones =>
  intro u hu
  simp at hu
  rcases hu with rfl | rfl <;> rfl
 case spare =>
  intro hr j hj
  simp only [List.length_cons,List.length_nil] at hj
  have hlt:w'.heap.size<w2.heap.size:=by have:=HZ.out.2;omega
  rw [World.cell?_alloc_old _ _ _ (Nat.ne_of_lt hlt),World.frozen?_of_block (a:=⟨w'.heap.size,0+m.size*1+j,none⟩) (Below.heap_alloc _ _ _ hlt)]
  have:=HS2.out (m.size+j) (by omega)
  rw [show 0+m.size*1+j=m.size+j by omega]
  exact this
 case room =>
  intro hr
  have hlt:w'.heap.size<w2.heap.size:=by have:=HZ.out.2;omega
  have hfin:=checked_room (w:=w) (w1:=w') (w2:=w2) (l:=l) (n:=m.size) (cap:=cap2) (o:=.cells #[.int .u8 ((c:Int)/256),.int .u8 ((c:Int)%256)] 5) (t:=[UInt8.ofNat (c/256),UInt8.ofNat (c%256)]) hlen HBB.out.1 HBB.out.2 hlt HB2.out (fun j hj=>(HS2.out j hj).1) (by simpa using hr)
  have hvs:Z0f [UInt8.ofNat (c/256),UInt8.ofNat (c%256)]=[.int .u8 ((c:Int)/256),.int .u8 ((c:Int)%256)]:=by
   simp only [Z0f,List.map_cons,List.map_nil]
   rw [←Q2.out,← Q1.out,show ((c:Int)/256%256)=(c:Int)/256 by omega]
  rw [hvs] at hfin
  have HF:=Z0a hfin
  have HL:=Z0a hlt
  clear hfin hlt hvs
  go_wp2
  go_ret
  refine ⟨w'.heap.size,cap2,rfl,HF.out.1,HF.out.2.1,?_,HF.out.2.2.2⟩
  rw [HK.out];exact HF.out.2.2.1
 case grow =>
  intro hc2 v' wn hown hgr
  obtain ⟨g,capn,rfl,hg1,hg2⟩:=Z2K hown (by omega)
  have hvs:Z0f (l++chkB l)=Z0f l ++ [.int .u8 ((c:Int)/256),.int .u8 ((c:Int)%256)]:=by
   rw [Z1H,HK.out]
   congr 1
   simp only [Z0f,List.map_cons,List.map_nil]
   rw [←Q2.out,← Q1.out,show ((c:Int)/256%256)=(c:Int)/256 by omega]
  rw [←hvs] at hown
  have hbt:=Z6M hown
  have hbl:Below w.heap.size w wn:=by
   have b1:=HBB.out.1
   have b2:=HBB.out.2
   have z1:=b1.size
   have z2:=b2.size
   have z3:=hgr.size
   simp only [World.alloc_size] at z3
   refine ⟨(hgr.os.trans b2.os).trans b1.os,(hgr.tape.trans b2.tape).trans b1.tape,(hgr.output.trans b2.output).trans b1.output,by omega,fun k hk=>?_⟩
   rw [hgr.block k (by simp;omega) (by simp),Below.heap_alloc _ _ _ (by omega),b2.block k (by omega),b1.block k hk]
  have HF:=Z0a (And.intro hbt hbl)
  have HG:=Z0a (And.intro hg1 hg2)
  clear hown hgr hbt hbl hvs hg1 hg2
  go_wp2
  go_ret
  have z1:=HBB.out.1.size
  have z2:=HBB.out.2.size
  have z3:=HG.out.1
  try simp only [World.alloc_size] at z3
  exact ⟨g,capn,rfl,by omega,HG.out.2,HF.out.1,HF.out.2⟩
def AppEnd (w:World) (base:Nat) (v:Value) (l:List UInt8) (e:Ending) (w':World):Prop :=
 ∃ v',e=.returned v'∧w'.ownsRow base 5 1 v' l.length (Z0f l)∧w.grownBy w' v.ownBlock∧∀ j,v'.ownBlock=some j→v.ownBlock=some j∨w.heap.size≤j
theorem app_end {w wn:World}{base n k:Nat}{v v':Value}{l t:List UInt8}{o:Obj}{vs:List Value}(hn:l.length=n)(hk:t.length=k)(hvs:Z0f t=vs)(hown:wn.ownsRow base 5 1 v' (n+k) (Z0f l++vs))(hgr:(w.alloc o).grownBy wn v.ownBlock)(hloc:v'.ownBlock=v.ownBlock∨v'.ownBlock=some (w.alloc o).heap.size) :
  wn.ownsRow base 5 1 v' (l++t).length (Z0f (l++t))∧w.grownBy wn v.ownBlock∧∀ j,v'.ownBlock=some j→v.ownBlock=some j∨w.heap.size≤j:=by
 refine ⟨?_,?_,?_⟩
 ·rw [Z1H,hvs,List.length_append,hn,hk];exact hown
 ·have hz:=hgr.size
  rw [World.alloc_size] at hz
  exact ⟨hgr.os,hgr.tape,hgr.output,by omega,fun j hj hne=>by rw [hgr.block j (by rw [World.alloc_size];omega) hne,Below.heap_alloc _ _ _ hj]⟩
 ·intro j hj
  rcases hloc with h | h
  ·left;rw [←h];exact hj
  ·right
   rw [h] at hj
   simp only [Option.some.injEq,World.alloc_size] at hj
   omega
theorem Z48 (w:World)(base:Nat)(v:Value)(l:List UInt8)(b:UInt8)(hown:w.ownsRow base 5 1 v l.length (Z0f l))(hl:l.length≤100000)(hbase:base≤w.heap.size) :
  Calls Tryz.prog 152 #[v,.int .u8 (b.toNat:Int)] w (AppEnd w base v (l++esc1 b)):=by
 obtain ⟨i0,hi,hz0,hz1,hz2⟩:=Z3n Tryz.infoU8E
 obtain ⟨va,vm,vc,rfl⟩:=Z0A hown
 have HO:=Z0a hown
 obtain ⟨n,hn⟩:∃ n,l.length=n:=⟨_,rfl⟩
 rw [hn] at HO
 clear hown
 by_cases hb:isB b=true
 ·have he:esc1 b=[125,b ^^^ 32]:=by unfold esc1;rw [if_pos hb]
  have HX:=Z0a (Z8u b)
  rw [he]
  clear he
  go_enter Tryz.func152,Tryz.ntmps152
  go_wp2_with fail
  refine (Z0Z b _).mono ?_
  rintro e w1 ⟨rfl,rfl⟩
  rw [hb]
  go_wp2_with (first | (refine Z3P rfl 32 5 2 _ rfl [.const (.int .u8 125),.tmp 9] [.int .u8 125,.int .u8 (bits BinOp.xor IntKind.u8 (b.toNat:Int) 32)] rfl rfl (ints_one .u8 [125,bits BinOp.xor IntKind.u8 (b.toNat:Int) 32]) i0 (.int .u8 0) Tryz.underlying32 hi hz0 hz1 rfl (by decide) (by decide) ?_;simp only [Act.put,List.setIfInBounds_toArray,List.set_cons_succ,List.set_cons_zero]) | (at_builtin;refine wpList_append_own_at _ rfl _ _ 32 rfl base 5 i0 _ 1 1 Tryz.underlying32 hi hz0 hz1 hz2 rfl (by decide) _ n _ rfl (HO.out.alloc _) ⟨w1.heap.size,0,none⟩ 2 2 [.int .u8 125,.int .u8 (bits BinOp.xor IntKind.u8 (b.toNat:Int) 32)] rfl rfl (Z4H _ _ _) (by intro u hu;simp at hu;rcases hu with rfl | rfl <;> rfl) (by unfold maxLen;omega) (by omega) (by rw [World.alloc_size];omega) ?_;intro v' wn hown hgr _ hloc;obtain ⟨a',n',c',rfl⟩:=Z0A hown))
  have HE:=Z0a (app_end (l:=l) (t:=[125,b ^^^ 32]) (k:=2) hn rfl (by simp only [Z0f,List.map_cons,List.map_nil];rw [HX.out];rfl) hown hgr hloc)
  clear hown hgr hloc
  go_wp2
  go_ret
  exact ⟨_,rfl,HE.out⟩
 ·have he:esc1 b=[b]:=by unfold esc1;rw [if_neg hb]
  have hbf:isB b=false:=by simpa using hb
  rw [he]
  clear he
  go_enter Tryz.func152,Tryz.ntmps152
  go_wp2_with fail
  refine (Z0Z b _).mono ?_
  rintro e w1 ⟨rfl,rfl⟩
  rw [hbf]
  go_wp2_with (at_builtin;refine wpList_append_own_at _ rfl _ _ 32 rfl base 5 i0 _ 1 1 Tryz.underlying32 hi hz0 hz1 hz2 rfl (by decide) _ n _ rfl (HO.out.alloc _) ⟨w1.heap.size,0,none⟩ 1 1 [.int .u8 (b.toNat:Int)] rfl rfl (cell_one_new _ _ _) (by intro u hu;simp at hu;subst hu;rfl) (by unfold maxLen;omega) (by omega) (by rw [World.alloc_size];omega) ?_;intro v' wn hown hgr _ hloc;obtain ⟨a',n',c',rfl⟩:=Z0A hown)
  have HE:=Z0a (app_end (l:=l) (t:=[b]) (k:=1) hn rfl rfl hown hgr hloc)
  clear hown hgr hloc
  go_wp2
  go_ret
  exact ⟨_,rfl,HE.out⟩
theorem Z3p {w:World}{base g n cap:Nat}{l:List UInt8}(hn:l.length=n)(h:w.ownsRow base 5 1 (.slice (some ⟨g,0,none⟩) n cap) n (Z0f l)):(convert 32 9 (.slice (some ⟨g,0,none⟩) n cap)).run Tryz.prog w=.ok (.string (txt l)) w:=by
 have hb:=Z6M h
 have:=run_convert_bytes_back (P:=Tryz.prog) w 32 9 5 ⟨g,0,none⟩ cap l Tryz.underlying32 Tryz.underlying5 Tryz.underlying9 (fun j hj=>by
  have hc:=hb j hj
  rw [List.getD_eq_getElem?_getD,List.getElem?_eq_getElem hj] at hc
  rw [Addr.add_lit]
  exact hc)
 rw [hn] at this
 exact this
theorem Z6b (w:World)(base:Nat)(hb:base≤w.heap.size)(x:UInt8):(w.alloc (.cells #[.int .u8 (x.toNat:Int)] 5)).ownsRow base 5 1 (.slice (some ⟨w.heap.size,0,none⟩) 1 1) 1 (Z0f [x]) :=
 ⟨rfl,.inr ⟨w.heap.size,1,_,rfl,hb,heap_alloc_new w _,by decide,by decide,rfl,rfl⟩⟩
theorem frame_any (m:ByteArray)(w:World)(hm1:1≤m.size)(hm2:m.size≤80) :
  Calls Tryz.prog 101 #[.string m] w fun e w'=>e=.returned (.tuple #[.string (txt (Z0c m.data.toList)),.int .i64 0])∧Below w.heap.size w w':=by
 obtain ⟨i0,hi,hz0,hz1,hz2⟩:=Z3n Tryz.infoU8E
 have hlen:m.data.toList.length=m.size:=by rw [Array.length_toList];rfl
 have h2:decide ((m.size:Int)<1)=false:=by simp;omega
 have h3:decide ((80:Int)<(m.size:Int))=false:=by simp;omega
 obtain ⟨l,hl⟩:∃ l,m.data.toList=l:=⟨_,rfl⟩
 obtain ⟨cs,hcs⟩:∃ cs,l++chkB l=cs:=⟨_,rfl⟩
 have hcl:cs.length=m.size+2:=by rw [←hcs,List.length_append,← hl,hlen];rfl
 have HF:=Z0a (show Z0c m.data.toList=126 :: (escL cs ++ [126]) by rw [hl,← hcs];rfl)
 have HC:=Z0a (checked_any m (w.alloc (.cells #[.int .u8 126] 5)) (by omega))
 rw [hl,hcs] at HC
 clear hl hcs hlen
 go_enter Tryz.func101,Tryz.ntmps101
 go_wp2_with fail
 refine HC.out.mono ?_
 rintro e w1 ⟨g,cap,rfl,hg1,hg2,hb,hB⟩
 have HO:=Z0a (Z6b w w.heap.size (Nat.le_refl _) 126)
 have hO1:w1.ownsRow w.heap.size 5 1 (.slice (some ⟨w.heap.size,0,none⟩) 1 1) 1 (Z0f [126]):=Z1p HO.out (fun j hj=>hB.block j ((HO.out.lt j hj).2))
 have hBw:Below w.heap.size w w1:=((Below.refl w.heap.size w).alloc (Nat.le_refl _) _).trans (by have:=hB.mono (B':=w.heap.size) (by rw [World.alloc_size];omega);exact ⟨this.os,this.tape,this.output,this.size,this.block⟩)
 rw [World.alloc_size] at hg1
 have HI:=Z0a (And.intro hb (And.intro hO1 (And.intro hBw (And.intro hg1 hg2))))
 clear HO hO1 hBw hb hB hg1 hg2
 go_wp2_with fail
 go_loopw [4,19] (fun v i wr=>∃ k:Nat,k≤m.size+2∧i=.int .i64 k∧wr.ownsRow w.heap.size 5 1 v (126 :: escL (cs.take k)).length (Z0f (126 :: escL (cs.take k)))∧BytesAt wr g 0 cs∧v.ownBlock≠some g∧g<wr.heap.size∧Below w.heap.size w wr) (fun _ i _=>m.size+2-(intOf i).toNat)
 case atStart =>
  obtain ⟨a1,a2,a3,a4,a5⟩:=HI.out
  exact ⟨0,Nat.zero_le _,rfl,a2,a1,by simp [Value.ownBlock];omega,a5,a3⟩
 case round =>
  obtain ⟨k,hk,rfl,hO,hb,hne,hgl,hB⟩:=hrel
  have hel:=Z5L (cs.take k)
  rw [List.length_take] at hel
  by_cases hlt:k<m.size+2
  ·have c1:=hb k (by omega)
   obtain ⟨b,hbb⟩:∃ b,cs.getD k 0=b:=⟨_,rfl⟩
   rw [hbb,Nat.zero_add] at c1
   have hN:(126 :: escL (cs.take k))++esc1 b=126 :: escL (cs.take (k+1)):=by rw [Z4A cs k (by omega),escL_snoc,hbb];rfl
   have HA:=Z0a (fun w' v (h:w'.ownsRow w.heap.size 5 1 v (126 :: escL (cs.take k)).length (Z0f (126 :: escL (cs.take k))))=>Z48 w' w.heap.size v (126 :: escL (cs.take k)) b h (by simp;omega))
   rw [hN] at HA
   have HO:=Z0a hO
   have HQ:=Z0a (And.intro hb (And.intro hne (And.intro hgl hB)))
   have hsz:=hB.size
   obtain ⟨va,vm,vc,rfl⟩:=Z0A hO
   clear hO hb hne hgl hB hN hbb
   go_wp2_with fail
   refine (HA.out _ _ HO.out hsz).mono ?_
   rintro e w2 ⟨v2,rfl,hO2,hG2,hL2⟩
   obtain ⟨va2,vm2,vc2,rfl⟩:=Z0A hO2
   have HR:=Z0a (And.intro hO2 (And.intro hG2 hL2))
   clear hO2 hG2 hL2
   go_wp2
   go_roundw
   case rel =>
    obtain ⟨q1,q2,q3,q4⟩:=HQ.out
    obtain ⟨r1,r2,r3⟩:=HR.out
    refine ⟨k+1,by omega,by go_num,r1,q1.kept (r2.block g q3 (fun e=>q2 e.symm)),?_,Nat.lt_of_lt_of_le q3 r2.size,?_⟩
    ·intro e
     rcases r3 g e with h | h
     ·exact q2 h
     ·omega
    ·refine ⟨r2.os.trans q4.os,r2.tape.trans q4.tape,r2.output.trans q4.output,Nat.le_trans q4.size r2.size,fun j hj=>?_⟩
     rw [r2.block j (Nat.lt_of_lt_of_le hj q4.size) (fun e=>by have:=(HO.out.lt j e.symm).1;omega),q4.block j hj]
   case measure=>simp [intOf];omega
  ·have hkk:k=m.size+2:=by omega
   rw [hkk,← hcl,List.take_length] at hO
   have hel2:=Z5L cs
   obtain ⟨F,hF⟩:∃ F,126 :: escL cs=F:=⟨_,rfl⟩
   rw [hF] at hO
   have hFl:F.length≤1000:=by rw [←hF];simp;omega
   have HFF:=Z0a (show Z0c m.data.toList=F ++ [126] by rw [HF.out,← hF];rfl)
   obtain ⟨n,hn⟩:∃ n,F.length=n:=⟨_,rfl⟩
   rw [hn] at hO hFl
   have HO:=Z0a hO
   have HB:=Z0a hB
   have hsz:=hB.size
   obtain ⟨va,vm,vc,rfl⟩:=Z0A hO
   clear hO hb hne hgl hB hF hel hel2
   go_wp2_with (at_builtin;refine wpList_append_own_at _ rfl _ _ 32 rfl w.heap.size 5 i0 _ 1 1 Tryz.underlying32 hi hz0 hz1 hz2 rfl (by decide) _ n _ rfl (HO.out.alloc _) ⟨wr.heap.size,0,none⟩ 1 1 [.int .u8 126] rfl rfl (cell_one_new _ _ _) (by intro u hu;simp at hu;subst hu;rfl) (by unfold maxLen;omega) (by omega) (by rw [World.alloc_size];omega) ?_;intro v' wn hown hgr _ hloc;obtain ⟨g',c',rfl,hg1,hg2⟩:=Z2K hown (by omega);have hcv:=Z3p (l:=F ++ [126]) (n:=n+1) (by rw [List.length_append,hn];rfl) (by rw [Z1H];exact hown))
   go_ret2
   rw [HFF.out]
   refine ⟨rfl,?_⟩
   have q4:=HB.out
   have hz:=hgr.size
   rw [World.alloc_size] at hz
   refine ⟨hgr.os.trans q4.os,hgr.tape.trans q4.tape,hgr.output.trans q4.output,by omega,fun j hj=>?_⟩
   rw [hgr.block j (by rw [World.alloc_size];omega) (fun e=>by have:=(HO.out.lt j e.symm).1;omega),Below.heap_alloc _ _ _ (by omega),q4.block j hj]
def Z1Q:Array Value:=#[.int .i64 0]++Array.replicate 82 (.int .u8 0) ++ #[.int .i64 0]
theorem run_zero {P:Program}{t:TypeId}{z:Value}(h:(P.info? t).map (fun i=>i.zero)=some (some z))(w:World):(zeroValue t).run P w=.ok z w:=by
 cases hi:P.info? t with
 | none=>rw [hi] at h;cases h
 | some i =>
  rw [hi] at h
  simp at h
  simp [zeroValue,typeInfo,hi,h]
theorem zeroEar_at (w:World)(t:TypeId):EarAt (w.alloc (.cells Z1Q t)) w.heap.size ⟨0,[]⟩:=by
 have hc:∀ j,(w.alloc (.cells Z1Q t)).cell? ⟨w.heap.size,j,none⟩=Z1Q[j]?:=fun j=>World.cell?_alloc_mark w Z1Q t (0,0) j
 have hs:Z1Q.size=84:=by decide
 refine ⟨?_,?_,fun i hi=>?_,fun i hi=>by simp at hi,fun j=>?_,by simp,⟨(by decide:0≤2),by simp⟩⟩
 ·rw [hc];rfl
 ·rw [hc];rfl
 ·rw [hc,Array.getElem?_eq_getElem (by omega)];exact ⟨_,rfl⟩
 ·rw [World.frozen?_alloc_mark w Z1Q t 0 0 j];simp
theorem baE_drop (s:ByteArray)(k:Nat):(s.extract k s.size).data.toList=s.data.toList.drop k:=by
 rw [ByteArray.data_extract,Array.toList_extract]
 have h:s.size=s.data.toList.length:=(Array.length_toList (xs:=s.data)).symm
 rw [h,List.extract_eq_take_drop,List.take_of_length_le]
 rw [List.length_drop]
 exact Nat.le_refl _
theorem baE_take (s:ByteArray)(k:Nat):(s.extract 0 k).data.toList=s.data.toList.take k:=by
 rw [ByteArray.data_extract,Array.toList_extract,List.extract_eq_take_drop]
 simp
theorem Z1j (l:List UInt8):(txt l).size=l.length:=by simp [txt,ByteArray.size]
theorem Z2m (l:List UInt8):(txt l).data.toList=l:=by simp [txt]
theorem txt_ba (s:ByteArray):txt s.data.toList=s:=by simp [txt]
theorem own_new (w:World)(base:Nat)(hb:base≤w.heap.size)(l:List UInt8)(hl:0<l.length)(hm:l.length≤1000):(w.alloc (.cells (Z0f l).toArray 5)).ownsRow base 5 1 (.slice (some ⟨w.heap.size,0,none⟩) l.length l.length) l.length (Z0f l):=by
 refine ⟨by rw [Z0y,Nat.mul_one],.inr ⟨w.heap.size,l.length,_,rfl,hb,heap_alloc_new w _,Nat.le_refl _,by unfold maxLen;omega,by simp [Z0f],?_⟩⟩
 rw [Nat.mul_one,← Z0y l]
 simp
theorem Z3W (a b:List UInt8):txt a++txt b=txt (a++b):=by
 apply ByteArray.ext
 rw [ByteArray.data_append]
 simp [txt]
theorem conv_one (w:World)(x:UInt8):(convert 32 9 (.slice (some ⟨w.heap.size,0,none⟩) 1 1)).run Tryz.prog (w.alloc (.cells #[.int .u8 (x.toNat:Int)] 5))=.ok (.string (txt [x])) (w.alloc (.cells #[.int .u8 (x.toNat:Int)] 5)) :=
 Z3p (l:=[x]) (n:=1) rfl (Z6b w w.heap.size (Nat.le_refl _) x)
theorem Z7D {q:List UInt8}{j:Nat}{S:ByteArray}(hS:txt q=S)(hj:j<S.size):S[j]=q.getD j 0:=by
 subst hS
 have:=Z0P (txt q) j hj
 rw [Z2m] at this
 exact this.symm
theorem Z8s {q:List UInt8}{S:ByteArray}(hS:txt q=S)(k:Nat):S.extract k S.size=txt (q.drop k):=by
 subst hS
 have:=baE_drop (txt q) k
 rw [Z2m] at this
 rw [←this,txt_ba]
theorem Z5O {x c:UInt8}(h:x≠c):((x.toNat:Int) == (c.toNat:Int))=false:=by
 have:¬ x.toNat=c.toNat:=fun e=>h (UInt8.toNat_inj.1 e)
 simp;omega
theorem txt_neR {a b:List UInt8}(h:a≠b):((txt a).toList == (txt b).toList)=false:=by
 apply beq_false_of_ne
 intro e
 rw [ByteArray.toList_eq,ByteArray.toList_eq,Z2m,Z2m] at e
 exact h e
theorem Z8c {q:List UInt8}{S:ByteArray}(hS:txt q=S)(k:Nat):S.extract 0 k=txt (q.take k):=by
 subst hS
 have:=baE_take (txt q) k
 rw [Z2m] at this
 rw [←this,txt_ba]
theorem Z0I (r:ByteArray)(h:0<r.size):r.toList.isEmpty=false:=by
 rw [ByteArray.toList_eq]
 cases hr:r.data.toList with
 | nil =>
  have:r.size=r.data.toList.length:=by rw [Array.length_toList];rfl
  rw [this,hr] at h
  simp at h
 | cons a l=>rfl
theorem getD_mem {qs:List (List UInt8)}{j:Nat}(hj:j<qs.length):qs.getD j []∈qs:=by
 rw [List.getD_eq_getElem?_getD,List.getElem?_eq_getElem hj]
 exact List.getElem_mem hj
theorem slice_lenB {w:World}{base:Nat}{e:TypeId}{size n m c:Nat}{a:Option Addr}{xs:List Value}(h:w.ownsRow base e size (.slice a m c) n xs):m=n:=by
 obtain ⟨_,⟨h1,rfl⟩ | ⟨g,cap,cur,h1,_⟩⟩:=h
 ·cases h1;rfl
 ·cases h1;rfl
theorem row_cellB {w:World}{base vc j:Nat}{va:Option Addr}{qs:List (List UInt8)}(h:w.ownsRow base 9 1 (.slice va qs.length vc) qs.length (strs qs))(hj:j<qs.length):∃ g,va=some ⟨g,0,none⟩∧w.cell? ⟨g,j,none⟩=some (.string (txt (qs.getD j []))):=by
 obtain ⟨g,cap,hv,_⟩:=Z2K h (by omega)
 cases hv
 refine ⟨g,rfl,?_⟩
 have:=h.cells (g:=g) rfl j (.string (txt (qs.getD j []))) (by simp [strs,List.getD_eq_getElem?_getD,List.getElem?_eq_getElem hj])
 rwa [Addr.add_lit,Nat.zero_add] at this
theorem eok0:Z63 ear0:=⟨by decide,by decide⟩
structure Within (w w':World) (eb o n:Nat):Prop where
 grown:w.grownBy w' (some eb)
 cells:∀ j,j<o∨o+n≤j→w'.cell? ⟨eb,j,none⟩=w.cell? ⟨eb,j,none⟩
 fz:∀ j,w'.frozen? ⟨eb,j,none⟩=w.frozen? ⟨eb,j,none⟩
theorem Within.refl (w:World)(eb o n:Nat):Within w w eb o n:=⟨Z05 _ _,fun _ _=>rfl,fun _=>rfl⟩
theorem Within.trans {w w1 w2:World}{eb o n:Nat}(h:Within w w1 eb o n)(h2:Within w1 w2 eb o n):Within w w2 eb o n :=
 ⟨h.grown.trans h2.grown,fun j hj=>(h2.cells j hj).trans (h.cells j hj),fun j=>(h2.fz j).trans (h.fz j)⟩
theorem Within.set (w:World)(eb o n j:Nat)(v:Value)(h1:o≤j)(h2:j<o+n):Within w (w.setCell ⟨eb,j,none⟩ v) eb o n :=
 ⟨Z0q _ _ _ _,fun k hk=>World.cell?_setCell_other _ _ _ _ (by simp <;> omega),fun k=>by simp⟩
theorem Within.block {w w':World}{eb o n:Nat}(hg:w.grownBy w' (some eb))(e:w'.heap[eb]?=w.heap[eb]?):Within w w' eb o n :=
 ⟨hg,fun j _=>World.cell?_of_block (a:=⟨eb,j,none⟩) e,fun j=>World.frozen?_of_block (a:=⟨eb,j,none⟩) e⟩
theorem Within.drewN {w w':World}{eb o n:Nat}(h:Within w w' eb o n)(m:Nat):Within w (w'.drewN m) eb o n :=
 ⟨Z3o h.grown m,h.cells,h.fz⟩
theorem Within.drew {w w':World}{eb o n:Nat}(h:Within w w' eb o n):Within w w'.drew eb o n :=
 ⟨Z5e h.grown,h.cells,h.fz⟩
theorem Within.below {w w':World}{eb o n:Nat}(hb:Below w.heap.size w w')(hl:eb<w.heap.size):Within w w' eb o n :=
 Within.block ⟨hb.os,hb.tape,hb.output,hb.size,fun k hk _=>hb.block k hk⟩ (hb.block eb hl)
structure EarO (w:World) (eb o:Nat) (s:EarS):Prop where
 c0:w.cell? ⟨eb,o,none⟩=some (.int .i64 (s.mode:Int))
 c83:w.cell? ⟨eb,o+83,none⟩=some (.int .i64 (s.ks.length:Int))
 cb:∀ i,i<82→∃ v,w.cell? ⟨eb,o+1+i,none⟩=some v
 ck:BytesAt w eb (o+1) s.ks
 fz:∀ j,w.frozen? ⟨eb,j,none⟩=false
 lt:eb<w.heap.size
 ok:Z63 s
theorem EarO.same {w w':World}{eb o:Nat}{s:EarS}(h:EarO w eb o s)(e:∀ j,o≤j→j<o+84→w'.cell? ⟨eb,j,none⟩=w.cell? ⟨eb,j,none⟩)(hf:∀ j,w'.frozen? ⟨eb,j,none⟩=w.frozen? ⟨eb,j,none⟩)(hz:w.heap.size≤w'.heap.size):EarO w' eb o s :=
 ⟨(e _ (by omega) (by omega)).trans h.c0,(e _ (by omega) (by omega)).trans h.c83,fun i hi=>by rw [e _ (by omega) (by omega)];exact h.cb i hi,
  fun i hi=>by have:=h.ok.len;exact (e _ (by omega) (by omega)).trans (h.ck i hi),fun j=>(hf j).trans (h.fz j),Nat.lt_of_lt_of_le h.lt hz,h.ok⟩
theorem EarO.kept {w w':World}{eb o:Nat}{s:EarS}(h:EarO w eb o s)(e:w'.heap[eb]?=w.heap[eb]?)(hz:w.heap.size≤w'.heap.size):EarO w' eb o s :=
 h.same (fun j _ _=>World.cell?_of_block (a:=⟨eb,j,none⟩) e) (fun j=>World.frozen?_of_block (a:=⟨eb,j,none⟩) e) hz
theorem EarO.setMode {w:World}{eb o:Nat}{s:EarS}(h:EarO w eb o s)(m:Nat)(hm:m≤2):EarO (w.setCell ⟨eb,o,none⟩ (.int .i64 (m:Int))) eb o ⟨m,s.ks⟩:=by
 refine ⟨World.cell?_setCell_same _ _ _ h.c0,?_,fun i hi=>?_,fun i hi=>?_,fun j=>by simp [h.fz j],by simpa [World.setCell] using h.lt,⟨hm,h.ok.len⟩⟩
 ·rw [World.cell?_setCell_other _ _ _ _ (by simp)];exact h.c83
 ·rw [World.cell?_setCell_other _ _ _ _ (by simp <;> omega)];exact h.cb i hi
 ·rw [World.cell?_setCell_other _ _ _ _ (by simp <;> omega)];exact h.ck i hi
theorem EarO.push {w:World}{eb o:Nat}{s:EarS}(h:EarO w eb o s)(b:UInt8)(hl:s.ks.length<82):EarO ((w.setCell ⟨eb,o+1+s.ks.length,none⟩ (.int .u8 (b.toNat:Int))).setCell ⟨eb,o+83,none⟩ (.int .i64 ((s.ks.length:Int)+1))) eb o ⟨s.mode,s.ks ++ [b]⟩:=by
 obtain ⟨v,hv⟩:=h.cb s.ks.length hl
 have h83:(w.setCell ⟨eb,o+1+s.ks.length,none⟩ (.int .u8 (b.toNat:Int))).cell? ⟨eb,o+83,none⟩=some (.int .i64 (s.ks.length:Int)):=by
  rw [World.cell?_setCell_other _ _ _ _ (by simp <;> omega)];exact h.c83
 have hn:=World.cell?_setCell_same w ⟨eb,o+1+s.ks.length,none⟩ (.int .u8 (b.toNat:Int)) hv
 refine ⟨?_,?_,fun i hi=>?_,fun i hi=>?_,fun j=>by simp [h.fz j],by simpa [World.setCell] using h.lt,⟨h.ok.mode,by simp;omega⟩⟩
 ·rw [World.cell?_setCell_other _ _ _ _ (by simp),World.cell?_setCell_other _ _ _ _ (by simp <;> omega)];exact h.c0
 ·rw [World.cell?_setCell_same _ _ _ h83];simp
 ·rw [World.cell?_setCell_other _ _ _ _ (by simp <;> omega)]
  by_cases e:i=s.ks.length
  ·subst e;exact ⟨_,hn⟩
  ·rw [World.cell?_setCell_other _ _ _ _ (by simp <;> omega)];exact h.cb i hi
 ·simp only [List.length_append,List.length_cons,List.length_nil] at hi
  rw [World.cell?_setCell_other _ _ _ _ (by simp <;> omega)]
  by_cases e:i=s.ks.length
  ·subst e
   rw [hn]
   simp [List.getD_eq_getElem?_getD]
  ·rw [World.cell?_setCell_other _ _ _ _ (by simp <;> omega),h.ck i (by omega)]
   simp only [List.getD_eq_getElem?_getD]
   rw [List.getElem?_append_left (by omega)]
theorem keep_o (eb o:Nat)(s:EarS)(b:UInt8)(w:World)(h:EarO w eb o s) :
  Calls Tryz.prog 181 #[.pointer (some ⟨eb,o,none⟩),.int .u8 (b.toNat:Int)] w fun e w'=>e=.returned (.tuple #[])∧EarO w' eb o (Z3a s b)∧Within w w' eb o 84:=by
 have c0:=h.c0
 have c83:=h.c83
 have f0:=h.fz o
 have f83:=h.fz (o+83)
 have hl:=h.ok.len
 by_cases he:s.ks.length=82
 ·have e:Z3a s b=⟨0,s.ks⟩:=by unfold Z3a;rw [if_pos he]
  have HR:=Z0a (h.setMode 0 (by decide))
  have hi:((s.ks.length:Int) == 82)=true:=by simp;omega
  rw [e]
  clear h e
  go_enter Tryz.func181,Tryz.ntmps181
  go_wp2
  refine bodyPost_ret (results_none rfl _ _ _) rfl ?_
  exact ⟨rfl,HR.out,Within.set _ _ _ _ _ _ (by omega) (by omega)⟩
 ·have e:Z3a s b=⟨s.mode,s.ks ++ [b]⟩:=by unfold Z3a;rw [if_neg he]
  have HR:=Z0a (h.push b (by omega))
  have hi:((s.ks.length:Int) == 82)=false:=by simp;omega
  have hi2:(s.ks.length:Int)<82:=by omega
  obtain ⟨v,hv⟩:=h.cb s.ks.length (by omega)
  have fv:=h.fz (o+1+s.ks.length)
  rw [e]
  clear h e
  go_enter Tryz.func181,Tryz.ntmps181
  go_wp2
  go_region
  all_goals
   go_wp2
   go_end0
   exact ⟨rfl,HR.out.kept rfl (Nat.le_refl _),((Within.set _ _ _ _ _ _ (by omega) (by omega)).trans (Within.set _ _ _ _ _ _ (by omega) (by omega))).drew⟩
theorem take_o (eb o:Nat)(s:EarS)(b:UInt8)(w:World)(h:EarO w eb o s) :
  Calls Tryz.prog 149 #[.pointer (some ⟨eb,o,none⟩),.int .u8 (b.toNat:Int)] w fun e w'=>e=.returned (.tuple #[])∧EarO w' eb o (Z1z s b)∧Within w w' eb o 84:=by
 have c0:=h.c0
 have f0:=h.fz o
 have hm:=h.ok.mode
 have hx:=Z8u b
 by_cases h0:s.mode=0
 ·have e:Z1z s b=s:=by unfold Z1z;rw [if_pos h0]
  have hi:((s.mode:Int) == 0)=true:=by simp;omega
  rw [e]
  have HR:=Z0a h
  clear h e
  go_enter Tryz.func149,Tryz.ntmps149
  go_wp2
  go_end0
  exact ⟨rfl,HR.out,Within.refl _ _ _ _⟩
 ·have hi:((s.mode:Int) == 0)=false:=by simp;omega
  by_cases h2:s.mode=2
  ·have hi2:((s.mode:Int) == 2)=true:=by simp;omega
   by_cases hb:isB (b ^^^ 32)=true
   ·have e:Z1z s b=Z3a ⟨1,s.ks⟩ (b ^^^ 32):=by unfold Z1z;rw [if_neg h0,if_pos h2,if_pos hb]
    have HR:=Z0a (h.setMode 1 (by decide))
    rw [e]
    clear h e
    go_enter Tryz.func149,Tryz.ntmps149
    go_wp2_with fail
    refine (Z0Z (b ^^^ 32) _).mono ?_
    rintro e w1 ⟨rfl,rfl⟩
    rw [hb]
    go_wp2_with fail
    refine (keep_o eb o ⟨1,s.ks⟩ (b ^^^ 32) _ HR.out).mono ?_
    rintro e w1 ⟨rfl,hr,hg⟩
    go_wp2
    go_end0
    exact ⟨rfl,hr,(Within.set _ _ _ _ _ _ (by omega) (by omega)).trans hg⟩
   ·have e:Z1z s b=⟨0,s.ks⟩:=by unfold Z1z;rw [if_neg h0,if_pos h2,if_neg hb]
    have HR:=Z0a (h.setMode 0 (by decide))
    have hbf:isB (b ^^^ 32)=false:=by simpa using hb
    rw [e]
    clear h e
    go_enter Tryz.func149,Tryz.ntmps149
    go_wp2_with fail
    refine (Z0Z (b ^^^ 32) _).mono ?_
    rintro e w1 ⟨rfl,rfl⟩
    rw [hbf]
    go_wp2
    go_end0
    exact ⟨rfl,HR.out,Within.set _ _ _ _ _ _ (by omega) (by omega)⟩
  ·have hi2:((s.mode:Int) == 2)=false:=by simp;omega
   by_cases h5:b=125
   ·subst h5
    have e:Z1z s 125=⟨2,s.ks⟩:=by unfold Z1z;rw [if_neg h0,if_neg h2,if_pos rfl]
    have HR:=Z0a (h.setMode 2 (by decide))
    rw [e]
    clear h e
    go_enter Tryz.func149,Tryz.ntmps149
    go_wp2
    go_end0
    exact ⟨rfl,HR.out,Within.set _ _ _ _ _ _ (by omega) (by omega)⟩
   ·have e:Z1z s b=Z3a s b:=by unfold Z1z;rw [if_neg h0,if_neg h2,if_neg h5]
    have hi5:((b.toNat:Int) == 125)=false:=by
     have:¬ b.toNat=125:=fun e=>h5 (UInt8.toNat_inj.1 e)
     simp;omega
    rw [e]
    have HR:=Z0a h
    clear h e
    go_enter Tryz.func149,Tryz.ntmps149
    go_wp2_with fail
    refine (keep_o eb o s b _ HR.out).mono ?_
    rintro e w1 ⟨rfl,hr,hg⟩
    go_wp2
    go_end0
    exact ⟨rfl,hr,hg⟩
theorem isWhole_o (eb o:Nat)(s:EarS)(w:World)(h:EarO w eb o s) :
  Calls Tryz.prog 150 #[.pointer (some ⟨eb,o,none⟩)] w fun e w'=>e=.returned (.bool (Z1b s))∧∃ m,w'=w.drewN m:=by
 have c0:=h.c0
 have c83:=h.c83
 have hl:=h.ok.len
 by_cases h1:s.mode=1
 ·have e:Z1b s=hasC s.ks:=by unfold Z1b;simp [h1]
  have hi:((s.mode:Int) == 1)=true:=by simp;omega
  have hle:(s.ks.length:Int)≤82:=by omega
  have HC:=Z0a (fun w' (hw:BytesAt w' eb (o+1) s.ks)=>Z5v eb (o+1) 82 s.ks w' (by omega) hl hw)
  have HB:=Z0a h.ck
  rw [e]
  clear e h
  go_enter Tryz.func150,Tryz.ntmps150
  go_wp2
  go_quiet ((go_at_call 182;exact Calls.quiet_of (HC.out _ (HB.out.kept rfl))))
  go_wp2
  go_ret
  exact ⟨rfl,_,rfl⟩
 ·have e:Z1b s=false:=by unfold Z1b;simp [h1]
  have hi:((s.mode:Int) == 1)=false:=by simp;omega
  rw [e]
  clear e h
  go_enter Tryz.func150,Tryz.ntmps150
  go_wp2
  go_quiet (fail)
  go_wp2
  go_ret
  exact ⟨rfl,_,rfl⟩
end Go.Proofs.YthokdbcpkmcieabGreatDoor
