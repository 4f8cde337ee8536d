/- MapK Par1 Par2 Data Par3 Par4 -/
import Derived.Maps.Own
import Derived.Maps.OwnOps
import Derived.Maps.OwnSet
import Derived.Maps.Views
import Derived.WalkKit
import Derived.RowKit
import Derived.Test.YthokdbcpkmcieabGreatDoorE04
import Derived.BigRegion
set_option maxRecDepth 200000
set_option maxHeartbeats 8000000
namespace Go.Proofs.YthokdbcpkmcieabGreatDoor
open Go Go.RowKit Go.Maps
def rawR (v:Value):Option (DataW Value × List MemPlace):=some (.held v,[])
def atD (z:DataW Value):Option Value→DataW Value
 | some v=>.held v
 | none=>z
def MapAt (P:Program) (k:TypeId) (w:World) (b n:Nat) (f:List UInt8→Option Value):Prop :=
 ∃ D,w.ownsMap P k rawR b n D∧size D=n∧∀ l z,D.atKey (.string l) z=atD z (f l)
def putF (f:List UInt8→Option Value) (l:List UInt8) (v:Value):List UInt8→Option Value:=fun x=>if x=l then some v else f x
def putN (n:Nat):Option Value→Nat
 | some _=>n
 | none=>n+1
def Z5A (c:Bool) (z:Value):Option Value→Value
 | some v=>if c then .tuple #[v,.bool true] else v
 | none=>if c then .tuple #[z,.bool false] else z
section
variable {P:Program} {k:TypeId} {w:World} {b n:Nat} {f:List UInt8→Option Value}
theorem MapAt.made (w:World)(P:Program)(k:TypeId):MapAt P k (w.alloc (.map #[] 0)) w.heap.size 0 (fun _=>none) :=
 ⟨_,World.ownsMap_made w P k rawR,rfl,fun _ _=>rfl⟩
theorem MapAt.lt (h:MapAt P k w b n f):b<w.heap.size:=by
 obtain ⟨D,h1,_⟩:=h
 exact h1.lt
theorem MapAt.kept {w':World}{row:Option Nat}(h:MapAt P k w b n f)(hg:w.grownBy w' row)(hne:some b≠row):MapAt P k w' b n f:=by
 obtain ⟨D,h1,h2⟩:=h
 exact ⟨D,h1.kept hg hne,h2⟩
theorem MapAt.below {w':World}{B:Nat}(h:MapAt P k w b n f)(hb:Below B w w')(hlt:b<B):MapAt P k w' b n f:=by
 obtain ⟨D,⟨es,clock,h1,h2⟩,h3⟩:=h
 exact ⟨D,⟨es,clock,(hb.block b hlt).trans h1,h2⟩,h3⟩
theorem MapAt.alloc (h:MapAt P k w b n f)(o:Obj):MapAt P k (w.alloc o) b n f:=h.kept (World.grownBy_alloc w o none) (by simp)
theorem MapAt.ext {g:List UInt8→Option Value}(h:MapAt P k w b n f)(he:∀ l,f l=g l):MapAt P k w b n g:=by
 obtain ⟨D,h1,h2,h3⟩:=h
 exact ⟨D,h1,h2,fun l z=>by rw [h3,he]⟩
theorem MapAt.look {t e:TypeId}(h:MapAt P k w b n f)(K:Keyed P k)(ht:P.underlying t=some (.map k e)){z:Value}(hz:(zeroValue e).run P w=.ok z w){key:Value}{l:List UInt8}(hkey:keyOf P k key=some (.string l))(c:Bool) :
  (Instr.lookup t (.map (some b)) key c).run P w=.ok (Z5A c z (f l)) w:=by
 obtain ⟨D,⟨es,clock,hb,F,hs,rfl⟩,_,h3⟩:=h
 rcases Maps.fit_look c K ht hz hb F hkey with ⟨hrun,_,hat⟩ | ⟨e0,y,_,_,hrun,hRv,hat,_⟩
 ·have hn:f l=none:=by
   cases hf:f l with
   | none=>rfl
   | some v =>
    have:=hat .nil
    rw [h3,hf] at this
    cases this
  rw [hn];exact hrun
 ·have hy:f l=some e0.val:=by
   have e1:=hat .nil
   have e2:=h3 l .nil
   rw [e1] at e2
   cases hRv
   cases hf:f l with
   | none=>rw [hf] at e2;cases e2
   | some v=>rw [hf] at e2;cases e2;rfl
  rw [hy];exact hrun
theorem MapAt.has {D:DataW Value}(h3:∀ l z,D.atKey (.string l) z=atD z (f l))(l:List UInt8):Maps.has D (.string l)=(f l).isSome:=by
 cases hf:f l with
 | none=>exact Maps.has_false_of_atKey (fun zd=>by rw [h3,hf];rfl)
 | some v=>exact Maps.has_true_of_atKey (y:=.held v) (fun zd=>by rw [h3,hf];rfl)
theorem MapAt.store {t e:TypeId}(h:MapAt P k w b n f)(K:Keyed P k)(ht:P.underlying t=some (.map k e))(hn:n<maxLen){key val:Value}{l:List UInt8}(hkey:keyOf P k key=some (.string l)) :
  ∃ w',(Instr.mapUpdate t (.map (some b)) key val).run P w=.ok () w'∧MapAt P k w' b (putN n (f l)) (putF f l val)∧w.grownBy w' (some b):=by
 obtain ⟨D,h1,h2,h3⟩:=h
 obtain ⟨w',hrun,hown,hg⟩:=h1.update K ht hn hkey (show rawR val=some (.held val,[]) from rfl)
 have hkl:WideAt.IsKeyLit (.string l):=trivial
 have hsz:size (D.put (.string l) (.held val))=putN n (f l):=by
  rw [size_put (h1.tidy K),MapAt.has h3,h2]
  cases f l <;> rfl
 refine ⟨w',hrun,⟨_,?_,hsz,fun x z=>?_⟩,hg⟩
 ·obtain ⟨es,clock,hb,F,hs,hD⟩:=hown
  refine ⟨es,clock,hb,F,?_,hD⟩
  rw [←hsz,hD]
  simp [size,length_sorted]
 ·unfold putF
  by_cases e:x=l
  ·subst e;rw [if_pos rfl,atKey_put_same h1.isMap hkl];rfl
  ·rw [if_neg e,atKey_put_other (by simpa using e),h3]
theorem MapAt.len {t e:TypeId}(h:MapAt P k w b n f)(ht:P.underlying t=some (.map k e))(ty:TypeId):(Builtin.len_ #[t] ty #[.map (some b)]).run P w=.ok (.int .i64 n) w:=by
 obtain ⟨D,h1,h2,_⟩:=h
 rw [←h2]
 exact h1.len ht ty
end
theorem wpList_look {P:Program}(w:World){ops:Array Oper}{rest:List Oper}{o:Oper}{a:Act}{Q:Exit→Act→World→Prop}
  (hg:o.guard=none) (m x:Operand) (t:TypeId) (c:Bool) (hop:o.op=Op.lookup t m x c)
  (k e:TypeId) (K:Keyed P k) (ht:P.underlying t=some (.map k e)) (z:Value) (hz:(zeroValue e).run P w=.ok z w) (b n:Nat) (f:List UInt8→Option Value)
  (hm:a.eval m=.map (some b)) (hown:MapAt P k w b n f) (key:Value) (l:List UInt8) (hx:a.eval x=key) (hkey:keyOf P k key=some (.string l))
  (v:Value) (hv:Z5A c z (f l)=v) (hK:wpList P ops Q rest (a.put o.dst v) w):wpList P ops Q (o :: rest) a w:=by
 refine wpList_plain hg fun K' hK'=>?_
 have hrun:=hown.look K ht hz hkey c
 unfold Oper.wp
 subst hv
 simp [execOp,hop,hm,hx,hrun,Result.andThen]
 exact hK' _ _ hK
theorem Z0U {P:Program}(w:World){ops:Array Oper}{rest:List Oper}{o:Oper}{a:Act}{Q:Exit→Act→World→Prop}
  (hg:o.guard=none) (m x v:Operand) (t:TypeId) (hop:o.op=Op.mapUpdate t m x v)
  (k e:TypeId) (K:Keyed P k) (ht:P.underlying t=some (.map k e)) (b n:Nat) (f:List UInt8→Option Value)
  (hm:a.eval m=.map (some b)) (hown:MapAt P k w b n f) (hn:n<maxLen) (key val:Value) (l:List UInt8) (hx:a.eval x=key) (hv:a.eval v=val) (hkey:keyOf P k key=some (.string l))
  (hK:∀ w',MapAt P k w' b (putN n (f l)) (putF f l val)→w.grownBy w' (some b)→wpList P ops Q rest (a.put o.dst undef) w'):wpList P ops Q (o :: rest) a w:=by
 refine wpList_plain hg fun K' hK'=>?_
 obtain ⟨w',hrun,r1,r2⟩:=hown.store (val:=val) K ht hn hkey
 unfold Oper.wp
 simp [execOp,hop,hm,hx,hv,hrun,Result.andThen]
 exact hK' _ _ (hK w' r1 r2)
end Go.Proofs.YthokdbcpkmcieabGreatDoor
namespace Go.Proofs.YthokdbcpkmcieabGreatDoor
open Go Go.RowKit
structure Bk where
 cb:Nat
 ib:Nat
 fb:Nat
 db:Nat
def synE (line:Int):Ending:=.panicked [{ v:=.iface 240 (.agg #[.int .i64 2,.int .i64 line]),recovered:=false }]
def TokAt (w:World) (g:Nat):Nat→List Tok→Prop
 | _,[]=>True
 | off,t :: l=>w.cell? ⟨g,off,none⟩=some (.int .i64 t.kind)∧w.cell? ⟨g,off+1,none⟩=some (.string t.text)∧w.cell? ⟨g,off+2,none⟩=some (.int .i64 t.num)∧TokAt w g (off+3) l
theorem TokAt.kept {w w':World}{g:Nat}(he:w'.heap[g]?=w.heap[g]?):∀ {off:Nat} {l:List Tok},TokAt w g off l→TokAt w' g off l
 | _,[],_=>trivial
 | off,_t :: _l,h=>⟨(World.cell?_of_block (a:=⟨g,off,none⟩) he).trans h.1,(World.cell?_of_block (a:=⟨g,off+1,none⟩) he).trans h.2.1,(World.cell?_of_block (a:=⟨g,off+2,none⟩) he).trans h.2.2.1,TokAt.kept he h.2.2.2⟩
structure PS (w:World) (B pb:Nat) (b:Bk) (line:Int) (ts:List Tok):Prop where
 c0:w.cell? ⟨pb,0,none⟩=some (.map (some b.cb))
 c1:w.cell? ⟨pb,1,none⟩=some (.map (some b.ib))
 c2:w.cell? ⟨pb,2,none⟩=some (.map (some b.fb))
 c3:w.cell? ⟨pb,3,none⟩=some (.map (some b.db))
 c4:w.cell? ⟨pb,4,none⟩=some (.int .i64 line)
 f5:w.frozen? ⟨pb,5,none⟩=false
 f4:w.frozen? ⟨pb,4,none⟩=false
 lt:pb<B
 le:B≤w.heap.size
 tk:∃ g off cap,w.cell? ⟨pb,5,none⟩=some (.slice (some ⟨g,off,none⟩) ts.length cap)∧ts.length≤cap∧cap≤maxLen∧TokAt w g off ts∧g≠pb∧g<B
 last:ts.getLast?=some endT
 sz:∀ t∈ts,t.text.size≤400000
theorem PS.kept {w w':World}{B pb:Nat}{b:Bk}{line:Int}{ts:List Tok}(h:PS w B pb b line ts)(hb:Below B w w'):PS w' B pb b line ts:=by
 obtain ⟨g,off,cap,h1,h2,h2',h3,h4,h5⟩:=h.tk
 have e:=hb.block pb h.lt
 exact ⟨(World.cell?_of_block (a:=⟨pb,0,none⟩) e).trans h.c0,(World.cell?_of_block (a:=⟨pb,1,none⟩) e).trans h.c1,(World.cell?_of_block (a:=⟨pb,2,none⟩) e).trans h.c2,(World.cell?_of_block (a:=⟨pb,3,none⟩) e).trans h.c3,(World.cell?_of_block (a:=⟨pb,4,none⟩) e).trans h.c4,(World.frozen?_of_block (a:=⟨pb,5,none⟩) e).trans h.f5,(World.frozen?_of_block (a:=⟨pb,4,none⟩) e).trans h.f4,
  h.lt,Nat.le_trans h.le hb.size,⟨g,off,cap,(World.cell?_of_block (a:=⟨pb,5,none⟩) e).trans h1,h2,h2',h3.kept (hb.block g h5),h4,h5⟩,h.last,h.sz⟩
theorem PS.ne {w:World}{B pb:Nat}{b:Bk}{line:Int}{ts:List Tok}(h:PS w B pb b line ts):∃ t l,ts=t :: l:=by
 cases ts with
 | nil=>have:=h.last;simp at this
 | cons t l=>exact ⟨t,l,rfl⟩
theorem PS.step {w:World}{B pb:Nat}{b:Bk}{line:Int}{t:Tok}{l:List Tok}(h:PS w B pb b line (t :: l))(hl:l≠[]){g off cap:Nat}(h1:w.cell? ⟨pb,5,none⟩=some (.slice (some ⟨g,off,none⟩) (l.length+1) (cap+1))) :
  PS (w.setCell ⟨pb,5,none⟩ (.slice (some ⟨g,off+3,none⟩) l.length cap)) B pb b line l:=by
 obtain ⟨g',off',cap',h1',h2,h2',h3,h4,h5⟩:=h.tk
 rw [h1'] at h1
 simp only [List.length_cons,Option.some.injEq,Value.slice.injEq,Addr.mk.injEq] at h1
 obtain ⟨⟨rfl,rfl,_⟩,_,rfl⟩:=h1
 refine ⟨?_,?_,?_,?_,?_,?_,?_,h.lt,by simpa [World.setCell] using h.le,⟨g',off'+3,cap,World.cell?_setCell_same _ _ _ h1',by simpa using h2,by omega,?_,h4,h5⟩,?_,fun t ht=>h.sz t (List.mem_cons_of_mem _ ht)⟩
 ·rw [World.cell?_setCell_other _ _ _ _ (by simp)];exact h.c0
 ·rw [World.cell?_setCell_other _ _ _ _ (by simp)];exact h.c1
 ·rw [World.cell?_setCell_other _ _ _ _ (by simp)];exact h.c2
 ·rw [World.cell?_setCell_other _ _ _ _ (by simp)];exact h.c3
 ·rw [World.cell?_setCell_other _ _ _ _ (by simp)];exact h.c4
 ·simp [h.f5]
 ·simp [h.f4]
 ·exact h3.2.2.2.kept (Below.heap_setCell _ _ _ _ (by simpa using h4))
 ·have:=h.last
  cases l with
  | nil=>exact absurd rfl hl
  | cons u l=>rw [List.getLast?_cons_cons] at this;exact this
theorem Z08 (w:World)(B pb:Nat)(b:Bk)(line:Int)(ts:List Tok)(h:PS w B pb b line ts) :
  Calls Tryz.prog 232 #[.pointer (some ⟨pb,0,none⟩)] w fun e w'=>e=synE line∧w'=w:=by
 have c4:=h.c4
 go_enter Tryz.func232,Tryz.ntmps232
 go_wp2
 exact ⟨rfl,rfl,rfl⟩
theorem Z0X (w:World)(B pb:Nat)(b:Bk)(line:Int)(t:Tok)(l:List Tok)(h:PS w B pb b line (t :: l)) :
  Calls Tryz.prog 235 #[.pointer (some ⟨pb,0,none⟩)] w fun e w'=>e=.returned (.bool (decide (t.kind=0)))∧w'=w:=by
 obtain ⟨g,off,cap,h1,h2,h2',h3,h4,h5⟩:=h.tk
 have k0:=h3.1
 have hp:(0:Int)<(l.length:Int)+1:=by omega
 have hd:decide (t.kind=0)=((t.kind:Int) == 0):=by
  by_cases e:t.kind=0 <;> simp [e]
 rw [hd]
 clear hd h
 go_enter Tryz.func235,Tryz.ntmps235
 go_wp2
 go_ret
 exact ⟨rfl,rfl⟩
def tokV (t:Tok):Value:=.agg #[.int .i64 t.kind,.string t.text,.int .i64 t.num]
theorem Z0l {w w':World}{r:Option Nat}(h:Below w.heap.size w w'):w.grownBy w' r:=⟨h.os,h.tape,h.output,h.size,fun k hk _=>h.block k hk⟩
theorem Z5Q (w:World)(B pb:Nat)(b:Bk)(line:Int)(t:Tok)(l:List Tok)(h:PS w B pb b line (t :: l))(hl:l≠[]) :
  Calls Tryz.prog 312 #[.pointer (some ⟨pb,0,none⟩)] w fun e w'=>e=.returned (tokV t)∧PS w' B pb b line l∧w.grownBy w' (some pb):=by
 obtain ⟨g,off,cap,h1,h2,h2',h3,h4,h5'⟩:=h.tk
 have h5:g<w.heap.size:=Nat.lt_of_lt_of_le h5' h.le
 obtain ⟨c,rfl⟩:∃ c,cap=c+1:=⟨cap-1,by simp at h2;omega⟩
 have hll:1≤l.length:=by
  cases l with
  | nil=>exact absurd rfl hl
  | cons u l=>simp
 have hc1:1≤c:=by simp at h2;omega
 obtain ⟨k0,k1,k2,_⟩:=h3
 have hlt:pb<w.heap.size:=Nat.lt_of_lt_of_le h.lt h.le
 have HP:=Z0a h
 have f5:=h.f5
 have H1:=Z0a h1
 have a0:∀ o o',((w.alloc o).alloc o').cell? ⟨pb,5,none⟩=some (.slice (some ⟨g,off,none⟩) (l.length+1) (c+1)):=fun o o'=>by
  rw [World.cell?_alloc_old _ _ _ (by simp;omega),World.cell?_alloc_old _ _ _ (by simp;omega)];exact H1.out
 have HA:=Z0a a0
 clear h a0
 go_enter Tryz.func312,Tryz.ntmps312
 go_wp2_with fail
 have hst:=HP.out.step hl H1.out
 refine bodyPost_ret (v:=tokV t) (by simp [results,Tryz.results312,go_sem,tokV]) rfl ⟨rfl,?_,?_⟩
 ·exact hst.kept (((Below.refl _ _).alloc (by have:=HP.out.le;simp [World.setCell];omega) _).alloc (by have:=HP.out.le;simp [World.setCell];omega) _)
 ·refine Z2F (Z4z _ _ _ _) (Z0l (((Below.refl _ _).alloc (by simp) _).alloc (by simp) _))
theorem tok_text (k:Int)(t:ByteArray)(n:Int)(w:World):(Instr.field 362 (.agg #[.int .i64 k,.string t,.int .i64 n]) 1).run Tryz.prog w=.ok (.string t) w:=by kernel_rfl
theorem tok_num (k:Int)(t:ByteArray)(n:Int)(w:World):(Instr.field 362 (.agg #[.int .i64 k,.string t,.int .i64 n]) 2).run Tryz.prog w=.ok (.int .i64 n) w:=by kernel_rfl
theorem txt_ne (a b:ByteArray)(h:a≠b):(a.toList == b.toList)=false:=by
 rw [beq_eq_false_iff_ne]
 intro e
 apply h
 rw [ByteArray.toList_eq,ByteArray.toList_eq] at e
 exact ByteArray.ext (Array.ext' e)
theorem last_tail {t:Tok}{l:List Tok}(h:(t :: l).getLast?=some endT)(hne:t.text.size≠0):l≠[]:=by
 intro e
 subst e
 simp at h
 subst h
 exact hne rfl
theorem Z3l (w:World)(B pb:Nat)(b:Bk)(line:Int)(t:Tok)(l:List Tok)(x:ByteArray)(h:PS w B pb b line (t :: l))(hx:t.text≠x) :
  Calls Tryz.prog 277 #[.pointer (some ⟨pb,0,none⟩),.string x] w fun e w'=>e=.returned (.bool false)∧w'=w:=by
 obtain ⟨g,off,cap,h1,h2,h2',h3,h4,h5⟩:=h.tk
 have k1:=h3.2.1
 have hp:(0:Int)<(l.length:Int)+1:=by omega
 have hn:=txt_ne _ _ hx
 clear h hx
 go_enter Tryz.func277,Tryz.ntmps277
 go_wp2_with fail
 go_ret
 exact ⟨rfl,rfl⟩
theorem Z1Y (w:World)(B pb:Nat)(b:Bk)(line:Int)(t:Tok)(l:List Tok)(x:ByteArray)(h:PS w B pb b line (t :: l))(hx:t.text=x)(hx0:x.size≠0) :
  Calls Tryz.prog 277 #[.pointer (some ⟨pb,0,none⟩),.string x] w fun e w'=>e=.returned (.bool true)∧PS w' B pb b line l∧w.grownBy w' (some pb):=by
 obtain ⟨g,off,cap,h1,h2,h2',h3,h4,h5⟩:=h.tk
 have k1:=h3.2.1
 have hp:(0:Int)<(l.length:Int)+1:=by omega
 have HN:=Z0a (Z5Q w B pb b line t l h (last_tail h.last (by rw [hx];exact hx0)))
 rw [hx] at k1
 have hn:(x.toList == x.toList)=true:=by simp
 clear h
 go_enter Tryz.func277,Tryz.ntmps277
 go_wp2_with (refine HN.out.mono ?_;rintro e w1 ⟨rfl,hps,hg⟩)
 go_ret
 exact ⟨rfl,hps,hg⟩
theorem Z6A (w:World)(B pb:Nat)(b:Bk)(line:Int)(t:Tok)(l:List Tok)(h:PS w B pb b line (t :: l))(hk:t.kind≠1) :
  Calls Tryz.prog 278 #[.pointer (some ⟨pb,0,none⟩)] w fun e w'=>e=synE line∧w'=w:=by
 obtain ⟨g,off,cap,h1,h2,h2',h3,h4,h5⟩:=h.tk
 have k0:=h3.1
 have hp:(0:Int)<(l.length:Int)+1:=by omega
 have hn:((t.kind:Int) == 1)=false:=by simp;omega
 have HG:=Z0a (Z08 w B pb b line _ h)
 clear h
 go_enter Tryz.func278,Tryz.ntmps278
 go_wp2_with (refine HG.out.mono ?_;rintro e w1 ⟨rfl,rfl⟩;unfold synE)
 exact ⟨rfl,rfl,rfl⟩
theorem Z1X (w:World)(B pb:Nat)(b:Bk)(line:Int)(t:Tok)(l:List Tok)(h:PS w B pb b line (t :: l))(hk:t.kind=1) :
  Calls Tryz.prog 278 #[.pointer (some ⟨pb,0,none⟩)] w fun e w'=>e=.returned (.string t.text)∧PS w' B pb b line l∧w.grownBy w' (some pb):=by
 obtain ⟨g,off,cap,h1,h2,h2',h3,h4,h5⟩:=h.tk
 have k0:=h3.1
 have hp:(0:Int)<(l.length:Int)+1:=by omega
 have hl:l≠[]:=by
  intro e
  subst e
  have:=h.last
  simp at this
  subst this
  cases hk
 have HN:=Z0a (Z5Q w B pb b line t l h hl)
 have hn:((t.kind:Int) == 1)=true:=by simp [hk]
 unfold tokV at HN
 have hfd:=tok_text
 clear h
 go_enter Tryz.func278,Tryz.ntmps278
 go_wp2_with (refine HN.out.mono ?_;rintro e w1 ⟨rfl,hps,hg⟩)
 go_ret
 exact ⟨rfl,hps,hg⟩
end Go.Proofs.YthokdbcpkmcieabGreatDoor
namespace Go.Proofs.YthokdbcpkmcieabGreatDoor
def rowsL : List (Nat × Nat × List UInt8) :=
  [(0, 0, [78, 79, 80]),
   (2, 0, [76, 74, 77, 80, 32, 97, 100, 100, 114]),
   (3, 0, [82, 82, 32, 65]),
   (4, 0, [73, 78, 67, 32, 65]),
   (5, 0, [73, 78, 67, 32, 100, 105, 114]),
   (6, 1, [73, 78, 67, 32, 64, 82]),
   (8, 7, [73, 78, 67, 32, 82]),
   (16, 0, [74, 66, 67, 32, 98, 105, 116, 44, 114, 101, 108]),
   (18, 0, [76, 67, 65, 76, 76, 32, 97, 100, 100, 114]),
   (19, 0, [82, 82, 67, 32, 65]),
   (20, 0, [68, 69, 67, 32, 65]),
   (21, 0, [68, 69, 67, 32, 100, 105, 114]),
   (22, 1, [68, 69, 67, 32, 64, 82]),
   (24, 7, [68, 69, 67, 32, 82]),
   (32, 0, [74, 66, 32, 98, 105, 116, 44, 114, 101, 108]),
   (34, 0, [82, 69, 84]),
   (35, 0, [82, 76, 32, 65]),
   (36, 0, [65, 68, 68, 32, 65, 44, 35, 98, 121, 116, 101]),
   (37, 0, [65, 68, 68, 32, 65, 44, 100, 105, 114]),
   (38, 1, [65, 68, 68, 32, 65, 44, 64, 82]),
   (40, 7, [65, 68, 68, 32, 65, 44, 82]),
   (48, 0, [74, 78, 66, 32, 98, 105, 116, 44, 114, 101, 108]),
   (50, 0, [82, 69, 84, 73]),
   (51, 0, [82, 76, 67, 32, 65]),
   (52, 0, [65, 68, 68, 67, 32, 65, 44, 35, 98, 121, 116, 101]),
   (53, 0, [65, 68, 68, 67, 32, 65, 44, 100, 105, 114]),
   (54, 1, [65, 68, 68, 67, 32, 65, 44, 64, 82]),
   (56, 7, [65, 68, 68, 67, 32, 65, 44, 82]),
   (64, 0, [74, 67, 32, 114, 101, 108]),
   (66, 0, [79, 82, 76, 32, 100, 105, 114, 44, 65]),
   (67, 0, [79, 82, 76, 32, 100, 105, 114, 44, 35, 98, 121, 116, 101]),
   (68, 0, [79, 82, 76, 32, 65, 44, 35, 98, 121, 116, 101]),
   (69, 0, [79, 82, 76, 32, 65, 44, 100, 105, 114]),
   (70, 1, [79, 82, 76, 32, 65, 44, 64, 82]),
   (72, 7, [79, 82, 76, 32, 65, 44, 82]),
   (80, 0, [74, 78, 67, 32, 114, 101, 108]),
   (82, 0, [65, 78, 76, 32, 100, 105, 114, 44, 65]),
   (83, 0, [65, 78, 76, 32, 100, 105, 114, 44, 35, 98, 121, 116, 101]),
   (84, 0, [65, 78, 76, 32, 65, 44, 35, 98, 121, 116, 101]),
   (85, 0, [65, 78, 76, 32, 65, 44, 100, 105, 114]),
   (86, 1, [65, 78, 76, 32, 65, 44, 64, 82]),
   (88, 7, [65, 78, 76, 32, 65, 44, 82]),
   (96, 0, [74, 90, 32, 114, 101, 108]),
   (98, 0, [88, 82, 76, 32, 100, 105, 114, 44, 65]),
   (99, 0, [88, 82, 76, 32, 100, 105, 114, 44, 35, 98, 121, 116, 101]),
   (100, 0, [88, 82, 76, 32, 65, 44, 35, 98, 121, 116, 101]),
   (101, 0, [88, 82, 76, 32, 65, 44, 100, 105, 114]),
   (102, 1, [88, 82, 76, 32, 65, 44, 64, 82]),
   (104, 7, [88, 82, 76, 32, 65, 44, 82]),
   (112, 0, [74, 78, 90, 32, 114, 101, 108]),
   (114, 0, [79, 82, 76, 32, 67, 44, 98, 105, 116]),
   (115, 0, [74, 77, 80, 32, 64, 65, 43, 68, 80, 84, 82]),
   (116, 0, [77, 79, 86, 32, 65, 44, 35, 98, 121, 116, 101]),
   (117, 0, [77, 79, 86, 32, 100, 105, 114, 44, 35, 98, 121, 116, 101]),
   (118, 1, [77, 79, 86, 32, 64, 82, 44, 35, 98, 121, 116, 101]),
   (120, 7, [77, 79, 86, 32, 82, 44, 35, 98, 121, 116, 101]),
   (128, 0, [83, 74, 77, 80, 32, 114, 101, 108]),
   (130, 0, [65, 78, 76, 32, 67, 44, 98, 105, 116]),
   (131, 0, [77, 79, 86, 67, 32, 65, 44, 64, 65, 43, 80, 67]),
   (132, 0, [68, 73, 86, 32, 65, 66]),
   (133, 0, [77, 79, 86, 32, 100, 105, 114, 44, 100, 105, 114]),
   (134, 1, [77, 79, 86, 32, 100, 105, 114, 44, 64, 82]),
   (136, 7, [77, 79, 86, 32, 100, 105, 114, 44, 82]),
   (144, 0, [77, 79, 86, 32, 68, 80, 84, 82, 44, 35, 119, 111, 114, 100]),
   (146, 0, [77, 79, 86, 32, 98, 105, 116, 44, 67]),
   (147, 0, [77, 79, 86, 67, 32, 65, 44, 64, 65, 43, 68, 80, 84, 82]),
   (148, 0, [83, 85, 66, 66, 32, 65, 44, 35, 98, 121, 116, 101]),
   (149, 0, [83, 85, 66, 66, 32, 65, 44, 100, 105, 114]),
   (150, 1, [83, 85, 66, 66, 32, 65, 44, 64, 82]),
   (152, 7, [83, 85, 66, 66, 32, 65, 44, 82]),
   (160, 0, [79, 82, 76, 32, 67, 44, 47, 98, 105, 116]),
   (162, 0, [77, 79, 86, 32, 67, 44, 98, 105, 116]),
   (163, 0, [73, 78, 67, 32, 68, 80, 84, 82]),
   (164, 0, [77, 85, 76, 32, 65, 66]),
   (166, 1, [77, 79, 86, 32, 64, 82, 44, 100, 105, 114]),
   (168, 7, [77, 79, 86, 32, 82, 44, 100, 105, 114]),
   (176, 0, [65, 78, 76, 32, 67, 44, 47, 98, 105, 116]),
   (178, 0, [67, 80, 76, 32, 98, 105, 116]),
   (179, 0, [67, 80, 76, 32, 67]),
   (180, 0, [67, 74, 78, 69, 32, 65, 44, 35, 98, 121, 116, 101, 44, 114, 101, 108]),
   (181, 0, [67, 74, 78, 69, 32, 65, 44, 100, 105, 114, 44, 114, 101, 108]),
   (182, 1, [67, 74, 78, 69, 32, 64, 82, 44, 35, 98, 121, 116, 101, 44, 114, 101, 108]),
   (184, 7, [67, 74, 78, 69, 32, 82, 44, 35, 98, 121, 116, 101, 44, 114, 101, 108]),
   (192, 0, [80, 85, 83, 72, 32, 100, 105, 114]),
   (194, 0, [67, 76, 82, 32, 98, 105, 116]),
   (195, 0, [67, 76, 82, 32, 67]),
   (196, 0, [83, 87, 65, 80, 32, 65]),
   (197, 0, [88, 67, 72, 32, 65, 44, 100, 105, 114]),
   (198, 1, [88, 67, 72, 32, 65, 44, 64, 82]),
   (200, 7, [88, 67, 72, 32, 65, 44, 82]),
   (208, 0, [80, 79, 80, 32, 100, 105, 114]),
   (210, 0, [83, 69, 84, 66, 32, 98, 105, 116]),
   (211, 0, [83, 69, 84, 66, 32, 67]),
   (212, 0, [68, 65, 32, 65]),
   (213, 0, [68, 74, 78, 90, 32, 100, 105, 114, 44, 114, 101, 108]),
   (214, 1, [88, 67, 72, 68, 32, 65, 44, 64, 82]),
   (216, 7, [68, 74, 78, 90, 32, 82, 44, 114, 101, 108]),
   (224, 0, [77, 79, 86, 88, 32, 65, 44, 64, 68, 80, 84, 82]),
   (226, 1, [77, 79, 86, 88, 32, 65, 44, 64, 82]),
   (228, 0, [67, 76, 82, 32, 65]),
   (229, 0, [77, 79, 86, 32, 65, 44, 100, 105, 114]),
   (230, 1, [77, 79, 86, 32, 65, 44, 64, 82]),
   (232, 7, [77, 79, 86, 32, 65, 44, 82]),
   (240, 0, [77, 79, 86, 88, 32, 64, 68, 80, 84, 82, 44, 65]),
   (242, 1, [77, 79, 86, 88, 32, 64, 82, 44, 65]),
   (244, 0, [67, 80, 76, 32, 65]),
   (245, 0, [77, 79, 86, 32, 100, 105, 114, 44, 65]),
   (246, 1, [77, 79, 86, 32, 64, 82, 44, 65]),
   (248, 7, [77, 79, 86, 32, 82, 44, 65]),
   (1, 224, [65, 74, 77, 80, 32, 112, 97, 103, 101]),
   (17, 224, [65, 67, 65, 76, 76, 32, 112, 97, 103, 101])]
end Go.Proofs.YthokdbcpkmcieabGreatDoor
namespace Go.Proofs.YthokdbcpkmcieabGreatDoor
open Go Go.RowKit Go.Maps Go.WideMaps
def Z1V (t:List UInt8):List UInt8:=t.takeWhile fun c=>c != 32
def hasN (l:List UInt8):Bool:=rowsL.any fun r=>Z1V r.2.2 == l
def fixL : List (List UInt8 × Nat × Nat) :=
  [([65], 0, 0), ([65, 66], 1, 0), ([67], 2, 0), ([68, 80, 84, 82], 3, 0), ([64, 65, 43, 68, 80, 84, 82], 4, 0), ([64, 65, 43, 80, 67], 5, 0), ([64, 68, 80, 84, 82], 6, 0), ([64, 82, 48], 7, 0), ([64, 82, 49], 7, 1),
   ([82, 48], 8, 0), ([82, 49], 8, 1), ([82, 50], 8, 2), ([82, 51], 8, 3), ([82, 52], 8, 4), ([82, 53], 8, 5), ([82, 54], 8, 6), ([82, 55], 8, 7)]
def fixO (l:List UInt8):Option (Nat × Nat):=(fixL.find? fun x=>x.1 == l).map (·.2)
def fixV (x:Nat × Nat):Value:=.agg #[.int .i64 x.1,.int .i64 x.2]
def dirL:List (List UInt8 × Nat):=[([79,82,71],1),([68,66],2),([68,87],3),([68,83],4),([69,81,85],5)]
def dirO (l:List UInt8):Option Nat:=(dirL.find? fun x=>x.1 == l).map (·.2)
theorem strK:Keyed Tryz.prog 9:=string_keyed Tryz.underlying9
structure BookAt (w:World) (b:Bk):Prop where
 counts:∃ f n,MapAt Tryz.prog 9 w b.cb n f∧∀ l,(hasN l=false∧f l=none)∨(hasN l=true∧∃ c:Int,0<c∧f l=some (.int .i64 c))
 fixed:∃ n,MapAt Tryz.prog 9 w b.fb n (fun l=>(fixO l).map fixV)
 dirs:MapAt Tryz.prog 9 w b.db 5 (fun l=>(dirO l).map fun t=>.int .i64 t)
theorem zeroFix (w:World):(zeroValue 378).run Tryz.prog w=.ok (fixV (0,0)) w:=by kernel_rfl
theorem zeroTask (w:World):(zeroValue 247).run Tryz.prog w=.ok (.int .i64 0) w:=by kernel_rfl
theorem Z8i (w:World):(zeroValue 3).run Tryz.prog w=.ok (.int .i64 0) w:=by kernel_rfl
theorem BookAt.kept {w w':World}{b:Bk}{r:Nat}(h:BookAt w b)(hg:w.grownBy w' (some r))(h1:b.cb≠r)(h2:b.fb≠r)(h3:b.db≠r):BookAt w' b:=by
 obtain ⟨nx,hx⟩:=h.fixed
 obtain ⟨f,n,hf,hl⟩:=h.counts
 exact ⟨⟨f,n,hf.kept hg (by simpa using h1),hl⟩,⟨nx,hx.kept hg (by simpa using h2)⟩,h.dirs.kept hg (by simpa using h3)⟩
theorem BookAt.belowB {w w':World}{b:Bk}{B:Nat}(h:BookAt w b)(hb:Below B w w')(l1:b.cb<B)(l2:b.fb<B)(l3:b.db<B):BookAt w' b:=by
 obtain ⟨nx,hx⟩:=h.fixed
 obtain ⟨f,n,hf,hl⟩:=h.counts
 exact ⟨⟨f,n,hf.below hb l1,hl⟩,⟨nx,hx.below hb l2⟩,h.dirs.below hb l3⟩
theorem BookAt.below {w w':World}{b:Bk}(h:BookAt w b)(hb:Below w.heap.size w w'):BookAt w' b:=by
 obtain ⟨nx,hx⟩:=h.fixed
 obtain ⟨f,n,hf,hl⟩:=h.counts
 exact ⟨⟨f,n,hf.below hb hf.lt,hl⟩,⟨nx,hx.below hb hx.lt⟩,h.dirs.below hb h.dirs.lt⟩
def bkV (b:Bk):Value:=.agg #[.map (some b.cb),.map (some b.ib),.map (some b.fb)]
theorem Z1M (w:World)(b:Bk)(s:ByteArray)(h:BookAt w b)(hs:s.size≤1000000) :
  Calls Tryz.prog 279 #[bkV b,.string s] w fun e w'=>e=.returned (.bool (hasN s.data.toList))∧Below w.heap.size w w':=by
 obtain ⟨f,n,hf,hl⟩:=h.counts
 have hkey:keyOf Tryz.prog 9 (.string s)=some (.string s.data.toList):=keyOf_string_mk Tryz.underlying9 (by unfold maxLen;omega)
 have hr:∀ o,(Instr.lookup 242 (.map (some b.cb)) (.string s) false).run Tryz.prog (w.alloc o)=.ok (Z5A false (.int .i64 0) (f s.data.toList)) (w.alloc o):=fun o=>(hf.alloc o).look strK Tryz.underlying242 (Z8i _) hkey false
 unfold bkV
 rcases hl s.data.toList with ⟨e1,e2⟩ | ⟨e1,c,hc,e2⟩
 ·rw [e1]
  rw [e2] at hr
  simp only [Z5A,Bool.false_eq_true,if_false] at hr
  clear hkey e1 e2 hl
  go_enter Tryz.func279,Tryz.ntmps279
  go_wp2_with fail
  go_ret
  exact ⟨rfl,(Below.refl _ _).alloc (Nat.le_refl _) _⟩
 ·rw [e1]
  rw [e2] at hr
  simp only [Z5A,Bool.false_eq_true,if_false] at hr
  clear hkey e1 e2 hl
  go_enter Tryz.func279,Tryz.ntmps279
  go_wp2_with fail
  go_ret
  exact ⟨by simp ,(Below.refl _ _).alloc (Nat.le_refl _) _⟩
def fixR (o:Option (Nat × Nat)):Value:=match o with
 | some x=>.tuple #[fixV x,.bool true]
 | none=>.tuple #[fixV (0,0),.bool false]
theorem look_fix (o:Option (Nat × Nat)):Z5A true (fixV (0,0)) (o.map fixV)=fixR o:=by cases o <;> rfl
theorem Z3I (w:World)(b:Bk)(s:ByteArray)(h:BookAt w b)(hs:s.size≤1000000) :
  Calls Tryz.prog 316 #[bkV b,.string s] w fun e w'=>e=.returned (fixR (fixO s.data.toList))∧Below w.heap.size w w':=by
 have hkey:keyOf Tryz.prog 9 (.string s)=some (.string s.data.toList):=keyOf_string_mk Tryz.underlying9 (by unfold maxLen;omega)
 obtain ⟨nx,hx⟩:=h.fixed
 have hr:∀ o o',(Instr.lookup 320 (.map (some b.fb)) (.string s) true).run Tryz.prog ((w.alloc o).alloc o')=.ok (fixR (fixO s.data.toList)) ((w.alloc o).alloc o'):=fun o o'=>by
  rw [((hx.alloc o).alloc o').look strK Tryz.underlying320 (zeroFix _) hkey true,look_fix]
 unfold bkV
 clear h hx
 cases hf:fixO s.data.toList with
 | none =>
  rw [hf] at hr
  simp only [fixR,fixV] at hr ⊢
  go_enter Tryz.func316,Tryz.ntmps316
  go_wp2_with fail
  refine bodyPost_ret (v:=.tuple #[.agg #[.int .i64 0,.int .i64 0],.bool false]) (by simp [results,Tryz.results316,go_sem]) rfl ⟨by simp,?_⟩
  exact (((Below.refl _ _).alloc (Nat.le_refl _) _).alloc (by simp) _).alloc (by simp;omega) _
 | some x =>
  obtain ⟨k,n⟩:=x
  rw [hf] at hr
  simp only [fixR,fixV] at hr ⊢
  go_enter Tryz.func316,Tryz.ntmps316
  go_wp2_with fail
  refine bodyPost_ret (v:=.tuple #[.agg #[.int .i64 k,.int .i64 n],.bool true]) (by simp [results,Tryz.results316,go_sem]) rfl ⟨rfl,?_⟩
  exact (((Below.refl _ _).alloc (Nat.le_refl _) _).alloc (by simp) _).alloc (by simp;omega) _
def Z0L (l:List UInt8):Bool:=!(dirO l).isSome && !(fixO l).isSome && !hasN l && l != [80,67]
structure Apart (B pb:Nat) (b:Bk):Prop where
 l1:b.cb<B
 l2:b.fb<B
 l3:b.db<B
 h1:b.cb≠pb
 h2:b.fb≠pb
 h3:b.db≠pb
def dirR (o:Option Nat):Value:=match o with
 | some x=>.tuple #[.int .i64 x,.bool true]
 | none=>.tuple #[.int .i64 0,.bool false]
theorem look_dir (o:Option Nat):Z5A true (.int .i64 0) (o.map fun t=>.int .i64 t)=dirR o:=by cases o <;> rfl
theorem Z4v (w:World)(b:Bk)(s:ByteArray)(h:BookAt w b)(hs:s.size≤1000000):(Instr.lookup 324 (.map (some b.db)) (.string s) true).run Tryz.prog w=.ok (dirR (dirO s.data.toList)) w:=by
 have hkey:keyOf Tryz.prog 9 (.string s)=some (.string s.data.toList):=keyOf_string_mk Tryz.underlying9 (by unfold maxLen;omega)
 rw [h.dirs.look strK Tryz.underlying324 (zeroTask _) hkey true,look_dir]
theorem eq_pc (s:ByteArray):(s.toList == [80,67])=(s.data.toList == [80,67]):=by
 rw [ByteArray.toList_eq]
theorem Z1F (w:World)(B pb:Nat)(b:Bk)(line:Int)(ts:List Tok)(s:ByteArray)(h:PS w B pb b line ts)(hb:BookAt w b)(hs:s.size≤1000000) :
  Calls Tryz.prog 282 #[.pointer (some ⟨pb,0,none⟩),.string s] w fun e w'=>(e=if Z0L s.data.toList=true then .returned (.string s) else synE line)∧Below w.heap.size w w':=by
 have HD:=Z0a (Z4v w b s hb hs)
 have HF:=Z0a (Z3I w b s hb hs)
 have HB:=Z0a hb
 have HP:=Z0a h
 have hdr:=Z4v w b s hb hs
 have c0:=h.c0
 have c1:=h.c1
 have c2:=h.c2
 have c3:=h.c3
 have hle:=h.le
 have hlt:pb<w.heap.size:=Nat.lt_of_lt_of_le h.lt h.le
 unfold bkV at HF
 have hpc:=eq_pc s
 clear h hb
 cases hd:dirO s.data.toList with
 | some x =>
  rw [hd] at hdr
  have e1:Z0L s.data.toList=false:=by unfold Z0L;rw [hd];rfl
  rw [e1]
  simp only [dirR] at hdr
  go_enter Tryz.func282,Tryz.ntmps282
  go_wp2_with fail
  refine HF.out.mono ?_
  rintro e w1 ⟨rfl,hb1⟩
  have hz:=hb1.size
  obtain ⟨y,z,hy⟩:∃ y z,fixR (fixO s.data.toList)=.tuple #[fixV y,.bool z]:=by
   cases fixO s.data.toList with
   | none=>exact ⟨_,_,rfl⟩
   | some y=>exact ⟨_,_,rfl⟩
  rw [hy]
  simp only [fixV]
  go_wp2_with fail
  refine (Z08 _ B pb b line ts ((HP.out.kept (hb1.mono hle)).kept ((Below.refl _ _).alloc (Nat.le_trans hle hz) _))).mono ?_
  rintro e w2 ⟨rfl,rfl⟩
  unfold synE
  go_wp2_with fail
  exact ⟨rfl,by simp [synE],hb1.alloc hz _⟩
 | none =>
  rw [hd] at hdr
  simp only [dirR] at hdr
  have HH:=Z0a (fun (w':World) (hbw:Below w.heap.size w w')=>Z1M w' b s (HB.out.below hbw) hs)
  unfold bkV at HH
  cases hf:fixO s.data.toList with
  | some y =>
   obtain ⟨y1,y2⟩:=y
   have e1:Z0L s.data.toList=false:=by unfold Z0L;rw [hd,hf];rfl
   rw [e1]
   rw [hf] at HF
   simp only [fixR,fixV] at HF
   go_enter Tryz.func282,Tryz.ntmps282
   go_wp2_with fail
   refine HF.out.mono ?_
   rintro e w1 ⟨rfl,hb1⟩
   have hz:=hb1.size
   go_wp2_with fail
   refine (Z08 _ B pb b line ts ((HP.out.kept (hb1.mono hle)).kept ((Below.refl _ _).alloc (Nat.le_trans hle hz) _))).mono ?_
   rintro e w2 ⟨rfl,rfl⟩
   unfold synE
   go_wp2_with fail
   exact ⟨rfl,by simp [synE],hb1.alloc hz _⟩
  | none =>
   rw [hf] at HF
   simp only [fixR,fixV] at HF
   cases hh:hasN s.data.toList with
   | true =>
    have e1:Z0L s.data.toList=false:=by unfold Z0L;rw [hd,hf,hh];rfl
    rw [e1]
    rw [hh] at HH
    go_enter Tryz.func282,Tryz.ntmps282
    go_wp2_with fail
    refine HF.out.mono ?_
    rintro e w1 ⟨rfl,hb1⟩
    have hz:=hb1.size
    have hp1:=(HP.out.kept (hb1.mono hle)).kept ((Below.refl _ _).alloc (Nat.le_trans hle hz) (.cells #[.int .i64 0,.int .i64 0] 378))
    have d0:=hp1.c0
    have d1:=hp1.c1
    have d2:=hp1.c2
    have H1:=Z0a hp1
    have hb1':=hb1.alloc hz (.cells #[.int .i64 0,.int .i64 0] 378)
    clear hp1
    go_wp2_with fail
    refine (HH.out _ hb1').mono ?_
    rintro e w2 ⟨rfl,hb2⟩
    go_wp2_with fail
    refine (Z08 _ B pb b line ts (H1.out.kept (hb2.mono H1.out.le))).mono ?_
    rintro e w3 ⟨rfl,rfl⟩
    unfold synE
    go_wp2_with fail
    exact ⟨rfl,by simp [synE],hb1'.trans (hb2.mono hb1'.size)⟩
   | false =>
    rw [hh] at HH
    cases hq:(s.data.toList == [80,67]) with
    | true =>
     have e1:Z0L s.data.toList=false:=by unfold Z0L;rw [hd,hf,hh,bne,hq];rfl
     rw [e1]
     rw [hq] at hpc
     go_enter Tryz.func282,Tryz.ntmps282
     go_wp2_with fail
     refine HF.out.mono ?_
     rintro e w1 ⟨rfl,hb1⟩
     have hz:=hb1.size
     have hp1:=(HP.out.kept (hb1.mono hle)).kept ((Below.refl _ _).alloc (Nat.le_trans hle hz) (.cells #[.int .i64 0,.int .i64 0] 378))
     have d0:=hp1.c0
     have d1:=hp1.c1
     have d2:=hp1.c2
     have H1:=Z0a hp1
     have hb1':=hb1.alloc hz (.cells #[.int .i64 0,.int .i64 0] 378)
     clear hp1
     go_wp2_with fail
     refine (HH.out _ hb1').mono ?_
     rintro e w2 ⟨rfl,hb2⟩
     go_wp2_with fail
     refine (Z08 _ B pb b line ts (H1.out.kept (hb2.mono H1.out.le))).mono ?_
     rintro e w3 ⟨rfl,rfl⟩
     unfold synE
     go_wp2_with fail
     exact ⟨rfl,by simp [synE],hb1'.trans (hb2.mono hb1'.size)⟩
    | false =>
     have e1:Z0L s.data.toList=true:=by unfold Z0L;rw [hd,hf,hh,bne,hq];rfl
     rw [e1]
     rw [hq] at hpc
     go_enter Tryz.func282,Tryz.ntmps282
     go_wp2_with fail
     refine HF.out.mono ?_
     rintro e w1 ⟨rfl,hb1⟩
     have hz:=hb1.size
     have hp1:=(HP.out.kept (hb1.mono hle)).kept ((Below.refl _ _).alloc (Nat.le_trans hle hz) (.cells #[.int .i64 0,.int .i64 0] 378))
     have d0:=hp1.c0
     have d1:=hp1.c1
     have d2:=hp1.c2
     have H1:=Z0a hp1
     have hb1':=hb1.alloc hz (.cells #[.int .i64 0,.int .i64 0] 378)
     clear hp1
     go_wp2_with fail
     refine (HH.out _ hb1').mono ?_
     rintro e w2 ⟨rfl,hb2⟩
     go_wp2_with fail
     go_ret
     exact ⟨by simp,hb1'.trans (hb2.mono hb1'.size)⟩
theorem Z6J (s:ByteArray)(line:Int)(h:Z0L s.data.toList=true):(if Z0L s.data.toList=true then Ending.returned (.string s) else synE line)=.returned (.string s):=by rw [if_pos h]
theorem Z7t (s:ByteArray)(line:Int)(h:Z0L s.data.toList=false):(if Z0L s.data.toList=true then Ending.returned (.string s) else synE line)=synE line:=by rw [if_neg (by simp [h])]
theorem name_yes (w:World)(B pb:Nat)(b:Bk)(line:Int)(t:Tok)(l:List Tok)(h:PS w B pb b line (t :: l))(hb:BookAt w b)(ha:Apart B pb b)(hs:t.text.size≤1000000)(hk:t.kind=1)(ho:Z0L t.text.data.toList=true) :
  Calls Tryz.prog 276 #[.pointer (some ⟨pb,0,none⟩)] w fun e w'=>e=.returned (.string t.text)∧PS w' B pb b line l∧w.grownBy w' (some pb):=by
 have HW:=Z0a (Z1X w B pb b line t l h hk)
 have HB:=Z0a hb
 clear h hb
 go_enter Tryz.func276,Tryz.ntmps276
 go_wp2_with fail
 refine HW.out.mono ?_
 rintro e w1 ⟨rfl,hp1,hg1⟩
 have hc:=Z1F w1 B pb b line l t.text hp1 (HB.out.kept hg1 ha.h1 ha.h2 ha.h3) hs
 rw [Z6J _ _ ho] at hc
 have HC:=Z0a hc
 have HP:=Z0a hp1
 clear hc hp1
 go_wp2_with fail
 refine HC.out.mono ?_
 rintro e w2 ⟨rfl,hb2⟩
 go_wp2_with fail
 go_ret
 exact ⟨rfl,HP.out.kept (hb2.mono HP.out.le),Z2F hg1 (Z0l hb2)⟩
theorem name_no (w:World)(B pb:Nat)(b:Bk)(line:Int)(t:Tok)(l:List Tok)(h:PS w B pb b line (t :: l))(hb:BookAt w b)(ha:Apart B pb b)(hs:t.text.size≤1000000)(hn:t.kind≠1∨Z0L t.text.data.toList=false) :
  Calls Tryz.prog 276 #[.pointer (some ⟨pb,0,none⟩)] w fun e w'=>e=synE line∧w.grownBy w' (some pb):=by
 by_cases hk:t.kind=1
 ·have ho:Z0L t.text.data.toList=false:=by
   rcases hn with h' | h'
   ·exact absurd hk h'
   ·exact h'
  have HW:=Z0a (Z1X w B pb b line t l h hk)
  have HB:=Z0a hb
  clear h hb
  go_enter Tryz.func276,Tryz.ntmps276
  go_wp2_with fail
  refine HW.out.mono ?_
  rintro e w1 ⟨rfl,hp1,hg1⟩
  have hc:=Z1F w1 B pb b line l t.text hp1 (HB.out.kept hg1 ha.h1 ha.h2 ha.h3) hs
  rw [Z7t _ _ ho] at hc
  have HC:=Z0a hc
  clear hc hp1
  go_wp2_with fail
  refine HC.out.mono ?_
  rintro e w2 ⟨rfl,hb2⟩
  unfold synE
  go_wp2_with fail
  exact ⟨rfl,rfl,Z2F hg1 (Z0l hb2)⟩
 ·have HW:=Z0a (Z6A w B pb b line t l h hk)
  clear h
  go_enter Tryz.func276,Tryz.ntmps276
  go_wp2_with fail
  refine HW.out.mono ?_
  rintro e w1 ⟨rfl,rfl⟩
  unfold synE
  go_wp2_with fail
  exact ⟨rfl,rfl,⟨rfl,rfl,rfl,Nat.le_refl _,fun _ _ _=>rfl⟩⟩
end Go.Proofs.YthokdbcpkmcieabGreatDoor
