/- Par10 Vals2 Ins -/
import Derived.Test.YthokdbcpkmcieabGreatDoorE08
import Derived.Test.YthokdbcpkmcieabGreatDoorE06
import Derived.Deep.DeepCutAuto
set_option maxRecDepth 200000
set_option maxHeartbeats 8000000
namespace Go.Proofs.YthokdbcpkmcieabGreatDoor
open Go Go.RowKit Go.Maps Go.WideMaps
structure InsD where
 code:Nat
 kinds:List Nat
 size:Nat
def Z2G (t:List UInt8):List ByteArray:=match Lib.cut t [32] with
 | (_,l,true)=>pieces ⟨l.toArray⟩
 | _=>[]
def Z1J (t:List UInt8):List Nat:=(Z2G t).map fun p=>(Z4X p).toNat
def Z6X (ks:List Nat):Nat:=1+(ks.map fun k=>if k≤8 then 0 else if k=10∨k=14 then 2 else 1).sum
def insR (r:Nat × Nat × List UInt8):InsD:=⟨r.1,Z1J r.2.2,Z6X (Z1J r.2.2)⟩
def meant (s:List UInt8) (ks:List Nat) (r:Nat × Nat × List UInt8):Bool:=Z1V r.2.2 == s && ((Z1J r.2.2).map lkN == ks.map lkN)
def insO (s:List UInt8) (ks:List Nat):Option InsD:=(rowsL.reverse.find? (meant s ks)).map insR
def Z1x (s:ByteArray) (ks:List Nat):List UInt8:=entK s ks.length (match ks[0]? with | some k=>(lkN k:Nat) | none=>0) (match ks[1]? with | some k=>(lkN k:Nat) | none=>0) (match ks[2]? with | some k=>(lkN k:Nat) | none=>0)
def insV (c:Int) (v:Value) (n:Int):Value:=.agg #[.int .u8 c,v,.int .i64 n]
def InsAt (w:World) (b:Bk) (B:Nat):Prop:=∃ f n,MapAt Tryz.prog 358 w b.ib n f∧∀ (s:ByteArray) (ks:List Nat),s.size≤1000000→ks.length≤3→(∀ k∈ks,k≤100) →
 match insO s.data.toList ks with
 | none=>f (Z1x s ks)=none
 | some d=>∃ v,f (Z1x s ks)=some (insV d.code v d.size)∧w.ownsRow 0 231 1 v d.kinds.length (Z0n d.kinds)∧∀ j,v.ownBlock=some j→j<B
theorem lkN_le (k:Nat)(h:k≤100):lkN k≤100:=by
 unfold lkN
 split
 ·omega
 ·split <;> omega
theorem Z4L (s:ByteArray)(ks:List Nat)(hs:s.size≤1000000)(hk:ks.length≤3)(hks:∀ k∈ks,k≤100):keyOf Tryz.prog 358 (Z49 s ks)=some (.string (Z1x s ks)):=by
 have key:∀ i:Nat,(Lit.int .i64 (match ks[i]? with | some k=>((lkN k:Nat):Int) | none=>0)).wf=true:=by
  intro i
  cases h:ks[i]? with
  | none=>exact Z8e 0 (by omega) (by omega)
  | some k =>
   have:=lkN_le k (hks k (List.mem_of_getElem? h))
   exact Z8e ((lkN k:Nat):Int) (by omega) (by omega)
 exact entKey s _ _ _ _ hs (Z8e _ (by omega) (by omega)) (key 0) (key 1) (key 2)
theorem zeroIns (w:World):(zeroValue 251).run Tryz.prog w=.ok (insV 0 (.slice none 0 0) 0) w:=by kernel_rfl
def FEnd (w:World) (B:Nat) (o:Option InsD) (e:Ending) (w':World):Prop :=
 Below w.heap.size w w'∧match o with
 | some d=>∃ v,e=.returned (.tuple #[insV d.code v d.size,.bool true])∧w.ownsRow 0 231 1 v d.kinds.length (Z0n d.kinds)∧∀ j,v.ownBlock=some j→j<B
 | none=>∃ (c:Int) (va:Option Addr) (vn vc:Nat) (m:Int),e=.returned (.tuple #[insV c (.slice va vn vc) m,.bool false])
structure FQ (w wq:World) (sb:Nat) (c:Int) (v:Value) (m:Int):Prop where
 q0:wq.cell? ⟨sb,0,none⟩=some (.int .u8 c)
 q1:wq.cell? ⟨sb,1,none⟩=some v
 q2:wq.cell? ⟨sb,2,none⟩=some (.int .i64 m)
 r0:wq.cell? ⟨w.heap.size+1,0,none⟩=some (.int .u8 0)
 r1:wq.cell? ⟨w.heap.size+1,1,none⟩=some (.slice none 0 0)
 r2:wq.cell? ⟨w.heap.size+1,2,none⟩=some (.int .i64 0)
 g0:wq.frozen? ⟨w.heap.size+1,0,none⟩=false
 g1:wq.frozen? ⟨w.heap.size+1,1,none⟩=false
 g2:wq.frozen? ⟨w.heap.size+1,2,none⟩=false
 bel:Below w.heap.size w wq
 lt:sb<wq.heap.size
 ge:w.heap.size+2≤sb
theorem fb_one {w wx:World}{o1 o2:Obj}(h:Below ((w.alloc o1).alloc o2).drew.heap.size ((w.alloc o1).alloc o2).drew wx):Below w.heap.size w wx:=(((Below.refl _ _).alloc (Nat.le_refl _) _).alloc (by simp) _).drew.trans (h.mono (by simp;omega))
theorem fb_two {w wx:World}{o1 o2 o3:Obj}(h:Below (((w.alloc o1).alloc o2).alloc o3).drew.heap.size (((w.alloc o1).alloc o2).alloc o3).drew wx):Below w.heap.size w wx:=((((Below.refl _ _).alloc (Nat.le_refl _) _).alloc (by simp) _).alloc (by simp;omega) _).drew.trans (h.mono (by simp;omega))
theorem at_new {w:World}{cs:Array Value}{t:TypeId}{k j:Nat}(hk:k=w.heap.size):(w.alloc (.cells cs t)).cell? ⟨k,j,none⟩=cs[j]?∧(w.alloc (.cells cs t)).frozen? ⟨k,j,none⟩=false:=by
 subst hk
 simp
theorem fb_al {w wx:World}(h:Below w.heap.size w wx)(o:Obj):Below w.heap.size w (wx.alloc o):=h.alloc h.size o
theorem fd_cells {w wx:World}{o1 o2:Obj}(h:Below (((w.alloc o1).alloc o2).alloc (.cells #[.int .u8 0,.slice none 0 0,.int .i64 0] 251)).drew.heap.size (((w.alloc o1).alloc o2).alloc (.cells #[.int .u8 0,.slice none 0 0,.int .i64 0] 251)).drew wx) :
  wx.cell? ⟨w.heap.size+2,0,none⟩=some (.int .u8 0)∧wx.cell? ⟨w.heap.size+2,1,none⟩=some (.slice none 0 0)∧wx.cell? ⟨w.heap.size+2,2,none⟩=some (.int .i64 0)∧wx.frozen? ⟨w.heap.size+2,0,none⟩=false∧wx.frozen? ⟨w.heap.size+2,1,none⟩=false∧wx.frozen? ⟨w.heap.size+2,2,none⟩=false:=by
 refine ⟨?_,?_,?_,?_,?_,?_⟩
 ·rw [h.cell (by simp)];exact (at_new (by simp)).1
 ·rw [h.cell (by simp)];exact (at_new (by simp)).1
 ·rw [h.cell (by simp)];exact (at_new (by simp)).1
 ·rw [h.frozen (by simp)];exact (at_new (by simp)).2
 ·rw [h.frozen (by simp)];exact (at_new (by simp)).2
 ·rw [h.frozen (by simp)];exact (at_new (by simp)).2
theorem bx_one {w wx:World}{x y z:Value}{t:TypeId}{o2:Obj}(h:Below ((w.alloc (.cells #[x,y,z] t)).alloc o2).drew.heap.size ((w.alloc (.cells #[x,y,z] t)).alloc o2).drew wx):wx.cell? ⟨w.heap.size,1,none⟩=some y:=by
 rw [h.cell (by simp;omega)]
 exact (World.cell?_alloc_old _ _ _ (by simp)).trans (at_new rfl).1
theorem bx_two {w wx:World}{x y z:Value}{t:TypeId}{o2 o3:Obj}(h:Below (((w.alloc (.cells #[x,y,z] t)).alloc o2).alloc o3).drew.heap.size (((w.alloc (.cells #[x,y,z] t)).alloc o2).alloc o3).drew wx):wx.cell? ⟨w.heap.size,1,none⟩=some y:=by
 rw [h.cell (by simp;omega)]
 exact ((World.cell?_alloc_old _ _ _ (by simp;omega)).trans (World.cell?_alloc_old _ _ _ (by simp))).trans (at_new rfl).1
theorem lt_one {w wx:World}{o1 o2:Obj}(h:Below ((w.alloc o1).alloc o2).drew.heap.size ((w.alloc o1).alloc o2).drew wx):w.heap.size<wx.heap.size:=by
 have:=h.size
 simp at this
 omega
theorem lt_two {w wx:World}{o1 o2 o3:Obj}(h:Below (((w.alloc o1).alloc o2).alloc o3).drew.heap.size (((w.alloc o1).alloc o2).alloc o3).drew wx):w.heap.size<wx.heap.size:=by
 have:=h.size
 simp at this
 omega
theorem fq_one {w wx:World}{o1:Obj}(c:Int)(v:Value)(m:Int)(h:Below ((w.alloc o1).alloc (.cells #[.int .u8 0,.slice none 0 0,.int .i64 0] 251)).drew.heap.size ((w.alloc o1).alloc (.cells #[.int .u8 0,.slice none 0 0,.int .i64 0] 251)).drew wx):FQ w (wx.alloc (.cells #[.int .u8 c,v,.int .i64 m] 251)) wx.heap.size c v m:=by
 have hz:w.heap.size+2≤wx.heap.size:=by have:=h.size;simpa using this
 have h1:=h.alloc h.size (.cells #[.int .u8 c,v,.int .i64 m] 251)
 refine ⟨by simp,by simp,by simp,?_,?_,?_,?_,?_,?_,(fb_one h).alloc (by omega) _,by simp,hz⟩
 ·rw [h1.cell (by simp)];simp
 ·rw [h1.cell (by simp)];simp
 ·rw [h1.cell (by simp)];simp
 ·rw [h1.frozen (by simp)];simp
 ·rw [h1.frozen (by simp)];simp
 ·rw [h1.frozen (by simp)];simp
theorem fq_two {w wx:World}{o1:Obj}(c:Int)(v:Value)(m:Int)(h:Below (((w.alloc o1).alloc (.cells #[.int .u8 0,.slice none 0 0,.int .i64 0] 251)).alloc (.cells #[.int .u8 0,.slice none 0 0,.int .i64 0] 251)).drew.heap.size (((w.alloc o1).alloc (.cells #[.int .u8 0,.slice none 0 0,.int .i64 0] 251)).alloc (.cells #[.int .u8 0,.slice none 0 0,.int .i64 0] 251)).drew wx)(m0:wx.cell? ⟨w.heap.size+2,0,none⟩=some (.int .u8 0))(m1:wx.cell? ⟨w.heap.size+2,1,none⟩=some (.slice none 0 0))(m2:wx.cell? ⟨w.heap.size+2,2,none⟩=some (.int .i64 0)) :
  FQ w (((wx.setCell ⟨w.heap.size+2,0,none⟩ (.int .u8 c)).setCell ⟨w.heap.size+2,1,none⟩ v).setCell ⟨w.heap.size+2,2,none⟩ (.int .i64 m)) (w.heap.size+2) c v m:=by
 have hz:w.heap.size+3≤wx.heap.size:=by have:=h.size;simpa using this
 have h2:Below (w.heap.size+2) ((w.alloc o1).alloc (.cells #[.int .u8 0,.slice none 0 0,.int .i64 0] 251)) (((wx.setCell ⟨w.heap.size+2,0,none⟩ (.int .u8 c)).setCell ⟨w.heap.size+2,1,none⟩ v).setCell ⟨w.heap.size+2,2,none⟩ (.int .i64 m)) :=
  (((((Below.refl _ _).alloc (by simp) _).drew.trans (h.mono (by simp))).setCell (by simp) _).setCell (by simp) _).setCell (by simp) _
 refine ⟨?_,?_,?_,?_,?_,?_,?_,?_,?_,(((Below.refl _ _).alloc (Nat.le_refl _) _).alloc (by simp) _).trans (h2.mono (by omega)),by simp [World.setCell];omega,Nat.le_refl _⟩
 ·rw [World.cell?_setCell_other _ _ _ _ (by simp),World.cell?_setCell_other _ _ _ _ (by simp)]
  exact World.cell?_setCell_same _ _ _ m0
 ·rw [World.cell?_setCell_other _ _ _ _ (by simp)]
  exact World.cell?_setCell_same _ _ _ (by rw [World.cell?_setCell_other _ _ _ _ (by simp)];exact m1)
 ·exact World.cell?_setCell_same _ _ _ (by rw [World.cell?_setCell_other _ _ _ _ (by simp),World.cell?_setCell_other _ _ _ _ (by simp)];exact m2)
 ·rw [h2.cell (by simp)];simp
 ·rw [h2.cell (by simp)];simp
 ·rw [h2.cell (by simp)];simp
 ·rw [h2.frozen (by simp)];simp
 ·rw [h2.frozen (by simp)];simp
 ·rw [h2.frozen (by simp)];simp
def Z8E (s:List UInt8) (ks:List Nat):Option InsD:=if 3<ks.length then none else insO s ks
theorem find_book (w:World)(b:Bk)(B base:Nat)(s:ByteArray)(v:Value)(ks:List Nat)(hI:InsAt w b B)(hs:s.size≤1000000)(hn:ks.length≤1000000)(hks:∀ k∈ks,k≤100)(hrow:w.ownsRow base 231 1 v ks.length (Z0n ks)) :
  Calls Tryz.prog 314 #[bkV b,.string s,v] w (FEnd w B (Z8E s.data.toList ks)):=by
 obtain ⟨a,cap,rfl⟩:∃ a cap,v=.slice a ks.length cap:=by
  obtain ⟨_,⟨rfl,h'⟩ | ⟨g,cap,cur,rfl,_⟩⟩:=id hrow
  ·exact ⟨none,0,by rw [h']⟩
  ·exact ⟨_,_,rfl⟩
 unfold bkV
 by_cases h3:(3:Int)<(ks.length:Int)
 ·have e:Z8E s.data.toList ks=none:=by unfold Z8E;rw [if_pos (by omega)]
  rw [e]
  go_enter Tryz.func314,Tryz.ntmps314
  go_wp2_with fail
  refine bodyPost_ret (v:=.tuple #[insV 0 (.slice none 0 0) 0,.bool false]) (by simp [results,Tryz.results314,go_sem,insV]) rfl ⟨?_,_,_,_,_,_,rfl⟩
  exact ((Below.refl _ _).alloc (Nat.le_refl _) _).alloc (by simp) _
 ·have e:Z8E s.data.toList ks=insO s.data.toList ks:=by unfold Z8E;rw [if_neg (by omega)]
  rw [e]
  obtain ⟨f,n,hf,hall⟩:=hI
  have hkey:=Z4L s ks hs (by omega) hks
  have hv:=hall s ks hs (by omega) hks
  have HN:=Z0a (fun w' (hbw:Below w.heap.size w w')=>Z5n s base _ ks w' (by omega) (hrow.below3 hbw))
  have HK:=Z0a hkey
  have HM:=Z0a hf
  obtain ⟨E,hE⟩:∃ E,Z49 s ks=E:=⟨_,rfl⟩
  rw [hE] at HN HK
  clear hall hrow hkey hf hE e hn hks
  obtain ⟨O,hO⟩:∃ O,insO s.data.toList ks=O:=⟨_,rfl⟩
  rw [hO] at hv ⊢
  obtain ⟨c,va,vn,vc,m,z,hlk,hz1,hz2⟩:∃ (c:Int) (va:Option Addr) (vn vc:Nat) (m:Int) (z:Bool),Z5A true (insV 0 (.slice none 0 0) 0) (f (Z1x s ks))=.tuple #[insV c (.slice va vn vc) m,.bool z]∧(z=true→∃ d,O=some d∧c=(d.code:Int)∧m=(d.size:Int)∧w.ownsRow 0 231 1 (.slice va vn vc) d.kinds.length (Z0n d.kinds)∧∀ j,(Value.slice va vn vc).ownBlock=some j→j<B)∧(z=false→O=none):=by
   cases O with
   | none=>exact ⟨_,_,_,_,_,false,by rw [hv];rfl,(fun h=>by cases h),fun _=>rfl⟩
   | some d =>
    obtain ⟨v,h1,h2,h3⟩:=hv
    obtain ⟨va,vn,vc,rfl⟩:∃ va vn vc,v=.slice va vn vc:=by
     obtain ⟨_,⟨rfl,_⟩ | ⟨g,cap,cur,rfl,_⟩⟩:=h2
     ·exact ⟨_,_,_,rfl⟩
     ·exact ⟨_,_,_,rfl⟩
    exact ⟨_,va,vn,vc,_,true,by rw [h1];rfl,fun _=>⟨d,rfl,rfl,rfl,h2,h3⟩,fun h=>by cases h⟩
  have hr0:∀ w',Below w.heap.size w w'→(Instr.lookup 319 (.map (some b.ib)) E true).run Tryz.prog w'=.ok (.tuple #[.agg #[.int .u8 c,.slice va vn vc,.int .i64 m],.bool z]) w':=fun w' hbw=>by
   rw [(HM.out.below hbw HM.out.lt).look entKeyed Tryz.underlying319 (zeroIns w') HK.out true,hlk]
   rfl
  have HR:=Z0a hr0
  have HZ1:=Z0a hz1
  have HZ2:=Z0a hz2
  have hn1:=HN.out (((w.alloc (.cells #[.map (some b.cb),.map (some b.ib),.map (some b.fb)] 322)).alloc (.cells #[.int .u8 0,.slice none 0 0,.int .i64 0] 251)).drew) (((Below.refl _ _).alloc (Nat.le_refl _) _).alloc (by simp) _).drew
  have hn2:=(HN.out ((((w.alloc (.cells #[.map (some b.cb),.map (some b.ib),.map (some b.fb)] 322)).alloc (.cells #[.int .u8 0,.slice none 0 0,.int .i64 0] 251)).alloc (.cells #[.int .u8 0,.slice none 0 0,.int .i64 0] 251)).drew) ((((Below.refl _ _).alloc (Nat.le_refl _) _).alloc (by simp) _).alloc (by simp;omega) _).drew).mono (fun e w' hh=>And.intro hh.1 (And.intro hh.2 (fd_cells hh.2)))
  have HN1:=Z0a hn1
  have HN2:=Z0a hn2
  clear hv hlk hz1 hz2 hr0 hn1 hn2 HM HK HN hO
  go_enter Tryz.func314,Tryz.ntmps314
  go_wp2_with fail
  go_cut [8,9] (fun s8 s9 wx=>∃ sb,s8=.pointer (some ⟨sb,0,none⟩)∧s9=.bool z∧FQ w wx sb c (.slice va vn vc) m)
  case first =>
   clear HZ1 HZ2
   go_region_with (first | (go_at_call 270;refine HN1.out.mono ?_;rintro e wx ⟨rfl,hbx⟩;have bx:=bx_one hbx;have lx:=lt_one hbx;have hr:=HR.out wx (fb_one hbx);have hr2:=fun o=>HR.out (wx.alloc o) (fb_al (fb_one hbx) o)) | (go_at_call 270;refine HN2.out.mono ?_;rintro e wx ⟨rfl,hbx,m0,m1,m2,m3,m4,m5⟩;have bx:=bx_two hbx;have lx:=lt_two hbx;have hr:=HR.out wx (fb_two hbx)))
   all_goals
    go_wp2_with fail
    go_meet
    first
     | exact ⟨_,rfl,rfl,fq_one c (.slice va vn vc) m hbx⟩
     | exact ⟨_,rfl,rfl,fq_two c (.slice va vn vc) m hbx m0 m1 m2⟩
  case rest =>
  obtain ⟨sb,rfl,rfl,hQ⟩:=hcut
  obtain ⟨q0,q1,q2,r0,r1,r2,g0,g1,g2,hbl,hsl,hsz⟩:=hQ
  go_wp2_with fail
  refine bodyPost_ret (v:=.tuple #[insV c (.slice va vn vc) m,.bool z]) (by simp [results,Tryz.results314,go_sem,insV,r0,r1,r2]) rfl ⟨?_,?_⟩
  ·exact ((hbl.setCell (by simp) _).setCell (by simp) _).setCell (by simp) _
  ·cases z with
   | true =>
    obtain ⟨d,rfl,rfl,rfl,h2,h3⟩:=HZ1.out rfl
    exact ⟨_,rfl,h2,h3⟩
   | false =>
    have hh:=HZ2.out rfl
    subst hh
    exact ⟨_,_,_,_,_,rfl⟩
structure KV (w:World) (base:Nat) (v6:Value) (ks:List Nat) (v:Value) (es:List (List Trm)) (vs:List Value):Prop where
 kr:w.ownsRow base 231 1 v6 ks.length (Z0n ks)
 vr:w.ownsRow base 335 1 v es.length vs
 ee:EachE w base v vs es
 e6:∀ x∈vs,∀ j,v6.ownBlock=some j→x.ownBlock≠some j
 s6:∀ j,v6.ownBlock=some j→v.ownBlock≠some j
theorem KV.kept {w w':World}{base:Nat}{v6:Value}{ks:List Nat}{v:Value}{es:List (List Trm)}{vs:List Value}(h:KV w base v6 ks v es vs)(hb:∀ j,base≤j→j<w.heap.size→w'.heap[j]?=w.heap[j]?):KV w' base v6 ks v es vs :=
 ⟨Z1s h.kr (fun j hj=>hb j (h.kr.lt j hj).1 (h.kr.lt j hj).2),Z1s h.vr (fun j hj=>hb j (h.vr.lt j hj).1 (h.vr.lt j hj).2),h.ee.kept (fun j h1 h2 _=>hb j h1 h2) (fun _ _ h=>h),h.e6,h.s6⟩
theorem EachE.mem {w:World}{base:Nat}{v:Value}:∀ {vs:List Value} {es:List (List Trm)},EachE w base v vs es→∀ x∈vs,∃ e,w.ownsRow base 337 4 x (List.length e) (Z0j e)
 | [],[],_,x,hx=>by cases hx
 | y :: vs,e :: es,h,x,hx=>by
  rcases List.mem_cons.1 hx with rfl | hx
  ·exact ⟨e,h.1.1⟩
  ·exact EachE.mem h.2 x hx
 | [],_ :: _,h,_,_=>h.elim
 | _ :: _,[],h,_,_=>h.elim
theorem EachE.kept2 {w w':World}{base:Nat}{v v':Value}:∀ {vs:List Value} {es:List (List Trm)},EachE w base v vs es→(∀ x∈vs,∀ j,x.ownBlock=some j→j<w.heap.size→w'.heap[j]?=w.heap[j]?)→(∀ j,j<w.heap.size→v.ownBlock≠some j→v'.ownBlock≠some j)→EachE w' base v' vs es
 | [],[],_,_,_=>trivial
 | x :: vs,e :: es,h,h1,h2=>by
  obtain ⟨⟨a,b⟩,c⟩:=h
  refine ⟨⟨Z1s a (fun j hj=>h1 x (by simp) j hj (a.lt j hj).2),fun j hj=>h2 j (a.lt j hj).2 (b j hj)⟩,EachE.kept2 c (fun y hy=>h1 y (List.mem_cons_of_mem _ hy)) h2⟩
 | [],_ :: _,h,_,_=>h.elim
 | _ :: _,[],h,_,_=>h.elim
theorem kv_kind {w3 w4:World}{base:Nat}{v6 v6':Value}{ks:List Nat}{k:Nat}{v:Value}{es:List (List Trm)}{vs:List Value}{o:Obj}(h:KV w3 base v6 ks v es vs)(_hb:base≤w3.heap.size)
  (hown:w4.ownsRow base 231 1 v6' (ks.length+1) (Z0n ks ++ [.int .i64 k])) (hgr:(w3.alloc o).grownBy w4 v6.ownBlock) (hloc:v6'.ownBlock=v6.ownBlock∨v6'.ownBlock=some (w3.alloc o).heap.size):KV w4 base v6' (ks ++ [k]) v es vs:=by
 have hk:∀ j,j<w3.heap.size→v6.ownBlock≠some j→w4.heap[j]?=w3.heap[j]?:=fun j hj hv=>by
  rw [hgr.block j (by simp;omega) (fun e=>hv e.symm),Below.heap_alloc _ _ _ hj]
 have h6:∀ j,v6'.ownBlock=some j→v6.ownBlock=some j∨w3.heap.size<j+1:=fun j hj=>by
  rcases hloc with h' | h'
  ·left;rw [←h'];exact hj
  ·right;rw [h'] at hj;simp at hj;omega
 refine ⟨?_,Z1s h.vr (fun j hj=>hk j (h.vr.lt j hj).2 (fun e=>h.s6 j e hj)),h.ee.kept2 (fun x hx j hj hjl=>hk j hjl (fun e=>h.e6 x hx j e hj)) (fun _ _ h=>h),fun x hx j hj e=>?_,fun j hj e=>?_⟩
 ·rw [List.length_append]
  have:Z0n (ks ++ [k])=Z0n ks ++ [.int .i64 k]:=by simp [Z0n]
  rw [this]
  exact hown
 ·rcases h6 j hj with h' | h'
  ·exact h.e6 x hx j h' e
  ·obtain ⟨e',he'⟩:=h.ee.mem x hx
   have:=(he'.lt j e).2
   omega
 ·rcases h6 j hj with h' | h'
  ·exact h.s6 j h' e
  ·have:=(h.vr.lt j e).2
   omega
theorem kv_val {w4 wn:World}{base:Nat}{v6:Value}{ks:List Nat}{v v' x:Value}{es:List (List Trm)}{e:List Trm}{vs:List Value}{o:Obj}(h:KV w4 base v6 ks v es vs)(hx:w4.ownsRow base 337 4 x e.length (Z0j e))(hx1:∀ j,x.ownBlock=some j→v.ownBlock≠some j)(hx2:∀ j,v6.ownBlock=some j→x.ownBlock≠some j)
  (hown:wn.ownsRow base 335 1 v' (es.length+1) (vs ++ [x])) (hgr:(w4.alloc o).grownBy wn v.ownBlock) (hloc:v'.ownBlock=v.ownBlock∨v'.ownBlock=some (w4.alloc o).heap.size):KV wn base v6 ks v' (es ++ [e]) (vs ++ [x]):=by
 have hk:∀ j,j<w4.heap.size→v.ownBlock≠some j→wn.heap[j]?=w4.heap[j]?:=fun j hj hv=>by
  rw [hgr.block j (by simp;omega) (fun e=>hv e.symm),Below.heap_alloc _ _ _ hj]
 have hv':∀ j,j<w4.heap.size→v.ownBlock≠some j→v'.ownBlock≠some j:=fun j hj hjv e=>by
  rcases hloc with h' | h'
  ·rw [h'] at e;exact hjv e
  ·rw [h'] at e;simp at e;omega
 refine ⟨Z1s h.kr (fun j hj=>hk j (h.kr.lt j hj).2 (h.s6 j hj)),?_,EachE.snoc ⟨Z1s hx (fun j hj=>hk j (hx.lt j hj).2 (hx1 j hj)),fun j hj=>hv' j (hx.lt j hj).2 (hx1 j hj)⟩ (h.ee.kept (fun j _ hj hjv=>hk j hj hjv) hv'),fun y hy j hj=>?_,fun j hj=>hv' j (h.kr.lt j hj).2 (h.s6 j hj)⟩
 ·rw [List.length_append];exact hown
 ·rcases List.mem_append.1 hy with hy | hy
  ·exact h.e6 y hy j hj
  ·simp at hy
   subst hy
   exact hx2 j hj
def pOps:Nat→List Nat→List (List Trm)→List Tok→Option ((List Nat × List (List Trm)) × List Tok)
 | 0,_,_,_=>none
 | f+1,ks,vs,ts=>match pOp ts with
  | none=>none
  | some (_,[])=>none
  | some (x,t :: l)=>if t.text=⟨#[44]⟩ then pOps f (ks ++ [x.1]) (vs ++ [x.2]) l else some ((ks ++ [x.1],vs ++ [x.2]),t :: l)
def Z4q:List Tok→Option ((List Nat × List (List Trm)) × List Tok)
 | []=>none
 | t :: l=>if t.kind=0 then some (([],[]),t :: l) else pOps (l.length+1) [] [] (t :: l)
def pIns (s:List UInt8) (ts:List Tok):Option ((InsD × List (List Trm)) × List Tok):=(Z4q ts).bind fun x=>(Z8E s x.1.1).map fun d=>((d,x.1.2),x.2)
theorem InsAt.kept {w w':World}{b:Bk}{B pb sb:Nat}(h:InsAt w b pb)(hg:Grow2 w w' pb sb)(hi:b.ib<pb)(hB:B≤sb)(hp:pb<B):InsAt w' b pb:=by
 obtain ⟨f,n,hf,hall⟩:=h
 refine ⟨f,n,hf.at1 (hg.block b.ib hf.lt (by omega) (by omega)),fun s ks h1 h2 h3=>?_⟩
 have:=hall s ks h1 h2 h3
 split at this
 ·exact this
 ·rename_i d e
  obtain ⟨v,a1,a2,a3⟩:=this
  exact ⟨v,a1,Z1s a2 (fun j hj=>hg.block j (a2.lt j hj).2 (by have:=a3 j hj;omega) (by have:=a3 j hj;omega)),a3⟩
theorem Tryz.infoKind:(Tryz.prog.info? 231).map (fun i=>(i.zero,i.size,i.bytes))=some (some (.int .i64 0),1,8):=by kernel_rfl
def IEnd (w:World) (B pb sb:Nat) (b:Bk) (line l0 p0:Int) (lb:ByteArray) (nm:ByteArray) (o:Option ((InsD × List (List Trm)) × List Tok)) (e:Ending) (w':World):Prop :=
 match o with
 | none=>e=synE line∧Grow2 w w' pb sb
 | some (x,l)=>∃ v kv,e=.returned (.tuple #[])∧VAt w' w.heap.size v x.2∧SS w' sb l0 p0 lb 6 nm v x.1.code kv x.1.size∧w'.ownsRow 0 231 1 kv x.1.kinds.length (Z0n x.1.kinds)∧(∀ j,kv.ownBlock=some j→j<pb)∧PS w' B pb b line l∧Grow2 w w' pb sb
theorem pAt_len {ts:List Tok}{x:Nat × List Trm}{l:List Tok}(h:pAt ts=some (x,l)):l.length+1≤ts.length:=by
 match ts with
 | []=>simp [pAt] at h
 | [_]=>simp [pAt] at h
 | t :: u :: ts =>
  simp only [pAt] at h
  split at h
  ·split at h
   ·cases ts with
    | nil=>simp at h
    | cons v l3 =>
     simp only at h
     split at h
     ·unfold Z2Q at h
      obtain ⟨y,_,hy⟩:=Option.map_eq_some_iff.1 h
      cases hy
      simp
     ·cases h
   ·unfold Z2Q at h
    obtain ⟨y,_,hy⟩:=Option.map_eq_some_iff.1 h
    cases hy
    simp
  ·cases h
theorem pOp_len {ts:List Tok}{x:Nat × List Trm}{l:List Tok}(h:pOp ts=some (x,l)):l.length+1≤ts.length:=by
 cases ts with
 | nil=>simp [pOp] at h
 | cons t ts =>
  simp only [pOp] at h
  split at h
  ·obtain ⟨y,hy,e⟩:=Option.map_eq_some_iff.1 h
   cases e
   have:=Z25 (x:=y.1) (l:=y.2) hy
   simp
   omega
  ·split at h
   ·obtain ⟨y,hy,e⟩:=Option.map_eq_some_iff.1 h
    cases e
    have:=Z25 (x:=y.1) (l:=y.2) hy
    simp
    omega
   ·split at h
    ·have:=pAt_len h
     simp
     omega
    ·split at h
     ·cases h;simp
     ·obtain ⟨y,hy,e⟩:=Option.map_eq_some_iff.1 h
      cases e
      exact Z25 (x:=y.1) (l:=y.2) hy
theorem fixO_le {l:List UInt8}{y:Nat × Nat}(h:fixO l=some y):y.1≤100:=by
 unfold fixO at h
 obtain ⟨z,hz,rfl⟩:=Option.map_eq_some_iff.1 h
 have hm:=List.mem_of_find?_eq_some hz
 have key:∀ z∈fixL,z.2.1≤100:=by decide
 exact key z hm
theorem pOp_kind {ts:List Tok}{x:Nat × List Trm}{l:List Tok}(h:pOp ts=some (x,l)):x.1≤100:=by
 cases ts with
 | nil=>simp [pOp] at h
 | cons t ts =>
  simp only [pOp] at h
  split at h
  ·obtain ⟨y,hy,e⟩:=Option.map_eq_some_iff.1 h
   cases e;show 9≤100;omega
  ·split at h
   ·obtain ⟨y,hy,e⟩:=Option.map_eq_some_iff.1 h
    cases e;show 13≤100;omega
   ·split at h
    ·match ts with
     | []=>simp [pAt] at h
     | [_]=>simp [pAt] at h
     | t :: u :: ts =>
      simp only [pAt] at h
      split at h
      ·split at h
       ·cases ts with
        | nil=>simp at h
        | cons v l3 =>
         simp only at h
         split at h
         ·unfold Z2Q at h
          obtain ⟨y,hf,hy⟩:=Option.map_eq_some_iff.1 h
          cases hy
          exact fixO_le hf
         ·cases h
       ·unfold Z2Q at h
        obtain ⟨y,hf,hy⟩:=Option.map_eq_some_iff.1 h
        cases hy
        exact fixO_le hf
      ·cases h
    ·split at h
     ·rename_i y hf
      cases h
      exact fixO_le hf
     ·obtain ⟨y,hy,e⟩:=Option.map_eq_some_iff.1 h
      cases e;show 11≤100;omega
end Go.Proofs.YthokdbcpkmcieabGreatDoor
