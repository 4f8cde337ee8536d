/- Ins2 Lbl Task Task2 -/
import Derived.Test.YthokdbcpkmcieaaGreatDoorS09
import Derived.Test.YthokdbcpkmcieaaGreatDoorS07
set_option maxRecDepth 200000
set_option maxHeartbeats 8000000
namespace Go.Proofs.YthokdbcpkmcieaaGreatDoor
open Go Go.RowKit Go.Maps Go.WideMaps
def Z5j (f:Nat) (ks:List Nat) (es:List (List Trm)) (l:List Tok) (more:Bool):Option ((List Nat × List (List Trm)) × List Tok):=match more with
 | true=>pOps f ks es l
 | false=>some ((ks,es),l)
structure IRel (w:World) (B pb sb:Nat) (b:Bk) (line l0 p0:Int) (lb:ByteArray) (tk:Nat) (nm:ByteArray) (cd:Int) (ka:Option Addr) (kn kc:Nat) (sz:Int) (R0:Option ((List Nat × List (List Trm)) × List Tok)) (v6:Value) (more:Bool) (wr:World) (ks:List Nat) (es:List (List Trm)) (vs:List Value) (l:List Tok) (f:Nat) (va:Option Addr) (vn vc:Nat):Prop where
 kv:KV wr w.heap.size v6 ks (.slice va vn vc) es vs
 ss:SS wr sb l0 p0 lb tk nm (.slice va vn vc) cd (.slice ka kn kc) sz
 ps:PS wr B pb b line l
 g2:Grow2 w wr pb sb
 kl:∀ k∈ks,k≤100
 el:es.length=ks.length
 len:ks.length+l.length≤1000000
 fuel:l.length≤f
 res:Z5j f ks es l more=R0
theorem one_int (k:Int):∀ u∈[Value.int .i64 k],u.oneCell'=true:=by intro u hu;simp at hu;subst hu;rfl
theorem one_slice (a:Option Addr)(m c:Nat):∀ u∈[Value.slice a m c],u.oneCell'=true:=by intro u hu;simp at hu;subst hu;rfl
theorem ins_c5 {w3 w4:World}{base sb n:Nat}{v6:Value}{xs:List Value}{o:Obj}{l0 p0:Int}{lb:ByteArray}{tk:Int}{nm:ByteArray}{v:Value}{cd:Int}{kd:Value}{sz:Int}(h:w3.ownsRow base 111 1 v6 n xs)(hgr:(w3.alloc o).grownBy w4 v6.ownBlock)(hS:SS w3 sb l0 p0 lb tk nm v cd kd sz)(hs:sb<base):w4.cell? ⟨sb,5,none⟩=some v:=by
 have hl:=hS.lt
 have e:=hgr.block sb (by simp;omega) (fun e=>by have:=(h.lt sb e.symm).1;omega)
 rw [World.cell?_of_block (a:=⟨sb,5,none⟩) e,World.cell?_alloc_old _ _ _ (by simp;omega)]
 exact hS.c5
theorem ins_f5 {w3 w4:World}{base sb n:Nat}{v6:Value}{xs:List Value}{o:Obj}{l0 p0:Int}{lb:ByteArray}{tk:Int}{nm:ByteArray}{v:Value}{cd:Int}{kd:Value}{sz:Int}(h:w3.ownsRow base 111 1 v6 n xs)(hgr:(w3.alloc o).grownBy w4 v6.ownBlock)(hS:SS w3 sb l0 p0 lb tk nm v cd kd sz)(hs:sb<base):w4.frozen? ⟨sb,5,none⟩=false:=by
 have hl:=hS.lt
 have e:=hgr.block sb (by simp;omega) (fun e=>by have:=(h.lt sb e.symm).1;omega)
 rw [World.frozen?_of_block (a:=⟨sb,5,none⟩) e,World.frozen?_of_block (a:=⟨sb,5,none⟩) (Below.heap_alloc _ _ _ (by simp;omega))]
 exact hS.fz 5
theorem ins_lt {w3 w4:World}{sb:Nat}{v6:Value}{o:Obj}{l0 p0:Int}{lb:ByteArray}{tk:Int}{nm:ByteArray}{v:Value}{cd:Int}{kd:Value}{sz:Int}(hgr:(w3.alloc o).grownBy w4 v6.ownBlock)(hS:SS w3 sb l0 p0 lb tk nm v cd kd sz):sb<w4.heap.size:=by
 have h1:=hS.lt
 have h2:=hgr.size
 simp at h2
 omega
theorem ins_c5b {w4 wn:World}{base sb n:Nat}{v u:Value}{xs:List Value}{o:Obj}(h:w4.ownsRow base 259 1 v n xs)(hgr:(w4.alloc o).grownBy wn v.ownBlock)(hc:w4.cell? ⟨sb,5,none⟩=some u)(hl:sb<w4.heap.size)(hs:sb<base):wn.cell? ⟨sb,5,none⟩=some u:=by
 have e:=hgr.block sb (by simp;omega) (fun e=>by have:=(h.lt sb e.symm).1;omega)
 rw [World.cell?_of_block (a:=⟨sb,5,none⟩) e,World.cell?_alloc_old _ _ _ (by simp;omega)]
 exact hc
theorem ins_f5b {w4 wn:World}{base sb n:Nat}{v:Value}{xs:List Value}{o:Obj}(h:w4.ownsRow base 259 1 v n xs)(hgr:(w4.alloc o).grownBy wn v.ownBlock)(hc:w4.frozen? ⟨sb,5,none⟩=false)(hl:sb<w4.heap.size)(hs:sb<base):wn.frozen? ⟨sb,5,none⟩=false:=by
 have e:=hgr.block sb (by simp;omega) (fun e=>by have:=(h.lt sb e.symm).1;omega)
 rw [World.frozen?_of_block (a:=⟨sb,5,none⟩) e,World.frozen?_of_block (a:=⟨sb,5,none⟩) (Below.heap_alloc _ _ _ (by simp;omega))]
 exact hc
theorem ins_step {w wr w3 w4 wn:World}{B pb sb:Nat}{b:Bk}{line l0 p0:Int}{lb:ByteArray}{tk:Int}{nm:ByteArray}{v v' v6 v6' x kd:Value}{cd sz:Int}{ks:List Nat}{k:Nat}{es:List (List Trm)}{e:List Trm}{vs:List Value}{l2:List Tok}{o6 o:Obj}
  (hK:KV wr w.heap.size v6 ks v es vs) (hS:SS wr sb l0 p0 lb tk nm v cd kd sz) (hG:Grow2 w wr pb sb) (hg3:wr.grownBy w3 (some pb)) (hx3:w3.ownsRow wr.heap.size 261 4 x e.length (Z0i e)) (hp3:PS w3 B pb b line l2)
  (kv4:KV w4 w.heap.size v6' (ks ++ [k]) v es vs) (hgr6:(w3.alloc o6).grownBy w4 v6.ownBlock) (hloc6:v6'.ownBlock=v6.ownBlock∨v6'.ownBlock=some (w3.alloc o6).heap.size)
  (hown:wn.ownsRow w.heap.size 259 1 v' (es.length+1) (vs ++ [x])) (hgr:(w4.alloc o).grownBy wn v.ownBlock) (hloc:v'.ownBlock=v.ownBlock∨v'.ownBlock=some (w4.alloc o).heap.size) (hne:sb≠pb) (hB:B≤sb) (hsw:sb<w.heap.size) (_hpw:pb<w.heap.size) :
  KV (wn.setCell ⟨sb,5,none⟩ v') w.heap.size v6' (ks ++ [k]) v' (es ++ [e]) (vs ++ [x])∧SS (wn.setCell ⟨sb,5,none⟩ v') sb l0 p0 lb tk nm v' cd kd sz∧PS (wn.setCell ⟨sb,5,none⟩ v') B pb b line l2∧Grow2 w (wn.setCell ⟨sb,5,none⟩ v') pb sb:=by
 have z0:=hG.size
 have z3:=hg3.size
 have z4:w3.heap.size+1≤w4.heap.size:=by have:=hgr6.size;simpa using this
 have zn:w4.heap.size+1≤wn.heap.size:=by have:=hgr.size;simpa using this
 have h6:∀ j,v6.ownBlock=some j→w.heap.size≤j∧j<wr.heap.size:=fun j hj=>hK.kr.lt j hj
 have hv:∀ j,v.ownBlock=some j→w.heap.size≤j∧j<wr.heap.size:=fun j hj=>hK.vr.lt j hj
 have hxb:∀ j,x.ownBlock=some j→wr.heap.size≤j∧j<w3.heap.size:=fun j hj=>hx3.lt j hj
 have b4:∀ j,j<w3.heap.size→v6.ownBlock≠some j→w4.heap[j]?=w3.heap[j]?:=fun j hj hh=>by
  rw [hgr6.block j (by simp;omega) (fun e=>hh e.symm),Below.heap_alloc _ _ _ hj]
 have bn:∀ j,j<w4.heap.size→v.ownBlock≠some j→wn.heap[j]?=w4.heap[j]?:=fun j hj hh=>by
  rw [hgr.block j (by simp;omega) (fun e=>hh e.symm),Below.heap_alloc _ _ _ hj]
 have bs:∀ j,j≠sb→(wn.setCell ⟨sb,5,none⟩ v').heap[j]?=wn.heap[j]?:=fun j hj=>Below.heap_setCell _ _ _ _ (by simpa using hj)
 have n6:∀ j,j<w.heap.size→v6.ownBlock≠some j:=fun j hj e=>by have:=(h6 j e).1;omega
 have nv:∀ j,j<w.heap.size→v.ownBlock≠some j:=fun j hj e=>by have:=(hv j e).1;omega
 have lo:∀ j,j<w.heap.size→wn.heap[j]?=w3.heap[j]?:=fun j hj=>(bn j (by omega) (nv j hj)).trans (b4 j (by omega) (n6 j hj))
 have hx4:w4.ownsRow w.heap.size 261 4 x e.length (Z0i e):=Z1l (Z0K hx3 z0) (fun j hj=>b4 j (hxb j hj).2 (fun e=>by have:=(h6 j e).2;have:=(hxb j hj).1;omega))
 have kvn:=kv_val kv4 hx4 (fun j hj e=>by have:=(hv j e).2;have:=(hxb j hj).1;omega) (fun j hj e=>by
  have h1:=hxb j e
  rcases hloc6 with h' | h'
  ·rw [h'] at hj;have:=(h6 j hj).2;omega
  ·rw [h'] at hj;simp at hj;omega) hown hgr hloc
 refine ⟨kvn.kept (fun j hj _=>bs j (by omega)),?_,?_,?_⟩
 ·have e3:w3.heap[sb]?=wr.heap[sb]?:=hg3.block sb hS.lt (by simpa using hne)
  exact ((hS.grown e3 z3).grown (lo sb hsw) (by omega)).set5 v'
 ·have hl:=hp3.le
  refine hp3.kept ⟨hgr.os.trans hgr6.os,hgr.tape.trans hgr6.tape,hgr.output.trans hgr6.output,by simp [World.setCell];omega,fun j hj=>?_⟩
  rw [bs j (by omega)]
  exact lo j (by omega)
 ·refine Grow2.set ⟨((hgr.os.trans hgr6.os).trans hg3.os).trans hG.os,((hgr.tape.trans hgr6.tape).trans hg3.tape).trans hG.tape,((hgr.output.trans hgr6.output).trans hg3.output).trans hG.output,by omega,fun j hj h1 h2=>?_⟩ 5 v'
  rw [lo j hj,hg3.block j (by omega) (by simpa using h1)]
  exact hG.block j hj h1 h2
theorem SS.done1 {w:World}{sb:Nat}{l0 p0:Int}{lb:ByteArray}{tk:Int}{nm:ByteArray}{v:Value}{cd:Int}{kd:Value}{sz:Int}(h:SS w sb l0 p0 lb tk nm v cd kd sz)(t' c':Int)(k':Value)(s':Int):SS ((((w.setCell ⟨sb,3,none⟩ (.int .i64 t')).setCell ⟨sb,6,none⟩ (.int .u8 c')).setCell ⟨sb,7,none⟩ k').setCell ⟨sb,8,none⟩ (.int .i64 s')) sb l0 p0 lb t' nm v c' k' s':=by
 have a3:=World.cell?_setCell_same w _ (.int .i64 t') h.c3
 refine ⟨?_,?_,?_,?_,?_,?_,?_,?_,?_,fun j=>by simp [h.fz j],by simpa [World.setCell] using h.lt⟩
 ·rw [World.cell?_setCell_other _ _ _ _ (by simp),World.cell?_setCell_other _ _ _ _ (by simp),World.cell?_setCell_other _ _ _ _ (by simp),World.cell?_setCell_other _ _ _ _ (by simp)];exact h.c0
 ·rw [World.cell?_setCell_other _ _ _ _ (by simp),World.cell?_setCell_other _ _ _ _ (by simp),World.cell?_setCell_other _ _ _ _ (by simp),World.cell?_setCell_other _ _ _ _ (by simp)];exact h.c1
 ·rw [World.cell?_setCell_other _ _ _ _ (by simp),World.cell?_setCell_other _ _ _ _ (by simp),World.cell?_setCell_other _ _ _ _ (by simp),World.cell?_setCell_other _ _ _ _ (by simp)];exact h.c2
 ·rw [World.cell?_setCell_other _ _ _ _ (by simp),World.cell?_setCell_other _ _ _ _ (by simp),World.cell?_setCell_other _ _ _ _ (by simp)];exact a3
 ·rw [World.cell?_setCell_other _ _ _ _ (by simp),World.cell?_setCell_other _ _ _ _ (by simp),World.cell?_setCell_other _ _ _ _ (by simp),World.cell?_setCell_other _ _ _ _ (by simp)];exact h.c4
 ·rw [World.cell?_setCell_other _ _ _ _ (by simp),World.cell?_setCell_other _ _ _ _ (by simp),World.cell?_setCell_other _ _ _ _ (by simp),World.cell?_setCell_other _ _ _ _ (by simp)];exact h.c5
 ·rw [World.cell?_setCell_other _ _ _ _ (by simp),World.cell?_setCell_other _ _ _ _ (by simp)]
  exact World.cell?_setCell_same _ _ _ (by rw [World.cell?_setCell_other _ _ _ _ (by simp)];exact h.c6)
 ·rw [World.cell?_setCell_other _ _ _ _ (by simp)]
  exact World.cell?_setCell_same _ _ _ (by rw [World.cell?_setCell_other _ _ _ _ (by simp),World.cell?_setCell_other _ _ _ _ (by simp)];exact h.c7)
 ·exact World.cell?_setCell_same _ _ _ (by rw [World.cell?_setCell_other _ _ _ _ (by simp),World.cell?_setCell_other _ _ _ _ (by simp),World.cell?_setCell_other _ _ _ _ (by simp)];exact h.c8)
theorem VAt.set {w:World}{base sb j:Nat}{v:Value}{es:List (List Trm)}(h:VAt w base v es)(hs:sb<base)(u:Value):VAt (w.setCell ⟨sb,j,none⟩ u) base v es:=by
 obtain ⟨vs,h1,h2⟩:=h
 have hb:∀ k,base≤k→(w.setCell ⟨sb,j,none⟩ u).heap[k]?=w.heap[k]?:=fun k hk=>Below.heap_setCell _ _ _ _ (by simp;omega)
 exact ⟨vs,Z1l h1 (fun k hk=>hb k (h1.lt k hk).1),h2.kept (fun k hk _ _=>hb k hk) (fun _ _ h=>h)⟩
theorem pMore_none {f:Nat}{ks:List Nat}{es:List (List Trm)}{l:List Tok}(h:pOp l=none):Z5j (f+1) ks es l true=none:=by simp only [Z5j,pOps,h]
theorem pMore_last {f:Nat}{ks:List Nat}{es:List (List Trm)}{l l2:List Tok}{x:Nat × List Trm}{t:Tok}(h:pOp l=some (x,t :: l2))(ht:¬ t.text=⟨#[44]⟩):Z5j (f+1) ks es l true=some ((ks ++ [x.1],es ++ [x.2]),t :: l2):=by simp only [Z5j,pOps,h];rw [if_neg ht]
theorem pMore_next {f:Nat}{ks:List Nat}{es:List (List Trm)}{l l2:List Tok}{x:Nat × List Trm}{t:Tok}(h:pOp l=some (x,t :: l2))(ht:t.text=⟨#[44]⟩):Z5j (f+1) ks es l true=Z5j f (ks ++ [x.1]) (es ++ [x.2]) l2 true:=by simp only [Z5j,pOps,h];rw [if_pos ht]
theorem Z4b (w:World)(B pb sb:Nat)(b:Bk)(line:Int)(ts:List Tok)(h:PS w B pb b line ts)(hb:BookAt w b)(hI:InsAt w b pb)(hib:b.ib<pb)(ha:Apart B pb b)(hn:ts.length≤1000000)(s:ByteArray)(hs:s.size≤1000000)(l0 p0:Int)(lb:ByteArray)(tk:Nat)(nm:ByteArray)(cd:Int)(ka:Option Addr)(kn kc:Nat)(sz:Int)
  (hS:SS w sb l0 p0 lb tk nm (.slice none 0 0) cd (.slice ka kn kc) sz) (hne:sb≠pb) (hB:B≤sb) :
  Calls Tryz.prog 211 #[.pointer (some ⟨pb,0,none⟩),.pointer (some ⟨sb,0,none⟩),.string s] w (IEnd w B pb sb b line l0 p0 lb nm (pIns s.data.toList ts)):=by
 obtain ⟨i0,hi,hz0,hz1,hz2⟩:=info_parts Tryz.infoExp
 obtain ⟨k0,gi,gz0,gz1,gz2⟩:=info_parts Tryz.infoKind
 obtain ⟨t,l,rfl⟩:=h.ne
 have hltw:pb<w.heap.size:=Nat.lt_of_lt_of_le h.lt h.le
 have hpB:=h.lt
 have HSW:=Z0a hS.lt
 have HBW:=Z0a hb
 have HIW:=Z0a hI
 obtain ⟨R0,hR0⟩:∃ R0,Z4a (t :: l)=R0:=⟨_,rfl⟩
 obtain ⟨R,hR⟩:∃ R,pIns s.data.toList (t :: l)=R:=⟨_,rfl⟩
 rw [hR]
 have HR:=Z0a (show R=R0.bind fun x=>(Z8c s.data.toList x.1.1).map fun d=>((d,x.1.2),x.2) by rw [←hR,← hR0];rfl)
 have HA:=Z0a (Z0S w B pb b line t l h)
 have hst:IRel w B pb sb b line l0 p0 lb tk nm cd ka kn kc sz R0 (.slice none 0 0) (!decide (t.kind=0)) w [] [] [] (t :: l) (l.length+1) none 0 0:=by
  refine ⟨⟨World.ownsRow_nil _ _ _ _,World.ownsRow_nil _ _ _ _,trivial,(fun x hx=>by cases hx),(fun j hj=>by cases hj)⟩,hS,h,Grow2.refl _ _ _,(fun k hk=>by cases hk),rfl,by simp at hn ⊢;exact hn,by simp,?_⟩
  rw [←hR0]
  by_cases hk:t.kind=0
  ·simp [Z4a,Z5j,hk]
  ·simp [Z4a,Z5j,hk]
 have HST:=Z0a hst
 clear h hb hS hI hR hR0 hst
 go_enter Tryz.func211,Tryz.ntmps211
 go_wp2_with fail
 refine HA.out.mono ?_
 rintro e w0 ⟨rfl,hw0⟩
 rw [hw0]
 clear hw0 w0
 go_wp2_with fail
 go_loopw [6,7] (fun v6 v7 wr=>∃ (more:Bool) (ks:List Nat) (es:List (List Trm)) (vs:List Value) (l:List Tok) (f:Nat) (va:Option Addr) (vn vc:Nat),v7=.bool more∧Hid (IRel w B pb sb b line l0 p0 lb tk nm cd ka kn kc sz R0 v6 more wr ks es vs l f va vn vc)) (fun _ _ wr=>Z6s wr pb)
 case atStart=>exact ⟨_,[],[],[],t :: l,l.length+1,none,0,0,by simp,HST⟩
 case round =>
  obtain ⟨more,ks,es,vs,l1,f,va,vn,vc,rfl,HQ⟩:=hrel
  have hlf0:=HQ.out.ps.left
  have HLF0:=Z0a hlf0
  have hGz:=HQ.out.g2.size
  have hlen:=HQ.out.len
  have hfu:=HQ.out.fuel
  clear hlf0 HST HA
  cases more with
  | true =>
   have hop:=operand_any wr B pb b line l1 HQ.out.ps (HBW.out.belowG2 HQ.out.g2 ha hB) ha HQ.out.ps.sz (by omega)
   obtain ⟨f',rfl⟩:∃ f',f=f'+1:=⟨f-1,by obtain ⟨t1,l1',rfl⟩:=HQ.out.ps.ne;simp at hfu;omega⟩
   cases hp:pOp l1 with
   | none =>
    have HEN:=Z0a (show R=none by rw [HR.out,← HQ.out.res,pMore_none hp];rfl)
    rw [hp] at hop
    have HO:=Z0a hop
    clear hop hp
    go_wp2_with fail
    refine HO.out.mono ?_
    rintro e w3 ⟨rfl,hg3⟩
    unfold synE
    go_wp2_with fail
    rw [HEN.out]
    exact ⟨rfl,rfl,HQ.out.g2.trans (Grow2.of1 hg3 _)⟩
   | some xl =>
    obtain ⟨⟨k,x⟩,l2⟩:=xl
    have hpl:=pOp_len hp
    have hpk:k≤100:=pOp_kind hp
    rw [hp] at hop
    have HO:=Z0a hop
    have HPO:=Z0a hp
    clear hop hp
    go_wp2_with fail
    refine HO.out.mono ?_
    rintro e w3 ⟨xv,rfl,hx3,hp3,hg3⟩
    obtain ⟨xa,xn,xc,rfl⟩:=Z2a hx3
    have hz3:=hg3.size
    have kv3:KV w3 w.heap.size u6 ks (.slice va vn vc) es vs:=HQ.out.kv.kept (fun j hj hjl=>hg3.block j hjl (by simp;omega))
    have HK3:=Z0a kv3
    clear kv3
    have H3S:=Z0a (HQ.out.ss.grown (hg3.block sb HQ.out.ss.lt (by simpa using hne)) hz3)
    have hel:=HQ.out.kv.ee.len
    have hek:es.length≤1000000:=by rw [HQ.out.el];omega
    go_wp2_with (first | (at_builtin;refine wpList_append_own_at _ rfl _ _ 126 rfl w.heap.size 111 k0 _ 1 8 Tryz.underlying126 gi gz0 gz1 gz2 rfl (by decide) _ _ _ rfl (HK3.out.kr.alloc _) ⟨w3.heap.size,0,none⟩ 1 1 [.int .i64 k] rfl rfl (cell_one_new _ _ _) (one_int _) (by unfold maxLen;omega) (by omega) (by simp;omega) ?_;intro v6' w4 hown6 hgr6 _ hloc6;have kv4:=Z0a (kv_kind HK3.out (Nat.le_trans hGz hz3) hown6 hgr6 hloc6);have q5:=ins_c5 HK3.out.kr hgr6 H3S.out HSW.out;have q6:=ins_f5 HK3.out.kr hgr6 H3S.out HSW.out;have q7:=ins_lt hgr6 H3S.out) | (at_builtin;refine wpList_append_own_at _ rfl _ _ 125 rfl w.heap.size 259 i0 _ 1 24 Tryz.underlying125 hi hz0 hz1 hz2 rfl (by decide) _ _ _ rfl (kv4.out.vr.alloc _) ⟨w4.heap.size,0,none⟩ 1 1 [.slice xa xn xc] rfl rfl (cell_one_new _ _ _) (one_slice _ _ _) (by unfold maxLen;omega) (by omega) (by have:=hgr6.size;simp at this ⊢;omega) ?_;intro v' wn hown hgr _ hloc;obtain ⟨va',vn',vc',rfl⟩:=Z2a hown;have r5:=ins_c5b kv4.out.vr hgr q5 q7 HSW.out;have r6:=ins_f5b kv4.out.vr hgr q6 q7 HSW.out))
    have hst:=ins_step HQ.out.kv HQ.out.ss HQ.out.g2 hg3 hx3 hp3 kv4.out hgr6 hloc6 hown hgr hloc hne hB HSW.out hltw
    have H5:=Z0a hst
    obtain ⟨t2,l3,rfl⟩:=hp3.ne
    have hkl:∀ j∈ks ++ [k],j≤100:=fun j hj=>by
     rcases List.mem_append.1 hj with h' | h'
     ·exact HQ.out.kl j h'
     ·simp at h';omega
    have hel2:(es ++ [x]).length=(ks ++ [k]).length:=by simp [HQ.out.el]
    have hres:=HQ.out.res
    have HKL:=Z0a (And.intro hkl hel2)
    simp at hpl
    by_cases h44:t2.text=⟨#[44]⟩
    ·have HSK:=Z0a (Z1Q _ B pb b line t2 l3 ⟨#[44]⟩ hst.2.2.1 h44 (by decide))
     have HRES:=Z0a (show Z5j f' (ks ++ [k]) (es ++ [x]) l3 true=R0 by rw [←hres,pMore_next HPO.out h44])
     clear hst hp3 hown hgr hloc hown6 hgr6 hloc6 q5 q6 r5 r6 hx3 hg3 hkl hel2 hres kv4 HK3 H3S
     refine HSK.out.mono ?_
     rintro e w6 ⟨rfl,hp6,hg6⟩
     have hlf:=hp6.left
     have HLF:=Z0a hlf
     have HN:=Z0a (show IRel w B pb sb b line l0 p0 lb tk nm cd ka kn kc sz R0 v6' true w6 (ks ++ [k]) (es ++ [x]) (vs ++ [.slice xa xn xc]) l3 f' va' vn' vc' from
      ⟨H5.out.1.kept (fun j hj hjl=>hg6.block j hjl (by simp;omega)),H5.out.2.1.grown (hg6.block sb H5.out.2.1.lt (by simpa using hne)) hg6.size,hp6,H5.out.2.2.2.trans (Grow2.of1 hg6 _),HKL.out.1,HKL.out.2,by simp;omega,by omega,HRES.out⟩)
     clear hp6 hlf H5 HQ
     go_wp2
     go_roundw
     case rel=>exact ⟨true,_,_,_,_,_,_,_,_,by simp,HN⟩
     case measure=>rw [HLF.out,HLF0.out];omega
    ·have HSK:=Z0a (Z24 _ B pb b line t2 l3 ⟨#[44]⟩ hst.2.2.1 h44)
     have HRES:=Z0a (show Z5j f' (ks ++ [k]) (es ++ [x]) (t2 :: l3) false=R0 by rw [←hres,pMore_last HPO.out h44];rfl)
     have hlf:=hst.2.2.1.left
     have HLF:=Z0a hlf
     have HN:=Z0a (show IRel w B pb sb b line l0 p0 lb tk nm cd ka kn kc sz R0 v6' false _ (ks ++ [k]) (es ++ [x]) (vs ++ [.slice xa xn xc]) (t2 :: l3) f' va' vn' vc' from
      ⟨hst.1,hst.2.1,hst.2.2.1,hst.2.2.2,hkl,hel2,by simp;omega,by simp;omega,HRES.out⟩)
     clear hst hp3 hown hgr hloc hown6 hgr6 hloc6 q5 q6 r5 r6 hx3 hg3 hkl hel2 hres kv4 HK3 H3S hlf H5 HQ
     refine HSK.out.mono ?_
     rintro e w6 ⟨rfl,hw6⟩
     rw [hw6]
     clear hw6 w6
     go_wp2
     go_roundw
     case rel=>exact ⟨false,_,_,_,_,_,_,_,_,by simp,HN⟩
     case measure=>rw [HLF.out,HLF0.out];simp;omega
  | false =>
   have hres:some ((ks,es),l1)=R0:=HQ.out.res
   have hIw:=HIW.out.kept HQ.out.g2 hib hB hpB
   have hfd:=find_book wr b pb w.heap.size s u6 ks hIw hs (by omega) HQ.out.kl HQ.out.kv.kr
   unfold bkV at hfd
   have hps:=HQ.out.ps
   have e0:=hps.c0
   have e1:=hps.c1
   have e2:=hps.c2
   have hlep:=hps.le
   have hssr:=HQ.out.ss
   have hslr:=hssr.lt
   cases hfo:Z8c s.data.toList ks with
   | none =>
    have HEN:=Z0a (show R=none by rw [HR.out,← hres];simp [hfo])
    rw [hfo] at hfd
    have HF:=Z0a hfd
    clear hfd hfo hres hIw hps hssr
    go_wp2_with fail
    refine HF.out.mono ?_
    rintro e w4 ⟨hb4,c,va',vn',vc',m,rfl⟩
    unfold insV
    have hz4:=hb4.size
    go_wp2_with fail
    refine (Z05 _ B pb b line l1 ((HQ.out.ps.kept (hb4.mono hlep)).kept ((Below.refl _ _).alloc (Nat.le_trans hlep hz4) _))).mono ?_
    rintro e w5 ⟨rfl,rfl⟩
    unfold synE
    go_wp2_with fail
    rw [HEN.out]
    exact ⟨rfl,rfl,HQ.out.g2.trans (Grow2.ofB (hb4.alloc hz4 _) _ _)⟩
   | some d =>
    have HEN:=Z0a (show R=some ((d,es),l1) by rw [HR.out,← hres];simp [hfo])
    rw [hfo] at hfd
    have HF:=Z0a hfd
    clear hfd hfo hres hIw hps hssr
    go_wp2_with fail
    refine HF.out.mono ?_
    rintro e w4 ⟨hb4,kv',rfl,hkr,hkb⟩
    obtain ⟨ka',kn',kc',rfl⟩:=Z2a hkr
    unfold insV
    have hz4:=hb4.size
    have hb5:=hb4.alloc hz4 (.cells #[.int .u8 d.code,.slice ka' kn' kc',.int .i64 d.size] 128)
    have hS5:=HQ.out.ss.grown (hb5.block sb hslr) hb5.size
    have H5:=Z0a (And.intro hb5 (And.intro hS5 (And.intro hkr hkb)))
    obtain ⟨s0,s1,s2,s3,s4,s5,s6,s7,s8,sf,sl⟩:=hS5
    have sf3:=sf 3
    have sf6:=sf 6
    have sf7:=sf 7
    have sf8:=sf 8
    clear hb5 hkr hkb sf
    go_wp2_with fail
    go_region
    go_end0
    rw [HEN.out]
    obtain ⟨hb5,hS5,hkr,hkb⟩:=H5.out
    have hv5:VAt (w4.alloc (.cells #[.int .u8 d.code,.slice ka' kn' kc',.int .i64 d.size] 128)) w.heap.size (.slice va vn vc) es:=VAt.below (w:=wr) ⟨vs,HQ.out.kv.vr,HQ.out.kv.ee⟩ hb5
    have hsw:=HSW.out
    have hd:∀ x:World,Below x.heap.size x x.drew:=fun x=>(Below.refl _ _).drew
    refine ⟨_,_,rfl,((((hv5.set hsw _).set hsw _).set hsw _).set hsw _).below (hd _),(hS5.done1 6 d.code (.slice ka' kn' kc') d.size).grown rfl (Nat.le_refl _),?_,hkb,?_,?_⟩
    ·refine Z1l (hkr.below3 hb5) (fun j hj=>?_)
     have hj':j≠sb:=by have:=hkb j hj;omega
     rw [show ∀ x:World,x.drew.heap=x.heap from fun _=>rfl]
     rw [Below.heap_setCell _ _ _ _ (by simpa using hj'),Below.heap_setCell _ _ _ _ (by simpa using hj'),Below.heap_setCell _ _ _ _ (by simpa using hj'),Below.heap_setCell _ _ _ _ (by simpa using hj')]
    ·exact HQ.out.ps.kept ((((((hb5.mono hlep).setCell hB _).setCell hB _).setCell hB _).setCell hB _).drew)
    ·exact ((((HQ.out.g2.trans (Grow2.ofB hb5 _ _)).set 3 _).set 6 _).set 7 _ |>.set 8 _).trans (Grow2.ofB (hd _) _ _)
def Z07:List Tok→Option (ByteArray × List Tok)
 | []=>none
 | [t]=>some (⟨#[]⟩,[t])
 | t :: u :: l=>if t.kind=0∨¬ u.text=⟨#[58]⟩ then some (⟨#[]⟩,t :: u :: l) else if t.kind=1∧Z0H t.text.data.toList=true then some (t.text,l) else none
theorem label_any (w:World)(B pb:Nat)(b:Bk)(line:Int)(ts:List Tok)(h:PS w B pb b line ts)(hb:BookAt w b)(ha:Apart B pb b)(hne:∀ t u l,ts=t :: u :: l→t.kind=0→False) :
  Calls Tryz.prog 165 #[.pointer (some ⟨pb,0,none⟩)] w (PEnd w B pb b line (fun s=>.string s) (Z07 ts)):=by
 obtain ⟨t,l,rfl⟩:=h.ne
 have HA:=Z0a (Z0S w B pb b line t l h)
 cases l with
 | nil =>
  have hk:t.kind=0:=by have:=h.last;simp at this;subst this;rfl
  have e:Z07 [t]=some (⟨#[]⟩,[t]):=rfl
  rw [e]
  have hd:decide (t.kind=0)=true:=by simp [hk]
  rw [hd] at HA
  have HP:=Z0a h
  clear h
  go_enter Tryz.func165,Tryz.ntmps165
  go_wp2_with (refine HA.out.mono ?_;rintro e w1 ⟨rfl,rfl⟩)
  go_ret
  exact ⟨rfl,HP.out,Z4T _ _⟩
 | cons u l =>
  have hk:t.kind≠0:=fun e=>hne t u l rfl e
  have hd:decide (t.kind=0)=false:=by simp [hk]
  rw [hd] at HA
  obtain ⟨g,off,cap,k1,k2,k2',k3,k4,k5⟩:=h.tk
  have u1:=k3.2.2.2.2.1
  have hp:(1:Int)<(l.length:Int)+1+1:=by omega
  by_cases h58:u.text=⟨#[58]⟩
  ·rw [h58] at u1
   have hbe:((⟨#[58]⟩:ByteArray).toList == (⟨#[58]⟩:ByteArray).toList)=true:=by simp
   have hst:=h.sz t (by simp)
   by_cases hok:t.kind=1∧Z0H t.text.data.toList=true
   ·have e:Z07 (t :: u :: l)=some (t.text,l):=by simp only [Z07];rw [if_neg (by simp [hk,h58]),if_pos hok]
    rw [e]
    have HN:=Z0a (name_yes w B pb b line t (u :: l) h hb ha (by omega) hok.1 hok.2)
    clear h hb
    go_enter Tryz.func165,Tryz.ntmps165
    go_wp2_with fail
    refine HA.out.mono ?_
    rintro e w1 ⟨rfl,rfl⟩
    go_wp2_with fail
    refine HN.out.mono ?_
    rintro e w2 ⟨rfl,hp2,hg2⟩
    have HS:=Z0a (Z1Q w2 B pb b line u l ⟨#[58]⟩ hp2 h58 (by decide))
    clear hp2
    go_wp2_with fail
    refine HS.out.mono ?_
    rintro e w3 ⟨rfl,hp3,hg3⟩
    go_wp2_with fail
    go_ret
    exact ⟨rfl,hp3,hg2.trans2 hg3⟩
   ·have e:Z07 (t :: u :: l)=none:=by simp only [Z07];rw [if_neg (by simp [hk,h58]),if_neg hok]
    rw [e]
    have hn:t.kind≠1∨Z0H t.text.data.toList=false:=by
     by_cases hk1:t.kind=1
     ·right
      cases ho:Z0H t.text.data.toList with
      | true=>exact absurd ⟨hk1,ho⟩ hok
      | false=>rfl
     ·exact .inl hk1
    have HN:=Z0a (name_no w B pb b line t (u :: l) h hb ha (by omega) hn)
    clear h hb
    go_enter Tryz.func165,Tryz.ntmps165
    go_wp2_with fail
    refine HA.out.mono ?_
    rintro e w1 ⟨rfl,rfl⟩
    go_wp2_with fail
    refine HN.out.mono ?_
    rintro e w2 ⟨rfl,hg2⟩
    unfold synE
    go_wp2_with fail
    exact ⟨rfl,rfl,hg2⟩
  ·have hbe:(u.text.toList == [58])=false:=by rw [←show (⟨#[58]⟩:ByteArray).toList=[58] by rw [ByteArray.toList_eq]];exact txt_ne _ _ h58
   have e:Z07 (t :: u :: l)=some (⟨#[]⟩,t :: u :: l):=by simp only [Z07];rw [if_pos (.inr h58)]
   rw [e]
   have HP:=Z0a h
   clear h hb
   go_enter Tryz.func165,Tryz.ntmps165
   go_wp2_with (refine HA.out.mono ?_;rintro e w1 ⟨rfl,rfl⟩)
   go_ret
   exact ⟨rfl,HP.out,Z4T _ _⟩
structure Stm where
 task:Nat
 name:ByteArray
 vals:List (List Trm)
 ins:InsD
def ins0:InsD:=⟨0,[],0⟩
def pEqu (s:ByteArray):List Tok→Option (Stm × List Tok)
 | []=>none
 | u :: l=>if Z0H s.data.toList=true∧u.kind=1∧dirO u.text.data.toList=some 5 then (Z3s 5 l).map fun x=>(⟨5,s,x.1,ins0⟩,x.2) else none
def Z1H:List Tok→Option (Stm × List Tok)
 | []=>none
 | t :: l =>
  if t.kind=0 then some (⟨0,⟨#[]⟩,[],ins0⟩,t :: l)
  else if ¬ t.kind=1 then none
  else if hasN t.text.data.toList=true then (pIns t.text.data.toList l).map fun x=>(⟨6,⟨#[]⟩,x.1.2,x.1.1⟩,x.2)
  else match dirO t.text.data.toList with
   | some tk=>if tk=5 then pEqu t.text l else (Z3s tk l).map fun x=>(⟨tk,⟨#[]⟩,x.1,ins0⟩,x.2)
   | none=>pEqu t.text l
def TEnd (w:World) (B pb sb:Nat) (b:Bk) (line l0 p0:Int) (lb:ByteArray) (o:Option (Stm × List Tok)) (e:Ending) (w':World):Prop :=
 match o with
 | none=>e=synE line∧Grow2 w w' pb sb
 | some (x,l)=>∃ v kv,e=.returned (.tuple #[])∧VAt w' w.heap.size v x.vals∧SS w' sb l0 p0 lb x.task x.name v x.ins.code kv x.ins.size∧w'.ownsRow 0 111 1 kv x.ins.kinds.length (Z0m x.ins.kinds)∧(∀ j,kv.ownBlock=some j→j<pb)∧PS w' B pb b line l∧Grow2 w w' pb sb
theorem VAt.lower {w:World}{base base':Nat}{v:Value}{es:List (List Trm)}(h:VAt w base v es)(hb:base'≤base):VAt w base' v es:=by
 obtain ⟨vs,h1,h2⟩:=h
 refine ⟨vs,Z0K h1 hb,?_⟩
 clear h1
 induction vs generalizing es with
 | nil=>cases es with
  | nil=>trivial
  | cons _ _=>exact h2.elim
 | cons x vs ih=>cases es with
  | nil=>exact h2.elim
  | cons e es=>exact ⟨⟨Z0K h2.1.1 hb,h2.1.2⟩,ih h2.2⟩
theorem SS.task {w:World}{sb:Nat}{l0 p0:Int}{lb:ByteArray}{tk:Int}{nm:ByteArray}{v:Value}{cd:Int}{kd:Value}{sz:Int}(h:SS w sb l0 p0 lb tk nm v cd kd sz)(t':Int):SS (w.setCell ⟨sb,3,none⟩ (.int .i64 t')) sb l0 p0 lb t' nm v cd kd sz:=by
 refine ⟨?_,?_,?_,World.cell?_setCell_same _ _ _ h.c3,?_,?_,?_,?_,?_,fun j=>by simp [h.fz j],by simpa [World.setCell] using h.lt⟩
 ·rw [World.cell?_setCell_other _ _ _ _ (by simp)];exact h.c0
 ·rw [World.cell?_setCell_other _ _ _ _ (by simp)];exact h.c1
 ·rw [World.cell?_setCell_other _ _ _ _ (by simp)];exact h.c2
 ·rw [World.cell?_setCell_other _ _ _ _ (by simp)];exact h.c4
 ·rw [World.cell?_setCell_other _ _ _ _ (by simp)];exact h.c5
 ·rw [World.cell?_setCell_other _ _ _ _ (by simp)];exact h.c6
 ·rw [World.cell?_setCell_other _ _ _ _ (by simp)];exact h.c7
 ·rw [World.cell?_setCell_other _ _ _ _ (by simp)];exact h.c8
theorem SS.name {w:World}{sb:Nat}{l0 p0:Int}{lb:ByteArray}{tk:Int}{nm:ByteArray}{v:Value}{cd:Int}{kd:Value}{sz:Int}(h:SS w sb l0 p0 lb tk nm v cd kd sz)(n':ByteArray):SS (w.setCell ⟨sb,4,none⟩ (.string n')) sb l0 p0 lb tk n' v cd kd sz:=by
 refine ⟨?_,?_,?_,?_,World.cell?_setCell_same _ _ _ h.c4,?_,?_,?_,?_,fun j=>by simp [h.fz j],by simpa [World.setCell] using h.lt⟩
 ·rw [World.cell?_setCell_other _ _ _ _ (by simp)];exact h.c0
 ·rw [World.cell?_setCell_other _ _ _ _ (by simp)];exact h.c1
 ·rw [World.cell?_setCell_other _ _ _ _ (by simp)];exact h.c2
 ·rw [World.cell?_setCell_other _ _ _ _ (by simp)];exact h.c3
 ·rw [World.cell?_setCell_other _ _ _ _ (by simp)];exact h.c5
 ·rw [World.cell?_setCell_other _ _ _ _ (by simp)];exact h.c6
 ·rw [World.cell?_setCell_other _ _ _ _ (by simp)];exact h.c7
 ·rw [World.cell?_setCell_other _ _ _ _ (by simp)];exact h.c8
theorem readTask_end (w:World)(B pb sb:Nat)(b:Bk)(line:Int)(t:Tok)(l:List Tok)(h:PS w B pb b line (t :: l))(_hb:BookAt w b)(_hI:InsAt w b pb)(_hib:b.ib<pb)(_ha:Apart B pb b)(_hn:(t :: l).length≤1000000)(l0 p0:Int)(lb:ByteArray)
  (hS:SS w sb l0 p0 lb (0:Nat) ⟨#[]⟩ (.slice none 0 0) 0 (.slice none 0 0) 0) (_hne:sb≠pb) (_hB:B≤sb) (hk:t.kind=0):Calls Tryz.prog 166 #[.pointer (some ⟨pb,0,none⟩),.pointer (some ⟨sb,0,none⟩)] w (TEnd w B pb sb b line l0 p0 lb (Z1H (t :: l))):=by
 have HA:=Z0a (Z0S w B pb b line t l h)
 have e:Z1H (t :: l)=some (⟨0,⟨#[]⟩,[],ins0⟩,t :: l):=by simp only [Z1H];rw [if_pos hk]
 rw [e]
 have hd:decide (t.kind=0)=true:=by simp [hk]
 rw [hd] at HA
 have HP:=Z0a (And.intro h hS)
 clear h _hb _hI hS
 go_enter Tryz.func166,Tryz.ntmps166
 go_wp2_with (refine HA.out.mono ?_;rintro e w0 ⟨rfl,rfl⟩)
 refine bodyPost_ret (results_none rfl _ _ _) rfl ?_
 exact ⟨_,_,rfl,⟨[],World.ownsRow_nil _ _ _ _,trivial⟩,HP.out.2,World.ownsRow_nil _ _ _ _,(fun j hj=>by cases hj),HP.out.1,Grow2.refl _ _ _⟩
theorem Z5W (w:World)(B pb sb:Nat)(b:Bk)(line:Int)(t:Tok)(l:List Tok)(h:PS w B pb b line (t :: l))(_hb:BookAt w b)(_hI:InsAt w b pb)(_hib:b.ib<pb)(_ha:Apart B pb b)(_hn:(t :: l).length≤1000000)(l0 p0:Int)(lb:ByteArray)
  (_hS:SS w sb l0 p0 lb (0:Nat) ⟨#[]⟩ (.slice none 0 0) 0 (.slice none 0 0) 0) (_hne:sb≠pb) (_hB:B≤sb) (hk:¬ t.kind=0) (hk1:¬ t.kind=1):Calls Tryz.prog 166 #[.pointer (some ⟨pb,0,none⟩),.pointer (some ⟨sb,0,none⟩)] w (TEnd w B pb sb b line l0 p0 lb (Z1H (t :: l))):=by
 have HA:=Z0a (Z0S w B pb b line t l h)
 have e:Z1H (t :: l)=none:=by simp only [Z1H];rw [if_neg hk,if_pos hk1]
 rw [e]
 have hd:decide (t.kind=0)=false:=by simp [hk]
 rw [hd] at HA
 have HW:=Z0a (Z6p w B pb b line t l h hk1)
 clear h _hb _hI _hS
 go_enter Tryz.func166,Tryz.ntmps166
 go_wp2_with fail
 refine HA.out.mono ?_
 rintro e w0 ⟨rfl,hw0⟩
 rw [hw0]
 clear hw0 w0
 go_wp2_with fail
 refine HW.out.mono ?_
 rintro e w1 ⟨rfl,rfl⟩
 unfold synE
 go_wp2_with fail
 exact ⟨rfl,rfl,Grow2.refl _ _ _⟩
theorem readTask_ins (w:World)(B pb sb:Nat)(b:Bk)(line:Int)(t:Tok)(l:List Tok)(h:PS w B pb b line (t :: l))(hb:BookAt w b)(hI:InsAt w b pb)(hib:b.ib<pb)(ha:Apart B pb b)(hn:(t :: l).length≤1000000)(l0 p0:Int)(lb:ByteArray)
  (hS:SS w sb l0 p0 lb (0:Nat) ⟨#[]⟩ (.slice none 0 0) 0 (.slice none 0 0) 0) (hne:sb≠pb) (hB:B≤sb) (hk1:t.kind=1) (hh:hasN t.text.data.toList=true):Calls Tryz.prog 166 #[.pointer (some ⟨pb,0,none⟩),.pointer (some ⟨sb,0,none⟩)] w (TEnd w B pb sb b line l0 p0 lb (Z1H (t :: l))):=by
 have HA:=Z0a (Z0S w B pb b line t l h)
 obtain ⟨R,hR⟩:∃ R,pIns t.text.data.toList l=R:=⟨_,rfl⟩
 have e:Z1H (t :: l)=R.map fun x=>(⟨6,⟨#[]⟩,x.1.2,x.1.1⟩,x.2):=by simp only [Z1H];rw [if_neg (by omega),if_neg (by simp [hk1]),if_pos hh,hR]
 rw [e]
 have hd:decide (t.kind=0)=false:=by simp;omega
 rw [hd] at HA
 have hst:=h.sz t (by simp)
 have HW:=Z0a (Z1P w B pb b line t l h hk1)
 have hpB:=h.lt
 have hleB:=h.le
 have HBW:=Z0a hb
 have HIW:=Z0a hI
 have HSS:=Z0a hS
 clear h hb hI hS e
 go_enter Tryz.func166,Tryz.ntmps166
 go_wp2_with fail
 refine HA.out.mono ?_
 rintro e w0 ⟨rfl,hw0⟩
 rw [hw0]
 clear hw0 w0
 go_wp2_with fail
 refine HW.out.mono ?_
 rintro e w1 ⟨rfl,hp1,hg1⟩
 have hbk1:=HBW.out.kept hg1 ha.h1 ha.h2 ha.h3
 have hG1:=Grow2.of1 hg1 sb
 have hS1:=HSS.out.grown (hg1.block sb HSS.out.lt (by simpa using hne)) hg1.size
 have hdr:=Z4g w1 b t.text hbk1 (by omega)
 obtain ⟨dv,dz,hdv⟩:∃ (dv:Nat) (dz:Bool),dirR (dirO t.text.data.toList)=.tuple #[.int .i64 dv,.bool dz]:=by
  cases dirO t.text.data.toList with
  | none=>exact ⟨0,false,rfl⟩
  | some x=>exact ⟨x,true,rfl⟩
 rw [hdv] at hdr
 have hhn:=Z1L w1 b t.text hbk1 (by omega)
 rw [hh] at hhn
 unfold bkV at hhn
 have HH:=Z0a hhn
 have d0:=hp1.c0
 have d1:=hp1.c1
 have d2:=hp1.c2
 have d3:=hp1.c3
 have HP1:=Z0a hp1
 have HB1:=Z0a hbk1
 have HS1:=Z0a hS1
 have HI1:=Z0a (HIW.out.kept hG1 hib hB hpB)
 clear hp1 hbk1 hS1 hhn hdv
 go_wp2_with fail
 refine HH.out.mono ?_
 rintro e w2 ⟨rfl,hb2⟩
 have hG2:=hG1.trans (Grow2.ofB hb2 _ _)
 have hri:=Z4b w2 B pb sb b line l (HP1.out.kept (hb2.mono HP1.out.le)) (HB1.out.below hb2) (HI1.out.kept (Grow2.ofB hb2 pb sb) hib hB hpB) hib ha (by simp at hn;omega) t.text (by omega) l0 p0 lb 0 ⟨#[]⟩ 0 none 0 0 0 (HS1.out.grown (hb2.block sb HS1.out.lt) hb2.size) hne hB
 rw [hR] at hri
 cases R with
 | none =>
  have HRI:=Z0a hri
  clear hri
  go_wp2_with fail
  refine HRI.out.mono ?_
  rintro e w3 ⟨rfl,hg3⟩
  unfold synE
  go_wp2_with fail
  exact ⟨rfl,rfl,hG2.trans hg3⟩
 | some x =>
  obtain ⟨⟨d,es⟩,l2⟩:=x
  have HRI:=Z0a hri
  clear hri
  go_wp2_with fail
  refine HRI.out.mono ?_
  rintro e w3 ⟨v,kv,rfl,h1,h2,h3,h4,h5,h6⟩
  have HZ:=Z0a (And.intro h1 (And.intro h2 (And.intro h3 (And.intro h4 (And.intro h5 h6)))))
  clear h1 h2 h3 h4 h5 h6
  go_wp2_with fail
  first
   | go_end0
   | refine bodyPost_ret (results_none rfl _ _ _) rfl ?_
  obtain ⟨h1,h2,h3,h4,h5,h6⟩:=HZ.out
  exact ⟨v,kv,rfl,h1.lower hG2.size,h2,h3,h4,h5,hG2.trans h6⟩
theorem readTask_dir (w:World)(B pb sb:Nat)(b:Bk)(line:Int)(t:Tok)(l:List Tok)(h:PS w B pb b line (t :: l))(hb:BookAt w b)(_hI:InsAt w b pb)(_hib:b.ib<pb)(ha:Apart B pb b)(hn:(t :: l).length≤1000000)(l0 p0:Int)(lb:ByteArray)
  (hS:SS w sb l0 p0 lb (0:Nat) ⟨#[]⟩ (.slice none 0 0) 0 (.slice none 0 0) 0) (hne:sb≠pb) (hB:B≤sb) (hk1:t.kind=1) (hh:hasN t.text.data.toList=false) (tk:Nat) (htk:dirO t.text.data.toList=some tk) (h5:¬ tk=5):Calls Tryz.prog 166 #[.pointer (some ⟨pb,0,none⟩),.pointer (some ⟨sb,0,none⟩)] w (TEnd w B pb sb b line l0 p0 lb (Z1H (t :: l))):=by
 have HA:=Z0a (Z0S w B pb b line t l h)
 obtain ⟨R,hR⟩:∃ R,Z3s tk l=R:=⟨_,rfl⟩
 have e:Z1H (t :: l)=R.map fun x=>(⟨tk,⟨#[]⟩,x.1,ins0⟩,x.2):=by simp only [Z1H];rw [if_neg (by omega),if_neg (by simp [hk1]),if_neg (by simp [hh]),htk];simp only;rw [if_neg h5,hR]
 rw [e]
 have hd:decide (t.kind=0)=false:=by simp;omega
 rw [hd] at HA
 have hst:=h.sz t (by simp)
 have HW:=Z0a (Z1P w B pb b line t l h hk1)
 have hpB:=h.lt
 have hleB:=h.le
 have HBW:=Z0a hb
 have HSS:=Z0a hS
 have i5:((tk:Int) == 5)=false:=by simp;omega
 clear h hb _hI hS e
 go_enter Tryz.func166,Tryz.ntmps166
 go_wp2_with fail
 refine HA.out.mono ?_
 rintro e w0 ⟨rfl,hw0⟩
 rw [hw0]
 clear hw0 w0
 go_wp2_with fail
 refine HW.out.mono ?_
 rintro e w1 ⟨rfl,hp1,hg1⟩
 have hbk1:=HBW.out.kept hg1 ha.h1 ha.h2 ha.h3
 have hG1:=Grow2.of1 hg1 sb
 have hS1:=HSS.out.grown (hg1.block sb HSS.out.lt (by simpa using hne)) hg1.size
 have hdr:=Z4g w1 b t.text hbk1 (by omega)
 rw [htk] at hdr
 simp only [dirR] at hdr
 have hhn:=Z1L w1 b t.text hbk1 (by omega)
 rw [hh] at hhn
 unfold bkV at hhn
 have HH:=Z0a hhn
 have d0:=hp1.c0
 have d1:=hp1.c1
 have d2:=hp1.c2
 have d3:=hp1.c3
 have HP1:=Z0a hp1
 have HB1:=Z0a hbk1
 have HS1:=Z0a hS1
 clear hp1 hbk1 hS1 hhn
 go_wp2_with fail
 refine HH.out.mono ?_
 rintro e w2 ⟨rfl,hb2⟩
 have hG2:=hG1.trans (Grow2.ofB hb2 _ _)
 have hS2:=HS1.out.grown (hb2.block sb HS1.out.lt) hb2.size
 have s3:=hS2.c3
 have f3:=hS2.fz 3
 have hS3:=hS2.task tk
 have hb3:Below B w2 (w2.setCell ⟨sb,3,none⟩ (.int .i64 tk)):=(Below.refl _ _).setCell hB _
 have hG3:=hG2.set 3 (.int .i64 (tk:Int))
 have hp3:=(HP1.out.kept (hb2.mono HP1.out.le)).kept hb3
 have hbk3:=(HB1.out.below hb2).belowB hb3 ha.l1 ha.l2 ha.l3
 have hrv:=Z3Y (w2.setCell ⟨sb,3,none⟩ (.int .i64 tk)) B pb sb b line l hp3 hbk3 ha (by simp at hn;omega) l0 p0 lb tk ⟨#[]⟩ 0 none 0 0 0 hS3 hne hB
 rw [hR] at hrv
 clear hS2 hS3 hp3 hbk3
 cases R with
 | none =>
  have HRV:=Z0a hrv
  clear hrv
  go_wp2_with fail
  refine HRV.out.mono ?_
  rintro e w4 ⟨rfl,hg4⟩
  unfold synE
  go_wp2_with fail
  exact ⟨rfl,rfl,hG3.trans hg4⟩
 | some x =>
  obtain ⟨es,l2⟩:=x
  have HRV:=Z0a hrv
  clear hrv
  go_wp2_with fail
  refine HRV.out.mono ?_
  rintro e w4 ⟨v,rfl,h1,h2,h3,h4⟩
  have HZ:=Z0a (And.intro h1 (And.intro h2 (And.intro h3 h4)))
  clear h1 h2 h3 h4
  go_wp2_with fail
  first
   | go_end0
   | refine bodyPost_ret (results_none rfl _ _ _) rfl ?_
  obtain ⟨h1,h2,h3,h4⟩:=HZ.out
  exact ⟨v,_,rfl,h1.lower hG3.size,h2,World.ownsRow_nil _ _ _ _,(fun j hj=>by cases hj),h3,hG3.trans h4⟩
end Go.Proofs.YthokdbcpkmcieaaGreatDoor
