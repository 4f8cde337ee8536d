/- AsmB Asm6 Asm7 -/
import Derived.Test.YthokdbcpkmcieaaGreatDoorS16
import Derived.Test.YthokdbcpkmcieaaGreatDoorS17
import Derived.Test.YthokdbcpkmcieaaGreatDoorS18
set_option maxRecDepth 200000
set_option maxHeartbeats 8000000
namespace Go.Proofs.YthokdbcpkmcieaaGreatDoor
open Go Go.RowKit Go.Shelf Go.WideMaps Go.Maps
def intCells (l:List Int):List Value:=l.map fun z=>.int .i64 z
theorem intCells_at (l:List Int)(j:Nat)(h:j<l.length):(intCells l)[j]?=some (.int .i64 l[j]):=by
 unfold intCells
 rw [List.getElem?_map,List.getElem?_eq_getElem h]
 rfl
theorem Z5e (l:List Nat)(j:Nat)(h:j<l.length):(Z0m l)[j]?=some (.int .i64 ((l[j]:Nat):Int)):=by
 unfold Z0m
 rw [List.getElem?_map,List.getElem?_eq_getElem h]
 rfl
def Z76 (code:Nat) (ns:List Int):List Int:=if code=133 then [ns.getD 1 0,ns.getD 0 0] else ns
def Z28 (bh:Int) (ks:List Nat) (ns:List Int) (s:LayD):Nat→LayD
 | 0=>s
 | j+1=>layK bh (ks.getD j 0) (ns.getD j 0) (Z28 bh ks ns s j)
def bhN (at_ size:Int):Int:=IntKind.u16.wrap (IntKind.u16.wrap at_+IntKind.u16.wrap size)
def Z3W (d:InsD) (ns:List Int) (at_:Int):LayD:=Z28 (bhN at_ d.size) d.kinds (Z76 d.code ns) ⟨d.code,[],false⟩ d.kinds.length
theorem layK_len (bh:Int)(k:Nat)(n:Int)(s:LayD):(layK bh k n s).add.length≤s.add.length+2:=by
 unfold layK
 repeat' split
 all_goals simp
theorem Z5O (bh:Int)(ks:List Nat)(ns:List Int)(s:LayD):∀ j,(Z28 bh ks ns s j).add.length≤s.add.length+2*j
 | 0=>Nat.le_refl _
 | j+1=>by
  have h1:=layK_len bh (ks.getD j 0) (ns.getD j 0) (Z28 bh ks ns s j)
  have h2:=Z5O bh ks ns s j
  unfold Z28
  omega
theorem swapN_len {code:Nat}{ns:List Int}(h:code=133→ns.length=2):(Z76 code ns).length=ns.length:=by
 unfold Z76
 split
 ·rename_i e
  rw [h e]
  rfl
 ·rfl
structure IBox (w:World) (sb:Nat) (cd:Int) (kd:Value) (sz:Int):Prop where
 c0:w.cell? ⟨sb,0,none⟩=some (.int .u8 cd)
 c1:w.cell? ⟨sb,1,none⟩=some kd
 c2:w.cell? ⟨sb,2,none⟩=some (.int .i64 sz)
 lt:sb<w.heap.size
theorem ibox_new (w:World)(cd:Int)(kd:Value)(sz:Int):∃ W,w.alloc (.cells #[.int .u8 cd,kd,.int .i64 sz] 128)=W∧Below w.heap.size w W∧W.heap.size=w.heap.size+1∧IBox W w.heap.size cd kd sz:=by
 have hh:=heap_alloc_new w (.cells #[.int .u8 cd,kd,.int .i64 sz] 128)
 refine ⟨_,rfl,(Below.refl _ _).alloc (Nat.le_refl _) _,by simp,?_⟩
 have hc:∀ j u,#[.int .u8 cd,kd,.int .i64 sz][j]?=some u→(w.alloc (.cells #[.int .u8 cd,kd,.int .i64 sz] 128)).cell? ⟨w.heap.size,j,none⟩=some u:=fun j u hu=>by rw [cell_of_row _ _ _ _ _ (0,0) hh];exact hu
 exact ⟨hc 0 _ rfl,hc 1 _ rfl,hc 2 _ rfl,by simp⟩
theorem IBox.below {w w':World}{sb:Nat}{cd:Int}{kd:Value}{sz:Int}(h:IBox w sb cd kd sz)(hb:Below w.heap.size w w'):IBox w' sb cd kd sz:=by
 have hc:∀ j,w'.cell? ⟨sb,j,none⟩=w.cell? ⟨sb,j,none⟩:=fun j=>World.cell?_of_block (a:=⟨sb,j,none⟩) (hb.block _ h.lt)
 exact ⟨(hc 0).trans h.c0,(hc 1).trans h.c1,(hc 2).trans h.c2,Nat.lt_of_lt_of_le h.lt hb.size⟩
def BytesEnd (w:World) (r:LayD) (e:Ending) (w':World):Prop:=∃ v,e=.returned (.tuple #[v,.bool (!r.wrong)])∧w'.ownsRow w.heap.size 5 1 v (r.add.length+1) (Z0u (r.code :: r.add))∧Below w.heap.size w w'
structure RowK (w:World) (kd:Value) (ks:List Nat):Prop where
 is:∃ (a:Option Addr) (c:Nat),kd=.slice a ks.length c
 row:ks≠[]→w.ownsRow 0 111 1 kd ks.length (Z0m ks)
theorem RowK.below {w w':World}{kd:Value}{ks:List Nat}(h:RowK w kd ks)(hb:Below w.heap.size w w'):RowK w' kd ks:=⟨h.is,fun hn=>Z0q (h.row hn) hb⟩
structure LayIn (w wr:World) (yb base tb:Nat) (ka:Option Addr) (kn kc:Nat) (ks:List Nat) (na:Option Addr) (nn nc:Nat) (ns:List Int):Prop where
 kinds:RowK wr (.slice ka kn kc) ks
 nums:wr.ownsRow 0 3 1 (.slice na nn nc) ns.length (intCells ns)
 tab:wr.heap[tb]?=some (.cells Z0I 200 (0,0))
 low:(ks≠[]→∀ j,(Value.slice ka kn kc).ownBlock=some j→j<yb)∧(∀ j,(Value.slice na nn nc).ownBlock=some j→j<yb)∧tb<yb
 blw:Below w.heap.size w wr
theorem LayIn.grow {w wr w':World}{yb base tb:Nat}{ka:Option Addr}{kn kc:Nat}{ks:List Nat}{na:Option Addr}{nn nc:Nat}{ns:List Int}(h:LayIn w wr yb base tb ka kn kc ks na nn nc ns)(hg:LGrow wr w' base yb)(hy:yb<base)(hw:w.heap.size≤yb):LayIn w w' yb base tb ka kn kc ks na nn nc ns :=
 ⟨⟨h.kinds.is,fun hn=>row_at (h.kinds.row hn) (fun j hj=>hg.block j (by have:=h.low.1 hn j hj;omega) (by have:=h.low.1 hn j hj;omega))⟩,row_at h.nums (fun j hj=>hg.block j (by have:=h.low.2.1 j hj;omega) (by have:=h.low.2.1 j hj;omega)),(hg.block tb (by have:=h.low.2.2;omega) (by have:=h.low.2.2;omega)).trans h.tab,h.low,⟨hg.os.trans h.blw.os,hg.tape.trans h.blw.tape,hg.output.trans h.blw.output,Nat.le_trans h.blw.size hg.size,fun k hk=>(hg.block k (by omega) (by omega)).trans (h.blw.block k hk)⟩⟩
theorem row_block {w:World}{base:Nat}{e:TypeId}{size n:Nat}{v:Value}{xs:List Value}(h:w.ownsRow base e size v n xs):∀ j,v.ownBlock=some j→j<w.heap.size:=fun j hj=>(h.lt j hj).2
theorem ls_new (w:World)(cd bh:Int):LS (w.alloc (.cells #[.int .u8 cd,.slice none 0 0,.int .u16 bh,.bool false] 282)) w.heap.size (w.heap.size+1) cd [] bh false:=by
 have hh:=heap_alloc_new w (.cells #[.int .u8 cd,.slice none 0 0,.int .u16 bh,.bool false] 282)
 have hc:∀ j u,#[.int .u8 cd,.slice none 0 0,.int .u16 bh,.bool false][j]?=some u→(w.alloc (.cells #[.int .u8 cd,.slice none 0 0,.int .u16 bh,.bool false] 282)).cell? ⟨w.heap.size,j,none⟩=some u:=fun j u hu=>by rw [cell_of_row _ _ _ _ _ (0,0) hh];exact hu
 exact ⟨hc 0 _ rfl,⟨none,0,0,hc 1 _ rfl,World.ownsRow_nil _ _ _ _⟩,hc 2 _ rfl,hc 3 _ rfl,fun j=>frozen_of_row _ _ _ _ _ hh,Nat.lt_succ_self _,by simp⟩
theorem u8_one (l:List Int):∀ u∈Z0u l,u.oneCell'=true:=by
 intro u hu
 obtain ⟨x,_,rfl⟩:=List.mem_map.1 hu
 rfl
theorem Z5k (w:World)(base b2:Nat)(ty:TypeId)(v x:Value)(n m:Nat)(xs ys:List Value)(hown:w.ownsRow base 5 1 v n xs)(hx:w.ownsRow b2 5 1 x m ys)(h1:∀ u∈ys,u.oneCell'=true)(hn:n+m≤4000000)(hb:base≤w.heap.size) :
  ∃ v' w',(Builtin.append_ #[32,32] ty #[v,x]).run Tryz.prog w=.ok v' w'∧w'.ownsRow base 5 1 v' (n+m) (xs++ys)∧w.grownBy w' v.ownBlock:=by
 obtain ⟨i,hi,hz0,hz1,hz2⟩:=info_parts Tryz.infoU8
 have hc:∀ g,x.ownBlock=some g→∀ j u,ys[j]?=some u→w.cell? ((⟨g,0,none⟩:Addr).add j)=some u:=fun g hg=>hx.cells hg
 obtain ⟨hl,⟨rfl,rfl⟩ | ⟨g,cap,cur,rfl,hg,hh,h3,h4,h5,h6⟩⟩:=hx
 ·have hy:ys=[]:=List.eq_nil_of_length_eq_zero (by simpa using hl)
  subst hy
  have hown2:=hown
  obtain ⟨hl2,⟨rfl,rfl⟩ | ⟨g,cap,cur,rfl,hg,hh,h3,h4,h5,h6⟩⟩:=hown
  ·refine ⟨.slice none 0 0,w,?_,by simpa using hown2,⟨rfl,rfl,rfl,Nat.le_refl _,fun _ _ _=>rfl⟩⟩
   simp [Builtin.append_,run_underlying Tryz.underlying32,sizeOf,typeInfo,hi,Builtin.lenOf,Builtin.firstCells]
  ·refine ⟨.slice (some ⟨g,0,none⟩) n cap,w,?_,by simpa using hown2,⟨rfl,rfl,rfl,Nat.le_refl _,fun _ _ _=>rfl⟩⟩
   simp [Builtin.append_,run_underlying Tryz.underlying32,sizeOf,typeInfo,hi,Builtin.lenOf,Builtin.firstCells,storeCells,h3]
 ·obtain ⟨v',w',r0,r1,r2,_⟩:=run_append_own_at (P:=Tryz.prog) w base 32 ty 5 i _ 1 1 Tryz.underlying32 hi hz0 hz1 hz2 rfl (by decide) v n xs hown ⟨g,0,none⟩ m cap ys hl (hc g rfl) h1 (by unfold maxLen;omega) (by omega) hb
  exact ⟨v',w',r0,r1,r2⟩
theorem Z4G {ops:Array Oper}{o:Oper}{a:Act}{w:World}{K:Act→World→Prop}{Q:Exit→Act→World→Prop}{E:Prop}
  (hg:o.guard=none) (s x:Operand) (hop:o.op=Op.call { callee:=Callee.builtin Builtin.append,args:=#[s,x],argTypes:=#[32,32] })
  (base b2:Nat) (v xv:Value) (n m:Nat) (xs ys:List Value) (hs:a.eval s=v) (hx:a.eval x=xv) (hown:w.ownsRow base 5 1 v n xs) (hxo:w.ownsRow b2 5 1 xv m ys) (h1:∀ u∈ys,u.oneCell'=true) (hn:n+m≤4000000) (hb:base≤w.heap.size)
  (hK:∀ v' w',w'.ownsRow base 5 1 v' (n+m) (xs++ys)→w.grownBy w' v.ownBlock→K (a.put o.dst v') w') :
  if Region.wanted o (yielded ops a.tmps)=true then Oper.wp Tryz.prog o a w K Q else E:=by
 have hw:Region.wanted o (yielded ops a.tmps)=true:=by simp [Region.wanted,hg]
 rw [if_pos hw]
 obtain ⟨v',w',hrun,r1,r2⟩:=Z5k w base b2 o.type v xv n m xs ys hown hxo h1 hn hb
 unfold Oper.wp
 simp [execOp,hop,resolve,invoke,builtin,hs,hx,hrun,Result.andThen]
 exact hK v' w' r1 r2
theorem insBytes_any (w:World)(d:InsD)(ka:Option Addr)(kn kc:Nat)(na:Option Addr)(nn nc:Nat)(ns:List Int)(at_:Int)(hd:InsF d ns.length)(hk:RowK w (.slice ka kn kc) d.kinds)(hns:w.ownsRow 0 3 1 (.slice na nn nc) ns.length (intCells ns)) :
  Calls Tryz.prog 176 #[.agg #[.int .u8 (d.code:Int),.slice ka kn kc,.int .i64 (d.size:Int)],.slice na nn nc,.int .i64 at_] w (BytesEnd w (Z3W d ns at_)):=by
 obtain ⟨R,hR⟩:∃ R,Z3W d ns at_=R:=⟨_,rfl⟩
 rw [hR]
 have HR0:=Z0a hR
 clear hR
 obtain ⟨W,hW,hBW,hWz,hIB⟩:=ibox_new w (d.code:Int) (.slice ka kn kc) (d.size:Int)
 have b0:=hIB.c0
 have b1:=hIB.c1
 have b2:=hIB.c2
 have HB:=Z0a (And.intro hBW hIB)
 have HK:=Z0a (And.intro hk hns)
 have HD:=Z0a hd
 clear hBW hIB hk hns hd
 go_enter Tryz.func176,Tryz.ntmps176
 go_upto_if 14 with fail
 go_cut [1] (fun s wx=>∃ (na':Option Addr) (nn' nc':Nat),s=.slice na' nn' nc'∧wx.ownsRow 0 3 1 (.slice na' nn' nc') (Z76 d.code ns).length (intCells (Z76 d.code ns))∧Below W.heap.size W wx)
 case first =>
  by_cases hc:d.code=133
  ·have hcb:((d.code:Int) == 133)=true:=by simp [hc]
   have h2:=HD.out.swap hc
   obtain ⟨z0,z1,rfl⟩:∃ z0 z1,ns=[z0,z1]:=by
    match ns,h2 with
    | [a,b],_=>exact ⟨a,b,rfl⟩
   have hrow:=HK.out.2
   have hnn:nn=2:=Z01 hrow rfl
   obtain ⟨g,hg,c0⟩:=Z12 hrow (by simp) (show (intCells [z0,z1])[0]?=some (.int .i64 z0) from rfl)
   obtain ⟨g',hg',c1⟩:=Z12 hrow (by simp) (show (intCells [z0,z1])[1]?=some (.int .i64 z1) from rfl)
   subst hnn hg
   cases hg'
   have hgl:=World.block_lt_of_cell? _ _ c0
   have hl0:g<w.heap.size:=hgl
   have c0':=(World.cell?_of_block (a:=⟨g,0,none⟩) (HB.out.1.block _ hgl)).trans c0
   have c1':=(World.cell?_of_block (a:=⟨g,1,none⟩) (HB.out.1.block _ hgl)).trans c1
   have HCC:=Z0a hc
   have hR:=World.ownsRow_lit (base:=0) (e:=3) (size:=1) W #[.int .i64 z1,.int .i64 z0] 2 (by simp) (by decide) rfl
   rw [hWz] at hR
   have HR:=Z0a hR
   clear hR
   clear hrow c0 c1 hc h2 hgl
   go_wp2_with fail
   go_region
   all_goals
    go_wp2_with fail
    go_meet
    refine ⟨_,_,_,rfl,?_,?_⟩
    ·unfold Z76
     rw [if_pos HCC.out]
     exact HR.out
    ·exact ((Below.refl _ _).alloc (Nat.le_refl _) _).drew
  ·have hcb:((d.code:Int) == 133)=false:=by
    simp
    omega
   have hs:Z76 d.code ns=ns:=by unfold Z76;rw [if_neg hc]
   have HS:=Z0a hs
   clear hs
   go_wp2_with fail
   go_meet
   exact ⟨_,_,_,rfl,by rw [HS.out];exact Z0q HK.out.2 HB.out.1,Below.refl _ _⟩
 case rest =>
 obtain ⟨na',nn',nc',rfl,hnum,hBc⟩:=hcut
 obtain ⟨NS,hNS⟩:∃ NS,Z76 d.code ns=NS:=⟨_,rfl⟩
 have hNl:NS.length=d.kinds.length:=by rw [←hNS,swapN_len HD.out.swap,HD.out.len]
 rw [hNS] at hnum
 have HNS:=Z0a hNS
 have HNL:=Z0a hNl
 have hib:=HB.out.2.below hBc
 have hBwc:Below w.heap.size w wc:=HB.out.1.trans (hBc.mono HB.out.1.size)
 have HWC:=Z0a (And.intro hnum hBwc)
 obtain ⟨BH,hBH⟩:∃ BH,bhN at_ (d.size:Int)=BH:=⟨_,rfl⟩
 have HBH:Hid (IntKind.u16.wrap (IntKind.u16.wrap at_+IntKind.u16.wrap (d.size:Int))=BH):=hBH
 have HBH2:=Z0a hBH
 have HIB:=Z0a hib
 clear hnum hNS hNl hBc hBwc hib hBH b0 b1 b2 HB
 go_wp2_with fail
 refine (Z7J wc).mono ?_
 rintro e w1 ⟨rfl,hb1⟩
 have hib1:=HIB.out.below hb1
 obtain ⟨W2,hW2⟩:∃ W2,w1.alloc (.cells Z0I 200)=W2:=⟨_,rfl⟩
 have hb2:Below w1.heap.size w1 W2:=by rw [←hW2];exact (Below.refl _ _).alloc (Nat.le_refl _) _
 have hz2:W2.heap.size=w1.heap.size+1:=by rw [←hW2];simp
 have htab:W2.heap[w1.heap.size]?=some (.cells Z0I 200 (0,0)):=by rw [←hW2];exact heap_alloc_new w1 _
 have hib2:=hib1.below hb2
 have d0:=hib2.c0
 have d1:=hib2.c1
 have d2:=hib2.c2
 have HB2:=Z0a (And.intro (HWC.out.2.trans (hb1.mono HWC.out.2.size)) (And.intro hb2 htab))
 obtain ⟨W3,hW3⟩:∃ W3,W2.alloc (.cells #[.int .u8 (d.code:Int),.slice none 0 0,.int .u16 (IntKind.u16.wrap (IntKind.u16.wrap at_+IntKind.u16.wrap (d.size:Int))),.bool false] 282)=W3:=⟨_,rfl⟩
 have hb3:Below W2.heap.size W2 W3:=by rw [←hW3];exact (Below.refl _ _).alloc (Nat.le_refl _) _
 have hz3:W3.heap.size=w1.heap.size+2:=by rw [←hW3];simp [hz2]
 have e1:=(hib2.below hb3).c1
 have HLS:Hid (LS W3 (w1.heap.size+1) (w1.heap.size+2) (d.code:Int) [] BH false):=by
  have:=ls_new W2 (d.code:Int) BH
  rw [hz2] at this
  rw [←hW3,HBH.out]
  exact this
 have hBw3:Below w.heap.size w W3:=HB2.out.1.trans ((hb2.trans (hb3.mono hb2.size)).mono HB2.out.1.size)
 have hn1:=Z0q HWC.out.1 hb1
 have hlk:=fun hn=>row_block (HK.out.1.row hn)
 have hln:=row_block hn1
 have hws:=HB2.out.1.size
 have HLI:Hid (LayIn w W3 (w1.heap.size+1) (w1.heap.size+2) w1.heap.size ka kn kc d.kinds na' nn' nc' NS):=⟨HK.out.1.below hBw3,Z0q (Z0q hn1 hb2) hb3,(hb3.block _ (by omega)).trans HB2.out.2.2,⟨fun hn j hj=>by have:=hlk hn j hj;omega,fun j hj=>by have:=hln j hj;omega,Nat.lt_succ_self _⟩,hBw3⟩
 have hkn:kn=d.kinds.length:=by
  obtain ⟨a9,c9,e9⟩:=HK.out.1.is
  cases e9
  rfl
 have hnn':nn'=d.kinds.length:=(Z01 HWC.out.1 rfl).trans HNL.out
 have hk3:kn≤3:=by rw [hkn,HD.out.len];exact HD.out.le
 have hkni:(kn:Int)≤3:=by omega
 have hnni:nn'=kn:=by omega
 subst hnni
 have HKN:=Z0a hkn
 have HWS:=Z0a hws
 clear hib1 hib2 hb2 hb3 htab HIB hBw3 hn1 hlk hln hkn hnn' hws hb1 HWC HK
 have HW3:=Z0a hW3
 clear hW3
 go_upto_region 5 with (refine wpList_store_row rfl 200 (.tmp 8) (.tmp 22) rfl w1.heap.size Z0I rfl rfl 200 _ (heap_alloc_last w1 _) Z3t rfl Z5v ?_;rw [World.setRow_alloc_new])
 rw [HW3.out]
 go_wp2_with fail
 go_loopw [35] (fun i wr=>∃ j:Nat,j≤nn'∧i=.int .i64 j∧LS wr (w1.heap.size+1) (w1.heap.size+2) (Z28 BH d.kinds NS ⟨d.code,[],false⟩ j).code (Z28 BH d.kinds NS ⟨d.code,[],false⟩ j).add BH (Z28 BH d.kinds NS ⟨d.code,[],false⟩ j).wrong∧LayIn w wr (w1.heap.size+1) (w1.heap.size+2) w1.heap.size ka nn' kc d.kinds na' nn' nc' NS) (fun i _=>nn'-(intOf i).toNat)
 case atStart=>exact ⟨0,Nat.zero_le _,rfl,HLS.out,HLI.out⟩
 case round =>
  clear HLS HLI d0 d1 d2 e1 hW2 HW3 hW
  obtain ⟨j,hj,rfl,hls,hli⟩:=hrel
  by_cases hlt:j<nn'
  ·have hji:(j:Int)<(nn':Int):=by omega
   have hjk:j<d.kinds.length:=by rw [←HKN.out];exact hlt
   have hjn:j<NS.length:=by rw [HNL.out];exact hjk
   obtain ⟨g,hg,ck⟩:=Z12 (hli.kinds.row (fun e=>by rw [e] at hjk;cases hjk)) (by omega) (Z5e d.kinds j hjk)
   obtain ⟨g',hg',cn⟩:=Z12 hli.nums (by omega) (intCells_at NS j hjn)
   subst hg hg'
   obtain ⟨k,hk⟩:∃ k,d.kinds[j]=k:=⟨_,rfl⟩
   obtain ⟨z,hz⟩:∃ z,NS[j]=z:=⟨_,rfl⟩
   rw [hk] at ck
   rw [hz] at cn
   have hk17:k<17:=HD.out.kinds k (by rw [←hk];exact List.getElem_mem hjk)
   have hki:(k:Int)<17:=by omega
   have ct:wr.cell? ⟨w1.heap.size,k*3,none⟩=some (fv (layF k)):=by
    rw [cell_of_row _ _ _ _ _ (0,0) hli.tab,Nat.mul_comm]
    exact layF_cell k hk17
   have hlen:=Z5O BH d.kinds NS ⟨d.code,[],false⟩ j
   have HC:=Z0a (lay_any wr.drew (w1.heap.size+1) (w1.heap.size+2) k BH z (Z28 BH d.kinds NS ⟨d.code,[],false⟩ j) ⟨hls.c0,hls.c1,hls.c2,hls.c3,hls.fz,hls.lt,hls.le⟩ (by simp at hlen;omega))
   have HJ:=Z0a (show Z28 BH d.kinds NS ⟨d.code,[],false⟩ (j+1)=layK BH k z (Z28 BH d.kinds NS ⟨d.code,[],false⟩ j) by
    show layK BH (d.kinds.getD j 0) (NS.getD j 0) _=_
    rw [List.getD_eq_getElem?_getD,List.getD_eq_getElem?_getD,List.getElem?_eq_getElem hjk,List.getElem?_eq_getElem hjn,hk,hz]
    rfl)
   have hent:=layF_enters k
   have HLI:=Z0a hli
   clear hls hli hlen hk hz hjk hjn hk17
   go_wp2_with fail
   go_region_law (first | (refine Z2C (layF k) #[.pointer (some ⟨w1.heap.size+1,0,none⟩),.int .i64 z] rfl (by simp [execOp,resolve,invoke,go_sem,hent]) _ (fun v w'=>v=.tuple #[]∧LS w' (w1.heap.size+1) (w1.heap.size+2) (layK BH k z (Z28 BH d.kinds NS ⟨d.code,[],false⟩ j)).code (layK BH k z (Z28 BH d.kinds NS ⟨d.code,[],false⟩ j)).add BH (layK BH k z (Z28 BH d.kinds NS ⟨d.code,[],false⟩ j)).wrong∧LGrow wr w' (w1.heap.size+2) (w1.heap.size+1)) HC.out (fun e w' hh=>⟨_,hh.1,rfl,hh.2.1,⟨hh.2.2.os,hh.2.2.tape,hh.2.2.output,hh.2.2.size,hh.2.2.block⟩⟩) ?_;rintro v w5 ⟨rfl,hls5,hg5⟩))
   all_goals
    go_wp2_with fail
    go_roundw
    case rel=>exact ⟨j+1,by omega,by go_num,by rw [HJ.out];exact hls5,HLI.out.grow hg5 (Nat.lt_succ_self _) (Nat.le_succ_of_le HWS.out)⟩
    case measure=>simp [intOf];omega
  ·have hji:¬ (j:Int)<(nn':Int):=by omega
   have hjl:j=d.kinds.length:=by rw [←HKN.out];omega
   obtain ⟨L,hL⟩:∃ L,Z28 BH d.kinds NS ⟨d.code,[],false⟩ j=L:=⟨_,rfl⟩
   have eR:R=L:=by
    rw [←HR0.out,← hL,hjl]
    unfold Z3W
    rw [HBH2.out,HNS.out]
   have hlen:=Z5O BH d.kinds NS ⟨d.code,[],false⟩ j
   rw [hL] at hls hlen
   subst eR
   have hl6:R.add.length≤1000:=by simp at hlen;omega
   obtain ⟨ya,yn,yc,c1,hrow⟩:=hls.c1
   have c0:=hls.c0
   have c3:=hls.c3
   have hyl:w1.heap.size+1<wr.heap.size:=Nat.lt_of_lt_of_le hls.lt hls.le
   have hle:=hls.le
   have HLI:=Z0a hli
   have hwr:=hli.blw.size
   have HO:=Z0a (World.ownsRow_lit (base:=w.heap.size) (e:=5) (size:=1) wr #[.int .u8 R.code] 1 hwr (by decide) rfl)
   have HROW:=Z0a (hrow.alloc (.cells #[.int .u8 R.code] 5))
   have HL6:=Z0a hl6
   have hBwr:=hli.blw
   have HC3:Hid (∀ w5:World,(wr.alloc (.cells #[.int .u8 R.code] 5)).grownBy w5 (some wr.heap.size)→w5.cell? ⟨w1.heap.size+1,3,none⟩=some (.bool R.wrong)∧Below w.heap.size w w5):=fun w5 hg=>by
    have key:∀ k,k<wr.heap.size→w5.heap[k]?=wr.heap[k]?:=fun k hk=>(hg.block k (by simp;omega) (fun e=>by have h9:=Option.some.inj e;omega)).trans (Below.heap_alloc _ _ _ hk)
    have hz:=hg.size
    simp at hz
    exact ⟨(World.cell?_of_block (a:=⟨w1.heap.size+1,3,none⟩) (key _ hyl)).trans c3,⟨hg.os.trans hBwr.os,hg.tape.trans hBwr.tape,hg.output.trans hBwr.output,by omega,fun k hk=>(key k (by omega)).trans (hBwr.block k hk)⟩⟩
   have HBL:=Z0a hwr
   clear hls hli hrow hL hjl hlen hlt hj hl6 hBwr
   go_wp2_with fail
   go_region_law (first | (refine Z4G rfl (.tmp 52) (.tmp 54) rfl w.heap.size (w1.heap.size+2) _ _ 1 R.add.length [.int .u8 R.code] (Z0u R.add) rfl rfl HO.out HROW.out (u8_one _) (by have:=HL6.out;omega) (by have:=HBL.out;simp;omega) ?_;intro v' w5 hown hgr;obtain ⟨a',n',c',rfl⟩:=Z16 hown;have c3':=(HC3.out w5 ⟨hgr.os,hgr.tape,hgr.output,hgr.size,hgr.block⟩).1;have HW5:=Z0a (And.intro hown (HC3.out w5 ⟨hgr.os,hgr.tape,hgr.output,hgr.size,hgr.block⟩).2);clear hown hgr))
   all_goals
    go_wp2_with fail
    go_ret2
    refine ⟨_,rfl,?_,HW5.out.2⟩
    have h9:=HW5.out.1
    rw [Nat.add_comm] at h9
    exact h9
def IdxB2 (z:Int) (l:List Bool):Prop:=(0≤z↔true∈l)∧-1≤z
theorem idxB_any (b off cap:Nat)(l:List Bool)(w:World)(hc:∀ i (hi:i<l.length),w.cell? ⟨b,off+i,none⟩=some (.bool l[i]))(hl:l.length≤2000) :
  Calls Tryz.prog 255 #[.slice (some ⟨b,off,none⟩) l.length cap,.bool true] w fun e w'=>∃ z:Int,e=.returned (.int .i64 z)∧IdxB2 z l∧w'=w:=by
 have HC:=Z0a hc
 clear hc
 have hli:(l.length:Int)≤2000:=by omega
 go_enter Tryz.func255,Tryz.ntmps255
 go_wp2_with fail
 go_loopw [8] (fun i wr=>∃ j:Nat,j≤l.length∧i=.int .i64 j∧true ∉ l.take j∧wr=w) (fun i _=>l.length-(intOf i).toNat)
 case atStart=>exact ⟨0,Nat.zero_le _,rfl,by simp,rfl⟩
 case round =>
  obtain ⟨j,hj,rfl,hno,rfl⟩:=hrel
  by_cases hlj:j<l.length
  ·have hji:(j:Int)<(l.length:Int):=by omega
   have cj:=HC.out j hlj
   obtain ⟨x,hx⟩:∃ x,l[j]=x:=⟨_,rfl⟩
   rw [hx] at cj
   cases x
   ·have hn2:true ∉ l.take (j+1):=by
     rw [List.take_add_one,List.getElem?_eq_getElem hlj,hx]
     simpa using hno
    have HN:=Z0a hn2
    clear hn2 hno hx
    go_wp2
    go_roundw
    case rel=>exact ⟨j+1,by omega,by go_num,HN.out,by first | rfl | trivial⟩
    case measure=>simp [intOf];omega
   ·have hin:true∈l:=by rw [←hx];exact List.getElem_mem hlj
    have HN:=Z0a hin
    clear hin hno hx
    go_wp2
    go_ret
    exact ⟨(j:Int),rfl,⟨⟨fun _=>HN.out,fun _=>by omega⟩,by omega⟩,rfl⟩
  ·have hji:¬ (j:Int)<(l.length:Int):=by omega
   have hnl:true ∉ l:=by rw [show l.take j=l from List.take_of_length_le (by omega)] at hno;exact hno
   have HN:=Z0a hnl
   clear hnl hno
   go_wp2
   go_ret
   exact ⟨-1,rfl,⟨⟨fun e=>absurd e (by omega),fun e=>absurd e HN.out⟩,by omega⟩,rfl⟩
theorem hasB_any (b off cap:Nat)(l:List Bool)(w:World)(hc:∀ i (hi:i<l.length),w.cell? ⟨b,off+i,none⟩=some (.bool l[i]))(hl:l.length≤2000) :
  Calls Tryz.prog 219 #[.slice (some ⟨b,off,none⟩) l.length cap,.bool true] w fun e w'=>e=.returned (.bool (decide (true∈l)))∧w'=w:=by
 have HI:=Z0a (idxB_any b off cap l w hc hl)
 clear hc
 go_enter Tryz.func219,Tryz.ntmps219
 go_wp2_with fail
 refine HI.out.mono ?_
 rintro e w1 ⟨z,rfl,hz,rfl⟩
 have HZ:=Z0a (show decide (0≤z)=decide (true∈l) from decide_eq_decide.2 hz.1)
 have hz1:=hz.2
 clear hz
 go_wp2
 go_ret
 exact ⟨by rw [←HZ.out];rfl,rfl⟩
structure BRow (w:World) (b:Nat) (l:List Bool):Prop where
 at_:w.heap[b]?=some (.cells (l.map Value.bool).toArray 4 (0,0))
 len:l.length=1024
theorem BRow.cell {w:World}{b:Nat}{l:List Bool}(h:BRow w b l)(i:Nat)(hi:i<l.length):w.cell? ⟨b,i,none⟩=some (.bool l[i]):=by
 rw [cell_of_row _ _ _ _ _ (0,0) h.at_]
 simp [hi]
theorem BRow.fz {w:World}{b:Nat}{l:List Bool}(h:BRow w b l)(i:Nat):w.frozen? ⟨b,i,none⟩=false:=frozen_of_row _ _ _ _ _ h.at_
theorem BRow.lt {w:World}{b:Nat}{l:List Bool}(h:BRow w b l):b<w.heap.size:=(Array.getElem?_eq_some_iff.1 h.at_).1
theorem BRow.kept {w w':World}{b:Nat}{l:List Bool}(h:BRow w b l)(e:w'.heap[b]?=w.heap[b]?):BRow w' b l:=⟨e.trans h.at_,h.len⟩
theorem BRow.put {w:World}{b:Nat}{l:List Bool}(h:BRow w b l)(i:Nat)(x:Bool):BRow (w.setCell ⟨b,i,none⟩ (.bool x)) b (l.set i x):=by
 refine ⟨?_,by rw [List.length_set];exact h.len⟩
 rw [heap_setCell_same w b i _ _ (.bool x) h.at_]
 simp [List.map_set]
def setR (l:List Bool) (p:Nat):Nat→List Bool
 | 0=>l
 | j+1=>(setR l p j).set (p+j) true
theorem setR_len (l:List Bool)(p:Nat):∀ j,(setR l p j).length=l.length
 | 0=>rfl
 | j+1=>by
  unfold setR
  rw [List.length_set,setR_len l p j]
def Z33 (pl size:Nat) (laid:List Bool):Option Int:=if 1024<pl+size then some 6 else if true∈(laid.drop pl).take size then some 7 else none
structure Chg3 (w w':World) (a b c:Nat):Prop where
 os:w'.os=w.os
 tape:w'.tape=w.tape
 output:w'.output=w.output
 size:w.heap.size≤w'.heap.size
 block:∀ k,k<w.heap.size→k≠a→k≠b→k≠c→w'.heap[k]?=w.heap[k]?
theorem Chg3.of_below {w w':World}(a b c:Nat)(h:Below w.heap.size w w'):Chg3 w w' a b c:=⟨h.os,h.tape,h.output,h.size,fun k hk _ _ _=>h.block k hk⟩
theorem Chg3.set {w w':World}{a b c:Nat}(h:Chg3 w w' a b c)(k:Nat)(hk:k=a∨k=b∨k=c)(i:Nat)(v:Value):Chg3 w (w'.setCell ⟨k,i,none⟩ v) a b c :=
 ⟨h.os,h.tape,h.output,by simpa [World.setCell] using h.size,fun j hj h1 h2 h3=>(heap_setCell_other w' ⟨k,i,none⟩ j v (by show j≠k;omega)).trans (h.block j hj h1 h2 h3)⟩
theorem AS.place {w:World}{ab:Nat}{i0 i1 i2:Value}{nb n:Nat}{nm:List UInt8→Option Int}{pl:Int}(h:AS w ab i0 i1 i2 nb n nm pl)(z:Int):AS (w.setCell ⟨ab,4,none⟩ (.int .i64 z)) ab i0 i1 i2 nb n nm z :=
 ⟨(World.cell?_setCell_other _ _ _ _ (by simp)).trans h.c0,(World.cell?_setCell_other _ _ _ _ (by simp)).trans h.c1,(World.cell?_setCell_other _ _ _ _ (by simp)).trans h.c2,(World.cell?_setCell_other _ _ _ _ (by simp)).trans h.c3,World.cell?_setCell_same _ _ _ h.c4,fun j=>by simpa using h.fz j,MapAt.at1B h.nms (heap_setCell_other w ⟨ab,4,none⟩ nb _ h.ne),h.ne⟩
theorem Chg3.drewN {w w':World}{a b c:Nat}(h:Chg3 w w' a b c)(m:Nat):Chg3 w (w'.drewN m) a b c:=⟨h.os,h.tape,h.output,h.size,h.block⟩
structure LayMid (w wr:World) (ab lk sk nb n:Nat) (i0 i1 i2:Value) (nm:List UInt8→Option Int) (pl:Nat) (laid starts:List Bool) (tk:Nat) (j:Nat):Prop where
 st:AS wr ab i0 i1 i2 nb n nm (pl:Int)
 laid:BRow wr lk (setR laid pl j)
 starts:BRow wr sk starts
 chg:Chg3 w wr ab lk sk
 task:wr.cell? ⟨w.heap.size,3,none⟩=some (.int .i64 (tk:Int))
 lt:w.heap.size<wr.heap.size
theorem LayMid.step {w wr:World}{ab lk sk nb n:Nat}{i0 i1 i2:Value}{nm:List UInt8→Option Int}{pl:Nat}{laid starts:List Bool}{tk j:Nat}(h:LayMid w wr ab lk sk nb n i0 i1 i2 nm pl laid starts tk j)(hd:ab≠lk∧ab≠sk∧lk≠sk∧nb≠lk∧nb≠sk)(hl:lk<w.heap.size):LayMid w (wr.setCell ⟨lk,pl+j,none⟩ (.bool true)) ab lk sk nb n i0 i1 i2 nm pl laid starts tk (j+1) :=
 ⟨h.st.kept (heap_setCell_other _ _ _ _ hd.1) (heap_setCell_other _ _ _ _ hd.2.2.2.1),h.laid.put _ true,h.starts.kept (heap_setCell_other _ _ _ _ (fun e=>hd.2.2.1 e.symm)),h.chg.set lk (.inr (.inl rfl)) _ _,(World.cell?_setCell_other _ _ _ _ (by simp <;> omega)).trans h.task,by simpa [World.setCell] using h.lt⟩
def LayEnd (w:World) (ab lk sk nb n:Nat) (i0 i1 i2:Value) (nm:List UInt8→Option Int) (pl size:Nat) (laid starts:List Bool) (tk:Nat) (l0:Int) (e:Ending) (w':World):Prop :=
 e=okO (Z33 pl size laid) l0∧Chg3 w w' ab lk sk∧(Z33 pl size laid=none→AS w' ab i0 i1 i2 nb n nm ((pl+size:Nat):Int)∧BRow w' lk (setR laid pl size)∧BRow w' sk (if tk=6 then starts.set pl true else starts))
theorem lay_st (w:World)(ab lk sk c1 c2:Nat)(i0:Value)(nb n:Nat)(nm:List UInt8→Option Int)(pl:Nat)(laid starts:List Bool)(l0 p0:Int)(lb:ByteArray)(tk:Nat)(nmS:ByteArray)(va:Option Addr)(vn vc:Nat)(cd:Int)(ka:Option Addr)(kn kc sz:Nat)(h:AS w ab i0 (.slice (some ⟨lk,0,none⟩) 1024 c1) (.slice (some ⟨sk,0,none⟩) 1024 c2) nb n nm (pl:Int))(hL:BRow w lk laid)(hS:BRow w sk starts)(hd:ab≠lk∧ab≠sk∧lk≠sk∧nb≠lk∧nb≠sk)(hc1:1024≤c1∧c1≤maxLen)(hv:vn≤1000000)(hp:pl≤1024)(hz:sz≤100)(h6:tk=6→1≤sz) :
  Calls Tryz.prog 172 #[.pointer (some ⟨ab,0,none⟩),.agg #[.int .i64 l0,.int .i64 p0,.string lb,.int .i64 (tk:Int),.string nmS,.slice va vn vc,.int .u8 cd,.slice ka kn kc,.int .i64 (sz:Int)]] w (LayEnd w ab lk sk nb n i0 (.slice (some ⟨lk,0,none⟩) 1024 c1) (.slice (some ⟨sk,0,none⟩) 1024 c2) nm pl (Z1I tk vn sz) laid starts tk l0):=by
 obtain ⟨W,hW,hBW,hWz,hSS⟩:=Z1y w l0 p0 lb (tk:Int) nmS (.slice va vn vc) cd (.slice ka kn kc) (sz:Int)
 have hA:=h.below hBW
 obtain ⟨SZ,hSZ⟩:∃ SZ,Z1I tk vn sz=SZ:=⟨_,rfl⟩
 have HZ:Hid (Calls Tryz.prog 107 #[.agg #[.int .i64 l0,.int .i64 p0,.string lb,.int .i64 (tk:Int),.string nmS,.slice va vn vc,.int .u8 cd,.slice ka kn kc,.int .i64 (sz:Int)]] W.drew fun e w'=>e=.returned (.int .i64 (SZ:Int))∧Below W.heap.size W w'):=(Z7l W.drew l0 p0 lb tk nmS va vn vc cd ka kn kc sz hv).mono fun e w' ⟨h1,h2⟩=>⟨by rw [h1,hSZ],⟨h2.os,h2.tape,h2.output,h2.size,h2.block⟩⟩
 have hSZl:SZ≤2000000:=by
  rw [←hSZ]
  unfold Z1I
  split
  ·omega
  ·split
   ·omega
   ·split <;> omega
 have hSZ6:tk=6→1≤SZ:=fun e=>by
  rw [←hSZ,e]
  exact h6 e
 rw [hSZ]
 have HSB:Hid (∀ w',Below W.heap.size W w'→(w'.cell? ⟨ab,4,none⟩=some (.int .i64 (pl:Int))∧w'.cell? ⟨w.heap.size,0,none⟩=some (.int .i64 l0)∧w'.cell? ⟨w.heap.size,1,none⟩=some (.int .i64 p0)∧w'.cell? ⟨w.heap.size,2,none⟩=some (.string lb)∧w'.cell? ⟨w.heap.size,3,none⟩=some (.int .i64 (tk:Int))∧w'.cell? ⟨w.heap.size,4,none⟩=some (.string nmS)∧w'.cell? ⟨w.heap.size,5,none⟩=some (.slice va vn vc)∧w'.cell? ⟨w.heap.size,6,none⟩=some (.int .u8 cd)∧w'.cell? ⟨w.heap.size,7,none⟩=some (.slice ka kn kc)∧w'.cell? ⟨w.heap.size,8,none⟩=some (.int .i64 (sz:Int)))):=fun w' hb=>by
  have e:=hb.block w.heap.size (by omega)
  have hcc:∀ j,w'.cell? ⟨w.heap.size,j,none⟩=W.cell? ⟨w.heap.size,j,none⟩:=fun j=>World.cell?_of_block (a:=⟨w.heap.size,j,none⟩) e
  exact ⟨(hA.below hb).c4,(hcc 0).trans hSS.c0,(hcc 1).trans hSS.c1,(hcc 2).trans hSS.c2,(hcc 3).trans hSS.c3,(hcc 4).trans hSS.c4,(hcc 5).trans hSS.c5,(hcc 6).trans hSS.c6,(hcc 7).trans hSS.c7,(hcc 8).trans hSS.c8⟩
 have hBd:Below W.heap.size W W.drew:=(Below.refl _ _).drew
 have hpi:(pl:Int)≤1024:=by omega
 have hszi:(SZ:Int)≤2000000:=by omega
 have HLK0:=Z0a hL.lt
 have HB:=Z0a hBW
 have HH:=Z0a (And.intro h (And.intro hL hS))
 clear hBW hSS hA hSZ h hL hS
 go_enter Tryz.func172,Tryz.ntmps172
 go_wp2_with fail
 go_region_held3 (fun w'=>w'.cell? ⟨ab,4,none⟩=some (.int .i64 (pl:Int))∧w'.cell? ⟨w.heap.size,0,none⟩=some (.int .i64 l0)∧w'.cell? ⟨w.heap.size,1,none⟩=some (.int .i64 p0)∧w'.cell? ⟨w.heap.size,2,none⟩=some (.string lb)∧w'.cell? ⟨w.heap.size,3,none⟩=some (.int .i64 (tk:Int))∧w'.cell? ⟨w.heap.size,4,none⟩=some (.string nmS)∧w'.cell? ⟨w.heap.size,5,none⟩=some (.slice va vn vc)∧w'.cell? ⟨w.heap.size,6,none⟩=some (.int .u8 cd)∧w'.cell? ⟨w.heap.size,7,none⟩=some (.slice ka kn kc)∧w'.cell? ⟨w.heap.size,8,none⟩=some (.int .i64 (sz:Int))) (first | exact HSB.out _ hBd | exact HSB.out _ hB1)
  (first | (go_at_call 107;refine HZ.out.mono ?_;rintro e w1 ⟨rfl,hB1⟩))
 all_goals
  have hB01:=HB.out.trans (hB1.mono HB.out.size)
  obtain ⟨_,s0,_,_,s3,_,_,_,_,_⟩:=HSB.out w1 hB1
  have hA1:=HH.out.1.below hB01
  have hL1:=HH.out.2.1.kept (hB01.block _ HH.out.2.1.lt)
  have hS1:=HH.out.2.2.kept (hB01.block _ HH.out.2.2.lt)
  have a1:=hA1.c1
  have a2:=hA1.c2
  have a4:=hA1.c4
  have hwl:w.heap.size<w1.heap.size:=by have:=hB1.size;omega
  have HW1:=Z0a (And.intro hA1 (And.intro hL1 (And.intro hS1 hB01)))
  obtain ⟨BH,hBH⟩:∃ BH:Nat,pl+SZ=BH:=⟨_,rfl⟩
  have hBHi:(pl:Int)+(SZ:Int)=(BH:Int):=by omega
  have hplB:(pl:Int)≤(BH:Int):=by omega
  have hwB:IntKind.i64.wrap (BH:Int)=(BH:Int):=by rw [IntKind.wrap_i64];omega
  have HBH:=Z0a hBH
  clear hA1 hL1 hS1 hB01 hB1 hBd HSB HZ HH hBH
  by_cases hbig:1024<BH
  ·have hbi:(1024:Int)<(BH:Int):=by omega
   go_wp2
   refine ⟨rfl,?_,Chg3.of_below _ _ _ HW1.out.2.2.2,fun e=>?_⟩
   ·unfold Z33
    rw [HBH.out,if_pos hbig]
    rfl
   ·unfold Z33 at e
    rw [HBH.out,if_pos hbig] at e
    cases e
  ·have hbi:¬ (1024:Int)<(BH:Int):=by omega
   have hB1024:(BH:Int)≤1024:=by omega
   have hc1i:(1024:Int)≤(c1:Int):=by omega
   have hc1j:(c1:Int)≤9223372036854775807:=by have:=hc1.2;unfold maxLen at this;omega
   have hBc1:(BH:Int)≤(c1:Int):=by omega
   have hsub:BH-pl=SZ:=by have:=HBH.out;omega
   obtain ⟨o,ho,hop⟩:∃ o:Nat,(if c1=pl then (some ⟨lk,0,none⟩:Option Addr) else some ⟨lk,pl,none⟩)=some ⟨lk,o,none⟩∧(SZ≠0→o=pl):=by
    by_cases he:c1=pl
    ·exact ⟨0,if_pos he,fun hz=>by have:=HBH.out;omega⟩
    ·exact ⟨pl,if_neg he,fun _=>rfl⟩
   obtain ⟨R,hR⟩:∃ R,(laid.drop pl).take SZ=R:=⟨_,rfl⟩
   have hRl:R.length=SZ:=by
    rw [←hR,List.length_take,List.length_drop,HW1.out.2.1.len]
    have:=HBH.out
    omega
   have HC:Hid (∀ m,Calls Tryz.prog 219 #[.slice (some ⟨lk,o,none⟩) SZ (c1-pl),.bool true] (w1.drewN m) fun e w'=>e=.returned (.bool (decide (true∈R)))∧w'=w1.drewN m):=fun m=>by
    have q:=hasB_any lk o (c1-pl) R (w1.drewN m) (fun i hi=>by
     have hL1:=HW1.out.2.1
     have hb:=HBH.out
     have hi2:pl+i<laid.length:=by rw [hL1.len];omega
     have:=hL1.cell (pl+i) hi2
     rw [hop (by omega)]
     refine this.trans ?_
     congr 2
     simp [←hR]) (by omega)
    rw [hRl] at q
    exact q
   have hLF:Z33 pl SZ laid=if true∈R then some 7 else none:=by
    unfold Z33
    rw [HBH.out,if_neg hbig,hR]
   have HR:=Z0a (And.intro hLF hop)
   have hSZi:(SZ:Int)≤1024:=by omega
   clear hR hRl hLF hop
   go_wp2_with fail
   go_quiet (fail)
   go_wp2_with fail
   refine (HC.out _).mono ?_
   rintro e w2 ⟨rfl,rfl⟩
   by_cases hin:true∈R
   ·have hdt:decide (true∈R)=true:=decide_eq_true hin
    have HI:=Z0a hin
    clear hin
    go_wp2
    refine ⟨rfl,?_,Chg3.of_below _ _ _ (below_drewN HW1.out.2.2.2 _),fun e=>?_⟩
    ·rw [HR.out.1,if_pos HI.out]
     rfl
    ·rw [HR.out.1,if_pos HI.out] at e
     cases e
   ·have hdt:decide (true∈R)=false:=decide_eq_false hin
    have HI:=Z0a hin
    clear hin HC
    have H0:Hid (∀ m,LayMid w (w1.drewN m) ab lk sk nb n i0 (.slice (some ⟨lk,0,none⟩) 1024 c1) (.slice (some ⟨sk,0,none⟩) 1024 c2) nm pl laid starts tk 0):=fun m=>⟨HW1.out.1.kept rfl rfl,HW1.out.2.1.kept rfl,HW1.out.2.2.1.kept rfl,Chg3.of_below _ _ _ (below_drewN HW1.out.2.2.2 _),s3,hwl⟩
    have HLW:Hid (lk<w.heap.size):=HLK0.out
    go_wp2_with fail
    go_loopw [39] (fun i wr=>∃ j:Nat,j≤SZ∧i=.int .i64 j∧LayMid w wr ab lk sk nb n i0 (.slice (some ⟨lk,0,none⟩) 1024 c1) (.slice (some ⟨sk,0,none⟩) 1024 c2) nm pl laid starts tk j) (fun i _=>SZ-(intOf i).toNat)
    case atStart=>exact ⟨0,Nat.zero_le _,rfl,H0.out _⟩
    case round =>
     clear a1 a2 a4 s0 s3 HW1 H0 hwl
     obtain ⟨j,hj,rfl,hm⟩:=hrel
     by_cases hlt:j<SZ
     ·have hji:(j:Int)<(SZ:Int):=by omega
      have ho2:=HR.out.2 (by omega)
      have hBB:=HBH.out
      have hin:pl+j<(setR laid pl j).length:=by rw [hm.laid.len];omega
      obtain ⟨x,cj⟩:∃ x,wr.cell? ⟨lk,o+j,none⟩=some (.bool x):=⟨_,by rw [ho2];exact hm.laid.cell (pl+j) hin⟩
      have fj:wr.frozen? ⟨lk,o+j,none⟩=false:=hm.laid.fz _
      have HM:=Z0a (show LayMid w (wr.setCell ⟨lk,o+j,none⟩ (.bool true)) ab lk sk nb n i0 (.slice (some ⟨lk,0,none⟩) 1024 c1) (.slice (some ⟨sk,0,none⟩) 1024 c2) nm pl laid starts tk (j+1) by rw [ho2];exact hm.step hd HLW.out)
      clear hm hin ho2 hBB
      go_wp2
      go_roundw
      case rel=>exact ⟨j+1,by omega,by go_num,HM.out⟩
      case measure=>simp [intOf];omega
     ·have hji:¬ (j:Int)<(SZ:Int):=by omega
      have hjS:j=SZ:=by omega
      rw [hjS] at hm hji ⊢
      have s3:=hm.task
      have a2:=hm.st.c2
      have a4:=hm.st.c4
      have fa:=hm.st.fz 4
      have hwl:=hm.lt
      have HM:=Z0a hm
      clear hm hjS hlt hj
      by_cases htk:tk=6
      ·have hti:(tk:Int)=6:=by omega
       have h1:=hSZ6 htk
       have hpl:(pl:Int)<1024:=by have:=HBH.out;omega
       have hsin:pl<starts.length:=by rw [HM.out.starts.len];omega
       obtain ⟨x,cs⟩:∃ x,wr.cell? ⟨sk,pl,none⟩=some (.bool x):=⟨_,HM.out.starts.cell pl hsin⟩
       have fs:=HM.out.starts.fz pl
       have HTK:=Z0a htk
       clear htk hsin hSZ6
       go_wp2_with fail
       go_region
       all_goals
        go_wp2
        go_end0
        refine ⟨?_,?_,fun _=>⟨?_,?_,?_⟩⟩
        ·rw [HR.out.1,if_neg HI.out]
         rfl
        ·exact ((Chg3.set HM.out.chg sk (.inr (.inr rfl)) _ _).drewN 1).set ab (.inl rfl) _ _
        ·rw [HBH.out]
         exact (AS.place (HM.out.st.kept (heap_setCell_other wr ⟨sk,pl,none⟩ ab (.bool true) hd.2.1) (heap_setCell_other wr ⟨sk,pl,none⟩ nb (.bool true) hd.2.2.2.2)) (BH:Int)).kept rfl rfl
        ·exact HM.out.laid.kept ((heap_setCell_other _ _ _ _ (fun e=>hd.1 e.symm)).trans (heap_setCell_other wr ⟨sk,pl,none⟩ lk (.bool true) hd.2.2.1))
        ·rw [if_pos HTK.out]
         exact (HM.out.starts.put pl true).kept (heap_setCell_other _ _ _ _ (fun e=>hd.2.1 e.symm))
      ·have hti:¬ (tk:Int)=6:=by omega
       have HTK:=Z0a htk
       clear htk hSZ6
       go_wp2
       go_end0
       refine ⟨?_,?_,fun _=>⟨?_,?_,?_⟩⟩
       ·rw [HR.out.1,if_neg HI.out]
        rfl
       ·exact HM.out.chg.set ab (.inl rfl) _ _
       ·rw [HBH.out]
        exact AS.place HM.out.st _
       ·exact HM.out.laid.kept (heap_setCell_other _ _ _ _ (fun e=>hd.1 e.symm))
       ·rw [if_neg HTK.out]
        exact HM.out.starts.kept (heap_setCell_other _ _ _ _ (fun e=>hd.2.1 e.symm))
end Go.Proofs.YthokdbcpkmcieaaGreatDoor
