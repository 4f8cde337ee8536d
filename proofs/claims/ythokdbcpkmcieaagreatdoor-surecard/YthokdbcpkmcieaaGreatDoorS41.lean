/- HstWC HstWD HstWE HstWF SurG SurI SurJ -/
import Derived.Test.YthokdbcpkmcieaaGreatDoorS40
import Derived.Test.YthokdbcpkmcieaaGreatDoorS29
import Derived.Test.YthokdbcpkmcieaaGreatDoorS38
import Derived.Laws.Concat
import Derived.Deep.RegionWith
import Derived.Deep.RegionHeld3
set_option maxRecDepth 200000
set_option maxHeartbeats 8000000
namespace Go.Proofs.YthokdbcpkmcieaaGreatDoor
open Go Go.RowKit
attribute [local go_sem ↓] Go.wp_at_zero Go.wp_at_succ
def pgCells (p:Pg):List Value:=[.int .u8 (p.n.toNat:Int),.string (txt p.bs)]
theorem Tryz.infoPg:(Tryz.prog.info? 303).map (fun i=>(i.zero,i.size,i.bytes))=some (some (.agg #[.int .u8 0,.string ⟨#[]⟩]),2,24):=by kernel_rfl
theorem laidP_get (i:Img)(k q:Nat)(hq:q<(Z22 i k).length)(h:64*k+q<i.laid.length):(Z22 i k)[q]=i.laid[64*k+q]:=by
 simp only [Z22,List.getElem_take,List.getElem_drop]
theorem bytesP_get (i:Img)(k q:Nat)(hq:q<(Z2E i k).length)(h:64*k+q<i.bytes.length):(Z2E i k)[q]=i.bytes[64*k+q]:=by
 simp only [Z2E,List.getElem_take,List.getElem_drop]
theorem Z4M {α:Type}{l:List α}(hl:l.length=1024)(k:Nat)(hk:k<16):((l.drop (64*k)).take 64).length=64:=by
 rw [List.length_take,List.length_drop]
 omega
theorem wanted_any (a0 a1:Option Addr)(c0 c1:Nat)(v2:Value)(i:Img)(w:World)(hi0:SlV w (.slice a0 1024 c0) (Z0c i.bytes))(hi1:SlV w (.slice a1 1024 c1) (Z1R i.laid))(hb:i.bytes.length=1024)(hl:i.laid.length=1024) :
  Calls Tryz.prog 178 #[.agg #[.slice a0 1024 c0,.slice a1 1024 c1,v2]] w fun e w'=>∃ v,e=.returned v∧w'.ownsRow (w.heap.size+1) 303 2 v (Z1W i).length ((Z1W i).flatMap pgCells)∧Below w.heap.size w w':=by
 obtain ⟨j0,gi,gz0,gz1,gz2⟩:=Z26 Tryz.infoPg
 obtain ⟨ax,cx,e0,hc01,hc02,h0⟩:=hi0.is
 have hbl:(Z0c i.bytes).length=1024:=by rw [Z0y,hb]
 rw [hbl] at e0 hc01
 cases e0
 obtain ⟨b0,off0,rfl,hb0,k0⟩:=h0 (by omega)
 obtain ⟨ay,cy,e1,hc11,hc12,h1⟩:=hi1.is
 have hll:(Z1R i.laid).length=1024:=by unfold Z1R;rw [List.length_map,hl]
 rw [hll] at e1 hc11
 cases e1
 obtain ⟨b1,off1,rfl,hb1,k1⟩:=h1 (by omega)
 have HK0:Hid (∀ q (hq:q<i.bytes.length),w.cell? ⟨b0,off0+q,none⟩=some (.int .u8 (i.bytes[q].toNat:Int))):=fun q hq=>by
  have:=k0 q (by rw [hbl];omega)
  rw [this]
  simp [Z0c]
 have HK1:Hid (∀ q (hq:q<i.laid.length),w.cell? ⟨b1,off1+q,none⟩=some (.bool i.laid[q])):=fun q hq=>by
  have:=k1 q (by rw [hll];omega)
  rw [this]
  simp [Z1R]
 obtain ⟨W,hW,hB,hz,m0,m1,m2⟩:=Z4n w (.slice (some ⟨b0,off0,none⟩) 1024 c0) (.slice (some ⟨b1,off1,none⟩) 1024 c1) v2
 have hWz:W.heap.size=w.heap.size+1:=by rw [←hW];simp
 have HB:=Z0a hB
 have hci0:(1024:Int)≤(c0:Int):=by omega
 have hci1:(1024:Int)≤(c1:Int):=by omega
 have hcj0:(c0:Int)≤9223372036854775807:=by omega
 have hcj1:(c1:Int)≤9223372036854775807:=by omega
 clear hi0 hi1 h0 h1 k0 k1 hbl hll hB
 go_enter Tryz.func178,Tryz.ntmps178
 go_wp2_with fail
 go_loopw [3,7] (fun v x wr=>∃ j:Nat,j≤16∧x=.int .i64 j∧wr.ownsRow (w.heap.size+1) 303 2 v (Z3R i j).length ((Z3R i j).flatMap pgCells)∧Below W.heap.size W wr) (fun _ x _=>16-(intOf x).toNat)
 case atStart=>exact ⟨0,by omega,rfl,World.ownsRow_nil _ _ _ _,Below.refl _ _⟩
 case round =>
  obtain ⟨j,hj,rfl,hR,hBr⟩:=hrel
  have hwl:=Z4q i j
  obtain ⟨va,vm,vc,rfl⟩:=Z0z hR
  have hrz:=hBr.size
  by_cases hlt:j<16
  ·have hji:(j:Int)<16:=by omega
   have p0:=(World.cell?_of_block (a:=⟨w.heap.size,0,none⟩) (hBr.block w.heap.size hz)).trans m0
   have p1:=(World.cell?_of_block (a:=⟨w.heap.size,1,none⟩) (hBr.block w.heap.size hz)).trans m1
   have hBall:Below w.heap.size w wr:=HB.out.trans (hBr.mono HB.out.size)
   obtain ⟨B,hBe⟩:∃ B,64*j=B:=⟨_,rfl⟩
   have hll:=Z4M hl j hlt
   have hbl:=Z4M hb j hlt
   have HCT:=Z0a (Z7T b1 (off1+B) (c1-B) (Z22 i j) wr (fun q hq=>by
    have hq64:q<64:=by have:=hq;unfold Z22 at this;rw [hll] at this;exact this
    rw [laidP_get i j q hq (by omega),show off1+B+q=off1+(64*j+q) by omega,World.cell?_of_block (a:=⟨b1,off1+(64*j+q),none⟩) (hBall.block b1 hb1)]
    exact HK1.out (64*j+q) (by omega)) (by unfold Z22;omega))
   have hl64:(Z22 i j).length=64:=hll
   rw [hl64] at HCT
   have hcv:(convert 32 9 (.slice (some ⟨b0,off0+B,none⟩) 64 (c0-B))).run Tryz.prog wr=.ok (.string (txt (Z2E i j))) wr:=by
    have:=run_convert_bytes_back (P:=Tryz.prog) wr 32 9 5 ⟨b0,off0+B,none⟩ (c0-B) (Z2E i j) Tryz.underlying32 Tryz.underlying5 Tryz.underlying9 (fun q hq=>by
     have hq64:q<64:=by have:=hq;unfold Z2E at this;rw [hbl] at this;exact this
     rw [Addr.add_lit,bytesP_get i j q hq (by omega),show off0+B+q=off0+(64*j+q) by omega,World.cell?_of_block (a:=⟨b0,off0+(64*j+q),none⟩) (hBall.block b0 hb0)]
     exact HK0.out (64*j+q) (by omega))
    have hbl':(Z2E i j).length=64:=hbl
    rw [hbl'] at this
    exact this
   have hN:Z3R i (j+1)=Z3R i j++(if true∈Z22 i j then [⟨UInt8.ofNat j,Z2E i j⟩] else []):=rfl
   have hmul:(j:Int)*64=(B:Int):=by omega
   have hB0:(0:Int)≤(B:Int):=by omega
   have hBl:(B:Int)≤960:=by omega
   have hwB:IntKind.i64.wrap (B:Int)=(B:Int):=by rw [IntKind.wrap_i64];omega
   have hwj:IntKind.u8.wrap (j:Int)=(j:Int):=by rw [IntKind.wrap_u8];omega
   have h64:B+64-B=64:=by omega
   obtain ⟨X,hX⟩:∃ X,txt (Z2E i j)=X:=⟨_,rfl⟩
   rw [hX] at hcv
   have HX:=Z0a hX
   have HR:=Z0a hR
   have HBR:=Z0a hBr
   have hnu:(UInt8.ofNat j).toNat=j:=by rw [UInt8.toNat_ofNat'];omega
   by_cases hin:true∈Z22 i j
   ·rw [decide_eq_true hin] at HCT
    rw [if_pos hin] at hN
    have HN:=Z0a hN
    clear hN hin hR hBr hBall hl64 hll hbl hX hBe
    go_wp2_with fail
    refine HCT.out.mono ?_
    rintro e w2 ⟨rfl,rfl⟩
    go_wp2_with (at_builtin;refine wpList_append_own_at _ rfl _ _ 156 rfl (w.heap.size+1) 303 j0 _ 2 24 Tryz.underlying156 gi gz0 gz1 gz2 rfl (by decide) _ _ _ rfl (HR.out.alloc _) ⟨w2.heap.size,0,none⟩ 1 1 [.int .u8 (j:Int),.string X] rfl rfl (Z4t _ _ _) (by intro u hu;simp at hu;rcases hu with rfl | rfl <;> rfl) (by unfold maxLen;omega) (by omega) (by rw [World.alloc_size];omega) ?_;intro v' wn hown hgr _ hloc;obtain ⟨a',n',c',rfl⟩:=Z0z hown;have HO:=Z0a (And.intro hown hgr);clear hown hgr hloc)
    go_roundw
    case rel =>
     refine ⟨j+1,by omega,by go_num,?_,?_⟩
     ·rw [HN.out]
      simp only [List.length_append,List.length_cons,List.length_nil,List.flatMap_append,List.flatMap_cons,List.flatMap_nil,pgCells,hnu,HX.out,List.append_nil]
      exact HO.out.1
     ·have hz2:=HO.out.2.size
      refine ⟨HO.out.2.os.trans HBR.out.os,HO.out.2.tape.trans HBR.out.tape,HO.out.2.output.trans HBR.out.output,by simp at hz2;omega,fun k hk=>?_⟩
      rw [HO.out.2.block k (by simp;omega) (fun e=>by have:=(HR.out.lt k e.symm).1;omega),Below.heap_alloc _ _ _ (by omega)]
      exact HBR.out.block k hk
    case measure=>simp [intOf];omega
   ·rw [decide_eq_false hin] at HCT
    rw [if_neg hin,List.append_nil] at hN
    have HN:=Z0a hN
    clear hN hin hR hBr hBall hl64 hll hbl hX hBe
    go_wp2_with fail
    refine HCT.out.mono ?_
    rintro e w2 ⟨rfl,rfl⟩
    go_wp2
    go_roundw
    case rel=>exact ⟨j+1,by omega,by go_num,by rw [HN.out];exact HR.out,HBR.out⟩
    case measure=>simp [intOf];omega
  ·have hje:j=16:=by omega
   have hjn:¬ (j:Int)<16:=by omega
   rw [hje] at hR
   have HR:=Z0a (And.intro hR (HB.out.trans (hBr.mono HB.out.size)))
   clear hR hBr hje
   go_wp2
   go_ret
   exact ⟨_,rfl,HR.out.1,HR.out.2⟩
theorem pg_get:∀ (l:List Pg) (i:Nat) (hi:i<l.length),(l.flatMap pgCells)[i*2]?=some (.int .u8 (l[i].n.toNat:Int))∧(l.flatMap pgCells)[i*2+1]?=some (.string (txt l[i].bs))
 | p :: l,0,_=>⟨rfl,rfl⟩
 | p :: l,i+1,hi=>by
  have h:=pg_get l i (by simpa using hi)
  have e:(p :: l).flatMap pgCells=.int .u8 (p.n.toNat:Int) :: .string (txt p.bs) :: l.flatMap pgCells:=rfl
  rw [e,show (i+1)*2=i*2+1+1 by omega]
  exact h
theorem left_of_row {w:World}{base:Nat}{v:Value}{l:List Pg}(h:w.ownsRow base 303 2 v l.length (l.flatMap pgCells))(lb0:Nat)(hl0:lb0<w.heap.size):∃ lb,LeftAt w lb v l∧(lb=lb0∨base≤lb)∧lb<w.heap.size:=by
 by_cases hn:0<l.length
 ·obtain ⟨g,cap,rfl,h1,h2⟩:=Z2F h hn
  have hcap:l.length≤cap∧cap≤9223372036854775807:=by
   obtain ⟨_,⟨e,_⟩ | ⟨g',cap',cur,e,hg,hh,h3,h4,_⟩⟩:=h
   ·cases e
   ·cases e
    unfold maxLen at h4
    exact ⟨h3,by omega⟩
  refine ⟨g,⟨⟨_,cap,rfl,hcap.1,hcap.2,fun _=>⟨0,rfl,fun i hi=>?_⟩⟩⟩,.inr h1,h2⟩
  obtain ⟨p1,p2⟩:=pg_get l i hi
  have q1:=h.cells (g:=g) rfl (i*2) _ p1
  have q2:=h.cells (g:=g) rfl (i*2+1) _ p2
  rw [Addr.add_lit] at q1 q2
  exact ⟨q1,q2⟩
 ·have hl:l.length=0:=by omega
  obtain ⟨_,⟨e,_⟩ | ⟨g',cap',cur,e,hg,hh,h3,h4,_⟩⟩:=h
  ·subst e
   exact ⟨lb0,⟨⟨none,0,by rw [hl],by omega,by omega,fun e=>absurd e hn⟩⟩,.inl rfl,hl0⟩
  ·subst e
   unfold maxLen at h4
   exact ⟨lb0,⟨⟨_,cap',rfl,h3,by omega,fun e=>absurd e hn⟩⟩,.inl rfl,hl0⟩
def hstZ:Hst:=⟨0,0,[],0,ear0,[],0,false,0,0⟩
def hst0 (i:Img) (ses:Nat):Hst:=askH ⟨0,ses,Z1W i,0,ear0,[],0,false,0,0⟩ 0 1 [] 1
def sesN (s:Int):Nat:=(s%65536).toNat
theorem sesN_lt (s:Int):sesN s<65536:=by unfold sesN;omega
theorem sesN_wrap (s:Int):IntKind.u16.wrap s=(sesN s:Int):=by
 unfold sesN
 rw [IntKind.wrap_u16]
 omega
def HBegun (w:World) (hb n:Nat) (h:Hst):Prop:=∃ lb,HstM w hb lb h∧n≤lb
theorem HstM.relb {w:World}{hb lb lb':Nat}{h:Hst}(m:HstM w hb lb h)(hl:h.left=[])(h1:lb'≠hb)(h2:lb'<w.heap.size):HstM w hb lb' h:=by
 obtain ⟨v,v1,v2⟩:=m.c2
 obtain ⟨a,cap,e,e2,e3,_⟩:=v2.is
 exact ⟨m.c0,m.c1,m.c3,m.c88,m.c89,m.c90,m.c91,m.c92,⟨v,v1,⟨a,cap,e,e2,e3,fun e=>by rw [hl] at e;simp at e⟩⟩,m.ear,h1,h2⟩
theorem hbegin_any (hb lb0:Nat)(a0 a1 a2:Option Addr)(n0 n1 n2 c0 c1 c2:Nat)(i:Img)(s:Int)(w wi:World)(m:HstM w hb lb0 hstZ)(hI:HImgAt wi (.slice a0 n0 c0) (.slice a1 n1 c1) (.slice a2 n2 c2) i)(hwi:Below wi.heap.size wi w)(hhb:wi.heap.size≤hb)(hn0:n0=i.bytes.length)(hn1:n1=i.laid.length)(hn2:n2=i.starts.length)(hw:Z13 i=true) :
  Calls Tryz.prog 115 #[.pointer (some ⟨hb,0,none⟩),.agg #[.slice a0 n0 c0,.slice a1 n1 c1,.slice a2 n2 c2],.int .i64 s] w fun e w'=>e=.returned (.int .i64 0)∧HBegun w' hb w.heap.size (hst0 i (sesN s))∧w.grownBy w' (some hb):=by
 have hw':i.bytes.length=1024∧i.laid.length=1024∧i.starts.length=1024:=by
  unfold Z13 at hw
  simp only [Bool.and_eq_true,decide_eq_true_eq] at hw
  exact hw
 obtain ⟨l0,l1,l2⟩:=hw'
 rw [l0] at hn0
 rw [l1] at hn1
 rw [l2] at hn2
 subst hn0 hn1 hn2
 obtain ⟨W,hW,hB,hz,k0,k1,k2⟩:=Z4n w (.slice a0 1024 c0) (.slice a1 1024 c1) (.slice a2 1024 c2)
 have hWz:W.heap.size=w.heap.size+1:=by rw [←hW];simp
 have HWH:=Z0a (imgWhole_any a0 a1 a2 1024 1024 1024 c0 c1 c2 (by omega) (by omega) (by omega) W)
 have hdd:(decide ((1024:Nat)=1024) && (decide ((1024:Nat)=1024) && decide ((1024:Nat)=1024)))=true:=by decide
 rw [hdd] at HWH
 have hmW:=m.below hB
 have HM:=Z0a hmW
 have HIW:=Z0a (And.intro hI (And.intro hwi hhb))
 have hsw:=sesN_wrap s
 have HSL:=Z0a (sesN_lt s)
 have HBW:=Z0a hB
 have HLL:=Z0a (And.intro l0 l1)
 obtain ⟨SN,hSN⟩:∃ SN,sesN s=SN:=⟨_,rfl⟩
 rw [hSN] at hsw HSL ⊢
 have hlt:=m.lt
 clear m hI hwi hhb hB hw hdd hmW l0 l1 l2 hSN
 go_enter Tryz.func115,Tryz.ntmps115
 go_wp2_with fail
 refine HWH.out.mono ?_
 rintro e w1 ⟨rfl,hB1⟩
 have m1:=HM.out.below hB1
 have e1:=(World.cell?_of_block (a:=⟨w.heap.size,0,none⟩) (hB1.block w.heap.size hz)).trans k0
 have e2:=(World.cell?_of_block (a:=⟨w.heap.size,1,none⟩) (hB1.block w.heap.size hz)).trans k1
 have e3:=(World.cell?_of_block (a:=⟨w.heap.size,2,none⟩) (hB1.block w.heap.size hz)).trans k2
 have cc1:=m1.c1
 have ff1:=m1.fz 1
 have hl1:=m1.lt
 have hz1:=hB1.size
 have HB1:=Z0a hB1
 have HM1:Hid (HstM (w1.setCell ⟨hb,1,none⟩ (.int .u16 (SN:Int))) hb lb0 ⟨0,SN,[],0,ear0,[],0,false,0,0⟩):=m1.setSes SN
 clear hB1 m1
 have hne:¬ w.heap.size=hb:=by omega
 obtain ⟨w2,hw2⟩:∃ w2,w1.setCell ⟨hb,1,none⟩ (.int .u16 (SN:Int))=w2:=⟨_,rfl⟩
 rw [hw2] at HM1
 have hz2:w2.heap.size=w1.heap.size:=by rw [←hw2];simp [World.setCell]
 have hBi:Below wi.heap.size wi w2:=by
  have h1:Below wi.heap.size wi w1:=HIW.out.2.1.trans ((HBW.out.mono HIW.out.2.1.size).trans (HB1.out.mono (by have:=HIW.out.2.1.size;omega)))
  rw [←hw2]
  exact h1.setCell (p:=⟨hb,1,none⟩) HIW.out.2.2 _
 have HWN:=Z0a (wanted_any a0 a1 c0 c1 (.slice a2 1024 c2) i w2 (HIW.out.1.b.below hBi) (HIW.out.1.l.below hBi) HLL.out.1 HLL.out.2)
 have HG2:Hid (w.grownBy w2 (some hb)):=by
  have h1:=(Z0d HBW.out (some hb)).trans (Z0d HB1.out (some hb))
  rw [←hw2]
  exact h1.trans (setg w1 hb 1 _)
 have d1:w2.cell? ⟨w.heap.size,0,none⟩=some (.slice a0 1024 c0):=by rw [←hw2,World.cell?_setCell_other _ _ _ _ (by simp <;> omega)];exact e1
 have d2:w2.cell? ⟨w.heap.size,1,none⟩=some (.slice a1 1024 c1):=by rw [←hw2,World.cell?_setCell_other _ _ _ _ (by simp <;> omega)];exact e2
 have d3:w2.cell? ⟨w.heap.size,2,none⟩=some (.slice a2 1024 c2):=by rw [←hw2,World.cell?_setCell_other _ _ _ _ (by simp <;> omega)];exact e3
 clear hBi
 go_wp2_with fail
 refine HWN.out.mono ?_
 rintro e w3 ⟨v,rfl,hR3,hB3⟩
 have hz3:=hB3.size
 obtain ⟨lb,hL,hlb,hll⟩:=left_of_row hR3 w.heap.size (by omega)
 have hlne:lb≠hb:=by omega
 have m3:=(HM1.out.below hB3).relb rfl hlne hll
 have c2':=m3.c2
 obtain ⟨vo,vo1,_⟩:=c2'
 have f2':=m3.fz 2
 have hl3:=m3.lt
 have m4:HstM (w3.setCell ⟨hb,2,none⟩ v) hb lb ⟨0,SN,Z1W i,0,ear0,[],0,false,0,0⟩:=m3.setLeft (Z1W i) v hL
 have HA:=Z0a (hask_any hb lb _ 0 1 [] 1 _ m4 HSL.out (by simp) (by omega))
 have x0:((0:UInt8).toNat:Int)=0:=rfl
 have x1:((1:UInt8).toNat:Int)=1:=rfl
 have x2:txt []=(⟨#[]⟩:ByteArray):=rfl
 have x3:Z29 hb 1=.func (.func 180) #[.pointer (some ⟨hb,0,none⟩)] #[]:=rfl
 rw [x0,x1,x2,x3] at HA
 have HG4:=Z0a (And.intro (HG2.out.trans ((Z0d hB3 (some hb)).trans (setg w3 hb 2 v))) (show w.heap.size≤lb by omega))
 obtain ⟨va,vm,vc,rfl⟩:=Z0z hR3
 clear hR3 hB3 hL m3 m4 x0 x1 x2 x3 HWN HM1
 go_wp2_with fail
 refine HA.out.mono ?_
 rintro e w5 ⟨rfl,h1,h2⟩
 have HZ:=Z0a (And.intro h1 (HG4.out.1.trans h2))
 clear h1 h2
 go_wp2
 go_ret
 exact ⟨rfl,⟨lb,HZ.out.1,HG4.out.2⟩,HZ.out.2⟩
def zeroHL:List Value:=[.int .i64 0,.int .u16 0,.slice none 0 0,.int .u16 0]++(Z1K.toList ++ [.string ⟨#[]⟩,.nilFunc,.bool false,.int .i64 0,.int .i64 0])
theorem zeroH_is:Tryz.zeroCells161.toList=zeroHL:=by kernel_rfl
theorem zeroHst_at {w:World}{hb lb:Nat}{t:TypeId}(hh:w.heap[hb]?=some (.cells Tryz.zeroCells161 t))(hl:hb<w.heap.size)(h1:lb≠hb)(h2:lb<w.heap.size):HstM w hb lb hstZ:=by
 have hc:∀ j,w.cell? ⟨hb,j,none⟩=zeroHL[j]?:=fun j=>by
  rw [cell_of_row _ _ j _ _ (0,0) hh,← zeroH_is]
  simp
 have hf:∀ j,w.frozen? ⟨hb,j,none⟩=false:=fun j=>frozen_of_row _ _ _ _ _ hh
 have hz:∀ j,j<84→zeroHL[4+j]?=Z1K.toList[j]?:=fun j hj=>by
  unfold zeroHL
  rw [List.getElem?_append_right (by simp),List.getElem?_append_left (by simp [Z1K];omega)]
  congr 1
  simp
 have hb0:∀ j,j<82→Z1K.toList[1+j]?=some (.int .u8 0):=fun j hj=>by
  have e:Z1K.toList=.int .i64 0 :: (List.replicate 82 (.int .u8 0) ++ [.int .i64 0]):=by kernel_rfl
  rw [e,Nat.add_comm 1 j,List.getElem?_cons_succ,List.getElem?_append_left (by simpa using hj),List.getElem?_replicate,if_pos hj]
 have z88:zeroHL[88]?=some (.string ⟨#[]⟩):=by kernel_rfl
 have z89:zeroHL[89]?=some .nilFunc:=by kernel_rfl
 have z90:zeroHL[90]?=some (.bool false):=by kernel_rfl
 have z91:zeroHL[91]?=some (.int .i64 0):=by kernel_rfl
 have z92:zeroHL[92]?=some (.int .i64 0):=by kernel_rfl
 have z83:Z1K.toList[83]?=some (.int .i64 0):=by kernel_rfl
 refine ⟨(hc 0).trans rfl,(hc 1).trans rfl,(hc 3).trans rfl,(hc 88).trans z88,(hc 89).trans z89,(hc 90).trans z90,(hc 91).trans z91,(hc 92).trans z92,⟨.slice none 0 0,(hc 2).trans rfl,⟨⟨none,0,rfl,Nat.le_refl _,by omega,fun e=>by simp [hstZ] at e⟩⟩⟩,⟨?_,?_,fun i hi=>?_,fun i hi=>?_,hf,hl,eok0⟩,h1,h2⟩
 ·rw [hc,show (4:Nat)=4+0 from rfl,hz 0 (by omega)];rfl
 ·rw [hc,hz 83 (by omega)];exact z83
 ·exact ⟨_,by rw [hc,show 4+1+i=4+(1+i) by omega,hz (1+i) (by omega)];exact hb0 i hi⟩
 ·simp [hstZ,ear0] at hi
theorem newHost_any (a0 a1 a2:Option Addr)(n0 n1 n2 c0 c1 c2:Nat)(i:Img)(s:Int)(w:World)(hI:HImgAt w (.slice a0 n0 c0) (.slice a1 n1 c1) (.slice a2 n2 c2) i)(hn0:n0=i.bytes.length)(hn1:n1=i.laid.length)(hn2:n2=i.starts.length)(hw:Z13 i=true) :
  Calls Tryz.prog 70 #[.agg #[.slice a0 n0 c0,.slice a1 n1 c1,.slice a2 n2 c2],.int .i64 s] w fun e w'=>e=.returned (.tuple #[.pointer (some ⟨w.heap.size+1,0,none⟩),.int .i64 0])∧HBegun w' (w.heap.size+1) w.heap.size (hst0 i (sesN s))∧Below w.heap.size w w':=by
 subst hn0 hn1 hn2
 obtain ⟨W,hW,hB,hz,k0,k1,k2⟩:=Z4n w (.slice a0 i.bytes.length c0) (.slice a1 i.laid.length c1) (.slice a2 i.starts.length c2)
 have hWz:W.heap.size=w.heap.size+1:=by rw [←hW];simp
 obtain ⟨W2,hW2⟩:∃ W2,W.alloc (.cells Tryz.zeroCells161 161)=W2:=⟨_,rfl⟩
 have hB2:Below W.heap.size W W2:=by rw [←hW2];exact (Below.refl _ _).alloc (Nat.le_refl _) _
 have hW2z:W2.heap.size=w.heap.size+1+1:=by rw [←hW2,World.alloc_size,hWz]
 have hh2:W2.heap[w.heap.size+1]?=some (.cells Tryz.zeroCells161 161):=by
  have:=heap_alloc_new W (.cells Tryz.zeroCells161 161)
  rw [hW2,hWz] at this
  exact this
 have m2:HstM W2.drew (w.heap.size+1) w.heap.size hstZ:=(zeroHst_at hh2 (by omega) (by omega) (by omega)).kept rfl rfl (Nat.le_refl _)
 have hBw:Below w.heap.size w W2.drew:=(hB.trans (hB2.mono (by omega))).drew
 have HBG:=Z0a (hbegin_any (w.heap.size+1) w.heap.size a0 a1 a2 _ _ _ c0 c1 c2 i s W2.drew w m2 hI hBw (by omega) rfl rfl rfl hw)
 have d0:=(World.cell?_of_block (a:=⟨w.heap.size,0,none⟩) (hB2.block w.heap.size hz)).trans k0
 have d1:=(World.cell?_of_block (a:=⟨w.heap.size,1,none⟩) (hB2.block w.heap.size hz)).trans k1
 have d2:=(World.cell?_of_block (a:=⟨w.heap.size,2,none⟩) (hB2.block w.heap.size hz)).trans k2
 have HBW:=Z0a hBw
 obtain ⟨N0,hN0⟩:∃ N0,i.bytes.length=N0:=⟨_,rfl⟩
 obtain ⟨N1,hN1⟩:∃ N1,i.laid.length=N1:=⟨_,rfl⟩
 obtain ⟨N2,hN2⟩:∃ N2,i.starts.length=N2:=⟨_,rfl⟩
 rw [hN0] at hW d0 k0 HBG ⊢
 rw [hN1] at hW d1 k1 HBG ⊢
 rw [hN2] at hW d2 k2 HBG ⊢
 clear hI hw m2 hBw hB hB2 hN0 hN1 hN2 hh2
 go_enter Tryz.func70,Tryz.ntmps70
 go_wp2_with fail
 go_region_with (go_at_call 115;refine HBG.out.mono ?_;rintro e wx ⟨rfl,hbx,hgx⟩)
 all_goals
  have HZ:=Z0a (And.intro hbx hgx)
  clear hbx hgx
  go_wp2
  go_ret2
  obtain ⟨lb,q1,q2⟩:=HZ.out.1
  exact ⟨rfl,⟨lb,q1,by have:W2.drew.heap.size=W2.heap.size:=rfl;omega⟩,Z3X HBW.out HZ.out.2 (by omega)⟩
theorem Z6B (hb lb:Nat)(h:Hst)(w:World)(m:HstM w hb lb h):Calls Tryz.prog 46 #[.pointer (some ⟨hb,0,none⟩)] w fun e w'=>e=.returned (.int .i64 (h.state:Int))∧w'=w:=by
 have HC:=Z0a (hstate_any hb lb h w m)
 have c0:=m.c0
 clear m
 go_enter Tryz.func46,Tryz.ntmps46
 go_wp2_with fail
 refine HC.out.mono ?_
 rintro e w1 ⟨rfl,rfl⟩
 go_wp2
 go_ret
 exact ⟨rfl,rfl⟩
theorem Z1S (hb lb:Nat)(h:Hst)(w:World)(m:HstM w hb lb h)(k:HOk h):Calls Tryz.prog 40 #[.pointer (some ⟨hb,0,none⟩)] w fun e w'=>e=.returned (.string (txt (sayH h).2))∧HstM w' hb lb (sayH h).1∧w.grownBy w' (some hb):=by
 have HC:=Z0a (hfetch_any hb lb h w m k.b)
 have c0:=m.c0
 obtain ⟨T,hT⟩:∃ T,txt (sayH h).2=T:=⟨_,rfl⟩
 rw [hT] at HC ⊢
 clear m k hT
 go_enter Tryz.func40,Tryz.ntmps40
 go_wp2_with fail
 refine HC.out.mono ?_
 rintro e w1 ⟨rfl,h1,h2⟩
 have HQ:=Z0a (And.intro h1 h2)
 clear h1 h2
 go_wp2
 go_ret
 exact ⟨rfl,HQ.out.1,HQ.out.2⟩
theorem Z7z (hb lb:Nat)(h:Hst)(w:World)(m:HstM w hb lb h)(k:HOk h):Calls Tryz.prog 37 #[.pointer (some ⟨hb,0,none⟩)] w fun e w'=>e=.returned (.tuple #[])∧HstM w' hb lb (tickH h)∧w.grownBy w' (some hb):=by
 have HC:=Z0a (htick_any hb lb h w m k.b)
 have c0:=m.c0
 clear m k
 go_enter Tryz.func37,Tryz.ntmps37
 go_wp2_with fail
 refine HC.out.mono ?_
 rintro e w1 ⟨rfl,h1,h2⟩
 have HQ:=Z0a (And.intro h1 h2)
 clear h1 h2
 go_wp2
 go_end0
 exact ⟨rfl,HQ.out.1,HQ.out.2⟩
theorem bhHear_any (hb lb:Nat)(h:Hst)(bs:ByteArray)(w:World)(m:HstM w hb lb h)(k:HOk h)(hbs:bs.size≤4000000):Calls Tryz.prog 75 #[.pointer (some ⟨hb,0,none⟩),.string bs] w fun e w'=>e=.returned (.tuple #[])∧HstM w' hb lb (hearH h bs.data.toList)∧w.grownBy w' (some hb):=by
 have HC:=Z0a (hhear_any hb lb h bs w m k hbs)
 have c0:=m.c0
 obtain ⟨h2,hh2⟩:∃ h2,hearH h bs.data.toList=h2:=⟨_,rfl⟩
 rw [hh2] at HC ⊢
 clear m k hh2
 go_enter Tryz.func75,Tryz.ntmps75
 go_wp2_with fail
 refine HC.out.mono ?_
 rintro e w1 ⟨rfl,h1,h2⟩
 have HQ:=Z0a (And.intro h1 h2)
 clear h1 h2
 go_wp2
 go_end0
 exact ⟨rfl,HQ.out.1,HQ.out.2⟩
theorem Z4f (i:Img)(hb:i.bytes.length=1024):∀ k,k≤16→∀ p∈Z3R i k,p.n<16∧p.bs.length=64
 | 0,_,p,hp=>by simp [Z3R] at hp
 | k+1,hk,p,hp=>by
  unfold Z3R at hp
  rw [List.mem_append] at hp
  rcases hp with hp | hp
  ·exact Z4f i hb k (by omega) p hp
  ·split at hp
   ·rw [List.mem_singleton] at hp
    subst hp
    refine ⟨?_,Z4M hb k (by omega)⟩
    rw [UInt8.lt_iff_toNat_lt]
    show (UInt8.ofNat k).toNat<16
    rw [UInt8.toNat_ofNat']
    omega
   ·simp at hp
theorem hst0_ok (i:Img)(s:Int)(hb:i.bytes.length=1024):HOk (hst0 i (sesN s)):=by
 have hw:(Z0F (sesN s) 0 1 ++ []).getD 3 0=1:=rfl
 refine ⟨⟨sesN_lt s,by show 0<65536;omega,by show 0≤2;omega,Z4f i hb 16 (Nat.le_refl _),?_,by show 0+1≤5;omega,by show 0≤3;omega,Z4q i 16⟩,by show 1≤5;omega,?_,fun e=>by have:(3:Nat)≤1:=e;omega,fun _=>hw,fun e=>by have:(1:Nat)=2:=e;omega,fun e=>by have:(1:Nat)=3:=e;omega,fun e=>by have:(1:Nat)=4∨(1:Nat)=5:=e;omega,fun _=>by show 0≤2;omega⟩
 ·show 4≤(Z0F (sesN s) 0 1 ++ []).length∧(Z0F (sesN s) 0 1 ++ []).length≤69
  simp [Z0F]
 ·show (1:Nat)=0↔(0:Nat)≠0
  omega
end Go.Proofs.YthokdbcpkmcieaaGreatDoor
namespace Go.Proofs.YthokdbcpkmcieaaGreatDoor
open Go Go.RowKit
theorem bhear_any (eb:Nat)(s:EarS)(bs:ByteArray)(w:World)(h:EarAt w eb s)(hbs:bs.size≤4000000) :
  Calls Tryz.prog 124 #[.pointer (some ⟨eb,0,none⟩),.string bs] w fun e w'=>∃ v,e=.returned v∧EarAt w' eb (Z0r s bs.data.toList).1∧w'.ownsRow w.heap.size 9 1 v (Z0r s bs.data.toList).2.length (strs (Z0r s bs.data.toList).2)∧w.grownBy w' (some eb):=by
 have HC:=Z0a (hear_any eb s bs w h hbs)
 have hlt:=h.lt
 have c0:=h.c0
 obtain ⟨R,hR⟩:∃ R,Z0r s bs.data.toList=R:=⟨_,rfl⟩
 rw [hR] at HC ⊢
 clear hR h
 go_enter Tryz.func124,Tryz.ntmps124
 go_wp2_with fail
 refine HC.out.mono ?_
 rintro e w1 ⟨v,rfl,h1,h2,h3⟩
 obtain ⟨va,vm,vc,rfl⟩:=Z0z h2
 have HQ:=Z0a (And.intro h1 (And.intro h2 h3))
 clear h1 h2 h3
 go_wp2
 go_ret
 exact ⟨_,rfl,HQ.out.1,HQ.out.2.1,HQ.out.2.2⟩
theorem Tryz.zeroEarInfo:(Tryz.prog.info? 278).map (fun i=>i.zero)=some (some (.agg Z1K)):=by kernel_rfl
theorem listen_any (w:World):Calls Tryz.prog 123 #[] w fun e w'=>e=.returned (.pointer (some ⟨w.heap.size,0,none⟩))∧EarAt w' w.heap.size ⟨0,[]⟩∧Below w.heap.size w w'∧w'.heap.size=w.heap.size+1:=by
 have hz:=run_zero Tryz.zeroEarInfo w
 go_enter Tryz.func123,Tryz.ntmps123
 go_wp2
 go_ret
 exact ⟨rfl,zeroEar_at w _,(Below.refl _ _).alloc (Nat.le_refl _) _,by simp⟩
theorem Z7G (w:World):Calls Tryz.prog 76 #[] w fun e w'=>e=.returned (.string (txt [126]))∧Below w.heap.size w w':=by
 have hcv:(convert 32 9 (.slice (some ⟨w.heap.size,0,none⟩) 1 1)).run Tryz.prog (w.alloc (.cells #[.int .u8 126] 5))=.ok (.string (txt [126])) (w.alloc (.cells #[.int .u8 126] 5)):=Z3d (l:=[126]) (n:=1) rfl (Z5J w w.heap.size (Nat.le_refl _) 126)
 have hb:Below w.heap.size w (w.alloc (.cells #[.int .u8 126] 5)):=(Below.refl _ _).alloc (Nat.le_refl _) _
 have HB:=Z0a hb
 clear hb
 go_enter Tryz.func76,Tryz.ntmps76
 go_wp2
 go_ret
 exact ⟨rfl,HB.out⟩
theorem row_sliceS {w:World}{base:Nat}{e:TypeId}{size n:Nat}{v:Value}{xs:List Value}(h:w.ownsRow base e size v n xs):∃ a cap,v=.slice a n cap∧n≤cap∧cap≤maxLen:=by
 obtain ⟨_,⟨rfl,rfl⟩ | ⟨g,cap,cur,rfl,_,_,h3,h4,_⟩⟩:=h
 ·exact ⟨none,0,rfl,Nat.le_refl _,Nat.zero_le _⟩
 ·exact ⟨_,cap,rfl,h3,h4⟩
theorem single_any (t:List UInt8)(ht:t.length≤3000000)(w:World) :
  Calls Tryz.prog 78 #[.string (txt t)] w fun e w'=>∃ s,e=.returned (.tuple #[.string s,.bool (decide (msS t≠[]))])∧Below w.heap.size w w':=by
 have HL:=Z0a (listen_any w)
 have HFL:=Z0a (fun w'=>Z7G w')
 have HE:=Z0a (fun eb w' (h':EarAt w' eb ⟨0,[]⟩)=>bhear_any eb ⟨0,[]⟩ (txt [126]++txt t++txt [126]) w' h' (by rw [ByteArray.size_append,ByteArray.size_append,Z0k,Z0k];simp;omega))
 have hd:(txt [126]++txt t++txt [126]).data.toList=betw t:=by rw [Z2B,Z2B,Z6C];rfl
 rw [hd,show (⟨0,[]⟩:EarS)=ear0 from rfl,Z21 Z36 t] at HE
 simp only at HE
 have hs1:(txt [126]).size=1:=rfl
 obtain ⟨fl,hfs⟩:∃ fl,(txt t).size=fl:=⟨_,rfl⟩
 have hfs2:fl≤3000000:=by rw [←hfs,Z0k];exact ht
 obtain ⟨F,hF⟩:∃ F,txt t=F:=⟨_,rfl⟩
 obtain ⟨G,hG⟩:∃ G,txt [126]=G:=⟨_,rfl⟩
 obtain ⟨M,hM⟩:∃ M,msS t=M:=⟨_,rfl⟩
 have hMl:M.length≤3000002:=by
  have:=Z2i ear0 (betw t)
  have e:(betw t).length=t.length+2:=by unfold betw;simp
  have e2:(Z0r ear0 (betw t)).2=M:=hM
  rw [e2,e] at this
  omega
 rw [hF] at HE hfs ⊢
 rw [hG] at HE HFL hs1
 rw [hM] at HE ⊢
 obtain ⟨Bv,hBv⟩:∃ Bv,decide (M≠[])=Bv:=⟨_,rfl⟩
 rw [hBv]
 have HBV:=Z0a hBv
 clear hd hF hG hM hBv
 go_enter Tryz.func78,Tryz.ntmps78
 go_wp2_with fail
 refine HL.out.mono ?_
 rintro e w1 ⟨rfl,hE1,hB1,_⟩
 go_wp2_with fail
 refine (HFL.out _).mono ?_
 rintro e w2 ⟨rfl,hB2⟩
 go_wp2_with fail
 refine (HFL.out _).mono ?_
 rintro e w3 ⟨rfl,hB3⟩
 have hE2:=hE1.kept (hB2.block w.heap.size hE1.lt) hB2.size
 have hE3:=hE2.kept (hB3.block w.heap.size hE2.lt) hB3.size
 have hBw:Below w.heap.size w w3:=hB1.trans ((hB2.mono hB1.size).trans (hB3.mono (Nat.le_trans hB1.size hB2.size)))
 have HEE:=Z0a (And.intro hE3 hBw)
 clear hE1 hE2 hE3 hB1 hB2 hB3 hBw HL
 go_wp2_with fail
 refine (HE.out w.heap.size w3 HEE.out.1).mono ?_
 rintro e w4 ⟨v,rfl,_,hR4,hG4⟩
 have HB:=Z0a (Z3X HEE.out.2 hG4 (Nat.le_refl _))
 obtain ⟨va,vc,rfl,hv1,hv2⟩:=row_sliceS hR4
 by_cases h1:M.length=1
 ·obtain ⟨a,rfl⟩:=List.length_eq_one_iff.1 h1
  have hR5:w4.ownsRow w3.heap.size 9 1 (.slice va 1 vc) 1 (strs [a]):=hR4
  obtain ⟨g,cap,hv,_⟩:=Z2F hR5 (by decide)
  cases hv
  have cg:w4.cell? ⟨g,0,none⟩=some (.string (txt a)):=by
   have:=hR5.cells (g:=g) rfl 0 _ rfl
   rwa [Addr.add_lit,Nat.zero_add] at this
  have hB1:Bv=true:=by rw [←HBV.out];exact decide_eq_true (by simp)
  have HB1:=Z0a hB1
  clear hR4 hR5 hG4 HEE HE hB1
  go_wp2
  go_ret2
  exact ⟨_,by rw [HB1.out];rfl,HB.out⟩
 ·obtain ⟨N,hN⟩:∃ N,M.length=N:=⟨_,rfl⟩
  have hd:decide (M≠[])=decide ((1:Int)<(N:Int)):=by
   cases M with
   | nil =>
    simp at hN
    subst hN
    rfl
   | cons a l =>
    simp only [List.length_cons] at h1 hN
    rw [decide_eq_true (by simp),decide_eq_true (by omega)]
  have g1:¬ (N:Int)=1:=by omega
  have g2:((N:Int) == 1)=false:=by simp;omega
  have HB1:Hid (Bv=decide ((1:Int)<(N:Int))):=by rw [←HBV.out];exact hd
  rw [hN]
  clear hR4 hG4 HEE HE hd hN
  go_wp2
  go_ret2
  exact ⟨_,by rw [HB1.out];rfl,HB.out⟩
structure PlyM (w:World) (pb bb hb lb:Nat) (i0 i1 i2:Value) (p:Ply):Prop where
 c0:w.cell? ⟨pb,0,none⟩=some (.pointer (some ⟨bb,0,none⟩))
 c1:w.cell? ⟨pb,1,none⟩=some (.pointer (some ⟨hb,0,none⟩))
 c2:w.cell? ⟨pb,2,none⟩=some i0
 c3:w.cell? ⟨pb,3,none⟩=some i1
 c4:w.cell? ⟨pb,4,none⟩=some i2
 c5:w.cell? ⟨pb,5,none⟩=some (.string (txt p.late))
 c6:w.cell? ⟨pb,6,none⟩=some (.string (txt p.lateB))
 c7:w.cell? ⟨pb,7,none⟩=some (.int .i64 (p.n:Int))
 fz:∀ j,w.frozen? ⟨pb,j,none⟩=false
 b:BrdAt w bb p.b
 h:HstM w hb lb p.h
 ok:HOk p.h
 ne:pb≠bb∧pb≠hb∧pb≠lb∧bb≠hb∧bb≠lb
theorem PlyM.lt {w:World}{pb bb hb lb:Nat}{i0 i1 i2:Value}{p:Ply}(m:PlyM w pb bb hb lb i0 i1 i2 p):pb<w.heap.size:=World.block_lt_of_cell? _ _ m.c0
theorem PlyM.cells {w w':World}{pb bb hb lb:Nat}{i0 i1 i2:Value}{p:Ply}{b:Brd}{h:Hst}(m:PlyM w pb bb hb lb i0 i1 i2 p)(e:w'.heap[pb]?=w.heap[pb]?)(hb':BrdAt w' bb b)(hh:HstM w' hb lb h)(k:HOk h):PlyM w' pb bb hb lb i0 i1 i2 ⟨b,h,p.late,p.lateB,p.n⟩:=by
 have hc:∀ j,w'.cell? ⟨pb,j,none⟩=w.cell? ⟨pb,j,none⟩:=fun j=>World.cell?_of_block (a:=⟨pb,j,none⟩) e
 exact ⟨(hc 0).trans m.c0,(hc 1).trans m.c1,(hc 2).trans m.c2,(hc 3).trans m.c3,(hc 4).trans m.c4,(hc 5).trans m.c5,(hc 6).trans m.c6,(hc 7).trans m.c7,fun j=>(World.frozen?_of_block (a:=⟨pb,j,none⟩) e).trans (m.fz j),hb',hh,k,m.ne⟩
theorem PlyM.below {w w':World}{pb bb hb lb:Nat}{i0 i1 i2:Value}{p:Ply}(m:PlyM w pb bb hb lb i0 i1 i2 p)(q:Below w.heap.size w w'):PlyM w' pb bb hb lb i0 i1 i2 p :=
 m.cells (q.block pb m.lt) (m.b.below q) (m.h.below q) m.ok
theorem PlyM.board {w w':World}{pb bb hb lb:Nat}{i0 i1 i2:Value}{p:Ply}{b:Brd}(m:PlyM w pb bb hb lb i0 i1 i2 p)(q:w.grownBy w' (some bb))(hb':BrdAt w' bb b):PlyM w' pb bb hb lb i0 i1 i2 ⟨b,p.h,p.late,p.lateB,p.n⟩:=by
 obtain ⟨n1,n2,n3,n4,n5⟩:=m.ne
 exact m.cells (q.block pb m.lt (by simp;omega)) hb' (m.h.kept (q.block hb m.h.lt (by simp;omega)) (q.block lb m.h.ll (by simp;omega)) q.size) m.ok
theorem PlyM.host {w w':World}{pb bb hb lb:Nat}{i0 i1 i2:Value}{p:Ply}{h:Hst}(m:PlyM w pb bb hb lb i0 i1 i2 p)(q:w.grownBy w' (some hb))(hh:HstM w' hb lb h)(k:HOk h):PlyM w' pb bb hb lb i0 i1 i2 ⟨p.b,h,p.late,p.lateB,p.n⟩:=by
 obtain ⟨n1,n2,n3,n4,n5⟩:=m.ne
 exact m.cells (q.block pb m.lt (by simp;omega)) (m.b.kept (q.block bb m.b.sto.lt (by simp;omega)) q.size) hh k
theorem kboard_some (t:List UInt8)(ht:t.length≤3000000)(hne:t≠[])(pb bb hb lb:Nat)(i0 i1 i2:Value)(p:Ply)(w:World)(m:PlyM w pb bb hb lb i0 i1 i2 p) :
  Calls Tryz.prog 42 #[.pointer (some ⟨pb,0,none⟩),.string (txt t)] w fun e w'=>e=.returned (.string (txt (Z0N p.b (betw t)).2))∧PlyM w' pb bb hb lb i0 i1 i2 ⟨(Z0N p.b (betw t)).1,p.h,p.late,p.lateB,p.n⟩∧∃ w1,Below w.heap.size w w1∧w1.grownBy w' (some bb):=by
 have HFL:=Z0a (fun w'=>Z7G w')
 have HH:=Z0a (fun w' (h':BrdAt w' bb p.b)=>bbHear_any bb p.b (txt [126]++txt t++txt [126]) w' h' (by rw [ByteArray.size_append,ByteArray.size_append,Z0k,Z0k];simp;omega))
 have hd:(txt [126]++txt t++txt [126]).data.toList=betw t:=by rw [Z2B,Z2B,Z6C];rfl
 rw [hd] at HH
 obtain ⟨R,hR⟩:∃ R,Z0N p.b (betw t)=R:=⟨_,rfl⟩
 rw [hR] at HH ⊢
 have hne2:(txt t).toList.isEmpty=false:=Z0C (txt t) (by rw [Z0k];exact List.length_pos_iff.2 hne)
 have hs1:(txt [126]).size=1:=rfl
 have hfs2:(txt t).size≤3000000:=by rw [Z0k];exact ht
 obtain ⟨F,hF⟩:∃ F,txt t=F:=⟨_,rfl⟩
 obtain ⟨G,hG⟩:∃ G,txt [126]=G:=⟨_,rfl⟩
 rw [hF] at HH hfs2 hne2 ⊢
 rw [hG] at HH HFL hs1
 obtain ⟨GF,hGF⟩:∃ GF,G++F=GF:=⟨_,rfl⟩
 obtain ⟨T,hT⟩:∃ T,GF++G=T:=⟨_,rfl⟩
 have hGFs:GF.size≤3000001:=by rw [←hGF,ByteArray.size_append];omega
 have q1:∀ w':World,(Op.stringOp .add G F).run Tryz.prog w'=.ok (.string GF) w':=fun w'=>by
  have e:=run_string_add_sum (P:=Tryz.prog) (w:=w') G F (by omega)
  rw [hGF] at e
  exact e
 have q2:∀ w':World,(Op.stringOp .add GF G).run Tryz.prog w'=.ok (.string T) w':=fun w'=>by
  have e:=run_string_add_sum (P:=Tryz.prog) (w:=w') GF G (by omega)
  rw [hT] at e
  exact e
 rw [hGF,hT] at HH
 have k0:=m.c0
 have hM0:PlyM w.drew pb bb hb lb i0 i1 i2 p:=m.below (Below.refl _ _).drew
 have hg0:Below w.heap.size w w.drew:=(Below.refl _ _).drew
 clear hd hF hG hR hGF hT m hne ht hs1 hfs2 hGFs
 go_enter Tryz.func42,Tryz.ntmps42
 go_wp2_with fail
 refine wp_region_noPanic ?_
 refine wp_region_held_drew (S:=fun w'=>w'.cell? ⟨pb,0,none⟩=some (.pointer (some ⟨bb,0,none⟩))) (by kernel_rfl) (by exact k0) (fun hHeld=>?_)
 refine wpAnyH_take (i:=0) (v:=?v0) rfl (by kernel_rfl) (by kernel_rfl) (by kernel_rfl) (fun _ _ _ h=>h) (Or.inl ⟨by rfl,?hy0⟩) (by assumption) ?rest0
 case hy0=>(intro w hSw;(try dsimp only at hSw);go_simp;try with_reducible rfl)
 simp only [Act.put,List.setIfInBounds_toArray]
 refine wpAnyH_take (i:=1) (v:=?v1) rfl (by kernel_rfl) (by kernel_rfl) (by kernel_rfl) (fun _ _ _ h=>h) (Or.inl ⟨by rfl,?hy1⟩) (by assumption) ?rest1
 case hy1=>(intro w hSw;(try dsimp only at hSw);go_simp;try with_reducible rfl)
 simp only [Act.put]
 refine wpAnyH_take (i:=2) (v:=?v2) rfl (by kernel_rfl) (by kernel_rfl) (by kernel_rfl) (fun _ _ _ h=>h) (Or.inl ⟨by rfl,?hy2⟩) (by assumption) ?rest2
 case hy2=>(intro w hSw;(try dsimp only at hSw);go_simp;try with_reducible rfl)
 simp only [Act.put]
 refine wpAnyH_take (i:=3) (v:=?v3) rfl (by kernel_rfl) (by kernel_rfl) (by kernel_rfl) (fun _ _ _ h=>h) (Or.inl ⟨by rfl,?hy3⟩) (by assumption) ?rest3
 case hy3=>(intro w hSw;(try dsimp only at hSw);go_simp;try with_reducible rfl)
 simp only [Act.put]
 refine wpAnyH_take (i:=5) (v:=?v5) rfl (by kernel_rfl) (by kernel_rfl) (by kernel_rfl) (fun _ _ _ h=>h) (Or.inl ⟨by rfl,?hy5⟩) (by assumption) ?rest5
 case hy5=>(intro w hSw;(try dsimp only at hSw);go_simp;try with_reducible rfl)
 simp only [Act.put]
 refine wpAnyH_ready (rs:=[4]) (by kernel_rfl) (by simp) (AllReadyH.cons rfl (fun K hK=>?_) AllReadyH.nil)
 go_simp
 refine (HFL.out _).mono ?_
 rintro e w1 ⟨rfl,hB1⟩
 have hM1:=hM0.below hB1
 have hg1:=hg0.trans (hB1.mono hg0.size)
 have k1:=hM1.c0
 dsimp only
 refine hK.out _ _ (by exact k1) (fun hHeld1=>?_)
 clear hK K
 refine wpAnyH_take (i:=6) (v:=?v6) rfl (by kernel_rfl) (by kernel_rfl) (by kernel_rfl) (fun _ _ _ h=>h) (Or.inl ⟨by rfl,?hy6⟩) (by assumption) ?rest6
 case hy6=>(intro w hSw;(try dsimp only at hSw);go_simp;try with_reducible rfl)
 simp only [Act.put,List.setIfInBounds_toArray]
 refine wpAnyH_ready (rs:=[7]) (by kernel_rfl) (by simp) (AllReadyH.cons rfl (fun K hK=>?_) AllReadyH.nil)
 go_simp
 refine (HFL.out _).mono ?_
 rintro e w2 ⟨rfl,hB2⟩
 have hM2:=hM1.below hB2
 have hg2:=hg1.trans (hB2.mono hg1.size)
 have k2:=hM2.c0
 dsimp only
 refine hK.out _ _ (by exact k2) (fun hHeld2=>?_)
 clear hK K
 refine wpAnyH_take (i:=8) (v:=?v8) rfl (by kernel_rfl) (by kernel_rfl) (by kernel_rfl) (fun _ _ _ h=>h) (Or.inl ⟨by rfl,?hy8⟩) (by assumption) ?rest8
 case hy8=>(intro w hSw;(try dsimp only at hSw);go_simp;try with_reducible rfl)
 simp only [Act.put,List.setIfInBounds_toArray]
 refine wpAnyH_ready (rs:=[9]) (by kernel_rfl) (by simp) (AllReadyH.cons rfl (fun K hK=>?_) AllReadyH.nil)
 go_simp
 refine (HH.out _ hM2.b).mono ?_
 rintro e w3 ⟨rfl,hb3,hg3⟩
 have hM3:=hM2.board hg3 hb3
 have k3:=hM3.c0
 dsimp only
 refine hK.out _ _ (by exact k3) (fun hHeld3=>?_)
 clear hK K
 refine wpAnyH_ready (rs:=[10]) (by kernel_rfl) (by simp) (AllReadyH.cons rfl (fun K hK=>?_) AllReadyH.nil)
 go_simp
 refine hK.out _ _ (by exact k3) (fun _=>?_)
 clear hK K
 refine wpAnyH_done (by kernel_rfl) ?_ _
 refine NoPanic.normal ?_
 have HQ:=Z0a (And.intro hM3 (And.intro hg2 hg3))
 clear hM1 hM2 hM3 hg1 hg2 hg3
 go_wp2
 go_ret
 exact ⟨rfl,HQ.out.1,_,HQ.out.2.1,HQ.out.2.2⟩
end Go.Proofs.YthokdbcpkmcieaaGreatDoor
