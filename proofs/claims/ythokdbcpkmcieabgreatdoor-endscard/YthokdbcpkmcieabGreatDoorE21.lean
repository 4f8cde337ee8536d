/- Asm9s Asm9e Asm9l -/
import Derived.Test.YthokdbcpkmcieabGreatDoorE20
set_option maxRecDepth 200000
set_option maxHeartbeats 8000000
namespace Go.Proofs.YthokdbcpkmcieabGreatDoor
open Go Go.RowKit Go.Shelf Go.WideMaps Go.Maps
theorem settle_ds (w:World)(m:AMem)(a:Asm)(base:Nat)(lb:ByteArray)(x:Stm)(va:Option Addr)(vn vc:Nat)(ka:Option Addr)(kn kc:Nat)(l0:Int)(hp:Z4S w m a base lb x (.slice va vn vc))(hcu:cuF a.nm lb x.task x.name x.vals=true)(hcg:cgF a.nm a.n (Z0Q lb x.task x.name)=none)(htoo:tooS x.vals=false)(htk:x.task=4) :
  Calls Tryz.prog 186 #[.pointer (some ⟨m.ab,0,none⟩),.agg #[.int .i64 l0,.int .i64 (a.pl:Int),.string lb,.int .i64 (x.task:Int),.string x.name,.slice va vn vc,.int .u8 (x.ins.code:Int),.slice ka kn kc,.int .i64 (x.ins.size:Int)]] w (Z4y w m l0 (Z0o a lb x)):=by
 have hti:(x.task:Int)=4:=by omega
 have hst:=hp.stm
 have HU0:=fun w' (hb:Below w.heap.size w w')=>Z04 w' m.ab _ _ _ m.nb a.n a.nm (a.pl:Int) base x.vals l0 (a.pl:Int) lb x.task x.name va vn vc (x.ins.code:Int) ka kn kc (x.ins.size:Int) (hp.at_.st.below hb) (hp.vals.below hb) hst.len hst.cnt hst.used
 have HG0:=fun w' (hb:Below w.heap.size w w')=>Z0W w' m.ab _ _ _ m.nb a.n a.nm (a.pl:Int) l0 (a.pl:Int) lb x.task x.name va vn vc (x.ins.code:Int) ka kn kc (x.ins.size:Int) (hp.at_.st.below hb) hp.ok.n hst.given
 have HT0:=fun w' (hb:Below w.heap.size w w')=>Z1e w' base x.vals l0 (a.pl:Int) lb (x.task:Int) x.name va vn vc (x.ins.code:Int) ka kn kc (x.ins.size:Int) (hp.vals.below hb) hst.len hst.cnt
 rw [hti] at HU0 HG0 HT0 ⊢
 have HU1:=fun w' (hb:Below w.heap.size w w')=>(HU0 w' hb).mono (R':=fun e w2=>e=.returned (.tuple #[])∧Below w'.heap.size w' w2) (fun e w2 ⟨h1,h2⟩=>⟨h1.trans (by rw [hcu];rfl),h2⟩)
 have HG1:=fun w' (hb:Below w.heap.size w w')=>(HG0 w' hb).mono (R':=fun e w2=>e=.returned (.tuple #[])∧Below w'.heap.size w' w2) (fun e w2 ⟨h1,h2⟩=>⟨h1.trans (by rw [hcg];rfl),h2⟩)
 have HT1:=fun w' (hb:Below w.heap.size w w')=>(HT0 w' hb).mono (R':=fun e w2=>e=.returned (.bool false)∧Below w'.heap.size w' w2) (fun e w2 ⟨h1,h2⟩=>⟨h1.trans (by rw [htoo]),h2⟩)
 obtain ⟨W,hW,hBW,hWz,hSS⟩:=Z1B w l0 (a.pl:Int) lb 4 x.name (.slice va vn vc) (x.ins.code:Int) (.slice ka kn kc) (x.ins.size:Int)
 have HSS:Hid (∀ w',Below W.heap.size W w'→SS w' w.heap.size l0 (a.pl:Int) lb 4 x.name (.slice va vn vc) (x.ins.code:Int) (.slice ka kn kc) (x.ins.size:Int)):=fun w' hb=>hSS.grown (hb.block _ hSS.lt) hb.size
 have HU:=Z0a HU1
 have HG:=Z0a HG1
 have HT:=Z0a HT1
 have HB:=Z0a hBW
 have HP:=Z0a hp
 have t0:=hSS.c0
 have t1:=hSS.c1
 have t2:=hSS.c2
 have t3:=hSS.c3
 have t4:=hSS.c4
 have t5:=hSS.c5
 have t6:=hSS.c6
 have t7:=hSS.c7
 have t8:=hSS.c8
 clear HU0 HG0 HT0 hBW hSS hp hst HU1 HG1 HT1
 obtain ⟨R,hR⟩:∃ R,Z0o a lb x=R:=⟨_,rfl⟩
 rw [hR]
 have HR:=Z0a hR
 clear hR
 go_enter Tryz.func186,Tryz.ntmps186
 go_upto_if 19 with (first | (go_at_call 236;refine (HU.out W HB.out).mono ?_;rintro e w1 ⟨rfl,hb1⟩;have hB1:Below W.heap.size W w1:=hb1;have p0:=(HSS.out _ hB1).c0;have p1:=(HSS.out _ hB1).c1;have p2:=(HSS.out _ hB1).c2;have p3:=(HSS.out _ hB1).c3;have p4:=(HSS.out _ hB1).c4;have p5:=(HSS.out _ hB1).c5;have p6:=(HSS.out _ hB1).c6;have p7:=(HSS.out _ hB1).c7;have p8:=(HSS.out _ hB1).c8;have HB1:=Z0a hB1;clear hb1 hB1) | (go_at_call 237;refine (HG.out w1 (HB.out.trans (HB1.out.mono HB.out.size))).mono ?_;rintro e w2 ⟨rfl,hb2⟩;have hB2:Below W.heap.size W w2:=HB1.out.trans (hb2.mono HB1.out.size);have q0:=(HSS.out _ hB2).c0;have q1:=(HSS.out _ hB2).c1;have q2:=(HSS.out _ hB2).c2;have q3:=(HSS.out _ hB2).c3;have q4:=(HSS.out _ hB2).c4;have q5:=(HSS.out _ hB2).c5;have q6:=(HSS.out _ hB2).c6;have q7:=(HSS.out _ hB2).c7;have q8:=(HSS.out _ hB2).c8;have HB2:=Z0a hB2;clear hb2 hB2) | (go_at_call 238;refine (HT.out w2 (HB.out.trans (HB2.out.mono HB.out.size))).mono ?_;rintro e w3 ⟨rfl,hb3⟩;have hB3:Below W.heap.size W w3:=HB2.out.trans (hb3.mono HB2.out.size);have r0:=(HSS.out _ hB3).c0;have r1:=(HSS.out _ hB3).c1;have r2:=(HSS.out _ hB3).c2;have r3:=(HSS.out _ hB3).c3;have r4:=(HSS.out _ hB3).c4;have r5:=(HSS.out _ hB3).c5;have r6:=(HSS.out _ hB3).c6;have r7:=(HSS.out _ hB3).c7;have r8:=(HSS.out _ hB3).c8;have HB3:=Z0a hB3;clear hb3 hB3))
 have HB03:=Z0a (HB.out.trans (HB3.out.mono HB.out.size))
 have HA3:Hid (AsmAt w3 m a):=HP.out.at_.below HB03.out
 have HS3:=Z0a (HSS.out w3 HB3.out)
 have HN40:=Z0a (cgF_n hcg)
 clear HU HG HT HB1 HB2 p0 p1 p2 p3 p4 p5 p6 p7 p8 q0 q1 q2 q3 q4 q5 q6 q7 q8 t0 t1 t2 t3 t4 t5 t6 t7 t8
 go_cut [] (fun wx=>Z5q w wx m (labA a lb) base x.vals (.slice va vn vc) l0 (a.pl:Int) lb 4 x.name (x.ins.code:Int) (.slice ka kn kc) (x.ins.size:Int))
 case first =>
  have HV3:Hid (VAt w3 base (.slice va vn vc) x.vals):=HP.out.vals.below HB03.out
  by_cases hlb:lb=⟨#[]⟩
  ·have hemp:lb.toList.isEmpty=true:=by rw [hlb,ByteArray.toList_eq];rfl
   have hempn:(!lb.toList.isEmpty)=false:=by simp [hemp]
   have HL:Hid (labA a lb=a):=by unfold labA;exact if_pos hlb
   clear hlb
   rw [hempn]
   go_wp2_with fail
   go_meet
   exact ⟨HL.out.symm ▸ HA3.out,ChgM.below _ HB03.out,HV3.out,HS3.out⟩
  ·have hemp:=Z2q hlb
   have hempn:(!lb.toList.isEmpty)=true:=by simp [hemp]
   have HL:=Z0a hlb
   clear hlb
   obtain ⟨w4,hrun,hM4,hg4⟩:=Z29 (w:=w3.drew) ⟨HA3.out.st.kept rfl rfl,HA3.out.bytes.kept rfl,HA3.out.laid.kept rfl,HA3.out.starts.kept rfl⟩ HP.out.ok.n lb HP.out.stm.lb (a.pl:Int)
   have a3:=HA3.out.st.c3
   have a4:=HA3.out.st.c4
   have hs4:w4.heap[w.heap.size]?=w3.heap[w.heap.size]?:=hg4.block _ HS3.out.lt (fun e=>by have h1:=Option.some.inj e;have h2:=HP.out.at_.nlt;omega)
   have hab4:w4.heap[m.ab]?=w3.heap[m.ab]?:=hg4.block _ HA3.out.st.lt (fun e=>HA3.out.st.ne (Option.some.inj e).symm)
   have b3:=(World.cell?_of_block (a:=⟨m.ab,3,none⟩) hab4).trans a3
   have b4:=(World.cell?_of_block (a:=⟨m.ab,4,none⟩) hab4).trans a4
   have s4:=(World.cell?_of_block (a:=⟨w.heap.size,2,none⟩) hs4).trans r2
   have H4:Hid (Z5q w w4 m (labA a lb) base x.vals (.slice va vn vc) l0 (a.pl:Int) lb 4 x.name (x.ins.code:Int) (.slice ka kn kc) (x.ins.size:Int)):=⟨AsmAt.lab (w:=w3.drew) ⟨HA3.out.st.kept rfl rfl,HA3.out.bytes.kept rfl,HA3.out.laid.kept rfl,HA3.out.starts.kept rfl⟩ HP.out.mok HL.out hM4 hg4,(ChgM.below m HB03.out).trans ⟨hg4.os,hg4.tape,hg4.output,hg4.size,fun k h1 _ _ _ _ h2=>hg4.block k h1 (fun e=>h2 (Option.some.inj e))⟩,HV3.out.keptM (fun j h1 h2=>hg4.block j h2 (fun e=>by have h3:=Option.some.inj e;have h4:=HP.out.lo.2.2.2.2;omega)),HS3.out.grown hs4 hg4.size⟩
   clear hM4 hg4 hs4 hab4 HA3 HS3 HV3 HP HB03 HB HB3 HSS HN40 hcu hcg htoo r0 r1 r3 r4 r5 r6 r7 r8
   rw [hempn]
   go_wp2_with fail
   go_region_held3 (fun w'=>w'.cell? ⟨m.ab,3,none⟩=some (.map (some m.nb))∧w'.cell? ⟨m.ab,4,none⟩=some (.int .i64 (a.pl:Int))∧w'.cell? ⟨w.heap.size,2,none⟩=some (.string lb)) (first | exact ⟨b3,b4,s4⟩ | exact ⟨a3,a4,r2⟩) (fail)
   all_goals
    go_wp2_with fail
    go_meet
    exact H4.out
 case rest =>
 have HM:=Z0a hcut
 have hle0:(0:Int)≤(a.pl:Int):=by omega
 have HOKL:=Z0a (Z61 (lb:=lb) HP.out.ok (by have:=HN40.out;omega))
 clear hcut HA3 HS3 HB03 HB HB3 HSS r0 r1 r2 r3 r4 r5 r6 r7 r8
 obtain ⟨s0,s1,s2,s3,s4,s5,s6,s7,s8,sf,sl⟩:=HM.out.ss
 obtain ⟨e0,he0⟩:∃ e0,x.vals=[e0]:=List.length_eq_one_iff.1 (HP.out.stm.once (by unfold Z1K;rw [htk];rfl))
 have hV1:VAt wc base (.slice va vn vc) [e0]:=he0 ▸ HM.out.vals
 obtain ⟨hvn,g,xa,xn,xc,hva,hgb,hcg0,hrow⟩:=hV1.one
 subst hvn hva
 have hmem:e0∈x.vals:=by rw [he0];exact List.mem_singleton.2 rfl
 have hle:e0.length≤1000000:=by
  have:=HP.out.stm.cnt
  rw [he0] at this
  simpa [cntT] using this
 have HNB:Hid (∀ (w':World) (hb:Below wc.heap.size wc w') (hi:Int),Calls Tryz.prog 239 #[.pointer (some ⟨m.ab,0,none⟩),.agg #[.int .i64 l0,.int .i64 (a.pl:Int),.string lb,.int .i64 4,.string x.name,.slice (some ⟨g,0,none⟩) 1 vc,.int .u8 (x.ins.code:Int),.slice ka kn kc,.int .i64 (x.ins.size:Int)],.slice xa xn xc,.int .i64 0,.int .i64 hi] w' fun e w2=>e=nmbE (nmbF (labA a lb).nm (a.pl:Int) e0 0 hi) l0∧Below w'.heap.size w' w2):=fun w' hb hi=>Z3V w' m.ab _ _ _ m.nb _ _ _ base e0 l0 (a.pl:Int) lb _ x.name _ _ _ _ _ _ _ _ xa xn xc _ hi (HM.out.at_.st.below hb) (Z0r hrow hb) hle (fun t ht=>(HP.out.stm.vals e0 hmem t ht).1) (fun t ht=>trm_ok HOKL.out.nm htoo (fun e he t ht=>(HP.out.stm.vals e he t ht).2) hmem ht HP.out.ok.pl)
 have hgl:g<wc.heap.size:=World.block_lt_of_cell? _ _ hcg0
 have habl:m.ab<wc.heap.size:=HM.out.at_.st.lt
 have HS:Hid (∀ w':World,w'.heap[w.heap.size]?=wc.heap[w.heap.size]?→w'.heap[g]?=wc.heap[g]?→w'.cell? ⟨w.heap.size,0,none⟩=some (.int .i64 l0)∧w'.cell? ⟨w.heap.size,1,none⟩=some (.int .i64 (a.pl:Int))∧w'.cell? ⟨w.heap.size,2,none⟩=some (.string lb)∧w'.cell? ⟨w.heap.size,3,none⟩=some (.int .i64 4)∧w'.cell? ⟨w.heap.size,4,none⟩=some (.string x.name)∧w'.cell? ⟨w.heap.size,5,none⟩=some (.slice (some ⟨g,0,none⟩) 1 vc)∧w'.cell? ⟨w.heap.size,6,none⟩=some (.int .u8 (x.ins.code:Int))∧w'.cell? ⟨w.heap.size,7,none⟩=some (.slice ka kn kc)∧w'.cell? ⟨w.heap.size,8,none⟩=some (.int .i64 (x.ins.size:Int))∧w'.cell? ⟨g,0,none⟩=some (.slice xa xn xc)):=fun w' k1 k2=>by
  have hc:∀ j,w'.cell? ⟨w.heap.size,j,none⟩=wc.cell? ⟨w.heap.size,j,none⟩:=fun j=>World.cell?_of_block (a:=⟨w.heap.size,j,none⟩) k1
  exact ⟨(hc 0).trans s0,(hc 1).trans s1,(hc 2).trans s2,(hc 3).trans s3,(hc 4).trans s4,(hc 5).trans s5,(hc 6).trans s6,(hc 7).trans s7,(hc 8).trans s8,(World.cell?_of_block (a:=⟨g,0,none⟩) k2).trans hcg0⟩
 have hgm:g≠m.ab∧g≠m.nb:=by have:=HP.out.lo;omega
 have hwm:w.heap.size≠m.ab∧w.heap.size≠m.nb:=by have h1:=HP.out.at_.st.lt;have h2:=HP.out.at_.nlt;omega
 have HE0:=Z0a he0
 have hent:∀ args w,(callFunc 239 args).run Tryz.prog w=.ok (.enter 239 args) w:=enters_of Tryz.func239 (by kernel_rfl) rfl
 have g4:=HM.out.at_.st.c4
 have gf4:=HM.out.at_.st.fz 4
 have g3:=HM.out.at_.st.c3
 have hgne:=HM.out.at_.st.ne
 rw [Z8z] at g4
 clear hV1 hrow hmem hle he0
 have hsf:Z0o a lb x=dsR (labA a lb) a.pl (nmbF (labA a lb).nm (a.pl:Int) e0 0 (1024-(a.pl:Int))):=by
  unfold Z0o
  rw [if_neg (by simp [hcu]),hcg]
  simp only
  rw [if_neg (by simp [htoo]),if_neg (by omega),if_pos htk,HE0.out]
  rfl
 obtain ⟨O,hO⟩:∃ O,nmbF (labA a lb).nm (a.pl:Int) e0 0 (1024-(a.pl:Int))=O:=⟨_,rfl⟩
 rw [hO] at hsf
 have HSF:Hid (R=dsR (labA a lb) a.pl O):=HR.out.symm.trans hsf
 have HN1:=Z0a (HNB.out wc.drew (Below.refl _ _).drew (1024-(a.pl:Int)))
 rw [hO] at HN1
 have HO:=Z0a hO
 have hpl4:(a.pl:Int)≤1024:=by have:=HP.out.ok.pl;omega
 clear hO hsf HNB hcu hcg htoo hti htk HN40
 cases O with
 | none =>
  have e6:R=.error 6:=HSF.out
  subst e6
  have hwp:IntKind.i64.wrap (a.pl:Int)=(a.pl:Int):=by rw [IntKind.wrap_i64];omega
  go_wp2_with fail
  go_region_law (first | (refine Z1r (.int .i64 0) 239 #[.pointer (some ⟨m.ab,0,none⟩),.agg #[.int .i64 l0,.int .i64 (a.pl:Int),.string lb,.int .i64 4,.string x.name,.slice (some ⟨g,0,none⟩) 1 vc,.int .u8 (x.ins.code:Int),.slice ka kn kc,.int .i64 (x.ins.size:Int)],.slice xa xn xc,.int .i64 0,.int .i64 (1024-(a.pl:Int))] rfl (by simp [go_sem,hent]) _ HN1.out (fun e w' hh=>⟨fltC 6 l0,hh.1,rfl,(HM.out.chg.trans (ChgM.below m (Below.trans (Below.refl _ _).drew hh.2))),rfl⟩) ?_;intro HF) | (refine Z2X HF ?_))
  all_goals exact HF.out.elim
 | some z =>
  have e6:R=.ok { labA a lb with pl:=a.pl+z.toNat }:=HSF.out
  subst e6
  have hz:=Z1q HO.out
  have HN2:Hid (Calls Tryz.prog 239 #[.pointer (some ⟨m.ab,0,none⟩),.agg #[.int .i64 l0,.int .i64 (a.pl:Int),.string lb,.int .i64 4,.string x.name,.slice (some ⟨g,0,none⟩) 1 vc,.int .u8 (x.ins.code:Int),.slice ka kn kc,.int .i64 (x.ins.size:Int)],.slice xa xn xc,.int .i64 0,.int .i64 (1024-(a.pl:Int))] wc.drew fun e w2=>e=.returned (.int .i64 z)∧Below wc.heap.size wc w2):=HN1.out.mono fun e w2 ⟨h1,h2⟩=>⟨h1,⟨h2.os,h2.tape,h2.output,h2.size,h2.block⟩⟩
  clear HN1
  have hBd:Below wc.heap.size wc wc.drew:=(Below.refl _ _).drew
  obtain ⟨Q,hQ⟩:∃ Q:Int,(a.pl:Int)+z=Q:=⟨_,rfl⟩
  have hQb:0≤Q∧Q≤1024:=by omega
  have hwq:IntKind.i64.wrap Q=Q:=by rw [IntKind.wrap_i64];omega
  have HQ:=Z0a (show Q=((a.pl+z.toNat:Nat):Int) by omega)
  go_wp2_with fail
  go_region_with (first | (go_at_call 239;refine HN2.out.mono ?_;rintro e w5 ⟨rfl,hB5⟩;have g5:=(World.cell?_of_block (a:=⟨m.ab,4,none⟩) (hB5.block _ habl)).trans g4;have gf5:=(World.frozen?_of_block (a:=⟨m.ab,4,none⟩) (hB5.block _ habl)).trans gf4;have HB5:=Z0a hB5;clear hB5))
  all_goals
   go_wp2_with fail
   go_end0
   refine ⟨(HM.out.chg.trans (ChgM.below m HB5.out)).set _ _ _ (.inl rfl),rfl,?_⟩
   exact (HM.out.at_.below HB5.out).toPl HP.out.mok (a.pl+z.toNat) Q HQ.out
theorem settle_equ (w:World)(m:AMem)(a:Asm)(base:Nat)(lb:ByteArray)(x:Stm)(va:Option Addr)(vn vc:Nat)(ka:Option Addr)(kn kc:Nat)(l0:Int)(hp:Z4S w m a base lb x (.slice va vn vc))(hcu:cuF a.nm lb x.task x.name x.vals=true)(hcg:cgF a.nm a.n (Z0Q lb x.task x.name)=none)(htoo:tooS x.vals=false)(htk:x.task=5) :
  Calls Tryz.prog 186 #[.pointer (some ⟨m.ab,0,none⟩),.agg #[.int .i64 l0,.int .i64 (a.pl:Int),.string lb,.int .i64 (x.task:Int),.string x.name,.slice va vn vc,.int .u8 (x.ins.code:Int),.slice ka kn kc,.int .i64 (x.ins.size:Int)]] w (Z4y w m l0 (Z0o a lb x)):=by
 have hti:(x.task:Int)=5:=by omega
 have hst:=hp.stm
 have HU0:=fun w' (hb:Below w.heap.size w w')=>Z04 w' m.ab _ _ _ m.nb a.n a.nm (a.pl:Int) base x.vals l0 (a.pl:Int) lb x.task x.name va vn vc (x.ins.code:Int) ka kn kc (x.ins.size:Int) (hp.at_.st.below hb) (hp.vals.below hb) hst.len hst.cnt hst.used
 have HG0:=fun w' (hb:Below w.heap.size w w')=>Z0W w' m.ab _ _ _ m.nb a.n a.nm (a.pl:Int) l0 (a.pl:Int) lb x.task x.name va vn vc (x.ins.code:Int) ka kn kc (x.ins.size:Int) (hp.at_.st.below hb) hp.ok.n hst.given
 have HT0:=fun w' (hb:Below w.heap.size w w')=>Z1e w' base x.vals l0 (a.pl:Int) lb (x.task:Int) x.name va vn vc (x.ins.code:Int) ka kn kc (x.ins.size:Int) (hp.vals.below hb) hst.len hst.cnt
 rw [hti] at HU0 HG0 HT0 ⊢
 have HU1:=fun w' (hb:Below w.heap.size w w')=>(HU0 w' hb).mono (R':=fun e w2=>e=.returned (.tuple #[])∧Below w'.heap.size w' w2) (fun e w2 ⟨h1,h2⟩=>⟨h1.trans (by rw [hcu];rfl),h2⟩)
 have HG1:=fun w' (hb:Below w.heap.size w w')=>(HG0 w' hb).mono (R':=fun e w2=>e=.returned (.tuple #[])∧Below w'.heap.size w' w2) (fun e w2 ⟨h1,h2⟩=>⟨h1.trans (by rw [hcg];rfl),h2⟩)
 have HT1:=fun w' (hb:Below w.heap.size w w')=>(HT0 w' hb).mono (R':=fun e w2=>e=.returned (.bool false)∧Below w'.heap.size w' w2) (fun e w2 ⟨h1,h2⟩=>⟨h1.trans (by rw [htoo]),h2⟩)
 obtain ⟨W,hW,hBW,hWz,hSS⟩:=Z1B w l0 (a.pl:Int) lb 5 x.name (.slice va vn vc) (x.ins.code:Int) (.slice ka kn kc) (x.ins.size:Int)
 have HSS:Hid (∀ w',Below W.heap.size W w'→SS w' w.heap.size l0 (a.pl:Int) lb 5 x.name (.slice va vn vc) (x.ins.code:Int) (.slice ka kn kc) (x.ins.size:Int)):=fun w' hb=>hSS.grown (hb.block _ hSS.lt) hb.size
 have HU:=Z0a HU1
 have HG:=Z0a HG1
 have HT:=Z0a HT1
 have HB:=Z0a hBW
 have HP:=Z0a hp
 have t0:=hSS.c0
 have t1:=hSS.c1
 have t2:=hSS.c2
 have t3:=hSS.c3
 have t4:=hSS.c4
 have t5:=hSS.c5
 have t6:=hSS.c6
 have t7:=hSS.c7
 have t8:=hSS.c8
 clear HU0 HG0 HT0 hBW hSS hp hst HU1 HG1 HT1
 obtain ⟨R,hR⟩:∃ R,Z0o a lb x=R:=⟨_,rfl⟩
 rw [hR]
 have HR:=Z0a hR
 clear hR
 go_enter Tryz.func186,Tryz.ntmps186
 go_upto_if 19 with (first | (go_at_call 236;refine (HU.out W HB.out).mono ?_;rintro e w1 ⟨rfl,hb1⟩;have hB1:Below W.heap.size W w1:=hb1;have p0:=(HSS.out _ hB1).c0;have p1:=(HSS.out _ hB1).c1;have p2:=(HSS.out _ hB1).c2;have p3:=(HSS.out _ hB1).c3;have p4:=(HSS.out _ hB1).c4;have p5:=(HSS.out _ hB1).c5;have p6:=(HSS.out _ hB1).c6;have p7:=(HSS.out _ hB1).c7;have p8:=(HSS.out _ hB1).c8;have HB1:=Z0a hB1;clear hb1 hB1) | (go_at_call 237;refine (HG.out w1 (HB.out.trans (HB1.out.mono HB.out.size))).mono ?_;rintro e w2 ⟨rfl,hb2⟩;have hB2:Below W.heap.size W w2:=HB1.out.trans (hb2.mono HB1.out.size);have q0:=(HSS.out _ hB2).c0;have q1:=(HSS.out _ hB2).c1;have q2:=(HSS.out _ hB2).c2;have q3:=(HSS.out _ hB2).c3;have q4:=(HSS.out _ hB2).c4;have q5:=(HSS.out _ hB2).c5;have q6:=(HSS.out _ hB2).c6;have q7:=(HSS.out _ hB2).c7;have q8:=(HSS.out _ hB2).c8;have HB2:=Z0a hB2;clear hb2 hB2) | (go_at_call 238;refine (HT.out w2 (HB.out.trans (HB2.out.mono HB.out.size))).mono ?_;rintro e w3 ⟨rfl,hb3⟩;have hB3:Below W.heap.size W w3:=HB2.out.trans (hb3.mono HB2.out.size);have r0:=(HSS.out _ hB3).c0;have r1:=(HSS.out _ hB3).c1;have r2:=(HSS.out _ hB3).c2;have r3:=(HSS.out _ hB3).c3;have r4:=(HSS.out _ hB3).c4;have r5:=(HSS.out _ hB3).c5;have r6:=(HSS.out _ hB3).c6;have r7:=(HSS.out _ hB3).c7;have r8:=(HSS.out _ hB3).c8;have HB3:=Z0a hB3;clear hb3 hB3))
 have HB03:=Z0a (HB.out.trans (HB3.out.mono HB.out.size))
 have HA3:Hid (AsmAt w3 m a):=HP.out.at_.below HB03.out
 have HS3:=Z0a (HSS.out w3 HB3.out)
 have HN40:=Z0a (cgF_n hcg)
 clear HU HG HT HB1 HB2 p0 p1 p2 p3 p4 p5 p6 p7 p8 q0 q1 q2 q3 q4 q5 q6 q7 q8 t0 t1 t2 t3 t4 t5 t6 t7 t8
 go_cut [] (fun wx=>Z5q w wx m (labA a lb) base x.vals (.slice va vn vc) l0 (a.pl:Int) lb 5 x.name (x.ins.code:Int) (.slice ka kn kc) (x.ins.size:Int))
 case first =>
  have HV3:Hid (VAt w3 base (.slice va vn vc) x.vals):=HP.out.vals.below HB03.out
  by_cases hlb:lb=⟨#[]⟩
  ·have hemp:lb.toList.isEmpty=true:=by rw [hlb,ByteArray.toList_eq];rfl
   have hempn:(!lb.toList.isEmpty)=false:=by simp [hemp]
   have HL:Hid (labA a lb=a):=by unfold labA;exact if_pos hlb
   clear hlb
   rw [hempn]
   go_wp2_with fail
   go_meet
   exact ⟨HL.out.symm ▸ HA3.out,ChgM.below _ HB03.out,HV3.out,HS3.out⟩
  ·have hemp:=Z2q hlb
   have hempn:(!lb.toList.isEmpty)=true:=by simp [hemp]
   have HL:=Z0a hlb
   clear hlb
   obtain ⟨w4,hrun,hM4,hg4⟩:=Z29 (w:=w3.drew) ⟨HA3.out.st.kept rfl rfl,HA3.out.bytes.kept rfl,HA3.out.laid.kept rfl,HA3.out.starts.kept rfl⟩ HP.out.ok.n lb HP.out.stm.lb (a.pl:Int)
   have a3:=HA3.out.st.c3
   have a4:=HA3.out.st.c4
   have hs4:w4.heap[w.heap.size]?=w3.heap[w.heap.size]?:=hg4.block _ HS3.out.lt (fun e=>by have h1:=Option.some.inj e;have h2:=HP.out.at_.nlt;omega)
   have hab4:w4.heap[m.ab]?=w3.heap[m.ab]?:=hg4.block _ HA3.out.st.lt (fun e=>HA3.out.st.ne (Option.some.inj e).symm)
   have b3:=(World.cell?_of_block (a:=⟨m.ab,3,none⟩) hab4).trans a3
   have b4:=(World.cell?_of_block (a:=⟨m.ab,4,none⟩) hab4).trans a4
   have s4:=(World.cell?_of_block (a:=⟨w.heap.size,2,none⟩) hs4).trans r2
   have H4:Hid (Z5q w w4 m (labA a lb) base x.vals (.slice va vn vc) l0 (a.pl:Int) lb 5 x.name (x.ins.code:Int) (.slice ka kn kc) (x.ins.size:Int)):=⟨AsmAt.lab (w:=w3.drew) ⟨HA3.out.st.kept rfl rfl,HA3.out.bytes.kept rfl,HA3.out.laid.kept rfl,HA3.out.starts.kept rfl⟩ HP.out.mok HL.out hM4 hg4,(ChgM.below m HB03.out).trans ⟨hg4.os,hg4.tape,hg4.output,hg4.size,fun k h1 _ _ _ _ h2=>hg4.block k h1 (fun e=>h2 (Option.some.inj e))⟩,HV3.out.keptM (fun j h1 h2=>hg4.block j h2 (fun e=>by have h3:=Option.some.inj e;have h4:=HP.out.lo.2.2.2.2;omega)),HS3.out.grown hs4 hg4.size⟩
   clear hM4 hg4 hs4 hab4 HA3 HS3 HV3 HP HB03 HB HB3 HSS HN40 hcu hcg htoo r0 r1 r3 r4 r5 r6 r7 r8
   rw [hempn]
   go_wp2_with fail
   go_region_held3 (fun w'=>w'.cell? ⟨m.ab,3,none⟩=some (.map (some m.nb))∧w'.cell? ⟨m.ab,4,none⟩=some (.int .i64 (a.pl:Int))∧w'.cell? ⟨w.heap.size,2,none⟩=some (.string lb)) (first | exact ⟨b3,b4,s4⟩ | exact ⟨a3,a4,r2⟩) (fail)
   all_goals
    go_wp2_with fail
    go_meet
    exact H4.out
 case rest =>
 have HM:=Z0a hcut
 have hle0:(0:Int)≤(a.pl:Int):=by omega
 have HOKL:=Z0a (Z61 (lb:=lb) HP.out.ok (by have:=HN40.out;omega))
 clear hcut HA3 HS3 HB03 HB HB3 HSS r0 r1 r2 r3 r4 r5 r6 r7 r8
 obtain ⟨s0,s1,s2,s3,s4,s5,s6,s7,s8,sf,sl⟩:=HM.out.ss
 obtain ⟨e0,he0⟩:∃ e0,x.vals=[e0]:=List.length_eq_one_iff.1 (HP.out.stm.once (by unfold Z1K;rw [htk];rfl))
 have hV1:VAt wc base (.slice va vn vc) [e0]:=he0 ▸ HM.out.vals
 obtain ⟨hvn,g,xa,xn,xc,hva,hgb,hcg0,hrow⟩:=hV1.one
 subst hvn hva
 have hmem:e0∈x.vals:=by rw [he0];exact List.mem_singleton.2 rfl
 have hle:e0.length≤1000000:=by
  have:=HP.out.stm.cnt
  rw [he0] at this
  simpa [cntT] using this
 have HNB:Hid (∀ (w':World) (hb:Below wc.heap.size wc w') (hi:Int),Calls Tryz.prog 239 #[.pointer (some ⟨m.ab,0,none⟩),.agg #[.int .i64 l0,.int .i64 (a.pl:Int),.string lb,.int .i64 5,.string x.name,.slice (some ⟨g,0,none⟩) 1 vc,.int .u8 (x.ins.code:Int),.slice ka kn kc,.int .i64 (x.ins.size:Int)],.slice xa xn xc,.int .i64 (-1000000),.int .i64 hi] w' fun e w2=>e=nmbE (nmbF (labA a lb).nm (a.pl:Int) e0 (-1000000) hi) l0∧Below w'.heap.size w' w2):=fun w' hb hi=>Z3V w' m.ab _ _ _ m.nb _ _ _ base e0 l0 (a.pl:Int) lb _ x.name _ _ _ _ _ _ _ _ xa xn xc _ hi (HM.out.at_.st.below hb) (Z0r hrow hb) hle (fun t ht=>(HP.out.stm.vals e0 hmem t ht).1) (fun t ht=>trm_ok HOKL.out.nm htoo (fun e he t ht=>(HP.out.stm.vals e he t ht).2) hmem ht HP.out.ok.pl)
 have hgl:g<wc.heap.size:=World.block_lt_of_cell? _ _ hcg0
 have habl:m.ab<wc.heap.size:=HM.out.at_.st.lt
 have HS:Hid (∀ w':World,w'.heap[w.heap.size]?=wc.heap[w.heap.size]?→w'.heap[g]?=wc.heap[g]?→w'.cell? ⟨w.heap.size,0,none⟩=some (.int .i64 l0)∧w'.cell? ⟨w.heap.size,1,none⟩=some (.int .i64 (a.pl:Int))∧w'.cell? ⟨w.heap.size,2,none⟩=some (.string lb)∧w'.cell? ⟨w.heap.size,3,none⟩=some (.int .i64 5)∧w'.cell? ⟨w.heap.size,4,none⟩=some (.string x.name)∧w'.cell? ⟨w.heap.size,5,none⟩=some (.slice (some ⟨g,0,none⟩) 1 vc)∧w'.cell? ⟨w.heap.size,6,none⟩=some (.int .u8 (x.ins.code:Int))∧w'.cell? ⟨w.heap.size,7,none⟩=some (.slice ka kn kc)∧w'.cell? ⟨w.heap.size,8,none⟩=some (.int .i64 (x.ins.size:Int))∧w'.cell? ⟨g,0,none⟩=some (.slice xa xn xc)):=fun w' k1 k2=>by
  have hc:∀ j,w'.cell? ⟨w.heap.size,j,none⟩=wc.cell? ⟨w.heap.size,j,none⟩:=fun j=>World.cell?_of_block (a:=⟨w.heap.size,j,none⟩) k1
  exact ⟨(hc 0).trans s0,(hc 1).trans s1,(hc 2).trans s2,(hc 3).trans s3,(hc 4).trans s4,(hc 5).trans s5,(hc 6).trans s6,(hc 7).trans s7,(hc 8).trans s8,(World.cell?_of_block (a:=⟨g,0,none⟩) k2).trans hcg0⟩
 have hgm:g≠m.ab∧g≠m.nb:=by have:=HP.out.lo;omega
 have hwm:w.heap.size≠m.ab∧w.heap.size≠m.nb:=by have h1:=HP.out.at_.st.lt;have h2:=HP.out.at_.nlt;omega
 have HE0:=Z0a he0
 have hent:∀ args w,(callFunc 239 args).run Tryz.prog w=.ok (.enter 239 args) w:=enters_of Tryz.func239 (by kernel_rfl) rfl
 have g4:=HM.out.at_.st.c4
 have gf4:=HM.out.at_.st.fz 4
 have g3:=HM.out.at_.st.c3
 have hgne:=HM.out.at_.st.ne
 rw [Z8z] at g4
 clear hV1 hrow hmem hle he0
 have hsf:Z0o a lb x=equR (labA a lb) x.name (nmbF (labA a lb).nm (a.pl:Int) e0 (-1000000) 1000000):=by
  unfold Z0o
  rw [if_neg (by simp [hcu]),hcg]
  simp only
  rw [if_neg (by simp [htoo]),if_neg (by omega),if_neg (by omega),if_pos htk,HE0.out]
  rfl
 obtain ⟨O,hO⟩:∃ O,nmbF (labA a lb).nm (a.pl:Int) e0 (-1000000) 1000000=O:=⟨_,rfl⟩
 rw [hO] at hsf
 have HSF:Hid (R=equR (labA a lb) x.name O):=HR.out.symm.trans hsf
 have HN1:=Z0a (HNB.out wc.drew (Below.refl _ _).drew 1000000)
 rw [hO] at HN1
 have HO:=Z0a hO
 have hpl4:(a.pl:Int)≤1024:=by have:=HP.out.ok.pl;omega
 clear hO hsf HNB hcu hcg htoo hti htk HN40
 cases O with
 | none =>
  have e6:R=.error 6:=HSF.out
  subst e6
  have hBd0:Below wc.heap.size wc wc.drew:=(Below.refl _ _).drew
  obtain ⟨wF,hrunF,_,_⟩:=Z29 (w:=wc.drew) (HM.out.at_.below hBd0) HOKL.out.n x.name HP.out.stm.name 0
  go_wp2_with fail
  go_region_law (first | (refine Z1r (.int .i64 0) 239 #[.pointer (some ⟨m.ab,0,none⟩),.agg #[.int .i64 l0,.int .i64 (a.pl:Int),.string lb,.int .i64 5,.string x.name,.slice (some ⟨g,0,none⟩) 1 vc,.int .u8 (x.ins.code:Int),.slice ka kn kc,.int .i64 (x.ins.size:Int)],.slice xa xn xc,.int .i64 (-1000000),.int .i64 1000000] rfl (by simp [go_sem,hent]) _ HN1.out (fun e w' hh=>⟨fltC 6 l0,hh.1,rfl,(HM.out.chg.trans (ChgM.below m (Below.trans (Below.refl _ _).drew hh.2))),rfl⟩) ?_;intro HF) | (refine Z2X HF ?_))
  all_goals exact HF.out.elim
 | some z =>
  have e6:R=.ok ((labA a lb).put x.name z):=HSF.out
  subst e6
  have hz:=Z1q HO.out
  have HN2:Hid (Calls Tryz.prog 239 #[.pointer (some ⟨m.ab,0,none⟩),.agg #[.int .i64 l0,.int .i64 (a.pl:Int),.string lb,.int .i64 5,.string x.name,.slice (some ⟨g,0,none⟩) 1 vc,.int .u8 (x.ins.code:Int),.slice ka kn kc,.int .i64 (x.ins.size:Int)],.slice xa xn xc,.int .i64 (-1000000),.int .i64 1000000] wc.drew fun e w2=>e=.returned (.int .i64 z)∧Below wc.heap.size wc w2):=HN1.out.mono fun e w2 ⟨h1,h2⟩=>⟨h1,⟨h2.os,h2.tape,h2.output,h2.size,h2.block⟩⟩
  clear HN1
  have hBd:Below wc.heap.size wc wc.drew:=(Below.refl _ _).drew
  have HST:Hid (∀ w5,Below wc.heap.size wc w5→∃ w6,(Instr.mapUpdate 242 (.map (some m.nb)) (.string x.name) (.int .i64 z)).run Tryz.prog w5=.ok () w6∧AsmAt w6 m ((labA a lb).put x.name z)∧w5.grownBy w6 (some m.nb)):=fun w5 hb=>by
   obtain ⟨w6,h1,h2,h3⟩:=Z29 (HM.out.at_.below hb) HOKL.out.n x.name HP.out.stm.name z
   exact ⟨w6,h1,(HM.out.at_.below hb).put HP.out.mok (put_names h2 rfl) h3,h3⟩
  go_wp2_with fail
  go_region_held3 (fun w'=>w'.cell? ⟨m.ab,3,none⟩=some (.map (some m.nb))∧w'.cell? ⟨w.heap.size,0,none⟩=some (.int .i64 l0)∧w'.cell? ⟨w.heap.size,1,none⟩=some (.int .i64 (a.pl:Int))∧w'.cell? ⟨w.heap.size,2,none⟩=some (.string lb)∧w'.cell? ⟨w.heap.size,3,none⟩=some (.int .i64 5)∧w'.cell? ⟨w.heap.size,4,none⟩=some (.string x.name)∧w'.cell? ⟨w.heap.size,5,none⟩=some (.slice (some ⟨g,0,none⟩) 1 vc)∧w'.cell? ⟨w.heap.size,6,none⟩=some (.int .u8 (x.ins.code:Int))∧w'.cell? ⟨w.heap.size,7,none⟩=some (.slice ka kn kc)∧w'.cell? ⟨w.heap.size,8,none⟩=some (.int .i64 (x.ins.size:Int))∧w'.cell? ⟨g,0,none⟩=some (.slice xa xn xc)) (first | exact ⟨g3,HS.out _ (hBd.block _ sl) (hBd.block _ hgl)⟩ | exact ⟨v3,HS.out _ (hB5.block _ sl) (hB5.block _ hgl)⟩ | exact ⟨v6,HS.out _ k1 k2⟩) (first | (go_at_call 239;refine HN2.out.mono ?_;rintro e w5 ⟨rfl,hB5⟩;have v3:=(World.cell?_of_block (a:=⟨m.ab,3,none⟩) (hB5.block _ habl)).trans g3;obtain ⟨w6,hrun,hA6,hg6⟩:=HST.out w5 hB5;have v6:=(World.cell?_of_block (a:=⟨m.ab,3,none⟩) (hg6.block _ (Nat.lt_of_lt_of_le habl hB5.size) (fun e=>hgne (Option.some.inj e).symm))).trans v3;have k1:=(hg6.block w.heap.size (Nat.lt_of_lt_of_le sl hB5.size) (fun e=>hwm.2 (Option.some.inj e))).trans (hB5.block _ sl);have k2:=(hg6.block g (Nat.lt_of_lt_of_le hgl hB5.size) (fun e=>hgm.2 (Option.some.inj e))).trans (hB5.block _ hgl);have HA6:=Z0a hA6;clear hA6))
  all_goals
   go_wp2_with fail
   go_end0
   exact ⟨(HM.out.chg.trans (ChgM.below m hB5)).trans ⟨hg6.os,hg6.tape,hg6.output,hg6.size,fun k h1 _ _ _ _ h2=>hg6.block k h1 (fun e=>h2 (Option.some.inj e))⟩,rfl,HA6.out⟩
theorem settle_lay (w:World)(m:AMem)(a:Asm)(base:Nat)(lb:ByteArray)(x:Stm)(va:Option Addr)(vn vc:Nat)(ka:Option Addr)(kn kc:Nat)(l0:Int)(hp:Z4S w m a base lb x (.slice va vn vc))(hcu:cuF a.nm lb x.task x.name x.vals=true)(hcg:cgF a.nm a.n (Z0Q lb x.task x.name)=none)(htoo:tooS x.vals=false)(h1:x.task≠1)(h4:x.task≠4)(h5:x.task≠5) :
  Calls Tryz.prog 186 #[.pointer (some ⟨m.ab,0,none⟩),.agg #[.int .i64 l0,.int .i64 (a.pl:Int),.string lb,.int .i64 (x.task:Int),.string x.name,.slice va vn vc,.int .u8 (x.ins.code:Int),.slice ka kn kc,.int .i64 (x.ins.size:Int)]] w (Z4y w m l0 (Z0o a lb x)):=by
 have hk1:¬ (x.task:Int)=1:=by omega
 have hk4:¬ (x.task:Int)=4:=by omega
 have hk5:¬ (x.task:Int)=5:=by omega
 have hb1:((x.task:Int) == 1)=false:=by simp [hk1]
 have hb4:((x.task:Int) == 4)=false:=by simp [hk4]
 have hb5:((x.task:Int) == 5)=false:=by simp [hk5]
 have hst:=hp.stm
 have HU0:=fun w' (hb:Below w.heap.size w w')=>Z04 w' m.ab _ _ _ m.nb a.n a.nm (a.pl:Int) base x.vals l0 (a.pl:Int) lb x.task x.name va vn vc (x.ins.code:Int) ka kn kc (x.ins.size:Int) (hp.at_.st.below hb) (hp.vals.below hb) hst.len hst.cnt hst.used
 have HG0:=fun w' (hb:Below w.heap.size w w')=>Z0W w' m.ab _ _ _ m.nb a.n a.nm (a.pl:Int) l0 (a.pl:Int) lb x.task x.name va vn vc (x.ins.code:Int) ka kn kc (x.ins.size:Int) (hp.at_.st.below hb) hp.ok.n hst.given
 have HT0:=fun w' (hb:Below w.heap.size w w')=>Z1e w' base x.vals l0 (a.pl:Int) lb (x.task:Int) x.name va vn vc (x.ins.code:Int) ka kn kc (x.ins.size:Int) (hp.vals.below hb) hst.len hst.cnt
 have HU1:=fun w' (hb:Below w.heap.size w w')=>(HU0 w' hb).mono (R':=fun e w2=>e=.returned (.tuple #[])∧Below w'.heap.size w' w2) (fun e w2 ⟨h1,h2⟩=>⟨h1.trans (by rw [hcu];rfl),h2⟩)
 have HG1:=fun w' (hb:Below w.heap.size w w')=>(HG0 w' hb).mono (R':=fun e w2=>e=.returned (.tuple #[])∧Below w'.heap.size w' w2) (fun e w2 ⟨h1,h2⟩=>⟨h1.trans (by rw [hcg];rfl),h2⟩)
 have HT1:=fun w' (hb:Below w.heap.size w w')=>(HT0 w' hb).mono (R':=fun e w2=>e=.returned (.bool false)∧Below w'.heap.size w' w2) (fun e w2 ⟨h1,h2⟩=>⟨h1.trans (by rw [htoo]),h2⟩)
 obtain ⟨W,hW,hBW,hWz,hSS⟩:=Z1B w l0 (a.pl:Int) lb (x.task:Int) x.name (.slice va vn vc) (x.ins.code:Int) (.slice ka kn kc) (x.ins.size:Int)
 have HSS:Hid (∀ w',Below W.heap.size W w'→SS w' w.heap.size l0 (a.pl:Int) lb (x.task:Int) x.name (.slice va vn vc) (x.ins.code:Int) (.slice ka kn kc) (x.ins.size:Int)):=fun w' hb=>hSS.grown (hb.block _ hSS.lt) hb.size
 have HU:=Z0a HU1
 have HG:=Z0a HG1
 have HT:=Z0a HT1
 have HB:=Z0a hBW
 have HP:=Z0a hp
 have t0:=hSS.c0
 have t1:=hSS.c1
 have t2:=hSS.c2
 have t3:=hSS.c3
 have t4:=hSS.c4
 have t5:=hSS.c5
 have t6:=hSS.c6
 have t7:=hSS.c7
 have t8:=hSS.c8
 clear HU0 HG0 HT0 hBW hSS hp hst HU1 HG1 HT1
 obtain ⟨R,hR⟩:∃ R,Z0o a lb x=R:=⟨_,rfl⟩
 rw [hR]
 have HR:=Z0a hR
 clear hR
 go_enter Tryz.func186,Tryz.ntmps186
 go_upto_if 19 with (first | (go_at_call 236;refine (HU.out W HB.out).mono ?_;rintro e w1 ⟨rfl,hb1⟩;have hB1:Below W.heap.size W w1:=hb1;have p0:=(HSS.out _ hB1).c0;have p1:=(HSS.out _ hB1).c1;have p2:=(HSS.out _ hB1).c2;have p3:=(HSS.out _ hB1).c3;have p4:=(HSS.out _ hB1).c4;have p5:=(HSS.out _ hB1).c5;have p6:=(HSS.out _ hB1).c6;have p7:=(HSS.out _ hB1).c7;have p8:=(HSS.out _ hB1).c8;have HB1:=Z0a hB1;clear hb1 hB1) | (go_at_call 237;refine (HG.out w1 (HB.out.trans (HB1.out.mono HB.out.size))).mono ?_;rintro e w2 ⟨rfl,hb2⟩;have hB2:Below W.heap.size W w2:=HB1.out.trans (hb2.mono HB1.out.size);have q0:=(HSS.out _ hB2).c0;have q1:=(HSS.out _ hB2).c1;have q2:=(HSS.out _ hB2).c2;have q3:=(HSS.out _ hB2).c3;have q4:=(HSS.out _ hB2).c4;have q5:=(HSS.out _ hB2).c5;have q6:=(HSS.out _ hB2).c6;have q7:=(HSS.out _ hB2).c7;have q8:=(HSS.out _ hB2).c8;have HB2:=Z0a hB2;clear hb2 hB2) | (go_at_call 238;refine (HT.out w2 (HB.out.trans (HB2.out.mono HB.out.size))).mono ?_;rintro e w3 ⟨rfl,hb3⟩;have hB3:Below W.heap.size W w3:=HB2.out.trans (hb3.mono HB2.out.size);have r0:=(HSS.out _ hB3).c0;have r1:=(HSS.out _ hB3).c1;have r2:=(HSS.out _ hB3).c2;have r3:=(HSS.out _ hB3).c3;have r4:=(HSS.out _ hB3).c4;have r5:=(HSS.out _ hB3).c5;have r6:=(HSS.out _ hB3).c6;have r7:=(HSS.out _ hB3).c7;have r8:=(HSS.out _ hB3).c8;have HB3:=Z0a hB3;clear hb3 hB3))
 have HB03:=Z0a (HB.out.trans (HB3.out.mono HB.out.size))
 have HA3:Hid (AsmAt w3 m a):=HP.out.at_.below HB03.out
 have HS3:=Z0a (HSS.out w3 HB3.out)
 have HN40:=Z0a (cgF_n hcg)
 clear HU HG HT HB1 HB2 p0 p1 p2 p3 p4 p5 p6 p7 p8 q0 q1 q2 q3 q4 q5 q6 q7 q8 t0 t1 t2 t3 t4 t5 t6 t7 t8
 go_cut [] (fun wx=>Z5q w wx m (labA a lb) base x.vals (.slice va vn vc) l0 (a.pl:Int) lb (x.task:Int) x.name (x.ins.code:Int) (.slice ka kn kc) (x.ins.size:Int))
 case first =>
  have HV3:Hid (VAt w3 base (.slice va vn vc) x.vals):=HP.out.vals.below HB03.out
  by_cases hlb:lb=⟨#[]⟩
  ·have hemp:lb.toList.isEmpty=true:=by rw [hlb,ByteArray.toList_eq];rfl
   have hempn:(!lb.toList.isEmpty)=false:=by simp [hemp]
   have HL:Hid (labA a lb=a):=by unfold labA;exact if_pos hlb
   clear hlb
   rw [hempn]
   go_wp2_with fail
   go_meet
   exact ⟨HL.out.symm ▸ HA3.out,ChgM.below _ HB03.out,HV3.out,HS3.out⟩
  ·have hemp:=Z2q hlb
   have hempn:(!lb.toList.isEmpty)=true:=by simp [hemp]
   have HL:=Z0a hlb
   clear hlb
   obtain ⟨w4,hrun,hM4,hg4⟩:=Z29 (w:=w3.drew) ⟨HA3.out.st.kept rfl rfl,HA3.out.bytes.kept rfl,HA3.out.laid.kept rfl,HA3.out.starts.kept rfl⟩ HP.out.ok.n lb HP.out.stm.lb (a.pl:Int)
   have a3:=HA3.out.st.c3
   have a4:=HA3.out.st.c4
   have hs4:w4.heap[w.heap.size]?=w3.heap[w.heap.size]?:=hg4.block _ HS3.out.lt (fun e=>by have h1:=Option.some.inj e;have h2:=HP.out.at_.nlt;omega)
   have hab4:w4.heap[m.ab]?=w3.heap[m.ab]?:=hg4.block _ HA3.out.st.lt (fun e=>HA3.out.st.ne (Option.some.inj e).symm)
   have b3:=(World.cell?_of_block (a:=⟨m.ab,3,none⟩) hab4).trans a3
   have b4:=(World.cell?_of_block (a:=⟨m.ab,4,none⟩) hab4).trans a4
   have s4:=(World.cell?_of_block (a:=⟨w.heap.size,2,none⟩) hs4).trans r2
   have H4:Hid (Z5q w w4 m (labA a lb) base x.vals (.slice va vn vc) l0 (a.pl:Int) lb (x.task:Int) x.name (x.ins.code:Int) (.slice ka kn kc) (x.ins.size:Int)):=⟨AsmAt.lab (w:=w3.drew) ⟨HA3.out.st.kept rfl rfl,HA3.out.bytes.kept rfl,HA3.out.laid.kept rfl,HA3.out.starts.kept rfl⟩ HP.out.mok HL.out hM4 hg4,(ChgM.below m HB03.out).trans ⟨hg4.os,hg4.tape,hg4.output,hg4.size,fun k h1 _ _ _ _ h2=>hg4.block k h1 (fun e=>h2 (Option.some.inj e))⟩,HV3.out.keptM (fun j h1 h2=>hg4.block j h2 (fun e=>by have h3:=Option.some.inj e;have h4:=HP.out.lo.2.2.2.2;omega)),HS3.out.grown hs4 hg4.size⟩
   clear hM4 hg4 hs4 hab4 HA3 HS3 HV3 HP HB03 HB HB3 HSS HN40 hcu hcg htoo r0 r1 r3 r4 r5 r6 r7 r8
   rw [hempn]
   go_wp2_with fail
   go_region_held3 (fun w'=>w'.cell? ⟨m.ab,3,none⟩=some (.map (some m.nb))∧w'.cell? ⟨m.ab,4,none⟩=some (.int .i64 (a.pl:Int))∧w'.cell? ⟨w.heap.size,2,none⟩=some (.string lb)) (first | exact ⟨b3,b4,s4⟩ | exact ⟨a3,a4,r2⟩) (fail)
   all_goals
    go_wp2_with fail
    go_meet
    exact H4.out
 case rest =>
 have HM:=Z0a hcut
 have hle0:(0:Int)≤(a.pl:Int):=by omega
 have HOKL:=Z0a (Z61 (lb:=lb) HP.out.ok (by have:=HN40.out;omega))
 clear hcut HA3 HS3 HB03 HB HB3 HSS r0 r1 r2 r3 r4 r5 r6 r7 r8
 obtain ⟨s0,s1,s2,s3,s4,s5,s6,s7,s8,sf,sl⟩:=HM.out.ss
 obtain ⟨vs,hvr,_⟩:=HM.out.vals
 have hvn:vn=x.vals.length:=Z06 hvr rfl
 have hsf:Z0o a lb x=match Z4o a.pl (Z1S x.task vn x.ins.size) a.laid with
   | some k=>.error k
   | none=>.ok { labA a lb with pl:=a.pl+Z1S x.task vn x.ins.size,laid:=setR a.laid a.pl (Z1S x.task vn x.ins.size),starts:=if x.task=6 then a.starts.set a.pl true else a.starts }:=by
  unfold Z0o
  rw [if_neg (by simp [hcu]),hcg]
  simp only
  rw [if_neg (by simp [htoo]),if_neg h1,if_neg h4,if_neg h5,hvn]
  rfl
 have HSF:=Z0a (HR.out.symm.trans hsf)
 have hl1:=(labA_laid a lb).1
 have hl2:=(labA_laid a lb).2.1
 have hL:=HM.out.at_.laid
 have hS:=HM.out.at_.starts
 have hA:=HM.out.at_.st
 rw [hl1] at hL
 rw [hl2] at hS
 rw [Z8z] at hA
 have HLY:=Z0a (lay_st wc m.ab m.lk m.sk m.c1 m.c2 (iV m.ik m.c0) m.nb (labA a lb).n (labA a lb).nm a.pl a.laid a.starts l0 (a.pl:Int) lb x.task x.name va vn vc (x.ins.code:Int) ka kn kc x.ins.size hA hL hS HP.out.mok.d HP.out.mok.h1 (by rw [hvn];exact HP.out.stm.len) HP.out.ok.pl HP.out.stm.size HP.out.stm.one6)
 clear hsf hl1 hl2 hL hS hA hvr hvn hcu hcg htoo HN40
 unfold LayEnd at HLY
 obtain ⟨Z,hZ⟩:∃ Z,Z1S x.task vn x.ins.size=Z:=⟨_,rfl⟩
 obtain ⟨S6,hS6⟩:∃ S6,(if x.task=6 then a.starts.set a.pl true else a.starts)=S6:=⟨_,rfl⟩
 rw [hZ,hS6] at HLY HSF
 cases hF:Z4o a.pl Z a.laid with
 | some k =>
  rw [hF] at HLY HSF
  have HL2:Hid (Calls Tryz.prog 240 #[.pointer (some ⟨m.ab,0,none⟩),.agg #[.int .i64 l0,.int .i64 (a.pl:Int),.string lb,.int .i64 (x.task:Int),.string x.name,.slice va vn vc,.int .u8 (x.ins.code:Int),.slice ka kn kc,.int .i64 (x.ins.size:Int)]] wc fun e w'=>e=.panicked (fltC k l0)∧Chg3 wc w' m.ab m.lk m.sk):=HLY.out.mono fun e w' hh=>⟨hh.1,hh.2.1⟩
  have e6:R=.error k:=HSF.out
  subst e6
  clear HLY HSF hF hZ hS6
  go_wp2_with (first | (go_at_call 240;refine HL2.out.mono ?_;rintro e w5 ⟨rfl,h5⟩))
  exact ⟨rfl,HM.out.chg.trans (ChgM.of3 h5),rfl⟩
 | none =>
  rw [hF] at HLY HSF
  have HL2:Hid (Calls Tryz.prog 240 #[.pointer (some ⟨m.ab,0,none⟩),.agg #[.int .i64 l0,.int .i64 (a.pl:Int),.string lb,.int .i64 (x.task:Int),.string x.name,.slice va vn vc,.int .u8 (x.ins.code:Int),.slice ka kn kc,.int .i64 (x.ins.size:Int)]] wc fun e w'=>e=.returned (.tuple #[])∧Chg3 wc w' m.ab m.lk m.sk∧AS w' m.ab (iV m.ik m.c0) (iV m.lk m.c1) (iV m.sk m.c2) m.nb (labA a lb).n (labA a lb).nm ((a.pl+Z:Nat):Int)∧BRow w' m.lk (setR a.laid a.pl Z)∧BRow w' m.sk S6):=HLY.out.mono fun e w' hh=>⟨hh.1,hh.2.1,hh.2.2 rfl⟩
  have e6:R=.ok { labA a lb with pl:=a.pl+Z,laid:=setR a.laid a.pl Z,starts:=S6 }:=HSF.out
  subst e6
  clear HLY HSF hF hZ hS6
  go_wp2_with (first | (go_at_call 240;refine HL2.out.mono ?_;rintro e w5 ⟨rfl,h5,hA5,hL5,hS5⟩))
  go_end0
  exact ⟨HM.out.chg.trans (ChgM.of3 h5),rfl,hA5,HM.out.at_.bytes.kept (h5.block _ HM.out.at_.bytes.lt HP.out.mok.e.1 HP.out.mok.e.2.1 HP.out.mok.e.2.2.1),hL5,hS5⟩
end Go.Proofs.YthokdbcpkmcieabGreatDoor
