/- AsmN AsmS CodD AsmP AsmT -/
import Derived.Test.YthokdbcpkmcieabGreatDoorE24
import Derived.Test.YthokdbcpkmcieabGreatDoorE12
set_option maxRecDepth 200000
set_option maxHeartbeats 8000000
namespace Go.Proofs.YthokdbcpkmcieabGreatDoor
open Go Go.RowKit Go.Shelf Go.WideMaps Go.Maps
abbrev nilS:Value:=.slice none 0 0
def AsmEnd (w:World) (o:Except (Int × Nat) Asm) (e:Ending) (w':World):Prop :=
 Below w.heap.size w w'∧match o with
  | .error q=>e=.returned (.tuple #[.agg #[nilS,nilS,nilS],.int .i64 q.1,.int .i64 (q.2:Int)])
  | .ok a=>∃ ik lk sk,e=.returned (.tuple #[.agg #[iV ik 1024,iV lk 1024,iV sk 1024],.int .i64 0,.int .i64 0])∧YRow w' ik a.bytes∧BRow w' lk a.laid∧BRow w' sk a.starts∧w.heap.size≤ik∧w.heap.size≤lk∧w.heap.size≤sk
theorem Z78 {w:World}{tmps:Array Value}{c2 c3 c4:Nat}{i0 i1 i2:Value}{k l:Int}(h2:tmps.getD 2 undef=.pointer (some ⟨c2,0,none⟩))(h3:tmps.getD 3 undef=.pointer (some ⟨c3,0,none⟩))(h4:tmps.getD 4 undef=.pointer (some ⟨c4,0,none⟩))(h:Res w c2 c3 c4 i0 i1 i2 k l) :
  (results Tryz.f102 tmps).run Tryz.prog w=.ok (.tuple #[.agg #[i0,i1,i2],.int .i64 k,.int .i64 l]) w:=by
 rw [Array.getD_eq_getD_getElem?] at h2 h3 h4
 simp [results,Tryz.results102,go_sem,h2,h3,h4,asAddr,h.a0,h.a1,h.a2,h.b,h.c]
theorem res_new (w:World):∃ W,((w.alloc (.cells #[nilS,nilS,nilS] 35)).alloc (.cells #[.int .i64 0] 44)).alloc (.cells #[.int .i64 0] 3)=W∧Below w.heap.size w W∧W.heap.size=w.heap.size+3∧Res W w.heap.size (w.heap.size+1) (w.heap.size+1+1) nilS nilS nilS 0 0:=by
 have b1:Below w.heap.size w (w.alloc (.cells #[nilS,nilS,nilS] 35)):=(Below.refl _ _).alloc (Nat.le_refl _) _
 have g2:=Z4N ((w.alloc (.cells #[nilS,nilS,nilS] 35)).alloc (.cells #[.int .i64 0] 44)) (.cells #[.int .i64 0] 3) (w.heap.size+1+1) (by simp)
 have g1:(((w.alloc (.cells #[nilS,nilS,nilS] 35)).alloc (.cells #[.int .i64 0] 44)).alloc (.cells #[.int .i64 0] 3)).heap[w.heap.size+1]?=some (.cells #[.int .i64 0] 44):=by
  rw [Below.heap_alloc _ _ _ (by simp)]
  exact Z4N _ _ _ (by simp)
 have g0:(((w.alloc (.cells #[nilS,nilS,nilS] 35)).alloc (.cells #[.int .i64 0] 44)).alloc (.cells #[.int .i64 0] 3)).heap[w.heap.size]?=some (.cells #[nilS,nilS,nilS] 35):=by
  rw [Below.heap_alloc _ _ _ (by simp <;> omega),Below.heap_alloc _ _ _ (by simp)]
  exact Z4N _ _ _ rfl
 refine ⟨_,rfl,(b1.alloc (by simp) _).alloc (by simp <;> omega) _,by simp,⟨?_,?_,?_,?_,?_,fun j=>frozen_of_row _ _ _ _ _ g0,frozen_of_row _ _ _ _ _ g1,frozen_of_row _ _ _ _ _ g2,by simp <;> omega⟩⟩
 ·rw [cell_of_row _ _ _ _ _ (0,0) g0]
  rfl
 ·rw [cell_of_row _ _ _ _ _ (0,0) g0]
  rfl
 ·rw [cell_of_row _ _ _ _ _ (0,0) g0]
  rfl
 ·rw [cell_of_row _ _ _ _ _ (0,0) g1]
  rfl
 ·rw [cell_of_row _ _ _ _ _ (0,0) g2]
  rfl
theorem Res.kept {w w':World}{c2 c3 c4:Nat}{i0 i1 i2:Value}{k l:Int}(h:Res w c2 c3 c4 i0 i1 i2 k l)(hz:w.heap.size≤w'.heap.size)(h2:w'.heap[c2]?=w.heap[c2]?)(h3:w'.heap[c3]?=w.heap[c3]?)(h4:w'.heap[c4]?=w.heap[c4]?):Res w' c2 c3 c4 i0 i1 i2 k l:=by
 have hc:∀ c,w'.heap[c]?=w.heap[c]?→∀ j,w'.cell? ⟨c,j,none⟩=w.cell? ⟨c,j,none⟩:=fun c e j=>World.cell?_of_block (a:=⟨c,j,none⟩) e
 have hf:∀ c,w'.heap[c]?=w.heap[c]?→∀ j,w'.frozen? ⟨c,j,none⟩=w.frozen? ⟨c,j,none⟩:=fun c e j=>World.frozen?_of_block (a:=⟨c,j,none⟩) e
 have:=h.lt
 exact ⟨(hc _ h2 0).trans h.a0,(hc _ h2 1).trans h.a1,(hc _ h2 2).trans h.a2,(hc _ h3 0).trans h.b,(hc _ h4 0).trans h.c,fun j=>(hf _ h2 j).trans (h.fa j),(hf _ h3 0).trans h.fb,(hf _ h4 0).trans h.fc,by omega⟩
theorem Res.put {w:World}{c2 c3 c4:Nat}{i0 i1 i2:Value}{x y:Int}(h:Res w c2 c3 c4 i0 i1 i2 x y)(hd:c2≠c3∧c2≠c4∧c3≠c4)(j0 j1 j2:Value)(k l:Int):Res (((((w.setCell ⟨c2,0,none⟩ j0).setCell ⟨c2,1,none⟩ j1).setCell ⟨c2,2,none⟩ j2).setCell ⟨c3,0,none⟩ (.int .i64 k)).setCell ⟨c4,0,none⟩ (.int .i64 l)) c2 c3 c4 j0 j1 j2 k l:=by
 obtain ⟨n1,n2,n3⟩:=hd
 have n1':¬ c3=c2:=fun e=>n1 e.symm
 have n2':¬ c4=c2:=fun e=>n2 e.symm
 have n3':¬ c4=c3:=fun e=>n3 e.symm
 have hl:=h.lt
 have a0:=h.a0
 have a1:=h.a1
 have a2:=h.a2
 have b0:=h.b
 have d0:=h.c
 refine ⟨?_,?_,?_,?_,?_,fun j=>?_,?_,?_,?_⟩
 ·simp [go_sem,a0]
 ·simp [go_sem,a1]
 ·simp [go_sem,a2]
 ·simp [go_sem,b0]
 ·simp [go_sem,d0]
 ·have:=h.fa j
  simp [go_sem,this]
 ·have:=h.fb
  simp [go_sem,this]
 ·have:=h.fc
  simp [go_sem,this]
 ·simp [World.setCell]
  omega
theorem Z8x {w:World}{c2 c3 c4:Nat}(j0 j1 j2:Value)(k l:Int)(j:Nat)(h2:j≠c2)(h3:j≠c3)(h4:j≠c4):(((((w.setCell ⟨c2,0,none⟩ j0).setCell ⟨c2,1,none⟩ j1).setCell ⟨c2,2,none⟩ j2).setCell ⟨c3,0,none⟩ (.int .i64 k)).setCell ⟨c4,0,none⟩ (.int .i64 l)).heap[j]?=w.heap[j]?:=by
 rw [heap_setCell_other _ ⟨c4,0,none⟩ j _ h4,heap_setCell_other _ ⟨c3,0,none⟩ j _ h3,heap_setCell_other _ ⟨c2,2,none⟩ j _ h2,heap_setCell_other _ ⟨c2,1,none⟩ j _ h2,heap_setCell_other _ ⟨c2,0,none⟩ j _ h2]
theorem Z1c {w0 w:World}{B c:Nat}(h:Below B w0 w)(hc:B≤c)(j:Nat)(v:Value):Below B w0 (w.setCell ⟨c,j,none⟩ v) :=
 ⟨h.os,h.tape,h.output,by simpa [World.setCell] using h.size,fun k hk=>(heap_setCell_other w ⟨c,j,none⟩ k v (by show k≠c;omega)).trans (h.block k hk)⟩
theorem put_below {w0 w:World}{B c2 c3 c4:Nat}(h:Below B w0 w)(h2:B≤c2)(h3:B≤c3)(h4:B≤c4)(j0 j1 j2:Value)(k l:Int):Below B w0 (((((w.setCell ⟨c2,0,none⟩ j0).setCell ⟨c2,1,none⟩ j1).setCell ⟨c2,2,none⟩ j2).setCell ⟨c3,0,none⟩ (.int .i64 k)).setCell ⟨c4,0,none⟩ (.int .i64 l)) :=
 Z1c (Z1c (Z1c (Z1c (Z1c h h2 0 j0) h2 1 j1) h2 2 j2) h3 0 _) h4 0 _
theorem asm_new {w1:World}{ik lk sk:Nat}(hy:YRow w1 ik b255)(hl:BRow w1 lk bF)(hst:BRow w1 sk bF)(hne:ik≠lk∧ik≠sk∧lk≠sk):∃ WA,(w1.alloc (.map #[] 0)).alloc (.cells #[iV ik 1024,iV lk 1024,iV sk 1024,.map (some w1.heap.size),.int .i64 0] 244)=WA∧Below w1.heap.size w1 WA∧WA.heap.size=w1.heap.size+2∧AsmAt WA ⟨w1.heap.size+1,ik,lk,sk,w1.heap.size,1024,1024,1024⟩ asm0∧AMem.Ok ⟨w1.heap.size+1,ik,lk,sk,w1.heap.size,1024,1024,1024⟩∧WA.heap[w1.heap.size+1]?=some (.cells #[iV ik 1024,iV lk 1024,iV sk 1024,.map (some w1.heap.size),.int .i64 0] 244 (0,0)):=by
 have b1:Below w1.heap.size w1 ((w1.alloc (.map #[] 0)).alloc (.cells #[iV ik 1024,iV lk 1024,iV sk 1024,.map (some w1.heap.size),.int .i64 0] 244)):=((Below.refl _ _).alloc (Nat.le_refl _) _).alloc (by simp) _
 have g:=Z4N (w1.alloc (.map #[] 0)) (.cells #[iV ik 1024,iV lk 1024,iV sk 1024,.map (some w1.heap.size),.int .i64 0] 244) (w1.heap.size+1) (by simp)
 have hc:∀ j u,#[iV ik 1024,iV lk 1024,iV sk 1024,.map (some w1.heap.size),.int .i64 0][j]?=some u→((w1.alloc (.map #[] 0)).alloc (.cells #[iV ik 1024,iV lk 1024,iV sk 1024,.map (some w1.heap.size),.int .i64 0] 244)).cell? ⟨w1.heap.size+1,j,none⟩=some u:=fun j u hu=>by rw [cell_of_row _ _ _ _ _ (0,0) g];exact hu
 have h1:=hy.lt
 have h2:=hl.lt
 have h3:=hst.lt
 refine ⟨_,rfl,b1,by simp,⟨⟨hc 0 _ rfl,hc 1 _ rfl,hc 2 _ rfl,hc 3 _ rfl,hc 4 _ rfl,fun j=>frozen_of_row _ _ _ _ _ g,?_,by simp⟩,hy.kept (b1.block _ h1),hl.kept (b1.block _ h2),hst.kept (b1.block _ h3)⟩,⟨by simp only;omega,by simp only;omega,by show 1024≤1024∧1024≤maxLen;unfold maxLen;omega,by show 1024≤1024∧1024≤maxLen;unfold maxLen;omega,by show 1024≤1024∧1024≤maxLen;unfold maxLen;omega⟩,g⟩
 exact (MapAt.made w1 Tryz.prog 9).alloc _
theorem Z7X (src:ByteArray)(w:World)(hs:2000<src.size) :
  Calls Tryz.prog 102 #[.string src] w (AsmEnd w (asmF src)):=by
 have e:asmF src=.error (1,0):=if_pos hs
 rw [e]
 obtain ⟨W,hW,hBW,hWz,hr⟩:=res_new w
 have hsi:(2000:Int)<(src.size:Int):=by omega
 have a0:=hr.a0
 have a1:=hr.a1
 have a2:=hr.a2
 have b0:=hr.b
 have d0:=hr.c
 have f0:=hr.fa 0
 have f1:=hr.fa 1
 have f2:=hr.fa 2
 have fb:=hr.fb
 have fc:=hr.fc
 have HB:=Z0a (And.intro hBW hr)
 clear e hs hBW hr
 go_enter_defers Tryz.func102,Tryz.ntmps102
 go_wp2_with fail
 have hd:w.heap.size≠w.heap.size+1∧w.heap.size≠w.heap.size+1+1∧w.heap.size+1≠w.heap.size+1+1:=by omega
 exact ⟨_,Z78 (c2:=w.heap.size) (c3:=w.heap.size+1) (c4:=w.heap.size+1+1) rfl rfl rfl (HB.out.2.put hd nilS nilS nilS 1 0),put_below HB.out.1 (Nat.le_refl _) (by omega) (by omega) _ _ _ _ _,rfl⟩
theorem Z7a (src:ByteArray)(mm:Int)(w:World)(hs:src.size≤2000)(hmm:w.cell? ⟨0,0,none⟩=some (.int .i64 mm)) :
  Calls Tryz.prog 102 #[.string src] w (AsmEnd w (asmF src)):=by
 obtain ⟨R,hR⟩:∃ R,asmF src=R:=⟨_,rfl⟩
 rw [hR]
 unfold asmF at hR
 rw [if_neg (by omega)] at hR
 have HR:=Z0a hR
 obtain ⟨W,hW,hBW,hWz,hr⟩:=res_new w
 have hsi:¬ (2000:Int)<(src.size:Int):=by omega
 have hmf:∀ (fn:Fn) (first cap:Array Value) (w:World),(Instr.makeFunc fn first cap).run Tryz.prog w=.ok (.func fn first cap) w:=fun _ _ _ _=>rfl
 have hmk:=@run_makeMap Tryz.prog
 have HB:=Z0a (And.intro hBW hr)
 have HBL:Hid (Calls Tryz.prog 154 #[] W fun e w1=>∃ ik lk sk,e=.returned (.agg #[.slice (some ⟨ik,0,none⟩) 1024 1024,.slice (some ⟨lk,0,none⟩) 1024 1024,.slice (some ⟨sk,0,none⟩) 1024 1024])∧YRow w1 ik b255∧BRow w1 lk bF∧BRow w1 sk bF∧(W.heap.size<ik∧W.heap.size<lk∧W.heap.size<sk)∧(ik≠lk∧ik≠sk∧lk≠sk)∧Below W.heap.size W w1):=blank_any W
 clear hBW hr hR
 go_enter_defers Tryz.func102,Tryz.ntmps102
 go_upto_region 5 with (first | (go_at_call 154;refine HBL.out.mono ?_;rintro e w1 ⟨ik,lk,sk,rfl,hbl⟩;have HBB:=Z0a hbl;clear hbl))
 obtain ⟨hy,hl,hst,hlo,hne,hb1⟩:=HBB.out
 obtain ⟨WA,hWA,hBA,hzA,hA,hmok,hab⟩:=asm_new hy hl hst hne
 unfold iV at hWA
 rw [hWA]
 have h0w:0<w.heap.size:=by have:=World.block_lt_of_cell? _ _ hmm;exact this
 have hz1:=hb1.size
 have hly:=hy.lt
 have hll:=hl.lt
 have hls:=hst.lt
 have hBWA:Below w.heap.size w WA:=HB.out.1.trans ((hb1.trans (hBA.mono hb1.size)).mono HB.out.1.size)
 have hRA:Res WA w.heap.size (w.heap.size+1) (w.heap.size+1+1) nilS nilS nilS 0 0:=by
  have hbW:=hb1.trans (hBA.mono hb1.size)
  exact HB.out.2.kept hbW.size (hbW.block _ (by omega)) (hbW.block _ (by omega)) (hbW.block _ (by omega))
 obtain ⟨M,hM⟩:∃ M:AMem,M=⟨w1.heap.size+1,ik,lk,sk,w1.heap.size,1024,1024,1024⟩:=⟨_,rfl⟩
 rw [←hM] at hA hmok
 have hMab:M.ab=w1.heap.size+1:=by rw [hM]
 have hMlo:w.heap.size+3≤M.ab∧w.heap.size+3≤M.ik∧w.heap.size+3≤M.lk∧w.heap.size+3≤M.sk∧w.heap.size+3≤M.nb:=by rw [hM];simp only;omega
 have hMc:M.c0=1024∧M.c1=1024∧M.c2=1024:=by rw [hM];exact ⟨rfl,rfl,rfl⟩
 have hmmA:WA.cell? ⟨0,0,none⟩=some (.int .i64 mm):=(World.cell?_of_block (a:=⟨0,0,none⟩) (hBWA.block 0 h0w)).trans hmm
 have hf0:Z2l M 0:=⟨by omega,by omega,by omega,by omega,by omega⟩
 have hRE:=readAll_any WA M asm0 src mm _ hA hmok asm0_ok (by rw [hMab];exact hab) hs hmmA hf0
 rw [hMab] at hRE
 obtain ⟨ab,habe⟩:∃ ab,w1.heap.size+1=ab:=⟨_,rfl⟩
 rw [habe] at hRE hMab ⊢
 have HRE:=Z0a hRE
 have HAL:=Z0a (And.intro hBWA (And.intro hRA (And.intro hMlo (And.intro hMc (And.intro hmok hMab)))))
 have HML:=Z0a (show M.ab<WA.heap.size∧M.ik<WA.heap.size∧M.lk<WA.heap.size∧M.sk<WA.heap.size∧M.nb<WA.heap.size from ⟨hA.st.lt,hA.bytes.lt,hA.laid.lt,hA.starts.lt,hA.nlt⟩)
 have KEY:Hid (∀ w3:World,ChgM WA w3 M→Below w.heap.size w w3∧Res w3 w.heap.size (w.heap.size+1) (w.heap.size+1+1) nilS nilS nilS 0 0):=fun w3 hc=>by
  have hf:∀ k,k<w.heap.size+3→Z2l M k:=fun k hk=>⟨by omega,by omega,by omega,by omega,by omega⟩
  have hzz:=hBWA.size
  have hl3:=hRA.lt
  exact ⟨⟨hc.os.trans hBWA.os,hc.tape.trans hBWA.tape,hc.output.trans hBWA.output,Nat.le_trans hBWA.size hc.size,fun k hk=>(hc.free (by omega) (hf k (by omega))).trans (hBWA.block k hk)⟩,hRA.kept hc.size (hc.free hl3.1 (hf _ (by omega))) (hc.free hl3.2.1 (hf _ (by omega))) (hc.free hl3.2.2 (hf _ (by omega)))⟩
 have hzA3:w.heap.size+3≤WA.heap.size:=by omega
 clear hy hl hst hlo hne hb1 hWA hBA hzA hA hmok hab hz1 hly hll hls hBWA hRA hM hMab hMlo hMc hmmA hf0 hRE habe HBB HBL HB hmm hmf hmk hWz hW
 cases hRd:rdTo (Z1n src) asm0 (Z1n src).length with
 | error q =>
  rw [hRd] at HRE HR
  have eR:R=.error q:=HR.out.symm
  subst eR
  have HR2:Hid (Calls Tryz.prog 155 #[.pointer (some ⟨ab,0,none⟩),.string src] WA fun e w3=>e=.panicked (fltC q.1 (q.2:Int))∧ChgM WA w3 M):=HRE.out.mono fun e w3 hh=>⟨hh.2,hh.1⟩
  clear HRE hRd
  go_wp2_with (first | (go_at_call 155;refine HR2.out.mono ?_;rintro e w3 ⟨rfl,hc⟩))
  refine leaves_cons (f:=153) (args:=#[.pointer (some ⟨w.heap.size,0,none⟩),.pointer (some ⟨w.heap.size+1,0,none⟩),.pointer (some ⟨w.heap.size+1+1,0,none⟩)]) (by simp) (by simp [go_sem]) ?_
  refine (Z5p w.heap.size (w.heap.size+1) (w.heap.size+1+1) nilS nilS nilS 0 0 q.1 (q.2:Int) w3 (KEY.out w3 hc).2 (by omega)).mono ?_
  rintro e u' w4 ⟨rfl,rfl,hr4,ho,htp,hou,hz,hk⟩
  have hb3:=(KEY.out w3 hc).1
  exact ⟨_,Z78 (c2:=w.heap.size) (c3:=w.heap.size+1) (c4:=w.heap.size+1+1) rfl rfl rfl hr4,⟨ho.trans hb3.os,htp.trans hb3.tape,hou.trans hb3.output,Nat.le_trans hb3.size hz,fun k hk2=>(hk k (by have:=hb3.size;omega) (by omega) (by omega) (by omega)).trans (hb3.block k hk2)⟩,rfl⟩
 | ok r =>
  rw [hRd] at HRE HR
  have HR2:Hid (Calls Tryz.prog 155 #[.pointer (some ⟨ab,0,none⟩),.string src] WA fun e w3=>∃ (sa:Option Addr) (sn sc:Nat) (qs:List (St × Value × Value)) (pb B:Nat),e=.returned (.slice sa sn sc)∧AsmAt w3 M r.2∧qs.map Prod.fst=r.1∧Sts w3 M pb B (.slice sa sn sc) qs∧pb<B∧WA.heap.size≤B∧ChgM WA w3 M):=HRE.out.mono fun e w3 hh=>by
   obtain ⟨h1,sa,sn,sc,qs,pb,B,h2,h3,h4,h5,h6,h7⟩:=hh
   exact ⟨sa,sn,sc,qs,pb,B,h2,h3,h4,h5,h6,h7,h1⟩
  have hok:=rdTo_ok asm0_ok (N:=2000) (fun t ht=>Nat.le_trans (Z5V ht) hs) _ r (Nat.le_refl _) hRd
  have hrl:r.1.length≤2001:=by
   rw [hok.2.1]
   have:=Z55 src
   omega
  have HOK:=Z0a (And.intro hok hrl)
  clear HRE hRd hok hrl
  go_wp2_with (first | (go_at_call 155;refine HR2.out.mono ?_;rintro e w3 ⟨sa,sn,sc,qs,pb,B,rfl,hA3,hqs,hsts,hpB,hWB,hc3⟩;have HS3:=Z0a (And.intro hA3 (And.intro hqs (And.intro hsts (And.intro hpB (And.intro hWB hc3)))));clear hA3 hqs hsts hpB hWB hc3))
  have hsn:sn=qs.length:=Z06 HS3.out.2.2.1.row rfl
  have hql:qs.length=r.1.length:=by rw [←HS3.out.2.1];simp
  have hsni:(sn:Int)≤2001:=by have:=HOK.out.2;omega
  have HSN:=Z0a (And.intro hsn hql)
  clear hsn hql
  go_loopw [19] (fun i wr=>∃ (j:Nat) (a:Asm),j≤sn∧i=.int .i64 j∧Z03 r.2 r.1 j=.ok a∧a.nm=r.2.nm∧AsmAt wr M a∧Sts wr M pb B (.slice sa sn sc) qs∧ChgM WA wr M) (fun i _=>sn-(intOf i).toNat)
  case atStart=>exact ⟨0,r.2,Nat.zero_le _,rfl,rfl,rfl,HS3.out.1,HS3.out.2.2.1,HS3.out.2.2.2.2.2⟩
  case round =>
   obtain ⟨j,a,hj,rfl,hfi,hnm,hAw,hsts,hcw⟩:=hrel
   have HW:=Z0a (And.intro hfi (And.intro hnm (And.intro hAw (And.intro hsts hcw))))
   by_cases hlt:j<sn
   ·have hji:(j:Int)<(sn:Int):=by omega
    have hjq:j<qs.length:=by have:=HSN.out.1;omega
    obtain ⟨q,hq⟩:∃ q,qs[j]=q:=⟨_,rfl⟩
    have hqe:qs[j]?=some q:=by rw [List.getElem?_eq_getElem hjq,hq]
    obtain ⟨st,v,kv⟩:=q
    have hst:=hsts.each (st,v,kv) (by rw [←hq];exact List.getElem_mem hjq)
    have hr9:r.1[j]?=some st:=by
     rw [←HS3.out.2.1,List.getElem?_map,hqe]
     rfl
    have hstok:=HOK.out.1.2.2 st (List.mem_of_getElem? hr9)
    obtain ⟨va,vn,vc,hv⟩:=hst.is
    obtain ⟨ka,kc,hkv⟩:=hst.kinds.is
    simp only at hv hkv
    subst hv hkv
    obtain ⟨g,cap,hsv⟩:=Z3e hsts.row (by omega)
    cases hsv
    have hcs:∀ i u,i<9→(stC st (.slice va vn vc) (.slice ka st.x.ins.kinds.length kc))[i]?=some u→wr.cell? ⟨g,j*9+i,none⟩=some u:=fun i u hi hu=>(Z3m hsts.row).2 _ _ ((stsC_at hqe i hi).trans hu)
    have x0:=hcs 0 _ (by omega) rfl
    have x1:=hcs 1 _ (by omega) rfl
    have x2:=hcs 2 _ (by omega) rfl
    have x3:=hcs 3 _ (by omega) rfl
    have x4:=hcs 4 _ (by omega) rfl
    have x5:=hcs 5 _ (by omega) rfl
    have x6:=hcs 6 _ (by omega) rfl
    have x7:=hcs 7 _ (by omega) rfl
    have x8:=hcs 8 _ (by omega) rfl
    rw [Nat.add_zero] at x0
    have HST:=Z0a (And.intro hst (And.intro hr9 hstok))
    clear hfi hnm hAw hsts hcw hq hqe hst hr9 hstok hcs hjq
    go_upto_region 8 with fail
    obtain ⟨W4,hW4,hB4,hz4,hSS⟩:=Z1B wr (st.line:Int) (st.pl:Int) st.lb (st.x.task:Int) st.x.name (.slice va vn vc) (st.x.ins.code:Int) (.slice ka st.x.ins.kinds.length kc) (st.x.ins.size:Int)
    rw [hW4]
    obtain ⟨s0,s1,s2,s3,s4,s5,s6,s7,s8,sf,sl⟩:=hSS
    obtain ⟨hfi,hnm,hAw,hsts,hcw⟩:=HW.out
    obtain ⟨hst,hr9,hstok⟩:=HST.out
    obtain ⟨lo,hi,hBlo,_,hvk,_⟩:=hst.vals
    have hstm:=hstok.stm.ok (by omega)
    have hpre:FilPre W4 M a lo st.x (.slice va vn vc) (.slice ka st.x.ins.kinds.length kc) st.pl:=⟨⟨hAw.below hB4,fun l z hz=>HOK.out.1.1.nm l z (by rw [←hnm];exact hz),hvk.vat.below hB4,hstok.great,hstm.vals,hstm.cnt,hstm.len,by have:=hstok.fit;omega⟩,HAL.out.2.2.2.2.1,fun h6=>⟨hstok.stm.ins h6,hst.kinds.below hB4⟩,hstok.fit,hstm.size⟩
    have hFI:=fill_any W4 M a lo st.x va vn vc st.pl (st.line:Int) st.lb ka st.x.ins.kinds.length kc hpre
    rw [HAL.out.2.2.2.2.2] at hFI
    have HFI:=Z0a hFI
    have HB4:=Z0a hB4
    clear hfi hnm hAw hsts hcw hst hr9 hstok hBlo hvk hstm hpre hFI hB4 hW4 sf
    cases hF:Z5Y a st.pl st.x with
    | error k =>
     rw [hF] at HFI
     have eR:R=.error (k,st.line):=by
      rw [←HR.out]
      refine Z4x (j:=j+1) ?_ (by have:=HSN.out;omega)
      simp only [Z03,HW.out.1,HST.out.2.1,hF]
     subst eR
     have HF2:Hid (Calls Tryz.prog 156 #[.pointer (some ⟨ab,0,none⟩),.agg #[.int .i64 (st.line:Int),.int .i64 (st.pl:Int),.string st.lb,.int .i64 (st.x.task:Int),.string st.x.name,.slice va vn vc,.int .u8 (st.x.ins.code:Int),.slice ka st.x.ins.kinds.length kc,.int .i64 (st.x.ins.size:Int)]] W4 fun e w5=>e=.panicked (fltC k (st.line:Int))∧ChgM W4 w5 M):=HFI.out.mono fun e w5 hh=>⟨hh.2,hh.1⟩
     clear HFI hF
     go_wp2_with (first | (go_at_call 156;refine HF2.out.mono ?_;rintro e w5 ⟨rfl,hc5⟩))
     have hc:=(HW.out.2.2.2.2.trans (ChgM.below M HB4.out)).trans hc5
     refine leaves_cons (f:=153) (args:=#[.pointer (some ⟨w.heap.size,0,none⟩),.pointer (some ⟨w.heap.size+1,0,none⟩),.pointer (some ⟨w.heap.size+1+1,0,none⟩)]) (by simp) (by simp [go_sem]) ?_
     refine (Z5p w.heap.size (w.heap.size+1) (w.heap.size+1+1) nilS nilS nilS 0 0 k (st.line:Int) w5 (KEY.out w5 hc).2 (by omega)).mono ?_
     rintro e u' w6 ⟨rfl,rfl,hr4,ho,htp,hou,hz,hk⟩
     have hb3:=(KEY.out w5 hc).1
     exact ⟨_,Z78 (c2:=w.heap.size) (c3:=w.heap.size+1) (c4:=w.heap.size+1+1) rfl rfl rfl hr4,⟨ho.trans hb3.os,htp.trans hb3.tape,hou.trans hb3.output,Nat.le_trans hb3.size hz,fun k hk2=>(hk k (by have:=hb3.size;omega) (by omega) (by omega) (by omega)).trans (hb3.block k hk2)⟩,rfl⟩
    | ok c =>
     rw [hF] at HFI
     have HNX:Hid (Z03 r.2 r.1 (j+1)=.ok c):=by
      show Z03 r.2 r.1 (j+1)=.ok c
      simp only [Z03,HW.out.1,HST.out.2.1,hF]
     have HNM:Hid (c.nm=r.2.nm):=(fillF_nm hF).trans HW.out.2.1
     have HF2:Hid (Calls Tryz.prog 156 #[.pointer (some ⟨ab,0,none⟩),.agg #[.int .i64 (st.line:Int),.int .i64 (st.pl:Int),.string st.lb,.int .i64 (st.x.task:Int),.string st.x.name,.slice va vn vc,.int .u8 (st.x.ins.code:Int),.slice ka st.x.ins.kinds.length kc,.int .i64 (st.x.ins.size:Int)]] W4 fun e w5=>e=.returned (.tuple #[])∧ChgM W4 w5 M∧AsmAt w5 M c):=HFI.out.mono fun e w5 hh=>⟨hh.2.1,hh.1,hh.2.2⟩
     clear HFI hF
     go_wp2_with (first | (go_at_call 156;refine HF2.out.mono ?_;rintro e w5 ⟨rfl,hc5,ha5⟩;have HC5:=Z0a (And.intro hc5 ha5);clear hc5 ha5))
     go_roundw
     case rel =>
      have hc45:=(ChgM.below M HB4.out).trans HC5.out.1
      refine ⟨j+1,c,by omega,by go_num,HNX.out,HNM.out,HC5.out.2,HW.out.2.2.2.1.kept hc45.size HS3.out.2.2.2.1 ?_ (fun k h1 h2=>hc45.free h1 h2),HW.out.2.2.2.2.trans hc45⟩
      have h8:=HS3.out.2.2.2.2.1
      have h9:=HML.out
      omega
     case measure=>simp [intOf];omega
   ·have hji:¬ (j:Int)<(sn:Int):=by omega
    have eR:R=.ok a:=by
     rw [←HR.out]
     have h9:=HW.out.1
     rw [show j=r.1.length by have:=HSN.out;omega] at h9
     exact h9
    subst eR
    have hres:=(KEY.out wr hcw).2
    have a0:=hres.a0
    have a1:=hres.a1
    have a2:=hres.a2
    have b0:=hres.b
    have d0:=hres.c
    have f0:=hres.fa 0
    have f1:=hres.fa 1
    have f2:=hres.fa 2
    have fb:=hres.fb
    have fc:=hres.fc
    have m0:=hAw.st.c0
    have m1:=hAw.st.c1
    have m2:=hAw.st.c2
    have hmc:=HAL.out.2.2.2
    rw [hmc.2.2] at m0 m1 m2
    rw [hmc.1.1] at m0
    rw [hmc.1.2.1] at m1
    rw [hmc.1.2.2] at m2
    unfold iV at m0 m1 m2
    have hlt3:=hres.lt
    clear hfi hnm hAw hsts hcw hres hmc
    go_wp2_with fail
    refine leaves_cons (f:=153) (args:=#[.pointer (some ⟨w.heap.size,0,none⟩),.pointer (some ⟨w.heap.size+1,0,none⟩),.pointer (some ⟨w.heap.size+1+1,0,none⟩)]) (by simp) (by simp [go_sem]) ?_
    refine (catchA_idle w.heap.size (w.heap.size+1) (w.heap.size+1+1) _).mono ?_
    rintro e u' w5 ⟨rfl,rfl,rfl⟩
    have hcw:=HW.out.2.2.2.2
    have hAw:=HW.out.2.2.1
    have hkey:=KEY.out wr hcw
    have hml:=HAL.out.2.2.1
    refine ⟨_,Z78 (c2:=w.heap.size) (c3:=w.heap.size+1) (c4:=w.heap.size+1+1) rfl rfl rfl (hkey.2.put (by omega) _ _ _ 0 0),put_below hkey.1 (Nat.le_refl _) (by omega) (by omega) _ _ _ _ _,M.ik,M.lk,M.sk,rfl,hAw.bytes.kept (Z8x _ _ _ _ _ _ (by omega) (by omega) (by omega)),hAw.laid.kept (Z8x _ _ _ _ _ _ (by omega) (by omega) (by omega)),hAw.starts.kept (Z8x _ _ _ _ _ _ (by omega) (by omega) (by omega)),by omega,by omega,by omega⟩
theorem assemble_any (src:ByteArray)(mm:Int)(w:World)(hmm:w.cell? ⟨0,0,none⟩=some (.int .i64 mm)) :
  Calls Tryz.prog 102 #[.string src] w (AsmEnd w (asmF src)):=by
 by_cases h:2000<src.size
 ·exact Z7X src w h
 ·exact Z7a src mm w (by omega) hmm
def NL:ByteArray:=⟨#[10]⟩
def NoNL (t:ByteArray):Prop:=(10:UInt8) ∉ t.data.toList
theorem Z5P (a b:ByteArray):(a++b).data.toList=a.data.toList++b.data.toList:=by
 rw [ByteArray.data_append,Array.toList_append]
theorem index_nl {t:List UInt8}(h:(10:UInt8) ∉ t)(r:List UInt8):Lib.index (t++10 :: r) [10]=t.length:=by
 refine Lib.index_first (by simp) ?_ (fun j hj=>?_)
 ·unfold Lib.occAt
  rw [List.drop_left]
  simp [List.isPrefixOf]
 ·unfold Lib.occAt
  rw [List.drop_append_of_le_length (by omega),List.drop_eq_getElem_cons hj]
  have hn:¬ (10:UInt8)=t[j]:=fun e=>h (e ▸ List.getElem_mem hj)
  rw [List.cons_append]
  show ((10:UInt8) == t[j] && _)=false
  rw [beq_eq_false_iff_ne.2 hn]
  rfl
theorem index_no {t:List UInt8}(h:(10:UInt8) ∉ t):Lib.index t [10] = -1:=by
 refine Lib.index_none (fun j hj=>?_)
 unfold Lib.occAt
 by_cases hl:j<t.length
 ·rw [List.drop_eq_getElem_cons hl]
  have hn:¬ (10:UInt8)=t[j]:=fun e=>h (e ▸ List.getElem_mem hl)
  simp [List.isPrefixOf,hn]
 ·rw [List.drop_of_length_le (by omega)]
  rfl
theorem linesF_last {t:ByteArray}(h:NoNL t):Z1n t=[t]:=by
 unfold Z1n
 exact Lib.splitB_miss _ _ _ _ (index_no h)
theorem Z4k {t:ByteArray}(h:NoNL t)(r:ByteArray):Z1n (t++(NL++r))=t :: Z1n r:=by
 have hi:Lib.indexB (t++(NL++r)) ⟨#[10]⟩=(t.size:Nat):=by
  show Lib.index (t++(NL++r)).data.toList [10]=_
  rw [Z5P,Z5P]
  have:=index_nl h r.data.toList
  rw [Array.length_toList] at this
  exact this
 have e2:(t++(NL++r)).extract (t.size+1) (t++(NL++r)).size=r:=by
  rw [←ByteArray.append_assoc]
  exact ByteArray.extract_append_eq_right (by rw [ByteArray.size_append];rfl) ByteArray.size_append
 have e1:(t++(NL++r)).extract 0 (t.size+0)=t:=ByteArray.extract_append_eq_left (by simp)
 unfold Z1n
 have hc:=Lib.countB_hit (t++(NL++r)) ⟨#[10]⟩ t.size (by decide) hi
 rw [show (⟨#[10]⟩:ByteArray).size=1 from rfl,e2] at hc
 rw [hc,Nat.add_comm,Lib.splitB_hit _ _ _ _ _ hi,e1,show (⟨#[10]⟩:ByteArray).size=1 from rfl,e2]
def rdL:Nat→Asm→List ByteArray→Except (Int × Nat) (List St × Asm)
 | _,a,[]=>.ok ([],a)
 | i,a,t :: l=>match Z1f t with
  | none=>.error (2,i+1)
  | some q=>match Z0o a q.1 q.2 with
   | .error k=>.error (k,i+1)
   | .ok b=>match rdL (i+1) b l with
    | .error e=>.error e
    | .ok r=>.ok (⟨i+1,a.pl,q.1,q.2⟩ :: r.1,r.2)
def joinR (s:List St):Except (Int × Nat) (List St × Asm)→Except (Int × Nat) (List St × Asm)
 | .error e=>.error e
 | .ok r=>.ok (s++r.1,r.2)
theorem rdTo_rdL (a0:Asm):∀ (l pre:List ByteArray) (s:List St) (a:Asm),rdTo (pre++l) a0 pre.length=.ok (s,a)→rdTo (pre++l) a0 (pre++l).length=joinR s (rdL pre.length a l)
 | [],pre,s,a,h=>by
  simp only [List.append_nil] at h ⊢
  rw [h]
  simp [rdL,joinR]
 | t :: l,pre,s,a,h=>by
  have hg:(pre++t :: l).getD pre.length ⟨#[]⟩=t:=by
   rw [List.getD_eq_getElem?_getD,List.getElem?_append_right (Nat.le_refl _),Nat.sub_self]
   rfl
  have hlen:pre.length+1≤(pre++t :: l).length:=by simp
  cases hp:Z1f t with
  | none =>
   rw [Z3T (rdTo_none h (by rw [hg];exact hp)) hlen]
   simp only [rdL,hp,joinR]
  | some q =>
   cases hs:Z0o a q.1 q.2 with
   | error k =>
    rw [Z3T (rdTo_bad h (by rw [hg];exact hp) hs) hlen]
    simp only [rdL,hp,hs,joinR]
   | ok b =>
    have h1:=rdTo_next h (by rw [hg];exact hp) hs
    have e:pre++t :: l=(pre ++ [t])++l:=by simp
    have hl1:(pre ++ [t]).length=pre.length+1:=by simp
    rw [e,← hl1] at h1
    have ih:=rdTo_rdL a0 l (pre ++ [t]) _ _ h1
    rw [e,ih,hl1]
    simp only [rdL,hp,hs]
    cases rdL (pre.length+1) b l with
    | error e=>rfl
    | ok r=>simp [joinR]
def flL:Asm→List St→Except (Int × Nat) Asm
 | a,[]=>.ok a
 | a,st :: l=>match Z5Y a st.pl st.x with
  | .error k=>.error (k,st.line)
  | .ok b=>flL b l
theorem Z5W (a0:Asm):∀ (l pre:List St) (a:Asm),Z03 a0 (pre++l) pre.length=.ok a→Z03 a0 (pre++l) (pre++l).length=flL a l
 | [],pre,a,h=>by
  simp only [List.append_nil] at h ⊢
  rw [h]
  rfl
 | st :: l,pre,a,h=>by
  have hg:(pre++st :: l)[pre.length]?=some st:=by
   rw [List.getElem?_append_right (Nat.le_refl _),Nat.sub_self]
   rfl
  cases hs:Z5Y a st.pl st.x with
  | error k =>
   have h1:Z03 a0 (pre++st :: l) (pre.length+1)=.error (k,st.line):=by simp only [Z03,h,hg,hs]
   rw [Z4x h1 (by simp)]
   simp only [flL,hs]
  | ok b =>
   have h1:Z03 a0 (pre++st :: l) (pre.length+1)=.ok b:=by simp only [Z03,h,hg,hs]
   have e:pre++st :: l=(pre ++ [st])++l:=by simp
   have hl1:(pre ++ [st]).length=pre.length+1:=by simp
   rw [e,← hl1] at h1
   have ih:=Z5W a0 l (pre ++ [st]) _ h1
   rw [e,ih]
   simp only [flL,hs]
def asmL (ls:List ByteArray):Except (Int × Nat) Asm:=match rdL 0 asm0 ls with
 | .error e=>.error e
 | .ok r=>flL r.2 r.1
theorem asmF_asmL {src:ByteArray}(h:src.size≤2000):asmF src=asmL (Z1n src):=by
 unfold asmF asmL
 rw [if_neg (by omega)]
 have h1:=rdTo_rdL asm0 (Z1n src) [] [] asm0 rfl
 simp only [List.nil_append,List.length_nil] at h1
 rw [h1]
 cases rdL 0 asm0 (Z1n src) with
 | error e=>rfl
 | ok r =>
  have h2:=Z5W r.2 r.1 [] r.2 rfl
  simp only [List.nil_append] at h2
  show Z03 r.2 ([]++r.1) ([]++r.1).length=_
  rw [List.nil_append]
  exact h2
end Go.Proofs.YthokdbcpkmcieabGreatDoor
namespace Go.Proofs.YthokdbcpkmcieabGreatDoor
open Go Go.RowKit
theorem index_noC {t:List UInt8}{c:UInt8}(h:c ∉ t):Lib.index t [c] = -1:=by
 refine Lib.index_none (fun j hj=>?_)
 unfold Lib.occAt
 by_cases hl:j<t.length
 ·rw [List.drop_eq_getElem_cons hl]
  have hn:¬ c=t[j]:=fun e=>h (e ▸ List.getElem_mem hl)
  simp [List.isPrefixOf,hn]
 ·rw [List.drop_of_length_le (by omega)]
  rfl
theorem body_same {s:ByteArray}(h:(59:UInt8) ∉ s.data.toList):Z14 s=s:=by
 unfold Z14 Lib.cut
 rw [if_neg (by rw [index_noC h];decide)]
theorem Z7m {s:ByteArray}{ps:List (List UInt8)}{ts:List Tok}(h59:(59:UInt8) ∉ s.data.toList)(hp:s.data.toList.map capB=ps.flatten)(hok:pcOk ps=true)(hl:ps.length≤s.size)(ht:toksP ps=some ts):Z1f s=Z7u ts:=by
 have hc:capS s=⟨ps.flatten.toArray⟩:=by
  rw [←hp]
  exact (capS_ba s.data.toList)
 unfold Z1f
 rw [body_same h59,hc,Z6W ps _ hok hl,ht]
 rfl
end Go.Proofs.YthokdbcpkmcieabGreatDoor
namespace Go.Proofs.YthokdbcpkmcieabGreatDoor
open Go Go.RowKit Go.Shelf Go.WideMaps Go.Maps
theorem Z8l (src:ByteArray)(mm:Int)(w:World)(hmm:w.cell? ⟨0,0,none⟩=some (.int .i64 mm)) :
  Calls Tryz.prog 51 #[.string src] w (AsmEnd w (asmF src)):=by
 obtain ⟨R,hR⟩:∃ R,asmF src=R:=⟨_,rfl⟩
 have h0:0<w.heap.size:=World.block_lt_of_cell? _ _ hmm
 obtain ⟨W,hW⟩:∃ W,w.alloc (.cells #[.slice none 0 0,.slice none 0 0,.slice none 0 0] 35)=W:=⟨_,rfl⟩
 have hBW:Below w.heap.size w W:=by rw [←hW];exact (Below.refl _ _).alloc (Nat.le_refl _) _
 have hWz:W.heap.size=w.heap.size+1:=by rw [←hW];simp
 have hh:W.heap[w.heap.size]?=some (.cells #[.slice none 0 0,.slice none 0 0,.slice none 0 0] 35 (0,0)):=by rw [←hW];exact heap_alloc_new w _
 have HA:=Z0a (assemble_any src mm W ((World.cell?_of_block (a:=⟨0,0,none⟩) (hBW.block 0 h0)).trans hmm))
 rw [hR] at HA ⊢
 have hres:∀ (w2:World),Below W.heap.size W w2→w2.cell? ⟨w.heap.size,0,none⟩=some (.slice none 0 0)∧w2.cell? ⟨w.heap.size,1,none⟩=some (.slice none 0 0)∧w2.cell? ⟨w.heap.size,2,none⟩=some (.slice none 0 0)∧w2.frozen? ⟨w.heap.size,0,none⟩=false∧w2.frozen? ⟨w.heap.size,1,none⟩=false∧w2.frozen? ⟨w.heap.size,2,none⟩=false:=fun w2 hb=>by
  have hr2:=(hb.block w.heap.size (by omega)).trans hh
  exact ⟨by rw [cell_of_row _ _ _ _ _ (0,0) hr2];rfl,by rw [cell_of_row _ _ _ _ _ (0,0) hr2];rfl,by rw [cell_of_row _ _ _ _ _ (0,0) hr2];rfl,frozen_of_row w2 w.heap.size 0 _ _ hr2,frozen_of_row w2 w.heap.size 1 _ _ hr2,frozen_of_row w2 w.heap.size 2 _ _ hr2⟩
 have HB:=Z0a (And.intro hBW hres)
 clear hBW hh hres hmm hR
 cases R with
 | error q =>
  have HA2:Hid (Calls Tryz.prog 102 #[.string src] W fun e w2=>e=.returned (.tuple #[.agg #[.slice none 0 0,.slice none 0 0,.slice none 0 0],.int .i64 q.1,.int .i64 (q.2:Int)])∧Below W.heap.size W w2):=HA.out.mono fun e w2 hh=>⟨hh.2,hh.1⟩
  clear HA
  go_enter Tryz.func51,Tryz.ntmps51
  go_wp2_with (first | (go_at_call 102;refine HA2.out.mono ?_;rintro e w2 ⟨rfl,hb2⟩;obtain ⟨r0,r1,r2,f0,f1,f2⟩:=HB.out.2 w2 hb2;have HB2:=Z0a hb2;clear hb2))
  refine bodyPost_ret (v:=.tuple #[.agg #[nilS,nilS,nilS],.int .i64 q.1,.int .i64 (q.2:Int)]) (by simp [results,Tryz.results51,go_sem,r0,r1,r2]) rfl ⟨?_,rfl⟩
  have hb:=HB.out.1.trans (HB2.out.mono HB.out.1.size)
  exact Z1c (Z1c (Z1c hb (Nat.le_refl _) 0 _) (Nat.le_refl _) 1 _) (Nat.le_refl _) 2 _
 | ok a =>
  have HA2:Hid (Calls Tryz.prog 102 #[.string src] W fun e w2=>∃ ik lk sk,e=.returned (.tuple #[.agg #[.slice (some ⟨ik,0,none⟩) 1024 1024,.slice (some ⟨lk,0,none⟩) 1024 1024,.slice (some ⟨sk,0,none⟩) 1024 1024],.int .i64 0,.int .i64 0])∧(YRow w2 ik a.bytes∧BRow w2 lk a.laid∧BRow w2 sk a.starts∧W.heap.size≤ik∧W.heap.size≤lk∧W.heap.size≤sk)∧Below W.heap.size W w2):=HA.out.mono fun e w2 hh=>by
   obtain ⟨h1,ik,lk,sk,h2,h3⟩:=hh
   exact ⟨ik,lk,sk,h2,h3,h1⟩
  clear HA
  go_enter Tryz.func51,Tryz.ntmps51
  go_wp2_with (first | (go_at_call 102;refine HA2.out.mono ?_;rintro e w2 ⟨ik,lk,sk,rfl,hrows,hb2⟩;obtain ⟨r0,r1,r2,f0,f1,f2⟩:=HB.out.2 w2 hb2;have HB2:=Z0a (And.intro hb2 hrows);clear hb2 hrows))
  refine bodyPost_ret (v:=.tuple #[.agg #[iV ik 1024,iV lk 1024,iV sk 1024],.int .i64 0,.int .i64 0]) (by simp [iV,results,Tryz.results51,go_sem,r0,r1,r2]) rfl ?_
  obtain ⟨hb2,hy,hl,hs,l1,l2,l3⟩:=HB2.out
  have hb:=HB.out.1.trans (hb2.mono HB.out.1.size)
  have e3:∀ (k:Nat) (v0 v1 v2:Value),k≠w.heap.size→(((w2.setCell ⟨w.heap.size,0,none⟩ v0).setCell ⟨w.heap.size,1,none⟩ v1).setCell ⟨w.heap.size,2,none⟩ v2).heap[k]?=w2.heap[k]?:=fun k v0 v1 v2 hk=>by
   rw [heap_setCell_other _ ⟨w.heap.size,2,none⟩ k _ hk,heap_setCell_other _ ⟨w.heap.size,1,none⟩ k _ hk,heap_setCell_other _ ⟨w.heap.size,0,none⟩ k _ hk]
  exact ⟨Z1c (Z1c (Z1c hb (Nat.le_refl _) 0 _) (Nat.le_refl _) 1 _) (Nat.le_refl _) 2 _,ik,lk,sk,rfl,hy.kept (e3 _ _ _ _ (by omega)),hl.kept (e3 _ _ _ _ (by omega)),hs.kept (e3 _ _ _ _ (by omega)),by omega,by omega,by omega⟩
def kpF (c:Int) (n:Nat):Nat:=(if c<0 then (-(c+1)).toNat else c.toNat)%n
theorem Z6P (c:Int)(n:Nat)(h:1≤n):kpF c n<n:=Nat.mod_lt _ (by omega)
theorem Z4K (c:Int)(n:Nat)(hc1:-9223372036854775808≤c)(hc2:c≤9223372036854775807)(hn1:1≤n)(hn2:n≤4000000)(w:World) :
  Calls Tryz.prog 6 #[.int .i64 c,.int .i64 (n:Int)] w fun e w'=>e=.returned (.int .i64 (kpF c n:Int))∧w'=w:=by
 have hn0:¬ (n:Int)=0:=by omega
 by_cases h:c<0
 ·obtain ⟨d,hd⟩:∃ d:Nat,-(c+1)=(d:Int):=⟨(-(c+1)).toNat,by omega⟩
  have e:kpF c n=d%n:=by unfold kpF;rw [if_pos h,hd];rfl
  rw [e]
  go_enter Tryz.func6,Tryz.ntmps6
  go_wp2
  go_ret
  exact ⟨by show Ending.returned (.int .i64 ((d:Int)%(n:Int)))=_;rw [Int.natCast_emod],rfl⟩
 ·obtain ⟨d,rfl⟩:∃ d:Nat,c=(d:Int):=⟨c.toNat,by omega⟩
  have e:kpF (d:Int) n=d%n:=by unfold kpF;rw [if_neg h];rfl
  rw [e]
  go_enter Tryz.func6,Tryz.ntmps6
  go_wp2
  go_ret
  exact ⟨rfl,rfl⟩
def digB (k:Nat):ByteArray:=⟨#[UInt8.ofNat (48+k)]⟩
def decF:Nat→Nat→ByteArray
 | 0,n=>digB (n%10)
 | f+1,n=>if n<10 then digB (n%10) else decF f (n/10)++digB (n%10)
theorem dig_cut (k:Nat)(h:k<10):(⟨#[48,49,50,51,52,53,54,55,56,57]⟩:ByteArray).extract k (k+1)=digB k:=by
 have key:∀ k:Fin 10,(⟨#[48,49,50,51,52,53,54,55,56,57]⟩:ByteArray).extract k.val (k.val+1)=digB k.val:=by decide
 exact key ⟨k,h⟩
theorem Z23:∀ (f n:Nat),(decF f n).size≤f+1
 | 0,n=>Nat.le_refl _
 | f+1,n=>by
  unfold decF
  split
  ·show 1≤_
   omega
  ·rw [ByteArray.size_append]
   have:=Z23 f (n/10)
   have:(digB (n%10)).size=1:=rfl
   omega
theorem Z4l:∀ (f n:Nat) (_:n<10 ^ (f+1)) (_:f≤6) (w:World),Calls Tryz.prog 50 #[.int .i64 (n:Int)] w fun e w'=>e=.returned (.string (decF f n))∧w'=w:=by
 intro f
 induction f with
 | zero =>
  intro n hn hf w
  obtain ⟨d,hd⟩:∃ d:Nat,n%10=d:=⟨_,rfl⟩
  have hdi:(n:Int)%10=(d:Int):=by omega
  have hd10:(d:Int)<10:=by omega
  have hn10:(n:Int)<10:=by omega
  have hcut:=dig_cut d (by omega)
  have e:decF 0 n=digB d:=by unfold decF;rw [hd]
  rw [e,← hcut]
  clear hcut e hd
  go_enter Tryz.func50,Tryz.ntmps50
  go_wp2
  go_ret
  exact ⟨rfl,rfl⟩
 | succ f ih =>
  intro n hn hf w
  obtain ⟨d,hd⟩:∃ d:Nat,n%10=d:=⟨_,rfl⟩
  have hdi:(n:Int)%10=(d:Int):=by omega
  have hd10:(d:Int)<10:=by omega
  have hcut:=dig_cut d (by omega)
  by_cases h:n<10
  ·have hn10:(n:Int)<10:=by omega
   have e:decF (f+1) n=digB d:=by unfold decF;rw [if_pos h,hd]
   rw [e,← hcut]
   clear hcut e hd ih hn
   go_enter Tryz.func50,Tryz.ntmps50
   go_wp2
   go_ret
   exact ⟨rfl,rfl⟩
  ·have hn10:¬ (n:Int)<10:=by omega
   obtain ⟨m,hm⟩:∃ m:Nat,n/10=m:=⟨_,rfl⟩
   have hmi:(n:Int)/10=(m:Int):=by omega
   have e:decF (f+1) n=decF f m++digB d:=by
    show (if n<10 then digB (n%10) else decF f (n/10)++digB (n%10))=_
    rw [if_neg h,hd,hm]
   have hp:10 ^ (f+1+1)=10*10 ^ (f+1):=by rw [Nat.pow_succ,Nat.mul_comm]
   have hp7:10 ^ (f+1+1)≤10 ^ 8:=Nat.pow_le_pow_right (by omega) (by omega)
   have HI:=Z0a (ih m (by omega) (by omega) w)
   have hsz:=Z23 f m
   rw [e,← hcut]
   obtain ⟨D,hD⟩:∃ D,decF f m=D:=⟨_,rfl⟩
   rw [hD] at HI hsz ⊢
   have hbig:(n:Int)≤100000000:=by omega
   have hDs:(D.size:Int)≤100:=by omega
   clear hcut e hd ih hn hp hp7 hD hm
   go_enter Tryz.func50,Tryz.ntmps50
   go_wp2_with (first | (go_at_call 50;refine HI.out.mono ?_;rintro e w2 ⟨rfl,rfl⟩))
   go_ret
   exact ⟨rfl,rfl⟩
def encT (t:Trm):Bool × ByteArray × Bool × Int:=(t.minus,t.name,t.here,t.num)
def encS (q:ByteArray × Stm):ByteArray × Nat × ByteArray × List (List (Bool × ByteArray × Bool × Int)) × Nat × List Nat × Nat:=(q.1,q.2.task,q.2.name,q.2.vals.map (fun e=>e.map encT),q.2.ins.code,q.2.ins.kinds,q.2.ins.size)
theorem encT_inj {a b:Trm}(h:encT a=encT b):a=b:=by
 cases a
 cases b
 simp only [encT,Prod.mk.injEq] at h
 obtain ⟨rfl,rfl,rfl,rfl⟩:=h
 rfl
theorem map_inj {α β:Type}{f:α→β}(hf:∀ a b,f a=f b→a=b):∀ {l k:List α},l.map f=k.map f→l=k
 | [],[],_=>rfl
 | [],_ :: _,h=>by cases h
 | _ :: _,[],h=>by cases h
 | a :: l,b :: k,h=>by
  simp only [List.map_cons,List.cons.injEq] at h
  rw [hf a b h.1,map_inj hf h.2]
theorem encS_inj {a b:ByteArray × Stm}(h:encS a=encS b):a=b:=by
 obtain ⟨l1,⟨t1,n1,v1,⟨c1,k1,s1⟩⟩⟩:=a
 obtain ⟨l2,⟨t2,n2,v2,⟨c2,k2,s2⟩⟩⟩:=b
 simp only [encS,Prod.mk.injEq] at h
 obtain ⟨rfl,rfl,rfl,h4,rfl,rfl,rfl⟩:=h
 have:=map_inj (fun a b=>map_inj (fun _ _=>encT_inj)) h4
 subst this
 rfl
def nm (v:Int):Trm:=⟨false,⟨#[]⟩,false,v⟩
def noB:ByteArray:=⟨#[]⟩
end Go.Proofs.YthokdbcpkmcieabGreatDoor
