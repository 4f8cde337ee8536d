/- SurK SurL SurM SurN SurO EndA -/
import Derived.Test.YthokdbcpkmcieabGreatDoorE41
import Derived.Laws.Concat
import Derived.Deep.RegionWith
import Derived.Deep.RegionHeld3
import Derived.Test.YthokdbcpkmcieabGreatDoorE29
set_option maxRecDepth 200000
set_option maxHeartbeats 8000000
namespace Go.Proofs.YthokdbcpkmcieabGreatDoor
open Go Go.RowKit
theorem khost_some (t:List UInt8)(ht:t.length≤3000000)(hne:t≠[])(pb bb hb lb:Nat)(i0 i1 i2:Value)(p:Ply)(w:World)(m:PlyM w pb bb hb lb i0 i1 i2 p) :
  Calls Tryz.prog 23 #[.pointer (some ⟨pb,0,none⟩),.string (txt t)] w fun e w'=>e=.returned (.tuple #[])∧PlyM w' pb bb hb lb i0 i1 i2 ⟨p.b,hearH p.h (betw t),p.late,p.lateB,p.n⟩∧∃ w1,Below w.heap.size w w1∧w1.grownBy w' (some hb):=by
 have HFL:=Z0a (fun w'=>Z8F w')
 have HH:=Z0a (fun w' (h':HstM w' hb lb p.h)=>bhHear_any hb lb p.h (txt [126]++txt t++txt [126]) w' h' m.ok (by rw [ByteArray.size_append,ByteArray.size_append,Z0k,Z0k];simp;omega))
 have hd:(txt [126]++txt t++txt [126]).data.toList=betw t:=by rw [Z2T,Z2T,Z6w];rfl
 rw [hd] at HH
 obtain ⟨R,hR⟩:∃ R,hearH p.h (betw t)=R:=⟨_,rfl⟩
 rw [hR] at HH ⊢
 have hne2:(txt t).toList.isEmpty=false:=Z0I (txt t) (by rw [Z0k];exact List.length_pos_iff.2 hne)
 have hs1:(txt [126]).size=1:=rfl
 have hfs2:(txt t).size≤3000000:=by rw [Z0k];exact ht
 obtain ⟨F,hF⟩:∃ F,txt t=F:=⟨_,rfl⟩
 obtain ⟨G,hG⟩:∃ G,txt [126]=G:=⟨_,rfl⟩
 rw [hF] at HH hfs2 hne2 ⊢
 rw [hG] at HH HFL hs1
 obtain ⟨GF,hGF⟩:∃ GF,G++F=GF:=⟨_,rfl⟩
 obtain ⟨T,hT⟩:∃ T,GF++G=T:=⟨_,rfl⟩
 have hGFs:GF.size≤3000001:=by rw [←hGF,ByteArray.size_append];omega
 have q1:∀ w':World,(Op.stringOp .add G F).run Tryz.prog w'=.ok (.string GF) w':=fun w'=>by
  have e:=run_string_add_sum (P:=Tryz.prog) (w:=w') G F (by omega)
  rw [hGF] at e
  exact e
 have q2:∀ w':World,(Op.stringOp .add GF G).run Tryz.prog w'=.ok (.string T) w':=fun w'=>by
  have e:=run_string_add_sum (P:=Tryz.prog) (w:=w') GF G (by omega)
  rw [hT] at e
  exact e
 rw [hGF,hT] at HH
 have hok:HOk R:=by rw [←hR];exact m.ok.hearH _
 have k0:=m.c1
 have hM0:PlyM w.drew pb bb hb lb i0 i1 i2 p:=m.below (Below.refl _ _).drew
 have hg0:Below w.heap.size w w.drew:=(Below.refl _ _).drew
 clear hd hF hG hR hGF hT m hne ht hs1 hfs2 hGFs
 go_enter Tryz.func23,Tryz.ntmps23
 go_wp2_with fail
 refine wp_region_noPanic ?_
 refine wp_region_held_drew (S:=fun w'=>w'.cell? ⟨pb,1,none⟩=some (.pointer (some ⟨hb,0,none⟩))) (by kernel_rfl) (by exact k0) (fun hHeld=>?_)
 refine wpAnyH_take (i:=0) (v:=?v0) rfl (by kernel_rfl) (by kernel_rfl) (by kernel_rfl) (fun _ _ _ h=>h) (Or.inl ⟨by rfl,?hy0⟩) (by assumption) ?rest0
 case hy0=>(intro w hSw;(try dsimp only at hSw);go_simp;try with_reducible rfl)
 simp only [Act.put,List.setIfInBounds_toArray]
 refine wpAnyH_take (i:=1) (v:=?v1) rfl (by kernel_rfl) (by kernel_rfl) (by kernel_rfl) (fun _ _ _ h=>h) (Or.inl ⟨by rfl,?hy1⟩) (by assumption) ?rest1
 case hy1=>(intro w hSw;(try dsimp only at hSw);go_simp;try with_reducible rfl)
 simp only [Act.put]
 refine wpAnyH_take (i:=2) (v:=?v2) rfl (by kernel_rfl) (by kernel_rfl) (by kernel_rfl) (fun _ _ _ h=>h) (Or.inl ⟨by rfl,?hy2⟩) (by assumption) ?rest2
 case hy2=>(intro w hSw;(try dsimp only at hSw);go_simp;try with_reducible rfl)
 simp only [Act.put]
 refine wpAnyH_take (i:=3) (v:=?v3) rfl (by kernel_rfl) (by kernel_rfl) (by kernel_rfl) (fun _ _ _ h=>h) (Or.inl ⟨by rfl,?hy3⟩) (by assumption) ?rest3
 case hy3=>(intro w hSw;(try dsimp only at hSw);go_simp;try with_reducible rfl)
 simp only [Act.put]
 refine wpAnyH_take (i:=5) (v:=?v5) rfl (by kernel_rfl) (by kernel_rfl) (by kernel_rfl) (fun _ _ _ h=>h) (Or.inl ⟨by rfl,?hy5⟩) (by assumption) ?rest5
 case hy5=>(intro w hSw;(try dsimp only at hSw);go_simp;try with_reducible rfl)
 simp only [Act.put]
 refine wpAnyH_ready (rs:=[4]) (by kernel_rfl) (by simp) (AllReadyH.cons rfl (fun K hK=>?_) AllReadyH.nil)
 go_simp
 refine (HFL.out _).mono ?_
 rintro e w1 ⟨rfl,hB1⟩
 have hM1:=hM0.below hB1
 have hg1:=hg0.trans (hB1.mono hg0.size)
 have k1:=hM1.c1
 dsimp only
 refine hK.out _ _ (by exact k1) (fun hHeld1=>?_)
 clear hK K
 refine wpAnyH_take (i:=6) (v:=?v6) rfl (by kernel_rfl) (by kernel_rfl) (by kernel_rfl) (fun _ _ _ h=>h) (Or.inl ⟨by rfl,?hy6⟩) (by assumption) ?rest6
 case hy6=>(intro w hSw;(try dsimp only at hSw);go_simp;try with_reducible rfl)
 simp only [Act.put,List.setIfInBounds_toArray]
 refine wpAnyH_ready (rs:=[7]) (by kernel_rfl) (by simp) (AllReadyH.cons rfl (fun K hK=>?_) AllReadyH.nil)
 go_simp
 refine (HFL.out _).mono ?_
 rintro e w2 ⟨rfl,hB2⟩
 have hM2:=hM1.below hB2
 have hg2:=hg1.trans (hB2.mono hg1.size)
 have k2:=hM2.c1
 dsimp only
 refine hK.out _ _ (by exact k2) (fun hHeld2=>?_)
 clear hK K
 refine wpAnyH_take (i:=8) (v:=?v8) rfl (by kernel_rfl) (by kernel_rfl) (by kernel_rfl) (fun _ _ _ h=>h) (Or.inl ⟨by rfl,?hy8⟩) (by assumption) ?rest8
 case hy8=>(intro w hSw;(try dsimp only at hSw);go_simp;try with_reducible rfl)
 simp only [Act.put,List.setIfInBounds_toArray]
 refine wpAnyH_ready (rs:=[9]) (by kernel_rfl) (by simp) (AllReadyH.cons rfl (fun K hK=>?_) AllReadyH.nil)
 go_simp
 refine (HH.out _ hM2.h).mono ?_
 rintro e w3 ⟨rfl,hb3,hg3⟩
 have hM3:=hM2.host hg3 hb3 hok
 have k3:=hM3.c1
 dsimp only
 refine hK.out _ _ (by exact k3) (fun hHeld3=>?_)
 clear hK K
 refine wpAnyH_done (by kernel_rfl) ?_ _
 refine NoPanic.normal ?_
 have HQ:=Z0a (And.intro hM3 (And.intro hg2 hg3))
 clear hM1 hM2 hM3 hg1 hg2 hg3
 go_wp2
 go_end0
 exact ⟨rfl,HQ.out.1,_,HQ.out.2.1,HQ.out.2.2⟩
theorem Z1U (t:List UInt8)(ht:t.length≤3000000)(pb bb hb lb:Nat)(i0 i1 i2:Value)(p:Ply)(w:World)(m:PlyM w pb bb hb lb i0 i1 i2 p) :
  Calls Tryz.prog 24 #[.pointer (some ⟨pb,0,none⟩),.string (txt t)] w fun e w'=>e=.returned (.string (txt (Z0b p t).2))∧PlyM w' pb bb hb lb i0 i1 i2 (Z0b p t).1∧∃ w1,Below w.heap.size w w1∧(w1=w'∨w1.grownBy w' (some bb)):=by
 by_cases hne:t=[]
 ·subst hne
  have HM:=Z0a m
  have e0:Z0b p []=(p,[]):=rfl
  rw [e0,show txt []=⟨#[]⟩ from rfl]
  clear m e0 ht
  go_enter Tryz.func24,Tryz.ntmps24
  go_wp2
  go_ret
  exact ⟨rfl,HM.out,_,Below.refl _ _,Or.inl rfl⟩
 ·refine (kboard_some t ht hne pb bb hb lb i0 i1 i2 p w m).mono ?_
  rintro e w' ⟨rfl,h1,w1,h2,h3⟩
  have e1:Z0b p t=(⟨(Z0D p.b (betw t)).1,p.h,p.late,p.lateB,p.n⟩,(Z0D p.b (betw t)).2):=if_neg hne
  rw [e1]
  exact ⟨rfl,h1,w1,h2,Or.inr h3⟩
theorem Z2x (t:List UInt8)(ht:t.length≤3000000)(pb bb hb lb:Nat)(i0 i1 i2:Value)(p:Ply)(w:World)(m:PlyM w pb bb hb lb i0 i1 i2 p) :
  Calls Tryz.prog 23 #[.pointer (some ⟨pb,0,none⟩),.string (txt t)] w fun e w'=>e=.returned (.tuple #[])∧PlyM w' pb bb hb lb i0 i1 i2 (hostP p t)∧∃ w1,Below w.heap.size w w1∧(w1=w'∨w1.grownBy w' (some hb)):=by
 by_cases hne:t=[]
 ·subst hne
  have HM:=Z0a m
  have e0:hostP p []=p:=rfl
  rw [e0,show txt []=⟨#[]⟩ from rfl]
  clear m e0 ht
  go_enter Tryz.func23,Tryz.ntmps23
  go_wp2
  go_end0
  exact ⟨rfl,HM.out,_,Below.refl _ _,Or.inl rfl⟩
 ·refine (khost_some t ht hne pb bb hb lb i0 i1 i2 p w m).mono ?_
  rintro e w' ⟨rfl,h1,w1,h2,h3⟩
  have e1:hostP p t=⟨p.b,hearH p.h (betw t),p.late,p.lateB,p.n⟩:=if_neg hne
  rw [e1]
  exact ⟨rfl,h1,w1,h2,Or.inr h3⟩
theorem PlyM.kept {w w':World}{pb bb hb lb:Nat}{i0 i1 i2:Value}{p:Ply}(m:PlyM w pb bb hb lb i0 i1 i2 p)(j:Nat)(x:Value)(e:w.setCell ⟨pb,j,none⟩ x=w'):BrdAt w' bb p.b∧HstM w' hb lb p.h∧(∀ k,k≠j→w'.cell? ⟨pb,k,none⟩=w.cell? ⟨pb,k,none⟩)∧(∀ k,w'.frozen? ⟨pb,k,none⟩=false):=by
 subst e
 obtain ⟨n1,n2,n3,n4,n5⟩:=m.ne
 have hz:w.heap.size≤(w.setCell ⟨pb,j,none⟩ x).heap.size:=by simp [World.setCell]
 refine ⟨m.b.kept (heap_setCell_other w ⟨pb,j,none⟩ bb x (Ne.symm n1)) hz,m.h.kept (heap_setCell_other w ⟨pb,j,none⟩ hb x (Ne.symm n2)) (heap_setCell_other w ⟨pb,j,none⟩ lb x (Ne.symm n3)) hz,fun k hk=>World.cell?_setCell_other _ _ _ _ (by simp <;> omega),fun k=>by simpa using m.fz k⟩
theorem PlyM.setLate {w:World}{pb bb hb lb:Nat}{i0 i1 i2:Value}{p:Ply}(m:PlyM w pb bb hb lb i0 i1 i2 p)(s:List UInt8):PlyM (w.setCell ⟨pb,5,none⟩ (.string (txt s))) pb bb hb lb i0 i1 i2 ⟨p.b,p.h,s,p.lateB,p.n⟩:=by
 obtain ⟨b,h,c,f⟩:=m.kept 5 (.string (txt s)) rfl
 exact ⟨(c 0 (by omega)).trans m.c0,(c 1 (by omega)).trans m.c1,(c 2 (by omega)).trans m.c2,(c 3 (by omega)).trans m.c3,(c 4 (by omega)).trans m.c4,World.cell?_setCell_same _ _ _ m.c5,(c 6 (by omega)).trans m.c6,(c 7 (by omega)).trans m.c7,f,b,h,m.ok,m.ne⟩
theorem PlyM.setLateB {w:World}{pb bb hb lb:Nat}{i0 i1 i2:Value}{p:Ply}(m:PlyM w pb bb hb lb i0 i1 i2 p)(s:List UInt8):PlyM (w.setCell ⟨pb,6,none⟩ (.string (txt s))) pb bb hb lb i0 i1 i2 ⟨p.b,p.h,p.late,s,p.n⟩:=by
 obtain ⟨b,h,c,f⟩:=m.kept 6 (.string (txt s)) rfl
 exact ⟨(c 0 (by omega)).trans m.c0,(c 1 (by omega)).trans m.c1,(c 2 (by omega)).trans m.c2,(c 3 (by omega)).trans m.c3,(c 4 (by omega)).trans m.c4,(c 5 (by omega)).trans m.c5,World.cell?_setCell_same _ _ _ m.c6,(c 7 (by omega)).trans m.c7,f,b,h,m.ok,m.ne⟩
structure PlyC (w:World) (pb bb:Nat) (i0 i1 i2:Value) (p:Ply):Prop where
 c0:w.cell? ⟨pb,0,none⟩=some (.pointer (some ⟨bb,0,none⟩))
 c1:∃ v,w.cell? ⟨pb,1,none⟩=some v
 c2:w.cell? ⟨pb,2,none⟩=some i0
 c3:w.cell? ⟨pb,3,none⟩=some i1
 c4:w.cell? ⟨pb,4,none⟩=some i2
 c5:w.cell? ⟨pb,5,none⟩=some (.string (txt p.late))
 c6:w.cell? ⟨pb,6,none⟩=some (.string (txt p.lateB))
 c7:w.cell? ⟨pb,7,none⟩=some (.int .i64 (p.n:Int))
 fz:∀ j,w.frozen? ⟨pb,j,none⟩=false
 b:BrdAt w bb p.b
 ne:pb≠bb
theorem PlyC.lt {w:World}{pb bb:Nat}{i0 i1 i2:Value}{p:Ply}(m:PlyC w pb bb i0 i1 i2 p):pb<w.heap.size:=World.block_lt_of_cell? _ _ m.c0
theorem PlyM.bare {w:World}{pb bb hb lb:Nat}{i0 i1 i2:Value}{p:Ply}(m:PlyM w pb bb hb lb i0 i1 i2 p):PlyC w pb bb i0 i1 i2 p:=⟨m.c0,⟨_,m.c1⟩,m.c2,m.c3,m.c4,m.c5,m.c6,m.c7,m.fz,m.b,m.ne.1⟩
theorem PlyC.below {w w':World}{pb bb:Nat}{i0 i1 i2:Value}{p:Ply}(m:PlyC w pb bb i0 i1 i2 p)(q:Below w.heap.size w w'):PlyC w' pb bb i0 i1 i2 p:=by
 have e:=q.block pb m.lt
 have hc:∀ j,w'.cell? ⟨pb,j,none⟩=w.cell? ⟨pb,j,none⟩:=fun j=>World.cell?_of_block (a:=⟨pb,j,none⟩) e
 obtain ⟨v,hv⟩:=m.c1
 exact ⟨(hc 0).trans m.c0,⟨v,(hc 1).trans hv⟩,(hc 2).trans m.c2,(hc 3).trans m.c3,(hc 4).trans m.c4,(hc 5).trans m.c5,(hc 6).trans m.c6,(hc 7).trans m.c7,fun j=>(World.frozen?_of_block (a:=⟨pb,j,none⟩) e).trans (m.fz j),m.b.below q,m.ne⟩
theorem PlyC.setN {w:World}{pb bb:Nat}{i0 i1 i2:Value}{p:Ply}(m:PlyC w pb bb i0 i1 i2 p)(n:Nat):PlyC (w.setCell ⟨pb,7,none⟩ (.int .i64 (n:Int))) pb bb i0 i1 i2 ⟨p.b,p.h,p.late,p.lateB,n⟩:=by
 have hz:w.heap.size≤(w.setCell ⟨pb,7,none⟩ (.int .i64 (n:Int))).heap.size:=by simp [World.setCell]
 have c:∀ k,k≠7→(w.setCell ⟨pb,7,none⟩ (.int .i64 (n:Int))).cell? ⟨pb,k,none⟩=w.cell? ⟨pb,k,none⟩:=fun k hk=>World.cell?_setCell_other _ _ _ _ (by simp <;> omega)
 obtain ⟨v,hv⟩:=m.c1
 exact ⟨(c 0 (by omega)).trans m.c0,⟨v,(c 1 (by omega)).trans hv⟩,(c 2 (by omega)).trans m.c2,(c 3 (by omega)).trans m.c3,(c 4 (by omega)).trans m.c4,(c 5 (by omega)).trans m.c5,(c 6 (by omega)).trans m.c6,World.cell?_setCell_same _ _ _ m.c7,fun j=>by simpa using m.fz j,m.b.kept (heap_setCell_other w ⟨pb,7,none⟩ bb _ (Ne.symm m.ne)) hz,m.ne⟩
theorem PlyC.setHost {w:World}{pb bb hb lb:Nat}{i0 i1 i2:Value}{p:Ply}{h:Hst}(m:PlyC w pb bb i0 i1 i2 p)(mh:HstM w hb lb h)(k:HOk h)(ne:pb≠hb∧pb≠lb∧bb≠hb∧bb≠lb):PlyM (w.setCell ⟨pb,1,none⟩ (.pointer (some ⟨hb,0,none⟩))) pb bb hb lb i0 i1 i2 ⟨p.b,h,p.late,p.lateB,p.n⟩:=by
 have hz:w.heap.size≤(w.setCell ⟨pb,1,none⟩ (.pointer (some ⟨hb,0,none⟩))).heap.size:=by simp [World.setCell]
 have c:∀ k,k≠1→(w.setCell ⟨pb,1,none⟩ (.pointer (some ⟨hb,0,none⟩))).cell? ⟨pb,k,none⟩=w.cell? ⟨pb,k,none⟩:=fun k hk=>World.cell?_setCell_other _ _ _ _ (by simp <;> omega)
 obtain ⟨v,hv⟩:=m.c1
 exact ⟨(c 0 (by omega)).trans m.c0,World.cell?_setCell_same _ _ _ hv,(c 2 (by omega)).trans m.c2,(c 3 (by omega)).trans m.c3,(c 4 (by omega)).trans m.c4,(c 5 (by omega)).trans m.c5,(c 6 (by omega)).trans m.c6,(c 7 (by omega)).trans m.c7,fun j=>by simpa using m.fz j,m.b.kept (heap_setCell_other w ⟨pb,1,none⟩ bb _ (Ne.symm m.ne)) hz,mh.kept (heap_setCell_other w ⟨pb,1,none⟩ hb _ (Ne.symm ne.1)) (heap_setCell_other w ⟨pb,1,none⟩ lb _ (Ne.symm ne.2.1)) hz,k,⟨m.ne,ne.1,ne.2.1,ne.2.2.1,ne.2.2.2⟩⟩
structure PlyW (w0 w:World) (pb bb hb lb:Nat) (i0 i1 i2:Value) (p:Ply):Prop where
 m:PlyM w pb bb hb lb i0 i1 i2 p
 b:Below w0.heap.size w0 w
 l:w0.heap.size≤pb∧w0.heap.size≤bb∧w0.heap.size≤hb
theorem PlyW.below {w0 w w':World}{pb bb hb lb:Nat}{i0 i1 i2:Value}{p:Ply}(m:PlyW w0 w pb bb hb lb i0 i1 i2 p)(q:Below w.heap.size w w'):PlyW w0 w' pb bb hb lb i0 i1 i2 p:=⟨m.m.below q,m.b.trans (q.mono m.b.size),m.l⟩
theorem below_grown {w0 w w':World}{x:Nat}(h:Below w0.heap.size w0 w)(g:w.grownBy w' (some x))(hx:w0.heap.size≤x):Below w0.heap.size w0 w':=h.grown g h.size (fun k e=>by cases e;exact hx)
theorem PlyW.board {w0 w w':World}{pb bb hb lb:Nat}{i0 i1 i2:Value}{p p':Ply}(m:PlyW w0 w pb bb hb lb i0 i1 i2 p)(m':PlyM w' pb bb hb lb i0 i1 i2 p')(q:∃ w1,Below w.heap.size w w1∧(w1=w'∨w1.grownBy w' (some bb))):PlyW w0 w' pb bb hb lb i0 i1 i2 p':=by
 obtain ⟨w1,q1,q2⟩:=q
 have b1:=m.b.trans (q1.mono m.b.size)
 refine ⟨m',?_,m.l⟩
 rcases q2 with rfl | q2
 ·exact b1
 ·exact below_grown b1 q2 m.l.2.1
theorem PlyW.host {w0 w w':World}{pb bb hb lb:Nat}{i0 i1 i2:Value}{p p':Ply}(m:PlyW w0 w pb bb hb lb i0 i1 i2 p)(m':PlyM w' pb bb hb lb i0 i1 i2 p')(q:∃ w1,Below w.heap.size w w1∧(w1=w'∨w1.grownBy w' (some hb))):PlyW w0 w' pb bb hb lb i0 i1 i2 p':=by
 obtain ⟨w1,q1,q2⟩:=q
 have b1:=m.b.trans (q1.mono m.b.size)
 refine ⟨m',?_,m.l⟩
 rcases q2 with rfl | q2
 ·exact b1
 ·exact below_grown b1 q2 m.l.2.2
theorem PlyW.boardG {w0 w w':World}{pb bb hb lb:Nat}{i0 i1 i2:Value}{p:Ply}{b:Brd}(m:PlyW w0 w pb bb hb lb i0 i1 i2 p)(q:w.grownBy w' (some bb))(hb':BrdAt w' bb b):PlyW w0 w' pb bb hb lb i0 i1 i2 ⟨b,p.h,p.late,p.lateB,p.n⟩:=⟨m.m.board q hb',below_grown m.b q m.l.2.1,m.l⟩
theorem PlyW.hostG {w0 w w':World}{pb bb hb lb:Nat}{i0 i1 i2:Value}{p:Ply}{h:Hst}(m:PlyW w0 w pb bb hb lb i0 i1 i2 p)(q:w.grownBy w' (some hb))(hh:HstM w' hb lb h)(k:HOk h):PlyW w0 w' pb bb hb lb i0 i1 i2 ⟨p.b,h,p.late,p.lateB,p.n⟩:=⟨m.m.host q hh k,below_grown m.b q m.l.2.2,m.l⟩
theorem PlyW.setLate {w0 w:World}{pb bb hb lb:Nat}{i0 i1 i2:Value}{p:Ply}(m:PlyW w0 w pb bb hb lb i0 i1 i2 p)(s:List UInt8):PlyW w0 (w.setCell ⟨pb,5,none⟩ (.string (txt s))) pb bb hb lb i0 i1 i2 ⟨p.b,p.h,s,p.lateB,p.n⟩:=⟨m.m.setLate s,m.b.setCell m.l.1 _,m.l⟩
theorem PlyW.setLateB {w0 w:World}{pb bb hb lb:Nat}{i0 i1 i2:Value}{p:Ply}(m:PlyW w0 w pb bb hb lb i0 i1 i2 p)(s:List UInt8):PlyW w0 (w.setCell ⟨pb,6,none⟩ (.string (txt s))) pb bb hb lb i0 i1 i2 ⟨p.b,p.h,p.late,s,p.n⟩:=⟨m.m.setLateB s,m.b.setCell m.l.1 _,m.l⟩
def PlyE (w0:World) (pb bb:Nat) (i0 i1 i2:Value) (p:Ply) (w:World):Prop:=∃ hb lb,PlyW w0 w pb bb hb lb i0 i1 i2 p
theorem Z3b {i:Img}(hw:Z11 i=true):i.bytes.length=1024∧i.laid.length=1024∧i.starts.length=1024:=by
 unfold Z11 at hw
 simp only [Bool.and_eq_true,decide_eq_true_eq] at hw
 exact hw
theorem Z4i (pb bb:Nat)(a0 a1 a2:Option Addr)(c0 c1 c2:Nat)(i:Img)(p:Ply)(w0 w:World)(hn:p.n≤60000)(hI:HImgAt w0 (.slice a0 1024 c0) (.slice a1 1024 c1) (.slice a2 1024 c2) i)(hw:Z11 i=true)(hB0:Below w0.heap.size w0 w)(hl:w0.heap.size≤pb∧w0.heap.size≤bb)(m:PlyC w pb bb (.slice a0 1024 c0) (.slice a1 1024 c1) (.slice a2 1024 c2) p) :
  Calls Tryz.prog 9 #[.pointer (some ⟨pb,0,none⟩)] w fun e w'=>e=.returned (.bool true)∧PlyE w0 pb bb (.slice a0 1024 c0) (.slice a1 1024 c1) (.slice a2 1024 c2) ⟨p.b,hst0 i (p.n+1),p.late,p.lateB,p.n+1⟩ w':=by
 obtain ⟨l0,l1,l2⟩:=Z3b hw
 obtain ⟨W1,hW1⟩:∃ W,w.setCell ⟨pb,7,none⟩ (.int .i64 ((p.n:Int)+1))=W:=⟨_,rfl⟩
 have m1:PlyC W1 pb bb (.slice a0 1024 c0) (.slice a1 1024 c1) (.slice a2 1024 c2) ⟨p.b,p.h,p.late,p.lateB,p.n+1⟩:=by
  rw [←hW1]
  exact m.setN (p.n+1)
 have hB1:Below w0.heap.size w0 W1:=by rw [←hW1];exact hB0.setCell hl.1 _
 have HN:=Z0a (newHost_any a0 a1 a2 1024 1024 1024 c0 c1 c2 i ((p.n:Int)+1) W1.drew (hI.below hB1.drew) l0.symm l1.symm l2.symm hw)
 have hs:sesN ((p.n:Int)+1)=p.n+1:=by unfold sesN;omega
 rw [hs] at HN
 have hok:HOk (hst0 i (p.n+1)):=by
  have:=hst0_ok i ((p.n:Int)+1) l0
  rwa [hs] at this
 have hst:(hst0 i (p.n+1)).state=0:=rfl
 obtain ⟨H,hH⟩:∃ H,hst0 i (p.n+1)=H:=⟨_,rfl⟩
 rw [hH] at HN hok hst ⊢
 have k7:=m.c7
 have f7:=m.fz 7
 have HM:=Z0a (And.intro m1 (And.intro hB1 hl))
 have d2:=m1.c2
 have d3:=m1.c3
 have d4:=m1.c4
 have d7:W1.cell? ⟨pb,7,none⟩=some (.int .i64 ((p.n:Int)+1)):=m1.c7
 have hlt:=m1.lt
 clear hI hw hB0 hl m m1 hB1 hs hH l0 l1 l2
 go_enter Tryz.func9,Tryz.ntmps9
 go_wp2_with fail
 go_region_held3 (fun w'=>w'.cell? ⟨pb,2,none⟩=some (.slice a0 1024 c0)∧w'.cell? ⟨pb,3,none⟩=some (.slice a1 1024 c1)∧w'.cell? ⟨pb,4,none⟩=some (.slice a2 1024 c2)∧w'.cell? ⟨pb,7,none⟩=some (.int .i64 ((p.n:Int)+1))) (go_keep) (first | (go_at_call 27;refine HN.out.mono ?_;rintro e w2 ⟨rfl,hh2,hB2⟩;have x2:=(World.cell?_of_block (a:=⟨pb,2,none⟩) (hB2.block _ hlt)).trans d2;have x3:=(World.cell?_of_block (a:=⟨pb,3,none⟩) (hB2.block _ hlt)).trans d3;have x4:=(World.cell?_of_block (a:=⟨pb,4,none⟩) (hB2.block _ hlt)).trans d4;have x7:=(World.cell?_of_block (a:=⟨pb,7,none⟩) (hB2.block _ hlt)).trans d7;have HH:=Z0a (And.intro hh2 hB2);clear hh2 hB2))
 all_goals
  obtain ⟨⟨lb,mh,hlb⟩,hB2⟩:=HH.out
  obtain ⟨m1,hB1,hl1,hl2⟩:=HM.out
  have hBB:Below W1.heap.size W1 w2:=⟨hB2.os,hB2.tape,hB2.output,hB2.size,hB2.block⟩
  have mC:=m1.below hBB
  have hlb':W1.heap.size≤lb:=hlb
  have hbl:bb<W1.heap.size:=m1.b.sto.lt
  obtain ⟨N,hN⟩:∃ N,W1.heap.size=N:=⟨_,rfl⟩
  have hN2:W1.drew.heap.size=N:=hN
  rw [hN2] at mh
  have pm:=mC.setHost mh hok ⟨by omega,by omega,by omega,by omega⟩
  obtain ⟨v1,e1⟩:=mC.c1
  have f1:=mC.fz 1
  obtain ⟨W3,hW3⟩:∃ W,w2.setCell ⟨pb,1,none⟩ (.pointer (some ⟨N+1,0,none⟩))=W:=⟨_,rfl⟩
  rw [hW3] at pm
  have HS:=Z0a (Z4n (N+1) lb H W3 pm.h)
  have hs1:=hB1.size
  have HP:Hid (PlyE w0 pb bb (.slice a0 1024 c0) (.slice a1 1024 c1) (.slice a2 1024 c2) ⟨p.b,H,p.late,p.lateB,p.n+1⟩ W3):=⟨N+1,lb,pm,by rw [←hW3];exact (hB1.trans (hBB.mono hs1)).setCell hl1 _,hl1,hl2,by omega⟩
  rw [hst] at HS
  rw [hN]
  clear HH HM m1 hB1 hl1 hl2 hB2 hBB mC mh hlb hlb' hbl hN hN2 pm hs1 d2 d3 d4 d7 x2 x3 x4 x7 HN hok hst hlt
  go_wp2_with (first | (go_at_call 10;refine HS.out.mono ?_;rintro e w4 ⟨rfl,rfl⟩))
  go_ret
  exact ⟨rfl,HP.out⟩
theorem laidP_mem {i:Img}(hl:i.laid.length=1024){g:Nat}(hg:g<16):true∈Z3c i g↔∃ q,q<64∧i.laid.getD (64*g+q) false=true:=by
 unfold Z3c
 constructor
 ·intro h
  obtain ⟨q,hq,e⟩:=List.getElem_of_mem h
  rw [List.length_take,List.length_drop] at hq
  refine ⟨q,by omega,?_⟩
  rw [List.getElem_take,List.getElem_drop] at e
  rw [List.getD_eq_getElem?_getD,List.getElem?_eq_getElem (by omega)]
  exact e
 ·rintro ⟨q,hq,e⟩
  rw [List.getD_eq_getElem?_getD,List.getElem?_eq_getElem (by omega)] at e
  refine List.mem_of_getElem (i:=q) (h:=by rw [List.length_take,List.length_drop];omega) ?_
  rw [List.getElem_take,List.getElem_drop]
  exact e
theorem kwanted_any (pb g:Nat)(hg:g<16)(b off cap:Nat)(i:Img)(w:World)(hl:i.laid.length=1024)(c3:w.cell? ⟨pb,3,none⟩=some (.slice (some ⟨b,off,none⟩) 1024 cap))(hc:∀ k,k<1024→w.cell? ⟨b,off+k,none⟩=some (.bool (i.laid.getD k false))) :
  Calls Tryz.prog 30 #[.pointer (some ⟨pb,0,none⟩),.int .i64 (g:Int)] w fun e w'=>e=.returned (.bool (decide (true∈Z3c i g)))∧w'=w:=by
 obtain ⟨V,hV⟩:∃ V,decide (true∈Z3c i g)=V:=⟨_,rfl⟩
 rw [hV]
 have HV:Hid (V=true↔∃ q,q<64∧i.laid.getD (64*g+q) false=true):=by
  rw [←hV,decide_eq_true_iff]
  exact laidP_mem hl hg
 clear hV
 obtain ⟨G,hG⟩:∃ G:Nat,64*g=G:=⟨_,rfl⟩
 rw [hG] at HV
 have hGi:64*(g:Int)=(G:Int):=by omega
 have hG2:G≤960:=by omega
 have HC:=Z0a hc
 clear hc hG
 go_enter Tryz.func30,Tryz.ntmps30
 go_wp2_with fail
 go_loopw [5] (fun x wr=>∃ j:Nat,j≤64∧x=.int .i64 ((G+j:Nat):Int)∧(∀ q,q<j→i.laid.getD (G+q) false=false)∧wr=w) (fun x _=>G+64-(intOf x).toNat)
 case atStart=>exact ⟨0,by omega,rfl,fun q hq=>absurd hq (Nat.not_lt_zero _),rfl⟩
 case round =>
  obtain ⟨j,hj,rfl,hno,rfl⟩:=hrel
  obtain ⟨K,hK⟩:∃ K:Nat,G+j=K:=⟨_,rfl⟩
  rw [hK]
  have hwg:IntKind.i64.wrap ((G:Int)+64)=(G:Int)+64:=by rw [IntKind.wrap_i64];omega
  by_cases hlt:j<64
  ·have hKi:(K:Int)<(G:Int)+64:=by omega
   have hK3:(K:Int)<1024:=by omega
   have cK:=HC.out K (by omega)
   have HNO:=Z0a (And.intro hno hK)
   cases hb:i.laid.getD K false with
   | true =>
    rw [hb] at cK
    have HT:Hid (V=true):=by
     exact HV.out.2 ⟨j,hlt,by rw [hK];exact hb⟩
    clear hb hno hK
    go_wp2
    go_ret
    exact ⟨by rw [HT.out];rfl,rfl⟩
   | false =>
    rw [hb] at cK
    have HF:=Z0a hb
    clear hb hno hK
    go_wp2
    go_roundw
    case rel =>
     refine ⟨j+1,by omega,?_,fun q hq=>?_,by first | rfl | trivial⟩
     ·have:=HNO.out.2
      rw [show G+(j+1)=K+1 by omega]
      go_num
     ·by_cases e:q=j
      ·rw [e,HNO.out.2]
       exact HF.out
      ·exact HNO.out.1 q (by omega)
    case measure =>
     have:=HNO.out.2
     simp [intOf]
     omega
  ·have hKi:¬ (K:Int)<(G:Int)+64:=by omega
   have HT:Hid (V=false):=by
    refine Bool.eq_false_iff.2 (fun e1=>?_)
    obtain ⟨q,hq,e⟩:=HV.out.1 e1
    rw [hno q (by omega)] at e
    cases e
   clear hno hK
   go_wp2
   go_ret
   exact ⟨by rw [HT.out];rfl,rfl⟩
def Z00 (W:List Pg) (s:Ply) (q:List UInt8):Prop:=q=s.h.asked∨(GoodQ W q∧s.late=Z0c q)
def NoEx (b:Brd) (q:List UInt8):Prop:=b.on=true→b.talk.opn=true→Z0C q=b.talk.ses→(q.getD 2 0).toNat≤b.talk.num.toNat
structure Jn (W:List Pg) (s:Ply) (d k:Nat):Prop where
 left:s.h.left=W.drop d
 le:d≤W.length
 burnt:∀ p∈W.take d,Z0h s.b.mem p.n=true
 used:Used s.b.mem k
 count:k≤2*d∨(k≤2*d+2∧(s.h.take≠1∧s.h.take≠2∧s.h.take≠4)∧∀ q,Z00 W s q→q.getD 3 0=2→NoEx s.b q)
 good:GoodQ W s.h.asked
 num:∀ q,Z00 W s q→(q.getD 2 0).toNat≤61∧(q.getD 3 0≠1→1≤(q.getD 2 0).toNat)
 page:∀ q,Z00 W s q→q.getD 3 0=2→∃ p,W[d]?=some p∧q.getD 4 0=p.n
 opens:∀ q q',Z00 W s q→Z00 W s q'→q.getD 3 0=1→q'.getD 3 0≠2
 one:∀ q q',Z00 W s q→Z00 W s q'→q.getD 3 0=2→q'.getD 3 0=2→q=q'
 others:s.h.take=1∨s.h.take=2∨s.h.take=4→∀ q,Z00 W s q→q.getD 3 0≠2
theorem ans_does (p:Pow)(m:List UInt8)(t:Talk)(q:List UInt8)(hk:Z16 q=true) :
  ((Z0e p m t q).1=p∧(Z0e p m t q).2.1=m∧(Z0e p m t q).2.2.1=t∧(Z0e p m t q).2.2.2.2=true) ∨
  ((q.getD 3 0≠1→t.opn=true∧Z0C q=t.ses∧q.getD 2 0=t.num+1)∧Z0e p m t q=(if (doF p m (q.getD 3 0) (q.drop 4)).1.2.2=true then ((doF p m (q.getD 3 0) (q.drop 4)).1.1,(doF p m (q.getD 3 0) (q.drop 4)).1.2.1,⟨if q.getD 3 0=1 then true else t.opn,if q.getD 3 0=1 then Z0C q else t.ses,q.getD 2 0,Z0c (q.take 3++(doF p m (q.getD 3 0) (q.drop 4)).2)⟩,Z0c (q.take 3++(doF p m (q.getD 3 0) (q.drop 4)).2),true)
   else ((doF p m (q.getD 3 0) (q.drop 4)).1.1,(doF p m (q.getD 3 0) (q.drop 4)).1.2.1,⟨if q.getD 3 0=1 then true else t.opn,if q.getD 3 0=1 then Z0C q else t.ses,q.getD 2 0,t.ans⟩,[],false))):=by
 by_cases c1:q.getD 3 0≠1∧(t.opn=false∨Z0C q≠t.ses)
 ·have e:Z0e p m t q=(p,m,t,[],true):=by unfold Z0e;rw [if_neg (by simp [hk]),if_pos c1]
  rw [e]
  exact .inl ⟨rfl,rfl,rfl,rfl⟩
 by_cases c2:q.getD 3 0≠1∧q.getD 2 0=t.num
 ·have e:Z0e p m t q=(p,m,t,t.ans,true):=by unfold Z0e;rw [if_neg (by simp [hk]),if_neg c1,if_pos c2]
  rw [e]
  exact .inl ⟨rfl,rfl,rfl,rfl⟩
 by_cases c3:q.getD 3 0≠1∧q.getD 2 0≠t.num+1
 ·have e:Z0e p m t q=(p,m,t,[],true):=by unfold Z0e;rw [if_neg (by simp [hk]),if_neg c1,if_neg c2,if_pos c3]
  rw [e]
  exact .inl ⟨rfl,rfl,rfl,rfl⟩
 refine .inr ⟨fun h=>⟨?_,?_,?_⟩,?_⟩
 ·cases ht:t.opn with
  | true=>rfl
  | false=>exact absurd ⟨h,.inl ht⟩ c1
 ·exact Classical.byContradiction fun e=>c1 ⟨h,.inr e⟩
 ·exact Classical.byContradiction fun e=>c3 ⟨h,e⟩
 ·conv=>lhs;unfold Z0e
  rw [if_neg (by simp [hk]),if_neg c1,if_neg c2,if_neg c3]
theorem u8_next {x y:UInt8}(h:x=y+1)(h1:1≤x.toNat):x.toNat=y.toNat+1:=by
 have:=y.toNat_lt
 rw [h,UInt8.toNat_add] at h1 ⊢
 have e:(1:UInt8).toNat=1:=rfl
 rw [e] at h1 ⊢
 omega
theorem Jn.setB {W:List Pg}{s:Ply}{d k:Nat}(j:Jn W s d k)(b:Brd)(hm:b.mem=s.b.mem)(hx:∀ q,Z00 W s q→q.getD 3 0=2→NoEx s.b q→NoEx b q):Jn W { s with b:=b } d k:=by
 refine ⟨j.left,j.le,?_,?_,?_,j.good,j.num,j.page,j.opens,j.one,j.others⟩
 ·show ∀ p∈W.take d,Z0h b.mem p.n=true
  rw [hm]
  exact j.burnt
 ·show Used b.mem k
  rw [hm]
  exact j.used
 ·rcases j.count with c | ⟨c1,c2,c3⟩
  ·exact .inl c
  ·exact .inr ⟨c1,c2,fun q h1 h2=>hx q h1 h2 (c3 q h1 h2)⟩
theorem Jn.board {W:List Pg}{s:Ply}(hi:Inv W s){d k:Nat}(j:Jn W s d k)(q:List UInt8)(hq:Z00 W s q):∃ k',Jn W { s with b:=(Z0D s.b (betw (Z0c q))).1 } d k':=by
 have hgq:GoodQ W q:=by
  rcases hq with rfl | h
  ·exact j.good
  ·exact h.1
 obtain ⟨l1,l2,l3⟩:=hgq.len hi.w
 have hear:Z0p s.b.ear (betw (Z0c q))=(⟨1,[]⟩,[q]):=by rw [Z02 hi.ear,Z2M l1 l2]
 by_cases hon:s.b.on=true
 ·obtain ⟨A,hA⟩:∃ A,Z0e s.b.pow s.b.mem s.b.talk q=A:=⟨_,rfl⟩
  have hb:Z0D s.b (betw (Z0c q))=if A.2.2.2.2=true then (⟨true,A.1,A.2.1,⟨1,[]⟩,A.2.2.1⟩,A.2.2.2.1) else (⟨false,pow0,A.2.1,ear0,Z5E⟩,[]):=by
   unfold Z0D
   rw [if_neg (by rw [hon];simp),hear]
   simp only [Z0G,hA]
   by_cases h:A.2.2.2.2=true
   ·simp [h]
   ·simp [h]
  obtain ⟨g1,g2,g3⟩:=ans_good (p:=s.b.pow) (t:=s.b.talk) hi.w hi.mem hgq
  rw [hA] at g1 g2 g3
  rw [hb]
  rcases ans_does s.b.pow s.b.mem s.b.talk q l3 with ⟨e1,e2,e3,e4⟩ | ⟨c,e⟩
  ·rw [hA] at e1 e2 e3 e4
   rw [if_pos e4]
   refine ⟨k,j.setB _ e2 (fun q' _ _ hx _=>?_)⟩
   show A.2.2.1.opn=true→Z0C q'=A.2.2.1.ses→_≤A.2.2.1.num.toNat
   rw [e3]
   exact hx hon
  ·rw [hA] at e
   by_cases h2:q.getD 3 0=2
   ·-- PAGE
    obtain ⟨o1,o2,o3⟩:=c (by rw [h2];decide)
    have hnx:=u8_next o3 ((j.num q hq).2 (by rw [h2];decide))
    have hk0:k≤2*d:=by
     rcases j.count with h | ⟨_,_,h⟩
     ·exact h
     ·have:=h q hq h2 hon o1 o2
      omega
    have htk:s.h.take≠1∧s.h.take≠2∧s.h.take≠4:=⟨fun e=>j.others (.inl e) q hq h2,fun e=>j.others (.inr (.inl e)) q hq h2,fun e=>j.others (.inr (.inr e)) q hq h2⟩
    obtain ⟨pg,hpg,hn4⟩:=j.page q hq h2
    have hdl:d<W.length:=by
     rcases Nat.lt_or_ge d W.length with h | h
     ·exact h
     ·rw [List.getElem?_eq_none h] at hpg
      cases hpg
    have hburnt:∀ p∈W.take d,Z0h A.2.1 p.n=true:=fun p hp=>by
     have hpW:p∈W:=List.mem_of_mem_take hp
     rw [g3 p.n (hi.w.pages p hpW).1 ?_]
     ·exact j.burnt p hp
     ·rintro ⟨_,e4⟩
      have h:=hi.w.once
      rw [←List.take_append_drop d W] at h
      refine (List.pairwise_append.1 h).2.2 p hp pg ?_ (by rw [←e4,hn4])
      exact List.mem_of_getElem? (i:=0) (by rw [List.getElem?_drop,Nat.add_zero];exact hpg)
    have hused:∃ k',Used A.2.1 k'∧k'≤k+2:=by
     have hm:A.2.1=(doF s.b.pow s.b.mem (q.getD 3 0) (q.drop 4)).1.2.1:=by
      rw [e]
      split <;> rfl
     rw [hm]
     have hd:doF s.b.pow s.b.mem (q.getD 3 0) (q.drop 4)=if (q.drop 4).getD 0 0<16∧2≤Z4m s.b.mem then (Z0J s.b.pow s.b.mem ((q.drop 4).getD 0 0) ((q.drop 4).drop 1),[1]) else ((s.b.pow,s.b.mem,true),[2]):=by
      unfold doF
      rw [if_pos h2]
     rw [hd]
     by_cases hc:(q.drop 4).getD 0 0<16∧2≤Z4m s.b.mem
     ·rw [if_pos hc]
      have hk2:k+2≤60:=by
       have:=Z3Y j.used
       omega
      have hbl:((q.drop 4).drop 1).length=64:=by
       obtain ⟨ses,num,_,rfl | rfl | ⟨g,rfl⟩ | ⟨p2,hp2,rfl⟩⟩:=hgq
       ·simp [Z0F] at h2
       ·simp [Z0F] at h2
       ·simp [Z0F] at h2
       ·exact (hi.w.pages p2 hp2).2
      by_cases hl:Z1t s.b.pow 136
      ·rw [Z1W j.used hk2 hc.1 hbl hl]
       exact ⟨k+2,(Z4U j.used hk2 hc.1 hbl).1,Nat.le_refl _⟩
      ·obtain ⟨p',m',he,hL⟩:=Z2V j.used hk2 hc.1 hbl hl
       rw [he]
       obtain ⟨k',u1,_,u3⟩:=hL.used
       exact ⟨k',u1,u3⟩
     ·rw [if_neg hc]
      exact ⟨k,j.used,by omega⟩
    obtain ⟨k',u1,u2⟩:=hused
    by_cases hok:A.2.2.2.2=true
    ·rw [if_pos hok]
     refine ⟨k',j.left,j.le,hburnt,u1,.inr ⟨by omega,htk,fun q' hq' h2' _ _ _=>?_⟩,j.good,j.num,j.page,j.opens,j.one,j.others⟩
     have:q'=q:=j.one q' q hq' hq h2' h2
     rw [this]
     show (q.getD 2 0).toNat≤A.2.2.1.num.toNat
     have:A.2.2.1.num=q.getD 2 0:=by
      rw [e]
      split <;> rfl
     rw [this]
     exact Nat.le_refl _
    ·rw [if_neg hok]
     exact ⟨k',j.left,j.le,hburnt,u1,.inr ⟨by omega,htk,fun q' _ _ h=>by cases h⟩,j.good,j.num,j.page,j.opens,j.one,j.others⟩
   ·-- no PAGE: memory stays
    obtain ⟨hm,hok⟩:=g2 h2
    rw [if_pos hok]
    refine ⟨k,j.setB _ hm (fun q' hq' h2' hx _ ho hs=>?_)⟩
    by_cases h1:q.getD 3 0=1
    ·exact absurd h2' (j.opens q q' hq hq' h1)
    ·obtain ⟨o1,o2,o3⟩:=c h1
     have hnx:=u8_next o3 ((j.num q hq).2 h1)
     have ht:A.2.2.1.num=q.getD 2 0∧A.2.2.1.ses=s.b.talk.ses:=by
      rw [e]
      split
      ·exact ⟨rfl,rfl⟩
      ·exact ⟨rfl,rfl⟩
     have hs':Z0C q'=s.b.talk.ses:=by
      have:Z0C q'=A.2.2.1.ses:=hs
      rw [this,ht.2]
     have:=hx hon o1 hs'
     show (q'.getD 2 0).toNat≤A.2.2.1.num.toNat
     rw [ht.1]
     omega
 ·have hoff:s.b.on=false:=by simpa using hon
  have e:Z0D s.b (betw (Z0c q))=(s.b,[]):=by unfold Z0D;rw [if_pos hoff]
  rw [e]
  exact ⟨k,j⟩
theorem Jn.silent {W:List Pg}{s:Ply}(hi:Inv W s){d k:Nat}(j:Jn W s d k){t:List UInt8}(ht:msS t=[]):Jn W { s with b:=(Z0D s.b (betw t)).1 } d k:=by
 unfold Z0D
 by_cases hon:s.b.on=false
 ·rw [if_pos hon]
  exact j
 ·rw [if_neg hon,Z02 hi.ear,ht]
  simp only [Z0G,if_true]
  have hon':s.b.on=true:=by simpa using hon
  exact j.setB _ rfl (fun q _ _ hx _ h2 h3=>hx hon' h2 h3)
theorem Jn.cut {W:List Pg}{s:Ply}{d k:Nat}(j:Jn W s d k)(n:Int)(mask:UInt8):Jn W { s with b:=cutF s.b n mask } d k:=by
 unfold cutF
 split
 ·rename_i h
  exact j.setB _ rfl (fun q _ _ hx _ h2 h3=>hx h h2 h3)
 ·exact j
theorem Jn.boot {W:List Pg}{s:Ply}{d k:Nat}(j:Jn W s d k):Jn W { s with b:=Z5C s.b } d k :=
 j.setB _ rfl (fun q _ _ _ _ h2=>by cases h2)
end Go.Proofs.YthokdbcpkmcieabGreatDoor
