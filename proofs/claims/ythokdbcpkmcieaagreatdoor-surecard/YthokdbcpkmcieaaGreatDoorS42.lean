/- SurK SurL SurM SurN SurO EndD SurP -/
import Derived.Test.YthokdbcpkmcieaaGreatDoorS41
import Derived.Laws.Concat
import Derived.Deep.RegionWith
import Derived.Deep.RegionHeld3
import Derived.Test.YthokdbcpkmcieaaGreatDoorS29
import Derived.BigQuiet
import Derived.WalkSmall
set_option maxRecDepth 200000
set_option maxHeartbeats 8000000
namespace Go.Proofs.YthokdbcpkmcieaaGreatDoor
open Go Go.RowKit
theorem khost_some (t:List UInt8)(ht:t.length≤3000000)(hne:t≠[])(pb bb hb lb:Nat)(i0 i1 i2:Value)(p:Ply)(w:World)(m:PlyM w pb bb hb lb i0 i1 i2 p) :
  Calls Tryz.prog 41 #[.pointer (some ⟨pb,0,none⟩),.string (txt t)] w fun e w'=>e=.returned (.tuple #[])∧PlyM w' pb bb hb lb i0 i1 i2 ⟨p.b,hearH p.h (betw t),p.late,p.lateB,p.n⟩∧∃ w1,Below w.heap.size w w1∧w1.grownBy w' (some hb):=by
 have HFL:=Z0a (fun w'=>Z7G w')
 have HH:=Z0a (fun w' (h':HstM w' hb lb p.h)=>bhHear_any hb lb p.h (txt [126]++txt t++txt [126]) w' h' m.ok (by rw [ByteArray.size_append,ByteArray.size_append,Z0k,Z0k];simp;omega))
 have hd:(txt [126]++txt t++txt [126]).data.toList=betw t:=by rw [Z2B,Z2B,Z6C];rfl
 rw [hd] at HH
 obtain ⟨R,hR⟩:∃ R,hearH p.h (betw t)=R:=⟨_,rfl⟩
 rw [hR] at HH ⊢
 have hne2:(txt t).toList.isEmpty=false:=Z0C (txt t) (by rw [Z0k];exact List.length_pos_iff.2 hne)
 have hs1:(txt [126]).size=1:=rfl
 have hfs2:(txt t).size≤3000000:=by rw [Z0k];exact ht
 obtain ⟨F,hF⟩:∃ F,txt t=F:=⟨_,rfl⟩
 obtain ⟨G,hG⟩:∃ G,txt [126]=G:=⟨_,rfl⟩
 rw [hF] at HH hfs2 hne2 ⊢
 rw [hG] at HH HFL hs1
 obtain ⟨GF,hGF⟩:∃ GF,G++F=GF:=⟨_,rfl⟩
 obtain ⟨T,hT⟩:∃ T,GF++G=T:=⟨_,rfl⟩
 have hGFs:GF.size≤3000001:=by rw [←hGF,ByteArray.size_append];omega
 have q1:∀ w':World,(Op.stringOp .add G F).run Tryz.prog w'=.ok (.string GF) w':=fun w'=>by
  have e:=run_string_add_sum (P:=Tryz.prog) (w:=w') G F (by omega)
  rw [hGF] at e
  exact e
 have q2:∀ w':World,(Op.stringOp .add GF G).run Tryz.prog w'=.ok (.string T) w':=fun w'=>by
  have e:=run_string_add_sum (P:=Tryz.prog) (w:=w') GF G (by omega)
  rw [hT] at e
  exact e
 rw [hGF,hT] at HH
 have hok:HOk R:=by rw [←hR];exact m.ok.hearH _
 have k0:=m.c1
 have hM0:PlyM w.drew pb bb hb lb i0 i1 i2 p:=m.below (Below.refl _ _).drew
 have hg0:Below w.heap.size w w.drew:=(Below.refl _ _).drew
 clear hd hF hG hR hGF hT m hne ht hs1 hfs2 hGFs
 go_enter Tryz.func41,Tryz.ntmps41
 go_wp2_with fail
 refine wp_region_noPanic ?_
 refine wp_region_held_drew (S:=fun w'=>w'.cell? ⟨pb,1,none⟩=some (.pointer (some ⟨hb,0,none⟩))) (by kernel_rfl) (by exact k0) (fun hHeld=>?_)
 refine wpAnyH_take (i:=0) (v:=?v0) rfl (by kernel_rfl) (by kernel_rfl) (by kernel_rfl) (fun _ _ _ h=>h) (Or.inl ⟨by rfl,?hy0⟩) (by assumption) ?rest0
 case hy0=>(intro w hSw;(try dsimp only at hSw);go_simp;try with_reducible rfl)
 simp only [Act.put,List.setIfInBounds_toArray]
 refine wpAnyH_take (i:=1) (v:=?v1) rfl (by kernel_rfl) (by kernel_rfl) (by kernel_rfl) (fun _ _ _ h=>h) (Or.inl ⟨by rfl,?hy1⟩) (by assumption) ?rest1
 case hy1=>(intro w hSw;(try dsimp only at hSw);go_simp;try with_reducible rfl)
 simp only [Act.put]
 refine wpAnyH_take (i:=2) (v:=?v2) rfl (by kernel_rfl) (by kernel_rfl) (by kernel_rfl) (fun _ _ _ h=>h) (Or.inl ⟨by rfl,?hy2⟩) (by assumption) ?rest2
 case hy2=>(intro w hSw;(try dsimp only at hSw);go_simp;try with_reducible rfl)
 simp only [Act.put]
 refine wpAnyH_take (i:=3) (v:=?v3) rfl (by kernel_rfl) (by kernel_rfl) (by kernel_rfl) (fun _ _ _ h=>h) (Or.inl ⟨by rfl,?hy3⟩) (by assumption) ?rest3
 case hy3=>(intro w hSw;(try dsimp only at hSw);go_simp;try with_reducible rfl)
 simp only [Act.put]
 refine wpAnyH_take (i:=5) (v:=?v5) rfl (by kernel_rfl) (by kernel_rfl) (by kernel_rfl) (fun _ _ _ h=>h) (Or.inl ⟨by rfl,?hy5⟩) (by assumption) ?rest5
 case hy5=>(intro w hSw;(try dsimp only at hSw);go_simp;try with_reducible rfl)
 simp only [Act.put]
 refine wpAnyH_ready (rs:=[4]) (by kernel_rfl) (by simp) (AllReadyH.cons rfl (fun K hK=>?_) AllReadyH.nil)
 go_simp
 refine (HFL.out _).mono ?_
 rintro e w1 ⟨rfl,hB1⟩
 have hM1:=hM0.below hB1
 have hg1:=hg0.trans (hB1.mono hg0.size)
 have k1:=hM1.c1
 dsimp only
 refine hK.out _ _ (by exact k1) (fun hHeld1=>?_)
 clear hK K
 refine wpAnyH_take (i:=6) (v:=?v6) rfl (by kernel_rfl) (by kernel_rfl) (by kernel_rfl) (fun _ _ _ h=>h) (Or.inl ⟨by rfl,?hy6⟩) (by assumption) ?rest6
 case hy6=>(intro w hSw;(try dsimp only at hSw);go_simp;try with_reducible rfl)
 simp only [Act.put,List.setIfInBounds_toArray]
 refine wpAnyH_ready (rs:=[7]) (by kernel_rfl) (by simp) (AllReadyH.cons rfl (fun K hK=>?_) AllReadyH.nil)
 go_simp
 refine (HFL.out _).mono ?_
 rintro e w2 ⟨rfl,hB2⟩
 have hM2:=hM1.below hB2
 have hg2:=hg1.trans (hB2.mono hg1.size)
 have k2:=hM2.c1
 dsimp only
 refine hK.out _ _ (by exact k2) (fun hHeld2=>?_)
 clear hK K
 refine wpAnyH_take (i:=8) (v:=?v8) rfl (by kernel_rfl) (by kernel_rfl) (by kernel_rfl) (fun _ _ _ h=>h) (Or.inl ⟨by rfl,?hy8⟩) (by assumption) ?rest8
 case hy8=>(intro w hSw;(try dsimp only at hSw);go_simp;try with_reducible rfl)
 simp only [Act.put,List.setIfInBounds_toArray]
 refine wpAnyH_ready (rs:=[9]) (by kernel_rfl) (by simp) (AllReadyH.cons rfl (fun K hK=>?_) AllReadyH.nil)
 go_simp
 refine (HH.out _ hM2.h).mono ?_
 rintro e w3 ⟨rfl,hb3,hg3⟩
 have hM3:=hM2.host hg3 hb3 hok
 have k3:=hM3.c1
 dsimp only
 refine hK.out _ _ (by exact k3) (fun hHeld3=>?_)
 clear hK K
 refine wpAnyH_done (by kernel_rfl) ?_ _
 refine NoPanic.normal ?_
 have HQ:=Z0a (And.intro hM3 (And.intro hg2 hg3))
 clear hM1 hM2 hM3 hg1 hg2 hg3
 go_wp2
 go_end0
 exact ⟨rfl,HQ.out.1,_,HQ.out.2.1,HQ.out.2.2⟩
theorem Z1F (t:List UInt8)(ht:t.length≤3000000)(pb bb hb lb:Nat)(i0 i1 i2:Value)(p:Ply)(w:World)(m:PlyM w pb bb hb lb i0 i1 i2 p) :
  Calls Tryz.prog 42 #[.pointer (some ⟨pb,0,none⟩),.string (txt t)] w fun e w'=>e=.returned (.string (txt (Z0b p t).2))∧PlyM w' pb bb hb lb i0 i1 i2 (Z0b p t).1∧∃ w1,Below w.heap.size w w1∧(w1=w'∨w1.grownBy w' (some bb)):=by
 by_cases hne:t=[]
 ·subst hne
  have HM:=Z0a m
  have e0:Z0b p []=(p,[]):=rfl
  rw [e0,show txt []=⟨#[]⟩ from rfl]
  clear m e0 ht
  go_enter Tryz.func42,Tryz.ntmps42
  go_wp2
  go_ret
  exact ⟨rfl,HM.out,_,Below.refl _ _,Or.inl rfl⟩
 ·refine (kboard_some t ht hne pb bb hb lb i0 i1 i2 p w m).mono ?_
  rintro e w' ⟨rfl,h1,w1,h2,h3⟩
  have e1:Z0b p t=(⟨(Z0N p.b (betw t)).1,p.h,p.late,p.lateB,p.n⟩,(Z0N p.b (betw t)).2):=if_neg hne
  rw [e1]
  exact ⟨rfl,h1,w1,h2,Or.inr h3⟩
theorem Z2l (t:List UInt8)(ht:t.length≤3000000)(pb bb hb lb:Nat)(i0 i1 i2:Value)(p:Ply)(w:World)(m:PlyM w pb bb hb lb i0 i1 i2 p) :
  Calls Tryz.prog 41 #[.pointer (some ⟨pb,0,none⟩),.string (txt t)] w fun e w'=>e=.returned (.tuple #[])∧PlyM w' pb bb hb lb i0 i1 i2 (hostP p t)∧∃ w1,Below w.heap.size w w1∧(w1=w'∨w1.grownBy w' (some hb)):=by
 by_cases hne:t=[]
 ·subst hne
  have HM:=Z0a m
  have e0:hostP p []=p:=rfl
  rw [e0,show txt []=⟨#[]⟩ from rfl]
  clear m e0 ht
  go_enter Tryz.func41,Tryz.ntmps41
  go_wp2
  go_end0
  exact ⟨rfl,HM.out,_,Below.refl _ _,Or.inl rfl⟩
 ·refine (khost_some t ht hne pb bb hb lb i0 i1 i2 p w m).mono ?_
  rintro e w' ⟨rfl,h1,w1,h2,h3⟩
  have e1:hostP p t=⟨p.b,hearH p.h (betw t),p.late,p.lateB,p.n⟩:=if_neg hne
  rw [e1]
  exact ⟨rfl,h1,w1,h2,Or.inr h3⟩
theorem PlyM.kept {w w':World}{pb bb hb lb:Nat}{i0 i1 i2:Value}{p:Ply}(m:PlyM w pb bb hb lb i0 i1 i2 p)(j:Nat)(x:Value)(e:w.setCell ⟨pb,j,none⟩ x=w'):BrdAt w' bb p.b∧HstM w' hb lb p.h∧(∀ k,k≠j→w'.cell? ⟨pb,k,none⟩=w.cell? ⟨pb,k,none⟩)∧(∀ k,w'.frozen? ⟨pb,k,none⟩=false):=by
 subst e
 obtain ⟨n1,n2,n3,n4,n5⟩:=m.ne
 have hz:w.heap.size≤(w.setCell ⟨pb,j,none⟩ x).heap.size:=by simp [World.setCell]
 refine ⟨m.b.kept (heap_setCell_other w ⟨pb,j,none⟩ bb x (Ne.symm n1)) hz,m.h.kept (heap_setCell_other w ⟨pb,j,none⟩ hb x (Ne.symm n2)) (heap_setCell_other w ⟨pb,j,none⟩ lb x (Ne.symm n3)) hz,fun k hk=>World.cell?_setCell_other _ _ _ _ (by simp <;> omega),fun k=>by simpa using m.fz k⟩
theorem PlyM.setLate {w:World}{pb bb hb lb:Nat}{i0 i1 i2:Value}{p:Ply}(m:PlyM w pb bb hb lb i0 i1 i2 p)(s:List UInt8):PlyM (w.setCell ⟨pb,5,none⟩ (.string (txt s))) pb bb hb lb i0 i1 i2 ⟨p.b,p.h,s,p.lateB,p.n⟩:=by
 obtain ⟨b,h,c,f⟩:=m.kept 5 (.string (txt s)) rfl
 exact ⟨(c 0 (by omega)).trans m.c0,(c 1 (by omega)).trans m.c1,(c 2 (by omega)).trans m.c2,(c 3 (by omega)).trans m.c3,(c 4 (by omega)).trans m.c4,World.cell?_setCell_same _ _ _ m.c5,(c 6 (by omega)).trans m.c6,(c 7 (by omega)).trans m.c7,f,b,h,m.ok,m.ne⟩
theorem PlyM.setLateB {w:World}{pb bb hb lb:Nat}{i0 i1 i2:Value}{p:Ply}(m:PlyM w pb bb hb lb i0 i1 i2 p)(s:List UInt8):PlyM (w.setCell ⟨pb,6,none⟩ (.string (txt s))) pb bb hb lb i0 i1 i2 ⟨p.b,p.h,p.late,s,p.n⟩:=by
 obtain ⟨b,h,c,f⟩:=m.kept 6 (.string (txt s)) rfl
 exact ⟨(c 0 (by omega)).trans m.c0,(c 1 (by omega)).trans m.c1,(c 2 (by omega)).trans m.c2,(c 3 (by omega)).trans m.c3,(c 4 (by omega)).trans m.c4,(c 5 (by omega)).trans m.c5,World.cell?_setCell_same _ _ _ m.c6,(c 7 (by omega)).trans m.c7,f,b,h,m.ok,m.ne⟩
structure PlyC (w:World) (pb bb:Nat) (i0 i1 i2:Value) (p:Ply):Prop where
 c0:w.cell? ⟨pb,0,none⟩=some (.pointer (some ⟨bb,0,none⟩))
 c1:∃ v,w.cell? ⟨pb,1,none⟩=some v
 c2:w.cell? ⟨pb,2,none⟩=some i0
 c3:w.cell? ⟨pb,3,none⟩=some i1
 c4:w.cell? ⟨pb,4,none⟩=some i2
 c5:w.cell? ⟨pb,5,none⟩=some (.string (txt p.late))
 c6:w.cell? ⟨pb,6,none⟩=some (.string (txt p.lateB))
 c7:w.cell? ⟨pb,7,none⟩=some (.int .i64 (p.n:Int))
 fz:∀ j,w.frozen? ⟨pb,j,none⟩=false
 b:BrdAt w bb p.b
 ne:pb≠bb
theorem PlyC.lt {w:World}{pb bb:Nat}{i0 i1 i2:Value}{p:Ply}(m:PlyC w pb bb i0 i1 i2 p):pb<w.heap.size:=World.block_lt_of_cell? _ _ m.c0
theorem PlyM.bare {w:World}{pb bb hb lb:Nat}{i0 i1 i2:Value}{p:Ply}(m:PlyM w pb bb hb lb i0 i1 i2 p):PlyC w pb bb i0 i1 i2 p:=⟨m.c0,⟨_,m.c1⟩,m.c2,m.c3,m.c4,m.c5,m.c6,m.c7,m.fz,m.b,m.ne.1⟩
theorem PlyC.below {w w':World}{pb bb:Nat}{i0 i1 i2:Value}{p:Ply}(m:PlyC w pb bb i0 i1 i2 p)(q:Below w.heap.size w w'):PlyC w' pb bb i0 i1 i2 p:=by
 have e:=q.block pb m.lt
 have hc:∀ j,w'.cell? ⟨pb,j,none⟩=w.cell? ⟨pb,j,none⟩:=fun j=>World.cell?_of_block (a:=⟨pb,j,none⟩) e
 obtain ⟨v,hv⟩:=m.c1
 exact ⟨(hc 0).trans m.c0,⟨v,(hc 1).trans hv⟩,(hc 2).trans m.c2,(hc 3).trans m.c3,(hc 4).trans m.c4,(hc 5).trans m.c5,(hc 6).trans m.c6,(hc 7).trans m.c7,fun j=>(World.frozen?_of_block (a:=⟨pb,j,none⟩) e).trans (m.fz j),m.b.below q,m.ne⟩
theorem PlyC.setN {w:World}{pb bb:Nat}{i0 i1 i2:Value}{p:Ply}(m:PlyC w pb bb i0 i1 i2 p)(n:Nat):PlyC (w.setCell ⟨pb,7,none⟩ (.int .i64 (n:Int))) pb bb i0 i1 i2 ⟨p.b,p.h,p.late,p.lateB,n⟩:=by
 have hz:w.heap.size≤(w.setCell ⟨pb,7,none⟩ (.int .i64 (n:Int))).heap.size:=by simp [World.setCell]
 have c:∀ k,k≠7→(w.setCell ⟨pb,7,none⟩ (.int .i64 (n:Int))).cell? ⟨pb,k,none⟩=w.cell? ⟨pb,k,none⟩:=fun k hk=>World.cell?_setCell_other _ _ _ _ (by simp <;> omega)
 obtain ⟨v,hv⟩:=m.c1
 exact ⟨(c 0 (by omega)).trans m.c0,⟨v,(c 1 (by omega)).trans hv⟩,(c 2 (by omega)).trans m.c2,(c 3 (by omega)).trans m.c3,(c 4 (by omega)).trans m.c4,(c 5 (by omega)).trans m.c5,(c 6 (by omega)).trans m.c6,World.cell?_setCell_same _ _ _ m.c7,fun j=>by simpa using m.fz j,m.b.kept (heap_setCell_other w ⟨pb,7,none⟩ bb _ (Ne.symm m.ne)) hz,m.ne⟩
theorem PlyC.setHost {w:World}{pb bb hb lb:Nat}{i0 i1 i2:Value}{p:Ply}{h:Hst}(m:PlyC w pb bb i0 i1 i2 p)(mh:HstM w hb lb h)(k:HOk h)(ne:pb≠hb∧pb≠lb∧bb≠hb∧bb≠lb):PlyM (w.setCell ⟨pb,1,none⟩ (.pointer (some ⟨hb,0,none⟩))) pb bb hb lb i0 i1 i2 ⟨p.b,h,p.late,p.lateB,p.n⟩:=by
 have hz:w.heap.size≤(w.setCell ⟨pb,1,none⟩ (.pointer (some ⟨hb,0,none⟩))).heap.size:=by simp [World.setCell]
 have c:∀ k,k≠1→(w.setCell ⟨pb,1,none⟩ (.pointer (some ⟨hb,0,none⟩))).cell? ⟨pb,k,none⟩=w.cell? ⟨pb,k,none⟩:=fun k hk=>World.cell?_setCell_other _ _ _ _ (by simp <;> omega)
 obtain ⟨v,hv⟩:=m.c1
 exact ⟨(c 0 (by omega)).trans m.c0,World.cell?_setCell_same _ _ _ hv,(c 2 (by omega)).trans m.c2,(c 3 (by omega)).trans m.c3,(c 4 (by omega)).trans m.c4,(c 5 (by omega)).trans m.c5,(c 6 (by omega)).trans m.c6,(c 7 (by omega)).trans m.c7,fun j=>by simpa using m.fz j,m.b.kept (heap_setCell_other w ⟨pb,1,none⟩ bb _ (Ne.symm m.ne)) hz,mh.kept (heap_setCell_other w ⟨pb,1,none⟩ hb _ (Ne.symm ne.1)) (heap_setCell_other w ⟨pb,1,none⟩ lb _ (Ne.symm ne.2.1)) hz,k,⟨m.ne,ne.1,ne.2.1,ne.2.2.1,ne.2.2.2⟩⟩
structure PlyW (w0 w:World) (pb bb hb lb:Nat) (i0 i1 i2:Value) (p:Ply):Prop where
 m:PlyM w pb bb hb lb i0 i1 i2 p
 b:Below w0.heap.size w0 w
 l:w0.heap.size≤pb∧w0.heap.size≤bb∧w0.heap.size≤hb
theorem PlyW.below {w0 w w':World}{pb bb hb lb:Nat}{i0 i1 i2:Value}{p:Ply}(m:PlyW w0 w pb bb hb lb i0 i1 i2 p)(q:Below w.heap.size w w'):PlyW w0 w' pb bb hb lb i0 i1 i2 p:=⟨m.m.below q,m.b.trans (q.mono m.b.size),m.l⟩
theorem below_grown {w0 w w':World}{x:Nat}(h:Below w0.heap.size w0 w)(g:w.grownBy w' (some x))(hx:w0.heap.size≤x):Below w0.heap.size w0 w':=h.grown g h.size (fun k e=>by cases e;exact hx)
theorem PlyW.board {w0 w w':World}{pb bb hb lb:Nat}{i0 i1 i2:Value}{p p':Ply}(m:PlyW w0 w pb bb hb lb i0 i1 i2 p)(m':PlyM w' pb bb hb lb i0 i1 i2 p')(q:∃ w1,Below w.heap.size w w1∧(w1=w'∨w1.grownBy w' (some bb))):PlyW w0 w' pb bb hb lb i0 i1 i2 p':=by
 obtain ⟨w1,q1,q2⟩:=q
 have b1:=m.b.trans (q1.mono m.b.size)
 refine ⟨m',?_,m.l⟩
 rcases q2 with rfl | q2
 ·exact b1
 ·exact below_grown b1 q2 m.l.2.1
theorem PlyW.host {w0 w w':World}{pb bb hb lb:Nat}{i0 i1 i2:Value}{p p':Ply}(m:PlyW w0 w pb bb hb lb i0 i1 i2 p)(m':PlyM w' pb bb hb lb i0 i1 i2 p')(q:∃ w1,Below w.heap.size w w1∧(w1=w'∨w1.grownBy w' (some hb))):PlyW w0 w' pb bb hb lb i0 i1 i2 p':=by
 obtain ⟨w1,q1,q2⟩:=q
 have b1:=m.b.trans (q1.mono m.b.size)
 refine ⟨m',?_,m.l⟩
 rcases q2 with rfl | q2
 ·exact b1
 ·exact below_grown b1 q2 m.l.2.2
theorem PlyW.boardG {w0 w w':World}{pb bb hb lb:Nat}{i0 i1 i2:Value}{p:Ply}{b:Brd}(m:PlyW w0 w pb bb hb lb i0 i1 i2 p)(q:w.grownBy w' (some bb))(hb':BrdAt w' bb b):PlyW w0 w' pb bb hb lb i0 i1 i2 ⟨b,p.h,p.late,p.lateB,p.n⟩:=⟨m.m.board q hb',below_grown m.b q m.l.2.1,m.l⟩
theorem PlyW.hostG {w0 w w':World}{pb bb hb lb:Nat}{i0 i1 i2:Value}{p:Ply}{h:Hst}(m:PlyW w0 w pb bb hb lb i0 i1 i2 p)(q:w.grownBy w' (some hb))(hh:HstM w' hb lb h)(k:HOk h):PlyW w0 w' pb bb hb lb i0 i1 i2 ⟨p.b,h,p.late,p.lateB,p.n⟩:=⟨m.m.host q hh k,below_grown m.b q m.l.2.2,m.l⟩
theorem PlyW.setLate {w0 w:World}{pb bb hb lb:Nat}{i0 i1 i2:Value}{p:Ply}(m:PlyW w0 w pb bb hb lb i0 i1 i2 p)(s:List UInt8):PlyW w0 (w.setCell ⟨pb,5,none⟩ (.string (txt s))) pb bb hb lb i0 i1 i2 ⟨p.b,p.h,s,p.lateB,p.n⟩:=⟨m.m.setLate s,m.b.setCell m.l.1 _,m.l⟩
theorem PlyW.setLateB {w0 w:World}{pb bb hb lb:Nat}{i0 i1 i2:Value}{p:Ply}(m:PlyW w0 w pb bb hb lb i0 i1 i2 p)(s:List UInt8):PlyW w0 (w.setCell ⟨pb,6,none⟩ (.string (txt s))) pb bb hb lb i0 i1 i2 ⟨p.b,p.h,p.late,s,p.n⟩:=⟨m.m.setLateB s,m.b.setCell m.l.1 _,m.l⟩
def PlyE (w0:World) (pb bb:Nat) (i0 i1 i2:Value) (p:Ply) (w:World):Prop:=∃ hb lb,PlyW w0 w pb bb hb lb i0 i1 i2 p
theorem Z3x {i:Img}(hw:Z13 i=true):i.bytes.length=1024∧i.laid.length=1024∧i.starts.length=1024:=by
 unfold Z13 at hw
 simp only [Bool.and_eq_true,decide_eq_true_eq] at hw
 exact hw
theorem Z5X (pb bb:Nat)(a0 a1 a2:Option Addr)(c0 c1 c2:Nat)(i:Img)(p:Ply)(w0 w:World)(hn:p.n≤60000)(hI:HImgAt w0 (.slice a0 1024 c0) (.slice a1 1024 c1) (.slice a2 1024 c2) i)(hw:Z13 i=true)(hB0:Below w0.heap.size w0 w)(hl:w0.heap.size≤pb∧w0.heap.size≤bb)(m:PlyC w pb bb (.slice a0 1024 c0) (.slice a1 1024 c1) (.slice a2 1024 c2) p) :
  Calls Tryz.prog 36 #[.pointer (some ⟨pb,0,none⟩)] w fun e w'=>e=.returned (.bool true)∧PlyE w0 pb bb (.slice a0 1024 c0) (.slice a1 1024 c1) (.slice a2 1024 c2) ⟨p.b,hst0 i (p.n+1),p.late,p.lateB,p.n+1⟩ w':=by
 obtain ⟨l0,l1,l2⟩:=Z3x hw
 obtain ⟨W1,hW1⟩:∃ W,w.setCell ⟨pb,7,none⟩ (.int .i64 ((p.n:Int)+1))=W:=⟨_,rfl⟩
 have m1:PlyC W1 pb bb (.slice a0 1024 c0) (.slice a1 1024 c1) (.slice a2 1024 c2) ⟨p.b,p.h,p.late,p.lateB,p.n+1⟩:=by
  rw [←hW1]
  exact m.setN (p.n+1)
 have hB1:Below w0.heap.size w0 W1:=by rw [←hW1];exact hB0.setCell hl.1 _
 have HN:=Z0a (newHost_any a0 a1 a2 1024 1024 1024 c0 c1 c2 i ((p.n:Int)+1) W1.drew (hI.below hB1.drew) l0.symm l1.symm l2.symm hw)
 have hs:sesN ((p.n:Int)+1)=p.n+1:=by unfold sesN;omega
 rw [hs] at HN
 have hok:HOk (hst0 i (p.n+1)):=by
  have:=hst0_ok i ((p.n:Int)+1) l0
  rwa [hs] at this
 have hst:(hst0 i (p.n+1)).state=0:=rfl
 obtain ⟨H,hH⟩:∃ H,hst0 i (p.n+1)=H:=⟨_,rfl⟩
 rw [hH] at HN hok hst ⊢
 have k7:=m.c7
 have f7:=m.fz 7
 have HM:=Z0a (And.intro m1 (And.intro hB1 hl))
 have d2:=m1.c2
 have d3:=m1.c3
 have d4:=m1.c4
 have d7:W1.cell? ⟨pb,7,none⟩=some (.int .i64 ((p.n:Int)+1)):=m1.c7
 have hlt:=m1.lt
 clear hI hw hB0 hl m m1 hB1 hs hH l0 l1 l2
 go_enter Tryz.func36,Tryz.ntmps36
 go_wp2_with fail
 go_region_held3 (fun w'=>w'.cell? ⟨pb,2,none⟩=some (.slice a0 1024 c0)∧w'.cell? ⟨pb,3,none⟩=some (.slice a1 1024 c1)∧w'.cell? ⟨pb,4,none⟩=some (.slice a2 1024 c2)∧w'.cell? ⟨pb,7,none⟩=some (.int .i64 ((p.n:Int)+1))) (go_keep) (first | (go_at_call 70;refine HN.out.mono ?_;rintro e w2 ⟨rfl,hh2,hB2⟩;have x2:=(World.cell?_of_block (a:=⟨pb,2,none⟩) (hB2.block _ hlt)).trans d2;have x3:=(World.cell?_of_block (a:=⟨pb,3,none⟩) (hB2.block _ hlt)).trans d3;have x4:=(World.cell?_of_block (a:=⟨pb,4,none⟩) (hB2.block _ hlt)).trans d4;have x7:=(World.cell?_of_block (a:=⟨pb,7,none⟩) (hB2.block _ hlt)).trans d7;have HH:=Z0a (And.intro hh2 hB2);clear hh2 hB2))
 all_goals
  obtain ⟨⟨lb,mh,hlb⟩,hB2⟩:=HH.out
  obtain ⟨m1,hB1,hl1,hl2⟩:=HM.out
  have hBB:Below W1.heap.size W1 w2:=⟨hB2.os,hB2.tape,hB2.output,hB2.size,hB2.block⟩
  have mC:=m1.below hBB
  have hlb':W1.heap.size≤lb:=hlb
  have hbl:bb<W1.heap.size:=m1.b.sto.lt
  obtain ⟨N,hN⟩:∃ N,W1.heap.size=N:=⟨_,rfl⟩
  have hN2:W1.drew.heap.size=N:=hN
  rw [hN2] at mh
  have pm:=mC.setHost mh hok ⟨by omega,by omega,by omega,by omega⟩
  obtain ⟨v1,e1⟩:=mC.c1
  have f1:=mC.fz 1
  obtain ⟨W3,hW3⟩:∃ W,w2.setCell ⟨pb,1,none⟩ (.pointer (some ⟨N+1,0,none⟩))=W:=⟨_,rfl⟩
  rw [hW3] at pm
  have HS:=Z0a (Z6B (N+1) lb H W3 pm.h)
  have hs1:=hB1.size
  have HP:Hid (PlyE w0 pb bb (.slice a0 1024 c0) (.slice a1 1024 c1) (.slice a2 1024 c2) ⟨p.b,H,p.late,p.lateB,p.n+1⟩ W3):=⟨N+1,lb,pm,by rw [←hW3];exact (hB1.trans (hBB.mono hs1)).setCell hl1 _,hl1,hl2,by omega⟩
  rw [hst] at HS
  rw [hN]
  clear HH HM m1 hB1 hl1 hl2 hB2 hBB mC mh hlb hlb' hbl hN hN2 pm hs1 d2 d3 d4 d7 x2 x3 x4 x7 HN hok hst hlt
  go_wp2_with (first | (go_at_call 46;refine HS.out.mono ?_;rintro e w4 ⟨rfl,rfl⟩))
  go_ret
  exact ⟨rfl,HP.out⟩
theorem laidP_mem {i:Img}(hl:i.laid.length=1024){g:Nat}(hg:g<16):true∈Z22 i g↔∃ q,q<64∧i.laid.getD (64*g+q) false=true:=by
 unfold Z22
 constructor
 ·intro h
  obtain ⟨q,hq,e⟩:=List.getElem_of_mem h
  rw [List.length_take,List.length_drop] at hq
  refine ⟨q,by omega,?_⟩
  rw [List.getElem_take,List.getElem_drop] at e
  rw [List.getD_eq_getElem?_getD,List.getElem?_eq_getElem (by omega)]
  exact e
 ·rintro ⟨q,hq,e⟩
  rw [List.getD_eq_getElem?_getD,List.getElem?_eq_getElem (by omega)] at e
  refine List.mem_of_getElem (i:=q) (h:=by rw [List.length_take,List.length_drop];omega) ?_
  rw [List.getElem_take,List.getElem_drop]
  exact e
theorem kwanted_any (pb g:Nat)(hg:g<16)(b off cap:Nat)(i:Img)(w:World)(hl:i.laid.length=1024)(c3:w.cell? ⟨pb,3,none⟩=some (.slice (some ⟨b,off,none⟩) 1024 cap))(hc:∀ k,k<1024→w.cell? ⟨b,off+k,none⟩=some (.bool (i.laid.getD k false))) :
  Calls Tryz.prog 45 #[.pointer (some ⟨pb,0,none⟩),.int .i64 (g:Int)] w fun e w'=>e=.returned (.bool (decide (true∈Z22 i g)))∧w'=w:=by
 obtain ⟨V,hV⟩:∃ V,decide (true∈Z22 i g)=V:=⟨_,rfl⟩
 rw [hV]
 have HV:Hid (V=true↔∃ q,q<64∧i.laid.getD (64*g+q) false=true):=by
  rw [←hV,decide_eq_true_iff]
  exact laidP_mem hl hg
 clear hV
 obtain ⟨G,hG⟩:∃ G:Nat,64*g=G:=⟨_,rfl⟩
 rw [hG] at HV
 have hGi:64*(g:Int)=(G:Int):=by omega
 have hG2:G≤960:=by omega
 have HC:=Z0a hc
 clear hc hG
 go_enter Tryz.func45,Tryz.ntmps45
 go_wp2_with fail
 go_loopw [5] (fun x wr=>∃ j:Nat,j≤64∧x=.int .i64 ((G+j:Nat):Int)∧(∀ q,q<j→i.laid.getD (G+q) false=false)∧wr=w) (fun x _=>G+64-(intOf x).toNat)
 case atStart=>exact ⟨0,by omega,rfl,fun q hq=>absurd hq (Nat.not_lt_zero _),rfl⟩
 case round =>
  obtain ⟨j,hj,rfl,hno,rfl⟩:=hrel
  obtain ⟨K,hK⟩:∃ K:Nat,G+j=K:=⟨_,rfl⟩
  rw [hK]
  have hwg:IntKind.i64.wrap ((G:Int)+64)=(G:Int)+64:=by rw [IntKind.wrap_i64];omega
  by_cases hlt:j<64
  ·have hKi:(K:Int)<(G:Int)+64:=by omega
   have hK3:(K:Int)<1024:=by omega
   have cK:=HC.out K (by omega)
   have HNO:=Z0a (And.intro hno hK)
   cases hb:i.laid.getD K false with
   | true =>
    rw [hb] at cK
    have HT:Hid (V=true):=by
     exact HV.out.2 ⟨j,hlt,by rw [hK];exact hb⟩
    clear hb hno hK
    go_wp2
    go_ret
    exact ⟨by rw [HT.out];rfl,rfl⟩
   | false =>
    rw [hb] at cK
    have HF:=Z0a hb
    clear hb hno hK
    go_wp2
    go_roundw
    case rel =>
     refine ⟨j+1,by omega,?_,fun q hq=>?_,by first | rfl | trivial⟩
     ·have:=HNO.out.2
      rw [show G+(j+1)=K+1 by omega]
      go_num
     ·by_cases e:q=j
      ·rw [e,HNO.out.2]
       exact HF.out
      ·exact HNO.out.1 q (by omega)
    case measure =>
     have:=HNO.out.2
     simp [intOf]
     omega
  ·have hKi:¬ (K:Int)<(G:Int)+64:=by omega
   have HT:Hid (V=false):=by
    refine Bool.eq_false_iff.2 (fun e1=>?_)
    obtain ⟨q,hq,e⟩:=HV.out.1 e1
    rw [hno q (by omega)] at e
    cases e
   clear hno hK
   go_wp2
   go_ret
   exact ⟨by rw [HT.out];rfl,rfl⟩
theorem bitsS_bit (m:List UInt8):∀ k j,j<k→Z6F m k/2 ^ j%2=if Z0n m (UInt8.ofNat j)=true then 1 else 0
 | k+1,j,h=>by
  have hlt:=Z4l m k
  unfold Z6F
  by_cases e:j=k
  ·subst e
   split
   ·rw [Nat.add_div_right _ (Nat.two_pow_pos _),Nat.div_eq_of_lt hlt]
   ·rw [Nat.add_zero,Nat.div_eq_of_lt hlt]
  ·have hj:j<k:=by omega
   rw [←bitsS_bit m k j hj]
   split
   ·have e2:2 ^ k=2 ^ j*(2*2 ^ (k-j-1)):=by
     rw [←Nat.pow_succ',← Nat.pow_add]
     congr 1
     omega
    rw [e2,Nat.add_mul_div_left _ _ (Nat.two_pow_pos _),Nat.add_mul_mod_self_left]
   ·rw [Nat.add_zero]
theorem Z6j (i:Img):∀ (k:Nat),k≤16→∀ p,p∈Z3R i k↔∃ g,g<k∧true∈Z22 i g∧p=⟨UInt8.ofNat g,Z2E i g⟩
 | 0,_,p=>by simp [Z3R]
 | k+1,hk,p=>by
  unfold Z3R
  rw [List.mem_append,Z6j i k (by omega) p]
  constructor
  ·rintro (⟨g,h1,h2,h3⟩ | h)
   ·exact ⟨g,by omega,h2,h3⟩
   ·split at h
    ·rename_i ht
     exact ⟨k,by omega,ht,by simpa using h⟩
    ·cases h
  ·rintro ⟨g,h1,h2,h3⟩
   by_cases e:g=k
   ·subst e
    right
    rw [if_pos h2,h3]
    simp
   ·exact .inl ⟨g,by omega,h2,h3⟩
theorem Z3Z {a b:Nat}(ha:a<16)(hb:b<16)(h:UInt8.ofNat a=UInt8.ofNat b):a=b:=by
 have:=congrArg UInt8.toNat h
 rw [UInt8.toNat_ofNat',UInt8.toNat_ofNat'] at this
 omega
theorem get64 {l:List UInt8}{g q:Nat}(hq:q<64):((l.drop (64*g)).take 64).getD q 0=l.getD (64*g+q) 0:=by
 rw [List.getD_eq_getElem?_getD,List.getElem?_take,if_pos hq,List.getElem?_drop,List.getD_eq_getElem?_getD]
def RightAt (i:Img) (m:List UInt8) (st g:Nat):Prop :=
 (Z0n m (UInt8.ofNat g)=true→true∈Z22 i g∧∀ q,q<64→m.getD (64*g+q) 0=i.bytes.getD (64*g+q) 0)∧(true ∉ Z22 i g→∀ q,q<64→m.getD (64*g+q) 0=255)∧(st=1→true∈Z22 i g→Z0n m (UInt8.ofNat g)=true)
theorem right_of {i:Img}(hw:Z13 i=true){s:Ply}(hi:Inv (Z1W i) s)(g:Nat)(hg:g<16):RightAt i s.b.mem s.h.state g:=by
 obtain ⟨l0,l1,l2⟩:=Z3x hw
 obtain ⟨r1,r2,r3⟩:=hi.right
 have hml:s.b.mem.length=1264:=hi.mem.used.choose_spec.len
 have hn:(UInt8.ofNat g).toNat=g:=by rw [UInt8.toNat_ofNat'];omega
 have hlt:UInt8.ofNat g<16:=by rw [UInt8.lt_iff_toNat_lt,hn];exact hg
 have hmem:∀ p,p∈Z1W i↔∃ g,g<16∧true∈Z22 i g∧p=⟨UInt8.ofNat g,Z2E i g⟩:=Z6j i 16 (Nat.le_refl _)
 refine ⟨fun hb=>?_,fun hno q hq=>?_,fun hs ht=>?_⟩
 ·obtain ⟨p,hp,e1,e2⟩:=r1 _ hlt hb
  obtain ⟨g',h1,h2,rfl⟩:=(hmem p).1 hp
  have:g'=g:=Z3Z h1 hg e1
  subst this
  refine ⟨h2,fun q hq=>?_⟩
  rw [hn] at e2
  have:=congrArg (fun l:List UInt8=>l.getD q 0) e2
  simp only at this
  unfold Z0v Z2E at this
  rw [get64 hq,get64 hq] at this
  exact this
 ·have:=r2 _ hlt (fun p hp e=>by
   obtain ⟨g',h1,h2,rfl⟩:=(hmem p).1 hp
   have:g'=g:=Z3Z h1 hg e
   subst this
   exact hno h2)
  rw [hn] at this
  have:=congrArg (fun l:List UInt8=>l.getD q 0) this
  unfold Z0v at this
  rw [get64 hq] at this
  rw [this,List.getD_eq_getElem?_getD,List.getElem?_replicate,if_pos hq]
  rfl
 ·exact r3 hs ⟨UInt8.ofNat g,Z2E i g⟩ ((hmem _).2 ⟨g,hg,ht,rfl⟩)
theorem bit_bool (m:List UInt8)(g:Nat)(hg:g<16):(((Z3y m:Nat):Int)/2 ^ g).tmod 2=if Z0n m (UInt8.ofNat g)=true then 1 else 0:=by
 have h:=bitsS_bit m 16 g hg
 have e:((Z3y m:Nat):Int)/2 ^ g=((Z3y m/2 ^ g:Nat):Int):=by
  rw [Int.natCast_ediv,Int.natCast_pow]
  rfl
 rw [e]
 show ((Z3y m/2 ^ g%2:Nat):Int)=_
 have h':Z3y m/2 ^ g%2=_:=h
 rw [h']
 split <;> rfl
theorem txt_get (l:List UInt8)(k:Nat)(h:k<(txt l).size):(txt l)[k]=l.getD k 0:=by
 have h2:k<l.length:=by rw [Z0k] at h;exact h
 rw [List.getD_eq_getElem?_getD,List.getElem?_eq_getElem h2]
 rfl
theorem kright_any (pb bb hb lb:Nat)(b0 o0 c0 b1 o1 c1:Nat)(i2:Value)(i:Img)(p:Ply)(w:World)(hw:Z13 i=true)(m:PlyM w pb bb hb lb (.slice (some ⟨b0,o0,none⟩) 1024 c0) (.slice (some ⟨b1,o1,none⟩) 1024 c1) i2 p)(hR:∀ g,g<16→RightAt i p.b.mem p.h.state g)(hml:p.b.mem.length=1264)
  (k0:b0<w.heap.size) (k1:b1<w.heap.size) (q0:∀ k,k<1024→w.cell? ⟨b0,o0+k,none⟩=some (.int .u8 ((i.bytes.getD k 0).toNat:Int))) (q1:∀ k,k<1024→w.cell? ⟨b1,o1+k,none⟩=some (.bool (i.laid.getD k false))) :
  Calls Tryz.prog 21 #[.pointer (some ⟨pb,0,none⟩)] w fun e w'=>e=.returned (.bool true)∧Below w.heap.size w w':=by
 obtain ⟨l0,l1,l2⟩:=Z3x hw
 have HF:=Z0a (fun w' (h:BrdAt w' bb p.b)=>Z5G bb p.b w' h)
 have HBu:=Z0a (fun w' (h:BrdAt w' bb p.b)=>bbBurnt_any bb p.b w' h)
 obtain ⟨F,hF⟩:∃ F,txt (p.b.mem.take 1024)=F:=⟨_,rfl⟩
 have hFs:F.size=1024:=by rw [←hF,Z0k,List.length_take];omega
 rw [hF] at HF
 obtain ⟨BT,hBT⟩:∃ BT,Z3y p.b.mem=BT:=⟨_,rfl⟩
 rw [hBT] at HBu
 have HM:=Z0a m
 have e0:=m.c0
 clear m
 go_enter Tryz.func21,Tryz.ntmps21
 go_wp2_with fail
 refine (HF.out _ HM.out.b).mono ?_
 rintro e w1 ⟨rfl,hB1⟩
 have HM1:=Z0a (HM.out.below hB1)
 have e1:=HM1.out.c0
 have HB1:=Z0a hB1
 clear hB1
 go_wp2_with fail
 refine (HBu.out _ HM1.out.b).mono ?_
 rintro e w2 ⟨rfl,hB2⟩
 have HM2:=Z0a (HM1.out.below hB2)
 have HB2:=Z0a (HB1.out.trans (hB2.mono HB1.out.size))
 clear hB2 HM1 HB1 e1 HM e0 HF HBu
 have hFsi:(F.size:Int)=1024:=by omega
 go_wp2_with fail
 go_loopw [5] (fun x wr=>∃ g:Nat,g≤16∧x=.int .i64 (g:Int)∧∃ n,wr=w2.drewN n) (fun x _=>16-(intOf x).toNat)
 case atStart=>exact ⟨0,by omega,rfl,0,rfl⟩
 case round =>
  obtain ⟨g,hg,rfl,n,rfl⟩:=hrel
  by_cases hg16:g<16
  ·have hgi:(g:Int)<16:=by omega
   obtain ⟨V,hV⟩:∃ V,Z0n p.b.mem (UInt8.ofNat g)=V:=⟨_,rfl⟩
   obtain ⟨T,hT⟩:∃ T,decide (true∈Z22 i g)=T:=⟨_,rfl⟩
   have hbit:(((BT:Int)/2 ^ g).tmod 2 == 1)=V:=by
    rw [←hBT,bit_bool _ g hg16,hV]
    cases V <;> rfl
   have hR1:(V=true→T=true∧∀ q,q<64→p.b.mem.getD (64*g+q) 0=i.bytes.getD (64*g+q) 0)∧(T=false→∀ q,q<64→p.b.mem.getD (64*g+q) 0=255)∧(p.h.state=1→T=true→V=true):=by
    obtain ⟨r1,r2,r3⟩:=hR g hg16
    rw [hV] at r1 r3
    exact ⟨fun e=>⟨by rw [←hT];exact decide_eq_true (r1 e).1,(r1 e).2⟩,fun e=>r2 (by rw [←hT] at e;exact of_decide_eq_false e),fun e1 e2=>r3 e1 (by rw [←hT] at e2;exact of_decide_eq_true e2)⟩
   have HWt:=Z0a (fun n=>kwanted_any pb g hg16 b1 o1 c1 i (w2.drewN n) l1 (HM2.out.c3) (fun k hk=>((HB2.out.cell (p:=⟨b1,o1+k,none⟩) k1).trans (q1 k hk))))
   rw [hT] at HWt
   have HRR:=Z0a hR1
   clear hR1 hV hT
   go_wp2_with (first | (go_at_call 45;refine (HWt.out _).mono ?_;rintro e w3 ⟨rfl,rfl⟩))
   obtain ⟨G,hG⟩:∃ G:Nat,64*g=G:=⟨_,rfl⟩
   have hGi:64*(g:Int)=(G:Int):=by omega
   have hG2:G≤960:=by omega
   rw [hG] at HRR
   have HG:=Z0a hG
   clear hG
   rw [hGi]
   go_loopw [8] (fun x wz=>∃ j:Nat,j≤64∧x=.int .i64 ((G+j:Nat):Int)∧∃ n',wz=w2.drewN n') (fun x _=>G+64-(intOf x).toNat)
   case atStart=>exact ⟨0,by omega,rfl,_,rfl⟩
   case round =>
    obtain ⟨j,hj,rfl,n',rfl⟩:=hrel
    obtain ⟨K,hK⟩:∃ K:Nat,G+j=K:=⟨_,rfl⟩
    rw [hK]
    have hwg:IntKind.i64.wrap ((G:Int)+64)=(G:Int)+64:=by rw [IntKind.wrap_i64];omega
    by_cases hlt:j<64
    ·have hKi:(K:Int)<(G:Int)+64:=by omega
     have hK3:(K:Int)<1024:=by omega
     have hKF:K<F.size:=by omega
     have hKF2:(K:Int)<(F.size:Int):=by omega
     have hFK:F[K]=p.b.mem.getD K 0:=by
      subst hF
      rw [txt_get,List.getD_eq_getElem?_getD,List.getElem?_take,if_pos (by omega),List.getD_eq_getElem?_getD]
     have HGJ:=Z0a hK
     cases V with
     | true =>
      obtain ⟨hT1,hby⟩:=HRR.out.1 rfl
      subst hT1
      have hb:=hby j hlt
      rw [hK,← hFK] at hb
      have cK:w2.cell? ⟨b0,o0+K,none⟩=some (.int .u8 ((F[K]).toNat:Int)):=by
       rw [hb]
       exact (HB2.out.cell (p:=⟨b0,o0+K,none⟩) k0).trans (q0 K (by omega))
      have c2:w2.cell? ⟨pb,2,none⟩=some (.slice (some ⟨b0,o0,none⟩) 1024 c0):=HM2.out.c2
      clear hb hby hFK hK hBT hF hbit
      go_upto_region 13 with fail
      go_quiet (fail)
      go_wp2
      go_roundw
      case rel =>
       refine ⟨j+1,by omega,?_,by first | exact ⟨_,rfl⟩ | exact ⟨n'+1,rfl⟩⟩
       have:=HGJ.out
       rw [show G+(j+1)=K+1 by omega]
       go_num
      case measure =>
       have:=HGJ.out
       simp [intOf]
       omega
     | false =>
      cases T with
      | true =>
       clear hFK hK hBT hF hbit
       go_upto_region 13 with fail
       go_quiet (fail)
       go_wp2
       go_roundw
       case rel =>
        refine ⟨j+1,by omega,?_,by first | exact ⟨_,rfl⟩ | exact ⟨n'+1,rfl⟩⟩
        have:=HGJ.out
        rw [show G+(j+1)=K+1 by omega]
        go_num
       case measure =>
        have:=HGJ.out
        simp [intOf]
        omega
      | false =>
       have hb:=HRR.out.2.1 rfl j hlt
       rw [hK,← hFK] at hb
       have hb1:((F[K]).toNat:Int)=255:=by rw [hb];rfl
       have hb2:(((F[K]).toNat:Int) != 255)=false:=by rw [hb1];rfl
       clear hb hb1 hFK hK hBT hF hbit
       go_upto_region 13 with fail
       go_quiet (fail)
       go_wp2
       go_roundw
       case rel =>
        refine ⟨j+1,by omega,?_,by first | exact ⟨_,rfl⟩ | exact ⟨n'+1,rfl⟩⟩
        have:=HGJ.out
        rw [show G+(j+1)=K+1 by omega]
        go_num
       case measure =>
        have:=HGJ.out
        simp [intOf]
        omega
    ·have hKi:¬ (K:Int)<(G:Int)+64:=by omega
     have HS:=Z0a (fun n=>Z6B hb lb p.h (w2.drewN n) (HM2.out.h.below (below_drewN (Below.refl _ _) n)))
     have d1:w2.cell? ⟨pb,1,none⟩=some (.pointer (some ⟨hb,0,none⟩)):=HM2.out.c1
     have hst:=HRR.out.2.2
     obtain ⟨ST,hST⟩:∃ ST,p.h.state=ST:=⟨_,rfl⟩
     rw [hST] at HS hst
     by_cases hs1:ST=1
     ·subst hs1
      cases T with
      | true =>
       have hV1:=hst rfl rfl
       subst hV1
       clear hst hST hK hBT hF hbit
       go_wp2_with (first | (go_at_call 46;refine (HS.out _).mono ?_;rintro e w4 ⟨rfl,rfl⟩))
       go_roundw
       case rel=>exact ⟨g+1,by omega,by go_num,_,rfl⟩
       case measure=>simp [intOf];omega
      | false =>
       clear hst hST hK hBT hF hbit
       go_wp2_with (first | (go_at_call 46;refine (HS.out _).mono ?_;rintro e w4 ⟨rfl,rfl⟩))
       go_roundw
       case rel=>exact ⟨g+1,by omega,by go_num,_,rfl⟩
       case measure=>simp [intOf];omega
     ·have hsi:((ST:Int) == 1)=false:=by simp;omega
      clear hst hST hK hBT hF hbit
      go_wp2_with (first | (go_at_call 46;refine (HS.out _).mono ?_;rintro e w4 ⟨rfl,rfl⟩))
      go_roundw
      case rel=>exact ⟨g+1,by omega,by go_num,_,rfl⟩
      case measure=>simp [intOf];omega
  ·have hgi:¬ (g:Int)<16:=by omega
   go_wp2
   go_ret
   exact ⟨rfl,below_drewN HB2.out _⟩
end Go.Proofs.YthokdbcpkmcieaaGreatDoor
