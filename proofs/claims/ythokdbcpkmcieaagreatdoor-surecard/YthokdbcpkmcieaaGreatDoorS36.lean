/- BrdWG BrdWH -/
import Derived.Test.YthokdbcpkmcieaaGreatDoorS35
set_option maxRecDepth 200000
set_option maxHeartbeats 8000000
namespace Go.Proofs.YthokdbcpkmcieaaGreatDoor
open Go Go.RowKit
theorem Z17:(Tryz.zeroCells148).size=88:=by kernel_rfl
theorem zeroTalk_one:(Tryz.zeroCells148).all (·.oneCell')=true:=by kernel_rfl
theorem BrdAt.there {w:World}{bb:Nat}{b:Brd}(h:BrdAt w bb b):∀ j,j<88→(w.cell? ⟨bb,1268+j,none⟩).isSome=true∧w.frozen? ⟨bb,1268+j,none⟩=false:=by
 intro j hj
 refine ⟨?_,h.ear.fz _⟩
 by_cases h0:j=0
 ·subst h0;rw [h.ear.c0];rfl
 ·by_cases h1:j<83
  ·obtain ⟨v,hv⟩:=h.ear.cb (j-1) (by omega)
   rw [show 1268+1+(j-1)=1268+j by omega] at hv
   rw [hv];rfl
  ·have:j=83∨j=84∨j=85∨j=86∨j=87:=by omega
   rcases this with rfl | rfl | rfl | rfl | rfl
   ·have:=h.ear.c83;rw [show 1268+83=1351 from rfl] at this ⊢;rw [this];rfl
   ·rw [show 1268+84=1352 from rfl,h.talk.t0];rfl
   ·rw [show 1268+85=1353 from rfl,h.talk.t1];rfl
   ·rw [show 1268+86=1354 from rfl,h.talk.t2];rfl
   ·rw [show 1268+87=1355 from rfl,h.talk.t3];rfl
theorem zt_at (j:Nat)(hj:j<88):∃ v,(Tryz.zeroCells148)[j]?=some v:=⟨_,Array.getElem?_eq_getElem (by rw [Z17];exact hj)⟩
theorem talk_anew {w:World}{bb:Nat}(ht:∀ j,j<88→(w.cell? ⟨bb,1268+j,none⟩).isSome=true∧w.frozen? ⟨bb,1268+j,none⟩=false)(hfz:∀ j,w.frozen? ⟨bb,j,none⟩=false)(hlt:bb<w.heap.size) :
  EarO (w.setCells bb 1268 (Tryz.zeroCells148).toList) bb 1268 ear0∧TalkAt (w.setCells bb 1268 (Tryz.zeroCells148).toList) bb Z5Q∧(∀ j,j<1268→(w.setCells bb 1268 (Tryz.zeroCells148).toList).cell? ⟨bb,j,none⟩=w.cell? ⟨bb,j,none⟩)∧(∀ j,(w.setCells bb 1268 (Tryz.zeroCells148).toList).frozen? ⟨bb,j,none⟩=w.frozen? ⟨bb,j,none⟩)∧w.grownBy (w.setCells bb 1268 (Tryz.zeroCells148).toList) (some bb):=by
 have hl:(Tryz.zeroCells148).toList.length=88:=by rw [Array.length_toList];exact Z17
 have hin:∀ j (hj:j<88),(w.setCells bb 1268 (Tryz.zeroCells148).toList).cell? ⟨bb,1268+j,none⟩=(Tryz.zeroCells148)[j]?:=by
  intro j hj
  have:=World.cell?_setCells_in bb (Tryz.zeroCells148).toList 1268 w (fun j hj=>(ht j (by omega)).1) j (by omega)
  rw [this]
  rw [Array.getElem?_eq_getElem (by rw [Z17];exact hj)]
  simp
 have hf:∀ j,(w.setCells bb 1268 (Tryz.zeroCells148).toList).frozen? ⟨bb,j,none⟩=w.frozen? ⟨bb,j,none⟩:=fun j=>World.frozen?_setCells _ _ _ _ _
 have hg:w.grownBy (w.setCells bb 1268 (Tryz.zeroCells148).toList) (some bb):=by
  have hz:∀ (vs:List Value) (o:Nat) (w:World),w.grownBy (w.setCells bb o vs) (some bb):=by
   intro vs
   induction vs with
   | nil=>intro o w;exact Z03 _ _
   | cons v vs ih=>intro o w;exact (Z0p w bb o v).trans (ih (o+1) _)
  exact hz _ _ _
 refine ⟨⟨?_,?_,fun i hi=>?_,fun i hi=>by simp [ear0] at hi,fun j=>(hf j).trans (hfz j),Nat.lt_of_lt_of_le hlt hg.size,⟨(by decide:0≤2),by simp [ear0]⟩⟩,⟨?_,?_,?_,?_,fun j=>(hf j).trans (hfz j)⟩,fun j hj=>World.cell?_setCells_out _ _ _ _ _ (fun _ _=>.inl hj),hf,hg⟩
 ·exact hin 0 (by omega)
 ·exact hin 83 (by omega)
 ·obtain ⟨v,hv⟩:=zt_at (1+i) (by omega)
  have:=hin (1+i) (by omega)
  rw [show 1268+(1+i)=1268+1+i by omega] at this
  exact ⟨v,this.trans hv⟩
 ·exact hin 84 (by omega)
 ·exact hin 85 (by omega)
 ·exact hin 86 (by omega)
 ·exact hin 87 (by omega)
theorem begin_any (bb:Nat)(b:Brd)(o:Bool)(w:World)(h:BrdAt w bb b):Calls Tryz.prog 119 #[.pointer (some ⟨bb,0,none⟩),.bool o] w fun e w'=>e=.returned (.tuple #[])∧BrdAt w' bb ⟨o,pow0,b.mem,ear0,Z5Q⟩∧w.grownBy w' (some bb):=by
 have c0:=h.c0
 have c1:=h.sto.c1
 have c2:=h.sto.c2
 have c3:=h.sto.c3
 have f0:=h.sto.fz 0
 have f1:=h.sto.fz 1
 have f2:=h.sto.fz 2
 have f3:=h.sto.fz 3
 have HH:=Z0a h
 have HT:Hid (∀ v,((((w.setCell ⟨bb,0,none⟩ v).setCell ⟨bb,1,none⟩ (.bool false)).setCell ⟨bb,2,none⟩ (.int .i64 0)).setCell ⟨bb,3,none⟩ (.int .u8 0)).there bb 1268 88):=by
  intro v j hj
  have:=h.there j hj
  refine ⟨?_,by simp [this.2]⟩
  rw [World.cell?_setCell_other _ _ _ _ (by simp <;> omega),World.cell?_setCell_other _ _ _ _ (by simp <;> omega),World.cell?_setCell_other _ _ _ _ (by simp <;> omega),World.cell?_setCell_other _ _ _ _ (by simp <;> omega)]
  exact this.1
 have hst:(storeCells ⟨bb,1268,none⟩ (Tryz.zeroCells148).toList).run Tryz.prog ((((w.setCell ⟨bb,0,none⟩ (.bool o)).setCell ⟨bb,1,none⟩ (.bool false)).setCell ⟨bb,2,none⟩ (.int .i64 0)).setCell ⟨bb,3,none⟩ (.int .u8 0))=.ok () (((((w.setCell ⟨bb,0,none⟩ (.bool o)).setCell ⟨bb,1,none⟩ (.bool false)).setCell ⟨bb,2,none⟩ (.int .i64 0)).setCell ⟨bb,3,none⟩ (.int .u8 0)).setCells bb 1268 (Tryz.zeroCells148).toList):=by
  have hl:(Tryz.zeroCells148).toList.length=88:=by rw [Array.length_toList];exact Z17
  have:=run_storeCells_cells (P:=Tryz.prog) bb 1268 (Tryz.zeroCells148).toList 0 ((((w.setCell ⟨bb,0,none⟩ (.bool o)).setCell ⟨bb,1,none⟩ (.bool false)).setCell ⟨bb,2,none⟩ (.int .i64 0)).setCell ⟨bb,3,none⟩ (.int .u8 0)) (fun j hj=>by simpa using (HT.out (.bool o) j (by omega)).1) (fun j hj=>by simpa using (HT.out (.bool o) j (by omega)).2) (fun v hv=>(Array.all_eq_true_iff_forall_mem.1 zeroTalk_one) v (by simpa using hv))
  exact this
 have HB:Hid (BrdAt (((((w.setCell ⟨bb,0,none⟩ (.bool o)).setCell ⟨bb,1,none⟩ (.bool false)).setCell ⟨bb,2,none⟩ (.int .i64 0)).setCell ⟨bb,3,none⟩ (.int .u8 0)).setCells bb 1268 (Tryz.zeroCells148).toList) bb ⟨o,pow0,b.mem,ear0,Z5Q⟩∧w.grownBy (((((w.setCell ⟨bb,0,none⟩ (.bool o)).setCell ⟨bb,1,none⟩ (.bool false)).setCell ⟨bb,2,none⟩ (.int .i64 0)).setCell ⟨bb,3,none⟩ (.int .u8 0)).setCells bb 1268 (Tryz.zeroCells148).toList) (some bb)):=by
  have hfz:∀ j,((((w.setCell ⟨bb,0,none⟩ (.bool o)).setCell ⟨bb,1,none⟩ (.bool false)).setCell ⟨bb,2,none⟩ (.int .i64 0)).setCell ⟨bb,3,none⟩ (.int .u8 0)).frozen? ⟨bb,j,none⟩=false:=fun j=>by simp [h.sto.fz j]
  obtain ⟨a1,a2,a3,a4,a5⟩:=talk_anew (HT.out (.bool o)) hfz (by simpa [World.setCell] using h.sto.lt)
  refine ⟨⟨?_,⟨?_,?_,?_,?_,h.sto.len,(by decide:0≤9223372036854775807),fun j=>(a4 j).trans (hfz j),a1.lt⟩,a1,a2,h.used,(by decide:0<65536),by simp [Z5Q]⟩,(((Z0p _ _ _ _).trans (Z0p _ _ _ _)).trans ((Z0p _ _ _ _).trans (Z0p _ _ _ _))).trans a5⟩
  ·rw [a3 0 (by omega),World.cell?_setCell_other _ _ _ _ (by simp),World.cell?_setCell_other _ _ _ _ (by simp),World.cell?_setCell_other _ _ _ _ (by simp)]
   exact World.cell?_setCell_same _ _ _ c0
  ·rw [a3 1 (by omega),World.cell?_setCell_other _ _ _ _ (by simp),World.cell?_setCell_other _ _ _ _ (by simp)]
   exact World.cell?_setCell_same _ _ _ ((World.cell?_setCell_other _ _ _ _ (by simp)).trans c1)
  ·rw [a3 2 (by omega),World.cell?_setCell_other _ _ _ _ (by simp)]
   exact World.cell?_setCell_same _ _ _ (((World.cell?_setCell_other _ _ _ _ (by simp)).trans (World.cell?_setCell_other _ _ _ _ (by simp))).trans c2)
  ·rw [a3 3 (by omega)]
   exact World.cell?_setCell_same _ _ _ ((((World.cell?_setCell_other _ _ _ _ (by simp)).trans (World.cell?_setCell_other _ _ _ _ (by simp))).trans (World.cell?_setCell_other _ _ _ _ (by simp))).trans c3)
  ·intro i hi
   have hlen:=h.sto.len
   have hi':i<b.mem.length:=hi
   rw [a3 (4+i) (by omega),World.cell?_setCell_other _ _ _ _ (by simp <;> omega),World.cell?_setCell_other _ _ _ _ (by simp <;> omega),World.cell?_setCell_other _ _ _ _ (by simp <;> omega),World.cell?_setCell_other _ _ _ _ (by simp <;> omega)]
   exact h.sto.cm i hi
 clear h HH HT
 go_enter Tryz.func119,Tryz.ntmps119
 go_wp2
 go_end0
 exact ⟨rfl,HB.out.1,HB.out.2⟩
theorem boot_any (bb:Nat)(b:Brd)(w:World)(h:BrdAt w bb b):Calls Tryz.prog 73 #[.pointer (some ⟨bb,0,none⟩)] w fun e w'=>e=.returned (.tuple #[])∧BrdAt w' bb (bootF b)∧w.grownBy w' (some bb):=by
 have HC:=Z0a (begin_any bb b true w h)
 clear h
 go_enter Tryz.func73,Tryz.ntmps73
 go_wp2_with fail
 refine HC.out.mono ?_
 rintro e w1 ⟨rfl,h1,h2⟩
 have HQ:=Z0a (And.intro h1 h2)
 clear h1 h2
 go_wp2
 go_end0
 exact ⟨rfl,HQ.out.1,HQ.out.2⟩
def mk8 (m:Int):UInt8:=UInt8.ofNat (m%256).toNat
theorem mk8_wrap (m:Int):IntKind.u8.wrap m=((mk8 m).toNat:Int):=by
 unfold mk8
 rw [IntKind.wrap_u8,UInt8.toNat_ofNat']
 omega
theorem Tryz.infoPow:(Tryz.prog.info? 134).map (·.size)=some 3:=by kernel_rfl
theorem Z7C (n m:Int)(hn1:-9223372036854775808≤n)(hn2:n≤9223372036854775807)(w:World):Calls Tryz.prog 118 #[.int .i64 n,.int .i64 m] w fun e w'=>e=.returned (.agg #[.bool true,.int .i64 (n.toNat:Int),.int .u8 ((mk8 m).toNat:Int)])∧Below w.heap.size w w':=by
 have hw:=mk8_wrap m
 obtain ⟨k,hk⟩:∃ k,(mk8 m).toNat=k:=⟨_,rfl⟩
 rw [hk] at hw ⊢
 by_cases h:n<0
 ·have e:((n.toNat:Nat):Int)=0:=by omega
  rw [e]
  go_enter Tryz.func118,Tryz.ntmps118
  go_wp2
  refine bodyPost_ret (results_cell_row rfl _ _ w.heap.size 134 _ (0,0) _ rfl (heap_alloc_new w _) Tryz.underlying134 rfl Tryz.infoPow) rfl ?_
  exact ⟨rfl,(Below.refl _ _).alloc (Nat.le_refl _) _⟩
 ·have e:((n.toNat:Nat):Int)=n:=by omega
  rw [e]
  go_enter Tryz.func118,Tryz.ntmps118
  go_wp2
  refine bodyPost_ret (results_cell_row rfl _ _ w.heap.size 134 _ (0,0) _ rfl (heap_alloc_new w _) Tryz.underlying134 rfl Tryz.infoPow) rfl ?_
  exact ⟨rfl,(Below.refl _ _).alloc (Nat.le_refl _) _⟩
theorem StoAt.setPow {w:World}{bb:Nat}{p:Pow}{mem:List UInt8}(h:StoAt w bb p mem)(n:Nat)(hn:n≤9223372036854775807)(m:UInt8):StoAt (((w.setCell ⟨bb,1,none⟩ (.bool true)).setCell ⟨bb,2,none⟩ (.int .i64 (n:Int))).setCell ⟨bb,3,none⟩ (.int .u8 (m.toNat:Int))) bb ⟨true,n,m⟩ mem:=by
 have ho:∀ j,4≤j→(((w.setCell ⟨bb,1,none⟩ (.bool true)).setCell ⟨bb,2,none⟩ (.int .i64 (n:Int))).setCell ⟨bb,3,none⟩ (.int .u8 (m.toNat:Int))).cell? ⟨bb,j,none⟩=w.cell? ⟨bb,j,none⟩:=fun j hj=>by
  rw [World.cell?_setCell_other _ _ _ _ (by simp <;> omega),World.cell?_setCell_other _ _ _ _ (by simp <;> omega),World.cell?_setCell_other _ _ _ _ (by simp <;> omega)]
 refine ⟨?_,?_,?_,fun k hk=>(ho _ (by omega)).trans (h.cm k hk),h.len,hn,fun j=>by simp [h.fz j],by simpa [World.setCell] using h.lt⟩
 ·rw [World.cell?_setCell_other _ _ _ _ (by simp),World.cell?_setCell_other _ _ _ _ (by simp)]
  exact World.cell?_setCell_same _ _ _ h.c1
 ·rw [World.cell?_setCell_other _ _ _ _ (by simp)]
  exact World.cell?_setCell_same _ _ _ ((World.cell?_setCell_other _ _ _ _ (by simp)).trans h.c2)
 ·exact World.cell?_setCell_same _ _ _ (((World.cell?_setCell_other _ _ _ _ (by simp)).trans (World.cell?_setCell_other _ _ _ _ (by simp))).trans h.c3)
theorem cut_any (bb:Nat)(b:Brd)(n m:Int)(hn1:-9223372036854775808≤n)(hn2:n≤9223372036854775807)(w:World)(h:BrdAt w bb b):Calls Tryz.prog 72 #[.pointer (some ⟨bb,0,none⟩),.int .i64 n,.int .i64 m] w fun e w'=>e=.returned (.tuple #[])∧BrdAt w' bb (cutF b n (mk8 m))∧w.grownBy w' (some bb):=by
 have c0:=h.c0
 by_cases ho:b.on=true
 ·have e:cutF b n (mk8 m)=⟨true,⟨true,n.toNat,mk8 m⟩,b.mem,b.ear,b.talk⟩:=by unfold cutF;rw [if_pos ho]
  rw [e]
  rw [ho] at c0
  have HC:=Z0a (Z7C n m hn1 hn2 w)
  have HH:Hid (∀ w1,Below w.heap.size w w1→BrdAt (((w1.setCell ⟨bb,1,none⟩ (.bool true)).setCell ⟨bb,2,none⟩ (.int .i64 (n.toNat:Int))).setCell ⟨bb,3,none⟩ (.int .u8 ((mk8 m).toNat:Int))) bb ⟨true,⟨true,n.toNat,mk8 m⟩,b.mem,b.ear,b.talk⟩):=by
   intro w1 hb
   have h1:=h.below hb
   have hs:=h1.sto.setPow n.toNat (by omega) (mk8 m)
   have hoth:∀ j,j=0∨4≤j→(((w1.setCell ⟨bb,1,none⟩ (.bool true)).setCell ⟨bb,2,none⟩ (.int .i64 (n.toNat:Int))).setCell ⟨bb,3,none⟩ (.int .u8 ((mk8 m).toNat:Int))).cell? ⟨bb,j,none⟩=w1.cell? ⟨bb,j,none⟩:=fun j hj=>by
    rw [World.cell?_setCell_other _ _ _ _ (by simp <;> omega),World.cell?_setCell_other _ _ _ _ (by simp <;> omega),World.cell?_setCell_other _ _ _ _ (by simp <;> omega)]
   refine ⟨?_,hs,h1.ear.same (fun j h1 h2=>hoth j (by omega)) (fun j=>by simp) (by simp [World.setCell]),h1.talk.same (fun j h1 h2=>hoth j (by omega)) (fun j=>by simp),h1.used,h1.ses,h1.al⟩
   rw [hoth 0 (.inl rfl),h1.c0,ho]
  have hk:∀ w1,Below w.heap.size w w1→BrdAt w1 bb b:=fun w1 hb=>h.below hb
  have HK:=Z0a hk
  obtain ⟨nn,hnn⟩:∃ nn:Nat,n.toNat=nn:=⟨_,rfl⟩
  obtain ⟨mm,hmm⟩:∃ mm:Nat,(mk8 m).toNat=mm:=⟨_,rfl⟩
  obtain ⟨R,hR⟩:∃ R:Brd,(⟨true,⟨true,n.toNat,mk8 m⟩,b.mem,b.ear,b.talk⟩:Brd)=R:=⟨_,rfl⟩
  rw [hR] at HH ⊢
  rw [hnn,hmm] at HC HH
  clear h e hnn hmm hR hk
  go_enter Tryz.func72,Tryz.ntmps72
  go_wp2_with fail
  refine HC.out.mono ?_
  rintro e w1 ⟨rfl,hb1⟩
  have k1:=(HK.out w1 hb1).sto.c1
  have k2:=(HK.out w1 hb1).sto.c2
  have k3:=(HK.out w1 hb1).sto.c3
  have f1:=(HK.out w1 hb1).sto.fz 1
  have f2:=(HK.out w1 hb1).sto.fz 2
  have f3:=(HK.out w1 hb1).sto.fz 3
  have HB:=Z0a hb1
  clear hb1 HC
  go_wp2
  go_end0
  refine ⟨rfl,HH.out w1 HB.out,?_⟩
  exact (World.grownBy.trans ⟨HB.out.os,HB.out.tape,HB.out.output,HB.out.size,fun k hk _=>HB.out.block k hk⟩ (((Z0p _ _ _ _).trans (Z0p _ _ _ _)).trans (Z0p _ _ _ _)))
 ·have hof:b.on=false:=by simpa using ho
  have e:cutF b n (mk8 m)=b:=by unfold cutF;rw [if_neg ho]
  rw [e]
  rw [hof] at c0
  have HH:=Z0a h
  clear h e
  go_enter Tryz.func72,Tryz.ntmps72
  go_wp2
  go_end0
  exact ⟨rfl,HH.out,Z03 _ _⟩
end Go.Proofs.YthokdbcpkmcieaaGreatDoor
