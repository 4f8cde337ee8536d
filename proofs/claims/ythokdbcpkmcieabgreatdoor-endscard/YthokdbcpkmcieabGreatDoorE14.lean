/- Bok4 Bok5 Bok6 Bok7 -/
import Derived.Test.YthokdbcpkmcieabGreatDoorE12
import Derived.Test.YthokdbcpkmcieabGreatDoorE09
import Derived.Laws.Rows
import Derived.Test.YthokdbcpkmcieabGreatDoorE13
set_option maxRecDepth 200000
set_option maxHeartbeats 8000000
namespace Go.Proofs.YthokdbcpkmcieabGreatDoor
open Go Go.RowKit Go.Shelf Go.WideMaps Go.Maps
theorem read_nilB (code:ByteArray)(w:World)(hc:0<code.size)(hc2:code.size≤maxLen) :
  Calls Tryz.prog 147 #[.slice none 0 0,.string code] w fun e w'=>e=.returned (.tuple #[.int .i64 1,.bool true])∧Below w.heap.size w w':=by
 go_enter Tryz.func147,Tryz.ntmps147
 go_wp2_with fail
 refine (Z8y _).mono ?_
 rintro e w1 ⟨rfl,hb1⟩
 go_wp2_with (refine wpList_store_row rfl 290 (.tmp 6) (.tmp 9) rfl w1.heap.size Z0M rfl rfl 290 _ (heap_alloc_last w1 _) Z3H rfl Z5I ?_;rw [World.setRow_alloc_new])
 refine wp_loop_rounds 1 ?_
 rw [rounds_succ]
 unfold maxLen at hc2
 have hx:(code.extract 1 code.size).size=code.size-1:=by rw [ByteArray.size_extract];omega
 have HX:=Z0a hx
 have hle:(code.extract 1 code.size).size≤9223372036854775807:=by omega
 clear hx
 go_wp2
 go_quiet (fail)
 go_wp2
 go_ret2
 refine ⟨?_,below_drewN ((hb1.alloc hb1.size _).alloc (by have:=hb1.size;simp;omega) _) _⟩
 show Ending.returned (.tuple #[.int .i64 ((code.size:Int)-((code.size-1:Nat):Int)),.bool true])=_
 rw [show (code.size:Int)-((code.size-1:Nat):Int)=1 by omega]
theorem Tryz.infoKindB:(Tryz.prog.info? 231).map (fun i=>(i.zero,i.size,i.bytes))=some (some (.int .i64 0),1,8):=by kernel_rfl
theorem Z1h (w:World)(o:Obj):(w.alloc o).heap.size=w.heap.size+1:=by simp
theorem Z09 (w:World)(l:List Value)(t:TypeId):∀ j u,l[j]?=some u→(w.alloc (.cells l.toArray t)).cell? ((⟨w.heap.size,0,none⟩:Addr).add j)=some u:=by
 intro j u hj
 rw [Addr.add_lit,Nat.zero_add,cell_of_row _ _ _ _ _ (0,0) (heap_alloc_new w _)]
 simpa using hj
theorem Z0z {w:World}{base:Nat}{e:TypeId}{size n:Nat}{v:Value}{xs:List Value}(h:w.ownsRow base e size v n xs):∃ a c,v=.slice a n c:=by
 obtain ⟨_,⟨rfl,rfl⟩ | ⟨g,cap,cur,rfl,_⟩⟩:=h
 ·exact ⟨_,_,rfl⟩
 ·exact ⟨_,_,rfl⟩
theorem Z7q {w w':World}{base e:Nat}{size n g cap:Nat}{xs:List Value}(h:w.ownsRow base e size (.slice (some ⟨g,0,none⟩) n cap) n xs)(hb:Below w.heap.size w w'):w'.ownsRow base e size (.slice (some ⟨g,0,none⟩) n cap) n xs :=
 h.kept (row:=none) ⟨hb.os,hb.tape,hb.output,hb.size,fun k hk _=>hb.block k hk⟩ (.inr (by simp [Value.ownBlock]))
structure NI (w wr:World) (c:Int) (kv:Value) (j:Nat) (ks:List Nat):Prop where
 hd:wr.heap[w.heap.size]?=some (.cells #[.int .u8 0,.slice none 0 0,.int .i64 0] 251 (0,0))
 mb:wr.heap[w.heap.size+1]?=some (.cells #[.int .u8 c,kv,.int .i64 0] 251 (0,0))
 row:wr.ownsRow (w.heap.size+2) 231 1 kv j (Z0n ks)
 below:Below w.heap.size w wr
theorem NI.cell {w wr:World}{c:Int}{kv:Value}{j:Nat}{ks:List Nat}(h:NI w wr c kv j ks)(i:Nat):wr.cell? ⟨w.heap.size+1,i,none⟩=#[.int .u8 c,kv,.int .i64 0][i]?:=cell_of_row _ _ _ _ _ (0,0) h.mb
theorem NI.fz {w wr:World}{c:Int}{kv:Value}{j:Nat}{ks:List Nat}(h:NI w wr c kv j ks)(i:Nat):wr.frozen? ⟨w.heap.size+1,i,none⟩=false:=frozen_of_row _ _ _ _ _ h.mb
theorem NI.lt {w wr:World}{c:Int}{kv:Value}{j:Nat}{ks:List Nat}(h:NI w wr c kv j ks):w.heap.size+1<wr.heap.size:=(Array.getElem?_eq_some_iff.1 h.mb).1
theorem NI.alloc {w wr:World}{c:Int}{kv:Value}{j:Nat}{ks:List Nat}(h:NI w wr c kv j ks)(o:Obj):NI w (wr.alloc o) c kv j ks :=
 ⟨by rw [Below.heap_alloc _ _ _ (by have:=h.lt;omega)];exact h.hd,by rw [Below.heap_alloc _ _ _ h.lt];exact h.mb,h.row.alloc _,h.below.alloc h.below.size _⟩
theorem NI.step {w wr wn:World}{c:Int}{kv kv':Value}{j k:Nat}{ks:List Nat}(h:NI w wr c kv j ks)(hown:wn.ownsRow (w.heap.size+2) 231 1 kv' (j+1) (Z0n ks ++ [.int .i64 (k:Int)]))(hgr:wr.grownBy wn kv.ownBlock):NI w (wn.setCell ⟨w.heap.size+1,1,none⟩ kv') c kv' (j+1) (ks ++ [k]):=by
 have hlt:=h.lt
 have kz:(wn.setCell ⟨w.heap.size+1,1,none⟩ kv').heap.size=wn.heap.size:=by simp [World.setCell]
 have hz:=hgr.size
 have hkb:∀ g,kv.ownBlock=some g→w.heap.size+2≤g:=fun g hg=>(h.row.lt g hg).1
 have kn:∀ k,k<w.heap.size+2→wn.heap[k]?=wr.heap[k]?:=fun k hk=>hgr.block k (by omega) (fun e=>by have:=hkb k e.symm;omega)
 have ks':∀ k,k≠w.heap.size+1→(wn.setCell ⟨w.heap.size+1,1,none⟩ kv').heap[k]?=wn.heap[k]?:=fun k hk=>heap_setCell_other wn ⟨w.heap.size+1,1,none⟩ k kv' hk
 refine ⟨?_,?_,?_,?_⟩
 ·rw [ks' _ (by omega),kn _ (by omega)]
  exact h.hd
 ·exact heap_setCell_same wn _ 1 _ _ kv' ((kn _ (by omega)).trans h.mb)
 ·have e:Z0n (ks ++ [k])=Z0n ks ++ [.int .i64 (k:Int)]:=by simp [Z0n]
  rw [e]
  obtain ⟨hl,⟨e1,e2⟩ | ⟨g,cap,cur,e1,hg,hh,r⟩⟩:=hown
  ·exact ⟨hl,.inl ⟨e1,e2⟩⟩
  ·exact ⟨hl,.inr ⟨g,cap,cur,e1,hg,by rw [ks' g (by omega)];exact hh,r⟩⟩
 ·exact ⟨hgr.os.trans h.below.os,hgr.tape.trans h.below.tape,hgr.output.trans h.below.output,by rw [kz];have:=h.below.size;omega,fun k hk=>by rw [ks' k (by omega),kn k (by omega)];exact h.below.block k hk⟩
theorem newIns_some (c:Int)(l:List Opn)(base g cap n:Nat)(w:World)(hl:l.length=n)(hn:n≤1000)(hrow:w.ownsRow base 233 5 (.slice (some ⟨g,0,none⟩) n cap) n (Z0u l))(hk:∀ k,k<n→(l.getD k opn0).kind<17) :
  Calls Tryz.prog 269 #[.int .u8 c,.slice (some ⟨g,0,none⟩) n cap] w fun e w'=>∃ kv,e=.returned (insV c kv (3-((Z1g l ⟨#[0,0]⟩ false n).2.1.size:Int)))∧w'.ownsRow w.heap.size 231 1 kv n (Z0n (l.map (·.kind)))∧w.grownBy w' (some g):=by
 obtain ⟨ki,hki,hk0,hk1,hk2⟩:=info_parts Tryz.infoKindB
 have hgw:g<w.heap.size:=(hrow.lt g rfl).2
 have HL:=Z0a hl
 have HROW:=Z0a hrow
 have HKK:=Z0a hk
 have hni:(n:Int)≤1000:=by omega
 clear hl hrow hk
 go_enter Tryz.func269,Tryz.ntmps269
 go_wp2_with fail
 go_loopw [13] (fun i wr=>∃ (j:Nat) (kv:Value),j≤n∧i=.int .i64 j∧NI w wr c kv j ((l.take j).map (·.kind))) (fun i _=>n-(intOf i).toNat)
 case atStart =>
  refine ⟨0,.slice none 0 0,Nat.zero_le _,rfl,?_,?_,World.ownsRow_nil _ _ _ _,((Below.refl _ _).alloc (Nat.le_refl _) _).alloc (by simp) _⟩
  ·rw [Below.heap_alloc _ _ _ (by simp)]
   exact heap_alloc_new w _
  ·have:=heap_alloc_new (w.alloc (.cells #[.int .u8 0,.slice none 0 0,.int .i64 0] 251)) (.cells #[.int .u8 c,.slice none 0 0,.int .i64 0] 251)
   rwa [Z1h] at this
 case round =>
  obtain ⟨j,kv,hj,rfl,hN⟩:=hrel
  obtain ⟨ka,kc,rfl⟩:=Z0z hN.row
  have c1:wr.cell? ⟨w.heap.size+1,1,none⟩=some (.slice ka j kc):=hN.cell 1
  by_cases hlt:j<n
  ·have hji:(j:Int)<(n:Int):=by omega
   have hr:=Z7q HROW.out hN.below
   have hjl:j<l.length:=by rw [HL.out];exact hlt
   obtain ⟨a0,a1,a2,a3,a4⟩:=Z3f l j hjl
   have hc:∀ i u,(Z0u l)[i]?=some u→wr.cell? ⟨g,i,none⟩=some u:=fun i u hu=>by
    have:=hr.cells (g:=g) rfl i u hu
    rwa [Addr.add_lit,Nat.zero_add] at this
   obtain ⟨op,hop⟩:∃ op,l.getD j opn0=op:=⟨_,rfl⟩
   rw [hop] at a0 a1 a2 a3 a4
   have b0:=hc _ _ a0
   have b1:=hc _ _ a1
   have b2:=hc _ _ a2
   have b3:=hc _ _ a3
   have b4:=hc _ _ a4
   have hts:(l.take (j+1)).map (·.kind)=(l.take j).map (·.kind) ++ [op.kind]:=by
    rw [List.take_add_one,List.getElem?_eq_getElem hjl,List.map_append,← hop,List.getD_eq_getElem?_getD,List.getElem?_eq_getElem hjl]
    rfl
   have HTS:=Z0a hts
   have HN:=Z0a hN
   have hfz:=hN.fz 1
   have hlt2:=hN.lt
   clear a0 a1 a2 a3 a4 hc hr hop hts hN
   go_wp2_with (
    at_builtin
    refine wpList_append_own_at _ rfl _ _ 249 rfl (w.heap.size+2) 231 ki _ 1 8 Tryz.underlying249 hki hk0 hk1 hk2 rfl (by decide) (.slice ka j kc) j (Z0n ((l.take j).map (·.kind))) rfl ((HN.out.row.alloc _).alloc _) ⟨wr.heap.size+1,0,none⟩ 1 1 [.int .i64 (op.kind:Int)] rfl rfl (by have:=Z09 (wr.alloc (.cells #[.int .i64 (op.kind:Int),.string op.name,.int .u8 op.own,.int .u16 op.added,.int .u16 op.behind] 233)) [.int .i64 (op.kind:Int)] 231;rwa [Z1h] at this) (by intro u hu;simp at hu;subst hu;rfl) (by unfold maxLen;omega) (by omega) (by simp;omega) ?_
    intro v' wn hown hgr _ hloc
    obtain ⟨va',vc',ev'⟩:=Z0z hown
    have hst:=((HN.out.alloc _).alloc _).step hown hgr
    have hbk:wn.heap[w.heap.size+1]?=some (.cells #[.int .u8 c,.slice ka j kc,.int .i64 0] 251 (0,0)):=by
     rw [hgr.block (w.heap.size+1) (by simp;omega) (fun e=>by have:=(HN.out.row.lt _ e.symm).1;omega)]
     exact ((HN.out.alloc _).alloc _).mb
    have d1:wn.cell? ⟨w.heap.size+1,1,none⟩=some (.slice ka j kc):=by rw [cell_of_row _ _ _ _ _ (0,0) hbk];rfl
    have d2:=frozen_of_row wn (w.heap.size+1) 1 _ _ hbk
    subst ev'
    have HST:=Z0a hst
    clear hst hown hgr hloc hbk)
   go_roundw
   case rel=>exact ⟨j+1,_,by omega,by go_num,by rw [HTS.out];exact HST.out⟩
   case measure=>simp [intOf];omega
  ·have hji:¬ (j:Int)<(n:Int):=by omega
   have ej:j=n:=by omega
   subst ej
   have HN:=Z0a hN
   have hlt2:=hN.lt
   clear hN
   obtain ⟨V,hV⟩:∃ V,wr.alloc (.cells #[.int .u8 0,.int .u8 0,.int .u8 0] 380)=V:=⟨_,rfl⟩
   have hcv:(convert 32 9 (.slice (some ⟨wr.heap.size,0,none⟩) 3 3)).run Tryz.prog V=.ok (.string ⟨#[0,0,0]⟩) V:=by
    have:=run_convert_bytes_back (P:=Tryz.prog) V 32 9 5 ⟨wr.heap.size,0,none⟩ 3 [0,0,0] Tryz.underlying32 Tryz.underlying5 Tryz.underlying9 (fun k hk=>by
     rw [←hV]
     refine Z09 wr [.int .u8 0,.int .u8 0,.int .u8 0] _ k _ ?_
     have hk':k=0∨k=1∨k=2:=by simp at hk;omega
     rcases hk' with rfl | rfl | rfl <;> rfl)
    exact this
   have hNV:=HN.out.alloc (.cells #[.int .u8 0,.int .u8 0,.int .u8 0] 380)
   rw [hV] at hNV
   have hVz:V.heap.size=wr.heap.size+1:=by rw [←hV];simp
   have HRD:=Z0a (read_any base g cap j l ⟨#[0,0,0]⟩ V HL.out hn (Z7q HROW.out hNV.below) HKK.out (by decide) (by decide))
   have hex:(⟨#[0,0,0]⟩:ByteArray).extract 1 (⟨#[0,0,0]⟩:ByteArray).size=⟨#[0,0]⟩:=by decide +kernel
   rw [hex,show ((⟨#[0,0,0]⟩:ByteArray).size:Int)=3 from rfl] at HRD
   obtain ⟨R,hR⟩:∃ R,Z1g l ⟨#[0,0]⟩ false j=R:=⟨_,rfl⟩
   rw [hR] at HRD
   obtain ⟨z,hz⟩:∃ z:Int,3-(R.2.1.size:Int)=z:=⟨_,rfl⟩
   rw [hz] at HRD
   have HRZ:=Z0a (And.intro hR hz)
   have HNV:=Z0a hNV
   have htk:(l.take j).map (·.kind)=l.map (·.kind):=by rw [List.take_of_length_le (by rw [HL.out];exact Nat.le_refl _)]
   have HTK:=Z0a htk
   clear hex hR hz hNV htk
   go_wp2_with fail
   refine HRD.out.mono ?_
   rintro e w2 ⟨rfl,_,hg2⟩
   have hlt3:=HNV.out.lt
   have e1:w2.heap[w.heap.size+1]?=some (.cells #[.int .u8 c,.slice ka j kc,.int .i64 0] 251 (0,0)):=by
    rw [hg2.block _ hlt3 (fun e=>by have:=Option.some.inj e;omega)]
    exact HNV.out.mb
   have e0:w2.heap[w.heap.size]?=some (.cells #[.int .u8 0,.slice none 0 0,.int .i64 0] 251 (0,0)):=by
    rw [hg2.block _ (by omega) (fun e=>by have:=Option.some.inj e;omega)]
    exact HNV.out.hd
   have q0:w2.cell? ⟨w.heap.size+1,0,none⟩=some (.int .u8 c):=by rw [cell_of_row _ _ _ _ _ (0,0) e1];rfl
   have q1:w2.cell? ⟨w.heap.size+1,1,none⟩=some (.slice ka j kc):=by rw [cell_of_row _ _ _ _ _ (0,0) e1];rfl
   have q2:w2.cell? ⟨w.heap.size+1,2,none⟩=some (.int .i64 0):=by rw [cell_of_row _ _ _ _ _ (0,0) e1];rfl
   have q3:=frozen_of_row w2 (w.heap.size+1) 2 _ _ e1
   have p0:w2.cell? ⟨w.heap.size,0,none⟩=some (.int .u8 0):=by rw [cell_of_row _ _ _ _ _ (0,0) e0];rfl
   have p1:w2.cell? ⟨w.heap.size,1,none⟩=some (.slice none 0 0):=by rw [cell_of_row _ _ _ _ _ (0,0) e0];rfl
   have p2:w2.cell? ⟨w.heap.size,2,none⟩=some (.int .i64 0):=by rw [cell_of_row _ _ _ _ _ (0,0) e0];rfl
   have f0:=frozen_of_row w2 w.heap.size 0 _ _ e0
   have f1:=frozen_of_row w2 w.heap.size 1 _ _ e0
   have f2:=frozen_of_row w2 w.heap.size 2 _ _ e0
   have HG2:=Z0a hg2
   clear hg2 e0 e1 c1
   go_wp2_with fail
   obtain ⟨X,hX⟩:∃ X,(((w2.setCell ⟨w.heap.size+1,2,none⟩ (.int .i64 z)).setCell ⟨w.heap.size,0,none⟩ (.int .u8 c)).setCell ⟨w.heap.size,1,none⟩ (.slice ka j kc)).setCell ⟨w.heap.size,2,none⟩ (.int .i64 z)=X:=⟨_,rfl⟩
   have hXk:∀ k,k≠w.heap.size→k≠w.heap.size+1→X.heap[k]?=w2.heap[k]?:=fun k h1 h2=>by
    rw [←hX,heap_setCell_other _ ⟨w.heap.size,2,none⟩ k _ h1,heap_setCell_other _ ⟨w.heap.size,1,none⟩ k _ h1,heap_setCell_other _ ⟨w.heap.size,0,none⟩ k _ h1,heap_setCell_other _ ⟨w.heap.size+1,2,none⟩ k _ h2]
   have hXz:X.heap.size=w2.heap.size:=by rw [←hX];simp [World.setCell]
   have hXo:X.os=w2.os∧X.tape=w2.tape∧X.output=w2.output:=by rw [←hX];exact ⟨rfl,rfl,rfl⟩
   refine bodyPost_ret (v:=insV c (.slice ka j kc) z) (by simp [results,Tryz.results269,go_sem,insV,p0,p1,p2]) rfl ?_
   rw [hX]
   have g2:=HG2.out
   have hr:=HNV.out.row
   refine ⟨_,by rw [HRZ.out.1,HRZ.out.2],?_,hXo.1.trans (g2.os.trans HNV.out.below.os),hXo.2.1.trans (g2.tape.trans HNV.out.below.tape),hXo.2.2.trans (g2.output.trans HNV.out.below.output),by rw [hXz];exact Nat.le_trans HNV.out.below.size g2.size,fun k hk hne=>?_⟩
   ·rw [←HTK.out]
    obtain ⟨hl',⟨e1,e2⟩ | ⟨gk,cap',cur,e1,hgk,hh,r⟩⟩:=hr
    ·exact ⟨hl',.inl ⟨e1,e2⟩⟩
    ·have hgl:gk<V.heap.size:=(Array.getElem?_eq_some_iff.1 hh).1
     exact ⟨hl',.inr ⟨gk,cap',cur,e1,by omega,by rw [hXk gk (by omega) (by omega),g2.block gk hgl (fun e=>by have:=Option.some.inj e;omega)];exact hh,r⟩⟩
   ·rw [hXk k (by omega) (by omega),g2.block k (Nat.lt_of_lt_of_le hk HNV.out.below.size) hne]
    exact HNV.out.below.block k hk
theorem newIns_nil (c:Int)(w:World) :
  Calls Tryz.prog 269 #[.int .u8 c,.slice none 0 0] w fun e w'=>e=.returned (insV c (.slice none 0 0) 1)∧Below w.heap.size w w':=by
 have HRD:=Z0a (fun w'=>read_nilB ⟨#[0,0,0]⟩ w' (by decide) (by decide))
 go_enter Tryz.func269,Tryz.ntmps269
 go_wp2_with fail
 refine wp_loop_rounds 1 ?_
 rw [rounds_succ]
 obtain ⟨U,hU⟩:∃ U,(w.alloc (.cells #[.int .u8 0,.slice none 0 0,.int .i64 0] 251)).alloc (.cells #[.int .u8 c,.slice none 0 0,.int .i64 0] 251)=U:=⟨_,rfl⟩
 have hUz:U.heap.size=w.heap.size+2:=by rw [←hU];simp
 obtain ⟨V,hV⟩:∃ V,U.alloc (.cells #[.int .u8 0,.int .u8 0,.int .u8 0] 380)=V:=⟨_,rfl⟩
 have hVz:V.heap.size=w.heap.size+3:=by rw [←hV];simp [hUz]
 have hcv:(convert 32 9 (.slice (some ⟨w.heap.size+2,0,none⟩) 3 3)).run Tryz.prog V=.ok (.string ⟨#[0,0,0]⟩) V:=by
  have:=run_convert_bytes_back (P:=Tryz.prog) V 32 9 5 ⟨w.heap.size+2,0,none⟩ 3 [0,0,0] Tryz.underlying32 Tryz.underlying5 Tryz.underlying9 (fun k hk=>by
   rw [←hV,← hUz]
   refine Z09 U [.int .u8 0,.int .u8 0,.int .u8 0] _ k _ ?_
   have hk':k=0∨k=1∨k=2:=by simp at hk;omega
   rcases hk' with rfl | rfl | rfl <;> rfl)
  exact this
 have h0:V.heap[w.heap.size]?=some (.cells #[.int .u8 0,.slice none 0 0,.int .i64 0] 251 (0,0)):=by
  rw [←hV,Below.heap_alloc _ _ _ (by omega),← hU,Below.heap_alloc _ _ _ (by simp)]
  exact heap_alloc_new w _
 have h1:V.heap[w.heap.size+1]?=some (.cells #[.int .u8 c,.slice none 0 0,.int .i64 0] 251 (0,0)):=by
  rw [←hV,Below.heap_alloc _ _ _ (by omega),← hU]
  have:=heap_alloc_new (w.alloc (.cells #[.int .u8 0,.slice none 0 0,.int .i64 0] 251)) (.cells #[.int .u8 c,.slice none 0 0,.int .i64 0] 251)
  rwa [Z1h] at this
 have hBV:Below w.heap.size w V:=by
  rw [←hV,← hU]
  exact (((Below.refl _ _).alloc (Nat.le_refl _) _).alloc (by simp) _).alloc (by simp;omega) _
 have HB:=Z0a (And.intro hBV (And.intro h0 h1))
 clear hBV h0 h1
 go_wp2_with fail
 refine (HRD.out _).mono ?_
 rintro e w2 ⟨rfl,hB2⟩
 have e1:=(hB2.block (w.heap.size+1) (by omega)).trans HB.out.2.2
 have e0:=(hB2.block w.heap.size (by omega)).trans HB.out.2.1
 have q0:w2.cell? ⟨w.heap.size+1,0,none⟩=some (.int .u8 c):=by rw [cell_of_row _ _ _ _ _ (0,0) e1];rfl
 have q1:w2.cell? ⟨w.heap.size+1,1,none⟩=some (.slice none 0 0):=by rw [cell_of_row _ _ _ _ _ (0,0) e1];rfl
 have q2:w2.cell? ⟨w.heap.size+1,2,none⟩=some (.int .i64 0):=by rw [cell_of_row _ _ _ _ _ (0,0) e1];rfl
 have q3:=frozen_of_row w2 (w.heap.size+1) 2 _ _ e1
 have p0:w2.cell? ⟨w.heap.size,0,none⟩=some (.int .u8 0):=by rw [cell_of_row _ _ _ _ _ (0,0) e0];rfl
 have p1:w2.cell? ⟨w.heap.size,1,none⟩=some (.slice none 0 0):=by rw [cell_of_row _ _ _ _ _ (0,0) e0];rfl
 have p2:w2.cell? ⟨w.heap.size,2,none⟩=some (.int .i64 0):=by rw [cell_of_row _ _ _ _ _ (0,0) e0];rfl
 have f0:=frozen_of_row w2 w.heap.size 0 _ _ e0
 have f1:=frozen_of_row w2 w.heap.size 1 _ _ e0
 have f2:=frozen_of_row w2 w.heap.size 2 _ _ e0
 have HB2:=Z0a (HB.out.1.trans (hB2.mono HB.out.1.size))
 clear hB2 e0 e1
 go_wp2_with fail
 refine bodyPost_ret (v:=insV c (.slice none 0 0) 1) (by simp [results,Tryz.results269,go_sem,insV,p0,p1,p2]) rfl ⟨rfl,?_⟩
 exact ⟨HB2.out.os,HB2.out.tape,HB2.out.output,by simpa [World.setCell] using HB2.out.size,fun k hk=>by rw [heap_setCell_other _ ⟨w.heap.size,2,none⟩ k _ (by show k≠w.heap.size;omega),heap_setCell_other _ ⟨w.heap.size,1,none⟩ k _ (by show k≠w.heap.size;omega),heap_setCell_other _ ⟨w.heap.size,0,none⟩ k _ (by show k≠w.heap.size;omega),heap_setCell_other _ ⟨w.heap.size+1,2,none⟩ k _ (by show k≠w.heap.size+1;omega)];exact HB2.out.block k hk⟩
def opsOf (r:Nat × Nat × List UInt8):List Opn:=(Z2G r.2.2).map fun p=>⟨(Z4X p).toNat,p,bits BinOp.and IntKind.u8 r.1 r.2.1,0,0⟩
def rowGood (r:Nat × Nat × List UInt8):Bool :=
 decide (r.2.2.length<1000) && (decide ((Lib.cut r.2.2 [32]).1=Z1V r.2.2) && (((Lib.cut r.2.2 [32]).2.2 || decide ((Lib.cut r.2.2 [32]).2.1=[])) && (decide ((Lib.cut r.2.2 [32]).2.1.length<1000) && ((Z2G r.2.2).all (fun p=>decide (p.size≤1000) && (decide (0≤Z4X p) && decide (Z4X p<17))) && (decide ((Z2G r.2.2).length≤3) && (decide (3-((Z1g (opsOf r) ⟨#[0,0]⟩ false (opsOf r).length).2.1.size:Int)=(Z6X (Z1J r.2.2):Int)) && ((Lib.cut r.2.2 [32]).2.2 == !(Z2G r.2.2).isEmpty)))))))
theorem rows_good:rowsL.all rowGood=true:=by decide +kernel
structure Z42 (r:Nat × Nat × List UInt8):Prop where
 len:r.2.2.length<1000
 nm:(Lib.cut r.2.2 [32]).1=Z1V r.2.2
 ls0:(Lib.cut r.2.2 [32]).2.2=false→(Lib.cut r.2.2 [32]).2.1=[]
 ls:(Lib.cut r.2.2 [32]).2.1.length<1000
 ps:∀ p∈Z2G r.2.2,p.size≤1000∧0≤Z4X p∧Z4X p<17
 few:(Z2G r.2.2).length≤3
 size:3-((Z1g (opsOf r) ⟨#[0,0]⟩ false (opsOf r).length).2.1.size:Int)=(Z6X (Z1J r.2.2):Int)
 fl:(Lib.cut r.2.2 [32]).2.2 = !(Z2G r.2.2).isEmpty
theorem row_good {r:Nat × Nat × List UInt8}(h:r∈rowsL):Z42 r:=by
 have:=List.all_eq_true.1 rows_good r h
 unfold rowGood at this
 simp only [Bool.and_eq_true,decide_eq_true_eq,Bool.or_eq_true,List.all_eq_true,beq_iff_eq] at this
 obtain ⟨a1,a2,a3,a4,a5,a6,a7,a8⟩:=this
 exact ⟨a1,a2,fun e=>a3.elim (fun a3=>by rw [e] at a3;cases a3) id,a4,a5,a6,a7,a8⟩
theorem opsOf_cells {r:Nat × Nat × List UInt8}(h:Z42 r):(Z2G r.2.2).flatMap (Z18 (bits BinOp.and IntKind.u8 r.1 r.2.1))=Z0u (opsOf r):=by
 have key:∀ l:List ByteArray,(∀ p∈l,0≤Z4X p)→l.flatMap (Z18 (bits BinOp.and IntKind.u8 r.1 r.2.1))=Z0u (l.map fun p=>⟨(Z4X p).toNat,p,bits BinOp.and IntKind.u8 r.1 r.2.1,0,0⟩):=by
  intro l
  induction l with
  | nil=>intro _;rfl
  | cons p l ih =>
   intro hl
   have hp:=hl p (by simp)
   have e:=ih (fun q hq=>hl q (by simp [hq]))
   simp only [Z0u,List.map_cons,List.flatMap_cons] at e ⊢
   rw [e]
   simp [Z18,Opn.cells,Int.toNat_of_nonneg hp]
 exact key _ (fun p hp=>(h.ps p hp).2.1)
theorem Z4f (r:Nat × Nat × List UInt8):(opsOf r).map (·.kind)=Z1J r.2.2:=by simp [opsOf,Z1J]
theorem parts_row (r:Nat × Nat × List UInt8)(hr:Z42 r)(m:Int)(kb:Nat)(w:World)(hown:w.ownsMap Tryz.prog 9 (plainElem Tryz.prog 231) kb 17 kindsD)(hm:w.cell? ⟨0,0,none⟩=some (.int .i64 m))(h0:0<w.heap.size) :
  Calls Tryz.prog 145 #[.agg #[.int .u8 r.1,.int .u8 r.2.1,.string ⟨r.2.2.toArray⟩],.int .u8 r.1,.map (some kb)] w fun e w'=>∃ v,e=.returned (.tuple #[.string ⟨(Z1V r.2.2).toArray⟩,v])∧w'.ownsRow w.heap.size 233 5 v (opsOf r).length (Z0u (opsOf r))∧Below w.heap.size w w':=by
 have hs:(⟨r.2.2.toArray⟩:ByteArray).size<1000:=by simpa [ByteArray.size] using hr.len
 have hlen:(opsOf r).length=(Z2G r.2.2).length:=by simp [opsOf]
 rw [hlen,← opsOf_cells hr]
 cases hfl:(Lib.cut r.2.2 [32]).2.2 with
 | false =>
  have hcut:Lib.cut r.2.2 [32]=(Z1V r.2.2,[],false):=by
   have e1:=hr.nm
   have e2:=hr.ls0 hfl
   revert e1 e2 hfl
   generalize Lib.cut r.2.2 [32]=t
   obtain ⟨x,y,z⟩:=t
   rintro hfl e1 e2
   simp only at hfl e1 e2
   rw [e1,e2,hfl]
  have he:Z2G r.2.2=[]:=by
   have:=hr.fl
   rw [hfl] at this
   cases h:Z2G r.2.2 with
   | nil=>rfl
   | cons a b=>rw [h] at this;cases this
  refine (parts_none r.1 r.2.1 r.1 m ⟨r.2.2.toArray⟩ ⟨(Z1V r.2.2).toArray⟩ kb w hs hm h0 hcut).mono fun e w' ⟨h1,h2⟩=>⟨_,h1,?_,h2⟩
  rw [he]
  exact World.ownsRow_nil _ _ _ _
 | true =>
  obtain ⟨ls,hls⟩:∃ ls,(Lib.cut r.2.2 [32]).2.1=ls:=⟨_,rfl⟩
  have hcut:Lib.cut r.2.2 [32]=(Z1V r.2.2,ls,true):=by
   have e1:=hr.nm
   revert e1 hls hfl
   generalize Lib.cut r.2.2 [32]=t
   obtain ⟨x,y,z⟩:=t
   rintro hfl e2 e1
   simp only at hfl e1 e2
   rw [e1,e2,hfl]
  have hps:pieces ⟨ls.toArray⟩=Z2G r.2.2:=by
   unfold Z2G
   rw [hcut]
  have hl2:(⟨ls.toArray⟩:ByteArray).size<1000:=by have:=hr.ls;rw [hls] at this;simpa [ByteArray.size] using this
  exact parts_some r.1 r.2.1 r.1 m ⟨r.2.2.toArray⟩ ⟨(Z1V r.2.2).toArray⟩ ⟨ls.toArray⟩ (Z2G r.2.2) _ kb w hown hs hl2 hm h0 hcut hps rfl (by have:=hr.few;omega) (fun t ht=>(hr.ps t ht).1)
theorem newIns_row (r:Nat × Nat × List UInt8)(hr:Z42 r)(base:Nat)(v:Value)(w:World)(hrow:w.ownsRow base 233 5 v (opsOf r).length (Z0u (opsOf r))) :
  Calls Tryz.prog 269 #[.int .u8 r.1,v] w fun e w'=>∃ kv,e=.returned (insV r.1 kv (Z6X (Z1J r.2.2):Nat))∧w'.ownsRow w.heap.size 231 1 kv (Z1J r.2.2).length (Z0n (Z1J r.2.2))∧w.grownBy w' v.ownBlock:=by
 have hlen:(opsOf r).length=(Z1J r.2.2).length:=by rw [←Z4f,List.length_map]
 have hr2:=hrow
 obtain ⟨_,⟨rfl,e2⟩ | ⟨g,cap,cur,rfl,_⟩⟩:=hrow
 ·have he:opsOf r=[]:=List.eq_nil_of_length_eq_zero e2
  have hz:=hr.size
  rw [he] at hz
  have hz1:(Z6X (Z1J r.2.2):Int)=1:=by rw [←hz];rfl
  refine (newIns_nil r.1 w).mono fun e w' ⟨h1,h2⟩=>⟨.slice none 0 0,by rw [h1,hz1],?_,⟨h2.os,h2.tape,h2.output,h2.size,fun k hk _=>h2.block k hk⟩⟩
  have hk0:Z1J r.2.2=[]:=by rw [←Z4f,he];rfl
  rw [hk0]
  exact World.ownsRow_nil _ _ _ _
 ·have hn:(opsOf r).length≤3:=by have:=hr.few;simpa [opsOf] using this
  refine (newIns_some r.1 (opsOf r) base g cap _ w rfl (by omega) hr2 (fun k hk=>?_)).mono fun e w' ⟨kv,h1,h2,h3⟩=>⟨kv,by rw [h1,hr.size],?_,h3⟩
  ·rw [List.getD_eq_getElem?_getD,List.getElem?_eq_getElem hk]
   have hm:(opsOf r)[k]∈opsOf r:=List.getElem_mem hk
   show ((opsOf r)[k]).kind<17
   obtain ⟨p,hp,e⟩:=List.mem_map.1 hm
   rw [←e]
   have:=hr.ps p hp
   show (Z4X p).toNat<17
   omega
  ·rw [hlen,Z4f] at h2
   exact h2
def cntK (k:Nat) (l:List UInt8):Nat:=((rowsL.take k).filter fun r=>Z1V r.2.2 == l).length
def cntO (k:Nat) (l:List UInt8):Option Value:=if cntK k l=0 then none else some (.int .i64 (cntK k l:Int))
theorem cntK_le (k:Nat)(l:List UInt8):cntK k l≤k:=by
 unfold cntK
 have h1:=List.length_filter_le (fun r:Nat × Nat × List UInt8=>Z1V r.2.2 == l) (rowsL.take k)
 have h2:=List.length_take_le k rowsL
 omega
theorem cntK_step (k:Nat)(h:k<rowsL.length)(l:List UInt8):cntK (k+1) l=cntK k l+(if Z1V (rowsL[k]).2.2=l then 1 else 0):=by
 unfold cntK
 rw [List.take_add_one,List.getElem?_eq_getElem h,List.filter_append,List.length_append]
 congr 1
 by_cases e:Z1V (rowsL[k]).2.2=l
 ·simp [e]
 ·simp [e]
theorem cnt_look (k:Nat)(l:List UInt8):Z5A false (.int .i64 0) (cntO k l)=.int .i64 (cntK k l:Int):=by
 unfold cntO
 by_cases e:cntK k l=0
 ·rw [if_pos e,e];rfl
 ·rw [if_neg e];rfl
theorem cnt_put (k:Nat)(h:k<rowsL.length)(l':List UInt8):putF (cntO k) (Z1V (rowsL[k]).2.2) (.int .i64 ((cntK k (Z1V (rowsL[k]).2.2):Int)+1)) l'=cntO (k+1) l':=by
 unfold putF
 by_cases e:l'=Z1V (rowsL[k]).2.2
 ·subst e
  rw [if_pos rfl]
  unfold cntO
  rw [cntK_step k h,if_pos rfl,if_neg (by omega)]
  rfl
 ·have e3:cntK (k+1) l'=cntK k l':=by
   rw [cntK_step k h,if_neg (fun e2=>e e2.symm),Nat.add_zero]
  rw [if_neg e]
  unfold cntO
  rw [e3]
theorem cnt_end (l:List UInt8):(hasN l=false∧cntO rowsL.length l=none)∨(hasN l=true∧∃ c:Int,0<c∧cntO rowsL.length l=some (.int .i64 c)):=by
 unfold cntO cntK hasN
 rw [List.take_length]
 by_cases e:((rowsL.filter fun r=>Z1V r.2.2 == l).length=0)
 ·left
  refine ⟨?_,if_pos e⟩
  have:=List.eq_nil_of_length_eq_zero e
  rw [List.filter_eq_nil_iff] at this
  rw [List.any_eq_false]
  exact this
 ·right
  refine ⟨?_,_,?_,if_neg e⟩
  ·cases ha:rowsL.any fun r=>Z1V r.2.2 == l with
   | true=>rfl
   | false =>
    rw [List.any_eq_false] at ha
    exact absurd (by rw [List.filter_eq_nil_iff.2 ha];rfl) e
  ·omega
def insK (k:Nat) (s:List UInt8) (ks:List Nat):Option InsD:=((rowsL.take k).reverse.find? (meant s ks)).map insR
theorem insK_step (k:Nat)(h:k<rowsL.length)(s:List UInt8)(ks:List Nat):insK (k+1) s ks=if meant s ks rowsL[k]=true then some (insR rowsL[k]) else insK k s ks:=by
 unfold insK
 rw [List.take_add_one,List.getElem?_eq_getElem h]
 simp only [Option.toList_some,List.reverse_append,List.reverse_cons,List.reverse_nil,List.nil_append,List.cons_append,List.find?_cons]
 cases meant s ks rowsL[k] with
 | true=>rfl
 | false=>rfl
theorem insK_end (s:List UInt8)(ks:List Nat):insK rowsL.length s ks=insO s ks:=by
 unfold insK insO
 rw [List.take_length]
theorem entKof_of {s:ByteArray}{ks ks':List Nat}(h:ks.map lkN=ks'.map lkN):Z1x s ks=Z1x s ks':=by
 have hl:ks.length=ks'.length:=by have:=congrArg List.length h;simpa using this
 have hi:∀ i:Nat,(match ks[i]? with | some k=>((lkN k:Nat):Int) | none=>0)=(match ks'[i]? with | some k=>((lkN k:Nat):Int) | none=>0):=fun i=>by
  have:=congrArg (·[i]?) h
  simp only [List.getElem?_map] at this
  cases h1:ks[i]? with
  | none=>cases h2:ks'[i]? with
   | none=>rfl
   | some b=>rw [h1,h2] at this;cases this
  | some a=>cases h2:ks'[i]? with
   | none=>rw [h1,h2] at this;cases this
   | some b=>rw [h1,h2] at this;simp at this;simp [this]
 unfold Z1x
 rw [hl]
 exact congr (congr (congrArg (entK s _) (hi 0)) (hi 1)) (hi 2)
theorem entKof_inj {s s':ByteArray}{ks ks':List Nat}(hs:s.size≤1000000)(hs':s'.size≤1000000)(hk:ks.length≤3)(hk':ks'.length≤3)(h1:∀ k∈ks,k≤100)(h2:∀ k∈ks',k≤100)(h:Z1x s ks=Z1x s' ks'):s=s'∧ks.map lkN=ks'.map lkN:=by
 have e:=entLaw.inj (Z4L s ks hs hk h1) (by rw [h];exact Z4L s' ks' hs' hk' h2)
 unfold Z49 entV at e
 simp only [Value.agg.injEq,Array.mk.injEq,List.cons.injEq,Value.string.injEq,Value.int.injEq,true_and,and_true] at e
 obtain ⟨e0,e1,e2,e3,e4⟩:=e
 have hl:ks.length=ks'.length:=by omega
 refine ⟨e0,List.ext_getElem (by simpa using hl) (fun i p q=>?_)⟩
 simp only [List.length_map] at p q
 simp only [List.getElem_map]
 have hi:i=0∨i=1∨i=2:=by omega
 rcases hi with rfl | rfl | rfl
 ·rw [List.getElem?_eq_getElem p,List.getElem?_eq_getElem q] at e2
  exact Int.ofNat.inj e2
 ·rw [List.getElem?_eq_getElem p,List.getElem?_eq_getElem q] at e3
  exact Int.ofNat.inj e3
 ·rw [List.getElem?_eq_getElem p,List.getElem?_eq_getElem q] at e4
  exact Int.ofNat.inj e4
theorem MapAt.at1B {P:Program}{k:TypeId}{w w':World}{b n:Nat}{f:List UInt8→Option Value}(h:MapAt P k w b n f)(he:w'.heap[b]?=w.heap[b]?):MapAt P k w' b n f:=by
 obtain ⟨D,⟨es,clock,h1,h2⟩,h3⟩:=h
 exact ⟨D,⟨es,clock,he.trans h1,h2⟩,h3⟩
theorem Z2z {w w':World}{base e size n:Nat}{v:Value}{xs:List Value}(h:w.ownsRow base e size v n xs)(hb:∀ j,v.ownBlock=some j→w'.heap[j]?=w.heap[j]?):w'.ownsRow base e size v n xs:=by
 obtain ⟨hl,⟨e1,e2⟩ | ⟨g,cap,cur,e1,hg,hh,r⟩⟩:=h
 ·exact ⟨hl,.inl ⟨e1,e2⟩⟩
 ·exact ⟨hl,.inr ⟨g,cap,cur,e1,hg,(hb g (by rw [e1];rfl)).trans hh,r⟩⟩
def InsK (wr:World) (rb k:Nat) (f:List UInt8→Option Value):Prop:=∀ (s:ByteArray) (ks:List Nat),s.size≤1000000→ks.length≤3→(∀ k∈ks,k≤100) →
 match insK k s.data.toList ks with
 | none=>f (Z1x s ks)=none
 | some d=>∃ v,f (Z1x s ks)=some (insV d.code v d.size)∧wr.ownsRow 0 231 1 v d.kinds.length (Z0n d.kinds)∧∀ j,v.ownBlock=some j→rb<j
theorem InsK.keep {wr w':World}{rb k:Nat}{f:List UInt8→Option Value}(h:InsK wr rb k f)(hb:∀ j,rb<j→j<wr.heap.size→w'.heap[j]?=wr.heap[j]?):InsK w' rb k f:=by
 intro s ks h1 h2 h3
 have:=h s ks h1 h2 h3
 split at this
 ·exact this
 ·obtain ⟨v,q1,q2,q3⟩:=this
  exact ⟨v,q1,Z2z q2 (fun j hj=>hb j (q3 j hj) (q2.lt j hj).2),q3⟩
theorem insK_start (wr:World)(rb:Nat):InsK wr rb 0 (fun _=>none):=fun _ _ _ _ _=>rfl
theorem rowKd_le {r:Nat × Nat × List UInt8}(h:Z42 r):(Z1J r.2.2).length≤3∧∀ k∈Z1J r.2.2,k≤100:=by
 refine ⟨by have:=h.few;simpa [Z1J] using this,fun k hk=>?_⟩
 obtain ⟨p,hp,e⟩:=List.mem_map.1 hk
 have:=h.ps p hp
 omega
theorem rowNm_le {r:Nat × Nat × List UInt8}(h:Z42 r):(⟨(Z1V r.2.2).toArray⟩:ByteArray).size≤1000:=by
 have h1:(Z1V r.2.2).length≤r.2.2.length:=(List.takeWhile_sublist _).length_le
 have h2:=h.len
 show (Z1V r.2.2).toArray.size≤1000
 rw [List.size_toArray]
 omega
theorem InsK.put {wr:World}{rb k:Nat}{f:List UInt8→Option Value}(h:InsK wr rb k f)(hk:k<rowsL.length)(kv:Value)(hkv:wr.ownsRow 0 231 1 kv (Z1J (rowsL[k]).2.2).length (Z0n (Z1J (rowsL[k]).2.2)))(hrb:∀ j,kv.ownBlock=some j→rb<j) :
  InsK wr rb (k+1) (putF f (Z1x ⟨(Z1V (rowsL[k]).2.2).toArray⟩ (Z1J (rowsL[k]).2.2)) (insV (rowsL[k]).1 kv (Z6X (Z1J (rowsL[k]).2.2):Nat))):=by
 have hg:=row_good (List.getElem_mem hk)
 obtain ⟨g1,g2⟩:=rowKd_le hg
 have g3:=rowNm_le hg
 intro s ks h1 h2 h3
 rw [insK_step k hk]
 have hold:=h s ks h1 h2 h3
 unfold putF
 by_cases hm:meant s.data.toList ks rowsL[k]=true
 ·rw [if_pos hm]
  unfold meant at hm
  simp only [Bool.and_eq_true,beq_iff_eq] at hm
  have hs:s=⟨(Z1V (rowsL[k]).2.2).toArray⟩:=by
   rw [hm.1]
  have he:Z1x s ks=Z1x ⟨(Z1V (rowsL[k]).2.2).toArray⟩ (Z1J (rowsL[k]).2.2):=by
   rw [←hs]
   exact entKof_of hm.2.symm
  refine ⟨kv,?_,hkv,hrb⟩
  rw [if_pos he]
  rfl
 ·rw [if_neg hm]
  have hne:¬ Z1x s ks=Z1x ⟨(Z1V (rowsL[k]).2.2).toArray⟩ (Z1J (rowsL[k]).2.2):=fun e=>by
   obtain ⟨a,b⟩:=entKof_inj h1 (by omega) h2 g1 h3 g2 e
   refine hm ?_
   unfold meant
   rw [a]
   simp [b]
  rw [if_neg hne]
  exact hold
structure NB (w wr:World) (fb bb kb rb kc ki:Nat):Prop where
 hd:wr.heap[w.heap.size]?=some (.cells #[.map none,.map none,.map none] 322 (0,0))
 bk:wr.heap[bb]?=some (.cells #[.map (some (w.heap.size+1)),.map (some (w.heap.size+2)),.map (some fb)] 322 (0,0))
 cn:∃ n,n≤kc∧MapAt Tryz.prog 9 wr (w.heap.size+1) n (cntO kc)
 ins:∃ n f,n≤ki∧MapAt Tryz.prog 358 wr (w.heap.size+2) n f∧InsK wr rb ki f
 fx:∃ n,MapAt Tryz.prog 9 wr fb n (fun l=>(fixO l).map fixV)
 km:wr.ownsMap Tryz.prog 9 (plainElem (H:=Unit) Tryz.prog 231) kb 17 kindsD
 rws:wr.heap[rb]?=some (.cells Z2d.toArray 222 (0,0))
 below:Below w.heap.size w wr
 d:w.heap.size+2<fb∧fb<bb∧bb<kb∧kb<rb∧rb<wr.heap.size
theorem NB.upd {w wr w':World}{fb bb kb rb kc ki kc' ki':Nat}(h:NB w wr fb bb kb rb kc ki)(ho:w'.os=wr.os∧w'.tape=wr.tape∧w'.output=wr.output)(hz:wr.heap.size≤w'.heap.size)
  (hk:∀ j,j<wr.heap.size→j≠w.heap.size+1→j≠w.heap.size+2→w'.heap[j]?=wr.heap[j]?) (cn':∃ n,n≤kc'∧MapAt Tryz.prog 9 w' (w.heap.size+1) n (cntO kc')) (ins':∃ n f,n≤ki'∧MapAt Tryz.prog 358 w' (w.heap.size+2) n f∧InsK w' rb ki' f):NB w w' fb bb kb rb kc' ki':=by
 obtain ⟨d1,d2,d3,d4,d5⟩:=h.d
 obtain ⟨n,hf⟩:=h.fx
 refine ⟨(hk _ (by omega) (by omega) (by omega)).trans h.hd,(hk _ (by omega) (by omega) (by omega)).trans h.bk,cn',ins',⟨n,hf.at1B (hk _ (by omega) (by omega) (by omega))⟩,?_,(hk _ (by omega) (by omega) (by omega)).trans h.rws,?_,⟨d1,d2,d3,d4,by omega⟩⟩
 ·obtain ⟨es,clock,h1,h2⟩:=h.km
  exact ⟨es,clock,(hk _ (by omega) (by omega) (by omega)).trans h1,h2⟩
 ·exact ⟨ho.1.trans h.below.os,ho.2.1.trans h.below.tape,ho.2.2.trans h.below.output,Nat.le_trans h.below.size hz,fun k hk'=>(hk k (by omega) (by omega) (by omega)).trans (h.below.block k hk')⟩
theorem NB.grow {w wr w':World}{fb bb kb rb kc ki:Nat}(h:NB w wr fb bb kb rb kc ki)(hb:Below wr.heap.size wr w'):NB w w' fb bb kb rb kc ki:=by
 obtain ⟨d1,d2,d3,d4,d5⟩:=h.d
 obtain ⟨n,hn,hc⟩:=h.cn
 obtain ⟨n2,f,hn2,hi,hK⟩:=h.ins
 exact h.upd ⟨hb.os,hb.tape,hb.output⟩ hb.size (fun j hj _ _=>hb.block j hj) ⟨n,hn,hc.at1B (hb.block _ (by omega))⟩ ⟨n2,f,hn2,hi.at1B (hb.block _ (by omega)),hK.keep (fun j _ hj=>hb.block j hj)⟩
theorem NB.count {w wr w':World}{fb bb kb rb kc ki:Nat}(h:NB w wr fb bb kb rb kc ki)(hg:wr.grownBy w' (some (w.heap.size+1)))(cn':∃ n,n≤kc+1∧MapAt Tryz.prog 9 w' (w.heap.size+1) n (cntO (kc+1))):NB w w' fb bb kb rb (kc+1) ki:=by
 obtain ⟨d1,d2,d3,d4,d5⟩:=h.d
 obtain ⟨n2,f,hn2,hi,hK⟩:=h.ins
 have key:∀ j,j<wr.heap.size→j≠w.heap.size+1→w'.heap[j]?=wr.heap[j]?:=fun j hj hne=>hg.block j hj (fun e=>hne (Option.some.inj e))
 exact h.upd ⟨hg.os,hg.tape,hg.output⟩ hg.size (fun j hj h1 _=>key j hj h1) cn' ⟨n2,f,hn2,hi.at1B (key _ (by omega) (by omega)),hK.keep (fun j h1 hj=>key j hj (by omega))⟩
theorem NB.lay {w wr w':World}{fb bb kb rb kc ki:Nat}(h:NB w wr fb bb kb rb kc ki)(hg:wr.grownBy w' (some (w.heap.size+2)))(ins':∃ n f,n≤ki+1∧MapAt Tryz.prog 358 w' (w.heap.size+2) n f∧InsK w' rb (ki+1) f):NB w w' fb bb kb rb kc (ki+1):=by
 obtain ⟨d1,d2,d3,d4,d5⟩:=h.d
 obtain ⟨n,hn,hc⟩:=h.cn
 have key:∀ j,j<wr.heap.size→j≠w.heap.size+2→w'.heap[j]?=wr.heap[j]?:=fun j hj hne=>hg.block j hj (fun e=>hne (Option.some.inj e))
 exact h.upd ⟨hg.os,hg.tape,hg.output⟩ hg.size (fun j hj _ h2=>key j hj h2) ⟨n,hn,hc.at1B (key _ (by omega) (by omega))⟩ ins'
end Go.Proofs.YthokdbcpkmcieabGreatDoor
