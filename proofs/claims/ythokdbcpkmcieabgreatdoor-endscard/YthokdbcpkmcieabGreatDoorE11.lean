/- Task3 Task4 Task5 -/
import Derived.Test.YthokdbcpkmcieabGreatDoorE10
import Derived.Test.YthokdbcpkmcieabGreatDoorE01
set_option maxRecDepth 200000
set_option maxHeartbeats 8000000
namespace Go.Proofs.YthokdbcpkmcieabGreatDoor
open Go Go.RowKit Go.Maps Go.WideMaps
theorem dir_run0 (w:World)(b:Bk)(s:ByteArray)(h:BookAt w b)(hs:s.size≤1000000):(Instr.lookup 324 (.map (some b.db)) (.string s) false).run Tryz.prog w=.ok (.int .i64 ((dirO s.data.toList).getD 0:Nat)) w:=by
 have hkey:keyOf Tryz.prog 9 (.string s)=some (.string s.data.toList):=keyOf_string_mk Tryz.underlying9 (by unfold maxLen;omega)
 rw [h.dirs.look strK Tryz.underlying324 (zeroTask _) hkey false]
 cases dirO s.data.toList <;> rfl
theorem Z5F (w:World)(B pb sb:Nat)(b:Bk)(line:Int)(t:Tok)(l:List Tok)(h:PS w B pb b line (t :: l))(hb:BookAt w b)(_hI:InsAt w b pb)(_hib:b.ib<pb)(ha:Apart B pb b)(_hn:(t :: l).length≤1000000)(l0 p0:Int)(lb:ByteArray)
  (hS:SS w sb l0 p0 lb (0:Nat) ⟨#[]⟩ (.slice none 0 0) 0 (.slice none 0 0) 0) (hne:sb≠pb) (_hB:B≤sb) (hk1:t.kind=1) (hh:hasN t.text.data.toList=false) (htk:dirO t.text.data.toList=none∨dirO t.text.data.toList=some 5) (hok:Z0L t.text.data.toList=false):Calls Tryz.prog 234 #[.pointer (some ⟨pb,0,none⟩),.pointer (some ⟨sb,0,none⟩)] w (TEnd w B pb sb b line l0 p0 lb none):=by
 have HA:=Z0a (Z0X w B pb b line t l h)
 have hd:decide (t.kind=0)=false:=by simp;omega
 rw [hd] at HA
 have hst:=h.sz t (by simp)
 have HW:=Z0a (Z1X w B pb b line t l h hk1)
 have hpB:=h.lt
 have hleB:=h.le
 have HBW:=Z0a hb
 have HSS:=Z0a hS
 obtain ⟨dv,dz,hdv,hdz⟩:∃ (dv:Nat) (dz:Bool),dirR (dirO t.text.data.toList)=.tuple #[.int .i64 dv,.bool dz]∧(dz=true→dv=5):=by
  rcases htk with h' | h'
  ·rw [h'];exact ⟨0,false,rfl,(fun h=>by cases h)⟩
  ·rw [h'];exact ⟨5,true,rfl,fun _=>rfl⟩
 have HDV:=Z0a hdv
 have HDZ:=Z0a hdz
 clear h hb _hI hS hdv hdz
 go_enter Tryz.func234,Tryz.ntmps234
 go_wp2_with fail
 refine HA.out.mono ?_
 rintro e w0 ⟨rfl,hw0⟩
 rw [hw0]
 clear hw0 w0
 go_wp2_with fail
 refine HW.out.mono ?_
 rintro e w1 ⟨rfl,hp1,hg1⟩
 have hbk1:=HBW.out.kept hg1 ha.h1 ha.h2 ha.h3
 have hG1:=Grow2.of1 hg1 sb
 have hS1:=HSS.out.grown (hg1.block sb HSS.out.lt (by simpa using hne)) hg1.size
 have hdr:=Z4v w1 b t.text hbk1 (by omega)
 rw [HDV.out] at hdr
 have hhn:=Z1M w1 b t.text hbk1 (by omega)
 rw [hh] at hhn
 unfold bkV at hhn
 have HH:=Z0a hhn
 have d0:=hp1.c0
 have d1:=hp1.c1
 have d2:=hp1.c2
 have d3:=hp1.c3
 have HP1:=Z0a hp1
 have HB1:=Z0a hbk1
 have HS1:=Z0a hS1
 clear hp1 hbk1 hS1 hhn
 go_wp2_with fail
 refine HH.out.mono ?_
 rintro e w2 ⟨rfl,hb2⟩
 have hG2:=hG1.trans (Grow2.ofB hb2 _ _)
 have hS2:=HS1.out.grown (hb2.block sb HS1.out.lt) hb2.size
 have hp2:=HP1.out.kept (hb2.mono HP1.out.le)
 have hbk2:=HB1.out.below hb2
 have hcn:=Z1F w2 B pb b line l t.text hp2 hbk2 (by omega)
 rw [Z7t _ _ hok] at hcn
 have HC:=Z0a hcn
 clear hcn hp2 hbk2 hS2
 have close:∀ (w3:World),Below w2.heap.size w2 w3→Grow2 w w3 pb sb:=fun w3 hb3=>hG2.trans (Grow2.ofB hb3 _ _)
 have HCL:=Z0a close
 clear close
 cases dz with
 | true =>
  have h5:=HDZ.out rfl
  subst h5
  go_wp2_with fail
  refine HC.out.mono ?_
  rintro e w3 ⟨rfl,hb3⟩
  unfold synE
  go_wp2_with fail
  exact ⟨rfl,rfl,HCL.out _ hb3⟩
 | false =>
  go_wp2_with fail
  refine HC.out.mono ?_
  rintro e w3 ⟨rfl,hb3⟩
  unfold synE
  go_wp2_with fail
  exact ⟨rfl,rfl,HCL.out _ hb3⟩
theorem Z4t (w:World)(B pb sb:Nat)(b:Bk)(line:Int)(t:Tok)(u:Tok)(l2:List Tok)(h:PS w B pb b line (t :: u :: l2))(hb:BookAt w b)(_hI:InsAt w b pb)(_hib:b.ib<pb)(ha:Apart B pb b)(_hn:(t :: u :: l2).length≤1000000)(l0 p0:Int)(lb:ByteArray)
  (hS:SS w sb l0 p0 lb (0:Nat) ⟨#[]⟩ (.slice none 0 0) 0 (.slice none 0 0) 0) (hne:sb≠pb) (hB:B≤sb) (hk1:t.kind=1) (hh:hasN t.text.data.toList=false) (htk:dirO t.text.data.toList=none∨dirO t.text.data.toList=some 5) (hok:Z0L t.text.data.toList=true) (hu:¬ u.kind=1):Calls Tryz.prog 234 #[.pointer (some ⟨pb,0,none⟩),.pointer (some ⟨sb,0,none⟩)] w (TEnd w B pb sb b line l0 p0 lb none):=by
 have HA:=Z0a (Z0X w B pb b line t (u :: l2) h)
 have hd:decide (t.kind=0)=false:=by simp;omega
 rw [hd] at HA
 have hst:=h.sz t (by simp)
 have HW:=Z0a (Z1X w B pb b line t (u :: l2) h hk1)
 have hpB:=h.lt
 have hleB:=h.le
 have HBW:=Z0a hb
 have HSS:=Z0a hS
 obtain ⟨dv,dz,hdv,hdz⟩:∃ (dv:Nat) (dz:Bool),dirR (dirO t.text.data.toList)=.tuple #[.int .i64 dv,.bool dz]∧(dz=true→dv=5):=by
  rcases htk with h' | h'
  ·rw [h'];exact ⟨0,false,rfl,(fun h=>by cases h)⟩
  ·rw [h'];exact ⟨5,true,rfl,fun _=>rfl⟩
 have HDV:=Z0a hdv
 have HDZ:=Z0a hdz
 clear h hb _hI hS hdv hdz
 go_enter Tryz.func234,Tryz.ntmps234
 go_wp2_with fail
 refine HA.out.mono ?_
 rintro e w0 ⟨rfl,hw0⟩
 rw [hw0]
 clear hw0 w0
 go_wp2_with fail
 refine HW.out.mono ?_
 rintro e w1 ⟨rfl,hp1,hg1⟩
 have hbk1:=HBW.out.kept hg1 ha.h1 ha.h2 ha.h3
 have hG1:=Grow2.of1 hg1 sb
 have hS1:=HSS.out.grown (hg1.block sb HSS.out.lt (by simpa using hne)) hg1.size
 have hdr:=Z4v w1 b t.text hbk1 (by omega)
 rw [HDV.out] at hdr
 have hhn:=Z1M w1 b t.text hbk1 (by omega)
 rw [hh] at hhn
 unfold bkV at hhn
 have HH:=Z0a hhn
 have d0:=hp1.c0
 have d1:=hp1.c1
 have d2:=hp1.c2
 have d3:=hp1.c3
 have HP1:=Z0a hp1
 have HB1:=Z0a hbk1
 have HS1:=Z0a hS1
 clear hp1 hbk1 hS1 hhn
 go_wp2_with fail
 refine HH.out.mono ?_
 rintro e w2 ⟨rfl,hb2⟩
 have hG2:=hG1.trans (Grow2.ofB hb2 _ _)
 have hS2:=HS1.out.grown (hb2.block sb HS1.out.lt) hb2.size
 have hp2:=HP1.out.kept (hb2.mono HP1.out.le)
 have hbk2:=HB1.out.below hb2
 have hcn:=Z1F w2 B pb b line (u :: l2) t.text hp2 hbk2 (by omega)
 rw [Z6J _ _ hok] at hcn
 have HC:=Z0a hcn
 have HP2:=Z0a hp2
 have HB2:=Z0a hbk2
 have HS2:=Z0a hS2
 have hent:∀ args w,(callFunc 278 args).run Tryz.prog w=.ok (.enter 278 args) w:=enters_of Tryz.func278 (by kernel_rfl) rfl
 clear hcn hp2 hbk2 hS2
 cases dz with
 | true =>
  have h5:=HDZ.out rfl
  subst h5
  rcases htk with h' | h'
  ·rw [h'] at HDV;exact absurd HDV.out (by simp [dirR])
  ·have:Z0L t.text.data.toList=false:=by unfold Z0L;rw [h'];rfl
   rw [this] at hok;cases hok
 | false =>
  go_wp2_with fail
  refine HC.out.mono ?_
  rintro e w3 ⟨rfl,hb3⟩
  have hS3:=HS2.out.grown (hb3.block sb HS2.out.lt) hb3.size
  have s3:=hS3.c3
  have s4:=hS3.c4
  have f3:=hS3.fz 3
  have f4:=hS3.fz 4
  have hsl3:=hS3.lt
  have hS4:=(hS3.task 5).name t.text
  have hbx:Below B w3 ((w3.setCell ⟨sb,3,none⟩ (.int .i64 5)).setCell ⟨sb,4,none⟩ (.string t.text)):=((Below.refl _ _).setCell hB _).setCell hB _
  have hG4:=((hG2.trans (Grow2.ofB hb3 _ _)).set 3 (.int .i64 5)).set 4 (.string t.text)
  have hp4:=(HP2.out.kept (hb3.mono HP2.out.le)).kept hbx
  have hbk4:=(HB2.out.below hb3).belowB hbx ha.l1 ha.l2 ha.l3
  have H4:=Z0a (And.intro hS4 (And.intro hp4 hbk4))
  have d33:=hp4.c3
  clear hS3 hS4 hbx hp4 hbk4
  go_wp2_with fail
  obtain ⟨W,hW⟩:∃ W,(w3.setCell ⟨sb,3,none⟩ (.int .i64 5)).setCell ⟨sb,4,none⟩ (.string t.text)=W:=⟨_,rfl⟩
  rw [hW] at H4 hG4 d33 ⊢
  clear hW s3 s4 f3 f4
  have HW4:=Z0a (Z6A W.drew B pb b line u l2 (H4.out.2.1.kept (Below.refl _ _).drew) hu)
  have hlk:=dir_run0 W.drew b ⟨#[]⟩ (H4.out.2.2.below (Below.refl _ _).drew) (by decide)
  go_region_law (refine Z1r (.string ⟨#[]⟩) 278 #[.pointer (some ⟨pb,0,none⟩)] rfl (by simp [go_sem,hent]) _ HW4.out (fun e w' hh=>⟨_,hh.1,rfl,rfl,by rw [hh.2];exact hG4.trans (Grow2.ofB (Below.refl _ _).drew _ _)⟩) ?_;intro HF)
  all_goals exact HF.out.elim
theorem Z47 (w:World)(B pb sb:Nat)(b:Bk)(line:Int)(t:Tok)(u:Tok)(l2:List Tok)(h:PS w B pb b line (t :: u :: l2))(hb:BookAt w b)(_hI:InsAt w b pb)(_hib:b.ib<pb)(ha:Apart B pb b)(hn:(t :: u :: l2).length≤1000000)(l0 p0:Int)(lb:ByteArray)
  (hS:SS w sb l0 p0 lb (0:Nat) ⟨#[]⟩ (.slice none 0 0) 0 (.slice none 0 0) 0) (hne:sb≠pb) (hB:B≤sb) (hk1:t.kind=1) (hh:hasN t.text.data.toList=false) (htk:dirO t.text.data.toList=none∨dirO t.text.data.toList=some 5) (hok:Z0L t.text.data.toList=true) (hu:u.kind=1):Calls Tryz.prog 234 #[.pointer (some ⟨pb,0,none⟩),.pointer (some ⟨sb,0,none⟩)] w (TEnd w B pb sb b line l0 p0 lb (if dirO u.text.data.toList=some 5 then (Z3M 5 l2).map fun x=>(⟨5,t.text,x.1,ins0⟩,x.2) else none)):=by
 have hsu:=h.sz u (by simp)
 obtain ⟨T0,hT0⟩:∃ T0,(if dirO u.text.data.toList=some 5 then (Z3M 5 l2).map fun x=>((⟨5,t.text,x.1,ins0⟩:Stm),x.2) else none)=T0:=⟨_,rfl⟩
 rw [hT0]
 have HT0:=Z0a hT0
 clear hT0
 have HA:=Z0a (Z0X w B pb b line t (u :: l2) h)
 have hd:decide (t.kind=0)=false:=by simp;omega
 rw [hd] at HA
 have hst:=h.sz t (by simp)
 have HW:=Z0a (Z1X w B pb b line t (u :: l2) h hk1)
 have hpB:=h.lt
 have hleB:=h.le
 have HBW:=Z0a hb
 have HSS:=Z0a hS
 obtain ⟨dv,dz,hdv,hdz⟩:∃ (dv:Nat) (dz:Bool),dirR (dirO t.text.data.toList)=.tuple #[.int .i64 dv,.bool dz]∧(dz=true→dv=5):=by
  rcases htk with h' | h'
  ·rw [h'];exact ⟨0,false,rfl,(fun h=>by cases h)⟩
  ·rw [h'];exact ⟨5,true,rfl,fun _=>rfl⟩
 have HDV:=Z0a hdv
 have HDZ:=Z0a hdz
 clear h hb _hI hS hdv hdz
 go_enter Tryz.func234,Tryz.ntmps234
 go_wp2_with fail
 refine HA.out.mono ?_
 rintro e w0 ⟨rfl,hw0⟩
 rw [hw0]
 clear hw0 w0
 go_wp2_with fail
 refine HW.out.mono ?_
 rintro e w1 ⟨rfl,hp1,hg1⟩
 have hbk1:=HBW.out.kept hg1 ha.h1 ha.h2 ha.h3
 have hG1:=Grow2.of1 hg1 sb
 have hS1:=HSS.out.grown (hg1.block sb HSS.out.lt (by simpa using hne)) hg1.size
 have hdr:=Z4v w1 b t.text hbk1 (by omega)
 rw [HDV.out] at hdr
 have hhn:=Z1M w1 b t.text hbk1 (by omega)
 rw [hh] at hhn
 unfold bkV at hhn
 have HH:=Z0a hhn
 have d0:=hp1.c0
 have d1:=hp1.c1
 have d2:=hp1.c2
 have d3:=hp1.c3
 have HP1:=Z0a hp1
 have HB1:=Z0a hbk1
 have HS1:=Z0a hS1
 clear hp1 hbk1 hS1 hhn
 go_wp2_with fail
 refine HH.out.mono ?_
 rintro e w2 ⟨rfl,hb2⟩
 have hG2:=hG1.trans (Grow2.ofB hb2 _ _)
 have hS2:=HS1.out.grown (hb2.block sb HS1.out.lt) hb2.size
 have hp2:=HP1.out.kept (hb2.mono HP1.out.le)
 have hbk2:=HB1.out.below hb2
 have hcn:=Z1F w2 B pb b line (u :: l2) t.text hp2 hbk2 (by omega)
 rw [Z6J _ _ hok] at hcn
 have HC:=Z0a hcn
 have HP2:=Z0a hp2
 have HB2:=Z0a hbk2
 have HS2:=Z0a hS2
 clear hcn hp2 hbk2 hS2
 cases dz with
 | true =>
  have h5:=HDZ.out rfl
  subst h5
  rcases htk with h' | h'
  ·rw [h'] at HDV;exact absurd HDV.out (by simp [dirR])
  ·have:Z0L t.text.data.toList=false:=by unfold Z0L;rw [h'];rfl
   rw [this] at hok;cases hok
 | false =>
  go_wp2_with fail
  refine HC.out.mono ?_
  rintro e w3 ⟨rfl,hb3⟩
  have hS3:=HS2.out.grown (hb3.block sb HS2.out.lt) hb3.size
  have s3:=hS3.c3
  have s4:=hS3.c4
  have f3:=hS3.fz 3
  have f4:=hS3.fz 4
  have hsl3:=hS3.lt
  have hS4:=(hS3.task 5).name t.text
  have hbx:Below B w3 ((w3.setCell ⟨sb,3,none⟩ (.int .i64 5)).setCell ⟨sb,4,none⟩ (.string t.text)):=((Below.refl _ _).setCell hB _).setCell hB _
  have hG4:=((hG2.trans (Grow2.ofB hb3 _ _)).set 3 (.int .i64 5)).set 4 (.string t.text)
  have hp4:=(HP2.out.kept (hb3.mono HP2.out.le)).kept hbx
  have hbk4:=(HB2.out.below hb3).belowB hbx ha.l1 ha.l2 ha.l3
  have H4:=Z0a (And.intro hS4 (And.intro hp4 hbk4))
  have d33:=hp4.c3
  clear hS3 hS4 hbx hp4 hbk4
  go_wp2_with fail
  obtain ⟨W,hW⟩:∃ W,(w3.setCell ⟨sb,3,none⟩ (.int .i64 5)).setCell ⟨sb,4,none⟩ (.string t.text)=W:=⟨_,rfl⟩
  rw [hW] at H4 hG4 d33 ⊢
  clear hW s3 s4 f3 f4
  have HW4:=Z0a (Z1X W.drew B pb b line u l2 (H4.out.2.1.kept (Below.refl _ _).drew) hu)
  have HBK:=Z0a (fun (w4:World) (hg:W.drew.grownBy w4 (some pb))=>dir_run0 w4 b u.text ((H4.out.2.2.below (Below.refl _ _).drew).kept hg ha.h1 ha.h2 ha.h3) (by omega))
  obtain ⟨dd,hdd⟩:∃ dd,(dirO u.text.data.toList).getD 0=dd:=⟨_,rfl⟩
  rw [hdd] at HBK
  go_region_with (go_at_call 278;refine HW4.out.mono ?_;rintro e w4 ⟨rfl,hp5,hg5⟩;have hlk:=HBK.out w4 hg5;have d34:=hp5.c3)
  all_goals
   have hGx:=hG4.trans ((Grow2.ofB (Below.refl W.heap.size _).drew pb sb).trans (Grow2.of1 hg5 sb))
   have hsW:sb<W.heap.size:=H4.out.1.lt
   have hSx:=H4.out.1.grown (hg5.block sb hsW (by simpa using hne)) hg5.size
   have hbkx:=(H4.out.2.2.below (Below.refl _ _).drew).kept hg5 ha.h1 ha.h2 ha.h3
   have hpx:=hp5
   clear hlk d34 hp5
   by_cases h55:dd=5
   ·subst h55
    have hd5:dirO u.text.data.toList=some 5:=by
     cases hq:dirO u.text.data.toList with
     | none=>rw [hq] at hdd;cases hdd
     | some z=>rw [hq] at hdd;simp at hdd;rw [hdd]
    obtain ⟨R,hRv⟩:∃ R,Z3M 5 l2=R:=⟨_,rfl⟩
    have HE0:=Z0a (show T0=R.map fun x=>((⟨5,t.text,x.1,ins0⟩:Stm),x.2) by rw [←HT0.out,if_pos hd5,hRv])
    have hrv:=Z36 w4 B pb sb b line l2 hpx hbkx ha (by simp at hn;omega) l0 p0 lb 5 t.text 0 none 0 0 0 hSx hne hB
    rw [hRv] at hrv
    clear hpx hbkx hSx
    cases R with
    | none =>
     have HRV:=Z0a hrv
     clear hrv
     go_wp2_with fail
     refine HRV.out.mono ?_
     rintro e w5 ⟨rfl,hg5⟩
     unfold synE
     go_wp2_with fail
     rw [HE0.out]
     exact ⟨rfl,rfl,hGx.trans hg5⟩
    | some x =>
     obtain ⟨es,l3⟩:=x
     have HRV:=Z0a hrv
     clear hrv
     go_wp2_with fail
     refine HRV.out.mono ?_
     rintro e w5 ⟨v,rfl,h1,h2,h3,h4⟩
     have HZ:=Z0a (And.intro h1 (And.intro h2 (And.intro h3 h4)))
     clear h1 h2 h3 h4
     go_wp2_with fail
     first
      | go_end0
      | refine bodyPost_ret (results_none rfl _ _ _) rfl ?_
     rw [HE0.out]
     obtain ⟨h1,h2,h3,h4⟩:=HZ.out
     exact ⟨v,_,rfl,h1.lower hGx.size,h2,World.ownsRow_nil _ _ _ _,(fun j hj=>by cases hj),h3,hGx.trans h4⟩
   ·have i5:((dd:Int) == 5)=false:=by simp;omega
    have hd5:¬ dirO u.text.data.toList=some 5:=fun e=>by rw [e] at hdd;exact h55 hdd.symm
    have HE0:=Z0a (show T0=none by rw [←HT0.out,if_neg hd5])
    have HG:=Z0a (Z08 w4 B pb b line l2 hpx)
    clear hpx hbkx hSx
    go_wp2_with fail
    refine HG.out.mono ?_
    rintro e w5 ⟨rfl,rfl⟩
    unfold synE
    go_wp2_with fail
    rw [HE0.out]
    exact ⟨rfl,rfl,hGx⟩
theorem readTask_any (w:World)(B pb sb:Nat)(b:Bk)(line:Int)(ts:List Tok)(h:PS w B pb b line ts)(hb:BookAt w b)(hI:InsAt w b pb)(hib:b.ib<pb)(ha:Apart B pb b)(hn:ts.length≤1000000)(l0 p0:Int)(lb:ByteArray)
  (hS:SS w sb l0 p0 lb (0:Nat) ⟨#[]⟩ (.slice none 0 0) 0 (.slice none 0 0) 0) (hne:sb≠pb) (hB:B≤sb) :
  Calls Tryz.prog 234 #[.pointer (some ⟨pb,0,none⟩),.pointer (some ⟨sb,0,none⟩)] w (TEnd w B pb sb b line l0 p0 lb (Z1N ts)):=by
 obtain ⟨t,l,rfl⟩:=h.ne
 by_cases hk:t.kind=0
 ·exact readTask_end w B pb sb b line t l h hb hI hib ha hn l0 p0 lb hS hne hB hk
 by_cases hk1:t.kind=1
 ·cases hh:hasN t.text.data.toList with
  | true=>exact readTask_ins w B pb sb b line t l h hb hI hib ha hn l0 p0 lb hS hne hB hk1 hh
  | false =>
   have hl:=Z6U h.last hk
   obtain ⟨u,l2,rfl⟩:∃ u l2,l=u :: l2:=by
    cases l with
    | nil=>exact absurd rfl hl
    | cons u l2=>exact ⟨u,l2,rfl⟩
   have equ:dirO t.text.data.toList=none∨dirO t.text.data.toList=some 5→Calls Tryz.prog 234 #[.pointer (some ⟨pb,0,none⟩),.pointer (some ⟨sb,0,none⟩)] w (TEnd w B pb sb b line l0 p0 lb (pEqu t.text (u :: l2))):=by
    intro htk
    cases hok:Z0L t.text.data.toList with
    | false =>
     have e:pEqu t.text (u :: l2)=none:=by simp only [pEqu];rw [if_neg (by simp [hok])]
     rw [e]
     exact Z5F w B pb sb b line t (u :: l2) h hb hI hib ha hn l0 p0 lb hS hne hB hk1 hh htk hok
    | true =>
     by_cases hu:u.kind=1
     ·have e:pEqu t.text (u :: l2)=if dirO u.text.data.toList=some 5 then (Z3M 5 l2).map fun x=>(⟨5,t.text,x.1,ins0⟩,x.2) else none:=by
       simp only [pEqu]
       by_cases hd:dirO u.text.data.toList=some 5
       ·rw [if_pos ⟨hok,hu,hd⟩,if_pos hd]
       ·rw [if_neg (fun h=>hd h.2.2),if_neg hd]
      rw [e]
      exact Z47 w B pb sb b line t u l2 h hb hI hib ha hn l0 p0 lb hS hne hB hk1 hh htk hok hu
     ·have e:pEqu t.text (u :: l2)=none:=by simp only [pEqu];rw [if_neg (fun h=>hu h.2.1)]
      rw [e]
      exact Z4t w B pb sb b line t u l2 h hb hI hib ha hn l0 p0 lb hS hne hB hk1 hh htk hok hu
   cases hd:dirO t.text.data.toList with
   | none =>
    have e:Z1N (t :: u :: l2)=pEqu t.text (u :: l2):=by simp only [Z1N];rw [if_neg hk,if_neg (by simp [hk1]),if_neg (by simp [hh]),hd]
    rw [e]
    exact equ (.inl hd)
   | some tk =>
    by_cases h5:tk=5
    ·subst h5
     have e:Z1N (t :: u :: l2)=pEqu t.text (u :: l2):=by simp only [Z1N];rw [if_neg hk,if_neg (by simp [hk1]),if_neg (by simp [hh]),hd];simp
     rw [e]
     exact equ (.inr hd)
    ·exact readTask_dir w B pb sb b line t (u :: l2) h hb hI hib ha hn l0 p0 lb hS hne hB hk1 hh tk hd h5
 ·exact Z62 w B pb sb b line t l h hb hI hib ha hn l0 p0 lb hS hne hB hk hk1
theorem Z6y:∀ (f:Nat) (r:ByteArray) (ts:List Tok),Z2u f r=some ts→∀ t∈ts,t.kind≠0∧t.text.size≤r.size
 | 0,r,ts,h,t,ht=>by simp [Z2u] at h;subst h;cases ht
 | f+1,r,ts,h,t,ht=>by
  unfold Z2u at h
  by_cases hp:0<r.size
  ·rw [dif_pos hp] at h
   obtain ⟨o,ho,h2⟩:=Option.bind_eq_some_iff.1 h
   obtain ⟨ts',h3,rfl⟩:=Option.map_eq_some_iff.1 h2
   rcases List.mem_append.1 ht with h4 | h4
   ·have hsz:(Z7M r).size≤r.size:=by unfold Z7M;rw [ByteArray.size_extract];omega
    unfold Z2c at ho
    split at ho
    ·cases ho;cases h4
    ·split at ho
     ·obtain ⟨v,_,rfl⟩:=Option.map_eq_some_iff.1 ho
      simp [optL] at h4
      subst h4
      exact ⟨by simp,hsz⟩
     ·split at ho
      ·cases ho
       simp [optL] at h4
       subst h4
       exact ⟨by simp,hsz⟩
      ·cases ho
       simp [optL] at h4
       subst h4
       exact ⟨by simp,hsz⟩
   ·have h5:=Z6y f (Z4F r) ts' h3 t h4
    have h6:=Z53 r hp
    exact ⟨h5.1,by omega⟩
  ·rw [dif_neg hp] at h
   cases h
   cases ht
theorem Z6T:∀ (f:Nat) (r:ByteArray) (ts:List Tok),Z2u f r=some ts→ts.length≤f
 | 0,r,ts,h=>by simp [Z2u] at h;subst h;simp
 | f+1,r,ts,h=>by
  unfold Z2u at h
  by_cases hp:0<r.size
  ·rw [dif_pos hp] at h
   obtain ⟨o,ho,h2⟩:=Option.bind_eq_some_iff.1 h
   obtain ⟨ts',h3,rfl⟩:=Option.map_eq_some_iff.1 h2
   have:=Z6T f (Z4F r) ts' h3
   cases o <;> simp [optL] <;> omega
  ·rw [dif_neg hp] at h
   cases h
   simp
end Go.Proofs.YthokdbcpkmcieabGreatDoor
