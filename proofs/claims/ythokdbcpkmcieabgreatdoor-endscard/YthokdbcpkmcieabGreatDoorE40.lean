/- HstW7 HstW8 HstW9 HstWA HstWB -/
import Derived.Test.YthokdbcpkmcieabGreatDoorE39
set_option maxRecDepth 200000
set_option maxHeartbeats 8000000
namespace Go.Proofs.YthokdbcpkmcieabGreatDoor
open Go Go.RowKit
attribute [local go_sem ↓] Go.wp_at_zero Go.wp_at_succ
theorem Z4V (f:FuncId)(a b:Array Value)(w:World):(binOp BinOp.eql 84 (.func (.func f) a b) .nilFunc).run Tryz.prog w=.ok (.bool false) w:=by
 have h:(Op.equal 84 (.func (.func f) a b) .nilFunc).run Tryz.prog w=.ok false w:=by
  unfold Op.equal Op.maxDepth
  rw [show (10000:Nat)=9999+1 from rfl,Op.equalIn]
  simp only [Sem.run_bind,run_underlying Tryz.underlying84,Result.andThen_ok]
  rfl
 simp [binOp,go_sem,h]
theorem Z5Z (w:World):(binOp BinOp.eql 84 .nilFunc .nilFunc).run Tryz.prog w=.ok (.bool true) w:=by
 have h:(Op.equal 84 .nilFunc .nilFunc).run Tryz.prog w=.ok true w:=by
  unfold Op.equal Op.maxDepth
  rw [show (10000:Nat)=9999+1 from rfl,Op.equalIn]
  simp only [Sem.run_bind,run_underlying Tryz.underlying84,Result.andThen_ok]
  rfl
 simp [binOp,go_sem,h]
theorem hstate_any (hb lb:Nat)(h:Hst)(w:World)(m:HstM w hb lb h):Calls Tryz.prog 28 #[.pointer (some ⟨hb,0,none⟩)] w fun e w'=>e=.returned (.int .i64 (h.state:Int))∧w'=w:=by
 have c0:=m.c0
 clear m
 go_enter Tryz.func28,Tryz.ntmps28
 go_wp2
 go_ret
 exact ⟨rfl,rfl⟩
theorem hfetch_any (hb lb:Nat)(h:Hst)(w:World)(m:HstM w hb lb h)(k:HB h):Calls Tryz.prog 56 #[.pointer (some ⟨hb,0,none⟩)] w fun e w'=>e=.returned (.string (txt (sayH h).2))∧HstM w' hb lb (sayH h).1∧w.grownBy w' (some hb):=by
 have c89:=m.c89
 have c90:=m.c90
 have hq0:=Z5Z
 have hq1:=Z4V
 by_cases h0:h.take=0
 ·have e:sayH h=(h,[]):=by unfold sayH;rw [if_pos (.inl h0)]
  rw [e]
  rw [h0] at c89
  replace c89:w.cell? ⟨hb,89,none⟩=some .nilFunc:=c89
  have HM:=Z0a m
  clear m e h0
  go_enter Tryz.func56,Tryz.ntmps56
  go_wp2
  go_ret
  exact ⟨rfl,HM.out,Z05 _ _⟩
 ·obtain ⟨V,hV⟩:=Z2n hb h.take (by omega)
  rw [hV] at c89
  cases hs:h.said
  ·have e:sayH h=(⟨h.state,h.ses,h.left,h.burnt,h.ear,h.asked,h.take,true,h.tries,h.ticks⟩,Z0c h.asked):=by unfold sayH;rw [if_neg (by rw [hs];simp [h0])]
   rw [e]
   rw [hs] at c90
   have c88:=m.c88
   have f90:=m.fz 90
   have HF:=Z0a (fun w'=>frame_any (txt h.asked) w' (by rw [Z1j];have:=k.long;omega) (by rw [Z1j];have:=k.long;omega))
   have HM:=Z0a (And.intro (m.setSaid true) (setg w hb 90 (.bool true)))
   rw [Z2m] at HF
   obtain ⟨S,hS⟩:∃ S,txt h.asked=S:=⟨_,rfl⟩
   obtain ⟨F,hF⟩:∃ F,txt (Z0c h.asked)=F:=⟨_,rfl⟩
   rw [hS] at HF c88
   rw [hF] at HF ⊢
   clear m k e hS hF hV h0
   go_enter Tryz.func56,Tryz.ntmps56
   go_wp2_with fail
   refine (HF.out _).mono ?_
   rintro e w1 ⟨rfl,hB1⟩
   have HZ:=Z0a (And.intro (HM.out.1.below hB1) (HM.out.2.trans (Z0g hB1 (some hb))))
   clear hB1
   go_wp2
   go_ret
   exact ⟨rfl,HZ.out.1,HZ.out.2⟩
  ·have e:sayH h=(h,[]):=by unfold sayH;rw [if_pos (.inr hs)]
   rw [e]
   rw [hs] at c90
   have HM:=Z0a m
   clear m k e hV h0
   go_enter Tryz.func56,Tryz.ntmps56
   go_wp2
   go_ret
   exact ⟨rfl,HM.out,Z05 _ _⟩
theorem htick_any (hb lb:Nat)(h:Hst)(w:World)(m:HstM w hb lb h)(k:HB h):Calls Tryz.prog 54 #[.pointer (some ⟨hb,0,none⟩)] w fun e w'=>e=.returned (.tuple #[])∧HstM w' hb lb (tickH h)∧w.grownBy w' (some hb):=by
 have c89:=m.c89
 have hq0:=Z5Z
 have hq1:=Z4V
 by_cases h0:h.take=0
 ·have e:tickH h=h:=by unfold tickH;rw [if_pos h0]
  rw [e]
  rw [h0] at c89
  replace c89:w.cell? ⟨hb,89,none⟩=some .nilFunc:=c89
  have HM:=Z0a m
  clear m e h0
  go_enter Tryz.func54,Tryz.ntmps54
  go_wp2
  (try simp only [Exit.inBlock,Exit.then])
  refine bodyPost_ret (results_none rfl _ _ _) rfl ?_
  exact ⟨rfl,HM.out,Z05 _ _⟩
 ·obtain ⟨V,hV⟩:=Z2n hb h.take (by omega)
  rw [hV] at c89
  have c91:=m.c91
  have c92:=m.c92
  have f92:=m.fz 92
  have e1:((h.ticks+1:Nat):Int)=(h.ticks:Int)+1:=by omega
  have hm:HstM (w.setCell ⟨hb,92,none⟩ (.int .i64 ((h.ticks+1:Nat):Int))) hb lb (Z1d h (h.ticks+1)):=m.setTicks (h.ticks+1)
  have HG:=Z0a (setg w hb 92 (.int .i64 ((h.ticks+1:Nat):Int)))
  rw [e1] at hm HG
  have HM:=Z0a hm
  have htr:=k.tries
  have htk:=k.ticks
  by_cases h3:h.ticks+1<3
  ·have e:tickH h=Z1d h (h.ticks+1):=by unfold tickH;rw [if_neg h0,if_pos h3]
   rw [e]
   have h3i:(h.ticks:Int)+1<3:=by omega
   clear m hm k e hV h0 e1
   go_enter Tryz.func54,Tryz.ntmps54
   go_wp2
   go_end0
   exact ⟨rfl,HM.out,HG.out⟩
  ·have h3i:¬ (h.ticks:Int)+1<3:=by omega
   by_cases h4:h.tries<5
   ·have e:tickH h=saysH (Z1d h (h.ticks+1)):=by unfold tickH;rw [if_neg h0,if_neg h3,if_pos h4]
    rw [e]
    have h4i:(h.tries:Int)<5:=by omega
    have HS:=Z0a (fun w' (m':HstM w' hb lb (Z1d h (h.ticks+1)))=>hsay_any hb lb _ w' m' (show h.tries≤5 from htr))
    clear m hm k e hV h0 e1
    go_enter Tryz.func54,Tryz.ntmps54
    go_wp2_with fail
    refine (HS.out _ HM.out).mono ?_
    rintro e w1 ⟨rfl,h1,h2⟩
    have HZ:=Z0a (And.intro h1 (HG.out.trans h2))
    clear h1 h2
    go_wp2
    go_end0
    exact ⟨rfl,HZ.out.1,HZ.out.2⟩
   ·have e:tickH h=endH (Z1d h (h.ticks+1)) 2:=by unfold tickH;rw [if_neg h0,if_neg h3,if_neg h4]
    rw [e]
    have h4i:¬ (h.tries:Int)<5:=by omega
    have HS:=Z0a (fun w' (m':HstM w' hb lb (Z1d h (h.ticks+1)))=>Z3X hb lb _ 2 w' m')
    have e2:((2:Nat):Int)=2:=rfl
    rw [e2] at HS
    clear m hm k e hV h0 e1 e2
    go_enter Tryz.func54,Tryz.ntmps54
    go_wp2_with fail
    refine (HS.out _ HM.out).mono ?_
    rintro e w1 ⟨rfl,h1,h2⟩
    have HZ:=Z0a (And.intro h1 (HG.out.trans h2))
    clear h1 h2
    go_wp2
    go_end0
    exact ⟨rfl,HZ.out.1,HZ.out.2⟩
theorem Z8b (a p:List UInt8)(ha:a.length≤1000)(hp:p.length≤1000)(w:World):Calls Tryz.prog 288 #[.string (txt a),.string (txt p)] w fun e w'=>e=.returned (.bool (decide (a.take p.length=p)))∧w'=w:=by
 obtain ⟨S,hS⟩:∃ S,txt a=S:=⟨_,rfl⟩
 obtain ⟨T,hT⟩:∃ T,txt p=T:=⟨_,rfl⟩
 have hs:S.size=a.length:=by rw [←hS,Z1j]
 have ht:T.size=p.length:=by rw [←hT,Z1j]
 have hx:=Z8c hS p.length
 rw [hS,hT]
 have hSi:(S.size:Int)≤1000:=by omega
 have hTi:(T.size:Int)≤1000:=by omega
 by_cases hlt:a.length<p.length
 ·have hd:decide (a.take p.length=p)=false:=by
   apply decide_eq_false
   intro e
   have:=congrArg List.length e
   rw [List.length_take] at this
   omega
  rw [hd]
  have hge:¬ (T.size:Int)≤(S.size:Int):=by omega
  clear hx hd hS hT hs ht
  go_enter Tryz.func288,Tryz.ntmps288
  go_wp2
  go_ret
  exact ⟨rfl,rfl⟩
 ·have hge:(T.size:Int)≤(S.size:Int):=by omega
  rw [←ht] at hx
  by_cases he:a.take p.length=p
  ·rw [decide_eq_true he]
   rw [ht,he,hT,← ht] at hx
   clear hS hT hs ht he
   go_enter Tryz.func288,Tryz.ntmps288
   go_wp2
   go_ret
   exact ⟨rfl,rfl⟩
  ·rw [decide_eq_false he]
   have hne:=txt_neR he
   rw [hT,← ht] at hne
   obtain ⟨X,hX⟩:∃ X,txt (a.take T.size)=X:=⟨_,rfl⟩
   rw [hX] at hx hne
   clear hS hT hs ht he hX
   go_enter Tryz.func288,Tryz.ntmps288
   go_wp2
   go_ret
   exact ⟨rfl,rfl⟩
theorem Z7V (a p:List UInt8)(ha:a.length≤1000)(hp:p.length≤1000)(w:World):Calls Tryz.prog 245 #[.string (txt a),.string (txt p)] w fun e w'=>e=.returned (.tuple #[.string (if a.take p.length=p then txt (a.drop p.length) else txt a),.bool (decide (a.take p.length=p))])∧w'=w:=by
 have HP:=Z0a (fun w'=>Z8b a p ha hp w')
 obtain ⟨S,hS⟩:∃ S,txt a=S:=⟨_,rfl⟩
 obtain ⟨T,hT⟩:∃ T,txt p=T:=⟨_,rfl⟩
 have hs:S.size=a.length:=by rw [←hS,Z1j]
 have ht:T.size=p.length:=by rw [←hT,Z1j]
 have hx:=Z8s hS p.length
 rw [hS,hT] at HP ⊢
 have hSi:(S.size:Int)≤1000:=by omega
 have hTi:(T.size:Int)≤1000:=by omega
 by_cases he:a.take p.length=p
 ·rw [if_pos he,decide_eq_true he]
  rw [decide_eq_true he] at HP
  have hle:p.length≤a.length:=by
   have:=congrArg List.length he
   rw [List.length_take] at this
   omega
  have hge:(T.size:Int)≤(S.size:Int):=by omega
  rw [←ht] at hx ⊢
  obtain ⟨X,hX⟩:∃ X,txt (a.drop T.size)=X:=⟨_,rfl⟩
  rw [hX] at hx ⊢
  clear hS hT hs ht he hX hle
  go_enter Tryz.func245,Tryz.ntmps245
  go_wp2_with fail
  refine (HP.out _).mono ?_
  rintro e w1 ⟨rfl,rfl⟩
  go_wp2
  go_ret2
  exact ⟨rfl,rfl⟩
 ·rw [if_neg he,decide_eq_false he]
  rw [decide_eq_false he] at HP
  clear hS hT hs ht he hx
  go_enter Tryz.func245,Tryz.ntmps245
  go_wp2_with fail
  refine (HP.out _).mono ?_
  rintro e w1 ⟨rfl,rfl⟩
  go_wp2
  go_ret2
  exact ⟨rfl,rfl⟩
theorem Z67 (a p:List UInt8)(ha:a.length≤1000)(hp:p.length≤1000)(w:World):Calls Tryz.prog 191 #[.string (txt a),.string (txt p)] w fun e w'=>e=.returned (.tuple #[.string (if a.take p.length=p then txt (a.drop p.length) else txt a),.bool (decide (a.take p.length=p))])∧w'=w:=by
 have HP:=Z0a (fun w'=>Z7V a p ha hp w')
 obtain ⟨X,hX⟩:∃ X,(if a.take p.length=p then txt (a.drop p.length) else txt a)=X:=⟨_,rfl⟩
 obtain ⟨Y,hY⟩:∃ Y,decide (a.take p.length=p)=Y:=⟨_,rfl⟩
 rw [hX,hY] at HP ⊢
 clear hX hY
 go_enter Tryz.func191,Tryz.ntmps191
 go_wp2_with fail
 refine (HP.out _).mono ?_
 rintro e w1 ⟨rfl,rfl⟩
 go_wp2
 go_ret2
 exact ⟨rfl,rfl⟩
theorem results_cell_tmp {P:Program}{fn:Func}{p q:Tmp}{ty:TypeId}(h:fn.results=#[.cell p ty,.tmp q])(tmps:Array Value)(w:World)(g:Nat)(cs:List Value)(d:TypeDesc)
  (hp:tmps.getD p undef=.pointer (some ⟨g,0,none⟩)) (hc:w.rangeAt g 0 cs) (hu:P.underlying ty=some d) (hd:d.isRow=true) (hi:(P.info? ty).map (·.size)=some cs.length):(results fn tmps).run P w=.ok (.tuple #[.agg cs.toArray,tmps.getD q undef]) w:=by
 have hp':tmps[p]?.getD undef=.pointer (some ⟨g,0,none⟩):=by simpa using hp
 simp [results,h,hp',asAddr,run_loadVar_mid w g 0 ty cs d hc hu hd hi]
theorem Z2J {n:Nat}{w w':World}(h:Below n w w'):Below n w w'.drew:=h.drew
def ansV:Option (Bool × List UInt8)→Value
 | some (y,bs)=>.tuple #[.agg #[.bool y,.string (txt bs)],.bool true]
 | none=>.tuple #[.agg #[.bool false,.string ⟨#[]⟩],.bool false]
theorem hanswer_any (asked msg:List UInt8)(h4:4≤asked.length∧asked.length≤69)(hm:msg.length≤1000)(w:World) :
  Calls Tryz.prog 158 #[.string (txt asked),.string (txt msg)] w fun e w'=>e=.returned (ansV (Z0s asked msg))∧Below w.heap.size w w':=by
 obtain ⟨A,hA⟩:∃ A,txt asked=A:=⟨_,rfl⟩
 have hAs:A.size=asked.length:=by rw [←hA,Z1j]
 have h3A:3<A.size:=by omega
 obtain ⟨wt,hwt⟩:∃ wt,asked.getD 3 0=wt:=⟨_,rfl⟩
 have hA3:A[3]=wt:=(Z7D hA h3A).trans hwt
 have hAt:=Z8c hA 3
 have hl3:(asked.take 3).length=3:=by rw [List.length_take];omega
 have HC:=Z0a (fun w'=>Z67 msg (asked.take 3) hm (by omega) w')
 rw [hl3] at HC
 have hAi:(A.size:Int)≤69:=by omega
 have hAj:(4:Int)≤(A.size:Int):=by omega
 rw [hA]
 have HSZ:=Z0a (fun w'=>hsize_any wt w')
 have hwl:=wt.toNat_lt
 obtain ⟨M,hM⟩:∃ M,txt msg=M:=⟨_,rfl⟩
 obtain ⟨P,hP⟩:∃ P,txt (asked.take 3)=P:=⟨_,rfl⟩
 rw [hM,hP] at HC
 rw [hP] at hAt
 rw [hM]
 have hBz:∀ (y:Bool) (X:ByteArray),Below w.heap.size w (w.alloc (.cells #[.bool y,.string X] 258)):=fun y X=>(Below.refl _ _).alloc (Nat.le_refl _) _
 have hRz:∀ (y:Bool) (X:ByteArray),(w.alloc (.cells #[.bool y,.string X] 258)).rangeAt w.heap.size 0 [.bool y,.string X]:=fun y X j u hu=>by
  rw [cell_of_row _ _ _ _ _ (0,0) (heap_alloc_new w _),Nat.zero_add]
  simpa using hu
 have HBZ:=Z0a (And.intro hBz hRz)
 clear hBz hRz
 by_cases hpre:msg.take 3=asked.take 3
 ·rw [if_pos hpre,decide_eq_true hpre] at HC
  have hml:3≤msg.length:=by
   have:=congrArg List.length hpre
   rw [List.length_take,hl3] at this
   omega
  obtain ⟨T,hT⟩:∃ T,txt (msg.drop 3)=T:=⟨_,rfl⟩
  have hTs:T.size=msg.length-3:=by rw [←hT,Z1j,List.length_drop]
  rw [hT] at HC
  by_cases h4m:msg.length=3
  ·have hN:Z0s asked msg=none:=by unfold Z0s;rw [if_neg (by omega)]
   rw [hN]
   have hTe:T=⟨#[]⟩:=by
    rw [←hT,List.drop_eq_nil_of_le (by omega)]
    rfl
   subst hTe
   clear hN hT hTs hpre hM hP hA
   go_enter Tryz.func158,Tryz.ntmps158
   go_wp2_with fail
   refine (HC.out _).mono ?_
   rintro e w1 ⟨rfl,rfl⟩
   go_wp2
   (try simp only [Exit.inBlock,Exit.then])
   refine bodyPost_ret (results_cell_tmp rfl _ _ w.heap.size [.bool false,.string ⟨#[]⟩] _ rfl (HBZ.out.2 _ _) Tryz.underlying258 rfl (by kernel_rfl)) rfl ?_
   exact ⟨rfl,HBZ.out.1 _ _⟩
  ·have h0T:0<T.size:=by omega
   have hTi:(T.size:Int)≤1000:=by omega
   have hTj:(0:Int)<(T.size:Int):=by omega
   have hTe:=Z0I T h0T
   obtain ⟨sd,hsd⟩:∃ sd,msg.getD 3 0=sd:=⟨_,rfl⟩
   have hT0:T[0]=sd:=by
    rw [Z7D hT h0T,← hsd]
    simp [List.getD_eq_getElem?_getD]
   have hTd:=Z8s hT 1
   have hdd:(msg.drop 3).drop 1=msg.drop 4:=by rw [List.drop_drop]
   rw [hdd] at hTd
   obtain ⟨R,hR⟩:∃ R,txt (msg.drop 4)=R:=⟨_,rfl⟩
   have hRs:R.size=msg.length-4:=by rw [←hR,Z1j,List.length_drop]
   rw [hR] at hTd
   have hRi:(R.size:Int)≤1000:=by omega
   have hsl:=sd.toNat_lt
   have hcond:4≤msg.length∧msg.take 3=asked.take 3:=⟨by omega,hpre⟩
   by_cases h1:sd=1
   ·subst h1
    obtain ⟨yl,hyl⟩:∃ yl,Z3C wt=yl:=⟨_,rfl⟩
    rw [hyl] at HSZ
    by_cases hle:msg.length=4+yl
    ·have hN:Z0s asked msg=some (true,msg.drop 4):=by unfold Z0s;rw [if_pos hcond,if_pos ⟨hsd,by rw [hwt,hyl];exact hle⟩]
     rw [hN]
     have hRe:(R.size:Int)=(yl:Int):=by omega
     have HR:=Z0a hR
     clear hN hT hTs hpre hM hP hA hcond hR hRs hsd hwt hyl hle hdd
     go_enter Tryz.func158,Tryz.ntmps158
     go_wp2_with fail
     refine (HC.out _).mono ?_
     rintro e w1 ⟨rfl,rfl⟩
     go_wp2
     go_region
     all_goals
      go_wp2_with fail
      refine (HSZ.out _).mono ?_
      rintro e w2 ⟨rfl,rfl⟩
      go_wp2
      (try simp only [Exit.inBlock,Exit.then])
      refine bodyPost_ret (results_cell_tmp rfl _ _ w.heap.size [.bool true,.string R] _ rfl (HBZ.out.2 _ _) Tryz.underlying258 rfl (by kernel_rfl)) rfl ?_
      exact ⟨by rw [←HR.out];rfl,Z2J (HBZ.out.1 _ _)⟩
    ·have hN:Z0s asked msg=none:=by
      unfold Z0s
      rw [if_pos hcond,if_neg (fun e=>hle (by rw [←hyl,← hwt];exact e.2)),if_neg (fun e=>by rw [hsd] at e;exact absurd e.1 (by decide))]
     rw [hN]
     have hRe:((R.size:Int) == (yl:Int))=false:=by simp;omega
     clear hN hT hTs hpre hM hP hA hcond hR hRs hsd hwt hyl hle hdd
     go_enter Tryz.func158,Tryz.ntmps158
     go_wp2_with fail
     refine (HC.out _).mono ?_
     rintro e w1 ⟨rfl,rfl⟩
     go_wp2
     go_region
     all_goals
      go_wp2_with fail
      refine (HSZ.out _).mono ?_
      rintro e w2 ⟨rfl,rfl⟩
      go_wp2
      (try simp only [Exit.inBlock,Exit.then])
      refine bodyPost_ret (results_cell_tmp rfl _ _ w.heap.size [.bool false,.string ⟨#[]⟩] _ rfl (HBZ.out.2 _ _) Tryz.underlying258 rfl (by kernel_rfl)) rfl ?_
      exact ⟨rfl,Z2J (HBZ.out.1 _ _)⟩
   ·have hs1:((sd.toNat:Int) == 1)=false:=Z5O (c:=1) h1
    by_cases h2:sd=2
    ·subst h2
     by_cases hle:msg.length=4
     ·have hN:Z0s asked msg=some (false,[]):=by
       unfold Z0s
       rw [if_pos hcond,if_neg (fun e=>by rw [hsd] at e;exact absurd e.1 (by decide)),if_pos ⟨hsd,hle⟩]
      rw [hN]
      have hRe:R=⟨#[]⟩:=by
       rw [←hR,List.drop_eq_nil_of_le (by omega)]
       rfl
      subst hRe
      clear hN hT hTs hpre hM hP hA hcond hR hRs hsd hwt hle hdd
      go_enter Tryz.func158,Tryz.ntmps158
      go_wp2_with fail
      refine (HC.out _).mono ?_
      rintro e w1 ⟨rfl,rfl⟩
      go_wp2
      go_region
      all_goals
       go_wp2
       (try simp only [Exit.inBlock,Exit.then])
       refine bodyPost_ret (results_cell_tmp rfl _ _ w.heap.size [.bool false,.string ⟨#[]⟩] _ rfl (HBZ.out.2 _ _) Tryz.underlying258 rfl (by kernel_rfl)) rfl ?_
       exact ⟨rfl,Z2J (HBZ.out.1 _ _)⟩
     ·have hN:Z0s asked msg=none:=by
       unfold Z0s
       rw [if_pos hcond,if_neg (fun e=>by rw [hsd] at e;exact absurd e.1 (by decide)),if_neg (fun e=>hle e.2)]
      rw [hN]
      have hRe:=Z0I R (by omega)
      clear hN hT hTs hpre hM hP hA hcond hR hRs hsd hwt hle hdd
      go_enter Tryz.func158,Tryz.ntmps158
      go_wp2_with fail
      refine (HC.out _).mono ?_
      rintro e w1 ⟨rfl,rfl⟩
      go_wp2
      go_region
      all_goals
       go_wp2
       (try simp only [Exit.inBlock,Exit.then])
       refine bodyPost_ret (results_cell_tmp rfl _ _ w.heap.size [.bool false,.string ⟨#[]⟩] _ rfl (HBZ.out.2 _ _) Tryz.underlying258 rfl (by kernel_rfl)) rfl ?_
       exact ⟨rfl,Z2J (HBZ.out.1 _ _)⟩
    ·have hs2:((sd.toNat:Int) == 2)=false:=Z5O (c:=2) h2
     have hN:Z0s asked msg=none:=by
      unfold Z0s
      rw [if_pos hcond,if_neg (fun e=>h1 (hsd.symm.trans e.1)),if_neg (fun e=>h2 (hsd.symm.trans e.1))]
     rw [hN]
     clear hN hT hTs hpre hM hP hA hcond hR hRs hsd hwt hdd
     go_enter Tryz.func158,Tryz.ntmps158
     go_wp2_with fail
     refine (HC.out _).mono ?_
     rintro e w1 ⟨rfl,rfl⟩
     go_wp2
     go_region
     all_goals
      go_wp2
      (try simp only [Exit.inBlock,Exit.then])
      refine bodyPost_ret (results_cell_tmp rfl _ _ w.heap.size [.bool false,.string ⟨#[]⟩] _ rfl (HBZ.out.2 _ _) Tryz.underlying258 rfl (by kernel_rfl)) rfl ?_
      exact ⟨rfl,Z2J (HBZ.out.1 _ _)⟩
 ·rw [if_neg hpre,decide_eq_false hpre] at HC
  have hN:Z0s asked msg=none:=by unfold Z0s;rw [if_neg (fun e=>hpre e.2)]
  rw [hN]
  clear hN hpre hM hP hA
  go_enter Tryz.func158,Tryz.ntmps158
  go_wp2_with fail
  refine (HC.out _).mono ?_
  rintro e w1 ⟨rfl,rfl⟩
  go_wp2
  (try simp only [Exit.inBlock,Exit.then])
  refine bodyPost_ret (results_cell_tmp rfl _ _ w.heap.size [.bool false,.string ⟨#[]⟩] _ rfl (HBZ.out.2 _ _) Tryz.underlying258 rfl (by kernel_rfl)) rfl ?_
  exact ⟨rfl,HBZ.out.1 _ _⟩
theorem htake_any (hb lb:Nat)(h:Hst)(k:HOk h)(h0:h.take≠0)(y:Bool)(bs:List UInt8)(hy:h.take=2→y=true→bs.length=2):∃ f,Z3g hb h.take=.func (.func f) #[.pointer (some ⟨hb,0,none⟩)] #[]∧Enters Tryz.prog f∧∀ w,HstM w hb lb h→Calls Tryz.prog f #[.pointer (some ⟨hb,0,none⟩),.agg #[.bool y,.string (txt bs)]] w fun e w'=>e=.returned (.tuple #[])∧HstM w' hb lb (takesH h y bs)∧w.grownBy w' (some hb):=by
 have htk:=k.tk
 have hc:h.take=1∨h.take=2∨h.take=3∨h.take=4∨h.take=5:=by omega
 rcases hc with e | e | e | e | e
 ·exact ⟨_,by rw [e];rfl,enters_of Tryz.func113 (by kernel_rfl) rfl,fun w m=>Z8L hb lb h y bs w m k.b e⟩
 ·exact ⟨_,by rw [e];rfl,enters_of Tryz.func165 (by kernel_rfl) rfl,fun w m=>Z66 hb lb h y bs w m k.b e (hy e)⟩
 ·exact ⟨_,by rw [e];rfl,enters_of Tryz.func295 (by kernel_rfl) rfl,fun w m=>Z77 hb lb h y bs w m k.b e (k.left (by omega))⟩
 ·exact ⟨_,by rw [e];rfl,enters_of Tryz.func251 (by kernel_rfl) rfl,fun w m=>Z7b hb lb h y bs w m k.b e (k.left (by omega))⟩
 ·exact ⟨_,by rw [e];rfl,enters_of Tryz.func323 (by kernel_rfl) rfl,fun w m=>Z7f hb lb h y bs w m k.b e (k.left (by omega))⟩
theorem answer_state {h:Hst}(k:HOk h){m:List UInt8}{y:Bool}{bs:List UInt8}(e:Z0s h.asked m=some (y,bs)):h.take=2→y=true→bs.length=2:=by
 intro ht hy
 subst hy
 unfold Z0s at e
 split at e
 ·split at e
  ·rename_i hc
   simp only [Option.some.injEq,Prod.mk.injEq,true_and] at e
   rw [←e,List.length_drop]
   have:=hc.2
   rw [k.w2 ht] at this
   have h2:Z3C 4=2:=by decide
   omega
  ·split at e
   ·simp at e
   ·cases e
 ·cases e
theorem fold_stop:∀ (l:List (List UInt8)) (h:Hst),h.take=0→l.foldl hearsH h=h
 | [],_,_=>rfl
 | m :: l,h,e=>by
  have:hearsH h m=h:=by unfold hearsH;rw [if_pos e]
  rw [List.foldl_cons,this]
  exact fold_stop l h e
theorem fold_take {l:List (List UInt8)}{j:Nat}{h h':Hst}(e:(l.take j).foldl hearsH h=h')(h0:h'.take=0):l.foldl hearsH h=h':=by
 have:l.foldl hearsH h=(l.drop j).foldl hearsH ((l.take j).foldl hearsH h):=by rw [←List.foldl_append,List.take_append_drop]
 rw [this,e,fold_stop _ _ h0]
theorem fold_next {l:List (List UInt8)}{j:Nat}{h h':Hst}(hj:j<l.length)(e:(l.take j).foldl hearsH h=h'):(l.take (j+1)).foldl hearsH h=hearsH h' (l.getD j []):=by
 rw [List.take_add_one,List.getElem?_eq_getElem hj,List.foldl_append,e,List.getD_eq_getElem?_getD,List.getElem?_eq_getElem hj]
 rfl
theorem Z7p {w w':World}{base:Nat}{e:TypeId}{size n:Nat}{v:Value}{xs:List Value}(h:w.ownsRow base e size v n xs)(hb:Below w.heap.size w w'):w'.ownsRow base e size v n xs :=
 Z1p h (fun j hj=>hb.block j (h.lt j hj).2)
theorem grown_rowB {w w':World}{base:Nat}{e:TypeId}{size n:Nat}{v:Value}{xs:List Value}{hb:Nat}(h:w.ownsRow base e size v n xs)(hg:w.grownBy w' (some hb))(hl:hb<base):w'.ownsRow base e size v n xs :=
 Z1p h (fun j hj=>hg.block j (h.lt j hj).2 (by have:=(h.lt j hj).1;simp;omega))
theorem hhear_any (hb lb:Nat)(h:Hst)(bs:ByteArray)(w:World)(m:HstM w hb lb h)(k:HOk h)(hbs:bs.size≤4000000) :
  Calls Tryz.prog 108 #[.pointer (some ⟨hb,0,none⟩),.string bs] w fun e w'=>e=.returned (.tuple #[])∧HstM w' hb lb (hearH h bs.data.toList)∧w.grownBy w' (some hb):=by
 have hlen:bs.data.toList.length=bs.size:=by rw [Array.length_toList];rfl
 have hct:=Z2C h.ear bs.data.toList
 have hml:=Z7O m.ear.ok bs.data.toList
 rw [hlen] at hct
 have HE:=Z0a (hear_o hb 4 h.ear bs w m.ear (Nat.le_trans hbs (by decide)))
 have HF:Hid (hearH h bs.data.toList=(Z0p h.ear bs.data.toList).2.foldl hearsH (Z0E h (Z0p h.ear bs.data.toList).1)):=rfl
 obtain ⟨es,hes⟩:∃ es,(Z0p h.ear bs.data.toList).1=es:=⟨_,rfl⟩
 obtain ⟨qs,hqs⟩:∃ qs,(Z0p h.ear bs.data.toList).2=qs:=⟨_,rfl⟩
 rw [hes,hqs] at HE HF
 rw [hqs] at hct hml
 have hqi:(qs.length:Int)≤4000000:=by omega
 have HML:=Z0a hml
 have HM:=Z0a m
 have HK:=Z0a (k.setEar es)
 have hlt:=m.lt
 have hq0:=Z5Z
 have hq1:=Z4V
 clear m k hct hml hes hqs hlen
 go_enter Tryz.func108,Tryz.ntmps108
 go_wp2_with fail
 refine HE.out.mono ?_
 rintro e w1 ⟨v,rfl,hE1,hR1,hW1⟩
 have hM1:HstM w1 hb lb (Z0E h es):=by
  have m:=HM.out
  have hc:∀ j,j<4∨88≤j→w1.cell? ⟨hb,j,none⟩=w.cell? ⟨hb,j,none⟩:=fun j hj=>hW1.cells j (by omega)
  have hz:=hW1.grown.size
  have hbl:w1.heap[lb]?=w.heap[lb]?:=hW1.grown.block lb m.ll (by have:=m.ne;simpa using this)
  obtain ⟨u,u1,u2⟩:=m.c2
  exact ⟨(hc 0 (by omega)).trans m.c0,(hc 1 (by omega)).trans m.c1,(hc 3 (by omega)).trans m.c3,(hc 88 (by omega)).trans m.c88,(hc 89 (by omega)).trans m.c89,(hc 90 (by omega)).trans m.c90,(hc 91 (by omega)).trans m.c91,(hc 92 (by omega)).trans m.c92,⟨u,(hc 2 (by omega)).trans u1,u2.kept (fun _=>hbl)⟩,hE1,m.ne,Nat.lt_of_lt_of_le m.ll hz⟩
 obtain ⟨va,vm,vc,rfl⟩:=Z0A hR1
 have hvm:vm=qs.length:=slice_lenB hR1
 subst hvm
 have HI:=Z0a (And.intro hM1 (And.intro hR1 hW1.grown))
 clear hE1 hR1 hW1 hM1 HE HM
 go_wp2_with fail
 go_loopw [14] (fun i wr=>∃ (j:Nat) (h':Hst),j≤qs.length∧i=.int .i64 j∧(qs.take j).foldl hearsH (Z0E h es)=h'∧HstM wr hb lb h'∧HOk h'∧wr.ownsRow w.heap.size 9 1 (.slice va qs.length vc) qs.length (strs qs)∧w.grownBy wr (some hb)) (fun i _=>qs.length-(intOf i).toNat)
 case atStart=>exact ⟨0,_,Nat.zero_le _,rfl,rfl,HI.out.1,HK.out,HI.out.2.1,HI.out.2.2⟩
 case round =>
  clear HI
  obtain ⟨j,h',hj,rfl,hfo,hM,hOk,hR,hG⟩:=hrel
  by_cases hlj:j<qs.length
  ·have hji:(j:Int)<(qs.length:Int):=by omega
   have hqm:=HML.out _ (getD_mem hlj)
   obtain ⟨q,hq⟩:∃ q,qs.getD j []=q:=⟨_,rfl⟩
   have hnx:=fold_next hlj hfo
   rw [hq] at hqm hnx
   obtain ⟨g,rfl,cj⟩:=row_cellB hR hlj
   rw [hq] at cj
   have c89:=hM.c89
   have c88:=hM.c88
   by_cases h0:h'.take=0
   ·have hst:=fold_take hfo h0
    rw [h0] at c89
    replace c89:wr.cell? ⟨hb,89,none⟩=some .nilFunc:=c89
    have HX:=Z0a (And.intro hst (And.intro hM hG))
    clear hst hM hG hfo hOk hR hnx h0 hq
    go_wp2
    (try simp only [Exit.inBlock,Exit.then])
    refine bodyPost_ret (results_none rfl _ _ _) rfl ?_
    exact ⟨rfl,by rw [HF.out,HX.out.1];exact HX.out.2.1,HX.out.2.2⟩
   ·have HA:=Z0a (fun w'=>hanswer_any h'.asked q hOk.b.long (by omega) w')
    obtain ⟨an,han⟩:∃ an,Z0s h'.asked q=an:=⟨_,rfl⟩
    rw [han] at HA
    cases an with
    | none =>
     obtain ⟨V,hV⟩:=Z2n hb h'.take (by omega)
     rw [hV] at c89
     have hhe:hearsH h' q=h':=by unfold hearsH;rw [if_neg h0,han]
     rw [hhe] at hnx
     have HX:=Z0a (And.intro hnx (And.intro hM (And.intro hOk (And.intro hR hG))))
     obtain ⟨Q,hQ⟩:∃ Q,txt q=Q:=⟨_,rfl⟩
     obtain ⟨AS,hAS⟩:∃ AS,txt h'.asked=AS:=⟨_,rfl⟩
     rw [hQ] at HA cj
     rw [hAS] at HA c88
     unfold ansV at HA
     clear hnx hM hOk hR hG hhe han hV h0 hq hfo hQ hAS
     go_wp2_with fail
     refine (HA.out _).mono ?_
     rintro e w2 ⟨rfl,hB2⟩
     have HY:=Z0a hB2
     clear hB2
     go_wp2
     go_roundw
     case rel=>exact ⟨j+1,h',by omega,by go_num,HX.out.1,HX.out.2.1.below (HY.out.alloc HY.out.size _),HX.out.2.2.1,Z7p HX.out.2.2.2.1 (HY.out.alloc HY.out.size _),HX.out.2.2.2.2.trans (Z0g (HY.out.alloc HY.out.size _) _)⟩
     case measure=>simp [intOf];omega
    | some an =>
     obtain ⟨y,rs⟩:=an
     obtain ⟨V,hV,hEnt,hTk⟩:=htake_any hb lb h' hOk h0 y rs (answer_state hOk han)
     rw [hV] at c89
     have hhe:hearsH h' q=takesH h' y rs:=by unfold hearsH;rw [if_neg h0,han]
     rw [hhe] at hnx
     have hOk2:=hOk.takesH h0 y rs
     have HX:=Z0a (And.intro hnx (And.intro hM (And.intro hOk2 (And.intro hR hG))))
     have hent:∀ args w,(callFunc V args).run Tryz.prog w=.ok (.enter V args) w:=hEnt
     have HT:Hid (∀ w',HstM w' hb lb h'→Calls Tryz.prog V #[.pointer (some ⟨hb,0,none⟩),.agg #[.bool y,.string (txt rs)]] w' fun e w''=>∃ v,e=.returned v∧(v=.tuple #[]∧HstM w'' hb lb (takesH h' y rs)∧w'.grownBy w'' (some hb))):=fun w' m'=>(hTk w' m').mono fun e w'' ⟨e1,e2,e3⟩=>⟨_,e1,rfl,e2,e3⟩
     obtain ⟨Q,hQ⟩:∃ Q,txt q=Q:=⟨_,rfl⟩
     obtain ⟨AS,hAS⟩:∃ AS,txt h'.asked=AS:=⟨_,rfl⟩
     rw [hQ] at HA cj
     rw [hAS] at HA c88
     unfold ansV at HA
     have hlr:=hM.lt
     clear hnx hM hOk hOk2 hR hG hhe han hV h0 hq hfo hQ hAS hTk
     go_wp2_with fail
     refine (HA.out _).mono ?_
     rintro e w2 ⟨rfl,hB2⟩
     obtain ⟨W,hW,hBW,a0,a1⟩:=Z2Y w2 y (txt rs)
     have hBW2:Below wr.heap.size wr W:=hB2.trans (hBW.mono hB2.size)
     have d89:=(World.cell?_of_block (a:=⟨hb,89,none⟩) (hBW2.block hb hlr)).trans c89
     have HY:=Z0a hBW2
     clear hB2 hBW hBW2
     go_wp2_with fail
     go_region_law (refine Z2L V #[.pointer (some ⟨hb,0,none⟩),.agg #[.bool y,.string (txt rs)]] rfl (by simp [execOp,resolve,invoke,go_sem,hent]) _ _ (HT.out _ (by exact HX.out.2.1.below HY.out.drew)) (fun e w' hh=>hh) ?_;rintro xv w3 ⟨rfl,hm3,hg3⟩)
     all_goals
      have HW:=Z0a (And.intro hm3 (And.intro (grown_rowB (Z7p HX.out.2.2.2.1 HY.out.drew) hg3 hlt) (HX.out.2.2.2.2.trans ((Z0g HY.out.drew _).trans hg3))))
      clear hm3 hg3
      go_wp2
      go_roundw
      case rel=>exact ⟨j+1,_,by omega,by go_num,HX.out.1,HW.out.1,HX.out.2.2.1,HW.out.2.1,HW.out.2.2⟩
      case measure=>simp [intOf];omega
  ·have hje:j=qs.length:=by omega
   have hji:¬ (j:Int)<(qs.length:Int):=by omega
   rw [hje,List.take_length] at hfo
   have HX:=Z0a (And.intro hfo (And.intro hM hG))
   clear hfo hM hG hOk hR hje
   go_wp2
   go_end0
   exact ⟨rfl,by rw [HF.out,HX.out.1];exact HX.out.2.1,HX.out.2.2⟩
structure Img where
 bytes:List UInt8
 laid:List Bool
 starts:List Bool
def Z11 (i:Img):Bool:=decide (i.bytes.length=1024) && (decide (i.laid.length=1024) && decide (i.starts.length=1024))
def Z3c (i:Img) (k:Nat):List Bool:=(i.laid.drop (64*k)).take 64
def Z2N (i:Img) (k:Nat):List UInt8:=(i.bytes.drop (64*k)).take 64
def Z34 (i:Img):Nat→List Pg
 | 0=>[]
 | k+1=>Z34 i k++(if true∈Z3c i k then [⟨UInt8.ofNat k,Z2N i k⟩] else [])
def Z1k (i:Img):List Pg:=Z34 i 16
theorem Z4M (i:Img):∀ k,(Z34 i k).length≤k
 | 0=>Nat.le_refl _
 | k+1=>by
  have:=Z4M i k
  unfold Z34
  split <;> simp <;> omega
structure SlV (w:World) (v:Value) (xs:List Value):Prop where
 is:∃ a cap,v=.slice a xs.length cap∧xs.length≤cap∧cap≤9223372036854775807∧(0<xs.length→∃ b off,a=some ⟨b,off,none⟩∧b<w.heap.size∧∀ i (hi:i<xs.length),w.cell? ⟨b,off+i,none⟩=some xs[i])
theorem SlV.below {w w':World}{v:Value}{xs:List Value}(h:SlV w v xs)(hb:Below w.heap.size w w'):SlV w' v xs:=by
 obtain ⟨a,cap,h1,h2,h3,h4⟩:=h.is
 refine ⟨a,cap,h1,h2,h3,fun hl=>?_⟩
 obtain ⟨b,off,e1,e2,e3⟩:=h4 hl
 exact ⟨b,off,e1,Nat.lt_of_lt_of_le e2 hb.size,fun i hi=>(World.cell?_of_block (a:=⟨b,off+i,none⟩) (hb.block b e2)).trans (e3 i hi)⟩
def Z13 (l:List Bool):List Value:=l.map .bool
structure HImgAt (w:World) (v0 v1 v2:Value) (i:Img):Prop where
 b:SlV w v0 (Z0f i.bytes)
 l:SlV w v1 (Z13 i.laid)
 s:SlV w v2 (Z13 i.starts)
theorem HImgAt.below {w w':World}{v0 v1 v2:Value}{i:Img}(h:HImgAt w v0 v1 v2 i)(hb:Below w.heap.size w w'):HImgAt w' v0 v1 v2 i:=⟨h.b.below hb,h.l.below hb,h.s.below hb⟩
theorem Z4G (w:World)(v0 v1 v2:Value):∃ W,w.alloc (.cells #[v0,v1,v2] 35)=W∧Below w.heap.size w W∧w.heap.size<W.heap.size∧W.cell? ⟨w.heap.size,0,none⟩=some v0∧W.cell? ⟨w.heap.size,1,none⟩=some v1∧W.cell? ⟨w.heap.size,2,none⟩=some v2:=by
 refine ⟨_,rfl,(Below.refl _ _).alloc (Nat.le_refl _) _,by simp,?_,?_,?_⟩
 all_goals
  rw [cell_of_row _ _ _ _ _ (0,0) (heap_alloc_new w _)]
  rfl
theorem eq1024 (n:Nat):((n:Int) == 1024)=decide (n=1024):=by
 by_cases h:n=1024
 ·subst h;rfl
 ·rw [decide_eq_false h];simp;omega
theorem imgWhole_any (a0 a1 a2:Option Addr)(n0 n1 n2 c0 c1 c2:Nat)(h0:n0≤9223372036854775807)(h1:n1≤9223372036854775807)(h2:n2≤9223372036854775807)(w:World) :
  Calls Tryz.prog 110 #[.agg #[.slice a0 n0 c0,.slice a1 n1 c1,.slice a2 n2 c2]] w fun e w'=>e=.returned (.bool (decide (n0=1024) && (decide (n1=1024) && decide (n2=1024))))∧Below w.heap.size w w':=by
 obtain ⟨W,hW,hB,hz,k0,k1,k2⟩:=Z4G w (.slice a0 n0 c0) (.slice a1 n1 c1) (.slice a2 n2 c2)
 have q0:=eq1024 n0
 have q1:=eq1024 n1
 have q2:=eq1024 n2
 have HB:=Z0a hB
 clear hB
 by_cases e0:n0=1024
 ·rw [decide_eq_true e0] at q0 ⊢
  by_cases e1:n1=1024
  ·rw [decide_eq_true e1] at q1 ⊢
   by_cases e2:n2=1024
   ·rw [decide_eq_true e2] at q2 ⊢
    subst e0 e1 e2
    go_enter Tryz.func110,Tryz.ntmps110
    go_wp2
    go_ret
    exact ⟨rfl,HB.out⟩
   ·rw [decide_eq_false e2] at q2 ⊢
    subst e0 e1
    clear e2
    go_enter Tryz.func110,Tryz.ntmps110
    go_wp2
    go_ret
    exact ⟨rfl,HB.out⟩
  ·rw [decide_eq_false e1] at q1 ⊢
   subst e0
   clear e1
   go_enter Tryz.func110,Tryz.ntmps110
   go_wp2
   go_ret
   exact ⟨rfl,HB.out⟩
 ·rw [decide_eq_false e0] at q0 ⊢
  clear e0
  go_enter Tryz.func110,Tryz.ntmps110
  go_wp2
  go_ret
  exact ⟨rfl,HB.out⟩
def IdxIs (z:Int) (l:List Bool):Prop:=(0≤z↔true∈l)∧-1≤z
theorem indexB_any (b off cap:Nat)(l:List Bool)(w:World)(hc:∀ i (hi:i<l.length),w.cell? ⟨b,off+i,none⟩=some (.bool l[i]))(hl:l.length≤1000) :
  Calls Tryz.prog 196 #[.slice (some ⟨b,off,none⟩) l.length cap,.bool true] w fun e w'=>∃ z:Int,e=.returned (.int .i64 z)∧IdxIs z l∧w'=w:=by
 have HC:=Z0a hc
 clear hc
 have hli:(l.length:Int)≤1000:=by omega
 go_enter Tryz.func196,Tryz.ntmps196
 go_wp2_with fail
 go_loopw [8] (fun i wr=>∃ j:Nat,j≤l.length∧i=.int .i64 j∧true ∉ l.take j∧wr=w) (fun i _=>l.length-(intOf i).toNat)
 case atStart=>exact ⟨0,Nat.zero_le _,rfl,by simp,rfl⟩
 case round =>
  obtain ⟨j,hj,rfl,hno,rfl⟩:=hrel
  by_cases hlj:j<l.length
  ·have hji:(j:Int)<(l.length:Int):=by omega
   have cj:=HC.out j hlj
   obtain ⟨x,hx⟩:∃ x,l[j]=x:=⟨_,rfl⟩
   rw [hx] at cj
   cases x
   ·have hn2:true ∉ l.take (j+1):=by
     rw [List.take_add_one,List.getElem?_eq_getElem hlj,hx]
     simpa using hno
    have HN:=Z0a hn2
    clear hn2 hno hx
    go_wp2
    go_roundw
    case rel=>exact ⟨j+1,by omega,by go_num,HN.out,by first | rfl | trivial⟩
    case measure=>simp [intOf];omega
   ·have hin:true∈l:=by rw [←hx];exact List.getElem_mem hlj
    have HN:=Z0a hin
    clear hin hno hx
    go_wp2
    go_ret
    exact ⟨(j:Int),rfl,⟨⟨fun _=>HN.out,fun _=>by omega⟩,by omega⟩,rfl⟩
  ·have hji:¬ (j:Int)<(l.length:Int):=by omega
   have hnl:true ∉ l:=by rw [show l.take j=l from List.take_of_length_le (by omega)] at hno;exact hno
   have HN:=Z0a hnl
   clear hnl hno
   go_wp2
   go_ret
   exact ⟨-1,rfl,⟨⟨fun e=>absurd e (by omega),fun e=>absurd e HN.out⟩,by omega⟩,rfl⟩
theorem Z79 (b off cap:Nat)(l:List Bool)(w:World)(hc:∀ i (hi:i<l.length),w.cell? ⟨b,off+i,none⟩=some (.bool l[i]))(hl:l.length≤1000) :
  Calls Tryz.prog 163 #[.slice (some ⟨b,off,none⟩) l.length cap,.bool true] w fun e w'=>e=.returned (.bool (decide (true∈l)))∧w'=w:=by
 have HI:=Z0a (indexB_any b off cap l w hc hl)
 clear hc
 go_enter Tryz.func163,Tryz.ntmps163
 go_wp2_with fail
 refine HI.out.mono ?_
 rintro e w1 ⟨z,rfl,hz,rfl⟩
 have HZ:=Z0a (show decide (0≤z)=decide (true∈l) from decide_eq_decide.2 hz.1)
 have hz1:=hz.2
 clear hz
 go_wp2
 go_ret
 exact ⟨by rw [←HZ.out];rfl,rfl⟩
end Go.Proofs.YthokdbcpkmcieabGreatDoor
