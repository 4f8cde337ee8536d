/- HstW1 HstW2 HstW3 HstW4 HstW5 HstW6 -/
import Derived.Test.YthokdbcpkmcieaaGreatDoorS38
import Derived.Laws.EntriesVeiled
import Derived.BigRegion
import Derived.Deep.DrawnRows
import Derived.Deep.RegionWith
set_option maxRecDepth 200000
set_option maxHeartbeats 8000000
namespace Go.Proofs.YthokdbcpkmcieaaGreatDoor
open Go Go.RowKit
attribute [local go_sem ↓] Go.wp_at_zero Go.wp_at_succ
theorem Z2h (hb t:Nat)(h:1≤t):∃ f,Z29 hb t=.func (.func f) #[.pointer (some ⟨hb,0,none⟩)] #[]:=by
 unfold Z29
 rw [if_neg (by omega)]
 repeat' split
 all_goals exact ⟨_,rfl⟩
theorem setg (w:World)(b j:Nat)(v:Value):w.grownBy (w.setCell ⟨b,j,none⟩ v) (some b):=Z0p _ _ _ _
theorem hsay_any (hb lb:Nat)(h:Hst)(w:World)(m:HstM w hb lb h)(ht:h.tries≤5) :
  Calls Tryz.prog 116 #[.pointer (some ⟨hb,0,none⟩)] w fun e w'=>e=.returned (.tuple #[])∧HstM w' hb lb (saysH h)∧w.grownBy w' (some hb):=by
 have c90:=m.c90
 have c91:=m.c91
 have c92:=m.c92
 have f90:=m.fz 90
 have f91:=m.fz 91
 have f92:=m.fz 92
 have e1:((h.tries+1:Nat):Int)=(h.tries:Int)+1:=by omega
 have e2:((0:Nat):Int)=0:=rfl
 have HR:=Z0a (And.intro (((m.setSaid false).setTries (h.tries+1)).setTicks 0) ((setg w hb 90 (.bool false)).trans ((setg _ hb 91 (.int .i64 ((h.tries+1:Nat):Int))).trans (setg _ hb 92 (.int .i64 ((0:Nat):Int))))))
 rw [e1,e2] at HR
 obtain ⟨T,hT⟩:∃ T,h.tries=T:=⟨_,rfl⟩
 rw [hT] at c91 ht
 have HT:=Z0a hT
 rw [hT] at HR
 clear m e1 e2 hT
 go_enter Tryz.func116,Tryz.ntmps116
 go_wp2
 go_end0
 exact ⟨rfl,by unfold saysH;rw [HT.out];exact HR.out.1,HR.out.2⟩
theorem Z3I (hb lb:Nat)(h:Hst)(s:Nat)(w:World)(m:HstM w hb lb h) :
  Calls Tryz.prog 117 #[.pointer (some ⟨hb,0,none⟩),.int .i64 (s:Int)] w fun e w'=>e=.returned (.tuple #[])∧HstM w' hb lb (endH h s)∧w.grownBy w' (some hb):=by
 have c0:=m.c0
 have c89:=m.c89
 have f0:=m.fz 0
 have f89:=m.fz 89
 obtain ⟨V,hV⟩:∃ V,Z29 hb h.take=V:=⟨_,rfl⟩
 rw [hV] at c89
 have HR:=Z0a (And.intro ((m.setState s).setTake 0) ((setg w hb 0 (.int .i64 (s:Int))).trans (setg _ hb 89 (Z29 hb 0))))
 have e0:Z29 hb 0=.nilFunc:=rfl
 rw [e0] at HR
 clear m hV e0
 go_enter Tryz.func117,Tryz.ntmps117
 go_wp2
 go_end0
 exact ⟨rfl,HR.out.1,HR.out.2⟩
theorem hask_any (hb lb:Nat)(h:Hst)(num what:UInt8)(rest:List UInt8)(tk:Nat)(w:World)(m:HstM w hb lb h)(hs:h.ses<65536)(hr:rest.length≤1000)(h1:1≤tk) :
  Calls Tryz.prog 179 #[.pointer (some ⟨hb,0,none⟩),.int .u8 (num.toNat:Int),.int .u8 (what.toNat:Int),.string (txt rest),Z29 hb tk] w fun e w'=>e=.returned (.tuple #[])∧HstM w' hb lb (askH h num what rest tk)∧w.grownBy w' (some hb):=by
 have c1:=m.c1
 have c88:=m.c88
 have c89:=m.c89
 have c91:=m.c91
 have f88:=m.fz 88
 have f89:=m.fz 89
 have f91:=m.fz 91
 have hlt:=m.lt
 have hb1:h.ses/256<256:=by omega
 have hb2:h.ses%256<256:=by omega
 have hcv:(convert 32 9 (.slice (some ⟨w.heap.size,0,none⟩) 4 4)).run Tryz.prog (w.alloc (.cells #[.int .u8 ((h.ses:Int)/256),.int .u8 ((h.ses:Int)%256),.int .u8 (num.toNat:Int),.int .u8 (what.toNat:Int)] 5)).drew=.ok (.string (txt (Z0F h.ses num what))) (w.alloc (.cells #[.int .u8 ((h.ses:Int)/256),.int .u8 ((h.ses:Int)%256),.int .u8 (num.toNat:Int),.int .u8 (what.toNat:Int)] 5)).drew:=by
  have:=Z3d (l:=Z0F h.ses num what) (n:=4) rfl (own_new w w.heap.size (Nat.le_refl _) (Z0F h.ses num what) (by simp [Z0F]) (by simp [Z0F])).drew
  have hv:(Z0c (Z0F h.ses num what)).toArray=#[.int .u8 ((h.ses:Int)/256),.int .u8 ((h.ses:Int)%256),.int .u8 (num.toNat:Int),.int .u8 (what.toNat:Int)]:=by
   have e1:(UInt8.ofNat (h.ses/256)).toNat=h.ses/256:=by rw [UInt8.toNat_ofNat'];omega
   have e2:(UInt8.ofNat (h.ses%256)).toNat=h.ses%256:=by rw [UInt8.toNat_ofNat'];omega
   simp only [Z0F,Z0c,List.map_cons,List.map_nil,e1,e2]
   simp
  rw [hv] at this
  exact this
 have hB:Below w.heap.size w (w.alloc (.cells #[.int .u8 ((h.ses:Int)/256),.int .u8 ((h.ses:Int)%256),.int .u8 (num.toNat:Int),.int .u8 (what.toNat:Int)] 5)).drew:=((Below.refl _ _).alloc (Nat.le_refl _) _).drew
 have hcat:txt (Z0F h.ses num what)++txt rest=txt (Z0F h.ses num what++rest):=Z3M _ _
 have hs4:(txt (Z0F h.ses num what)).size=4:=rfl
 have hsr:((txt rest).size:Int)≤1000:=by rw [Z1e];omega
 obtain ⟨w1,hw1⟩:∃ w1,(w.alloc (.cells #[.int .u8 ((h.ses:Int)/256),.int .u8 ((h.ses:Int)%256),.int .u8 (num.toNat:Int),.int .u8 (what.toNat:Int)] 5)).drew=w1:=⟨_,rfl⟩
 rw [hw1] at hcv hB
 have m1:=m.below hB
 have r3:HstM (((w1.setCell ⟨hb,88,none⟩ (.string (txt (Z0F h.ses num what++rest)))).setCell ⟨hb,89,none⟩ (Z29 hb tk)).setCell ⟨hb,91,none⟩ (.int .i64 ((0:Nat):Int))) hb lb ⟨h.state,h.ses,h.left,h.burnt,h.ear,Z0F h.ses num what++rest,tk,h.said,0,h.ticks⟩:=((m1.setAsked (Z0F h.ses num what++rest)).setTake tk).setTries 0
 have HS:=Z0a (fun w' (m':HstM w' hb lb ⟨h.state,h.ses,h.left,h.burnt,h.ear,Z0F h.ses num what++rest,tk,h.said,0,h.ticks⟩)=>hsay_any hb lb ⟨h.state,h.ses,h.left,h.burnt,h.ear,Z0F h.ses num what++rest,tk,h.said,0,h.ticks⟩ w' m' (by show 0≤5;omega))
 have G3':=(Z0d hB (some hb)).trans ((setg w1 hb 88 (.string (txt (Z0F h.ses num what++rest)))).trans ((setg _ hb 89 (Z29 hb tk)).trans (setg _ hb 91 (.int .i64 ((0:Nat):Int)))))
 have HR:=Z0a (And.intro r3 G3')
 have d88:=m1.c88
 have d89:=m1.c89
 have d91:=m1.c91
 have g88:=m1.fz 88
 have g89:=m1.fz 89
 have g91:=m1.fz 91
 have hl1:=m1.lt
 obtain ⟨V0,hV0⟩:∃ V0,Z29 hb h.take=V0:=⟨_,rfl⟩
 rw [hV0] at c89 d89
 obtain ⟨V,hV⟩:=Z2h hb tk h1
 rw [hV] at HR ⊢
 have e0:((0:Nat):Int)=0:=rfl
 rw [e0,← hcat] at HR
 obtain ⟨HD,hHD⟩:∃ HD,txt (Z0F h.ses num what)=HD:=⟨_,rfl⟩
 obtain ⟨RS,hRS⟩:∃ RS,txt rest=RS:=⟨_,rfl⟩
 rw [hHD] at HR hcv hs4
 rw [hRS] at HR hsr ⊢
 clear m m1 r3 G3' hB hcat hV hV0 hHD hRS e0
 go_enter Tryz.func179,Tryz.ntmps179
 go_wp2
 go_region
 all_goals
  clear hw1 c88 c89 c91 f88 f89 f91 hlt
  go_wp2_with fail
  refine (HS.out _ HR.out.1).mono ?_
  rintro e w2 ⟨rfl,h2,h3⟩
  have HZ:=Z0a (And.intro h2 (HR.out.2.trans h3))
  clear h2 h3
  go_wp2
  go_end0
  exact ⟨rfl,HZ.out.1,HZ.out.2⟩
theorem and_one16 (c:Nat)(hc:c<65536):bits .and .u16 (c:Int) 1=((c%2:Nat):Int):=by
 have h1:(BitVec.ofInt 16 (c:Int)).toNat=c:=by
  rw [BitVec.toNat_ofInt]
  omega
 have h2:(BitVec.ofInt 16 1).toNat=1:=by decide
 show IntKind.u16.wrap ((BitVec.ofInt 16 (c:Int) &&& BitVec.ofInt 16 1).toNat:Int)=_
 rw [BitVec.toNat_and,h1,h2,Nat.and_one_is_mod,IntKind.wrap_u16]
 omega
theorem wrap_succ (x:UInt8):IntKind.u8.wrap ((x.toNat:Int)+1)=((x+1).toNat:Int):=by
 have hx:=x.toNat_lt
 have e:(x+1).toNat=(x.toNat+1)%256:=by rw [UInt8.toNat_add];rfl
 rw [IntKind.wrap_u8,e]
 omega
theorem Z6b (hb lb:Nat)(h:Hst)(what:UInt8)(rest:List UInt8)(tk:Nat)(w:World)(m:HstM w hb lb h)(hs:h.ses<65536)(hl:4≤h.asked.length∧h.asked.length≤69)(hr:rest.length≤1000)(h1:1≤tk) :
  Calls Tryz.prog 220 #[.pointer (some ⟨hb,0,none⟩),.int .u8 (what.toNat:Int),.string (txt rest),Z29 hb tk] w fun e w'=>e=.returned (.tuple #[])∧HstM w' hb lb (nextH h what rest tk)∧w.grownBy w' (some hb):=by
 have c88:=m.c88
 have HA:=Z0a (hask_any hb lb h (h.asked.getD 2 0+1) what rest tk w m hs hr h1)
 obtain ⟨S,hS⟩:∃ S,txt h.asked=S:=⟨_,rfl⟩
 have hsz:S.size=h.asked.length:=by rw [←hS,Z1e]
 have h2S:2<S.size:=by omega
 obtain ⟨x,hx⟩:∃ x,h.asked.getD 2 0=x:=⟨_,rfl⟩
 have hS2:S[2]=x:=(Z7y hS h2S).trans hx
 have hwx:=wrap_succ x
 have hSi:(S.size:Int)≤69:=by omega
 have h2i:(2:Int)<(S.size:Int):=by omega
 rw [hS] at c88
 rw [hx] at HA
 obtain ⟨V,hV⟩:=Z2h hb tk h1
 obtain ⟨RS,hRS⟩:∃ RS,txt rest=RS:=⟨_,rfl⟩
 rw [hV,hRS] at HA ⊢
 have HX:=Z0a hx
 clear m hS hsz hl hx hV hRS
 go_enter Tryz.func220,Tryz.ntmps220
 go_wp2_with fail
 refine HA.out.mono ?_
 rintro e w1 ⟨rfl,h1,h2⟩
 have HZ:=Z0a (And.intro h1 h2)
 clear h1 h2
 go_wp2
 go_end0
 exact ⟨rfl,by unfold nextH;rw [HX.out];exact HZ.out.1,HZ.out.2⟩
theorem hname_any (n:UInt8)(bs:ByteArray)(w:World):Calls Tryz.prog 300 #[.agg #[.int .u8 (n.toNat:Int),.string bs]] w fun e w'=>e=.returned (.string (txt [n]))∧Below w.heap.size w w':=by
 obtain ⟨w1,hw1⟩:∃ w1,w.alloc (.cells #[.int .u8 (n.toNat:Int),.string bs] 303)=w1:=⟨_,rfl⟩
 have k0:w1.cell? ⟨w.heap.size,0,none⟩=some (.int .u8 (n.toNat:Int)):=by rw [←hw1,cell_of_row _ _ _ _ _ (0,0) (heap_alloc_new w _)];rfl
 have hcv:=conv_one w1 n
 have HB:=Z0a (show Below w.heap.size w (w1.alloc (.cells #[.int .u8 (n.toNat:Int)] 5)) by rw [←hw1];exact ((Below.refl _ _).alloc (Nat.le_refl _) _).alloc (by simp) _)
 obtain ⟨T,hT⟩:∃ T,txt [n]=T:=⟨_,rfl⟩
 rw [hT] at hcv ⊢
 clear hT
 go_enter Tryz.func300,Tryz.ntmps300
 go_wp2
 go_ret
 exact ⟨rfl,HB.out⟩
theorem hsize_any (x:UInt8)(w:World):Calls Tryz.prog 227 #[.int .u8 (x.toNat:Int)] w fun e w'=>e=.returned (.int .i64 (Z7A x:Int))∧w'=w:=by
 by_cases h3:x=3
 ·subst h3
  go_enter Tryz.func227,Tryz.ntmps227
  go_wp2
  go_ret
  exact ⟨rfl,rfl⟩
 by_cases h4:x=4
 ·subst h4
  go_enter Tryz.func227,Tryz.ntmps227
  go_wp2
  go_ret
  exact ⟨rfl,rfl⟩
 have e:Z7A x=0:=by unfold Z7A;simp [h3,h4]
 have n3:((x.toNat:Int) == 3)=false:=Z5z (c:=3) h3
 have n4:((x.toNat:Int) == 4)=false:=Z5z (c:=4) h4
 rw [e]
 clear h3 h4 e
 go_enter Tryz.func227,Tryz.ntmps227
 go_wp2
 go_ret
 exact ⟨rfl,rfl⟩
theorem Z58 (n:UInt8)(bs:List UInt8)(y:Bool)(rd:List UInt8)(w:World):Calls Tryz.prog 301 #[.agg #[.int .u8 (n.toNat:Int),.string (txt bs)],.agg #[.bool y,.string (txt rd)]] w fun e w'=>e=.returned (.bool (decide (y=true∧rd=bs)))∧Below w.heap.size w w':=by
 obtain ⟨w1,hw1⟩:∃ w1,w.alloc (.cells #[.int .u8 (n.toNat:Int),.string (txt bs)] 303)=w1:=⟨_,rfl⟩
 obtain ⟨w2,hw2⟩:∃ w2,w1.alloc (.cells #[.bool y,.string (txt rd)] 271)=w2:=⟨_,rfl⟩
 have k0:w2.cell? ⟨w.heap.size,1,none⟩=some (.string (txt bs)):=by
  rw [←hw2,← hw1]
  have:((w.alloc (.cells #[.int .u8 (n.toNat:Int),.string (txt bs)] 303)).alloc (.cells #[.bool y,.string (txt rd)] 271)).heap[w.heap.size]?=some (.cells #[.int .u8 (n.toNat:Int),.string (txt bs)] 303):=by rw [Below.heap_alloc _ _ _ (by simp)];exact heap_alloc_new w _
  rw [cell_of_row _ _ _ _ _ (0,0) this];rfl
 have k1:w2.cell? ⟨w1.heap.size,0,none⟩=some (.bool y):=by rw [←hw2,cell_of_row _ _ _ _ _ (0,0) (heap_alloc_new w1 _)];rfl
 have k2:w2.cell? ⟨w1.heap.size,1,none⟩=some (.string (txt rd)):=by rw [←hw2,cell_of_row _ _ _ _ _ (0,0) (heap_alloc_new w1 _)];rfl
 have HB:=Z0a (show Below w.heap.size w w2 by rw [←hw2,← hw1];exact ((Below.refl _ _).alloc (Nat.le_refl _) _).alloc (by simp) _)
 by_cases he:rd=bs
 ·subst he
  obtain ⟨T,hT⟩:∃ T,txt rd=T:=⟨_,rfl⟩
  rw [hT] at hw1 hw2 k0 k2 ⊢
  clear hT
  cases y
  all_goals
   go_enter Tryz.func301,Tryz.ntmps301
   go_wp2
   go_ret
   exact ⟨by simp,HB.out⟩
 ·have hne:=txt_neR he
  have hd:decide (y=true∧rd=bs)=false:=by simp [he]
  rw [hd]
  obtain ⟨T,hT⟩:∃ T,txt rd=T:=⟨_,rfl⟩
  obtain ⟨U,hU⟩:∃ U,txt bs=U:=⟨_,rfl⟩
  rw [hT] at hw2 k2 hne ⊢
  rw [hU] at hw1 k0 hne ⊢
  clear hT hU hd he
  cases y
  all_goals
   go_enter Tryz.func301,Tryz.ntmps301
   go_wp2
   go_ret
   exact ⟨rfl,HB.out⟩
theorem hisIn_any (p:Pg)(b:Nat)(hn:p.n<16)(hb:b<65536)(w:World):Calls Tryz.prog 281 #[.agg #[.int .u8 (p.n.toNat:Int),.string (txt p.bs)],.int .u16 (b:Int)] w fun e w'=>e=.returned (.bool (isInH p b))∧Below w.heap.size w w':=by
 have hn16:=u16 hn
 obtain ⟨N,hN⟩:∃ N,p.n.toNat=N:=⟨_,rfl⟩
 rw [hN] at hn16 ⊢
 have hNi:(N:Int)<16:=by omega
 have hq:b/2 ^ N<65536:=Nat.lt_of_le_of_lt (Nat.div_le_self _ _) hb
 have hdiv:(b:Int)/2 ^ N=((b/2 ^ N:Nat):Int):=by rw [Int.natCast_ediv,Int.natCast_pow];rfl
 have hand:=and_one16 (b/2 ^ N) hq
 rw [←hdiv] at hand
 have HX:=Z0a (show Ending.returned (Value.bool (bits .and .u16 ((b:Int)/2 ^ N) 1 == 1))=Ending.returned (Value.bool (isInH p b)) by
  rw [hand]
  unfold isInH
  rw [hN]
  congr 2
  obtain ⟨r,hr⟩:∃ r,b/2 ^ N%2=r:=⟨_,rfl⟩
  rw [hr]
  have hr2:r=0∨r=1:=by omega
  rcases hr2 with rfl | rfl <;> rfl)
 have HB:=Z0a (show Below w.heap.size w (w.alloc (.cells #[.int .u8 (N:Int),.string (txt p.bs)] 303)) from (Below.refl _ _).alloc (Nat.le_refl _) _)
 clear hand hdiv hq hN hn
 go_enter Tryz.func281,Tryz.ntmps281
 go_wp2
 go_ret
 exact ⟨HX.out,HB.out⟩
theorem HstM.first {w:World}{hb lb:Nat}{h:Hst}(m:HstM w hb lb h)(hl:0<h.left.length):∃ off cap,w.cell? ⟨hb,2,none⟩=some (.slice (some ⟨lb,off,none⟩) h.left.length cap)∧h.left.length≤cap∧cap≤9223372036854775807∧w.cell? ⟨lb,off,none⟩=some (.int .u8 ((Z0h h).n.toNat:Int))∧w.cell? ⟨lb,off+1,none⟩=some (.string (txt (Z0h h).bs)):=by
 obtain ⟨v,v1,v2⟩:=m.c2
 obtain ⟨a,cap,rfl,h2,h3,h4⟩:=v2.is
 obtain ⟨off,rfl,h5⟩:=h4 hl
 obtain ⟨k1,k2⟩:=h5 0 hl
 have e:Z0h h=h.left[0]:=by unfold Z0h;rw [List.getD_eq_getElem?_getD,List.getElem?_eq_getElem hl];rfl
 rw [e]
 exact ⟨off,cap,v1,h2,h3,by simpa using k1,by simpa using k2⟩
theorem Z45 (hb lb:Nat)(h:Hst)(tk:Nat)(w:World)(m:HstM w hb lb h)(k:HB h)(hl:0<h.left.length)(h1:1≤tk) :
  Calls Tryz.prog 282 #[.pointer (some ⟨hb,0,none⟩),Z29 hb tk] w fun e w'=>e=.returned (.tuple #[])∧HstM w' hb lb (askReadH h tk)∧w.grownBy w' (some hb):=by
 obtain ⟨off,cap,c2,hc1,hc2,k0,k1⟩:=m.first hl
 have HN:=Z0a (fun w'=>hname_any (Z0h h).n (txt (Z0h h).bs) w')
 have HA:=Z0a (fun w' (m':HstM w' hb lb h)=>Z6b hb lb h 3 [(Z0h h).n] tk w' m' k.ses k.long (by simp) h1)
 have h3:((3:UInt8).toNat:Int)=3:=rfl
 rw [h3] at HA
 obtain ⟨V,hV⟩:=Z2h hb tk h1
 rw [hV] at HA ⊢
 obtain ⟨T,hT⟩:∃ T,txt [(Z0h h).n]=T:=⟨_,rfl⟩
 rw [hT] at HN HA
 obtain ⟨N,hN⟩:∃ N,(Z0h h).n.toNat=N:=⟨_,rfl⟩
 obtain ⟨U,hU⟩:∃ U,txt (Z0h h).bs=U:=⟨_,rfl⟩
 rw [hN] at HN k0
 rw [hU] at HN k1
 obtain ⟨L,hL⟩:∃ L,h.left.length=L:=⟨_,rfl⟩
 rw [hL] at c2 hl hc1
 have hLi:(0:Int)<(L:Int):=by omega
 have HM:=Z0a m
 clear m hV hT hN hU hL h3
 go_enter Tryz.func282,Tryz.ntmps282
 go_wp2_with fail
 refine (HN.out _).mono ?_
 rintro e w1 ⟨rfl,hB1⟩
 have HB1:=Z0a hB1
 clear hB1
 go_wp2_with fail
 refine (HA.out _ (HM.out.below HB1.out)).mono ?_
 rintro e w2 ⟨rfl,h1,h2⟩
 have HZ:=Z0a (And.intro h1 ((Z0d HB1.out (some hb)).trans h2))
 clear h1 h2
 go_wp2
 go_end0
 exact ⟨rfl,HZ.out.1,HZ.out.2⟩
theorem Z5d (hb lb:Nat)(h:Hst)(w:World)(m:HstM w hb lb h)(k:HB h)(hl:0<h.left.length) :
  Calls Tryz.prog 284 #[.pointer (some ⟨hb,0,none⟩)] w fun e w'=>e=.returned (.tuple #[])∧HstM w' hb lb (askPageH h)∧w.grownBy w' (some hb):=by
 obtain ⟨off,cap,c2,hc1,hc2,k0,k1⟩:=m.first hl
 have hp:=(k.pages _ (Z2N hl)).2
 have HN:=Z0a (fun w'=>hname_any (Z0h h).n (txt (Z0h h).bs) w')
 have HA:=Z0a (fun w' (m':HstM w' hb lb h)=>Z6b hb lb h 2 ((Z0h h).n :: (Z0h h).bs) 3 w' m' k.ses k.long (by simp [hp]) (by omega))
 have h3:((2:UInt8).toNat:Int)=2:=rfl
 have hcat:txt ((Z0h h).n :: (Z0h h).bs)=txt [(Z0h h).n]++txt (Z0h h).bs:=by rw [Z3M];rfl
 have hV:Z29 hb 3=.func (.func 303) #[.pointer (some ⟨hb,0,none⟩)] #[]:=rfl
 rw [h3,hcat,hV] at HA
 have hs1:(txt [(Z0h h).n]).size=1:=rfl
 have hs2:(txt (Z0h h).bs).size=64:=by rw [Z1e,hp]
 obtain ⟨T,hT⟩:∃ T,txt [(Z0h h).n]=T:=⟨_,rfl⟩
 rw [hT] at HN HA hs1
 obtain ⟨N,hN⟩:∃ N,(Z0h h).n.toNat=N:=⟨_,rfl⟩
 obtain ⟨U,hU⟩:∃ U,txt (Z0h h).bs=U:=⟨_,rfl⟩
 rw [hN] at HN k0
 rw [hU] at HN k1 HA hs2
 obtain ⟨L,hL⟩:∃ L,h.left.length=L:=⟨_,rfl⟩
 rw [hL] at c2 hl hc1
 have hLi:(0:Int)<(L:Int):=by omega
 have hlt:=m.lt
 have hll:=m.ll
 have HM:=Z0a m
 clear m hV hT hN hU hL h3 hcat hp
 go_enter Tryz.func284,Tryz.ntmps284
 go_wp2_with fail
 go_region_with (first | (go_at_call 300;refine (HN.out _).mono ?_;rintro e wx ⟨rfl,hBx⟩;have d2:=(World.cell?_of_block (a:=⟨hb,2,none⟩) (hBx.block hb (by exact hlt))).trans (by exact c2);have d1:=(World.cell?_of_block (a:=⟨lb,off+1,none⟩) (hBx.block lb (by exact hll))).trans (by exact k1)) | (go_at_call 220;refine (HA.out _ (by exact (HM.out.below (w':=wx) ⟨hBx.os,hBx.tape,hBx.output,hBx.size,hBx.block⟩))).mono ?_;rintro e wz ⟨rfl,h1,h2⟩))
 all_goals
  have HZ:=Z0a (And.intro h1 ((Z0d (w:=w) ⟨hBx.os,hBx.tape,hBx.output,hBx.size,hBx.block⟩ (some hb)).trans h2))
  clear h1 h2 hBx d1 d2
  go_wp2
  go_end0
  exact ⟨rfl,HZ.out.1,HZ.out.2⟩
theorem HstM.slice {w:World}{hb lb:Nat}{h:Hst}(m:HstM w hb lb h):∃ a cap,w.cell? ⟨hb,2,none⟩=some (.slice a h.left.length cap)∧h.left.length≤cap∧cap≤9223372036854775807:=by
 obtain ⟨v,v1,v2⟩:=m.c2
 obtain ⟨a,cap,rfl,h2,h3,_⟩:=v2.is
 exact ⟨a,cap,v1,h2,h3⟩
theorem hgoOn_any (hb lb:Nat)(h:Hst)(w:World)(m:HstM w hb lb h)(k:HB h) :
  Calls Tryz.prog 256 #[.pointer (some ⟨hb,0,none⟩)] w fun e w'=>e=.returned (.tuple #[])∧HstM w' hb lb (goOnH h)∧w.grownBy w' (some hb):=by
 by_cases hl:h.left.length=0
 ·obtain ⟨a,cap,c2,_,_⟩:=m.slice
  have hg:goOnH h=endH h 1:=by unfold goOnH;rw [if_pos hl]
  rw [hg]
  rw [hl] at c2
  have HE:=Z0a (Z3I hb lb h 1 w m)
  have e1:((1:Nat):Int)=1:=rfl
  rw [e1] at HE
  clear m hg hl e1
  go_enter Tryz.func256,Tryz.ntmps256
  go_wp2_with fail
  refine HE.out.mono ?_
  rintro e w1 ⟨rfl,h1,h2⟩
  have HZ:=Z0a (And.intro h1 h2)
  clear h1 h2
  go_wp2
  go_end0
  exact ⟨rfl,HZ.out.1,HZ.out.2⟩
 ·have hl0:0<h.left.length:=by omega
  obtain ⟨off,cap,c2,hc1,hc2,k0,k1⟩:=m.first hl0
  have hp:=k.pages _ (Z2N hl0)
  have c3:=m.c3
  have HI:=Z0a (fun w'=>hisIn_any (Z0h h) h.burnt hp.1 k.burnt w')
  have hbl:=k.burnt
  obtain ⟨N,hN⟩:∃ N,(Z0h h).n.toNat=N:=⟨_,rfl⟩
  obtain ⟨U,hU⟩:∃ U,txt (Z0h h).bs=U:=⟨_,rfl⟩
  rw [hN] at HI k0
  rw [hU] at HI k1
  obtain ⟨L,hL⟩:∃ L,h.left.length=L:=⟨_,rfl⟩
  have HL:=Z0a hL
  rw [hL] at c2 hl hc1 hl0
  have hLi:(0:Int)<(L:Int):=by omega
  have hL0:((L:Int) == 0)=false:=by simp;omega
  have hlt:=m.lt
  have HM:=Z0a m
  have HK:=Z0a k
  have HH0:=Z0a hl0
  cases hb2:isInH (Z0h h) h.burnt
  ·have hg:goOnH h=askPageH h:=by unfold goOnH;rw [if_neg (by rw [hL];exact hl),if_neg (by rw [hb2];simp)]
   rw [hg]
   rw [hb2] at HI
   have HP:=Z0a (fun w' (m':HstM w' hb lb h)=>Z5d hb lb h w' m' k (by omega))
   clear m k hN hU hL hg hb2 hp
   go_enter Tryz.func256,Tryz.ntmps256
   go_wp2_with fail
   go_region_with (go_at_call 281;refine (HI.out _).mono ?_;rintro e wx ⟨rfl,hBx⟩)
   all_goals
    have hBx':Below w.heap.size w wx:=⟨hBx.os,hBx.tape,hBx.output,hBx.size,hBx.block⟩
    have HBX:=Z0a hBx'
    clear hBx hBx'
    go_wp2_with fail
    refine (HP.out _ (HM.out.below HBX.out)).mono ?_
    rintro e w2 ⟨rfl,h1,h2⟩
    have HZ:=Z0a (And.intro h1 ((Z0d HBX.out (some hb)).trans h2))
    clear h1 h2
    go_wp2
    go_end0
    exact ⟨rfl,HZ.out.1,HZ.out.2⟩
  ·have hg:goOnH h=askReadH h 4:=by unfold goOnH;rw [if_neg (by rw [hL];exact hl),if_pos hb2]
   rw [hg]
   rw [hb2] at HI
   have HP:=Z0a (fun w' (m':HstM w' hb lb h)=>Z45 hb lb h 4 w' m' k (by omega) (by omega))
   have hV:Z29 hb 4=.func (.func 283) #[.pointer (some ⟨hb,0,none⟩)] #[]:=rfl
   rw [hV] at HP
   clear m k hN hU hL hg hb2 hp hV
   go_enter Tryz.func256,Tryz.ntmps256
   go_wp2_with fail
   go_region_with (go_at_call 281;refine (HI.out _).mono ?_;rintro e wx ⟨rfl,hBx⟩)
   all_goals
    have hBx':Below w.heap.size w wx:=⟨hBx.os,hBx.tape,hBx.output,hBx.size,hBx.block⟩
    have HBX:=Z0a hBx'
    clear hBx hBx'
    go_wp2_with fail
    refine (HP.out _ (HM.out.below HBX.out)).mono ?_
    rintro e w2 ⟨rfl,h1,h2⟩
    have HZ:=Z0a (And.intro h1 ((Z0d HBX.out (some hb)).trans h2))
    clear h1 h2
    go_wp2
    go_end0
    exact ⟨rfl,HZ.out.1,HZ.out.2⟩
theorem Z2S (w:World)(y:Bool)(S:ByteArray):∃ W,w.alloc (.cells #[.bool y,.string S] 271)=W∧Below w.heap.size w W∧W.cell? ⟨w.heap.size,0,none⟩=some (.bool y)∧W.cell? ⟨w.heap.size,1,none⟩=some (.string S):=by
 refine ⟨_,rfl,(Below.refl _ _).alloc (Nat.le_refl _) _,?_,?_⟩
 all_goals
  rw [cell_of_row _ _ _ _ _ (0,0) (heap_alloc_new w _)]
  rfl
theorem Z8d (hb lb:Nat)(h:Hst)(y:Bool)(bs:List UInt8)(w:World)(m:HstM w hb lb h)(k:HB h)(ht:h.take=1) :
  Calls Tryz.prog 180 #[.pointer (some ⟨hb,0,none⟩),.agg #[.bool y,.string (txt bs)]] w fun e w'=>e=.returned (.tuple #[])∧HstM w' hb lb (takesH h y bs)∧w.grownBy w' (some hb):=by
 obtain ⟨W,hW,hB,k0,k1⟩:=Z2S w y (txt bs)
 have hm:=m.below hB
 have hg:takesH h y bs=if y=true then nextH h 4 [] 2 else endH h 2:=by unfold takesH;rw [if_pos ht]
 rw [hg]
 obtain ⟨S,hS⟩:∃ S,txt bs=S:=⟨_,rfl⟩
 rw [hS] at hW k1 ⊢
 have HB:=Z0a hB
 cases y
 ·have HE:=Z0a (Z3I hb lb h 2 W hm)
  have e1:((2:Nat):Int)=2:=rfl
  rw [e1] at HE
  clear m hm hB hg hS e1
  go_enter Tryz.func180,Tryz.ntmps180
  go_wp2_with fail
  refine HE.out.mono ?_
  rintro e w1 ⟨rfl,h1,h2⟩
  have HZ:=Z0a (And.intro h1 ((Z0d HB.out (some hb)).trans h2))
  clear h1 h2
  go_wp2
  (try simp only [Exit.inBlock,Exit.then])
  refine bodyPost_ret (results_none rfl _ _ _) rfl ?_
  exact ⟨rfl,HZ.out.1,HZ.out.2⟩
 ·have HE:=Z0a (Z6b hb lb h 4 [] 2 W hm k.ses k.long (by simp) (by omega))
  have hV:Z29 hb 2=.func (.func 221) #[.pointer (some ⟨hb,0,none⟩)] #[]:=rfl
  have e4:((4:UInt8).toNat:Int)=4:=rfl
  have e5:txt []=(⟨#[]⟩:ByteArray):=rfl
  rw [hV,e4,e5] at HE
  clear m hm hB hg hS hV e4 e5
  go_enter Tryz.func180,Tryz.ntmps180
  go_wp2_with fail
  refine HE.out.mono ?_
  rintro e w1 ⟨rfl,h1,h2⟩
  have HZ:=Z0a (And.intro h1 ((Z0d HB.out (some hb)).trans h2))
  clear h1 h2
  go_wp2
  go_end0
  exact ⟨rfl,HZ.out.1,HZ.out.2⟩
theorem Z77 (hb lb:Nat)(h:Hst)(y:Bool)(bs:List UInt8)(w:World)(m:HstM w hb lb h)(k:HB h)(ht:h.take=3)(hl:0<h.left.length) :
  Calls Tryz.prog 303 #[.pointer (some ⟨hb,0,none⟩),.agg #[.bool y,.string (txt bs)]] w fun e w'=>e=.returned (.tuple #[])∧HstM w' hb lb (takesH h y bs)∧w.grownBy w' (some hb):=by
 obtain ⟨W,hW,hB,k0,k1⟩:=Z2S w y (txt bs)
 have hm:=m.below hB
 have hg:takesH h y bs=if y=true then askReadH h 5 else endH h 2:=by unfold takesH;rw [if_neg (by omega),if_neg (by omega),if_pos ht]
 rw [hg]
 obtain ⟨S,hS⟩:∃ S,txt bs=S:=⟨_,rfl⟩
 rw [hS] at hW k1 ⊢
 have HB:=Z0a hB
 cases y
 ·have HE:=Z0a (Z3I hb lb h 2 W hm)
  have e1:((2:Nat):Int)=2:=rfl
  rw [e1] at HE
  clear m hm hB hg hS e1
  go_enter Tryz.func303,Tryz.ntmps303
  go_wp2_with fail
  refine HE.out.mono ?_
  rintro e w1 ⟨rfl,h1,h2⟩
  have HZ:=Z0a (And.intro h1 ((Z0d HB.out (some hb)).trans h2))
  clear h1 h2
  go_wp2
  (try simp only [Exit.inBlock,Exit.then])
  refine bodyPost_ret (results_none rfl _ _ _) rfl ?_
  exact ⟨rfl,HZ.out.1,HZ.out.2⟩
 ·have HE:=Z0a (Z45 hb lb h 5 W hm k hl (by omega))
  have hV:Z29 hb 5=.func (.func 318) #[.pointer (some ⟨hb,0,none⟩)] #[]:=rfl
  rw [hV] at HE
  clear m hm hB hg hS hV
  go_enter Tryz.func303,Tryz.ntmps303
  go_wp2_with fail
  refine HE.out.mono ?_
  rintro e w1 ⟨rfl,h1,h2⟩
  have HZ:=Z0a (And.intro h1 ((Z0d HB.out (some hb)).trans h2))
  clear h1 h2
  go_wp2
  go_end0
  exact ⟨rfl,HZ.out.1,HZ.out.2⟩
theorem LeftAt.tail {w:World}{lb off cap:Nat}{l:List Pg}(h:LeftAt w lb (.slice (some ⟨lb,off,none⟩) l.length cap) l)(a:Option Addr)(ha:1<l.length→a=some ⟨lb,off+2,none⟩)(hl:0<l.length):LeftAt w lb (.slice a (l.length-1) (cap-1)) (l.drop 1):=by
 obtain ⟨a0,cap0,he,h2,h3,h4⟩:=h.is
 cases he
 obtain ⟨off0,he,h5⟩:=h4 hl
 cases he
 refine ⟨a,cap-1,by rw [List.length_drop],by rw [List.length_drop];omega,by omega,fun hp=>?_⟩
 rw [List.length_drop] at hp
 refine ⟨off+2,ha (by omega),fun i hi=>?_⟩
 rw [List.length_drop] at hi
 obtain ⟨k1,k2⟩:=h5 (i+1) (by omega)
 rw [List.getElem_drop,show off+2+i*2=off+(i+1)*2 by omega]
 have e:(1+i)=i+1:=by omega
 simp only [e]
 exact ⟨k1,k2⟩
theorem Z5c (hb lb:Nat)(h:Hst)(w:World)(m:HstM w hb lb h)(k:HB h)(hl:0<h.left.length) :
  Calls Tryz.prog 302 #[.pointer (some ⟨hb,0,none⟩)] w fun e w'=>e=.returned (.tuple #[])∧HstM w' hb lb (endPageH h)∧w.grownBy w' (some hb):=by
 obtain ⟨off,cap,c2,hc1,hc2,k0,k1⟩:=m.first hl
 obtain ⟨v,v1,v2⟩:=m.c2
 have hv:v=.slice (some ⟨lb,off,none⟩) h.left.length cap:=Option.some.inj (v1.symm.trans c2)
 rw [hv] at v2
 have HK:Hid (HB ⟨h.state,h.ses,h.left.drop 1,h.burnt,h.ear,h.asked,h.take,h.said,h.tries,h.ticks⟩):=⟨k.ses,k.burnt,k.st,fun p hp=>k.pages p (List.mem_of_mem_drop hp),k.long,k.tries,k.ticks,by have:=k.few;show (h.left.drop 1).length≤16;rw [List.length_drop];omega⟩
 have f2:=m.fz 2
 have HT:=Z0a (fun a ha=>v2.tail a ha hl)
 have HS:=Z0a (fun (x:List Pg) (u:Value) (hu:LeftAt w lb u x)=>m.setLeft x u hu)
 have HG:=Z0a (fun w' (m':HstM w' hb lb ⟨h.state,h.ses,h.left.drop 1,h.burnt,h.ear,h.asked,h.take,h.said,h.tries,h.ticks⟩)=>hgoOn_any hb lb _ w' m' HK.out)
 obtain ⟨L,hL⟩:∃ L,h.left.length=L:=⟨_,rfl⟩
 rw [hL] at c2 hl hc1 HT
 have hLi:(1:Int)≤(L:Int):=by omega
 have hci:(L:Int)≤(cap:Int):=by omega
 have hcj:(cap:Int)≤9223372036854775807:=by omega
 clear m k hL v1 v2 hv k0 k1
 by_cases hcap:cap=1
 ·have hL1:L=1:=by omega
  subst hcap
  subst hL1
  have HM:=Z0a (HS.out _ _ (HT.out (some ⟨lb,off,none⟩) (fun e=>absurd e (by omega))))
  go_enter Tryz.func302,Tryz.ntmps302
  go_wp2_with fail
  refine (HG.out _ HM.out).mono ?_
  rintro e w1 ⟨rfl,h1,h2⟩
  have HZ:=Z0a (And.intro h1 ((setg w hb 2 _).trans h2))
  clear h1 h2
  go_wp2
  go_end0
  exact ⟨rfl,HZ.out.1,HZ.out.2⟩
 ·have HM:=Z0a (HS.out _ _ (HT.out (some ⟨lb,off+2,none⟩) (fun _=>rfl)))
  go_enter Tryz.func302,Tryz.ntmps302
  go_wp2_with fail
  refine (HG.out _ HM.out).mono ?_
  rintro e w1 ⟨rfl,h1,h2⟩
  have HZ:=Z0a (And.intro h1 ((setg w hb 2 _).trans h2))
  clear h1 h2
  go_wp2
  go_end0
  exact ⟨rfl,HZ.out.1,HZ.out.2⟩
theorem or_two (x z:UInt8):bits .or .u16 ((x.toNat:Int)*256) (z.toNat:Int)=((x.toNat*256+z.toNat:Nat):Int):=by
 have hx:=x.toNat_lt
 have hz:=z.toNat_lt
 have e:(x.toNat:Int)*256=((x.toNat*256:Nat):Int):=by omega
 rw [e]
 have h1:(BitVec.ofInt 16 ((x.toNat*256:Nat):Int)).toNat=x.toNat*256:=by
  rw [BitVec.ofInt_natCast,BitVec.toNat_ofNat];exact Nat.mod_eq_of_lt (by omega)
 have h2:(BitVec.ofInt 16 (z.toNat:Int)).toNat=z.toNat:=by
  rw [BitVec.ofInt_natCast,BitVec.toNat_ofNat];exact Nat.mod_eq_of_lt (by omega)
 show IntKind.u16.wrap ((BitVec.ofInt 16 ((x.toNat*256:Nat):Int) ||| BitVec.ofInt 16 (z.toNat:Int)).toNat:Int)=_
 rw [BitVec.toNat_or,h1,h2,IntKind.wrap_u16]
 have:=Nat.two_pow_add_eq_or_of_lt (i:=8) hz x.toNat
 rw [Nat.mul_comm x.toNat 256,show (256:Nat)=2 ^ 8 from rfl,← this]
 omega
theorem Z61 (hb lb:Nat)(h:Hst)(y:Bool)(bs:List UInt8)(w:World)(m:HstM w hb lb h)(k:HB h)(ht:h.take=4)(hl:0<h.left.length) :
  Calls Tryz.prog 283 #[.pointer (some ⟨hb,0,none⟩),.agg #[.bool y,.string (txt bs)]] w fun e w'=>e=.returned (.tuple #[])∧HstM w' hb lb (takesH h y bs)∧w.grownBy w' (some hb):=by
 obtain ⟨W,hW,hB,a0,a1⟩:=Z2S w y (txt bs)
 have hm:=m.below hB
 have hg:takesH h y bs=if y=true∧bs=(Z0h h).bs then endPageH h else askPageH h:=by unfold takesH;rw [if_neg (by omega),if_neg (by omega),if_neg (by omega),if_pos ht]
 rw [hg]
 obtain ⟨off,cap,c2,hc1,hc2,k0,k1⟩:=hm.first hl
 have HI:=Z0a (fun w'=>Z58 (Z0h h).n (Z0h h).bs y bs w')
 obtain ⟨S,hS⟩:∃ S,txt bs=S:=⟨_,rfl⟩
 rw [hS] at hW a1 HI ⊢
 obtain ⟨N,hN⟩:∃ N,(Z0h h).n.toNat=N:=⟨_,rfl⟩
 obtain ⟨U,hU⟩:∃ U,txt (Z0h h).bs=U:=⟨_,rfl⟩
 rw [hN] at HI k0
 rw [hU] at HI k1
 obtain ⟨L,hL⟩:∃ L,h.left.length=L:=⟨_,rfl⟩
 rw [hL] at c2 hc1
 have hLi:(0:Int)<(L:Int):=by omega
 have HM:=Z0a hm
 have HBW:=Z0a hB
 have HEP:=Z0a (fun w' (m':HstM w' hb lb h)=>Z5c hb lb h w' m' k hl)
 have HAP:=Z0a (fun w' (m':HstM w' hb lb h)=>Z5d hb lb h w' m' k hl)
 by_cases hc:y=true∧bs=(Z0h h).bs
 ·rw [if_pos hc]
  rw [decide_eq_true hc] at HI
  clear m hm hB hg hS hN hU hL hc
  go_enter Tryz.func283,Tryz.ntmps283
  go_wp2_with fail
  go_region_with (go_at_call 301;refine (HI.out _).mono ?_;rintro e wx ⟨rfl,hBx⟩)
  all_goals
   have hBx':Below W.heap.size W wx:=⟨hBx.os,hBx.tape,hBx.output,hBx.size,hBx.block⟩
   have HBX:=Z0a hBx'
   clear hBx hBx'
   go_wp2_with fail
   refine (HEP.out _ (HM.out.below HBX.out)).mono ?_
   rintro e w2 ⟨rfl,h1,h2⟩
   have HZ:=Z0a (And.intro h1 ((Z0d HBW.out (some hb)).trans ((Z0d HBX.out (some hb)).trans h2)))
   clear h1 h2
   go_wp2
   go_end0
   exact ⟨rfl,HZ.out.1,HZ.out.2⟩
 ·rw [if_neg hc]
  rw [decide_eq_false hc] at HI
  clear m hm hB hg hS hN hU hL hc
  go_enter Tryz.func283,Tryz.ntmps283
  go_wp2_with fail
  go_region_with (go_at_call 301;refine (HI.out _).mono ?_;rintro e wx ⟨rfl,hBx⟩)
  all_goals
   have hBx':Below W.heap.size W wx:=⟨hBx.os,hBx.tape,hBx.output,hBx.size,hBx.block⟩
   have HBX:=Z0a hBx'
   clear hBx hBx'
   go_wp2_with fail
   refine (HAP.out _ (HM.out.below HBX.out)).mono ?_
   rintro e w2 ⟨rfl,h1,h2⟩
   have HZ:=Z0a (And.intro h1 ((Z0d HBW.out (some hb)).trans ((Z0d HBX.out (some hb)).trans h2)))
   clear h1 h2
   go_wp2
   (try simp only [Exit.inBlock,Exit.then])
   refine bodyPost_ret (results_none rfl _ _ _) rfl ?_
   exact ⟨rfl,HZ.out.1,HZ.out.2⟩
theorem Z6T (hb lb:Nat)(h:Hst)(y:Bool)(bs:List UInt8)(w:World)(m:HstM w hb lb h)(k:HB h)(ht:h.take=5)(hl:0<h.left.length) :
  Calls Tryz.prog 318 #[.pointer (some ⟨hb,0,none⟩),.agg #[.bool y,.string (txt bs)]] w fun e w'=>e=.returned (.tuple #[])∧HstM w' hb lb (takesH h y bs)∧w.grownBy w' (some hb):=by
 obtain ⟨W,hW,hB,a0,a1⟩:=Z2S w y (txt bs)
 have hm:=m.below hB
 have hg:takesH h y bs=if y=true∧bs=(Z0h h).bs then endPageH h else endH h 2:=by unfold takesH;rw [if_neg (by omega),if_neg (by omega),if_neg (by omega),if_neg (by omega)]
 rw [hg]
 obtain ⟨off,cap,c2,hc1,hc2,k0,k1⟩:=hm.first hl
 have HI:=Z0a (fun w'=>Z58 (Z0h h).n (Z0h h).bs y bs w')
 obtain ⟨S,hS⟩:∃ S,txt bs=S:=⟨_,rfl⟩
 rw [hS] at hW a1 HI ⊢
 obtain ⟨N,hN⟩:∃ N,(Z0h h).n.toNat=N:=⟨_,rfl⟩
 obtain ⟨U,hU⟩:∃ U,txt (Z0h h).bs=U:=⟨_,rfl⟩
 rw [hN] at HI k0
 rw [hU] at HI k1
 obtain ⟨L,hL⟩:∃ L,h.left.length=L:=⟨_,rfl⟩
 rw [hL] at c2 hc1
 have hLi:(0:Int)<(L:Int):=by omega
 have HM:=Z0a hm
 have HBW:=Z0a hB
 have HEP:=Z0a (fun w' (m':HstM w' hb lb h)=>Z5c hb lb h w' m' k hl)
 have HEN:=Z0a (fun w' (m':HstM w' hb lb h)=>Z3I hb lb h 2 w' m')
 have e2:((2:Nat):Int)=2:=rfl
 rw [e2] at HEN
 by_cases hc:y=true∧bs=(Z0h h).bs
 ·rw [if_pos hc]
  rw [decide_eq_true hc] at HI
  clear m hm hB hg hS hN hU hL hc e2
  go_enter Tryz.func318,Tryz.ntmps318
  go_wp2_with fail
  go_region_with (go_at_call 301;refine (HI.out _).mono ?_;rintro e wx ⟨rfl,hBx⟩)
  all_goals
   have hBx':Below W.heap.size W wx:=⟨hBx.os,hBx.tape,hBx.output,hBx.size,hBx.block⟩
   have HBX:=Z0a hBx'
   clear hBx hBx'
   go_wp2_with fail
   refine (HEP.out _ (HM.out.below HBX.out)).mono ?_
   rintro e w2 ⟨rfl,h1,h2⟩
   have HZ:=Z0a (And.intro h1 ((Z0d HBW.out (some hb)).trans ((Z0d HBX.out (some hb)).trans h2)))
   clear h1 h2
   go_wp2
   go_end0
   exact ⟨rfl,HZ.out.1,HZ.out.2⟩
 ·rw [if_neg hc]
  rw [decide_eq_false hc] at HI
  clear m hm hB hg hS hN hU hL hc e2
  go_enter Tryz.func318,Tryz.ntmps318
  go_wp2_with fail
  go_region_with (go_at_call 301;refine (HI.out _).mono ?_;rintro e wx ⟨rfl,hBx⟩)
  all_goals
   have hBx':Below W.heap.size W wx:=⟨hBx.os,hBx.tape,hBx.output,hBx.size,hBx.block⟩
   have HBX:=Z0a hBx'
   clear hBx hBx'
   go_wp2_with fail
   refine (HEN.out _ (HM.out.below HBX.out)).mono ?_
   rintro e w2 ⟨rfl,h1,h2⟩
   have HZ:=Z0a (And.intro h1 ((Z0d HBW.out (some hb)).trans ((Z0d HBX.out (some hb)).trans h2)))
   clear h1 h2
   go_wp2
   (try simp only [Exit.inBlock,Exit.then])
   refine bodyPost_ret (results_none rfl _ _ _) rfl ?_
   exact ⟨rfl,HZ.out.1,HZ.out.2⟩
theorem Z63 (hb lb:Nat)(h:Hst)(y:Bool)(bs:List UInt8)(w:World)(m:HstM w hb lb h)(k:HB h)(ht:h.take=2)(hy:y=true→bs.length=2) :
  Calls Tryz.prog 221 #[.pointer (some ⟨hb,0,none⟩),.agg #[.bool y,.string (txt bs)]] w fun e w'=>e=.returned (.tuple #[])∧HstM w' hb lb (takesH h y bs)∧w.grownBy w' (some hb):=by
 obtain ⟨W,hW,hB,a0,a1⟩:=Z2S w y (txt bs)
 have hm:=m.below hB
 have hg:takesH h y bs=if y=true then goOnH (Z3G h ((bs.getD 0 0).toNat*256+(bs.getD 1 0).toNat)) else endH h 2:=by unfold takesH;rw [if_neg (by omega),if_pos ht]
 rw [hg]
 obtain ⟨S,hS⟩:∃ S,txt bs=S:=⟨_,rfl⟩
 have hsz:S.size=bs.length:=by rw [←hS,Z1e]
 have HBW:=Z0a hB
 cases y
 ·rw [hS] at hW a1 ⊢
  have HE:=Z0a (Z3I hb lb h 2 W hm)
  have e1:((2:Nat):Int)=2:=rfl
  rw [e1] at HE
  clear m hm hB hg hS e1 hsz hy
  go_enter Tryz.func221,Tryz.ntmps221
  go_wp2_with fail
  refine HE.out.mono ?_
  rintro e w1 ⟨rfl,h1,h2⟩
  have HZ:=Z0a (And.intro h1 ((Z0d HBW.out (some hb)).trans h2))
  clear h1 h2
  go_wp2
  (try simp only [Exit.inBlock,Exit.then])
  refine bodyPost_ret (results_none rfl _ _ _) rfl ?_
  exact ⟨rfl,HZ.out.1,HZ.out.2⟩
 ·have hl2:=hy rfl
  have h0S:0<S.size:=by omega
  have h1S:1<S.size:=by omega
  obtain ⟨x,hx0⟩:∃ x,bs.getD 0 0=x:=⟨_,rfl⟩
  obtain ⟨z,hx1⟩:∃ z,bs.getD 1 0=z:=⟨_,rfl⟩
  have hS0:S[0]=x:=(Z7y hS h0S).trans hx0
  have hS1:S[1]=z:=(Z7y hS h1S).trans hx1
  rw [hS] at hW a1 ⊢
  rw [hx0,hx1]
  have hxl:=x.toNat_lt
  have hzl:=z.toNat_lt
  have c3:=hm.c3
  have f3:=hm.fz 3
  have hor:=or_two x z
  have HM3:=Z0a (hm.setBurnt (x.toNat*256+z.toNat))
  have HG:=Z0a (fun w' (m':HstM w' hb lb (Z3G h (x.toNat*256+z.toNat)))=>hgoOn_any hb lb _ w' m' (show HB (Z3G h (x.toNat*256+z.toNat)) from ⟨k.ses,by show x.toNat*256+z.toNat<65536;omega,k.st,k.pages,k.long,k.tries,k.ticks,k.few⟩))
  have HSG:=Z0a (setg W hb 3 (.int .u16 ((x.toNat*256+z.toNat:Nat):Int)))
  obtain ⟨Q,hQ⟩:∃ Q:Int,((x.toNat*256+z.toNat:Nat):Int)=Q:=⟨_,rfl⟩
  rw [hQ] at hor HM3 HSG
  clear m hm hB hg hS hsz hy hx0 hx1 hQ
  go_enter Tryz.func221,Tryz.ntmps221
  go_wp2_with fail
  go_region
  all_goals
   go_wp2_with fail
   refine (HG.out (W.setCell ⟨hb,3,none⟩ (.int .u16 Q)).drew (HM3.out.kept rfl rfl (Nat.le_refl _))).mono ?_
   rintro e w1 ⟨rfl,h1,h2⟩
   have HZ:=Z0a (And.intro h1 ((Z0d HBW.out (some hb)).trans (HSG.out.trans (⟨h2.os,h2.tape,h2.output,h2.size,h2.block⟩))))
   clear h1 h2
   go_wp2
   go_end0
   exact ⟨rfl,HZ.out.1,HZ.out.2⟩
end Go.Proofs.YthokdbcpkmcieaaGreatDoor
