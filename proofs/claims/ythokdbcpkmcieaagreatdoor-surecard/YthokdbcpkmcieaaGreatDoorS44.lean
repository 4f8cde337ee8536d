/- SurT9 SurTl SurU SurH SurV -/
import Derived.Test.YthokdbcpkmcieaaGreatDoorS43
import Derived.Test.YthokdbcpkmcieaaGreatDoorS41
import Derived.Test.YthokdbcpkmcieaaGreatDoorS25
import Derived.Laws.Concat
import Derived.Deep.RegionWith
import Derived.Deep.RegionHeld3
import Derived.Test.YthokdbcpkmcieaaGreatDoorS26
set_option maxRecDepth 200000
set_option maxHeartbeats 8000000
namespace Go.Proofs.YthokdbcpkmcieaaGreatDoor
open Go Go.RowKit
theorem kact_said9 (hpk:PickIs)(w0 w:World)(pb bb hb lb:Nat)(i0 i1 i2:Value)(p:Ply)(m:PlyW w0 w pb bb hb lb i0 i1 i2 p)(K A B:Int)(hK:-9223372036854775808≤K∧K≤9223372036854775807)(hk:pkF K 14=9)(he:¬ (sayH p.h).2=[])(hl1:(sayH p.h).2.length≤200)(hl3:(Z0b (Z0b ({ p with h:=(sayH p.h).1,late:=(sayH p.h).2 }:Ply) (sayH p.h).2).1 (sayH p.h).2).2.length≤200) :
  Calls Tryz.prog 20 #[.pointer (some ⟨pb,0,none⟩),.agg #[.int .i64 K,.int .i64 A,.int .i64 B]] w fun e w'=>e=.returned (.tuple #[])∧PlyE w0 pb bb i0 i1 i2 (hostP (hostP (keepB (Z0b (Z0b ({ p with h:=(sayH p.h).1,late:=(sayH p.h).2 }:Ply) (sayH p.h).2).1 (sayH p.h).2).1 (Z0b (Z0b ({ p with h:=(sayH p.h).1,late:=(sayH p.h).2 }:Ply) (sayH p.h).2).1 (sayH p.h).2).2) (Z0b (Z0b ({ p with h:=(sayH p.h).1,late:=(sayH p.h).2 }:Ply) (sayH p.h).2).1 (sayH p.h).2).2) (Z0b (Z0b ({ p with h:=(sayH p.h).1,late:=(sayH p.h).2 }:Ply) (sayH p.h).2).1 (sayH p.h).2).2) w':=by
 have HP:=Z0a (fun w'=>hpk K 14 hK.1 hK.2 (by omega) (by omega) w')
 rw [hk] at HP
 obtain ⟨W1,hW1,k0,am⟩:=AM.begin m K A B
 obtain ⟨ab,hab⟩:∃ ab,w.heap.size=ab:=⟨_,rfl⟩
 rw [hab] at am k0
 have HS:=Z0a (Z1S hb lb p.h W1 am.p.m.h am.p.m.ok)
 have hok:HOk (sayH p.h).1:=am.p.m.ok.sayH
 obtain ⟨S,hS⟩:∃ S,(sayH p.h).2=S:=⟨_,rfl⟩
 rw [hS] at HS he hl1 hl3 ⊢
 obtain ⟨H,hH⟩:∃ H,(sayH p.h).1=H:=⟨_,rfl⟩
 rw [hH] at HS hok hl3 ⊢
 have hne:(txt S).toList.isEmpty=false:=Z0C (txt S) (by rw [Z0k];exact List.length_pos_iff.2 he)
 obtain ⟨FS,hFS⟩:∃ FS,txt S=FS:=⟨_,rfl⟩
 have HLT:=Z0a (fun w2 (m2:AM w0 w2 pb bb hb lb ab i0 i1 i2 ⟨p.b,H,p.late,p.lateB,p.n⟩ A B)=>m2.setLate S)
 obtain ⟨P2,hP2⟩:∃ P2:Ply,(⟨p.b,H,S,p.lateB,p.n⟩:Ply)=P2:=⟨_,rfl⟩
 have hP2':({ p with h:=H,late:=S }:Ply)=P2:=hP2
 rw [hP2'] at hl3 ⊢
 rw [show (⟨(⟨p.b,H,p.late,p.lateB,p.n⟩:Ply).b,(⟨p.b,H,p.late,p.lateB,p.n⟩:Ply).h,S,(⟨p.b,H,p.late,p.lateB,p.n⟩:Ply).lateB,(⟨p.b,H,p.late,p.lateB,p.n⟩:Ply).n⟩:Ply)=P2 from hP2] at HLT
 have HBd:=Z0a (fun w' (h:PlyM w' pb bb hb lb i0 i1 i2 P2)=>Z1F S (by omega) pb bb hb lb i0 i1 i2 P2 w' h)
 obtain ⟨R0,hR0⟩:∃ R,Z0b P2 S=R:=⟨_,rfl⟩
 rw [hR0] at HBd hl3 ⊢
 have HBd2:=Z0a (fun w' (h:PlyM w' pb bb hb lb i0 i1 i2 R0.1)=>Z1F S (by omega) pb bb hb lb i0 i1 i2 R0.1 w' h)
 obtain ⟨R,hR⟩:∃ R,Z0b R0.1 S=R:=⟨_,rfl⟩
 rw [hR] at HBd2 hl3 ⊢
 have HLB:=Z0a (fun w2 (m2:AM w0 w2 pb bb hb lb ab i0 i1 i2 R.1 A B)=>m2.setLateB R.2)
 obtain ⟨Y,hY⟩:∃ Y,keepB R.1 R.2=Y:=⟨_,rfl⟩
 rw [hY]
 have HH:=Z0a (fun w' (h:PlyM w' pb bb hb lb i0 i1 i2 Y)=>Z2l R.2 (by omega) pb bb hb lb i0 i1 i2 Y w' h)
 obtain ⟨Z,hZ⟩:∃ Z,hostP Y R.2=Z:=⟨_,rfl⟩
 rw [hZ] at HH ⊢
 have HH2:=Z0a (fun w' (h:PlyM w' pb bb hb lb i0 i1 i2 Z)=>Z2l R.2 (by omega) pb bb hb lb i0 i1 i2 Z w' h)
 rw [hFS] at HS HLT hne HBd HBd2
 have e1:=am.p.m.c1
 have HA:=Z0a am
 by_cases hr:R.2=[]
 ·have HYE:Hid (R.1=Y):=by rw [←hY];exact (if_pos hr).symm
  have hTT:txt R.2=⟨#[]⟩:=by rw [hr];rfl
  rw [hTT] at HBd2 HH HH2
  clear hTT hr hY m am hk he hS hH hFS hl1 hR0 hl3 hR hP2 hP2' hZ
  go_enter Tryz.func20,Tryz.ntmps20
  go_wp2_with (first | (go_at_call 12;refine (HP.out _).mono ?_;rintro e w1 ⟨rfl,rfl⟩) | (go_at_call 40;refine HS.out.mono ?_;rintro e w2 ⟨rfl,hh,hg⟩;have am2:=HA.out.hostG hg hh hok;have e2:=am2.p.m.c5;have f2:=am2.p.m.fz 5;obtain ⟨W3,hW3⟩:∃ W,w2.setCell ⟨pb,5,none⟩ (.string FS)=W:=⟨_,rfl⟩;have am3:=HLT.out w2 am2;rw [hW3] at am3;have g1:=am3.a1;have g2:=am3.a2;have HA3:=Z0a am3;clear hh hg am2 am3) | (go_at_call 42;refine (HBd.out _ HA3.out.p.m).mono ?_;rintro e w6 ⟨rfl,hh,hg⟩;have HA6:=Z0a (HA3.out.board hh hg);clear hh hg HBd) | (go_at_call 42;refine (HBd2.out _ HA6.out.p.m).mono ?_;rintro e w4 ⟨rfl,hh,hg⟩;have am4:=HA6.out.board hh hg;have am5:=am4;rw [HYE.out] at am5;have y1:=am5.a1;have y2:=am5.a2;have HA5:=Z0a am5;clear am5;clear hh hg am4) | (go_at_call 41;refine (HH.out _ HA5.out.p.m).mono ?_;rintro e w9 ⟨rfl,hh,hg⟩;have HA9:=Z0a (HA5.out.host hh hg);clear hh hg HH) | (go_at_call 41;refine (HH2.out _ HA9.out.p.m).mono ?_;rintro e w10 ⟨rfl,hh,hg⟩;have HAz:=Z0a (HA9.out.host hh hg);clear hh hg))
  go_end0
  exact ⟨rfl,_,_,HAz.out.p⟩
 ·have HYE:Hid ((⟨R.1.b,R.1.h,R.1.late,R.2,R.1.n⟩:Ply)=Y):=by rw [←hY];exact (if_neg hr).symm
  have hTne:(txt R.2).toList.isEmpty=false:=Z0C (txt R.2) (by rw [Z0k];exact List.length_pos_iff.2 hr)
  obtain ⟨TT,hTT⟩:∃ TT,txt R.2=TT:=⟨_,rfl⟩
  rw [hTT] at hTne HLB
  rw [hTT] at HBd2 HH HH2
  clear hTT hr hY m am hk he hS hH hFS hl1 hR0 hl3 hR hP2 hP2' hZ
  go_enter Tryz.func20,Tryz.ntmps20
  go_wp2_with (first | (go_at_call 12;refine (HP.out _).mono ?_;rintro e w1 ⟨rfl,rfl⟩) | (go_at_call 40;refine HS.out.mono ?_;rintro e w2 ⟨rfl,hh,hg⟩;have am2:=HA.out.hostG hg hh hok;have e2:=am2.p.m.c5;have f2:=am2.p.m.fz 5;obtain ⟨W3,hW3⟩:∃ W,w2.setCell ⟨pb,5,none⟩ (.string FS)=W:=⟨_,rfl⟩;have am3:=HLT.out w2 am2;rw [hW3] at am3;have g1:=am3.a1;have g2:=am3.a2;have HA3:=Z0a am3;clear hh hg am2 am3) | (go_at_call 42;refine (HBd.out _ HA3.out.p.m).mono ?_;rintro e w6 ⟨rfl,hh,hg⟩;have HA6:=Z0a (HA3.out.board hh hg);clear hh hg HBd) | (go_at_call 42;refine (HBd2.out _ HA6.out.p.m).mono ?_;rintro e w4 ⟨rfl,hh,hg⟩;have am4:=HA6.out.board hh hg;have y5:=am4.p.m.c6;have y6:=am4.p.m.fz 6;obtain ⟨W5,hW5⟩:∃ W,w4.setCell ⟨pb,6,none⟩ (.string TT)=W:=⟨_,rfl⟩;have am5:=HLB.out w4 am4;rw [HYE.out,hW5] at am5;have y1:=am5.a1;have y2:=am5.a2;have HA5:=Z0a am5;clear am5;clear hh hg am4) | (go_at_call 41;refine (HH.out _ HA5.out.p.m).mono ?_;rintro e w9 ⟨rfl,hh,hg⟩;have HA9:=Z0a (HA5.out.host hh hg);clear hh hg HH) | (go_at_call 41;refine (HH2.out _ HA9.out.p.m).mono ?_;rintro e w10 ⟨rfl,hh,hg⟩;have HAz:=Z0a (HA9.out.host hh hg);clear hh hg))
  go_end0
  exact ⟨rfl,_,_,HAz.out.p⟩
theorem kact_saidl (hpk:PickIs)(w0 w:World)(pb bb hb lb:Nat)(i0 i1 i2:Value)(p:Ply)(m:PlyW w0 w pb bb hb lb i0 i1 i2 p)(K A B:Int)(hK:-9223372036854775808≤K∧K≤9223372036854775807)(k:Nat)(hk:pkF K 14=k)(hk6:k<6)(he:¬ (sayH p.h).2=[])(hl1:(sayH p.h).2.length≤200)(hl2:(Z0b ({ p with h:=(sayH p.h).1,late:=(sayH p.h).2 }:Ply) (sayH p.h).2).2.length≤200) :
  Calls Tryz.prog 20 #[.pointer (some ⟨pb,0,none⟩),.agg #[.int .i64 K,.int .i64 A,.int .i64 B]] w fun e w'=>e=.returned (.tuple #[])∧PlyE w0 pb bb i0 i1 i2 (hostP (keepB (Z0b ({ p with h:=(sayH p.h).1,late:=(sayH p.h).2 }:Ply) (sayH p.h).2).1 (Z0b ({ p with h:=(sayH p.h).1,late:=(sayH p.h).2 }:Ply) (sayH p.h).2).2) (Z0b ({ p with h:=(sayH p.h).1,late:=(sayH p.h).2 }:Ply) (sayH p.h).2).2) w':=by
 have HP:=Z0a (fun w'=>hpk K 14 hK.1 hK.2 (by omega) (by omega) w')
 rw [hk] at HP
 obtain ⟨W1,hW1,k0,am⟩:=AM.begin m K A B
 obtain ⟨ab,hab⟩:∃ ab,w.heap.size=ab:=⟨_,rfl⟩
 rw [hab] at am k0
 have HS:=Z0a (Z1S hb lb p.h W1 am.p.m.h am.p.m.ok)
 have hok:HOk (sayH p.h).1:=am.p.m.ok.sayH
 obtain ⟨S,hS⟩:∃ S,(sayH p.h).2=S:=⟨_,rfl⟩
 rw [hS] at HS he hl1 hl2 ⊢
 obtain ⟨H,hH⟩:∃ H,(sayH p.h).1=H:=⟨_,rfl⟩
 rw [hH] at HS hok hl2 ⊢
 have hne:(txt S).toList.isEmpty=false:=Z0C (txt S) (by rw [Z0k];exact List.length_pos_iff.2 he)
 obtain ⟨FS,hFS⟩:∃ FS,txt S=FS:=⟨_,rfl⟩
 have HLT:=Z0a (fun w2 (m2:AM w0 w2 pb bb hb lb ab i0 i1 i2 ⟨p.b,H,p.late,p.lateB,p.n⟩ A B)=>m2.setLate S)
 obtain ⟨P2,hP2⟩:∃ P2:Ply,(⟨p.b,H,S,p.lateB,p.n⟩:Ply)=P2:=⟨_,rfl⟩
 have hP2':({ p with h:=H,late:=S }:Ply)=P2:=hP2
 rw [hP2'] at hl2 ⊢
 rw [show (⟨(⟨p.b,H,p.late,p.lateB,p.n⟩:Ply).b,(⟨p.b,H,p.late,p.lateB,p.n⟩:Ply).h,S,(⟨p.b,H,p.late,p.lateB,p.n⟩:Ply).lateB,(⟨p.b,H,p.late,p.lateB,p.n⟩:Ply).n⟩:Ply)=P2 from hP2] at HLT
 have HBd:=Z0a (fun w' (h:PlyM w' pb bb hb lb i0 i1 i2 P2)=>Z1F S (by omega) pb bb hb lb i0 i1 i2 P2 w' h)
 obtain ⟨R,hR⟩:∃ R,Z0b P2 S=R:=⟨_,rfl⟩
 rw [hR] at HBd hl2 ⊢
 have n6:((k:Int) == 6)=false:=by simp;omega
 have n7:((k:Int) == 7)=false:=by simp;omega
 have n8:((k:Int) == 8)=false:=by simp;omega
 have n9:((k:Int) == 9)=false:=by simp;omega
 have n10:((k:Int) == 10)=false:=by simp;omega
 have n11:((k:Int) == 11)=false:=by simp;omega
 have n12:((k:Int) == 12)=false:=by simp;omega
 have n13:((k:Int) == 13)=false:=by simp;omega
 have HLB:=Z0a (fun w2 (m2:AM w0 w2 pb bb hb lb ab i0 i1 i2 R.1 A B)=>m2.setLateB R.2)
 obtain ⟨Y,hY⟩:∃ Y,keepB R.1 R.2=Y:=⟨_,rfl⟩
 rw [hY]
 have HH:=Z0a (fun w' (h:PlyM w' pb bb hb lb i0 i1 i2 Y)=>Z2l R.2 (by omega) pb bb hb lb i0 i1 i2 Y w' h)
 obtain ⟨Z,hZ⟩:∃ Z,hostP Y R.2=Z:=⟨_,rfl⟩
 rw [hZ] at HH ⊢
 rw [hFS] at HS HLT hne HBd
 have e1:=am.p.m.c1
 have HA:=Z0a am
 by_cases hr:R.2=[]
 ·have HYE:Hid (R.1=Y):=by rw [←hY];exact (if_pos hr).symm
  have hTT:txt R.2=⟨#[]⟩:=by rw [hr];rfl
  rw [hTT] at HBd HH
  clear hTT hr hY m am hk he hS hH hFS hl1 hk6 hl2 hR hP2 hP2' hZ
  go_enter Tryz.func20,Tryz.ntmps20
  go_wp2_with (first | (go_at_call 12;refine (HP.out _).mono ?_;rintro e w1 ⟨rfl,rfl⟩) | (go_at_call 40;refine HS.out.mono ?_;rintro e w2 ⟨rfl,hh,hg⟩;have am2:=HA.out.hostG hg hh hok;have e2:=am2.p.m.c5;have f2:=am2.p.m.fz 5;obtain ⟨W3,hW3⟩:∃ W,w2.setCell ⟨pb,5,none⟩ (.string FS)=W:=⟨_,rfl⟩;have am3:=HLT.out w2 am2;rw [hW3] at am3;have g1:=am3.a1;have g2:=am3.a2;have HA3:=Z0a am3;clear hh hg am2 am3) | (go_at_call 42;refine (HBd.out _ HA3.out.p.m).mono ?_;rintro e w4 ⟨rfl,hh,hg⟩;have am4:=HA3.out.board hh hg;have am5:=am4;rw [HYE.out] at am5;have y1:=am5.a1;have y2:=am5.a2;have HA5:=Z0a am5;clear am5;clear hh hg am4) | (go_at_call 41;refine (HH.out _ HA5.out.p.m).mono ?_;rintro e w9 ⟨rfl,hh,hg⟩;have HA9:=Z0a (HA5.out.host hh hg);clear hh hg HH))
  go_end0
  exact ⟨rfl,_,_,HA9.out.p⟩
 ·have HYE:Hid ((⟨R.1.b,R.1.h,R.1.late,R.2,R.1.n⟩:Ply)=Y):=by rw [←hY];exact (if_neg hr).symm
  have hTne:(txt R.2).toList.isEmpty=false:=Z0C (txt R.2) (by rw [Z0k];exact List.length_pos_iff.2 hr)
  obtain ⟨TT,hTT⟩:∃ TT,txt R.2=TT:=⟨_,rfl⟩
  rw [hTT] at hTne HLB
  rw [hTT] at HBd HH
  clear hTT hr hY m am hk he hS hH hFS hl1 hk6 hl2 hR hP2 hP2' hZ
  go_enter Tryz.func20,Tryz.ntmps20
  go_wp2_with (first | (go_at_call 12;refine (HP.out _).mono ?_;rintro e w1 ⟨rfl,rfl⟩) | (go_at_call 40;refine HS.out.mono ?_;rintro e w2 ⟨rfl,hh,hg⟩;have am2:=HA.out.hostG hg hh hok;have e2:=am2.p.m.c5;have f2:=am2.p.m.fz 5;obtain ⟨W3,hW3⟩:∃ W,w2.setCell ⟨pb,5,none⟩ (.string FS)=W:=⟨_,rfl⟩;have am3:=HLT.out w2 am2;rw [hW3] at am3;have g1:=am3.a1;have g2:=am3.a2;have HA3:=Z0a am3;clear hh hg am2 am3) | (go_at_call 42;refine (HBd.out _ HA3.out.p.m).mono ?_;rintro e w4 ⟨rfl,hh,hg⟩;have am4:=HA3.out.board hh hg;have y5:=am4.p.m.c6;have y6:=am4.p.m.fz 6;obtain ⟨W5,hW5⟩:∃ W,w4.setCell ⟨pb,6,none⟩ (.string TT)=W:=⟨_,rfl⟩;have am5:=HLB.out w4 am4;rw [HYE.out,hW5] at am5;have y1:=am5.a1;have y2:=am5.a2;have HA5:=Z0a am5;clear am5;clear hh hg am4) | (go_at_call 41;refine (HH.out _ HA5.out.p.m).mono ?_;rintro e w9 ⟨rfl,hh,hg⟩;have HA9:=Z0a (HA5.out.host hh hg);clear hh hg HH))
  go_end0
  exact ⟨rfl,_,_,HA9.out.p⟩
theorem kact_any (hpk:PickIs)(hsp:SpoiltIs)(a0 a1 a2:Option Addr)(c0 c1 c2:Nat)(i:Img)(w0 w:World)(pb bb hb lb:Nat)(p:Ply)(hn:p.n≤60000)(hI:HImgAt w0 (.slice a0 1024 c0) (.slice a1 1024 c1) (.slice a2 1024 c2) i)(hw:Z13 i=true)(hi:Inv (Z1W i) p)(m:PlyW w0 w pb bb hb lb (.slice a0 1024 c0) (.slice a1 1024 c1) (.slice a2 1024 c2) p)(K A B:Int)(hK:-9223372036854775808≤K∧K≤9223372036854775807)(hA:-9223372036854775808≤A∧A≤9223372036854775807)(hB:-9223372036854775808≤B∧B≤9223372036854775807) :
  Calls Tryz.prog 20 #[.pointer (some ⟨pb,0,none⟩),.agg #[.int .i64 K,.int .i64 A,.int .i64 B]] w fun e w'=>e=.returned (.tuple #[])∧PlyE w0 pb bb (.slice a0 1024 c0) (.slice a1 1024 c1) (.slice a2 1024 c2) (actF (Z1W i) p (pkF K 14) A B) w':=by
 obtain ⟨k,hk⟩:∃ k,pkF K 14=k:=⟨_,rfl⟩
 have hlt:k<14:=by rw [←hk];exact Nat.mod_lt _ (by omega)
 rw [hk]
 by_cases c10:k=10
 ·subst c10
  have e:actF (Z1W i) p 10 A B = { p with h:=tickH p.h }:=rfl
  rw [e]
  exact kact_10 hpk w0 w pb bb hb lb _ _ _ p m K A B hK hk
 by_cases c11:k=11
 ·subst c11
  have e:actF (Z1W i) p 11 A B = { p with b:=cutF p.b (pkF A 400:Int) (UInt8.ofNat (B%256).toNat) }:=rfl
  rw [e]
  exact kact_11 hpk w0 w pb bb hb lb _ _ _ p m K A B hK hA hk
 by_cases c12:k=12
 ·subst c12
  have e:actF (Z1W i) p 12 A B = { p with b:=bootF p.b }:=rfl
  rw [e]
  exact kact_12 hpk w0 w pb bb hb lb _ _ _ p m K A B hK hk
 by_cases c13:k=13
 ·subst c13
  have e:actF (Z1W i) p 13 A B=if A.tmod 3=0 then { p with h:=hst0 i (p.n+1),n:=p.n+1 } else p:=rfl
  rw [e]
  exact kact_13 hpk a0 a1 a2 c0 c1 c2 i w0 w pb bb hb lb p hn hI hw m K A B hK hk
 by_cases he:(sayH p.h).2=[]
 ·by_cases c9:k=9
  ·subst c9
   have e:actF (Z1W i) p 9 A B=hostP (hostP (Z0b p p.late).1 (Z0b p p.late).2) p.lateB:=by
    unfold actF
    rw [if_neg (by omega),if_neg (by omega),if_neg (by omega),if_neg (by omega),if_pos he,if_pos rfl]
   rw [e]
   obtain ⟨l1,l2⟩:=late_len hi
   exact kact_quiet9 hpk w0 w pb bb hb lb _ _ _ p m K A B hK hk he l1 l2 (Z7L (Z5P hi (say_empty he)).2)
  ·have e:actF (Z1W i) p k A B = { p with h:=tickH p.h }:=by
    unfold actF
    rw [if_neg c10,if_neg c11,if_neg c12,if_neg c13,if_pos he,if_neg c9]
   rw [e]
   exact kact_quiet hpk w0 w pb bb hb lb _ _ _ p m K A B hK k hk (by omega) he
 ·obtain ⟨o1,o2⟩:=said_out hi he
  by_cases c6:k=6
  ·subst c6
   have e:actF (Z1W i) p 6 A B = { p with h:=(sayH p.h).1,late:=(sayH p.h).2 }:=by
    unfold actF
    simp [he]
   rw [e]
   exact kact_said6 hpk w0 w pb bb hb lb _ _ _ p m K A B hK hk he
  by_cases c7:k=7
  ·subst c7
   have e:actF (Z1W i) p 7 A B=keepB (Z0b { p with h:=(sayH p.h).1,late:=(sayH p.h).2 } (sayH p.h).2).1 (Z0b { p with h:=(sayH p.h).1,late:=(sayH p.h).2 } (sayH p.h).2).2:=by
    unfold actF
    simp [he]
   rw [e]
   exact kact_said7 hpk w0 w pb bb hb lb _ _ _ p m K A B hK hk he o1
  by_cases c8:k=8
  ·subst c8
   by_cases hpar:A.tmod 2=0
   ·have e:actF (Z1W i) p 8 A B=hostP (keepB (Z0b { p with h:=(sayH p.h).1,late:=(sayH p.h).2 } (Z0X (sayH p.h).2 (A.tdiv 2) B)).1 (Z0b { p with h:=(sayH p.h).1,late:=(sayH p.h).2 } (Z0X (sayH p.h).2 (A.tdiv 2) B)).2) (Z0b { p with h:=(sayH p.h).1,late:=(sayH p.h).2 } (Z0X (sayH p.h).2 (A.tdiv 2) B)).2:=by
     unfold actF
     simp [he,hpar]
    rw [e]
    exact kact_said8e hpk w0 w pb bb hb lb _ _ _ p m K A B hK hsp hA hB hpar hk he o1 (o2 _ (.inl (Z3p _ _ _))).1
   ·have e:actF (Z1W i) p 8 A B=hostP (keepB (Z0b { p with h:=(sayH p.h).1,late:=(sayH p.h).2 } (sayH p.h).2).1 (Z0b { p with h:=(sayH p.h).1,late:=(sayH p.h).2 } (sayH p.h).2).2) (Z0X (Z0b { p with h:=(sayH p.h).1,late:=(sayH p.h).2 } (sayH p.h).2).2 (A.tdiv 2) B):=by
     unfold actF
     simp [he,hpar]
    rw [e]
    exact kact_said8o hpk w0 w pb bb hb lb _ _ _ p m K A B hK hsp hA hB hpar hk he o1 (o2 _ (.inr rfl)).1
  by_cases c9:k=9
  ·subst c9
   have e:actF (Z1W i) p 9 A B=hostP (hostP (keepB (Z0b (Z0b { p with h:=(sayH p.h).1,late:=(sayH p.h).2 } (sayH p.h).2).1 (sayH p.h).2).1 (Z0b (Z0b { p with h:=(sayH p.h).1,late:=(sayH p.h).2 } (sayH p.h).2).1 (sayH p.h).2).2) (Z0b (Z0b { p with h:=(sayH p.h).1,late:=(sayH p.h).2 } (sayH p.h).2).1 (sayH p.h).2).2) (Z0b (Z0b { p with h:=(sayH p.h).1,late:=(sayH p.h).2 } (sayH p.h).2).1 (sayH p.h).2).2:=by
    unfold actF
    simp [he]
   rw [e]
   exact kact_said9 hpk w0 w pb bb hb lb _ _ _ p m K A B hK hk he o1 (o2 _ (.inr rfl)).2
  ·have e:actF (Z1W i) p k A B=hostP (keepB (Z0b { p with h:=(sayH p.h).1,late:=(sayH p.h).2 } (sayH p.h).2).1 (Z0b { p with h:=(sayH p.h).1,late:=(sayH p.h).2 } (sayH p.h).2).2) (Z0b { p with h:=(sayH p.h).1,late:=(sayH p.h).2 } (sayH p.h).2).2:=by
    unfold actF
    simp [he,c6,c7,c8,c9,c10,c11,c12,c13]
   rw [e]
   exact kact_saidl hpk w0 w pb bb hb lb _ _ _ p m K A B hK k hk (by omega) he o1 (o2 _ (.inr rfl)).1
theorem turn_list (l:List UInt8)(q:Nat)(hq:q<l.length)(y:UInt8):l.take q++([l.getD q 0 ^^^ y]++l.drop (q+1))=Z7R l q y:=by
 unfold Z7R
 rw [List.set_eq_take_append_cons_drop,if_pos hq]
 rfl
theorem kspoilt_any (l:List UInt8)(k c:Int)(w:World)(hk:-9223372036854775808≤k∧k≤9223372036854775807)(hc:-9223372036854775808≤c∧c≤9223372036854775807)(hs:l.length≤2000000) :
  Calls Tryz.prog 43 #[.string (txt l),.int .i64 k,.int .i64 c] w fun e w'=>e=.returned (.string (txt (Z0X l k c)))∧Below w.heap.size w w':=by
 by_cases h0:l=[]
 ·subst h0
  have e:Z0X [] k c=[]:=rfl
  have e0:txt []=⟨#[]⟩:=rfl
  rw [e,e0]
  go_enter Tryz.func43,Tryz.ntmps43
  go_wp2
  go_ret
  exact ⟨rfl,Below.refl _ _⟩
 ·have hl0:0<l.length:=List.length_pos_iff.2 h0
  obtain ⟨q,hqd⟩:∃ q,pkF k l.length=q:=⟨_,rfl⟩
  obtain ⟨P,hP⟩:∃ P,pkF c 255=P:=⟨_,rfl⟩
  have hq:q<l.length:=by rw [←hqd];exact Z5C k l.length (by omega)
  have hP5:P<255:=by rw [←hP];exact Z5C c 255 (by omega)
  obtain ⟨y,hy⟩:∃ y,UInt8.ofNat (1+P)=y:=⟨_,rfl⟩
  have hyn:(y.toNat:Int)=1+(P:Int):=by
   rw [←hy,UInt8.toNat_ofNat']
   omega
  have hsp:Z0X l k c=if msS (Z7R l q y)=[] then Z7R l q y else []:=by
   unfold Z0X
   rw [if_neg h0,hqd,hP,hy]
  rw [hsp]
  obtain ⟨t,ht⟩:∃ t,Z7R l q y=t:=⟨_,rfl⟩
  have htl:t.length=l.length:=by rw [←ht];unfold Z7R;simp
  have hszl:(txt l).size=l.length:=Z0k l
  have HPK:Hid (∀ w':World,Calls Tryz.prog 12 #[.int .i64 k,.int .i64 ((txt l).size:Int)] w' fun e w2=>e=.returned (.int .i64 (q:Int))∧w2=w'):=fun w'=>by
   have:=Z4C k l.length hk.1 hk.2 (by omega) (by omega) w'
   rw [hszl]
   have e:kpF k l.length=q:=hqd
   rw [e] at this
   exact this
  have HPC:Hid (∀ w':World,Calls Tryz.prog 12 #[.int .i64 c,.int .i64 255] w' fun e w2=>e=.returned (.int .i64 (P:Int))∧w2=w'):=fun w'=>by
   have:=Z4C c 255 hc.1 hc.2 (by omega) (by omega) w'
   have e:kpF c 255=P:=hP
   rw [e] at this
   exact this
  have HSI:Hid (∀ w':World,Calls Tryz.prog 78 #[.string (txt t)] w' fun e w2=>∃ s,e=.returned (.tuple #[.string s,.bool (decide (msS t≠[]))])∧Below w'.heap.size w' w2):=fun w'=>single_any t (by omega) w'
  obtain ⟨S,hS⟩:∃ S,txt l=S:=⟨_,rfl⟩
  have hSs:S.size=l.length:=by rw [←hS];exact hszl
  have hemp:S.toList.isEmpty=false:=Z0C S (by omega)
  obtain ⟨Q,hQ⟩:∃ Q,q+1=Q:=⟨_,rfl⟩
  obtain ⟨A,hA⟩:∃ A,S.extract 0 q=A:=⟨_,rfl⟩
  obtain ⟨B,hB⟩:∃ B,S.extract Q S.size=B:=⟨_,rfl⟩
  have hqs:q<S.size:=by omega
  obtain ⟨x,hx⟩:∃ x:UInt8,S[q]=x:=⟨_,rfl⟩
  have hxl:x=l.getD q 0:=by rw [←hx];exact Z7y hS hqs
  obtain ⟨z,hz⟩:∃ z,x ^^^ y=z:=⟨_,rfl⟩
  have hxor:bits .xor .u8 (x.toNat:Int) (1+(P:Int))=(z.toNat:Int):=by
   rw [←hyn,← hz,UInt8.toNat_xor]
   exact xor_u8 _ _ x.toNat_lt y.toNat_lt
  have hT:(A++txt [z])++B=txt t:=by
   rw [←hA,Z8p hS,← hB,Z7V hS,Z3M,Z3M,← ht,← turn_list l q hq y,← hz,hxl,← hQ,List.append_assoc]
  have hAs:A.size=q:=by rw [←hA,ByteArray.size_extract];omega
  have hBs:B.size=S.size-Q:=by rw [←hB,ByteArray.size_extract];omega
  obtain ⟨Z,hZ⟩:∃ Z,txt [z]=Z:=⟨_,rfl⟩
  have hZs:Z.size=1:=by rw [←hZ];rfl
  have hqi:(q:Int)<(S.size:Int):=by omega
  have hsz:(S.size:Int)≤2000000:=by omega
  have hQi:(q:Int)+1=(Q:Int):=by omega
  have hQn:(Q:Int)≤(S.size:Int):=by omega
  have hwQ:IntKind.i64.wrap (Q:Int)=(Q:Int):=by rw [IntKind.wrap_i64];omega
  have hP1:IntKind.u8.wrap (1+(P:Int))=1+(P:Int):=by rw [IntKind.wrap_u8];omega
  have hP2:(P:Int)<255:=by omega
  obtain ⟨W2,hW2⟩:∃ W2,w.alloc (.cells #[.int .u8 (z.toNat:Int)] 5)=W2:=⟨_,rfl⟩
  have hcv:(convert 32 9 (.slice (some ⟨w.heap.size,0,none⟩) 1 1)).run Tryz.prog W2.drew=.ok (.string Z) W2.drew:=by
   have:=Z3d (l:=[z]) (n:=1) rfl (own_new w w.heap.size (Nat.le_refl _) [z] (by simp) (by simp)).drew
   have hv:(Z0c [z]).toArray=#[.int .u8 (z.toNat:Int)]:=by simp [Z0c]
   rw [hv,hW2,hZ] at this
   exact this
  have hB2:Below w.heap.size w W2:=by rw [←hW2];exact (Below.refl _ _).alloc (Nat.le_refl _) _
  have HB2:=Z0a hB2
  rw [hZ] at hT
  obtain ⟨AZ,hAZ⟩:∃ AZ,A++Z=AZ:=⟨_,rfl⟩
  obtain ⟨TT,hTT⟩:∃ TT,AZ++B=TT:=⟨_,rfl⟩
  have hAZs:AZ.size≤2000001:=by rw [←hAZ,ByteArray.size_append];omega
  have q1:∀ w':World,(Op.stringOp .add A Z).run Tryz.prog w'=.ok (.string AZ) w':=fun w'=>by
   have e:=run_string_add_sum (P:=Tryz.prog) (w:=w') A Z (by omega)
   rw [hAZ] at e
   exact e
  have q2:∀ w':World,(Op.stringOp .add AZ B).run Tryz.prog w'=.ok (.string TT) w':=fun w'=>by
   have e:=run_string_add_sum (P:=Tryz.prog) (w:=w') AZ B (by omega)
   rw [hTT] at e
   exact e
  rw [hAZ,hTT] at hT
  have HT:=Z0a hT
  rw [hS] at HPK ⊢
  obtain ⟨R,hR⟩:∃ R,(if msS t=[] then t else [])=R:=⟨_,rfl⟩
  rw [ht,hR]
  have HR:=Z0a hR
  have hw1:IntKind.i64.wrap (1+(P:Int))=1+(P:Int):=by rw [IntKind.wrap_i64];omega
  have hq0:(0:Int)≤(q:Int):=by omega
  have hqle:(q:Int)≤(S.size:Int):=by omega
  have hQ0:(0:Int)≤(Q:Int):=by omega
  have bA:(A.size:Int)≤2000000:=by omega
  have bB:(B.size:Int)≤2000000:=by omega
  clear hS hB2 hT hZ hz hQ hxl hsp ht hy hyn hqd hP hR hszl hAZ hTT hSs hAs hBs hZs htl
  go_enter Tryz.func43,Tryz.ntmps43
  go_upto_region 4 with (first | (go_at_call 12;refine (HPK.out _).mono ?_;rintro e w5 ⟨rfl,hw5⟩;obtain rfl:=hw5.symm;clear hw5))
  refine wp_region_noPanic ?_
  refine wp_region_held_drew (S:=fun _=>True) (by kernel_rfl) (by exact trivial) (fun hHeld=>?_)
  refine wpAnyH_take (i:=0) (v:=?v0) rfl (by kernel_rfl) (by kernel_rfl) (by kernel_rfl) (fun _ _ _ h=>h) (Or.inl ⟨by rfl,?hy0⟩) (by assumption) ?rest0
  case hy0=>(intro w hSw;(try dsimp only at hSw);go_simp;try with_reducible rfl)
  simp only [Act.put,List.setIfInBounds_toArray]
  refine wpAnyH_take (i:=1) (v:=?v1) rfl (by kernel_rfl) (by kernel_rfl) (by kernel_rfl) (fun _ _ _ h=>h) (Or.inl ⟨by rfl,?hy1⟩) (by assumption) ?rest1
  case hy1=>(intro w hSw;(try dsimp only at hSw);go_simp;try with_reducible rfl)
  simp only [Act.put]
  refine wpAnyH_take (i:=2) (v:=?v2) rfl (by kernel_rfl) (by kernel_rfl) (by kernel_rfl) (fun _ _ _ h=>h) (Or.inl ⟨by rfl,?hy2⟩) (by assumption) ?rest2
  case hy2=>(intro w hSw;(try dsimp only at hSw);go_simp;try with_reducible rfl)
  simp only [Act.put]
  refine wpAnyH_take (i:=3) (v:=?v3) rfl (by kernel_rfl) (by kernel_rfl) (by kernel_rfl) (fun _ _ _ h=>h) (Or.inl ⟨by rfl,?hy3⟩) (by assumption) ?rest3
  case hy3=>(intro w hSw;(try dsimp only at hSw);go_simp;try with_reducible rfl)
  simp only [Act.put]
  refine wpAnyH_take (i:=4) (v:=?v4) rfl (by kernel_rfl) (by kernel_rfl) (by kernel_rfl) (fun _ _ _ h=>h) (Or.inl ⟨by rfl,?hy4⟩) (by assumption) ?rest4
  case hy4=>(intro w hSw;(try dsimp only at hSw);go_simp;try with_reducible rfl)
  simp only [Act.put]
  refine wpAnyH_take (i:=5) (v:=?v5) rfl (by kernel_rfl) (by kernel_rfl) (by kernel_rfl) (fun _ _ _ h=>h) (Or.inl ⟨by rfl,?hy5⟩) (by assumption) ?rest5
  case hy5=>(intro w hSw;(try dsimp only at hSw);go_simp;try with_reducible rfl)
  simp only [Act.put]
  refine wpAnyH_take (i:=6) (v:=?v6) rfl (by kernel_rfl) (by kernel_rfl) (by kernel_rfl) (fun _ _ _ h=>h) (Or.inl ⟨by rfl,?hy6⟩) (by assumption) ?rest6
  case hy6=>(intro w hSw;(try dsimp only at hSw);go_simp;try with_reducible rfl)
  simp only [Act.put]
  refine wpAnyH_take (i:=14) (v:=?v14) rfl (by kernel_rfl) (by kernel_rfl) (by kernel_rfl) (fun _ _ _ h=>h) (Or.inl ⟨by rfl,?hy14⟩) (by assumption) ?rest14
  case hy14=>(intro w hSw;(try dsimp only at hSw);go_simp;try with_reducible rfl)
  simp only [Act.put]
  refine wpAnyH_take (i:=15) (v:=?v15) rfl (by kernel_rfl) (by kernel_rfl) (by kernel_rfl) (fun _ _ _ h=>h) (Or.inl ⟨by rfl,?hy15⟩) (by assumption) ?rest15
  case hy15=>(intro w hSw;(try dsimp only at hSw);go_simp;try with_reducible rfl)
  simp only [Act.put]
  refine wpAnyH_take (i:=16) (v:=?v16) rfl (by kernel_rfl) (by kernel_rfl) (by kernel_rfl) (fun _ _ _ h=>h) (Or.inl ⟨by rfl,?hy16⟩) (by assumption) ?rest16
  case hy16=>(intro w hSw;(try dsimp only at hSw);go_simp;try with_reducible rfl)
  simp only [Act.put]
  refine wpAnyH_take (i:=17) (v:=?v17) rfl (by kernel_rfl) (by kernel_rfl) (by kernel_rfl) (fun _ _ _ h=>h) (Or.inl ⟨by rfl,?hy17⟩) (by assumption) ?rest17
  case hy17=>(intro w hSw;(try dsimp only at hSw);go_simp;try with_reducible rfl)
  simp only [Act.put]
  refine wpAnyH_ready (rs:=[7]) (by kernel_rfl) (by simp) (AllReadyH.cons rfl (fun K hK=>?_) AllReadyH.nil)
  go_simp
  with_reducible refine (HPC.out _).mono ?_
  rintro e w6 ⟨rfl,rfl⟩
  dsimp only
  refine hK.out _ _ (by exact trivial) (fun hHeld7=>?_)
  clear hK K
  try simp only [Act.put,List.setIfInBounds_toArray,List.set_cons_zero,List.set_cons_succ]
  refine wpAnyH_take (i:=8) (v:=?v8) rfl (by kernel_rfl) (by kernel_rfl) (by kernel_rfl) (fun _ _ _ h=>h) (Or.inl ⟨by rfl,?hy8⟩) (by assumption) ?rest8
  case hy8=>(intro w hSw;(try dsimp only at hSw);go_simp;try with_reducible rfl)
  simp only [Act.put]
  refine wpAnyH_take (i:=9) (v:=?v9) rfl (by kernel_rfl) (by kernel_rfl) (by kernel_rfl) (fun _ _ _ h=>h) (Or.inl ⟨by rfl,?hy9⟩) (by assumption) ?rest9
  case hy9=>(intro w hSw;(try dsimp only at hSw);go_simp;try with_reducible rfl)
  simp only [Act.put]
  refine wpAnyH_take (i:=10) (v:=?v10) rfl (by kernel_rfl) (by kernel_rfl) (by kernel_rfl) (fun _ _ _ h=>h) (Or.inl ⟨by rfl,?hy10⟩) (by assumption) ?rest10
  case hy10=>(intro w hSw;(try dsimp only at hSw);go_simp;try with_reducible rfl)
  simp only [Act.put]
  refine wpAnyH_ready (rs:=[11]) (by kernel_rfl) (by simp) (AllReadyH.cons rfl (fun K hK=>?_) AllReadyH.nil)
  go_simp
  refine hK.out _ _ (by exact trivial) (fun hHeld11=>?_)
  clear hK K
  try simp only [Act.put,List.setIfInBounds_toArray,List.set_cons_zero,List.set_cons_succ]
  refine wpAnyH_ready (rs:=[12]) (by kernel_rfl) (by simp) (AllReadyH.cons rfl (fun K hK=>?_) AllReadyH.nil)
  go_simp
  refine hK.out _ _ (by exact trivial) (fun hHeld12=>?_)
  clear hK K
  try simp only [Act.put,List.setIfInBounds_toArray,List.set_cons_zero,List.set_cons_succ]
  refine wpAnyH_take (i:=13) (v:=?v13) rfl (by kernel_rfl) (by kernel_rfl) (by kernel_rfl) (fun _ _ _ h=>h) (Or.inl ⟨by rfl,?hy13⟩) (by assumption) ?rest13
  case hy13=>(intro w hSw;(try dsimp only at hSw);go_simp;try with_reducible rfl)
  simp only [Act.put]
  refine wpAnyH_take (i:=18) (v:=?v18) rfl (by kernel_rfl) (by kernel_rfl) (by kernel_rfl) (fun _ _ _ h=>h) (Or.inl ⟨by rfl,?hy18⟩) (by assumption) ?rest18
  case hy18=>(intro w hSw;(try dsimp only at hSw);go_simp;try with_reducible rfl)
  simp only [Act.put]
  refine wpAnyH_take (i:=19) (v:=?v19) rfl (by kernel_rfl) (by kernel_rfl) (by kernel_rfl) (fun _ _ _ h=>h) (Or.inl ⟨by rfl,?hy19⟩) (by assumption) ?rest19
  case hy19=>(intro w hSw;(try dsimp only at hSw);go_simp;try with_reducible rfl)
  simp only [Act.put]
  refine wpAnyH_done (by kernel_rfl) ?_ _
  refine NoPanic.normal ?_
  all_goals
   have hTT2:=HT.out
   rw [hTT2]
   by_cases hm:msS t=[]
   ·have hd:decide (msS t≠[])=false:=decide_eq_false (fun h=>h hm)
    have hR1:R=t:=by rw [←HR.out,if_pos hm]
    have HR1:=Z0a hR1
    rw [hd] at HSI
    clear hR1 hTT2 hd
    go_wp2_with (first | (go_at_call 78;refine (HSI.out _).mono ?_;rintro e w7 ⟨s7,rfl,hb7⟩))
    go_ret
    exact ⟨by rw [HR1.out];rfl,(HB2.out.drew.trans (hb7.mono HB2.out.size))⟩
   ·have hd:decide (msS t≠[])=true:=decide_eq_true hm
    have hR1:R=[]:=by rw [←HR.out,if_neg hm]
    have HR1:=Z0a hR1
    rw [hd] at HSI
    clear hR1 hTT2 hd
    go_wp2_with (first | (go_at_call 78;refine (HSI.out _).mono ?_;rintro e w7 ⟨s7,rfl,hb7⟩))
    go_ret
    exact ⟨by rw [HR1.out];rfl,(HB2.out.drew.trans (hb7.mono HB2.out.size))⟩
def prI (raws:List Int) (j:Nat):List (Nat × Nat):=if kpF ((raws.getD j 0).tdiv 16) 4=0 then [(64*kpF (raws.getD j 0) 16+j,kpF (raws.getD j 0) 256)] else []
def psI (raws:List Int):Nat→List (Nat × Nat)
 | 0=>[]
 | j+1=>psI raws j++prI raws j
def txI (ps:List (Nat × Nat)):ByteArray:=(lnsI ps).foldr (fun t r=>t++(NL++r)) noB
theorem Z74 (z:ByteArray):∀ ls:List ByteArray,ls.foldr (fun t r=>t++(NL++r)) z=ls.foldr (fun t r=>t++(NL++r)) noB++z
 | []=>by
  show z=noB++z
  exact ByteArray.empty_append.symm
 | t :: ls=>by
  show t++(NL++ls.foldr (fun t r=>t++(NL++r)) z)=t++(NL++ls.foldr (fun t r=>t++(NL++r)) noB)++z
  rw [Z74 z ls]
  simp only [ByteArray.append_assoc]
theorem srcI_tx (ps:List (Nat × Nat))(m:Nat):srcI ps m=txI ps++(txO m++(NL++(Z2T++(NL++noB)))):=Z74 _ _
theorem Z6k:∀ ps qs:List (Nat × Nat),lnsI (ps++qs)=lnsI ps++lnsI qs
 | [],qs=>rfl
 | x :: ps,qs=>by
  show txO x.1 :: txDb x.2 :: lnsI (ps++qs)=_
  rw [Z6k ps qs]
  rfl
theorem txI_snoc (ps:List (Nat × Nat))(a b:Nat):txI (ps ++ [(a,b)])=txI ps++(txO a++(NL++(txDb b++(NL++noB)))):=by
 unfold txI
 rw [Z6k,List.foldr_append,Z74]
 rfl
theorem Z75 (n:Nat):(txO n).size≤8∧(txDb n).size≤7:=by
 have:=Z2R 3 n
 unfold txO txDb
 rw [ByteArray.size_append,ByteArray.size_append]
 have e1:(⟨#[111,114,103,32]⟩:ByteArray).size=4:=rfl
 have e2:(⟨#[100,98,32]⟩:ByteArray).size=3:=rfl
 omega
theorem Z5x:∀ ps:List (Nat × Nat),(txI ps).size≤17*ps.length
 | []=>Nat.le_refl _
 | x :: ps=>by
  show (txO x.1++(NL++(txDb x.2++(NL++txI ps)))).size≤_
  have h1:=(Z75 x.1).1
  have h2:=(Z75 x.2).2
  have h3:=Z5x ps
  have h4:NL.size=1:=rfl
  simp only [ByteArray.size_append,List.length_cons]
  omega
theorem psI_ok (raws:List Int):∀ j,j≤8→(psI raws j).length≤j∧((psI raws j).Pairwise fun x y=>x.1%64<y.1%64)∧∀ x∈psI raws j,x.1%64<j∧x.1<1024∧x.2<256
 | 0,_=>⟨Nat.le_refl _,List.Pairwise.nil,fun x hx=>by cases hx⟩
 | j+1,hj=>by
  obtain ⟨h1,h2,h3⟩:=psI_ok raws j (by omega)
  have hp:=Z5C (raws.getD j 0) 16 (by omega)
  have hb:=Z5C (raws.getD j 0) 256 (by omega)
  show (psI raws j++prI raws j).length≤j+1∧(psI raws j++prI raws j).Pairwise _∧∀ x∈psI raws j++prI raws j,_
  unfold prI
  split
  ·refine ⟨by simp;omega,List.pairwise_append.2 ⟨h2,List.pairwise_singleton _ _,fun x hx y hy=>?_⟩,fun x hx=>?_⟩
   ·have:=(h3 x hx).1
    rw [List.mem_singleton.1 hy]
    show x.1%64<(64*kpF (raws.getD j 0) 16+j)%64
    omega
   ·rcases List.mem_append.1 hx with hx | hx
    ·have:=h3 x hx
     omega
    ·rw [List.mem_singleton.1 hx]
     show (64*kpF (raws.getD j 0) 16+j)%64<j+1∧64*kpF (raws.getD j 0) 16+j<1024∧_
     exact ⟨by omega,by omega,hb⟩
  ·rw [List.append_nil]
   exact ⟨by omega,h2,fun x hx=>by have:=h3 x hx;omega⟩
theorem image_ok (raws:List Int)(j m:Nat)(hj:j≤8)(hm:m%64=8∧m<1024):∃ b,asmF (srcI (psI raws j) m)=.ok b:=by
 obtain ⟨h1,h2,h3⟩:=psI_ok raws j hj
 refine asm_srcI _ m h2 (fun x hx=>?_) hm ?_
 ·have:=h3 x hx
  omega
 ·rw [srcI_tx]
  have a1:=Z5x (psI raws j)
  have a2:=(Z75 m).1
  have a3:NL.size=1:=rfl
  have a4:Z2T.size=20:=rfl
  have a5:noB.size=0:=rfl
  simp only [ByteArray.size_append]
  omega
theorem img_of {w w':World}{a:Asm}{ik lk sk:Nat}(h:ImgAt w a ik lk sk w'):HImgAt w' (.slice (some ⟨ik,0,none⟩) 1024 1024) (.slice (some ⟨lk,0,none⟩) 1024 1024) (.slice (some ⟨sk,0,none⟩) 1024 1024) ⟨a.bytes,a.laid,a.starts⟩∧Z13 ⟨a.bytes,a.laid,a.starts⟩=true:=by
 obtain ⟨y,l,s,_⟩:=h
 refine ⟨⟨⟨⟨_,1024,by unfold Z0c;rw [List.length_map,y.len],by unfold Z0c;rw [List.length_map,y.len];omega,by omega,fun _=>⟨ik,0,rfl,y.lt,fun i hi=>?_⟩⟩⟩,⟨⟨_,1024,by unfold Z1R;rw [List.length_map,l.len],by unfold Z1R;rw [List.length_map,l.len];omega,by omega,fun _=>⟨lk,0,rfl,l.lt,fun i hi=>?_⟩⟩⟩,⟨⟨_,1024,by unfold Z1R;rw [List.length_map,s.len],by unfold Z1R;rw [List.length_map,s.len];omega,by omega,fun _=>⟨sk,0,rfl,s.lt,fun i hi=>?_⟩⟩⟩⟩,?_⟩
 ·rw [cell_of_row _ _ _ _ _ (0,0) y.at_,Nat.zero_add]
  unfold Z0c at hi ⊢
  rw [List.length_map] at hi
  simp [hi]
 ·have hi':i<a.laid.length:=by unfold Z1R at hi;rwa [List.length_map] at hi
  rw [Nat.zero_add,l.cell i hi']
  simp [Z1R]
 ·have hi':i<a.starts.length:=by unfold Z1R at hi;rwa [List.length_map] at hi
  rw [Nat.zero_add,s.cell i hi']
  simp [Z1R]
 ·unfold Z13
  simp [y.len,l.len,s.len]
end Go.Proofs.YthokdbcpkmcieaaGreatDoor
