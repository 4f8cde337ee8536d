/- SurW -/
import Derived.Test.YthokdbcpkmcieaaGreatDoorS44
import Derived.Deep.RegionHeld3
set_option maxRecDepth 200000
set_option maxHeartbeats 8000000
namespace Go.Proofs.YthokdbcpkmcieaaGreatDoor
open Go Go.RowKit
theorem Z3A {a b c:ByteArray}(h:a++b=c)(hs:a.size+b.size≤4000000)(w:World):(Op.stringOp .add a b).run Tryz.prog w=.ok (.string c) w:=by
 have e:=run_string_add_sum (P:=Tryz.prog) (w:=w) a b (by omega)
 rw [h] at e
 exact e
theorem tdiv16_in {r:Int}(h:-9223372036854775808≤r∧r≤9223372036854775807):-9223372036854775808≤r.tdiv 16∧r.tdiv 16≤9223372036854775807:=by
 by_cases h0:r<0
 ·have e:r.tdiv 16 = -((-r).tdiv 16):=by rw [Int.neg_tdiv,Int.neg_neg]
  rw [e,Int.tdiv_eq_ediv_of_nonneg (by omega)]
  omega
 ·rw [Int.tdiv_eq_ediv_of_nonneg (by omega)]
  omega
theorem kimage_any (w:World)(ra:Option Addr)(rn rc:Nat)(raws:List Int)(mm:Int)(h:RawAt w ra rn raws)(hr:rn≤9223372036854775807)(hmm:w.cell? ⟨0,0,none⟩=some (.int .i64 mm)) :
  Calls Tryz.prog 33 #[.slice ra rn rc] w fun e w'=>∃ (ik lk sk:Nat) (i:Img),e=.returned (.tuple #[.agg #[.slice (some ⟨ik,0,none⟩) 1024 1024,.slice (some ⟨lk,0,none⟩) 1024 1024,.slice (some ⟨sk,0,none⟩) 1024 1024],.bool true])∧HImgAt w' (.slice (some ⟨ik,0,none⟩) 1024 1024) (.slice (some ⟨lk,0,none⟩) 1024 1024) (.slice (some ⟨sk,0,none⟩) 1024 1024) i∧Z13 i=true∧Below w.heap.size w w':=by
 obtain ⟨N,hN⟩:∃ N,min rn 8=N:=⟨_,rfl⟩
 have HH:=Z0a (And.intro h hmm)
 have HN:=Z0a hN
 have hri:(rn:Int)≤9223372036854775807:=by omega
 have HPK:Hid (∀ (c:Int) (n:Nat) (w':World),-9223372036854775808≤c→c≤9223372036854775807→1≤n→n≤4000000→Calls Tryz.prog 12 #[.int .i64 c,.int .i64 (n:Int)] w' fun e w2=>e=.returned (.int .i64 (kpF c n:Int))∧w2=w'):=fun c n w' a b x y=>Z4C c n a b x y w'
 obtain ⟨W0,hW0⟩:∃ W0,w.alloc (.cells #[.slice none 0 0,.slice none 0 0,.slice none 0 0] 35)=W0:=⟨_,rfl⟩
 have hB0:Below w.heap.size w W0:=by rw [←hW0];exact (Below.refl _ _).alloc (Nat.le_refl _) _
 have hz0:W0.heap.size=w.heap.size+1:=by rw [←hW0];simp
 have hh0:W0.heap[w.heap.size]?=some (.cells #[.slice none 0 0,.slice none 0 0,.slice none 0 0] 35 (0,0)):=by rw [←hW0];exact heap_alloc_new w _
 have H0:=Z0a (And.intro hB0 (And.intro hz0 hh0))
 clear h hmm hN hB0 hz0 hh0
 go_enter Tryz.func33,Tryz.ntmps33
 go_wp2_with fail
 go_loopw [4,5] (fun s i wr=>∃ j:Nat,j≤N∧i=.int .i64 j∧s=.string (txI (psI raws j))∧Below W0.heap.size W0 wr) (fun _ i _=>N-(intOf i).toNat)
 case atStart=>exact ⟨0,Nat.zero_le _,rfl,rfl,Below.refl _ _⟩
 case round =>
  obtain ⟨j,hj,rfl,rfl,hB⟩:=hrel
  have HB:=Z0a hB
  have hn:=HN.out
  by_cases hlt:j<N
  ·have hj1:(j:Int)<(rn:Int):=by omega
   have hj2:(j:Int)<8:=by omega
   have hraw:=(HH.out.1.below H0.out.1).below hB
   clear hB
   have hjl:j<raws.length:=by have:=hraw.len;omega
   obtain ⟨cb,coff,rfl,cj,hal⟩:=hraw.at_ j hjl
   obtain ⟨r,hrr⟩:∃ r,raws[j]=r:=⟨_,rfl⟩
   rw [hrr] at cj
   have hrb:=hraw.bd r (by rw [←hrr];exact List.getElem_mem hjl)
   have hgd:raws.getD j 0=r:=by rw [List.getD_eq_getElem?_getD,List.getElem?_eq_getElem hjl,hrr];rfl
   obtain ⟨S,hS⟩:∃ S,txI (psI raws j)=S:=⟨_,rfl⟩
   rw [hS]
   have hSs:S.size≤136:=by
    rw [←hS]
    have h1:=Z5x (psI raws j)
    have h2:=(psI_ok raws j (by omega)).1
    omega
   obtain ⟨T,hT⟩:∃ T,kpF r 16=T:=⟨_,rfl⟩
   have hT16:T<16:=by rw [←hT];exact Z5C r 16 (by omega)
   obtain ⟨E,hE⟩:∃ E,kpF (r.tdiv 16) 4=E:=⟨_,rfl⟩
   have hq1:=tdiv16_in hrb
   have HP1:Hid (∀ w':World,Calls Tryz.prog 12 #[.int .i64 r,.int .i64 16] w' fun e w2=>e=.returned (.int .i64 (T:Int))∧w2=w'):=fun w'=>by
    have:=HPK.out r 16 w' hrb.1 hrb.2 (by omega) (by omega)
    rw [hT] at this
    exact this
   have HP2:Hid (∀ w':World,Calls Tryz.prog 12 #[.int .i64 (r.tdiv 16),.int .i64 4] w' fun e w2=>e=.returned (.int .i64 (E:Int))∧w2=w'):=fun w'=>by
    have:=HPK.out (r.tdiv 16) 4 w' hq1.1 hq1.2 (by omega) (by omega)
    rw [hE] at this
    exact this
   have hwq:IntKind.i64.wrap (r.tdiv 16)=r.tdiv 16:=by rw [IntKind.wrap_i64];omega
   have HSJ:Hid (txI (psI raws (j+1))=if E=0 then S++(txO (64*T+j)++(NL++(txDb (kpF r 256)++(NL++noB)))) else S):=by
    show txI (psI raws j++prI raws j)=_
    unfold prI
    rw [hgd,hE,hT]
    by_cases e:E=0
    ·rw [if_pos e,if_pos e,txI_snoc,hS]
    ·rw [if_neg e,if_neg e,List.append_nil,hS]
   by_cases hE0:E=0
   ·subst hE0
    obtain ⟨V,hV⟩:∃ V,kpF r 256=V:=⟨_,rfl⟩
    have hV2:V<256:=by rw [←hV];exact Z5C r 256 (by omega)
    obtain ⟨P,hP⟩:∃ P:Nat,64*T+j=P:=⟨_,rfl⟩
    have hPl:P<1024:=by omega
    have HP3:Hid (∀ w':World,Calls Tryz.prog 12 #[.int .i64 r,.int .i64 256] w' fun e w2=>e=.returned (.int .i64 (V:Int))∧w2=w'):=fun w'=>by
     have:=HPK.out r 256 w' hrb.1 hrb.2 (by omega) (by omega)
     rw [hV] at this
     exact this
    rw [if_pos rfl,hP,hV] at HSJ
    obtain ⟨D1,hD1⟩:∃ D,decF 3 P=D:=⟨_,rfl⟩
    obtain ⟨D2,hD2⟩:∃ D,decF 3 V=D:=⟨_,rfl⟩
    have hD1s:D1.size≤4:=by rw [←hD1];exact Z2R 3 P
    have hD2s:D2.size≤4:=by rw [←hD2];exact Z2R 3 V
    have HDA:Hid (∀ w':World,Calls Tryz.prog 16 #[.int .i64 (P:Int)] w' fun e w2=>e=.returned (.string D1)∧w2=w'):=fun w'=>by
     have:=Z4d 3 P (by omega) (by omega) w'
     rw [hD1] at this
     exact this
    have HDB:Hid (∀ w':World,Calls Tryz.prog 16 #[.int .i64 (V:Int)] w' fun e w2=>e=.returned (.string D2)∧w2=w'):=fun w'=>by
     have:=Z4d 3 V (by omega) (by omega) w'
     rw [hD2] at this
     exact this
    have z1:(⟨#[111,114,103,32]⟩:ByteArray).size=4:=rfl
    have z2:(⟨#[10,100,98,32]⟩:ByteArray).size=4:=rfl
    have z3:(⟨#[10]⟩:ByteArray).size=1:=rfl
    obtain ⟨Y1,hY1⟩:∃ Y,S++(⟨#[111,114,103,32]⟩:ByteArray)=Y:=⟨_,rfl⟩
    have s1:Y1.size≤140:=by rw [←hY1,ByteArray.size_append];omega
    obtain ⟨Y2,hY2⟩:∃ Y,Y1++D1=Y:=⟨_,rfl⟩
    have s2:Y2.size≤144:=by rw [←hY2,ByteArray.size_append];omega
    obtain ⟨Y3,hY3⟩:∃ Y,Y2++(⟨#[10,100,98,32]⟩:ByteArray)=Y:=⟨_,rfl⟩
    have s3:Y3.size≤148:=by rw [←hY3,ByteArray.size_append];omega
    obtain ⟨Y4,hY4⟩:∃ Y,Y3++D2=Y:=⟨_,rfl⟩
    have s4:Y4.size≤152:=by rw [←hY4,ByteArray.size_append];omega
    obtain ⟨Y5,hY5⟩:∃ Y,Y4++(⟨#[10]⟩:ByteArray)=Y:=⟨_,rfl⟩
    have q1:=fun w'=>Z3A hY1 (by omega) w'
    have q2:=fun w'=>Z3A hY2 (by omega) w'
    have q3:=fun w'=>Z3A hY3 (by omega) w'
    have q4:=fun w'=>Z3A hY4 (by omega) w'
    have q5:=fun w'=>Z3A hY5 (by omega) w'
    have HY:Hid (txI (psI raws (j+1))=Y5):=by
     show _=_
     rw [HSJ.out,← hY5,← hY4,← hY3,← hY2,← hY1,← hD1,← hD2]
     unfold txO txDb
     have e:NL++noB=NL:=ByteArray.append_empty
     rw [e]
     simp only [ByteArray.append_assoc]
     rfl
    have hPi:64*(T:Int)+(j:Int)=(P:Int):=by omega
    have hwT:IntKind.i64.wrap (64*(T:Int))=64*(T:Int):=by rw [IntKind.wrap_i64];omega
    have hwP:IntKind.i64.wrap (P:Int)=(P:Int):=by rw [IntKind.wrap_i64];omega
    clear hn hY1 hY2 hY3 hY4 hY5 hD1 hD2 hS hV hP hT hE hgd HSJ hraw z1 z2 z3 s1 s2 s3 s4 hD1s hD2s hSs hV2 hPl hT16
    go_wp2_with (first | (go_at_call 12;with_reducible refine (HP1.out _).mono ?_;rintro e w3 ⟨rfl,rfl⟩) | (go_at_call 12;with_reducible refine (HP2.out _).mono ?_;rintro e w3 ⟨rfl,rfl⟩))
    go_region_held3 (fun w'=>w'.cell? ⟨cb,coff+j,none⟩=some (.int .i64 r)∧w'=w3.drew) (first | exact ⟨cj,rfl⟩) (first | (go_at_call 16;with_reducible refine (HDA.out _).mono ?_;rintro e w4 ⟨rfl,rfl⟩) | (go_at_call 16;with_reducible refine (HDB.out _).mono ?_;rintro e w4 ⟨rfl,rfl⟩) | (go_at_call 12;with_reducible refine (HP3.out _).mono ?_;rintro e w4 ⟨rfl,rfl⟩))
    all_goals
     go_wp2
     go_roundw
     case rel=>exact ⟨j+1,by omega,by go_num,by rw [HY.out],HB.out.drew⟩
     case measure=>simp [intOf];omega
   ·rw [if_neg hE0] at HSJ
    have hE1:((E:Int) == 0)=false:=by simp;omega
    clear hS hT hE hgd hraw hE0
    go_wp2_with (first | (go_at_call 12;with_reducible refine (HP1.out _).mono ?_;rintro e w3 ⟨rfl,rfl⟩) | (go_at_call 12;with_reducible refine (HP2.out _).mono ?_;rintro e w3 ⟨rfl,rfl⟩))
    go_roundw
    case rel=>exact ⟨j+1,by omega,by go_num,by rw [HSJ.out],HB.out⟩
    case measure=>simp [intOf];omega
  ·have hjN:j≤8:=by omega
   obtain ⟨S,hS⟩:∃ S,txI (psI raws j)=S:=⟨_,rfl⟩
   rw [hS]
   have hSs:S.size≤136:=by
    rw [←hS]
    have h1:=Z5x (psI raws j)
    have h2:=(psI_ok raws j hjN).1
    omega
   obtain ⟨T,hT⟩:∃ T,kpF (rn:Int) 16=T:=⟨_,rfl⟩
   have hT16:T<16:=by rw [←hT];exact Z5C _ 16 (by omega)
   have HP1:Hid (∀ w':World,Calls Tryz.prog 12 #[.int .i64 (rn:Int),.int .i64 16] w' fun e w2=>e=.returned (.int .i64 (T:Int))∧w2=w'):=fun w'=>by
    have:=HPK.out (rn:Int) 16 w' (by omega) (by omega) (by omega) (by omega)
    rw [hT] at this
    exact this
   obtain ⟨P,hP⟩:∃ P:Nat,8+64*T=P:=⟨_,rfl⟩
   obtain ⟨D1,hD1⟩:∃ D,decF 3 P=D:=⟨_,rfl⟩
   have hD1s:D1.size≤4:=by rw [←hD1];exact Z2R 3 P
   have HDA:Hid (∀ w':World,Calls Tryz.prog 16 #[.int .i64 (P:Int)] w' fun e w2=>e=.returned (.string D1)∧w2=w'):=fun w'=>by
    have:=Z4d 3 P (by omega) (by omega) w'
    rw [hD1] at this
    exact this
   have z1:(⟨#[111,114,103,32]⟩:ByteArray).size=4:=rfl
   have z2:(⟨#[10,100,98,32,49,44,50,44,49,50,54,44,49,50,53,44,50,53,53,44,48,10]⟩:ByteArray).size=22:=rfl
   obtain ⟨Y1,hY1⟩:∃ Y,S++(⟨#[111,114,103,32]⟩:ByteArray)=Y:=⟨_,rfl⟩
   have s1:Y1.size≤140:=by rw [←hY1,ByteArray.size_append];omega
   obtain ⟨Y2,hY2⟩:∃ Y,Y1++D1=Y:=⟨_,rfl⟩
   have s2:Y2.size≤144:=by rw [←hY2,ByteArray.size_append];omega
   obtain ⟨Y3,hY3⟩:∃ Y,Y2++(⟨#[10,100,98,32,49,44,50,44,49,50,54,44,49,50,53,44,50,53,53,44,48,10]⟩:ByteArray)=Y:=⟨_,rfl⟩
   have q1:=fun w'=>Z3A hY1 (by omega) w'
   have q2:=fun w'=>Z3A hY2 (by omega) w'
   have q3:=fun w'=>Z3A hY3 (by omega) w'
   obtain ⟨b,hb⟩:=image_ok raws j P hjN (by omega)
   have hsrc:srcI (psI raws j) P=Y3:=by
    rw [srcI_tx,hS,← hY3,← hY2,← hY1,← hD1]
    unfold txO Z2T
    have e:NL++noB=NL:=ByteArray.append_empty
    rw [e]
    simp only [ByteArray.append_assoc]
    rfl
   rw [hsrc] at hb
   have hmm1:wr.cell? ⟨0,0,none⟩=some (.int .i64 mm):=by
    have h0:0<w.heap.size:=World.block_lt_of_cell? _ _ HH.out.2
    have e1:=(World.cell?_of_block (a:=⟨0,0,none⟩) (H0.out.1.block 0 h0)).trans HH.out.2
    exact (World.cell?_of_block (a:=⟨0,0,none⟩) (hB.block 0 (by have:=H0.out.2.1;omega))).trans e1
   have HA:=Z0a (bAssemble_ok Y3 b mm wr hmm1 hb)
   have hPi:8+64*(T:Int)=(P:Int):=by omega
   have hwT:IntKind.i64.wrap (64*(T:Int))=64*(T:Int):=by rw [IntKind.wrap_i64];omega
   have hwP:IntKind.i64.wrap (P:Int)=(P:Int):=by rw [IntKind.wrap_i64];omega
   have HRB:Hid (wr.heap[w.heap.size]?=some (.cells #[.slice none 0 0,.slice none 0 0,.slice none 0 0] 35 (0,0))∧w.heap.size<wr.heap.size∧Below w.heap.size w wr):=by
    have h1:=H0.out.2.1
    refine ⟨(hB.block w.heap.size (by omega)).trans H0.out.2.2,by have:=hB.size;omega,H0.out.1.trans (hB.mono (by omega))⟩
   rcases (show ((j:Int)<(rn:Int)∧¬ (j:Int)<8)∨¬ (j:Int)<(rn:Int) by omega) with ⟨hjr,hj8⟩ | hjr
   all_goals
    clear hn hj hlt hS hT hP hD1 hY1 hY2 hY3 hb hsrc hmm1 hSs hD1s s1 s2 z1 z2 hB hT16 hjN
    go_wp2_with (first | (go_at_call 12;with_reducible refine (HP1.out _).mono ?_;rintro e w3 ⟨rfl,rfl⟩) | (go_at_call 16;with_reducible refine (HDA.out _).mono ?_;rintro e w3 ⟨rfl,rfl⟩) | (go_at_call 15;refine HA.out.mono ?_;rintro e w6 ⟨ik,lk,sk,rfl,him,hb6⟩))
    obtain ⟨W7,hW7,hB7,hz7,hh7⟩:=box_img w6 ik lk sk
    rw [hW7]
    obtain ⟨X,hX⟩:∃ X,w6.heap.size=X:=⟨_,rfl⟩
    obtain ⟨R,hR⟩:∃ R,w.heap.size=R:=⟨_,rfl⟩
    obtain ⟨r1,r2,r3⟩:=HRB.out
    rw [hR] at r1 r2
    have hrX:R<X:=by rw [←hX];exact Nat.lt_of_lt_of_le r2 hb6.size
    rw [hX] at hh7 hz7 ⊢
    rw [hR]
    have hr6:W7.heap[R]?=some (.cells #[.slice none 0 0,.slice none 0 0,.slice none 0 0] 35 (0,0)):=(hB7.block R (by omega)).trans ((hb6.block R r2).trans r1)
    have u0:W7.cell? ⟨X,0,none⟩=some (.slice (some ⟨ik,0,none⟩) 1024 1024):=by rw [cell_of_row _ _ _ _ _ (0,0) hh7];rfl
    have u1:W7.cell? ⟨X,1,none⟩=some (.slice (some ⟨lk,0,none⟩) 1024 1024):=by rw [cell_of_row _ _ _ _ _ (0,0) hh7];rfl
    have u2:W7.cell? ⟨X,2,none⟩=some (.slice (some ⟨sk,0,none⟩) 1024 1024):=by rw [cell_of_row _ _ _ _ _ (0,0) hh7];rfl
    have v0:W7.cell? ⟨R,0,none⟩=some (.slice none 0 0):=by rw [cell_of_row _ _ _ _ _ (0,0) hr6];rfl
    have v1:W7.cell? ⟨R,1,none⟩=some (.slice none 0 0):=by rw [cell_of_row _ _ _ _ _ (0,0) hr6];rfl
    have v2:W7.cell? ⟨R,2,none⟩=some (.slice none 0 0):=by rw [cell_of_row _ _ _ _ _ (0,0) hr6];rfl
    have g0:=frozen_of_row W7 R 0 _ _ hr6
    have g1:=frozen_of_row W7 R 1 _ _ hr6
    have g2:=frozen_of_row W7 R 2 _ _ hr6
    have hne:¬ X=R:=by omega
    have g0d:W7.drew.frozen? ⟨R,0,none⟩=false:=g0
    have g1d:W7.drew.frozen? ⟨R,1,none⟩=false:=g1
    have g2d:W7.drew.frozen? ⟨R,2,none⟩=false:=g2
    have v0d:W7.drew.cell? ⟨R,0,none⟩=some (.slice none 0 0):=v0
    have v1d:W7.drew.cell? ⟨R,1,none⟩=some (.slice none 0 0):=v1
    have v2d:W7.drew.cell? ⟨R,2,none⟩=some (.slice none 0 0):=v2
    have KS:Hid (∀ (a b c:Value),(((W7.drew.setCell ⟨R,0,none⟩ a).setCell ⟨R,1,none⟩ b).setCell ⟨R,2,none⟩ c).cell? ⟨X,0,none⟩=some (.slice (some ⟨ik,0,none⟩) 1024 1024)∧(((W7.drew.setCell ⟨R,0,none⟩ a).setCell ⟨R,1,none⟩ b).setCell ⟨R,2,none⟩ c).cell? ⟨X,1,none⟩=some (.slice (some ⟨lk,0,none⟩) 1024 1024)∧(((W7.drew.setCell ⟨R,0,none⟩ a).setCell ⟨R,1,none⟩ b).setCell ⟨R,2,none⟩ c).cell? ⟨X,2,none⟩=some (.slice (some ⟨sk,0,none⟩) 1024 1024)):=fun a b c=>by
     have hk:∀ j:Nat,(((W7.drew.setCell ⟨R,0,none⟩ a).setCell ⟨R,1,none⟩ b).setCell ⟨R,2,none⟩ c).cell? ⟨X,j,none⟩=W7.cell? ⟨X,j,none⟩:=fun j=>by
      rw [World.cell?_setCell_other _ _ _ _ (by simp),World.cell?_setCell_other _ _ _ _ (by simp),World.cell?_setCell_other _ _ _ _ (by simp)]
      rfl
     exact ⟨(hk 0).trans u0,(hk 1).trans u1,(hk 2).trans u2⟩
    have HF:=Z0a (And.intro him (And.intro hb6 (And.intro hB7 (And.intro hr6 hR))))
    clear him hb6 hB7 hr6 hh7 hz7 r1 r2 r3 hX hR
    go_region_held3 (fun w'=>w'.cell? ⟨X,0,none⟩=some (.slice (some ⟨ik,0,none⟩) 1024 1024)∧w'.cell? ⟨X,1,none⟩=some (.slice (some ⟨lk,0,none⟩) 1024 1024)∧w'.cell? ⟨X,2,none⟩=some (.slice (some ⟨sk,0,none⟩) 1024 1024)) (first | exact ⟨u0,u1,u2⟩ | exact KS.out _ _ _ | go_keep) (fail)
    all_goals
     obtain ⟨WZ,hWZ⟩:∃ WZ,(((W7.setCell ⟨R,0,none⟩ (.slice (some ⟨ik,0,none⟩) 1024 1024)).setCell ⟨R,1,none⟩ (.slice (some ⟨lk,0,none⟩) 1024 1024)).setCell ⟨R,2,none⟩ (.slice (some ⟨sk,0,none⟩) 1024 1024)).drew=WZ:=⟨_,rfl⟩
     rw [hWZ]
     have HZ:=Z0a hWZ
     clear hWZ u0 u1 u2 v0 v1 v2 v0d v1d v2d g0 g1 g2 g0d g1d g2d KS
     go_wp2
     obtain ⟨him,hb6,hB7,hr6,hR⟩:=HF.out
     have hoth:∀ k,k≠R→WZ.heap[k]?=W7.heap[k]?:=fun k hk=>by
      rw [←HZ.out]
      exact (heap_setCell_other _ ⟨R,2,none⟩ k _ hk).trans ((heap_setCell_other _ ⟨R,1,none⟩ k _ hk).trans (heap_setCell_other _ ⟨R,0,none⟩ k _ hk))
     have hrz:WZ.heap[R]?=some (.cells #[.slice (some ⟨ik,0,none⟩) 1024 1024,.slice (some ⟨lk,0,none⟩) 1024 1024,.slice (some ⟨sk,0,none⟩) 1024 1024] 35 (0,0)):=by
      rw [←HZ.out]
      exact heap_setCell_same _ _ _ _ _ _ (heap_setCell_same _ _ _ _ _ _ (heap_setCell_same _ _ _ _ _ _ hr6))
     have hsz:W7.heap.size≤WZ.heap.size:=by rw [←HZ.out];simp [World.setCell]
     obtain ⟨r1,r2,r3⟩:=HRB.out
     obtain ⟨i1,i2,i3,i4,i5,i6⟩:=him
     have hI:ImgAt _ b ik lk sk WZ:=⟨i1.kept ((hoth ik (by omega)).trans (hB7.block ik i1.lt)),i2.kept ((hoth lk (by omega)).trans (hB7.block lk i2.lt)),i3.kept ((hoth sk (by omega)).trans (hB7.block sk i3.lt)),i4,i5,i6⟩
     have hBz:Below R w WZ:=by
      rw [←HZ.out]
      have e1:=r3.trans (hb6.mono (Nat.le_of_lt r2))
      have e2:=e1.trans (hB7.mono (Nat.le_trans (Nat.le_of_lt r2) hb6.size))
      rw [hR] at e2
      exact (((e2.setCell (Nat.le_refl _) _).setCell (Nat.le_refl _) _).setCell (Nat.le_refl _) _).drew
     obtain ⟨j1,j2⟩:=img_of hI
     refine bodyPost_ret (results_cell_tmp rfl _ _ R [.slice (some ⟨ik,0,none⟩) 1024 1024,.slice (some ⟨lk,0,none⟩) 1024 1024,.slice (some ⟨sk,0,none⟩) 1024 1024] _ rfl ?_ Tryz.underlying35 rfl (by kernel_rfl)) rfl ?_
     ·intro j v hjv
      rw [cell_of_row _ _ _ _ _ (0,0) hrz,Nat.zero_add]
      simpa using hjv
     ·exact ⟨ik,lk,sk,_,rfl,j1,j2,by rw [hR];exact hBz⟩
end Go.Proofs.YthokdbcpkmcieaaGreatDoor
