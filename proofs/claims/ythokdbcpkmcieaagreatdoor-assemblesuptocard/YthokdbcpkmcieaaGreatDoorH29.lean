import Derived.Test.YthokdbcpkmcieaaGreatDoorH28
set_option maxRecDepth 200000
set_option maxHeartbeats 16000000
namespace Go.Proofs.YthokdbcpkmcieaaGreatDoor
open RowKit Shelf Proofs.Tryz
theorem Z81{B:List UInt8}{k i:Nat}{c:UInt8}(h:B[k+i]?=some c):(⟨((B.drop k).take i).toArray⟩:ByteArray)++⟨#[c]⟩=⟨((B.drop k).take (i+1)).toArray⟩:=by
 have e:(B.drop k).take (i+1)=(B.drop k).take i++[c]:=by
  rw[lR,mK,h];rfl
 rw[e];apply mI;rw[oy];simp
theorem Z8P(A D bc lb lo lc sb G sc:Nat)(B:List UInt8)(L S:List Bool)(m:Int)(w:World)(h:ImgR w A D lb lo sb G B L S)(hm:w.cell? ⟨0,0,none⟩=some (.int .i64 m)) :
  Calls prog 27 #[imV A D bc lb lo lc sb G sc] w fun e w'=>∃v,e=.returned (.tuple #[v,.int .i64 0])/\w'.ownsRow w.heap.size 9 1 v (lsF B L S 1024).length (qe (lsF B L S 1024))/\Below w.heap.size w w':=by
 obtain⟨i0,hi,KJ,KC,Ky⟩:=kQ Tryz.infoStrB;obtain⟨W,hW,hB,hz,u0,u1,u2⟩:=xm w (.slice (some ⟨A,D,none⟩) 1024 bc) (.slice (some ⟨lb,lo,none⟩) 1024 lc) (.slice (some ⟨sb,G,none⟩) 1024 sc);have h0:0<w.heap.size:=lD _ hm;have TO:=h.sl;have N5:=h.ll;have Ls:=h.bl;have HI:Hid (Calls prog 54 #[imV A D bc lb lo lc sb G sc] W fun e w'=>e=.returned (.bool true)/\Below W.heap.size W w'):=(F0 (some ⟨A,D,none⟩) (some ⟨lb,lo,none⟩) (some ⟨sb,G,none⟩) 1024 bc 1024 lc 1024 sc ak ak ak W);have Ve0:Hid (∀(C:ByteArray) (p:Int) (w':World),C.size<=3->Calls prog 55 #[.string C,.int .i64 p] w' fun e w2=>e=.returned (.tuple #[.string (qR C p).1,.int .i64 ((qR C p).2:Nat)])/\Below w'.heap.size w' w2):=fun C p w' hc=>Z5U C p ak w m hm h0 w'
 have HX:Hid (∀(p:Nat),p<1024->∀w':World,Calls prog 56 #[.int .i64 (p:Int),.int .i64 4] w' fun e w2=>e=.returned (.string ⟨#[hd ((p:Int)/4096),hd ((p:Int)/256),hd ((p:Int)/16),hd (p:Int)]⟩)/\w2=w'):=fun p hp w'=>yI (p:Int) ae ae w'
 have KV:Hid (∀w':World,Below W.heap.size W w'->w'.cell? ⟨w.heap.size,0,none⟩=some (.slice (some ⟨A,D,none⟩) 1024 bc)/\w'.cell? ⟨w.heap.size,1,none⟩=some (.slice (some ⟨lb,lo,none⟩) 1024 lc)/\w'.cell? ⟨w.heap.size,2,none⟩=some (.slice (some ⟨sb,G,none⟩) 1024 sc)):=fun w' hb=>
  ⟨(jW (a:=⟨w.heap.size,0,none⟩) (hb.block w.heap.size ae)).trans u0,(jW (a:=⟨w.heap.size,1,none⟩) (hb.block w.heap.size ae)).trans u1,(jW (a:=⟨w.heap.size,2,none⟩) (hb.block w.heap.size ae)).trans u2⟩
 have HH:=oP h;have HB:=oP hB;clear h hB hm;go_enter func27,ntmps27;go_wp2_with fail;refine HI.o.mono ?_;rintro e O ⟨rfl,Kh⟩;obtain⟨v0,v1,v2⟩:=KV.o _ Kh;have KK:=oP (HB.o.trans (Kh.mono HB.o.size));have We9:=Kh.size;clear Kh;have VV:=oP (And.intro v0 (And.intro v1 v2));clear u0 u1 u2 hW;go_wp2_with fail;clear v0 v1 v2;go_loopw [5,6,7,8,9,10] (fun v i _ _ _ _ wz=>∃k:Nat,k<=1024/\i=.int .i64 (k:Int)/\wz.ownsRow O.heap.size 9 1 v (lsF B L S k).length (qe (lsF B L S k))/\Below O.heap.size O wz) (fun _ i _ _ _ _ _=>1024-(intOf i).toNat)
 case atStart=>exact⟨0,j4,rfl,kA,jV⟩
 case round=>
  obtain⟨k,hk,rfl,Ke,R⟩:=hrel;have LQ:Below w.heap.size w wr:=KK.o.trans (R.mono KK.o.size);have Lu:=oP LQ;have Xf:=oP R
  have KW:Hid (∀w':World,Below wr.heap.size wr w'->w'.cell? ⟨w.heap.size,0,none⟩=some (.slice (some ⟨A,D,none⟩) 1024 bc)/\w'.cell? ⟨w.heap.size,1,none⟩=some (.slice (some ⟨lb,lo,none⟩) 1024 lc)/\w'.cell? ⟨w.heap.size,2,none⟩=some (.slice (some ⟨sb,G,none⟩) 1024 sc)/\ImgR w' A D lb lo sb G B L S):=fun w' hb=>by
   have ML:=R.trans (hb.mono R.size);obtain⟨p0,p1,p2⟩:=VV.o;exact⟨(jW (a:=⟨w.heap.size,0,none⟩) (ML.block w.heap.size ae)).trans p0,(jW (a:=⟨w.heap.size,1,none⟩) (ML.block w.heap.size ae)).trans p1,(jW (a:=⟨w.heap.size,2,none⟩) (ML.block w.heap.size ae)).trans p2,HH.o.below (KK.o.trans (ML.mono KK.o.size))⟩
  obtain⟨v0,v1,v2,I⟩:=KW.o wr jV;have WQ:=R.size;have Ki:=oP Ke;have Mh:=CS B L S k;have MN:=ET B L S k;by_cases Ol:k<1024
  ·have d1:(k:Int)<1024:=by omega
   obtain⟨x,hx⟩:∃x,S[k]?=some x:=⟨_,jX ae⟩
   have cs:wr.cell? ⟨sb,G+k,none⟩=some (.bool x):=by
    obtain⟨U,e2⟩:=mh.1 hx;rw[I.s k U,e2]
   have LH:S.getD k false=x:=by rw[jZ,hx];rfl
   rw[LH]at MN;clear Ke LQ R hx LH I;cases x with
   |false=>exact Ma4
   |true=>
    rw[jT rfl]at MN;have SN:=oP MN;have Ve1:=oP (HX.o k Ol);obtain⟨X0,Rj⟩:∃X0:ByteArray,⟨#[hd ((k:Int)/4096),hd ((k:Int)/256),hd ((k:Int)/16),hd (k:Int)]⟩=X0:=⟨_,rfl⟩;have MR:X0.size=4:=by rw[<-Rj];rfl
    rw[Rj]at Ve1;obtain⟨X1,V7⟩:=Zg0 (X0++(⟨#[32]⟩:ByteArray));have MS:X1.size=5:=by rw[<-V7,lK,MR];rfl
    have Vq8:(X0.size:Int)<=4:=ae;have Vq9:(X1.size:Int)<=5:=ae;have HT:Hid (wB B L k=X1++wZ B L k):=by show _=_;rw[<-V7,<- Rj];rfl
    have WH4:=oP (EB Ls N5 k Ol);have Vv8:=oP (Z8A B L k);have RX:=oP (B8 Ls N5 k);obtain⟨n,hn⟩:=Zg0 ((lsF B L S k).length);have HN:=oP hn;rw[hn]at Ki Mh;obtain⟨J,Nl⟩:∃J:Nat,k+3=J:=⟨_,rfl⟩;have LK:(k:Int)+3=(J:Int):=ae;clear MN hn Rj MR MS;obtain⟨wo,Ut⟩:∃wo,wo=wr:=⟨_,rfl⟩;subst Ut;go_wp2_with fail;clear v0 v1 v2 cs;go_loopw [7,8] (fun s j wz=>∃i:Nat,i<=3/\k+i<=1024/\s=.string ⟨((B.drop k).take i).toArray⟩/\j=.int .i64 ((k+i:Nat):Int)/\(∀q,q<i->L[k+q]?=some true)/\Below wo.heap.size wo wz) (fun _ j _=>1024-(intOf j).toNat)
    case atStart=>exact⟨0,ae,ae,by rw[List.take_zero],rfl,fun q hq=>absurd hq (lH _),jV⟩
    case round=>
     obtain⟨i,V,Z,rfl,rfl,WK7,LP⟩:=hrel;obtain⟨v0,v1,v2,I⟩:=KW.o wr LP;obtain⟨E,hE⟩:∃E:Nat,k+i=E:=⟨_,rfl⟩;rw[hE];have Wf5:=oP WK7;have ON:=oP LP;have WK8:((B.drop k).take i).length=i:=by rw[nD,mD];omega
     obtain⟨C,hC⟩:∃C:ByteArray,⟨((B.drop k).take i).toArray⟩=C:=⟨_,rfl⟩;have LZ:C.size=i:=by rw[<-hC];show ((B.drop k).take i).toArray.size=i;rw[lJ,WK8]
     have bC:(C.size:Int)<=3:=ae;rw[hC];by_cases M:E<1024/\E<J/\L[E]?=some true
     ·obtain⟨c1,c2,c3⟩:=M;have d2:(E:Int)<1024:=ae;have d3:(E:Int)<(J:Int):=ae
      have cl:wr.cell? ⟨lb,lo+E,none⟩=some (.bool true):=by
       obtain⟨U,e2⟩:=mh.1 c3;rw[I.l E U,e2]
      obtain⟨c,hc⟩:∃c,B[E]?=some c:=⟨_,jX ae⟩
      have cy:wr.cell? ⟨A,D+E,none⟩=some (.int .u8 (c.toNat:Int)):=by
       obtain⟨U,e2⟩:=mh.1 hc;rw[I.y E U,e2]
      have O1:=DN rfl (Gk wr wr.heap.size jU [c] af af);have WK9:(convert 32 9 (.slice (some ⟨wr.heap.size,0,none⟩) 1 1)).run prog (wr.alloc (.cells #[.int .u8 (c.toNat:Int)] 5))=.ok (.string ⟨#[c]⟩) (wr.alloc (.cells #[.int .u8 (c.toNat:Int)] 5)):=O1;have HM:Hid (C++⟨#[c]⟩=⟨((B.drop k).take (i+1)).toArray⟩):=by show _=_;rw[<-hC];exact Z81 (by rw[hE];exact hc)
      have HK:=oP (And.intro c3 (And.intro c2 (And.intro c1 (And.intro hE Nl))));clear O1 I WK7 LP WK8 hC LZ V Z c1 c2 c3 hc hE Nl;go_wp2;go_roundw
      case rel=>
       obtain⟨q1,q2,q3,q4,q5⟩:=HK.o;refine⟨i+1,ae,ae,by rw[<-HM.o],by rw[<-q4];go_num,fun q hq=>?_,ON.o.alloc ON.o.size _⟩;by_cases Wg:q<i
       ·exact Wf5.o q Wg
       rw[show k+q=E by omega];exact q1
      case measure=>have:=HK.o.2.2.1;simp[intOf];omega
     have TZ:ldN L k=i:=Af N5 V Z Wf5.o (by
      by_cases c1:E<1024
      ·by_cases c2:E<J
       ·obtain⟨x,hx⟩:∃x,L[E]?=some x:=⟨_,jX ae⟩;cases x with
        |true=>exact absurd ⟨c1,c2,hx⟩ M
        |false=>exact .inr (.inr (by rw[hE];exact hx))
       exact .inl ae
      ·exact .inr (.inl ae))
     have KE:(¬(E:Int)<1024)\/((E:Int)<1024/\¬(E:Int)<(J:Int))\/((E:Int)<1024/\(E:Int)<(J:Int)/\wr.cell? ⟨lb,lo+E,none⟩=some (.bool false)):=by
      by_cases c1:E<1024
      ·by_cases c2:E<J
       ·obtain⟨x,hx⟩:∃x,L[E]?=some x:=⟨_,jX ae⟩;cases x with
        |true=>exact absurd ⟨c1,c2,hx⟩ M
        |false=>
         refine .inr (.inr ⟨ae,ae,?_⟩);obtain⟨U,e2⟩:=mh.1 hx;rw[I.l E U,e2]
       exact .inr (.inl ⟨ae,ae⟩)
      exact .inl ae
     have Ve2:tW B L k=C:=by unfold tW;rw[TZ];exact hC
     have Sy:=Vv8.o;have NH:=WH4.o;rw[Ve2]at Sy;obtain⟨T,hT⟩:=Zg0 (wZ B L k);rw[hT]at Sy NH;have Ve3:=oP (Ve0.o C (k:Int) wr ae);obtain⟨D1,Z0⟩:=Zg0 ((qR C (k:Int)).1);obtain⟨D2,Wi1⟩:=Zg0 ((qR C (k:Int)).2);rw[Z0,Wi1]at Ve3;rw[Z0]at Sy;have Vv9:Hid (wB B L k=X1++T):=by show _=_;rw[HT.o,hT]
     have Wl8:=Xf.o.trans (LP.mono WQ);have Wl9:=oP Wl8;have Mj:=oP (Ki.o.below3 LP);have Wd7:wo.heap.size<=wr.heap.size:=LP.size
     have Vw0:(D1=⟨#[]⟩/\T=⟨#[63]⟩)\/(D1.toList.isEmpty=false/\T=D1):=by
      by_cases hD:D1=⟨#[]⟩
      ·exact .inl ⟨hD,by rw[Sy,jT hD]⟩
      refine .inr ⟨?_,by rw[Sy,jS hD]⟩;have Kk:=wS (x:=D1) (y:=⟨#[]⟩) (fun e=>hD (mI (T0j.1 e)));simpa [go_sem]using Kk
     have Ve4:(T.size:Int)<=20000:=ae;clear I WK7 LP WK8 hC LZ V Z hE Nl M TZ Ve2 hT Z0 Wi1 Sy NH Wl8 Ve0 HX;rcases Vw0 with⟨rfl,rfl⟩|⟨VN9,rfl⟩
     all_goals
      rcases KE with d2|⟨d2,d3⟩|⟨d2,d3,cl⟩
      all_goals
       go_wp2_with fail;refine Ve3.o.mono ?_;rintro e w2 ⟨rfl,Km⟩;have LC:=Mj.o.below3 Km;have Wi2:=Km.size;have Lo:=oP (Wl9.o.trans (Km.mono Wl9.o.size));clear Km;go_wp2_with fail;refine(Ve1.o _).mono ?_;rintro e w3 ⟨rfl,LF⟩;rw[LF];clear LF;go_wp2_with (at_builtin;refine kH _ rfl _ _ 22 rfl O.heap.size 9 i0 _ 1 16 underlying22 hi KJ KC Ky rfl ah _ _ _ rfl (LC.alloc _) ⟨w2.heap.size,0,none⟩ 1 1 [.string _] rfl rfl l8 ax ak ae ai ?_;intro v' wn Kc Kg _ _);have M4:Below O.heap.size O wn:=(Lo.o.alloc ae _).grown Kg ai (uH LC)
       have Og:wn.ownsRow O.heap.size 9 1 v' (lsF B L S (k+1)).length (qe (lsF B L S (k+1))):=by
        rw[SN.o,kq,HN.o,Vv9.o];unfold qe at Kc⊢;rw[l7];exact Kc
       have LV:=oP (And.intro Og M4);clear Kc Kg LC Og M4;exact MbD
  have d1:¬(k:Int)<1024:=ae;have Rx:k=1024:=ae
  have Oz:wr.ownsRow w.heap.size 9 1 u5 (lsF B L S 1024).length (qe (lsF B L S 1024)):=by
   rw[Rx]at Ke;exact pC Ke (by have:=KK.o.size;omega)
  have HF:=oP Oz;clear Ke Oz Rx LQ R MN Mh v0 v1 v2 I;go_wp2;go_ret2;exact⟨_,rfl,HF.o,Lu.o⟩
