/- SurX SurY SurZ SurCJ -/
import Derived.Test.YthokdbcpkmcieaaGreatDoorS45
import Derived.Deep.RegionHeld3
import Derived.Test.YthokdbcpkmcieaaGreatDoorS04
import Derived.ProofKit
import Derived.Deep.DeepHandedRow
import Derived.Deep.Slices
import Derived.Deep.Strs
set_option maxRecDepth 200000
set_option maxHeartbeats 8000000
namespace Go.Proofs.YthokdbcpkmcieaaGreatDoor
open Go Go.RowKit
theorem PlyC.new {w:World}{bb:Nat}(hb:BrdAt w bb brd0)(i0 i1 i2:Value):∃ W,w.alloc (.cells #[.pointer (some ⟨bb,0,none⟩),.pointer none,i0,i1,i2,.string ⟨#[]⟩,.string ⟨#[]⟩,.int .i64 0] 72)=W∧Below w.heap.size w W∧∀ h:Hst,PlyC W w.heap.size bb i0 i1 i2 ⟨brd0,h,[],[],0⟩:=by
 have hB:Below w.heap.size w (w.alloc (.cells #[.pointer (some ⟨bb,0,none⟩),.pointer none,i0,i1,i2,.string ⟨#[]⟩,.string ⟨#[]⟩,.int .i64 0] 72)):=(Below.refl _ _).alloc (Nat.le_refl _) _
 have hh:=heap_alloc_new w (.cells #[.pointer (some ⟨bb,0,none⟩),.pointer none,i0,i1,i2,.string ⟨#[]⟩,.string ⟨#[]⟩,.int .i64 0] 72)
 have hc:∀ j:Nat,(w.alloc (.cells #[.pointer (some ⟨bb,0,none⟩),.pointer none,i0,i1,i2,.string ⟨#[]⟩,.string ⟨#[]⟩,.int .i64 0] 72)).cell? ⟨w.heap.size,j,none⟩=#[.pointer (some ⟨bb,0,none⟩),.pointer none,i0,i1,i2,.string ⟨#[]⟩,.string ⟨#[]⟩,.int .i64 0][j]?:=fun j=>cell_of_row _ _ _ _ _ (0,0) hh
 refine ⟨_,rfl,hB,fun h=>⟨(hc 0).trans rfl,⟨_,(hc 1).trans rfl⟩,(hc 2).trans rfl,(hc 3).trans rfl,(hc 4).trans rfl,(hc 5).trans rfl,(hc 6).trans rfl,(hc 7).trans rfl,fun j=>frozen_of_row _ _ _ _ _ hh,hb.below hB,?_⟩⟩
 have:=hb.sto.lt
 omega
theorem kfresh_any (w:World)(ra:Option Addr)(rn rc:Nat)(raws:List Int)(mm:Int)(h:RawAt w ra rn raws)(hr:rn≤9223372036854775807)(hmm:w.cell? ⟨0,0,none⟩=some (.int .i64 mm)) :
  Calls Tryz.prog 19 #[.slice ra rn rc] w fun e w'=>∃ (ik lk sk pb bb:Nat) (i:Img) (w0:World),e=.returned (.pointer (some ⟨pb,0,none⟩))∧HImgAt w0 (.slice (some ⟨ik,0,none⟩) 1024 1024) (.slice (some ⟨lk,0,none⟩) 1024 1024) (.slice (some ⟨sk,0,none⟩) 1024 1024) i∧Z13 i=true∧Below w.heap.size w w0∧PlyE w0 pb bb (.slice (some ⟨ik,0,none⟩) 1024 1024) (.slice (some ⟨lk,0,none⟩) 1024 1024) (.slice (some ⟨sk,0,none⟩) 1024 1024) ⟨brd0,hst0 i 1,[],[],1⟩ w':=by
 have HI:=Z0a (kimage_any w ra rn rc raws mm h hr hmm)
 clear h hmm
 go_enter Tryz.func19,Tryz.ntmps19
 go_wp2_with (first | (go_at_call 33;refine HI.out.mono ?_;rintro e w1 ⟨ik,lk,sk,i,rfl,hI,hw,hB1⟩))
 obtain ⟨W2,hW2,hB2,hz2,hh2⟩:=box_img w1 ik lk sk
 rw [hW2]
 obtain ⟨X,hX⟩:∃ X,w1.heap.size=X:=⟨_,rfl⟩
 rw [hX] at hh2 hz2 ⊢
 have u0:W2.cell? ⟨X,0,none⟩=some (.slice (some ⟨ik,0,none⟩) 1024 1024):=by rw [cell_of_row _ _ _ _ _ (0,0) hh2];rfl
 have u1:W2.cell? ⟨X,1,none⟩=some (.slice (some ⟨lk,0,none⟩) 1024 1024):=by rw [cell_of_row _ _ _ _ _ (0,0) hh2];rfl
 have u2:W2.cell? ⟨X,2,none⟩=some (.slice (some ⟨sk,0,none⟩) 1024 1024):=by rw [cell_of_row _ _ _ _ _ (0,0) hh2];rfl
 have hXl:X<W2.heap.size:=by omega
 have HNB:=Z0a (newBoard_any W2.drew)
 have HF:=Z0a (And.intro hI (And.intro hw (And.intro hB1 (And.intro hB2 hX))))
 clear hI hw hB1 hB2 hX hh2 hz2 HI
 go_region_held3 (fun w'=>w'.cell? ⟨X,0,none⟩=some (.slice (some ⟨ik,0,none⟩) 1024 1024)∧w'.cell? ⟨X,1,none⟩=some (.slice (some ⟨lk,0,none⟩) 1024 1024)∧w'.cell? ⟨X,2,none⟩=some (.slice (some ⟨sk,0,none⟩) 1024 1024)) (go_keep) (first | (go_at_call 34;refine HNB.out.mono ?_;rintro e w3 ⟨bb,rfl,hbb,hb3,hB3⟩;have x0:=(World.cell?_of_block (a:=⟨X,0,none⟩) (hB3.block X hXl)).trans u0;have x1:=(World.cell?_of_block (a:=⟨X,1,none⟩) (hB3.block X hXl)).trans u1;have x2:=(World.cell?_of_block (a:=⟨X,2,none⟩) (hB3.block X hXl)).trans u2;obtain ⟨W4,hW4,hB4,hP4⟩:=PlyC.new hb3 (.slice (some ⟨ik,0,none⟩) 1024 1024) (.slice (some ⟨lk,0,none⟩) 1024 1024) (.slice (some ⟨sk,0,none⟩) 1024 1024);have y0:=(World.cell?_of_block (a:=⟨X,0,none⟩) (hB4.block X (World.block_lt_of_cell? _ _ x0))).trans x0;have y1:=(World.cell?_of_block (a:=⟨X,1,none⟩) (hB4.block X (World.block_lt_of_cell? _ _ x0))).trans x1;have y2:=(World.cell?_of_block (a:=⟨X,2,none⟩) (hB4.block X (World.block_lt_of_cell? _ _ x0))).trans x2;have HQ:=Z0a (And.intro hbb (And.intro hB3 (And.intro hB4 hP4)));clear hbb hB3 hB4 hP4 hb3))
 all_goals
  obtain ⟨hI,hw,hB1,hB2,hX⟩:=HF.out
  obtain ⟨hbb,hB3,hB4,hP4⟩:=HQ.out
  have hB3':Below W2.heap.size W2 w3:=⟨hB3.os,hB3.tape,hB3.output,hB3.size,hB3.block⟩
  have hs2:w1.heap.size≤W2.heap.size:=hB2.size
  have hs3:W2.heap.size≤w3.heap.size:=hB3.size
  have hb1w:Below w1.heap.size w1 W4:=(hB2.trans (hB3'.mono hs2)).trans (hB4.mono (Nat.le_trans hs2 hs3))
  have mC:=hP4 hstZ
  obtain ⟨pb,hpb⟩:∃ pb,w3.heap.size=pb:=⟨_,rfl⟩
  rw [hpb] at mC ⊢
  have hbb2:W2.heap.size≤bb:=hbb
  have HFl:=Z0a (fun w' (h:BrdAt w' bb brd0)=>Z5G bb brd0 w' h)
  have hfs:(txt (brd0.mem.take 1024)).size=1024:=by
   rw [Z0k,List.length_take]
   show min 1024 mem0.length=1024
   unfold mem0
   rw [List.length_replicate]
   rfl
  obtain ⟨FL,hFL⟩:∃ FL,txt (brd0.mem.take 1024)=FL:=⟨_,rfl⟩
  rw [hFL] at HFl hfs
  have hfi:(FL.size:Int)=1024:=by omega
  have HBg:=Z0a (fun w' (hq:Below W4.heap.size W4 w')=>Z5X pb bb (some ⟨ik,0,none⟩) (some ⟨lk,0,none⟩) (some ⟨sk,0,none⟩) 1024 1024 1024 i ⟨brd0,hstZ,[],[],0⟩ w1 w' (by show 0≤60000;omega) hI hw (hb1w.trans (hq.mono hb1w.size)) ⟨by omega,by omega⟩ (mC.below hq))
  have e0:=mC.c0
  have HC:=Z0a (And.intro mC (And.intro hI (And.intro hw hB1)))
  clear hI hw hB1 hB2 hX hbb hB3 hB4 hP4 hB3' hs2 hs3 hb1w mC hpb hbb2 hFL HF HQ x0 x1 x2 y0 y1 y2 u0 u1 u2
  go_wp2_with (first | (go_at_call 35;refine (HFl.out _ HC.out.1.b).mono ?_;rintro e w5 ⟨rfl,hB5⟩;have HB5:=Z0a hB5;clear hB5) | (go_at_call 36;refine (HBg.out _ HB5.out).mono ?_;rintro e w6 ⟨rfl,hE⟩;have HE:=Z0a hE;clear hE))
  go_ret
  exact ⟨ik,lk,sk,pb,bb,i,w1,rfl,HC.out.2.1,HC.out.2.2.1,HC.out.2.2.2,HE.out⟩
theorem Z7u (i:Img):∀ k,k≤16→(Z3R i k).Pairwise fun p q=>p.n≠q.n
 | 0,_=>List.Pairwise.nil
 | k+1,hk=>by
  unfold Z3R
  refine List.pairwise_append.2 ⟨Z7u i k (by omega),?_,fun p hp q hq=>?_⟩
  ·split
   ·exact List.pairwise_singleton _ _
   ·exact List.Pairwise.nil
  ·split at hq
   ·rw [List.mem_singleton.1 hq]
    obtain ⟨g,h1,_,rfl⟩:=(Z6j i k (by omega) p).1 hp
    intro e
    have:=Z3Z (by omega) (by omega) (show UInt8.ofNat g=UInt8.ofNat k from e)
    omega
   ·cases hq
theorem want_ok {i:Img}(hw:Z13 i=true):WOk (Z1W i):=⟨Z4f i (Z3x hw).1 16 (Nat.le_refl _),Z7u i 16 (Nat.le_refl _),Z4q i 16⟩
theorem page_0 (g:Nat)(hg:g<16):Z0v mem0 g=List.replicate 64 255:=by
 unfold Z0v mem0
 rw [List.drop_replicate,List.take_replicate]
 congr 1
 omega
theorem first_inv {W:List Pg}(hW:WOk W):Inv W ⟨brd0,hstW W 1,[],[],1⟩:=by
 refine ⟨hW,⟨Nat.le_refl _,by show 1≤60000;omega⟩,⟨⟨0,used_0⟩,fun g _ h=>?_,fun g hg _=>page_0 _ (u16 hg)⟩,Z36,⟨rfl,Z36,⟨0,rfl,fun _ p hp=>by simp at hp⟩,fun e=>?_,by show 0≤2;omega,?_,fun _=>⟨⟨1,0,by omega,.inl rfl⟩,?_,?_,by show 1≤5;omega,fun e=>?_,fun e=>?_,fun _=>⟨by show (1:UInt8)≠2;decide,by show (1:UInt8)≠3;decide⟩⟩,fun _ e=>?_,fun e=>?_⟩,.inl rfl,fun _ h2=>?_,.inl rfl⟩
 ·have h':Z0n mem0 g=true:=h
  rw [burnt_0] at h'
  cases h'
 ·exact absurd (show (0:Nat)=1 from e) (by omega)
 ·show (1:Nat)=0↔(0:Nat)≠0
  omega
 ·show Z0V (Z0F 1 0 1 ++ [])=1
  exact Z4Y (by omega) _ _ _
 ·show 0+3*W.length≤3*W.length+cOf 1
  omega
 ·exact absurd (show (1:Nat)=4∨(1:Nat)=5 from e) (by omega)
 ·exact absurd (show (1:Nat)=3 from e) (by omega)
 ·exact absurd (show (false:Bool)=true from e) (by decide)
 ·exact absurd (show (0:Nat)=1 from e) (by omega)
 ·exact absurd (show (false:Bool)=true from h2) (by decide)
theorem Z4R (s:Ply)(t:List UInt8):(hostP s t).n=s.n:=by
 unfold hostP
 split <;> rfl
theorem Z73 (s:Ply)(t:List UInt8):(keepB s t).n=s.n:=by
 unfold keepB
 split <;> rfl
theorem act_n (W:List Pg)(s:Ply)(k:Nat)(A B:Int):(actF W s k A B).n≤s.n+1:=by
 have hb:∀ (s:Ply) (t:List UInt8),(Z0b s t).1.n=s.n:=fun s t=>(Z1T s t).2.2.1
 unfold actF
 split
 ·exact Nat.le_succ _
 ·split
  ·exact Nat.le_succ _
  ·split
   ·exact Nat.le_succ _
   ·split
    ·split
     ·exact Nat.le_refl _
     ·exact Nat.le_succ _
    ·split
     ·split
      ·rw [Z4R,Z4R,hb]
       exact Nat.le_succ _
      ·exact Nat.le_succ _
     ·simp only
      split
      ·exact Nat.le_succ _
      ·have hr:∀ (x:Ply) (f:List UInt8),(if k=9 then Z0b (Z0b x f).1 f else Z0b x f).1.n=x.n:=fun x f=>by
        split
        ·rw [hb,hb]
        ·rw [hb]
       split
       ·rw [Z73,hr]
        exact Nat.le_succ _
       ·split
        ·rw [Z4R,Z73,hr]
         exact Nat.le_succ _
        ·split
         ·rw [Z4R,Z4R,Z73,hb,hb]
          exact Nat.le_succ _
         ·rw [Z4R,Z73,hb]
          exact Nat.le_succ _
structure ScrAt (w:World) (sa:Option Addr) (sn:Nat) (acts:List (Int × Int × Int)):Prop where
 len:sn=acts.length
 at_:∀ j (h:j<acts.length),∃ cb coff:Nat,sa=some ⟨cb,coff,none⟩∧w.cell? ⟨cb,coff+j*3,none⟩=some (.int .i64 acts[j].1)∧w.cell? ⟨cb,coff+j*3+1,none⟩=some (.int .i64 acts[j].2.1)∧w.cell? ⟨cb,coff+j*3+2,none⟩=some (.int .i64 acts[j].2.2)∧cb<w.heap.size
 bd:∀ a∈acts,(-9223372036854775808≤a.1∧a.1≤9223372036854775807)∧(-9223372036854775808≤a.2.1∧a.2.1≤9223372036854775807)∧(-9223372036854775808≤a.2.2∧a.2.2≤9223372036854775807)
theorem ScrAt.below {w w':World}{sa:Option Addr}{sn:Nat}{acts:List (Int × Int × Int)}(h:ScrAt w sa sn acts)(hb:Below w.heap.size w w'):ScrAt w' sa sn acts :=
 ⟨h.len,fun j hj=>by
  obtain ⟨cb,coff,h1,h2,h3,h4,h5⟩:=h.at_ j hj
  exact ⟨cb,coff,h1,(World.cell?_of_block (a:=⟨cb,coff+j*3,none⟩) (hb.block cb h5)).trans h2,(World.cell?_of_block (a:=⟨cb,coff+j*3+1,none⟩) (hb.block cb h5)).trans h3,(World.cell?_of_block (a:=⟨cb,coff+j*3+2,none⟩) (hb.block cb h5)).trans h4,Nat.lt_of_lt_of_le h5 hb.size⟩,h.bd⟩
theorem SlV.at_ {w:World}{b n c:Nat}{xs:List Value}(h:SlV w (.slice (some ⟨b,0,none⟩) n c) xs)(hn:0<xs.length):b<w.heap.size∧∀ k (hk:k<xs.length),w.cell? ⟨b,0+k,none⟩=some xs[k]:=by
 obtain ⟨a,cap,e,_,_,h4⟩:=h.is
 cases e
 obtain ⟨b',off,e1,e2,e3⟩:=h4 hn
 cases e1
 exact ⟨e2,e3⟩
theorem right_all {w0 w:World}{pb bb ik lk:Nat}{i2:Value}{i:Img}{p:Ply}{v2:Value}(hI:HImgAt w0 (.slice (some ⟨ik,0,none⟩) 1024 1024) (.slice (some ⟨lk,0,none⟩) 1024 1024) v2 i)(hw:Z13 i=true)(hi:Inv (Z1W i) p)(hE:PlyE w0 pb bb (.slice (some ⟨ik,0,none⟩) 1024 1024) (.slice (some ⟨lk,0,none⟩) 1024 1024) i2 p w) :
  Calls Tryz.prog 21 #[.pointer (some ⟨pb,0,none⟩)] w fun e w'=>e=.returned (.bool true)∧PlyE w0 pb bb (.slice (some ⟨ik,0,none⟩) 1024 1024) (.slice (some ⟨lk,0,none⟩) 1024 1024) i2 p w':=by
 obtain ⟨l0,l1,l2⟩:=Z3x hw
 obtain ⟨hb,lb,m⟩:=hE
 have hb0:(Z0c i.bytes).length=1024:=by unfold Z0c;rw [List.length_map,l0]
 have hb1:(Z1R i.laid).length=1024:=by unfold Z1R;rw [List.length_map,l1]
 obtain ⟨k0,q0⟩:=(hI.b.below m.b).at_ (by omega)
 obtain ⟨k1,q1⟩:=(hI.l.below m.b).at_ (by omega)
 refine (kright_any pb bb hb lb ik 0 1024 lk 0 1024 i2 i p w hw m.m (fun g hg=>right_of hw hi g hg) hi.mem.used.choose_spec.len k0 k1 (fun k hk=>?_) (fun k hk=>?_)).mono fun e w' ⟨he,hB⟩=>⟨he,hb,lb,m.below hB⟩
 ·rw [q0 k (by omega)]
  unfold Z0c
  rw [List.getElem_map,List.getD_eq_getElem?_getD,List.getElem?_eq_getElem (by omega)]
  rfl
 ·rw [q1 k (by omega)]
  unfold Z1R
  rw [List.getElem_map,List.getD_eq_getElem?_getD,List.getElem?_eq_getElem (by omega)]
  rfl
theorem pick_is:PickIs:=fun c n h1 h2 h3 h4 w=>Z4C c n h1 h2 h3 h4 w
theorem spoilt_is:SpoiltIs:=fun l k c w h1 h2 h3=>kspoilt_any l k c w h1 h2 h3
theorem sure_any (w:World)(ra:Option Addr)(rn rc:Nat)(raws:List Int)(sa:Option Addr)(sn sc:Nat)(acts:List (Int × Int × Int))(mm:Int)(h:RawAt w ra rn raws)(hr:rn≤9223372036854775807)(hS:ScrAt w sa sn acts)(hs:sn≤9223372036854775807)(hmm:w.cell? ⟨0,0,none⟩=some (.int .i64 mm)) :
  Calls Tryz.prog 7 #[.slice ra rn rc,.slice sa sn sc] w fun e w'=>e=.returned (.bool true)∧Below w.heap.size w w':=by
 have HFr:=Z0a (kfresh_any w ra rn rc raws mm h hr hmm)
 have HS:=Z0a hS
 obtain ⟨N,hN⟩:∃ N,min sn 150=N:=⟨_,rfl⟩
 have HN:=Z0a hN
 have hsi:(sn:Int)≤9223372036854775807:=by omega
 clear h hmm hS hN
 go_enter Tryz.func7,Tryz.ntmps7
 go_wp2_with (first | (go_at_call 19;refine HFr.out.mono ?_;rintro e w1 ⟨ik,lk,sk,pb,bb,i,w0,rfl,hI,hw,hB,hE⟩))
 have HI:=Z0a (And.intro hI (And.intro hw hB))
 have HE:=Z0a hE
 clear hI hw hB hE HFr
 go_loopw [6] (fun x wr=>∃ j:Nat,j≤N∧x=.int .i64 (j:Int)∧∃ p,Inv (Z1W i) p∧p.n≤1+j∧PlyE w0 pb bb (.slice (some ⟨ik,0,none⟩) 1024 1024) (.slice (some ⟨lk,0,none⟩) 1024 1024) (.slice (some ⟨sk,0,none⟩) 1024 1024) p wr) (fun x _=>N-(intOf x).toNat)
 case atStart=>exact ⟨0,Nat.zero_le _,rfl,_,first_inv (want_ok HI.out.2.1),Nat.le_refl _,HE.out⟩
 case round =>
  obtain ⟨j,hj,rfl,p,hi,hpn,hE⟩:=hrel
  have hn:=HN.out
  by_cases hlt:j<N
  ·have hj1:(j:Int)<(sn:Int):=by omega
   have hj2:(j:Int)<150:=by omega
   obtain ⟨hb,lb,m⟩:=hE
   have hBw:Below w.heap.size w wr:=HI.out.2.2.trans (m.b.mono HI.out.2.2.size)
   have hscr:=HS.out.below hBw
   have hjl:j<acts.length:=by have:=hscr.len;omega
   obtain ⟨cb,coff,rfl,s0,s1,s2,hal⟩:=hscr.at_ j hjl
   obtain ⟨⟨K,A,B⟩,ha⟩:∃ a,acts[j]=a:=⟨_,rfl⟩
   obtain ⟨b1,b2,b3⟩:=hscr.bd _ (List.getElem_mem hjl)
   rw [ha] at s0 s1 s2 b1 b2 b3
   have s0':wr.cell? ⟨cb,coff+j*3,none⟩=some (.int .i64 K):=s0
   have s1':wr.cell? ⟨cb,coff+j*3+1,none⟩=some (.int .i64 A):=s1
   have s2':wr.cell? ⟨cb,coff+j*3+2,none⟩=some (.int .i64 B):=s2
   have HA:=Z0a (kact_any pick_is spoilt_is (some ⟨ik,0,none⟩) (some ⟨lk,0,none⟩) (some ⟨sk,0,none⟩) 1024 1024 1024 i w0 wr pb bb hb lb p (by omega) HI.out.1 HI.out.2.1 hi m K A B b1 b2 b3)
   have hi2:=act_inv hi (by omega) (pkF K 14) A B
   have hn2:=act_n (Z1W i) p (pkF K 14) A B
   obtain ⟨P,hP⟩:∃ P,actF (Z1W i) p (pkF K 14) A B=P:=⟨_,rfl⟩
   rw [hP] at HA hi2 hn2
   have HR:=Z0a (fun w' (hE':PlyE w0 pb bb (.slice (some ⟨ik,0,none⟩) 1024 1024) (.slice (some ⟨lk,0,none⟩) 1024 1024) (.slice (some ⟨sk,0,none⟩) 1024 1024) P w')=>right_all HI.out.1 HI.out.2.1 hi2 hE')
   have HF:=Z0a (And.intro hi2 (show P.n≤1+(j+1) by omega))
   clear hi2 hn2 hP hi m hBw hscr s0 s1 s2 b1 b2 b3 ha hpn hn hjl
   go_wp2_with (first | (go_at_call 20;refine HA.out.mono ?_;rintro e w2 ⟨rfl,hE2⟩;have HE2:=Z0a hE2;clear hE2) | (go_at_call 21;refine (HR.out _ HE2.out).mono ?_;rintro e w3 ⟨rfl,hE3⟩;have HE3:=Z0a hE3;clear hE3))
   go_roundw
   case rel=>exact ⟨j+1,by omega,by go_num,P,HF.out.1,HF.out.2,HE3.out⟩
   case measure=>simp [intOf];omega
  ·have HR:=Z0a (right_all HI.out.1 HI.out.2.1 hi hE)
   have hBw:∀ w':World,PlyE w0 pb bb (.slice (some ⟨ik,0,none⟩) 1024 1024) (.slice (some ⟨lk,0,none⟩) 1024 1024) (.slice (some ⟨sk,0,none⟩) 1024 1024) p w'→Below w.heap.size w w':=fun w' ⟨hb,lb,m⟩=>HI.out.2.2.trans (m.b.mono HI.out.2.2.size)
   have HBw:=Z0a hBw
   clear hi hE hBw hpn
   by_cases hjr:(j:Int)<(sn:Int)
   ·have hj8:¬ (j:Int)<150:=by omega
    clear hn hlt
    go_wp2_with (first | (go_at_call 21;refine HR.out.mono ?_;rintro e w3 ⟨rfl,hE3⟩;have HE3:=Z0a hE3;clear hE3))
    go_ret
    exact ⟨rfl,HBw.out _ HE3.out⟩
   ·clear hn hlt
    go_wp2_with (first | (go_at_call 21;refine HR.out.mono ?_;rintro e w3 ⟨rfl,hE3⟩;have HE3:=Z0a hE3;clear hE3))
    go_ret
    exact ⟨rfl,HBw.out _ HE3.out⟩
end Go.Proofs.YthokdbcpkmcieaaGreatDoor
namespace Go.Proofs.YthokdbcpkmcieaaGreatDoor
open Go Go.ChangeShapes Go.WideShapes Go.ChangeAt Go.RowKit Go.WideElems Go.Deep
theorem Tryz.ownSurC:ownKnob Tryz.prog.godebug=none:=by kernel_rfl
theorem Z5U (W:World)(h:W.ShapedOpen Tryz.prog):∃ m,W.cell? ⟨0,0,none⟩=some (.int .i64 m):=Tryz.laysM145.s1_3 W h
theorem raws_of {H:Type}{enc:TypeId × Value→H}{W:World}{ca:Option Addr}{cn cc:Nat}{d:DataW H}{p:List MemPlace}(h:DataW.Trod enc Tryz.prog W 0 (fun _=>true) true 47 (.slice ca cn cc) d p):∃ raws,RawAt W ca cn raws∧cn≤9223372036854775807:=by
 obtain ⟨fuel,hf⟩:=h
 rcases open_ints Tryz.underlying47 Tryz.underlying3 (by kernel_rfl) hf with ⟨hcs,hx⟩ | ⟨a,len,cap,zs,hcs,_,hlc,hcm,hzl,hx,hcell,hwf⟩
 ·simp [Value.cells] at hcs
  obtain ⟨rfl,rfl,rfl⟩:=hcs
  exact ⟨[],⟨rfl,fun j hj=>absurd hj (Nat.not_lt_zero _),fun r hr=>by cases hr⟩,Nat.zero_le _⟩
 ·simp [Value.cells] at hcs
  obtain ⟨rfl,rfl,rfl⟩:=hcs
  simp only [if_true] at hzl
  have hb:∀ r∈zs,-9223372036854775808≤r∧r≤9223372036854775807:=fun r hr=>by
   have hw:=hwf r hr
   simpa [Lit.wf,IntKind.min,IntKind.max,IntKind.signed,IntKind.bits] using hw
  refine ⟨zs.take cn,⟨by rw [List.length_take];omega,fun j hj=>?_,fun r hr=>hb r (List.mem_of_mem_take hr)⟩,by unfold maxLen at *;omega⟩
  rw [List.length_take] at hj
  have c1:=hcell j (by omega)
  have c0:=hcell 0 (by omega)
  obtain ⟨b,off,spot⟩:=a
  have hspot:spot=none:=by simpa [Addr.add] using World.cell?_spot c0
  subst hspot
  rw [Addr.add_lit] at c1
  rw [List.getD_eq_getElem?_getD,List.getElem?_eq_getElem (by omega)] at c1
  refine ⟨b,off,rfl,?_,by have:=World.block_lt_of_cell? _ _ c1;simpa using this⟩
  rw [List.getElem_take]
  exact c1
theorem acts_of {H:Type}{enc:TypeId × Value→H}{W:World}{sa:Option Addr}{sn sc:Nat}{d:DataW H}{p:List MemPlace}(h:DataW.Trod enc Tryz.prog W 0 (fun _=>true) true 49 (.slice sa sn sc) d p):∃ acts,ScrAt W sa sn acts∧sn≤9223372036854775807:=by
 obtain ⟨fuel,hf⟩:=h
 rcases open_slice Tryz.underlying49 hf with ⟨hcs,hx⟩ | ⟨a,len',cap',mm,n,D,Pl,hcs,_,hlc,hcm,hmm,hx,hel⟩
 ·simp [Value.cells] at hcs
  obtain ⟨rfl,rfl,rfl⟩:=hcs
  exact ⟨[],⟨rfl,fun j hj=>absurd hj (Nat.not_lt_zero _),fun r hr=>by cases hr⟩,Nat.zero_le _⟩
 ·simp [Value.cells] at hcs
  obtain ⟨rfl,rfl,rfl⟩:=hcs
  simp only [if_true] at hmm
  have hcell:Tryz.prog.cellsOf 54=3:=by kernel_rfl
  have hall:∀ i,i<sn→∃ x:Int × Int × Int,W.cell? (a.add (i*3))=some (.int .i64 x.1)∧W.cell? ((a.add (i*3)).add 1)=some (.int .i64 x.2.1)∧W.cell? ((a.add (i*3)).add 2)=some (.int .i64 x.2.2)∧(-9223372036854775808≤x.1∧x.1≤9223372036854775807)∧(-9223372036854775808≤x.2.1∧x.2.1≤9223372036854775807)∧(-9223372036854775808≤x.2.2∧x.2.2≤9223372036854775807):=by
   intro i hi
   obtain ⟨cs',h1,h2⟩:=hel i (by omega)
   rw [hcell] at h1
   obtain ⟨_,hl2,hat⟩:=World.cells?_some h1
   obtain ⟨y0,y1,y2,n',_,_,hy0,hy1,hy2⟩:=trod_struct3 Tryz.underlying54 h2
   match cs',hl2 with
   | [u0,u1,u2],_ =>
    obtain ⟨x0,e0,_,w0⟩:=DataW.trod_int Tryz.underlying3 (show DataW.trod enc Tryz.prog W 0 (fun _=>true) true n' 3 [u0]=some y0 from hy0)
    obtain ⟨x1,e1,_,w1⟩:=DataW.trod_int Tryz.underlying3 (show DataW.trod enc Tryz.prog W 0 (fun _=>true) true n' 3 [u1]=some y1 from hy1)
    obtain ⟨x2,e2,_,w2⟩:=DataW.trod_int Tryz.underlying3 (show DataW.trod enc Tryz.prog W 0 (fun _=>true) true n' 3 [u2]=some y2 from hy2)
    simp only [List.cons.injEq,and_true] at e0 e1 e2
    subst e0 e1 e2
    exact ⟨⟨x0,x1,x2⟩,by have:=hat 0 (by omega);simpa [Addr.add] using this,by have:=hat 1 (by omega);simpa using this,by have:=hat 2 (by omega);simpa using this,by simpa [Lit.wf,IntKind.min,IntKind.max,IntKind.signed,IntKind.bits] using w0,by simpa [Lit.wf,IntKind.min,IntKind.max,IntKind.signed,IntKind.bits] using w1,by simpa [Lit.wf,IntKind.min,IntKind.max,IntKind.signed,IntKind.bits] using w2⟩
  obtain ⟨X,hX⟩:=choose_lt (α:=Int × Int × Int) hall
  have hlen:((List.range sn).map X).length=sn:=by simp
  refine ⟨(List.range sn).map X,⟨hlen.symm,fun j hj=>?_,fun r hr=>?_⟩,by unfold maxLen at *;omega⟩
  ·rw [hlen] at hj
   have e:((List.range sn).map X)[j]=X j:=by simp
   rw [e]
   obtain ⟨c0,c1,c2,_⟩:=hX j hj
   have c00:=(hX 0 (by omega)).1
   obtain ⟨b,off,spot⟩:=a
   have hspot:spot=none:=by simpa [Addr.add] using World.cell?_spot c00
   subst hspot
   rw [add_plain] at c0 c1 c2
   rw [add_plain] at c1 c2
   exact ⟨b,off,rfl,c0,c1,c2,by have:=World.block_lt_of_cell? _ _ c0;simpa using this⟩
  ·obtain ⟨j,hj,rfl⟩:=List.mem_map.1 hr
   exact (hX j (List.mem_range.1 hj)).2.2.2
theorem Z70 (H:Type)(enc:TypeId × Value→H)(W:World)(base:Nat)(args:Array Value)(ds gs:List (DataW H))(before:List MemPlace)
  (hval:∀ (j:Nat) t v,Tryz.f7.params[j]?=some t→args[j]?=some v→Value.okWide Tryz.prog W .any base t v)
  (hW:DataW.Whole enc Tryz.prog Tryz.f7.params.toList Rows.sureSpec.vars false W args.toList ds gs before) (hsh:W.ShapedOpen Tryz.prog) :
  Calls Tryz.prog 7 args W fun e W'=>∃ v,e=.returned v∧Rows.sureSpec.post enc Tryz.prog Tryz.f7 false true false false W args v W':=by
 obtain ⟨mm,hm⟩:=Z5U W hsh
 have hW':=hW
 obtain ⟨p,q,hA0,hV,rfl,hfz,hnd⟩:=hW
 have hA:DataW.TrodAll enc Tryz.prog W 0 (fun _=>true) true Tryz.f7.params.toList args.toList ds p:=hA0
 rw [Tryz.params7] at hA hval
 obtain ⟨v0,vs0,d0,ds0,p0,q0,hargs,rfl,rfl,h0,r0⟩:=trodAll_cons hA
 obtain ⟨v1,vs1,d1,ds1,p1,q1,rfl,rfl,rfl,h1,r1⟩:=trodAll_cons r0
 obtain ⟨rfl,rfl,rfl⟩:=trodAll_nil r1
 obtain rfl:args=#[v0,v1]:=by cases args;simp_all
 obtain ⟨rfl,rfl⟩:=trodVars_none hV
 have hlt:∀ x∈p0++(p1 ++ []),x.block<W.heap.size:=fun x hx=>by have:=hW'.lt x (by simpa using hx);simpa using this
 obtain ⟨ca,cn,cc,rfl⟩:=okWide_slice Tryz.underlying47 (hval 0 47 v0 rfl rfl)
 obtain ⟨sa,sn,sc,rfl⟩:=okWide_slice Tryz.underlying49 (hval 1 49 v1 rfl rfl)
 obtain ⟨raws,hraw,hcn⟩:=raws_of h0
 obtain ⟨acts,hact,hsn⟩:=acts_of h1
 refine (sure_any W ca cn cc raws sa sn sc acts mm hraw hcn hact hsn hm).mono fun e W' ⟨he,hB⟩=>?_
 subst he
 simp only [List.append_nil] at hW'
 refine ⟨_,rfl,_,_,_,[],p0++(p1 ++ []),[],hW',?_,?_,rfl,hB.frame _,fun h=>by cases h⟩
 ·exact trodAll_mk1 (shut_bool Tryz.underlying4 _)
 ·exact trodAll_cons_mk (Below.trod Tryz.laidOut (by kernel_rfl) (of_decide_eq_true (by kernel_rfl)) h0 hB (fun x hx=>hlt x (by simp [hx]))) (trodAll_cons_mk (Below.trod Tryz.laidOut (by kernel_rfl) (of_decide_eq_true (by kernel_rfl)) h1 hB (fun x hx=>hlt x (by simp [hx]))) trodAll_mk0)
end Go.Proofs.YthokdbcpkmcieaaGreatDoor
