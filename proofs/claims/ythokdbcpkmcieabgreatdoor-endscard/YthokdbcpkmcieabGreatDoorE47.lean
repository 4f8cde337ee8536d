/- SurX SurY EndE EndF -/
import Derived.Test.YthokdbcpkmcieabGreatDoorE46
import Derived.Deep.RegionHeld3
import Derived.Test.YthokdbcpkmcieabGreatDoorE43
set_option maxRecDepth 200000
set_option maxHeartbeats 8000000
namespace Go.Proofs.YthokdbcpkmcieabGreatDoor
open Go Go.RowKit
theorem PlyC.new {w:World}{bb:Nat}(hb:BrdAt w bb brd0)(i0 i1 i2:Value):∃ W,w.alloc (.cells #[.pointer (some ⟨bb,0,none⟩),.pointer none,i0,i1,i2,.string ⟨#[]⟩,.string ⟨#[]⟩,.int .i64 0] 37)=W∧Below w.heap.size w W∧∀ h:Hst,PlyC W w.heap.size bb i0 i1 i2 ⟨brd0,h,[],[],0⟩:=by
 have hB:Below w.heap.size w (w.alloc (.cells #[.pointer (some ⟨bb,0,none⟩),.pointer none,i0,i1,i2,.string ⟨#[]⟩,.string ⟨#[]⟩,.int .i64 0] 37)):=(Below.refl _ _).alloc (Nat.le_refl _) _
 have hh:=heap_alloc_new w (.cells #[.pointer (some ⟨bb,0,none⟩),.pointer none,i0,i1,i2,.string ⟨#[]⟩,.string ⟨#[]⟩,.int .i64 0] 37)
 have hc:∀ j:Nat,(w.alloc (.cells #[.pointer (some ⟨bb,0,none⟩),.pointer none,i0,i1,i2,.string ⟨#[]⟩,.string ⟨#[]⟩,.int .i64 0] 37)).cell? ⟨w.heap.size,j,none⟩=#[.pointer (some ⟨bb,0,none⟩),.pointer none,i0,i1,i2,.string ⟨#[]⟩,.string ⟨#[]⟩,.int .i64 0][j]?:=fun j=>cell_of_row _ _ _ _ _ (0,0) hh
 refine ⟨_,rfl,hB,fun h=>⟨(hc 0).trans rfl,⟨_,(hc 1).trans rfl⟩,(hc 2).trans rfl,(hc 3).trans rfl,(hc 4).trans rfl,(hc 5).trans rfl,(hc 6).trans rfl,(hc 7).trans rfl,fun j=>frozen_of_row _ _ _ _ _ hh,hb.below hB,?_⟩⟩
 have:=hb.sto.lt
 omega
theorem kfresh_any (w:World)(ra:Option Addr)(rn rc:Nat)(raws:List Int)(mm:Int)(h:RawAt w ra rn raws)(hr:rn≤9223372036854775807)(hmm:w.cell? ⟨0,0,none⟩=some (.int .i64 mm)) :
  Calls Tryz.prog 5 #[.slice ra rn rc] w fun e w'=>∃ (ik lk sk pb bb:Nat) (i:Img) (w0:World),e=.returned (.pointer (some ⟨pb,0,none⟩))∧HImgAt w0 (.slice (some ⟨ik,0,none⟩) 1024 1024) (.slice (some ⟨lk,0,none⟩) 1024 1024) (.slice (some ⟨sk,0,none⟩) 1024 1024) i∧Z11 i=true∧Below w.heap.size w w0∧PlyE w0 pb bb (.slice (some ⟨ik,0,none⟩) 1024 1024) (.slice (some ⟨lk,0,none⟩) 1024 1024) (.slice (some ⟨sk,0,none⟩) 1024 1024) ⟨brd0,hst0 i 1,[],[],1⟩ w':=by
 have HI:=Z0a (kimage_any w ra rn rc raws mm h hr hmm)
 clear h hmm
 go_enter Tryz.func5,Tryz.ntmps5
 go_wp2_with (first | (go_at_call 17;refine HI.out.mono ?_;rintro e w1 ⟨ik,lk,sk,i,rfl,hI,hw,hB1⟩))
 obtain ⟨W2,hW2,hB2,hz2,hh2⟩:=box_img w1 ik lk sk
 rw [hW2]
 obtain ⟨X,hX⟩:∃ X,w1.heap.size=X:=⟨_,rfl⟩
 rw [hX] at hh2 hz2 ⊢
 have u0:W2.cell? ⟨X,0,none⟩=some (.slice (some ⟨ik,0,none⟩) 1024 1024):=by rw [cell_of_row _ _ _ _ _ (0,0) hh2];rfl
 have u1:W2.cell? ⟨X,1,none⟩=some (.slice (some ⟨lk,0,none⟩) 1024 1024):=by rw [cell_of_row _ _ _ _ _ (0,0) hh2];rfl
 have u2:W2.cell? ⟨X,2,none⟩=some (.slice (some ⟨sk,0,none⟩) 1024 1024):=by rw [cell_of_row _ _ _ _ _ (0,0) hh2];rfl
 have hXl:X<W2.heap.size:=by omega
 have HNB:=Z0a (newBoard_any W2.drew)
 have HF:=Z0a (And.intro hI (And.intro hw (And.intro hB1 (And.intro hB2 hX))))
 clear hI hw hB1 hB2 hX hh2 hz2 HI
 go_region_held3 (fun w'=>w'.cell? ⟨X,0,none⟩=some (.slice (some ⟨ik,0,none⟩) 1024 1024)∧w'.cell? ⟨X,1,none⟩=some (.slice (some ⟨lk,0,none⟩) 1024 1024)∧w'.cell? ⟨X,2,none⟩=some (.slice (some ⟨sk,0,none⟩) 1024 1024)) (go_keep) (first | (go_at_call 18;refine HNB.out.mono ?_;rintro e w3 ⟨bb,rfl,hbb,hb3,hB3⟩;have x0:=(World.cell?_of_block (a:=⟨X,0,none⟩) (hB3.block X hXl)).trans u0;have x1:=(World.cell?_of_block (a:=⟨X,1,none⟩) (hB3.block X hXl)).trans u1;have x2:=(World.cell?_of_block (a:=⟨X,2,none⟩) (hB3.block X hXl)).trans u2;obtain ⟨W4,hW4,hB4,hP4⟩:=PlyC.new hb3 (.slice (some ⟨ik,0,none⟩) 1024 1024) (.slice (some ⟨lk,0,none⟩) 1024 1024) (.slice (some ⟨sk,0,none⟩) 1024 1024);have y0:=(World.cell?_of_block (a:=⟨X,0,none⟩) (hB4.block X (World.block_lt_of_cell? _ _ x0))).trans x0;have y1:=(World.cell?_of_block (a:=⟨X,1,none⟩) (hB4.block X (World.block_lt_of_cell? _ _ x0))).trans x1;have y2:=(World.cell?_of_block (a:=⟨X,2,none⟩) (hB4.block X (World.block_lt_of_cell? _ _ x0))).trans x2;have HQ:=Z0a (And.intro hbb (And.intro hB3 (And.intro hB4 hP4)));clear hbb hB3 hB4 hP4 hb3))
 all_goals
  obtain ⟨hI,hw,hB1,hB2,hX⟩:=HF.out
  obtain ⟨hbb,hB3,hB4,hP4⟩:=HQ.out
  have hB3':Below W2.heap.size W2 w3:=⟨hB3.os,hB3.tape,hB3.output,hB3.size,hB3.block⟩
  have hs2:w1.heap.size≤W2.heap.size:=hB2.size
  have hs3:W2.heap.size≤w3.heap.size:=hB3.size
  have hb1w:Below w1.heap.size w1 W4:=(hB2.trans (hB3'.mono hs2)).trans (hB4.mono (Nat.le_trans hs2 hs3))
  have mC:=hP4 hstZ
  obtain ⟨pb,hpb⟩:∃ pb,w3.heap.size=pb:=⟨_,rfl⟩
  rw [hpb] at mC ⊢
  have hbb2:W2.heap.size≤bb:=hbb
  have HFl:=Z0a (fun w' (h:BrdAt w' bb brd0)=>Z6i bb brd0 w' h)
  have hfs:(txt (brd0.mem.take 1024)).size=1024:=by
   rw [Z0k,List.length_take]
   show min 1024 mem0.length=1024
   unfold mem0
   rw [List.length_replicate]
   rfl
  obtain ⟨FL,hFL⟩:∃ FL,txt (brd0.mem.take 1024)=FL:=⟨_,rfl⟩
  rw [hFL] at HFl hfs
  have hfi:(FL.size:Int)=1024:=by omega
  have HBg:=Z0a (fun w' (hq:Below W4.heap.size W4 w')=>Z4i pb bb (some ⟨ik,0,none⟩) (some ⟨lk,0,none⟩) (some ⟨sk,0,none⟩) 1024 1024 1024 i ⟨brd0,hstZ,[],[],0⟩ w1 w' (by show 0≤60000;omega) hI hw (hb1w.trans (hq.mono hb1w.size)) ⟨by omega,by omega⟩ (mC.below hq))
  have e0:=mC.c0
  have HC:=Z0a (And.intro mC (And.intro hI (And.intro hw hB1)))
  clear hI hw hB1 hB2 hX hbb hB3 hB4 hP4 hB3' hs2 hs3 hb1w mC hpb hbb2 hFL HF HQ x0 x1 x2 y0 y1 y2 u0 u1 u2
  go_wp2_with (first | (go_at_call 19;refine (HFl.out _ HC.out.1.b).mono ?_;rintro e w5 ⟨rfl,hB5⟩;have HB5:=Z0a hB5;clear hB5) | (go_at_call 9;refine (HBg.out _ HB5.out).mono ?_;rintro e w6 ⟨rfl,hE⟩;have HE:=Z0a hE;clear hE))
  go_ret
  exact ⟨ik,lk,sk,pb,bb,i,w1,rfl,HC.out.2.1,HC.out.2.2.1,HC.out.2.2.2,HE.out⟩
theorem Z7I (i:Img):∀ k,k≤16→(Z34 i k).Pairwise fun p q=>p.n≠q.n
 | 0,_=>List.Pairwise.nil
 | k+1,hk=>by
  unfold Z34
  refine List.pairwise_append.2 ⟨Z7I i k (by omega),?_,fun p hp q hq=>?_⟩
  ·split
   ·exact List.pairwise_singleton _ _
   ·exact List.Pairwise.nil
  ·split at hq
   ·rw [List.mem_singleton.1 hq]
    obtain ⟨g,h1,_,rfl⟩:=(Z6C i k (by omega) p).1 hp
    intro e
    have:=Z4h (by omega) (by omega) (show UInt8.ofNat g=UInt8.ofNat k from e)
    omega
   ·cases hq
theorem want_ok {i:Img}(hw:Z11 i=true):WOk (Z1k i):=⟨Z4d i (Z3b hw).1 16 (Nat.le_refl _),Z7I i 16 (Nat.le_refl _),Z4M i 16⟩
theorem page_0 (g:Nat)(hg:g<16):Z0w mem0 g=List.replicate 64 255:=by
 unfold Z0w mem0
 rw [List.drop_replicate,List.take_replicate]
 congr 1
 omega
theorem first_inv {W:List Pg}(hW:WOk W):Inv W ⟨brd0,hstW W 1,[],[],1⟩:=by
 refine ⟨hW,⟨Nat.le_refl _,by show 1≤60000;omega⟩,⟨⟨0,used_0⟩,fun g _ h=>?_,fun g hg _=>page_0 _ (u16 hg)⟩,Z4p,⟨rfl,Z4p,⟨0,rfl,fun _ p hp=>by simp at hp⟩,fun e=>?_,by show 0≤2;omega,?_,fun _=>⟨⟨1,0,by omega,.inl rfl⟩,?_,?_,by show 1≤5;omega,fun e=>?_,fun e=>?_,fun _=>⟨by show (1:UInt8)≠2;decide,by show (1:UInt8)≠3;decide⟩⟩,fun _ e=>?_,fun e=>?_⟩,.inl rfl,fun _ h2=>?_,.inl rfl⟩
 ·have h':Z0h mem0 g=true:=h
  rw [burnt_0] at h'
  cases h'
 ·exact absurd (show (0:Nat)=1 from e) (by omega)
 ·show (1:Nat)=0↔(0:Nat)≠0
  omega
 ·show Z0C (Z0F 1 0 1 ++ [])=1
  exact Z4Z (by omega) _ _ _
 ·show 0+3*W.length≤3*W.length+cOf 1
  omega
 ·exact absurd (show (1:Nat)=4∨(1:Nat)=5 from e) (by omega)
 ·exact absurd (show (1:Nat)=3 from e) (by omega)
 ·exact absurd (show (false:Bool)=true from e) (by decide)
 ·exact absurd (show (0:Nat)=1 from e) (by omega)
 ·exact absurd (show (false:Bool)=true from h2) (by decide)
theorem Z45 (s:Ply)(t:List UInt8):(hostP s t).n=s.n:=by
 unfold hostP
 split <;> rfl
theorem Z8w (s:Ply)(t:List UInt8):(keepB s t).n=s.n:=by
 unfold keepB
 split <;> rfl
structure ScrAt (w:World) (sa:Option Addr) (sn:Nat) (acts:List (Int × Int × Int)):Prop where
 len:sn=acts.length
 at_:∀ j (h:j<acts.length),∃ cb coff:Nat,sa=some ⟨cb,coff,none⟩∧w.cell? ⟨cb,coff+j*3,none⟩=some (.int .i64 acts[j].1)∧w.cell? ⟨cb,coff+j*3+1,none⟩=some (.int .i64 acts[j].2.1)∧w.cell? ⟨cb,coff+j*3+2,none⟩=some (.int .i64 acts[j].2.2)∧cb<w.heap.size
 bd:∀ a∈acts,(-9223372036854775808≤a.1∧a.1≤9223372036854775807)∧(-9223372036854775808≤a.2.1∧a.2.1≤9223372036854775807)∧(-9223372036854775808≤a.2.2∧a.2.2≤9223372036854775807)
theorem ScrAt.below {w w':World}{sa:Option Addr}{sn:Nat}{acts:List (Int × Int × Int)}(h:ScrAt w sa sn acts)(hb:Below w.heap.size w w'):ScrAt w' sa sn acts :=
 ⟨h.len,fun j hj=>by
  obtain ⟨cb,coff,h1,h2,h3,h4,h5⟩:=h.at_ j hj
  exact ⟨cb,coff,h1,(World.cell?_of_block (a:=⟨cb,coff+j*3,none⟩) (hb.block cb h5)).trans h2,(World.cell?_of_block (a:=⟨cb,coff+j*3+1,none⟩) (hb.block cb h5)).trans h3,(World.cell?_of_block (a:=⟨cb,coff+j*3+2,none⟩) (hb.block cb h5)).trans h4,Nat.lt_of_lt_of_le h5 hb.size⟩,h.bd⟩
theorem SlV.at_ {w:World}{b n c:Nat}{xs:List Value}(h:SlV w (.slice (some ⟨b,0,none⟩) n c) xs)(hn:0<xs.length):b<w.heap.size∧∀ k (hk:k<xs.length),w.cell? ⟨b,0+k,none⟩=some xs[k]:=by
 obtain ⟨a,cap,e,_,_,h4⟩:=h.is
 cases e
 obtain ⟨b',off,e1,e2,e3⟩:=h4 hn
 cases e1
 exact ⟨e2,e3⟩
theorem right_all {w0 w:World}{pb bb ik lk:Nat}{i2:Value}{i:Img}{p:Ply}{v2:Value}(hI:HImgAt w0 (.slice (some ⟨ik,0,none⟩) 1024 1024) (.slice (some ⟨lk,0,none⟩) 1024 1024) v2 i)(hw:Z11 i=true)(hi:Inv (Z1k i) p)(hE:PlyE w0 pb bb (.slice (some ⟨ik,0,none⟩) 1024 1024) (.slice (some ⟨lk,0,none⟩) 1024 1024) i2 p w) :
  Calls Tryz.prog 11 #[.pointer (some ⟨pb,0,none⟩)] w fun e w'=>e=.returned (.bool true)∧PlyE w0 pb bb (.slice (some ⟨ik,0,none⟩) 1024 1024) (.slice (some ⟨lk,0,none⟩) 1024 1024) i2 p w':=by
 obtain ⟨l0,l1,l2⟩:=Z3b hw
 obtain ⟨hb,lb,m⟩:=hE
 have hb0:(Z0f i.bytes).length=1024:=by unfold Z0f;rw [List.length_map,l0]
 have hb1:(Z13 i.laid).length=1024:=by unfold Z13;rw [List.length_map,l1]
 obtain ⟨k0,q0⟩:=(hI.b.below m.b).at_ (by omega)
 obtain ⟨k1,q1⟩:=(hI.l.below m.b).at_ (by omega)
 refine (kright_any pb bb hb lb ik 0 1024 lk 0 1024 i2 i p w hw m.m (fun g hg=>right_of hw hi g hg) hi.mem.used.choose_spec.len k0 k1 (fun k hk=>?_) (fun k hk=>?_)).mono fun e w' ⟨he,hB⟩=>⟨he,hb,lb,m.below hB⟩
 ·rw [q0 k (by omega)]
  unfold Z0f
  rw [List.getElem_map,List.getD_eq_getElem?_getD,List.getElem?_eq_getElem (by omega)]
  rfl
 ·rw [q1 k (by omega)]
  unfold Z13
  rw [List.getElem_map,List.getD_eq_getElem?_getD,List.getElem?_eq_getElem (by omega)]
  rfl
theorem pick_is:PickIs:=fun c n h1 h2 h3 h4 w=>Z4K c n h1 h2 h3 h4 w
theorem spoilt_is:SpoiltIs:=fun l k c w h1 h2 h3=>kspoilt_any l k c w h1 h2 h3
theorem left_cons {h:Hst}(hl:0<h.left.length):h.left=Z0d h :: h.left.drop 1:=by
 unfold Z0d
 cases e:h.left with
 | nil=>rw [e] at hl;simp at hl
 | cons a l=>rfl
theorem G2.goOn {W:List Pg}{b:Brd}{h:Hst}{late lateB:List UInt8}{n k:Nat}(hi:Inv W ⟨b,goOnH h,late,lateB,n⟩)(ok:HOk (goOnH h))(hon:b.on=true)(hp:b.pow.cut=false)(hu:Used b.mem k)(hr:k+2*unb b.mem h.left≤60)(hst:h.state=0)(ht:b.talk.opn=true∧b.talk.ses=h.ses∧h.asked.getD 2 0=b.talk.num)(hb:∀ p∈h.left,Z6x p h.burnt=Z0h b.mem p.n):G2 W ⟨b,goOnH h,late,lateB,n⟩ k∧Z4a (goOnH h)≤2*h.left.length:=by
 unfold goOnH at hi ok ⊢
 by_cases he:h.left.length=0
 ·rw [if_pos he] at hi ok ⊢
  exact ⟨⟨hi,ok,hon,hp,hu,hr,fun e=>absurd rfl e,fun e=>absurd rfl e,fun e=>by have e':(3:Nat)≤0:=e;omega,fun e=>by have e':(3:Nat)≤0:=e;omega,by show (1:Nat)≠2;omega⟩,Nat.zero_le _⟩
 ·rw [if_neg he] at hi ok ⊢
  have hlen:0<h.left.length:=by omega
  have hc:=left_cons hlen
  have hf:Z0d h∈h.left:=Z2r hlen
  have hd:∀ p∈h.left.drop 1,p∈h.left:=fun p hp=>List.mem_of_mem_drop hp
  have hnum:∀ (what:UInt8) (rest:List UInt8) (tk:Nat),(nextH h what rest tk).asked.getD 2 0=b.talk.num+1:=fun what rest tk=>by
   rw [Z6k,ht.2.2]
  by_cases hb1:Z6x (Z0d h) h.burnt=true
  ·rw [if_pos hb1] at hi ok ⊢
   refine ⟨⟨hi,ok,hon,hp,hu,hr,fun _=>rfl,fun _ _=>⟨ht.1,ht.2.1,hnum _ _ _⟩,fun _ p hp=>hb p (hd p hp),fun _=>?_,by show h.state≠2;omega⟩,?_⟩
   ·show Z0h b.mem (Z0d h).n=decide ((4:Nat)≠3)
    rw [←hb _ hf,hb1]
    rfl
   ·show 2*h.left.length-1≤_
    omega
  ·rw [if_neg hb1] at hi ok ⊢
   refine ⟨⟨hi,ok,hon,hp,hu,hr,fun _=>rfl,fun _ _=>⟨ht.1,ht.2.1,hnum _ _ _⟩,fun _ p hp=>hb p (hd p hp),fun _=>?_,by show h.state≠2;omega⟩,?_⟩
   ·show Z0h b.mem (Z0d h).n=decide ((3:Nat)≠3)
    rw [←hb _ hf]
    simpa using hb1
   ·show 2*h.left.length≤_
    omega
theorem state_bytes {b:Nat}(h:b<65536):(UInt8.ofNat (b/256)).toNat*256+(UInt8.ofNat (b%256)).toNat=b:=by
 simp
 omega
theorem takes_1 {h:Hst}(t:h.take=1)(bs:List UInt8):takesH h true bs=nextH h 4 [] 2:=by
 unfold takesH
 rw [if_pos t,if_pos rfl]
theorem takes_2 {h:Hst}(t:h.take=2)(bs:List UInt8):takesH h true bs=goOnH (Z2D h ((bs.getD 0 0).toNat*256+(bs.getD 1 0).toNat)):=by
 unfold takesH
 rw [if_neg (by omega),if_pos t,if_pos rfl]
theorem takes_3 {h:Hst}(t:h.take=3)(bs:List UInt8):takesH h true bs=askReadH h 5:=by
 unfold takesH
 rw [if_neg (by omega),if_neg (by omega),if_pos t,if_pos rfl]
theorem takes_4 {h:Hst}(t:h.take=4∨h.take=5){bs:List UInt8}(hb:bs=(Z0d h).bs):takesH h true bs=endPageH h:=by
 unfold takesH
 rw [if_neg (by omega),if_neg (by omega),if_neg (by omega)]
 split
 ·exact if_pos ⟨rfl,hb⟩
 ·exact if_pos ⟨rfl,hb⟩
theorem G2.step {W:List Pg}{s:Ply}{k:Nat}(g:G2 W s k)(h0:s.h.take≠0)(hn:s.n+1≤60000)(A B:Int):∃ k',G2 W (actF W s 0 A B) k'∧Z4a (actF W s 0 A B).h<Z4a s.h:=by
 have hi':=act_inv g.inv hn 0 A B
 have a:=g.inv.host.ask h0
 have hst:s.h.state=0:=Classical.byContradiction fun e=>h0 (g.inv.host.going.2 e)
 have hsd:=g.said h0
 have hsay:(sayH s.h).1=⟨s.h.state,s.h.ses,s.h.left,s.h.burnt,s.h.ear,s.h.asked,s.h.take,true,s.h.tries,s.h.ticks⟩:=by
  unfold sayH
  rw [if_neg (by rw [hsd];simp [h0])]
 have hok:∀ y bs,HOk (takesH (Z0E (sayH s.h).1 ⟨1,[]⟩) y bs):=fun y bs=>(g.ok.sayH.setEar _).takesH (by rw [hsay];exact h0) y bs
 have ho:s.h.asked.getD 3 0≠1→s.b.talk.opn=true∧Z0C s.h.asked=s.b.talk.ses∧s.h.asked.getD 2 0=s.b.talk.num+1:=fun h1=>by
  have t1:s.h.take≠1:=fun e=>h1 (g.ok.w1 e)
  obtain ⟨o1,o2,o3⟩:=g.talk h0 t1
  exact ⟨o1,by rw [a.ses,o2],o3⟩
 have htk:=a.tk
 rw [hsay] at hok
 have main:∀ {p':Pow} {m' bs:List UInt8},doF s.b.pow s.b.mem (s.h.asked.getD 3 0) (s.h.asked.drop 4)=((p',m',true),1 :: bs)→bs.length=Z3C (s.h.asked.getD 3 0)→actF W s 0 A B=⟨⟨true,p',m',⟨1,[]⟩,⟨true,Z0C s.h.asked,s.h.asked.getD 2 0,Z0c (s.h.asked.take 3++1 :: bs)⟩⟩,takesH (Z0E ⟨s.h.state,s.h.ses,s.h.left,s.h.burnt,s.h.ear,s.h.asked,s.h.take,true,s.h.tries,s.h.ticks⟩ ⟨1,[]⟩) true bs,Z0c s.h.asked,Z0c (s.h.asked.take 3++1 :: bs),s.n⟩:=fun hd hb=>by
  rw [act_good g.inv g.on h0 hsd g.ok ho hd hb A B,hsay]
 by_cases t1:s.h.take=1
 ·have w1:=g.ok.w1 t1
  have hd:doF s.b.pow s.b.mem (s.h.asked.getD 3 0) (s.h.asked.drop 4)=((s.b.pow,s.b.mem,true),1 :: []):=by
   rw [w1]
   rfl
  have e:=main hd (by rw [w1];rfl)
  have et:takesH (Z0E ⟨s.h.state,s.h.ses,s.h.left,s.h.burnt,s.h.ear,s.h.asked,s.h.take,true,s.h.tries,s.h.ticks⟩ ⟨1,[]⟩) true []=nextH (Z0E ⟨s.h.state,s.h.ses,s.h.left,s.h.burnt,s.h.ear,s.h.asked,s.h.take,true,s.h.tries,s.h.ticks⟩ ⟨1,[]⟩) 4 [] 2:=by
   exact takes_1 (h:=Z0E ⟨s.h.state,s.h.ses,s.h.left,s.h.burnt,s.h.ear,s.h.asked,s.h.take,true,s.h.tries,s.h.ticks⟩ ⟨1,[]⟩) t1 _
  have hok':=hok true []
  rw [et] at e hok'
  rw [e] at hi' ⊢
  refine ⟨k,⟨hi',hok',rfl,g.pw,g.used,g.room,fun _=>rfl,fun _ _=>⟨rfl,a.ses,Z6k _ _ _ _⟩,fun e=>by have e':(3:Nat)≤2:=e;omega,fun e=>by have e':(3:Nat)≤2:=e;omega,by show s.h.state≠2;omega⟩,?_⟩
  show 2*s.h.left.length+1<Z4a s.h
  unfold Z4a
  rw [if_neg h0,if_pos t1]
  omega
 by_cases t2:s.h.take=2
 ·have w2:=g.ok.w2 t2
  have hd:doF s.b.pow s.b.mem (s.h.asked.getD 3 0) (s.h.asked.drop 4)=((s.b.pow,s.b.mem,true),1 :: [UInt8.ofNat (Z1D s.b.mem/256),UInt8.ofNat (Z1D s.b.mem%256)]):=by
   rw [w2]
   rfl
  have e:=main hd (by rw [w2];rfl)
  have hbb:=state_bytes (b:=Z1D s.b.mem) (Z30 s.b.mem 16)
  have et:takesH (Z0E ⟨s.h.state,s.h.ses,s.h.left,s.h.burnt,s.h.ear,s.h.asked,s.h.take,true,s.h.tries,s.h.ticks⟩ ⟨1,[]⟩) true [UInt8.ofNat (Z1D s.b.mem/256),UInt8.ofNat (Z1D s.b.mem%256)]=goOnH ⟨s.h.state,s.h.ses,s.h.left,Z1D s.b.mem,⟨1,[]⟩,s.h.asked,s.h.take,true,s.h.tries,s.h.ticks⟩:=by
   refine (takes_2 (h:=Z0E ⟨s.h.state,s.h.ses,s.h.left,s.h.burnt,s.h.ear,s.h.asked,s.h.take,true,s.h.tries,s.h.ticks⟩ ⟨1,[]⟩) t2 _).trans ?_
   show goOnH ⟨s.h.state,s.h.ses,s.h.left,(UInt8.ofNat (Z1D s.b.mem/256)).toNat*256+(UInt8.ofNat (Z1D s.b.mem%256)).toNat,_,_,_,_,_,_⟩=_
   rw [hbb]
   rfl
  have hok':=hok true [UInt8.ofNat (Z1D s.b.mem/256),UInt8.ofNat (Z1D s.b.mem%256)]
  rw [et] at e hok'
  rw [e] at hi' ⊢
  obtain ⟨r1,r2⟩:=G2.goOn hi' hok' rfl g.pw g.used g.room hst ⟨rfl,a.ses,rfl⟩ (fun p hp=>isIn_bits _ p (g.ok.b.pages p hp).1)
  refine ⟨k,r1,Nat.lt_of_le_of_lt r2 ?_⟩
  show 2*s.h.left.length<Z4a s.h
  unfold Z4a
  rw [if_neg h0,if_neg t1,if_pos t2]
  omega
 have hge:3≤s.h.take:=by omega
 have hlen:0<s.h.left.length:=g.ok.left hge
 have hc:=left_cons hlen
 obtain ⟨d,hdl,_⟩:=g.inv.host.left
 obtain ⟨f1,f2,f3⟩:=Z5M hdl hlen
 have hfn:=g.inv.w.pages _ f3
 by_cases t3:s.h.take=3
 ·have w3:=g.ok.w3 t3
  obtain ⟨_,_,p4⟩:=a.page t3
  have hub:Z0h s.b.mem (Z0d s.h).n=false:=by
   rw [g.first hge]
   simp [t3]
  have hunb:unb s.b.mem s.h.left=1+unb s.b.mem (s.h.left.drop 1):=by
   conv=>lhs;rw [hc]
   show (if Z0h s.b.mem (Z0d s.h).n=true then 0 else 1)+_=_
   rw [if_neg (by rw [hub];decide)]
  have hr:=g.room
  have hk2:k+2≤60:=by omega
  have hrest:s.h.asked.drop 4=(Z0d s.h).n :: (Z0d s.h).bs:=by
   obtain ⟨ses,num,_,e | e | ⟨x,e⟩ | ⟨p,hp,e⟩⟩:=a.good
   ·rw [e] at w3
    exact absurd w3 (show ¬ (1:UInt8)=2 by decide)
   ·rw [e] at w3
    exact absurd w3 (show ¬ (4:UInt8)=2 by decide)
   ·rw [e] at w3
    exact absurd w3 (show ¬ (3:UInt8)=2 by decide)
   ·rw [e] at p4 ⊢
    have:p=Z0d s.h:=g.inv.w.same hp f3 p4
    rw [this]
    rfl
  have hroom:2≤Z4m s.b.mem:=by
   have:=Z3Y g.used
   omega
  have hd:doF s.b.pow s.b.mem (s.h.asked.getD 3 0) (s.h.asked.drop 4)=((Z2g s.b.pow 136,Z3v s.b.mem k (Z0d s.h).n (Z0d s.h).bs,true),1 :: []):=by
   unfold doF
   rw [if_pos w3,hrest]
   rw [if_pos ⟨hfn.1,hroom⟩]
   show (Z0J _ _ (Z0d s.h).n (Z0d s.h).bs,[1])=_
   rw [Z1W g.used hk2 hfn.1 hfn.2 (.inl g.pw)]
  have e:=main hd (by rw [w3];rfl)
  have et:takesH (Z0E ⟨s.h.state,s.h.ses,s.h.left,s.h.burnt,s.h.ear,s.h.asked,s.h.take,true,s.h.tries,s.h.ticks⟩ ⟨1,[]⟩) true []=askReadH (Z0E ⟨s.h.state,s.h.ses,s.h.left,s.h.burnt,s.h.ear,s.h.asked,s.h.take,true,s.h.tries,s.h.ticks⟩ ⟨1,[]⟩) 5:=by
   exact takes_3 (h:=Z0E ⟨s.h.state,s.h.ses,s.h.left,s.h.burnt,s.h.ear,s.h.asked,s.h.take,true,s.h.tries,s.h.ticks⟩ ⟨1,[]⟩) t3 _
  have hok':=hok true []
  rw [et] at e hok'
  rw [e] at hi' ⊢
  obtain ⟨u1,u2,u3,u4,u5⟩:=Z4U g.used hk2 hfn.1 hfn.2
  have hother:∀ p∈s.h.left.drop 1,Z0h (Z3v s.b.mem k (Z0d s.h).n (Z0d s.h).bs) p.n=Z0h s.b.mem p.n:=fun p hp=>by
   have hpl:p∈s.h.left:=List.mem_of_mem_drop hp
   refine u5 p.n (g.ok.b.pages p hpl).1 (fun e=>?_)
   have h:=g.inv.w.once
   rw [←List.take_append_drop d W,← hdl,hc] at h
   exact (List.pairwise_cons.1 (List.pairwise_append.1 h).2.1).1 p hp e.symm
  refine ⟨k+2,⟨hi',hok',rfl,g.pw,u1,?_,fun _=>rfl,fun _ _=>⟨rfl,a.ses,Z6k _ _ _ _⟩,fun _ p hp=>?_,fun _=>?_,by show s.h.state≠2;omega⟩,?_⟩
  ·show k+2+2*unb _ s.h.left≤60
   have:unb (Z3v s.b.mem k (Z0d s.h).n (Z0d s.h).bs) s.h.left=unb s.b.mem (s.h.left.drop 1):=by
    conv=>lhs;rw [hc]
    show (if Z0h (Z3v s.b.mem k (Z0d s.h).n (Z0d s.h).bs) (Z0d s.h).n=true then 0 else 1)+_=_
    rw [if_pos u4,unb_same _ hother,Nat.zero_add]
   rw [this]
   omega
  ·exact (g.bits hge p hp).trans (hother p hp).symm
  ·exact u4
  ·show 2*s.h.left.length-1<Z4a s.h
   unfold Z4a
   rw [if_neg h0,if_neg t1,if_neg t2,if_pos t3]
   omega
 ·have t45:s.h.take=4∨s.h.take=5:=by omega
  have w4:=g.ok.w4 t45
  obtain ⟨_,_,p4⟩:=a.read t45
  have hbt:Z0h s.b.mem (Z0d s.h).n=true:=by
   rw [g.first hge]
   simp [t3]
  obtain ⟨pg,hpg,e1,e2⟩:=g.inv.mem.burnt _ hfn.1 hbt
  have hpgf:pg=Z0d s.h:=g.inv.w.same hpg f3 e1
  rw [hpgf] at e2
  have hrest:(s.h.asked.drop 4).getD 0 0=(Z0d s.h).n:=by
   rw [List.getD_eq_getElem?_getD,List.getElem?_drop,← List.getD_eq_getElem?_getD]
   exact p4
  have hd:doF s.b.pow s.b.mem (s.h.asked.getD 3 0) (s.h.asked.drop 4)=((s.b.pow,s.b.mem,true),1 :: (Z0d s.h).bs):=by
   unfold doF
   rw [if_neg (by rw [w4];decide),if_pos w4,hrest,if_pos ⟨hfn.1,hbt⟩,e2]
  have e:=main hd (by rw [w4];exact hfn.2)
  have et:takesH (Z0E ⟨s.h.state,s.h.ses,s.h.left,s.h.burnt,s.h.ear,s.h.asked,s.h.take,true,s.h.tries,s.h.ticks⟩ ⟨1,[]⟩) true (Z0d s.h).bs=goOnH ⟨s.h.state,s.h.ses,s.h.left.drop 1,s.h.burnt,⟨1,[]⟩,s.h.asked,s.h.take,true,s.h.tries,s.h.ticks⟩:=by
   exact takes_4 (h:=Z0E ⟨s.h.state,s.h.ses,s.h.left,s.h.burnt,s.h.ear,s.h.asked,s.h.take,true,s.h.tries,s.h.ticks⟩ ⟨1,[]⟩) t45 rfl
  have hok':=hok true (Z0d s.h).bs
  rw [et] at e hok'
  rw [e] at hi' ⊢
  have hunb:unb s.b.mem s.h.left=unb s.b.mem (s.h.left.drop 1):=by
   conv=>lhs;rw [hc]
   show (if Z0h s.b.mem (Z0d s.h).n=true then 0 else 1)+_=_
   rw [if_pos hbt,Nat.zero_add]
  obtain ⟨r1,r2⟩:=G2.goOn hi' hok' rfl g.pw g.used (by have:=g.room;rw [hunb] at this;exact this) hst ⟨rfl,a.ses,rfl⟩ (g.bits hge)
  refine ⟨k,r1,Nat.lt_of_le_of_lt r2 ?_⟩
  show 2*(s.h.left.drop 1).length<Z4a s.h
  unfold Z4a
  rw [if_neg h0,if_neg t1,if_neg t2,if_neg t3,List.length_drop]
  omega
theorem G2.begin {W:List Pg}{s:Ply}(a:J1 W s)(hn:s.n+1≤60000)(ok:HOk (hstW W (s.n+1))):∃ k,G2 W { s with b:=Z5C s.b,h:=hstW W (s.n+1),n:=s.n+1 } k∧Z4a (hstW W (s.n+1))≤34:=by
 obtain ⟨d,k,h1,h2,h3,h4⟩:=a.end_
 have hi:=Z7n (Z4W a.inv) hn
 have hf:=a.inv.w.few
 have hun:unb s.b.mem W≤W.length-d:=by
  rw [←List.take_append_drop d W,Z7s,unb_burnt _ _ h2,Nat.zero_add]
  refine Nat.le_trans (unb_le _ _) ?_
  rw [List.length_drop,List.take_append_drop]
  exact Nat.le_refl _
 refine ⟨k,⟨hi,ok,rfl,rfl,h3,?_,fun _=>rfl,fun _ e=>absurd rfl e,fun e=>by have e':(3:Nat)≤1:=e;omega,fun e=>by have e':(3:Nat)≤1:=e;omega,by show (0:Nat)≠2;omega⟩,?_⟩
 ·show k+2*unb s.b.mem W≤60
  omega
 ·show 2*W.length+2≤34
  omega
theorem act_n0 (W:List Pg)(s:Ply)(k:Nat)(hk:k≠13)(A B:Int):(actF W s k A B).n=s.n:=by
 have hb:∀ (s:Ply) (t:List UInt8),(Z0b s t).1.n=s.n:=fun s t=>(Z0T s t).2.2.1
 unfold actF
 split
 ·rfl
 ·split
  ·rfl
  ·split
   ·rfl
   ·split
    ·split
     ·rw [Z45,Z45,hb]
     ·rfl
    ·simp only
     split
     ·rfl
     ·have hr:∀ (x:Ply) (f:List UInt8),(if k=9 then Z0b (Z0b x f).1 f else Z0b x f).1.n=x.n:=fun x f=>by
       split
       ·rw [hb,hb]
       ·rw [hb]
      split
      ·rw [Z8w,hr]
      ·split
       ·rw [Z45,Z8w,hr]
       ·split
        ·rw [Z45,Z45,Z8w,hb,hb]
        ·rw [Z45,Z8w,hb]
theorem want_hok {i:Img}(hw:Z11 i=true)(n:Nat)(hn:n≤60000):HOk (hstW (Z1k i) n):=by
 have:=hst0_ok i (n:Int) (Z3b hw).1
 have e:sesN (n:Int)=n:=by unfold sesN;omega
 rw [e] at this
 exact this
theorem ends_any (w:World)(ra:Option Addr)(rn rc:Nat)(raws:List Int)(sa:Option Addr)(sn sc:Nat)(acts:List (Int × Int × Int))(mm:Int)(h:RawAt w ra rn raws)(hr:rn≤9223372036854775807)(hS:ScrAt w sa sn acts)(hs:sn≤9223372036854775807)(hmm:w.cell? ⟨0,0,none⟩=some (.int .i64 mm)) :
  Calls Tryz.prog 3 #[.slice ra rn rc,.slice sa sn sc] w fun e w'=>e=.returned (.bool true)∧Below w.heap.size w w':=by
 have HFr:=Z0a (kfresh_any w ra rn rc raws mm h hr hmm)
 have HS:=Z0a hS
 obtain ⟨N,hN⟩:∃ N,min sn 60=N:=⟨_,rfl⟩
 have HN:=Z0a hN
 have hsi:(sn:Int)≤9223372036854775807:=by omega
 clear h hmm hS hN
 go_enter Tryz.func3,Tryz.ntmps3
 go_wp2_with (first | (go_at_call 5;refine HFr.out.mono ?_;rintro e w1 ⟨ik,lk,sk,pb,bb,i,w0,rfl,hI,hw,hB,hE⟩))
 have HI:=Z0a (And.intro hI (And.intro hw hB))
 have HE:=Z0a hE
 clear hI hw hB hE HFr
 go_loopw [6,7] (fun c x wr=>∃ j:Nat,j≤N∧x=.int .i64 (j:Int)∧(∃ q:Nat,q≤j∧c=.int .i64 (q:Int))∧∃ p,J1 (Z1k i) p∧p.n=1∧PlyE w0 pb bb (.slice (some ⟨ik,0,none⟩) 1024 1024) (.slice (some ⟨lk,0,none⟩) 1024 1024) (.slice (some ⟨sk,0,none⟩) 1024 1024) p wr) (fun _ x _=>N-(intOf x).toNat)
 case atStart=>exact ⟨0,Nat.zero_le _,rfl,⟨0,Nat.le_refl _,rfl⟩,_,J1.begin (first_inv (want_ok HI.out.2.1)) (want_hok HI.out.2.1 1 (by omega)),rfl,HE.out⟩
 case round =>
  obtain ⟨j,hj,rfl,⟨q,hq,rfl⟩,p,hi,hpn,hE⟩:=hrel
  have hn:=HN.out
  by_cases hlt:j<N
  ·have hj1:(j:Int)<(sn:Int):=by omega
   have hj2:(j:Int)<60:=by omega
   obtain ⟨hb,lb,m⟩:=hE
   have hBw:Below w.heap.size w wr:=HI.out.2.2.trans (m.b.mono HI.out.2.2.size)
   have hscr:=HS.out.below hBw
   have hjl:j<acts.length:=by have:=hscr.len;omega
   obtain ⟨cb,coff,rfl,s0,s1,s2,hal⟩:=hscr.at_ j hjl
   obtain ⟨⟨K,A,B⟩,ha⟩:∃ a,acts[j]=a:=⟨_,rfl⟩
   obtain ⟨b1,b2,b3⟩:=hscr.bd _ (List.getElem_mem hjl)
   rw [ha] at s0 s1 s2 b1 b2 b3
   have s0':wr.cell? ⟨cb,coff+j*3,none⟩=some (.int .i64 K):=s0
   have s1':wr.cell? ⟨cb,coff+j*3+1,none⟩=some (.int .i64 A):=s1
   have s2':wr.cell? ⟨cb,coff+j*3+2,none⟩=some (.int .i64 B):=s2
   obtain ⟨W2,hW2,k0,am⟩:=AM.begin m K A B
   have HP:=Z0a (fun w'=>pick_is K 14 b1.1 b1.2 (by omega) (by omega) w')
   have HA:=Z0a (kact_any pick_is spoilt_is (some ⟨ik,0,none⟩) (some ⟨lk,0,none⟩) (some ⟨sk,0,none⟩) 1024 1024 1024 i w0 W2 pb bb hb lb p (by omega) HI.out.1 HI.out.2.1 hi.inv am.p K A B b1 b2 b3)
   have hi2:=fun (hk:pkF K 14≠13)=>act_J1 hi (pkF K 14) hk A B
   have hn2:=fun (hk:pkF K 14≠13)=>act_n0 (Z1k i) p (pkF K 14) hk A B
   obtain ⟨k,hk⟩:∃ k,pkF K 14=k:=⟨_,rfl⟩
   have hk14:k<14:=by rw [←hk];exact Nat.mod_lt _ (by omega)
   rw [hk] at HP HA hi2 hn2
   obtain ⟨P,hP⟩:∃ P,actF (Z1k i) p k A B=P:=⟨_,rfl⟩
   rw [hP] at HA hi2 hn2
   have e1:=am.a1
   have e2:=am.a2
   have HAM:=Z0a am
   have HF:=Z0a (And.intro hi2 (And.intro hn2 (And.intro hi hpn)))
   obtain ⟨ab,hab⟩:∃ ab,wr.heap.size=ab:=⟨_,rfl⟩
   rw [hab] at k0 e1 e2
   have hq1:(q:Int)≤60:=by omega
   have hwq:IntKind.i64.wrap ((q:Int)+1)=(q:Int)+1:=by rw [IntKind.wrap_i64];omega
   have HJ:Hid (q≤j∧j<N):=⟨hq,hlt⟩
   clear hi2 hn2 hP hi m hBw hscr s0 s1 s2 b1 b2 b3 ha hpn hn hjl am hk hq hlt hj
   by_cases c13:k=13
   ·subst c13
    go_wp2_with (first | (go_at_call 6;refine (HP.out _).mono ?_;rintro e w2 ⟨rfl,rfl⟩))
    go_roundw
    case rel=>exact ⟨j+1,by have:=HJ.out;omega,by go_num,⟨q,by have:=HJ.out;omega,rfl⟩,p,HF.out.2.2.1,HF.out.2.2.2,hb,lb,HAM.out.p⟩
    case measure=>have:=HJ.out;simp [intOf];omega
   ·have n13:((k:Int) == 13)=false:=by simp;omega
    by_cases c11:k=11
    ·subst c11
     by_cases c8:8<q+1
     ·have c8i:(8:Int)<(q:Int)+1:=by omega
      go_wp2_with (first | (go_at_call 6;refine (HP.out _).mono ?_;rintro e w2 ⟨rfl,rfl⟩))
      go_roundw
      case rel=>exact ⟨j+1,by have:=HJ.out;omega,by go_num,⟨q+1,by have:=HJ.out;omega,by go_num⟩,p,HF.out.2.2.1,HF.out.2.2.2,hb,lb,HAM.out.p⟩
      case measure=>have:=HJ.out;simp [intOf];omega
     ·have c8i:¬ (8:Int)<(q:Int)+1:=by omega
      go_wp2_with (first | (go_at_call 6;refine (HP.out _).mono ?_;rintro e w2 ⟨rfl,rfl⟩) | (go_at_call 7;refine HA.out.mono ?_;rintro e w3 ⟨rfl,hE3⟩;have HE3:=Z0a hE3;clear hE3))
      go_roundw
      case rel=>exact ⟨j+1,by have:=HJ.out;omega,by go_num,⟨q+1,by have:=HJ.out;omega,by go_num⟩,P,HF.out.1 c13,(HF.out.2.1 c13).trans HF.out.2.2.2,HE3.out⟩
      case measure=>have:=HJ.out;simp [intOf];omega
    ·have n11:((k:Int) == 11)=false:=by simp;omega
     go_wp2_with (first | (go_at_call 6;refine (HP.out _).mono ?_;rintro e w2 ⟨rfl,rfl⟩) | (go_at_call 7;refine HA.out.mono ?_;rintro e w3 ⟨rfl,hE3⟩;have HE3:=Z0a hE3;clear hE3))
     go_roundw
     case rel=>exact ⟨j+1,by have:=HJ.out;omega,by go_num,⟨q,by have:=HJ.out;omega,rfl⟩,P,HF.out.1 c13,(HF.out.2.1 c13).trans HF.out.2.2.2,HE3.out⟩
     case measure=>have:=HJ.out;simp [intOf];omega
  ·obtain ⟨hb,lb,m⟩:=hE
   have HBt:=Z0a (Z7G bb p.b wr m.m.b)
   have e0:=m.m.c0
   have HM:=Z0a m
   obtain ⟨kg,g0,hlg0⟩:=G2.begin hi (by omega) (want_hok HI.out.2.1 (p.n+1) (by omega))
   have HG:Hid (G2 (Z1k i) ⟨Z5C p.b,hst0 i (p.n+1),p.late,p.lateB,p.n+1⟩ kg∧p.n+1=2∧Z4a (hst0 i (p.n+1))+0≤34):=⟨g0,by omega,hlg0⟩
   have HPN:Hid ((⟨Z5C p.b,p.h,p.late,p.lateB,p.n⟩:Ply).n≤60000):=by show p.n≤60000;omega
   clear g0 hlg0 hi hpn m
   rcases (show ((j:Int)<(sn:Int)∧¬ (j:Int)<60)∨¬ (j:Int)<(sn:Int) by omega) with ⟨hjr,hj8⟩ | hjr
   all_goals
    clear hn hlt hj
    go_wp2_with (first | (go_at_call 8;refine HBt.out.mono ?_;rintro e w2 ⟨rfl,hb2,hg2⟩;have mb:=HM.out.boardG hg2 hb2;have HBg:=Z0a (Z4i pb bb (some ⟨ik,0,none⟩) (some ⟨lk,0,none⟩) (some ⟨sk,0,none⟩) 1024 1024 1024 i ⟨Z5C p.b,p.h,p.late,p.lateB,p.n⟩ w0 w2 HPN.out HI.out.1 HI.out.2.1 mb.b ⟨mb.l.1,mb.l.2.1⟩ mb.m.bare);clear mb hb2 hg2) | (go_at_call 9;refine HBg.out.mono ?_;rintro e w3 ⟨rfl,hE3⟩;have HE3:=Z0a hE3;clear hE3))
    go_loopw [11] (fun x wz=>∃ j2:Nat,x=.int .i64 (j2:Int)∧∃ p2 k2,G2 (Z1k i) p2 k2∧p2.n=2∧Z4a p2.h+j2≤34∧PlyE w0 pb bb (.slice (some ⟨ik,0,none⟩) 1024 1024) (.slice (some ⟨lk,0,none⟩) 1024 1024) (.slice (some ⟨sk,0,none⟩) 1024 1024) p2 wz) (fun x _=>200-(intOf x).toNat)
    case atStart=>exact ⟨0,rfl,_,kg,HG.out.1,HG.out.2.1,HG.out.2.2,HE3.out⟩
    case round =>
     obtain ⟨j2,rfl,p2,k2,g,hn2,hlg,hE2⟩:=hrel
     have hj200:(j2:Int)<200:=by omega
     have hEE:=hE2
     obtain ⟨hb2,lb2,m2⟩:=hE2
     have HSt:=Z0a (Z4n hb2 lb2 p2.h wr m2.m.h)
     have d1:=m2.m.c1
     by_cases h0:p2.h.take=0
     ·have hst:p2.h.state=1:=by
       have a1:=g.inv.host.going.1 h0
       have a2:=g.inv.host.st
       have a3:=g.end_
       omega
      rw [hst] at HSt
      have HR:=Z0a (right_all HI.out.1 HI.out.2.1 g.inv hEE)
      have HBw:Hid (∀ w':World,PlyE w0 pb bb (.slice (some ⟨ik,0,none⟩) 1024 1024) (.slice (some ⟨lk,0,none⟩) 1024 1024) (.slice (some ⟨sk,0,none⟩) 1024 1024) p2 w'→Below w.heap.size w w'):=fun w' ⟨hb,lb,m⟩=>HI.out.2.2.trans (m.b.mono HI.out.2.2.size)
      clear g hn2 hlg hEE m2 hst h0
      go_wp2_with (first | (go_at_call 10;refine HSt.out.mono ?_;rintro e w4 ⟨rfl,rfl⟩) | (go_at_call 11;refine HR.out.mono ?_;rintro e w5 ⟨rfl,hE5⟩;have HE5:=Z0a hE5;clear hE5))
      go_ret
      exact ⟨rfl,HBw.out _ HE5.out⟩
     ·have hst:p2.h.state=0:=Classical.byContradiction fun e=>h0 (g.inv.host.going.2 e)
      rw [hst] at HSt
      obtain ⟨k',g',hlt'⟩:=g.step h0 (by omega) 0 0
      have hn':=act_n0 (Z1k i) p2 0 (by omega) 0 0
      have HA:=Z0a (kact_any pick_is spoilt_is (some ⟨ik,0,none⟩) (some ⟨lk,0,none⟩) (some ⟨sk,0,none⟩) 1024 1024 1024 i w0 wr pb bb hb2 lb2 p2 (by omega) HI.out.1 HI.out.2.1 g.inv m2 0 0 0 (by omega) (by omega) (by omega))
      rw [show pkF 0 14=0 from rfl] at HA
      obtain ⟨P2,hP2⟩:∃ P2,actF (Z1k i) p2 0 0 0=P2:=⟨_,rfl⟩
      rw [hP2] at HA g' hlt' hn'
      have HF2:Hid (G2 (Z1k i) P2 k'∧P2.n=2∧Z4a P2.h+(j2+1)≤34):=⟨g',by omega,by omega⟩
      clear g hn2 hlg hEE m2 hst h0 g' hlt' hn' hP2
      go_wp2_with (first | (go_at_call 10;refine HSt.out.mono ?_;rintro e w4 ⟨rfl,rfl⟩) | (go_at_call 7;refine HA.out.mono ?_;rintro e w5 ⟨rfl,hE5⟩;have HE5:=Z0a hE5;clear hE5))
      go_roundw
      case rel=>exact ⟨j2+1,by go_num,P2,k',HF2.out.1,HF2.out.2.1,HF2.out.2.2,HE5.out⟩
      case measure=>simp [intOf];omega
end Go.Proofs.YthokdbcpkmcieabGreatDoor
