/- BrdK BrdT HstP SurA -/
import Derived.Test.YthokdbcpkmcieaaGreatDoorS27
set_option maxRecDepth 200000
set_option maxHeartbeats 8000000
namespace Go.Proofs.YthokdbcpkmcieaaGreatDoor
structure Lone (m m':List UInt8) (k:Nat) (n:UInt8):Prop where
 len:m'.length=1264
 slots:∀ i,i≠k→i<60→Z0G m' i=Z0G m i
 pages:∀ j,j<16→Z0v m' j=Z0v m j
 head:(Z0G m' k)[0]?=some n∨(Z0G m' k)[1]?=some 255
theorem u16 {j:UInt8}(h:j<16):j.toNat<16:=by simpa using UInt8.lt_iff_toNat_lt.1 h
theorem Lone.burnt {m m':List UInt8}{k:Nat}{n:UInt8}(h:Lone m m' k n)(hu:Used m k)(hk:k<60)(j:UInt8)(hj:j<16):Z0n m' j=(says m' j k).getD (Z0n m j):=by
 have e1:Z0n m' j=Z2j m' j (k+1):=Z1E (by omega) (fun i h1 h2=>Z2e (by rw [h.slots i (by omega) h2];exact hu.free i (by omega) h2))
 have e2:Z0n m j=Z2j m j k:=Z1E hu.le (fun i h1 h2=>Z2e (hu.free i h1 h2))
 rw [e1,e2,Z1G,Z3v k (fun i hi=>says_eq (h.slots i (by omega) (by omega)) (h.pages _ (u16 hj)))]
theorem Lone.burnt_other {m m':List UInt8}{k:Nat}{n:UInt8}(h:Lone m m' k n)(hu:Used m k)(hk:k<60)(j:UInt8)(hj:j<16)(hne:j≠n):Z0n m' j=Z0n m j:=by
 rw [h.burnt hu hk j hj]
 rcases h.head with h1 | h1
 ·rw [says_head (by rw [h1];simpa using fun e=>hne e.symm)];rfl
 ·rw [says_kind h1];rfl
theorem Z8b {m l:List UInt8}{k:Nat}{n:UInt8}(hu:Used m k)(hk:k<60)(hl:l.length≤4)(hh:l[0]?=some n∨l.length≤1):Lone m (put m (1024+4*k) l) k n:=by
 obtain ⟨h1,h2,h3,h4⟩:=hu.puts hk hl
 refine ⟨h1,h2,h3,?_⟩
 rcases hh with h | h
 ·left
  rw [h4 0 (by omega)]
  have:0<l.length:=(List.getElem?_eq_some_iff.1 h).1
  rw [if_pos this];exact h
 ·right
  rw [h4 1 (by omega),if_neg (by omega)]
structure Mid (m0 m:List UInt8) (k:Nat) (n:UInt8):Prop where
 used:Used m (k+1)
 rec1:Z0G m k=recF m n 1
 slots:∀ i,i<k→Z0G m i=Z0G m0 i
 pages:∀ j,j<16→j≠n.toNat→Z0v m j=Z0v m0 j
theorem Mid.burnt {m0 m:List UInt8}{k:Nat}{n:UInt8}(h:Mid m0 m k n):Z0n m n=false:=by
 rw [Z1E h.used.le (fun i h1 h2=>Z2e (h.used.free i h1 h2)),Z1G,says_one h.rec1];rfl
theorem Mid.other {m0 m:List UInt8}{k:Nat}{n:UInt8}(h:Mid m0 m k n)(hu:Used m0 k)(j:UInt8)(hj:j<16)(hne:j≠n):Z0n m j=Z0n m0 j:=by
 have hjn:j.toNat≠n.toNat:=fun e=>hne (UInt8.toNat_inj.1 e)
 rw [Z1E h.used.le (fun i h1 h2=>Z2e (h.used.free i h1 h2)),Z1E hu.le (fun i h1 h2=>Z2e (hu.free i h1 h2)),Z1G,
  says_head (by rw [h.rec1];show some n≠some j;simpa using fun e=>hne e.symm),Option.getD_none]
 exact Z3v k (fun i hi=>says_eq (h.slots i hi) (h.pages _ (u16 hj) hjn))
theorem Mid.puts {m0 m l:List UInt8}{k:Nat}{n:UInt8}(h:Mid m0 m k n)(hn:n<16)(hl:l.length≤64):Mid m0 (put m (64*n.toNat) l) k n:=by
 have hlen:=h.used.len
 have hnn:=u16 hn
 have hb:64*n.toNat+l.length≤m.length:=by omega
 have hs:∀ i,i<60→Z0G (put m (64*n.toNat) l) i=Z0G m i:=fun i hi=>by rw [Z1p,Z1p,Z00 _ _ _ hb _ _ (by omega)]
 have hle:=h.used.le
 refine ⟨⟨by rw [Z6L _ _ _ hb];exact hlen,h.used.le,fun i hi=>by rw [hs i (by omega)];exact h.used.full i hi,fun i h1 h2=>by rw [hs i h2];exact h.used.free i h1 h2⟩,?_,fun i hi=>?_,fun j hj hne=>?_⟩
 ·rw [hs k (by omega),Z8e _ m];exact h.rec1
 ·rw [hs i (by omega)];exact h.slots i hi
 ·rw [Z3O,Z00 _ _ _ hb _ _ (by omega),← Z3O];exact h.pages j hj hne
theorem Z3D (m:List UInt8)(n k:UInt8)(hn:n<16):recF m n k≠blankL:=by
 intro e
 have h:(recF m n k)[0]?=blankL[0]?:=by rw [e]
 have h2:n=255:=by simpa [recF,blankL] using h
 subst h2
 exact absurd hn (by decide)
theorem Z3B {m r:List UInt8}{k:Nat}(hu:Used m k)(hk:k<60)(hr:r.length=4):Z0G (put m (1024+4*k) r) k=r:=by
 have hlen:=hu.len
 have:=Z5g m (1024+4*k) r (by omega)
 rw [hr] at this
 exact this
theorem Z6N {m:List UInt8}{k:Nat}{n:UInt8}(hu:Used m k)(hk:k<60)(hn:n<16):Mid m (put m (1024+4*k) (recF m n 1)) k n:=by
 obtain ⟨h1,h2,h3,h4⟩:=hu.puts (l:=recF m n 1) hk (by rw [recF_len];omega)
 have hs:=Z3B (r:=recF m n 1) hu hk rfl
 rcases hu.next hk h1 h2 with ⟨e,_⟩ | ⟨_,h⟩
 ·exact absurd (hs.symm.trans e) (Z3D _ _ _ hn)
 ·exact ⟨h,hs.trans (Z8e _ _ _),fun i hi=>h2 i (by omega) (by omega),fun j hj _=>h3 j hj⟩
structure Left (m m':List UInt8) (k:Nat) (n:UInt8) (bs:List UInt8):Prop where
 used:∃ k',Used m' k'∧k≤k'∧k'≤k+2
 pages:∀ j,j<16→j≠n.toNat→Z0v m' j=Z0v m j
 other:∀ j:UInt8,j<16→j≠n→Z0n m' j=Z0n m j
 own:(Z0v m' n.toNat=Z0v m n.toNat∧Z0n m' n=Z0n m n)∨Z0n m' n=false∨(Z0v m' n.toNat=bs∧Z0n m' n=true)
theorem Mid.left {m0 m bs:List UInt8}{k:Nat}{n:UInt8}(h:Mid m0 m k n)(hu:Used m0 k):Left m0 m k n bs :=
 ⟨⟨k+1,h.used,by omega,by omega⟩,h.pages,fun j hj hne=>h.other hu j hj hne,.inr (.inl h.burnt)⟩
theorem Z3J {os:List (Option UInt8)}{p:Pow}{m:List UInt8}{i:Nat}(h:i+os.length≤m.length)(hp:¬ Z1o p os.length):∃ l,runS p m i os=(⟨true,0,p.mask⟩,put m i l,false)∧l.length=p.left+1∧p.left<os.length∧l=Z3l (win m i p.left) (os.take p.left) ++ [mixF (m.getD (i+p.left) 0) (Z1w (m.getD (i+p.left) 0) (os.getD p.left none)) p.mask]:=by
 have h1:p.cut=true∧p.left<os.length:=by
  unfold Z1o at hp
  simp only [not_or] at hp
  refine ⟨by simpa using hp.1,by omega⟩
 refine ⟨_,Z7s os p m i h h1.1 h1.2,?_,h1.2,rfl⟩
 have hw:(win m i p.left).length=p.left:=Z3f _ _ _ (by omega)
 unfold Z3l
 simp [List.length_zipWith,hw]
 omega
theorem Z7j:∀ (l:List UInt8) (j:Nat),j≤l.length→Z3l (List.replicate j 255) ((l.map some).take j)=l.take j
 | l,0,_=>by simp [Z3l]
 | [],j+1,h=>by simp at h
 | x :: l,j+1,h=>by
  simp only [List.length_cons] at h
  have:=Z7j l j (by omega)
  unfold Z3l at this ⊢
  simp only [List.replicate_succ,List.map_cons,List.take_succ_cons,List.zipWith_cons_cons,this]
  simp only [Z1w,and_255]
theorem Z3m {p:Pow}{m r:List UInt8}{k:Nat}{n c:UInt8}{a b:UInt8}(hu:Used m k)(hk:k<60)(hr:r=[n,c,a,b])(hp:¬ Z1o p 4):∃ l,Z2m p m r=(⟨true,0,p.mask⟩,put m (1024+4*k) l,false)∧l.length≤4∧(l[0]?=some n∨l.length≤1)∧(l.length≤1∨l[1]?=some c∨l[1]?=some (mixF 255 c p.mask)):=by
 have hlen:=hu.len
 have hb:1024+4*k+(r.map some).length≤m.length:=by rw [hr];simp;omega
 obtain ⟨l,e1,e2,e3,e4⟩:=Z3J (os:=r.map some) (p:=p) (m:=m) (i:=1024+4*k) hb (by rw [hr];exact hp)
 have hf:=hu.free k (Nat.le_refl _) hk
 rw [Z1p] at hf
 rw [hr] at e3
 simp only [List.length_map,List.length_cons,List.length_nil] at e3
 have hg:∀ q,q<4→m[1024+4*k+q]?=some 255:=by
  intro q hq
  have h2:=Z10 m (1024+4*k) 4 q
  rw [if_pos hq,hf] at h2
  have:∀ q:Fin 4,blankL[q.val]?=some 255:=by decide
  rw [←h2];exact this ⟨q,hq⟩
 have hw:win m (1024+4*k) p.left=List.replicate p.left 255:=by
  apply List.ext_getElem?
  intro q
  rw [Z10]
  by_cases h:q<p.left
  ·rw [if_pos h,hg q (by omega),List.getElem?_replicate,if_pos h]
  ·rw [if_neg h,List.getElem?_replicate,if_neg h]
 have hc:m.getD (1024+4*k+p.left) 0=255:=by rw [List.getD_eq_getElem?_getD,hg _ (by omega)];rfl
 rw [hw,Z7j _ _ (by rw [hr];simp;omega),hc] at e4
 refine ⟨l,?_,by omega,?_,?_⟩
 ·unfold Z2m;rw [Z30 hu hk];exact e1
 ·rcases Nat.lt_or_ge p.left 1 with h | h
  ·right;omega
  ·left
   rw [e4,List.getElem?_append_left (by rw [hr];simp;omega),List.getElem?_take_of_lt (by omega),hr];rfl
 ·rcases Nat.lt_or_ge p.left 1 with h | h
  ·left;omega
  ·right
   by_cases h1:p.left=1
   ·right
    rw [e4,h1,hr]
    simp [Z1w,and_255]
   ·left
    rw [e4,List.getElem?_append_left (by rw [hr];simp;omega),List.getElem?_take_of_lt (by omega),hr];rfl
theorem mix_odd (mask:UInt8):mixF 255 1 mask≠2:=by
 have:∀ k:Fin 256,mixF 255 1 (UInt8.ofNat k.val)≠2:=by decide +kernel
 have h:=this ⟨mask.toNat,mask.toNat_lt⟩
 simpa using h
theorem Z4K {p:Pow}{a b:Nat}(h:Z1o p (a+b)):Z1o (Z2n p a) b:=by
 unfold Z1o Z2n at *
 by_cases hc:p.cut=false
 ·exact .inl hc
 ·rcases h with h | h
  ·exact absurd h hc
  ·right;simp only [if_neg hc];omega
theorem Z8g {p:Pow}{a b:Nat}(h:Z1o p b)(hab:a≤b):Z1o p a:=by
 unfold Z1o at *
 rcases h with h | h
 ·exact .inl h
 ·right;omega
theorem Z2L (p:Pow)(a b:Nat):Z2n (Z2n p a) b=Z2n p (a+b):=by
 unfold Z2n
 by_cases hc:p.cut=false
 ·simp [hc]
 ·simp only [if_neg hc]
  rw [show p.left-a-b=p.left-(a+b) by omega]
theorem Z5Z {p:Pow}{a b:Nat}(h:Z1o p a)(h2:Z1o (Z2n p a) b):Z1o p (a+b):=by
 unfold Z1o Z2n at *
 by_cases hc:p.cut=false
 ·exact .inl hc
 ·simp only [if_neg hc] at h2
  rcases h with h | h
  ·exact absurd h hc
  ·rcases h2 with h2 | h2
   ·exact absurd h2 hc
   ·right;omega
def Z46 (m:List UInt8) (k:Nat) (n:UInt8) (bs:List UInt8):List UInt8 :=
 put (put (put m (1024+4*k) (recF m n 1)) (64*n.toNat) bs) (1024+4*(k+1)) ([n,2]++chkB ([n,2]++bs))
theorem Z6q {m0 m:List UInt8}{k:Nat}{n:UInt8}(h:Mid m0 m k n)(hn:n<16)(p:Pow)(hp:Z1o p 64):runS p m (64*n.toNat) (List.replicate 64 none)=(Z2n p 64,put m (64*n.toNat) (List.replicate 64 255),true):=by
 have hlen:=h.used.len
 have hnn:=u16 hn
 rw [Z2Y _ _ _ _ (by simp;omega) (by simpa [Z1o] using hp)]
 have hw:(win m (64*n.toNat) 64).length=64:=Z3f _ _ _ (by omega)
 have:=Z7n (win m (64*n.toNat) 64)
 rw [hw] at this
 simp only [List.length_replicate]
 rw [this]
 rfl
theorem put_twice (m:List UInt8)(i:Nat)(a b:List UInt8)(h:i+a.length≤m.length)(hab:a.length=b.length):put (put m i a) i b=put m i b:=by
 apply List.ext_getElem?
 intro k
 rw [Z2s _ _ _ (by rw [Z6L _ _ _ h];omega),Z2s _ _ _ h,Z2s _ _ _ (by omega)]
 by_cases hk:i≤k∧k<i+b.length
 ·rw [if_pos hk,if_pos hk]
 ·rw [if_neg hk,if_neg (by omega),if_neg hk]
theorem Z5y {m0 m l:List UInt8}{k:Nat}{n:UInt8}(h:Mid m0 m k n)(hn:n<16)(hl:l.length=64):Z0v (put m (64*n.toNat) l) n.toNat=l:=by
 have hlen:=h.used.len
 have hnn:=u16 hn
 have:=Z5g m (64*n.toNat) l (by omega)
 rw [hl] at this
 exact this
theorem rec_two {m bs:List UInt8}{n:UInt8}(h:Z0v m n.toNat=bs):recF m n 2=[n,2]++chkB ([n,2]++bs):=by
 unfold recF ofRec
 rw [if_pos rfl,h]
theorem Z7i {m0 m bs:List UInt8}{k:Nat}{n:UInt8}(h:Mid m0 m k n)(hn:n<16)(hb:bs.length=64)(p:Pow)(hp:Z1o p 64):runS p (put m (64*n.toNat) (List.replicate 64 255)) (64*n.toNat) (bs.map some)=(Z2n p 64,put m (64*n.toNat) bs,true):=by
 have hlen:=h.used.len
 have hnn:=u16 hn
 have hm:=h.puts hn (l:=List.replicate 64 255) (by simp)
 rw [Z2Y _ _ _ _ (by rw [hm.used.len];simp;omega) (by simpa [Z1o,hb] using hp)]
 have hw:win (put m (64*n.toNat) (List.replicate 64 255)) (64*n.toNat) (bs.map some).length=List.replicate bs.length 255:=by
  have:=Z5y h hn (l:=List.replicate 64 255) (by simp)
  rw [Z3O] at this
  simp only [List.length_map,hb]
  exact this
 rw [hw,Z35,put_twice _ _ _ _ (by simp;omega) (by simp [hb])]
 simp [Z2n,hb]
theorem Z3V {p:Pow}{m bs:List UInt8}{k:Nat}{n:UInt8}(hu:Used m k)(hk:k+2≤60)(hn:n<16)(hb:bs.length=64)(hp:Z1o p 136) :
  Z0L p m n bs=(Z2n p 136,Z46 m k n bs,true):=by
 have m1:=Z6N (n:=n) hu (by omega) hn
 have m3:=m1.puts hn (l:=bs) (by omega)
 unfold Z0L
 rw [Z2D hu (by omega) rfl (Z8g hp (by omega))]
 simp only [thenS,if_true]
 rw [Z6q m1 hn _ (Z4K (Z8g hp (by omega)))]
 simp only [if_true]
 rw [Z2L,Z7i m1 hn hb _ (Z4K (Z8g hp (by omega)))]
 simp only [if_true]
 rw [Z2L,Z2D m3.used (by omega) rfl (Z4K hp),Z2L]
 rw [rec_two (Z5y m1 hn hb)]
 rfl
def BurntIs (m bs:List UInt8) (k:Nat) (n:UInt8):Prop :=
 Used (Z46 m k n bs) (k+2)∧Z0v (Z46 m k n bs) n.toNat=bs∧(∀ j,j<16→j≠n.toNat→Z0v (Z46 m k n bs) j=Z0v m j)∧Z0n (Z46 m k n bs) n=true∧∀ j:UInt8,j<16→j≠n→Z0n (Z46 m k n bs) j=Z0n m j
theorem burntM_is {m bs:List UInt8}{k:Nat}{n:UInt8}(hu:Used m k)(hk:k+2≤60)(hn:n<16)(hb:bs.length=64):BurntIs m bs k n:=by
 unfold BurntIs
 have m1:=Z6N (n:=n) hu (by omega) hn
 have m3:=m1.puts hn (l:=bs) (by omega)
 have hpg:=Z5y m1 hn hb
 obtain ⟨X,hX⟩:∃ X,put (put m (1024+4*k) (recF m n 1)) (64*n.toNat) bs=X:=⟨_,rfl⟩
 rw [hX] at m3 hpg
 have hr:=rec_two hpg
 have he:Z46 m k n bs=put X (1024+4*(k+1)) (recF X n 2):=by unfold Z46;rw [hX,hr]
 rw [he]
 have hL:Lone X (put X (1024+4*(k+1)) (recF X n 2)) (k+1) n:=Z8b m3.used (by omega) (by rw [recF_len];omega) (.inl rfl)
 have hs:=Z3B (r:=recF X n 2) m3.used (by omega) rfl
 have hpn:=hL.pages n.toNat (u16 hn)
 refine ⟨?_,hpn.trans hpg,fun j hj hne=>(hL.pages j hj).trans (m3.pages j hj hne),?_,fun j hj hne=>(hL.burnt_other m3.used (by omega) j hj hne).trans (m3.other hu j hj hne)⟩
 ·rcases m3.used.next (by omega) hL.len hL.slots with ⟨e,_⟩ | ⟨_,h⟩
  ·exact absurd (hs.symm.trans e) (Z3D _ _ _ hn)
  ·exact h
 ·rw [hL.burnt m3.used (by omega) n hn,says_two (by rw [hs];exact (recF_two hpn).symm)];rfl
theorem Z3T {p:Pow}{m bs:List UInt8}{k:Nat}{n:UInt8}(hu:Used m k)(hk:k+2≤60)(hn:n<16)(hb:bs.length=64)(hp:¬ Z1o p 136) :
  ∃ p' m',Z0L p m n bs=(p',m',false)∧Left m m' k n bs:=by
 have m1:=Z6N (n:=n) hu (by omega) hn
 have m3:=m1.puts hn (l:=bs) (by omega)
 have hlen:=hu.len
 have hnn:=u16 hn
 unfold Z0L
 by_cases h1:Z1o p 4
 ·rw [Z2D hu (by omega) rfl h1]
  simp only [thenS,if_true]
  by_cases h2:Z1o (Z2n p 4) 64
  ·rw [Z6q m1 hn _ h2]
   simp only [if_true]
   by_cases h3:Z1o (Z2n (Z2n p 4) 64) 64
   ·rw [Z7i m1 hn hb _ h3]
    simp only [if_true]
    have h4:¬ Z1o (Z2n (Z2n (Z2n p 4) 64) 64) 4:=by
     intro h4
     apply hp
     have:=Z5Z (Z5Z (Z5Z h1 h2) (by rw [←Z2L];exact h3)) (by rw [←Z2L,← Z2L];exact h4)
     exact this
    have hpg:=Z5y m1 hn hb
    obtain ⟨X,hX⟩:∃ X,put (put m (1024+4*k) (recF m n 1)) (64*n.toNat) bs=X:=⟨_,rfl⟩
    rw [hX] at m3 hpg ⊢
    obtain ⟨l,e1,e2,e3,e4⟩:=Z3m (r:=recF X n 2) m3.used (by omega) rfl h4
    rw [e1]
    refine ⟨_,_,rfl,?_⟩
    have hL:Lone X (put X (1024+4*(k+1)) l) (k+1) n:=Z8b m3.used (by omega) e2 e3
    refine ⟨?_,fun j hj hne=>(hL.pages j hj).trans (m3.pages j hj hne),fun j hj hne=>(hL.burnt_other m3.used (by omega) j hj hne).trans (m3.other hu j hj hne),?_⟩
    ·rcases m3.used.next (by omega) hL.len hL.slots with ⟨_,h⟩ | ⟨_,h⟩
     ·exact ⟨_,h,by omega,by omega⟩
     ·exact ⟨_,h,by omega,by omega⟩
    ·have hbn:=hL.burnt m3.used (by omega) n hn
     rw [m3.burnt] at hbn
     cases hs:says (put X (1024+4*(k+1)) l) n (k+1) with
     | none=>rw [hs] at hbn;exact .inr (.inl hbn)
     | some b =>
      rw [hs] at hbn
      cases b with
      | false=>exact .inr (.inl hbn)
      | true=>exact .inr (.inr ⟨(hL.pages _ hnn).trans hpg,hbn⟩)
   ·have he:=m1.puts hn (l:=List.replicate 64 255) (by simp)
    obtain ⟨l,e1,e2,e3,_⟩:=Z3J (os:=bs.map some) (p:=Z2n (Z2n p 4) 64) (m:=put (put m (1024+4*k) (recF m n 1)) (64*n.toNat) (List.replicate 64 255)) (i:=64*n.toNat) (by rw [he.used.len];simp [hb];omega) (by simpa [hb] using h3)
    rw [e1]
    simp only [Bool.false_eq_true,if_false]
    refine ⟨_,_,rfl,(he.puts hn (l:=l) ?_).left hu⟩
    simp [hb] at e3;omega
  ·obtain ⟨l,e1,e2,e3,_⟩:=Z3J (os:=List.replicate 64 none) (p:=Z2n p 4) (m:=put m (1024+4*k) (recF m n 1)) (i:=64*n.toNat) (by rw [m1.used.len];simp;omega) (by simpa using h2)
   rw [e1]
   simp only [Bool.false_eq_true,if_false]
   refine ⟨_,_,rfl,(m1.puts hn (l:=l) ?_).left hu⟩
   simp at e3;omega
 ·obtain ⟨l,e1,e2,e3,e4⟩:=Z3m (r:=recF m n 1) hu (by omega) rfl h1
  rw [e1]
  simp only [thenS,Bool.false_eq_true,if_false]
  refine ⟨_,_,rfl,?_⟩
  have hL:Lone m (put m (1024+4*k) l) k n:=Z8b hu (by omega) e2 e3
  refine ⟨?_,fun j hj _=>hL.pages j hj,fun j hj hne=>hL.burnt_other hu (by omega) j hj hne,?_⟩
  ·rcases hu.next (by omega) hL.len hL.slots with ⟨_,h⟩ | ⟨_,h⟩
   ·exact ⟨_,h,by omega,by omega⟩
   ·exact ⟨_,h,by omega,by omega⟩
  ·have hbn:=hL.burnt hu (by omega) n hn
   cases hs:says (put m (1024+4*k) l) n k with
   | none=>rw [hs] at hbn;exact .inl ⟨hL.pages _ hnn,hbn⟩
   | some b =>
    rw [hs] at hbn
    cases b with
    | false=>exact .inr (.inl hbn)
    | true =>
     exfalso
     have h4:=(hu.puts (l:=l) (by omega) e2).2.2.2 1 (by omega)
     have h2:(Z0G (put m (1024+4*k) l) k)[1]?=some 2:=by
      unfold says at hs
      split at hs
      ·cases hs
      ·split at hs
       ·rename_i e;rw [e];rfl
       ·cases hs
     rw [h2] at h4
     rcases e4 with e4 | e4 | e4
     ·rw [if_neg (by omega)] at h4;simp at h4
     ·have:1<l.length:=(List.getElem?_eq_some_iff.1 e4).1
      rw [if_pos this,e4] at h4;simp at h4
     ·have:1<l.length:=(List.getElem?_eq_some_iff.1 e4).1
      rw [if_pos this,e4] at h4
      exact mix_odd p.mask (by simpa using h4.symm)
def Z3S (s:EarS):Prop:=s=⟨0,[]⟩∨s=⟨1,[]⟩
theorem Z36:Z3S ear0:=.inl rfl
theorem Z7S:Z3S ⟨1,[]⟩:=.inr rfl
theorem hear_frame {s:EarS}(hs:Z3S s)(m:List UInt8)(h1:m≠[])(h2:m.length≤80):Z0r s (Z0g m)=(⟨1,[]⟩,[m]):=by
 have e:Z0g m=[126]++(escL (m++chkB m) ++ [126]):=rfl
 have e2:Z0r s [126]=(⟨1,[]⟩,[]):=by
  rcases hs with rfl | rfl
  ·simp [Z0r,Z0P,Z06]
  ·exact Z7H
 rw [e,Z1V,e2]
 simp only
 rw [hear_tail m h1 h2]
 simp
theorem hear_single (m:List UInt8)(h1:m≠[])(h2:m.length≤80):Z0r ear0 ([126]++Z0g m ++ [126])=(⟨1,[]⟩,[m]):=by
 have e2:Z0r ear0 [126]=(⟨1,[]⟩,[]):=by simp [Z0r,Z0P,Z06,ear0]
 rw [Z1V,Z1V,e2]
 simp only
 rw [hear_frame Z7S m h1 h2]
 simp only
 rw [Z7H]
 rfl
theorem used_0:Used mem0 0:=by
 have hs:∀ i:Fin 60,Z0G mem0 i.val=blankL:=by decide +kernel
 exact ⟨List.length_replicate,by omega,fun i hi=>absurd hi (by omega),fun i _ h2=>hs ⟨i,h2⟩⟩
theorem burnt_0 (n:UInt8):Z0n mem0 n=false:=by
 have:=used_0
 rw [Z1E (k:=0) (by omega) (fun i h1 h2=>Z2e (used_0.free i h1 h2))]
 rfl
/-! ## Once -/
structure Pg where
 n:UInt8
 bs:List UInt8
structure Hst where
 state:Nat
 ses:Nat
 left:List Pg
 burnt:Nat
 ear:EarS
 asked:List UInt8
 take:Nat
 said:Bool
 tries:Nat
 ticks:Nat
def saysH (h:Hst):Hst:=⟨h.state,h.ses,h.left,h.burnt,h.ear,h.asked,h.take,false,h.tries+1,0⟩
def Z0F (ses:Nat) (num what:UInt8):List UInt8:=[UInt8.ofNat (ses/256),UInt8.ofNat (ses%256),num,what]
def askH (h:Hst) (num what:UInt8) (rest:List UInt8) (tk:Nat):Hst:=saysH ⟨h.state,h.ses,h.left,h.burnt,h.ear,Z0F h.ses num what++rest,tk,h.said,0,h.ticks⟩
def endH (h:Hst) (s:Nat):Hst:=⟨s,h.ses,h.left,h.burnt,h.ear,h.asked,0,h.said,h.tries,h.ticks⟩
def nextH (h:Hst) (what:UInt8) (rest:List UInt8) (tk:Nat):Hst:=askH h (h.asked.getD 2 0+1) what rest tk
def Z0h (h:Hst):Pg:=h.left.getD 0 ⟨0,[]⟩
def isInH (p:Pg) (burnt:Nat):Bool:=burnt/2 ^ p.n.toNat%2 == 1
def askPageH (h:Hst):Hst:=nextH h 2 ((Z0h h).n :: (Z0h h).bs) 3
def askReadH (h:Hst) (tk:Nat):Hst:=nextH h 3 [(Z0h h).n] tk
def goOnH (h:Hst):Hst:=if h.left.length=0 then endH h 1 else if isInH (Z0h h) h.burnt=true then askReadH h 4 else askPageH h
def endPageH (h:Hst):Hst:=goOnH ⟨h.state,h.ses,h.left.drop 1,h.burnt,h.ear,h.asked,h.take,h.said,h.tries,h.ticks⟩
def Z3G (h:Hst) (b:Nat):Hst:=⟨h.state,h.ses,h.left,b,h.ear,h.asked,h.take,h.said,h.tries,h.ticks⟩
def takesH (h:Hst) (yes:Bool) (bs:List UInt8):Hst :=
 if h.take=1 then (if yes=true then nextH h 4 [] 2 else endH h 2)
 else if h.take=2 then (if yes=true then goOnH (Z3G h ((bs.getD 0 0).toNat*256+(bs.getD 1 0).toNat)) else endH h 2)
 else if h.take=3 then (if yes=true then askReadH h 5 else endH h 2)
 else if h.take=4 then (if yes=true∧bs=(Z0h h).bs then endPageH h else askPageH h)
 else (if yes=true∧bs=(Z0h h).bs then endPageH h else endH h 2)
def Z7A (what:UInt8):Nat:=if what=3 then 64 else if what=4 then 2 else 0
def Z0x (asked m : List UInt8) : Option (Bool × List UInt8) :=
  if 4 ≤ m.length ∧ m.take 3 = asked.take 3 then
    (if m.getD 3 0 = 1 ∧ m.length = 4 + Z7A (asked.getD 3 0) then some (true, m.drop 4)
     else if m.getD 3 0 = 2 ∧ m.length = 4 then some (false, []) else none)
  else none
def hearsH (h:Hst) (m:List UInt8):Hst:=if h.take=0 then h else match Z0x h.asked m with | some (y,bs)=>takesH h y bs | none=>h
def Z2J (h:Hst) (e:EarS):Hst:=⟨h.state,h.ses,h.left,h.burnt,e,h.asked,h.take,h.said,h.tries,h.ticks⟩
def hearH (h:Hst) (l:List UInt8):Hst:=(Z0r h.ear l).2.foldl hearsH (Z2J h (Z0r h.ear l).1)
def sayH (h:Hst):Hst × List UInt8:=if h.take=0∨h.said=true then (h,[]) else (⟨h.state,h.ses,h.left,h.burnt,h.ear,h.asked,h.take,true,h.tries,h.ticks⟩,Z0g h.asked)
def Z1c (h:Hst) (n:Nat):Hst:=⟨h.state,h.ses,h.left,h.burnt,h.ear,h.asked,h.take,h.said,h.tries,n⟩
def tickH (h:Hst):Hst :=
 if h.take=0 then h
 else if h.ticks+1<3 then Z1c h (h.ticks+1)
 else if h.tries<5 then saysH (Z1c h (h.ticks+1))
 else endH (Z1c h (h.ticks+1)) 2
structure HB (h:Hst):Prop where
 ses:h.ses<65536
 burnt:h.burnt<65536
 st:h.state≤2
 pages:∀ p∈h.left,p.n<16∧p.bs.length=64
 long:4≤h.asked.length∧h.asked.length≤69
 tries:h.tries≤5
 ticks:h.ticks≤3
 few:h.left.length≤16
structure HOk (h:Hst):Prop where
 b:HB h
 tk:h.take≤5
 going:h.take=0↔h.state≠0
 left:3≤h.take→0<h.left.length
 w1:h.take=1→h.asked.getD 3 0=1
 w2:h.take=2→h.asked.getD 3 0=4
 w3:h.take=3→h.asked.getD 3 0=2
 w4:h.take=4∨h.take=5→h.asked.getD 3 0=3
 t2:h.take≠0→h.ticks≤2
theorem Z2N {h:Hst}(hl:0<h.left.length):Z0h h∈h.left:=by
 unfold Z0h
 rw [List.getD_eq_getElem?_getD,List.getElem?_eq_getElem hl]
 exact List.getElem_mem hl
theorem HB.endH {h:Hst}(k:HB h)(s:Nat)(h1:s=1∨s=2):HOk (endH h s):=by
 have hs:s≤2∧s≠0:=by omega
 exact ⟨⟨k.ses,k.burnt,hs.1,k.pages,k.long,k.tries,k.ticks,k.few⟩,by simp [Proofs.YthokdbcpkmcieaaGreatDoor.endH],by simp [Proofs.YthokdbcpkmcieaaGreatDoor.endH,hs.2],by simp [Proofs.YthokdbcpkmcieaaGreatDoor.endH],by simp [Proofs.YthokdbcpkmcieaaGreatDoor.endH],by simp [Proofs.YthokdbcpkmcieaaGreatDoor.endH],by simp [Proofs.YthokdbcpkmcieaaGreatDoor.endH],by simp [Proofs.YthokdbcpkmcieaaGreatDoor.endH],by simp [Proofs.YthokdbcpkmcieaaGreatDoor.endH]⟩
theorem HB.askH {h:Hst}(k:HB h)(hst:h.state=0)(num what:UInt8)(rest:List UInt8)(tk:Nat)(h1:1≤tk)(h5:tk≤5)(hl:3≤tk→0<h.left.length)(hr:rest.length≤65)(w1:tk=1→what=1)(w2:tk=2→what=4)(w3:tk=3→what=2)(w4:tk=4∨tk=5→what=3):HOk (askH h num what rest tk):=by
 have hw:(Z0F h.ses num what++rest).getD 3 0=what:=rfl
 refine ⟨⟨k.ses,k.burnt,k.st,k.pages,?_,?_,?_,k.few⟩,h5,?_,hl,fun e=>hw.trans (w1 e),fun e=>hw.trans (w2 e),fun e=>hw.trans (w3 e),fun e=>hw.trans (w4 e),fun _=>?_⟩
 ·show 4≤(Z0F h.ses num what++rest).length∧(Z0F h.ses num what++rest).length≤69
  rw [List.length_append]
  show 4≤4+rest.length∧4+rest.length≤69
  omega
 ·show 0+1≤5
  omega
 ·show 0≤3
  omega
 ·show tk=0↔h.state≠0
  omega
 ·show 0≤2
  omega
theorem HB.nextH {h:Hst}(k:HB h)(hst:h.state=0)(what:UInt8)(rest:List UInt8)(tk:Nat)(h1:1≤tk)(h5:tk≤5)(hl:3≤tk→0<h.left.length)(hr:rest.length≤65)(w1:tk=1→what=1)(w2:tk=2→what=4)(w3:tk=3→what=2)(w4:tk=4∨tk=5→what=3):HOk (nextH h what rest tk):=k.askH hst _ what rest tk h1 h5 hl hr w1 w2 w3 w4
theorem HB.askPageH {h:Hst}(k:HB h)(hst:h.state=0)(hl:0<h.left.length):HOk (askPageH h):=by
 have hp:=(k.pages _ (Z2N hl)).2
 exact k.nextH hst 2 _ 3 (by omega) (by omega) (fun _=>hl) (by simp [hp]) (by omega) (by omega) (fun _=>rfl) (by omega)
theorem HB.askReadH {h:Hst}(k:HB h)(hst:h.state=0)(hl:0<h.left.length)(tk:Nat)(ht:tk=4∨tk=5):HOk (askReadH h tk) :=
 k.nextH hst 3 _ tk (by omega) (by omega) (fun _=>hl) (by simp) (by omega) (by omega) (by omega) (fun _=>rfl)
theorem HB.goOnH {h:Hst}(k:HB h)(hst:h.state=0):HOk (goOnH h):=by
 unfold Proofs.YthokdbcpkmcieaaGreatDoor.goOnH
 split
 ·exact k.endH 1 (.inl rfl)
 ·split
  ·exact k.askReadH hst (by omega) 4 (.inl rfl)
  ·exact k.askPageH hst (by omega)
theorem HB.endPageH {h:Hst}(k:HB h)(hst:h.state=0):HOk (endPageH h):=by
 refine HB.goOnH ⟨k.ses,k.burnt,k.st,fun p hp=>k.pages p (List.mem_of_mem_drop hp),k.long,k.tries,k.ticks,?_⟩ hst
 show (h.left.drop 1).length≤16
 rw [List.length_drop]
 have:=k.few
 omega
theorem HOk.takesH {h:Hst}(k:HOk h)(h0:h.take≠0)(y:Bool)(bs:List UInt8):HOk (takesH h y bs):=by
 have hst:h.state=0:=Classical.byContradiction fun e=>h0 (k.going.2 e)
 have ht:=k.tk
 unfold Proofs.YthokdbcpkmcieaaGreatDoor.takesH
 split
 ·split
  ·exact k.b.nextH hst 4 [] 2 (by omega) (by omega) (by omega) (by simp) (by omega) (fun _=>rfl) (by omega) (by omega)
  ·exact k.b.endH 2 (.inr rfl)
 ·split
  ·split
   ·refine HB.goOnH ⟨k.b.ses,?_,k.b.st,k.b.pages,k.b.long,k.b.tries,k.b.ticks,k.b.few⟩ hst
    have h1:=(bs.getD 0 0).toNat_lt
    have h2:=(bs.getD 1 0).toNat_lt
    show (bs.getD 0 0).toNat*256+(bs.getD 1 0).toNat<65536
    omega
   ·exact k.b.endH 2 (.inr rfl)
  ·split
   ·split
    ·exact k.b.askReadH hst (k.left (by omega)) 5 (.inr rfl)
    ·exact k.b.endH 2 (.inr rfl)
   ·split
    ·split
     ·exact k.b.endPageH hst
     ·exact k.b.askPageH hst (k.left (by omega))
    ·split
     ·exact k.b.endPageH hst
     ·exact k.b.endH 2 (.inr rfl)
theorem HOk.hearsH {h:Hst}(k:HOk h)(m:List UInt8):HOk (hearsH h m):=by
 unfold Proofs.YthokdbcpkmcieaaGreatDoor.hearsH
 split
 ·exact k
 ·rename_i h0
  split
  ·exact k.takesH h0 _ _
  ·exact k
theorem HOk.fold:∀ (l:List (List UInt8)) {h:Hst},HOk h→HOk (l.foldl Proofs.YthokdbcpkmcieaaGreatDoor.hearsH h)
 | [],_,k=>k
 | m :: l,_,k=>HOk.fold l (k.hearsH m)
theorem HOk.setEar {h:Hst}(k:HOk h)(e:EarS):HOk (Z2J h e):=⟨⟨k.b.ses,k.b.burnt,k.b.st,k.b.pages,k.b.long,k.b.tries,k.b.ticks,k.b.few⟩,k.tk,k.going,k.left,k.w1,k.w2,k.w3,k.w4,k.t2⟩
theorem HOk.hearH {h:Hst}(k:HOk h)(l:List UInt8):HOk (hearH h l):=HOk.fold _ (k.setEar _)
theorem HOk.sayH {h:Hst}(k:HOk h):HOk (sayH h).1:=by
 unfold Proofs.YthokdbcpkmcieaaGreatDoor.sayH
 split
 ·exact k
 ·exact ⟨⟨k.b.ses,k.b.burnt,k.b.st,k.b.pages,k.b.long,k.b.tries,k.b.ticks,k.b.few⟩,k.tk,k.going,k.left,k.w1,k.w2,k.w3,k.w4,k.t2⟩
theorem HOk.tickH {h:Hst}(k:HOk h):HOk (tickH h):=by
 unfold Proofs.YthokdbcpkmcieaaGreatDoor.tickH
 split
 ·exact k
 ·rename_i h0
  have h2:=k.t2 h0
  split
  ·rename_i h3
   exact ⟨⟨k.b.ses,k.b.burnt,k.b.st,k.b.pages,k.b.long,k.b.tries,by show h.ticks+1≤3;omega,k.b.few⟩,k.tk,k.going,k.left,k.w1,k.w2,k.w3,k.w4,fun _=>by show h.ticks+1≤2;omega⟩
  ·split
   ·rename_i h4
    exact ⟨⟨k.b.ses,k.b.burnt,k.b.st,k.b.pages,k.b.long,by show h.tries+1≤5;omega,by show 0≤3;omega,k.b.few⟩,k.tk,k.going,k.left,k.w1,k.w2,k.w3,k.w4,fun _=>by show 0≤2;omega⟩
   ·exact HB.endH (h:=Z1c h (h.ticks+1)) ⟨k.b.ses,k.b.burnt,k.b.st,k.b.pages,k.b.long,k.b.tries,by show h.ticks+1≤3;omega,k.b.few⟩ 2 (.inr rfl)
end Go.Proofs.YthokdbcpkmcieaaGreatDoor
namespace Go.Proofs.YthokdbcpkmcieaaGreatDoor
open Go Go.RowKit
structure WOk (W:List Pg):Prop where
 pages:∀ p∈W,p.n<16∧p.bs.length=64
 once:W.Pairwise fun p q=>p.n≠q.n
 few:W.length≤16
structure MemOk (W:List Pg) (m:List UInt8):Prop where
 used:∃ k,Used m k
 burnt:∀ g:UInt8,g<16→Z0n m g=true→∃ p∈W,p.n=g∧Z0v m g.toNat=p.bs
 blank:∀ g:UInt8,g<16→(∀ p∈W,p.n≠g)→Z0v m g.toNat=List.replicate 64 255
def GoodQ (W:List Pg) (q:List UInt8):Prop:=∃ ses num,ses<65536∧(q=Z0F ses num 1∨q=Z0F ses num 4∨(∃ g,q=Z0F ses num 3 ++ [g])∨∃ p∈W,q=Z0F ses num 2++(p.n :: p.bs))
theorem GoodQ.len {W:List Pg}(hW:WOk W){q:List UInt8}(h:GoodQ W q):q≠[]∧q.length≤80∧Z15 q=true:=by
 obtain ⟨ses,num,_,rfl | rfl | ⟨g,rfl⟩ | ⟨p,hp,rfl⟩⟩:=h
 ·exact ⟨by simp [Z0F],by simp [Z0F],by simp [Z15,Z0F]⟩
 ·exact ⟨by simp [Z0F],by simp [Z0F],by simp [Z15,Z0F]⟩
 ·exact ⟨by simp [Z0F],by simp [Z0F],by simp [Z15,Z0F]⟩
 ·have:=(hW.pages p hp).2
  exact ⟨by simp [Z0F],by simp [Z0F,this],by simp [Z15,Z0F,this]⟩
theorem burn_ok {W:List Pg}(hW:WOk W){m:List UInt8}(hm:MemOk W m){p:Pow}{pg:Pg}(hp:pg∈W)(hr:2≤Z5o m):MemOk W (Z0L p m pg.n pg.bs).2.1∧∀ g:UInt8,g<16→g≠pg.n→Z0n (Z0L p m pg.n pg.bs).2.1 g=Z0n m g∧Z0v (Z0L p m pg.n pg.bs).2.1 g.toNat=Z0v m g.toNat:=by
 obtain ⟨k,hk⟩:=hm.used
 have hk2:k+2≤60:=by
  have:=Z4H hk 60 (Nat.le_refl _)
  have e:Z5o m=60-k:=this
  omega
 obtain ⟨hn,hb⟩:=hW.pages pg hp
 have key:∀ m':List UInt8,(∃ k',Used m' k')→(∀ j,j<16→j≠pg.n.toNat→Z0v m' j=Z0v m j)→(∀ j:UInt8,j<16→j≠pg.n→Z0n m' j=Z0n m j)→((Z0v m' pg.n.toNat=Z0v m pg.n.toNat∧Z0n m' pg.n=Z0n m pg.n)∨Z0n m' pg.n=false∨(Z0v m' pg.n.toNat=pg.bs∧Z0n m' pg.n=true)) →
   MemOk W m'∧∀ g:UInt8,g<16→g≠pg.n→Z0n m' g=Z0n m g∧Z0v m' g.toNat=Z0v m g.toNat:=by
  intro m' h1 h2 h3 h4
  have hpg:∀ g:UInt8,g<16→g≠pg.n→Z0v m' g.toNat=Z0v m g.toNat:=fun g hg hne=>h2 g.toNat (u16 hg) (fun e=>hne (UInt8.toNat_inj.1 e))
  refine ⟨⟨h1,fun g hg hbt=>?_,fun g hg hno=>?_⟩,fun g hg hne=>⟨h3 g hg hne,hpg g hg hne⟩⟩
  ·by_cases e:g=pg.n
   ·subst e
    rcases h4 with ⟨a,b⟩ | a | ⟨a,_⟩
    ·rw [a]
     exact hm.burnt _ hg (by rw [←b];exact hbt)
    ·rw [a] at hbt
     cases hbt
    ·exact ⟨pg,hp,rfl,a⟩
   ·rw [hpg g hg e]
    exact hm.burnt g hg (by rw [←h3 g hg e];exact hbt)
  ·rw [hpg g hg (fun e=>hno pg hp e.symm)]
   exact hm.blank g hg hno
 by_cases hl:Z1o p 136
 ·rw [Z3V hk hk2 hn hb hl]
  obtain ⟨b1,b2,b3,b4,b5⟩:=burntM_is hk hk2 hn hb
  exact key _ ⟨_,b1⟩ b3 b5 (.inr (.inr ⟨b2,b4⟩))
 ·obtain ⟨p',m',he,hL⟩:=Z3T hk hk2 hn hb hl
  rw [he]
  obtain ⟨k',hk',_⟩:=hL.used
  exact key m' ⟨k',hk'⟩ hL.pages hL.other hL.own
theorem ans_good {W:List Pg}(hW:WOk W){p:Pow}{m:List UInt8}{t:Talk}{q:List UInt8}(hm:MemOk W m)(hq:GoodQ W q) :
  MemOk W (Z0f p m t q).2.1∧(q.getD 3 0≠2→(Z0f p m t q).2.1=m∧(Z0f p m t q).2.2.2.2=true)∧∀ g:UInt8,g<16→¬ (q.getD 3 0=2∧q.getD 4 0=g)→Z0n (Z0f p m t q).2.1 g=Z0n m g:=by
 have same:∀ x:Pow × List UInt8 × Talk × List UInt8 × Bool,Z0f p m t q=x→x.2.1=m→x.2.2.2.2=true→MemOk W (Z0f p m t q).2.1∧(q.getD 3 0≠2→(Z0f p m t q).2.1=m∧(Z0f p m t q).2.2.2.2=true)∧∀ g:UInt8,g<16→¬ (q.getD 3 0=2∧q.getD 4 0=g)→Z0n (Z0f p m t q).2.1 g=Z0n m g:=by
  intro x hx h1 h2
  rw [hx,h1,h2]
  exact ⟨hm,fun _=>⟨rfl,rfl⟩,fun _ _ _=>rfl⟩
 have hk:=(hq.len hW).2.2
 by_cases c1:q.getD 3 0≠1∧(t.opn=false∨Z0V q≠t.ses)
 ·exact same _ (by unfold Z0f;rw [if_neg (by simp [hk]),if_pos c1]) rfl rfl
 by_cases c2:q.getD 3 0≠1∧q.getD 2 0=t.num
 ·exact same _ (by unfold Z0f;rw [if_neg (by simp [hk]),if_neg c1,if_pos c2]) rfl rfl
 by_cases c3:q.getD 3 0≠1∧q.getD 2 0≠t.num+1
 ·exact same _ (by unfold Z0f;rw [if_neg (by simp [hk]),if_neg c1,if_neg c2,if_pos c3]) rfl rfl
 have hA:Z0f p m t q=(let d:=doF p m (q.getD 3 0) (q.drop 4)
   let o:=if q.getD 3 0=1 then true else t.opn
   let s:=if q.getD 3 0=1 then Z0V q else t.ses
   if d.1.2.2=true then (d.1.1,d.1.2.1,⟨o,s,q.getD 2 0,Z0g (q.take 3++d.2)⟩,Z0g (q.take 3++d.2),true)
   else (d.1.1,d.1.2.1,⟨o,s,q.getD 2 0,t.ans⟩,[],false)):=by
  conv=>lhs;unfold Z0f
  rw [if_neg (by simp [hk]),if_neg c1,if_neg c2,if_neg c3]
 have hmem:(Z0f p m t q).2.1=(doF p m (q.getD 3 0) (q.drop 4)).1.2.1∧(Z0f p m t q).2.2.2.2=(doF p m (q.getD 3 0) (q.drop 4)).1.2.2:=by
  rw [hA]
  simp only
  cases h:(doF p m (q.getD 3 0) (q.drop 4)).1.2.2 <;> simp
 rw [hmem.1,hmem.2]
 by_cases h2:q.getD 3 0=2
 ·have hd:doF p m (q.getD 3 0) (q.drop 4)=if (q.drop 4).getD 0 0<16∧2≤Z5o m then (Z0L p m ((q.drop 4).getD 0 0) ((q.drop 4).drop 1),[1]) else ((p,m,true),[2]):=by
   unfold doF
   rw [if_pos h2]
  rw [hd]
  by_cases hc:(q.drop 4).getD 0 0<16∧2≤Z5o m
  ·rw [if_pos hc]
   obtain ⟨ses,num,_,rfl | rfl | ⟨g,rfl⟩ | ⟨pg,hpg,rfl⟩⟩:=hq
   ·simp [Z0F] at h2
   ·simp [Z0F] at h2
   ·simp [Z0F] at h2
   ·have e1:((Z0F ses num 2++(pg.n :: pg.bs)).drop 4).getD 0 0=pg.n:=rfl
    have e2:((Z0F ses num 2++(pg.n :: pg.bs)).drop 4).drop 1=pg.bs:=rfl
    have e3:(Z0F ses num 2++(pg.n :: pg.bs)).getD 4 0=pg.n:=rfl
    rw [e1,e2]
    obtain ⟨a,b⟩:=burn_ok (p:=p) hW hm hpg hc.2
    refine ⟨a,fun h=>absurd h2 h,fun g hg hne=>(b g hg (fun e=>hne ⟨h2,?_⟩)).1⟩
    rw [e3,e]
  ·rw [if_neg hc]
   exact ⟨hm,fun h=>absurd h2 h,fun _ _ _=>rfl⟩
 ·have hd:(doF p m (q.getD 3 0) (q.drop 4)).1=(p,m,true):=by
   unfold doF
   rw [if_neg h2]
   split
   ·rfl
   ·split <;> rfl
  rw [hd]
  exact ⟨hm,fun _=>⟨rfl,rfl⟩,fun _ _ _=>rfl⟩
end Go.Proofs.YthokdbcpkmcieaaGreatDoor
