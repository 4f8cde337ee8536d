/- EarP BrdP BrdQ BrdJ -/
import Derived.ProofKit
set_option maxRecDepth 200000
set_option maxHeartbeats 8000000
namespace Go.Proofs.YthokdbcpkmcieaaGreatDoor
def dblN (x:Nat):Nat:=if 32768≤x then (x*2%65536) ^^^ 4129 else x*2
def dblT:Nat→Nat→Nat
 | 0,x=>x
 | k+1,x=>dblN (dblT k x)
def crcB (x:Nat) (b:UInt8):Nat:=dblT 8 (x ^^^ (b.toNat*256))
def crcN (l:List UInt8):Nat:=l.foldl crcB 65535
theorem dblN_lt {x:Nat}(h:x<65536):dblN x<65536:=by
 unfold dblN
 split
 ·exact Nat.xor_lt_two_pow (n:=16) (Nat.mod_lt _ (by decide)) (by decide)
 ·omega
theorem dblT_lt {x:Nat}(h:x<65536):∀ k,dblT k x<65536
 | 0=>h
 | k+1=>dblN_lt (dblT_lt h k)
theorem crcB_lt {x:Nat}(h:x<65536)(b:UInt8):crcB x b<65536:=by
 unfold crcB
 exact dblT_lt (Nat.xor_lt_two_pow (n:=16) h (by have:=b.toNat_lt;omega)) 8
theorem foldl_crc_lt (l:List UInt8):∀ x:Nat,x<65536→l.foldl crcB x<65536:=by
 induction l with
 | nil=>intro x h;rw [List.foldl_nil];exact h
 | cons b l ih=>intro x h;rw [List.foldl_cons];exact ih _ (crcB_lt h b)
theorem Z6y (l:List UInt8):crcN l<65536:=foldl_crc_lt l _ (by decide)
theorem crcN_snoc (l:List UInt8)(b:UInt8):crcN (l ++ [b])=crcB (crcN l) b:=by
 unfold crcN;rw [List.foldl_append,List.foldl_cons,List.foldl_nil]
def chkB (l:List UInt8):List UInt8:=[UInt8.ofNat (crcN l/256),UInt8.ofNat (crcN l%256)]
def isB (b:UInt8):Bool:=b == 126 || b == 125
def esc1 (b:UInt8):List UInt8:=if isB b=true then [125,b ^^^ 32] else [b]
def escL (l:List UInt8):List UInt8:=l.flatMap esc1
theorem escL_snoc (l:List UInt8)(b:UInt8):escL (l ++ [b])=escL l++esc1 b:=by unfold escL;rw [List.flatMap_append];simp
theorem Z5u:∀ l:List UInt8,(escL l).length≤2*l.length
 | []=>by simp [escL]
 | b :: l=>by
  have h:=Z5u l
  have:escL (b :: l)=esc1 b++escL l:=rfl
  rw [this,List.length_append]
  have:(esc1 b).length≤2:=by unfold esc1;split <;> simp
  simp;omega
def Z0g (m:List UInt8):List UInt8:=126 :: (escL (m++chkB m) ++ [126])
structure EarS where
 mode:Nat
 ks:List UInt8
def Z2Z (s:EarS) (b:UInt8):EarS:=if s.ks.length=82 then ⟨0,s.ks⟩ else ⟨s.mode,s.ks ++ [b]⟩
def Z1A (s:EarS) (b:UInt8):EarS :=
 if s.mode=0 then s
 else if s.mode=2 then (if isB (b ^^^ 32)=true then Z2Z ⟨1,s.ks⟩ (b ^^^ 32) else ⟨0,s.ks⟩)
 else if b=125 then ⟨2,s.ks⟩ else Z2Z s b
def hasC (l:List UInt8):Bool:=decide (3≤l.length) && decide (crcN (l.take (l.length-2))=(l.getD (l.length-2) 0).toNat*256+(l.getD (l.length-1) 0).toNat)
def Z06 (s:EarS):Bool:=decide (s.mode=1) && hasC s.ks
def Z0P (p:EarS × List (List UInt8)) (b:UInt8):EarS × List (List UInt8) :=
 if b=126 then (⟨1,[]⟩,if Z06 p.1=true then p.2 ++ [p.1.ks.take (p.1.ks.length-2)] else p.2) else (Z1A p.1 b,p.2)
def Z0r (s:EarS) (l:List UInt8):EarS × List (List UInt8):=l.foldl Z0P (s,[])
structure Z6h (s:EarS):Prop where
 mode:s.mode≤2
 len:s.ks.length≤82
theorem keepF_ok {s:EarS}(h:Z6h s)(b:UInt8):Z6h (Z2Z s b):=by
 unfold Z2Z
 split
 ·exact ⟨Nat.zero_le _,h.len⟩
 ·exact ⟨h.mode,by have:=h.len;simp;omega⟩
theorem takeF_ok {s:EarS}(h:Z6h s)(b:UInt8):Z6h (Z1A s b):=by
 unfold Z1A
 split
 ·exact h
 ·split
  ·split
   ·exact keepF_ok (s:=⟨1,s.ks⟩) ⟨(by decide:1≤2),h.len⟩ _
   ·exact ⟨Nat.zero_le _,h.len⟩
  ·split
   ·exact ⟨Nat.le_refl _,h.len⟩
   ·exact keepF_ok h b
theorem hearB_ok {p:EarS × List (List UInt8)}(h:Z6h p.1)(b:UInt8):Z6h (Z0P p b).1:=by
 unfold Z0P
 split
 ·exact ⟨(by decide:1≤2),by simp⟩
 ·exact takeF_ok h b
theorem hearB_out (s:EarS)(o:List (List UInt8))(b:UInt8):Z0P (s,o) b=((Z0P (s,[]) b).1,o++(Z0P (s,[]) b).2):=by
 unfold Z0P
 split
 ·by_cases h:Z06 s=true <;> simp [h]
 ·simp
theorem Z5B:∀ (l:List UInt8) (s:EarS) (o:List (List UInt8)),l.foldl Z0P (s,o)=((Z0r s l).1,o++(Z0r s l).2)
 | [],s,o=>by simp [Z0r]
 | b :: l,s,o=>by
  unfold Z0r
  simp only [List.foldl_cons]
  rw [hearB_out,Z5B l _ _]
  have e:Z0P (s,[]) b=((Z0P (s,[]) b).1,(Z0P (s,[]) b).2):=rfl
  rw [e,Z5B l (Z0P (s,[]) b).1 (Z0P (s,[]) b).2]
  simp
theorem Z1V (s:EarS)(a b:List UInt8):Z0r s (a++b)=((Z0r (Z0r s a).1 b).1,(Z0r s a).2++(Z0r (Z0r s a).1 b).2):=by
 unfold Z0r
 rw [List.foldl_append]
 have e:a.foldl Z0P (s,[])=((Z0r s a).1,(Z0r s a).2):=rfl
 rw [e,Z5B]
 rfl
theorem Z41 (s:EarS)(a:List UInt8)(b:UInt8):Z0r s (a ++ [b])=Z0P (Z0r s a) b:=by
 unfold Z0r
 rw [List.foldl_append];rfl
theorem Z2i (s:EarS):∀ (l:List UInt8),(Z0r s l).2.length≤l.length:=by
 have key:∀ (l:List UInt8) (p:EarS × List (List UInt8)),(l.foldl Z0P p).2.length≤p.2.length+l.length:=by
  intro l
  induction l with
  | nil=>intro p;simp
  | cons b l ih =>
   intro p
   simp only [List.foldl_cons,List.length_cons]
   have h:=ih (Z0P p b)
   have:(Z0P p b).2.length≤p.2.length+1:=by
    unfold Z0P
    split
    ·split <;> simp
    ·simp
   omega
 intro l
 have:=key l (s,[])
 unfold Z0r
 simpa using this
theorem hear_esc1 (s:EarS)(o:List (List UInt8))(b:UInt8)(hm:s.mode=1)(hl:s.ks.length<82):(esc1 b).foldl Z0P (s,o)=(⟨1,s.ks ++ [b]⟩,o):=by
 obtain ⟨m,ks⟩:=s
 simp only at hm hl
 subst hm
 have hne:¬ ks.length=82:=by omega
 unfold esc1
 by_cases hb:isB b=true
 ·rw [if_pos hb]
  have hx:¬ (b ^^^ 32)=126:=by
   unfold isB at hb
   simp at hb
   rcases hb with rfl | rfl <;> decide
  have hxx:(b ^^^ 32) ^^^ 32=b:=by
   unfold isB at hb
   simp at hb
   rcases hb with rfl | rfl <;> decide
  simp [List.foldl_cons,Z0P,Z1A,hx,hxx,hb,Z2Z,hne]
 ·rw [if_neg hb]
  have h126:¬ b=126:=fun e=>hb (by subst e;decide)
  have h125:¬ b=125:=fun e=>hb (by subst e;decide)
  simp [List.foldl_cons,Z0P,Z1A,h126,h125,Z2Z,hne]
theorem hear_escL (o:List (List UInt8)):∀ (l ks:List UInt8),ks.length+l.length≤82→(escL l).foldl Z0P (⟨1,ks⟩,o)=(⟨1,ks++l⟩,o)
 | [],ks,_=>by simp [escL]
 | b :: l,ks,h=>by
  have e:escL (b :: l)=esc1 b++escL l:=rfl
  simp at h
  rw [e,List.foldl_append,hear_esc1 ⟨1,ks⟩ o b rfl (by simp;omega),hear_escL o l _ (by simp;omega)]
  simp
theorem chkB_has (m:List UInt8)(h:m≠[]):hasC (m++chkB m)=true:=by
 unfold hasC
 have hl:(m++chkB m).length=m.length+2:=by simp [chkB]
 have hp:0<m.length:=by cases m with
  | nil=>exact absurd rfl h
  | cons _ _=>simp
 have hc:=Z6y m
 rw [hl]
 simp only [Bool.and_eq_true,decide_eq_true_eq]
 refine ⟨by omega,?_⟩
 rw [show m.length+2-2=m.length by omega,show m.length+2-1=m.length+1 by omega,List.take_left]
 have e1:(m++chkB m).getD m.length 0=UInt8.ofNat (crcN m/256):=by simp [chkB,List.getD_eq_getElem?_getD]
 have e2:(m++chkB m).getD (m.length+1) 0=UInt8.ofNat (crcN m%256):=by
  simp only [List.getD_eq_getElem?_getD]
  rw [List.getElem?_append_right (by omega)]
  simp [chkB]
 rw [e1,e2]
 have h1:(UInt8.ofNat (crcN m/256)).toNat=crcN m/256:=by rw [UInt8.toNat_ofNat'];omega
 have h2:(UInt8.ofNat (crcN m%256)).toNat=crcN m%256:=by rw [UInt8.toNat_ofNat'];omega
 rw [h1,h2]
 omega
theorem hear_tail (m:List UInt8)(h1:m≠[])(h2:m.length≤80):Z0r ⟨1,[]⟩ (escL (m++chkB m) ++ [126])=(⟨1,[]⟩,[m]):=by
 have hl:(m++chkB m).length=m.length+2:=by simp [chkB]
 have e:Z0r ⟨1,[]⟩ (escL (m++chkB m))=(⟨1,m++chkB m⟩,[]):=by
  have:=hear_escL [] (m++chkB m) [] (by simp [chkB];omega)
  simpa [Z0r] using this
 rw [Z41,e]
 have hh:=chkB_has m h1
 unfold Z0P
 rw [if_pos rfl]
 have hw:Z06 ⟨1,m++chkB m⟩=true:=by unfold Z06;simp [hh]
 rw [if_pos hw]
 simp [hl]
theorem Z7H:Z0r ⟨1,[]⟩ [126]=(⟨1,[]⟩,[]):=by simp [Z0r,Z0P,Z06,hasC]
theorem hear_126any (s:EarS):(Z0r s [126]).1=⟨1,[]⟩:=by simp [Z0r,Z0P]
structure Pow where
 cut:Bool
 left:Nat
 mask:UInt8
def pow0:Pow:=⟨false,0,0⟩
def Z0l (p:Pow) (c want:UInt8):Pow × UInt8 × Bool :=
 if p.cut=false then (p,want,true)
 else if p.left=0 then (p,c ^^^ ((c ^^^ want) &&& p.mask),false)
 else (⟨p.cut,p.left-1,p.mask⟩,want,true)
def Z1w (c:UInt8):Option UInt8→UInt8
 | none=>255
 | some x=>c &&& x
def runS:Pow→List UInt8→Nat→List (Option UInt8)→Pow × List UInt8 × Bool
 | p,m,_,[]=>(p,m,true)
 | p,m,i,o :: os =>
  if (Z0l p (m.getD i 0) (Z1w (m.getD i 0) o)).2.2=true then runS (Z0l p (m.getD i 0) (Z1w (m.getD i 0) o)).1 (m.set i (Z0l p (m.getD i 0) (Z1w (m.getD i 0) o)).2.1) (i+1) os
  else ((Z0l p (m.getD i 0) (Z1w (m.getD i 0) o)).1,m.set i (Z0l p (m.getD i 0) (Z1w (m.getD i 0) o)).2.1,false)
def Z0v (m:List UInt8) (n:Nat):List UInt8:=(m.drop (64*n)).take 64
def Z0G (m:List UInt8) (k:Nat):List UInt8:=(m.drop (1024+4*k)).take 4
def ofRec (m:List UInt8) (n k:UInt8):List UInt8:=[n,k]++(if k=2 then Z0v m n.toNat else [])
def recF (m:List UInt8) (n k:UInt8):List UInt8:=[n,k]++chkB (ofRec m n k)
def blankL:List UInt8:=[255,255,255,255]
def Z2j (m:List UInt8) (n:UInt8):Nat→Bool
 | 0=>false
 | k+1=>if Z0G m k=recF m n 1 then false else if Z0G m k=recF m n 2 then true else Z2j m n k
def Z0n (m:List UInt8) (n:UInt8):Bool:=Z2j m n 60
def Z6F (m:List UInt8):Nat→Nat
 | 0=>0
 | k+1=>Z6F m k+(if Z0n m (UInt8.ofNat k)=true then 2 ^ k else 0)
def Z3y (m:List UInt8):Nat:=Z6F m 16
def Z5l (m:List UInt8):Nat→Nat
 | 0=>0
 | k+1=>Z5l m k+(if Z0G m k=blankL then 1 else 0)
def Z5o (m:List UInt8):Nat:=Z5l m 60
def firstS (m:List UInt8):Nat→Nat→Nat
 | 0,k=>k
 | f+1,k=>if Z0G m k=blankL then k else firstS m f (k+1)
def firstF (m:List UInt8):Nat:=firstS m 60 0
def Z2m (p:Pow) (m r:List UInt8):Pow × List UInt8 × Bool:=runS p m (1024+4*firstF m) (r.map some)
def thenS (r:Pow × List UInt8 × Bool) (f:Pow→List UInt8→Pow × List UInt8 × Bool):Pow × List UInt8 × Bool:=if r.2.2=true then f r.1 r.2.1 else r
def Z0L (p:Pow) (m:List UInt8) (n:UInt8) (bs:List UInt8):Pow × List UInt8 × Bool :=
 thenS (thenS (thenS (Z2m p m (recF m n 1)) fun p m=>runS p m (64*n.toNat) (List.replicate 64 none)) fun p m=>runS p m (64*n.toNat) (bs.map some)) fun p m=>Z2m p m (recF m n 2)
def doF (p:Pow) (m:List UInt8) (asked:UInt8) (rest:List UInt8):(Pow × List UInt8 × Bool) × List UInt8 :=
 if asked=2 then (if rest.getD 0 0<16∧2≤Z5o m then (Z0L p m (rest.getD 0 0) (rest.drop 1),[1]) else ((p,m,true),[2]))
 else if asked=3 then ((p,m,true),if rest.getD 0 0<16∧Z0n m (rest.getD 0 0)=true then 1 :: Z0v m (rest.getD 0 0).toNat else [2])
 else if asked=4 then ((p,m,true),[1,UInt8.ofNat (Z3y m/256),UInt8.ofNat (Z3y m%256)])
 else ((p,m,true),[1])
structure Talk where
 opn:Bool
 ses:Nat
 num:UInt8
 ans:List UInt8
def Z5Q:Talk:=⟨false,0,0,[]⟩
structure Brd where
 on:Bool
 pow:Pow
 mem:List UInt8
 ear:EarS
 talk:Talk
def Z15 (m:List UInt8):Bool :=
 if m.length<4 then false
 else if m.getD 3 0=1∨m.getD 3 0=4 then decide (m.length=4)
 else if m.getD 3 0=2 then decide (m.length=69)
 else if m.getD 3 0=3 then decide (m.length=5)
 else false
def Z0V (m:List UInt8):Nat:=(m.getD 0 0).toNat*256+(m.getD 1 0).toNat
def Z0f (p:Pow) (m:List UInt8) (t:Talk) (q:List UInt8):Pow × List UInt8 × Talk × List UInt8 × Bool :=
 if Z15 q=false then (p,m,t,[],true)
 else
  if q.getD 3 0≠1∧(t.opn=false∨Z0V q≠t.ses) then (p,m,t,[],true)
  else if q.getD 3 0≠1∧q.getD 2 0=t.num then (p,m,t,t.ans,true)
  else if q.getD 3 0≠1∧q.getD 2 0≠t.num+1 then (p,m,t,[],true)
  else
   let d:=doF p m (q.getD 3 0) (q.drop 4)
   let o:=if q.getD 3 0=1 then true else t.opn
   let s:=if q.getD 3 0=1 then Z0V q else t.ses
   if d.1.2.2=true then (d.1.1,d.1.2.1,⟨o,s,q.getD 2 0,Z0g (q.take 3++d.2)⟩,Z0g (q.take 3++d.2),true)
   else (d.1.1,d.1.2.1,⟨o,s,q.getD 2 0,t.ans⟩,[],false)
def Z0J:Pow→List UInt8→Talk→List (List UInt8)→List UInt8→Pow × List UInt8 × Talk × List UInt8 × Bool
 | p,m,t,[],out=>(p,m,t,out,true)
 | p,m,t,q :: qs,out =>
  if (Z0f p m t q).2.2.2.2=true then Z0J (Z0f p m t q).1 (Z0f p m t q).2.1 (Z0f p m t q).2.2.1 qs (out++(Z0f p m t q).2.2.2.1)
  else ((Z0f p m t q).1,(Z0f p m t q).2.1,(Z0f p m t q).2.2.1,out,false)
def ear0:EarS:=⟨0,[]⟩
def Z0N (b:Brd) (l:List UInt8):Brd × List UInt8 :=
 if b.on=false then (b,[])
 else
  let r:=Z0J b.pow b.mem b.talk (Z0r b.ear l).2 []
  if r.2.2.2.2=true then (⟨true,r.1,r.2.1,(Z0r b.ear l).1,r.2.2.1⟩,r.2.2.2.1)
  else (⟨false,pow0,r.2.1,ear0,Z5Q⟩,r.2.2.2.1)
def cutF (b:Brd) (n:Int) (mask:UInt8):Brd:=if b.on=true then ⟨true,⟨true,n.toNat,mask⟩,b.mem,b.ear,b.talk⟩ else b
def bootF (b:Brd):Brd:=⟨true,pow0,b.mem,ear0,Z5Q⟩
def mem0:List UInt8:=List.replicate 1264 255
def brd0:Brd:=⟨true,pow0,mem0,ear0,Z5Q⟩
theorem Z4l (m:List UInt8):∀ k,Z6F m k<2 ^ k
 | 0=>by simp [Z6F]
 | k+1=>by
  have h:=Z4l m k
  unfold Z6F
  have:2 ^ (k+1)=2 ^ k+2 ^ k:=by rw [Nat.pow_succ];omega
  split <;> omega
theorem roomS_le (m:List UInt8):∀ k,Z5l m k≤k
 | 0=>Nat.le_refl _
 | k+1=>by
  have h:=roomS_le m k
  unfold Z5l
  split <;> omega
def win (m:List UInt8) (i n:Nat):List UInt8:=(m.drop i).take n
def put (m:List UInt8) (i:Nat) (l:List UInt8):List UInt8:=m.take i++(l++m.drop (i+l.length))
theorem Z10 (m:List UInt8)(i n k:Nat):(win m i n)[k]?=if k<n then m[i+k]? else none:=by
 unfold win
 by_cases h:k<n
 ·rw [if_pos h,List.getElem?_take_of_lt h,List.getElem?_drop]
 ·rw [if_neg h,List.getElem?_take_eq_none (by omega)]
theorem Z6L (m:List UInt8)(i:Nat)(l:List UInt8)(h:i+l.length≤m.length):(put m i l).length=m.length:=by
 unfold put
 simp
 omega
theorem Z2s (m:List UInt8)(i:Nat)(l:List UInt8)(h:i+l.length≤m.length)(k:Nat):(put m i l)[k]?=if i≤k∧k<i+l.length then l[k-i]? else m[k]?:=by
 unfold put
 by_cases h1:k<i
 ·rw [List.getElem?_append_left (by simp;omega),List.getElem?_take_of_lt h1,if_neg (by omega)]
 ·rw [List.getElem?_append_right (by simp;omega)]
  have e:(m.take i).length=i:=by simp;omega
  rw [e]
  by_cases h2:k<i+l.length
  ·rw [List.getElem?_append_left (by omega),if_pos ⟨by omega,h2⟩]
  ·rw [List.getElem?_append_right (by omega),List.getElem?_drop,if_neg (by omega)]
   congr 1
   omega
theorem Z5g (m:List UInt8)(i:Nat)(l:List UInt8)(h:i+l.length≤m.length):win (put m i l) i l.length=l:=by
 apply List.ext_getElem?
 intro k
 rw [Z10]
 by_cases hk:k<l.length
 ·rw [if_pos hk,Z2s _ _ _ h,if_pos ⟨by omega,by omega⟩]
  congr 1
  omega
 ·rw [if_neg hk,List.getElem?_eq_none (by omega)]
theorem Z00 (m:List UInt8)(i:Nat)(l:List UInt8)(h:i+l.length≤m.length)(j n:Nat)(hd:j+n≤i∨i+l.length≤j):win (put m i l) j n=win m j n:=by
 apply List.ext_getElem?
 intro k
 rw [Z10,Z10]
 by_cases hk:k<n
 ·rw [if_pos hk,if_pos hk,Z2s _ _ _ h,if_neg (by omega)]
 ·rw [if_neg hk,if_neg hk]
theorem Z3f (m:List UInt8)(i n:Nat)(h:i+n≤m.length):(win m i n).length=n:=by
 unfold win
 simp
 omega
theorem set_put (m:List UInt8)(i:Nat)(x:UInt8)(h:i<m.length):m.set i x=put m i [x]:=by
 apply List.ext_getElem?
 intro k
 rw [Z2s _ _ _ (by simp;omega),List.getElem?_set]
 by_cases hk:i=k
 ·subst hk
  simp [h]
 ·rw [if_neg hk,if_neg (by simp;omega)]
theorem Z42 (m:List UInt8)(i:Nat)(x:UInt8)(l:List UInt8)(h:i+1+l.length≤m.length):put (put m i [x]) (i+1) l=put m i (x :: l):=by
 have h1:(put m i [x]).length=m.length:=Z6L _ _ _ (by simp;omega)
 apply List.ext_getElem?
 intro k
 rw [Z2s _ _ _ (by omega),Z2s _ _ _ (by simp;omega),Z2s _ _ _ (by simp;omega)]
 by_cases h2:i+1≤k∧k<i+1+l.length
 ·rw [if_pos h2,if_pos (by simp;omega)]
  obtain ⟨d,hd⟩:∃ d,k=i+1+d:=⟨k-(i+1),by omega⟩
  subst hd
  rw [show i+1+d-(i+1)=d by omega,show i+1+d-i=d+1 by omega,List.getElem?_cons_succ]
 ·rw [if_neg h2]
  by_cases h3:k=i
  ·subst h3
   rw [if_pos (by simp),if_pos (by simp)]
   simp
  ·rw [if_neg (by simp;omega),if_neg (by simp;omega)]
def Z3l (old:List UInt8) (os:List (Option UInt8)):List UInt8:=List.zipWith Z1w old os
theorem wants_len (old:List UInt8)(os:List (Option UInt8))(h:old.length=os.length):(Z3l old os).length=os.length:=by
 unfold Z3l
 rw [List.length_zipWith];omega
theorem win_succ (m:List UInt8)(i n:Nat)(h:i+(n+1)≤m.length):win m i (n+1)=m.getD i 0 :: win m (i+1) n:=by
 apply List.ext_getElem?
 intro k
 cases k with
 | zero =>
  rw [Z10,if_pos (by omega)]
  simp [List.getElem?_eq_getElem (show i<m.length by omega),List.getD_eq_getElem?_getD]
 | succ k =>
  rw [Z10,List.getElem?_cons_succ,Z10]
  by_cases hk:k<n
  ·rw [if_pos (by omega),if_pos hk]
   congr 1
   omega
  ·rw [if_neg (by omega),if_neg hk]
theorem Z2Y : ∀ (os : List (Option UInt8)) (p : Pow) (m : List UInt8) (i : Nat), i + os.length ≤ m.length → (p.cut = false ∨ os.length ≤ p.left) →
    runS p m i os = (⟨p.cut, if p.cut = false then p.left else p.left - os.length, p.mask⟩, put m i (Z3l (win m i os.length) os), true)
  | [], p, m, i, _, _ => by
    simp [runS, Z3l, win, put]
  | o :: os, p, m, i, h, hp => by
    simp only [List.length_cons] at h
    unfold runS
    have hs : Z0l p (m.getD i 0) (Z1w (m.getD i 0) o) = (⟨p.cut, if p.cut = false then p.left else p.left - 1, p.mask⟩, Z1w (m.getD i 0) o, true) := by
      unfold Z0l
      by_cases hc : p.cut = false
      · rw [if_pos hc, if_pos hc]
      · have hl : ¬ p.left = 0 := by rcases hp with h | h
                                     · exact absurd h hc
                                     · simp only [List.length_cons] at h; omega
        rw [if_neg hc, if_neg hl, if_neg hc]
    rw [hs]
    simp only [if_true]
    have hlen : (m.set i (Z1w (m.getD i 0) o)).length = m.length := by simp
    have ih := Z2Y os ⟨p.cut, if p.cut = false then p.left else p.left - 1, p.mask⟩ (m.set i (Z1w (m.getD i 0) o)) (i + 1) (by rw [hlen]; omega) (by
      by_cases hc : p.cut = false
      · exact .inl hc
      · rcases hp with h | h
        · exact absurd h hc
        · right
          simp only [List.length_cons] at h
          show os.length ≤ (if p.cut = false then p.left else p.left - 1)
          rw [if_neg hc]; omega)
    simp only at ih
    rw [ih]
    rw [set_put m i _ (by omega)]
    have e1 : win (put m i [Z1w (m.getD i 0) o]) (i + 1) os.length = win m (i + 1) os.length := Z00 _ _ _ (by simp; omega) _ _ (.inr (by simp))
    rw [e1, Z42 _ _ _ _ (by rw [wants_len _ _ (Z3f _ _ _ (by omega))]; omega)]
    rw [List.length_cons, win_succ m i os.length (by omega)]
    congr 2
    by_cases hc : p.cut = false
    · simp [hc]
    · simp only [if_neg hc]
      rw [show p.left - 1 - os.length = p.left - (os.length + 1) by omega]
def mixF (c want mask:UInt8):UInt8:=c ^^^ ((c ^^^ want) &&& mask)
theorem Z7s:∀ (os:List (Option UInt8)) (p:Pow) (m:List UInt8) (i:Nat),i+os.length≤m.length→p.cut=true→p.left<os.length →
  runS p m i os=(⟨true,0,p.mask⟩,put m i (Z3l (win m i p.left) (os.take p.left) ++ [mixF (m.getD (i+p.left) 0) (Z1w (m.getD (i+p.left) 0) (os.getD p.left none)) p.mask]),false)
 | [],p,m,i,_,_,hl=>by simp at hl
 | o :: os,p,m,i,h,hc,hl=>by
  simp only [List.length_cons] at h hl
  have hcf:¬ p.cut=false:=by rw [hc];simp
  unfold runS
  by_cases h0:p.left=0
  ·have hs:Z0l p (m.getD i 0) (Z1w (m.getD i 0) o)=(p,mixF (m.getD i 0) (Z1w (m.getD i 0) o) p.mask,false):=by
    unfold Z0l mixF
    rw [if_neg hcf,if_pos h0]
   rw [hs]
   simp only [Bool.false_eq_true,if_false]
   rw [set_put m i _ (by omega),h0]
   have e:p=⟨true,0,p.mask⟩:=by cases p;simp_all
   rw [e]
   simp [Z3l]
  ·have hs:Z0l p (m.getD i 0) (Z1w (m.getD i 0) o)=(⟨p.cut,p.left-1,p.mask⟩,Z1w (m.getD i 0) o,true):=by
    unfold Z0l
    rw [if_neg hcf,if_neg h0]
   rw [hs]
   simp only [if_true]
   obtain ⟨k,hk⟩:∃ k,p.left=k+1:=⟨p.left-1,by omega⟩
   have hlen:(m.set i (Z1w (m.getD i 0) o)).length=m.length:=by simp
   have ih:=Z7s os ⟨p.cut,p.left-1,p.mask⟩ (m.set i (Z1w (m.getD i 0) o)) (i+1) (by rw [hlen];omega) hc (by show p.left-1<os.length;omega)
   simp only at ih
   rw [ih,hk,show k+1-1=k by omega,set_put m i _ (by omega)]
   have e1:win (put m i [Z1w (m.getD i 0) o]) (i+1) k=win m (i+1) k:=Z00 _ _ _ (by simp;omega) _ _ (.inr (by simp))
   have e2:(put m i [Z1w (m.getD i 0) o]).getD (i+1+k) 0=m.getD (i+(k+1)) 0:=by
    rw [List.getD_eq_getElem?_getD,Z2s _ _ _ (by simp;omega),if_neg (by simp),List.getD_eq_getElem?_getD]
    congr 2
    omega
   have e3:(o :: os).getD (k+1) none=os.getD k none:=by simp [List.getD_eq_getElem?_getD]
   have hwl:(Z3l (win m (i+1) k) (os.take k)).length=k:=by
    unfold Z3l
    rw [List.length_zipWith,Z3f _ _ _ (by omega),List.length_take];omega
   rw [e1,e2,e3,Z42 _ _ _ _ (by rw [List.length_append,hwl];simp;omega),win_succ m i k (by omega)]
   simp [Z3l]
theorem Z1p (m:List UInt8)(k:Nat):Z0G m k=win m (1024+4*k) 4:=rfl
theorem Z3O (m:List UInt8)(n:Nat):Z0v m n=win m (64*n) 64:=rfl
theorem ofNat_lt {j:Nat}(h:j<16):UInt8.ofNat j<16:=by
 rw [UInt8.lt_iff_toNat_lt,UInt8.toNat_ofNat']
 show j%256<16
 omega
structure Used (m:List UInt8) (k:Nat):Prop where
 len:m.length=1264
 le:k≤60
 full:∀ i,i<k→Z0G m i≠blankL
 free:∀ i,k≤i→i<60→Z0G m i=blankL
theorem Z5L {m:List UInt8}{k:Nat}(h:Used m k)(hk:k<60):∀ (f j:Nat),j≤k→f+j=60→firstS m f j=k
 | 0,j,h1,h2=>by omega
 | f+1,j,h1,h2=>by
  unfold firstS
  by_cases e:j=k
  ·subst e;rw [if_pos (h.free j (Nat.le_refl _) hk)]
  ·rw [if_neg (h.full j (by omega))]
   exact Z5L h hk f (j+1) (by omega) (by omega)
theorem Z30 {m:List UInt8}{k:Nat}(h:Used m k)(hk:k<60):firstF m=k:=Z5L h hk 60 0 (Nat.zero_le _) rfl
theorem Z4H {m:List UInt8}{k:Nat}(h:Used m k):∀ j,j≤60→Z5l m j=j-k
 | 0,_=>by simp [Z5l]
 | j+1,hj=>by
  unfold Z5l
  rw [Z4H h j (by omega)]
  by_cases e:j<k
  ·rw [if_neg (h.full j e)];omega
  ·rw [if_pos (h.free j (by omega) (by omega))];omega
theorem Z7x {m:List UInt8}{k:Nat}(h:Used m k):Z5o m=60-k:=Z4H h 60 (Nat.le_refl _)
def says (m:List UInt8) (n:UInt8) (i:Nat):Option Bool:=if Z0G m i=recF m n 1 then some false else if Z0G m i=recF m n 2 then some true else none
theorem Z1G (m:List UInt8)(n:UInt8)(k:Nat):Z2j m n (k+1)=(says m n k).getD (Z2j m n k):=by
 rw [Z2j]
 unfold says
 split
 ·rfl
 ·split <;> rfl
theorem Z3v {m m':List UInt8}{n:UInt8}:∀ k,(∀ i,i<k→says m' n i=says m n i)→Z2j m' n k=Z2j m n k
 | 0,_=>rfl
 | k+1,h=>by rw [Z1G,Z1G,h k (by omega),Z3v k (fun i hi=>h i (by omega))]
theorem recF_cons (m:List UInt8)(n k:UInt8):∃ a b,recF m n k=[n,k,a,b]:=⟨_,_,rfl⟩
theorem recF_len (m:List UInt8)(n k:UInt8):(recF m n k).length=4:=rfl
theorem Z8e (m m':List UInt8)(n:UInt8):recF m n 1=recF m' n 1:=rfl
theorem recF_two {m m':List UInt8}{n:UInt8}(h:Z0v m n.toNat=Z0v m' n.toNat):recF m n 2=recF m' n 2:=by
 unfold recF ofRec
 rw [h]
theorem says_eq {m m':List UInt8}{n:UInt8}{i:Nat}(h1:Z0G m' i=Z0G m i)(h2:Z0v m' n.toNat=Z0v m n.toNat):says m' n i=says m n i:=by
 unfold says
 rw [h1,Z8e m' m,recF_two h2]
theorem says_head {m:List UInt8}{n:UInt8}{i:Nat}(h:(Z0G m i)[0]?≠some n):says m n i=none:=by
 unfold says
 rw [if_neg (fun e=>h (by rw [e];rfl)),if_neg (fun e=>h (by rw [e];rfl))]
theorem says_kind {m:List UInt8}{n:UInt8}{i:Nat}(h:(Z0G m i)[1]?=some 255):says m n i=none:=by
 unfold says
 rw [if_neg (fun e=>by rw [e] at h;simp [recF] at h),if_neg (fun e=>by rw [e] at h;simp [recF] at h)]
theorem Z2e {m:List UInt8}{n:UInt8}{i:Nat}(h:Z0G m i=blankL):says m n i=none:=says_kind (by rw [h];rfl)
theorem says_one {m:List UInt8}{n:UInt8}{i:Nat}(h:Z0G m i=recF m n 1):says m n i=some false:=by unfold says;rw [if_pos h]
theorem says_two {m:List UInt8}{n:UInt8}{i:Nat}(h:Z0G m i=recF m n 2):says m n i=some true:=by
 unfold says
 rw [if_neg (fun e=>by rw [e] at h;simp [recF] at h),if_pos h]
theorem Z53 {m:List UInt8}{n:UInt8}{k:Nat}:∀ j,(∀ i,k≤i→i<k+j→says m n i=none)→Z2j m n (k+j)=Z2j m n k
 | 0,_=>rfl
 | j+1,h=>by
  rw [←Nat.add_assoc,Z1G,h (k+j) (by omega) (by omega)]
  exact Z53 j (fun i h1 h2=>h i h1 (by omega))
theorem Z1E {m:List UInt8}{n:UInt8}{k:Nat}(hk:k≤60)(h:∀ i,k≤i→i<60→says m n i=none):Z0n m n=Z2j m n k:=by
 have:=Z53 (m:=m) (n:=n) (k:=k) (60-k) (fun i h1 h2=>h i h1 (by omega))
 rwa [show k+(60-k)=60 by omega] at this
theorem and_255 (x:UInt8):(255:UInt8) &&& x=x:=by
 have:∀ k:Fin 256,(255:UInt8) &&& UInt8.ofNat k.val=UInt8.ofNat k.val:=by decide +kernel
 have h:=this ⟨x.toNat,x.toNat_lt⟩
 simpa using h
theorem Z35:∀ (l:List UInt8),Z3l (List.replicate l.length 255) (l.map some)=l
 | []=>rfl
 | x :: l=>by
  have:=Z35 l
  unfold Z3l at this ⊢
  simp only [List.length_cons,List.replicate_succ,List.map_cons,List.zipWith_cons_cons,this]
  simp only [Z1w,and_255]
theorem Z7n:∀ (l:List UInt8),Z3l l (List.replicate l.length none)=List.replicate l.length 255
 | []=>rfl
 | x :: l=>by
  have:=Z7n l
  unfold Z3l at this ⊢
  simp only [List.length_cons,List.replicate_succ,List.zipWith_cons_cons,this]
  rfl
def Z2n (p:Pow) (n:Nat):Pow:=⟨p.cut,if p.cut=false then p.left else p.left-n,p.mask⟩
def Z1o (p:Pow) (n:Nat):Prop:=p.cut=false∨n≤p.left
theorem Z2D {p:Pow}{m:List UInt8}{k:Nat}{r:List UInt8}(h:Used m k)(hk:k<60)(hr:r.length=4)(hp:Z1o p 4):Z2m p m r=(Z2n p 4,put m (1024+4*k) r,true):=by
 unfold Z2m
 rw [Z30 h hk,Z2Y _ _ _ _ (by have:=h.len;simp [hr];omega) (by simpa [hr,Z1o] using hp)]
 have e:win m (1024+4*k) (r.map some).length=List.replicate r.length 255:=by
  have:=h.free k (Nat.le_refl _) hk
  rw [Z1p] at this
  simp only [List.length_map,hr]
  exact this
 rw [e,Z35]
 simp [Z2n,hr]
theorem Used.puts {m l:List UInt8}{k:Nat}(h:Used m k)(hk:k<60)(hl:l.length≤4):(put m (1024+4*k) l).length=1264∧(∀ i,i≠k→i<60→Z0G (put m (1024+4*k) l) i=Z0G m i)∧(∀ n,n<16→Z0v (put m (1024+4*k) l) n=Z0v m n)∧∀ q,q<4→(Z0G (put m (1024+4*k) l) k)[q]?=if q<l.length then l[q]? else some 255:=by
 have hlen:=h.len
 have hb:1024+4*k+l.length≤m.length:=by omega
 refine ⟨by rw [Z6L _ _ _ hb];exact hlen,fun i hi h60=>?_,fun n hn=>?_,fun q hq=>?_⟩
 ·rw [Z1p,Z1p,Z00 _ _ _ hb _ _ (by omega)]
 ·rw [Z3O,Z3O,Z00 _ _ _ hb _ _ (by omega)]
 ·rw [Z1p,Z10,if_pos hq,Z2s _ _ _ hb]
  by_cases hl2:q<l.length
  ·rw [if_pos (by omega),if_pos hl2]
   congr 1
   omega
  ·rw [if_neg (by omega),if_neg hl2]
   have:=h.free k (Nat.le_refl _) hk
   rw [Z1p] at this
   have h2:=Z10 m (1024+4*k) 4 q
   rw [if_pos hq] at h2
   rw [←h2,this]
   have:∀ q:Fin 4,blankL[q.val]?=some 255:=by decide
   exact this ⟨q,hq⟩
theorem Used.next {m m':List UInt8}{k:Nat}(h:Used m k)(hk:k<60)(hl:m'.length=1264)(hs:∀ i,i≠k→i<60→Z0G m' i=Z0G m i):(Z0G m' k=blankL∧Used m' k)∨(Z0G m' k≠blankL∧Used m' (k+1)):=by
 by_cases e:Z0G m' k=blankL
 ·refine .inl ⟨e,hl,h.le,fun i hi=>by rw [hs i (by omega) (by omega)];exact h.full i hi,fun i h1 h2=>?_⟩
  by_cases ei:i=k
  ·subst ei;exact e
  ·rw [hs i ei h2];exact h.free i h1 h2
 ·refine .inr ⟨e,hl,by omega,fun i hi=>?_,fun i h1 h2=>by rw [hs i (by omega) h2];exact h.free i (by omega) h2⟩
  by_cases ei:i=k
  ·subst ei;exact e
  ·rw [hs i ei (by omega)];exact h.full i (by omega)
end Go.Proofs.YthokdbcpkmcieaaGreatDoor
