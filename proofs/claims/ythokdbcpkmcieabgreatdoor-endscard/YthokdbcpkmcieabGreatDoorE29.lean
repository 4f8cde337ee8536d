/- SurB SurC SurD SurE -/
import Derived.Test.YthokdbcpkmcieabGreatDoorE28
set_option maxRecDepth 200000
set_option maxHeartbeats 8000000
namespace Go.Proofs.YthokdbcpkmcieabGreatDoor
open Go Go.RowKit
def betw (s:List UInt8):List UInt8:=[126]++s ++ [126]
def msS (s:List UInt8):List (List UInt8):=(Z0p ear0 (betw s)).2
theorem quiet_flag {e:EarS}(h:Z39 e):Z0p e [126]=(⟨1,[]⟩,[]):=by
 rcases h with rfl | rfl
 ·simp [Z0p,Z0R,Z1b,hasC]
 ·exact Z8v
theorem Z02 {e:EarS}(h:Z39 e)(s:List UInt8):Z0p e (betw s)=(⟨1,[]⟩,msS s):=by
 have key:∀ {e:EarS},Z39 e→Z0p e (betw s)=Z0p ⟨1,[]⟩ (s ++ [126]):=fun {e} h=>by
  unfold betw
  rw [List.append_assoc,Z15,quiet_flag h]
  simp
 have e1:(Z0p ⟨1,[]⟩ (s ++ [126])).1=⟨1,[]⟩:=by
  rw [Z15]
  exact hear_126any (Z0p ⟨1,[]⟩ s).1
 unfold msS
 rw [key h,key Z4p]
 exact Prod.ext e1 rfl
theorem Z2M {q:List UInt8}(h1:q≠[])(h2:q.length≤80):msS (Z0c q)=[q]:=by
 unfold msS betw
 rw [hear_single q h1 h2]
structure Ply where
 b:Brd
 h:Hst
 late:List UInt8
 lateB:List UInt8
 n:Nat
structure ClaimX (m:List UInt8) (h:Hst) (late:List UInt8) (n:Nat) (x:List UInt8):Prop where
 len:4≤x.length∧x.length≤80
 ses:Z0C x≤n
 cur:Z0C x=n→h.take≠0→(x.getD 2 0).toNat≤(h.asked.getD 2 0).toNat∧(x.getD 2 0=h.asked.getD 2 0→late=Z0c h.asked∧(h.asked.getD 3 0=3→∀ bytes,x.drop 3=1 :: bytes→h.asked.getD 4 0<16∧Z0h m (h.asked.getD 4 0)=true∧Z0w m (h.asked.getD 4 0).toNat=bytes))
def cOf (tk:Nat):Nat:=if tk=1 then 0 else if tk=2 then 1 else if tk=4 then 2 else if tk=3 then 3 else 4
structure AskI (W:List Pg) (h:Hst):Prop where
 good:GoodQ W h.asked
 ses:Z0C h.asked=h.ses
 num:(h.asked.getD 2 0).toNat+3*h.left.length≤3*W.length+cOf h.take
 tk:h.take≤5
 read:h.take=4∨h.take=5→h.left≠[]∧h.asked.getD 3 0=3∧h.asked.getD 4 0=(Z0d h).n
 page:h.take=3→h.left≠[]∧h.asked.getD 3 0=2∧h.asked.getD 4 0=(Z0d h).n
 other:h.take=1∨h.take=2→h.asked.getD 3 0≠2∧h.asked.getD 3 0≠3
structure HostI (W:List Pg) (m:List UInt8) (h:Hst) (late:List UInt8) (n:Nat):Prop where
 ses:h.ses=n
 ear:Z39 h.ear
 left:∃ d,h.left=W.drop d∧(h.state≠2→∀ p∈W.take d,Z0h m p.n=true)
 done:h.state=1→h.left=[]
 st:h.state≤2
 going:h.take=0↔h.state≠0
 ask:h.take≠0→AskI W h
 said:h.take≠0→h.said=true→late=Z0c h.asked
 late:h.state=1→∃ q,late=Z0c q∧GoodQ W q∧q.getD 3 0≠2
structure Inv (W:List Pg) (s:Ply):Prop where
 w:WOk W
 n:1≤s.n∧s.n≤60000
 mem:MemOk W s.b.mem
 ear:Z39 s.b.ear
 host:HostI W s.b.mem s.h s.late s.n
 late:s.late=[]∨∃ q,s.late=Z0c q∧GoodQ W q∧Z0C q≤s.n
 talk:s.b.on=true→s.b.talk.opn=true→∃ x,s.b.talk.ans=Z0c x∧Z0C x=s.b.talk.ses∧x.getD 2 0=s.b.talk.num∧ClaimX s.b.mem s.h s.late s.n x
 lateB:s.lateB=[]∨∃ x,s.lateB=Z0c x∧ClaimX s.b.mem s.h s.late s.n x
def OutI (s:Ply) (out:List UInt8):Prop:=out=[]∨∃ x,out=Z0c x∧ClaimX s.b.mem s.h s.late s.n x
theorem ClaimX.keep {m m':List UInt8}{h:Hst}{late:List UInt8}{n:Nat}{x:List UInt8}(c:ClaimX m h late n x)(hm:h.take≠0→h.asked.getD 3 0=3→m'=m):ClaimX m' h late n x :=
 ⟨c.len,c.ses,fun h1 h2=>⟨(c.cur h1 h2).1,fun h3=>⟨((c.cur h1 h2).2 h3).1,fun h4 bytes hb=>by rw [hm h2 h4];exact ((c.cur h1 h2).2 h3).2 h4 bytes hb⟩⟩⟩
theorem Z4Z {ses:Nat}(h:ses<65536)(num what:UInt8)(rest:List UInt8):Z0C (Z0F ses num what++rest)=ses:=by
 unfold Z0C Z0F
 simp
 omega
theorem ans_cases (p:Pow)(m:List UInt8)(t:Talk)(q:List UInt8)(hk:Z16 q=true) :
  Z0e p m t q=(p,m,t,[],true)∨(t.opn=true∧Z0e p m t q=(p,m,t,t.ans,true)) ∨
  ((q.getD 3 0≠1→t.opn=true∧Z0C q=t.ses)∧(((doF p m (q.getD 3 0) (q.drop 4)).1.2.2=true∧Z0e p m t q=((doF p m (q.getD 3 0) (q.drop 4)).1.1,(doF p m (q.getD 3 0) (q.drop 4)).1.2.1,⟨if q.getD 3 0=1 then true else t.opn,if q.getD 3 0=1 then Z0C q else t.ses,q.getD 2 0,Z0c (q.take 3++(doF p m (q.getD 3 0) (q.drop 4)).2)⟩,Z0c (q.take 3++(doF p m (q.getD 3 0) (q.drop 4)).2),true))∨(Z0e p m t q).2.2.2.2=false)):=by
 by_cases c1:q.getD 3 0≠1∧(t.opn=false∨Z0C q≠t.ses)
 ·exact .inl (by unfold Z0e;rw [if_neg (by simp [hk]),if_pos c1])
 have ho:q.getD 3 0≠1→t.opn=true∧Z0C q=t.ses:=fun h=>by
  refine ⟨?_,?_⟩
  ·cases ht:t.opn with
   | true=>rfl
   | false=>exact absurd ⟨h,.inl ht⟩ c1
  ·exact Classical.byContradiction fun e=>c1 ⟨h,.inr e⟩
 by_cases c2:q.getD 3 0≠1∧q.getD 2 0=t.num
 ·exact .inr (.inl ⟨(ho c2.1).1,by unfold Z0e;rw [if_neg (by simp [hk]),if_neg c1,if_pos c2]⟩)
 by_cases c3:q.getD 3 0≠1∧q.getD 2 0≠t.num+1
 ·exact .inl (by unfold Z0e;rw [if_neg (by simp [hk]),if_neg c1,if_neg c2,if_pos c3])
 refine .inr (.inr ⟨ho,?_⟩)
 have hA:Z0e p m t q=(let d:=doF p m (q.getD 3 0) (q.drop 4)
   let o:=if q.getD 3 0=1 then true else t.opn
   let s:=if q.getD 3 0=1 then Z0C q else t.ses
   if d.1.2.2=true then (d.1.1,d.1.2.1,⟨o,s,q.getD 2 0,Z0c (q.take 3++d.2)⟩,Z0c (q.take 3++d.2),true)
   else (d.1.1,d.1.2.1,⟨o,s,q.getD 2 0,t.ans⟩,[],false)):=by
  conv=>lhs;unfold Z0e
  rw [if_neg (by simp [hk]),if_neg c1,if_neg c2,if_neg c3]
 cases h:(doF p m (q.getD 3 0) (q.drop 4)).1.2.2 with
 | true =>
  refine .inl ⟨rfl,?_⟩
  rw [hA]
  simp only
  rw [if_pos h]
 | false =>
  right
  rw [hA]
  simp only
  rw [if_neg (by rw [h];decide)]
theorem pageF_len {m:List UInt8}(hm:m.length=1264){n:Nat}(hn:n<16):(Z0w m n).length=64:=by
 unfold Z0w
 rw [List.length_take,List.length_drop]
 omega
theorem doF_ans {m:List UInt8}(hm:m.length=1264)(p:Pow)(a:UInt8)(rest:List UInt8):1≤(doF p m a rest).2.length∧(doF p m a rest).2.length≤65:=by
 unfold doF
 repeat' split
 all_goals first | (simp;done) | skip
 all_goals (rename_i h;have:=pageF_len hm (u16 h.1);rw [List.length_cons,this];omega)
theorem Z7S {W:List Pg}{s:Ply}(hi:Inv W s)(q:List UInt8)(hq:GoodQ W q)(hses:Z0C q≤s.n)(hcur:s.h.take≠0→q=s.h.asked∧s.late=Z0c s.h.asked)(hdone:s.h.state=1→q.getD 3 0≠2) :
  Inv W { s with b:=(Z0D s.b (betw (Z0c q))).1 }∧OutI { s with b:=(Z0D s.b (betw (Z0c q))).1 } (Z0D s.b (betw (Z0c q))).2:=by
 obtain ⟨l1,l2,l3⟩:=hq.len hi.w
 have hear:Z0p s.b.ear (betw (Z0c q))=(⟨1,[]⟩,[q]):=by rw [Z02 hi.ear,Z2M l1 l2]
 by_cases hon:s.b.on=true
 ·obtain ⟨A,hA⟩:∃ A,Z0e s.b.pow s.b.mem s.b.talk q=A:=⟨_,rfl⟩
  have hb:Z0D s.b (betw (Z0c q))=if A.2.2.2.2=true then (⟨true,A.1,A.2.1,⟨1,[]⟩,A.2.2.1⟩,A.2.2.2.1) else (⟨false,pow0,A.2.1,ear0,Z5E⟩,[]):=by
   unfold Z0D
   rw [if_neg (by rw [hon];simp),hear]
   simp only [Z0G,hA]
   by_cases h:A.2.2.2.2=true
   ·simp [h]
   ·simp [h]
  obtain ⟨g1,g2,g3⟩:=ans_good (p:=s.b.pow) (t:=s.b.talk) hi.w hi.mem hq
  rw [hA] at g1 g2 g3
  have hsame:s.h.take≠0→s.h.asked.getD 3 0=3→A.2.1=s.b.mem:=fun h1 h2=>by
   have:=(hcur h1).1
   exact (g2 (by rw [this,h2];decide)).1
  have hhost:HostI W A.2.1 s.h s.late s.n:=by
   have hh:=hi.host
   obtain ⟨d,hd1,hd2⟩:=hh.left
   refine ⟨hh.ses,hh.ear,⟨d,hd1,fun hs p hp=>?_⟩,hh.done,hh.st,hh.going,hh.ask,hh.said,hh.late⟩
   have hpW:p∈W:=List.mem_of_mem_take hp
   rw [g3 p.n (hi.w.pages p hpW).1 ?_]
   ·exact hd2 hs p hp
   ·rintro ⟨e2,e4⟩
    by_cases ht:s.h.take=0
    ·have hst:s.h.state≠0:=hh.going.1 ht
     by_cases h1:s.h.state=1
     ·exact hdone h1 e2
     ·have:=hh.st
      omega
    ·obtain ⟨hqa,_⟩:=hcur ht
     have hask:=hh.ask ht
     have htk:=hask.tk
     have ht3:s.h.take=3:=by
      rw [hqa] at e2
      by_cases h12:s.h.take=1∨s.h.take=2
      ·exact absurd e2 (hask.other h12).1
      ·by_cases h45:s.h.take=4∨s.h.take=5
       ·have:=(hask.read h45).2.1
        rw [this] at e2
        exact absurd e2 (by decide)
       ·omega
     obtain ⟨hne,_,h4⟩:=hask.page ht3
     rw [hqa,h4] at e4
     have hlen:0<s.h.left.length:=List.length_pos_iff.2 hne
     have hf:Z0d s.h∈W.drop d:=by rw [←hd1];exact Z2r hlen
     have:=hi.w.once
     rw [←List.take_append_drop d W] at this
     exact (List.pairwise_append.1 this).2.2 p hp _ hf e4.symm
  have hkeep:∀ x,ClaimX s.b.mem s.h s.late s.n x→ClaimX A.2.1 s.h s.late s.n x:=fun x hx=>hx.keep hsame
  have hlB:s.lateB=[]∨∃ x,s.lateB=Z0c x∧ClaimX A.2.1 s.h s.late s.n x:=by
   rcases hi.lateB with h | ⟨x,h1,h2⟩
   ·exact .inl h
   ·exact .inr ⟨x,h1,hkeep x h2⟩
  rw [hb]
  by_cases hok:A.2.2.2.2=true
  ·rw [if_pos hok]
   have htalk:(A.2.2.1.opn=true→∃ x,A.2.2.1.ans=Z0c x∧Z0C x=A.2.2.1.ses∧x.getD 2 0=A.2.2.1.num∧ClaimX A.2.1 s.h s.late s.n x)∧(A.2.2.2.1=[]∨∃ x,A.2.2.2.1=Z0c x∧ClaimX A.2.1 s.h s.late s.n x):=by
    rcases ans_cases s.b.pow s.b.mem s.b.talk q l3 with e | ⟨ho,e⟩ | ⟨ho,⟨hd,e⟩ | e⟩
    ·rw [hA] at e
     rw [e] at hkeep ⊢
     refine ⟨fun h=>?_,.inl rfl⟩
     obtain ⟨x,x1,x2,x3,x4⟩:=hi.talk hon h
     exact ⟨x,x1,x2,x3,hkeep x x4⟩
    ·rw [hA] at e
     rw [e] at hkeep ⊢
     obtain ⟨x,x1,x2,x3,x4⟩:=hi.talk hon ho
     exact ⟨fun _=>⟨x,x1,x2,x3,hkeep x x4⟩,.inr ⟨x,x1,hkeep x x4⟩⟩
    ·rw [hA] at e
     have hql:4≤q.length:=by
      unfold Z16 at l3
      by_cases hl:q.length<4
      ·rw [if_pos hl] at l3
       cases l3
      ·omega
     obtain ⟨hlen,hD⟩:s.b.mem.length=1264∧True:=⟨(hi.mem.used).choose_spec.len,trivial⟩
     have hDl:=doF_ans hlen s.b.pow (q.getD 3 0) (q.drop 4)
     obtain ⟨D,hDD⟩:∃ D,(doF s.b.pow s.b.mem (q.getD 3 0) (q.drop 4)).2=D:=⟨_,rfl⟩
     have hread:q.getD 3 0=3→D=if (q.drop 4).getD 0 0<16∧Z0h s.b.mem ((q.drop 4).getD 0 0)=true then 1 :: Z0w s.b.mem ((q.drop 4).getD 0 0).toNat else [2]:=fun h3=>by
      rw [←hDD]
      unfold doF
      rw [if_neg (by rw [h3];decide),if_pos h3]
     rw [hDD] at e hDl
     have ht3:(q.take 3).length=3:=by rw [List.length_take];omega
     have x0:∀ j,j<3→(q.take 3++D).getD j 0=q.getD j 0:=fun j hj=>by
      rw [List.getD_eq_getElem?_getD,List.getElem?_append_left (by omega),List.getElem?_take,if_pos hj,List.getD_eq_getElem?_getD]
     have xd:(q.take 3++D).drop 3=D:=by rw [List.drop_left' ht3]
     have xs:Z0C (q.take 3++D)=Z0C q:=by unfold Z0C;rw [x0 0 (by omega),x0 1 (by omega)]
     have hcl:ClaimX A.2.1 s.h s.late s.n (q.take 3++D):=by
      refine ⟨by rw [List.length_append,ht3];omega,by rw [xs];exact hses,fun _ hne=>?_⟩
      obtain ⟨hqa,hla⟩:=hcur hne
      rw [x0 2 (by omega),← hqa]
      refine ⟨Nat.le_refl _,fun _=>⟨by rw [hqa];exact hla,fun h3 bytes hb=>?_⟩⟩
      have hmm:=hsame hne (by rw [←hqa];exact h3)
      rw [hmm]
      rw [xd,hread h3] at hb
      have e4:(q.drop 4).getD 0 0=q.getD 4 0:=by rw [List.getD_eq_getElem?_getD,List.getElem?_drop,List.getD_eq_getElem?_getD]
      rw [e4] at hb
      split at hb
      ·rename_i hc
       exact ⟨hc.1,hc.2,(List.cons.inj hb).2⟩
      ·exact absurd (List.cons.inj hb).1 (by decide)
     rw [e] at hcl ⊢
     refine ⟨fun _=>⟨_,rfl,?_,x0 2 (by omega),hcl⟩,.inr ⟨_,rfl,hcl⟩⟩
     rw [xs]
     show Z0C q=if q.getD 3 0=1 then Z0C q else s.b.talk.ses
     split
     ·rfl
     ·rename_i h1
      exact (ho h1).2
    ·rw [hA] at e
     rw [e] at hok
     cases hok
   exact ⟨⟨hi.w,hi.n,g1,Z8J,hhost,hi.late,fun _ h=>htalk.1 h,hlB⟩,htalk.2⟩
  ·rw [if_neg hok]
   exact ⟨⟨hi.w,hi.n,g1,Z4p,hhost,hi.late,(fun h=>by cases h),hlB⟩,.inl rfl⟩
 ·have hoff:s.b.on=false:=by simpa using hon
  have e:Z0D s.b (betw (Z0c q))=(s.b,[]):=by unfold Z0D;rw [if_pos hoff]
  rw [e]
  exact ⟨hi,.inl rfl⟩
theorem HostI.ended {W:List Pg}{m:List UInt8}{h:Hst}{late:List UInt8}{n:Nat}(k:HostI W m h late n):HostI W m (endH h 2) late n:=by
 obtain ⟨d,h1,_⟩:=k.left
 exact ⟨k.ses,k.ear,⟨d,h1,fun e=>absurd rfl e⟩,fun e=>absurd e (by show ¬ (2:Nat)=1;omega),by show 2≤2;omega,⟨fun _=>by show (2:Nat)≠0;omega,fun _=>rfl⟩,fun e=>absurd rfl e,fun e=>absurd rfl e,fun e=>absurd e (by show ¬ (2:Nat)=1;omega)⟩
theorem num_next {x:UInt8}(h:x.toNat≤60):(x+1).toNat=x.toNat+1:=by
 rw [UInt8.toNat_add]
 show (x.toNat+1)%256=_
 omega
theorem cOf_le (tk:Nat):cOf tk≤4:=by
 unfold cOf
 repeat' split
 all_goals omega
theorem AskI.small {W:List Pg}{h:Hst}(hW:WOk W)(a:AskI W h):(h.asked.getD 2 0).toNat≤60:=by
 have:=a.num
 have:=hW.few
 have:=cOf_le h.take
 omega
theorem HostI.next {W:List Pg}{m:List UInt8}{h:Hst}{late:List UInt8}{n:Nat}(hn:n<65536)(hses:h.ses=n)(hear:Z39 h.ear)(hst:h.state=0)(hl:∃ d,h.left=W.drop d∧∀ p∈W.take d,Z0h m p.n=true)(hsm:(h.asked.getD 2 0).toNat≤60)(what:UInt8)(rest:List UInt8)(tk:Nat)(htk:1≤tk∧tk≤5)
  (hgood:GoodQ W (Z0F h.ses (h.asked.getD 2 0+1) what++rest)) (hnum:(h.asked.getD 2 0).toNat+1+3*h.left.length≤3*W.length+cOf tk)
  (hr:tk=4∨tk=5→h.left≠[]∧what=3∧rest.getD 0 0=(Z0d h).n) (hp:tk=3→h.left≠[]∧what=2∧rest.getD 0 0=(Z0d h).n) (ho:tk=1∨tk=2→what≠2∧what≠3) :
  HostI W m (nextH h what rest tk) late n∧((nextH h what rest tk).asked.getD 2 0).toNat=(h.asked.getD 2 0).toNat+1:=by
 have hnn:=num_next hsm
 obtain ⟨d,h1,h2⟩:=hl
 have e4:(Z0F h.ses (h.asked.getD 2 0+1) what++rest).getD 4 0=rest.getD 0 0:=by
  rw [List.getD_eq_getElem?_getD,List.getElem?_append_right (by simp [Z0F]),List.getD_eq_getElem?_getD]
  rfl
 refine ⟨⟨hses,hear,⟨d,h1,fun _=>h2⟩,fun e=>?_,?_,?_,fun _=>⟨hgood,?_,?_,htk.2,fun e=>?_,fun e=>?_,fun e=>?_⟩,fun _ e=>?_,fun e=>?_⟩,hnn⟩
 ·have:h.state=1:=e
  omega
 ·show h.state≤2
  omega
 ·show tk=0↔h.state≠0
  omega
 ·show Z0C (Z0F h.ses _ what++rest)=h.ses
  exact Z4Z (by omega) _ _ _
 ·show (h.asked.getD 2 0+1).toNat+3*h.left.length≤3*W.length+cOf tk
  omega
 ·obtain ⟨a,b,c⟩:=hr e
  exact ⟨a,b,e4.trans c⟩
 ·obtain ⟨a,b,c⟩:=hp e
  exact ⟨a,b,e4.trans c⟩
 ·exact ho e
 ·exact absurd (show (false:Bool)=true from e) (by decide)
 ·have:h.state=1:=e
  omega
theorem HostI.goOn {W:List Pg}(_hW:WOk W){m:List UInt8}{h:Hst}{late:List UInt8}{n:Nat}(hn:n<65536)(hses:h.ses=n)(hear:Z39 h.ear)(hst:h.state=0)(hl:∃ d,h.left=W.drop d∧∀ p∈W.take d,Z0h m p.n=true)(hsm:(h.asked.getD 2 0).toNat≤60)
  (hnum:(h.asked.getD 2 0).toNat+1+3*h.left.length≤3*W.length+2) (hlate:∃ q,late=Z0c q∧GoodQ W q∧q.getD 3 0≠2) :
  HostI W m (goOnH h) late n∧((goOnH h).take≠0→((goOnH h).asked.getD 2 0).toNat=(h.asked.getD 2 0).toNat+1):=by
 obtain ⟨d,h1,h2⟩:=hl
 unfold goOnH
 by_cases he:h.left.length=0
 ·rw [if_pos he]
  have hle:h.left=[]:=List.eq_nil_of_length_eq_zero he
  exact ⟨⟨hses,hear,⟨d,h1,fun _=>h2⟩,fun _=>hle,by show 1≤2;omega,⟨fun _=>by show (1:Nat)≠0;omega,fun _=>rfl⟩,fun e=>absurd rfl e,fun e=>absurd rfl e,fun _=>hlate⟩,fun e=>absurd rfl e⟩
 ·rw [if_neg he]
  have hne:h.left≠[]:=fun e=>he (by rw [e];rfl)
  have hfm:Z0d h∈W:=List.mem_of_mem_drop (by rw [←h1];exact Z2r (by omega):Z0d h∈W.drop d)
  by_cases hb:Z6x (Z0d h) h.burnt=true
  ·rw [if_pos hb]
   obtain ⟨a,b⟩:=HostI.next (late:=late) hn hses hear hst ⟨d,h1,h2⟩ hsm 3 [(Z0d h).n] 4 (by omega) ⟨h.ses,_,by omega,.inr (.inr (.inl ⟨_,rfl⟩))⟩ (by show _≤3*W.length+2;exact hnum) (fun _=>⟨hne,rfl,rfl⟩) (by omega) (by omega)
   exact ⟨a,fun _=>b⟩
  ·rw [if_neg hb]
   obtain ⟨a,b⟩:=HostI.next (late:=late) hn hses hear hst ⟨d,h1,h2⟩ hsm 2 ((Z0d h).n :: (Z0d h).bs) 3 (by omega) ⟨h.ses,_,by omega,.inr (.inr (.inr ⟨_,hfm,rfl⟩))⟩ (by show _≤3*W.length+3;omega) (by omega) (fun _=>⟨hne,rfl,rfl⟩) (by omega)
   exact ⟨a,fun _=>b⟩
theorem HostI.takes {W:List Pg}(hW:WOk W){m:List UInt8}{h:Hst}{late:List UInt8}{n:Nat}(hn:n<65536)(k:HostI W m h late n)(h0:h.take≠0)(hlate:late=Z0c h.asked)(y:Bool)(bs:List UInt8)
  (htrue:h.asked.getD 3 0=3→y=true→h.asked.getD 4 0<16∧Z0h m (h.asked.getD 4 0)=true∧Z0w m (h.asked.getD 4 0).toNat=bs) :
  HostI W m (takesH h y bs) late n∧((takesH h y bs).take≠0→((takesH h y bs).asked.getD 2 0).toNat=(h.asked.getD 2 0).toNat+1):=by
 have hst:h.state=0:=Classical.byContradiction fun e=>h0 (k.going.2 e)
 have ha:=k.ask h0
 have hsm:=ha.small hW
 have hnum:=ha.num
 have htk:=ha.tk
 obtain ⟨d,h1,h2⟩:=k.left
 have h2':=h2 (by omega)
 have hbad:HostI W m (endH h 2) late n∧((endH h 2).take≠0→((endH h 2).asked.getD 2 0).toNat=(h.asked.getD 2 0).toNat+1):=⟨k.ended,fun e=>absurd rfl e⟩
 unfold takesH
 by_cases t1:h.take=1
 ·rw [if_pos t1]
  cases y with
  | false=>exact hbad
  | true =>
   rw [if_pos rfl]
   have hc:cOf h.take=0:=by rw [t1];rfl
   obtain ⟨a,b⟩:=HostI.next (late:=late) hn k.ses k.ear hst ⟨d,h1,h2'⟩ hsm 4 [] 2 (by omega) ⟨h.ses,_,by have:=k.ses;omega,.inr (.inl (List.append_nil _))⟩ (by show _≤3*W.length+1;omega) (by omega) (by omega) (fun _=>⟨by decide,by decide⟩)
   exact ⟨a,fun _=>b⟩
 rw [if_neg t1]
 by_cases t2:h.take=2
 ·rw [if_pos t2]
  cases y with
  | false=>exact hbad
  | true =>
   rw [if_pos rfl]
   have hc:cOf h.take=1:=by rw [t2];rfl
   exact HostI.goOn (h:=Z2D h _) hW hn k.ses k.ear hst ⟨d,h1,h2'⟩ hsm (by show (h.asked.getD 2 0).toNat+1+3*h.left.length≤_;omega) ⟨h.asked,hlate,ha.good,(ha.other (.inr t2)).1⟩
 rw [if_neg t2]
 have endp:(h.take=4∨h.take=5)→y=true→bs=(Z0d h).bs→HostI W m (endPageH h) late n∧((endPageH h).take≠0→((endPageH h).asked.getD 2 0).toNat=(h.asked.getD 2 0).toNat+1):=by
  intro ht hy hbs
  obtain ⟨r1,r2,r3⟩:=ha.read ht
  obtain ⟨_,hbn,_⟩:=htrue r2 hy
  rw [r3] at hbn
  have hll:0<h.left.length:=List.length_pos_iff.2 r1
  have hdl:d<W.length:=by
   rw [h1,List.length_drop] at hll
   omega
  have hf:Z0d h=W[d]:=by
   unfold Z0d
   rw [h1,List.getD_eq_getElem?_getD,List.getElem?_drop,Nat.add_zero,List.getElem?_eq_getElem hdl]
   rfl
  have hc:cOf h.take≤4:=cOf_le _
  refine HostI.goOn (h:=⟨h.state,h.ses,h.left.drop 1,h.burnt,h.ear,h.asked,h.take,h.said,h.tries,h.ticks⟩) hW hn k.ses k.ear hst ⟨d+1,?_,fun p hp=>?_⟩ hsm ?_ ⟨h.asked,hlate,ha.good,by rw [r2];decide⟩
  ·show h.left.drop 1=W.drop (d+1)
   rw [h1,List.drop_drop]
  ·rw [List.take_succ_eq_append_getElem hdl] at hp
   rcases List.mem_append.1 hp with hp | hp
   ·exact h2' p hp
   ·rw [List.mem_singleton.1 hp,← hf]
    exact hbn
  ·show (h.asked.getD 2 0).toNat+1+3*(h.left.drop 1).length≤_
   rw [List.length_drop]
   omega
 by_cases t3:h.take=3
 ·rw [if_pos t3]
  cases y with
  | false=>exact hbad
  | true =>
   rw [if_pos rfl]
   obtain ⟨r1,_,_⟩:=ha.page t3
   have hc:cOf h.take=3:=by rw [t3];rfl
   obtain ⟨a,b⟩:=HostI.next (late:=late) hn k.ses k.ear hst ⟨d,h1,h2'⟩ hsm 3 [(Z0d h).n] 5 (by omega) ⟨h.ses,_,by have:=k.ses;omega,.inr (.inr (.inl ⟨_,rfl⟩))⟩ (by show _≤3*W.length+4;omega) (fun _=>⟨r1,rfl,rfl⟩) (by omega) (by omega)
   exact ⟨a,fun _=>b⟩
 rw [if_neg t3]
 by_cases t4:h.take=4
 ·rw [if_pos t4]
  by_cases hy:y=true∧bs=(Z0d h).bs
  ·rw [if_pos hy]
   exact endp (.inl t4) hy.1 hy.2
  ·rw [if_neg hy]
   obtain ⟨r1,_,_⟩:=ha.read (.inl t4)
   have hll:0<h.left.length:=List.length_pos_iff.2 r1
   have hfm:Z0d h∈W:=List.mem_of_mem_drop (by rw [←h1];exact Z2r hll:Z0d h∈W.drop d)
   have hc:cOf h.take=2:=by rw [t4];rfl
   obtain ⟨a,b⟩:=HostI.next (late:=late) hn k.ses k.ear hst ⟨d,h1,h2'⟩ hsm 2 ((Z0d h).n :: (Z0d h).bs) 3 (by omega) ⟨h.ses,_,by have:=k.ses;omega,.inr (.inr (.inr ⟨_,hfm,rfl⟩))⟩ (by show _≤3*W.length+3;omega) (by omega) (fun _=>⟨r1,rfl,rfl⟩) (by omega)
   exact ⟨a,fun _=>b⟩
 ·rw [if_neg t4]
  by_cases hy:y=true∧bs=(Z0d h).bs
  ·rw [if_pos hy]
   exact endp (.inr (by omega)) hy.1 hy.2
  ·rw [if_neg hy]
   exact hbad
theorem Inv.setH {W:List Pg}{s:Ply}(hi:Inv W s){h2:Hst}(hH:HostI W s.b.mem h2 s.late s.n)(hC:∀ x,ClaimX s.b.mem s.h s.late s.n x→ClaimX s.b.mem h2 s.late s.n x):Inv W { s with h:=h2 } :=
 ⟨hi.w,hi.n,hi.mem,hi.ear,hH,hi.late,fun h1 h2=>by
  obtain ⟨x,x1,x2,x3,x4⟩:=hi.talk h1 h2
  exact ⟨x,x1,x2,x3,hC x x4⟩,by
  rcases hi.lateB with h | ⟨x,h1,h2⟩
  ·exact .inl h
  ·exact .inr ⟨x,h1,hC x h2⟩⟩
theorem HostI.setEar {W:List Pg}{m:List UInt8}{h:Hst}{late:List UInt8}{n:Nat}(k:HostI W m h late n):HostI W m (Z0E h ⟨1,[]⟩) late n :=
 ⟨k.ses,Z8J,k.left,k.done,k.st,k.going,fun e=>by
  have a:=k.ask e
  exact ⟨a.good,a.ses,a.num,a.tk,a.read,a.page,a.other⟩,k.said,k.late⟩
theorem ClaimX.same {m:List UInt8}{h h2:Hst}{late:List UInt8}{n:Nat}{x:List UInt8}(c:ClaimX m h late n x)(ha:h2.asked=h.asked)(ht:h2.take≠0→h.take≠0):ClaimX m h2 late n x :=
 ⟨c.len,c.ses,fun h1 h3=>by rw [ha];exact c.cur h1 (ht h3)⟩
theorem host_silent {W:List Pg}{s:Ply}(hi:Inv W s){t:List UInt8}(ht:msS t=[]):Inv W { s with h:=hearH s.h (betw t) }:=by
 have e:hearH s.h (betw t)=Z0E s.h ⟨1,[]⟩:=by
  unfold hearH
  rw [Z02 hi.host.ear,ht]
  rfl
 rw [e]
 exact hi.setH hi.host.setEar (fun x c=>c.same rfl id)
theorem Z4E {asked x bs:List UInt8}{y:Bool}(h:Z0s asked x=some (y,bs)):x.take 3=asked.take 3∧4≤x.length∧(y=true→x.drop 3=1 :: bs):=by
 unfold Z0s at h
 split at h
 ·rename_i h1
  refine ⟨h1.2,h1.1,fun hy=>?_⟩
  split at h
  ·rename_i h2
   cases h
   rw [List.drop_eq_getElem_cons (show 3<x.length by omega)]
   have:=h2.1
   rw [List.getD_eq_getElem?_getD,List.getElem?_eq_getElem (show 3<x.length by omega)] at this
   have e:x[3]=1:=this
   rw [e]
  ·split at h
   ·cases h
    cases hy
   ·cases h
 ·cases h
theorem Z2Z {a b:List UInt8}(h:a.take 3=b.take 3)(j:Nat)(hj:j<3):a.getD j 0=b.getD j 0:=by
 have:=congrArg (fun l:List UInt8=>l.getD j 0) h
 simp only [List.getD_eq_getElem?_getD,List.getElem?_take,if_pos hj] at this
 rw [List.getD_eq_getElem?_getD,List.getD_eq_getElem?_getD]
 exact this
theorem host_hear {W:List Pg}{s:Ply}(hi:Inv W s){x:List UInt8}(hx:ClaimX s.b.mem s.h s.late s.n x):Inv W { s with h:=hearH s.h (betw (Z0c x)) }:=by
 have hl:=hx.len
 have e:hearH s.h (betw (Z0c x))=hearsH (Z0E s.h ⟨1,[]⟩) x:=by
  unfold hearH
  rw [Z02 hi.host.ear,Z2M (fun e=>by rw [e] at hl;simp at hl) hl.2]
  rfl
 rw [e]
 unfold hearsH
 by_cases h0:(Z0E s.h ⟨1,[]⟩).take=0
 ·rw [if_pos h0]
  exact hi.setH hi.host.setEar (fun x c=>c.same rfl id)
 ·rw [if_neg h0]
  split
  ·rename_i y bs ha
   have h0':s.h.take≠0:=h0
   obtain ⟨a1,a2,a3⟩:=Z4E ha
   have ha1:x.take 3=s.h.asked.take 3:=a1
   have hses:Z0C x=s.n:=by
    have:=(hi.host.ask h0').ses
    rw [hi.host.ses] at this
    rw [←this]
    unfold Z0C
    rw [Z2Z ha1 0 (by omega),Z2Z ha1 1 (by omega)]
   have hnum:x.getD 2 0=s.h.asked.getD 2 0:=Z2Z ha1 2 (by omega)
   obtain ⟨c1,c2⟩:=hx.cur hses h0'
   obtain ⟨d1,d2⟩:=c2 hnum
   obtain ⟨k1,k2⟩:=HostI.takes hi.w (by have:=hi.n;omega) hi.host.setEar h0 d1 y bs (fun h3 hy=>d2 h3 bs (a3 hy))
   refine hi.setH k1 (fun x' c=>⟨c.len,c.ses,fun e1 e2=>?_⟩)
   have f1:=(c.cur e1 h0').1
   have f2:=k2 e2
   have f3:((Z0E s.h ⟨1,[]⟩).asked.getD 2 0).toNat=(s.h.asked.getD 2 0).toNat:=rfl
   refine ⟨by omega,fun e3=>?_⟩
   exfalso
   rw [e3] at f1
   omega
  ·exact hi.setH hi.host.setEar (fun x c=>c.same rfl id)
theorem Z8C {W:List Pg}{s:Ply}(hi:Inv W s)(h0:s.h.take≠0)(hs:s.h.said=false):Inv W { s with h:=(sayH s.h).1,late:=Z0c s.h.asked }∧(sayH s.h).2=Z0c s.h.asked∧(sayH s.h).1.take=s.h.take∧(sayH s.h).1.asked=s.h.asked∧(sayH s.h).1.state=s.h.state:=by
 have e:sayH s.h=(⟨s.h.state,s.h.ses,s.h.left,s.h.burnt,s.h.ear,s.h.asked,s.h.take,true,s.h.tries,s.h.ticks⟩,Z0c s.h.asked):=by
  unfold sayH
  rw [if_neg (by rw [hs];simp [h0])]
 rw [e]
 have k:=hi.host
 have hst:s.h.state=0:=Classical.byContradiction fun e=>h0 (k.going.2 e)
 have a:=k.ask h0
 have hC:∀ x,ClaimX s.b.mem s.h s.late s.n x→ClaimX s.b.mem ⟨s.h.state,s.h.ses,s.h.left,s.h.burnt,s.h.ear,s.h.asked,s.h.take,true,s.h.tries,s.h.ticks⟩ (Z0c s.h.asked) s.n x:=fun x c=>⟨c.len,c.ses,fun h1 h2=>⟨(c.cur h1 h2).1,fun h3=>⟨rfl,((c.cur h1 h2).2 h3).2⟩⟩⟩
 refine ⟨⟨hi.w,hi.n,hi.mem,hi.ear,⟨k.ses,k.ear,k.left,k.done,k.st,k.going,fun _=>⟨a.good,a.ses,a.num,a.tk,a.read,a.page,a.other⟩,fun _ _=>rfl,fun e=>?_⟩,.inr ⟨_,rfl,a.good,?_⟩,fun h1 h2=>?_,?_⟩,rfl,rfl,rfl,rfl⟩
 ·have:s.h.state=1:=e
  omega
 ·rw [a.ses,k.ses]
  exact Nat.le_refl _
 ·obtain ⟨x,x1,x2,x3,x4⟩:=hi.talk h1 h2
  exact ⟨x,x1,x2,x3,hC x x4⟩
 ·rcases hi.lateB with h | ⟨x,h1,h2⟩
  ·exact .inl h
  ·exact .inr ⟨x,h1,hC x h2⟩
theorem Z51 {W:List Pg}{s:Ply}(hi:Inv W s):Inv W { s with h:=tickH s.h }:=by
 have k:=hi.host
 unfold tickH
 split
 ·exact hi
 ·rename_i h0
  have a:=k.ask h0
  have hst:s.h.state=0:=Classical.byContradiction fun e=>h0 (k.going.2 e)
  split
  ·exact hi.setH ⟨k.ses,k.ear,k.left,k.done,k.st,k.going,fun _=>⟨a.good,a.ses,a.num,a.tk,a.read,a.page,a.other⟩,k.said,k.late⟩ (fun x c=>c.same rfl id)
  ·split
   ·refine hi.setH ⟨k.ses,k.ear,k.left,k.done,k.st,k.going,fun _=>⟨a.good,a.ses,a.num,a.tk,a.read,a.page,a.other⟩,fun _ e=>?_,k.late⟩ (fun x c=>c.same rfl id)
    exact absurd (show (false:Bool)=true from e) (by decide)
   ·have k2:HostI W s.b.mem (Z1d s.h (s.h.ticks+1)) s.late s.n:=⟨k.ses,k.ear,k.left,k.done,k.st,k.going,fun _=>⟨a.good,a.ses,a.num,a.tk,a.read,a.page,a.other⟩,k.said,k.late⟩
    exact hi.setH k2.ended (fun x c=>c.same rfl (fun e=>absurd rfl e))
theorem board_cut {W:List Pg}{s:Ply}(hi:Inv W s)(n:Int)(mask:UInt8):Inv W { s with b:=cutF s.b n mask }:=by
 unfold cutF
 split
 ·rename_i h
  exact ⟨hi.w,hi.n,hi.mem,hi.ear,hi.host,hi.late,fun _ h2=>hi.talk h h2,hi.lateB⟩
 ·exact hi
theorem Z4W {W:List Pg}{s:Ply}(hi:Inv W s):Inv W { s with b:=Z5C s.b } :=
 ⟨hi.w,hi.n,hi.mem,Z4p,hi.host,hi.late,fun _ h=>absurd (show (false:Bool)=true from h) (by decide),hi.lateB⟩
theorem board_silent {W:List Pg}{s:Ply}(hi:Inv W s){t:List UInt8}(ht:msS t=[]):Inv W { s with b:=(Z0D s.b (betw t)).1 }∧(Z0D s.b (betw t)).2=[]:=by
 unfold Z0D
 by_cases hon:s.b.on=false
 ·rw [if_pos hon]
  exact ⟨hi,rfl⟩
 ·rw [if_neg hon,Z02 hi.ear,ht]
  simp only [Z0G,if_true]
  have hon':s.b.on=true:=by simpa using hon
  exact ⟨⟨hi.w,hi.n,hi.mem,Z8J,hi.host,hi.late,fun _ h=>hi.talk hon' h,hi.lateB⟩,trivial⟩
def hstW (W:List Pg) (ses:Nat):Hst:=askH ⟨0,ses,W,0,ear0,[],0,false,0,0⟩ 0 1 [] 1
theorem Z7n {W:List Pg}{s:Ply}(hi:Inv W s)(hn:s.n+1≤60000):Inv W { s with h:=hstW W (s.n+1),n:=s.n+1 }:=by
 have hC:∀ x,ClaimX s.b.mem s.h s.late s.n x→ClaimX s.b.mem (hstW W (s.n+1)) s.late (s.n+1) x:=fun x c=>⟨c.len,by have:=c.ses;omega,fun e=>by have:=c.ses;omega⟩
 refine ⟨hi.w,⟨by show 1≤s.n+1;omega,hn⟩,hi.mem,hi.ear,⟨rfl,Z4p,⟨0,rfl,fun _ p hp=>by simp at hp⟩,fun e=>?_,by show 0≤2;omega,?_,fun _=>⟨⟨s.n+1,0,by omega,.inl rfl⟩,?_,?_,by show 1≤5;omega,fun e=>?_,fun e=>?_,fun _=>⟨by show (1:UInt8)≠2;decide,by show (1:UInt8)≠3;decide⟩⟩,fun _ e=>?_,fun e=>?_⟩,?_,fun h1 h2=>?_,?_⟩
 ·exact absurd (show (0:Nat)=1 from e) (by omega)
 ·show (1:Nat)=0↔(0:Nat)≠0
  omega
 ·show Z0C (Z0F (s.n+1) 0 1 ++ [])=s.n+1
  exact Z4Z (by omega) _ _ _
 ·show 0+3*W.length≤3*W.length+cOf 1
  omega
 ·exact absurd (show (1:Nat)=4∨(1:Nat)=5 from e) (by omega)
 ·exact absurd (show (1:Nat)=3 from e) (by omega)
 ·exact absurd (show (false:Bool)=true from e) (by decide)
 ·exact absurd (show (0:Nat)=1 from e) (by omega)
 ·rcases hi.late with h | ⟨q,h1,h2,h3⟩
  ·exact .inl h
  ·exact .inr ⟨q,h1,h2,by show Z0C q≤s.n+1;omega⟩
 ·obtain ⟨x,x1,x2,x3,x4⟩:=hi.talk h1 h2
  exact ⟨x,x1,x2,x3,hC x x4⟩
 ·rcases hi.lateB with h | ⟨x,h1,h2⟩
  ·exact .inl h
  ·exact .inr ⟨x,h1,hC x h2⟩
theorem Inv.right {W:List Pg}{s:Ply}(hi:Inv W s):(∀ g:UInt8,g<16→Z0h s.b.mem g=true→∃ p∈W,p.n=g∧Z0w s.b.mem g.toNat=p.bs)∧(∀ g:UInt8,g<16→(∀ p∈W,p.n≠g)→Z0w s.b.mem g.toNat=List.replicate 64 255)∧(s.h.state=1→∀ p∈W,Z0h s.b.mem p.n=true):=by
 refine ⟨hi.mem.burnt,hi.mem.blank,fun h1 p hp=>?_⟩
 obtain ⟨d,e1,e2⟩:=hi.host.left
 have:=hi.host.done h1
 rw [this] at e1
 have hle:W.length≤d:=by
  have:=congrArg List.length e1
  rw [List.length_drop] at this
  simp at this
  omega
 exact e2 (by omega) p (by rw [List.take_of_length_le hle];exact hp)
def pkF (c:Int) (n:Nat):Nat:=(if c<0 then (-(c+1)).toNat else c.toNat)%n
def Z8r (s:List UInt8) (k:Nat) (x:UInt8):List UInt8:=s.set k (s.getD k 0 ^^^ x)
def Z0Y (s:List UInt8) (at_ by_:Int):List UInt8 :=
 if s=[] then [] else if msS (Z8r s (pkF at_ s.length) (UInt8.ofNat (1+pkF by_ 255)))=[] then Z8r s (pkF at_ s.length) (UInt8.ofNat (1+pkF by_ 255)) else []
theorem Z10 (s:List UInt8)(a b:Int):Z0Y s a b=[]∨msS (Z0Y s a b)=[]:=by
 unfold Z0Y
 split
 ·exact .inl rfl
 ·split
  ·rename_i h
   exact .inr h
  ·exact .inl rfl
def Z0b (s:Ply) (t:List UInt8):Ply × List UInt8:=if t=[] then (s,[]) else ({ s with b:=(Z0D s.b (betw t)).1 },(Z0D s.b (betw t)).2)
def hostP (s:Ply) (t:List UInt8):Ply:=if t=[] then s else { s with h:=hearH s.h (betw t) }
def keepB (s:Ply) (t:List UInt8):Ply:=if t=[] then s else { s with lateB:=t }
def actF (W:List Pg) (s:Ply) (k:Nat) (A B:Int):Ply :=
 if k=10 then { s with h:=tickH s.h }
 else if k=11 then { s with b:=cutF s.b (pkF A 400:Int) (UInt8.ofNat (B%256).toNat) }
 else if k=12 then { s with b:=Z5C s.b }
 else if k=13 then (if A.tmod 3=0 then { s with h:=hstW W (s.n+1),n:=s.n+1 } else s)
 else if (sayH s.h).2=[] then
  (if k=9 then hostP (hostP (Z0b s s.late).1 (Z0b s s.late).2) s.lateB else { s with h:=tickH s.h })
 else
  let s1:Ply:={ s with h:=(sayH s.h).1,late:=(sayH s.h).2 }
  if k=6 then s1
  else
   let f:=if k=8∧A.tmod 2=0 then Z0Y (sayH s.h).2 (A.tdiv 2) B else (sayH s.h).2
   let r:=if k=9 then Z0b (Z0b s1 f).1 f else Z0b s1 f
   let s2:=keepB r.1 r.2
   if k=7 then s2
   else if k=8∧A.tmod 2≠0 then hostP s2 (Z0Y r.2 (A.tdiv 2) B)
   else if k=9 then hostP (hostP s2 r.2) r.2
   else hostP s2 r.2
theorem Z1E (q:List UInt8):Z0c q≠[]:=by simp [Z0c]
theorem Z3Q {a b:List UInt8}(ha:a≠[]∧a.length≤80)(hb:b≠[]∧b.length≤80)(h:Z0c a=Z0c b):a=b:=by
 have h1:=Z2M ha.1 ha.2
 have h2:=Z2M hb.1 hb.2
 rw [h] at h1
 exact (List.cons.inj (h1.symm.trans h2)).1
theorem Z2I {W:List Pg}{s:Ply}(hi:Inv W s){t:List UInt8}(ht:OutI s t):Inv W (hostP s t):=by
 unfold hostP
 split
 ·exact hi
 ·rcases ht with h | ⟨x,rfl,hx⟩
  ·contradiction
  ·exact host_hear hi hx
theorem Z5m {W:List Pg}{s:Ply}(hi:Inv W s){t:List UInt8}(ht:t=[]∨msS t=[]):Inv W (hostP s t):=by
 unfold hostP
 split
 ·exact hi
 ·rename_i h
  exact host_silent hi (ht.resolve_left h)
theorem Z2h {W:List Pg}{s:Ply}(hi:Inv W s){t:List UInt8}(ht:t=[]∨msS t=[]):Inv W (Z0b s t).1∧(Z0b s t).2=[]:=by
 unfold Z0b
 split
 ·exact ⟨hi,rfl⟩
 ·rename_i h
  exact board_silent hi (ht.resolve_left h)
theorem keepB_ok {W:List Pg}{s:Ply}(hi:Inv W s){t:List UInt8}(ht:OutI s t):Inv W (keepB s t):=by
 unfold keepB
 split
 ·exact hi
 ·exact ⟨hi.w,hi.n,hi.mem,hi.ear,hi.host,hi.late,hi.talk,ht⟩
theorem OutI.keepB {s:Ply}{t u:List UInt8}(h:OutI s t):OutI (keepB s u) t:=by
 unfold Proofs.YthokdbcpkmcieabGreatDoor.keepB
 split
 ·exact h
 ·exact h
theorem OutI.hostP {W:List Pg}{s:Ply}(hi:Inv W s){t u:List UInt8}(ht:OutI s t)(hu:OutI s u):OutI (hostP s t) u:=by
 have key:∀ (t:List UInt8),OutI s t→∀ x,ClaimX s.b.mem s.h s.late s.n x→ClaimX s.b.mem (Proofs.YthokdbcpkmcieabGreatDoor.hostP s t).h s.late s.n x:=by
  intro t ht x hx
  have hi2:Inv W { s with lateB:=Z0c x }:=⟨hi.w,hi.n,hi.mem,hi.ear,hi.host,hi.late,hi.talk,.inr ⟨x,rfl,hx⟩⟩
  have hi3:=Z2I hi2 (t:=t) ht
  have e1:(Proofs.YthokdbcpkmcieabGreatDoor.hostP { s with lateB:=Z0c x } t) = { Proofs.YthokdbcpkmcieabGreatDoor.hostP s t with lateB:=Z0c x }:=by
   unfold Proofs.YthokdbcpkmcieabGreatDoor.hostP
   split <;> rfl
  rw [e1] at hi3
  have e2:(Proofs.YthokdbcpkmcieabGreatDoor.hostP s t).b=s.b∧(Proofs.YthokdbcpkmcieabGreatDoor.hostP s t).late=s.late∧(Proofs.YthokdbcpkmcieabGreatDoor.hostP s t).n=s.n:=by
   unfold Proofs.YthokdbcpkmcieabGreatDoor.hostP
   split <;> exact ⟨rfl,rfl,rfl⟩
  rcases hi3.lateB with h | ⟨x',h1,h2⟩
  ·exact absurd h (Z1E x)
  ·have hl:=hx.len
   have hl':=h2.len
   have:x=x':=Z3Q ⟨fun e=>by rw [e] at hl;simp at hl,hl.2⟩ ⟨fun e=>by rw [e] at hl';simp at hl',hl'.2⟩ h1
   subst this
   have h2':ClaimX (Proofs.YthokdbcpkmcieabGreatDoor.hostP s t).b.mem (Proofs.YthokdbcpkmcieabGreatDoor.hostP s t).h (Proofs.YthokdbcpkmcieabGreatDoor.hostP s t).late (Proofs.YthokdbcpkmcieabGreatDoor.hostP s t).n x:=h2
   rw [e2.1,e2.2.1,e2.2.2] at h2'
   exact h2'
 have e2:(Proofs.YthokdbcpkmcieabGreatDoor.hostP s t).b=s.b∧(Proofs.YthokdbcpkmcieabGreatDoor.hostP s t).late=s.late∧(Proofs.YthokdbcpkmcieabGreatDoor.hostP s t).n=s.n:=by
  unfold Proofs.YthokdbcpkmcieabGreatDoor.hostP
  split <;> exact ⟨rfl,rfl,rfl⟩
 rcases hu with h | ⟨x,h1,h2⟩
 ·exact .inl h
 ·refine .inr ⟨x,h1,?_⟩
  rw [e2.1,e2.2.1,e2.2.2]
  exact key t ht x h2
theorem Z2R {W:List Pg}{s:Ply}(hi:Inv W s)(h0:s.h.take≠0)(hl:s.late=Z0c s.h.asked):Inv W (Z0b s (Z0c s.h.asked)).1∧OutI (Z0b s (Z0c s.h.asked)).1 (Z0b s (Z0c s.h.asked)).2:=by
 have a:=hi.host.ask h0
 have hst:s.h.state=0:=Classical.byContradiction fun e=>h0 (hi.host.going.2 e)
 unfold Z0b
 rw [if_neg (Z1E _)]
 exact Z7S hi s.h.asked a.good (by rw [a.ses,hi.host.ses];exact Nat.le_refl _) (fun _=>⟨rfl,hl⟩) (fun e=>by omega)
theorem Z3s {W:List Pg}{s:Ply}(hi:Inv W s)(h:s.h.take=0∨s.h.said=true):Inv W (Z0b s s.late).1∧OutI (Z0b s s.late).1 (Z0b s s.late).2:=by
 by_cases h0:s.h.take=0
 ·rcases hi.late with e | ⟨q,e,hq,hs⟩
  ·rw [e]
   unfold Z0b
   rw [if_pos rfl]
   exact ⟨hi,.inl rfl⟩
  ·have hl:=hq.len hi.w
   have key:=Z7S hi q hq hs (fun hne=>absurd h0 hne) (fun h1=>by
    obtain ⟨q',e',hq',hne⟩:=hi.host.late h1
    have hl':=hq'.len hi.w
    have:q=q':=Z3Q ⟨hl.1,hl.2.1⟩ ⟨hl'.1,hl'.2.1⟩ (e.symm.trans e')
    rw [this]
    exact hne)
   rw [←e] at key
   unfold Z0b
   rw [if_neg (by rw [e];exact Z1E _)]
   exact key
 ·have hs:=h.resolve_left h0
  have hl:=hi.host.said h0 hs
  have:=Z2R hi h0 hl
  rw [←hl] at this
  exact this
theorem Z4P {h:Hst}(e:(sayH h).2=[]):h.take=0∨h.said=true:=by
 unfold sayH at e
 split at e
 ·assumption
 ·exact absurd e (Z1E _)
theorem Z70 {h:Hst}(e:¬ (sayH h).2=[]):h.take≠0∧h.said=false:=by
 unfold sayH at e
 split at e
 ·exact absurd rfl e
 ·rename_i h1
  refine ⟨fun h2=>h1 (.inl h2),?_⟩
  cases hs:h.said with
  | false=>rfl
  | true=>exact absurd (.inr hs) h1
theorem Z0T (s:Ply)(t:List UInt8):(Z0b s t).1.h=s.h∧(Z0b s t).1.late=s.late∧(Z0b s t).1.n=s.n∧(Z0b s t).1.lateB=s.lateB:=by
 unfold Z0b
 split <;> exact ⟨rfl,rfl,rfl,rfl⟩
theorem act_inv {W:List Pg}{s:Ply}(hi:Inv W s)(hn:s.n+1≤60000)(k:Nat)(A B:Int):Inv W (actF W s k A B):=by
 unfold actF
 split
 ·exact Z51 hi
 ·split
  ·exact board_cut hi _ _
  ·split
   ·exact Z4W hi
   ·split
    ·split
     ·exact Z7n hi hn
     ·exact hi
    ·split
     ·rename_i he
      split
      ·obtain ⟨a1,a2⟩:=Z3s hi (Z4P he)
       have a3:=Z2I a1 a2
       refine Z2I a3 (OutI.hostP a1 a2 ?_)
       have:=a1.lateB
       rw [(Z0T s s.late).2.2.2] at this
       exact this
      ·exact Z51 hi
     ·rename_i he
      obtain ⟨h0,hs⟩:=Z70 he
      obtain ⟨b1,b2,b3,b4,b5⟩:=Z8C hi h0 hs
      simp only
      rw [b2]
      obtain ⟨s1,hs1⟩:∃ s1:Ply,s1 = { s with h:=(sayH s.h).1,late:=Z0c s.h.asked }:=⟨_,rfl⟩
      rw [←hs1] at b1 ⊢
      have c0:s1.h.take≠0:=by rw [hs1];show (sayH s.h).1.take≠0;rw [b3];exact h0
      have ca:s1.h.asked=s.h.asked:=by rw [hs1];exact b4
      have cl:s1.late=Z0c s1.h.asked:=by rw [ca,hs1]
      split
      ·exact b1
      ·-- what the board hears,and what it says
       have hr:∀ f:List UInt8,(f=[]∨msS f=[])∨f=Z0c s1.h.asked→∀ (two:Prop) [Decidable two],Inv W (if two then Z0b (Z0b s1 f).1 f else Z0b s1 f).1∧OutI (if two then Z0b (Z0b s1 f).1 f else Z0b s1 f).1 (if two then Z0b (Z0b s1 f).1 f else Z0b s1 f).2:=by
        intro f hf two _
        have one:∀ x:Ply,Inv W x→x.h=s1.h→x.late=s1.late→Inv W (Z0b x f).1∧OutI (Z0b x f).1 (Z0b x f).2:=by
         intro x hx e1 e2
         rcases hf with hf | hf
         ·obtain ⟨q1,q2⟩:=Z2h hx hf
          exact ⟨q1,.inl q2⟩
         ·rw [hf,← e1]
          exact Z2R hx (by rw [e1];exact c0) (by rw [e1,e2];exact cl)
        have k1:=Z0T s1 f
        split
        ·exact one _ (one s1 b1 rfl rfl).1 k1.1 k1.2.1
        ·exact one s1 b1 rfl rfl
       obtain ⟨f,hf⟩:∃ f,(if k=8∧A.tmod 2=0 then Z0Y (Z0c s.h.asked) (A.tdiv 2) B else Z0c s.h.asked)=f:=⟨_,rfl⟩
       rw [hf]
       have hfc:(f=[]∨msS f=[])∨f=Z0c s1.h.asked:=by
        rw [←hf]
        split
        ·exact .inl (Z10 _ _ _)
        ·exact .inr (by rw [ca])
       obtain ⟨r1,r2⟩:=hr f hfc (k=9)
       obtain ⟨r,hrr⟩:∃ r,(if k=9 then Z0b (Z0b s1 f).1 f else Z0b s1 f)=r:=⟨_,rfl⟩
       rw [hrr] at r1 r2 ⊢
       have d1:=keepB_ok r1 r2
       have d2:OutI (keepB r.1 r.2) r.2:=r2.keepB
       split
       ·exact d1
       ·split
        ·exact Z5m d1 (Z10 _ _ _)
        ·split
         ·exact Z2I (Z2I d1 d2) (OutI.hostP d1 d2 d2)
         ·exact Z2I d1 d2
end Go.Proofs.YthokdbcpkmcieabGreatDoor
