/- EndB EndC EndD SurP -/
import Derived.Test.YthokdbcpkmcieabGreatDoorE42
import Derived.BigQuiet
import Derived.WalkSmall
set_option maxRecDepth 200000
set_option maxHeartbeats 8000000
namespace Go.Proofs.YthokdbcpkmcieabGreatDoor
open Go Go.RowKit
theorem Jn.setH {W:List Pg}{s:Ply}{d k:Nat}(j:Jn W s d k)(h:Hst)(hl:h.left=s.h.left)(ha:h.asked=s.h.asked)(ht:h.take=s.h.take∨h.take=0):Jn W { s with h:=h } d k:=by
 have hm:∀ q,Z00 W { s with h:=h } q→Z00 W s q:=fun q hq=>by
  rcases hq with e | e
  ·exact .inl (by rw [e];exact ha)
  ·exact .inr e
 refine ⟨hl.trans j.left,j.le,j.burnt,j.used,?_,by show GoodQ W h.asked;rw [ha];exact j.good,fun q hq=>j.num q (hm q hq),fun q hq=>j.page q (hm q hq),fun q q' hq hq'=>j.opens q q' (hm q hq) (hm q' hq'),fun q q' hq hq'=>j.one q q' (hm q hq) (hm q' hq'),fun e q hq=>j.others ?_ q (hm q hq)⟩
 ·rcases j.count with c | ⟨c1,c2,c3⟩
  ·exact .inl c
  ·refine .inr ⟨c1,?_,fun q hq=>c3 q (hm q hq)⟩
   show h.take≠1∧h.take≠2∧h.take≠4
   rcases ht with e | e <;> omega
 ·have e':h.take=1∨h.take=2∨h.take=4:=e
  rcases ht with e | e <;> omega
theorem Jn.tick {W:List Pg}{s:Ply}{d k:Nat}(j:Jn W s d k):Jn W { s with h:=tickH s.h } d k:=by
 unfold tickH
 split
 ·exact j
 ·split
  ·exact j.setH _ rfl rfl (.inl rfl)
  ·split
   ·exact j.setH _ rfl rfl (.inl rfl)
   ·exact j.setH _ rfl rfl (.inr rfl)
theorem Jn.say {W:List Pg}{s:Ply}(hi:Inv W s){d k:Nat}(j:Jn W s d k):Jn W { s with h:=(sayH s.h).1,late:=Z0c s.h.asked } d k:=by
 have e:(sayH s.h).1.left=s.h.left∧(sayH s.h).1.asked=s.h.asked∧(sayH s.h).1.take=s.h.take:=by
  unfold sayH
  split <;> exact ⟨rfl,rfl,rfl⟩
 have j2:=j.setH (sayH s.h).1 e.1 e.2.1 (.inl e.2.2)
 have hm:∀ q,Z00 W { s with h:=(sayH s.h).1,late:=Z0c s.h.asked } q→Z00 W { s with h:=(sayH s.h).1 } q:=fun q hq=>by
  rcases hq with h | ⟨h1,h2⟩
  ·exact .inl h
  ·have a1:=h1.len hi.w
   have a2:=j.good.len hi.w
   have:s.h.asked=q:=Z3Q ⟨a2.1,a2.2.1⟩ ⟨a1.1,a1.2.1⟩ h2
   left
   rw [←this]
   exact e.2.1.symm
 refine ⟨j2.left,j2.le,j2.burnt,j2.used,?_,j2.good,fun q hq=>j2.num q (hm q hq),fun q hq=>j2.page q (hm q hq),fun q q' hq hq'=>j2.opens q q' (hm q hq) (hm q' hq'),fun q q' hq hq'=>j2.one q q' (hm q hq) (hm q' hq'),fun e q hq=>j2.others e q (hm q hq)⟩
 rcases j2.count with c | ⟨c1,c2,c3⟩
 ·exact .inl c
 ·exact .inr ⟨c1,c2,fun q hq=>c3 q (hm q hq)⟩
theorem Jn.ask {W:List Pg}{s:Ply}(hi:Inv W s){d k d':Nat}(j:Jn W s d k)(hl:s.late=Z0c s.h.asked)(h:Hst)(h1:h.left=W.drop d')(h2:d'≤W.length)(h3:∀ p∈W.take d',Z0h s.b.mem p.n=true)
  (hc:k≤2*d'∨(k≤2*d'+2∧(h.take≠1∧h.take≠2∧h.take≠4)∧h.asked.getD 3 0≠2∧(s.h.asked.getD 3 0=2→NoEx s.b s.h.asked))) (hg:GoodQ W h.asked) (hn:h.asked.getD 2 0=s.h.asked.getD 2 0+1) (hs:(s.h.asked.getD 2 0).toNat≤60) (ho:h.asked.getD 3 0≠1)
  (hp:h.asked.getD 3 0=2→(∃ p,W[d']?=some p∧h.asked.getD 4 0=p.n)∧s.h.asked.getD 3 0≠1∧s.h.asked.getD 3 0≠2) (hq:s.h.asked.getD 3 0=2→d'=d∧h.take≠2∧h.take≠4) (ht:h.take≠1) (ht2:h.take=2∨h.take=4→h.asked.getD 3 0≠2):Jn W { s with h:=h } d' k:=by
 have hm:∀ q,Z00 W { s with h:=h } q→q=h.asked∨q=s.h.asked:=fun q hq=>by
  rcases hq with e | ⟨e1,e2⟩
  ·exact .inl e
  ·have a1:=e1.len hi.w
   have a2:=j.good.len hi.w
   exact .inr (Z3Q ⟨a1.1,a1.2.1⟩ ⟨a2.1,a2.2.1⟩ (e2.symm.trans hl))
 have hn1:=num_next hs
 have old:Z00 W s s.h.asked:=.inl rfl
 refine ⟨h1,h2,h3,j.used,?_,hg,fun q hq=>?_,fun q hq' h2'=>?_,fun q q' hq1 hq2 e=>?_,fun q q' hq1 hq2 e1 e2=>?_,fun e q hq'=>?_⟩
 ·rcases hc with c | ⟨c1,c2,c3,c4⟩
  ·exact .inl c
  ·refine .inr ⟨c1,c2,fun q hq h2'=>?_⟩
   rcases hm q hq with rfl | rfl
   ·exact absurd h2' c3
   ·exact c4 h2'
 ·rcases hm q hq with rfl | rfl
  ·rw [hn]
   exact ⟨by omega,fun _=>by omega⟩
  ·exact j.num _ old
 ·rcases hm q hq' with rfl | rfl
  ·exact (hp h2').1
  ·rw [(hq h2').1]
   exact j.page _ old h2'
 ·rcases hm q hq1 with rfl | rfl
  ·exact absurd e ho
  ·rcases hm q' hq2 with rfl | rfl
   ·exact fun e2=>(hp e2).2.1 e
   ·exact j.opens _ _ old old e
 ·rcases hm q hq1 with rfl | rfl
  ·rcases hm q' hq2 with rfl | rfl
   ·rfl
   ·exact absurd e2 (hp e1).2.2
  ·rcases hm q' hq2 with rfl | rfl
   ·exact absurd e1 (hp e2).2.2
   ·rfl
 ·have e':h.take=1∨h.take=2∨h.take=4:=e
  rcases hm q hq' with rfl | rfl
  ·exact ht2 (by omega)
  ·intro h2'
   have:=hq h2'
   omega
theorem Z6k (h:Hst)(what:UInt8)(rest:List UInt8)(tk:Nat):(nextH h what rest tk).asked.getD 2 0=h.asked.getD 2 0+1:=rfl
theorem Z5M {W:List Pg}{h:Hst}{d:Nat}(h1:h.left=W.drop d)(hl:0<h.left.length):W[d]?=some (Z0d h)∧d<W.length∧Z0d h∈W:=by
 have hdl:d<W.length:=by
  rw [h1,List.length_drop] at hl
  omega
 have:Z0d h=W[d]:=by
  unfold Z0d
  rw [h1,List.getD_eq_getElem?_getD,List.getElem?_drop,Nat.add_zero,List.getElem?_eq_getElem hdl]
  rfl
 exact ⟨by rw [this,List.getElem?_eq_getElem hdl],hdl,by rw [this];exact List.getElem_mem hdl⟩
theorem Jn.goOn {W:List Pg}{s:Ply}(hi:Inv W s){d k d':Nat}(j:Jn W s d k)(hl:s.late=Z0c s.h.asked)(h:Hst)(h1:h.left=W.drop d')(h2:d'≤W.length)(h3:∀ p∈W.take d',Z0h s.b.mem p.n=true)(hc:k≤2*d')(ha:h.asked=s.h.asked)(hs:(s.h.asked.getD 2 0).toNat≤60)(hses:h.ses<65536)(ho:s.h.asked.getD 3 0≠1∧s.h.asked.getD 3 0≠2):Jn W { s with h:=goOnH h } d' k:=by
 have old:Z00 W s s.h.asked:=.inl rfl
 unfold goOnH
 split
 ·-- nothing is left
  have hm:∀ q,Z00 W { s with h:=endH h 1 } q→q=s.h.asked:=fun q hq=>by
   rcases hq with e | ⟨e1,e2⟩
   ·rw [e]
    exact ha
   ·have a1:=e1.len hi.w
    have a2:=j.good.len hi.w
    exact Z3Q ⟨a1.1,a1.2.1⟩ ⟨a2.1,a2.2.1⟩ (e2.symm.trans hl)
  refine ⟨h1,h2,h3,j.used,.inl hc,by show GoodQ W h.asked;rw [ha];exact j.good,fun q hq=>?_,fun q hq e=>?_,fun q q' hq hq' e=>?_,fun q q' hq hq' _ _=>?_,fun _ q hq=>?_⟩
  ·rw [hm q hq]
   exact j.num _ old
  ·rw [hm q hq] at e
   exact absurd e ho.2
  ·rw [hm q hq] at e
   exact absurd e ho.1
  ·rw [hm q hq,hm q' hq']
  ·rw [hm q hq]
   exact ho.2
 ·rename_i hlen
  have hlen':0<h.left.length:=by omega
  obtain ⟨f1,f2,f3⟩:=Z5M h1 hlen'
  split
  ·exact j.ask hi hl (askReadH h 4) h1 h2 h3 (.inl hc) ⟨h.ses,_,hses,.inr (.inr (.inl ⟨_,rfl⟩))⟩ (by rw [←ha];rfl) hs (by show (3:UInt8)≠1;decide) (fun e=>absurd (show (3:UInt8)=2 from e) (by decide)) (fun e=>absurd e ho.2) (by show (4:Nat)≠1;omega) (fun _=>by show (3:UInt8)≠2;decide)
  ·exact j.ask hi hl (askPageH h) h1 h2 h3 (.inl hc) ⟨h.ses,_,hses,.inr (.inr (.inr ⟨_,f3,rfl⟩))⟩ (by rw [←ha];rfl) hs (by show (2:UInt8)≠1;decide) (fun _=>⟨⟨_,f1,rfl⟩,ho⟩) (fun e=>absurd e ho.2) (by show (3:Nat)≠1;omega) (fun e=>by have e':(3:Nat)=2∨(3:Nat)=4:=e;omega)
theorem Jn.takes {W:List Pg}{s:Ply}(hi:Inv W s){d k:Nat}(j:Jn W s d k)(ok:HOk s.h)(h0:s.h.take≠0)(hl:s.late=Z0c s.h.asked)(y:Bool)(bs:List UInt8)
  (htrue:s.h.asked.getD 3 0=3→y=true→Z0h s.b.mem (s.h.asked.getD 4 0)=true):∃ d',Jn W { s with h:=takesH s.h y bs } d' k:=by
 have a:=hi.host.ask h0
 have hs:=a.small hi.w
 have htk:=a.tk
 have hses:s.h.ses<65536:=ok.b.ses
 have hbad:Jn W { s with h:=endH s.h 2 } d k:=j.setH _ rfl rfl (.inr rfl)
 unfold takesH
 by_cases t1:s.h.take=1
 ·rw [if_pos t1]
  have hk:k≤2*d:=by
   rcases j.count with c | ⟨_,c,_⟩
   ·exact c
   ·omega
  have w1:=ok.w1 t1
  split
  ·exact ⟨d,j.ask hi hl (nextH s.h 4 [] 2) j.left j.le j.burnt (.inl hk) ⟨s.h.ses,_,hses,.inr (.inl (List.append_nil _))⟩ rfl hs (by show (4:UInt8)≠1;decide) (fun e=>absurd (show (4:UInt8)=2 from e) (by decide)) (fun e=>by rw [w1] at e;exact absurd e (by decide)) (by show (2:Nat)≠1;omega) (fun _=>by show (4:UInt8)≠2;decide)⟩
  ·exact ⟨d,hbad⟩
 rw [if_neg t1]
 by_cases t2:s.h.take=2
 ·rw [if_pos t2]
  have hk:k≤2*d:=by
   rcases j.count with c | ⟨_,c,_⟩
   ·exact c
   ·omega
  have w2:=ok.w2 t2
  split
  ·exact ⟨d,j.goOn hi hl (Z2D s.h _) j.left j.le j.burnt hk rfl hs hses ⟨by rw [w2];decide,by rw [w2];decide⟩⟩
  ·exact ⟨d,hbad⟩
 rw [if_neg t2]
 have endp:(s.h.take=4∨s.h.take=5)→y=true→∃ d',Jn W { s with h:=endPageH s.h } d' k:=by
  intro ht hy
  obtain ⟨r1,r2,r3⟩:=a.read ht
  have hbn:=htrue r2 hy
  rw [r3] at hbn
  have hll:0<s.h.left.length:=List.length_pos_iff.2 r1
  obtain ⟨f1,f2,f3⟩:=Z5M j.left hll
  have hk:k≤2*(d+1):=by
   rcases j.count with c | ⟨c,_⟩ <;> omega
  refine ⟨d+1,j.goOn hi hl ⟨s.h.state,s.h.ses,s.h.left.drop 1,s.h.burnt,s.h.ear,s.h.asked,s.h.take,s.h.said,s.h.tries,s.h.ticks⟩ ?_ (by omega) (fun p hp=>?_) hk rfl hs hses ⟨by rw [r2];decide,by rw [r2];decide⟩⟩
  ·show s.h.left.drop 1=W.drop (d+1)
   rw [j.left,List.drop_drop]
  ·rw [List.take_add_one,f1] at hp
   rcases List.mem_append.1 hp with hp | hp
   ·exact j.burnt p hp
   ·simp at hp
    rw [hp]
    exact hbn
 by_cases t3:s.h.take=3
 ·rw [if_pos t3]
  have w3:=ok.w3 t3
  split
  ·refine ⟨d,j.ask hi hl (askReadH s.h 5) j.left j.le j.burnt ?_ ⟨s.h.ses,_,hses,.inr (.inr (.inl ⟨_,rfl⟩))⟩ rfl hs (by show (3:UInt8)≠1;decide) (fun e=>absurd (show (3:UInt8)=2 from e) (by decide)) (fun _=>⟨rfl,by show (5:Nat)≠2;omega,by show (5:Nat)≠4;omega⟩) (by show (5:Nat)≠1;omega) (fun _=>by show (3:UInt8)≠2;decide)⟩
   rcases j.count with c | ⟨c1,_,c3⟩
   ·exact .inl c
   ·exact .inr ⟨c1,⟨by show (5:Nat)≠1;omega,by show (5:Nat)≠2;omega,by show (5:Nat)≠4;omega⟩,by show (3:UInt8)≠2;decide,fun e=>c3 _ (.inl rfl) e⟩
  ·exact ⟨d,hbad⟩
 rw [if_neg t3]
 by_cases t4:s.h.take=4
 ·rw [if_pos t4]
  by_cases hy:y=true∧bs=(Z0d s.h).bs
  ·rw [if_pos hy]
   exact endp (.inl t4) hy.1
  ·rw [if_neg hy]
   obtain ⟨r1,r2,_⟩:=a.read (.inl t4)
   have hll:0<s.h.left.length:=List.length_pos_iff.2 r1
   obtain ⟨f1,f2,f3⟩:=Z5M j.left hll
   have hk:k≤2*d:=by
    rcases j.count with c | ⟨_,c,_⟩
    ·exact c
    ·omega
   exact ⟨d,j.ask hi hl (askPageH s.h) j.left j.le j.burnt (.inl hk) ⟨s.h.ses,_,hses,.inr (.inr (.inr ⟨_,f3,rfl⟩))⟩ rfl hs (by show (2:UInt8)≠1;decide) (fun _=>⟨⟨_,f1,rfl⟩,by rw [r2];decide,by rw [r2];decide⟩) (fun e=>by rw [r2] at e;exact absurd e (by decide)) (by show (3:Nat)≠1;omega) (fun e=>by have e':(3:Nat)=2∨(3:Nat)=4:=e;omega)⟩
 ·rw [if_neg t4]
  by_cases hy:y=true∧bs=(Z0d s.h).bs
  ·rw [if_pos hy]
   exact endp (.inr (by omega)) hy.1
  ·rw [if_neg hy]
   exact ⟨d,hbad⟩
theorem Jn.hear {W:List Pg}{s:Ply}(hi:Inv W s){d k:Nat}(j:Jn W s d k)(ok:HOk s.h){x:List UInt8}(hx:ClaimX s.b.mem s.h s.late s.n x):∃ d',Jn W { s with h:=hearH s.h (betw (Z0c x)) } d' k:=by
 have hl:=hx.len
 have e:hearH s.h (betw (Z0c x))=hearsH (Z0E s.h ⟨1,[]⟩) x:=by
  unfold hearH
  rw [Z02 hi.host.ear,Z2M (fun e=>by rw [e] at hl;simp at hl) hl.2]
  rfl
 rw [e]
 have j1:Jn W { s with h:=Z0E s.h ⟨1,[]⟩ } d k:=j.setH _ rfl rfl (.inl rfl)
 have hi1:Inv W { s with h:=Z0E s.h ⟨1,[]⟩ }:=hi.setH hi.host.setEar (fun x c=>c.same rfl id)
 unfold hearsH
 by_cases h0:(Z0E s.h ⟨1,[]⟩).take=0
 ·rw [if_pos h0]
  exact ⟨d,j1⟩
 ·rw [if_neg h0]
  split
  ·rename_i y bs ha
   have h0':s.h.take≠0:=h0
   obtain ⟨a1,a2,a3⟩:=Z4E ha
   have ha1:x.take 3=s.h.asked.take 3:=a1
   have hses:Z0C x=s.n:=by
    have:=(hi.host.ask h0').ses
    rw [hi.host.ses] at this
    rw [←this]
    unfold Z0C
    rw [Z2Z ha1 0 (by omega),Z2Z ha1 1 (by omega)]
   have hnum:x.getD 2 0=s.h.asked.getD 2 0:=Z2Z ha1 2 (by omega)
   obtain ⟨c1,c2⟩:=hx.cur hses h0'
   obtain ⟨d1,d2⟩:=c2 hnum
   exact j1.takes hi1 (ok.setEar _) h0 d1 y bs (fun h3 hy=>(d2 h3 bs (a3 hy)).2.1)
  ·exact ⟨d,j1⟩
theorem Jn.hearSilent {W:List Pg}{s:Ply}(hi:Inv W s){d k:Nat}(j:Jn W s d k){t:List UInt8}(ht:msS t=[]):Jn W { s with h:=hearH s.h (betw t) } d k:=by
 have e:hearH s.h (betw t)=Z0E s.h ⟨1,[]⟩:=by
  unfold hearH
  rw [Z02 hi.host.ear,ht]
  rfl
 rw [e]
 exact j.setH _ rfl rfl (.inl rfl)
structure J1 (W:List Pg) (s:Ply):Prop where
 inv:Inv W s
 ok:HOk s.h
 jn:∃ d k,Jn W s d k
theorem J1.tick {W:List Pg}{s:Ply}(a:J1 W s):J1 W { s with h:=tickH s.h }:=by
 obtain ⟨d,k,j⟩:=a.jn
 exact ⟨Z51 a.inv,a.ok.tickH,d,k,j.tick⟩
theorem J1.cut {W:List Pg}{s:Ply}(a:J1 W s)(n:Int)(m:UInt8):J1 W { s with b:=cutF s.b n m }:=by
 obtain ⟨d,k,j⟩:=a.jn
 exact ⟨board_cut a.inv n m,a.ok,d,k,j.cut n m⟩
theorem J1.boot {W:List Pg}{s:Ply}(a:J1 W s):J1 W { s with b:=Z5C s.b }:=by
 obtain ⟨d,k,j⟩:=a.jn
 exact ⟨Z4W a.inv,a.ok,d,k,j.boot⟩
theorem hostP_ok {s:Ply}(k:HOk s.h)(t:List UInt8):HOk (hostP s t).h:=by
 unfold hostP
 split
 ·exact k
 ·exact k.hearH _
theorem J1.hostOut {W:List Pg}{s:Ply}(a:J1 W s){t:List UInt8}(ht:OutI s t):J1 W (hostP s t):=by
 refine ⟨Z2I a.inv ht,hostP_ok a.ok t,?_⟩
 obtain ⟨d,k,j⟩:=a.jn
 unfold hostP
 split
 ·exact ⟨d,k,j⟩
 ·rcases ht with h | ⟨x,rfl,hx⟩
  ·contradiction
  ·obtain ⟨d',j'⟩:=j.hear a.inv a.ok hx
   exact ⟨d',k,j'⟩
theorem J1.hostSilent {W:List Pg}{s:Ply}(a:J1 W s){t:List UInt8}(ht:t=[]∨msS t=[]):J1 W (hostP s t):=by
 refine ⟨Z5m a.inv ht,hostP_ok a.ok t,?_⟩
 obtain ⟨d,k,j⟩:=a.jn
 unfold hostP
 split
 ·exact ⟨d,k,j⟩
 ·rename_i h
  exact ⟨d,k,j.hearSilent a.inv (ht.resolve_left h)⟩
theorem J1.boardSilent {W:List Pg}{s:Ply}(a:J1 W s){t:List UInt8}(ht:t=[]∨msS t=[]):J1 W (Z0b s t).1:=by
 refine ⟨(Z2h a.inv ht).1,by rw [(Z0T s t).1];exact a.ok,?_⟩
 obtain ⟨d,k,j⟩:=a.jn
 unfold Z0b
 split
 ·exact ⟨d,k,j⟩
 ·rename_i h
  exact ⟨d,k,j.silent a.inv (ht.resolve_left h)⟩
theorem J1.boardCome {W:List Pg}{s:Ply}(a:J1 W s){q:List UInt8}(hq:Z00 W s q)(hi:Inv W (Z0b s (Z0c q)).1):J1 W (Z0b s (Z0c q)).1:=by
 refine ⟨hi,by rw [(Z0T s _).1];exact a.ok,?_⟩
 obtain ⟨d,k,j⟩:=a.jn
 unfold Z0b
 rw [if_neg (Z1E _)]
 obtain ⟨k',j'⟩:=j.board a.inv q hq
 exact ⟨d,k',j'⟩
theorem Jn.setLateB {W:List Pg}{s:Ply}{d k:Nat}(j:Jn W s d k)(t:List UInt8):Jn W { s with lateB:=t } d k:=⟨j.left,j.le,j.burnt,j.used,j.count,j.good,j.num,j.page,j.opens,j.one,j.others⟩
theorem J1.keepB {W:List Pg}{s:Ply}(a:J1 W s){t:List UInt8}(ht:OutI s t):J1 W (keepB s t):=by
 refine ⟨keepB_ok a.inv ht,?_,?_⟩
 ·unfold Proofs.YthokdbcpkmcieabGreatDoor.keepB
  split <;> exact a.ok
 ·obtain ⟨d,k,j⟩:=a.jn
  unfold Proofs.YthokdbcpkmcieabGreatDoor.keepB
  split
  ·exact ⟨d,k,j⟩
  ·exact ⟨d,k,j.setLateB t⟩
theorem J1.late {W:List Pg}{s:Ply}(a:J1 W s)(h:s.h.take=0∨s.h.said=true):J1 W (Z0b s s.late).1:=by
 have hi:=(Z3s a.inv h).1
 rcases a.inv.late with e | ⟨q,e,hq,_⟩
 ·rw [e]
  exact a.boardSilent (.inl rfl)
 ·rw [e] at hi ⊢
  exact a.boardCome (.inr ⟨hq,e⟩) hi
theorem act_J1 {W:List Pg}{s:Ply}(a:J1 W s)(k:Nat)(hk:k≠13)(A B:Int):J1 W (actF W s k A B):=by
 unfold actF
 split
 ·exact a.tick
 ·split
  ·exact a.cut _ _
  ·split
   ·exact a.boot
   ·split
    ·rename_i he
     split
     ·obtain ⟨a1,a2⟩:=Z3s a.inv (Z4P he)
      have b1:=a.late (Z4P he)
      have b2:=b1.hostOut a2
      refine b2.hostOut (OutI.hostP a1 a2 ?_)
      have:=a1.lateB
      rw [(Z0T s s.late).2.2.2] at this
      exact this
     ·exact a.tick
    ·rename_i he
     obtain ⟨h0,hs⟩:=Z70 he
     obtain ⟨b1,b2,b3,b4,b5⟩:=Z8C a.inv h0 hs
     have c1:J1 W { s with h:=(sayH s.h).1,late:=Z0c s.h.asked }:=by
      obtain ⟨d,k,j⟩:=a.jn
      exact ⟨b1,a.ok.sayH,d,k,j.say a.inv⟩
     simp only
     rw [b2]
     obtain ⟨s1,hs1⟩:∃ s1:Ply,s1 = { s with h:=(sayH s.h).1,late:=Z0c s.h.asked }:=⟨_,rfl⟩
     rw [←hs1] at b1 c1 ⊢
     have c0:s1.h.take≠0:=by rw [hs1];show (sayH s.h).1.take≠0;rw [b3];exact h0
     have ca:s1.h.asked=s.h.asked:=by rw [hs1];exact b4
     have cl:s1.late=Z0c s1.h.asked:=by rw [ca,hs1]
     split
     ·exact c1
     ·have hr:∀ f:List UInt8,(f=[]∨msS f=[])∨f=Z0c s1.h.asked→∀ (two:Prop) [Decidable two],J1 W (if two then Z0b (Z0b s1 f).1 f else Z0b s1 f).1∧OutI (if two then Z0b (Z0b s1 f).1 f else Z0b s1 f).1 (if two then Z0b (Z0b s1 f).1 f else Z0b s1 f).2:=by
       intro f hf two _
       have one:∀ x:Ply,J1 W x→x.h=s1.h→x.late=s1.late→J1 W (Z0b x f).1∧OutI (Z0b x f).1 (Z0b x f).2:=by
        intro x hx e1 e2
        rcases hf with hf | hf
        ·exact ⟨hx.boardSilent hf,.inl (Z2h hx.inv hf).2⟩
        ·rw [hf,← e1]
         obtain ⟨q1,q2⟩:=Z2R hx.inv (by rw [e1];exact c0) (by rw [e1,e2];exact cl)
         exact ⟨hx.boardCome (.inl rfl) q1,q2⟩
       have k1:=Z0T s1 f
       split
       ·exact one _ (one s1 c1 rfl rfl).1 k1.1 k1.2.1
       ·exact one s1 c1 rfl rfl
      obtain ⟨f,hf⟩:∃ f,(if k=8∧A.tmod 2=0 then Z0Y (Z0c s.h.asked) (A.tdiv 2) B else Z0c s.h.asked)=f:=⟨_,rfl⟩
      rw [hf]
      have hfc:(f=[]∨msS f=[])∨f=Z0c s1.h.asked:=by
       rw [←hf]
       split
       ·exact .inl (Z10 _ _ _)
       ·exact .inr (by rw [ca])
      obtain ⟨r1,r2⟩:=hr f hfc (k=9)
      obtain ⟨r,hrr⟩:∃ r,(if k=9 then Z0b (Z0b s1 f).1 f else Z0b s1 f)=r:=⟨_,rfl⟩
      rw [hrr] at r1 r2 ⊢
      have d1:=r1.keepB r2
      have d2:OutI (keepB r.1 r.2) r.2:=r2.keepB
      split
      ·exact d1
      ·split
       ·exact d1.hostSilent (Z10 _ _ _)
       ·split
        ·exact (d1.hostOut d2).hostOut (OutI.hostP d1.inv d2 d2)
        ·exact d1.hostOut d2
theorem J1.end_ {W:List Pg}{s:Ply}(a:J1 W s):∃ d k,d≤W.length∧(∀ p∈W.take d,Z0h s.b.mem p.n=true)∧Used s.b.mem k∧k≤2*d+2:=by
 obtain ⟨d,k,j⟩:=a.jn
 refine ⟨d,k,j.le,j.burnt,j.used,?_⟩
 rcases j.count with c | ⟨c,_⟩ <;> omega
theorem J1.begin {W:List Pg}(hi:Inv W ⟨brd0,hstW W 1,[],[],1⟩)(ok:HOk (hstW W 1)):J1 W ⟨brd0,hstW W 1,[],[],1⟩:=by
 have hm:∀ q,Z00 W ⟨brd0,hstW W 1,[],[],1⟩ q→q=Z0F 1 0 1:=fun q hq=>by
  rcases hq with e | ⟨_,e⟩
  ·exact e
  ·exact absurd e.symm (Z1E q)
 refine ⟨hi,ok,0,0,rfl,Nat.zero_le _,fun p hp=>by simp at hp,used_0,.inl (Nat.le_refl _),⟨1,0,by omega,.inl rfl⟩,fun q hq=>?_,fun q hq e=>?_,fun q q' _ hq' _=>?_,fun q q' hq hq' _ _=>?_,fun _ q hq=>?_⟩
 ·rw [hm q hq]
  exact ⟨by decide,fun e=>absurd rfl e⟩
 ·rw [hm q hq] at e
  exact absurd e (by decide)
 ·rw [hm q' hq']
  decide
 ·rw [hm q hq,hm q' hq']
 ·rw [hm q hq]
  decide
def unb (m:List UInt8):List Pg→Nat
 | []=>0
 | p :: l=>(if Z0h m p.n=true then 0 else 1)+unb m l
theorem unb_le (m:List UInt8):∀ l:List Pg,unb m l≤l.length
 | []=>Nat.le_refl _
 | p :: l=>by
  have:=unb_le m l
  unfold unb
  split <;> simp <;> omega
theorem Z7s (m:List UInt8):∀ l l':List Pg,unb m (l++l')=unb m l+unb m l'
 | [],l'=>by simp [unb]
 | p :: l,l'=>by
  show (if Z0h m p.n=true then 0 else 1)+unb m (l++l')=(if Z0h m p.n=true then 0 else 1)+unb m l+unb m l'
  rw [Z7s m l l']
  omega
theorem unb_burnt (m:List UInt8):∀ l:List Pg,(∀ p∈l,Z0h m p.n=true)→unb m l=0
 | [],_=>rfl
 | p :: l,h=>by
  show (if Z0h m p.n=true then 0 else 1)+unb m l=0
  rw [if_pos (h p (by simp)),unb_burnt m l (fun q hq=>h q (by simp [hq]))]
theorem unb_same {m m':List UInt8}:∀ l:List Pg,(∀ p∈l,Z0h m' p.n=Z0h m p.n)→unb m' l=unb m l
 | [],_=>rfl
 | p :: l,h=>by
  show (if Z0h m' p.n=true then 0 else 1)+unb m' l=(if Z0h m p.n=true then 0 else 1)+unb m l
  rw [h p (by simp),unb_same l (fun q hq=>h q (by simp [hq]))]
theorem Z6D (m:List UInt8):∀ k j,j<k→Z6s m k/2 ^ j%2=if Z0h m (UInt8.ofNat j)=true then 1 else 0
 | k+1,j,h=>by
  have hlt:=Z30 m k
  unfold Z6s
  by_cases e:j=k
  ·subst e
   split
   ·rw [Nat.add_div_right _ (Nat.two_pow_pos _),Nat.div_eq_of_lt hlt]
   ·rw [Nat.add_zero,Nat.div_eq_of_lt hlt]
  ·have hj:j<k:=by omega
   rw [←Z6D m k j hj]
   split
   ·have e2:2 ^ k=2 ^ j*(2*2 ^ (k-j-1)):=by
     rw [←Nat.pow_succ',← Nat.pow_add]
     congr 1
     omega
    rw [e2,Nat.add_mul_div_left _ _ (Nat.two_pow_pos _),Nat.add_mul_mod_self_left]
   ·rw [Nat.add_zero]
theorem isIn_bits (m:List UInt8)(p:Pg)(hp:p.n<16):Z6x p (Z1D m)=Z0h m p.n:=by
 unfold Z6x Z1D
 rw [Z6D m 16 p.n.toNat (u16 hp)]
 have e:UInt8.ofNat p.n.toNat=p.n:=by simp
 rw [e]
 cases Z0h m p.n <;> rfl
structure G2 (W:List Pg) (s:Ply) (k:Nat):Prop where
 inv:Inv W s
 ok:HOk s.h
 on:s.b.on=true
 pw:s.b.pow.cut=false
 used:Used s.b.mem k
 room:k+2*unb s.b.mem s.h.left≤60
 said:s.h.take≠0→s.h.said=false
 talk:s.h.take≠0→s.h.take≠1→s.b.talk.opn=true∧s.b.talk.ses=s.h.ses∧s.h.asked.getD 2 0=s.b.talk.num+1
 bits:3≤s.h.take→∀ p∈s.h.left.drop 1,Z6x p s.h.burnt=Z0h s.b.mem p.n
 first:3≤s.h.take→Z0h s.b.mem (Z0d s.h).n=decide (s.h.take≠3)
 end_:s.h.state≠2
def Z4a (h:Hst):Nat:=if h.take=0 then 0 else if h.take=1 then 2*h.left.length+2 else if h.take=2 then 2*h.left.length+1 else if h.take=3 then 2*h.left.length else 2*h.left.length-1
theorem board_does {W:List Pg}{s:Ply}(hi:Inv W s)(hon:s.b.on=true){q:List UInt8}(hq:GoodQ W q)(ho:q.getD 3 0≠1→s.b.talk.opn=true∧Z0C q=s.b.talk.ses∧q.getD 2 0=s.b.talk.num+1){p':Pow}{m' D:List UInt8}(hd:doF s.b.pow s.b.mem (q.getD 3 0) (q.drop 4)=((p',m',true),D)) :
  Z0D s.b (betw (Z0c q))=(⟨true,p',m',⟨1,[]⟩,⟨true,Z0C q,q.getD 2 0,Z0c (q.take 3++D)⟩⟩,Z0c (q.take 3++D)):=by
 obtain ⟨l1,l2,l3⟩:=hq.len hi.w
 have hear:Z0p s.b.ear (betw (Z0c q))=(⟨1,[]⟩,[q]):=by rw [Z02 hi.ear,Z2M l1 l2]
 have hA:Z0e s.b.pow s.b.mem s.b.talk q=(p',m',⟨true,Z0C q,q.getD 2 0,Z0c (q.take 3++D)⟩,Z0c (q.take 3++D),true):=by
  unfold Z0e
  have c1:¬ (q.getD 3 0≠1∧(s.b.talk.opn=false∨Z0C q≠s.b.talk.ses)):=fun ⟨h1,h2⟩=>by
   obtain ⟨o1,o2,_⟩:=ho h1
   rcases h2 with h2 | h2
   ·rw [o1] at h2
    cases h2
   ·exact h2 o2
  have c2:¬ (q.getD 3 0≠1∧q.getD 2 0=s.b.talk.num):=fun ⟨h1,h2⟩=>by
   obtain ⟨_,_,o3⟩:=ho h1
   rw [o3] at h2
   have h3:=congrArg UInt8.toNat h2
   rw [UInt8.toNat_add] at h3
   have:=s.b.talk.num.toNat_lt
   have e:(1:UInt8).toNat=1:=rfl
   omega
  have c3:¬ (q.getD 3 0≠1∧q.getD 2 0≠s.b.talk.num+1):=fun ⟨h1,h2⟩=>h2 (ho h1).2.2
  rw [if_neg (by simp [l3]),if_neg c1,if_neg c2,if_neg c3,hd]
  have k1:(if q.getD 3 0=1 then true else s.b.talk.opn)=true:=by
   split
   ·rfl
   ·rename_i h
    exact (ho h).1
  have k2:(if q.getD 3 0=1 then Z0C q else s.b.talk.ses)=Z0C q:=by
   split
   ·rfl
   ·rename_i h
    exact (ho h).2.1.symm
  simp only [k1,k2,if_true]
 unfold Z0D
 rw [if_neg (by rw [hon];simp),hear]
 simp [Z0G,hA]
theorem answer_own {a bs:List UInt8}(ha:4≤a.length)(hb:bs.length=Z3C (a.getD 3 0)):Z0s a (a.take 3++1 :: bs)=some (true,bs):=by
 have h3:(a.take 3).length=3:=by rw [List.length_take];omega
 have e1:(a.take 3++1 :: bs).take 3=a.take 3:=List.take_left' h3
 have e2:(a.take 3++1 :: bs).getD 3 0=1:=by rw [List.getD_eq_getElem?_getD,List.getElem?_append_right (by omega),h3];rfl
 have e3:(a.take 3++1 :: bs).length=4+bs.length:=by rw [List.length_append,h3,List.length_cons];omega
 have e4:(a.take 3++1 :: bs).drop 4=bs:=by
  rw [List.drop_append,h3,List.drop_eq_nil_of_le (by omega)]
  rfl
 unfold Z0s
 rw [if_pos ⟨by omega,e1⟩,if_pos ⟨e2,by omega⟩,e4]
theorem hears_own {h:Hst}{bs:List UInt8}(h0:h.take≠0)(ha:4≤h.asked.length)(hb:bs.length=Z3C (h.asked.getD 3 0)):hearsH h (h.asked.take 3++1 :: bs)=takesH h true bs:=by
 unfold hearsH
 rw [if_neg h0,answer_own ha hb]
theorem act_good {W:List Pg}{s:Ply}(hi:Inv W s)(hon:s.b.on=true)(h0:s.h.take≠0)(hsd:s.h.said=false)(ok:HOk s.h)(ho:s.h.asked.getD 3 0≠1→s.b.talk.opn=true∧Z0C s.h.asked=s.b.talk.ses∧s.h.asked.getD 2 0=s.b.talk.num+1){p':Pow}{m' bs:List UInt8}(hd:doF s.b.pow s.b.mem (s.h.asked.getD 3 0) (s.h.asked.drop 4)=((p',m',true),1 :: bs))(hb:bs.length=Z3C (s.h.asked.getD 3 0))(A B:Int) :
  actF W s 0 A B=⟨⟨true,p',m',⟨1,[]⟩,⟨true,Z0C s.h.asked,s.h.asked.getD 2 0,Z0c (s.h.asked.take 3++1 :: bs)⟩⟩,takesH (Z0E (sayH s.h).1 ⟨1,[]⟩) true bs,Z0c s.h.asked,Z0c (s.h.asked.take 3++1 :: bs),s.n⟩:=by
 have a:=hi.host.ask h0
 have e1:sayH s.h=(⟨s.h.state,s.h.ses,s.h.left,s.h.burnt,s.h.ear,s.h.asked,s.h.take,true,s.h.tries,s.h.ticks⟩,Z0c s.h.asked):=by
  unfold sayH
  rw [if_neg (by rw [hsd];simp [h0])]
 have hbd:=board_does hi hon a.good ho hd
 have hlen:(s.h.asked.take 3++1 :: bs).length≤80:=by
  rw [List.length_append,List.length_take,List.length_cons,hb]
  unfold Z3C
  repeat' split
  all_goals omega
 have hne:s.h.asked.take 3++1 :: bs≠[]:=by simp
 unfold actF
 rw [if_neg (by omega),if_neg (by omega),if_neg (by omega),if_neg (by omega),e1]
 simp only
 rw [if_neg (Z1E _),if_neg (by omega),if_neg (by omega),if_neg (by omega),if_neg (by omega),if_neg (by omega),if_neg (by omega)]
 unfold Z0b
 rw [if_neg (Z1E _),hbd]
 simp only
 unfold keepB
 rw [if_neg (Z1E _)]
 unfold hostP
 rw [if_neg (Z1E _)]
 simp only
 unfold hearH
 simp only
 rw [Z02 hi.host.ear,Z2M hne hlen]
 simp only [List.foldl_cons,List.foldl_nil]
 exact congrArg (fun x=>Ply.mk _ x _ _ _) (hears_own (h:=Z0E ⟨s.h.state,s.h.ses,s.h.left,s.h.burnt,s.h.ear,s.h.asked,s.h.take,true,s.h.tries,s.h.ticks⟩ ⟨1,[]⟩) h0 ok.b.long.1 hb)
theorem Z6C (i:Img):∀ (k:Nat),k≤16→∀ p,p∈Z34 i k↔∃ g,g<k∧true∈Z3c i g∧p=⟨UInt8.ofNat g,Z2N i g⟩
 | 0,_,p=>by simp [Z34]
 | k+1,hk,p=>by
  unfold Z34
  rw [List.mem_append,Z6C i k (by omega) p]
  constructor
  ·rintro (⟨g,h1,h2,h3⟩ | h)
   ·exact ⟨g,by omega,h2,h3⟩
   ·split at h
    ·rename_i ht
     exact ⟨k,by omega,ht,by simpa using h⟩
    ·cases h
  ·rintro ⟨g,h1,h2,h3⟩
   by_cases e:g=k
   ·subst e
    right
    rw [if_pos h2,h3]
    simp
   ·exact .inl ⟨g,by omega,h2,h3⟩
theorem Z4h {a b:Nat}(ha:a<16)(hb:b<16)(h:UInt8.ofNat a=UInt8.ofNat b):a=b:=by
 have:=congrArg UInt8.toNat h
 rw [UInt8.toNat_ofNat',UInt8.toNat_ofNat'] at this
 omega
theorem get64 {l:List UInt8}{g q:Nat}(hq:q<64):((l.drop (64*g)).take 64).getD q 0=l.getD (64*g+q) 0:=by
 rw [List.getD_eq_getElem?_getD,List.getElem?_take,if_pos hq,List.getElem?_drop,List.getD_eq_getElem?_getD]
def RightAt (i:Img) (m:List UInt8) (st g:Nat):Prop :=
 (Z0h m (UInt8.ofNat g)=true→true∈Z3c i g∧∀ q,q<64→m.getD (64*g+q) 0=i.bytes.getD (64*g+q) 0)∧(true ∉ Z3c i g→∀ q,q<64→m.getD (64*g+q) 0=255)∧(st=1→true∈Z3c i g→Z0h m (UInt8.ofNat g)=true)
theorem right_of {i:Img}(hw:Z11 i=true){s:Ply}(hi:Inv (Z1k i) s)(g:Nat)(hg:g<16):RightAt i s.b.mem s.h.state g:=by
 obtain ⟨l0,l1,l2⟩:=Z3b hw
 obtain ⟨r1,r2,r3⟩:=hi.right
 have hml:s.b.mem.length=1264:=hi.mem.used.choose_spec.len
 have hn:(UInt8.ofNat g).toNat=g:=by rw [UInt8.toNat_ofNat'];omega
 have hlt:UInt8.ofNat g<16:=by rw [UInt8.lt_iff_toNat_lt,hn];exact hg
 have hmem:∀ p,p∈Z1k i↔∃ g,g<16∧true∈Z3c i g∧p=⟨UInt8.ofNat g,Z2N i g⟩:=Z6C i 16 (Nat.le_refl _)
 refine ⟨fun hb=>?_,fun hno q hq=>?_,fun hs ht=>?_⟩
 ·obtain ⟨p,hp,e1,e2⟩:=r1 _ hlt hb
  obtain ⟨g',h1,h2,rfl⟩:=(hmem p).1 hp
  have:g'=g:=Z4h h1 hg e1
  subst this
  refine ⟨h2,fun q hq=>?_⟩
  rw [hn] at e2
  have:=congrArg (fun l:List UInt8=>l.getD q 0) e2
  simp only at this
  unfold Z0w Z2N at this
  rw [get64 hq,get64 hq] at this
  exact this
 ·have:=r2 _ hlt (fun p hp e=>by
   obtain ⟨g',h1,h2,rfl⟩:=(hmem p).1 hp
   have:g'=g:=Z4h h1 hg e
   subst this
   exact hno h2)
  rw [hn] at this
  have:=congrArg (fun l:List UInt8=>l.getD q 0) this
  unfold Z0w at this
  rw [get64 hq] at this
  rw [this,List.getD_eq_getElem?_getD,List.getElem?_replicate,if_pos hq]
  rfl
 ·exact r3 hs ⟨UInt8.ofNat g,Z2N i g⟩ ((hmem _).2 ⟨g,hg,ht,rfl⟩)
theorem bit_bool (m:List UInt8)(g:Nat)(hg:g<16):(((Z1D m:Nat):Int)/2 ^ g).tmod 2=if Z0h m (UInt8.ofNat g)=true then 1 else 0:=by
 have h:=Z6D m 16 g hg
 have e:((Z1D m:Nat):Int)/2 ^ g=((Z1D m/2 ^ g:Nat):Int):=by
  rw [Int.natCast_ediv,Int.natCast_pow]
  rfl
 rw [e]
 show ((Z1D m/2 ^ g%2:Nat):Int)=_
 have h':Z1D m/2 ^ g%2=_:=h
 rw [h']
 split <;> rfl
theorem txt_get (l:List UInt8)(k:Nat)(h:k<(txt l).size):(txt l)[k]=l.getD k 0:=by
 have h2:k<l.length:=by rw [Z0k] at h;exact h
 rw [List.getD_eq_getElem?_getD,List.getElem?_eq_getElem h2]
 rfl
theorem kright_any (pb bb hb lb:Nat)(b0 o0 c0 b1 o1 c1:Nat)(i2:Value)(i:Img)(p:Ply)(w:World)(hw:Z11 i=true)(m:PlyM w pb bb hb lb (.slice (some ⟨b0,o0,none⟩) 1024 c0) (.slice (some ⟨b1,o1,none⟩) 1024 c1) i2 p)(hR:∀ g,g<16→RightAt i p.b.mem p.h.state g)(hml:p.b.mem.length=1264)
  (k0:b0<w.heap.size) (k1:b1<w.heap.size) (q0:∀ k,k<1024→w.cell? ⟨b0,o0+k,none⟩=some (.int .u8 ((i.bytes.getD k 0).toNat:Int))) (q1:∀ k,k<1024→w.cell? ⟨b1,o1+k,none⟩=some (.bool (i.laid.getD k false))) :
  Calls Tryz.prog 11 #[.pointer (some ⟨pb,0,none⟩)] w fun e w'=>e=.returned (.bool true)∧Below w.heap.size w w':=by
 obtain ⟨l0,l1,l2⟩:=Z3b hw
 have HF:=Z0a (fun w' (h:BrdAt w' bb p.b)=>Z6i bb p.b w' h)
 have HBu:=Z0a (fun w' (h:BrdAt w' bb p.b)=>bbBurnt_any bb p.b w' h)
 obtain ⟨F,hF⟩:∃ F,txt (p.b.mem.take 1024)=F:=⟨_,rfl⟩
 have hFs:F.size=1024:=by rw [←hF,Z0k,List.length_take];omega
 rw [hF] at HF
 obtain ⟨BT,hBT⟩:∃ BT,Z1D p.b.mem=BT:=⟨_,rfl⟩
 rw [hBT] at HBu
 have HM:=Z0a m
 have e0:=m.c0
 clear m
 go_enter Tryz.func11,Tryz.ntmps11
 go_wp2_with fail
 refine (HF.out _ HM.out.b).mono ?_
 rintro e w1 ⟨rfl,hB1⟩
 have HM1:=Z0a (HM.out.below hB1)
 have e1:=HM1.out.c0
 have HB1:=Z0a hB1
 clear hB1
 go_wp2_with fail
 refine (HBu.out _ HM1.out.b).mono ?_
 rintro e w2 ⟨rfl,hB2⟩
 have HM2:=Z0a (HM1.out.below hB2)
 have HB2:=Z0a (HB1.out.trans (hB2.mono HB1.out.size))
 clear hB2 HM1 HB1 e1 HM e0 HF HBu
 have hFsi:(F.size:Int)=1024:=by omega
 go_wp2_with fail
 go_loopw [5] (fun x wr=>∃ g:Nat,g≤16∧x=.int .i64 (g:Int)∧∃ n,wr=w2.drewN n) (fun x _=>16-(intOf x).toNat)
 case atStart=>exact ⟨0,by omega,rfl,0,rfl⟩
 case round =>
  obtain ⟨g,hg,rfl,n,rfl⟩:=hrel
  by_cases hg16:g<16
  ·have hgi:(g:Int)<16:=by omega
   obtain ⟨V,hV⟩:∃ V,Z0h p.b.mem (UInt8.ofNat g)=V:=⟨_,rfl⟩
   obtain ⟨T,hT⟩:∃ T,decide (true∈Z3c i g)=T:=⟨_,rfl⟩
   have hbit:(((BT:Int)/2 ^ g).tmod 2 == 1)=V:=by
    rw [←hBT,bit_bool _ g hg16,hV]
    cases V <;> rfl
   have hR1:(V=true→T=true∧∀ q,q<64→p.b.mem.getD (64*g+q) 0=i.bytes.getD (64*g+q) 0)∧(T=false→∀ q,q<64→p.b.mem.getD (64*g+q) 0=255)∧(p.h.state=1→T=true→V=true):=by
    obtain ⟨r1,r2,r3⟩:=hR g hg16
    rw [hV] at r1 r3
    exact ⟨fun e=>⟨by rw [←hT];exact decide_eq_true (r1 e).1,(r1 e).2⟩,fun e=>r2 (by rw [←hT] at e;exact of_decide_eq_false e),fun e1 e2=>r3 e1 (by rw [←hT] at e2;exact of_decide_eq_true e2)⟩
   have HWt:=Z0a (fun n=>kwanted_any pb g hg16 b1 o1 c1 i (w2.drewN n) l1 (HM2.out.c3) (fun k hk=>((HB2.out.cell (p:=⟨b1,o1+k,none⟩) k1).trans (q1 k hk))))
   rw [hT] at HWt
   have HRR:=Z0a hR1
   clear hR1 hV hT
   go_wp2_with (first | (go_at_call 30;refine (HWt.out _).mono ?_;rintro e w3 ⟨rfl,rfl⟩))
   obtain ⟨G,hG⟩:∃ G:Nat,64*g=G:=⟨_,rfl⟩
   have hGi:64*(g:Int)=(G:Int):=by omega
   have hG2:G≤960:=by omega
   rw [hG] at HRR
   have HG:=Z0a hG
   clear hG
   rw [hGi]
   go_loopw [8] (fun x wz=>∃ j:Nat,j≤64∧x=.int .i64 ((G+j:Nat):Int)∧∃ n',wz=w2.drewN n') (fun x _=>G+64-(intOf x).toNat)
   case atStart=>exact ⟨0,by omega,rfl,_,rfl⟩
   case round =>
    obtain ⟨j,hj,rfl,n',rfl⟩:=hrel
    obtain ⟨K,hK⟩:∃ K:Nat,G+j=K:=⟨_,rfl⟩
    rw [hK]
    have hwg:IntKind.i64.wrap ((G:Int)+64)=(G:Int)+64:=by rw [IntKind.wrap_i64];omega
    by_cases hlt:j<64
    ·have hKi:(K:Int)<(G:Int)+64:=by omega
     have hK3:(K:Int)<1024:=by omega
     have hKF:K<F.size:=by omega
     have hKF2:(K:Int)<(F.size:Int):=by omega
     have hFK:F[K]=p.b.mem.getD K 0:=by
      subst hF
      rw [txt_get,List.getD_eq_getElem?_getD,List.getElem?_take,if_pos (by omega),List.getD_eq_getElem?_getD]
     have HGJ:=Z0a hK
     cases V with
     | true =>
      obtain ⟨hT1,hby⟩:=HRR.out.1 rfl
      subst hT1
      have hb:=hby j hlt
      rw [hK,← hFK] at hb
      have cK:w2.cell? ⟨b0,o0+K,none⟩=some (.int .u8 ((F[K]).toNat:Int)):=by
       rw [hb]
       exact (HB2.out.cell (p:=⟨b0,o0+K,none⟩) k0).trans (q0 K (by omega))
      have c2:w2.cell? ⟨pb,2,none⟩=some (.slice (some ⟨b0,o0,none⟩) 1024 c0):=HM2.out.c2
      clear hb hby hFK hK hBT hF hbit
      go_upto_region 13 with fail
      go_quiet (fail)
      go_wp2
      go_roundw
      case rel =>
       refine ⟨j+1,by omega,?_,by first | exact ⟨_,rfl⟩ | exact ⟨n'+1,rfl⟩⟩
       have:=HGJ.out
       rw [show G+(j+1)=K+1 by omega]
       go_num
      case measure =>
       have:=HGJ.out
       simp [intOf]
       omega
     | false =>
      cases T with
      | true =>
       clear hFK hK hBT hF hbit
       go_upto_region 13 with fail
       go_quiet (fail)
       go_wp2
       go_roundw
       case rel =>
        refine ⟨j+1,by omega,?_,by first | exact ⟨_,rfl⟩ | exact ⟨n'+1,rfl⟩⟩
        have:=HGJ.out
        rw [show G+(j+1)=K+1 by omega]
        go_num
       case measure =>
        have:=HGJ.out
        simp [intOf]
        omega
      | false =>
       have hb:=HRR.out.2.1 rfl j hlt
       rw [hK,← hFK] at hb
       have hb1:((F[K]).toNat:Int)=255:=by rw [hb];rfl
       have hb2:(((F[K]).toNat:Int) != 255)=false:=by rw [hb1];rfl
       clear hb hb1 hFK hK hBT hF hbit
       go_upto_region 13 with fail
       go_quiet (fail)
       go_wp2
       go_roundw
       case rel =>
        refine ⟨j+1,by omega,?_,by first | exact ⟨_,rfl⟩ | exact ⟨n'+1,rfl⟩⟩
        have:=HGJ.out
        rw [show G+(j+1)=K+1 by omega]
        go_num
       case measure =>
        have:=HGJ.out
        simp [intOf]
        omega
    ·have hKi:¬ (K:Int)<(G:Int)+64:=by omega
     have HS:=Z0a (fun n=>Z4n hb lb p.h (w2.drewN n) (HM2.out.h.below (below_drewN (Below.refl _ _) n)))
     have d1:w2.cell? ⟨pb,1,none⟩=some (.pointer (some ⟨hb,0,none⟩)):=HM2.out.c1
     have hst:=HRR.out.2.2
     obtain ⟨ST,hST⟩:∃ ST,p.h.state=ST:=⟨_,rfl⟩
     rw [hST] at HS hst
     by_cases hs1:ST=1
     ·subst hs1
      cases T with
      | true =>
       have hV1:=hst rfl rfl
       subst hV1
       clear hst hST hK hBT hF hbit
       go_wp2_with (first | (go_at_call 10;refine (HS.out _).mono ?_;rintro e w4 ⟨rfl,rfl⟩))
       go_roundw
       case rel=>exact ⟨g+1,by omega,by go_num,_,rfl⟩
       case measure=>simp [intOf];omega
      | false =>
       clear hst hST hK hBT hF hbit
       go_wp2_with (first | (go_at_call 10;refine (HS.out _).mono ?_;rintro e w4 ⟨rfl,rfl⟩))
       go_roundw
       case rel=>exact ⟨g+1,by omega,by go_num,_,rfl⟩
       case measure=>simp [intOf];omega
     ·have hsi:((ST:Int) == 1)=false:=by simp;omega
      clear hst hST hK hBT hF hbit
      go_wp2_with (first | (go_at_call 10;refine (HS.out _).mono ?_;rintro e w4 ⟨rfl,rfl⟩))
      go_roundw
      case rel=>exact ⟨g+1,by omega,by go_num,_,rfl⟩
      case measure=>simp [intOf];omega
  ·have hgi:¬ (g:Int)<16:=by omega
   go_wp2
   go_ret
   exact ⟨rfl,below_drewN HB2.out _⟩
end Go.Proofs.YthokdbcpkmcieabGreatDoor
