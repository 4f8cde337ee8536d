/- Stm2 AsmA -/
import Derived.Test.YthokdbcpkmcieaaGreatDoorS15
import Derived.Test.YthokdbcpkmcieaaGreatDoorS12
set_option maxRecDepth 200000
set_option maxHeartbeats 8000000
namespace Go.Proofs.YthokdbcpkmcieaaGreatDoor
open Go Go.RowKit Go.Shelf Go.WideMaps Go.Maps
def Z3k (e:List Trm):List ByteArray:=(e.filter fun t=>!decide (t.name=⟨#[]⟩)).map (·.name)
def Z1f (es:List (List Trm)):List ByteArray:=es.flatMap Z3k
def cntT (es:List (List Trm)):Nat:=(es.map List.length).sum
theorem cntT_take (es:List (List Trm))(j:Nat)(h:j<es.length):cntT (es.take (j+1))=cntT (es.take j)+es[j].length:=by
 unfold cntT
 rw [List.take_add_one,List.getElem?_eq_getElem h,List.map_append,List.sum_append_nat]
 rfl
theorem cntT_le (es:List (List Trm))(j:Nat):cntT (es.take j)≤cntT es:=by
 have:cntT es=cntT (es.take j)+cntT (es.drop j):=by
  unfold cntT
  rw [←List.sum_append_nat,← List.map_append,List.take_append_drop]
 omega
theorem usedS_take (es:List (List Trm))(j:Nat)(h:j<es.length):Z1f (es.take (j+1))=Z1f (es.take j)++Z3k es[j]:=by
 unfold Z1f
 rw [List.take_add_one,List.getElem?_eq_getElem h,List.flatMap_append]
 simp only [Option.toList_some,List.flatMap_cons,List.flatMap_nil,List.append_nil]
theorem usedE_take (e:List Trm)(k:Nat)(h:k<e.length):Z3k (e.take (k+1))=Z3k (e.take k)++(if e[k].name=⟨#[]⟩ then [] else [e[k].name]):=by
 unfold Z3k
 rw [List.take_add_one,List.getElem?_eq_getElem h,List.filter_append,List.map_append]
 congr 1
 by_cases hn:e[k].name=⟨#[]⟩
 ·simp [hn]
 ·simp [hn]
theorem usedE_len (e:List Trm):(Z3k e).length≤e.length:=by
 unfold Z3k
 rw [List.length_map]
 exact List.length_filter_le _ _
theorem Z6v (es:List (List Trm)):(Z1f es).length≤cntT es:=by
 induction es with
 | nil=>exact Nat.le_refl _
 | cons e es ih =>
  have:=usedE_len e
  have h1:Z1f (e :: es)=Z3k e++Z1f es:=rfl
  have h2:cntT (e :: es)=e.length+cntT es:=by simp [cntT]
  rw [h1,h2,List.length_append]
  omega
theorem Z51 {w:World}{base:Nat}{v:Value}:∀ {vs:List Value} {es:List (List Trm)},EachE w base v vs es→∀ j (h:j<es.length),∃ x,vs[j]?=some x∧w.ownsRow base 261 4 x es[j].length (Z0i es[j])
 | [],[],_,j,h=>absurd h (Nat.not_lt_zero _)
 | x :: vs,e :: es,hE,0,_=>⟨x,rfl,hE.1.1⟩
 | x :: vs,e :: es,hE,j+1,h=>Z51 hE.2 j (by simpa using h)
theorem Z48 (l:List Trm):∀ (k:Nat) (h:k<l.length),(Z0i l)[k*4]?=some (.bool l[k].minus)∧(Z0i l)[k*4+1]?=some (.string l[k].name)∧(Z0i l)[k*4+2]?=some (.bool l[k].here)∧(Z0i l)[k*4+3]?=some (.int .i64 l[k].num):=by
 induction l with
 | nil=>intro k h;exact absurd h (Nat.not_lt_zero _)
 | cons t l ih =>
  intro k h
  cases k with
  | zero=>simp [Z0i,Trm.cells]
  | succ k =>
   have:=ih k (by simpa using h)
   have e:∀ i,(Z0i (t :: l))[(k+1)*4+i]?=(Z0i l)[k*4+i]?:=by
    intro i
    rw [show (k+1)*4+i=k*4+i+1+1+1+1 by omega]
    simp [Z0i,Trm.cells]
   have e0:=e 0
   simp only [Nat.add_zero] at e0
   rw [e0,e 1,e 2,e 3]
   exact this
theorem Z3c {w:World}{base e size n g off cap:Nat}{xs:List Value}(h:w.ownsRow base e size (.slice (some ⟨g,off,none⟩) n cap) n xs):off=0∧∀ i u,xs[i]?=some u→w.cell? ⟨g,i,none⟩=some u:=by
 have h2:=h
 obtain ⟨_,⟨e1,_⟩ | ⟨g',cap',cur,e1,_⟩⟩:=h
 ·cases e1
 ·cases e1
  refine ⟨rfl,fun i u hu=>?_⟩
  have:=h2.cells (g:=g) rfl i u hu
  rwa [Addr.add_lit,Nat.zero_add] at this
theorem Z25 {w:World}{base e size n:Nat}{v:Value}{xs:List Value}(h:w.ownsRow base e size v n xs)(hn:0<n):∃ g cap,v=.slice (some ⟨g,0,none⟩) n cap:=by
 obtain ⟨_,⟨_,e2⟩ | ⟨g,cap,cur,rfl,_⟩⟩:=h
 ·omega
 ·exact ⟨g,cap,rfl⟩
theorem Z0E {w:World}{base:Nat}{e:TypeId}{size n:Nat}{v:Value}{xs:List Value}(h:w.ownsRow base e size v n xs):∃ a m c,v=.slice a m c:=by
 obtain ⟨a,c,e⟩:=Z0A h
 exact ⟨a,n,c,e⟩
theorem used_any (w:World)(base:Nat)(es:List (List Trm))(l0 p0:Int)(lb:ByteArray)(tk:Int)(nm:ByteArray)(va:Option Addr)(vn vc:Nat)(cd:Int)(ka:Option Addr)(kn kc:Nat)(sz:Int)(hv:VAt w base (.slice va vn vc) es)(hn:es.length≤1000000)(hc:cntT es≤1000000) :
  Calls Tryz.prog 108 #[.agg #[.int .i64 l0,.int .i64 p0,.string lb,.int .i64 tk,.string nm,.slice va vn vc,.int .u8 cd,.slice ka kn kc,.int .i64 sz]] w fun e w'=>∃ v,e=.returned v∧w'.ownsRow w.heap.size 9 1 v (Z1f es).length (strV (Z1f es))∧Below w.heap.size w w':=by
 obtain ⟨i0,hi,hz0,hz1,hz2⟩:=info_parts Tryz.infoStrB
 obtain ⟨vs,hrow,hE⟩:=hv
 obtain ⟨a',c',ev⟩:=Z0A hrow
 obtain rfl:vn=es.length:=by cases ev;rfl
 have HROW:=Z0a hrow
 have HE:=Z0a (fun j (h:j<es.length)=>Z51 hE j h)
 have HC:=Z0a hc
 have hni:(es.length:Int)≤1000000:=by omega
 clear hrow hE ev hc
 go_enter Tryz.func108,Tryz.ntmps108
 go_wp2_with fail
 go_loopw [3,11] (fun v i wr=>∃ j:Nat,j≤es.length∧i=.int .i64 j∧wr.ownsRow w.heap.size 9 1 v (Z1f (es.take j)).length (strV (Z1f (es.take j)))∧Below w.heap.size w wr) (fun _ i _=>es.length-(intOf i).toNat)
 case atStart=>exact ⟨0,Nat.zero_le _,rfl,World.ownsRow_nil _ _ _ _,(Below.refl _ _).alloc (Nat.le_refl _) _⟩
 case round =>
  obtain ⟨j,hj,rfl,hr,hB⟩:=hrel
  obtain ⟨ra,rn,rc,rfl⟩:=Z0E hr
  have HR:=Z0a hr
  have HB:=Z0a hB
  clear hr hB
  by_cases hlt:j<es.length
  ·have hji:(j:Int)<(es.length:Int):=by omega
   obtain ⟨g,cap,ev⟩:=Z25 HROW.out (by omega)
   cases ev
   obtain ⟨x,hx,hxr⟩:=HE.out j hlt
   have hxr2:=Z0q hxr HB.out
   have cj:=(Z3c (Z0q HROW.out HB.out)).2 j x hx
   obtain ⟨xa,xc,rfl⟩:=Z0A hxr
   obtain ⟨E,hEE⟩:∃ E,es[j]=E:=⟨_,rfl⟩
   have h1:=cntT_take es j hlt
   have h2:=cntT_le es (j+1)
   have h3:=Z6v (es.take j)
   have h4:=usedS_take es j hlt
   rw [hEE] at hxr hxr2 cj h1 h4
   have HX:=Z0a hxr
   obtain ⟨L,hL⟩:∃ L,Z1f (es.take j)=L:=⟨_,rfl⟩
   rw [hL] at HR h3 h4
   have hEl:(E.length:Int)≤1000000:=by have:=HC.out;omega
   have hLl:L.length+E.length≤1000000:=by have:=HC.out;omega
   have HU:=Z0a h4
   clear hx hxr hxr2 h1 h2 h3 h4 hEE
   go_wp2_with fail
   go_loopw [3,17] (fun v i wr=>∃ k:Nat,k≤E.length∧i=.int .i64 k∧wr.ownsRow w.heap.size 9 1 v (L++Z3k (E.take k)).length (strV (L++Z3k (E.take k)))∧Below w.heap.size w wr) (fun _ i _=>E.length-(intOf i).toNat)
   case atStart=>exact ⟨0,Nat.zero_le _,rfl,by simpa [Z3k] using HR.out,HB.out⟩
   case round =>
    clear HR HB cj
    obtain ⟨k,hk,rfl,hr,hB⟩:=hrel
    obtain ⟨ra,rn,rc,rfl⟩:=Z0E hr
    by_cases hlk:k<E.length
    ·have hki:(k:Int)<(E.length:Int):=by omega
     obtain ⟨gx,cx,ev⟩:=Z25 HX.out (by omega)
     cases ev
     have hcell:=(Z3c (Z0q HX.out hB)).2
     obtain ⟨t0,t1,t2,t3⟩:=Z48 E k hlk
     have hut:=usedE_take E k hlk
     have hul:=usedE_len (E.take k)
     rw [List.length_take] at hul
     obtain ⟨t,ht⟩:∃ t,E[k]=t:=⟨_,rfl⟩
     rw [ht] at t0 t1 t2 t3 hut
     have d0:=hcell _ _ t0
     have d1:=hcell _ _ t1
     have d2:=hcell _ _ t2
     have d3:=hcell _ _ t3
     obtain ⟨mi,nn,he,nu⟩:=t
     simp only at d0 d1 d2 d3 hut
     obtain ⟨M,hM⟩:∃ M,L++Z3k (E.take k)=M:=⟨_,rfl⟩
     have hMl:M.length≤1000000:=by rw [←hM,List.length_append];omega
     rw [hM] at hr
     have HR:=Z0a hr
     have HB:=Z0a hB
     have hBs:=hB.size
     clear hcell t0 t1 t2 t3 ht hr hB hul
     by_cases hnn:nn=⟨#[]⟩
     ·subst hnn
      rw [if_pos rfl,List.append_nil] at hut
      have HUT:Hid (L++Z3k (E.take (k+1))=M):=by
       show L++Z3k (E.take (k+1))=M
       rw [hut,hM]
      clear hut hM
      go_wp2
      go_roundw
      case rel=>exact ⟨k+1,by omega,by go_num,by rw [HUT.out];exact HR.out.alloc _,HB.out.alloc hBs _⟩
      case measure=>simp [intOf];omega
     ·have hemp:=Z2g hnn
      rw [if_neg hnn] at hut
      have HUT:Hid (L++Z3k (E.take (k+1))=M ++ [nn]):=by
       show L++Z3k (E.take (k+1))=M ++ [nn]
       rw [hut,← List.append_assoc,hM]
      clear hut hM
      go_wp2_with (
       at_builtin
       refine wpList_append_own_at _ rfl _ _ 22 rfl w.heap.size 9 i0 _ 1 16 Tryz.underlying22 hi hz0 hz1 hz2 rfl (by decide) (.slice ra rn rc) M.length (strV M) rfl ((HR.out.alloc _).alloc _) ⟨wr.heap.size+1,0,none⟩ 1 1 [.string nn] rfl rfl (by have:=Z04 (wr.alloc (.cells #[.bool mi,.string nn,.bool he,.int .i64 nu] 261)) [.string nn] 9;rwa [Z09] at this) (by intro u hu;simp at hu;subst hu;rfl) (by unfold maxLen;omega) (by omega) (by simp;omega) ?_
       intro v' wn hown hgr _ hloc
       obtain ⟨va',vn',vc',ev'⟩:=Z0E hown
       have hb1:=((HB.out.alloc hBs (.cells #[.bool mi,.string nn,.bool he,.int .i64 nu] 261)).alloc (by simp;omega) (.cells #[.string nn] 9)).grown hgr (by simp;omega) (fun k hk=>(HR.out.lt k hk).1)
       have HO:=Z0a hown
       have HB1:=Z0a hb1
       subst ev'
       clear hown hgr hloc hb1)
      go_roundw
      case rel=>exact ⟨k+1,by omega,by go_num,by rw [HUT.out];simpa [strV] using HO.out,HB1.out⟩
      case measure=>simp [intOf];omega
    ·have hki:¬ (k:Int)<(E.length:Int):=by omega
     have ek:k=E.length:=by omega
     subst ek
     rw [List.take_length,← HU.out] at hr
     have HR:=Z0a hr
     have HB:=Z0a hB
     clear hr hB
     go_wp2
     go_roundw
     case rel=>exact ⟨j+1,by omega,by go_num,by first | exact HR.out | simpa using HR.out,HB.out⟩
     case measure=>simp [intOf];omega
  ·have hji:¬ (j:Int)<(es.length:Int):=by omega
   have ej:j=es.length:=by omega
   subst ej
   rw [List.take_length] at HR
   go_wp2
   go_ret
   exact ⟨_,rfl,HR.out,HB.out⟩
def TokOk (N:Nat) (t:Tok):Prop:=t.text.size≤N∧0≤t.num
def TokAll (N:Nat) (ts:List Tok):Prop:=∀ t∈ts,TokOk N t
def Good (N:Nat) (t:Trm):Prop:=t.name.size≤N∧0≤t.num
def GoodE (N:Nat) (e:List Trm):Prop:=∀ t∈e,Good N t
def GoodV (N:Nat) (es:List (List Trm)):Prop:=∀ e∈es,GoodE N e
theorem TokAll.tail {N:Nat}{t:Tok}{l:List Tok}(h:TokAll N (t :: l)):TokAll N l:=fun x hx=>h x (List.mem_cons_of_mem _ hx)
theorem TokAll.head {N:Nat}{t:Tok}{l:List Tok}(h:TokAll N (t :: l)):TokOk N t:=h t List.mem_cons_self
theorem GoodE.snoc {N:Nat}{e:List Trm}{t:Trm}(h:GoodE N e)(ht:Good N t):GoodE N (e ++ [t]):=fun x hx=>by
 rcases List.mem_append.1 hx with h1 | h1
 ·exact h x h1
 ·rw [List.mem_singleton.1 h1]
  exact ht
theorem GoodV.snoc {N:Nat}{es:List (List Trm)}{e:List Trm}(h:GoodV N es)(ht:GoodE N e):GoodV N (es ++ [e]):=fun x hx=>by
 rcases List.mem_append.1 hx with h1 | h1
 ·exact h x h1
 ·rw [List.mem_singleton.1 h1]
  exact ht
theorem Z6D (es:List (List Trm))(e:List Trm):cntT (es ++ [e])=cntT es+e.length:=by simp [cntT]
theorem numOf_ge {t:List UInt8}{z:Int}(h:numOf t=some z):0≤z:=by
 unfold numOf at h
 split at h
 ·cases h
 ·split at h
  ·cases h
   decide
  ·have h2:=Option.some.inj h
   omega
theorem scanF_num:∀ (f:Nat) (r:ByteArray) (ts:List Tok),Z2w f r=some ts→∀ t∈ts,0≤t.num
 | 0,r,ts,h,t,ht=>by simp [Z2w] at h;subst h;cases ht
 | f+1,r,ts,h,t,ht=>by
  unfold Z2w at h
  by_cases hp:0<r.size
  ·rw [dif_pos hp] at h
   obtain ⟨o,ho,h2⟩:=Option.bind_eq_some_iff.1 h
   obtain ⟨ts',h3,rfl⟩:=Option.map_eq_some_iff.1 h2
   rcases List.mem_append.1 ht with h4 | h4
   ·unfold Z14 at ho
    split at ho
    ·cases ho;cases h4
    ·split at ho
     ·obtain ⟨v,hv,rfl⟩:=Option.map_eq_some_iff.1 ho
      simp [optL] at h4
      subst h4
      exact numOf_ge hv
     ·split at ho
      ·cases ho
       simp [optL] at h4
       subst h4
       exact Int.le_refl 0
      ·cases ho
       simp [optL] at h4
       subst h4
       exact Int.le_refl 0
   ·exact scanF_num f (Z4u r) ts' h3 t h4
  ·rw [dif_neg hp] at h
   cases h
   cases ht
theorem Z7O {N:Nat}{ts:List Tok}{x:Trm}{l:List Tok}(h:Z1C ts=some (x,l))(ha:TokAll N ts):Good N x∧TokAll N l:=by
 cases ts with
 | nil=>simp [Z1C] at h
 | cons t ts =>
  have h1:=ha.head
  simp only [Z1C] at h
  split at h
  ·cases h
   exact ⟨⟨Nat.zero_le _,Int.le_refl 0⟩,ha.tail⟩
  ·split at h
   ·cases h
    exact ⟨⟨Nat.zero_le _,h1.2⟩,ha.tail⟩
   ·split at h
    ·cases h
     exact ⟨⟨h1.1,Int.le_refl 0⟩,ha.tail⟩
    ·cases h
theorem Z7K {N:Nat}:∀ (f:Nat) (acc:List Trm) (ts:List Tok) (x:List Trm) (l:List Tok),Z11 f acc ts=some (x,l)→TokAll N ts→GoodE N acc→GoodE N x∧TokAll N l∧x.length+l.length≤acc.length+ts.length
 | 0,acc,ts,x,l,h,ha,hg=>by
  simp only [Z11] at h
  cases h
  exact ⟨hg,ha,Nat.le_refl _⟩
 | f+1,acc,[],x,l,h,ha,hg=>by simp only [Z11] at h;cases h
 | f+1,acc,t :: ts,x,l,h,ha,hg=>by
  simp only [Z11] at h
  split at h
  ·obtain ⟨⟨y,l2⟩,h1,h2⟩:=Option.bind_eq_some_iff.1 h
   have q:=Z7O h1 ha.tail
   have ql:=Z1q h1
   have r:=Z7K f _ l2 x l h2 q.2 (hg.snoc ⟨q.1.1,q.1.2⟩)
   refine ⟨r.1,r.2.1,?_⟩
   have h9:=r.2.2
   rw [List.length_append] at h9
   simp only [List.length_cons,List.length_nil] at h9 ⊢
   omega
  ·split at h
   ·obtain ⟨⟨y,l2⟩,h1,h2⟩:=Option.bind_eq_some_iff.1 h
    have q:=Z7O h1 ha.tail
    have ql:=Z1q h1
    have r:=Z7K f _ l2 x l h2 q.2 (hg.snoc ⟨q.1.1,q.1.2⟩)
    refine ⟨r.1,r.2.1,?_⟩
    have h9:=r.2.2
    rw [List.length_append] at h9
    simp only [List.length_cons,List.length_nil] at h9 ⊢
    omega
   ·cases h
    exact ⟨hg,ha,Nat.le_refl _⟩
theorem Z4r {N:Nat}{ts:List Tok}{x:List Trm}{l:List Tok}(h:Z1M ts=some (x,l))(ha:TokAll N ts):GoodE N x∧TokAll N l∧x.length+l.length≤ts.length∧l.length+1≤ts.length:=by
 have hl:=Z2Q h
 unfold Z1M at h
 obtain ⟨⟨y,l2⟩,h1,h2⟩:=Option.bind_eq_some_iff.1 h
 have q:=Z7O h1 ha
 have ql:=Z1q h1
 have r:=Z7K _ _ l2 x l h2 q.2 (fun t ht=>by rw [List.mem_singleton.1 ht];exact q.1)
 refine ⟨r.1,r.2.1,?_,hl⟩
 have:=r.2.2
 simp only [List.length_cons,List.length_nil] at this
 omega
theorem pVals1_ok {N:Nat}:∀ (f:Nat) (acc:List (List Trm)) (ts:List Tok) (es:List (List Trm)) (l:List Tok),Z2o f acc ts=some (es,l)→TokAll N ts→GoodV N acc→GoodV N es∧TokAll N l∧cntT es+l.length≤cntT acc+ts.length∧es.length+l.length≤acc.length+ts.length
 | 0,acc,ts,x,l,h,ha,hg=>by
  simp only [Z2o] at h
  cases h
  exact ⟨hg,ha,Nat.le_refl _,Nat.le_refl _⟩
 | f+1,acc,[],x,l,h,ha,hg=>by simp only [Z2o] at h;cases h
 | f+1,acc,t :: ts,x,l,h,ha,hg=>by
  simp only [Z2o] at h
  split at h
  ·obtain ⟨⟨y,l2⟩,h1,h2⟩:=Option.bind_eq_some_iff.1 h
   have q:=Z4r h1 ha.tail
   have r:=pVals1_ok f _ l2 x l h2 q.2.1 (hg.snoc q.1)
   have r3:=r.2.2
   rw [Z6D] at r3
   simp only [List.length_append,List.length_cons,List.length_nil] at r3 ⊢
   exact ⟨r.1,r.2.1,by omega,by omega⟩
  ·cases h
   exact ⟨hg,ha,Nat.le_refl _,Nat.le_refl _⟩
theorem cntT_one (e:List Trm):cntT [e]=e.length:=by simp [cntT]
theorem GoodV.one {N:Nat}{e:List Trm}(h:GoodE N e):GoodV N [e]:=fun x hx=>by rw [List.mem_singleton.1 hx];exact h
theorem pVals_ok {N tk:Nat}{ts:List Tok}{es:List (List Trm)}{l:List Tok}(h:Z3s tk ts=some (es,l))(ha:TokAll N ts):GoodV N es∧TokAll N l∧cntT es+l.length≤ts.length∧es.length+l.length≤ts.length∧(Z1D tk=true→es.length=1):=by
 unfold Z3s at h
 obtain ⟨⟨y,l2⟩,h1,h2⟩:=Option.bind_eq_some_iff.1 h
 have q:=Z4r h1 ha
 simp only at h2
 split at h2
 ·cases h2
  refine ⟨GoodV.one q.1,q.2.1,?_,?_,fun _=>rfl⟩
  ·rw [cntT_one]
   omega
  ·simp only [List.length_cons,List.length_nil]
   omega
 ·rename_i hn
  have r:=pVals1_ok _ _ l2 es l h2 q.2.1 (GoodV.one q.1)
  have r3:=r.2.2
  rw [cntT_one] at r3
  simp only [List.length_cons,List.length_nil] at r3
  exact ⟨r.1,r.2.1,by omega,by omega,fun e=>absurd e hn⟩
theorem numT_ok (N n:Nat):GoodE N [numT (n:Int)]:=fun t ht=>by
 rw [List.mem_singleton.1 ht]
 exact ⟨Nat.zero_le _,Int.natCast_nonneg n⟩
theorem pAtFin_ok {N:Nat}{tx:ByteArray}{ts:List Tok}{x:Nat × List Trm}{l:List Tok}(h:Z2I tx ts=some (x,l)):GoodE N x.2∧x.2.length=1∧l=ts:=by
 unfold Z2I at h
 obtain ⟨y,_,h2⟩:=Option.map_eq_some_iff.1 h
 cases h2
 exact ⟨numT_ok N _,rfl,rfl⟩
theorem pAt_ok {N:Nat}{ts:List Tok}{x:Nat × List Trm}{l:List Tok}(h:pAt ts=some (x,l))(ha:TokAll N ts):GoodE N x.2∧TokAll N l∧x.2.length+l.length≤ts.length:=by
 match ts with
 | []=>simp [pAt] at h
 | [_]=>simp [pAt] at h
 | t :: u :: l0 =>
  simp only [pAt] at h
  split at h
  ·split at h
   ·cases l0 with
    | nil=>cases h
    | cons v l3 =>
     simp only at h
     split at h
     ·obtain ⟨h1,h2,rfl⟩:=pAtFin_ok (N:=N) h
      refine ⟨h1,ha.tail.tail.tail,?_⟩
      rw [h2]
      simp only [List.length_cons]
      omega
     ·cases h
   ·obtain ⟨h1,h2,rfl⟩:=pAtFin_ok (N:=N) h
    refine ⟨h1,ha.tail,?_⟩
    rw [h2]
    simp only [List.length_cons]
    omega
  ·cases h
theorem pOp_ok {N:Nat}{ts:List Tok}{x:Nat × List Trm}{l:List Tok}(h:pOp ts=some (x,l))(ha:TokAll N ts):GoodE N x.2∧TokAll N l∧x.2.length+l.length≤ts.length:=by
 cases ts with
 | nil=>simp [pOp] at h
 | cons t ts =>
  simp only [pOp] at h
  split at h
  ·obtain ⟨⟨y,l2⟩,h1,h2⟩:=Option.map_eq_some_iff.1 h
   cases h2
   have q:=Z4r h1 ha.tail
   refine ⟨q.1,q.2.1,?_⟩
   simp only [List.length_cons]
   omega
  ·split at h
   ·obtain ⟨⟨y,l2⟩,h1,h2⟩:=Option.map_eq_some_iff.1 h
    cases h2
    have q:=Z4r h1 ha.tail
    refine ⟨q.1,q.2.1,?_⟩
    simp only [List.length_cons]
    omega
   ·split at h
    ·have q:=pAt_ok h ha.tail
     refine ⟨q.1,q.2.1,?_⟩
     simp only [List.length_cons]
     omega
    ·split at h
     ·cases h
      refine ⟨numT_ok N _,ha.tail,?_⟩
      simp only [List.length_cons,List.length_nil]
      omega
     ·obtain ⟨⟨y,l2⟩,h1,h2⟩:=Option.map_eq_some_iff.1 h
      cases h2
      have q:=Z4r h1 ha
      exact ⟨q.1,q.2.1,q.2.2.1⟩
theorem pOps_ok {N:Nat}:∀ (f:Nat) (ks:List Nat) (vs:List (List Trm)) (ts:List Tok) (x:List Nat × List (List Trm)) (l:List Tok),pOps f ks vs ts=some (x,l)→TokAll N ts→GoodV N vs→ks.length=vs.length→GoodV N x.2∧TokAll N l∧cntT x.2+l.length≤cntT vs+ts.length∧x.2.length+l.length≤vs.length+ts.length∧x.1.length=x.2.length
 | 0,_,_,_,_,_,h,_,_,_=>by simp only [pOps] at h;cases h
 | f+1,ks,vs,ts,x,l,h,ha,hg,hk=>by
  simp only [pOps] at h
  split at h
  ·cases h
  ·cases h
  ·rename_i y t l2 h1
   have q:=pOp_ok h1 ha
   have ql:=pOp_len h1
   have qc:=q.2.2
   simp only [List.length_cons] at ql qc
   split at h
   ·have r:=pOps_ok f _ _ l2 x l h q.2.1.tail (hg.snoc q.1) (by simp [hk])
    have r3:=r.2.2
    rw [Z6D] at r3
    simp only [List.length_append,List.length_cons,List.length_nil] at r3
    exact ⟨r.1,r.2.1,by omega,by omega,r3.2.2⟩
   ·cases h
    refine ⟨hg.snoc q.1,q.2.1,?_,?_,by simp [hk]⟩
    ·rw [Z6D]
     simp only [List.length_cons]
     omega
    ·simp only [List.length_append,List.length_cons,List.length_nil]
     omega
theorem pInsOps_ok {N:Nat}{ts:List Tok}{x:List Nat × List (List Trm)}{l:List Tok}(h:Z4a ts=some (x,l))(ha:TokAll N ts):GoodV N x.2∧TokAll N l∧cntT x.2+l.length≤ts.length∧x.2.length+l.length≤ts.length∧x.1.length=x.2.length:=by
 cases ts with
 | nil=>simp [Z4a] at h
 | cons t ts =>
  simp only [Z4a] at h
  split at h
  ·cases h
   exact ⟨(fun e he=>by cases he),ha,by simp [cntT],by simp,rfl⟩
  ·have r:=pOps_ok _ _ _ _ _ _ h ha (fun e he=>by cases he) rfl
   have r3:=r.2.2
   rw [show cntT []=0 from rfl] at r3
   simp only [List.length_nil] at r3
   exact ⟨r.1,r.2.1,by omega,by omega,r3.2.2⟩
structure InsF (d:InsD) (n:Nat):Prop where
 code:d.code≤255
 kinds:∀ k∈d.kinds,k<17
 len:d.kinds.length=n
 le:n≤3
 size:d.size=Z6u d.kinds
 size3:d.size≤3
 swap:d.code=133→n=2
theorem rows_insF:(rowsL.all fun r=>decide (r.1≤255) && (Z1B r.2.2).all (fun k=>decide (k<17)) && decide ((Z1B r.2.2).length≤3) && decide (Z6u (Z1B r.2.2)≤3) && (decide (r.1≠133) || decide ((Z1B r.2.2).length=2)))=true:=by decide +kernel
theorem insO_ok {s:List UInt8}{ks:List Nat}{d:InsD}(h:insO s ks=some d):InsF d ks.length:=by
 unfold insO at h
 obtain ⟨r,h1,rfl⟩:=Option.map_eq_some_iff.1 h
 have hm:r∈rowsL:=List.mem_reverse.1 (List.mem_of_find?_eq_some h1)
 have hp:=List.find?_some h1
 unfold meant at hp
 rw [Bool.and_eq_true,beq_iff_eq,beq_iff_eq] at hp
 have hl:(Z1B r.2.2).length=ks.length:=by
  have:=congrArg List.length hp.2
  simpa using this
 have hq:=List.all_eq_true.1 rows_insF r hm
 simp only [Bool.and_eq_true,decide_eq_true_eq,List.all_eq_true,Bool.or_eq_true] at hq
 obtain ⟨⟨⟨⟨q1,q2⟩,q3⟩,q4⟩,q5⟩:=hq
 exact ⟨q1,q2,hl,hl ▸ q3,rfl,q4,fun e=>by
  rcases q5 with q5 | q5
  ·exact absurd e q5
  ·rw [←hl]
   exact q5⟩
theorem pIns_ok {N:Nat}{s:List UInt8}{ts:List Tok}{x:InsD × List (List Trm)}{l:List Tok}(h:pIns s ts=some (x,l))(ha:TokAll N ts):GoodV N x.2∧TokAll N l∧cntT x.2+l.length≤ts.length∧x.2.length+l.length≤ts.length∧InsF x.1 x.2.length:=by
 unfold pIns at h
 obtain ⟨⟨y,l2⟩,h1,h2⟩:=Option.bind_eq_some_iff.1 h
 obtain ⟨d,h3,h4⟩:=Option.map_eq_some_iff.1 h2
 cases h4
 have q:=pInsOps_ok h1 ha
 refine ⟨q.1,q.2.1,q.2.2.1,q.2.2.2.1,?_⟩
 unfold Z8c at h3
 split at h3
 ·cases h3
 ·have:=insO_ok h3
  rw [q.2.2.2.2] at this
  exact this
structure StmF (N:Nat) (lb:ByteArray) (x:Stm):Prop where
 lb:lb.size≤N
 name:x.name.size≤N
 task:x.task≤6
 vals:GoodV N x.vals
 cnt:cntT x.vals≤N+1
 len:x.vals.length≤N+1
 once:Z1D x.task=true→x.vals.length=1
 ins:x.task=6→InsF x.ins x.vals.length
 other:x.task≠6→x.ins=ins0
theorem dirO_le {l:List UInt8}{t:Nat}(h:dirO l=some t):1≤t∧t≤5:=by
 unfold dirO at h
 obtain ⟨y,h1,rfl⟩:=Option.map_eq_some_iff.1 h
 have hm:=List.mem_of_find?_eq_some h1
 have key:∀ y∈dirL,1≤y.2∧y.2≤5:=by decide
 exact key y hm
structure TskF (N M:Nat) (x:Stm):Prop where
 name:x.name.size≤N
 task:x.task≤6
 vals:GoodV N x.vals
 cnt:cntT x.vals≤M
 len:x.vals.length≤M
 once:Z1D x.task=true→x.vals.length=1
 ins:x.task=6→InsF x.ins x.vals.length
 other:x.task≠6→x.ins=ins0
theorem pEqu_ok {N:Nat}{s:ByteArray}{ts:List Tok}{x:Stm}{l:List Tok}(h:pEqu s ts=some (x,l))(ha:TokAll N ts)(hs:s.size≤N):TskF N ts.length x:=by
 cases ts with
 | nil=>simp [pEqu] at h
 | cons u ts =>
  simp only [pEqu] at h
  split at h
  ·obtain ⟨⟨y,l2⟩,h1,h2⟩:=Option.map_eq_some_iff.1 h
   cases h2
   have q:=pVals_ok h1 ha.tail
   refine ⟨hs,by show 5≤6;decide,q.1,?_,?_,fun _=>q.2.2.2.2 rfl,fun e=>absurd e (by show ¬ 5=6;decide),fun _=>rfl⟩
   ·simp only [List.length_cons]
    omega
   ·simp only [List.length_cons]
    omega
  ·cases h
theorem pTask_ok {N:Nat}{ts:List Tok}{x:Stm}{l:List Tok}(h:Z1H ts=some (x,l))(ha:TokAll N ts):TskF N ts.length x:=by
 cases ts with
 | nil=>simp [Z1H] at h
 | cons t ts =>
  have h1:=ha.head
  have up:∀ {x:Stm},TskF N ts.length x→TskF N (t :: ts).length x:=fun q=>⟨q.name,q.task,q.vals,by simp only [List.length_cons];have:=q.cnt;omega,by simp only [List.length_cons];have:=q.len;omega,q.once,q.ins,q.other⟩
  simp only [Z1H] at h
  split at h
  ·cases h
   exact ⟨Nat.zero_le _,Nat.zero_le _,(fun e he=>by cases he),by simp [cntT],by simp,(fun e=>by cases e),(fun e=>by cases e),fun _=>rfl⟩
  ·split at h
   ·cases h
   ·split at h
    ·obtain ⟨⟨y,l2⟩,h1,h2⟩:=Option.map_eq_some_iff.1 h
     cases h2
     have q:=pIns_ok h1 ha.tail
     exact up ⟨Nat.zero_le _,Nat.le_refl _,q.1,by have:=q.2.2.1;simp only;omega,by have:=q.2.2.2.1;simp only;omega,(fun e=>by cases e),fun _=>q.2.2.2.2,fun e=>absurd rfl e⟩
    ·split at h
     ·rename_i tk hd
      split at h
      ·exact up (pEqu_ok h ha.tail h1.1)
      ·obtain ⟨⟨y,l2⟩,h2,h3⟩:=Option.map_eq_some_iff.1 h
       cases h3
       have q:=pVals_ok h2 ha.tail
       have ht:=dirO_le hd
       exact up ⟨Nat.zero_le _,by show tk≤6;omega,q.1,by have:=q.2.2.1;simp only;omega,by have:=q.2.2.2.1;simp only;omega,q.2.2.2.2,(fun e=>by have e2:tk=6:=e;omega),fun _=>rfl⟩
     ·exact up (pEqu_ok h ha.tail h1.1)
theorem pLabel_ok {N:Nat}{ts:List Tok}{lb:ByteArray}{l:List Tok}(h:Z07 ts=some (lb,l))(ha:TokAll N ts):lb.size≤N∧TokAll N l:=by
 match ts with
 | []=>simp [Z07] at h
 | [t] =>
  simp only [Z07] at h
  cases h
  exact ⟨Nat.zero_le _,ha⟩
 | t :: u :: l0 =>
  simp only [Z07] at h
  split at h
  ·cases h
   exact ⟨Nat.zero_le _,ha⟩
  ·split at h
   ·cases h
    exact ⟨ha.head.1,ha.tail.tail⟩
   ·cases h
theorem parseL_ok {s:ByteArray}{lb:ByteArray}{x:Stm}(h:Z1d s=some (lb,x)):StmF s.size lb x:=by
 unfold Z1d at h
 obtain ⟨ts,h1,h2⟩:=Option.bind_eq_some_iff.1 h
 unfold Z7a at h2
 obtain ⟨⟨lb2,l⟩,h3,h4⟩:=Option.bind_eq_some_iff.1 h2
 obtain ⟨⟨y,l2⟩,h5,h6⟩:=Option.bind_eq_some_iff.1 h4
 simp only at h5 h6
 split at h6
 ·cases h6
  have hb:(Z1X s).size≤s.size:=by
   have:=cut_len s.data.toList
   rw [Array.length_toList] at this
   show (Lib.cut s.data.toList [59]).1.toArray.size≤_
   rw [List.size_toArray]
   exact this
  have hc:(capS (Z1X s)).size=(Z1X s).size:=by
   show ((Z1X s).data.map capB).size=_
   rw [Array.size_map]
   rfl
  have hn:=Z6a _ _ _ h1
  have ha:TokAll s.size (ts ++ [endT]):=fun t ht=>by
   rcases List.mem_append.1 ht with q | q
   ·have:=(Z6x _ _ _ h1 t q).2
    exact ⟨by omega,scanF_num _ _ _ h1 t q⟩
   ·rw [List.mem_singleton.1 q]
    exact ⟨Nat.zero_le _,Int.le_refl 0⟩
  have q:=pLabel_ok h3 ha
  have ql:=Z7q h3
  have r:=pTask_ok h5 q.2
  have hl:l.length≤s.size+1:=by
   simp only [List.length_append,List.length_cons,List.length_nil] at ql
   omega
  exact ⟨q.1,r.name,r.task,r.vals,Nat.le_trans r.cnt hl,Nat.le_trans r.len hl,r.once,r.ins,r.other⟩
 ·cases h6
end Go.Proofs.YthokdbcpkmcieaaGreatDoor
