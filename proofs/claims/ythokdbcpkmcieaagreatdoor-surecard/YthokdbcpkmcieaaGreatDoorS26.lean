/- AsmT2 CodH SurF RawT AsmRo -/
import Derived.Test.YthokdbcpkmcieaaGreatDoorS25
set_option maxRecDepth 200000
set_option maxHeartbeats 8000000
namespace Go.Proofs.YthokdbcpkmcieaaGreatDoor
open Go Go.RowKit Go.Shelf Go.WideMaps Go.Maps
theorem one_num (f:List UInt8→Option Int)(p lo hi v:Int)(h:-1000000≤v∧v≤1000000)(h2:lo≤v∧v≤hi):nmbF f p [nm v] lo hi=some v:=by
 have e:trmN f p (nm v)=v:=rfl
 unfold nmbF
 have:valF f p 0 [nm v]=some v:=by
  have hd:=valF_drop (nm:=f) (pl:=p) (s:=0) (l:=[nm v]) (k:=0) (t:=nm v) rfl
  rw [List.drop_zero] at hd
  rw [hd]
  show (if (0:Int)+trmN f p (nm v) < -1000000∨1000000<0+trmN f p (nm v) then none else valF f p (0+trmN f p (nm v)) [])=_
  rw [e,Int.zero_add,if_neg (by omega)]
  rfl
 rw [this]
 show (if v<lo∨hi<v then none else some v)=some v
 rw [if_neg (by omega)]
def txO (n:Nat):ByteArray:=⟨#[111,114,103,32]⟩ ++ decF 3 n
def orgS (n:Nat):Stm:=⟨1,noB,[[nm (n:Int)]],ins0⟩
def Z3j:Stm:=⟨0,noB,[],ins0⟩
theorem empty_is:Z1d noB=some (noB,Z3j):=by
 have h:(match Z1d noB with
  | none=>false
  | some r=>decide (r.1=noB) && decide (r.2.task=0) && decide (r.2.name=noB) && decide (r.2.vals.length=0) && decide (r.2.ins.code=0) && decide (r.2.ins.kinds=[]) && decide (r.2.ins.size=0))=true:=by decide +kernel
 revert h
 cases Z1d noB with
 | none=>intro h2;cases h2
 | some r =>
  intro h2
  simp only [Bool.and_eq_true,decide_eq_true_eq] at h2
  obtain ⟨⟨⟨⟨⟨⟨a1,a2⟩,a3⟩,a4⟩,a5⟩,a6⟩,a7⟩:=h2
  rw [encS_inj (show encS r=encS (noB,Z3j) by unfold encS;rw [a1,a2,a3,List.eq_nil_of_length_eq_zero a4,a5,a6,a7];rfl)]
theorem settle_empty {a:Asm}(hn:a.n≤40)(hp:a.pl≤1024):∃ b,Z0o a noB Z3j=.ok b∧b.nm=a.nm∧b.pl=a.pl∧b.laid=a.laid∧b.bytes=a.bytes:=by
 have hcu:cuF a.nm noB Z3j.task Z3j.name Z3j.vals=true:=rfl
 have hcg:cgF a.nm a.n (Z0O noB Z3j.task Z3j.name)=none:=by
  show cgF a.nm a.n []=none
  unfold cgF
  rw [if_neg (by simp),if_neg (by simp;omega)]
 have hsp:Z33 a.pl 0 a.laid=none:=by
  unfold Z33
  rw [if_neg (by omega),if_neg (by simp)]
 refine ⟨{ a with pl:=a.pl+0,laid:=setR a.laid a.pl 0,starts:=a.starts },?_,rfl,rfl,rfl,rfl⟩
 unfold Z0o
 rw [if_neg (by simp [hcu]),hcg]
 simp only
 rw [if_neg (by decide),if_neg (by decide),if_neg (by decide),if_neg (by decide),show Z1I Z3j.task Z3j.vals.length Z3j.ins.size=0 from rfl,hsp]
 rfl
def okDg (n:Nat):Bool:=!((decF 3 n).data.toList.isEmpty) && (decF 3 n).data.toList.all isD && decide ((decF 3 n).data.toList.map capB=(decF 3 n).data.toList) && decide (numOf (decF 3 n).data.toList=some (n:Int)) && !((decF 3 n).data.toList.contains 59) && !((decF 3 n).data.toList.contains 10)
theorem ok_dg:(List.range 1024).all okDg=true:=by decide +kernel
theorem Z8q (n:Nat)(h:n<1024):NoNL (txO n)∧Z1d (txO n)=some (noB,orgS n):=by
 have hq:=List.all_eq_true.1 ok_dg n (List.mem_range.2 h)
 unfold okDg at hq
 simp only [Bool.and_eq_true,decide_eq_true_eq,Bool.not_eq_true'] at hq
 obtain ⟨⟨⟨⟨⟨h1,h2⟩,h3⟩,h4⟩,h5⟩,h6⟩:=hq
 have hl:(txO n).data.toList=[111,114,103,32]++(decF 3 n).data.toList:=by
  unfold txO
  rw [Z5s]
 obtain ⟨D,hD⟩:∃ D,(decF 3 n).data.toList=D:=⟨_,rfl⟩
 rw [hD] at h1 h2 h3 h4 h5 h6 hl
 have hDne:D≠[]:=by intro e;rw [e] at h1;simp at h1
 have h59:(59:UInt8) ∉ D:=fun hm=>by rw [List.contains_iff_mem.2 hm] at h5;cases h5
 have h10:(10:UInt8) ∉ D:=fun hm=>by rw [List.contains_iff_mem.2 hm] at h6;cases h6
 have hw:D.all isW=true:=List.all_eq_true.2 fun c hc=>Z47 c (List.all_eq_true.1 h2 c hc)
 have hfl:(txO n).data.toList.map capB=([[79,82,71],[32],D]:List (List UInt8)).flatten:=by
  rw [hl,List.map_append,h3]
  simp
  decide
 have hok:pcOk [[79,82,71],[32],D]=true:=by
  have hD1:pcOk [D]=true:=by simp [pcOk,hw,hDne]
  exact pc_word (by decide) (by decide) (by decide) (pc_sign (by decide) hD1)
 have htk:toksP [[79,82,71],[32],D]=some [wT [79,82,71],nT D (n:Int)]:=by
  have hd0:isD (D.headD 0)=true:=by
   cases D with
   | nil=>exact absurd rfl hDne
   | cons c l=>exact List.all_eq_true.1 h2 c List.mem_cons_self
  have hd1:¬ (D.headD 0).toNat=32:=fun e=>by
   unfold isD at hd0
   rw [e] at hd0
   simp at hd0
  simp only [toksP]
  rw [show ([79,82,71]:List UInt8).headD 0=79 from rfl,show ([32]:List UInt8).headD 0=32 from rfl,Z37 79 _ (by decide) (by decide) (by decide),Z3r 32 _ (by decide),Z4Z (D.headD 0) ⟨D.toArray⟩ (n:Int) hd1 hd0 h4]
  rfl
 refine ⟨?_,?_⟩
 ·unfold NoNL
  rw [hl,List.mem_append]
  rintro (e | e)
  ·revert e
   decide
  ·exact h10 e
 ·rw [Z7m (ps:=[[79,82,71],[32],D]) (ts:=[wT [79,82,71],nT D (n:Int)]) ?_ hfl hok ?_ htk]
  ·have hx:Z1M [nT D (n:Int),endT]=some ([numT (n:Int)],[endT]):=by
    refine pExpr_num _ (n:Int) ?_ rfl rfl endT [] (.inr rfl)
    intro e
    have e2:=congrArg (fun b:ByteArray=>b.data.toList) e
    have e3:D=[36]:=e2
    rw [e3] at h2
    revert h2
    decide
   have hv:Z3s 1 [nT D (n:Int),endT]=some ([[numT (n:Int)]],[endT]):=by
    unfold Z3s
    rw [hx]
    rfl
   have hT:Z1H [wT [79,82,71],nT D (n:Int),endT]=some (orgS n,[endT]):=by
    simp only [Z1H]
    rw [if_neg (by decide),if_neg (by decide),if_neg (by decide +kernel)]
    have hd:dirO (wT [79,82,71]).text.data.toList=some 1:=by decide
    rw [hd]
    simp only
    rw [if_neg (by decide),hv]
    rfl
   have hL:Z07 [wT [79,82,71],nT D (n:Int),endT]=some (⟨#[]⟩,[wT [79,82,71],nT D (n:Int),endT]):=by
    simp only [Z07]
    rw [if_pos]
    refine .inr fun e=>?_
    have e2:=congrArg (fun b:ByteArray=>b.data.toList) e
    have e3:D=[58]:=e2
    rw [e3] at h2
    revert h2
    decide
   show (Z07 [wT [79,82,71],nT D (n:Int),endT]).bind _=_
   rw [hL]
   simp only [Option.bind_some]
   rw [hT]
   rfl
  ·rw [hl,List.mem_append]
   rintro (e | e)
   ·revert e
    decide
   ·exact h59 e
  ·have:(txO n).size=(txO n).data.toList.length:=(Array.length_toList).symm
   rw [this,hl]
   simp
def txDb (n:Nat):ByteArray:=⟨#[100,98,32]⟩ ++ decF 3 n
def dbS (vs:List Int):Stm:=⟨2,noB,vs.map fun v=>[nm v],ins0⟩
theorem db_any (n:Nat)(h:n<1024):NoNL (txDb n)∧Z1d (txDb n)=some (noB,dbS [(n:Int)]):=by
 have hq:=List.all_eq_true.1 ok_dg n (List.mem_range.2 h)
 unfold okDg at hq
 simp only [Bool.and_eq_true,decide_eq_true_eq,Bool.not_eq_true'] at hq
 obtain ⟨⟨⟨⟨⟨h1,h2⟩,h3⟩,h4⟩,h5⟩,h6⟩:=hq
 have hl:(txDb n).data.toList=[100,98,32]++(decF 3 n).data.toList:=by
  unfold txDb
  rw [Z5s]
 obtain ⟨D,hD⟩:∃ D,(decF 3 n).data.toList=D:=⟨_,rfl⟩
 rw [hD] at h1 h2 h3 h4 h5 h6 hl
 have hDne:D≠[]:=by intro e;rw [e] at h1;simp at h1
 have h59:(59:UInt8) ∉ D:=fun hm=>by rw [List.contains_iff_mem.2 hm] at h5;cases h5
 have h10:(10:UInt8) ∉ D:=fun hm=>by rw [List.contains_iff_mem.2 hm] at h6;cases h6
 have hw:D.all isW=true:=List.all_eq_true.2 fun c hc=>Z47 c (List.all_eq_true.1 h2 c hc)
 have hfl:(txDb n).data.toList.map capB=([[68,66],[32],D]:List (List UInt8)).flatten:=by
  rw [hl,List.map_append,h3]
  simp
  decide
 have hok:pcOk [[68,66],[32],D]=true:=by
  have hD1:pcOk [D]=true:=by simp [pcOk,hw,hDne]
  exact pc_word (by decide) (by decide) (by decide) (pc_sign (by decide) hD1)
 have htk:toksP [[68,66],[32],D]=some [wT [68,66],nT D (n:Int)]:=by
  have hd0:isD (D.headD 0)=true:=by
   cases D with
   | nil=>exact absurd rfl hDne
   | cons c l=>exact List.all_eq_true.1 h2 c List.mem_cons_self
  have hd1:¬ (D.headD 0).toNat=32:=fun e=>by
   unfold isD at hd0
   rw [e] at hd0
   simp at hd0
  simp only [toksP]
  rw [show ([68,66]:List UInt8).headD 0=68 from rfl,show ([32]:List UInt8).headD 0=32 from rfl,Z37 68 _ (by decide) (by decide) (by decide),Z3r 32 _ (by decide),Z4Z (D.headD 0) ⟨D.toArray⟩ (n:Int) hd1 hd0 h4]
  rfl
 refine ⟨?_,?_⟩
 ·unfold NoNL
  rw [hl,List.mem_append]
  rintro (e | e)
  ·revert e
   decide
  ·exact h10 e
 ·rw [Z7m (ps:=[[68,66],[32],D]) (ts:=[wT [68,66],nT D (n:Int)]) ?_ hfl hok ?_ htk]
  ·have hx:Z1M [nT D (n:Int),endT]=some ([numT (n:Int)],[endT]):=by
    refine pExpr_num _ (n:Int) ?_ rfl rfl endT [] (.inr rfl)
    intro e
    have e2:=congrArg (fun b:ByteArray=>b.data.toList) e
    have e3:D=[36]:=e2
    rw [e3] at h2
    revert h2
    decide
   have hv:Z3s 2 [nT D (n:Int),endT]=some ([[numT (n:Int)]],[endT]):=by
    unfold Z3s
    rw [hx]
    rfl
   have hT:Z1H [wT [68,66],nT D (n:Int),endT]=some (dbS [(n:Int)],[endT]):=by
    simp only [Z1H]
    rw [if_neg (by decide),if_neg (by decide),if_neg (by decide +kernel)]
    have hd:dirO (wT [68,66]).text.data.toList=some 2:=by decide
    rw [hd]
    simp only
    rw [if_neg (by decide),hv]
    rfl
   have hL:Z07 [wT [68,66],nT D (n:Int),endT]=some (⟨#[]⟩,[wT [68,66],nT D (n:Int),endT]):=by
    simp only [Z07]
    rw [if_pos]
    refine .inr fun e=>?_
    have e2:=congrArg (fun b:ByteArray=>b.data.toList) e
    have e3:D=[58]:=e2
    rw [e3] at h2
    revert h2
    decide
   show (Z07 [wT [68,66],nT D (n:Int),endT]).bind _=_
   rw [hL]
   simp only [Option.bind_some]
   rw [hT]
   rfl
  ·rw [hl,List.mem_append]
   rintro (e | e)
   ·revert e
    decide
   ·exact h59 e
  ·have:(txDb n).size=(txDb n).data.toList.length:=(Array.length_toList).symm
   rw [this,hl]
   simp
def Z2T:ByteArray:=⟨#[100,98,32,49,44,50,44,49,50,54,44,49,50,53,44,50,53,53,44,48]⟩
theorem last_any:NoNL Z2T∧Z1d Z2T=some (noB,dbS [1,2,126,125,255,0]):=by
 refine ⟨by unfold NoNL;decide,?_⟩
 have h:(match Z1d Z2T with
  | none=>false
  | some r=>decide (r.1=noB) && decide (r.2.task=2) && decide (r.2.name=noB) && decide (r.2.vals.map (fun e=>e.map encT)=(dbS [1,2,126,125,255,0]).vals.map (fun e=>e.map encT)) && decide (r.2.ins.code=0) && decide (r.2.ins.kinds=[]) && decide (r.2.ins.size=0))=true:=by decide +kernel
 revert h
 cases Z1d Z2T with
 | none=>intro h2;cases h2
 | some r =>
  intro h2
  simp only [Bool.and_eq_true,decide_eq_true_eq] at h2
  obtain ⟨⟨⟨⟨⟨⟨a1,a2⟩,a3⟩,a4⟩,a5⟩,a6⟩,a7⟩:=h2
  rw [encS_inj (show encS r=encS (noB,dbS [1,2,126,125,255,0]) by unfold encS;rw [a1,a2,a3,a4,a5,a6,a7];rfl)]
theorem cg_nil {f:List UInt8→Option Int}{n:Nat}(h:n≤40):cgF f n []=none:=by
 unfold cgF
 rw [if_neg (by simp),if_neg (by simp;omega)]
theorem Z6o (a:Asm)(ha:a.n≤40)(n:Nat)(h:n<1024):Z0o a noB (orgS n)=.ok { a with pl:=n }:=by
 have hcu:cuF a.nm noB (orgS n).task (orgS n).name (orgS n).vals=true:=rfl
 have hcg:cgF a.nm a.n (Z0O noB (orgS n).task (orgS n).name)=none:=cg_nil ha
 have ht:tooS (orgS n).vals=false:=by
  show ([[nm (n:Int)]]:List (List Trm)).any tooE=false
  unfold tooE nm
  simp
  omega
 have hv:nmbF a.nm (a.pl:Int) ((orgS n).vals.headD []) 0 1023=some (n:Int):=one_num _ _ _ _ _ (by omega) (by omega)
 unfold Z0o
 rw [if_neg (by simp [hcu]),hcg]
 simp only
 rw [if_neg (by simp [ht]),if_pos (show (orgS n).task=1 from rfl),if_pos (show noB=⟨#[]⟩ from rfl),hv]
 rfl
theorem used_db (vs:List Int):Z1f (dbS vs).vals=[]:=by
 unfold Z1f
 rw [List.flatMap_eq_nil_iff]
 intro e he
 obtain ⟨v,_,rfl⟩:=List.mem_map.1 he
 rfl
theorem settle_db (a:Asm)(ha:a.n≤40)(vs:List Int)(hv:∀ v∈vs,v≤255)(hsp:Z33 a.pl vs.length a.laid=none):Z0o a noB (dbS vs)=.ok { a with pl:=a.pl+vs.length,laid:=setR a.laid a.pl vs.length }:=by
 have hcu:cuF a.nm noB (dbS vs).task (dbS vs).name (dbS vs).vals=true:=by
  refine cuF_free ?_ rfl
  rw [used_db]
  rfl
 have hcg:cgF a.nm a.n (Z0O noB (dbS vs).task (dbS vs).name)=none:=cg_nil ha
 have ht:tooS (dbS vs).vals=false:=by
  unfold tooS
  rw [List.any_eq_false]
  intro e he
  obtain ⟨v,hm,rfl⟩:=List.mem_map.1 he
  have:=hv v hm
  simp [tooE,nm]
  omega
 have hz:Z1I (dbS vs).task (dbS vs).vals.length (dbS vs).ins.size=vs.length:=by
  show (vs.map fun v=>[nm v]).length=_
  rw [List.length_map]
 unfold Z0o
 rw [if_neg (by simp [hcu]),hcg]
 simp only
 rw [if_neg (by simp [ht]),if_neg (show ¬ (dbS vs).task=1 from (show ¬ (2:Nat)=1 by decide)),if_neg (show ¬ (dbS vs).task=4 from (show ¬ (2:Nat)=4 by decide)),if_neg (show ¬ (dbS vs).task=5 from (show ¬ (2:Nat)=5 by decide)),hz,hsp,if_neg (show ¬ (dbS vs).task=6 from (show ¬ (2:Nat)=6 by decide))]
 rfl
def FillOk (st:St):Prop:=∀ a:Asm,∃ b,Z6z a st.pl st.x=.ok b
theorem fill_org (l p n:Nat)(lb:ByteArray):FillOk ⟨l,p,lb,orgS n⟩:=fun a=>⟨a,rfl⟩
theorem nums_db (f:List UInt8→Option Int)(p:Int):∀ vs:List Int,(∀ v∈vs,-128≤v∧v≤255)→Z1v f p (-128) 255 (vs.map fun v=>[nm v])=some vs
 | [],_=>rfl
 | v :: vs,h=>by
  have hv:=h v List.mem_cons_self
  show (nmbF f p [nm v] (-128) 255).bind (fun z=>(Z1v f p (-128) 255 (vs.map fun v=>[nm v])).map (z :: ·))=_
  rw [one_num f p (-128) 255 v (by omega) hv,nums_db f p vs (fun x hx=>h x (List.mem_cons_of_mem _ hx))]
  rfl
theorem fill_db (l p:Nat)(lb:ByteArray)(vs:List Int)(hv:∀ v∈vs,-128≤v∧v≤255):FillOk ⟨l,p,lb,dbS vs⟩:=fun a=>by
 unfold Z6z
 simp only
 split
 ·exact ⟨_,rfl⟩
 ·rw [used_db,if_neg (by simp)]
  have:bytS a.nm p (dbS vs)=some (vs.map IntKind.u8.wrap):=by
   show dbF a.nm (p:Int) (vs.map fun v=>[nm v])=_
   unfold dbF
   rw [nums_db _ _ _ hv]
   rfl
  rw [this]
  exact ⟨_,rfl⟩
theorem fl_all:∀ (l:List St) (a:Asm),(∀ st∈l,FillOk st)→∃ b,flL a l=.ok b
 | [],a,_=>⟨a,rfl⟩
 | st :: l,a,h=>by
  obtain ⟨b,hb⟩:=h st List.mem_cons_self a
  obtain ⟨c,hc⟩:=fl_all l b (fun x hx=>h x (List.mem_cons_of_mem _ hx))
  refine ⟨c,?_⟩
  simp only [flL,hb]
  exact hc
def lnsI:List (Nat × Nat)→List ByteArray
 | []=>[]
 | x :: l=>txO x.1 :: txDb x.2 :: lnsI l
def LowA (a:Asm) (c:Nat):Prop:=a.n≤40∧a.laid.length=1024∧∀ k,a.laid[k]?=some true→k%64<c
theorem span_free {a:Asm}{c n:Nat}(h:LowA a c)(h1:c≤a.pl%64)(h2:a.pl%64+n≤64)(h3:a.pl+n≤1024):Z33 a.pl n a.laid=none:=by
 unfold Z33
 rw [if_neg (by omega),if_neg]
 intro hm
 obtain ⟨j,hj⟩:=List.mem_iff_getElem?.1 hm
 rw [List.getElem?_take] at hj
 split at hj
 ·rw [List.getElem?_drop] at hj
  have:=h.2.2 _ hj
  omega
 ·cases hj
theorem low_lay {a:Asm}{c n:Nat}(h:LowA a c)(h1:c≤a.pl%64)(h3:a.pl+n≤1024)(_h2:a.pl%64+n≤64):LowA { a with pl:=a.pl+n,laid:=setR a.laid a.pl n } (a.pl%64+n):=by
 refine ⟨h.1,by show (setR a.laid a.pl n).length=1024;rw [setR_len];exact h.2.1,fun k hk=>?_⟩
 have hk':(setR a.laid a.pl n)[k]?=some true:=hk
 have key:∀ m k,(setR a.laid a.pl m)[k]?=some true→a.laid[k]?=some true∨(a.pl≤k∧k<a.pl+m):=by
  intro m
  induction m with
  | zero=>intro k hk;exact .inl hk
  | succ m ih =>
   intro k hk
   unfold setR at hk
   rw [List.getElem?_set] at hk
   split at hk
   ·exact .inr (by omega)
   ·rcases ih k hk with e | e
    ·exact .inl e
    ·exact .inr (by omega)
 rcases key n k hk' with e | e
 ·have:=h.2.2 k e
  omega
 ·omega
theorem rd_pairs (rest:List ByteArray):∀ (ps:List (Nat × Nat)) (i c:Nat) (a:Asm),LowA a c→(ps.Pairwise fun x y=>x.1%64<y.1%64)→(∀ x∈ps,c≤x.1%64∧x.1%64<8∧x.1<1024∧x.2<256)→c≤8 →
  ∃ sts a',rdL i a (lnsI ps++rest)=joinR sts (rdL (i+2*ps.length) a' rest)∧LowA a' 8∧∀ st∈sts,FillOk st
 | [],i,c,a,hl,_,_,hc=>by
  refine ⟨[],a,?_,⟨hl.1,hl.2.1,fun k hk=>by have:=hl.2.2 k hk;omega⟩,fun _ h=>by cases h⟩
  show rdL i a rest=joinR [] (rdL (i+0) a rest)
  rw [Nat.add_zero]
  cases rdL i a rest <;> rfl
 | x :: ps,i,c,a,hl,hp,hx,hc=>by
  obtain ⟨x1,x2,x3,x4⟩:=hx x List.mem_cons_self
  have hp2:=List.pairwise_cons.1 hp
  have ho:=Z8q x.1 x3
  have hd:=db_any x.2 (by omega)
  have s1:=Z6o a hl.1 x.1 x3
  have hl1:LowA { a with pl:=x.1 } c:=hl
  have s2:=settle_db { a with pl:=x.1 } hl.1 [(x.2:Int)] (fun v hv=>by rw [List.mem_singleton.1 hv];omega) (span_free hl1 x1 (by show x.1%64+1≤64;omega) (by show x.1+1≤1024;omega))
  have hl2:=low_lay (n:=1) hl1 x1 (by show x.1+1≤1024;omega) (by show x.1%64+1≤64;omega)
  have hl2':LowA { a with pl:=x.1+1,laid:=setR a.laid x.1 1 } (x.1%64+1):=hl2
  obtain ⟨sts,a',q1,q2,q3⟩:=rd_pairs rest ps (i+2) (x.1%64+1) _ hl2' hp2.2 (fun y hy=>⟨hp2.1 y hy,(hx y (List.mem_cons_of_mem _ hy)).2⟩) (by omega)
  refine ⟨⟨i+1,a.pl,noB,orgS x.1⟩ :: ⟨i+1+1,x.1,noB,dbS [(x.2:Int)]⟩ :: sts,a',?_,q2,fun st hst=>?_⟩
  ·have e1:lnsI (x :: ps)++rest=txO x.1 :: txDb x.2 :: (lnsI ps++rest):=rfl
   have s2':Z0o { a with pl:=x.1 } noB (dbS [(x.2:Int)])=.ok { a with pl:=x.1+1,laid:=setR a.laid x.1 1 }:=s2
   rw [e1]
   simp only [rdL,ho.2,s1,hd.2,s2']
   rw [show i+1+1=i+2 by omega,q1,show i+2*(x :: ps).length=i+2+2*ps.length by simp;omega]
   cases rdL (i+2+2*ps.length) a' rest with
   | error e=>rfl
   | ok r=>rfl
  ·rcases List.mem_cons.1 hst with rfl | hst
   ·exact fill_org _ _ _ _
   ·rcases List.mem_cons.1 hst with rfl | hst
    ·exact fill_db _ _ _ _ (fun v hv=>by rw [List.mem_singleton.1 hv];omega)
    ·exact q3 st hst
def srcI (ps:List (Nat × Nat)) (m:Nat):ByteArray:=(lnsI ps).foldr (fun t r=>t++(NL++r)) (txO m++(NL++(Z2T++(NL++noB))))
theorem Z7f (m:Nat)(hm:m<1024):∀ (ls:List ByteArray),(∀ t∈ls,NoNL t)→Z1h (ls.foldr (fun t r=>t++(NL++r)) (txO m++(NL++(Z2T++(NL++noB)))))=ls ++ [txO m,Z2T,noB]
 | [],_=>by
  show Z1h (txO m++(NL++(Z2T++(NL++noB))))=_
  rw [Z4e (Z8q m hm).1,Z4e last_any.1,linesF_last (fun h=>by cases h)]
  rfl
 | t :: ls,h=>by
  show Z1h (t++(NL++_))=_
  rw [Z4e (h t List.mem_cons_self),Z7f m hm ls (fun x hx=>h x (List.mem_cons_of_mem _ hx))]
  rfl
theorem asm_srcI (ps:List (Nat × Nat))(m:Nat)(hps:ps.Pairwise fun x y=>x.1%64<y.1%64)(hx:∀ x∈ps,x.1%64<8∧x.1<1024∧x.2<256)(hm:m%64=8∧m<1024)(hs:(srcI ps m).size≤2000):∃ b,asmF (srcI ps m)=.ok b:=by
 have hnl:∀ (ps:List (Nat × Nat)),(∀ x∈ps,x.1%64<8∧x.1<1024∧x.2<256)→∀ t∈lnsI ps,NoNL t:=by
  intro ps
  induction ps with
  | nil=>intro _ t ht;cases ht
  | cons x ps ih =>
   intro h t ht
   have h1:=h x List.mem_cons_self
   rcases List.mem_cons.1 ht with rfl | ht
   ·exact (Z8q x.1 h1.2.1).1
   ·rcases List.mem_cons.1 ht with rfl | ht
    ·exact (db_any x.2 (by omega)).1
    ·exact ih (fun y hy=>h y (List.mem_cons_of_mem _ hy)) t ht
 rw [asmF_asmL hs]
 unfold srcI
 rw [Z7f m hm.2 _ (hnl ps hx)]
 have h0:LowA asm0 0:=⟨by show 0≤40;omega,List.length_replicate,fun k hk=>by
  have hk':bF[k]?=some true:=hk
  unfold bF at hk'
  rw [List.getElem?_replicate] at hk'
  split at hk' <;> cases hk'⟩
 obtain ⟨sts,a,q1,q2,q3⟩:=rd_pairs [txO m,Z2T,noB] ps 0 0 asm0 h0 hps (fun x hx'=>⟨Nat.zero_le _,hx x hx'⟩) (by omega)
 have s1:=Z6o a q2.1 m hm.2
 have hl1:LowA { a with pl:=m } 8:=q2
 have s2:Z0o { a with pl:=m } noB (dbS [1,2,126,125,255,0])=.ok { a with pl:=m+6,laid:=setR a.laid m 6 }:=settle_db { a with pl:=m } q2.1 [1,2,126,125,255,0] (by decide) (span_free hl1 (by show 8≤m%64;omega) (by show m%64+6≤64;omega) (by show m+6≤1024;omega))
 obtain ⟨b,t1,_⟩:=settle_empty (a:={ a with pl:=m+6,laid:=setR a.laid m 6 }) q2.1 (by show m+6≤1024;omega)
 have hr:rdL (0+2*ps.length) a [txO m,Z2T,noB]=.ok ([⟨0+2*ps.length+1,a.pl,noB,orgS m⟩,⟨0+2*ps.length+1+1,m,noB,dbS [1,2,126,125,255,0]⟩,⟨0+2*ps.length+1+1+1,m+6,noB,Z3j⟩],b):=by
  simp only [rdL,(Z8q m hm.2).2,s1,last_any.2,s2,empty_is,t1]
 rw [hr] at q1
 unfold asmL
 rw [q1]
 show ∃ b_1,flL b (sts++_)=.ok b_1
 refine fl_all _ b (fun st hst=>?_)
 rcases List.mem_append.1 hst with hst | hst
 ·exact q3 st hst
 ·simp only [List.mem_cons,List.not_mem_nil,or_false] at hst
  rcases hst with rfl | rfl | rfl
  ·exact fill_org _ _ _ _
  ·exact fill_db _ _ _ _ (by decide)
  ·exact fun a=>⟨a,rfl⟩
end Go.Proofs.YthokdbcpkmcieaaGreatDoor
namespace Go.Proofs.YthokdbcpkmcieaaGreatDoor
open Go Go.RowKit
structure RawAt (w:World) (ra:Option Addr) (rn:Nat) (raws:List Int):Prop where
 len:rn=raws.length
 at_:∀ j (h:j<raws.length),∃ cb coff:Nat,ra=some ⟨cb,coff,none⟩∧w.cell? ⟨cb,coff+j,none⟩=some (.int .i64 raws[j])∧cb<w.heap.size
 bd:∀ r∈raws,-9223372036854775808≤r∧r≤9223372036854775807
theorem RawAt.below {w w':World}{ra:Option Addr}{rn:Nat}{raws:List Int}(h:RawAt w ra rn raws)(hb:Below w.heap.size w w'):RawAt w' ra rn raws :=
 ⟨h.len,fun j hj=>by
  obtain ⟨cb,coff,h1,h2,h3⟩:=h.at_ j hj
  exact ⟨cb,coff,h1,(World.cell?_of_block (a:=⟨cb,coff+j,none⟩) (hb.block cb h3)).trans h2,Nat.lt_of_lt_of_le h3 hb.size⟩,h.bd⟩
theorem box_img (w:World)(ik lk sk:Nat):∃ W,w.alloc (.cells #[.slice (some ⟨ik,0,none⟩) 1024 1024,.slice (some ⟨lk,0,none⟩) 1024 1024,.slice (some ⟨sk,0,none⟩) 1024 1024] 35)=W∧Below w.heap.size w W∧W.heap.size=w.heap.size+1∧W.heap[w.heap.size]?=some (.cells #[.slice (some ⟨ik,0,none⟩) 1024 1024,.slice (some ⟨lk,0,none⟩) 1024 1024,.slice (some ⟨sk,0,none⟩) 1024 1024] 35 (0,0)):=⟨_,rfl,(Below.refl _ _).alloc (Nat.le_refl _) _,by simp,heap_alloc_new w _⟩
end Go.Proofs.YthokdbcpkmcieaaGreatDoor
namespace Go.Proofs.YthokdbcpkmcieaaGreatDoor
open Go Go.RowKit Go.Shelf Go.WideMaps Go.Maps
def ImgAt (w:World) (a:Asm) (ik lk sk:Nat) (w':World):Prop:=YRow w' ik a.bytes∧BRow w' lk a.laid∧BRow w' sk a.starts∧w.heap.size≤ik∧w.heap.size≤lk∧w.heap.size≤sk
theorem bAssemble_ok (src:ByteArray)(a:Asm)(mm:Int)(w:World)(hmm:w.cell? ⟨0,0,none⟩=some (.int .i64 mm))(h:asmF src=.ok a) :
  Calls Tryz.prog 15 #[.string src] w fun e w'=>∃ ik lk sk,e=.returned (.tuple #[.agg #[.slice (some ⟨ik,0,none⟩) 1024 1024,.slice (some ⟨lk,0,none⟩) 1024 1024,.slice (some ⟨sk,0,none⟩) 1024 1024],.int .i64 0,.int .i64 0])∧ImgAt w a ik lk sk w'∧Below w.heap.size w w':=by
 have:=Z7D src mm w hmm
 rw [h] at this
 refine this.mono fun e w' hh=>?_
 obtain ⟨h1,ik,lk,sk,h2,h3⟩:=hh
 exact ⟨ik,lk,sk,h2,h3,h1⟩
end Go.Proofs.YthokdbcpkmcieaaGreatDoor
