/- AsmC AsmD AsmE AsmF AsmG -/
import Derived.Test.YthokdbcpkmcieabGreatDoorE20
import Derived.Test.YthokdbcpkmcieabGreatDoorE21
import Derived.Test.YthokdbcpkmcieabGreatDoorE19
import Derived.Laws.CopyOwn
set_option maxRecDepth 200000
set_option maxHeartbeats 8000000
namespace Go.Proofs.YthokdbcpkmcieabGreatDoor
open Go Go.RowKit Go.Shelf Go.WideMaps Go.Maps
theorem settle_any (w:World)(m:AMem)(a:Asm)(base:Nat)(lb:ByteArray)(x:Stm)(va:Option Addr)(vn vc:Nat)(ka:Option Addr)(kn kc:Nat)(l0:Int)(hp:Z4S w m a base lb x (.slice va vn vc)) :
  Calls Tryz.prog 186 #[.pointer (some ⟨m.ab,0,none⟩),.agg #[.int .i64 l0,.int .i64 (a.pl:Int),.string lb,.int .i64 (x.task:Int),.string x.name,.slice va vn vc,.int .u8 (x.ins.code:Int),.slice ka kn kc,.int .i64 (x.ins.size:Int)]] w (Z4y w m l0 (Z0o a lb x)):=by
 cases hcu:cuF a.nm lb x.task x.name x.vals with
 | false=>exact settle_used w m a base lb x va vn vc ka kn kc l0 hp hcu
 | true =>
  cases hcg:cgF a.nm a.n (Z0Q lb x.task x.name) with
  | some k=>exact settle_given w m a base lb x va vn vc ka kn kc l0 hp hcu k hcg
  | none =>
   cases htoo:tooS x.vals with
   | true=>exact settle_great w m a base lb x va vn vc ka kn kc l0 hp hcu hcg htoo
   | false =>
    by_cases h1:x.task=1
    ·exact settle_org w m a base lb x va vn vc ka kn kc l0 hp hcu hcg htoo h1
    ·by_cases h4:x.task=4
     ·exact settle_ds w m a base lb x va vn vc ka kn kc l0 hp hcu hcg htoo h4
     ·by_cases h5:x.task=5
      ·exact settle_equ w m a base lb x va vn vc ka kn kc l0 hp hcu hcg htoo h5
      ·exact settle_lay w m a base lb x va vn vc ka kn kc l0 hp hcu hcg htoo h1 h4 h5
def Z1A (nm:List UInt8→Option Int) (p lo hi:Int):List (List Trm)→Option (List Int)
 | []=>some []
 | e :: es=>(nmbF nm p e lo hi).bind fun z=>(Z1A nm p lo hi es).map (z :: ·)
theorem Z3D {nm:List UInt8→Option Int}{p lo hi:Int}:∀ (l k:List (List Trm)),Z1A nm p lo hi (l++k)=(Z1A nm p lo hi l).bind fun a=>(Z1A nm p lo hi k).map (a ++ ·)
 | [],k=>by simp [Z1A]
 | e :: l,k=>by
  have ih:=Z3D (nm:=nm) (p:=p) (lo:=lo) (hi:=hi) l k
  simp only [List.cons_append,Z1A,ih]
  cases nmbF nm p e lo hi with
  | none=>rfl
  | some z =>
   cases Z1A nm p lo hi l with
   | none=>rfl
   | some a =>
    cases Z1A nm p lo hi k with
    | none=>rfl
    | some b=>rfl
theorem numsF_one (nm:List UInt8→Option Int)(p lo hi:Int)(e:List Trm):Z1A nm p lo hi [e]=(nmbF nm p e lo hi).map fun z=>[z]:=by
 simp only [Z1A]
 cases nmbF nm p e lo hi <;> rfl
theorem Z44 {nm:List UInt8→Option Int}{p lo hi:Int}{es:List (List Trm)}{j:Nat}{zs:List Int}(hj:j<es.length)(h:Z1A nm p lo hi (es.take j)=some zs):Z1A nm p lo hi (es.take (j+1))=(nmbF nm p es[j] lo hi).map fun z=>zs ++ [z]:=by
 rw [List.take_add_one,List.getElem?_eq_getElem hj,Option.toList_some,Z3D,h,numsF_one]
 cases nmbF nm p es[j] lo hi <;> rfl
theorem Z57 {nm:List UInt8→Option Int}{p lo hi:Int}{es:List (List Trm)}{j:Nat}(h:Z1A nm p lo hi (es.take j)=none):Z1A nm p lo hi es=none:=by
 have:=Z3D (nm:=nm) (p:=p) (lo:=lo) (hi:=hi) (es.take j) (es.drop j)
 rw [List.take_append_drop,h] at this
 exact this
theorem Z3O {nm:List UInt8→Option Int}{p lo hi:Int}:∀ {es:List (List Trm)} {zs:List Int},Z1A nm p lo hi es=some zs→zs.length=es.length
 | [],zs,h=>by
  simp only [Z1A] at h
  cases h
  rfl
 | e :: es,zs,h=>by
  simp only [Z1A] at h
  obtain ⟨z,_,h2⟩:=Option.bind_eq_some_iff.1 h
  obtain ⟨y,h3,rfl⟩:=Option.map_eq_some_iff.1 h2
  rw [List.length_cons,List.length_cons,Z3O h3]
structure FillPre (w:World) (m:AMem) (a:Asm) (base:Nat) (x:Stm) (v:Value) (p:Nat):Prop where
 at_:AsmAt w m a
 ok:∀ l z,a.nm l=some z→-1000000≤z∧z≤1000000
 vals:VAt w base v x.vals
 great:tooS x.vals=false
 trms:∀ e∈x.vals,∀ t∈e,t.name.size≤1000000∧0≤t.num
 cnt:cntT x.vals≤1000000
 len:x.vals.length≤1000000
 pl:p≤1024
theorem FillPre.below {w w':World}{m:AMem}{a:Asm}{base:Nat}{x:Stm}{v:Value}{p:Nat}(h:FillPre w m a base x v p)(hb:Below w.heap.size w w'):FillPre w' m a base x v p:=⟨h.at_.below hb,h.ok,h.vals.below hb,h.great,h.trms,h.cnt,h.len,h.pl⟩
theorem mem_cnt {e:List Trm}:∀ {es:List (List Trm)},e∈es→e.length≤cntT es
 | x :: es,h=>by
  have hc:cntT (x :: es)=x.length+cntT es:=by simp [cntT]
  rw [hc]
  rcases List.mem_cons.1 h with rfl | h
  ·omega
  ·have:=mem_cnt h
   omega
theorem FillPre.num {w:World}{m:AMem}{a:Asm}{base:Nat}{x:Stm}{va:Option Addr}{vn vc:Nat}{p:Nat}(h:FillPre w m a base x (.slice va vn vc) p)(j:Nat)(hj:j<x.vals.length):∃ g xa xn xc,va=some ⟨g,0,none⟩∧w.cell? ⟨g,j,none⟩=some (.slice xa xn xc)∧∀ (l0:Int) (lb:ByteArray) (tk:Int) (nmS:ByteArray) (sa:Option Addr) (sn sc:Nat) (cd:Int) (ka:Option Addr) (kn kc:Nat) (sz lo hi:Int),Calls Tryz.prog 239 #[.pointer (some ⟨m.ab,0,none⟩),.agg #[.int .i64 l0,.int .i64 (p:Int),.string lb,.int .i64 tk,.string nmS,.slice sa sn sc,.int .u8 cd,.slice ka kn kc,.int .i64 sz],.slice xa xn xc,.int .i64 lo,.int .i64 hi] w fun e w'=>e=nmbE (nmbF a.nm (p:Int) x.vals[j] lo hi) l0∧Below w.heap.size w w':=by
 obtain ⟨vs,h1,h2⟩:=h.vals
 obtain ⟨y,hy,hr⟩:=Z54 h2 j hj
 obtain ⟨g,hg,hc⟩:=Z17 h1 (by omega) hy
 obtain ⟨xa,xn,xc,rfl⟩:=Z0K hr
 have hm:x.vals[j]∈x.vals:=List.getElem_mem hj
 refine ⟨g,xa,xn,xc,hg,hc,fun l0 lb tk nmS sa sn sc cd ka kn kc sz lo hi=>?_⟩
 exact Z3V w m.ab _ _ _ m.nb _ _ _ base _ l0 (p:Int) lb tk nmS sa sn sc cd ka kn kc sz xa xn xc lo hi h.at_.st hr (Nat.le_trans (mem_cnt hm) h.cnt) (fun t ht=>(h.trms _ hm t ht).1) (fun t ht=>trm_ok h.ok h.great (fun e he t ht=>(h.trms e he t ht).2) hm ht h.pl)
def DEnd (w:World) (l0:Int) (o:Option (List Int)) (e:Ending) (w':World):Prop :=
 Below w.heap.size w w'∧match o with
  | none=>e=.panicked (fltC 6 l0)
  | some bs=>∃ v,e=.returned v∧w'.ownsRow w.heap.size 5 1 v bs.length (Z0v bs)
def dbF (nm:List UInt8→Option Int) (p:Int) (es:List (List Trm)):Option (List Int):=(Z1A nm p (-128) 255 es).map fun zs=>zs.map IntKind.u8.wrap
def wdB (zs:List Int):List Int:=zs.flatMap fun z=>[IntKind.u8.wrap (z/256),IntKind.u8.wrap z]
theorem wdB_len (zs:List Int):(wdB zs).length=2*zs.length:=by
 induction zs with
 | nil=>rfl
 | cons z l ih =>
  have:wdB (z :: l)=IntKind.u8.wrap (z/256) :: IntKind.u8.wrap z :: wdB l:=rfl
  rw [this,List.length_cons,List.length_cons,List.length_cons,ih]
  omega
def dwF (nm:List UInt8→Option Int) (p:Int) (es:List (List Trm)):Option (List Int):=(Z1A nm p (-32768) 65535 es).map wdB
theorem Z8h (w:World)(m:AMem)(a:Asm)(base:Nat)(x:Stm)(va:Option Addr)(vn vc:Nat)(p:Nat)(l0:Int)(lb:ByteArray)(tk:Int)(nmS:ByteArray)(cd:Int)(ka:Option Addr)(kn kc:Nat)(sz:Int)(h:FillPre w m a base x (.slice va vn vc) p) :
  Calls Tryz.prog 242 #[.pointer (some ⟨m.ab,0,none⟩),.agg #[.int .i64 l0,.int .i64 (p:Int),.string lb,.int .i64 tk,.string nmS,.slice va vn vc,.int .u8 cd,.slice ka kn kc,.int .i64 sz]] w (DEnd w l0 (dbF a.nm (p:Int) x.vals)):=by
 obtain ⟨i0,hi,hz0,hz1,hz2⟩:=info_parts Tryz.infoU8
 obtain ⟨W,hW,hBW,hWz,hSS⟩:=Z1B w l0 (p:Int) lb tk nmS (.slice va vn vc) cd (.slice ka kn kc) sz
 have hvn:vn=x.vals.length:=by
  obtain ⟨vs,h1,_⟩:=h.vals
  exact Z06 h1 rfl
 have hlen:=h.len
 obtain ⟨R,hR⟩:∃ R,dbF a.nm (p:Int) x.vals=R:=⟨_,rfl⟩
 rw [hR]
 have HR:=Z0a hR
 have HP:Hid (FillPre W m a base x (.slice va vn vc) p):=h.below hBW
 have HSS:Hid (∀ w',Below W.heap.size W w'→SS w' w.heap.size l0 (p:Int) lb tk nmS (.slice va vn vc) cd (.slice ka kn kc) sz):=fun w' hb=>hSS.grown (hb.block _ hSS.lt) hb.size
 have HB:=Z0a hBW
 have t5:=hSS.c5
 have hvi:(vn:Int)≤1000000:=by omega
 have HVN:=Z0a hvn
 clear h hBW hSS hR hvn hlen
 go_enter Tryz.func242,Tryz.ntmps242
 go_wp2_with fail
 go_loopw [5,12] (fun s5 i wr=>∃ (j:Nat) (zs:List Int) (ya:Option Addr) (yn yc:Nat),j≤vn∧i=.int .i64 j∧s5=.slice ya yn yc∧zs.length=j∧Z1A a.nm (p:Int) (-128) 255 (x.vals.take j)=some zs∧wr.ownsRow W.heap.size 5 1 (.slice ya yn yc) (zs.map IntKind.u8.wrap).length (Z0v (zs.map IntKind.u8.wrap))∧Below W.heap.size W wr) (fun _ i _=>vn-(intOf i).toNat)
 case atStart=>exact ⟨0,[],none,0,0,Nat.zero_le _,rfl,rfl,rfl,rfl,World.ownsRow_nil _ _ _ _,Below.refl _ _⟩
 case round =>
  obtain ⟨j,zs,ya,yn,yc,hj,rfl,rfl,hzl,hzs,hrow,hB⟩:=hrel
  have HROW:=Z0a hrow
  have HBW:=Z0a hB
  have HZS:=Z0a hzs
  have HZL:=Z0a hzl
  by_cases hlt:j<vn
  ·have hji:(j:Int)<(vn:Int):=by omega
   have hjl:j<x.vals.length:=by rw [←HVN.out];exact hlt
   obtain ⟨g,xa,xn,xc,hva,cg,HN⟩:=(HP.out.below hB).num j hjl
   subst hva
   have hs:=HSS.out wr hB
   have s0:=hs.c0
   have s1:=hs.c1
   have s2:=hs.c2
   have s3:=hs.c3
   have s4:=hs.c4
   have s5:=hs.c5
   have s6:=hs.c6
   have s7:=hs.c7
   have s8:=hs.c8
   have HN1:=Z0a (HN l0 lb tk nmS (some ⟨g,0,none⟩) vn vc cd ka kn kc sz (-128) 255)
   have hnx:=Z44 hjl hzs
   have hvl:vn≤1000000:=by omega
   clear hs HN hrow hB hzs hzl t5 HSS
   cases hO:nmbF a.nm (p:Int) x.vals[j] (-128) 255 with
   | none =>
    rw [hO] at HN1 hnx
    have eR:R=none:=by
     rw [←HR.out]
     unfold dbF
     rw [Z57 hnx]
     rfl
    subst eR
    have HN2:Hid (Calls Tryz.prog 239 #[.pointer (some ⟨m.ab,0,none⟩),.agg #[.int .i64 l0,.int .i64 (p:Int),.string lb,.int .i64 tk,.string nmS,.slice (some ⟨g,0,none⟩) vn vc,.int .u8 cd,.slice ka kn kc,.int .i64 sz],.slice xa xn xc,.int .i64 (-128),.int .i64 255] wr fun e w'=>e=.panicked (fltC 6 l0)∧Below wr.heap.size wr w'):=HN1.out
    clear HN1 hnx hO
    go_wp2_with (first | (go_at_call 239;refine HN2.out.mono ?_;rintro e w5 ⟨rfl,hb5⟩))
    have hb:=HB.out.trans (HBW.out.mono HB.out.size)
    exact ⟨rfl,hb.trans (hb5.mono hb.size),rfl⟩
   | some z =>
    rw [hO] at HN1 hnx
    have HNX:Hid (Z1A a.nm (p:Int) (-128) 255 (x.vals.take (j+1))=some (zs ++ [z])):=hnx
    have HZB:=Z0a (Z1q hO)
    have HN2:Hid (Calls Tryz.prog 239 #[.pointer (some ⟨m.ab,0,none⟩),.agg #[.int .i64 l0,.int .i64 (p:Int),.string lb,.int .i64 tk,.string nmS,.slice (some ⟨g,0,none⟩) vn vc,.int .u8 cd,.slice ka kn kc,.int .i64 sz],.slice xa xn xc,.int .i64 (-128),.int .i64 255] wr fun e w'=>e=.returned (.int .i64 z)∧Below wr.heap.size wr w'):=HN1.out
    obtain ⟨zb,hzb⟩:∃ zb,IntKind.u8.wrap z=zb:=⟨_,rfl⟩
    clear HN1 hnx hO
    go_wp2_with (first | (go_at_call 239;refine HN2.out.mono ?_;rintro e w5 ⟨rfl,hb5⟩;have HB5:=Z0a (HBW.out.trans (hb5.mono HBW.out.size));have HR5:=Z0a (Z0r HROW.out hb5);clear hb5) | (at_builtin;refine wpList_append_own_at _ rfl _ _ 32 rfl W.heap.size 5 i0 _ 1 1 Tryz.underlying32 hi hz0 hz1 hz2 rfl (by decide) _ _ _ rfl (HR5.out.alloc _) ⟨w5.heap.size,0,none⟩ 1 1 [.int .u8 zb] rfl rfl (cell_one_new _ _ _) (by intro u hu;simp at hu;subst hu;rfl) (by have:=HZL.out;rw [List.length_map];unfold maxLen;omega) (by have:=HZL.out;rw [List.length_map];omega) (by have:=HB5.out.size;simp;omega) ?_;intro v' wn hown hgr _ _;obtain ⟨a',n',c',ev⟩:=Z2i hown;subst ev))
    have hz5:=HB5.out.size
    have hBn:Below W.heap.size W wn:=(HB5.out.alloc HB5.out.size _).grown hgr (by simp;omega) (fun k hk=>(HR5.out.lt k hk).1)
    go_wp2_with fail
    go_roundw
    case rel =>
     refine ⟨j+1,zs ++ [z],a',n',c',by omega,by go_num,rfl,by simp [HZL.out],HNX.out,?_,hBn⟩
     have h9:=hown
     rw [show (zs ++ [z]).map IntKind.u8.wrap=zs.map IntKind.u8.wrap ++ [zb] by rw [←hzb];simp,show Z0v (zs.map IntKind.u8.wrap ++ [zb])=Z0v (zs.map IntKind.u8.wrap) ++ [.int .u8 zb] by simp [Z0v],List.length_append]
     exact h9
    case measure=>simp [intOf];omega
  ·have hji:¬ (j:Int)<(vn:Int):=by omega
   have hjv:j=x.vals.length:=by rw [←HVN.out];omega
   have eR:R=some (zs.map IntKind.u8.wrap):=by
    have h9:=HZS.out
    rw [hjv,List.take_length] at h9
    rw [←HR.out]
    unfold dbF
    rw [h9]
    rfl
   subst eR
   go_wp2
   go_ret
   exact ⟨HB.out.trans (HBW.out.mono HB.out.size),_,rfl,Z0O HROW.out (by omega)⟩
theorem Z75 (w:World)(m:AMem)(a:Asm)(base:Nat)(x:Stm)(va:Option Addr)(vn vc:Nat)(p:Nat)(l0:Int)(lb:ByteArray)(tk:Int)(nmS:ByteArray)(cd:Int)(ka:Option Addr)(kn kc:Nat)(sz:Int)(h:FillPre w m a base x (.slice va vn vc) p) :
  Calls Tryz.prog 243 #[.pointer (some ⟨m.ab,0,none⟩),.agg #[.int .i64 l0,.int .i64 (p:Int),.string lb,.int .i64 tk,.string nmS,.slice va vn vc,.int .u8 cd,.slice ka kn kc,.int .i64 sz]] w (DEnd w l0 (dwF a.nm (p:Int) x.vals)):=by
 obtain ⟨i0,hi,hz0,hz1,hz2⟩:=info_parts Tryz.infoU8
 obtain ⟨W,hW,hBW,hWz,hSS⟩:=Z1B w l0 (p:Int) lb tk nmS (.slice va vn vc) cd (.slice ka kn kc) sz
 have hvn:vn=x.vals.length:=by
  obtain ⟨vs,h1,_⟩:=h.vals
  exact Z06 h1 rfl
 have hlen:=h.len
 obtain ⟨R,hR⟩:∃ R,dwF a.nm (p:Int) x.vals=R:=⟨_,rfl⟩
 rw [hR]
 have HR:=Z0a hR
 have HP:Hid (FillPre W m a base x (.slice va vn vc) p):=h.below hBW
 have HSS:Hid (∀ w',Below W.heap.size W w'→SS w' w.heap.size l0 (p:Int) lb tk nmS (.slice va vn vc) cd (.slice ka kn kc) sz):=fun w' hb=>hSS.grown (hb.block _ hSS.lt) hb.size
 have HB:=Z0a hBW
 have t5:=hSS.c5
 have hvi:(vn:Int)≤1000000:=by omega
 have HVN:=Z0a hvn
 clear h hBW hSS hR hvn hlen
 go_enter Tryz.func243,Tryz.ntmps243
 go_wp2_with fail
 go_loopw [5,12] (fun s5 i wr=>∃ (j:Nat) (zs:List Int) (ya:Option Addr) (yn yc:Nat),j≤vn∧i=.int .i64 j∧s5=.slice ya yn yc∧zs.length=j∧Z1A a.nm (p:Int) (-32768) 65535 (x.vals.take j)=some zs∧wr.ownsRow W.heap.size 5 1 (.slice ya yn yc) (wdB zs).length (Z0v (wdB zs))∧Below W.heap.size W wr) (fun _ i _=>vn-(intOf i).toNat)
 case atStart=>exact ⟨0,[],none,0,0,Nat.zero_le _,rfl,rfl,rfl,rfl,World.ownsRow_nil _ _ _ _,Below.refl _ _⟩
 case round =>
  obtain ⟨j,zs,ya,yn,yc,hj,rfl,rfl,hzl,hzs,hrow,hB⟩:=hrel
  have HROW:=Z0a hrow
  have HBW:=Z0a hB
  have HZS:=Z0a hzs
  have HZL:=Z0a hzl
  by_cases hlt:j<vn
  ·have hji:(j:Int)<(vn:Int):=by omega
   have hjl:j<x.vals.length:=by rw [←HVN.out];exact hlt
   obtain ⟨g,xa,xn,xc,hva,cg,HN⟩:=(HP.out.below hB).num j hjl
   subst hva
   have hs:=HSS.out wr hB
   have s0:=hs.c0
   have s1:=hs.c1
   have s2:=hs.c2
   have s3:=hs.c3
   have s4:=hs.c4
   have s5:=hs.c5
   have s6:=hs.c6
   have s7:=hs.c7
   have s8:=hs.c8
   have HN1:=Z0a (HN l0 lb tk nmS (some ⟨g,0,none⟩) vn vc cd ka kn kc sz (-32768) 65535)
   have hnx:=Z44 hjl hzs
   have hvl:vn≤1000000:=by omega
   clear hs HN hrow hB hzs hzl t5 HSS
   cases hO:nmbF a.nm (p:Int) x.vals[j] (-32768) 65535 with
   | none =>
    rw [hO] at HN1 hnx
    have eR:R=none:=by
     rw [←HR.out]
     unfold dwF
     rw [Z57 hnx]
     rfl
    subst eR
    have HN2:Hid (Calls Tryz.prog 239 #[.pointer (some ⟨m.ab,0,none⟩),.agg #[.int .i64 l0,.int .i64 (p:Int),.string lb,.int .i64 tk,.string nmS,.slice (some ⟨g,0,none⟩) vn vc,.int .u8 cd,.slice ka kn kc,.int .i64 sz],.slice xa xn xc,.int .i64 (-32768),.int .i64 65535] wr fun e w'=>e=.panicked (fltC 6 l0)∧Below wr.heap.size wr w'):=HN1.out
    clear HN1 hnx hO
    go_wp2_with (first | (go_at_call 239;refine HN2.out.mono ?_;rintro e w5 ⟨rfl,hb5⟩))
    have hb:=HB.out.trans (HBW.out.mono HB.out.size)
    exact ⟨rfl,hb.trans (hb5.mono hb.size),rfl⟩
   | some z =>
    rw [hO] at HN1 hnx
    have HNX:Hid (Z1A a.nm (p:Int) (-32768) 65535 (x.vals.take (j+1))=some (zs ++ [z])):=hnx
    have HZB:=Z0a (Z1q hO)
    have HN2:Hid (Calls Tryz.prog 239 #[.pointer (some ⟨m.ab,0,none⟩),.agg #[.int .i64 l0,.int .i64 (p:Int),.string lb,.int .i64 tk,.string nmS,.slice (some ⟨g,0,none⟩) vn vc,.int .u8 cd,.slice ka kn kc,.int .i64 sz],.slice xa xn xc,.int .i64 (-32768),.int .i64 65535] wr fun e w'=>e=.returned (.int .i64 z)∧Below wr.heap.size wr w'):=HN1.out
    obtain ⟨zh,hzh⟩:∃ zh,IntKind.u8.wrap (z/256)=zh:=⟨_,rfl⟩
    obtain ⟨zb,hzb⟩:∃ zb,IntKind.u8.wrap z=zb:=⟨_,rfl⟩
    clear HN1 hnx hO
    go_wp2_with (first | (go_at_call 239;refine HN2.out.mono ?_;rintro e w5 ⟨rfl,hb5⟩;have HB5:=Z0a (HBW.out.trans (hb5.mono HBW.out.size));have HR5:=Z0a (Z0r HROW.out hb5);clear hb5) | (at_builtin;refine wpList_append_own_at _ rfl _ _ 32 rfl W.heap.size 5 i0 _ 1 1 Tryz.underlying32 hi hz0 hz1 hz2 rfl (by decide) _ _ _ rfl (HR5.out.alloc _) ⟨w5.heap.size,0,none⟩ 2 2 [.int .u8 zh,.int .u8 zb] rfl rfl (Z09 _ [.int .u8 zh,.int .u8 zb] _) (by intro u hu;simp at hu;rcases hu with rfl | rfl <;> rfl) (by have:=HZL.out;rw [wdB_len];unfold maxLen;omega) (by have:=HZL.out;rw [wdB_len];omega) (by have:=HB5.out.size;simp;omega) ?_;intro v' wn hown hgr _ _;obtain ⟨a',n',c',ev⟩:=Z2i hown;subst ev))
    have hz5:=HB5.out.size
    have hBn:Below W.heap.size W wn:=(HB5.out.alloc HB5.out.size _).grown hgr (by simp;omega) (fun k hk=>(HR5.out.lt k hk).1)
    go_wp2_with fail
    go_roundw
    case rel =>
     refine ⟨j+1,zs ++ [z],a',n',c',by omega,by go_num,rfl,by simp [HZL.out],HNX.out,?_,hBn⟩
     have h9:=hown
     rw [show wdB (zs ++ [z])=wdB zs ++ [zh,zb] by rw [←hzb,← hzh];simp [wdB],show Z0v (wdB zs ++ [zh,zb])=Z0v (wdB zs) ++ [.int .u8 zh,.int .u8 zb] by simp [Z0v],List.length_append]
     exact h9
    case measure=>simp [intOf];omega
  ·have hji:¬ (j:Int)<(vn:Int):=by omega
   have hjv:j=x.vals.length:=by rw [←HVN.out];omega
   have eR:R=some (wdB zs):=by
    have h9:=HZS.out
    rw [hjv,List.take_length] at h9
    rw [←HR.out]
    unfold dwF
    rw [h9]
    rfl
   subst eR
   go_wp2
   go_ret
   exact ⟨HB.out.trans (HBW.out.mono HB.out.size),_,rfl,Z0O HROW.out (by omega)⟩
theorem Tryz.infoIntB:(Tryz.prog.info? 3).map (fun i=>(i.zero,i.size,i.bytes))=some (some (.int .i64 0),1,8):=by kernel_rfl
def insB (d:InsD) (zs:List Int) (p:Int):Option (List Int):=if (Z38 d zs p).wrong=true then none else some ((Z38 d zs p).code :: (Z38 d zs p).add)
def bytS (nm:List UInt8→Option Int) (p:Nat) (x:Stm):Option (List Int) :=
 if x.task=2 then dbF nm (p:Int) x.vals else if x.task=3 then dwF nm (p:Int) x.vals else (Z1A nm (p:Int) (-1000000) 1000000 x.vals).bind fun zs=>insB x.ins zs (p:Int)
structure InsPre (w:World) (x:Stm) (kd:Value):Prop where
 ins:InsF x.ins x.vals.length
 kinds:RowK w kd x.ins.kinds
theorem Z7Q (w:World)(m:AMem)(a:Asm)(base:Nat)(x:Stm)(va:Option Addr)(vn vc:Nat)(p:Nat)(l0:Int)(lb:ByteArray)(nmS:ByteArray)(cd:Int)(ka:Option Addr)(kn kc:Nat)(sz:Int)(h:FillPre w m a base x (.slice va vn vc) p)(ht:x.task=2∨x.task=3) :
  Calls Tryz.prog 190 #[.pointer (some ⟨m.ab,0,none⟩),.agg #[.int .i64 l0,.int .i64 (p:Int),.string lb,.int .i64 (x.task:Int),.string nmS,.slice va vn vc,.int .u8 cd,.slice ka kn kc,.int .i64 sz]] w (DEnd w l0 (bytS a.nm p x)):=by
 obtain ⟨R,hR⟩:∃ R,bytS a.nm p x=R:=⟨_,rfl⟩
 rw [hR]
 unfold bytS at hR
 rcases ht with ht | ht
 ·rw [if_pos ht] at hR
  have hti:(x.task:Int)=2:=by omega
  rw [hti]
  obtain ⟨W,hW,hBW,hWz,hSS⟩:=Z1B w l0 (p:Int) lb 2 nmS (.slice va vn vc) cd (.slice ka kn kc) sz
  have HD:=Z0a (Z8h W m a base x va vn vc p l0 lb 2 nmS cd ka kn kc sz (h.below hBW))
  rw [hR] at HD
  have HB:=Z0a hBW
  obtain ⟨s0,s1,s2,s3,s4,s5,s6,s7,s8,sf,sl⟩:=hSS
  clear h hR hti ht sf hBW
  go_enter Tryz.func190,Tryz.ntmps190
  cases R with
  | none =>
   have HD2:Hid (Calls Tryz.prog 242 #[.pointer (some ⟨m.ab,0,none⟩),.agg #[.int .i64 l0,.int .i64 (p:Int),.string lb,.int .i64 2,.string nmS,.slice va vn vc,.int .u8 cd,.slice ka kn kc,.int .i64 sz]] W fun e w'=>e=.panicked (fltC 6 l0)∧Below W.heap.size W w'):=HD.out.mono fun e w' hh=>⟨hh.2,hh.1⟩
   clear HD
   go_wp2_with (first | (go_at_call 242;refine HD2.out.mono ?_;rintro e w5 ⟨rfl,hb5⟩))
   exact ⟨rfl,HB.out.trans (hb5.mono HB.out.size),rfl⟩
  | some bs =>
   have HD2:Hid (Calls Tryz.prog 242 #[.pointer (some ⟨m.ab,0,none⟩),.agg #[.int .i64 l0,.int .i64 (p:Int),.string lb,.int .i64 2,.string nmS,.slice va vn vc,.int .u8 cd,.slice ka kn kc,.int .i64 sz]] W fun e w'=>∃ v,e=.returned v∧w'.ownsRow W.heap.size 5 1 v bs.length (Z0v bs)∧Below W.heap.size W w'):=HD.out.mono fun e w' hh=>by
    obtain ⟨h1,v,h2,h3⟩:=hh
    exact ⟨v,h2,h3,h1⟩
   clear HD
   go_wp2_with (first | (go_at_call 242;refine HD2.out.mono ?_;rintro e w5 ⟨v,rfl,hr5,hb5⟩))
   go_ret
   exact ⟨HB.out.trans (hb5.mono HB.out.size),_,rfl,Z0O hr5 (by omega)⟩
 ·rw [if_neg (by omega),if_pos ht] at hR
  have hti:(x.task:Int)=3:=by omega
  rw [hti]
  obtain ⟨W,hW,hBW,hWz,hSS⟩:=Z1B w l0 (p:Int) lb 3 nmS (.slice va vn vc) cd (.slice ka kn kc) sz
  have HD:=Z0a (Z75 W m a base x va vn vc p l0 lb 3 nmS cd ka kn kc sz (h.below hBW))
  rw [hR] at HD
  have HB:=Z0a hBW
  obtain ⟨s0,s1,s2,s3,s4,s5,s6,s7,s8,sf,sl⟩:=hSS
  clear h hR hti ht sf hBW
  go_enter Tryz.func190,Tryz.ntmps190
  cases R with
  | none =>
   have HD2:Hid (Calls Tryz.prog 243 #[.pointer (some ⟨m.ab,0,none⟩),.agg #[.int .i64 l0,.int .i64 (p:Int),.string lb,.int .i64 3,.string nmS,.slice va vn vc,.int .u8 cd,.slice ka kn kc,.int .i64 sz]] W fun e w'=>e=.panicked (fltC 6 l0)∧Below W.heap.size W w'):=HD.out.mono fun e w' hh=>⟨hh.2,hh.1⟩
   clear HD
   go_wp2_with (first | (go_at_call 243;refine HD2.out.mono ?_;rintro e w5 ⟨rfl,hb5⟩))
   exact ⟨rfl,HB.out.trans (hb5.mono HB.out.size),rfl⟩
  | some bs =>
   have HD2:Hid (Calls Tryz.prog 243 #[.pointer (some ⟨m.ab,0,none⟩),.agg #[.int .i64 l0,.int .i64 (p:Int),.string lb,.int .i64 3,.string nmS,.slice va vn vc,.int .u8 cd,.slice ka kn kc,.int .i64 sz]] W fun e w'=>∃ v,e=.returned v∧w'.ownsRow W.heap.size 5 1 v bs.length (Z0v bs)∧Below W.heap.size W w'):=HD.out.mono fun e w' hh=>by
    obtain ⟨h1,v,h2,h3⟩:=hh
    exact ⟨v,h2,h3,h1⟩
   clear HD
   go_wp2_with (first | (go_at_call 243;refine HD2.out.mono ?_;rintro e w5 ⟨v,rfl,hr5,hb5⟩))
   go_ret
   exact ⟨HB.out.trans (hb5.mono HB.out.size),_,rfl,Z0O hr5 (by omega)⟩
theorem bytes_ins (w:World)(m:AMem)(a:Asm)(base:Nat)(x:Stm)(va:Option Addr)(vn vc:Nat)(p:Nat)(l0:Int)(lb:ByteArray)(nmS:ByteArray)(ka:Option Addr)(kn kc:Nat)(h:FillPre w m a base x (.slice va vn vc) p)(hI:InsPre w x (.slice ka kn kc))(ht:x.task=6) :
  Calls Tryz.prog 190 #[.pointer (some ⟨m.ab,0,none⟩),.agg #[.int .i64 l0,.int .i64 (p:Int),.string lb,.int .i64 (x.task:Int),.string nmS,.slice va vn vc,.int .u8 (x.ins.code:Int),.slice ka kn kc,.int .i64 (x.ins.size:Int)]] w (DEnd w l0 (bytS a.nm p x)):=by
 obtain ⟨i0,hi,hz0,hz1,hz2⟩:=info_parts Tryz.infoIntB
 obtain ⟨R,hR⟩:∃ R,bytS a.nm p x=R:=⟨_,rfl⟩
 rw [hR]
 unfold bytS at hR
 rw [if_neg (by omega),if_neg (by omega)] at hR
 have hti:(x.task:Int)=6:=by omega
 rw [hti]
 obtain ⟨W,hW,hBW,hWz,hSS⟩:=Z1B w l0 (p:Int) lb 6 nmS (.slice va vn vc) (x.ins.code:Int) (.slice ka kn kc) (x.ins.size:Int)
 have hvn:vn=x.vals.length:=by
  obtain ⟨vs,h1,_⟩:=h.vals
  exact Z06 h1 rfl
 have hlen:=h.len
 have HR:=Z0a hR
 have HP:Hid (FillPre W m a base x (.slice va vn vc) p):=h.below hBW
 have HI:Hid (InsPre W x (.slice ka kn kc)):=⟨hI.ins,hI.kinds.below hBW⟩
 have HSS:Hid (∀ w',Below W.heap.size W w'→SS w' w.heap.size l0 (p:Int) lb 6 nmS (.slice va vn vc) (x.ins.code:Int) (.slice ka kn kc) (x.ins.size:Int)):=fun w' hb=>hSS.grown (hb.block _ hSS.lt) hb.size
 have HB:=Z0a hBW
 have t3:=hSS.c3
 have t5:=hSS.c5
 have hvi:(vn:Int)≤1000000:=by omega
 have HVN:=Z0a hvn
 clear h hI hBW hSS hR hvn hlen hti ht
 go_enter Tryz.func190,Tryz.ntmps190
 go_wp2_with fail
 go_loopw [5,25] (fun s5 i wr=>∃ (j:Nat) (zs:List Int) (ya:Option Addr) (yn yc:Nat),j≤vn∧i=.int .i64 j∧s5=.slice ya yn yc∧zs.length=j∧Z1A a.nm (p:Int) (-1000000) 1000000 (x.vals.take j)=some zs∧wr.ownsRow W.heap.size 3 1 (.slice ya yn yc) zs.length (intCells zs)∧Below W.heap.size W wr) (fun _ i _=>vn-(intOf i).toNat)
 case atStart=>exact ⟨0,[],none,0,0,Nat.zero_le _,rfl,rfl,rfl,rfl,World.ownsRow_nil _ _ _ _,Below.refl _ _⟩
 case round =>
  obtain ⟨j,zs,ya,yn,yc,hj,rfl,rfl,hzl,hzs,hrow,hB⟩:=hrel
  have HROW:=Z0a hrow
  have HBW:=Z0a hB
  have HZS:=Z0a hzs
  have HZL:=Z0a hzl
  have hs:=HSS.out wr hB
  have s0:=hs.c0
  have s1:=hs.c1
  have s2:=hs.c2
  have s3:=hs.c3
  have s4:=hs.c4
  have s5:=hs.c5
  have s6:=hs.c6
  have s7:=hs.c7
  have s8:=hs.c8
  by_cases hlt:j<vn
  ·have hji:(j:Int)<(vn:Int):=by omega
   have hjl:j<x.vals.length:=by rw [←HVN.out];exact hlt
   obtain ⟨g,xa,xn,xc,hva,cg,HN⟩:=(HP.out.below hB).num j hjl
   subst hva
   have HN1:=Z0a (HN l0 lb 6 nmS (some ⟨g,0,none⟩) vn vc (x.ins.code:Int) ka kn kc (x.ins.size:Int) (-1000000) 1000000)
   have hnx:=Z44 hjl hzs
   have hvl:vn≤1000000:=by omega
   clear hs HN hrow hB hzs hzl t5 t3 HSS
   cases hO:nmbF a.nm (p:Int) x.vals[j] (-1000000) 1000000 with
   | none =>
    rw [hO] at HN1 hnx
    have eR:R=none:=by
     rw [←HR.out,Z57 hnx]
     rfl
    subst eR
    have HN2:Hid (Calls Tryz.prog 239 #[.pointer (some ⟨m.ab,0,none⟩),.agg #[.int .i64 l0,.int .i64 (p:Int),.string lb,.int .i64 6,.string nmS,.slice (some ⟨g,0,none⟩) vn vc,.int .u8 (x.ins.code:Int),.slice ka kn kc,.int .i64 (x.ins.size:Int)],.slice xa xn xc,.int .i64 (-1000000),.int .i64 1000000] wr fun e w'=>e=.panicked (fltC 6 l0)∧Below wr.heap.size wr w'):=HN1.out
    clear HN1 hnx hO
    go_wp2_with (first | (go_at_call 239;refine HN2.out.mono ?_;rintro e w5 ⟨rfl,hb5⟩))
    have hb:=HB.out.trans (HBW.out.mono HB.out.size)
    exact ⟨rfl,hb.trans (hb5.mono hb.size),rfl⟩
   | some z =>
    rw [hO] at HN1 hnx
    have HNX:Hid (Z1A a.nm (p:Int) (-1000000) 1000000 (x.vals.take (j+1))=some (zs ++ [z])):=hnx
    have HN2:Hid (Calls Tryz.prog 239 #[.pointer (some ⟨m.ab,0,none⟩),.agg #[.int .i64 l0,.int .i64 (p:Int),.string lb,.int .i64 6,.string nmS,.slice (some ⟨g,0,none⟩) vn vc,.int .u8 (x.ins.code:Int),.slice ka kn kc,.int .i64 (x.ins.size:Int)],.slice xa xn xc,.int .i64 (-1000000),.int .i64 1000000] wr fun e w'=>e=.returned (.int .i64 z)∧Below wr.heap.size wr w'):=HN1.out
    clear HN1 hnx hO
    go_wp2_with (first | (go_at_call 239;refine HN2.out.mono ?_;rintro e w5 ⟨rfl,hb5⟩;have HB5:=Z0a (HBW.out.trans (hb5.mono HBW.out.size));have HR5:=Z0a (Z0r HROW.out hb5);clear hb5) | (at_builtin;refine wpList_append_own_at _ rfl _ _ 22 rfl W.heap.size 3 i0 _ 1 8 Tryz.underlying22 hi hz0 hz1 hz2 rfl (by decide) _ _ _ rfl (HR5.out.alloc _) ⟨w5.heap.size,0,none⟩ 1 1 [.int .i64 z] rfl rfl (cell_one_new _ _ _) (by intro u hu;simp at hu;subst hu;rfl) (by have:=HZL.out;unfold maxLen;omega) (by have:=HZL.out;omega) (by have:=HB5.out.size;simp;omega) ?_;intro v' wn hown hgr _ _;obtain ⟨a',n',c',ev⟩:=Z2i hown;subst ev))
    have hz5:=HB5.out.size
    have hBn:Below W.heap.size W wn:=(HB5.out.alloc HB5.out.size _).grown hgr (by simp;omega) (fun k hk=>(HR5.out.lt k hk).1)
    go_wp2_with fail
    go_roundw
    case rel =>
     refine ⟨j+1,zs ++ [z],a',n',c',by omega,by go_num,rfl,by simp [HZL.out],HNX.out,?_,hBn⟩
     have h9:=hown
     rw [List.length_append,show intCells (zs ++ [z])=intCells zs ++ [.int .i64 z] by simp [intCells]]
     exact h9
    case measure=>simp [intOf];omega
  ·have hji:¬ (j:Int)<(vn:Int):=by omega
   have hjv:j=x.vals.length:=by rw [←HVN.out];omega
   have hzs2:Z1A a.nm (p:Int) (-1000000) 1000000 x.vals=some zs:=by
    have h9:=HZS.out
    rw [hjv,List.take_length] at h9
    exact h9
   have hzn:=Z3O hzs2
   have eR:R=insB x.ins zs (p:Int):=by
    rw [←HR.out,hzs2]
    rfl
   have hd:InsF x.ins zs.length:=hzn ▸ HI.out.ins
   have HBY:=Z0a (insBytes_any wr x.ins ka kn kc ya yn yc zs (p:Int) hd (HI.out.kinds.below hB) (Z0O hrow (Nat.zero_le _)))
   obtain ⟨r,hr⟩:∃ r,Z38 x.ins zs (p:Int)=r:=⟨_,rfl⟩
   unfold insB at eR
   rw [hr] at HBY eR
   clear hs hrow hB hzs hzl hzs2 hzn hd t5 t3 HSS hr HP HI HROW HZS HZL HVN hjv
   cases hw:r.wrong with
   | true =>
    rw [hw,if_pos rfl] at eR
    subst eR
    have HB2:Hid (Calls Tryz.prog 244 #[.agg #[.int .u8 (x.ins.code:Int),.slice ka kn kc,.int .i64 (x.ins.size:Int)],.slice ya yn yc,.int .i64 (p:Int)] wr fun e w'=>∃ (a':Option Addr) (n' c':Nat),e=.returned (.tuple #[.slice a' n' c',.bool false])∧Below wr.heap.size wr w'):=HBY.out.mono fun e w' ⟨v,h1,h2,h3⟩=>by
     obtain ⟨a',n',c',rfl⟩:=Z2i h2
     rw [hw] at h1
     exact ⟨a',n',c',h1,h3⟩
    clear HBY hw
    go_wp2_with (first | (go_at_call 244;refine HB2.out.mono ?_;rintro e w5 ⟨a',n',c',rfl,hb5⟩;have e0:=(World.cell?_of_block (a:=⟨w.heap.size,0,none⟩) (hb5.block _ (World.block_lt_of_cell? _ _ s0))).trans s0))
    have hb:=HB.out.trans (HBW.out.mono HB.out.size)
    exact ⟨rfl,hb.trans (hb5.mono hb.size),rfl⟩
   | false =>
    rw [hw,if_neg (by simp)] at eR
    subst eR
    have HB2:Hid (Calls Tryz.prog 244 #[.agg #[.int .u8 (x.ins.code:Int),.slice ka kn kc,.int .i64 (x.ins.size:Int)],.slice ya yn yc,.int .i64 (p:Int)] wr fun e w'=>∃ (a':Option Addr) (n' c':Nat),e=.returned (.tuple #[.slice a' n' c',.bool true])∧w'.ownsRow wr.heap.size 5 1 (.slice a' n' c') (r.add.length+1) (Z0v (r.code :: r.add))∧Below wr.heap.size wr w'):=HBY.out.mono fun e w' ⟨v,h1,h2,h3⟩=>by
     obtain ⟨a',n',c',rfl⟩:=Z2i h2
     rw [hw] at h1
     exact ⟨a',n',c',h1,h2,h3⟩
    clear HBY hw
    go_wp2_with (first | (go_at_call 244;refine HB2.out.mono ?_;rintro e w5 ⟨a',n',c',rfl,hr5,hb5⟩;have HR5:=Z0a (And.intro hr5 hb5);clear hr5 hb5))
    go_ret
    have hb:=HB.out.trans (HBW.out.mono HB.out.size)
    exact ⟨hb.trans (HR5.out.2.mono hb.size),_,rfl,Z0O HR5.out.1 hb.size⟩
def U8s (bs:List Int):Prop:=∀ z∈bs,0≤z∧z≤255
theorem Z8g (z:Int):0≤IntKind.u8.wrap z∧IntKind.u8.wrap z≤255:=bounds_u8 (wf_wrap _ _)
def lenK (k:Nat):Nat:=if k≤8 then 0 else if k=10∨k=14 then 2 else 1
theorem layK_add (bh:Int)(k:Nat)(n:Int)(s:LayD)(hk:k<17):(layK bh k n s).add.length=s.add.length+lenK k:=by
 unfold layK lenK
 by_cases k1:k≤6
 ·rw [if_pos k1,if_pos (by omega)]
  rfl
 ·rw [if_neg k1]
  by_cases k2:k≤8
  ·rw [if_pos k2,if_pos k2]
   rfl
  ·rw [if_neg k2,if_neg k2]
   by_cases k3:k=9
   ·rw [if_pos k3,if_neg (by omega)]
    simp
   ·rw [if_neg k3]
    by_cases k4:k=10
    ·rw [if_pos k4,if_pos (by omega)]
     simp
    ·rw [if_neg k4]
     by_cases k5:k≤13
     ·rw [if_pos k5,if_neg (by omega)]
      simp
     ·rw [if_neg k5]
      by_cases k6:k=14
      ·rw [if_pos k6,if_pos (by omega)]
       simp
      ·rw [if_neg k6]
       by_cases k7:k=15
       ·rw [if_pos k7,if_neg (by omega)]
        simp
       ·rw [if_neg k7,if_neg (by omega)]
        simp
structure LayU (s:LayD):Prop where
 code:0≤s.code∧s.code≤255
 add:U8s s.add
theorem U8s.snoc {l:List Int}(h:U8s l)(z:Int):U8s (l ++ [IntKind.u8.wrap z]):=fun y hy=>by
 rcases List.mem_append.1 hy with h1 | h1
 ·exact h y h1
 ·rw [List.mem_singleton.1 h1]
  exact Z8g z
theorem or_u8 (x y:Int):0≤bits BinOp.or IntKind.u8 x y∧bits BinOp.or IntKind.u8 x y≤255:=bounds_u8 (wf_bits _ _ _ _)
theorem pageC_u8 (x y:Int):0≤pageC x y∧pageC x y≤255:=or_u8 _ _
theorem layK_u8 (bh:Int)(k:Nat)(n:Int)(s:LayD)(h:LayU s):LayU (layK bh k n s):=by
 unfold layK
 split
 ·exact h
 ·split
  ·exact ⟨or_u8 _ _,h.add⟩
  ·split
   ·exact ⟨h.code,h.add.snoc _⟩
   ·split
    ·exact ⟨h.code,(h.add.snoc _).snoc _⟩
    ·split
     ·exact ⟨h.code,h.add.snoc _⟩
     ·split
      ·exact ⟨h.code,(h.add.snoc _).snoc _⟩
      ·split
       ·exact ⟨h.code,h.add.snoc _⟩
       ·exact ⟨pageC_u8 _ _,h.add.snoc _⟩
theorem layTo_u8 (bh:Int)(ks:List Nat)(ns:List Int)(s:LayD)(h:LayU s):∀ j,LayU (Z3j bh ks ns s j)
 | 0=>h
 | j+1=>layK_u8 _ _ _ _ (layTo_u8 bh ks ns s h j)
theorem layTo_add (bh:Int)(ks:List Nat)(ns:List Int)(s:LayD)(hk:∀ k∈ks,k<17):∀ j,j≤ks.length→(Z3j bh ks ns s j).add.length=s.add.length+((ks.take j).map lenK).sum
 | 0,_=>by simp [Z3j]
 | j+1,hj=>by
  have hj2:j<ks.length:=hj
  have ih:=layTo_add bh ks ns s hk j (by omega)
  have hg:ks.getD j 0=ks[j]:=by
   rw [List.getD_eq_getElem?_getD,List.getElem?_eq_getElem hj2]
   rfl
  unfold Z3j
  rw [hg,layK_add _ _ _ _ (hk _ (List.getElem_mem hj2)),ih,List.take_add_one,List.getElem?_eq_getElem hj2,Option.toList_some,List.map_append,List.sum_append]
  simp only [List.map_cons,List.map_nil,List.sum_cons,List.sum_nil]
  omega
theorem bytesI_len {d:InsD}{zs:List Int}{p:Int}(h:InsF d zs.length):(Z38 d zs p).add.length+1=d.size:=by
 unfold Z38
 rw [layTo_add _ _ _ _ h.kinds _ (Nat.le_refl _),List.take_length,h.size]
 unfold Z6X
 have:(fun k=>if k≤8 then 0 else if k=10∨k=14 then 2 else 1)=lenK:=rfl
 rw [this]
 simp
 omega
theorem bytS_len {nm:List UInt8→Option Int}{p:Nat}{x:Stm}{bs:List Int}(h:bytS nm p x=some bs)(ht:x.task=2∨x.task=3∨x.task=6)(hI:x.task=6→InsF x.ins x.vals.length):bs.length=Z1S x.task x.vals.length x.ins.size∧U8s bs:=by
 unfold bytS at h
 unfold Z1S
 rcases ht with ht | ht | ht
 ·rw [if_pos ht] at h
  obtain ⟨zs,h1,rfl⟩:=Option.map_eq_some_iff.1 h
  rw [if_pos ht,List.length_map]
  refine ⟨Z3O h1,fun z hz=>?_⟩
  obtain ⟨y,_,rfl⟩:=List.mem_map.1 hz
  exact Z8g y
 ·rw [if_neg (by omega),if_pos ht] at h
  obtain ⟨zs,h1,rfl⟩:=Option.map_eq_some_iff.1 h
  rw [if_neg (by omega),if_pos ht,wdB_len,Z3O h1]
  refine ⟨rfl,fun z hz=>?_⟩
  unfold wdB at hz
  obtain ⟨y,_,h2⟩:=List.mem_flatMap.1 hz
  simp at h2
  rcases h2 with rfl | rfl
  ·exact Z8g _
  ·exact Z8g _
 ·rw [if_neg (by omega),if_neg (by omega)] at h
  obtain ⟨zs,h1,h2⟩:=Option.bind_eq_some_iff.1 h
  unfold insB at h2
  split at h2
  ·cases h2
  ·cases h2
   have hd:InsF x.ins zs.length:=(Z3O h1) ▸ hI ht
   rw [if_neg (by omega),if_neg (by omega),if_pos ht,List.length_cons,bytesI_len hd]
   have hu:LayU (Z38 x.ins zs (p:Int)):=layTo_u8 _ _ _ _ ⟨⟨by show (0:Int)≤(x.ins.code:Int);omega,by have:=hd.code;show (x.ins.code:Int)≤255;omega⟩,fun z hz=>by cases hz⟩ _
   refine ⟨rfl,fun z hz=>?_⟩
   rcases List.mem_cons.1 hz with rfl | hz
   ·exact hu.code
   ·exact hu.add z hz
def toB (z:Int):UInt8:=UInt8.ofNat z.toNat
theorem toB_nat {z:Int}(h:0≤z∧z≤255):((toB z).toNat:Int)=z:=by
 unfold toB
 rw [UInt8.toNat_ofNat']
 omega
def putAt (l:List UInt8) (p:Nat) (bs:List Int):List UInt8:=splice l p (bs.map toB)
theorem putAt_cells (l:List UInt8)(p:Nat)(bs:List Int)(hb:U8s bs):(putAt l p bs).map (fun x=>Value.int .u8 (x.toNat:Int))=splice (l.map fun x=>Value.int .u8 (x.toNat:Int)) p (Z0v bs):=by
 have e:(bs.map toB).map (fun x=>Value.int .u8 (x.toNat:Int))=Z0v bs:=by
  unfold Z0v
  rw [List.map_map]
  refine List.map_congr_left fun z hz=>?_
  show Value.int .u8 ((toB z).toNat:Int)=_
  rw [toB_nat (hb z hz)]
 unfold putAt splice
 rw [List.map_append,List.map_append,e,List.map_take,List.map_drop,List.length_map]
 have:(Z0v bs).length=bs.length:=by simp [Z0v]
 rw [this]
structure OnlyB (w w':World) (g:Nat):Prop where
 os:w'.os=w.os
 tape:w'.tape=w.tape
 output:w'.output=w.output
 size:w'.heap.size=w.heap.size
 block:∀ k,k≠g→w'.heap[k]?=w.heap[k]?
theorem infoU8s:(Tryz.prog.info? 5).map (·.size)=some 1:=by kernel_rfl
theorem copy_run (w:World)(ty:TypeId)(ik p c:Nat)(l:List UInt8)(b2:Nat)(ya:Option Addr)(yn yc:Nat)(bs:List Int)(hl:YRow w ik l)(hr:w.ownsRow b2 5 1 (.slice ya yn yc) bs.length (Z0v bs))(hb:U8s bs)(hp:p+bs.length≤1024)(h1:0<bs.length):∃ v w',(Builtin.copy_ #[32,32] ty #[.slice (some ⟨ik,p,none⟩) (1024-p) c,.slice ya yn yc]).run Tryz.prog w=.ok v w'∧YRow w' ik (putAt l p bs)∧OnlyB w w' ik:=by
 have hyn:yn=bs.length:=Z06 hr rfl
 obtain ⟨g,hg,_⟩:=Z17 (j:=0) (u:=.int .u8 bs[0]) hr h1 (by unfold Z0v;rw [List.getElem?_map,List.getElem?_eq_getElem h1];rfl)
 subst hg
 have hlen:=hl.len
 have hrun:=run_copy_row (P:=Tryz.prog) w 32 32 ty 5 ik p (1024-p) c ⟨g,0,none⟩ yn yc (l.map fun x=>Value.int .u8 (x.toNat:Int)).toArray 5 (Z0v bs) Tryz.underlying32 infoU8s hl.at_ (by rw [show (Z0v bs).length=bs.length by simp [Z0v],hyn];exact (Nat.min_eq_left (by omega)).symm) (hr.cells rfl) (by simp [Z0v];omega) (u8_one bs)
 refine ⟨_,_,hrun,⟨?_,?_⟩,⟨rfl,rfl,rfl,by simp [World.setRow],fun k hk=>setRow_other w ik k _ hk⟩⟩
 ·rw [setRow_heap w ik _ _ _ _ hl.at_,putAt_cells l p bs hb]
  simp [splice,Z0v]
 ·unfold putAt
  rw [length_splice _ _ _ (by simp;omega)]
  exact hlen
end Go.Proofs.YthokdbcpkmcieabGreatDoor
