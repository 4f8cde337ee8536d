/- Bok1 Bok2 Bok3 -/
import Derived.Test.YthokdbcpkmcieaaGreatDoorS05
import Derived.Test.YthokdbcpkmcieaaGreatDoorS04
import Derived.Test.YthokdbcpkmcieaaGreatDoorS03
import Derived.Maps.RangeWalk
import Derived.Sort.MapsRangeIn
set_option maxRecDepth 200000
set_option maxHeartbeats 8000000
namespace Go.Proofs.YthokdbcpkmcieaaGreatDoor
open Go Go.RowKit Go.Maps Go.WideMaps
def numF (f:List UInt8→Option Value) (nm:List UInt8) (k:Nat):Nat→(List UInt8→Option Value)
 | 0=>f
 | i+1=>putF (numF f nm k i) (nm++Lib.decDigits i) (fixV (k,i))
theorem Z2K (n:Nat)(o:Option Value):putN n o≤n+1:=by
 cases o
 ·exact Nat.le_refl _
 ·exact Nat.le_succ _
theorem grown_twoB {w w1 w2:World}{r:Option Nat}(h:w.grownBy w1 r)(g:w1.grownBy w2 r):w.grownBy w2 r :=
 ⟨g.os.trans h.os,g.tape.trans h.tape,g.output.trans h.output,Nat.le_trans h.size g.size,fun k hk hne=>(g.block k (Nat.lt_of_lt_of_le hk h.size) hne).trans (h.block k hk hne)⟩
theorem Z3q (fb n:Nat)(f:List UInt8→Option Value)(nm:ByteArray)(k cnt:Nat)(w:World)(hM:MapAt Tryz.prog 9 w fb n f)(hn:n≤1000)(hnm:nm.size≤1000)(hc:cnt≤10) :
  Calls Tryz.prog 242 #[.map (some fb),.string nm,.int .i64 (k:Int),.int .i64 (cnt:Int)] w fun e w'=>e=.returned (.tuple #[])∧(∃ n',n'≤n+cnt∧MapAt Tryz.prog 9 w' fb n' (numF f nm.data.toList k cnt))∧w.grownBy w' (some fb):=by
 have HM0:=Z0a hM
 clear hM
 go_enter Tryz.func242,Tryz.ntmps242
 go_wp2_with fail
 go_loopw [10] (fun i wr=>∃ j:Nat,j≤cnt∧i=.int .i64 j∧(∃ n',n'≤n+j∧MapAt Tryz.prog 9 wr fb n' (numF f nm.data.toList k j))∧w.grownBy wr (some fb)) (fun i _=>cnt-(intOf i).toNat)
 case atStart=>exact ⟨0,Nat.zero_le _,rfl,⟨n,Nat.le_refl _,HM0.out⟩,⟨rfl,rfl,rfl,Nat.le_refl _,fun _ _ _=>rfl⟩⟩
 case round =>
  obtain ⟨j,hj,rfl,⟨n',hn',hM'⟩,hg'⟩:=hrel
  have HM:=Z0a hM'
  have HG:=Z0a hg'
  clear hM' hg' HM0
  by_cases hlt:j<cnt
  ·have hji:(j:Int)<(cnt:Int):=by omega
   have HI:=Z0a (fun w'=>Tryz.strconv_Itoa_small j (by omega) w')
   have hds:(Lib.decDigits j).length≤100:=by
    have key:∀ i:Fin 10,(Lib.decDigits i.val).length≤100:=by decide +kernel
    exact key ⟨j,by omega⟩
   obtain ⟨D,hD⟩:∃ D:ByteArray,(⟨(Lib.decDigits j).toArray⟩:ByteArray)=D:=⟨_,rfl⟩
   have hDs:D.size≤100:=by rw [←hD];simpa [ByteArray.size] using hds
   have hDl:D.data.toList=Lib.decDigits j:=by rw [←hD]
   have hkey:keyOf Tryz.prog 9 (.string (nm++D))=some (.string (nm.data.toList++Lib.decDigits j)):=by
    rw [←hDl,← Array.toList_append,← ByteArray.data_append]
    exact keyOf_string_mk Tryz.underlying9 (by unfold maxLen;rw [ByteArray.size_append];omega)
   rw [hD] at HI
   have HK:=Z0a hkey
   have hsz:nm.size+D.size≤2000:=by omega
   clear hD hDl hkey hds
   go_wp2_with fail
   refine (HI.out _).mono ?_
   rintro e w1 ⟨rfl,rfl⟩
   go_wp2_with (at_mapUpdate;refine Z0R _ rfl _ _ _ 244 rfl 9 324 strK Tryz.underlying244 fb n' _ rfl HM.out (by unfold maxLen;omega) _ (fixV (k,j)) _ rfl rfl HK.out ?_;intro w2 hM2 hg2)
   go_roundw
   case rel=>exact ⟨j+1,by omega,by go_num,⟨_,by have:=Z2K n' (numF f nm.data.toList k j (nm.data.toList++Lib.decDigits j));omega,hM2⟩,grown_twoB HG.out hg2⟩
   case measure=>simp [intOf];omega
  ·have hji:¬ (j:Int)<(cnt:Int):=by omega
   have ej:j=cnt:=by omega
   subst ej
   go_wp2
   go_end0
   exact ⟨rfl,⟨n',hn',HM.out⟩,HG.out⟩
def ownL (x:List UInt8 × Nat × Nat):List UInt8:=if x.2.1=7 then [64,82] else if x.2.1=8 then [82] else x.1
def Z2q (left:Lit→Bool) (l:List UInt8):Option Value:=match fixL.find? (fun x=>x.1 == l) with
 | some x=>if left (.string (ownL x)) then none else some (fixV x.2)
 | none=>none
def Z60 (l:List UInt8) (f:List UInt8→Option Value) (l':List UInt8):Option Value:=match fixL.find? (fun x=>x.1 == l') with
 | some x=>if ownL x=l then some (fixV x.2) else f l'
 | none=>none
theorem fixAt_step (left:Lit→Bool)(l l':List UInt8):Z2q (fun z=>left z && !z.sameKey (.string l)) l'=Z60 l (Z2q left) l':=by
 unfold Z60
 cases h:fixL.find? (fun x=>x.1 == l') with
 | none =>
  unfold Z2q
  rw [h]
 | some x =>
  unfold Z2q
  rw [h]
  by_cases e:ownL x=l
  ·subst e
   have:Lit.sameKey (.string (ownL x)) (.string (ownL x))=true:=WideAt.sameKey_self trivial
   simp [this]
  ·have:Lit.sameKey (.string (ownL x)) (.string l)=false:=by
    cases hs:Lit.sameKey (.string (ownL x)) (.string l) with
    | false=>rfl
    | true=>exact absurd (by simpa [Lit.sameKey] using hs) e
   simp [this,e]
theorem fixAt_none (left:Lit→Bool)(l:List UInt8)(h:fixL.find? (fun x=>x.1 == l)=none):Z2q left l=none:=by
 unfold Z2q
 rw [h]
theorem fixAt_end (left:Lit→Bool)(h:∀ z,left z=false)(l:List UInt8):Z2q left l=(fixO l).map fixV:=by
 unfold Z2q fixO
 cases fixL.find? (fun x=>x.1 == l) with
 | none=>rfl
 | some x=>simp [h]
theorem owners_in:∀ x∈fixL,Maps.has kindsD (.string (ownL x))=true:=by decide +kernel
theorem fixAt_start (l:List UInt8):Z2q (Maps.has kindsD) l=none:=by
 unfold Z2q
 cases h:fixL.find? (fun x=>x.1 == l) with
 | none=>rfl
 | some x=>simp [owners_in x (List.mem_of_find?_eq_some h)]
theorem isMap_foldK:∀ (L:List (List UInt8 × Nat)) (D:DataW Unit),IsMap D→IsMap (L.foldl (fun D kv=>D.put (.string kv.1) (.lit (.int .i64 kv.2))) D)
 | [],_,h=>h
 | kv :: L,D,h=>isMap_foldK L _ (by obtain ⟨es,rfl⟩:=h;exact ⟨_,rfl⟩)
theorem at_foldK (l:List UInt8)(z:DataW Unit):∀ (L:List (List UInt8 × Nat)) (D:DataW Unit),IsMap D→(L.foldl (fun D kv=>D.put (.string kv.1) (.lit (.int .i64 kv.2))) D).atKey (.string l) z=D.atKey (.string l) z∨∃ kv∈L,kv.1=l∧(L.foldl (fun D kv=>D.put (.string kv.1) (.lit (.int .i64 kv.2))) D).atKey (.string l) z=.lit (.int .i64 kv.2)
 | [],_,_=>.inl rfl
 | kv :: L,D,h=>by
  have hM:IsMap (D.put (.string kv.1) (.lit (.int .i64 kv.2))):=by obtain ⟨es,rfl⟩:=h;exact ⟨_,rfl⟩
  rcases at_foldK l z L _ hM with e | ⟨x,hx,e1,e2⟩
  ·by_cases hl:kv.1=l
   ·right
    refine ⟨kv,by simp,hl,?_⟩
    show (L.foldl _ (D.put (.string kv.1) (.lit (.int .i64 kv.2)))).atKey (.string l) z=_
    rw [e,← hl,atKey_put_same h (k:=.string kv.1) trivial]
   ·left
    show (L.foldl _ (D.put (.string kv.1) (.lit (.int .i64 kv.2)))).atKey (.string l) z=_
    rw [e,atKey_put_other (by simpa using fun e=>hl e.symm)]
  ·exact .inr ⟨x,by simp [hx],e1,e2⟩
theorem kinds_entry {l:List UInt8}{c:Int}(h:∀ zd,kindsD.atKey (.string l) zd=.lit (.int .i64 c)):∃ kv∈Z4A,kv.1=l∧(kv.2:Int)=c:=by
 rcases at_foldK l .nil Z4A (.map []) isMap_empty with e | ⟨kv,h1,h2,h3⟩
 ·have h0:=h .nil
  have e':kindsD.atKey (.string l) .nil=.nil:=e
  rw [e'] at h0
  cases h0
 ·have h0:=h .nil
  have e':kindsD.atKey (.string l) .nil=.lit (.int .i64 kv.2):=h3
  rw [e'] at h0
  injection h0 with h0
  injection h0 with _ h0
  exact ⟨kv,h1,h2,h0⟩
theorem fstep_none (l:List UInt8)(hl:∀ x∈fixL,ownL x≠l)(f:List UInt8→Option Value)(hf:∀ l',fixL.find? (fun x=>x.1 == l')=none→f l'=none)(l':List UInt8):Z60 l f l'=f l':=by
 unfold Z60
 cases h:fixL.find? (fun x=>x.1 == l') with
 | none=>exact (hf l' h).symm
 | some x=>exact if_neg (hl x (List.mem_of_find?_eq_some h))
theorem fstep_one (l:List UInt8)(c:Nat)(h1:∀ x∈fixL,ownL x=l→x.1=l∧x.2=(c,0))(h2:∀ x∈fixL,x.1=l→ownL x=l)(h3:fixL.find? (fun x=>x.1 == l)≠none)(f:List UInt8→Option Value)(hf:∀ l',fixL.find? (fun x=>x.1 == l')=none→f l'=none)(l':List UInt8):Z60 l f l'=putF f l (fixV (c,0)) l':=by
 unfold Z60 putF
 cases h:fixL.find? (fun x=>x.1 == l') with
 | none =>
  rw [if_neg (fun e=>h3 (by rw [←e];exact h))]
  exact (hf l' h).symm
 | some x =>
  have hm:=List.mem_of_find?_eq_some h
  have he:x.1=l':=by simpa using List.find?_some h
  by_cases e:ownL x=l
  ·obtain ⟨a,b⟩:=h1 x hm e
   show (if ownL x=l then some (fixV x.2) else f l')=_
   rw [if_pos e,b,if_pos (he.symm.trans a)]
  ·show (if ownL x=l then some (fixV x.2) else f l')=_
   rw [if_neg e,if_neg (fun e2=>e (h2 x hm (he.trans e2)))]
theorem numF_is (f:List UInt8→Option Value)(nm:List UInt8)(k:Nat)(l':List UInt8):∀ n,(∃ i,i<n∧l'=nm++Lib.decDigits i∧(∀ j,j<n→i<j→l'≠nm++Lib.decDigits j)∧numF f nm k n l'=some (fixV (k,i)))∨((∀ i,i<n→l'≠nm++Lib.decDigits i)∧numF f nm k n l'=f l')
 | 0=>.inr ⟨fun i hi=>absurd hi (Nat.not_lt_zero _),rfl⟩
 | n+1=>by
  by_cases e:l'=nm++Lib.decDigits n
  ·refine .inl ⟨n,Nat.lt_succ_self _,e,fun j h1 h2=>by omega,?_⟩
   show (if l'=nm++Lib.decDigits n then _ else _)=_
   rw [if_pos e]
  ·have hn:numF f nm k (n+1) l'=numF f nm k n l':=if_neg e
   rcases numF_is f nm k l' n with ⟨i,h1,h2,h3,h4⟩ | ⟨h1,h2⟩
   ·refine .inl ⟨i,by omega,h2,fun j hj hij=>?_,hn.trans h4⟩
    by_cases ej:j=n
    ·rw [ej];exact e
    ·exact h3 j (by omega) hij
   ·refine .inr ⟨fun i hi=>?_,hn.trans h2⟩
    by_cases ei:i=n
    ·rw [ei];exact e
    ·exact h1 i (by omega)
theorem fstep_num (l:List UInt8)(k n:Nat)(h1:∀ i,i<n→(fixL.find? (fun x=>x.1 == l++Lib.decDigits i))=some (l++Lib.decDigits i,k,i))(h2:∀ i,i<n→ownL (l++Lib.decDigits i,k,i)=l)(h3:∀ x∈fixL,ownL x=l→∃ i,i<n∧x.1=l++Lib.decDigits i)(f:List UInt8→Option Value)(hf:∀ l',fixL.find? (fun x=>x.1 == l')=none→f l'=none)(l':List UInt8):Z60 l f l'=numF f l k n l':=by
 rcases numF_is f l k l' n with ⟨i,hi,e1,_,e2⟩ | ⟨e1,e2⟩
 ·rw [e2]
  unfold Z60
  rw [e1,h1 i hi]
  simp [h2 i hi]
 ·rw [e2]
  unfold Z60
  cases h:fixL.find? (fun x=>x.1 == l') with
  | none=>exact (hf l' h).symm
  | some x =>
   have he:x.1=l':=by simpa using List.find?_some h
   refine if_neg (fun e=>?_)
   obtain ⟨i,hi,e3⟩:=h3 x (List.mem_of_find?_eq_some h) e
   exact e1 i hi (he.symm.trans e3)
def Z2W (kv:List UInt8 × Nat) (f:List UInt8→Option Value):List UInt8→Option Value :=
 if kv.2≤6 then putF f kv.1 (fixV (kv.2,0)) else if kv.2=7 then numF f kv.1 7 2 else if kv.2=8 then numF f kv.1 8 8 else f
theorem done_ones:∀ kv∈Z4A,kv.2≤6→(∀ x∈fixL,ownL x=kv.1→x.1=kv.1∧x.2=(kv.2,0))∧(∀ x∈fixL,x.1=kv.1→ownL x=kv.1)∧fixL.find? (fun x=>x.1 == kv.1)≠none:=by decide +kernel
theorem done_nones:∀ kv∈Z4A,9≤kv.2→∀ x∈fixL,ownL x≠kv.1:=by decide +kernel
theorem done_7:∀ kv∈Z4A,kv.2=7→kv.1=[64,82]:=by decide +kernel
theorem done_8:∀ kv∈Z4A,kv.2=8→kv.1=[82]:=by decide +kernel
theorem done_is (kv:List UInt8 × Nat)(hm:kv∈Z4A)(f:List UInt8→Option Value)(hf:∀ l',fixL.find? (fun x=>x.1 == l')=none→f l'=none)(l':List UInt8):Z2W kv f l'=Z60 kv.1 f l':=by
 unfold Z2W
 by_cases h6:kv.2≤6
 ·obtain ⟨a,b,c⟩:=done_ones kv hm h6
  rw [if_pos h6,fstep_one kv.1 kv.2 a b c f hf]
 ·rw [if_neg h6]
  by_cases h7:kv.2=7
  ·rw [if_pos h7,done_7 kv hm h7]
   refine (fstep_num [64,82] 7 2 ?_ ?_ ?_ f hf l').symm
   ·decide +kernel
   ·decide +kernel
   ·decide +kernel
  ·rw [if_neg h7]
   by_cases h8:kv.2=8
   ·rw [if_pos h8,done_8 kv hm h8]
    refine (fstep_num [82] 8 8 ?_ ?_ ?_ f hf l').symm
    ·decide +kernel
    ·decide +kernel
    ·decide +kernel
   ·rw [if_neg h8,fstep_none kv.1 (done_nones kv hm (by omega)) f hf]
theorem Z4O (w:World) :
  Calls Tryz.prog 199 #[] w fun e w'=>e=.returned (.map (some w.heap.size))∧(∃ n,n≤1000∧MapAt Tryz.prog 9 w' w.heap.size n (fun l=>(fixO l).map fixV))∧Below w.heap.size w w':=by
 have hmm:=@run_makeMap Tryz.prog
 have HK:=Z0a (kinds_any (w.alloc (.map #[] 0)))
 have hz:(w.alloc (.map #[] 0)).heap.size=w.heap.size+1:=by simp
 rw [hz] at HK
 go_enter Tryz.func199,Tryz.ntmps199
 go_wp2_with fail
 refine HK.out.mono ?_
 rintro e w1 ⟨rfl,hown,hB1⟩
 have hM1:MapAt Tryz.prog 9 w1 w.heap.size 0 (fun _=>none):=(MapAt.made w Tryz.prog 9).below hB1 (by omega)
 have hBw:Below w.heap.size w w1:=((Below.refl _ _).alloc (Nat.le_refl _) _).trans (hB1.mono (by simp))
 have hl1:=hown.lt
 go_wp2_with (at_range;refine wpList_range_own _ rfl _ 107 rfl 9 111 Z0B Tryz.underlying107 _ (w.heap.size+1) 17 _ rfl hown ?_;intro w0 hrg0 hg0 hs0)
 go_frame
 have HRG:=Z0a hrg0
 have hM0:MapAt Tryz.prog 9 w0 w.heap.size 0 (Z2q (Maps.has kindsD)):=(hM1.kept hg0 (by simp)).ext (fun l=>(fixAt_start l).symm)
 have hB0:Below w.heap.size w w0:=hBw.grown hg0 (by have:=hBw.size;omega) (fun j hj=>by cases hj)
 have HM0:=Z0a hM0
 have HB0:=Z0a hB0
 clear hrg0 hM0 hB0 hM1 hBw hB1 hown hg0 hs0 HK
 go_loopw [7] (fun _ wr=>∃ (left:Lit→Bool) (cnt n:Nat),wr.ranges Tryz.prog 9 (plainElem (H:=Unit) Tryz.prog 111) (w.heap.size+1) w1.heap.size 17 kindsD left cnt∧n+10*cnt≤170∧MapAt Tryz.prog 9 wr w.heap.size n (Z2q left)∧Below w.heap.size w wr) (fun _ wr=>wr.rangeLeft (w.heap.size+1) w1.heap.size)
 case atStart=>exact ⟨_,_,0,HRG.out,by decide +kernel,HM0.out,HB0.out⟩
 case round =>
  obtain ⟨left,cnt,n,hrg,hcn,hM,hB⟩:=hrel
  clear HRG HM0 HB0
  have HM:=Z0a hM
  have HB:=Z0a hB
  have HR:=Z0a hrg
  clear hM hB
  go_wp2_with (at_next;refine wpList_next_ranges _ rfl _ rfl 9 Z0B _ Value.string (Value.int .i64) (fun key kl hkey=>Maps.keyOf_string_inv Tryz.underlying9 hkey) (fun v y hv=>by obtain ⟨c,rfl,_⟩:=plainElem_int_inv Tryz.underlying111 hv;exact ⟨c,rfl⟩) (w.heap.size+1) w1.heap.size 17 _ _ _ rfl hrg ?_ ?_)
  ·intro hc0 hl0
   go_wp2
   go_ret
   exact ⟨rfl,⟨n,by omega,HM.out.ext (fixAt_end left hl0)⟩,HB.out⟩
  ·intro x c kl yd yp wn cnt1 hkey hlx hv hat hrg1 hlt hg1 hs1 hen
   obtain ⟨x',ex,rfl,hxs⟩:=string_of_keyOf Tryz.underlying9 hkey
   cases ex
   obtain ⟨c',ec,ey,hwc⟩:=plainElem_int_inv Tryz.underlying111 hv
   cases ec
   simp only [Prod.mk.injEq] at ey
   obtain ⟨rfl,rfl⟩:=ey
   obtain ⟨kv,hm,hk1,hk2⟩:=kinds_entry hat
   have hstep:∀ l',Z2W kv (Z2q left) l'=Z2q (fun z=>left z && !z.sameKey (.string x.data.toList)) l':=fun l'=>by rw [fixAt_step,done_is kv hm _ (fixAt_none left),hk1]
   have h16:∀ kv∈Z4A,kv.2≤16∧kv.1.length≤10:=by decide +kernel
   obtain ⟨hk16,hk10⟩:=h16 kv hm
   have hxl:x.size≤1000:=by
    have:x.data.toList.length≤10:=by rw [←hk1];exact hk10
    have e:x.size=x.data.toList.length:=by rw [Array.length_toList];rfl
    omega
   have hne1:some w.heap.size≠some w1.heap.size:=fun e=>by have:=Option.some.inj e;omega
   have hMn:=HM.out.kept hg1 hne1
   have hBn:Below w.heap.size w wn:=HB.out.grown hg1 (by have:=HB.out.size;omega) (fun j hj=>by cases hj;omega)
   have HMN:=Z0a hMn
   have HBN:=Z0a hBn
   have HRN:=Z0a hrg1
   have HKX:=Z0a hkey
   have HST:=Z0a (And.intro hstep hk1)
   have HR0:=Z0a (And.intro hrg.left_eq hlt)
   have hne2:some (w.heap.size+1)≠some w.heap.size:=fun e=>by have:=Option.some.inj e;omega
   have hne3:some w1.heap.size≠some w.heap.size:=fun e=>hne1 e.symm
   clear hMn hBn hrg1 hkey hstep h16 hm hv hat HM HB HR hrg hwc hg1 hs1 hlt hlx hk10
   by_cases h0:kv.2=0
   ·obtain rfl:c=0:=by omega
    have HV:=Z0a h0
    clear hk2
    go_wp2_with (at_mapUpdate;refine Z0R _ rfl _ _ _ 244 rfl 9 324 strK Tryz.underlying244 w.heap.size n _ rfl HMN.out (by unfold maxLen;omega) _ (fixV (0,0)) _ rfl rfl HKX.out ?_;intro w2 hM2 hg2;go_frame)
    have hrg2:=HRN.out.kept hg2 hne2 hne3
    go_roundw
    case rel =>
     refine ⟨_,cnt1,_,hrg2,?_,hM2.ext (fun l'=>?_),HBN.out.grown hg2 (by have:=HBN.out.size;omega) (fun j hj=>by cases hj;exact Nat.le_refl _)⟩
     ·have:=Z2K n (Z2q left x.data.toList)
      have:=HR0.out.2
      omega
     ·rw [←HST.out.1 l']
      unfold Z2W
      rw [if_pos (by have:=HV.out;omega),HST.out.2,HV.out]
    case measure =>
     rw [hrg2.left_eq,HR0.out.1]
     exact HR0.out.2
   ·by_cases h1:kv.2=1
    ·obtain rfl:c=1:=by omega
     have HV:=Z0a h1
     clear hk2
     go_wp2_with (at_mapUpdate;refine Z0R _ rfl _ _ _ 244 rfl 9 324 strK Tryz.underlying244 w.heap.size n _ rfl HMN.out (by unfold maxLen;omega) _ (fixV (1,0)) _ rfl rfl HKX.out ?_;intro w2 hM2 hg2;go_frame)
     have hrg2:=HRN.out.kept hg2 hne2 hne3
     go_roundw
     case rel =>
      refine ⟨_,cnt1,_,hrg2,?_,hM2.ext (fun l'=>?_),HBN.out.grown hg2 (by have:=HBN.out.size;omega) (fun j hj=>by cases hj;exact Nat.le_refl _)⟩
      ·have:=Z2K n (Z2q left x.data.toList)
       have:=HR0.out.2
       omega
      ·rw [←HST.out.1 l']
       unfold Z2W
       rw [if_pos (by have:=HV.out;omega),HST.out.2,HV.out]
     case measure =>
      rw [hrg2.left_eq,HR0.out.1]
      exact HR0.out.2
    ·by_cases h2:kv.2=2
     ·obtain rfl:c=2:=by omega
      have HV:=Z0a h2
      clear hk2
      go_wp2_with (at_mapUpdate;refine Z0R _ rfl _ _ _ 244 rfl 9 324 strK Tryz.underlying244 w.heap.size n _ rfl HMN.out (by unfold maxLen;omega) _ (fixV (2,0)) _ rfl rfl HKX.out ?_;intro w2 hM2 hg2;go_frame)
      have hrg2:=HRN.out.kept hg2 hne2 hne3
      go_roundw
      case rel =>
       refine ⟨_,cnt1,_,hrg2,?_,hM2.ext (fun l'=>?_),HBN.out.grown hg2 (by have:=HBN.out.size;omega) (fun j hj=>by cases hj;exact Nat.le_refl _)⟩
       ·have:=Z2K n (Z2q left x.data.toList)
        have:=HR0.out.2
        omega
       ·rw [←HST.out.1 l']
        unfold Z2W
        rw [if_pos (by have:=HV.out;omega),HST.out.2,HV.out]
      case measure =>
       rw [hrg2.left_eq,HR0.out.1]
       exact HR0.out.2
     ·by_cases h3:kv.2=3
      ·obtain rfl:c=3:=by omega
       have HV:=Z0a h3
       clear hk2
       go_wp2_with (at_mapUpdate;refine Z0R _ rfl _ _ _ 244 rfl 9 324 strK Tryz.underlying244 w.heap.size n _ rfl HMN.out (by unfold maxLen;omega) _ (fixV (3,0)) _ rfl rfl HKX.out ?_;intro w2 hM2 hg2;go_frame)
       have hrg2:=HRN.out.kept hg2 hne2 hne3
       go_roundw
       case rel =>
        refine ⟨_,cnt1,_,hrg2,?_,hM2.ext (fun l'=>?_),HBN.out.grown hg2 (by have:=HBN.out.size;omega) (fun j hj=>by cases hj;exact Nat.le_refl _)⟩
        ·have:=Z2K n (Z2q left x.data.toList)
         have:=HR0.out.2
         omega
        ·rw [←HST.out.1 l']
         unfold Z2W
         rw [if_pos (by have:=HV.out;omega),HST.out.2,HV.out]
       case measure =>
        rw [hrg2.left_eq,HR0.out.1]
        exact HR0.out.2
      ·by_cases h4:kv.2=4
       ·obtain rfl:c=4:=by omega
        have HV:=Z0a h4
        clear hk2
        go_wp2_with (at_mapUpdate;refine Z0R _ rfl _ _ _ 244 rfl 9 324 strK Tryz.underlying244 w.heap.size n _ rfl HMN.out (by unfold maxLen;omega) _ (fixV (4,0)) _ rfl rfl HKX.out ?_;intro w2 hM2 hg2;go_frame)
        have hrg2:=HRN.out.kept hg2 hne2 hne3
        go_roundw
        case rel =>
         refine ⟨_,cnt1,_,hrg2,?_,hM2.ext (fun l'=>?_),HBN.out.grown hg2 (by have:=HBN.out.size;omega) (fun j hj=>by cases hj;exact Nat.le_refl _)⟩
         ·have:=Z2K n (Z2q left x.data.toList)
          have:=HR0.out.2
          omega
         ·rw [←HST.out.1 l']
          unfold Z2W
          rw [if_pos (by have:=HV.out;omega),HST.out.2,HV.out]
        case measure =>
         rw [hrg2.left_eq,HR0.out.1]
         exact HR0.out.2
       ·by_cases h5:kv.2=5
        ·obtain rfl:c=5:=by omega
         have HV:=Z0a h5
         clear hk2
         go_wp2_with (at_mapUpdate;refine Z0R _ rfl _ _ _ 244 rfl 9 324 strK Tryz.underlying244 w.heap.size n _ rfl HMN.out (by unfold maxLen;omega) _ (fixV (5,0)) _ rfl rfl HKX.out ?_;intro w2 hM2 hg2;go_frame)
         have hrg2:=HRN.out.kept hg2 hne2 hne3
         go_roundw
         case rel =>
          refine ⟨_,cnt1,_,hrg2,?_,hM2.ext (fun l'=>?_),HBN.out.grown hg2 (by have:=HBN.out.size;omega) (fun j hj=>by cases hj;exact Nat.le_refl _)⟩
          ·have:=Z2K n (Z2q left x.data.toList)
           have:=HR0.out.2
           omega
          ·rw [←HST.out.1 l']
           unfold Z2W
           rw [if_pos (by have:=HV.out;omega),HST.out.2,HV.out]
         case measure =>
          rw [hrg2.left_eq,HR0.out.1]
          exact HR0.out.2
        ·by_cases h6:kv.2=6
         ·obtain rfl:c=6:=by omega
          have HV:=Z0a h6
          clear hk2
          go_wp2_with (at_mapUpdate;refine Z0R _ rfl _ _ _ 244 rfl 9 324 strK Tryz.underlying244 w.heap.size n _ rfl HMN.out (by unfold maxLen;omega) _ (fixV (6,0)) _ rfl rfl HKX.out ?_;intro w2 hM2 hg2;go_frame)
          have hrg2:=HRN.out.kept hg2 hne2 hne3
          go_roundw
          case rel =>
           refine ⟨_,cnt1,_,hrg2,?_,hM2.ext (fun l'=>?_),HBN.out.grown hg2 (by have:=HBN.out.size;omega) (fun j hj=>by cases hj;exact Nat.le_refl _)⟩
           ·have:=Z2K n (Z2q left x.data.toList)
            have:=HR0.out.2
            omega
           ·rw [←HST.out.1 l']
            unfold Z2W
            rw [if_pos (by have:=HV.out;omega),HST.out.2,HV.out]
          case measure =>
           rw [hrg2.left_eq,HR0.out.1]
           exact HR0.out.2
         ·by_cases h7:kv.2=7
          ·obtain rfl:c=7:=by omega
           have HV:=Z0a h7
           clear hk2
           have HA:=Z0a (Z3q w.heap.size n (Z2q left) x 7 2 wn HMN.out (by omega) hxl (by decide))
           go_wp2_with fail
           refine HA.out.mono ?_
           rintro e w2 ⟨rfl,⟨n2,hn2,hM2⟩,hg2⟩
           go_wp2
           have hrg2:=HRN.out.kept hg2 hne2 hne3
           go_roundw
           case rel =>
            refine ⟨_,cnt1,n2,hrg2,?_,hM2.ext (fun l'=>?_),HBN.out.grown hg2 (by have:=HBN.out.size;omega) (fun j hj=>by cases hj;exact Nat.le_refl _)⟩
            ·have:=HR0.out.2
             omega
            ·rw [←HST.out.1 l']
             unfold Z2W
             rw [if_neg (by have:=HV.out;omega),if_pos HV.out,HST.out.2]
           case measure =>
            rw [hrg2.left_eq,HR0.out.1]
            exact HR0.out.2
          ·by_cases h8:kv.2=8
           ·obtain rfl:c=8:=by omega
            have HV:=Z0a h8
            clear hk2
            have HA:=Z0a (Z3q w.heap.size n (Z2q left) x 8 8 wn HMN.out (by omega) hxl (by decide))
            go_wp2_with fail
            refine HA.out.mono ?_
            rintro e w2 ⟨rfl,⟨n2,hn2,hM2⟩,hg2⟩
            go_wp2
            have hrg2:=HRN.out.kept hg2 hne2 hne3
            go_roundw
            case rel =>
             refine ⟨_,cnt1,n2,hrg2,?_,hM2.ext (fun l'=>?_),HBN.out.grown hg2 (by have:=HBN.out.size;omega) (fun j hj=>by cases hj;exact Nat.le_refl _)⟩
             ·have:=HR0.out.2
              omega
             ·rw [←HST.out.1 l']
              unfold Z2W
              rw [if_neg (by have:=HV.out;omega),if_neg (by have:=HV.out;omega),if_pos HV.out,HST.out.2]
            case measure =>
             rw [hrg2.left_eq,HR0.out.1]
             exact HR0.out.2
           ·by_cases h9:kv.2=9
            ·obtain rfl:c=9:=by omega
             have HV:=Z0a h9
             clear hk2
             go_wp2
             go_roundw
             case rel =>
              refine ⟨_,cnt1,n,HRN.out,by have:=HR0.out.2;omega,HMN.out.ext (fun l'=>?_),HBN.out⟩
              rw [←HST.out.1 l']
              unfold Z2W
              rw [if_neg (by have:=HV.out;omega),if_neg (by have:=HV.out;omega),if_neg (by have:=HV.out;omega)]
             case measure =>
              rw [HRN.out.left_eq,HR0.out.1]
              exact HR0.out.2
            ·by_cases h10:kv.2=10
             ·obtain rfl:c=10:=by omega
              have HV:=Z0a h10
              clear hk2
              go_wp2
              go_roundw
              case rel =>
               refine ⟨_,cnt1,n,HRN.out,by have:=HR0.out.2;omega,HMN.out.ext (fun l'=>?_),HBN.out⟩
               rw [←HST.out.1 l']
               unfold Z2W
               rw [if_neg (by have:=HV.out;omega),if_neg (by have:=HV.out;omega),if_neg (by have:=HV.out;omega)]
              case measure =>
               rw [HRN.out.left_eq,HR0.out.1]
               exact HR0.out.2
             ·by_cases h11:kv.2=11
              ·obtain rfl:c=11:=by omega
               have HV:=Z0a h11
               clear hk2
               go_wp2
               go_roundw
               case rel =>
                refine ⟨_,cnt1,n,HRN.out,by have:=HR0.out.2;omega,HMN.out.ext (fun l'=>?_),HBN.out⟩
                rw [←HST.out.1 l']
                unfold Z2W
                rw [if_neg (by have:=HV.out;omega),if_neg (by have:=HV.out;omega),if_neg (by have:=HV.out;omega)]
               case measure =>
                rw [HRN.out.left_eq,HR0.out.1]
                exact HR0.out.2
              ·by_cases h12:kv.2=12
               ·obtain rfl:c=12:=by omega
                have HV:=Z0a h12
                clear hk2
                go_wp2
                go_roundw
                case rel =>
                 refine ⟨_,cnt1,n,HRN.out,by have:=HR0.out.2;omega,HMN.out.ext (fun l'=>?_),HBN.out⟩
                 rw [←HST.out.1 l']
                 unfold Z2W
                 rw [if_neg (by have:=HV.out;omega),if_neg (by have:=HV.out;omega),if_neg (by have:=HV.out;omega)]
                case measure =>
                 rw [HRN.out.left_eq,HR0.out.1]
                 exact HR0.out.2
               ·by_cases h13:kv.2=13
                ·obtain rfl:c=13:=by omega
                 have HV:=Z0a h13
                 clear hk2
                 go_wp2
                 go_roundw
                 case rel =>
                  refine ⟨_,cnt1,n,HRN.out,by have:=HR0.out.2;omega,HMN.out.ext (fun l'=>?_),HBN.out⟩
                  rw [←HST.out.1 l']
                  unfold Z2W
                  rw [if_neg (by have:=HV.out;omega),if_neg (by have:=HV.out;omega),if_neg (by have:=HV.out;omega)]
                 case measure =>
                  rw [HRN.out.left_eq,HR0.out.1]
                  exact HR0.out.2
                ·by_cases h14:kv.2=14
                 ·obtain rfl:c=14:=by omega
                  have HV:=Z0a h14
                  clear hk2
                  go_wp2
                  go_roundw
                  case rel =>
                   refine ⟨_,cnt1,n,HRN.out,by have:=HR0.out.2;omega,HMN.out.ext (fun l'=>?_),HBN.out⟩
                   rw [←HST.out.1 l']
                   unfold Z2W
                   rw [if_neg (by have:=HV.out;omega),if_neg (by have:=HV.out;omega),if_neg (by have:=HV.out;omega)]
                  case measure =>
                   rw [HRN.out.left_eq,HR0.out.1]
                   exact HR0.out.2
                 ·by_cases h15:kv.2=15
                  ·obtain rfl:c=15:=by omega
                   have HV:=Z0a h15
                   clear hk2
                   go_wp2
                   go_roundw
                   case rel =>
                    refine ⟨_,cnt1,n,HRN.out,by have:=HR0.out.2;omega,HMN.out.ext (fun l'=>?_),HBN.out⟩
                    rw [←HST.out.1 l']
                    unfold Z2W
                    rw [if_neg (by have:=HV.out;omega),if_neg (by have:=HV.out;omega),if_neg (by have:=HV.out;omega)]
                   case measure =>
                    rw [HRN.out.left_eq,HR0.out.1]
                    exact HR0.out.2
                  ·obtain rfl:c=16:=by omega
                   have HV:Hid (kv.2=16):=by
                    show kv.2=16
                    omega
                   clear hk2
                   go_wp2
                   go_roundw
                   case rel =>
                    refine ⟨_,cnt1,n,HRN.out,by have:=HR0.out.2;omega,HMN.out.ext (fun l'=>?_),HBN.out⟩
                    rw [←HST.out.1 l']
                    unfold Z2W
                    rw [if_neg (by have:=HV.out;omega),if_neg (by have:=HV.out;omega),if_neg (by have:=HV.out;omega)]
                   case measure =>
                    rw [HRN.out.left_eq,HR0.out.1]
                    exact HR0.out.2
end Go.Proofs.YthokdbcpkmcieaaGreatDoor
