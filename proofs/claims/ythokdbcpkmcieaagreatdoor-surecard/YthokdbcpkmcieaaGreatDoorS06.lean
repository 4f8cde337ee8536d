/- Par5 Par6 Par7 -/
import Derived.Test.YthokdbcpkmcieaaGreatDoorS05
import Derived.Deep.RegionWith
set_option maxRecDepth 200000
set_option maxHeartbeats 8000000
namespace Go.Proofs.YthokdbcpkmcieaaGreatDoor
open Go Go.RowKit Go.Maps Go.WideMaps
structure Trm where
 minus:Bool
 name:ByteArray
 here:Bool
 num:Int
def Trm.cells (t:Trm):List Value:=[.bool t.minus,.string t.name,.bool t.here,.int .i64 t.num]
def trmV (t:Trm):Value:=.agg #[.bool t.minus,.string t.name,.bool t.here,.int .i64 t.num]
def Z1C:List Tok→Option (Trm × List Tok)
 | []=>none
 | t :: l =>
  if t.text=⟨#[36]⟩ then some (⟨false,⟨#[]⟩,true,0⟩,l)
  else if t.kind=2 then some (⟨false,⟨#[]⟩,false,t.num⟩,l)
  else if t.kind=1∧Z0H t.text.data.toList=true then some (⟨false,t.text,false,0⟩,l)
  else none
def PEnd {α:Type} (w:World) (B pb:Nat) (b:Bk) (line:Int) (val:α→Value) (o:Option (α × List Tok)) (e:Ending) (w':World):Prop :=
 match o with
 | some (x,l)=>e=.returned (val x)∧PS w' B pb b line l∧w.grownBy w' (some pb)
 | none=>e=synE line∧w.grownBy w' (some pb)
theorem Z5N {t:Tok}{l:List Tok}(h:(t :: l).getLast?=some endT)(hne:t.kind≠0):l≠[]:=by
 intro e
 subst e
 simp at h
 subst h
 exact hne rfl
theorem Z4T (w:World)(r:Option Nat):w.grownBy w r:=⟨rfl,rfl,rfl,Nat.le_refl _,fun _ _ _=>rfl⟩
theorem Z0D {w w1:World}{r:Nat}(hg:w.grownBy w1 (some r))(a:Addr)(h:a.block<w.heap.size)(hne:a.block≠r):w1.cell? a=w.cell? a:=World.cell?_of_block (hg.block a.block h (by simpa using hne))
theorem Z0w {w w1:World}{r:Nat}(hg:w.grownBy w1 (some r))(a:Addr)(h:a.block<w.heap.size)(hne:a.block≠r):w1.frozen? a=w.frozen? a:=World.frozen?_of_block (hg.block a.block h (by simpa using hne))
theorem grown_fresh {w w1:World}{r:Option Nat}(hg:w.grownBy w1 r){a:Addr}(h:w.heap.size≤a.block)(v:Value):w.grownBy (w1.setCell a v) r :=
 ⟨hg.os,hg.tape,hg.output,by simpa [World.setCell] using hg.size,fun k hk hne=>by rw [Below.heap_setCell _ _ _ _ (by omega)];exact hg.block k hk hne⟩
theorem Z5R {w w1:World}{r:Option Nat}(hg:w.grownBy w1 r)(o:Obj):w.grownBy (w1.alloc o) r :=
 ⟨hg.os,hg.tape,hg.output,Nat.le_trans hg.size (by simp),fun k hk hne=>by rw [Below.heap_alloc _ _ _ (Nat.lt_of_lt_of_le hk hg.size)];exact hg.block k hk hne⟩
theorem _root_.Go.World.grownBy.trans2 {w w1 w2:World}{r:Option Nat}(h:w.grownBy w1 r)(k:w1.grownBy w2 r):w.grownBy w2 r :=
 ⟨k.os.trans h.os,k.tape.trans h.tape,k.output.trans h.output,Nat.le_trans h.size k.size,fun i hi hb=>(k.block i (Nat.lt_of_lt_of_le hi h.size) hb).trans (h.block i hi hb)⟩
theorem Z7P (w:World)(B pb:Nat)(b:Bk)(line:Int)(ts:List Tok)(h:PS w B pb b line ts)(hb:BookAt w b)(ha:Apart B pb b) :
  Calls Tryz.prog 280 #[.pointer (some ⟨pb,0,none⟩)] w (PEnd w B pb b line trmV (Z1C ts)):=by
 obtain ⟨t,l,rfl⟩:=h.ne
 have hbw:∀ ob,Below w.heap.size w (w.alloc ob):=fun ob=>(Below.refl _ _).alloc (Nat.le_refl _) _
 have HLE:=Z0a h.le
 have hlt:pb<w.heap.size:=Nat.lt_of_lt_of_le h.lt h.le
 have hpk:∀ ob,PS (w.alloc ob) B pb b line (t :: l):=fun ob=>h.kept ((hbw ob).mono h.le)
 have HW:=Z0a hbw
 by_cases h1:t.text=⟨#[36]⟩
 ·have e:Z1C (t :: l)=some (⟨false,⟨#[]⟩,true,0⟩,l):=by simp only [Z1C];rw [if_pos h1]
  rw [e]
  have HS:=Z0a (fun ob=>Z1Q (w.alloc ob) B pb b line t l ⟨#[36]⟩ (hpk ob) h1 (by decide))
  clear h e hbw hpk
  go_enter Tryz.func280,Tryz.ntmps280
  go_wp2_with fail
  refine (HS.out _).mono ?_
  rintro e w1 ⟨rfl,hp1,hg1⟩
  have HP:=Z0a hp1
  have hz:=hg1.size
  have q0:w1.cell? ⟨w.heap.size,0,none⟩=some (.bool false):=by rw [Z0D hg1 _ (by simp) (by simp;omega)];simp
  have q1:w1.cell? ⟨w.heap.size,1,none⟩=some (.string ⟨#[]⟩):=by rw [Z0D hg1 _ (by simp) (by simp;omega)];simp
  have q2:w1.cell? ⟨w.heap.size,2,none⟩=some (.bool false):=by rw [Z0D hg1 _ (by simp) (by simp;omega)];simp
  have q3:w1.cell? ⟨w.heap.size,3,none⟩=some (.int .i64 0):=by rw [Z0D hg1 _ (by simp) (by simp;omega)];simp
  have f0:w1.frozen? ⟨w.heap.size,0,none⟩=false:=by rw [Z0w hg1 _ (by simp) (by simp;omega)];simp
  have f1:w1.frozen? ⟨w.heap.size,1,none⟩=false:=by rw [Z0w hg1 _ (by simp) (by simp;omega)];simp
  have f2:w1.frozen? ⟨w.heap.size,2,none⟩=false:=by rw [Z0w hg1 _ (by simp) (by simp;omega)];simp
  have f3:w1.frozen? ⟨w.heap.size,3,none⟩=false:=by rw [Z0w hg1 _ (by simp) (by simp;omega)];simp
  have hzz:w.heap.size<w1.heap.size:=by simp at hz;omega
  clear hp1
  go_wp2_with fail
  refine bodyPost_ret (v:=trmV ⟨false,⟨#[]⟩,true,0⟩) (by simp [results,Tryz.results280,go_sem,trmV,q0,q1,q2,q3]) rfl ⟨rfl,?_,?_⟩
  ·have hle:=HP.out.le
   refine HP.out.kept ?_
   repeat (first | exact Below.refl _ _ | refine Below.setCell ?_ (by simpa using HLE.out) _)
  ·repeat (first | exact (Z0j (HW.out _)).trans2 hg1 | refine grown_fresh ?_ (by simp) _)
 ·have HS:=Z0a (fun ob=>Z24 (w.alloc ob) B pb b line t l ⟨#[36]⟩ (hpk ob) h1)
  obtain ⟨g,off,cap,k1,k2,k2',k3,k4,k5'⟩:=h.tk
  have k5:g<w.heap.size:=Nat.lt_of_lt_of_le k5' h.le
  have t0:=k3.1
  have hp:(0:Int)<(l.length:Int)+1:=by omega
  have hfd:=tok_num
  by_cases h2:t.kind=2
  ·have e:Z1C (t :: l)=some (⟨false,⟨#[]⟩,false,t.num⟩,l):=by simp only [Z1C];rw [if_neg h1,if_pos h2]
   rw [e]
   have HN:=Z0a (fun ob=>Z5t (w.alloc ob) B pb b line t l (hpk ob) (Z5N h.last (by omega)))
   unfold tokV at HN
   have i2:((t.kind:Int) == 2)=true:=by simp [h2]
   clear h e hbw hpk
   go_enter Tryz.func280,Tryz.ntmps280
   go_wp2_with fail
   refine (HS.out _).mono ?_
   rintro e w0 ⟨rfl,hw0⟩
   rw [hw0]
   clear hw0 w0
   go_wp2_with fail
   refine (HN.out _).mono ?_
   rintro e w1 ⟨rfl,hp1,hg1⟩
   have HP:=Z0a hp1
   have hz:=hg1.size
   have q0:w1.cell? ⟨w.heap.size,0,none⟩=some (.bool false):=by rw [Z0D hg1 _ (by simp) (by simp;omega)];simp
   have q1:w1.cell? ⟨w.heap.size,1,none⟩=some (.string ⟨#[]⟩):=by rw [Z0D hg1 _ (by simp) (by simp;omega)];simp
   have q2:w1.cell? ⟨w.heap.size,2,none⟩=some (.bool false):=by rw [Z0D hg1 _ (by simp) (by simp;omega)];simp
   have q3:w1.cell? ⟨w.heap.size,3,none⟩=some (.int .i64 0):=by rw [Z0D hg1 _ (by simp) (by simp;omega)];simp
   have f0:w1.frozen? ⟨w.heap.size,0,none⟩=false:=by rw [Z0w hg1 _ (by simp) (by simp;omega)];simp
   have f1:w1.frozen? ⟨w.heap.size,1,none⟩=false:=by rw [Z0w hg1 _ (by simp) (by simp;omega)];simp
   have f2:w1.frozen? ⟨w.heap.size,2,none⟩=false:=by rw [Z0w hg1 _ (by simp) (by simp;omega)];simp
   have f3:w1.frozen? ⟨w.heap.size,3,none⟩=false:=by rw [Z0w hg1 _ (by simp) (by simp;omega)];simp
   have hzz:w.heap.size<w1.heap.size:=by simp at hz;omega
   clear hp1
   go_wp2_with fail
   refine bodyPost_ret (v:=trmV ⟨false,⟨#[]⟩,false,t.num⟩) (by simp [results,Tryz.results280,go_sem,trmV,q0,q1,q2,q3]) rfl ⟨rfl,?_,?_⟩
   ·have hle:=HP.out.le
    refine HP.out.kept ?_
    repeat (first | exact Below.refl _ _ | refine Below.setCell ?_ (by simpa using HLE.out) _)
   ·repeat (first | exact (Z0j (HW.out _)).trans2 hg1 | refine grown_fresh ?_ (by simp) _)
  ·have i2:((t.kind:Int) == 2)=false:=by simp;omega
   have hsz:t.text.size≤1000000:=Nat.le_trans (h.sz t (by simp)) (by omega)
   by_cases h3:t.kind=1∧Z0H t.text.data.toList=true
   ·have e:Z1C (t :: l)=some (⟨false,t.text,false,0⟩,l):=by simp only [Z1C];rw [if_neg h1,if_neg h2,if_pos h3]
    rw [e]
    have HN:=Z0a (fun ob=>name_yes (w.alloc ob) B pb b line t l (hpk ob) (hb.below (hbw ob)) ha hsz h3.1 h3.2)
    clear h e hbw hpk
    go_enter Tryz.func280,Tryz.ntmps280
    go_wp2_with fail
    refine (HS.out _).mono ?_
    rintro e w0 ⟨rfl,hw0⟩
    rw [hw0]
    clear hw0 w0
    go_wp2_with fail
    refine (HN.out _).mono ?_
    rintro e w1 ⟨rfl,hp1,hg1⟩
    have HP:=Z0a hp1
    have hz:=hg1.size
    have q0:w1.cell? ⟨w.heap.size,0,none⟩=some (.bool false):=by rw [Z0D hg1 _ (by simp) (by simp;omega)];simp
    have q1:w1.cell? ⟨w.heap.size,1,none⟩=some (.string ⟨#[]⟩):=by rw [Z0D hg1 _ (by simp) (by simp;omega)];simp
    have q2:w1.cell? ⟨w.heap.size,2,none⟩=some (.bool false):=by rw [Z0D hg1 _ (by simp) (by simp;omega)];simp
    have q3:w1.cell? ⟨w.heap.size,3,none⟩=some (.int .i64 0):=by rw [Z0D hg1 _ (by simp) (by simp;omega)];simp
    have f0:w1.frozen? ⟨w.heap.size,0,none⟩=false:=by rw [Z0w hg1 _ (by simp) (by simp;omega)];simp
    have f1:w1.frozen? ⟨w.heap.size,1,none⟩=false:=by rw [Z0w hg1 _ (by simp) (by simp;omega)];simp
    have f2:w1.frozen? ⟨w.heap.size,2,none⟩=false:=by rw [Z0w hg1 _ (by simp) (by simp;omega)];simp
    have f3:w1.frozen? ⟨w.heap.size,3,none⟩=false:=by rw [Z0w hg1 _ (by simp) (by simp;omega)];simp
    have hzz:w.heap.size<w1.heap.size:=by simp at hz;omega
    clear hp1
    go_wp2_with fail
    refine bodyPost_ret (v:=trmV ⟨false,t.text,false,0⟩) (by simp [results,Tryz.results280,go_sem,trmV,q0,q1,q2,q3]) rfl ⟨rfl,?_,?_⟩
    ·have hle:=HP.out.le
     refine HP.out.kept ?_
     repeat (first | exact Below.refl _ _ | refine Below.setCell ?_ (by simpa using HLE.out) _)
    ·repeat (first | exact (Z0j (HW.out _)).trans2 hg1 | refine grown_fresh ?_ (by simp) _)
   ·have e:Z1C (t :: l)=none:=by simp only [Z1C];rw [if_neg h1,if_neg h2,if_neg h3]
    rw [e]
    have hn:t.kind≠1∨Z0H t.text.data.toList=false:=by
     by_cases hk:t.kind=1
     ·right
      cases ho:Z0H t.text.data.toList with
      | true=>exact absurd ⟨hk,ho⟩ h3
      | false=>rfl
     ·exact .inl hk
    have HN:=Z0a (fun ob=>name_no (w.alloc ob) B pb b line t l (hpk ob) (hb.below (hbw ob)) ha hsz hn)
    clear h e hbw hpk
    go_enter Tryz.func280,Tryz.ntmps280
    go_wp2_with fail
    refine (HS.out _).mono ?_
    rintro e w0 ⟨rfl,hw0⟩
    rw [hw0]
    clear hw0 w0
    go_wp2_with fail
    refine (HN.out _).mono ?_
    rintro e w1 ⟨rfl,hg1⟩
    unfold synE
    go_wp2_with fail
    exact ⟨rfl,rfl,(Z0j (HW.out _)).trans2 hg1⟩
def Z0i (l:List Trm):List Value:=l.flatMap Trm.cells
theorem Z4w (l:List Trm)(t:Trm):Z0i (l ++ [t])=Z0i l++t.cells:=by simp [Z0i]
def Z11:Nat→List Trm→List Tok→Option (List Trm × List Tok)
 | 0,acc,ts=>some (acc,ts)
 | _+1,_,[]=>none
 | f+1,acc,t :: l =>
  if t.text=⟨#[45]⟩ then (Z1C l).bind fun x=>Z11 f (acc ++ [{ x.1 with minus:=true }]) x.2
  else if t.text=⟨#[43]⟩ then (Z1C l).bind fun x=>Z11 f (acc ++ [{ x.1 with minus:=false }]) x.2
  else some (acc,t :: l)
def Z1M (ts:List Tok):Option (List Trm × List Tok):=(Z1C ts).bind fun x=>Z11 x.2.length [x.1] x.2
def Z6s (w:World) (pb:Nat):Nat:=match w.cell? ⟨pb,5,none⟩ with
 | some (.slice _ n _)=>n
 | _=>0
theorem PS.left {w:World}{B pb:Nat}{b:Bk}{line:Int}{ts:List Tok}(h:PS w B pb b line ts):Z6s w pb=ts.length:=by
 obtain ⟨g,off,cap,h1,_⟩:=h.tk
 unfold Z6s
 rw [h1]
theorem Z2U {w w':World}{base r:Nat}{e:TypeId}{size n:Nat}{v:Value}{xs:List Value}(h:w.ownsRow base e size v n xs)(hg:w.grownBy w' (some r))(hr:r<base):w'.ownsRow base e size v n xs:=by
 obtain ⟨h1,h2 | ⟨g,cap,cur,rfl,hg1,h3⟩⟩:=id h
 ·exact ⟨h1,.inl h2⟩
 ·exact h.kept hg (.inr (by simp [Value.ownBlock];omega))
theorem Z1q {ts:List Tok}{x:Trm}{l:List Tok}(h:Z1C ts=some (x,l)):ts.length=l.length+1:=by
 cases ts with
 | nil=>simp [Z1C] at h
 | cons t ts =>
  simp only [Z1C] at h
  split at h
  ·cases h;simp
  ·split at h
   ·cases h;simp
   ·split at h
    ·cases h;simp
    ·cases h
theorem Tryz.infoTrm:(Tryz.prog.info? 261).map (fun i=>(i.zero,i.size,i.bytes))=some (some (.agg #[.bool false,.string ⟨#[]⟩,.bool false,.int .i64 0]),4,40):=by kernel_rfl
theorem trm_one {a:Bool}{s:ByteArray}{c:Bool}{n:Int}:∀ u∈[Value.bool a,.string s,.bool c,.int .i64 n],u.oneCell'=true:=by
 intro u hu
 simp at hu
 rcases hu with rfl | rfl | rfl | rfl <;> rfl
theorem Z5K {f:Nat}{acc:List Trm}{t:Tok}{l:List Tok}(h:t.text=⟨#[45]⟩):Z11 (f+1) acc (t :: l)=(Z1C l).bind fun x=>Z11 f (acc ++ [{ x.1 with minus:=true }]) x.2:=by simp only [Z11];rw [if_pos h]
theorem Z7c {f:Nat}{acc:List Trm}{t:Tok}{l:List Tok}(h:¬ t.text=⟨#[45]⟩)(h2:t.text=⟨#[43]⟩):Z11 (f+1) acc (t :: l)=(Z1C l).bind fun x=>Z11 f (acc ++ [{ x.1 with minus:=false }]) x.2:=by simp only [Z11];rw [if_neg h,if_pos h2]
theorem pRest_end {f:Nat}{acc:List Trm}{t:Tok}{l:List Tok}(h:¬ t.text=⟨#[45]⟩)(h2:¬ t.text=⟨#[43]⟩):Z11 (f+1) acc (t :: l)=some (acc,t :: l):=by simp only [Z11];rw [if_neg h,if_neg h2]
def EEnd (w:World) (B pb:Nat) (b:Bk) (line:Int) (o:Option (List Trm × List Tok)) (e:Ending) (w':World):Prop :=
 match o with
 | some (x,l)=>∃ v,e=.returned v∧w'.ownsRow w.heap.size 261 4 v x.length (Z0i x)∧PS w' B pb b line l∧w.grownBy w' (some pb)
 | none=>e=synE line∧w.grownBy w' (some pb)
theorem Z1i (w:World)(B pb:Nat)(b:Bk)(line:Int)(ts:List Tok)(h:PS w B pb b line ts)(hb:BookAt w b)(ha:Apart B pb b)(hn:ts.length≤1000000) :
  Calls Tryz.prog 250 #[.pointer (some ⟨pb,0,none⟩)] w (EEnd w B pb b line (Z1M ts)):=by
 obtain ⟨i0,hi,hz0,hz1,hz2⟩:=info_parts Tryz.infoTrm
 have hlt:pb<w.heap.size:=Nat.lt_of_lt_of_le h.lt h.le
 have HBW:=Z0a hb
 have hBW:=h.le
 obtain ⟨R,hR⟩:∃ R,Z1M ts=R:=⟨_,rfl⟩
 rw [hR]
 have hterm:=Z7P w B pb b line ts h hb ha
 cases ht:Z1C ts with
 | none =>
  have e:R=none:=by rw [←hR];unfold Z1M;rw [ht];rfl
  rw [e]
  rw [ht] at hterm
  have HT:=Z0a hterm
  clear hterm h hb
  go_enter Tryz.func250,Tryz.ntmps250
  go_wp2_with fail
  refine HT.out.mono ?_
  rintro e w1 ⟨rfl,hg1⟩
  unfold synE
  go_wp2_with fail
  exact ⟨rfl,rfl,hg1⟩
 | some xl =>
  obtain ⟨x,l⟩:=xl
  have e:Z11 l.length [x] l=R:=by rw [←hR];unfold Z1M;rw [ht];rfl
  rw [ht] at hterm
  have hll:=Z1q ht
  have HE:=Z0a e
  have HT:=Z0a hterm
  clear hterm h hb e hR ht
  go_enter Tryz.func250,Tryz.ntmps250
  go_wp2_with fail
  refine HT.out.mono ?_
  rintro e w1 ⟨rfl,hp1,hg1⟩
  have HP:=Z0a hp1
  have hz:=hg1.size
  unfold trmV
  clear hp1
  go_wp2_with fail
  have hrow1:(w1.alloc (.cells #[.bool x.minus,.string x.name,.bool x.here,.int .i64 x.num] 261)).ownsRow w.heap.size 261 4 (.slice (some ⟨w1.heap.size,0,none⟩) 1 1) 1 (Z0i [x]) :=
   World.ownsRow_lit w1 #[.bool x.minus,.string x.name,.bool x.here,.int .i64 x.num] 1 hz (by decide) rfl
  have HLE:=Z0a (show B≤w.heap.size from hBW)
  go_loopw [3] (fun v wr=>∃ (acc:List Trm) (l2:List Tok) (f:Nat),l2.length≤f∧acc.length+l2.length≤1000000∧Hid (Z11 f acc l2=R)∧wr.ownsRow w.heap.size 261 4 v acc.length (Z0i acc)∧PS wr B pb b line l2∧w.grownBy wr (some pb)) (fun _ wr=>Z6s wr pb)
  case atStart =>
   exact ⟨[x],l,l.length,Nat.le_refl _,by simp;omega,Z0a HE.out,hrow1,HP.out.kept ((Below.refl _ _).alloc (Nat.le_trans HLE.out hz) _),Z5R hg1 _⟩
  case round =>
   obtain ⟨acc,l1,f,hf,hal,HE2,hrow,hps1,hgr⟩:=hrel
   obtain ⟨t,l2,rfl⟩:=hps1.ne
   have hlf0:=hps1.left
   have HLF0:=Z0a hlf0
   have hzr:=hgr.size
   clear hlf0 HE HP HT hrow1
   obtain ⟨f',rfl⟩:∃ f',f=f'+1:=⟨f-1,by simp at hf;omega⟩
   simp at hf hal
   by_cases h1:t.text=⟨#[45]⟩
   ·have HS:=Z0a (Z1Q wr B pb b line t l2 ⟨#[45]⟩ hps1 h1 (by decide))
    clear hps1
    go_wp2_with fail
    refine HS.out.mono ?_
    rintro e w2 ⟨rfl,hp2,hg2⟩
    have hterm:=Z7P w2 B pb b line l2 hp2 (HBW.out.kept (hgr.trans2 hg2) ha.h1 ha.h2 ha.h3) ha
    cases ht:Z1C l2 with
    | none =>
     have e:R=none:=by rw [←HE2.out,Z5K h1,ht];rfl
     have HEN:=Z0a e
     rw [ht] at hterm
     have HT2:=Z0a hterm
     clear hterm hp2 ht e
     go_wp2_with fail
     refine HT2.out.mono ?_
     rintro e w3 ⟨rfl,hg3⟩
     unfold synE
     go_wp2_with fail
     rw [HEN.out]
     exact ⟨rfl,rfl,(hgr.trans2 hg2).trans2 hg3⟩
    | some yl =>
     obtain ⟨y,l3⟩:=yl
     have e:Z11 f' (acc ++ [{ y with minus:=true }]) l3=R:=by rw [←HE2.out,Z5K h1,ht];rfl
     have HEN:=Z0a e
     have hl3:=Z1q ht
     rw [ht] at hterm
     have HT2:=Z0a hterm
     clear hterm hp2 ht e
     go_wp2_with fail
     refine HT2.out.mono ?_
     rintro e w3 ⟨rfl,hp3,hg3⟩
     have HP3:=Z0a hp3
     have hz3:=hg3.size
     have hgg:=(hgr.trans2 hg2).trans2 hg3
     have hrow3:w3.ownsRow w.heap.size 261 4 u3 acc.length (Z0i acc):=Z2U (Z2U hrow hg2 hlt) hg3 hlt
     unfold trmV
     clear hp3
     go_wp2_with (at_builtin;refine wpList_append_own _ rfl _ _ 259 rfl w.heap.size 261 i0 _ 4 40 Tryz.underlying259 hi hz0 hz1 hz2 rfl (by decide) _ _ _ rfl ((hrow3.alloc _).alloc _) ⟨w3.heap.size+1,0,none⟩ 1 1 [.bool true,.string y.name,.bool y.here,.int .i64 y.num] rfl rfl ?c1 ?c2 ?c3 ?c4 ?c5 ?_)
     case c1 =>
      intro j u hj
      match j,hj with
      | 0,hj=>simp at hj;subst hj;simp [Addr.add]
      | 1,hj=>simp at hj;subst hj;simp [Addr.add]
      | 2,hj=>simp at hj;subst hj;simp [Addr.add]
      | 3,hj=>simp at hj;subst hj;simp [Addr.add]
     case c2=>exact trm_one
     case c3=>unfold maxLen;omega
     case c4=>omega
     case c5=>have:=hgg.size;simp;omega
     intro v' wn hown' hgrow _
     have hzw:=hgg.size
     have hle:=HP3.out.le
     have hB:=HP3.out.lt
     have hbn:Below w.heap.size w3 wn:=(((Below.refl _ _).alloc hzw _).alloc (by simp;omega) _).grown hgrow (by simp;omega) (Z6H hrow3)
     have hgn:w.grownBy wn (some pb):=⟨hbn.os.trans hgg.os,hbn.tape.trans hgg.tape,hbn.output.trans hgg.output,Nat.le_trans hgg.size hbn.size,fun k hk hne=>(hbn.block k hk).trans (hgg.block k hk hne)⟩
     have hrn':wn.ownsRow w.heap.size 261 4 v' (acc ++ [{ y with minus:=true }]).length (Z0i (acc ++ [{ y with minus:=true }])):=by
      rw [Z4w,List.length_append]
      exact hown'
     have hps:PS wn B pb b line l3:=HP3.out.kept (hbn.mono HLE.out)
     have hlf:=hps.left
     have HLF:=Z0a hlf
     clear hown' hgrow hlf
     go_wp2
     go_roundw
     case rel=>exact ⟨acc ++ [{ y with minus:=true }],l3,f',by omega,by simp;omega,Z0a HEN.out,hrn',hps,hgn⟩
     case measure=>rw [HLF.out,HLF0.out];simp;omega
   ·have HS:=Z0a (Z24 wr B pb b line t l2 ⟨#[45]⟩ hps1 h1)
    by_cases h2:t.text=⟨#[43]⟩
    ·have HS2:=Z0a (Z1Q wr B pb b line t l2 ⟨#[43]⟩ hps1 h2 (by decide))
     clear hps1
     go_wp2_with fail
     refine HS.out.mono ?_
     rintro e w0 ⟨rfl,hw0⟩
     rw [hw0]
     clear hw0 w0
     go_wp2_with fail
     refine HS2.out.mono ?_
     rintro e w2 ⟨rfl,hp2,hg2⟩
     have hterm:=Z7P w2 B pb b line l2 hp2 (HBW.out.kept (hgr.trans2 hg2) ha.h1 ha.h2 ha.h3) ha
     cases ht:Z1C l2 with
     | none =>
      have e:R=none:=by rw [←HE2.out,Z7c h1 h2,ht];rfl
      have HEN:=Z0a e
      rw [ht] at hterm
      have HT2:=Z0a hterm
      clear hterm hp2 ht e
      go_wp2_with fail
      refine HT2.out.mono ?_
      rintro e w3 ⟨rfl,hg3⟩
      unfold synE
      go_wp2_with fail
      rw [HEN.out]
      exact ⟨rfl,rfl,(hgr.trans2 hg2).trans2 hg3⟩
     | some yl =>
      obtain ⟨y,l3⟩:=yl
      have e:Z11 f' (acc ++ [{ y with minus:=false }]) l3=R:=by rw [←HE2.out,Z7c h1 h2,ht];rfl
      have HEN:=Z0a e
      have hl3:=Z1q ht
      rw [ht] at hterm
      have HT2:=Z0a hterm
      clear hterm hp2 ht e
      go_wp2_with fail
      refine HT2.out.mono ?_
      rintro e w3 ⟨rfl,hp3,hg3⟩
      have HP3:=Z0a hp3
      have hz3:=hg3.size
      have hgg:=(hgr.trans2 hg2).trans2 hg3
      have hrow3:w3.ownsRow w.heap.size 261 4 u3 acc.length (Z0i acc):=Z2U (Z2U hrow hg2 hlt) hg3 hlt
      unfold trmV
      clear hp3
      go_wp2_with (at_builtin;refine wpList_append_own _ rfl _ _ 259 rfl w.heap.size 261 i0 _ 4 40 Tryz.underlying259 hi hz0 hz1 hz2 rfl (by decide) _ _ _ rfl ((hrow3.alloc _).alloc _) ⟨w3.heap.size+1,0,none⟩ 1 1 [.bool false,.string y.name,.bool y.here,.int .i64 y.num] rfl rfl ?c1 ?c2 ?c3 ?c4 ?c5 ?_)
      case c1 =>
       intro j u hj
       match j,hj with
       | 0,hj=>simp at hj;subst hj;simp [Addr.add]
       | 1,hj=>simp at hj;subst hj;simp [Addr.add]
       | 2,hj=>simp at hj;subst hj;simp [Addr.add]
       | 3,hj=>simp at hj;subst hj;simp [Addr.add]
      case c2=>exact trm_one
      case c3=>unfold maxLen;omega
      case c4=>omega
      case c5=>have:=hgg.size;simp;omega
      intro v' wn hown' hgrow _
      have hzw:=hgg.size
      have hle:=HP3.out.le
      have hB:=HP3.out.lt
      have hbn:Below w.heap.size w3 wn:=(((Below.refl _ _).alloc hzw _).alloc (by simp;omega) _).grown hgrow (by simp;omega) (Z6H hrow3)
      have hgn:w.grownBy wn (some pb):=⟨hbn.os.trans hgg.os,hbn.tape.trans hgg.tape,hbn.output.trans hgg.output,Nat.le_trans hgg.size hbn.size,fun k hk hne=>(hbn.block k hk).trans (hgg.block k hk hne)⟩
      have hrn':wn.ownsRow w.heap.size 261 4 v' (acc ++ [{ y with minus:=false }]).length (Z0i (acc ++ [{ y with minus:=false }])):=by
       rw [Z4w,List.length_append]
       exact hown'
      have hps:PS wn B pb b line l3:=HP3.out.kept (hbn.mono HLE.out)
      have hlf:=hps.left
      have HLF:=Z0a hlf
      clear hown' hgrow hlf
      go_wp2
      go_roundw
      case rel=>exact ⟨acc ++ [{ y with minus:=false }],l3,f',by omega,by simp;omega,Z0a HEN.out,hrn',hps,hgn⟩
      case measure=>rw [HLF.out,HLF0.out];simp;omega
    ·have HS2:=Z0a (Z24 wr B pb b line t l2 ⟨#[43]⟩ hps1 h2)
     have e:R=some (acc,t :: l2):=by rw [←HE2.out,pRest_end h1 h2]
     have HEN:=Z0a e
     have HPS:=Z0a hps1
     clear hps1 e
     go_wp2_with fail
     refine HS.out.mono ?_
     rintro e w0 ⟨rfl,hw0⟩
     rw [hw0]
     clear hw0 w0
     go_wp2_with fail
     refine HS2.out.mono ?_
     rintro e w0 ⟨rfl,hw0⟩
     rw [hw0]
     clear hw0 w0
     go_wp2_with fail
     go_ret
     rw [HEN.out]
     exact ⟨_,rfl,hrow,HPS.out,hgr⟩
def numT (n:Int):Trm:=⟨false,⟨#[]⟩,false,n⟩
theorem Z1z (k n:Int)(w:World) :
  Calls Tryz.prog 279 #[.agg #[.int .i64 k,.int .i64 n]] w fun e w'=>∃ v,e=.returned v∧w'.ownsRow w.heap.size 261 4 v 1 (Z0i [numT n])∧Below w.heap.size w w':=by
 go_enter Tryz.func279,Tryz.ntmps279
 go_wp2_with fail
 go_ret
 have hr:=World.ownsRow_lit (base:=w.heap.size) (e:=261) (size:=4) (w.alloc (.cells #[.int .i64 k,.int .i64 n] 324)) #[.bool false,.string ⟨#[]⟩,.bool false,.int .i64 n] 1 (by simp) (by decide) rfl
 refine ⟨_,rfl,?_,((Below.refl _ _).alloc (Nat.le_refl _) _).alloc (by simp) _⟩
 rw [show (w.alloc (.cells #[.int .i64 k,.int .i64 n] 324)).heap.size=w.heap.size+1 by simp] at hr
 exact hr
def Z2I (tx:ByteArray) (l:List Tok):Option ((Nat × List Trm) × List Tok):=(fixO tx.data.toList).map fun x=>((x.1,[numT x.2]),l)
def pAt:List Tok→Option ((Nat × List Trm) × List Tok)
 | []=>none
 | [_]=>none
 | t :: u :: l =>
  if t.kind=1 then
   (if u.text=⟨#[43]⟩ then
    (match l with
    | []=>none
    | v :: l3=>if v.kind=1 then Z2I ((⟨#[64]⟩ ++ t.text)++(⟨#[43]⟩ ++ v.text)) l3 else none)
   else Z2I (⟨#[64]⟩ ++ t.text) (u :: l))
  else none
def OEnd (w:World) (B pb:Nat) (b:Bk) (line:Int) (o:Option ((Nat × List Trm) × List Tok)) (e:Ending) (w':World):Prop :=
 match o with
 | some (x,l)=>∃ v,e=.returned (.tuple #[.int .i64 x.1,v])∧w'.ownsRow w.heap.size 261 4 v x.2.length (Z0i x.2)∧PS w' B pb b line l∧w.grownBy w' (some pb)
 | none=>e=synE line∧w.grownBy w' (some pb)
theorem pAt_no {t u:Tok}{l:List Tok}(h:¬ t.kind=1):pAt (t :: u :: l)=none:=by simp only [pAt];rw [if_neg h]
theorem pAt_one {t u:Tok}{l:List Tok}(h:t.kind=1)(h2:¬ u.text=⟨#[43]⟩):pAt (t :: u :: l)=Z2I (⟨#[64]⟩ ++ t.text) (u :: l):=by simp only [pAt];rw [if_pos h,if_neg h2]
theorem pAt_bad {t u v:Tok}{l:List Tok}(h:t.kind=1)(h2:u.text=⟨#[43]⟩)(h3:¬ v.kind=1):pAt (t :: u :: v :: l)=none:=by simp only [pAt];rw [if_pos h,if_pos h2,if_neg h3]
theorem pAt_two {t u v:Tok}{l:List Tok}(h:t.kind=1)(h2:u.text=⟨#[43]⟩)(h3:v.kind=1):pAt (t :: u :: v :: l)=Z2I ((⟨#[64]⟩ ++ t.text)++(⟨#[43]⟩ ++ v.text)) l:=by simp only [pAt];rw [if_pos h,if_pos h2,if_pos h3]
theorem at_size (t:ByteArray):((⟨#[64]⟩:ByteArray)++t).size=t.size+1:=by rw [ByteArray.size_append];show 1+t.size=_;omega
theorem plus_size (t:ByteArray):((⟨#[43]⟩:ByteArray)++t).size=t.size+1:=by rw [ByteArray.size_append];show 1+t.size=_;omega
theorem behindAt_any (w:World)(B pb:Nat)(b:Bk)(line:Int)(ts:List Tok)(h:PS w B pb b line ts)(hb:BookAt w b)(ha:Apart B pb b)(hss:∀ t∈ts,t.text.size≤400000) :
  Calls Tryz.prog 278 #[.pointer (some ⟨pb,0,none⟩)] w (OEnd w B pb b line (pAt ts)):=by
 obtain ⟨t,l,rfl⟩:=h.ne
 have HBW:=Z0a hb
 have hlt:pb<w.heap.size:=Nat.lt_of_lt_of_le h.lt h.le
 obtain ⟨R,hR⟩:∃ R,pAt (t :: l)=R:=⟨_,rfl⟩
 rw [hR]
 have HR:=Z0a hR
 clear hR
 have hst:=hss t (by simp)
 by_cases hk:t.kind=1
 ·have hl:=Z5N h.last (by omega)
  obtain ⟨u,l2,rfl⟩:∃ u l2,l=u :: l2:=by
   cases l with
   | nil=>exact absurd rfl hl
   | cons u l2=>exact ⟨u,l2,rfl⟩
  have HW:=Z0a (Z1P w B pb b line t (u :: l2) h hk)
  have hsu:=hss u (by simp)
  have hadd:∀ w,(Op.stringOp .add ⟨#[64]⟩ t.text).run Tryz.prog w=.ok (.string (⟨#[64]⟩ ++ t.text)) w:=fun w=>run_string_add_sum w _ _ (by show 1+t.text.size≤_;omega)
  clear h hb
  by_cases h2:u.text=⟨#[43]⟩
  ·go_enter Tryz.func278,Tryz.ntmps278
   go_wp2_with fail
   refine HW.out.mono ?_
   rintro e w1 ⟨rfl,hp1,hg1⟩
   have HS:=Z0a (Z1Q w1 B pb b line u l2 ⟨#[43]⟩ hp1 h2 (by decide))
   clear hp1
   go_wp2_with fail
   refine HS.out.mono ?_
   rintro e w2 ⟨rfl,hp2,hg2⟩
   obtain ⟨v,l3,rfl⟩:=hp2.ne
   have hsv:=hss v (by simp)
   by_cases h3:v.kind=1
   ·have HW2:=Z0a (Z1P w2 B pb b line v l3 hp2 h3)
    have hadd2:∀ w,(Op.stringOp .add ⟨#[43]⟩ v.text).run Tryz.prog w=.ok (.string (⟨#[43]⟩ ++ v.text)) w:=fun w=>run_string_add_sum w _ _ (by show 1+v.text.size≤_;omega)
    have hadd3:∀ w,(Op.stringOp .add (⟨#[64]⟩ ++ t.text) (⟨#[43]⟩ ++ v.text)).run Tryz.prog w=.ok (.string ((⟨#[64]⟩ ++ t.text)++(⟨#[43]⟩ ++ v.text))) w:=fun w=>run_string_add_sum w _ _ (by rw [at_size,plus_size];omega)
    clear hp2
    go_wp2_with fail
    refine HW2.out.mono ?_
    rintro e w3 ⟨rfl,hpf,hg3⟩
    have hgf:=(hg1.trans2 hg2).trans2 hg3
    have hbk:=HBW.out.kept hgf ha.h1 ha.h2 ha.h3
    have HFX:=Z0a (Z3z w3 b (((⟨#[64]⟩:ByteArray)++t.text)++(⟨#[43]⟩ ++ v.text)) hbk (by rw [ByteArray.size_append,at_size,plus_size];omega))
    unfold bkV at HFX
    have d0:=hpf.c0
    have d1:=hpf.c1
    have d2:=hpf.c2
    have HPF:=Z0a hpf
    have hlef:=hpf.le
    clear hpf hbk
    cases hfo:fixO (((⟨#[64]⟩:ByteArray)++t.text)++(⟨#[43]⟩ ++ v.text)).data.toList with
    | none =>
     have e:R=none:=by rw [←HR.out,pAt_two hk h2 h3];unfold Z2I;rw [hfo];rfl
     have HEN:=Z0a e
     rw [hfo] at HFX
     simp only [fixR,fixV] at HFX
     clear hfo e
     go_wp2_with fail
     refine HFX.out.mono ?_
     rintro e wx ⟨rfl,hbx⟩
     have hzx:=hbx.size
     go_wp2_with fail
     refine (Z05 _ B pb b line l3 ((HPF.out.kept (hbx.mono hlef)).kept ((Below.refl _ _).alloc (Nat.le_trans hlef hzx) _))).mono ?_
     rintro e wy ⟨rfl,rfl⟩
     unfold synE
     go_wp2_with fail
     rw [HEN.out]
     exact ⟨rfl,rfl,hgf.trans2 (Z0j (hbx.alloc hzx _))⟩
    | some y =>
     obtain ⟨k,n⟩:=y
     have e:R=some ((k,[numT n]),l3):=by rw [←HR.out,pAt_two hk h2 h3];unfold Z2I;rw [hfo];rfl
     have HEN:=Z0a e
     rw [hfo] at HFX
     simp only [fixR,fixV] at HFX
     clear hfo e
     go_wp2_with fail
     refine HFX.out.mono ?_
     rintro e wx ⟨rfl,hbx⟩
     have hzx:=hbx.size
     go_wp2_with fail
     go_region_with (go_at_call 279;refine (Z1z _ _ _).mono ?_;rintro e wy ⟨v,rfl,hrowy,hby⟩;have m0:wy.cell? ⟨wx.heap.size,0,none⟩=some (.int .i64 k):=(by rw [hby.cell (by simp)];simp);have m1:wy.cell? ⟨wx.heap.size,1,none⟩=some (.int .i64 n):=(by rw [hby.cell (by simp)];simp))
     all_goals
      have hby':Below wx.heap.size wx wy:=(((Below.refl _ _).alloc (Nat.le_refl _) _).drew).trans (hby.mono (B':=wx.heap.size) (by simp))
      have hbz:Below (w3).heap.size (w3) wy:=hbx.trans (hby'.mono hzx)
      have hsz0:=hgf.size
      have hrowz:=Z0K hrowy (base':=w.heap.size) (by simp;omega)
      have HZ:=Z0a (And.intro hrowz hbz)
      clear hrowy hby hby' hrowz hbz m0 m1
      go_wp2_with fail
      go_ret2
      rw [HEN.out]
      exact ⟨_,rfl,HZ.out.1,HPF.out.kept (HZ.out.2.mono hlef),hgf.trans2 (Z0j HZ.out.2)⟩
   ·have HW2:=Z0a (Z6p w2 B pb b line v l3 hp2 h3)
    have e:R=none:=by rw [←HR.out,pAt_bad hk h2 h3]
    have HEN:=Z0a e
    clear hp2 e
    go_wp2_with fail
    refine HW2.out.mono ?_
    rintro e w3 ⟨rfl,rfl⟩
    unfold synE
    go_wp2_with fail
    rw [HEN.out]
    exact ⟨rfl,rfl,hg1.trans2 hg2⟩
  ·go_enter Tryz.func278,Tryz.ntmps278
   go_wp2_with fail
   refine HW.out.mono ?_
   rintro e w1 ⟨rfl,hpf,hg1⟩
   have HS:=Z0a (Z24 w1 B pb b line u l2 ⟨#[43]⟩ hpf h2)
   have hgf:=hg1
   have HPF0:=Z0a hpf
   clear hpf
   go_wp2_with fail
   refine HS.out.mono ?_
   rintro e w2 ⟨rfl,hw2⟩
   rw [hw2]
   clear hw2 w2
   have hpf:=HPF0.out
   have hbk:=HBW.out.kept hgf ha.h1 ha.h2 ha.h3
   have HFX:=Z0a (Z3z w1 b ((⟨#[64]⟩:ByteArray)++t.text) hbk (by rw [at_size];omega))
   unfold bkV at HFX
   have d0:=hpf.c0
   have d1:=hpf.c1
   have d2:=hpf.c2
   have HPF:=Z0a hpf
   have hlef:=hpf.le
   clear hpf hbk
   cases hfo:fixO ((⟨#[64]⟩:ByteArray)++t.text).data.toList with
   | none =>
    have e:R=none:=by rw [←HR.out,pAt_one hk h2];unfold Z2I;rw [hfo];rfl
    have HEN:=Z0a e
    rw [hfo] at HFX
    simp only [fixR,fixV] at HFX
    clear hfo e
    go_wp2_with fail
    refine HFX.out.mono ?_
    rintro e wx ⟨rfl,hbx⟩
    have hzx:=hbx.size
    go_wp2_with fail
    refine (Z05 _ B pb b line (u :: l2) ((HPF.out.kept (hbx.mono hlef)).kept ((Below.refl _ _).alloc (Nat.le_trans hlef hzx) _))).mono ?_
    rintro e wy ⟨rfl,rfl⟩
    unfold synE
    go_wp2_with fail
    rw [HEN.out]
    exact ⟨rfl,rfl,hgf.trans2 (Z0j (hbx.alloc hzx _))⟩
   | some y =>
    obtain ⟨k,n⟩:=y
    have e:R=some ((k,[numT n]),(u :: l2)):=by rw [←HR.out,pAt_one hk h2];unfold Z2I;rw [hfo];rfl
    have HEN:=Z0a e
    rw [hfo] at HFX
    simp only [fixR,fixV] at HFX
    clear hfo e
    go_wp2_with fail
    refine HFX.out.mono ?_
    rintro e wx ⟨rfl,hbx⟩
    have hzx:=hbx.size
    go_wp2_with fail
    go_region_with (go_at_call 279;refine (Z1z _ _ _).mono ?_;rintro e wy ⟨v,rfl,hrowy,hby⟩;have m0:wy.cell? ⟨wx.heap.size,0,none⟩=some (.int .i64 k):=(by rw [hby.cell (by simp)];simp);have m1:wy.cell? ⟨wx.heap.size,1,none⟩=some (.int .i64 n):=(by rw [hby.cell (by simp)];simp))
    all_goals
     have hby':Below wx.heap.size wx wy:=(((Below.refl _ _).alloc (Nat.le_refl _) _).drew).trans (hby.mono (B':=wx.heap.size) (by simp))
     have hbz:Below (w1).heap.size (w1) wy:=hbx.trans (hby'.mono hzx)
     have hsz0:=hgf.size
     have hrowz:=Z0K hrowy (base':=w.heap.size) (by simp;omega)
     have HZ:=Z0a (And.intro hrowz hbz)
     clear hrowy hby hby' hrowz hbz m0 m1
     go_wp2_with fail
     go_ret2
     rw [HEN.out]
     exact ⟨_,rfl,HZ.out.1,HPF.out.kept (HZ.out.2.mono hlef),hgf.trans2 (Z0j HZ.out.2)⟩
 ·have HW:=Z0a (Z6p w B pb b line t l h hk)
  have e:R=none:=by
   rw [←HR.out]
   cases l with
   | nil=>rfl
   | cons u l2=>exact pAt_no hk
  rw [e]
  clear h hb
  go_enter Tryz.func278,Tryz.ntmps278
  go_wp2_with fail
  refine HW.out.mono ?_
  rintro e w3 ⟨rfl,rfl⟩
  unfold synE
  go_wp2_with fail
  exact ⟨rfl,rfl,Z4T _ _⟩
end Go.Proofs.YthokdbcpkmcieaaGreatDoor
