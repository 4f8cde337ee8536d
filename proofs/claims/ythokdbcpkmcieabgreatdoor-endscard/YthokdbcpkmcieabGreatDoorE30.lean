/- EarW1 EarW2 EarW3 EarW4 -/
import Derived.Test.YthokdbcpkmcieabGreatDoorProg
import Derived.Test.YthokdbcpkmcieabGreatDoorE27
import Derived.Test.YthokdbcpkmcieabGreatDoorE01
import Derived.WalkKit
import Derived.ProofKit
import Derived.BigQuiet
import Derived.Deep.QuietTactic
import Derived.BigRegion
import Derived.Laws.BitsAllLaws
import Derived.Laws.BitsLemmas
import Derived.Maps.AppendAt
import Derived.Laws.IdiomStrings
set_option maxRecDepth 200000
set_option maxHeartbeats 8000000
namespace Go.Proofs.YthokdbcpkmcieabGreatDoor
open Go Go.RowKit
theorem xor_u16 (a b:Nat)(ha:a<65536)(hb:b<65536):bits .xor .u16 (a:Int) (b:Int)=((a ^^^ b:Nat):Int):=by
 have hx:a ^^^ b<2 ^ 16:=Nat.xor_lt_two_pow (by omega) (by omega)
 have h1:(BitVec.ofInt 16 (a:Int)).toNat=a:=by
  rw [BitVec.ofInt_natCast,BitVec.toNat_ofNat];exact Nat.mod_eq_of_lt (by omega)
 have h2:(BitVec.ofInt 16 (b:Int)).toNat=b:=by
  rw [BitVec.ofInt_natCast,BitVec.toNat_ofNat];exact Nat.mod_eq_of_lt (by omega)
 show IntKind.u16.wrap ((BitVec.ofInt 16 (a:Int) ^^^ BitVec.ofInt 16 (b:Int)).toNat:Int)=_
 rw [BitVec.toNat_xor,h1,h2,IntKind.wrap_u16]
 omega
theorem xor_u8 (a b:Nat)(ha:a<256)(hb:b<256):bits .xor .u8 (a:Int) (b:Int)=((a ^^^ b:Nat):Int):=by
 have hx:a ^^^ b<2 ^ 8:=Nat.xor_lt_two_pow (by omega) (by omega)
 have h1:(BitVec.ofInt 8 (a:Int)).toNat=a:=by
  rw [BitVec.ofInt_natCast,BitVec.toNat_ofNat];exact Nat.mod_eq_of_lt (by omega)
 have h2:(BitVec.ofInt 8 (b:Int)).toNat=b:=by
  rw [BitVec.ofInt_natCast,BitVec.toNat_ofNat];exact Nat.mod_eq_of_lt (by omega)
 show IntKind.u8.wrap ((BitVec.ofInt 8 (a:Int) ^^^ BitVec.ofInt 8 (b:Int)).toNat:Int)=_
 rw [BitVec.toNat_xor,h1,h2,IntKind.wrap_u8]
 omega
theorem Z8u (b:UInt8):bits .xor .u8 (b.toNat:Int) 32=((b ^^^ 32).toNat:Int):=by
 have:=xor_u8 b.toNat 32 b.toNat_lt (by decide)
 rw [UInt8.toNat_xor]
 exact this
theorem doubled_any (x:Nat)(hx:x<65536)(w:World) :
  Calls Tryz.prog 228 #[.int .u16 x] w fun e w'=>e=.returned (.int .u16 (dblN x))∧w'=w:=by
 by_cases h:32768≤x
 ·have h1:(32768:Int)≤(x:Int):=by omega
  have e:((dblN x:Nat):Int)=bits BinOp.xor IntKind.u16 (IntKind.u16.wrap ((x:Int)*2)) 4129:=by
   have:=xor_u16 (x*2%65536) 4129 (Nat.mod_lt _ (by decide)) (by decide)
   rw [IntKind.wrap_u16,show ((x:Int)*2%65536)=((x*2%65536:Nat):Int) by omega]
   unfold dblN
   rw [if_pos h]
   exact this.symm
  rw [e]
  go_enter Tryz.func228,Tryz.ntmps228
  go_wp2
  go_ret
  exact ⟨rfl,rfl⟩
 ·have h1:¬ (32768:Int)≤(x:Int):=by omega
  have e:((dblN x:Nat):Int)=(x:Int)*2:=by
   unfold dblN
   rw [if_neg h];omega
  rw [e]
  go_enter Tryz.func228,Tryz.ntmps228
  go_wp2
  go_ret
  exact ⟨rfl,rfl⟩
theorem Z0Z (b:UInt8)(w:World) :
  Calls Tryz.prog 180 #[.int .u8 (b.toNat:Int)] w fun e w'=>e=.returned (.bool (isB b))∧w'=w:=by
 by_cases h:b=126
 ·subst h
  go_enter Tryz.func180,Tryz.ntmps180
  go_wp2
  go_ret
  exact ⟨rfl,rfl⟩
 ·have h1:((b.toNat:Int) == 126)=false:=by
   have:¬ b.toNat=126:=fun e=>h (UInt8.toNat_inj.1 e)
   simp;omega
  have h2:isB b=((b.toNat:Int) == 125):=by
   unfold isB
   by_cases h5:b=125
   ·subst h5;decide
   ·have:¬ b.toNat=125:=fun e=>h5 (UInt8.toNat_inj.1 e)
    have h6:((b.toNat:Int) == 125)=false:=by simp;omega
    rw [h6];simp [h,h5]
  rw [h2]
  go_enter Tryz.func180,Tryz.ntmps180
  go_wp2
  go_ret
  exact ⟨rfl,rfl⟩
def BytesAt (w:World) (g off:Nat) (l:List UInt8):Prop:=∀ i,i<l.length→w.cell? ⟨g,off+i,none⟩=some (.int .u8 ((l.getD i 0).toNat:Int))
theorem Z4A (l:List UInt8)(i:Nat)(h:i<l.length):l.take (i+1)=l.take i ++ [l.getD i 0]:=by
 rw [List.take_add_one,List.getElem?_eq_getElem h,List.getD_eq_getElem?_getD,List.getElem?_eq_getElem h]
 rfl
theorem Z4J (g off cap:Nat)(l:List UInt8)(w:World)(hl:l.length≤4000000)(h:BytesAt w g off l) :
  Calls Tryz.prog 183 #[.slice (some ⟨g,off,none⟩) l.length cap] w fun e w'=>e=.returned (.int .u16 (crcN l))∧w'=w:=by
 go_enter Tryz.func183,Tryz.ntmps183
 go_wp2_with fail
 go_loopw [3,8] (fun c i wr=>∃ k:Nat,k≤l.length∧i=.int .i64 k∧c=.int .u16 (crcN (l.take k))∧wr=w) (fun _ i _=>l.length-(intOf i).toNat)
 case atStart=>exact ⟨0,Nat.zero_le _,rfl,rfl,rfl⟩
 case round =>
  obtain ⟨k,hk,rfl,rfl,rfl⟩:=hrel
  by_cases hlt:k<l.length
  ·have c1:=h k hlt
   obtain ⟨b,hb⟩:∃ b,l.getD k 0=b:=⟨_,rfl⟩
   rw [hb] at c1
   obtain ⟨x,hx⟩:∃ x,crcN (l.take k)=x:=⟨_,rfl⟩
   have hxl:x<65536:=by rw [←hx];exact Z50 _
   have hN:crcN (l.take (k+1))=crcB x b:=by rw [Z4A l k hlt,crcN_snoc,hx,hb]
   have HN:=Z0a hN
   rw [hx]
   have hbl:=b.toNat_lt
   clear hN hx hb h
   have hy:bits BinOp.xor IntKind.u16 (x:Int) ((b.toNat:Int)*256)=((x ^^^ (b.toNat*256):Nat):Int):=xor_u16 x (b.toNat*256) hxl (by omega)
   obtain ⟨y,hyy⟩:∃ y,x ^^^ (b.toNat*256)=y:=⟨_,rfl⟩
   have hyl:y<65536:=by rw [←hyy];exact Nat.xor_lt_two_pow (n:=16) hxl (by omega)
   have HY:=Z0a (show crcB x b=dblT 8 y by unfold crcB;rw [hyy])
   rw [hyy] at hy
   clear hyy
   go_wp2_with fail
   go_loopw [3,17] (fun c i wr'=>∃ j:Nat,j≤8∧i=.int .i64 j∧c=.int .u16 (dblT j y)∧wr'=wr) (fun _ i _=>8-(intOf i).toNat)
   case atStart=>exact ⟨0,by omega,rfl,rfl,rfl⟩
   case round =>
    rename_i hrel
    obtain ⟨j,hj,rfl,rfl,rfl⟩:=hrel
    by_cases hj8:j<8
    ·obtain ⟨z,hz⟩:∃ z,dblT j y=z:=⟨_,rfl⟩
     have hzl:z<65536:=by rw [←hz];exact dblT_lt hyl j
     have HZ:=Z0a (show dblT (j+1) y=dblN z by rw [←hz];rfl)
     rw [hz]
     clear hz
     go_wp2_with fail
     refine (doubled_any z hzl _).mono ?_
     rintro e w1 ⟨rfl,rfl⟩
     go_wp2
     go_roundw
     case rel=>exact ⟨j+1,by omega,by go_num,by rw [HZ.out],trivial⟩
     case measure=>simp [intOf];omega
    ·have e8:j=8:=by omega
     subst e8
     rw [←HY.out]
     go_wp2
     go_roundw
     case rel=>exact ⟨k+1,by omega,by go_num,by rw [HN.out],trivial⟩
     case measure=>simp [intOf];omega
  ·have e:k=l.length:=by omega
   subst e
   rw [List.take_length]
   go_wp2
   go_ret
   exact ⟨rfl,rfl⟩
structure EarAt (w:World) (eb:Nat) (s:EarS):Prop where
 c0:w.cell? ⟨eb,0,none⟩=some (.int .i64 (s.mode:Int))
 c83:w.cell? ⟨eb,83,none⟩=some (.int .i64 (s.ks.length:Int))
 cb:∀ i,i<82→∃ v,w.cell? ⟨eb,1+i,none⟩=some v
 ck:BytesAt w eb 1 s.ks
 fz:∀ j,w.frozen? ⟨eb,j,none⟩=false
 lt:eb<w.heap.size
 ok:Z63 s
theorem EarAt.kept {w w':World}{eb:Nat}{s:EarS}(h:EarAt w eb s)(e:w'.heap[eb]?=w.heap[eb]?)(hz:w.heap.size≤w'.heap.size):EarAt w' eb s :=
 ⟨(World.cell?_of_block (a:=⟨eb,0,none⟩) e).trans h.c0,(World.cell?_of_block (a:=⟨eb,83,none⟩) e).trans h.c83,fun i hi=>by rw [World.cell?_of_block (a:=⟨eb,1+i,none⟩) e];exact h.cb i hi,
  fun i hi=>(World.cell?_of_block (a:=⟨eb,1+i,none⟩) e).trans (h.ck i hi),fun j=>(World.frozen?_of_block (a:=⟨eb,j,none⟩) e).trans (h.fz j),Nat.lt_of_lt_of_le h.lt hz,h.ok⟩
theorem EarAt.setMode {w:World}{eb:Nat}{s:EarS}(h:EarAt w eb s)(m:Nat)(hm:m≤2):EarAt (w.setCell ⟨eb,0,none⟩ (.int .i64 (m:Int))) eb ⟨m,s.ks⟩:=by
 refine ⟨World.cell?_setCell_same _ _ _ h.c0,?_,fun i hi=>?_,fun i hi=>?_,fun j=>by simp [h.fz j],by simpa [World.setCell] using h.lt,⟨hm,h.ok.len⟩⟩
 ·rw [World.cell?_setCell_other _ _ _ _ (by simp)];exact h.c83
 ·rw [World.cell?_setCell_other _ _ _ _ (by simp <;> omega)];exact h.cb i hi
 ·rw [World.cell?_setCell_other _ _ _ _ (by simp <;> omega)];exact h.ck i hi
theorem EarAt.push {w:World}{eb:Nat}{s:EarS}(h:EarAt w eb s)(b:UInt8)(hl:s.ks.length<82):EarAt ((w.setCell ⟨eb,1+s.ks.length,none⟩ (.int .u8 (b.toNat:Int))).setCell ⟨eb,83,none⟩ (.int .i64 ((s.ks.length:Int)+1))) eb ⟨s.mode,s.ks ++ [b]⟩:=by
 obtain ⟨v,hv⟩:=h.cb s.ks.length hl
 have h83:(w.setCell ⟨eb,1+s.ks.length,none⟩ (.int .u8 (b.toNat:Int))).cell? ⟨eb,83,none⟩=some (.int .i64 (s.ks.length:Int)):=by
  rw [World.cell?_setCell_other _ _ _ _ (by simp <;> omega)];exact h.c83
 have hn:=World.cell?_setCell_same w ⟨eb,1+s.ks.length,none⟩ (.int .u8 (b.toNat:Int)) hv
 refine ⟨?_,?_,fun i hi=>?_,fun i hi=>?_,fun j=>by simp [h.fz j],by simpa [World.setCell] using h.lt,⟨h.ok.mode,by simp;omega⟩⟩
 ·rw [World.cell?_setCell_other _ _ _ _ (by simp),World.cell?_setCell_other _ _ _ _ (by simp)];exact h.c0
 ·rw [World.cell?_setCell_same _ _ _ h83];simp
 ·rw [World.cell?_setCell_other _ _ _ _ (by simp <;> omega)]
  by_cases e:i=s.ks.length
  ·subst e;exact ⟨_,hn⟩
  ·rw [World.cell?_setCell_other _ _ _ _ (by simp <;> omega)];exact h.cb i hi
 ·simp only [List.length_append,List.length_cons,List.length_nil] at hi
  rw [World.cell?_setCell_other _ _ _ _ (by simp <;> omega)]
  by_cases e:i=s.ks.length
  ·subst e
   rw [hn]
   simp [List.getD_eq_getElem?_getD]
  ·rw [World.cell?_setCell_other _ _ _ _ (by simp <;> omega),h.ck i (by omega)]
   simp only [List.getD_eq_getElem?_getD]
   rw [List.getElem?_append_left (by omega)]
theorem Z0q (w:World)(eb j:Nat)(v:Value):w.grownBy (w.setCell ⟨eb,j,none⟩ v) (some eb) :=
 ⟨rfl,rfl,rfl,by simp [World.setCell],fun k _ hk=>Below.heap_setCell _ _ _ _ (by simpa using hk)⟩
theorem Z5e {w w':World}{r:Option Nat}(h:w.grownBy w' r):w.grownBy w'.drew r:=⟨h.os,h.tape,h.output,h.size,h.block⟩
theorem Z05 (w:World)(r:Option Nat):w.grownBy w r:=⟨rfl,rfl,rfl,Nat.le_refl _,fun _ _ _=>rfl⟩
theorem keep_any (eb:Nat)(s:EarS)(b:UInt8)(w:World)(h:EarAt w eb s) :
  Calls Tryz.prog 181 #[.pointer (some ⟨eb,0,none⟩),.int .u8 (b.toNat:Int)] w fun e w'=>e=.returned (.tuple #[])∧EarAt w' eb (Z3a s b)∧w.grownBy w' (some eb):=by
 have c0:=h.c0
 have c83:=h.c83
 have f0:=h.fz 0
 have f83:=h.fz 83
 have hl:=h.ok.len
 by_cases he:s.ks.length=82
 ·have e:Z3a s b=⟨0,s.ks⟩:=by unfold Z3a;rw [if_pos he]
  have HR:=Z0a (h.setMode 0 (by decide))
  have hi:((s.ks.length:Int) == 82)=true:=by simp;omega
  rw [e]
  clear h e
  go_enter Tryz.func181,Tryz.ntmps181
  go_wp2
  refine bodyPost_ret (results_none rfl _ _ _) rfl ?_
  exact ⟨rfl,HR.out,Z0q _ _ _ _⟩
 ·have e:Z3a s b=⟨s.mode,s.ks ++ [b]⟩:=by unfold Z3a;rw [if_neg he]
  have HR:=Z0a (h.push b (by omega))
  have hi:((s.ks.length:Int) == 82)=false:=by simp;omega
  have hi2:(s.ks.length:Int)<82:=by omega
  obtain ⟨v,hv⟩:=h.cb s.ks.length (by omega)
  have fv:=h.fz (1+s.ks.length)
  rw [e]
  clear h e
  go_enter Tryz.func181,Tryz.ntmps181
  go_wp2
  go_region
  all_goals
   go_wp2
   go_end0
   exact ⟨rfl,HR.out.kept rfl (Nat.le_refl _),Z5e ((Z0q _ _ _ _).trans (Z0q _ _ _ _))⟩
theorem take_any (eb:Nat)(s:EarS)(b:UInt8)(w:World)(h:EarAt w eb s) :
  Calls Tryz.prog 149 #[.pointer (some ⟨eb,0,none⟩),.int .u8 (b.toNat:Int)] w fun e w'=>e=.returned (.tuple #[])∧EarAt w' eb (Z1z s b)∧w.grownBy w' (some eb):=by
 have c0:=h.c0
 have f0:=h.fz 0
 have hm:=h.ok.mode
 have hx:=Z8u b
 by_cases h0:s.mode=0
 ·have e:Z1z s b=s:=by unfold Z1z;rw [if_pos h0]
  have hi:((s.mode:Int) == 0)=true:=by simp;omega
  rw [e]
  have HR:=Z0a h
  clear h e
  go_enter Tryz.func149,Tryz.ntmps149
  go_wp2
  go_end0
  exact ⟨rfl,HR.out,Z05 _ _⟩
 ·have hi:((s.mode:Int) == 0)=false:=by simp;omega
  by_cases h2:s.mode=2
  ·have hi2:((s.mode:Int) == 2)=true:=by simp;omega
   by_cases hb:isB (b ^^^ 32)=true
   ·have e:Z1z s b=Z3a ⟨1,s.ks⟩ (b ^^^ 32):=by unfold Z1z;rw [if_neg h0,if_pos h2,if_pos hb]
    have HR:=Z0a (h.setMode 1 (by decide))
    rw [e]
    clear h e
    go_enter Tryz.func149,Tryz.ntmps149
    go_wp2_with fail
    refine (Z0Z (b ^^^ 32) _).mono ?_
    rintro e w1 ⟨rfl,rfl⟩
    rw [hb]
    go_wp2_with fail
    refine (keep_any eb ⟨1,s.ks⟩ (b ^^^ 32) _ HR.out).mono ?_
    rintro e w1 ⟨rfl,hr,hg⟩
    go_wp2
    go_end0
    exact ⟨rfl,hr,(Z0q _ _ _ _).trans hg⟩
   ·have e:Z1z s b=⟨0,s.ks⟩:=by unfold Z1z;rw [if_neg h0,if_pos h2,if_neg hb]
    have HR:=Z0a (h.setMode 0 (by decide))
    have hbf:isB (b ^^^ 32)=false:=by simpa using hb
    rw [e]
    clear h e
    go_enter Tryz.func149,Tryz.ntmps149
    go_wp2_with fail
    refine (Z0Z (b ^^^ 32) _).mono ?_
    rintro e w1 ⟨rfl,rfl⟩
    rw [hbf]
    go_wp2
    go_end0
    exact ⟨rfl,HR.out,Z0q _ _ _ _⟩
  ·have hi2:((s.mode:Int) == 2)=false:=by simp;omega
   by_cases h5:b=125
   ·subst h5
    have e:Z1z s 125=⟨2,s.ks⟩:=by unfold Z1z;rw [if_neg h0,if_neg h2,if_pos rfl]
    have HR:=Z0a (h.setMode 2 (by decide))
    rw [e]
    clear h e
    go_enter Tryz.func149,Tryz.ntmps149
    go_wp2
    go_end0
    exact ⟨rfl,HR.out,Z0q _ _ _ _⟩
   ·have e:Z1z s b=Z3a s b:=by unfold Z1z;rw [if_neg h0,if_neg h2,if_neg h5]
    have hi5:((b.toNat:Int) == 125)=false:=by
     have:¬ b.toNat=125:=fun e=>h5 (UInt8.toNat_inj.1 e)
     simp;omega
    rw [e]
    have HR:=Z0a h
    clear h e
    go_enter Tryz.func149,Tryz.ntmps149
    go_wp2_with fail
    refine (keep_any eb s b _ HR.out).mono ?_
    rintro e w1 ⟨rfl,hr,hg⟩
    go_wp2
    go_end0
    exact ⟨rfl,hr,hg⟩
theorem wraps_u16e (n:Int)(h0:0≤n)(h1:n<2 ^ 16):IntKind.u16.wrap n=n:=by rw [IntKind.wrap_u16];omega
theorem Z3A (p q:Int)(p0:0≤p)(p1:p≤255)(q0:0≤q)(q1:q≤255):bits BinOp.or IntKind.u16 (p*256) q=(256:Int)*p+q:=by
 rw [bits_join .u16 16 (by decide) wraps_u16e 8]
 all_goals omega
theorem BytesAt.take {w:World}{g off:Nat}{l:List UInt8}(h:BytesAt w g off l)(n:Nat):BytesAt w g off (l.take n):=by
 intro i hi
 simp only [List.length_take] at hi
 rw [h i (by omega)]
 simp only [List.getD_eq_getElem?_getD]
 rw [List.getElem?_take_of_lt (by omega)]
theorem BytesAt.kept {w w':World}{g off:Nat}{l:List UInt8}(h:BytesAt w g off l)(e:w'.heap[g]?=w.heap[g]?):BytesAt w' g off l:=fun i hi=>(World.cell?_of_block (a:=⟨g,off+i,none⟩) e).trans (h i hi)
theorem Z5v (g off cap:Nat)(l:List UInt8)(w:World)(hl:l.length≤4000000)(hcap:l.length≤cap)(h:BytesAt w g off l) :
  Calls Tryz.prog 182 #[.slice (some ⟨g,off,none⟩) l.length cap] w fun e w'=>e=.returned (.bool (hasC l))∧∃ m,w'=w.drewN m:=by
 by_cases h3:3≤l.length
 ·obtain ⟨n,hn⟩:∃ n,l.length=n+2:=⟨l.length-2,by omega⟩
  have ht:=h.take n
  have hlt:(l.take n).length=n:=by simp;omega
  have c1:=h n (by omega)
  have c2:=h (n+1) (by omega)
  obtain ⟨x,hx⟩:∃ x,l.getD n 0=x:=⟨_,rfl⟩
  obtain ⟨y,hy⟩:∃ y,l.getD (n+1) 0=y:=⟨_,rfl⟩
  rw [hx] at c1
  rw [hy] at c2
  have hxl:=x.toNat_lt
  have hyl:=y.toNat_lt
  obtain ⟨t,htt⟩:∃ t,l.take n=t:=⟨_,rfl⟩
  rw [htt] at ht hlt
  have hor:=Z3A (x.toNat:Int) (y.toNat:Int) (by omega) (by omega) (by omega) (by omega)
  have e:hasC l=(((crcN t:Nat):Int) == (256:Int)*(x.toNat:Int)+(y.toNat:Int)):=by
   unfold hasC
   rw [hn,show n+2-2=n by omega,show n+2-1=n+1 by omega,htt,hx,hy]
   rw [show decide (3≤n+2)=true by simp;omega,Bool.true_and]
   by_cases hh:crcN t=x.toNat*256+y.toNat
   ·rw [decide_eq_true hh];symm;simp;omega
   ·rw [decide_eq_false hh];symm;simp;omega
  have HC:=Z0a (fun w' (hw:BytesAt w' g off t)=>Z4J g off cap t w' (by omega) hw)
  rw [hlt] at HC
  have HT:=Z0a ht
  rw [e,hn]
  have hp:(1:Int)≤(n:Int):=by omega
  have hnn:(n:Int)≤4000000:=by omega
  have hq:(n:Int)≤(cap:Int):=by omega
  clear e htt hx hy h ht hn
  go_enter Tryz.func182,Tryz.ntmps182
  go_wp2
  go_quiet ((go_at_call 183;exact Calls.quiet_of_same (HC.out _ (HT.out.kept rfl))))
  go_wp2
  go_ret
  exact ⟨rfl,_,rfl⟩
 ·have e:hasC l=false:=by unfold hasC;simp [h3]
  rw [e]
  have hp:(l.length:Int)-2<1:=by omega
  have hnn:(l.length:Int)≤4000000:=by omega
  clear e h
  go_enter Tryz.func182,Tryz.ntmps182
  go_wp2
  go_ret
  exact ⟨rfl,0,rfl⟩
theorem earWhole_any (eb:Nat)(s:EarS)(w:World)(h:EarAt w eb s) :
  Calls Tryz.prog 150 #[.pointer (some ⟨eb,0,none⟩)] w fun e w'=>e=.returned (.bool (Z1b s))∧∃ m,w'=w.drewN m:=by
 have c0:=h.c0
 have c83:=h.c83
 have hl:=h.ok.len
 by_cases h1:s.mode=1
 ·have e:Z1b s=hasC s.ks:=by unfold Z1b;simp [h1]
  have hi:((s.mode:Int) == 1)=true:=by simp;omega
  have hle:(s.ks.length:Int)≤82:=by omega
  have HC:=Z0a (fun w' (hw:BytesAt w' eb 1 s.ks)=>Z5v eb 1 82 s.ks w' (by omega) hl hw)
  have HB:=Z0a h.ck
  rw [e]
  clear e h
  go_enter Tryz.func150,Tryz.ntmps150
  go_wp2
  go_quiet ((go_at_call 182;exact Calls.quiet_of (HC.out _ (HB.out.kept rfl))))
  go_wp2
  go_ret
  exact ⟨rfl,_,rfl⟩
 ·have e:Z1b s=false:=by unfold Z1b;simp [h1]
  have hi:((s.mode:Int) == 1)=false:=by simp;omega
  rw [e]
  clear e h
  go_enter Tryz.func150,Tryz.ntmps150
  go_wp2
  go_quiet (fail)
  go_wp2
  go_ret
  exact ⟨rfl,_,rfl⟩
def txt (l:List UInt8):ByteArray:=⟨l.toArray⟩
def strs (l:List (List UInt8)):List Value:=l.map fun m=>.string (txt m)
theorem Z0P (s:ByteArray)(j:Nat)(h:j<s.size):s.data.toList.getD j 0=s[j]:=by
 have h':j<s.data.size:=h
 rw [List.getD_eq_getElem?_getD,Array.getElem?_toList,Array.getElem?_eq_getElem h']
 rfl
theorem Z0A {w:World}{base:Nat}{e:TypeId}{size n:Nat}{v:Value}{xs:List Value}(h:w.ownsRow base e size v n xs):∃ a m c,v=.slice a m c:=by
 obtain ⟨_,⟨rfl,_⟩ | ⟨g,cap,cur,rfl,_⟩⟩:=h
 ·exact ⟨_,_,_,rfl⟩
 ·exact ⟨_,_,_,rfl⟩
theorem Tryz.infoStr:(Tryz.prog.info? 9).map (fun i=>(i.zero,i.size,i.bytes))=some (some (.string ⟨#[]⟩),1,16):=by kernel_rfl
theorem Z3n {P:Program}{t:TypeId}{z:Option Value}{s b:Nat}(h:(P.info? t).map (fun i=>(i.zero,i.size,i.bytes))=some (z,s,b)):∃ i,P.info? t=some i∧i.zero=z∧i.size=s∧i.bytes=b:=by
 cases hi:P.info? t with
 | none=>rw [hi] at h;cases h
 | some i =>
  rw [hi] at h
  simp at h
  exact ⟨i,rfl,h.1,h.2.1,h.2.2⟩
theorem Z1p {w w':World}{base:Nat}{e:TypeId}{size n:Nat}{v:Value}{xs:List Value}(h:w.ownsRow base e size v n xs)(hb:∀ j,v.ownBlock=some j→w'.heap[j]?=w.heap[j]?):w'.ownsRow base e size v n xs:=by
 obtain ⟨h1,h2 | ⟨g,cap,cur,rfl,hg,h3,h4⟩⟩:=h
 ·exact ⟨h1,.inl h2⟩
 ·exact ⟨h1,.inr ⟨g,cap,cur,rfl,hg,(hb g rfl).trans h3,h4⟩⟩
theorem Z3o {w w':World}{r:Option Nat}(h:w.grownBy w' r)(m:Nat):w.grownBy (w'.drewN m) r:=⟨h.os,h.tape,h.output,h.size,h.block⟩
theorem Z31 {w:World}{eb:Nat}{u v:Value}(j:Nat)(o1 o2:Nat)(h:j≠eb):((w.setCell ⟨eb,o1,none⟩ u).setCell ⟨eb,o2,none⟩ v).heap[j]?=w.heap[j]?:=by
 rw [Below.heap_setCell _ _ _ _ (by simpa using h),Below.heap_setCell _ _ _ _ (by simpa using h)]
theorem EarAt.reset {w:World}{eb:Nat}{s:EarS}(h:EarAt w eb s):EarAt ((w.setCell ⟨eb,0,none⟩ (.int .i64 1)).setCell ⟨eb,83,none⟩ (.int .i64 0)) eb ⟨1,[]⟩:=by
 have h83:(w.setCell ⟨eb,0,none⟩ (.int .i64 1)).cell? ⟨eb,83,none⟩=some (.int .i64 (s.ks.length:Int)):=by
  rw [World.cell?_setCell_other _ _ _ _ (by simp)];exact h.c83
 refine ⟨?_,World.cell?_setCell_same _ _ _ h83,fun i hi=>?_,fun i hi=>by simp at hi,fun j=>by simp [h.fz j],by simpa [World.setCell] using h.lt,⟨(by decide:1≤2),by simp⟩⟩
 ·rw [World.cell?_setCell_other _ _ _ _ (by simp)];exact World.cell?_setCell_same _ _ _ h.c0
 ·rw [World.cell?_setCell_other _ _ _ _ (by simp <;> omega),World.cell?_setCell_other _ _ _ _ (by simp)];exact h.cb i hi
theorem hear_step {w w1 wn:World}{eb:Nat}{st:EarS}{out:List (List UInt8)}{v v':Value}{o:Obj}(hE:EarAt w1 eb st)(hR:w1.drew.ownsRow w.heap.size 9 1 v out.length (strs out))(hG:w.grownBy w1 (some eb)){t':List UInt8}
  (hown:wn.ownsRow w.heap.size 9 1 v' (out.length+1) (strs out ++ [.string (txt t')])) (hgr:(w1.drew.alloc o).grownBy wn v.ownBlock) (hlt:eb<w.heap.size) :
  EarAt wn eb st∧wn.ownsRow w.heap.size 9 1 v' (out.length+1) (strs out ++ [.string (txt t')])∧w.grownBy wn (some eb):=by
 have hz:=hG.size
 have hz2:w1.heap.size+1≤wn.heap.size:=by have:=hgr.size;simpa using this
 have key:∀ k,k<w.heap.size→wn.heap[k]?=w1.heap[k]?:=fun k hk=>by
  rw [hgr.block k (by simp;omega) (fun e=>by have:=(hR.lt k e.symm).1;omega),Below.heap_alloc _ _ _ (by show k<w1.heap.size;omega)]
  rfl
 refine ⟨hE.kept (key eb hlt) (by omega),hown,?_⟩
 exact ⟨hgr.os.trans hG.os,hgr.tape.trans hG.tape,hgr.output.trans hG.output,by omega,fun k hk hne=>(key k hk).trans (hG.block k hk hne)⟩
theorem hear_any (eb:Nat)(s:EarS)(bs:ByteArray)(w:World)(h:EarAt w eb s)(hbs:bs.size≤4000000) :
  Calls Tryz.prog 99 #[.pointer (some ⟨eb,0,none⟩),.string bs] w fun e w'=>∃ v,e=.returned v∧EarAt w' eb (Z0p s bs.data.toList).1∧w'.ownsRow w.heap.size 9 1 v (Z0p s bs.data.toList).2.length (strs (Z0p s bs.data.toList).2)∧w.grownBy w' (some eb):=by
 obtain ⟨i0,hi,hz0,hz1,hz2⟩:=Z3n Tryz.infoStr
 have hltw:=h.lt
 have hlen:bs.data.toList.length=bs.size:=by rw [Array.length_toList];rfl
 go_enter Tryz.func99,Tryz.ntmps99
 go_wp2_with fail
 go_loopw [5,9] (fun v i wr=>∃ k:Nat,k≤bs.size∧i=.int .i64 k∧EarAt wr eb (Z0p s (bs.data.toList.take k)).1∧wr.ownsRow w.heap.size 9 1 v (Z0p s (bs.data.toList.take k)).2.length (strs (Z0p s (bs.data.toList.take k)).2)∧w.grownBy wr (some eb)) (fun _ i _=>bs.size-(intOf i).toNat)
 case atStart=>exact ⟨0,Nat.zero_le _,rfl,h,World.ownsRow_nil _ _ _ _,Z05 _ _⟩
 case round =>
  obtain ⟨k,hk,rfl,hE,hR,hG⟩:=hrel
  by_cases hlt:k<bs.size
  ·have hN:Z0p s (bs.data.toList.take (k+1))=Z0R (Z0p s (bs.data.toList.take k)) bs[k]:=by
    rw [Z4A _ k (by omega),Z46,Z0P bs k hlt]
   have hcn:=Z2C s (bs.data.toList.take k)
   rw [List.length_take] at hcn
   obtain ⟨p,hp⟩:∃ p,Z0p s (bs.data.toList.take k)=p:=⟨_,rfl⟩
   rw [hp] at hE hR hN hcn
   obtain ⟨st,out⟩:=p
   simp only at hE hR hcn
   obtain ⟨b,hb⟩:∃ b,bs[k]=b:=⟨_,rfl⟩
   rw [hb] at hN
   obtain ⟨va,vm,vc,rfl⟩:=Z0A hR
   clear hp h
   by_cases h6:b=126
   ·subst h6
    have HI:=Z0a (fun w' (he:EarAt w' eb st)=>earWhole_any eb st w' he)
    have HG:=Z0a hG
    by_cases hw:Z1b st=true
    ·have hN2:Z0R (st,out) 126=(⟨1,[]⟩,out ++ [st.ks.take (st.ks.length-2)]):=by unfold Z0R;rw [if_pos rfl];simp only;rw [if_pos hw]
     have HN:=Z0a (hN.trans hN2)
     have hge:3≤st.ks.length:=by
      unfold Z1b hasC at hw
      simp only [Bool.and_eq_true,decide_eq_true_eq] at hw
      exact hw.2.1
     obtain ⟨n,hn⟩:∃ n,st.ks.length=n+2:=⟨st.ks.length-2,by omega⟩
     have hle:=hE.ok.len
     obtain ⟨t,ht⟩:∃ t,st.ks.take (st.ks.length-2)=t:=⟨_,rfl⟩
     have htl:t.length=n:=by rw [←ht,List.length_take];omega
     have htb:BytesAt wr eb 1 t:=by rw [←ht];exact hE.ck.take _
     have HE:=Z0a hE
     clear hN hN2 hE hG
     go_wp2_with fail
     refine (HI.out _ HE.out).mono ?_
     rintro e w1 ⟨rfl,m,rfl⟩
     obtain ⟨w1,hw1⟩:∃ w1,wr.drewN m=w1:=⟨_,rfl⟩
     have e1:w1.heap=wr.heap:=by rw [←hw1];rfl
     have hE1:EarAt w1 eb st:=HE.out.kept (by rw [e1]) (by rw [e1];exact Nat.le_refl _)
     have hR1:w1.drew.ownsRow w.heap.size 9 1 (.slice va vm vc) out.length (strs out):=Z1p hR (fun j _=>by show w1.heap[j]?=_;rw [e1])
     have hG1:w.grownBy w1 (some eb):=by rw [←hw1];exact Z3o HG.out m
     have htb1:BytesAt w1.drew eb 1 t:=htb.kept (by show w1.heap[eb]?=_;rw [e1])
     rw [hw1]
     clear hw1 HE HG hR
     have c83:=hE1.c83
     rw [hn] at c83
     have f0:=hE1.fz 0
     have f83:=hE1.fz 83
     have hcv:(convert 32 9 (.slice (some ⟨eb,1,none⟩) n 82)).run Tryz.prog w1.drew=.ok (.string (txt t)) w1.drew:=by
      have:=run_convert_bytes_back (P:=Tryz.prog) w1.drew 32 9 5 ⟨eb,1,none⟩ 82 t Tryz.underlying32 Tryz.underlying5 Tryz.underlying9 (fun j hj=>by
       have hc:=htb1 j hj
       rw [List.getD_eq_getElem?_getD,List.getElem?_eq_getElem hj] at hc
       have ha:(⟨eb,1,none⟩:Addr).add j=⟨eb,1+j,none⟩:=by unfold Addr.add;split <;> simp_all
       rw [ha]
       exact hc)
      rw [htl] at this
      exact this
     have hno:(n:Int)≤82:=by omega
     have hwr:IntKind.i64.wrap (n:Int)=(n:Int):=by rw [IntKind.wrap_i64];omega
     have HE1:=Z0a hE1
     have HR1:=Z0a hR1
     have HG1:=Z0a hG1
     have hel:=hE1.lt
     have HT:=Z0a ht
     have hbase:w.heap.size≤w1.heap.size:=hG1.size
     clear hE1 hR1 hG1 htb htb1 ht e1
     rw [hw]
     go_wp2_with fail
     go_region_law (refine Z1C rfl (.tmp 23) (.tmp 34) 43 rfl w.heap.size 9 i0 _ 1 16 Tryz.underlying43 hi hz0 hz1 hz2 rfl (by decide) (.slice va vm vc) out.length (strs out) (by simp [Act.eval]) (by exact HR1.out.alloc _) ⟨w1.heap.size,0,none⟩ 1 1 [.string (txt t)] (by simp [Act.eval]) rfl (cell_one_new _ _ _) (by intro u hu;simp at hu;subst hu;rfl) (by unfold maxLen;omega) (by omega) (by simp;omega) ?_;intro v' wn hown hgr hloc;obtain ⟨va',vn',vc',rfl⟩:=Z0A hown)
     all_goals
      have hst:=hear_step HE1.out HR1.out HG1.out hown hgr (by omega)
      have HS:=Z0a hst
      have fn0:=hst.1.fz 0
      have fn83:=hst.1.fz 83
      have cn0:=hst.1.c0
      have cn83:=hst.1.c83
      have hnl:=hst.1.lt
      clear hst hown hgr hloc c83 f0 f83
      go_wp2
      go_roundw
      case rel =>
       refine ⟨k+1,by omega,by go_num,?_,?_,?_⟩
       ·rw [HN.out];exact HS.out.1.reset
       ·rw [HN.out,HT.out]
        simp only [List.length_append,List.length_cons,List.length_nil,strs,List.map_append,List.map_cons,List.map_nil]
        exact Z1p HS.out.2.1 (fun j hj=>Z31 _ _ _ (by have:=(HS.out.2.1.lt j hj).1;omega))
       ·exact HS.out.2.2.trans ((Z0q _ _ _ _).trans (Z0q _ _ _ _))
      case measure=>simp [intOf];omega
    ·have hwf:Z1b st=false:=by simpa using hw
     have hN2:Z0R (st,out) 126=(⟨1,[]⟩,out):=by unfold Z0R;rw [if_pos rfl];simp only;rw [if_neg hw]
     have HN:=Z0a (hN.trans hN2)
     have HE:=Z0a hE
     clear hN hN2 hE hG
     go_wp2_with fail
     refine (HI.out _ HE.out).mono ?_
     rintro e w1 ⟨rfl,m,rfl⟩
     obtain ⟨w1,hw1⟩:∃ w1,wr.drewN m=w1:=⟨_,rfl⟩
     have e1:w1.heap=wr.heap:=by rw [←hw1];rfl
     have hE1:EarAt w1 eb st:=HE.out.kept (by rw [e1]) (by rw [e1];exact Nat.le_refl _)
     have hR1:w1.ownsRow w.heap.size 9 1 (.slice va vm vc) out.length (strs out):=Z1p hR (fun j _=>by rw [e1])
     have hG1:w.grownBy w1 (some eb):=by rw [←hw1];exact Z3o HG.out m
     rw [hw1]
     clear hw1 HE HG hR
     have c83:=hE1.c83
     have c0:=hE1.c0
     have f0:=hE1.fz 0
     have f83:=hE1.fz 83
     have hel:=hE1.lt
     have HE1:=Z0a hE1
     have HR1:=Z0a hR1
     have HG1:=Z0a hG1
     clear hE1 hR1 hG1 e1
     rw [hwf]
     go_wp2
     go_roundw
     case rel =>
      refine ⟨k+1,by omega,by go_num,?_,?_,?_⟩
      ·rw [HN.out];exact HE1.out.reset
      ·rw [HN.out]
       exact Z1p HR1.out (fun j hj=>Z31 _ _ _ (by have:=(HR1.out.lt j hj).1;omega))
      ·exact HG1.out.trans ((Z0q _ _ _ _).trans (Z0q _ _ _ _))
     case measure=>simp [intOf];omega
   ·have hb6:((b.toNat:Int) != 126)=true:=by
     have:¬ b.toNat=126:=fun e=>h6 (UInt8.toNat_inj.1 e)
     simp;omega
    have hN2:Z0R (st,out) b=(Z1z st b,out):=by unfold Z0R;rw [if_neg h6]
    have HN:=Z0a (hN.trans hN2)
    have HE:=Z0a hE
    have HR:=Z0a hR
    have HG:=Z0a hG
    clear hN hN2 hE hR hG
    go_wp2_with fail
    refine (take_any eb st b _ HE.out).mono ?_
    rintro e w1 ⟨rfl,hE1,hg1⟩
    go_wp2
    go_roundw
    case rel =>
     refine ⟨k+1,by omega,by go_num,?_,?_,HG.out.trans hg1⟩
     ·rw [HN.out];exact hE1
     ·rw [HN.out]
      exact Z1p HR.out (fun j hj=>hg1.block j (HR.out.lt j hj).2 (by have:=(HR.out.lt j hj).1;simp;omega))
    case measure=>simp [intOf];omega
  ·have hkk:k=bs.size:=by omega
   rw [hkk,← hlen,List.take_length] at hE hR
   have HQ:=Z0a (And.intro hE (And.intro hR hG))
   obtain ⟨va,vm,vc,rfl⟩:=Z0A hR
   clear hE hR hG
   go_wp2
   go_ret
   exact ⟨_,rfl,HQ.out.1,HQ.out.2.1,HQ.out.2.2⟩
end Go.Proofs.YthokdbcpkmcieabGreatDoor
