/- Parse CodA Read RowsU Find CodB CodC -/
import Derived.Test.YthokdbcpkmcieaaGreatDoorS11
import Derived.Test.YthokdbcpkmcieaaGreatDoorS04
import Derived.Test.YthokdbcpkmcieaaGreatDoorS02
import Derived.BigQuiet
import Derived.Deep.QuietTactic
import Derived.Test.YthokdbcpkmcieaaGreatDoorRows
import Derived.Test.YthokdbcpkmcieaaGreatDoorS01
import Derived.Test.YthokdbcpkmcieaaGreatDoorS05
import Derived.WalkSpells
import Derived.WalkLawsBesides
import Derived.WalkKit
import Derived.Laws.BytesArg
import Derived.OpenShut
import Derived.Deep.RegionWith
import Derived.BigRegion
set_option maxRecDepth 200000
set_option maxHeartbeats 8000000
namespace Go.Proofs.YthokdbcpkmcieaaGreatDoor
open Go Go.RowKit Go.Maps Go.WideMaps
def Z1X (s:ByteArray):ByteArray:=⟨(Lib.cut s.data.toList [59]).1.toArray⟩
def Z6J:List Tok→Bool
 | u :: _=>decide (u.kind=0)
 | []=>false
def Z7a (ts:List Tok):Option (ByteArray × Stm):=(Z07 (ts ++ [endT])).bind fun x=>(Z1H x.2).bind fun y=>if Z6J y.2=true then some (x.1,y.1) else none
def Z1d (s:ByteArray):Option (ByteArray × Stm):=(Z2w (Z1X s).size (capS (Z1X s))).bind Z7a
structure P0 (w:World) (pb:Nat) (b:Bk):Prop where
 c0:w.cell? ⟨pb,0,none⟩=some (.map (some b.cb))
 c1:w.cell? ⟨pb,1,none⟩=some (.map (some b.ib))
 c2:w.cell? ⟨pb,2,none⟩=some (.map (some b.fb))
 c3:w.cell? ⟨pb,3,none⟩=some (.map (some b.db))
 c4:∃ n:Int,w.cell? ⟨pb,4,none⟩=some (.int .i64 n)
 c5:∃ (a:Option Addr) (n c:Nat),w.cell? ⟨pb,5,none⟩=some (.slice a n c)
 f4:w.frozen? ⟨pb,4,none⟩=false
 f5:w.frozen? ⟨pb,5,none⟩=false
 lt:pb<w.heap.size
theorem tokCells_len (l:List Tok):(Z0Q l).length=l.length*3:=by
 induction l with
 | nil=>rfl
 | cons x l ih=>simp only [Z0Q,List.flatMap_cons,List.length_append,List.length_cons] at ih ⊢;rw [ih];simp [Tok.cells];omega
theorem TokAt.of_row {w:World}{base g cap:Nat}:∀ (ts pre:List Tok) (n:Nat),w.ownsRow base 296 3 (.slice (some ⟨g,0,none⟩) n cap) n (Z0Q (pre++ts))→n=pre.length+ts.length→TokAt w g (pre.length*3) ts
 | [],_,_,_,_=>trivial
 | t :: ts,pre,n,h,hn=>by
  have hl:=tokCells_len pre
  have hc:∀ i,i<3→w.cell? ⟨g,pre.length*3+i,none⟩=t.cells[i]?:=by
   intro i hi
   rw [h.cellAt (pre.length*3+i) (by simp at hn;omega)]
   have e:Z0Q (pre++t :: ts)=Z0Q pre++(t.cells++Z0Q ts):=by simp [Z0Q]
   rw [e,List.getElem?_append_right (by omega),hl,Nat.add_sub_cancel_left,List.getElem?_append_left (by simp [Tok.cells];omega)]
  refine ⟨hc 0 (by omega),hc 1 (by omega),hc 2 (by omega),?_⟩
  have:=TokAt.of_row ts (pre ++ [t]) n (by simpa using h) (by simp at hn ⊢;omega)
  rw [List.length_append,List.length_singleton,Nat.add_mul] at this
  exact this
theorem giveUp_line (w:World)(pb:Nat)(line:Int)(c4:w.cell? ⟨pb,4,none⟩=some (.int .i64 line)) :
  Calls Tryz.prog 164 #[.pointer (some ⟨pb,0,none⟩)] w fun e w'=>e=synE line∧w'=w:=by
 go_enter Tryz.func164,Tryz.ntmps164
 go_wp2
 exact ⟨rfl,rfl,rfl⟩
theorem cut59 (s:ByteArray)(m:Int)(w:World)(hs:s.size<1000000)(hm:w.cell? ⟨0,0,none⟩=some (.int .i64 m)) :
  Calls Tryz.prog 100 #[.string s,.string ⟨#[59]⟩] w fun e w'=>∃ (r:ByteArray) (z:Bool) (n:Nat),e=.returned (.tuple #[.string (Z1X s),.string r,.bool z])∧w'=w.drewN n:=by
 refine (Tryz.strings_Cut s ⟨#[59]⟩ m w (by omega) hm).mono ?_
 rintro e w1 ⟨rfl,n,rfl⟩
 exact ⟨_,_,n,rfl,rfl⟩
theorem cut_len (l:List UInt8):(Lib.cut l [59]).1.length≤l.length:=by
 unfold Lib.cut
 split
 all_goals simp
 all_goals exact Nat.min_le_right _ _
def LEnd (w:World) (pb:Nat) (b:Bk) (line:Int) (o:Option (ByteArray × Stm)) (e:Ending) (w':World):Prop :=
 match o with
 | none=>e=synE line∧w.grownBy w' (some pb)
 | some (lb,x)=>∃ v kv,e=.returned (stV line 0 lb x.task x.name v x.ins.code kv x.ins.size)∧VAt w' w.heap.size v x.vals∧w'.ownsRow 0 111 1 kv x.ins.kinds.length (Z0m x.ins.kinds)∧(∀ j,kv.ownBlock=some j→j<pb)∧P0 w' pb b∧w.grownBy w' (some pb)
theorem Z7q {ts:List Tok}{lb:ByteArray}{l:List Tok}(h:Z07 ts=some (lb,l)):l.length≤ts.length:=by
 match ts with
 | []=>simp [Z07] at h
 | [t]=>simp [Z07] at h;rw [←h.2];exact Nat.le_refl _
 | t :: u :: ts =>
  simp only [Z07] at h
  split at h
  ·cases h;exact Nat.le_refl _
  ·split at h
   ·cases h;simp;omega
   ·cases h
theorem pg_grown {w w6 w7 w8:World}{pb:Nat}(h:w.grownBy w6 (some pb))(h7:Below w6.heap.size w6 w7)(h8:Grow2 w7 w8 pb w6.heap.size):w.grownBy w8 (some pb):=by
 have z6:=h.size
 have z7:=h7.size
 exact ⟨(h8.os.trans h7.os).trans h.os,(h8.tape.trans h7.tape).trans h.tape,(h8.output.trans h7.output).trans h.output,by have:=h8.size;omega,fun k hk hne=>by
  rw [h8.block k (by omega) (by simpa using hne) (by omega),h7.block k (by omega)]
  exact h.block k hk hne⟩
theorem Z1t {w:World}{r k:Nat}(h:k≠r)(v0 v1 v2 v3 v4 v5 v6 v7 v8:Value):(((((((((w.setCell ⟨r,0,none⟩ v0).setCell ⟨r,1,none⟩ v1).setCell ⟨r,2,none⟩ v2).setCell ⟨r,3,none⟩ v3).setCell ⟨r,4,none⟩ v4).setCell ⟨r,5,none⟩ v5).setCell ⟨r,6,none⟩ v6).setCell ⟨r,7,none⟩ v7).setCell ⟨r,8,none⟩ v8).heap[k]?=w.heap[k]?:=by
 have e:∀ (x:World) (j:Nat) (v:Value),(x.setCell ⟨r,j,none⟩ v).heap[k]?=x.heap[k]?:=fun x j v=>Below.heap_setCell _ _ _ _ (by simpa using h)
 rw [e,e,e,e,e,e,e,e,e]
abbrev Zst:Array Value:=#[.int .i64 0,.int .i64 0,.string ⟨#[]⟩,.int .i64 0,.string ⟨#[]⟩,.slice none 0 0,.int .u8 0,.slice none 0 0,.int .i64 0]
theorem parse_any (w:World)(pb:Nat)(b:Bk)(s:ByteArray)(line m:Int)(h:P0 w pb b)(hb:BookAt w b)(hI:InsAt w b pb)(hl1:b.cb<pb)(hl2:b.fb<pb)(hl3:b.db<pb)(hib:b.ib<pb)(hs:s.size≤100000)(hm:w.cell? ⟨0,0,none⟩=some (.int .i64 m))(_h0:0<pb) :
  Calls Tryz.prog 105 #[.pointer (some ⟨pb,0,none⟩),.string s,.int .i64 line] w (LEnd w pb b line (Z1d s)):=by
 have hbs:(Z1X s).size≤100000:=by
  have:=cut_len s.data.toList
  rw [Array.length_toList] at this
  show (Lib.cut s.data.toList [59]).1.toArray.size≤_
  rw [List.size_toArray]
  exact Nat.le_trans this hs
 obtain ⟨c0,c1,c2,c3,⟨n4,c4⟩,⟨a5,n5,k5,c5⟩,f4,f5,hlt⟩:=h
 obtain ⟨R,hR⟩:∃ R,Z1d s=R:=⟨_,rfl⟩
 rw [hR]
 have HR:=Z0a hR
 have hb2:Below (w.heap.size) (w.setCell ⟨pb,4,none⟩ (.int .i64 line)) ((w.setCell ⟨pb,4,none⟩ (.int .i64 line)).alloc (.cells Zst 130)):=(Below.refl _ _).alloc (by simp [World.setCell]) _
 have hg2:w.grownBy ((w.setCell ⟨pb,4,none⟩ (.int .i64 line)).alloc (.cells Zst 130)) (some pb):=Z5R (Z4x _ _ _ _) _
 have d0:((w.setCell ⟨pb,4,none⟩ (.int .i64 line)).alloc (.cells Zst 130)).cell? ⟨pb,0,none⟩=some (.map (some b.cb)):=by rw [hb2.cell (by simpa using hlt),World.cell?_setCell_other _ _ _ _ (by simp)];exact c0
 have d1:((w.setCell ⟨pb,4,none⟩ (.int .i64 line)).alloc (.cells Zst 130)).cell? ⟨pb,1,none⟩=some (.map (some b.ib)):=by rw [hb2.cell (by simpa using hlt),World.cell?_setCell_other _ _ _ _ (by simp)];exact c1
 have d2:((w.setCell ⟨pb,4,none⟩ (.int .i64 line)).alloc (.cells Zst 130)).cell? ⟨pb,2,none⟩=some (.map (some b.fb)):=by rw [hb2.cell (by simpa using hlt),World.cell?_setCell_other _ _ _ _ (by simp)];exact c2
 have d3:((w.setCell ⟨pb,4,none⟩ (.int .i64 line)).alloc (.cells Zst 130)).cell? ⟨pb,3,none⟩=some (.map (some b.db)):=by rw [hb2.cell (by simpa using hlt),World.cell?_setCell_other _ _ _ _ (by simp)];exact c3
 have d4:((w.setCell ⟨pb,4,none⟩ (.int .i64 line)).alloc (.cells Zst 130)).cell? ⟨pb,4,none⟩=some (.int .i64 line):=by rw [hb2.cell (by simpa using hlt)];exact World.cell?_setCell_same _ _ _ c4
 have d5:((w.setCell ⟨pb,4,none⟩ (.int .i64 line)).alloc (.cells Zst 130)).cell? ⟨pb,5,none⟩=some (.slice a5 n5 k5):=by rw [hb2.cell (by simpa using hlt),World.cell?_setCell_other _ _ _ _ (by simp)];exact c5
 have df:((w.setCell ⟨pb,4,none⟩ (.int .i64 line)).alloc (.cells Zst 130)).frozen? ⟨pb,5,none⟩=false:=by rw [hb2.frozen (by simpa using hlt),World.frozen?_setCell];exact f5
 have df4:((w.setCell ⟨pb,4,none⟩ (.int .i64 line)).alloc (.cells Zst 130)).frozen? ⟨pb,4,none⟩=false:=by rw [hb2.frozen (by simpa using hlt),World.frozen?_setCell];exact f4
 have dm:((w.setCell ⟨pb,4,none⟩ (.int .i64 line)).alloc (.cells Zst 130)).cell? ⟨0,0,none⟩=some (.int .i64 m):=by rw [hb2.cell (by simp;omega),World.cell?_setCell_other _ _ _ _ (by simp)];exact hm
 have hz2:((w.setCell ⟨pb,4,none⟩ (.int .i64 line)).alloc (.cells Zst 130)).heap.size=w.heap.size+1:=by simp [World.setCell]
 have dz:((w.setCell ⟨pb,4,none⟩ (.int .i64 line)).alloc (.cells Zst 130)).heap[w.heap.size]?=some (.cells Zst 130):=by
  have:w.heap.size=(w.setCell ⟨pb,4,none⟩ (.int .i64 line)).heap.size:=by simp [World.setCell]
  rw [this]
  exact heap_alloc_last _ _
 have hbk2:=hb.kept hg2 (by omega) (by omega) (by omega)
 have hI2:=hI.kept (B:=pb+1) (sb:=w.heap.size) (Grow2.of1 hg2 w.heap.size) hib (by omega) (by omega)
 have HALL:=Z0a (And.intro d0 (And.intro d1 (And.intro d2 (And.intro d3 (And.intro d4 (And.intro d5 (And.intro (And.intro df df4) (And.intro hz2 (And.intro dz (And.intro hbk2 (And.intro hI2 hg2)))))))))))
 have HC:=Z0a (cut59 s m _ (by omega) dm)
 clear d0 d1 d2 d3 d4 d5 df df4 dm hz2 dz hbk2 hI2 hg2 hb2 f5 hb hI hm hR c0 c1 c2 c3
 go_enter Tryz.func105,Tryz.ntmps105
 go_wp2_with fail
 refine HC.out.mono ?_
 rintro e w3 ⟨r,z,nd,rfl,rfl⟩
 generalize (w.setCell ⟨pb,4,none⟩ (.int .i64 line)).alloc (.cells Zst 130)=w2 at HALL ⊢
 obtain ⟨d0,d1,d2,d3,d4,d5,⟨df,df4⟩,hz2,dz,hbk2,hI2,hg2⟩:=HALL.out
 have hbd:Below w2.heap.size w2 (w2.drewN nd):=below_drewN (Below.refl _ _) _
 cases hsc:Z2w (Z1X s).size (capS (Z1X s)) with
 | none =>
  have HEN:=Z0a (show R=none by rw [←HR.out];unfold Z1d;rw [hsc];rfl)
  have hscn:=scan_any (Z1X s) (w2.drewN nd) (by omega)
  rw [hsc] at hscn
  have HSC:=Z0a hscn
  clear hscn hsc
  go_wp2_with fail
  refine HSC.out.mono ?_
  rintro e w4 ⟨rfl,hb4⟩
  have hb4':Below w2.heap.size w2 w4:=hbd.trans hb4
  have HG:=Z0a (giveUp_line w4 pb line (by rw [hb4'.cell (by simp;omega)];exact d4))
  go_wp2_with fail
  refine HG.out.mono ?_
  rintro e w5 ⟨rfl,rfl⟩
  unfold synE
  go_wp2_with fail
  rw [HEN.out]
  exact ⟨rfl,rfl,hg2.trans2 (Z0j hb4')⟩
 | some ts =>
  have HEN:=Z0a (show R=Z7a ts by rw [←HR.out];unfold Z1d;rw [hsc];rfl)
  have hscn:=scan_any (Z1X s) (w2.drewN nd) (by omega)
  rw [hsc] at hscn
  have HSC:=Z0a hscn
  have htk:=Z6x _ _ _ hsc
  have htl:=Z6a _ _ _ hsc
  have hcs:(capS (Z1X s)).size=(Z1X s).size:=by unfold capS;show ((Z1X s).data.map capB).size=_;rw [Array.size_map];rfl
  clear hscn hsc
  go_wp2_with fail
  refine HSC.out.mono ?_
  rintro e w4 ⟨g,cap,rfl,hrow4,hb4⟩
  have hb4':Below w2.heap.size w2 w4:=hbd.trans hb4
  have hz4:=hb4'.size
  have e5:w4.cell? ⟨pb,5,none⟩=some (.slice a5 n5 k5):=by rw [hb4'.cell (by simp;omega)];exact d5
  have f5:w4.frozen? ⟨pb,5,none⟩=false:=by rw [hb4'.frozen (by simp;omega)];exact df
  have f44:w4.frozen? ⟨pb,4,none⟩=false:=by rw [hb4'.frozen (by simp;omega)];exact df4
  have hgl:=hrow4.lt g rfl
  have hpz:pb<w4.heap.size:=by omega
  obtain ⟨w5,hw5⟩:∃ w5,w4.setCell ⟨pb,5,none⟩ (.slice (some ⟨g,0,none⟩) (ts.length+1) cap)=w5:=⟨_,rfl⟩
  have hgn:g≠pb:=by have:=hgl.1;simp at this;omega
  have hs5:∀ k,k≠pb→w5.heap[k]?=w4.heap[k]?:=fun k hk=>by rw [←hw5];exact Below.heap_setCell _ _ _ _ (by simpa using hk)
  have hz5:w5.heap.size=w4.heap.size:=by rw [←hw5];simp [World.setCell]
  have hps:PS w5 w4.heap.size pb b line (ts ++ [endT]):=by
   obtain ⟨_,⟨h',_⟩ | ⟨g',cap',cur,h',hg',hh',hle',hmx',_⟩⟩:=id hrow4
   ·cases h'
   ·cases h'
    refine ⟨?_,?_,?_,?_,?_,?_,?_,hpz,by omega,⟨g,0,cap,?_,by simpa using hle',hmx',?_,hgn,hgl.2⟩,by simp,fun t ht=>?_⟩
    ·rw [←hw5,World.cell?_setCell_other _ _ _ _ (by simp),hb4'.cell (by simp;omega)];exact d0
    ·rw [←hw5,World.cell?_setCell_other _ _ _ _ (by simp),hb4'.cell (by simp;omega)];exact d1
    ·rw [←hw5,World.cell?_setCell_other _ _ _ _ (by simp),hb4'.cell (by simp;omega)];exact d2
    ·rw [←hw5,World.cell?_setCell_other _ _ _ _ (by simp),hb4'.cell (by simp;omega)];exact d3
    ·rw [←hw5,World.cell?_setCell_other _ _ _ _ (by simp),hb4'.cell (by simp;omega)];exact d4
    ·rw [←hw5,World.frozen?_setCell];exact f5
    ·rw [←hw5,World.frozen?_setCell];exact f44
    ·rw [←hw5,List.length_append];exact World.cell?_setCell_same _ _ _ e5
    ·have:=TokAt.of_row (ts ++ [endT]) [] (ts.length+1) hrow4 (by simp)
     exact this.kept (hs5 g hgn)
    ·rcases List.mem_append.1 ht with h' | h'
     ·have:=(htk t h').2;omega
     ·simp at h';subst h';show 0≤400000;omega
  have hgr5:w2.grownBy w5 (some pb):=⟨by rw [←hw5];exact hb4'.os,by rw [←hw5];exact hb4'.tape,by rw [←hw5];exact hb4'.output,by omega,fun k hk hne=>by rw [hs5 k (by simpa using hne)];exact hb4'.block k hk⟩
  have hap:Apart w4.heap.size pb b:=⟨by omega,by omega,by omega,by omega,by omega,by omega⟩
  have hbk5:=hbk2.kept hgr5 (by omega) (by omega) (by omega)
  have hlab:=label_any w5 w4.heap.size pb b line (ts ++ [endT]) hps hbk5 hap (fun t u l hh hk=>by
   cases ts with
   | nil=>simp at hh
   | cons t1 ts1 =>
    simp at hh
    have:=(htk t1 (by simp)).1
    rw [hh.1] at this
    exact this hk)
  have hI5:=hI2.kept (B:=pb+1) (sb:=w.heap.size) (Grow2.of1 hgr5 w.heap.size) hib (by omega) (by omega)
  have hdz5:w5.heap[w.heap.size]?=some (.cells Zst 130):=by rw [hs5 _ (by omega),hb4'.block _ (by omega)];exact dz
  have hg5:=hg2.trans2 hgr5
  have H5:=Z0a (And.intro hbk5 (And.intro hI5 (And.intro hdz5 hg5)))
  clear hbk5 hI5 hdz5 hg5 hgr5 hps hrow4 hb4 hbk2 hI2 d0 d1 d2 d3 d4 d5 df df4 dz hg2 htk HSC HC HALL
  cases hlb:Z07 (ts ++ [endT]) with
  | none =>
   have HE2:=Z0a (show R=none by rw [HEN.out];unfold Z7a;rw [hlb];rfl)
   rw [hlb] at hlab
   have HL:=Z0a hlab
   clear hlab hlb
   go_wp2_with fail
   refine HL.out.mono ?_
   rintro e w6 ⟨rfl,hg6⟩
   unfold synE
   go_wp2_with fail
   rw [HE2.out]
   exact ⟨rfl,rfl,H5.out.2.2.2.trans2 hg6⟩
  | some xl =>
   obtain ⟨lb,l⟩:=xl
   have HE2:=Z0a (show R=(Z1H l).bind fun y=>if Z6J y.2=true then some (lb,y.1) else none by rw [HEN.out];unfold Z7a;rw [hlb];rfl)
   have hll:l.length≤ts.length+1:=by have:=Z7q hlb;simpa using this
   rw [hlb] at hlab
   have HL:=Z0a hlab
   clear hlab hlb
   go_wp2_with fail
   refine HL.out.mono ?_
   rintro e w6 ⟨rfl,hp6,hg6⟩
   have hz6:=hg6.size
   have hb7:Below w6.heap.size w6 (w6.alloc (.cells #[.int .i64 line,.int .i64 0,.string lb,.int .i64 0,.string ⟨#[]⟩,.slice none 0 0,.int .u8 0,.slice none 0 0,.int .i64 0] 130)):=(Below.refl _ _).alloc (Nat.le_refl _) _
   have hS7:SS (w6.alloc (.cells #[.int .i64 line,.int .i64 0,.string lb,.int .i64 0,.string ⟨#[]⟩,.slice none 0 0,.int .u8 0,.slice none 0 0,.int .i64 0] 130)) w6.heap.size line 0 lb (0:Nat) ⟨#[]⟩ (.slice none 0 0) 0 (.slice none 0 0) 0:=⟨by simp,by simp,by simp,by simp,by simp,by simp,by simp,by simp,by simp,fun j=>by simp,by simp⟩
   have hbk6:=H5.out.1.kept hg6 (by omega) (by omega) (by omega)
   have hI6:=H5.out.2.1.kept (B:=pb+1) (sb:=w.heap.size) (Grow2.of1 hg6 w.heap.size) hib (by omega) (by omega)
   have hdz6:w6.heap[w.heap.size]?=some (.cells Zst 130):=by rw [hg6.block _ (by omega) (by simp;omega)];exact H5.out.2.2.1
   have hg06:=H5.out.2.2.2.trans2 hg6
   have hrt:=readTask_any _ w4.heap.size pb w6.heap.size b line l (hp6.kept (hb7.mono (by omega))) (hbk6.below hb7) (hI6.kept (B:=pb+1) (sb:=w6.heap.size) (Grow2.ofB hb7 pb w6.heap.size) hib (by omega) (by omega)) hib hap (by omega) line 0 lb hS7 (by omega) (by omega)
   have H6:=Z0a (And.intro hdz6 hg06)
   clear hbk6 hI6 hdz6 hg06 hp6 hS7 H5 HL
   cases hpt:Z1H l with
   | none =>
    have HE3:=Z0a (show R=none by rw [HE2.out,hpt];rfl)
    rw [hpt] at hrt
    have HT:=Z0a hrt
    clear hrt hpt
    go_wp2_with fail
    refine HT.out.mono ?_
    rintro e w8 ⟨rfl,hg8⟩
    unfold synE
    go_wp2_with fail
    rw [HE3.out]
    exact ⟨rfl,rfl,pg_grown H6.out.2 hb7 hg8⟩
   | some yl =>
    obtain ⟨st,l2⟩:=yl
    have HE3:=Z0a (show R=if Z6J l2=true then some (lb,st) else none by rw [HE2.out,hpt];rfl)
    rw [hpt] at hrt
    have HT:=Z0a hrt
    clear hrt hpt
    go_wp2_with fail
    refine HT.out.mono ?_
    rintro e w8 ⟨v,kv,rfl,hV,hSS,hkr,hkb,hp8,hg8⟩
    obtain ⟨u,l3,rfl⟩:=hp8.ne
    have HA:=Z0a (Z0S w8 w4.heap.size pb b line u l3 hp8)
    have HP8:=Z0a hp8
    have HGG:=Z0a (pg_grown H6.out.2 hb7 hg8)
    by_cases hk:u.kind=0
    ·have HE4:=Z0a (show R=some (lb,st) by rw [HE3.out,if_pos (by simp [Z6J,hk])])
     rw [show decide (u.kind=0)=true by simp [hk]] at HA
     obtain ⟨va,vn,vc,rfl⟩:=hV.slice
     obtain ⟨ka,kn,kc,rfl⟩:=Z2a hkr
     have hz7:w6.heap.size+1≤w8.heap.size:=by have:=hg8.size;simpa using this
     have hdz8:w8.heap[w.heap.size]?=some (.cells Zst 130):=by rw [hg8.block _ (by simp;omega) (by omega) (by omega),hb7.block _ (by omega)];exact H6.out.1
     have r0:w8.cell? ⟨w.heap.size,0,none⟩=some (.int .i64 0):=by simp [World.cell?,hdz8]
     have r1:w8.cell? ⟨w.heap.size,1,none⟩=some (.int .i64 0):=by simp [World.cell?,hdz8]
     have r2:w8.cell? ⟨w.heap.size,2,none⟩=some (.string ⟨#[]⟩):=by simp [World.cell?,hdz8]
     have r3:w8.cell? ⟨w.heap.size,3,none⟩=some (.int .i64 0):=by simp [World.cell?,hdz8]
     have r4:w8.cell? ⟨w.heap.size,4,none⟩=some (.string ⟨#[]⟩):=by simp [World.cell?,hdz8]
     have r5:w8.cell? ⟨w.heap.size,5,none⟩=some (.slice none 0 0):=by simp [World.cell?,hdz8]
     have r6:w8.cell? ⟨w.heap.size,6,none⟩=some (.int .u8 0):=by simp [World.cell?,hdz8]
     have r7:w8.cell? ⟨w.heap.size,7,none⟩=some (.slice none 0 0):=by simp [World.cell?,hdz8]
     have r8:w8.cell? ⟨w.heap.size,8,none⟩=some (.int .i64 0):=by simp [World.cell?,hdz8]
     have rf:∀ j,w8.frozen? ⟨w.heap.size,j,none⟩=false:=fun j=>by simp [World.frozen?,hdz8]
     have g0:=rf 0
     have g1:=rf 1
     have g2:=rf 2
     have g3:=rf 3
     have g4:=rf 4
     have g5:=rf 5
     have g6:=rf 6
     have g7:=rf 7
     have g8:=rf 8
     have hrl:w.heap.size<w8.heap.size:=by omega
     have HF:=Z0a (And.intro hV (And.intro hkr hkb))
     obtain ⟨s0,s1,s2,s3,s4,s5,s6,s7,s8,sf,sl⟩:=hSS
     clear hV hkr hkb hp8 hg8 sf rf hdz8 hb7
     go_wp2_with fail
     refine HA.out.mono ?_
     rintro e w9 ⟨rfl,hw9⟩
     rw [hw9]
     clear hw9 w9
     go_wp2_with fail
     refine bodyPost_ret (v:=stV line 0 lb st.task st.name (.slice va vn vc) st.ins.code (.slice ka kn kc) st.ins.size) (by simp [results,Tryz.results105,go_sem,stV,r0,r1,r2,r3,r4,r5,r6,r7,r8]) rfl ?_
     rw [HE4.out]
     have hps8:=HP8.out
     obtain ⟨gg,oo,cc,k1,_⟩:=hps8.tk
     have hrp:pb≠w.heap.size:=by omega
     have hrb:w.heap.size<(w6.alloc (.cells #[.int .i64 line,.int .i64 0,.string lb,.int .i64 0,.string ⟨#[]⟩,.slice none 0 0,.int .u8 0,.slice none 0 0,.int .i64 0] 130)).heap.size:=by simp;omega
     refine ⟨_,_,rfl,VAt.lower (((((((((HF.out.1.set hrb _).set hrb _).set hrb _).set hrb _).set hrb _).set hrb _).set hrb _).set hrb _).set hrb _) (by simp;omega),Z1l HF.out.2.1 (fun j hj=>?_),HF.out.2.2,⟨?_,?_,?_,?_,⟨line,?_⟩,⟨some ⟨gg,oo,none⟩,(u :: l3).length,cc,?_⟩,(World.frozen?_of_block (a:=⟨pb,4,none⟩) (Z1t hrp _ _ _ _ _ _ _ _ _)).trans hps8.f4,(World.frozen?_of_block (a:=⟨pb,5,none⟩) (Z1t hrp _ _ _ _ _ _ _ _ _)).trans hps8.f5,by simp [World.setCell];omega⟩,?_⟩
     ·exact Z1t (by have:=HF.out.2.2 j hj;omega) _ _ _ _ _ _ _ _ _
     ·exact (World.cell?_of_block (a:=⟨pb,0,none⟩) (Z1t hrp _ _ _ _ _ _ _ _ _)).trans hps8.c0
     ·exact (World.cell?_of_block (a:=⟨pb,1,none⟩) (Z1t hrp _ _ _ _ _ _ _ _ _)).trans hps8.c1
     ·exact (World.cell?_of_block (a:=⟨pb,2,none⟩) (Z1t hrp _ _ _ _ _ _ _ _ _)).trans hps8.c2
     ·exact (World.cell?_of_block (a:=⟨pb,3,none⟩) (Z1t hrp _ _ _ _ _ _ _ _ _)).trans hps8.c3
     ·exact (World.cell?_of_block (a:=⟨pb,4,none⟩) (Z1t hrp _ _ _ _ _ _ _ _ _)).trans hps8.c4
     ·exact (World.cell?_of_block (a:=⟨pb,5,none⟩) (Z1t hrp _ _ _ _ _ _ _ _ _)).trans k1
     ·exact grown_fresh (grown_fresh (grown_fresh (grown_fresh (grown_fresh (grown_fresh (grown_fresh (grown_fresh (grown_fresh HGG.out (Nat.le_refl _) _) (Nat.le_refl _) _) (Nat.le_refl _) _) (Nat.le_refl _) _) (Nat.le_refl _) _) (Nat.le_refl _) _) (Nat.le_refl _) _) (Nat.le_refl _) _) (Nat.le_refl _) _
    ·have HE4:=Z0a (show R=none by rw [HE3.out,if_neg (by simp [Z6J,hk])])
     rw [show decide (u.kind=0)=false by simp [hk]] at HA
     have HGU:=Z0a (Z05 w8 w4.heap.size pb b line (u :: l3) hp8)
     clear hV hSS hkr hkb hp8 hg8
     go_wp2_with fail
     refine HA.out.mono ?_
     rintro e w9 ⟨rfl,hw9⟩
     rw [hw9]
     clear hw9 w9
     go_wp2_with fail
     refine HGU.out.mono ?_
     rintro e w9 ⟨rfl,rfl⟩
     unfold synE
     go_wp2_with fail
     rw [HE4.out]
     exact ⟨rfl,rfl,HGG.out⟩
end Go.Proofs.YthokdbcpkmcieaaGreatDoor
namespace Go.Proofs.YthokdbcpkmcieaaGreatDoor
open Go Go.RowKit
def pcOk:List (List UInt8)→Bool
 | []=>true
 | p :: l=>((!p.isEmpty && p.all isW && (match l with
  | []=>true
  | q :: _=>!(isW (q.headD 0)) && !q.isEmpty)) || (decide (p.length=1) && !(isW (p.headD 0)))) && pcOk l
def toksP:List (List UInt8)→Option (List Tok)
 | []=>some []
 | p :: l=>(Z14 (p.headD 0) ⟨p.toArray⟩).bind fun o=>(toksP l).map (optL o ++ ·)
theorem Z6Z {p r:List UInt8}(hp:p.all isW=true)(hr:∀ c,r.head?=some c→isW c=false):(p++r).takeWhile isW=p:=by
 rw [List.takeWhile_append_of_pos (fun a ha=>List.all_eq_true.1 hp a ha)]
 cases r with
 | nil=>simp
 | cons c r =>
  have:=hr c rfl
  rw [List.takeWhile_cons,this]
  simp
theorem ext_left (p r:List UInt8):(⟨(p++r).toArray⟩:ByteArray).extract 0 p.length=⟨p.toArray⟩:=by
 apply ByteArray.ext
 apply Array.ext'
 rw [Lib.extract_data]
 simp
theorem ext_right (p r:List UInt8):(⟨(p++r).toArray⟩:ByteArray).extract p.length (⟨(p++r).toArray⟩:ByteArray).size=⟨r.toArray⟩:=by
 apply ByteArray.ext
 apply Array.ext'
 rw [Lib.extract_data]
 have:(⟨(p++r).toArray⟩:ByteArray).size=p.length+r.length:=by
  show (p++r).toArray.size=_
  simp
 rw [this]
 simp
theorem scan_piece (f:Nat)(p r:List UInt8)(hp:p≠[])(hn:max (runN (p++r)) 1=p.length):Z2w (f+1) ⟨(p++r).toArray⟩=(Z14 (p.headD 0) ⟨p.toArray⟩).bind fun o=>(Z2w f ⟨r.toArray⟩).map (optL o ++ ·):=by
 obtain ⟨c,q,rfl⟩:∃ c q,p=c :: q:=by
  cases p with
  | nil=>exact absurd rfl hp
  | cons c q=>exact ⟨c,q,rfl⟩
 have hs:0<(⟨((c :: q)++r).toArray⟩:ByteArray).size:=by
  show 0<((c :: q)++r).toArray.size
  simp
 have hpn:Z4s ⟨((c :: q)++r).toArray⟩=(c :: q).length:=hn
 rw [Z2w,dif_pos hs]
 unfold Z65 Z4u
 rw [hpn,ext_left,ext_right]
 rfl
theorem Z6G:∀ (ps:List (List UInt8)) (f:Nat),pcOk ps=true→ps.length≤f→Z2w f ⟨ps.flatten.toArray⟩=toksP ps
 | [],f,_,_=>scanF_nil f _ rfl
 | p :: l,0,_,h=>by simp at h
 | p :: l,f+1,hok,h=>by
  have ih:=Z6G l f
  simp only [pcOk,Bool.and_eq_true,Bool.or_eq_true,decide_eq_true_eq,Bool.not_eq_true'] at hok
  obtain ⟨h1,h2⟩:=hok
  have ih:=ih h2 (by simpa using h)
  rw [List.flatten_cons]
  have key:p≠[]∧max (runN (p++l.flatten)) 1=p.length:=by
   rcases h1 with ⟨⟨a1,a2⟩,a3⟩ | ⟨a1,a2⟩
   ·have hne:p≠[]:=by intro e;rw [e] at a1;simp at a1
    refine ⟨hne,?_⟩
    unfold runN
    rw [Z6Z a2 (fun c hc=>?_)]
    ·have:0<p.length:=List.length_pos_iff.2 hne
     omega
    ·cases l with
     | nil=>simp at hc
     | cons q l =>
      simp only [Bool.and_eq_true,Bool.not_eq_true'] at a3
      cases q with
      | nil=>simp at a3
      | cons d q =>
       simp at hc
       rw [←hc]
       exact a3.1
   ·obtain ⟨c,rfl⟩:=List.length_eq_one_iff.1 a1
    refine ⟨by simp,?_⟩
    have e:isW c=false:=a2
    simp [runN,e]
  rw [scan_piece f p l.flatten key.1 key.2,ih]
  rfl
theorem pc_sign {c:UInt8}{l:List (List UInt8)}(h:isW c=false)(hl:pcOk l=true):pcOk ([c] :: l)=true:=by
 refine Bool.and_eq_true_iff.2 ⟨Bool.or_eq_true_iff.2 (.inr ?_),hl⟩
 show (decide (1=1) && !(isW c))=true
 rw [h]
 rfl
theorem pc_word {p:List UInt8}{c:UInt8}{l:List (List UInt8)}(hp:p≠[])(hw:p.all isW=true)(hc:isW c=false)(hl:pcOk ([c] :: l)=true):pcOk (p :: [c] :: l)=true:=by
 refine Bool.and_eq_true_iff.2 ⟨Bool.or_eq_true_iff.2 (.inl ?_),hl⟩
 have e:p.isEmpty=false:=by simpa using hp
 show (!p.isEmpty && p.all isW && (!(isW c) && ![c].isEmpty))=true
 rw [e,hw,hc]
 rfl
end Go.Proofs.YthokdbcpkmcieaaGreatDoor
namespace Go.Proofs.YthokdbcpkmcieaaGreatDoor
open Go Go.RowKit Go.Shelf
theorem cell_of_block {w:World}{b o:Nat}{c:Array Value}{t:TypeId}{v:Value}(h:w.heap[b]?=some (.cells c t (0,0)))(hv:c[o]?=some v):w.cell? ⟨b,o,none⟩=some v:=by
 rw [cell_of_row w b o c t (0,0) h];exact hv
theorem Reads.kept {w w':World}{b g:Nat}{r:ByteArray}{sh:Bool}(h:Reads w b r sh)(hg:w.grownBy w' (some g))(hne:b≠g)(hb:b<w.heap.size):Reads w' b r sh:=by
 have e:=hg.block b hb (fun e=>hne (Option.some.inj e))
 exact ⟨(World.cell?_of_block (a:=⟨b,0,none⟩) e).trans h.c0,(World.cell?_of_block (a:=⟨b,1,none⟩) e).trans h.c1,(World.frozen?_of_block (a:=⟨b,0,none⟩) e).trans h.f0,(World.frozen?_of_block (a:=⟨b,1,none⟩) e).trans h.f1⟩
theorem read_any (base g cap n:Nat)(l:List Opn)(code:ByteArray)(w:World)(hl:l.length=n)(hn:n≤1000)(hown:w.ownsRow base 114 5 (.slice (some ⟨g,0,none⟩) n cap) n (Z0t l))
  (hk:∀ k,k<n→(l.getD k opn0).kind<17) (hc:0<code.size) (hc2:code.size≤maxLen) :
  Calls Tryz.prog 60 #[.slice (some ⟨g,0,none⟩) n cap,.string code] w fun e w' =>
   e=.returned (.tuple #[.int .i64 ((code.size:Int)-((Z1a l (code.extract 1 code.size) false n).2.1.size:Int)),.bool (!(Z1a l (code.extract 1 code.size) false n).2.2)]) ∧
   w'.ownsRow base 114 5 (.slice (some ⟨g,0,none⟩) n cap) n (Z0t (Z1a l (code.extract 1 code.size) false n).1)∧w.grownBy w' (some g):=by
 have hgw:g<w.heap.size:=(hown.lt g rfl).2
 go_enter Tryz.func60,Tryz.ntmps60
 go_wp2_with fail
 refine (Z7J _).mono ?_
 rintro e w1 ⟨rfl,hb1⟩
 have hs1:w.heap.size≤w1.heap.size:=hb1.size
 go_wp2_with (refine wpList_store_row rfl 200 (.tmp 6) (.tmp 9) rfl w1.heap.size Z0I rfl rfl 200 _ (heap_alloc_last w1 _) Z3t rfl Z5v ?_;rw [World.setRow_alloc_new])
 go_loopw [15] (fun i wr=>∃ k:Nat,k≤n∧i=.int .i64 k∧wr.ownsRow base 114 5 (.slice (some ⟨g,0,none⟩) n cap) n (Z0t (Z1a l (code.extract 1 code.size) false k).1)∧Reads wr (w1.heap.size+1) (Z1a l (code.extract 1 code.size) false k).2.1 (Z1a l (code.extract 1 code.size) false k).2.2∧wr.heap[w1.heap.size]?=some (.cells Z0I 200 (0,0))∧w.grownBy wr (some g)∧w1.heap.size+2≤wr.heap.size) (fun i _=>n-(intOf i).toNat)
 case atStart =>
  refine ⟨0,Nat.zero_le _,rfl,?_,⟨by simp [Z1a],by simp [Z1a],by simp,by simp⟩,?_,?_,by simp⟩
  ·have:w1.ownsRow base 114 5 (.slice (some ⟨g,0,none⟩) n cap) n (Z0t l):=hown.kept (row:=none) ⟨hb1.os,hb1.tape,hb1.output,hb1.size,fun k hk _=>hb1.block k hk⟩ (.inr (by simp [Value.ownBlock]))
   exact (this.alloc _).alloc _
  ·rw [Below.heap_alloc _ _ _ (by simp)];exact heap_alloc_last w1 _
  ·have hb2:Below w.heap.size w ((w1.alloc (.cells Z0I 200)).alloc (.cells #[.string (code.extract 1 code.size),.bool false] 203)):=(hb1.alloc hs1 _).alloc (by simp;omega) _
   exact ⟨hb2.os,hb2.tape,hb2.output,hb2.size,fun k hk _=>hb2.block k hk⟩
 case round =>
  obtain ⟨k,hkn,rfl,hrow,hrd,htab,hgr,hsz⟩:=hrel
  obtain ⟨p,hp⟩:∃ p,Z1a l (code.extract 1 code.size) false k=p:=⟨_,rfl⟩
  rw [hp] at hrow hrd
  have HP:Hid (Z1a l (code.extract 1 code.size) false k=p):=hp
  have hpl:p.1.length=n:=by rw [←hp,readTo_len];exact hl
  have HPL:Hid (p.1.length=n):=hpl
  by_cases hlt:k<n
  ·have hkd:(p.1.getD k opn0).kind<17:=by rw [←hp,readTo_kind];exact hk k hlt
   obtain ⟨q,hq⟩:∃ q,(p.1.getD k opn0).kind=q:=⟨_,rfl⟩
   have HQ:Hid ((p.1.getD k opn0).kind=q):=hq
   rw [hq] at hkd
   have ck:wr.cell? ⟨g,k*5,none⟩=some (.int .i64 q):=by rw [hrow.cellAt (k*5) (by omega),(Z3b p.1 k (by omega)).1,hq]
   have ca:wr.cell? ⟨g,k*5+3,none⟩=some (.int .u16 (p.1.getD k opn0).added):=by rw [hrow.cellAt (k*5+3) (by omega),(Z3b p.1 k (by omega)).2.2.2.1]
   have cw:wr.cell? ⟨w1.heap.size,q*3+1,none⟩=some (fv (addF q)):=cell_of_block htab (by rw [Nat.mul_comm q 3];exact addF_cell q hkd)
   have hent:=addF_enters q
   clear hp hq hpl
   go_wp2_with fail
   refine (adds_any q (w1.heap.size+1) p.2.1 p.2.2 _ hrd).mono ?_
   rintro e w2 ⟨rfl,hrd2,hg2⟩
   obtain ⟨t,ht⟩:∃ t,Z27 q p.2.1 p.2.2=t:=⟨_,rfl⟩
   rw [ht] at hrd2 ⊢
   have HT:Hid (Z27 q p.2.1 p.2.2=t):=ht
   have hrow2:w2.ownsRow base 114 5 (.slice (some ⟨g,0,none⟩) n cap) n (Z0t p.1):=hrow.kept hg2 (.inr (by simp [Value.ownBlock];omega))
   have ca2:w2.cell? ⟨g,k*5+3,none⟩=some (.int .u16 (p.1.getD k opn0).added):=by rw [hrow2.cellAt (k*5+3) (by omega),(Z3b p.1 k (by rw [HPL.out];exact hlt)).2.2.2.1]
   have cf2:w2.frozen? ⟨g,k*5+3,none⟩=false:=hrow2.frozenAt _
   have hst:=hrow2.stored (k*5+3) (.int .u16 t.1)
   have eN:Z1a l (code.extract 1 code.size) false (k+1)=(p.1.set k ((p.1.getD k opn0).put t.1),t.2.1,t.2.2):=by
    simp only [Z1a,HP.out,HQ.out,HT.out]
   have HE:Hid (Z1a l (code.extract 1 code.size) false (k+1)=(p.1.set k ((p.1.getD k opn0).put t.1),t.2.1,t.2.2)):=eN
   have hz2:=hg2.size
   have hrel1:(w2.setCell ⟨g,k*5+3,none⟩ (.int .u16 t.1)).ownsRow base 114 5 (.slice (some ⟨g,0,none⟩) n cap) n (Z0t (p.1.set k ((p.1.getD k opn0).put t.1))):=by
    rw [←allCells_set p.1 k t.1 (by rw [HPL.out];exact hlt)];exact hst.1
   have hrel2:Reads (w2.setCell ⟨g,k*5+3,none⟩ (.int .u16 t.1)) (w1.heap.size+1) t.2.1 t.2.2:=hrd2.kept hst.2 (by omega) (by omega)
   have hrel3:(w2.setCell ⟨g,k*5+3,none⟩ (.int .u16 t.1)).heap[w1.heap.size]?=some (.cells Z0I 200 (0,0)):=by
    rw [hst.2.block w1.heap.size (by omega) (by simp;omega),hg2.block w1.heap.size (by omega) (by simp)];exact htab
   have hrel4:w.grownBy (w2.setCell ⟨g,k*5+3,none⟩ (.int .u16 t.1)) (some g):=by
    refine Z2z ⟨hg2.os.trans hgr.os,hg2.tape.trans hgr.tape,hg2.output.trans hgr.output,Nat.le_trans hgr.size hg2.size,fun j hj hne=>?_⟩ hst.2
    rw [hg2.block j (Nat.lt_of_lt_of_le hj hgr.size) (by simp;omega)]
    exact hgr.block j hj hne
   have hrel5:w1.heap.size+2≤(w2.setCell ⟨g,k*5+3,none⟩ (.int .u16 t.1)).heap.size:=by have:=hst.2.size;omega
   have R:=And.intro hrel1 (And.intro hrel2 (And.intro hrel3 (And.intro hrel4 hrel5)))
   have HR:=Z0a R
   clear hrel1 hrel2 hrel3 hrel4 hrel5 R hst hrow hrow2 hrd hrd2 htab hgr hg2 ck ca cw hent eN ht
   go_wp2
   go_roundw
   case rel =>
    have R:=HR.out
    refine ⟨k+1,by omega,by go_num,?_,?_,R.2.2.1,R.2.2.2.1,R.2.2.2.2⟩
    ·rw [HE.out];exact R.1
    ·rw [HE.out];exact R.2.1
   case measure=>simp [intOf];omega
  ·have hkn':k=n:=by omega
   have HK:Hid (k=n):=hkn'
   have HR:=Z0a (And.intro hrow hgr)
   obtain ⟨c0,c1,_,_⟩:=hrd
   have hle:p.2.1.size≤maxLen:=by
    have:=readTo_size l (code.extract 1 code.size) false k
    rw [hp] at this
    simp only [ByteArray.size_extract] at this
    omega
   clear hp hpl hkn' hrow hgr
   unfold maxLen at hc2 hle
   go_wp2
   go_quiet (fail)
   go_wp2
   go_ret2
   rw [←HK.out,HP.out]
   exact ⟨rfl,by rw [HK.out];exact HR.out.1,⟨HR.out.2.os,HR.out.2.tape,HR.out.2.output,HR.out.2.size,HR.out.2.block⟩⟩
end Go.Proofs.YthokdbcpkmcieaaGreatDoor
namespace Go.Proofs.YthokdbcpkmcieaaGreatDoor
open Go.RowKit
def Z18:List Value:=rowsL.flatMap fun r=>[.int .u8 r.1,.int .u8 r.2.1,.string ⟨r.2.2.toArray⟩]
theorem rows_any (w:World) :
  Calls Tryz.prog 99 #[] w fun e w'=>e=.returned (.slice (some ⟨w.heap.size,0,none⟩) 111 111)∧w'=w.alloc (.cells Z18.toArray 101) :=
 calls_run (.slice (some ⟨w.heap.size,0,none⟩) 111 111) (w.alloc (.cells Z18.toArray 101)) Tryz.func99 rfl (by kernel_rfl) ⟨rfl,rfl⟩
def rowAt (k:Nat):Nat × Nat × List UInt8:=rowsL.getD k (0,0,[])
theorem rowCells_at (k:Nat)(h:k<111):Z18.toArray[3*k]?=some (.int .u8 (rowAt k).1)∧Z18.toArray[3*k+1]?=some (.int .u8 (rowAt k).2.1)∧Z18.toArray[3*k+2]?=some (.string ⟨(rowAt k).2.2.toArray⟩):=by
 have key:∀ (l:List (Nat × Nat × List UInt8)) (k:Nat),k<l.length→∃ r,l[k]?=some r∧(l.flatMap fun r=>[Value.int .u8 r.1,.int .u8 r.2.1,.string ⟨r.2.2.toArray⟩])[3*k]?=some (.int .u8 r.1) ∧
   (l.flatMap fun r=>[Value.int .u8 r.1,.int .u8 r.2.1,.string ⟨r.2.2.toArray⟩])[3*k+1]?=some (.int .u8 r.2.1) ∧
   (l.flatMap fun r=>[Value.int .u8 r.1,.int .u8 r.2.1,.string ⟨r.2.2.toArray⟩])[3*k+2]?=some (.string ⟨r.2.2.toArray⟩):=by
  intro l
  induction l with
  | nil=>intro k h;simp at h
  | cons x l ih =>
   intro k h
   cases k with
   | zero=>exact ⟨x,by simp⟩
   | succ k =>
    obtain ⟨r,h0,h1,h2,h3⟩:=ih k (by simpa using h)
    refine ⟨r,by simpa using h0,?_,?_,?_⟩
    ·rw [show 3*(k+1)=3*k+1+1+1 by omega];simpa using h1
    ·rw [show 3*(k+1)+1=3*k+1+1+1+1 by omega];simpa using h2
    ·rw [show 3*(k+1)+2=3*k+2+1+1+1 by omega];simpa using h3
 obtain ⟨r,h0,h1,h2,h3⟩:=key rowsL k (by have:rowsL.length=111:=(by decide +kernel);omega)
 have e:rowAt k=r:=by unfold rowAt;rw [List.getD_eq_getElem?_getD,h0];rfl
 rw [e]
 simp only [List.getElem?_toArray]
 exact ⟨h1,h2,h3⟩
end Go.Proofs.YthokdbcpkmcieaaGreatDoor
namespace Go.Proofs.YthokdbcpkmcieaaGreatDoor
open Go Go.RowKit
def wT (l:List UInt8):Tok:=⟨1,⟨l.toArray⟩,0⟩
def sT (c:UInt8):Tok:=⟨3,⟨#[c]⟩,0⟩
def nT (l:List UInt8) (v:Int):Tok:=⟨2,⟨l.toArray⟩,v⟩
theorem capS_ba (l:List UInt8):capS ⟨l.toArray⟩=⟨(l.map capB).toArray⟩:=by
 unfold capS
 simp
def SepT (t:Tok):Prop:=t=sT 44∨t=endT
theorem SepT.text {t:Tok}(h:SepT t):¬ t.text=⟨#[43]⟩∧¬ t.text=⟨#[45]⟩:=by
 rcases h with rfl | rfl <;> exact ⟨by decide,by decide⟩
theorem pRest_sep (f:Nat)(acc:List Trm)(t:Tok)(l:List Tok)(h:SepT t):Z11 (f+1) acc (t :: l)=some (acc,t :: l):=by
 simp only [Z11]
 rw [if_neg h.text.2,if_neg h.text.1]
theorem pExpr_num (t:Tok)(v:Int)(ht:¬ t.text=⟨#[36]⟩)(hk:t.kind=2)(hv:t.num=v)(s:Tok)(l:List Tok)(hs:SepT s):Z1M (t :: s :: l)=some ([numT v],s :: l):=by
 have h1:Z1C (t :: s :: l)=some (numT v,s :: l):=by
  simp only [Z1C]
  rw [if_neg ht,if_pos hk,hv]
  rfl
 unfold Z1M
 rw [h1]
 exact pRest_sep _ _ s l hs
end Go.Proofs.YthokdbcpkmcieaaGreatDoor
