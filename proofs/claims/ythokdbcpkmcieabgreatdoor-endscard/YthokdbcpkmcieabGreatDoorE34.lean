/- BrdW6 BrdW7 BrdW8 BrdW9 -/
import Derived.Test.YthokdbcpkmcieabGreatDoorE33
import Derived.RangeFuncNested
import Derived.RangeFuncBound
import Derived.RangeFuncCalls
import Derived.RangeFuncLeaves
import Derived.RangeFuncBox
import Derived.Shelf.Abstract
import Derived.Shelf.RegionOpen
import Derived.OwnWalkIn
import Derived.TacticsInMore
import Derived.LoopNIn
import Derived.LoopIn
import Derived.Deep.WholeRow
set_option maxRecDepth 200000
set_option maxHeartbeats 8000000
namespace Go.Proofs.YthokdbcpkmcieabGreatDoor
open Go Go.RowKit Go.Shelf
attribute [local go_sem] Oper.semAt_some
def down (mem:List UInt8) (m:Nat):List (Nat × List UInt8):=(List.range (60-m)).map fun j=>(59-j,Z0N mem (59-j))
theorem Z6H (mem:List UInt8)(m:Nat)(hm:m<60):down mem m=down mem (m+1) ++ [(m,Z0N mem m)]:=by
 unfold down
 rw [show 60-m=(60-(m+1))+1 by omega,List.range_succ,List.map_append]
 simp only [List.map_cons,List.map_nil]
 rw [show 59-(60-(m+1))=m by omega]
theorem down_length (mem:List UInt8)(m:Nat):(down mem m).length=60-m:=by simp [down]
theorem back1_in (F:Fence)(n:Nat)(h7:F.fn 253)(hro:F.round=none)(hn:1≤n)(l Bs n₀ bb:Nat)(p:Pow)(mem:List UInt8)(hb:bb<n₀)(J Jx:List (Nat × List UInt8)→World→Prop)
  (hY:∀ pre x W,J pre W→pre.length<60→YieldAt F (n-1) Tryz.prog l #[.int .i64 (x.1:Int),recV x.2] W fun e W' =>
   (e=.returned (.bool true)∧J (pre ++ [x]) W'∧Below n₀ W W')∨(e=.returned (.bool false)∧Jx (pre ++ [x]) W'))
  (W:World) (hBs:W.cell? ⟨Bs,0,none⟩=some (.slice (some ⟨bb,1028,none⟩) 60 60)) (hBn:Bs<n₀) (hS:StoAt W bb p mem) (h0:J [] W) :
  CallsIn F n Tryz.prog 253 #[.func (.yield l) #[] #[],.pointer (some ⟨Bs,0,none⟩)] W fun e W'=>(∃ v,e=.returned v) ∧
   ((∃ ys,ys=down mem 0∧J ys W')∨(∃ pre,(∃ k,k≤60∧pre=down mem k)∧Jx pre W')):=by
 refine callsIn_of_wp Tryz.func253 rfl h7 ?_ hro
 simp only [Tryz.ntmps253,List.size_toArray,List.length_cons,List.length_nil,Nat.reduceAdd,Nat.reduceSub,Array.replicate_succ,Array.replicate_zero,List.push_toArray,List.append_toArray,List.nil_append,List.cons_append]
 gi_wp2
 gi_loopw [3] (fun i wr=>∃ m:Nat,m≤60∧i=.int .i64 ((m:Int)-1)∧J (down mem m) wr∧Below n₀ W wr) (fun i _=>(intOf i+1).toNat)
 case atStart =>
  refine ⟨60,by omega,rfl,?_,Below.refl _ _⟩
  exact h0
 case round =>
  obtain ⟨m,hm,rfl,hJ,hbl⟩:=hrel
  have cs:wr.cell? ⟨Bs,0,none⟩=some (.slice (some ⟨bb,1028,none⟩) 60 60):=(hbl.cell (p:=⟨Bs,0,none⟩) hBn).trans hBs
  cases m with
  | zero =>
   gi_wp2
   go_end0
   exact ⟨⟨_,rfl⟩,.inl ⟨_,rfl,hJ⟩⟩
  | succ m =>
   have hsl:BytesAt wr bb (1028+m*4) (Z0N mem m):=(hS.slot m (by omega)).kept (hbl.block bb hb)
   obtain ⟨a0,a1,a2,a3,ha⟩:=fourB (Z1R hS.len m (by omega))
   rw [ha] at hsl
   obtain ⟨s0,s1,s2,s3⟩:=Z7w hsl
   obtain ⟨fn,tmps,assign,body,hy,hR⟩:=hY _ (m,[a0,a1,a2,a3]) wr hJ (by rw [down_length];omega)
   have hd:down mem m=down mem (m+1) ++ [(m,[a0,a1,a2,a3])]:=by rw [Z6H mem m (by omega),ha]
   rw [←hd] at hR
   have hy':(Instr.yield l #[.int .i64 (m:Int),.agg #[.int .u8 (a0.toNat:Int),.int .u8 (a1.toNat:Int),.int .u8 (a2.toNat:Int),.int .u8 (a3.toNat:Int)]]).run Tryz.prog wr=.ok (.round l fn tmps assign body) wr:=hy
   have e1:((m+1:Nat):Int)-1=(m:Int):=by omega
   rw [e1]
   have hmi:(m:Int)<60:=by omega
   have hm0:(0:Int)≤(m:Int):=by omega
   have HD:=Z0a hbl
   clear hsl hy hd hbl ha hJ
   gi_wp2
   refine hR.mono ?_
   rintro e W3 (⟨rfl,hJ3,hk3⟩ | ⟨rfl,hJx3⟩)
   ·gi_wp2
    go_roundw
    case rel=>exact ⟨m,by omega,rfl,hJ3,HD.out.trans hk3⟩
    case measure=>simp [intOf]
   ·gi_wp2
    refine bodyPost_ret (results_none rfl _ _ _) rfl ?_
    exact ⟨⟨_,rfl⟩,.inr ⟨_,⟨m,by omega,rfl⟩,hJx3⟩⟩
theorem back_in (F:Fence)(n:Nat)(h5:F.fn 199)(hro:F.round=none)(a:Option Addr)(len cap:Nat)(w:World) :
  CallsIn F n Tryz.prog 199 #[.slice a len cap] w fun e w'=>e=.returned (.func (.func 253) #[] #[.pointer (some ⟨w.heap.size,0,none⟩)])∧w'=w.alloc (.cells #[.slice a len cap] 313):=by
 refine callsIn_of_wp Tryz.func199 rfl h5 ?_ hro
 simp only [Tryz.ntmps199,List.size_toArray,List.length_cons,List.length_nil,Nat.reduceAdd,Nat.reduceSub,Array.replicate_succ,Array.replicate_zero,List.push_toArray,List.append_toArray,List.nil_append,List.cons_append]
 gi_wp2
 go_ret
 exact ⟨rfl,rfl⟩
theorem back_stops (F:Fence)(n:Nat)(h7:F.fn 253)(hro:F.round=none)(hn:1≤n)(Bs n₀ bb:Nat)(p:Pow)(mem:List UInt8)(w:World)(hBs:Bs<n₀)(hn₀:n₀≤w.heap.size)(hb:bb<n₀)
  (hc:w.cell? ⟨Bs,0,none⟩=some (.slice (some ⟨bb,1028,none⟩) 60 60)) (hS:StoAt w bb p mem) :
  SeqStopsK F n Tryz.prog 253 #[.pointer (some ⟨Bs,0,none⟩)] (fun x:Nat × List UInt8=>#[Value.int .i64 (x.1:Int),.agg #[.int .u8 ((x.2[0]?.getD 0).toNat:Int),.int .u8 ((x.2[1]?.getD 0).toNat:Int),.int .u8 ((x.2[2]?.getD 0).toNat:Int),.int .u8 ((x.2[3]?.getD 0).toNat:Int)]]) (Below n₀) (fun ys=>ys=down mem 0)
   (fun pre=>∃ k,k≤60∧pre=down mem k) 60 w:=fun l J Jx W hW _ _ hY h0 =>
 back1_in F n h7 hro hn l Bs n₀ bb p mem hb J Jx hY W ((hW.cell (p:=⟨Bs,0,none⟩) (Nat.lt_of_lt_of_le hBs hn₀)).trans hc) hBs (hS.below hW) h0
theorem Z7v {β:Type}(B:Nat)(o:Obj)(ho:o.isCells=true):Own (fun (_:β) W=>W.heap[B]?=some o):=by
 intro s W W' row h hg hr
 rw [hg.block B (Array.getElem?_eq_some_iff.1 h).1 (fun e=>by
  obtain ⟨o',h1,h2⟩:=hr B e.symm
  rw [h] at h1
  cases h1
  rw [ho] at h2
  cases h2)]
 exact h
def Z4e (l:List UInt8):List UInt8:=[l[0]?.getD 0,l[1]?.getD 0,l[2]?.getD 0,l[3]?.getD 0]
theorem norm4_of {l:List UInt8}(h:l.length=4):Z4e l=l:=by
 obtain ⟨a,b,c,d,rfl⟩:=fourB h
 rfl
def recO (l:List UInt8):Obj:=.cells #[.int .u8 ((l[0]?.getD 0).toNat:Int),.int .u8 ((l[1]?.getD 0).toNat:Int),.int .u8 ((l[2]?.getD 0).toNat:Int),.int .u8 ((l[3]?.getD 0).toNat:Int)] 66
theorem Z5f {mem:List UInt8}{n:UInt8}:∀ (d m:Nat),d+m=60→mem.length=1264→(∀ x∈down mem m,Z4e x.2≠recF mem n 1∧Z4e x.2≠recF mem n 2)→Z0h mem n=Z2v mem n m
 | 0,m,hm,_,_=>by
  obtain rfl:m=60:=by omega
  rfl
 | d+1,m,hm,hl,h=>by
  rw [Z6H mem m (by omega)] at h
  have h1:=h (m,Z0N mem m) (by simp)
  rw [show Z4e (m,Z0N mem m).2=Z0N mem m from norm4_of (Z1R hl m (by omega))] at h1
  rw [Z5f d (m+1) (by omega) hl (fun x hx=>h x (List.mem_append.2 (.inl hx)))]
  rw [Z2v,if_neg h1.1,if_neg h1.2]
theorem isBurnt_in (n0:Nat)(hn:6≤n0)(bb:Nat)(p:Pow)(mem:List UInt8)(n:UInt8)(w:World)(h:StoAt w bb p mem)(hn16:n<16) :
  CallsIn Fence.wide n0 Tryz.prog 166 #[.pointer (some ⟨bb,4,none⟩),.int .u8 (n.toNat:Int)] w fun e w'=>e=.returned (.bool (Z0h mem n))∧Below w.heap.size w w':=by
 have hlt:=h.lt
 have h1:1≤n0:=by omega
 refine callsIn_of_wp_marks Tryz.func166 rfl trivial ?_ rfl
 simp only [Tryz.ntmps166,List.size_toArray,List.length_cons,List.length_nil,Nat.reduceAdd,Nat.reduceSub,Array.replicate_succ,Array.replicate_zero,List.push_toArray,List.append_toArray,List.nil_append,List.cons_append]
 obtain ⟨x1,y1,hr1⟩:=recF_cons mem n 1
 obtain ⟨x2,y2,hr2⟩:=recF_cons mem n 2
 have HC1:=Z0a (fun w'=>Z7B bb n mem w')
 have HC2:=Z0a (fun w' (h':StoAt w' bb p mem)=>Z7A bb p mem n w' h' hn16)
 rw [hr1] at HC1
 rw [hr2] at HC2
 have hv1:recV [n,1,x1,y1]=.agg #[.int .u8 (n.toNat:Int),.int .u8 1,.int .u8 (x1.toNat:Int),.int .u8 (y1.toNat:Int)]:=rfl
 have hv2:recV [n,2,x2,y2]=.agg #[.int .u8 (n.toNat:Int),.int .u8 2,.int .u8 (x2.toNat:Int),.int .u8 (y2.toNat:Int)]:=rfl
 rw [hv1] at HC1
 rw [hv2] at HC2
 have HS:=Z0a h
 clear h hv1 hv2
 gi_wp2_with fail
 refine ⟨trivial,(callsIn_wide.2 (HC1.out _)).mono ?_⟩
 rintro e w1 ⟨rfl,hb1⟩
 have hB1:Below w.heap.size w w1:=((Below.refl _ w).alloc (Nat.le_refl _) _).trans (hb1.mono (by simp))
 have hR1:w1.heap[w.heap.size]?=some (.cells #[.bool false] 4):=(hb1.block w.heap.size (by simp)).trans (heap_alloc_new w _)
 have hz1:w.heap.size<w1.heap.size:=by have:=hb1.size;simp at this;omega
 gi_wp2_with fail
 refine ⟨trivial,(callsIn_wide.2 (HC2.out _ (HS.out.below hB1))).mono ?_⟩
 rintro e w2 ⟨rfl,hb2⟩
 have hB2:Below w.heap.size w w2:=hB1.trans (hb2.mono (by omega))
 have hR2:w2.heap[w.heap.size]?=some (.cells #[.bool false] 4):=(hb2.block w.heap.size hz1).trans hR1
 have hz2:w.heap.size<w2.heap.size:=by have:=hb2.size;omega
 have HW:=Z0a (And.intro hB2 hR2)
 clear hB1 hR1 hb1 hb2 hB2 hR2 HC1 HC2
 gi_wp2_with (refine ⟨trivial,?_⟩;gi_at_call 199;refine (back_in Fence.wide (n0-1) trivial rfl _ _ _ _).mono ?_;rintro e w' ⟨rfl,rfl⟩)
 obtain ⟨W0,hW0⟩:∃ W0,((w2.alloc (.cells #[.int .u8 (n.toNat:Int),.int .u8 1,.int .u8 (x1.toNat:Int),.int .u8 (y1.toNat:Int)] 66)).alloc (.cells #[.int .u8 (n.toNat:Int),.int .u8 2,.int .u8 (x2.toNat:Int),.int .u8 (y2.toNat:Int)] 66)).alloc (.cells #[.slice (some ⟨bb,1028,none⟩) 60 60] 313)=W0:=⟨_,rfl⟩
 have hsz:W0.heap.size=w2.heap.size+3:=by rw [←hW0];simp
 have hB0:Below w.heap.size w W0:=by rw [←hW0];exact ((HW.out.1.alloc (by omega) _).alloc (by simp;omega) _).alloc (by simp;omega) _
 have hR0:W0.heap[w.heap.size]?=some (.cells #[.bool false] 4):=by
  rw [←hW0,Below.heap_alloc _ _ _ (by simp;omega),Below.heap_alloc _ _ _ (by simp;omega),Below.heap_alloc _ _ _ hz2];exact HW.out.2
 have hP1:W0.heap[w2.heap.size]?=some (.cells #[.int .u8 (n.toNat:Int),.int .u8 1,.int .u8 (x1.toNat:Int),.int .u8 (y1.toNat:Int)] 66):=by
  rw [←hW0,Below.heap_alloc _ _ _ (by simp;omega),Below.heap_alloc _ _ _ (by simp)];exact heap_alloc_new _ _
 have hP2:W0.heap[w2.heap.size+1]?=some (.cells #[.int .u8 (n.toNat:Int),.int .u8 2,.int .u8 (x2.toNat:Int),.int .u8 (y2.toNat:Int)] 66):=by
  rw [←hW0,Below.heap_alloc _ _ _ (by simp)]
  have:=heap_alloc_new (w2.alloc (.cells #[.int .u8 (n.toNat:Int),.int .u8 1,.int .u8 (x1.toNat:Int),.int .u8 (y1.toNat:Int)] 66)) (.cells #[.int .u8 (n.toNat:Int),.int .u8 2,.int .u8 (x2.toNat:Int),.int .u8 (y2.toNat:Int)] 66)
  rwa [World.alloc_size] at this
 have hP3:W0.cell? ⟨w2.heap.size+1+1,0,none⟩=some (.slice (some ⟨bb,1028,none⟩) 60 60):=by
  have:=heap_alloc_new ((w2.alloc (.cells #[.int .u8 (n.toNat:Int),.int .u8 1,.int .u8 (x1.toNat:Int),.int .u8 (y1.toNat:Int)] 66)).alloc (.cells #[.int .u8 (n.toNat:Int),.int .u8 2,.int .u8 (x2.toNat:Int),.int .u8 (y2.toNat:Int)] 66)) (.cells #[.slice (some ⟨bb,1028,none⟩) 60 60] 313)
  rw [World.alloc_size,World.alloc_size] at this
  rw [←hW0]
  exact cell_of_row _ _ 0 _ _ (0,0) this
 have hS0:StoAt W0 bb p mem:=HS.out.below hB0
 have hml:=hS0.len
 rw [hW0]
 clear hW0 HW
 refine wpIn_rangeFunc_ownH rfl h1 (gf:=253) (lb:=#[.pointer (some ⟨w2.heap.size+1+1,0,none⟩)]) rfl trivial (enters_of Tryz.func253 (by kernel_rfl) rfl)
  (back_stops Fence.wide (n0-1) trivial rfl (by omega) (w2.heap.size+1+1) W0.heap.size bb p mem W0 (by omega) (Nat.le_refl _) (by omega) hP3 hS0) belowK_t (belowK_b (by omega)) (Below.refl _ _) (fun _=>rfl)
  (fun pre W=>(∀ x∈pre,Z4e x.2≠recF mem n 1∧Z4e x.2≠recF mem n 2)∧Below W0.heap.size W0 W)
  (fun c pre W=>(∃ v:Bool,(c=.ret∧∃ pre' x,pre=pre' ++ [x]∧(∀ y∈pre',Z4e y.2≠recF mem n 1∧Z4e y.2≠recF mem n 2)∧((Z4e x.2=recF mem n 1∧v=false)∨(Z4e x.2≠recF mem n 1∧Z4e x.2=recF mem n 2∧v=true)))∧W.heap[w.heap.size]?=some (.cells #[.bool v] 4))∧Below w.heap.size w W)
  (OwnFrom.and (ownFrom_pure _ _) (ownFrom_below (Nat.le_refl _) (by omega)))
  (fun c=>OwnFrom.and (fun s X Y row hs hg hr=>by
   obtain ⟨v,e1,e2⟩:=hs
   exact ⟨v,e1,Z7v (β:=Unit) w.heap.size (.cells #[.bool v] 4) rfl () X Y row e2 hg (fun r e=>(hr r e).2)⟩) (ownFrom_below (Nat.le_refl _) (by omega)))
  ⟨by simp,Below.refl _ _⟩
  (fun x a' W=>∃ Bx,W.heap[Bx]?=some (recO x.2)∧a' = { tmps:=#[.pointer (some ⟨bb,4,none⟩),.int .u8 (n.toNat:Int),undef,undef,.pointer (some ⟨w.heap.size,0,none⟩),.pointer (some ⟨w2.heap.size,0,none⟩),.pointer (some ⟨w2.heap.size+1,0,none⟩),undef,.pointer (some ⟨Bx,0,none⟩),.pointer (some ⟨bb,4,none⟩),.int .u8 (n.toNat:Int),.agg #[.int .u8 (n.toNat:Int),.int .u8 1,.int .u8 (x1.toNat:Int),.int .u8 (y1.toNat:Int)],.pointer (some ⟨bb,4,none⟩),.int .u8 (n.toNat:Int),.agg #[.int .u8 (n.toNat:Int),.int .u8 2,.int .u8 (x2.toNat:Int),.int .u8 (y2.toNat:Int)],.pointer (some ⟨bb,4,none⟩),.pointer (some ⟨bb,4,none⟩),.pointer (some ⟨bb,1028,none⟩),.slice (some ⟨bb,1028,none⟩) 60 60,.func (.func 253) #[] #[.pointer (some ⟨w2.heap.size+1+1,0,none⟩)],.int .i64 (x.1:Int),.agg #[.int .u8 ((x.2[0]?.getD 0).toNat:Int),.int .u8 ((x.2[1]?.getD 0).toNat:Int),.int .u8 ((x.2[2]?.getD 0).toNat:Int),.int .u8 ((x.2[3]?.getD 0).toNat:Int)],undef,undef,undef,undef,undef,undef,undef],defers:=[] })
  (fun x a' _ X Y row hs hg hr=>by obtain ⟨Bx,e1,e2⟩:=hs;exact ⟨Bx,Z7v (β:=Unit) Bx (recO x.2) rfl () X Y row e1 hg (fun r e=>(hr r e).2),e2⟩)
  ?assign ?body ?done ?stop
 case assign =>
  rintro l pre x W K ⟨hp,hBW⟩ hK
  gi_wp2
  exact hK _ _ ((KeepsOthers.alloc _ _).from _) ((Below.refl _ W).alloc hBW.size _) ⟨hp,hBW.alloc hBW.size _⟩ ⟨W.heap.size,heap_alloc_new W _,rfl⟩
 case body =>
  rintro l pre x a' W hl ⟨r,hr⟩ ⟨hp,hBW⟩ ⟨Bx,hBx,rfl⟩ hlt'
  have q1:=(hBW.block w.heap.size (by omega)).trans hR0
  have q2:=(hBW.block w2.heap.size (by omega)).trans hP1
  have q3:=(hBW.block (w2.heap.size+1) (by omega)).trans hP2
  have c0:W.cell? ⟨w.heap.size,0,none⟩=some (.bool false):=cell_of_row _ _ 0 _ _ (0,0) q1
  have f0:=frozen_of_row W w.heap.size 0 _ _ q1
  have d0:W.cell? ⟨w2.heap.size,0,none⟩=some (.int .u8 (n.toNat:Int)):=cell_of_row _ _ 0 _ _ (0,0) q2
  have d1:W.cell? ⟨w2.heap.size,1,none⟩=some (.int .u8 1):=cell_of_row _ _ 1 _ _ (0,0) q2
  have d2:W.cell? ⟨w2.heap.size,2,none⟩=some (.int .u8 (x1.toNat:Int)):=cell_of_row _ _ 2 _ _ (0,0) q2
  have d3:W.cell? ⟨w2.heap.size,3,none⟩=some (.int .u8 (y1.toNat:Int)):=cell_of_row _ _ 3 _ _ (0,0) q2
  have e0:W.cell? ⟨w2.heap.size+1,0,none⟩=some (.int .u8 (n.toNat:Int)):=cell_of_row _ _ 0 _ _ (0,0) q3
  have e1:W.cell? ⟨w2.heap.size+1,1,none⟩=some (.int .u8 2):=cell_of_row _ _ 1 _ _ (0,0) q3
  have e2:W.cell? ⟨w2.heap.size+1,2,none⟩=some (.int .u8 (x2.toNat:Int)):=cell_of_row _ _ 2 _ _ (0,0) q3
  have e3:W.cell? ⟨w2.heap.size+1,3,none⟩=some (.int .u8 (y2.toNat:Int)):=cell_of_row _ _ 3 _ _ (0,0) q3
  obtain ⟨xi,xl⟩:=x
  simp only at hBx ⊢
  have hn4:Z4e xl=[xl[0]?.getD 0,xl[1]?.getD 0,xl[2]?.getD 0,xl[3]?.getD 0]:=rfl
  have hro:recO xl=.cells #[.int .u8 ((xl[0]?.getD 0).toNat:Int),.int .u8 ((xl[1]?.getD 0).toNat:Int),.int .u8 ((xl[2]?.getD 0).toNat:Int),.int .u8 ((xl[3]?.getD 0).toNat:Int)] 66:=rfl
  rw [hro] at hBx
  obtain ⟨r0,h0'⟩:∃ r0,xl[0]?.getD 0=r0:=⟨_,rfl⟩
  obtain ⟨r1,h1'⟩:∃ r1,xl[1]?.getD 0=r1:=⟨_,rfl⟩
  obtain ⟨r2,h2'⟩:∃ r2,xl[2]?.getD 0=r2:=⟨_,rfl⟩
  obtain ⟨r3,h3'⟩:∃ r3,xl[3]?.getD 0=r3:=⟨_,rfl⟩
  rw [h0',h1',h2',h3'] at hn4 hBx ⊢
  have b0:W.cell? ⟨Bx,0,none⟩=some (.int .u8 (r0.toNat:Int)):=cell_of_row _ _ 0 _ _ (0,0) hBx
  have b1:W.cell? ⟨Bx,1,none⟩=some (.int .u8 (r1.toNat:Int)):=cell_of_row _ _ 1 _ _ (0,0) hBx
  have b2:W.cell? ⟨Bx,2,none⟩=some (.int .u8 (r2.toNat:Int)):=cell_of_row _ _ 2 _ _ (0,0) hBx
  have b3:W.cell? ⟨Bx,3,none⟩=some (.int .u8 (r3.toNat:Int)):=cell_of_row _ _ 3 _ _ (0,0) hBx
  have hE1:∀ w',(Op.equalIn 10000 66 (.agg #[.int .u8 (r0.toNat:Int),.int .u8 (r1.toNat:Int),.int .u8 (r2.toNat:Int),.int .u8 (r3.toNat:Int)]) (.agg #[.int .u8 (n.toNat:Int),.int .u8 1,.int .u8 (x1.toNat:Int),.int .u8 (y1.toNat:Int)])).run Tryz.prog w'=.ok (decide ([r0,r1,r2,r3]=[n,1,x1,y1])) w':=fun w'=>eqRec r0 r1 r2 r3 n 1 x1 y1 w'
  have hE2:∀ w',(Op.equalIn 10000 66 (.agg #[.int .u8 (r0.toNat:Int),.int .u8 (r1.toNat:Int),.int .u8 (r2.toNat:Int),.int .u8 (r3.toNat:Int)]) (.agg #[.int .u8 (n.toNat:Int),.int .u8 2,.int .u8 (x2.toNat:Int),.int .u8 (y2.toNat:Int)])).run Tryz.prog w'=.ok (decide ([r0,r1,r2,r3]=[n,2,x2,y2])) w':=fun w'=>eqRec r0 r1 r2 r3 n 2 x2 y2 w'
  rw [←hn4,← hr1] at hE1
  rw [←hn4,← hr2] at hE2
  have hG:=guardRec
  have HX:=Z0a (And.intro q1 (And.intro hp hBW))
  have hB0':=Z0a (hB0.trans (hBW.mono hB0.size))
  clear q1 q2 q3 hBx hro hn4 hr1 hr2 hp hBW h0' h1' h2' h3' hP1 hP2 hP3 hR0 HS hS0 hr
  by_cases hx1:Z4e xl=recF mem n 1
  ·rw [decide_eq_true hx1] at hE1
   have HE:=Z0a hx1
   clear hx1
   gi_wp2
   refine ⟨(KeepsOthers.setCell _ _ _).from _,⟨false,⟨rfl,pre,(xi,xl),rfl,HX.out.2.1,.inl ⟨HE.out,rfl⟩⟩,?_⟩,hB0'.out.setCell (p:=⟨w.heap.size,0,none⟩) (Nat.le_refl _) _⟩
   exact heap_setCell_same _ _ _ _ _ _ HX.out.1
  ·rw [decide_eq_false hx1] at hE1
   have HE:=Z0a hx1
   clear hx1
   by_cases hx2:Z4e xl=recF mem n 2
   ·rw [decide_eq_true hx2] at hE2
    have HE2:=Z0a hx2
    clear hx2
    gi_wp2
    refine ⟨(KeepsOthers.setCell _ _ _).from _,⟨true,⟨rfl,pre,(xi,xl),rfl,HX.out.2.1,.inr ⟨HE.out,HE2.out,rfl⟩⟩,?_⟩,hB0'.out.setCell (p:=⟨w.heap.size,0,none⟩) (Nat.le_refl _) _⟩
    exact heap_setCell_same _ _ _ _ _ _ HX.out.1
   ·rw [decide_eq_false hx2] at hE2
    have HE2:=Z0a hx2
    clear hx2
    gi_wp2
    refine ⟨KeepsFrom.refl _ _,Below.refl _ _,fun y hy=>?_,HX.out.2.2⟩
    rcases List.mem_append.1 hy with hy | hy
    ·exact HX.out.2.1 y hy
    ·have:y=(xi,xl):=by simpa using hy
     subst this
     exact ⟨HE.out,HE2.out⟩
 case done =>
  rintro D zs W hD rfl ⟨hp,hBW⟩ hK
  have q1:=(hBW.block w.heap.size (by omega)).trans hR0
  have c0:W.cell? ⟨w.heap.size,0,none⟩=some (.bool false):=cell_of_row _ _ 0 _ _ (0,0) q1
  have f0:=frozen_of_row W w.heap.size 0 _ _ q1
  have hB1:=hB0.trans (hBW.mono hB0.size)
  have hbf:Z0h mem n=false:=by rw [Z5f 60 0 rfl hml hp];rfl
  gi_wp2
  have hK':=(KeepsOthers.setCell W ⟨w.heap.size,0,none⟩ (.bool false)).same D _ hK rfl
  refine ⟨by simp,.inl ⟨_,_,rfl,run_takeDeferred hK',?_⟩⟩
  have hc5:=cell_kept (World.cell?_setCell_same W ⟨w.heap.size,0,none⟩ (.bool false) c0) (grownBy_putObj' _ D (.deferred none)) (fun r e=>by cases e;exact ⟨_,hK',rfl⟩)
  refine ⟨.bool false,?_,by rw [hbf],(hB1.setCell (p:=⟨w.heap.size,0,none⟩) (Nat.le_refl _) _).trans (belowK_b (w:=w) (Nat.le_refl _) _ D _ _ (by omega) hK' rfl rfl)⟩
  simp [results,Tryz.f166,go_sem,hc5]
 case stop =>
  rintro D c pre W hD ⟨k,hk,hpre⟩ ⟨⟨v,⟨rfl,pre',x,hpx,hp,hv⟩,q1⟩,hB1⟩ hK
  have hbf:Z0h mem n=v:=by
   have hk6:k<60:=by
    rcases Nat.lt_or_ge k 60 with h | h
    ·exact h
    ·have h60:k=60:=by omega
     rw [h60] at hpre
     rw [hpre] at hpx
     have:=congrArg List.length hpx
     simp [down] at this
   rw [hpre,Z6H mem k hk6] at hpx
   obtain ⟨e1,e2⟩:=List.append_inj' hpx rfl
   rw [←e1] at hp
   have e3:(k,Z0N mem k)=x:=by simpa using e2
   rw [←e3] at hv
   rw [show Z4e (k,Z0N mem k).2=Z0N mem k from norm4_of (Z1R hml k hk6)] at hv
   rw [Z5f (60-(k+1)) (k+1) (by omega) hml hp,Z2v]
   rcases hv with ⟨h1,h2⟩ | ⟨h1,h2,h3⟩
   ·rw [if_pos h1,h2]
   ·rw [if_neg h1,if_pos h2,h3]
  have c0:W.cell? ⟨w.heap.size,0,none⟩=some (.bool v):=cell_of_row _ _ 0 _ _ (0,0) q1
  gi_wp2
  refine ⟨by simp,.inl ⟨_,_,rfl,run_takeDeferred hK,?_⟩⟩
  have hc5:=cell_kept c0 (grownBy_putObj' _ D (.deferred none)) (fun r e=>by cases e;exact ⟨_,hK,rfl⟩)
  refine ⟨.bool v,?_,by rw [hbf],hB1.trans (belowK_b (w:=w) (Nat.le_refl _) W D _ _ (by omega) hK rfl rfl)⟩
  simp [results,Tryz.f166,go_sem,hc5]
theorem Z6S (bb:Nat)(p:Pow)(mem:List UInt8)(n:UInt8)(w:World)(h:StoAt w bb p mem)(hn16:n<16) :
  Calls Tryz.prog 166 #[.pointer (some ⟨bb,4,none⟩),.int .u8 (n.toNat:Int)] w fun e w'=>e=.returned (.bool (Z0h mem n))∧Below w.heap.size w w' :=
 callsIn_wide.1 (isBurnt_in 6 (by omega) bb p mem n w h hn16)
end Go.Proofs.YthokdbcpkmcieabGreatDoor
namespace Go.Proofs.YthokdbcpkmcieabGreatDoor
open Go Go.RowKit
theorem or_bit (c j:Nat)(hc:c<2 ^ j)(hj:j<16):bits .or .u16 (c:Int) (IntKind.u16.wrap (2 ^ j))=((c+2 ^ j:Nat):Int):=by
 have h16:2 ^ j≤2 ^ 15:=Nat.pow_le_pow_right (by decide) (by omega)
 have hw:IntKind.u16.wrap (2 ^ j)=((2 ^ j:Nat):Int):=by
  rw [IntKind.wrap_u16,Int.natCast_pow]
  have:((2:Int) ^ j)=((2 ^ j:Nat):Int):=by rw [Int.natCast_pow];rfl
  rw [show ((2:Nat):Int)=2 from rfl,this]
  omega
 rw [hw]
 have h1:(BitVec.ofInt 16 (c:Int)).toNat=c:=by
  rw [BitVec.ofInt_natCast,BitVec.toNat_ofNat];exact Nat.mod_eq_of_lt (by omega)
 have h2:(BitVec.ofInt 16 ((2 ^ j:Nat):Int)).toNat=2 ^ j:=by
  rw [BitVec.ofInt_natCast,BitVec.toNat_ofNat];exact Nat.mod_eq_of_lt (by omega)
 show IntKind.u16.wrap ((BitVec.ofInt 16 (c:Int) ||| BitVec.ofInt 16 ((2 ^ j:Nat):Int)).toNat:Int)=_
 rw [BitVec.toNat_or,h1,h2,IntKind.wrap_u16]
 have:=Nat.two_pow_add_eq_or_of_lt hc 1
 rw [Nat.mul_one] at this
 rw [Nat.or_comm,← this]
 omega
theorem Z37 (bb:Nat)(p:Pow)(mem:List UInt8)(w:World)(h:StoAt w bb p mem) :
  Calls Tryz.prog 114 #[.pointer (some ⟨bb,4,none⟩)] w fun e w'=>e=.returned (.int .u16 (Z1D mem:Int))∧Below w.heap.size w w':=by
 have HS:=Z0a h
 clear h
 go_enter Tryz.func114,Tryz.ntmps114
 go_wp2_with fail
 go_loopw [3,5] (fun c i wr=>∃ j:Nat,j≤16∧i=.int .u8 j∧c=.int .u16 (Z6s mem j:Int)∧Below w.heap.size w wr) (fun _ i _=>16-(intOf i).toNat)
 case atStart=>exact ⟨0,by omega,rfl,rfl,Below.refl _ _⟩
 case round =>
  obtain ⟨j,hj,rfl,rfl,hb⟩:=hrel
  by_cases hlt:j<16
  ·have HC:=Z0a (fun w' (h':StoAt w' bb p mem)=>Z6S bb p mem (UInt8.ofNat j) w' h' (ofNat_lt hlt))
   rw [show (UInt8.ofNat j).toNat=j by rw [UInt8.toNat_ofNat'];omega] at HC
   have hN:Z6s mem (j+1)=Z6s mem j+(if Z0h mem (UInt8.ofNat j)=true then 2 ^ j else 0):=rfl
   have hbl:=Z30 mem j
   obtain ⟨v,hv⟩:∃ v,Z0h mem (UInt8.ofNat j)=v:=⟨_,rfl⟩
   rw [hv] at HC hN
   obtain ⟨c,hc⟩:∃ c,Z6s mem j=c:=⟨_,rfl⟩
   rw [hc] at hN hbl ⊢
   have hji:(j:Int)<16:=by omega
   have HN:=Z0a hN
   have HB:=Z0a hb
   clear hN hb hc hv
   go_wp2_with fail
   refine (HC.out _ (HS.out.below HB.out)).mono ?_
   rintro e w1 ⟨rfl,hb1⟩
   have HB1:=Z0a (HB.out.trans (hb1.mono HB.out.size))
   clear hb1
   cases v with
   | false =>
    go_wp2
    go_roundw
    case rel=>exact ⟨j+1,by omega,by go_num,by rw [HN.out];rfl,HB1.out⟩
    case measure=>simp [intOf];omega
   | true =>
    go_wp2
    go_roundw
    case rel=>exact ⟨j+1,by omega,by go_num,by rw [HN.out,or_bit c j hbl hlt];rfl,HB1.out⟩
    case measure=>simp [intOf];omega
  ·obtain rfl:j=16:=by omega
   have HB:=Z0a hb
   clear hb
   go_wp2
   go_ret
   exact ⟨rfl,HB.out⟩
theorem Tryz.infoPages:(Tryz.prog.info? 64).map (·.size)=some 1024:=by kernel_rfl
theorem Tryz.infoPage:(Tryz.prog.info? 63).map (·.size)=some 64:=by kernel_rfl
theorem StoAt.pages {w:World}{bb:Nat}{p:Pow}{mem:List UInt8}(h:StoAt w bb p mem):BytesAt w bb 4 (mem.take 1024):=h.cm.take _
theorem index_pages {mem:List UInt8}(_hlen:mem.length=1264)(j:Nat)(hj:j<16)(w:World) :
  (Instr.index 64 (.agg (Z0f (mem.take 1024)).toArray) (.int .i64 (j:Int))).run Tryz.prog w=.ok (.agg (Z0f (Z0w mem j)).toArray) w:=by
 have he:List.take 64 (List.drop (j*64) (Z0f (List.take 1024 mem)))=Z0f (Z0w mem j):=by
  simp only [Z0f,Z0w,← List.map_take,← List.map_drop]
  congr 1
  apply List.ext_getElem?
  intro i
  by_cases h:i<64
  ·rw [List.getElem?_take_of_lt h,List.getElem?_take_of_lt h,List.getElem?_drop,List.getElem?_drop,List.getElem?_take_of_lt (by omega)]
   congr 1
   omega
  ·rw [List.getElem?_take_eq_none (by omega),List.getElem?_take_eq_none (by omega)]
 have ha:=Tryz.isAgg63
 have hz:=Tryz.sizeOf63
 unfold Instr.index
 simp [asIntOf,run_underlying Tryz.underlying64,ha,hz,part]
 rw [if_pos hj,he]
theorem take_page (mem:List UInt8)(j:Nat):mem.take (64*(j+1))=mem.take (64*j)++Z0w mem j:=by
 unfold Z0w
 rw [show 64*(j+1)=64*j+64 by omega,List.take_add]
theorem bytes_any (bb:Nat)(p:Pow)(mem:List UInt8)(w:World)(h:StoAt w bb p mem) :
  Calls Tryz.prog 104 #[.pointer (some ⟨bb,4,none⟩)] w fun e w'=>e=.returned (.string (txt (mem.take 1024)))∧Below w.heap.size w w':=by
 obtain ⟨i0,hi,hz0,hz1,hz2⟩:=Z3n Tryz.infoU8E
 have hlen:=h.len
 have HR:=Z0a h.pages.range
 have hl:(Z0f (mem.take 1024)).length=1024:=by rw [Z0y,List.length_take];omega
 have HI:=Z0a (fun j (hj:j<16) w'=>index_pages hlen j hj w')
 obtain ⟨J,hJ⟩:∃ J,Z0f (mem.take 1024)=J:=⟨_,rfl⟩
 rw [hJ] at HR hl HI
 clear hJ
 go_enter Tryz.func104,Tryz.ntmps104
 go_wp2_with (refine wpList_load_mid rfl 64 (.tmp 8) rfl bb 4 rfl J _ HR.out Tryz.underlying64 rfl (by rw [hl];exact Tryz.infoPages) ?_)
 go_loopw [3,10] (fun v i wr=>∃ j:Nat,j≤16∧i=.int .i64 j∧wr.ownsRow w.heap.size 5 1 v (64*j) (Z0f (mem.take (64*j)))∧Below w.heap.size w wr) (fun _ i _=>16-(intOf i).toNat)
 case atStart=>exact ⟨0,by omega,rfl,World.ownsRow_nil _ _ _ _,Below.refl _ _⟩
 case round =>
  obtain ⟨j,hj,rfl,hO,hb⟩:=hrel
  obtain ⟨va,vm,vc,rfl⟩:=Z0A hO
  by_cases hlt:j<16
  ·have hix:=HI.out j hlt
   have hpl:(Z0f (Z0w mem j)).length=64:=by rw [Z0y];exact Z2A hlen j hlt
   have hN:Z0f (mem.take (64*(j+1)))=Z0f (mem.take (64*j))++Z0f (Z0w mem j):=by rw [take_page mem j,Z1H]
   have h1c:=Z3S (Z0w mem j)
   obtain ⟨pg,hpg⟩:∃ pg,Z0f (Z0w mem j)=pg:=⟨_,rfl⟩
   rw [hpg] at hix hpl hN h1c
   have hji:(j:Int)<16:=by omega
   have hst:∀ c:Array Value,c.size=64→(storeCells ⟨wr.heap.size,0,none⟩ pg).run Tryz.prog (wr.alloc (.cells c 63))=.ok () (wr.alloc (.cells pg.toArray 63)):=fun c hc=>run_storeCells_new wr 63 c pg.toArray (by rw [List.size_toArray,hpl];exact Tryz.infoPage) (hc.trans (by simp [hpl])) (all_oneCell_toArray h1c)
   have HO:=Z0a hO
   have HB:=Z0a hb
   have HN:=Z0a hN
   have hsz:=hb.size
   clear hpg hN hO hb
   go_wp2_with (at_builtin;refine wpList_append_own_at _ rfl _ _ 32 rfl w.heap.size 5 i0 _ 1 1 Tryz.underlying32 hi hz0 hz1 hz2 rfl (by decide) _ (64*j) _ rfl (HO.out.alloc _) ⟨wr.heap.size,0,none⟩ 64 64 pg rfl hpl (Z4H _ _ _) h1c (by unfold maxLen;omega) (by omega) (by simp;omega) ?_;intro v' wn hown hgr _ hloc;obtain ⟨a',n',c',rfl⟩:=Z0A hown)
   replace hgr:(wr.alloc (.cells pg.toArray 63)).grownBy wn (Value.slice va vm vc).ownBlock:=hgr
   have hz3:=hgr.size
   rw [World.alloc_size] at hz3
   have HE:Hid (wn.ownsRow w.heap.size 5 1 (.slice a' n' c') (64*(j+1)) (Z0f (mem.take (64*(j+1))))∧Below w.heap.size w wn):=by
    refine ⟨?_,?_⟩
    ·rw [HN.out,show 64*(j+1)=64*j+64 by omega];exact hown
    ·have q4:=HB.out
     refine ⟨hgr.os.trans q4.os,hgr.tape.trans q4.tape,hgr.output.trans q4.output,by omega,fun k hk=>?_⟩
     rw [hgr.block k (by rw [World.alloc_size];omega) (fun e=>by have:=(HO.out.lt k e.symm).1;omega),Below.heap_alloc _ _ _ (by omega),q4.block k hk]
   clear hown hgr hloc hz3
   go_roundw
   case rel=>exact ⟨j+1,by omega,by go_num,HE.out.1,HE.out.2⟩
   case measure=>simp [intOf];omega
  ·obtain rfl:j=16:=by omega
   obtain ⟨g,cap,he,hg1,hg2⟩:=Z2K hO (by decide)
   cases he
   have hcv:=Z3p (l:=mem.take 1024) (n:=1024) (by rw [List.length_take];omega) hO
   have HB:=Z0a hb
   clear hb hO
   go_wp2
   go_ret
   exact ⟨rfl,HB.out⟩
theorem Z0k (l:List UInt8):(txt l).size=l.length:=by simp [txt,ByteArray.size]
theorem Z2T (a b:List UInt8):txt a++txt b=txt (a++b):=by
 apply ByteArray.ext
 rw [ByteArray.data_append]
 simp [txt]
theorem u8_lt (n:UInt8)(c:Nat)(hc:c<256):((n.toNat:Int)<(c:Int))↔n<UInt8.ofNat c:=by
 rw [UInt8.lt_iff_toNat_lt,UInt8.toNat_ofNat']
 omega
theorem Z7c (n:UInt8)(c:Nat)(hc:c<256):((n.toNat:Int) == (c:Int))=decide (n=UInt8.ofNat c):=by
 have:(UInt8.ofNat c).toNat=c:=by rw [UInt8.toNat_ofNat'];omega
 have h:=int_eq n (UInt8.ofNat c)
 rw [this] at h
 exact h
theorem Z2p (n:UInt8)(w:World):Calls Tryz.prog 289 #[.int .u8 (n.toNat:Int)] w fun e w'=>e=.returned (.bool (decide (n<16)))∧w'=w:=by
 have h:decide (n<16)=decide ((n.toNat:Int)<16):=by
  have:((n.toNat:Int)<16)↔n<16:=u8_lt n 16 (by decide)
  by_cases hn:n<16
  ·rw [decide_eq_true hn,decide_eq_true (this.2 hn)]
  ·rw [decide_eq_false hn,decide_eq_false (fun e=>hn (this.1 e))]
 rw [h]
 go_enter Tryz.func289,Tryz.ntmps289
 go_wp2
 go_ret
 exact ⟨rfl,rfl⟩
def endTB (ok:Bool) (out:List UInt8):Ending:=if ok=true then .returned (.string (txt out)) else failE
theorem endT_no {e:Ending}{o:List UInt8}(h:e=endTB false o):e=.panicked [{ v:=.iface 265 (.agg #[]),recovered:=false }]:=h
theorem Z4Q {e:Ending}{o:List UInt8}(h:e=endTB true o):e=.returned (.string (txt o)):=h
def Z3w (w:World) (bb:Nat) (r:Pow × List UInt8 × Bool) (out:List UInt8) (e:Ending) (w':World):Prop:=e=endTB r.2.2 out∧StoAt w' bb r.1 r.2.1∧Within w w' bb 1 1267
def Z2w (p:Pow) (m:List UInt8) (n:UInt8) (bs:List UInt8):(Pow × List UInt8 × Bool) × List UInt8:=if n<16∧2≤Z4m m then (Z0J p m n bs,[1]) else ((p,m,true),[2])
theorem Z7C (bb:Nat)(p:Pow)(mem:List UInt8)(n:UInt8)(bs:ByteArray)(k:Nat)(w:World)(h:StoAt w bb p mem)(hu:Used mem k)(hbs:bs.size=64) :
  Calls Tryz.prog 247 #[.pointer (some ⟨bb,0,none⟩),.int .u8 (n.toNat:Int),.string bs] w (Z3w w bb (Z2w p mem n bs.data.toList).1 (Z2w p mem n bs.data.toList).2):=by
 have hlt:=h.lt
 by_cases hn:n<16
 ·have HR:=Z0a (room_any bb p mem w h)
  have hrm:=Z3Y hu
  have hle:=hu.le
  by_cases hr:2≤Z4m mem
  ·have e:Z2w p mem n bs.data.toList=(Z0J p mem n bs.data.toList,[1]):=by unfold Z2w;rw [if_pos ⟨hn,hr⟩]
   rw [e]
   have HB:=Z0a (fun w' (h':StoAt w' bb p mem)=>burnPage_any bb p mem n bs k w' h' hu (by omega) hn hbs)
   have hri:decide ((Z4m mem:Int)<2)=false:=decide_eq_false (by omega)
   have HS:=Z0a h
   obtain ⟨q,hq⟩:∃ q,Z0J p mem n bs.data.toList=q:=⟨_,rfl⟩
   rw [hq] at HB ⊢
   obtain ⟨p1,m1,ok⟩:=q
   obtain ⟨rm,hrm2⟩:∃ rm,Z4m mem=rm:=⟨_,rfl⟩
   rw [hrm2] at HR hri
   clear h hu hq e hrm hr hrm2
   go_enter Tryz.func247,Tryz.ntmps247
   go_wp2_with fail
   refine (Z2p n _).mono ?_
   rintro e w1 ⟨rfl,rfl⟩
   rw [decide_eq_true hn]
   go_wp2_with fail
   refine HR.out.mono ?_
   rintro e w2 ⟨rfl,hb2⟩
   have HB2:=Z0a hb2
   clear hb2
   cases ok with
   | true =>
    go_wp2_with fail
    go_region_with (go_at_call 291;refine (HB.out w2.drew ((HS.out.below HB2.out).kept rfl (Nat.le_refl _))).mono ?_;rintro e wz ⟨he,h1,h2⟩;obtain rfl:=Z2S he)
    all_goals
     have HZ:=Z0a (And.intro h1 ((Within.below (o:=1) (n:=1267) (below_drewN HB2.out 1) hlt).trans h2))
     clear h1 h2 he
     go_wp2
     go_ret
     exact ⟨rfl,HZ.out.1,HZ.out.2⟩
   | false =>
    have hent:∀ args w,(callFunc 291 args).run Tryz.prog w=.ok (.enter 291 args) w:=enters_of Tryz.func291 (by kernel_rfl) rfl
    have HX:Hid (∀ w',StoAt w' bb p1 m1→Within w2.drew w' bb 1 1267→Z3w w1 bb (p1,m1,false) [1] (.panicked [{ v:=.iface 265 (.agg #[]),recovered:=false }]) w'):=by
     intro w' h1 h2
     exact ⟨rfl,h1,(Within.below (o:=1) (n:=1267) (below_drewN HB2.out 1) hlt).trans h2⟩
    go_wp2_with fail
    go_region_law (refine Z1r (.tuple #[]) 291 #[.pointer (some ⟨bb,4,none⟩),.int .u8 (n.toNat:Int),.string bs,.pointer (some ⟨bb,1,none⟩)] rfl (by simp [go_sem,hent]) _ (HB.out w2.drew ((HS.out.below HB2.out).kept rfl (Nat.le_refl _))) (fun e w' hh=>⟨_,Z3F hh.1,rfl,HX.out w' hh.2.1 hh.2.2⟩) ?_;intro HFF)
    all_goals exact HFF.out.elim
  ·have e:Z2w p mem n bs.data.toList=((p,mem,true),[2]):=by unfold Z2w;rw [if_neg (fun e=>hr e.2)]
   rw [e]
   have hri:decide ((Z4m mem:Int)<2)=true:=decide_eq_true (by omega)
   have HS:=Z0a h
   clear h hu e hrm
   go_enter Tryz.func247,Tryz.ntmps247
   go_wp2_with fail
   refine (Z2p n _).mono ?_
   rintro e w1 ⟨rfl,rfl⟩
   rw [decide_eq_true hn]
   go_wp2_with fail
   refine HR.out.mono ?_
   rintro e w2 ⟨rfl,hb2⟩
   have HB2:=Z0a hb2
   clear hb2
   go_wp2
   go_ret
   exact ⟨rfl,HS.out.below HB2.out,Within.below HB2.out hlt⟩
 ·have e:Z2w p mem n bs.data.toList=((p,mem,true),[2]):=by unfold Z2w;rw [if_neg (fun e=>hn e.1)]
  rw [e]
  have HS:=Z0a h
  clear h hu e
  go_enter Tryz.func247,Tryz.ntmps247
  go_wp2_with fail
  refine (Z2p n _).mono ?_
  rintro e w1 ⟨rfl,rfl⟩
  rw [decide_eq_false hn]
  go_wp2
  go_ret
  exact ⟨rfl,HS.out,Within.refl _ _ _ _⟩
def Z3d (m:List UInt8) (n:UInt8):List UInt8:=if n<16∧Z0h m n=true then 1 :: Z0w m n.toNat else [2]
theorem conv_page {w:World}{bb:Nat}{p:Pow}{mem:List UInt8}(h:StoAt w bb p mem)(n:Nat)(hn:n<16):(convert 32 9 (.slice (some ⟨bb,4+n*64,none⟩) 64 64)).run Tryz.prog w=.ok (.string (txt (Z0w mem n))) w:=by
 have hl:=Z2A h.len n hn
 have:=run_convert_bytes_back (P:=Tryz.prog) w 32 9 5 ⟨bb,4+n*64,none⟩ 64 (Z0w mem n) Tryz.underlying32 Tryz.underlying5 Tryz.underlying9 (fun j hj=>by
  have hc:=h.page n hn j hj
  rw [List.getD_eq_getElem?_getD,List.getElem?_eq_getElem hj] at hc
  rw [Addr.add_lit]
  exact hc)
 rw [hl] at this
 exact this
theorem doRead_any (bb:Nat)(p:Pow)(mem:List UInt8)(n:UInt8)(w:World)(h:StoAt w bb p mem) :
  Calls Tryz.prog 248 #[.pointer (some ⟨bb,0,none⟩),.int .u8 (n.toNat:Int)] w (Z3w w bb (p,mem,true) (Z3d mem n)):=by
 have hlt:=h.lt
 by_cases hn:n<16
 ·have hnn:=u16 hn
  have hni:(n.toNat:Int)<16:=by omega
  have HR:=Z0a (Z6S bb p mem n w h hn)
  have HS:=Z0a h
  by_cases hr:Z0h mem n=true
  ·have e:Z3d mem n=1 :: Z0w mem n.toNat:=by unfold Z3d;rw [if_pos ⟨hn,hr⟩]
   rw [e]
   rw [hr] at HR
   have HC:=Z0a (fun w' (h':StoAt w' bb p mem)=>conv_page h' n.toNat hnn)
   have hts:(txt (Z0w mem n.toNat)).size=64:=by rw [Z0k];exact Z2A h.len n.toNat hnn
   obtain ⟨pg,hpg⟩:∃ pg,Z0w mem n.toNat=pg:=⟨_,rfl⟩
   rw [hpg] at HC hts ⊢
   clear h e hpg
   go_enter Tryz.func248,Tryz.ntmps248
   go_wp2_with fail
   refine (Z2p n _).mono ?_
   rintro e w1 ⟨rfl,rfl⟩
   rw [decide_eq_true hn]
   go_wp2_with fail
   refine HR.out.mono ?_
   rintro e w2 ⟨rfl,hb2⟩
   have hcv:=HC.out w2 (HS.out.below hb2)
   have HB2:=Z0a hb2
   clear hb2 HC HR
   go_wp2
   go_ret
   refine ⟨?_,HS.out.below HB2.out,Within.below HB2.out hlt⟩
   show Ending.returned (.string (txt [1]++txt pg))=_
   rw [Z2T]
   rfl
  ·have hrf:Z0h mem n=false:=by simpa using hr
   have e:Z3d mem n=[2]:=by unfold Z3d;rw [if_neg (fun e=>hr e.2)]
   rw [e]
   rw [hrf] at HR
   clear h e
   go_enter Tryz.func248,Tryz.ntmps248
   go_wp2_with fail
   refine (Z2p n _).mono ?_
   rintro e w1 ⟨rfl,rfl⟩
   rw [decide_eq_true hn]
   go_wp2_with fail
   refine HR.out.mono ?_
   rintro e w2 ⟨rfl,hb2⟩
   have HB2:=Z0a hb2
   clear hb2 HR
   go_wp2
   go_ret
   exact ⟨rfl,HS.out.below HB2.out,Within.below HB2.out hlt⟩
 ·have e:Z3d mem n=[2]:=by unfold Z3d;rw [if_neg (fun e=>hn e.1)]
  rw [e]
  have HS:=Z0a h
  clear h e
  go_enter Tryz.func248,Tryz.ntmps248
  go_wp2_with fail
  refine (Z2p n _).mono ?_
  rintro e w1 ⟨rfl,rfl⟩
  rw [decide_eq_false hn]
  go_wp2
  go_ret
  exact ⟨rfl,HS.out,Within.refl _ _ _ _⟩
theorem Z1Z (q:ByteArray)(w:World)(hq:q.size≤4000000) :
  Calls Tryz.prog 194 #[.string q] w fun e w'=>e=.returned (.bool (Z16 q.data.toList))∧w'=w:=by
 have hlen:q.data.toList.length=q.size:=by rw [Array.length_toList];rfl
 by_cases h4:q.size<4
 ·have e:Z16 q.data.toList=false:=by unfold Z16;rw [if_pos (by omega)]
  rw [e]
  have hi:(q.size:Int)<4:=by omega
  go_enter Tryz.func194,Tryz.ntmps194
  go_wp2
  go_ret
  exact ⟨rfl,rfl⟩
 ·have hi:decide ((q.size:Int)<4)=false:=decide_eq_false (by omega)
  have h3:(3:Int)<(q.size:Int):=by omega
  have hg:q.data.toList.getD 3 0=q[3]'(by omega):=Z0P q 3 (by omega)
  have hk:Z16 q.data.toList=if q[3]'(by omega)=1∨q[3]'(by omega)=4 then decide (q.size=4) else if q[3]'(by omega)=2 then decide (q.size=69) else if q[3]'(by omega)=3 then decide (q.size=5) else false:=by
   unfold Z16
   rw [if_neg (by omega),hg,hlen]
  rw [hk]
  obtain ⟨x,hx⟩:∃ x,q[3]'(by omega)=x:=⟨_,rfl⟩
  rw [hx]
  clear hk hg
  have hl:∀ c:Nat,((q.size:Int)-4 == (c:Int))=decide (q.size=c+4):=fun c=>by
   by_cases h:q.size=c+4
   ·rw [decide_eq_true h];simp;omega
   ·rw [decide_eq_false h];simp;omega
  have hl0:((q.size:Int)-4 == 0)=decide (q.size=4):=hl 0
  have hl65:((q.size:Int)-4 == 65)=decide (q.size=69):=hl 65
  have hl1:((q.size:Int)-4 == 1)=decide (q.size=5):=hl 1
  clear hl
  by_cases h1:x=1
  ·subst h1
   rw [if_pos (.inl rfl)]
   go_enter Tryz.func194,Tryz.ntmps194
   go_wp2
   go_ret
   exact ⟨rfl,rfl⟩
  by_cases h4':x=4
  ·subst h4'
   rw [if_pos (.inr rfl)]
   go_enter Tryz.func194,Tryz.ntmps194
   go_wp2
   go_ret
   exact ⟨rfl,rfl⟩
  by_cases h2:x=2
  ·subst h2
   rw [if_neg (by decide),if_pos rfl]
   go_enter Tryz.func194,Tryz.ntmps194
   go_wp2
   go_ret
   exact ⟨rfl,rfl⟩
  by_cases h3':x=3
  ·subst h3'
   rw [if_neg (by decide),if_neg (by decide),if_pos rfl]
   go_enter Tryz.func194,Tryz.ntmps194
   go_wp2
   go_ret
   exact ⟨rfl,rfl⟩
  ·rw [if_neg (fun e=>e.elim h1 h4'),if_neg h2,if_neg h3']
   have hx1:((x.toNat:Int) == 1)=false:=(Z7c x 1 (by decide)).trans (decide_eq_false h1)
   have hx2:((x.toNat:Int) == 2)=false:=(Z7c x 2 (by decide)).trans (decide_eq_false h2)
   have hx3:((x.toNat:Int) == 3)=false:=(Z7c x 3 (by decide)).trans (decide_eq_false h3')
   have hx4:((x.toNat:Int) == 4)=false:=(Z7c x 4 (by decide)).trans (decide_eq_false h4')
   clear h1 h2 h3' h4'
   go_enter Tryz.func194,Tryz.ntmps194
   go_wp2
   go_ret
   exact ⟨rfl,rfl⟩
end Go.Proofs.YthokdbcpkmcieabGreatDoor
