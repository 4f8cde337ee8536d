/- BrdW3 BrdW4 BrdW5 -/
import Derived.Test.YthokdbcpkmcieabGreatDoorE32
import Derived.Laws.StructEq
import Derived.Deep.RegionWith
import Derived.Shelf.Abstract
import Derived.Deep.MidRow
set_option maxRecDepth 200000
set_option maxHeartbeats 8000000
namespace Go.Proofs.YthokdbcpkmcieabGreatDoor
open Go Go.RowKit
theorem below_drewN {n:Nat}{w w1:World}(h:Below n w w1)(m:Nat):Below n w (w1.drewN m):=⟨h.os,h.tape,h.output,h.size,h.block⟩
theorem Z1R {mem:List UInt8}(hl:mem.length=1264)(k:Nat)(hk:k<60):(Z0N mem k).length=4:=Z3h mem (1024+4*k) 4 (by omega)
theorem StoAt.slot {w:World}{bb:Nat}{p:Pow}{mem:List UInt8}(h:StoAt w bb p mem)(k:Nat)(hk:k<60):BytesAt w bb (1028+k*4) (Z0N mem k):=by
 have hl:=h.len
 intro i hi
 have hw:=Z2b mem (1024+4*k) 4 i
 rw [Z1R hl k hk] at hi
 rw [if_pos hi] at hw
 have:=h.cm (1024+4*k+i) (by omega)
 rw [show 1028+k*4+i=4+(1024+4*k+i) by omega,this]
 simp only [List.getD_eq_getElem?_getD]
 rw [Z1v,hw]
theorem fourB {l:List UInt8}(h:l.length=4):∃ a b c d,l=[a,b,c,d]:=by
 match l,h with
 | [a,b,c,d],_=>exact ⟨a,b,c,d,rfl⟩
theorem Z7w {w:World}{g off:Nat}{a b c d:UInt8}(h:BytesAt w g off [a,b,c,d]):w.cell? ⟨g,off,none⟩=some (.int .u8 (a.toNat:Int))∧w.cell? ⟨g,off+1,none⟩=some (.int .u8 (b.toNat:Int))∧w.cell? ⟨g,off+2,none⟩=some (.int .u8 (c.toNat:Int))∧w.cell? ⟨g,off+3,none⟩=some (.int .u8 (d.toNat:Int)) :=
 ⟨h 0 (by simp),h 1 (by simp),h 2 (by simp),h 3 (by simp)⟩
theorem int_eq (a b:UInt8):((a.toNat:Int) == (b.toNat:Int))=decide (a=b):=by
 by_cases h:a=b
 ·subst h;simp
 ·have:¬ a.toNat=b.toNat:=fun e=>h (UInt8.toNat_inj.1 e)
  simp only [decide_eq_false h]
  simp;omega
theorem eqRecI (a0 a1 a2 a3 b0 b1 b2 b3:Int)(w:World):(Op.equalIn 10000 66 (.agg #[.int .u8 a0,.int .u8 a1,.int .u8 a2,.int .u8 a3]) (.agg #[.int .u8 b0,.int .u8 b1,.int .u8 b2,.int .u8 b3])).run Tryz.prog w=.ok (a0 == b0 && (a1 == b1 && (a2 == b2 && a3 == b3))) w:=by
 have hu5:=Tryz.underlying5
 have ha5:=Tryz.isAgg5
 have hz5:=Tryz.sizeOf5
 rw [show (10000:Nat)=9999+1 from rfl,Op.equalIn]
 simp only [Sem.run_bind,run_underlying Tryz.underlying66,Result.andThen_ok]
 simp only [Std.Legacy.Range.forIn_eq_forIn_range',Std.Legacy.Range.size,Nat.sub_zero,Nat.add_sub_cancel,Nat.div_one,List.range'_succ,List.range'_zero,List.forIn_cons,List.forIn_nil]
 go_simp
 by_cases h1:a0=b0 <;> by_cases h2:a1=b1 <;> by_cases h3:a2=b2 <;> by_cases h4:a3=b3 <;> simp [h1,h2,h3,h4]
theorem eqRec (a0 a1 a2 a3 b0 b1 b2 b3:UInt8)(w:World):(Op.equalIn 10000 66 (.agg #[.int .u8 (a0.toNat:Int),.int .u8 (a1.toNat:Int),.int .u8 (a2.toNat:Int),.int .u8 (a3.toNat:Int)]) (.agg #[.int .u8 (b0.toNat:Int),.int .u8 (b1.toNat:Int),.int .u8 (b2.toNat:Int),.int .u8 (b3.toNat:Int)])).run Tryz.prog w=.ok (decide ([a0,a1,a2,a3]=[b0,b1,b2,b3])) w:=by
 rw [eqRecI,int_eq,int_eq,int_eq,int_eq]
 by_cases h1:a0=b0 <;> by_cases h2:a1=b1 <;> by_cases h3:a2=b2 <;> by_cases h4:a3=b3 <;> simp [h1,h2,h3,h4]
theorem Tryz.guardRec:Tryz.prog.eqGuardType Tryz.prog.depth 66=false:=by kernel_rfl
theorem guardRec (op:BinOp)(x y:Operand)(xs ys:Array Value)(w:World):(eqGuard op 66 x y (.agg xs) (.agg ys)).run Tryz.prog w=.ok () w:=run_eqGuard_agg w op _ x y xs ys Tryz.guardRec
theorem index_any (bb:Nat)(p:Pow)(mem:List UInt8)(k:Nat)(w:World)(h:StoAt w bb p mem)(hu:Used mem k)(hk:k<60) :
  Calls Tryz.prog 342 #[.slice (some ⟨bb,1028,none⟩) 60 60,.agg #[.int .u8 255,.int .u8 255,.int .u8 255,.int .u8 255]] w fun e w'=>e=.returned (.int .i64 (k:Int))∧Below w.heap.size w w':=by
 have hlt:=h.lt
 go_enter Tryz.func342,Tryz.ntmps342
 go_wp2_with fail
 go_loopw [8] (fun i wr=>∃ j:Nat,j≤k∧i=.int .i64 j∧wr.heap[w.heap.size]?=some (.cells #[.int .u8 255,.int .u8 255,.int .u8 255,.int .u8 255] 66)∧Below w.heap.size w wr) (fun i _=>k-(intOf i).toNat)
 case atStart=>exact ⟨0,Nat.zero_le _,rfl,heap_alloc_new w _,(Below.refl _ _).alloc (Nat.le_refl _) _⟩
 case round =>
  obtain ⟨j,hj,rfl,hq,hb⟩:=hrel
  have hji:(j:Int)<60:=by omega
  have hsl:=(h.below hb).slot j (by omega)
  obtain ⟨a0,a1,a2,a3,ha⟩:=fourB (Z1R h.len j (by omega))
  rw [ha] at hsl
  obtain ⟨s0,s1,s2,s3⟩:=Z7w hsl
  have d0:wr.cell? ⟨w.heap.size,0,none⟩=some (.int .u8 255):=cell_of_row _ _ 0 _ _ (0,0) hq
  have d1:wr.cell? ⟨w.heap.size,1,none⟩=some (.int .u8 255):=cell_of_row _ _ 1 _ _ (0,0) hq
  have d2:wr.cell? ⟨w.heap.size,2,none⟩=some (.int .u8 255):=cell_of_row _ _ 2 _ _ (0,0) hq
  have d3:wr.cell? ⟨w.heap.size,3,none⟩=some (.int .u8 255):=cell_of_row _ _ 3 _ _ (0,0) hq
  have hE:∀ w',(Op.equalIn 10000 66 (.agg #[.int .u8 255,.int .u8 255,.int .u8 255,.int .u8 255]) (.agg #[.int .u8 (a0.toNat:Int),.int .u8 (a1.toNat:Int),.int .u8 (a2.toNat:Int),.int .u8 (a3.toNat:Int)])).run Tryz.prog w'=.ok (decide (([255,255,255,255]:List UInt8)=[a0,a1,a2,a3])) w':=fun w'=>eqRec 255 255 255 255 a0 a1 a2 a3 w'
  have hG:=guardRec
  have hsd:Z0N mem j=[a0,a1,a2,a3]:=ha
  have HQ:=Z0a (And.intro hq hb)
  by_cases hjk:j=k
  ·have hbl:([255,255,255,255]:List UInt8)=[a0,a1,a2,a3]:=by rw [←hsd,hjk,hu.free k (Nat.le_refl _) hk];rfl
   rw [decide_eq_true hbl] at hE
   clear hq hb hsl hu ha h hsd hbl
   subst hjk
   go_wp2
   go_quiet (fail)
   go_wp2
   go_ret
   exact ⟨rfl,below_drewN HQ.out.2 _⟩
  ·have hbl:¬ ([255,255,255,255]:List UInt8)=[a0,a1,a2,a3]:=fun e=>hu.full j (by omega) (by rw [hsd,← e];rfl)
   rw [decide_eq_false hbl] at hE
   clear hq hb hsl hu ha h hsd hbl
   go_wp2
   go_quiet (fail)
   go_wp2
   go_roundw
   case rel=>exact ⟨j+1,by omega,by go_num,HQ.out.1,below_drewN HQ.out.2 _⟩
   case measure=>simp [intOf];omega
def Z2a (p:Pow) (m:List UInt8) (i:Nat) (o:Option UInt8):Pow × List UInt8 × Bool:=((Z0m p (m.getD i 0) (Z1G (m.getD i 0) o)).1,m.set i (Z0m p (m.getD i 0) (Z1G (m.getD i 0) o)).2.1,(Z0m p (m.getD i 0) (Z1G (m.getD i 0) o)).2.2)
theorem Z6n (p:Pow)(m:List UInt8)(i:Nat)(o:Option UInt8)(os:List (Option UInt8)):runS p m i (o :: os)=thenS (Z2a p m i o) fun p' m'=>runS p' m' (i+1) os:=by
 rw [runS]
 unfold thenS Z2a
 by_cases h:(Z0m p (m.getD i 0) (Z1G (m.getD i 0) o)).2.2=true
 ·rw [if_pos h,if_pos h]
 ·rw [if_neg h,if_neg h]
  have h':(Z0m p (m.getD i 0) (Z1G (m.getD i 0) o)).2.2=false:=by simpa using h
  rw [h']
theorem Z4u:∀ (a b:List (Option UInt8)) (p:Pow) (m:List UInt8) (i:Nat),runS p m i (a++b)=thenS (runS p m i a) fun p' m'=>runS p' m' (i+a.length) b
 | [],b,p,m,i=>by simp [runS,thenS]
 | o :: a,b,p,m,i=>by
  rw [List.cons_append,Z6n,Z6n]
  by_cases h:(Z2a p m i o).2.2=true
  ·have e1:thenS (Z2a p m i o) (fun p' m'=>runS p' m' (i+1) (a++b))=runS (Z2a p m i o).1 (Z2a p m i o).2.1 (i+1) (a++b):=by unfold thenS;rw [if_pos h]
   have e2:thenS (Z2a p m i o) (fun p' m'=>runS p' m' (i+1) a)=runS (Z2a p m i o).1 (Z2a p m i o).2.1 (i+1) a:=by unfold thenS;rw [if_pos h]
   rw [e1,e2,Z4u a b]
   simp only [List.length_cons]
   rw [show i+(a.length+1)=i+1+a.length by omega]
  ·have e1:∀ f,thenS (Z2a p m i o) f=Z2a p m i o:=fun f=>by unfold thenS;rw [if_neg h]
   rw [e1,e1,e1]
theorem then_ok {r:Pow × List UInt8 × Bool}{p:Pow}{m:List UInt8}{f:Pow→List UInt8→Pow × List UInt8 × Bool}(h:r=(p,m,true)):thenS r f=f p m:=by subst h;rfl
theorem Z43 {r:Pow × List UInt8 × Bool}{p:Pow}{m:List UInt8}{f:Pow→List UInt8→Pow × List UInt8 × Bool}(h:r=(p,m,false)):thenS r f=(p,m,false):=by subst h;rfl
theorem Z6g {p p':Pow}{m m':List UInt8}{i j:Nat}{os:List (Option UInt8)}(hj:j<os.length)(h:runS p m i (os.take j)=(p',m',true)):runS p m i (os.take (j+1))=Z2a p' m' (i+j) (os.getD j none)∧((Z2a p' m' (i+j) (os.getD j none)).2.2=false→runS p m i os=Z2a p' m' (i+j) (os.getD j none)):=by
 have hl:(os.take j).length=j:=by rw [List.length_take];omega
 have e:os.take (j+1)=os.take j ++ [os.getD j none]:=by
  rw [List.take_add_one,List.getElem?_eq_getElem hj,List.getD_eq_getElem?_getD,List.getElem?_eq_getElem hj]
  rfl
 have e1:runS p m i (os.take (j+1))=Z2a p' m' (i+j) (os.getD j none):=by
  rw [e,Z4u,then_ok h,hl,Z6n]
  unfold thenS
  split
  ·rename_i h2
   unfold runS
   have:Z2a p' m' (i+j) (os.getD j none)=((Z2a p' m' (i+j) (os.getD j none)).1,(Z2a p' m' (i+j) (os.getD j none)).2.1,(Z2a p' m' (i+j) (os.getD j none)).2.2):=rfl
   rw [this,h2]
  ·rfl
 refine ⟨e1,fun hf=>?_⟩
 have e2:os=os.take (j+1)++os.drop (j+1):=(List.take_append_drop _ _).symm
 rw [e2,Z4u,e1]
 unfold thenS
 rw [if_neg (by rw [hf];simp)]
 rw [←e2]
theorem write_any (bb:Nat)(p:Pow)(mem r:List UInt8)(k:Nat)(w:World)(h:StoAt w bb p mem)(hu:Used mem k)(hk:k<60)(hr:r.length=4) :
  Calls Tryz.prog 320 #[.pointer (some ⟨bb,4,none⟩),recV r,.pointer (some ⟨bb,1,none⟩)] w (Z58 w bb (Z2B p mem r)):=by
 have hlt:=h.lt
 have HF:=Z0a (show Z2B p mem r=runS p mem (1024+4*k) (r.map some) by unfold Z2B;rw [Z4j hu hk])
 obtain ⟨r0,r1,r2,r3,rfl⟩:=fourB hr
 have hrv:recV [r0,r1,r2,r3]=.agg #[.int .u8 (r0.toNat:Int),.int .u8 (r1.toNat:Int),.int .u8 (r2.toNat:Int),.int .u8 (r3.toNat:Int)]:=rfl
 rw [hrv]
 have HI:=Z0a (fun w' (h':StoAt w' bb p mem)=>index_any bb p mem k w' h' hu hk)
 have hki:(k:Int)<60:=by omega
 have HS:=Z0a h
 clear h hu hrv hr
 go_enter Tryz.func320,Tryz.ntmps320
 go_wp2_with fail
 go_region_with (first | (go_at_call 157;refine (Z3Z _).mono ?_;rintro e wx ⟨rfl,rfl⟩) | (go_at_call 342;refine (HI.out _ (by first | exact HS.out.below (((Below.refl _ _).alloc (Nat.le_refl _) _).alloc (by simp) _) | exact HS.out.below (((Below.refl _ _).alloc (Nat.le_refl _) _).alloc (by simp) _).drew)).mono ?_;rintro e wy ⟨rfl,hby⟩))
 have hwy:Below w.heap.size w wy∧wy.heap[w.heap.size]?=some (.cells #[.int .u8 (r0.toNat:Int),.int .u8 (r1.toNat:Int),.int .u8 (r2.toNat:Int),.int .u8 (r3.toNat:Int)] 66):=by
  have h1:Below w.heap.size w wy:=(((Below.refl _ _).alloc (Nat.le_refl _) _).alloc (by simp) _).trans (by have:=hby.mono (B':=w.heap.size) (by simp;omega);exact ⟨this.os,this.tape,this.output,this.size,this.block⟩)
  refine ⟨h1,(hby.block w.heap.size (by simp;omega)).trans ?_⟩
  exact heap_alloc2_old w _ _
 have HW:=Z0a hwy
 clear hwy hby HI
 obtain ⟨os,hos⟩:∃ os:List (Option UInt8),[r0,r1,r2,r3].map some=os:=⟨_,rfl⟩
 have hol:os.length=4:=by rw [←hos];rfl
 rw [hos] at HF
 go_wp2_with fail
 go_loopw [18] (fun i wr=>∃ j:Nat,j≤4∧i=.int .i64 j∧∃ p' m',runS p mem (1024+4*k) (os.take j)=(p',m',true)∧StoAt wr bb p' m'∧Within w wr bb 1 1267∧wr.heap[w.heap.size]?=some (.cells #[.int .u8 (r0.toNat:Int),.int .u8 (r1.toNat:Int),.int .u8 (r2.toNat:Int),.int .u8 (r3.toNat:Int)] 66)) (fun i _=>4-(intOf i).toNat)
 case atStart =>
  refine ⟨0,by omega,rfl,p,mem,by simp [runS],?_,?_,?_⟩
  ·exact (HS.out.below HW.out.1).kept rfl (Nat.le_refl _)
  ·exact Within.below HW.out.1 hlt
  ·exact HW.out.2
 case round =>
  obtain ⟨j,hj,rfl,p',m',hrun,hst,hwi,hbx⟩:=hrel
  by_cases hj4:j<4
  ·obtain ⟨x,hx⟩:∃ x,[r0,r1,r2,r3].getD j 0=x:=⟨_,rfl⟩
   have hox:os.getD j none=some x:=by
    rw [←hos,← hx,List.getD_eq_getElem?_getD,List.getElem?_map,List.getD_eq_getElem?_getD,List.getElem?_eq_getElem (by simpa using hj4)]
    rfl
   have cj:wr.cell? ⟨w.heap.size,j,none⟩=some (.int .u8 (x.toNat:Int)):=by
    rw [cell_of_row _ _ j _ _ (0,0) hbx,← hx]
    have:j=0∨j=1∨j=2∨j=3:=by omega
    rcases this with rfl | rfl | rfl | rfl <;> rfl
   obtain ⟨hm1,hm2⟩:=Z6g (by omega) hrun
   rw [hox] at hm1 hm2
   have HB:=Z0a (fun w' (h':StoAt w' bb p' m')=>burn_any bb p' m' (1024+4*k+j) x w' h' (by omega))
   rw [show 4+(1024+4*k+j)=1028+k*4+j by omega] at HB
   have hss:((Z0m p' (m'.getD (1024+4*k+j) 0) (m'.getD (1024+4*k+j) 0 &&& x)).1,m'.set (1024+4*k+j) (Z0m p' (m'.getD (1024+4*k+j) 0) (m'.getD (1024+4*k+j) 0 &&& x)).2.1,(Z0m p' (m'.getD (1024+4*k+j) 0) (m'.getD (1024+4*k+j) 0 &&& x)).2.2)=Z2a p' m' (1024+4*k+j) (some x):=rfl
   rw [hss] at HB
   obtain ⟨q,hq⟩:∃ q,Z2a p' m' (1024+4*k+j) (some x)=q:=⟨_,rfl⟩
   rw [hq] at HB hm1 hm2
   obtain ⟨p2,m2,ok⟩:=q
   have hji:(j:Int)<4:=by omega
   have HM:=Z0a (And.intro hm1 (And.intro hm2 (And.intro hst (And.intro hwi hbx))))
   have hlw:=hst.lt
   clear hm1 hm2 hst hwi hbx hss hq hrun hox hx
   cases ok with
   | true =>
    go_wp2_with fail
    go_region_with (go_at_call 322;refine (HB.out wr.drew (HM.out.2.2.1.kept rfl (Nat.le_refl _))).mono ?_;rintro e wz ⟨he,h1,h2⟩;obtain rfl:=Z2S he)
    all_goals
     have HZ:=Z0a (And.intro h1 h2)
     clear h1 h2 he
     go_wp2
     go_roundw
     case rel =>
      refine ⟨j+1,by omega,by go_num,p2,m2,HM.out.1,HZ.out.1,HM.out.2.2.2.1.trans ?_,?_⟩
      ·exact ⟨⟨HZ.out.2.grown.os,HZ.out.2.grown.tape,HZ.out.2.grown.output,HZ.out.2.grown.size,HZ.out.2.grown.block⟩,HZ.out.2.cells,HZ.out.2.fz⟩
      ·rw [←HM.out.2.2.2.2]
       exact HZ.out.2.grown.block w.heap.size (by have:=(Array.getElem?_eq_some_iff.1 HM.out.2.2.2.2).1;exact this) (by simp;omega)
     case measure=>simp [intOf];omega
   | false =>
    have hent:∀ args w,(callFunc 322 args).run Tryz.prog w=.ok (.enter 322 args) w:=enters_of Tryz.func322 (by kernel_rfl) rfl
    have HX:Hid (∀ w',StoAt w' bb p2 m2→Within wr.drew w' bb 1 1267→Z58 w bb (Z2B p mem [r0,r1,r2,r3]) (.panicked [{ v:=.iface 265 (.agg #[]),recovered:=false }]) w'):=by
     intro w' h1 h2
     rw [HF.out,HM.out.2.1 rfl]
     exact ⟨rfl,h1,HM.out.2.2.2.1.trans ⟨⟨h2.grown.os,h2.grown.tape,h2.grown.output,h2.grown.size,h2.grown.block⟩,h2.cells,h2.fz⟩⟩
    go_wp2_with fail
    go_region_law (refine Z1r (.tuple #[]) 322 #[.pointer (some ⟨bb,1,none⟩),.pointer (some ⟨bb,1028+k*4+j,none⟩),.int .u8 (x.toNat:Int)] rfl (by simp [go_sem,hent]) _ (HB.out wr.drew (HM.out.2.2.1.kept rfl (Nat.le_refl _))) (fun e w' hh=>⟨_,Z3F hh.1,rfl,HX.out w' hh.2.1 hh.2.2⟩) ?_;intro HFF)
    all_goals exact HFF.out.elim
  ·obtain rfl:j=4:=by omega
   rw [show os.take 4=os by rw [←hol,List.take_length]] at hrun
   have HM:=Z0a (And.intro hrun (And.intro hst hwi))
   clear hrun hst hwi hbx
   go_wp2
   go_end0
   rw [HF.out]
   refine ⟨?_,?_,HM.out.2.2⟩
   ·rw [HM.out.1];rfl
   ·rw [HM.out.1];exact HM.out.2.1
theorem runS_put {os:List (Option UInt8)}{p:Pow}{m:List UInt8}{i:Nat}(h:i+os.length≤m.length):∃ l,(runS p m i os).2.1=put m i l∧l.length≤os.length:=by
 by_cases hp:Z1t p os.length
 ·refine ⟨_,by rw [Z24 os p m i h hp],?_⟩
  rw [wants_len _ _ (Z3h _ _ _ h)]
  exact Nat.le_refl _
 ·obtain ⟨l,e1,e2,e3,_⟩:=Z33 h hp
  exact ⟨l,by rw [e1],by omega⟩
theorem Used.page {m l:List UInt8}{k i:Nat}(h:Used m k)(hi:i+l.length≤1024):Used (put m i l) k:=by
 have hlen:=h.len
 have hb:i+l.length≤m.length:=by omega
 have hle:=h.le
 have hs:∀ j,j<60→Z0N (put m i l) j=Z0N m j:=fun j hj=>by rw [Z1v,Z1v,Z07 _ _ _ hb _ _ (by omega)]
 exact ⟨by rw [Z64 _ _ _ hb];exact hlen,h.le,fun j hj=>by rw [hs j (by omega)];exact h.full j hj,fun j h1 h2=>by rw [hs j h2];exact h.free j h1 h2⟩
theorem used_runS {os:List (Option UInt8)}{p p':Pow}{m m':List UInt8}{i k:Nat}{b:Bool}(h:Used m k)(hi:i+os.length≤1024)(e:runS p m i os=(p',m',b)):Used m' k:=by
 have hlen:=h.len
 obtain ⟨l,e1,e2⟩:=runS_put (os:=os) (p:=p) (m:=m) (i:=i) (by omega)
 rw [e] at e1
 simp only at e1
 rw [e1]
 exact h.page (by omega)
theorem used_write {p p':Pow}{m m' r:List UInt8}{k:Nat}(h:Used m k)(hk:k<60)(hr:r.length=4)(hne:r≠blankL)(e:Z2B p m r=(p',m',true)):Used m' (k+1):=by
 have hlen:=h.len
 by_cases hp:Z1t p 4
 ·rw [Z2U h hk hr hp] at e
  simp only [Prod.mk.injEq] at e
  rw [←e.2.1]
  obtain ⟨h1,h2,h3,h4⟩:=h.puts (l:=r) hk (by omega)
  rcases h.next hk h1 h2 with ⟨e',_⟩ | ⟨_,h'⟩
  ·exact absurd ((Z3E h hk hr).symm.trans e') hne
  ·exact h'
 ·obtain ⟨a,b,c,d,rfl⟩:=fourB hr
  obtain ⟨l,e1,_⟩:=Z3G (r:=[a,b,c,d]) h hk rfl hp
  rw [e1] at e
  simp at e
theorem burnPage_any (bb:Nat)(p:Pow)(mem:List UInt8)(n:UInt8)(bs:ByteArray)(k:Nat)(w:World)(h:StoAt w bb p mem)(hu:Used mem k)(hk:k+2≤60)(hn:n<16)(hbs:bs.size=64) :
  Calls Tryz.prog 291 #[.pointer (some ⟨bb,4,none⟩),.int .u8 (n.toNat:Int),.string bs,.pointer (some ⟨bb,1,none⟩)] w (Z58 w bb (Z0J p mem n bs.data.toList)):=by
 have hlt:=h.lt
 have hnn:=u16 hn
 have hni:(n.toNat:Int)<16:=by omega
 have hlb:bs.data.toList.length=64:=by rw [Array.length_toList];exact hbs
 obtain ⟨bl,hbl⟩:∃ bl,bs.data.toList=bl:=⟨_,rfl⟩
 have hget:∀ j (hj:j<64),bl.getD j 0=bs[j]'(by omega):=fun j hj=>by rw [←hbl];exact Z0P bs j (by omega)
 rw [hbl] at hlb ⊢
 have HE:=Z0a (show Z0J p mem n bl=thenS (thenS (thenS (Z2B p mem (recF mem n 1)) fun p m=>runS p m (64*n.toNat) (List.replicate 64 none)) fun p m=>runS p m (64*n.toNat) (bl.map some)) fun p m=>Z2B p m (recF m n 2) from rfl)
 have HS:=Z0a h
 have HU:=Z0a hu
 have HW1:=Z0a (fun w' (h':StoAt w' bb p mem)=>write_any bb p mem (recF mem n 1) k w' h' hu (by omega) rfl)
 obtain ⟨q1,hq1⟩:∃ q1,Z2B p mem (recF mem n 1)=q1:=⟨_,rfl⟩
 rw [hq1] at HE HW1
 obtain ⟨p1,m1,ok1⟩:=q1
 have HQ1:=Z0a hq1
 clear h hu hq1
 go_enter Tryz.func291,Tryz.ntmps291
 go_wp2_with fail
 refine (Z7B bb n mem w).mono ?_
 rintro e w1 ⟨rfl,hb1⟩
 go_wp2_with fail
 refine (HW1.out w1 (HS.out.below hb1)).mono ?_
 rintro e w2 ⟨he,hs2,hw2⟩
 have HWI:=Z0a ((Within.below (o:=1) (n:=1267) hb1 hlt).trans hw2)
 have HS2:=Z0a hs2
 clear hs2 hw2 hb1 HW1
 cases ok1 with
 | false =>
  obtain rfl:=Z3F he
  go_wp2
  refine ⟨rfl,?_⟩
  rw [HE.out,Z43 rfl,Z43 rfl,Z43 rfl]
  exact ⟨rfl,HS2.out,HWI.out⟩
 | true =>
  obtain rfl:=Z2S he
  have hu1:Used m1 (k+1):=used_write HU.out (by omega) rfl (Z3R _ _ _ hn) HQ1.out
  have HU1:=Z0a hu1
  rw [then_ok rfl] at HE
  obtain ⟨os1,hos1⟩:∃ os1:List (Option UInt8),List.replicate 64 none=os1:=⟨_,rfl⟩
  have hol1:os1.length=64:=by rw [←hos1];simp
  have hog1:∀ j,os1.getD j none=none:=fun j=>by rw [←hos1,List.getD_eq_getElem?_getD,List.getElem?_replicate];split <;> rfl
  rw [hos1] at HE
  clear hu1 HU HQ1 HS hos1 he
  go_wp2_with fail
  go_loopw [22] (fun i wr=>∃ j:Nat,j≤64∧i=.int .i64 j∧∃ p' m',runS p1 m1 (64*n.toNat) (os1.take j)=(p',m',true)∧StoAt wr bb p' m'∧Within w wr bb 1 1267) (fun i _=>64-(intOf i).toNat)
  case atStart=>exact ⟨0,by omega,rfl,p1,m1,by simp [runS],HS2.out,HWI.out⟩
  case round =>
   obtain ⟨j,hj,rfl,p',m',hrun,hst,hwi⟩:=hrel
   by_cases hj4:j<64
   ·obtain ⟨hm1,hm2⟩:=Z6g (by omega) hrun
    rw [hog1] at hm1 hm2
    have HB:=Z0a (fun w' (h':StoAt w' bb p' m')=>erase_any bb p' m' (64*n.toNat+j) w' h' (by omega))
    rw [show 4+(64*n.toNat+j)=4+n.toNat*64+j by omega] at HB
    have hss:((Z0m p' (m'.getD (64*n.toNat+j) 0) 255).1,m'.set (64*n.toNat+j) (Z0m p' (m'.getD (64*n.toNat+j) 0) 255).2.1,(Z0m p' (m'.getD (64*n.toNat+j) 0) 255).2.2)=Z2a p' m' (64*n.toNat+j) none:=rfl
    rw [hss] at HB
    obtain ⟨q,hq⟩:∃ q,Z2a p' m' (64*n.toNat+j) none=q:=⟨_,rfl⟩
    rw [hq] at HB hm1 hm2
    obtain ⟨p2,m2,ok⟩:=q
    have hji:(j:Int)<64:=by omega
    have HM:=Z0a (And.intro hm1 (And.intro hm2 (And.intro hst hwi)))
    clear hm1 hm2 hst hwi hss hq hrun
    go_wp2_with fail
    refine (HB.out _ HM.out.2.2.1).mono ?_
    rintro e wz ⟨he,h1,h2⟩
    have HZ:=Z0a (And.intro h1 h2)
    clear h1 h2
    cases ok with
    | false =>
     obtain rfl:=Z3F he
     go_wp2
     refine ⟨rfl,?_⟩
     rw [HE.out,HM.out.2.1 (by first | rfl | trivial),Z43 rfl,Z43 rfl]
     exact ⟨rfl,HZ.out.1,HM.out.2.2.2.trans HZ.out.2⟩
    | true =>
     obtain rfl:=Z2S he
     go_wp2
     go_roundw
     case rel=>exact ⟨j+1,by omega,by go_num,p2,m2,HM.out.1,HZ.out.1,HM.out.2.2.2.trans HZ.out.2⟩
     case measure=>simp [intOf];omega
   ·obtain rfl:j=64:=by omega
    rw [show os1.take 64=os1 by rw [←hol1,List.take_length]] at hrun
    have HU2:=Z0a (used_runS HU1.out (by omega) hrun)
    rw [hrun,then_ok rfl] at HE
    clear HU1 HWI HS2
    have HWI:=Z0a hwi
    have HS2:=Z0a hst
    clear hwi hst hrun
    obtain ⟨os2,hos2⟩:∃ os2:List (Option UInt8),bl.map some=os2:=⟨_,rfl⟩
    have hol2:os2.length=64:=by rw [←hos2];simpa using hlb
    have hog2:∀ j (hj:j<64),os2.getD j none=some (bs[j]'(by omega)):=fun j hj=>by
     rw [←hget j hj,← hos2,List.getD_eq_getElem?_getD,List.getElem?_map,List.getD_eq_getElem?_getD,List.getElem?_eq_getElem (by omega)]
     rfl
    rw [hos2] at HE
    clear hos2 hget
    rw [show ((64:Nat):Int)=64 from rfl]
    go_wp2_with fail
    go_loopw [32] (fun i wr=>∃ j:Nat,j≤64∧i=.int .i64 j∧∃ p2 m2,runS p' m' (64*n.toNat) (os2.take j)=(p2,m2,true)∧StoAt wr bb p2 m2∧Within w wr bb 1 1267) (fun i _=>64-(intOf i).toNat)
    case atStart=>exact ⟨0,by omega,rfl,p',m',by simp [runS],HS2.out,HWI.out⟩
    case round =>
     rename_i hrel
     obtain ⟨j,hj,rfl,p2,m2,hrun,hst,hwi⟩:=hrel
     by_cases hj4:j<64
     ·obtain ⟨x,hx⟩:∃ x,bs[j]'(by omega)=x:=⟨_,rfl⟩
      obtain ⟨hm1,hm2⟩:=Z6g (by omega) hrun
      rw [hog2 j hj4,hx] at hm1 hm2
      have HB:=Z0a (fun w' (h':StoAt w' bb p2 m2)=>burn_any bb p2 m2 (64*n.toNat+j) x w' h' (by omega))
      rw [show 4+(64*n.toNat+j)=4+n.toNat*64+j by omega] at HB
      have hss:((Z0m p2 (m2.getD (64*n.toNat+j) 0) (m2.getD (64*n.toNat+j) 0 &&& x)).1,m2.set (64*n.toNat+j) (Z0m p2 (m2.getD (64*n.toNat+j) 0) (m2.getD (64*n.toNat+j) 0 &&& x)).2.1,(Z0m p2 (m2.getD (64*n.toNat+j) 0) (m2.getD (64*n.toNat+j) 0 &&& x)).2.2)=Z2a p2 m2 (64*n.toNat+j) (some x):=rfl
      rw [hss] at HB
      obtain ⟨q,hq⟩:∃ q,Z2a p2 m2 (64*n.toNat+j) (some x)=q:=⟨_,rfl⟩
      rw [hq] at HB hm1 hm2
      obtain ⟨p3,m3,ok⟩:=q
      have hji:(j:Int)<64:=by omega
      have hjs:(j:Int)<(bs.size:Int):=by omega
      have HM:=Z0a (And.intro hm1 (And.intro hm2 (And.intro hst hwi)))
      clear hm1 hm2 hst hwi hss hq hrun hog1 hog2
      cases ok with
      | true =>
       go_wp2_with fail
       go_region_with (go_at_call 322;refine (HB.out wr.drew (HM.out.2.2.1.kept rfl (Nat.le_refl _))).mono ?_;rintro e wz ⟨he,h1,h2⟩;obtain rfl:=Z2S he)
       all_goals
        have HZ:=Z0a (And.intro h1 h2)
        clear h1 h2 he
        go_wp2
        go_roundw
        case rel =>
         refine ⟨j+1,by omega,by go_num,p3,m3,HM.out.1,HZ.out.1,HM.out.2.2.2.trans ?_⟩
         exact ⟨⟨HZ.out.2.grown.os,HZ.out.2.grown.tape,HZ.out.2.grown.output,HZ.out.2.grown.size,HZ.out.2.grown.block⟩,HZ.out.2.cells,HZ.out.2.fz⟩
        case measure=>simp [intOf];omega
      | false =>
       have hent:∀ args w,(callFunc 322 args).run Tryz.prog w=.ok (.enter 322 args) w:=enters_of Tryz.func322 (by kernel_rfl) rfl
       have HX:Hid (∀ w',StoAt w' bb p3 m3→Within wr.drew w' bb 1 1267→Z58 w bb (Z0J p mem n bl) (.panicked [{ v:=.iface 265 (.agg #[]),recovered:=false }]) w'):=by
        intro w' h1 h2
        rw [HE.out,HM.out.2.1 rfl,Z43 rfl]
        exact ⟨rfl,h1,HM.out.2.2.2.trans ⟨⟨h2.grown.os,h2.grown.tape,h2.grown.output,h2.grown.size,h2.grown.block⟩,h2.cells,h2.fz⟩⟩
       go_wp2_with fail
       go_region_law (refine Z1r (.tuple #[]) 322 #[.pointer (some ⟨bb,1,none⟩),.pointer (some ⟨bb,4+n.toNat*64+j,none⟩),.int .u8 (x.toNat:Int)] rfl (by simp [go_sem,hent]) _ (HB.out wr.drew (HM.out.2.2.1.kept rfl (Nat.le_refl _))) (fun e w' hh=>⟨_,Z3F hh.1,rfl,HX.out w' hh.2.1 hh.2.2⟩) ?_;intro HFF)
       all_goals exact HFF.out.elim
     ·obtain rfl:j=64:=by omega
      rw [show os2.take 64=os2 by rw [←hol2,List.take_length]] at hrun
      have HU3:=Z0a (used_runS HU2.out (by omega) hrun)
      rw [hrun,then_ok rfl] at HE
      have HW2:=Z0a (fun w' (h':StoAt w' bb p2 m2)=>write_any bb p2 m2 (recF m2 n 2) (k+1) w' h' HU3.out (by omega) rfl)
      have HR2:=Z0a (fun w' (h':StoAt w' bb p2 m2)=>Z7A bb p2 m2 n w' h' hn)
      have HM:=Z0a (And.intro hst hwi)
      have hlr:=hst.lt
      obtain ⟨q2,hq2⟩:∃ q2,Z2B p2 m2 (recF m2 n 2)=q2:=⟨_,rfl⟩
      rw [hq2] at HE HW2
      obtain ⟨p4,m4,ok4⟩:=q2
      clear hrun hst hwi hq2 hog1 hog2
      go_wp2_with fail
      refine (HR2.out _ HM.out.1).mono ?_
      rintro e w5 ⟨rfl,hb5⟩
      go_wp2_with fail
      refine (HW2.out w5 (HM.out.1.below hb5)).mono ?_
      rintro e w6 ⟨he,hs6,hw6⟩
      have HZ:=Z0a (And.intro hs6 (HM.out.2.trans ((Within.below (o:=1) (n:=1267) hb5 hlr).trans hw6)))
      clear hs6 hw6 hb5
      cases ok4 with
      | false =>
       obtain rfl:=Z3F he
       go_wp2
       refine ⟨rfl,?_⟩
       rw [HE.out]
       exact ⟨rfl,HZ.out.1,HZ.out.2⟩
      | true =>
       obtain rfl:=Z2S he
       go_wp2
       go_end0
       rw [HE.out]
       exact ⟨rfl,HZ.out.1,HZ.out.2⟩
theorem Tryz.infoRecs:(Tryz.prog.info? 67).map (·.size)=some 240:=by kernel_rfl
theorem BytesAt.range {w:World}{g off:Nat}{l:List UInt8}(h:BytesAt w g off l):w.rangeAt g off (Z0f l):=by
 intro j u hj
 obtain ⟨h1,rfl⟩:=Z6m l j u hj
 exact h j h1
theorem StoAt.recs {w:World}{bb:Nat}{p:Pow}{mem:List UInt8}(h:StoAt w bb p mem):BytesAt w bb 1028 (mem.drop 1024):=by
 have hl:=h.len
 intro i hi
 simp only [List.length_drop] at hi
 have:=h.cm (1024+i) (by omega)
 rw [show 1028+i=4+(1024+i) by omega,this]
 simp [List.getD_eq_getElem?_getD]
theorem index_recs {mem:List UInt8}(_hlen:mem.length=1264)(j:Nat)(hj:j<60){a0 a1 a2 a3:UInt8}(hs:Z0N mem j=[a0,a1,a2,a3])(w:World) :
  (Instr.index 67 (.agg (Z0f (mem.drop 1024)).toArray) (.int .i64 (j:Int))).run Tryz.prog w=.ok (.agg #[.int .u8 (a0.toNat:Int),.int .u8 (a1.toNat:Int),.int .u8 (a2.toNat:Int),.int .u8 (a3.toNat:Int)]) w:=by
 have hji:(j:Int)<60:=by omega
 have he:List.take 4 (List.drop (j*4) (Z0f (List.drop 1024 mem)))=[.int .u8 (a0.toNat:Int),.int .u8 (a1.toNat:Int),.int .u8 (a2.toNat:Int),.int .u8 (a3.toNat:Int)]:=by
  have:Z0f (Z0N mem j)=[.int .u8 (a0.toNat:Int),.int .u8 (a1.toNat:Int),.int .u8 (a2.toNat:Int),.int .u8 (a3.toNat:Int)]:=by rw [hs];rfl
  rw [←this]
  simp only [Z0f,Z0N,List.map_take,List.map_drop,List.drop_drop]
  rw [show 1024+j*4=1024+4*j by omega]
 have ha:=Tryz.isAgg66
 have hz:=Tryz.sizeOf66
 unfold Instr.index
 simp [asIntOf,run_underlying Tryz.underlying67,ha,hz,part]
 rw [if_pos hj,he]
theorem room_any (bb:Nat)(p:Pow)(mem:List UInt8)(w:World)(h:StoAt w bb p mem) :
  Calls Tryz.prog 290 #[.pointer (some ⟨bb,4,none⟩)] w fun e w'=>e=.returned (.int .i64 (Z4m mem:Int))∧Below w.heap.size w w':=by
 have hlen:=h.len
 have HR:=Z0a h.recs.range
 have hl240:(Z0f (mem.drop 1024)).length=240:=by rw [Z0y,List.length_drop];omega
 have HI:=Z0a (fun j (hj:j<60) a0 a1 a2 a3 hs w'=>index_recs hlen j hj (a0:=a0) (a1:=a1) (a2:=a2) (a3:=a3) hs w')
 obtain ⟨J,hJ⟩:∃ J,Z0f (mem.drop 1024)=J:=⟨_,rfl⟩
 rw [hJ] at HR hl240 HI
 clear hJ
 go_enter Tryz.func290,Tryz.ntmps290
 go_wp2_with (refine wpList_load_mid rfl 67 (.tmp 8) rfl bb 1028 rfl J _ HR.out Tryz.underlying67 rfl (by rw [hl240];exact Tryz.infoRecs) ?_)
 go_loopw [3,10] (fun c i wr=>∃ j:Nat,j≤60∧i=.int .i64 j∧c=.int .i64 (Z5D mem j:Int)∧Below w.heap.size w wr) (fun _ i _=>60-(intOf i).toNat)
 case atStart=>exact ⟨0,by omega,rfl,rfl,Below.refl _ _⟩
 case round =>
  obtain ⟨j,hj,rfl,rfl,hb⟩:=hrel
  have hrl:=roomS_le mem j
  by_cases hlt:j<60
  ·obtain ⟨a0,a1,a2,a3,ha⟩:=fourB (Z1R hlen j hlt)
   have hix:=HI.out j hlt a0 a1 a2 a3 ha
   have hE:∀ w',(Op.equalIn 10000 66 (.agg #[.int .u8 (a0.toNat:Int),.int .u8 (a1.toNat:Int),.int .u8 (a2.toNat:Int),.int .u8 (a3.toNat:Int)]) (.agg #[.int .u8 255,.int .u8 255,.int .u8 255,.int .u8 255])).run Tryz.prog w'=.ok (decide ([a0,a1,a2,a3]=blankL)) w':=fun w'=>eqRec a0 a1 a2 a3 255 255 255 255 w'
   have hG:=guardRec
   have hN:Z5D mem (j+1)=Z5D mem j+(if [a0,a1,a2,a3]=blankL then 1 else 0):=by rw [Z5D,ha]
   have hji:(j:Int)<60:=by omega
   have HB:=Z0a hb
   obtain ⟨c,hc⟩:∃ c,Z5D mem j=c:=⟨_,rfl⟩
   rw [hc] at hN hrl ⊢
   have hsz:=hb.size
   clear hb ha hc
   by_cases he:[a0,a1,a2,a3]=blankL
   ·rw [decide_eq_true he] at hE
    rw [if_pos he] at hN
    have HN:=Z0a hN
    clear hN he
    go_wp2_with fail
    go_region_with (go_at_call 157;refine (Z3Z _).mono ?_;rintro e wx ⟨rfl,rfl⟩)
    all_goals
     go_wp2
     go_roundw
     case rel=>exact ⟨j+1,by omega,by go_num,by rw [HN.out];rfl,(((HB.out.alloc hsz _).alloc (by simp;omega) _)).drew⟩
     case measure=>simp [intOf];omega
   ·rw [decide_eq_false he] at hE
    rw [if_neg he,Nat.add_zero] at hN
    have HN:=Z0a hN
    clear hN he
    go_wp2_with fail
    go_region_with (go_at_call 157;refine (Z3Z _).mono ?_;rintro e wx ⟨rfl,rfl⟩)
    all_goals
     go_wp2
     go_roundw
     case rel=>exact ⟨j+1,by omega,by go_num,by rw [HN.out];rfl,(((HB.out.alloc hsz _).alloc (by simp;omega) _)).drew⟩
     case measure=>simp [intOf];omega
  ·obtain rfl:j=60:=by omega
   have HB:=Z0a hb
   clear hb
   go_wp2
   go_ret
   exact ⟨rfl,HB.out⟩
end Go.Proofs.YthokdbcpkmcieabGreatDoor
