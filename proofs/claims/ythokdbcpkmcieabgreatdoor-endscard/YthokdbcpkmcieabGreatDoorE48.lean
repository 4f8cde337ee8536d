/- EnCJ EnCK -/
import Derived.Test.YthokdbcpkmcieabGreatDoorE47
import Derived.Test.YthokdbcpkmcieabGreatDoorE04
import Derived.ProofKit
import Derived.Deep.DeepHandedRow
import Derived.Deep.Slices
import Derived.Deep.Strs
import Derived.Test.YthokdbcpkmcieabGreatDoorCards
import Derived.Test.YthokdbcpkmcieabGreatDoorTie
set_option maxRecDepth 200000
set_option maxHeartbeats 8000000
namespace Go.Proofs.YthokdbcpkmcieabGreatDoor
open Go Go.ChangeShapes Go.WideShapes Go.ChangeAt Go.RowKit Go.WideElems Go.Deep
theorem Tryz.ownEnC:ownKnob Tryz.prog.godebug=none:=by kernel_rfl
theorem Z7g (W:World)(h:W.ShapedOpen Tryz.prog):∃ m,W.cell? ⟨0,0,none⟩=some (.int .i64 m):=Tryz.laysM145.s1_3 W h
theorem raws_of {H:Type}{enc:TypeId × Value→H}{W:World}{ca:Option Addr}{cn cc:Nat}{d:DataW H}{p:List MemPlace}(h:DataW.Trod enc Tryz.prog W 0 (fun _=>true) true 22 (.slice ca cn cc) d p):∃ raws,RawAt W ca cn raws∧cn≤9223372036854775807:=by
 obtain ⟨fuel,hf⟩:=h
 rcases open_ints Tryz.underlying22 Tryz.underlying3 (by kernel_rfl) hf with ⟨hcs,hx⟩ | ⟨a,len,cap,zs,hcs,_,hlc,hcm,hzl,hx,hcell,hwf⟩
 ·simp [Value.cells] at hcs
  obtain ⟨rfl,rfl,rfl⟩:=hcs
  exact ⟨[],⟨rfl,fun j hj=>absurd hj (Nat.not_lt_zero _),fun r hr=>by cases hr⟩,Nat.zero_le _⟩
 ·simp [Value.cells] at hcs
  obtain ⟨rfl,rfl,rfl⟩:=hcs
  simp only [if_true] at hzl
  have hb:∀ r∈zs,-9223372036854775808≤r∧r≤9223372036854775807:=fun r hr=>by
   have hw:=hwf r hr
   simpa [Lit.wf,IntKind.min,IntKind.max,IntKind.signed,IntKind.bits] using hw
  refine ⟨zs.take cn,⟨by rw [List.length_take];omega,fun j hj=>?_,fun r hr=>hb r (List.mem_of_mem_take hr)⟩,by unfold maxLen at *;omega⟩
  rw [List.length_take] at hj
  have c1:=hcell j (by omega)
  have c0:=hcell 0 (by omega)
  obtain ⟨b,off,spot⟩:=a
  have hspot:spot=none:=by simpa [Addr.add] using World.cell?_spot c0
  subst hspot
  rw [Addr.add_lit] at c1
  rw [List.getD_eq_getElem?_getD,List.getElem?_eq_getElem (by omega)] at c1
  refine ⟨b,off,rfl,?_,by have:=World.block_lt_of_cell? _ _ c1;simpa using this⟩
  rw [List.getElem_take]
  exact c1
theorem acts_of {H:Type}{enc:TypeId × Value→H}{W:World}{sa:Option Addr}{sn sc:Nat}{d:DataW H}{p:List MemPlace}(h:DataW.Trod enc Tryz.prog W 0 (fun _=>true) true 23 (.slice sa sn sc) d p):∃ acts,ScrAt W sa sn acts∧sn≤9223372036854775807:=by
 obtain ⟨fuel,hf⟩:=h
 rcases open_slice Tryz.underlying23 hf with ⟨hcs,hx⟩ | ⟨a,len',cap',mm,n,D,Pl,hcs,_,hlc,hcm,hmm,hx,hel⟩
 ·simp [Value.cells] at hcs
  obtain ⟨rfl,rfl,rfl⟩:=hcs
  exact ⟨[],⟨rfl,fun j hj=>absurd hj (Nat.not_lt_zero _),fun r hr=>by cases hr⟩,Nat.zero_le _⟩
 ·simp [Value.cells] at hcs
  obtain ⟨rfl,rfl,rfl⟩:=hcs
  simp only [if_true] at hmm
  have hcell:Tryz.prog.cellsOf 27=3:=by kernel_rfl
  have hall:∀ i,i<sn→∃ x:Int × Int × Int,W.cell? (a.add (i*3))=some (.int .i64 x.1)∧W.cell? ((a.add (i*3)).add 1)=some (.int .i64 x.2.1)∧W.cell? ((a.add (i*3)).add 2)=some (.int .i64 x.2.2)∧(-9223372036854775808≤x.1∧x.1≤9223372036854775807)∧(-9223372036854775808≤x.2.1∧x.2.1≤9223372036854775807)∧(-9223372036854775808≤x.2.2∧x.2.2≤9223372036854775807):=by
   intro i hi
   obtain ⟨cs',h1,h2⟩:=hel i (by omega)
   rw [hcell] at h1
   obtain ⟨_,hl2,hat⟩:=World.cells?_some h1
   obtain ⟨y0,y1,y2,n',_,_,hy0,hy1,hy2⟩:=trod_struct3 Tryz.underlying27 h2
   match cs',hl2 with
   | [u0,u1,u2],_ =>
    obtain ⟨x0,e0,_,w0⟩:=DataW.trod_int Tryz.underlying3 (show DataW.trod enc Tryz.prog W 0 (fun _=>true) true n' 3 [u0]=some y0 from hy0)
    obtain ⟨x1,e1,_,w1⟩:=DataW.trod_int Tryz.underlying3 (show DataW.trod enc Tryz.prog W 0 (fun _=>true) true n' 3 [u1]=some y1 from hy1)
    obtain ⟨x2,e2,_,w2⟩:=DataW.trod_int Tryz.underlying3 (show DataW.trod enc Tryz.prog W 0 (fun _=>true) true n' 3 [u2]=some y2 from hy2)
    simp only [List.cons.injEq,and_true] at e0 e1 e2
    subst e0 e1 e2
    exact ⟨⟨x0,x1,x2⟩,by have:=hat 0 (by omega);simpa [Addr.add] using this,by have:=hat 1 (by omega);simpa using this,by have:=hat 2 (by omega);simpa using this,by simpa [Lit.wf,IntKind.min,IntKind.max,IntKind.signed,IntKind.bits] using w0,by simpa [Lit.wf,IntKind.min,IntKind.max,IntKind.signed,IntKind.bits] using w1,by simpa [Lit.wf,IntKind.min,IntKind.max,IntKind.signed,IntKind.bits] using w2⟩
  obtain ⟨X,hX⟩:=choose_lt (α:=Int × Int × Int) hall
  have hlen:((List.range sn).map X).length=sn:=by simp
  refine ⟨(List.range sn).map X,⟨hlen.symm,fun j hj=>?_,fun r hr=>?_⟩,by unfold maxLen at *;omega⟩
  ·rw [hlen] at hj
   have e:((List.range sn).map X)[j]=X j:=by simp
   rw [e]
   obtain ⟨c0,c1,c2,_⟩:=hX j hj
   have c00:=(hX 0 (by omega)).1
   obtain ⟨b,off,spot⟩:=a
   have hspot:spot=none:=by simpa [Addr.add] using World.cell?_spot c00
   subst hspot
   rw [add_plain] at c0 c1 c2
   rw [add_plain] at c1 c2
   exact ⟨b,off,rfl,c0,c1,c2,by have:=World.block_lt_of_cell? _ _ c0;simpa using this⟩
  ·obtain ⟨j,hj,rfl⟩:=List.mem_map.1 hr
   exact (hX j (List.mem_range.1 hj)).2.2.2
theorem Z7W (H:Type)(enc:TypeId × Value→H)(W:World)(base:Nat)(args:Array Value)(ds gs:List (DataW H))(before:List MemPlace)
  (hval:∀ (j:Nat) t v,Tryz.f3.params[j]?=some t→args[j]?=some v→Value.okWide Tryz.prog W .any base t v)
  (hW:DataW.Whole enc Tryz.prog Tryz.f3.params.toList Rows.endsSpec.vars false W args.toList ds gs before) (hsh:W.ShapedOpen Tryz.prog) :
  Calls Tryz.prog 3 args W fun e W'=>∃ v,e=.returned v∧Rows.endsSpec.post enc Tryz.prog Tryz.f3 false true false false W args v W':=by
 obtain ⟨mm,hm⟩:=Z7g W hsh
 have hW':=hW
 obtain ⟨p,q,hA0,hV,rfl,hfz,hnd⟩:=hW
 have hA:DataW.TrodAll enc Tryz.prog W 0 (fun _=>true) true Tryz.f3.params.toList args.toList ds p:=hA0
 rw [Tryz.params3] at hA hval
 obtain ⟨v0,vs0,d0,ds0,p0,q0,hargs,rfl,rfl,h0,r0⟩:=trodAll_cons hA
 obtain ⟨v1,vs1,d1,ds1,p1,q1,rfl,rfl,rfl,h1,r1⟩:=trodAll_cons r0
 obtain ⟨rfl,rfl,rfl⟩:=trodAll_nil r1
 obtain rfl:args=#[v0,v1]:=by cases args;simp_all
 obtain ⟨rfl,rfl⟩:=trodVars_none hV
 have hlt:∀ x∈p0++(p1 ++ []),x.block<W.heap.size:=fun x hx=>by have:=hW'.lt x (by simpa using hx);simpa using this
 obtain ⟨ca,cn,cc,rfl⟩:=okWide_slice Tryz.underlying22 (hval 0 22 v0 rfl rfl)
 obtain ⟨sa,sn,sc,rfl⟩:=okWide_slice Tryz.underlying23 (hval 1 23 v1 rfl rfl)
 obtain ⟨raws,hraw,hcn⟩:=raws_of h0
 obtain ⟨acts,hact,hsn⟩:=acts_of h1
 refine (ends_any W ca cn cc raws sa sn sc acts mm hraw hcn hact hsn hm).mono fun e W' ⟨he,hB⟩=>?_
 subst he
 simp only [List.append_nil] at hW'
 refine ⟨_,rfl,_,_,_,[],p0++(p1 ++ []),[],hW',?_,?_,rfl,hB.frame _,fun h=>by cases h⟩
 ·exact trodAll_mk1 (shut_bool Tryz.underlying4 _)
 ·exact trodAll_cons_mk (Below.trod Tryz.laidOut (by kernel_rfl) (of_decide_eq_true (by kernel_rfl)) h0 hB (fun x hx=>hlt x (by simp [hx]))) (trodAll_cons_mk (Below.trod Tryz.laidOut (by kernel_rfl) (of_decide_eq_true (by kernel_rfl)) h1 hB (fun x hx=>hlt x (by simp [hx]))) trodAll_mk0)
def cells2EnC:DataW Unit→List Value
 | .lit (.int k n)=>[.int k n]
 | .agg l=>l.flatMap fun
  | .lit (.int k n)=>[.int k n]
  | _=>[]
 | _=>[]
def Z3N:DataW Unit→List Value
 | .agg l=>l.flatMap cells2EnC
 | _=>[]
def Z3r (cs:List Value):Obj→Obj
 | .cells _ t frozen=>.cells cs.toArray t frozen
 | o=>o
theorem Z5G (os:Os):∃ w0:World,w0.os=os∧(w0.forCall (fun _ _=>0) ⟨#[],#[.slice none 0 0,.slice none 0 0],[]⟩).variablesB Tryz.checked.prog=true ∧
  ((w0.forCall (fun _ _=>0) ⟨#[],#[.slice none 0 0,.slice none 0 0],[]⟩).heap.toList.drop Tryz.checked.prog.globals.size).take ((begin Tryz.checked.prog (fun _ _=>0) default).world.heap.size-Tryz.checked.prog.globals.size)=(begin Tryz.checked.prog (fun _ _=>0) default).world.heap.toList.drop Tryz.checked.prog.globals.size ∧
  Input.okWideB Tryz.checked.prog (w0.forCall (fun _ _=>0) ⟨#[],#[.slice none 0 0,.slice none 0 0],[]⟩) 3 ⟨#[],#[.slice none 0 0,.slice none 0 0],[]⟩=true ∧
  laidMet Tryz.prog Rows.endsRow.laid (w0.forCall (fun _ _=>0) ⟨#[],#[.slice none 0 0,.slice none 0 0],[]⟩).memory ∧
  (∀ (H:Type) (enc:TypeId × Value→H),∃ places,DataW.whole enc Tryz.prog (w0.forCall (fun _ _=>0) ⟨#[],#[.slice none 0 0,.slice none 0 0],[]⟩).memory Tryz.f3.params.toList Rows.endsSpec.vars false #[Value.slice none 0 0,Value.slice none 0 0].toList 8=some ([.nil,.nil],[],places)) :=
 ⟨{ World.holding Tryz.prog os ⟨#[],#[],[]⟩ with heap:=((((((((((World.holding Tryz.prog os ⟨#[],#[],[]⟩).heap.modify 1 (Z3r (Z3N Rows.laid_unicode_utf8_first))).modify 2 (Z3r (Z3N Rows.laid_unicode_utf8_acceptRanges))).modify 3 (Z3r (Z3N Rows.laid_internal_strconv_uint64pow10))).modify 4 (Z3r [.iface 446 (.pointer (some ⟨(World.holding Tryz.prog os ⟨#[],#[],[]⟩).heap.size,0,none⟩))])).modify 5 (Z3r [.iface 446 (.pointer (some ⟨(World.holding Tryz.prog os ⟨#[],#[],[]⟩).heap.size+1,0,none⟩))])).modify 6 (Z3r (Z3N Rows.laid_math_bits_deBruijn32tab))).modify 7 (Z3r (Z3N Rows.laid_math_bits_deBruijn64tab))).push (.cells #[.string ⟨#[105,110,118,97,108,105,100,32,115,121,110,116,97,120]⟩] 448)).push (.cells #[.string ⟨#[118,97,108,117,101,32,111,117,116,32,111,102,32,114,97,110,103,101]⟩] 448)) },
  rfl,by kernel_rfl,by kernel_rfl,by kernel_rfl,laidMet_of_run' 8 (by kernel_rfl) (by kernel_rfl),fun _ _=>⟨[],by kernel_rfl⟩⟩
end Go.Proofs.YthokdbcpkmcieabGreatDoor
