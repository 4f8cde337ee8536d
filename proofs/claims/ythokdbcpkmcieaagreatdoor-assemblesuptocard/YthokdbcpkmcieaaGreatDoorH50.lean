import Derived.Test.YthokdbcpkmcieaaGreatDoorH49
import Derived.Test.YthokdbcpkmcieaaGreatDoorCards
import Derived.Test.YthokdbcpkmcieaaGreatDoorTie
set_option maxRecDepth 200000
set_option maxHeartbeats 16000000
namespace Go.Proofs.YthokdbcpkmcieaaGreatDoor
open ChangeShapes WideShapes ChangeAt RowKit WideElems Deep Proofs.Tryz
def Z2a:DataW Unit->List Value
 |.lit (.int k n)=>[.int k n]
 |.agg l=>l.flatMap fun
  |.lit (.int k n)=>[.int k n]
  |_=>[]
 |_=>[]
def zm:DataW Unit->List Value
 |.agg l=>l.flatMap Z2a
 |_=>[]
def xI(cs:List Value):Obj->Obj
 |.cells _ t frozen=>.cells cs.toArray t frozen
 |o=>o
theorem Z72(os:Os):∃A:World,A.os=os/\(A.forCall (fun _ _=>0) ⟨#[],#[.slice none 0 0,.slice none 0 0],[]⟩).variablesB Tryz.checked.prog=true /\
  ((A.forCall (fun _ _=>0) ⟨#[],#[.slice none 0 0,.slice none 0 0],[]⟩).heap.toList.drop Tryz.checked.prog.globals.size).take ((begin Tryz.checked.prog (fun _ _=>0) default).world.heap.size-Tryz.checked.prog.globals.size)=(begin Tryz.checked.prog (fun _ _=>0) default).world.heap.toList.drop Tryz.checked.prog.globals.size /\
  Input.okWideB Tryz.checked.prog (A.forCall (fun _ _=>0) ⟨#[],#[.slice none 0 0,.slice none 0 0],[]⟩) 3 ⟨#[],#[.slice none 0 0,.slice none 0 0],[]⟩=true /\
  laidMet prog Rows.assemblesUptoRow.laid (A.forCall (fun _ _=>0) ⟨#[],#[.slice none 0 0,.slice none 0 0],[]⟩).memory /\
  (∀(H:Type) (enc:TypeId×Value->H),∃D,DataW.whole enc prog (A.forCall (fun _ _=>0) ⟨#[],#[.slice none 0 0,.slice none 0 0],[]⟩).memory Tryz.f3.params.toList Rows.assemblesSpec.vars false #[Value.slice none 0 0,Value.slice none 0 0].toList 8=some ([.nil,.nil],[],D)):=
 ⟨{World.holding prog os ⟨#[],#[],[]⟩ with heap:=((((((((((World.holding prog os ⟨#[],#[],[]⟩).heap.modify 1 (xI (zm Rows.laid_unicode_utf8_first))).modify 2 (xI (zm Rows.laid_unicode_utf8_acceptRanges))).modify 3 (xI (zm Rows.laid_internal_strconv_uint64pow10))).modify 4 (xI [.iface 402 (.pointer (some ⟨(World.holding prog os ⟨#[],#[],[]⟩).heap.size,0,none⟩))])).modify 5 (xI [.iface 402 (.pointer (some ⟨(World.holding prog os ⟨#[],#[],[]⟩).heap.size+1,0,none⟩))])).modify 6 (xI (zm Rows.laid_math_bits_deBruijn32tab))).modify 7 (xI (zm Rows.laid_math_bits_deBruijn64tab))).push (.cells #[.string ⟨#[105,110,118,97,108,105,100,32,115,121,110,116,97,120]⟩] 404)).push (.cells #[.string ⟨#[118,97,108,117,101,32,111,117,116,32,111,102,32,114,97,110,103,101]⟩] 404))},
  rfl,aj,aj,aj,laidMet_of_run' 8 aj aj,fun _ _=>⟨[],aj⟩⟩
