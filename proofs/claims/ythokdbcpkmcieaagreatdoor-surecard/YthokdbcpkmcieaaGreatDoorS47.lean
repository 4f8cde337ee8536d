/- SurCK -/
import Derived.Test.YthokdbcpkmcieaaGreatDoorS46
import Derived.Test.YthokdbcpkmcieaaGreatDoorCards
import Derived.Test.YthokdbcpkmcieaaGreatDoorTie
set_option maxRecDepth 200000
set_option maxHeartbeats 8000000
namespace Go.Proofs.YthokdbcpkmcieaaGreatDoor
open Go Go.ChangeShapes Go.WideShapes Go.ChangeAt Go.RowKit Go.WideElems Go.Deep
def cells2SurC:DataW Unit→List Value
 | .lit (.int k n)=>[.int k n]
 | .agg l=>l.flatMap fun
  | .lit (.int k n)=>[.int k n]
  | _=>[]
 | _=>[]
def Z2M:DataW Unit→List Value
 | .agg l=>l.flatMap cells2SurC
 | _=>[]
def Z2t (cs:List Value):Obj→Obj
 | .cells _ t frozen=>.cells cs.toArray t frozen
 | o=>o
theorem Z4V (os:Os):∃ w0:World,w0.os=os∧(w0.forCall (fun _ _=>0) ⟨#[],#[.slice none 0 0,.slice none 0 0],[]⟩).variablesB Tryz.checked.prog=true ∧
  ((w0.forCall (fun _ _=>0) ⟨#[],#[.slice none 0 0,.slice none 0 0],[]⟩).heap.toList.drop Tryz.checked.prog.globals.size).take ((begin Tryz.checked.prog (fun _ _=>0) default).world.heap.size-Tryz.checked.prog.globals.size)=(begin Tryz.checked.prog (fun _ _=>0) default).world.heap.toList.drop Tryz.checked.prog.globals.size ∧
  Input.okWideB Tryz.checked.prog (w0.forCall (fun _ _=>0) ⟨#[],#[.slice none 0 0,.slice none 0 0],[]⟩) 7 ⟨#[],#[.slice none 0 0,.slice none 0 0],[]⟩=true ∧
  laidMet Tryz.prog Rows.sureRow.laid (w0.forCall (fun _ _=>0) ⟨#[],#[.slice none 0 0,.slice none 0 0],[]⟩).memory ∧
  (∀ (H:Type) (enc:TypeId × Value→H),∃ places,DataW.whole enc Tryz.prog (w0.forCall (fun _ _=>0) ⟨#[],#[.slice none 0 0,.slice none 0 0],[]⟩).memory Tryz.f7.params.toList Rows.sureSpec.vars false #[Value.slice none 0 0,Value.slice none 0 0].toList 8=some ([.nil,.nil],[],places)) :=
 ⟨{ World.holding Tryz.prog os ⟨#[],#[],[]⟩ with heap:=((((((((((World.holding Tryz.prog os ⟨#[],#[],[]⟩).heap.modify 1 (Z2t (Z2M Rows.laid_unicode_utf8_first))).modify 2 (Z2t (Z2M Rows.laid_unicode_utf8_acceptRanges))).modify 3 (Z2t (Z2M Rows.laid_internal_strconv_uint64pow10))).modify 4 (Z2t [.iface 402 (.pointer (some ⟨(World.holding Tryz.prog os ⟨#[],#[],[]⟩).heap.size,0,none⟩))])).modify 5 (Z2t [.iface 402 (.pointer (some ⟨(World.holding Tryz.prog os ⟨#[],#[],[]⟩).heap.size+1,0,none⟩))])).modify 6 (Z2t (Z2M Rows.laid_math_bits_deBruijn32tab))).modify 7 (Z2t (Z2M Rows.laid_math_bits_deBruijn64tab))).push (.cells #[.string ⟨#[105,110,118,97,108,105,100,32,115,121,110,116,97,120]⟩] 404)).push (.cells #[.string ⟨#[118,97,108,117,101,32,111,117,116,32,111,102,32,114,97,110,103,101]⟩] 404)) },
  rfl,by kernel_rfl,by kernel_rfl,by kernel_rfl,laidMet_of_run' 8 (by kernel_rfl) (by kernel_rfl),fun _ _=>⟨[],by kernel_rfl⟩⟩
end Go.Proofs.YthokdbcpkmcieaaGreatDoor
