import Derived.Test.YthokdbcpkmcieaaGreatDoorH50
set_option maxRecDepth 200000
set_option maxHeartbeats 16000000
namespace Go.Proofs.YthokdbcpkmcieaaGreatDoor
open ChangeShapes WideShapes ChangeAt RowKit WideElems Deep
theorem Z8h:(Rows.assemblesUptoRow.inPlace==Tryz.pinned.checked.prog.inPlace 3)=true:=aj
theorem Z8H:(Rows.assemblesUptoRow.unfollowed==Tryz.pinned.checked.prog.unfollowed 3)=true:=aj
theorem Z1q:(Rows.assemblesUptoRow.recurses==Tryz.pinned.checked.prog.recurses 3)=true:=aj
theorem Z52:(Rows.assemblesUptoRow.named==Tryz.pinned.checked.prog.varsNamed 3)=true:=aj
