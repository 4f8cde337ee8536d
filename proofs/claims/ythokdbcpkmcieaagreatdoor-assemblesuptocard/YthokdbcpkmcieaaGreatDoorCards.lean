/-
  DERIVED. GIVEN WITH THE SEED: THE CARDS: each row of YthokdbcpkmcieaaGreatDoorRows.lean that lists a variable, with what it lists TIED to the program's text (the seventh form; the later family's looks); each row that meets fmt, with fmt's text TOLD by the authors' own Lean function (tested against real Go, not proved from fmt's source: count such statements apart). THE CARD IS WHAT COUNTS. Prove the row's statement (the work); the ties are given (YthokdbcpkmcieaaGreatDoorTie.lean); close each card by the builder's one call (the guide's Derived/Test/ToyasCard.lean, 'card_holds'). Laid BY PROGRAM, IN A SANDBOX (cutbox-door.mjs). By AI agents, Wed Nov 11 2026. No macro, syntax, notation, axiom, sorry.
-/
import Derived.Test.YthokdbcpkmcieaaGreatDoorRows
import GoSem.ClaimSeven
namespace Go.Proofs.YthokdbcpkmcieaaGreatDoor
namespace Rows

/-- THE TIED CARD OF 'burnishlaw.Assembles'. -/
def assemblesCard : Claim7 := { stood := { row := assemblesRow, standIns := [], harness := (true, "9c52842eeb8416c95a2f36034313c247838bec7488b9dceab8e53bef73b318da"), looks := true }, kinds := [], alts := [], laidByText := true, laidKinds := [.data, .data, .data, .data, .sentinel, .sentinel, .pinned], laidTests := true, laidLooks := .later }
def AssemblesCardSaid : Prop := Claim7.holds Tryz.pinned (.plain (OpenSpec.ofChange assemblesSpec)) assemblesCard

/-- THE TIED CARD OF 'burnishkeep.Coded'. -/
def codedCard : Claim7 := { stood := { row := codedRow, standIns := [], harness := (true, "9c52842eeb8416c95a2f36034313c247838bec7488b9dceab8e53bef73b318da"), looks := true }, kinds := [], alts := [], laidByText := true, laidKinds := [.data, .data, .data, .data, .sentinel, .sentinel, .pinned], laidTests := true, laidLooks := .later }
def CodedCardSaid : Prop := Claim7.holds Tryz.pinned (.plain (OpenSpec.ofChange codedSpec)) codedCard

/-- THE TIED CARD OF 'burnishkeep.Relisted'. -/
def relistedCard : Claim7 := { stood := { row := relistedRow, standIns := [], harness := (true, "9c52842eeb8416c95a2f36034313c247838bec7488b9dceab8e53bef73b318da"), looks := true }, kinds := [], alts := [], laidByText := true, laidKinds := [.data, .data, .data, .data, .sentinel, .sentinel, .pinned], laidTests := true, laidLooks := .later }
def RelistedCardSaid : Prop := Claim7.holds Tryz.pinned (.plain (OpenSpec.ofChange relistedSpec)) relistedCard

/-- THE TIED CARD OF 'burnishkeep.Shifted'. -/
def shiftedCard : Claim7 := { stood := { row := shiftedRow, standIns := [], harness := (true, "9c52842eeb8416c95a2f36034313c247838bec7488b9dceab8e53bef73b318da"), looks := true }, kinds := [], alts := [], laidByText := true, laidKinds := [.data, .data, .data, .data, .sentinel, .sentinel, .pinned], laidTests := true, laidLooks := .later }
def ShiftedCardSaid : Prop := Claim7.holds Tryz.pinned (.plain (OpenSpec.ofChange shiftedSpec)) shiftedCard

/-- THE TIED CARD OF 'burnishkeep.Sure'. -/
def sureCard : Claim7 := { stood := { row := sureRow, standIns := [], harness := (true, "9c52842eeb8416c95a2f36034313c247838bec7488b9dceab8e53bef73b318da"), looks := true }, kinds := [], alts := [], laidByText := true, laidKinds := [.data, .data, .data, .data, .sentinel, .sentinel, .pinned], laidTests := true, laidLooks := .later }
def SureCardSaid : Prop := Claim7.holds Tryz.pinned (.plain (OpenSpec.ofChange sureSpec)) sureCard

/-- THE SECOND FORM's CARD OF 'burnishlaw.Assembles'. -/
def assemblesUptoCard : Claim7 := { stood := { row := assemblesUptoRow, standIns := [], harness := (true, "9c52842eeb8416c95a2f36034313c247838bec7488b9dceab8e53bef73b318da"), looks := true }, kinds := [], alts := [], laidByText := true, laidKinds := [.data, .data, .data, .data, .sentinel, .sentinel, .pinned], laidTests := true, laidLooks := .later }
def AssemblesUptoCardSaid : Prop := Claim7.holds Tryz.pinned (.plain (OpenSpec.upto assemblesSpec)) assemblesUptoCard

/-- THE SECOND FORM's CARD OF 'burnishkeep.Coded'. -/
def codedUptoCard : Claim7 := { stood := { row := codedUptoRow, standIns := [], harness := (true, "9c52842eeb8416c95a2f36034313c247838bec7488b9dceab8e53bef73b318da"), looks := true }, kinds := [], alts := [], laidByText := true, laidKinds := [.data, .data, .data, .data, .sentinel, .sentinel, .pinned], laidTests := true, laidLooks := .later }
def CodedUptoCardSaid : Prop := Claim7.holds Tryz.pinned (.plain (OpenSpec.upto codedSpec)) codedUptoCard

/-- THE SECOND FORM's CARD OF 'burnishkeep.Relisted'. -/
def relistedUptoCard : Claim7 := { stood := { row := relistedUptoRow, standIns := [], harness := (true, "9c52842eeb8416c95a2f36034313c247838bec7488b9dceab8e53bef73b318da"), looks := true }, kinds := [], alts := [], laidByText := true, laidKinds := [.data, .data, .data, .data, .sentinel, .sentinel, .pinned], laidTests := true, laidLooks := .later }
def RelistedUptoCardSaid : Prop := Claim7.holds Tryz.pinned (.plain (OpenSpec.upto relistedSpec)) relistedUptoCard

/-- THE SECOND FORM's CARD OF 'burnishkeep.Shifted'. -/
def shiftedUptoCard : Claim7 := { stood := { row := shiftedUptoRow, standIns := [], harness := (true, "9c52842eeb8416c95a2f36034313c247838bec7488b9dceab8e53bef73b318da"), looks := true }, kinds := [], alts := [], laidByText := true, laidKinds := [.data, .data, .data, .data, .sentinel, .sentinel, .pinned], laidTests := true, laidLooks := .later }
def ShiftedUptoCardSaid : Prop := Claim7.holds Tryz.pinned (.plain (OpenSpec.upto shiftedSpec)) shiftedUptoCard

/-- THE SECOND FORM's CARD OF 'burnishkeep.Sure'. -/
def sureUptoCard : Claim7 := { stood := { row := sureUptoRow, standIns := [], harness := (true, "9c52842eeb8416c95a2f36034313c247838bec7488b9dceab8e53bef73b318da"), looks := true }, kinds := [], alts := [], laidByText := true, laidKinds := [.data, .data, .data, .data, .sentinel, .sentinel, .pinned], laidTests := true, laidLooks := .later }
def SureUptoCardSaid : Prop := Claim7.holds Tryz.pinned (.plain (OpenSpec.upto sureSpec)) sureUptoCard
end Rows
end Go.Proofs.YthokdbcpkmcieaaGreatDoor
