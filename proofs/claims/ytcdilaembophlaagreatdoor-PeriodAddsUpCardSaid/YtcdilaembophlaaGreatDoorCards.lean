/-
  DERIVED. GIVEN WITH THE SEED: THE CARDS: each row of YtcdilaembophlaaGreatDoorRows.lean that lists a variable, with what it lists TIED to the program's text (the seventh form; the later family's looks); each row that meets fmt, with fmt's text TOLD by the authors' own Lean function (tested against real Go, not proved from fmt's source: count such statements apart). THE CARD IS WHAT COUNTS. Prove the row's statement (the work); the ties are given (YtcdilaembophlaaGreatDoorTie.lean); close each card by the builder's one call (the guide's Derived/Test/ToyasCard.lean, 'card_holds'). Laid BY PROGRAM, IN A SANDBOX (cutbox-door.mjs). By AI agents, Wed Nov 11 2026. No macro, syntax, notation, axiom, sorry.
-/
import Derived.Test.YtcdilaembophlaaGreatDoorRows
import GoSem.ClaimSeven
namespace Go.Proofs.YtcdilaembophlaaGreatDoor
namespace Rows

/-- THE TIED CARD OF 'payrolllaw5.PeriodDivides'. -/
def periodDividesCard : Claim7 := { stood := { row := periodDividesRow, standIns := [], harness := (true, "d22776d6342df0f767a722e0fe9d36e1359b33b77894928ca68d6eda0b7b3f93"), looks := false }, kinds := [], alts := [], laidByText := true, laidKinds := [.data], laidTests := true, laidLooks := .later }
def PeriodDividesCardSaid : Prop := Claim7.holds Tryz.pinned (.plain (OpenSpec.ofChange periodDividesSpec)) periodDividesCard

/-- THE TIED CARD OF 'payrolllaw5.PeriodAddsUp'. -/
def periodAddsUpCard : Claim7 := { stood := { row := periodAddsUpRow, standIns := [], harness := (true, "d22776d6342df0f767a722e0fe9d36e1359b33b77894928ca68d6eda0b7b3f93"), looks := false }, kinds := [], alts := [], laidByText := true, laidKinds := [.data], laidTests := true, laidLooks := .later }
def PeriodAddsUpCardSaid : Prop := Claim7.holds Tryz.pinned (.plain (OpenSpec.ofChange periodAddsUpSpec)) periodAddsUpCard

/-- THE SECOND FORM's CARD OF 'payrolllaw5.PeriodDivides'. -/
def periodDividesUptoCard : Claim7 := { stood := { row := periodDividesUptoRow, standIns := [], harness := (true, "d22776d6342df0f767a722e0fe9d36e1359b33b77894928ca68d6eda0b7b3f93"), looks := false }, kinds := [], alts := [], laidByText := true, laidKinds := [.data], laidTests := true, laidLooks := .later }
def PeriodDividesUptoCardSaid : Prop := Claim7.holds Tryz.pinned (.plain (OpenSpec.upto periodDividesSpec)) periodDividesUptoCard

/-- THE SECOND FORM's CARD OF 'payrolllaw5.PeriodAddsUp'. -/
def periodAddsUpUptoCard : Claim7 := { stood := { row := periodAddsUpUptoRow, standIns := [], harness := (true, "d22776d6342df0f767a722e0fe9d36e1359b33b77894928ca68d6eda0b7b3f93"), looks := false }, kinds := [], alts := [], laidByText := true, laidKinds := [.data], laidTests := true, laidLooks := .later }
def PeriodAddsUpUptoCardSaid : Prop := Claim7.holds Tryz.pinned (.plain (OpenSpec.upto periodAddsUpSpec)) periodAddsUpUptoCard
end Rows
end Go.Proofs.YtcdilaembophlaaGreatDoor
