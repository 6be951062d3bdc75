/-
  DERIVED. GIVEN WITH THE SEED: THE CARDS: each row of YtcdilaembophlaaDoorRows.lean that lists a variable, with what it lists TIED to the program's text (the seventh form; the later family's looks); each row that meets fmt, with fmt's text TOLD by the authors' own Lean function (tested against real Go, not proved from fmt's source: count such statements apart). THE CARD IS WHAT COUNTS. Prove the row's statement (the work); the ties are given (YtcdilaembophlaaDoorTie.lean); close each card by the builder's one call (the guide's Derived/Test/ToyasCard.lean, 'card_holds'). Laid BY PROGRAM, IN A SANDBOX (cutbox-door.mjs). By AI agents, Wed Nov 11 2026. No macro, syntax, notation, axiom, sorry.
-/
import Derived.Test.YtcdilaembophlaaDoorRows
import GoSem.ClaimSeven
namespace Go.Proofs.YtcdilaembophlaaDoor
namespace Rows

/-- THE TIED CARD OF 'payrolllaw5.PeriodSpans'. -/
def periodSpansCard : Claim7 := { stood := { row := periodSpansRow, standIns := [], harness := (true, "0d58fff0b959f564812307caca3735ebc9e62c1d6c4bf5dfcf04c147d66e4112"), looks := false }, kinds := [], alts := [], laidByText := true, laidKinds := [.data], laidTests := true, laidLooks := .later }
def PeriodSpansCardSaid : Prop := Claim7.holds Tryd.pinned (.plain (OpenSpec.ofChange periodSpansSpec)) periodSpansCard

/-- THE TIED CARD OF 'payrolllaw5.PeriodPartition'. -/
def periodPartitionCard : Claim7 := { stood := { row := periodPartitionRow, standIns := [], harness := (true, "0d58fff0b959f564812307caca3735ebc9e62c1d6c4bf5dfcf04c147d66e4112"), looks := false }, kinds := [], alts := [], laidByText := true, laidKinds := [.data], laidTests := true, laidLooks := .later }
def PeriodPartitionCardSaid : Prop := Claim7.holds Tryd.pinned (.plain (OpenSpec.ofChange periodPartitionSpec)) periodPartitionCard

/-- THE SECOND FORM's CARD OF 'payrolllaw5.PeriodSpans'. -/
def periodSpansUptoCard : Claim7 := { stood := { row := periodSpansUptoRow, standIns := [], harness := (true, "0d58fff0b959f564812307caca3735ebc9e62c1d6c4bf5dfcf04c147d66e4112"), looks := false }, kinds := [], alts := [], laidByText := true, laidKinds := [.data], laidTests := true, laidLooks := .later }
def PeriodSpansUptoCardSaid : Prop := Claim7.holds Tryd.pinned (.plain (OpenSpec.upto periodSpansSpec)) periodSpansUptoCard

/-- THE SECOND FORM's CARD OF 'payrolllaw5.PeriodPartition'. -/
def periodPartitionUptoCard : Claim7 := { stood := { row := periodPartitionUptoRow, standIns := [], harness := (true, "0d58fff0b959f564812307caca3735ebc9e62c1d6c4bf5dfcf04c147d66e4112"), looks := false }, kinds := [], alts := [], laidByText := true, laidKinds := [.data], laidTests := true, laidLooks := .later }
def PeriodPartitionUptoCardSaid : Prop := Claim7.holds Tryd.pinned (.plain (OpenSpec.upto periodPartitionSpec)) periodPartitionUptoCard
end Rows
end Go.Proofs.YtcdilaembophlaaDoor
