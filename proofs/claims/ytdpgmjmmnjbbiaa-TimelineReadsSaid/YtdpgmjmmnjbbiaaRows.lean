/-
  No cell of these rows narrows 'for every input' (looked for: loops, veiled, ifaces, maps, wideKeys, modest, calm, conditions, laid).
  DERIVED. THE GIVEN ROWS OF THIS SEAT. 4 by the template 'for every input the law returns true; each argument reads behind the call as it read before'; 0 by the template 'total and deterministic' (their statements: YtdpgmjmmnjbbiaaTotals.lean).
  GIVEN WITH THE SEED: the statements are not yours to turn. If you find one false, say at which input.
  Laid BY PROGRAM, IN A SANDBOX (cutbox-rows.mjs): the forced cells as the released guide's own fill.sh prints them over the translation 73822de8d833bd01… (all of the seat's roots in one cut). By AI agents, Wed Nov 11 2026. No macro, syntax, notation, axiom, sorry.
-/
import Derived.Test.YtdpgmjmmnjbbiaaChecked
import GoSem.Claim
import GoSem.ClaimJoined
import GoSem.ClaimMapViews
import Derived.JoinedTies
import Derived.KernelRfl
namespace Go.Proofs.Ytdpgmjmmnjbbiaa
/- THE CELL 'sum', in the pinned program and in every row, IS THE sha256 OF THE DUMP (.gsa) THAT YtdpgmjmmnjbbiaaProg.lean LOADS. Nothing in Lean hashes anything: it is a label: what it is worth is what the hold of that sum in a sandbox is worth. -/
noncomputable def Try.pinned : Pinned := { name := "ytdpgmjmmnjbbiaa", sum := "73822de8d833bd013c9f585bd51da0a609581280f818d1782ce6c9442cc22ada", checked := Try.checked }
namespace Rows
def none {H : Type} : Left H := { results := [], args := [] }

/-- 'payrolllaw6.TimelineReads': WHATEVER THE INPUT: true; the input reads as it did. -/
def timelineReadsSpec : ChangeSpec := { name := "timelineReads", fn := fun _ => fun
  | [d1, d2, d3, d4, d5, d6] => { results := [.lit (.bool true)], args := [d1, d2, d3, d4, d5, d6] }
  | _ => none }
def timelineReadsRow : OpenClaim := { program := "ytdpgmjmmnjbbiaa", sum := "73822de8d833bd013c9f585bd51da0a609581280f818d1782ce6c9442cc22ada", func := "payroll/payrolllaw6.TimelineReads", spec := "timelineReads", unfollowed := true, recurses := true, apart := false }
def TimelineReadsSaid : Prop := timelineReadsRow.holds Try.pinned (OpenSpec.ofChange timelineReadsSpec)

/-- ITS FALSE NEIGHBOUR: 'it returns false'. Refute it at one input. -/
def timelineReadsWrong : ChangeSpec := { name := "timelineReads", fn := fun _ => fun
  | [d1, d2, d3, d4, d5, d6] => { results := [.lit (.bool false)], args := [d1, d2, d3, d4, d5, d6] }
  | _ => none }
def TimelineReadsWrongFalsely : Prop := timelineReadsRow.holds Try.pinned (OpenSpec.ofChange timelineReadsWrong)

/-- 'payrolllaw6.TimelineMerges': WHATEVER THE INPUT: true; the input reads as it did. -/
def timelineMergesSpec : ChangeSpec := { name := "timelineMerges", fn := fun _ => fun
  | [d1, d2, d3] => { results := [.lit (.bool true)], args := [d1, d2, d3] }
  | _ => none }
def timelineMergesRow : OpenClaim := { program := "ytdpgmjmmnjbbiaa", sum := "73822de8d833bd013c9f585bd51da0a609581280f818d1782ce6c9442cc22ada", func := "payroll/payrolllaw6.TimelineMerges", spec := "timelineMerges", unfollowed := true, recurses := true, apart := false }
def TimelineMergesSaid : Prop := timelineMergesRow.holds Try.pinned (OpenSpec.ofChange timelineMergesSpec)

/-- ITS FALSE NEIGHBOUR: 'it returns false'. Refute it at one input. -/
def timelineMergesWrong : ChangeSpec := { name := "timelineMerges", fn := fun _ => fun
  | [d1, d2, d3] => { results := [.lit (.bool false)], args := [d1, d2, d3] }
  | _ => none }
def TimelineMergesWrongFalsely : Prop := timelineMergesRow.holds Try.pinned (OpenSpec.ofChange timelineMergesWrong)

/-- 'payrolllaw6.TimelineOrderless': WHATEVER THE INPUT: true; the input reads as it did. -/
def timelineOrderlessSpec : ChangeSpec := { name := "timelineOrderless", fn := fun _ => fun
  | [d1, d2] => { results := [.lit (.bool true)], args := [d1, d2] }
  | _ => none }
def timelineOrderlessRow : OpenClaim := { program := "ytdpgmjmmnjbbiaa", sum := "73822de8d833bd013c9f585bd51da0a609581280f818d1782ce6c9442cc22ada", func := "payroll/payrolllaw6.TimelineOrderless", spec := "timelineOrderless", unfollowed := true, recurses := true, apart := false }
def TimelineOrderlessSaid : Prop := timelineOrderlessRow.holds Try.pinned (OpenSpec.ofChange timelineOrderlessSpec)

/-- ITS FALSE NEIGHBOUR: 'it returns false'. Refute it at one input. -/
def timelineOrderlessWrong : ChangeSpec := { name := "timelineOrderless", fn := fun _ => fun
  | [d1, d2] => { results := [.lit (.bool false)], args := [d1, d2] }
  | _ => none }
def TimelineOrderlessWrongFalsely : Prop := timelineOrderlessRow.holds Try.pinned (OpenSpec.ofChange timelineOrderlessWrong)

/-- 'payrolllaw6.TimelinePast': WHATEVER THE INPUT: true; the input reads as it did. -/
def timelinePastSpec : ChangeSpec := { name := "timelinePast", fn := fun _ => fun
  | [d] => { results := [.lit (.bool true)], args := [d] }
  | _ => none }
def timelinePastRow : OpenClaim := { program := "ytdpgmjmmnjbbiaa", sum := "73822de8d833bd013c9f585bd51da0a609581280f818d1782ce6c9442cc22ada", func := "payroll/payrolllaw6.TimelinePast", spec := "timelinePast", unfollowed := true, recurses := true, apart := false }
def TimelinePastSaid : Prop := timelinePastRow.holds Try.pinned (OpenSpec.ofChange timelinePastSpec)

/-- ITS FALSE NEIGHBOUR: 'it returns false'. Refute it at one input. -/
def timelinePastWrong : ChangeSpec := { name := "timelinePast", fn := fun _ => fun
  | [d] => { results := [.lit (.bool false)], args := [d] }
  | _ => none }
def TimelinePastWrongFalsely : Prop := timelinePastRow.holds Try.pinned (OpenSpec.ofChange timelinePastWrong)

/- THE SECOND FORM. 'bulk': how many values and letters a reading holds, each counted each time it is reached (what is shared counts as often as it is met; a slice's spare places count too). A statement '..UptoSaid' is the law's where the arguments, and the package variables that the reading takes, are together of bulk at most 1048576: NARROWER than '..Said'. Prove '..Said' where nothing that the law and all that it calls make is longer than what came in: it says more and counts as full. Else prove '..UptoSaid'. A law counts once. -/
mutual
def uptoBulk {H : Type} : DataW H → Nat
  | .lit (.string bytes) => bytes.length + 1
  | .lit _ => 1
  | .nil => 1
  | .ptr d => uptoBulk d + 1
  | .slice elems spare => uptoBulkAll elems + uptoBulkAll spare + 1
  | .agg parts => uptoBulkAll parts + 1
  | .iface _ d => uptoBulk d + 1
  | .map entries => uptoBulkEntries entries + 1
  | .held _ => 1
def uptoBulkAll {H : Type} : List (DataW H) → Nat
  | [] => 0
  | d :: r => uptoBulk d + uptoBulkAll r
def uptoBulkEntries {H : Type} : List (Lit × DataW H) → Nat
  | [] => 0
  | x :: r => uptoBulkEntry x + uptoBulkEntries r
def uptoBulkEntry {H : Type} : Lit × DataW H → Nat
  | (.string bytes, d) => bytes.length + uptoBulk d + 1
  | (_, d) => uptoBulk d + 1
 end
def uptoSmall : (H : Type) → List (DataW H) → Bool := fun _ ds => decide (uptoBulkAll ds ≤ 1048576)
def OpenSpec.upto (s : _root_.Go.ChangeSpec) : _root_.Go.OpenSpec := { _root_.Go.OpenSpec.ofChange s with cond := some uptoSmall }

/-- 'payrolllaw6.TimelineReads', WHERE WHAT IT READS IS OF BULK AT MOST 1048576: true; the input reads as it did. -/
def timelineReadsUptoRow : OpenClaim := { program := "ytdpgmjmmnjbbiaa", sum := "73822de8d833bd013c9f585bd51da0a609581280f818d1782ce6c9442cc22ada", func := "payroll/payrolllaw6.TimelineReads", spec := "timelineReads", unfollowed := true, recurses := true, apart := false, narrowed := true }
def TimelineReadsUptoSaid : Prop := timelineReadsUptoRow.holds Try.pinned (OpenSpec.upto timelineReadsSpec)

/-- 'payrolllaw6.TimelineMerges', WHERE WHAT IT READS IS OF BULK AT MOST 1048576: true; the input reads as it did. -/
def timelineMergesUptoRow : OpenClaim := { program := "ytdpgmjmmnjbbiaa", sum := "73822de8d833bd013c9f585bd51da0a609581280f818d1782ce6c9442cc22ada", func := "payroll/payrolllaw6.TimelineMerges", spec := "timelineMerges", unfollowed := true, recurses := true, apart := false, narrowed := true }
def TimelineMergesUptoSaid : Prop := timelineMergesUptoRow.holds Try.pinned (OpenSpec.upto timelineMergesSpec)

/-- 'payrolllaw6.TimelineOrderless', WHERE WHAT IT READS IS OF BULK AT MOST 1048576: true; the input reads as it did. -/
def timelineOrderlessUptoRow : OpenClaim := { program := "ytdpgmjmmnjbbiaa", sum := "73822de8d833bd013c9f585bd51da0a609581280f818d1782ce6c9442cc22ada", func := "payroll/payrolllaw6.TimelineOrderless", spec := "timelineOrderless", unfollowed := true, recurses := true, apart := false, narrowed := true }
def TimelineOrderlessUptoSaid : Prop := timelineOrderlessUptoRow.holds Try.pinned (OpenSpec.upto timelineOrderlessSpec)

/-- 'payrolllaw6.TimelinePast', WHERE WHAT IT READS IS OF BULK AT MOST 1048576: true; the input reads as it did. -/
def timelinePastUptoRow : OpenClaim := { program := "ytdpgmjmmnjbbiaa", sum := "73822de8d833bd013c9f585bd51da0a609581280f818d1782ce6c9442cc22ada", func := "payroll/payrolllaw6.TimelinePast", spec := "timelinePast", unfollowed := true, recurses := true, apart := false, narrowed := true }
def TimelinePastUptoSaid : Prop := timelinePastUptoRow.holds Try.pinned (OpenSpec.upto timelinePastSpec)

end Rows
end Go.Proofs.Ytdpgmjmmnjbbiaa
