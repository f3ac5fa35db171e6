/-
  No cell of these rows narrows 'for every input' (looked for: loops, veiled, ifaces, maps, wideKeys, modest, calm, conditions, laid).
  DERIVED. THE GIVEN ROWS OF THIS SEAT. 9 by the template 'for every input the law returns true; each argument reads behind the call as it read before'; 0 by the template 'total and deterministic' (their statements: YtglbamalagacgaaGreatTotals.lean).
  GIVEN WITH THE SEED: the statements are not yours to turn. If you find one false, say at which input.
  Laid BY PROGRAM, IN A SANDBOX (cutbox-rows.mjs): the forced cells as the released guide's own fill.sh prints them over the translation b3bf05aeda0f1898… (all of the seat's roots in one cut). By AI agents, Wed Nov 11 2026. No macro, syntax, notation, axiom, sorry.
-/
import Derived.Test.YtglbamalagacgaaGreatChecked
import GoSem.Claim
import GoSem.ClaimJoined
import GoSem.ClaimMapViews
import Derived.JoinedTies
import Derived.KernelRfl
namespace Go.Proofs.YtglbamalagacgaaGreat
/- THE CELL 'sum', in the pinned program and in every row, IS THE sha256 OF THE DUMP (.gsa) THAT YtglbamalagacgaaGreatProg.lean LOADS. Nothing in Lean hashes anything: it is a label: what it is worth is what the hold of that sum in a sandbox is worth. -/
noncomputable def Tryz.pinned : Pinned := { name := "ytglbamalagacgaagreat", sum := "b3bf05aeda0f1898b7241bbcc7acece80bfaa90a0bc4b6af46e71a76eb792489", checked := Tryz.checked }
namespace Rows
def none {H : Type} : Left H := { results := [], args := [] }

/-- 'fibshiftlaw.Routed': WHATEVER THE INPUT: true; the input reads as it did. -/
def routedSpec : ChangeSpec := { name := "routed", fn := fun _ => fun
  | [d1, d2] => { results := [.lit (.bool true)], args := [d1, d2] }
  | _ => none }
def routedRow : OpenClaim := { program := "ytglbamalagacgaagreat", sum := "b3bf05aeda0f1898b7241bbcc7acece80bfaa90a0bc4b6af46e71a76eb792489", func := "fibshift/fibshiftlaw.Routed", spec := "routed", inPlace := ["slices.overlaps[fibshift/ordered.entry[int, fibshift/api.Route]]"], unfollowed := true, recurses := true, plainKeys := false, apart := false }
def RoutedSaid : Prop := routedRow.holds Tryz.pinned (OpenSpec.ofChange routedSpec)

/-- ITS FALSE NEIGHBOUR: 'it returns false'. Refute it at one input. -/
def routedWrong : ChangeSpec := { name := "routed", fn := fun _ => fun
  | [d1, d2] => { results := [.lit (.bool false)], args := [d1, d2] }
  | _ => none }
def RoutedWrongFalsely : Prop := routedRow.holds Tryz.pinned (OpenSpec.ofChange routedWrong)

/-- 'fibshiftlaw.Moved': WHATEVER THE INPUT: true; the input reads as it did. -/
def movedSpec : ChangeSpec := { name := "moved", fn := fun _ => fun
  | [d1, d2] => { results := [.lit (.bool true)], args := [d1, d2] }
  | _ => none }
def movedRow : OpenClaim := { program := "ytglbamalagacgaagreat", sum := "b3bf05aeda0f1898b7241bbcc7acece80bfaa90a0bc4b6af46e71a76eb792489", func := "fibshift/fibshiftlaw.Moved", spec := "moved", inPlace := ["slices.overlaps[fibshift/ordered.entry[int, fibshift/api.Route]]"], unfollowed := true, recurses := true, plainKeys := false, apart := false }
def MovedSaid : Prop := movedRow.holds Tryz.pinned (OpenSpec.ofChange movedSpec)

/-- ITS FALSE NEIGHBOUR: 'it returns false'. Refute it at one input. -/
def movedWrong : ChangeSpec := { name := "moved", fn := fun _ => fun
  | [d1, d2] => { results := [.lit (.bool false)], args := [d1, d2] }
  | _ => none }
def MovedWrongFalsely : Prop := movedRow.holds Tryz.pinned (OpenSpec.ofChange movedWrong)

/-- 'fibshiftkeep.Longest': WHATEVER THE INPUT: true; the input reads as it did. -/
def longestSpec : ChangeSpec := { name := "longest", fn := fun _ => fun
  | [d1, d2, d3] => { results := [.lit (.bool true)], args := [d1, d2, d3] }
  | _ => none }
def longestRow : OpenClaim := { program := "ytglbamalagacgaagreat", sum := "b3bf05aeda0f1898b7241bbcc7acece80bfaa90a0bc4b6af46e71a76eb792489", func := "fibshift/fibshiftkeep.Longest", spec := "longest", inPlace := ["slices.overlaps[fibshift/ordered.entry[int, fibshift/api.Route]]"], unfollowed := true, recurses := true, plainKeys := false, apart := false }
def LongestSaid : Prop := longestRow.holds Tryz.pinned (OpenSpec.ofChange longestSpec)

/-- ITS FALSE NEIGHBOUR: 'it returns false'. Refute it at one input. -/
def longestWrong : ChangeSpec := { name := "longest", fn := fun _ => fun
  | [d1, d2, d3] => { results := [.lit (.bool false)], args := [d1, d2, d3] }
  | _ => none }
def LongestWrongFalsely : Prop := longestRow.holds Tryz.pinned (OpenSpec.ofChange longestWrong)

/-- 'fibshiftkeep.Counted': WHATEVER THE INPUT: true; the input reads as it did. -/
def countedSpec : ChangeSpec := { name := "counted", fn := fun _ => fun
  | [d1, d2] => { results := [.lit (.bool true)], args := [d1, d2] }
  | _ => none }
def countedRow : OpenClaim := { program := "ytglbamalagacgaagreat", sum := "b3bf05aeda0f1898b7241bbcc7acece80bfaa90a0bc4b6af46e71a76eb792489", func := "fibshift/fibshiftkeep.Counted", spec := "counted", inPlace := ["slices.overlaps[fibshift/ordered.entry[int, fibshift/api.Route]]"], unfollowed := true, recurses := true, plainKeys := false, apart := false }
def CountedSaid : Prop := countedRow.holds Tryz.pinned (OpenSpec.ofChange countedSpec)

/-- ITS FALSE NEIGHBOUR: 'it returns false'. Refute it at one input. -/
def countedWrong : ChangeSpec := { name := "counted", fn := fun _ => fun
  | [d1, d2] => { results := [.lit (.bool false)], args := [d1, d2] }
  | _ => none }
def CountedWrongFalsely : Prop := countedRow.holds Tryz.pinned (OpenSpec.ofChange countedWrong)

/-- 'fibshiftkeep.Budgeted': WHATEVER THE INPUT: true; the input reads as it did. -/
def budgetedSpec : ChangeSpec := { name := "budgeted", fn := fun _ => fun
  | [d1, d2] => { results := [.lit (.bool true)], args := [d1, d2] }
  | _ => none }
def budgetedRow : OpenClaim := { program := "ytglbamalagacgaagreat", sum := "b3bf05aeda0f1898b7241bbcc7acece80bfaa90a0bc4b6af46e71a76eb792489", func := "fibshift/fibshiftkeep.Budgeted", spec := "budgeted", inPlace := ["slices.overlaps[fibshift/ordered.entry[int, fibshift/api.Route]]"], unfollowed := true, recurses := true, plainKeys := false, apart := false }
def BudgetedSaid : Prop := budgetedRow.holds Tryz.pinned (OpenSpec.ofChange budgetedSpec)

/-- ITS FALSE NEIGHBOUR: 'it returns false'. Refute it at one input. -/
def budgetedWrong : ChangeSpec := { name := "budgeted", fn := fun _ => fun
  | [d1, d2] => { results := [.lit (.bool false)], args := [d1, d2] }
  | _ => none }
def BudgetedWrongFalsely : Prop := budgetedRow.holds Tryz.pinned (OpenSpec.ofChange budgetedWrong)

/-- 'fibshiftkeep.Whole': WHATEVER THE INPUT: true; the input reads as it did. -/
def wholeSpec : ChangeSpec := { name := "whole", fn := fun _ => fun
  | [d1, d2, d3] => { results := [.lit (.bool true)], args := [d1, d2, d3] }
  | _ => none }
def wholeRow : OpenClaim := { program := "ytglbamalagacgaagreat", sum := "b3bf05aeda0f1898b7241bbcc7acece80bfaa90a0bc4b6af46e71a76eb792489", func := "fibshift/fibshiftkeep.Whole", spec := "whole", inPlace := ["slices.overlaps[fibshift/ordered.entry[int, fibshift/api.Route]]"], unfollowed := true, recurses := true, plainKeys := false, apart := false }
def WholeSaid : Prop := wholeRow.holds Tryz.pinned (OpenSpec.ofChange wholeSpec)

/-- ITS FALSE NEIGHBOUR: 'it returns false'. Refute it at one input. -/
def wholeWrong : ChangeSpec := { name := "whole", fn := fun _ => fun
  | [d1, d2, d3] => { results := [.lit (.bool false)], args := [d1, d2, d3] }
  | _ => none }
def WholeWrongFalsely : Prop := wholeRow.holds Tryz.pinned (OpenSpec.ofChange wholeWrong)

/-- 'fibshiftkeep.Hitless': WHATEVER THE INPUT: true; the input reads as it did. -/
def hitlessSpec : ChangeSpec := { name := "hitless", fn := fun _ => fun
  | [d1, d2, d3] => { results := [.lit (.bool true)], args := [d1, d2, d3] }
  | _ => none }
def hitlessRow : OpenClaim := { program := "ytglbamalagacgaagreat", sum := "b3bf05aeda0f1898b7241bbcc7acece80bfaa90a0bc4b6af46e71a76eb792489", func := "fibshift/fibshiftkeep.Hitless", spec := "hitless", inPlace := ["slices.overlaps[fibshift/ordered.entry[int, fibshift/api.Route]]"], unfollowed := true, recurses := true, plainKeys := false, apart := false }
def HitlessSaid : Prop := hitlessRow.holds Tryz.pinned (OpenSpec.ofChange hitlessSpec)

/-- ITS FALSE NEIGHBOUR: 'it returns false'. Refute it at one input. -/
def hitlessWrong : ChangeSpec := { name := "hitless", fn := fun _ => fun
  | [d1, d2, d3] => { results := [.lit (.bool false)], args := [d1, d2, d3] }
  | _ => none }
def HitlessWrongFalsely : Prop := hitlessRow.holds Tryz.pinned (OpenSpec.ofChange hitlessWrong)

/-- 'fibshiftkeep.Ends': WHATEVER THE INPUT: true; the input reads as it did. -/
def endsSpec : ChangeSpec := { name := "ends", fn := fun _ => fun
  | [d1, d2, d3, d4] => { results := [.lit (.bool true)], args := [d1, d2, d3, d4] }
  | _ => none }
def endsRow : OpenClaim := { program := "ytglbamalagacgaagreat", sum := "b3bf05aeda0f1898b7241bbcc7acece80bfaa90a0bc4b6af46e71a76eb792489", func := "fibshift/fibshiftkeep.Ends", spec := "ends", inPlace := ["slices.overlaps[fibshift/ordered.entry[int, fibshift/api.Route]]"], unfollowed := true, recurses := true, plainKeys := false, apart := false }
def EndsSaid : Prop := endsRow.holds Tryz.pinned (OpenSpec.ofChange endsSpec)

/-- ITS FALSE NEIGHBOUR: 'it returns false'. Refute it at one input. -/
def endsWrong : ChangeSpec := { name := "ends", fn := fun _ => fun
  | [d1, d2, d3, d4] => { results := [.lit (.bool false)], args := [d1, d2, d3, d4] }
  | _ => none }
def EndsWrongFalsely : Prop := endsRow.holds Tryz.pinned (OpenSpec.ofChange endsWrong)

/-- 'fibshiftlaw.All': WHATEVER THE INPUT: true; the input reads as it did. -/
def allSpec : ChangeSpec := { name := "all", fn := fun _ => fun
  | [d1, d2, d3] => { results := [.lit (.bool true)], args := [d1, d2, d3] }
  | _ => none }
def allRow : OpenClaim := { program := "ytglbamalagacgaagreat", sum := "b3bf05aeda0f1898b7241bbcc7acece80bfaa90a0bc4b6af46e71a76eb792489", func := "fibshift/fibshiftlaw.All", spec := "all", inPlace := ["slices.overlaps[fibshift/ordered.entry[int, fibshift/api.Route]]"], unfollowed := true, recurses := true, plainKeys := false, apart := false }
def AllSaid : Prop := allRow.holds Tryz.pinned (OpenSpec.ofChange allSpec)

/-- ITS FALSE NEIGHBOUR: 'it returns false'. Refute it at one input. -/
def allWrong : ChangeSpec := { name := "all", fn := fun _ => fun
  | [d1, d2, d3] => { results := [.lit (.bool false)], args := [d1, d2, d3] }
  | _ => none }
def AllWrongFalsely : Prop := allRow.holds Tryz.pinned (OpenSpec.ofChange allWrong)

/- THE SECOND FORM. 'bulk': how many values and letters a reading holds, each counted each time it is reached (what is shared counts as often as it is met; a slice's spare places count too). A statement '..UptoSaid' is the law's where the arguments, and the package variables that the reading takes, are together of bulk at most 1048576: NARROWER than '..Said'. Prove '..Said' where nothing that the law and all that it calls make is longer than what came in: it says more and counts as full. Else prove '..UptoSaid'. A law counts once. -/
mutual
def uptoBulk {H : Type} : DataW H → Nat
  | .lit (.string bytes) => bytes.length + 1
  | .lit _ => 1
  | .nil => 1
  | .ptr d => uptoBulk d + 1
  | .slice elems spare => uptoBulkAll elems + uptoBulkAll spare + 1
  | .agg parts => uptoBulkAll parts + 1
  | .iface _ d => uptoBulk d + 1
  | .map entries => uptoBulkEntries entries + 1
  | .held _ => 1
def uptoBulkAll {H : Type} : List (DataW H) → Nat
  | [] => 0
  | d :: r => uptoBulk d + uptoBulkAll r
def uptoBulkEntries {H : Type} : List (Lit × DataW H) → Nat
  | [] => 0
  | x :: r => uptoBulkEntry x + uptoBulkEntries r
def uptoBulkEntry {H : Type} : Lit × DataW H → Nat
  | (.string bytes, d) => bytes.length + uptoBulk d + 1
  | (_, d) => uptoBulk d + 1
 end
def uptoSmall : (H : Type) → List (DataW H) → Bool := fun _ ds => decide (uptoBulkAll ds ≤ 1048576)
def OpenSpec.upto (s : _root_.Go.ChangeSpec) : _root_.Go.OpenSpec := { _root_.Go.OpenSpec.ofChange s with cond := some uptoSmall }

/-- 'fibshiftlaw.Routed', WHERE WHAT IT READS IS OF BULK AT MOST 1048576: true; the input reads as it did. -/
def routedUptoRow : OpenClaim := { program := "ytglbamalagacgaagreat", sum := "b3bf05aeda0f1898b7241bbcc7acece80bfaa90a0bc4b6af46e71a76eb792489", func := "fibshift/fibshiftlaw.Routed", spec := "routed", inPlace := ["slices.overlaps[fibshift/ordered.entry[int, fibshift/api.Route]]"], unfollowed := true, recurses := true, plainKeys := false, apart := false, narrowed := true }
def RoutedUptoSaid : Prop := routedUptoRow.holds Tryz.pinned (OpenSpec.upto routedSpec)

/-- 'fibshiftlaw.Moved', WHERE WHAT IT READS IS OF BULK AT MOST 1048576: true; the input reads as it did. -/
def movedUptoRow : OpenClaim := { program := "ytglbamalagacgaagreat", sum := "b3bf05aeda0f1898b7241bbcc7acece80bfaa90a0bc4b6af46e71a76eb792489", func := "fibshift/fibshiftlaw.Moved", spec := "moved", inPlace := ["slices.overlaps[fibshift/ordered.entry[int, fibshift/api.Route]]"], unfollowed := true, recurses := true, plainKeys := false, apart := false, narrowed := true }
def MovedUptoSaid : Prop := movedUptoRow.holds Tryz.pinned (OpenSpec.upto movedSpec)

/-- 'fibshiftkeep.Longest', WHERE WHAT IT READS IS OF BULK AT MOST 1048576: true; the input reads as it did. -/
def longestUptoRow : OpenClaim := { program := "ytglbamalagacgaagreat", sum := "b3bf05aeda0f1898b7241bbcc7acece80bfaa90a0bc4b6af46e71a76eb792489", func := "fibshift/fibshiftkeep.Longest", spec := "longest", inPlace := ["slices.overlaps[fibshift/ordered.entry[int, fibshift/api.Route]]"], unfollowed := true, recurses := true, plainKeys := false, apart := false, narrowed := true }
def LongestUptoSaid : Prop := longestUptoRow.holds Tryz.pinned (OpenSpec.upto longestSpec)

/-- 'fibshiftkeep.Counted', WHERE WHAT IT READS IS OF BULK AT MOST 1048576: true; the input reads as it did. -/
def countedUptoRow : OpenClaim := { program := "ytglbamalagacgaagreat", sum := "b3bf05aeda0f1898b7241bbcc7acece80bfaa90a0bc4b6af46e71a76eb792489", func := "fibshift/fibshiftkeep.Counted", spec := "counted", inPlace := ["slices.overlaps[fibshift/ordered.entry[int, fibshift/api.Route]]"], unfollowed := true, recurses := true, plainKeys := false, apart := false, narrowed := true }
def CountedUptoSaid : Prop := countedUptoRow.holds Tryz.pinned (OpenSpec.upto countedSpec)

/-- 'fibshiftkeep.Budgeted', WHERE WHAT IT READS IS OF BULK AT MOST 1048576: true; the input reads as it did. -/
def budgetedUptoRow : OpenClaim := { program := "ytglbamalagacgaagreat", sum := "b3bf05aeda0f1898b7241bbcc7acece80bfaa90a0bc4b6af46e71a76eb792489", func := "fibshift/fibshiftkeep.Budgeted", spec := "budgeted", inPlace := ["slices.overlaps[fibshift/ordered.entry[int, fibshift/api.Route]]"], unfollowed := true, recurses := true, plainKeys := false, apart := false, narrowed := true }
def BudgetedUptoSaid : Prop := budgetedUptoRow.holds Tryz.pinned (OpenSpec.upto budgetedSpec)

/-- 'fibshiftkeep.Whole', WHERE WHAT IT READS IS OF BULK AT MOST 1048576: true; the input reads as it did. -/
def wholeUptoRow : OpenClaim := { program := "ytglbamalagacgaagreat", sum := "b3bf05aeda0f1898b7241bbcc7acece80bfaa90a0bc4b6af46e71a76eb792489", func := "fibshift/fibshiftkeep.Whole", spec := "whole", inPlace := ["slices.overlaps[fibshift/ordered.entry[int, fibshift/api.Route]]"], unfollowed := true, recurses := true, plainKeys := false, apart := false, narrowed := true }
def WholeUptoSaid : Prop := wholeUptoRow.holds Tryz.pinned (OpenSpec.upto wholeSpec)

/-- 'fibshiftkeep.Hitless', WHERE WHAT IT READS IS OF BULK AT MOST 1048576: true; the input reads as it did. -/
def hitlessUptoRow : OpenClaim := { program := "ytglbamalagacgaagreat", sum := "b3bf05aeda0f1898b7241bbcc7acece80bfaa90a0bc4b6af46e71a76eb792489", func := "fibshift/fibshiftkeep.Hitless", spec := "hitless", inPlace := ["slices.overlaps[fibshift/ordered.entry[int, fibshift/api.Route]]"], unfollowed := true, recurses := true, plainKeys := false, apart := false, narrowed := true }
def HitlessUptoSaid : Prop := hitlessUptoRow.holds Tryz.pinned (OpenSpec.upto hitlessSpec)

/-- 'fibshiftkeep.Ends', WHERE WHAT IT READS IS OF BULK AT MOST 1048576: true; the input reads as it did. -/
def endsUptoRow : OpenClaim := { program := "ytglbamalagacgaagreat", sum := "b3bf05aeda0f1898b7241bbcc7acece80bfaa90a0bc4b6af46e71a76eb792489", func := "fibshift/fibshiftkeep.Ends", spec := "ends", inPlace := ["slices.overlaps[fibshift/ordered.entry[int, fibshift/api.Route]]"], unfollowed := true, recurses := true, plainKeys := false, apart := false, narrowed := true }
def EndsUptoSaid : Prop := endsUptoRow.holds Tryz.pinned (OpenSpec.upto endsSpec)

/-- 'fibshiftlaw.All', WHERE WHAT IT READS IS OF BULK AT MOST 1048576: true; the input reads as it did. -/
def allUptoRow : OpenClaim := { program := "ytglbamalagacgaagreat", sum := "b3bf05aeda0f1898b7241bbcc7acece80bfaa90a0bc4b6af46e71a76eb792489", func := "fibshift/fibshiftlaw.All", spec := "all", inPlace := ["slices.overlaps[fibshift/ordered.entry[int, fibshift/api.Route]]"], unfollowed := true, recurses := true, plainKeys := false, apart := false, narrowed := true }
def AllUptoSaid : Prop := allUptoRow.holds Tryz.pinned (OpenSpec.upto allSpec)

end Rows
end Go.Proofs.YtglbamalagacgaaGreat
