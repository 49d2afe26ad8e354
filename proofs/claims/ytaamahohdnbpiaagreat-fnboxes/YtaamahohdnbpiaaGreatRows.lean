/-
  No cell of these rows narrows 'for every input' (looked for: loops, veiled, ifaces, maps, wideKeys, modest, calm, conditions, laid).
  DERIVED. THE GIVEN ROWS OF THIS SEAT. 10 by the template 'for every input the law returns true; each argument reads behind the call as it read before'; 0 by the template 'total and deterministic' (their statements: YtaamahohdnbpiaaGreatTotals.lean).
  GIVEN WITH THE SEED: the statements are not yours to turn. If you find one false, say at which input.
  Laid BY PROGRAM, IN A SANDBOX (cutbox-rows.mjs): the forced cells as the released guide's own fill.sh prints them over the translation 0ceed40615e66ff7… (all of the seat's roots in one cut). By AI agents, Wed Nov 11 2026. No macro, syntax, notation, axiom, sorry.
-/
import Derived.Test.YtaamahohdnbpiaaGreatChecked
import GoSem.Claim
import GoSem.ClaimJoined
import GoSem.ClaimMapViews
import Derived.JoinedTies
import Derived.KernelRfl
namespace Go.Proofs.YtaamahohdnbpiaaGreat
/- THE CELL 'sum', in the pinned program and in every row, IS THE sha256 OF THE DUMP (.gsa) THAT YtaamahohdnbpiaaGreatProg.lean LOADS. Nothing in Lean hashes anything: it is a label: what it is worth is what the hold of that sum in a sandbox is worth. -/
noncomputable def Tryz.pinned : Pinned := { name := "ytaamahohdnbpiaagreat", sum := "0ceed40615e66ff789c131d9b1460bfc0d6b87e51ab154e2688debb41ccadf52", checked := Tryz.checked }
namespace Rows
def none {H : Type} : Left H := { results := [], args := [] }

/-- 'laws.FnFirstOut': WHATEVER THE INPUT: true; the input reads as it did. -/
def fnFirstOutSpec : ChangeSpec := { name := "fnFirstOut", fn := fun _ => fun
  | [d1, d2] => { results := [.lit (.bool true)], args := [d1, d2] }
  | _ => none }
def fnFirstOutRow : OpenClaim := { program := "ytaamahohdnbpiaagreat", sum := "0ceed40615e66ff789c131d9b1460bfc0d6b87e51ab154e2688debb41ccadf52", func := "loop.example/s01647/laws.FnFirstOut", spec := "fnFirstOut", inPlace := ["internal/bytealg.abigen_runtime_cmpstring"], unfollowed := true, recurses := true, apart := false }
def FnFirstOutSaid : Prop := fnFirstOutRow.holds Tryz.pinned (OpenSpec.ofChange fnFirstOutSpec)

/-- ITS FALSE NEIGHBOUR: 'it returns false'. Refute it at one input. -/
def fnFirstOutWrong : ChangeSpec := { name := "fnFirstOut", fn := fun _ => fun
  | [d1, d2] => { results := [.lit (.bool false)], args := [d1, d2] }
  | _ => none }
def FnFirstOutWrongFalsely : Prop := fnFirstOutRow.holds Tryz.pinned (OpenSpec.ofChange fnFirstOutWrong)

/-- 'laws.FnBoxes': WHATEVER THE INPUT: true; the input reads as it did. -/
def fnBoxesSpec : ChangeSpec := { name := "fnBoxes", fn := fun _ => fun
  | [d1, d2] => { results := [.lit (.bool true)], args := [d1, d2] }
  | _ => none }
def fnBoxesRow : OpenClaim := { program := "ytaamahohdnbpiaagreat", sum := "0ceed40615e66ff789c131d9b1460bfc0d6b87e51ab154e2688debb41ccadf52", func := "loop.example/s01647/laws.FnBoxes", spec := "fnBoxes", inPlace := ["internal/bytealg.abigen_runtime_cmpstring"], unfollowed := true, recurses := true, apart := false }
def FnBoxesSaid : Prop := fnBoxesRow.holds Tryz.pinned (OpenSpec.ofChange fnBoxesSpec)

/-- ITS FALSE NEIGHBOUR: 'it returns false'. Refute it at one input. -/
def fnBoxesWrong : ChangeSpec := { name := "fnBoxes", fn := fun _ => fun
  | [d1, d2] => { results := [.lit (.bool false)], args := [d1, d2] }
  | _ => none }
def FnBoxesWrongFalsely : Prop := fnBoxesRow.holds Tryz.pinned (OpenSpec.ofChange fnBoxesWrong)

/-- 'laws.FnExactBest': WHATEVER THE INPUT: true; the input reads as it did. -/
def fnExactBestSpec : ChangeSpec := { name := "fnExactBest", fn := fun _ => fun
  | [d] => { results := [.lit (.bool true)], args := [d] }
  | _ => none }
def fnExactBestRow : OpenClaim := { program := "ytaamahohdnbpiaagreat", sum := "0ceed40615e66ff789c131d9b1460bfc0d6b87e51ab154e2688debb41ccadf52", func := "loop.example/s01647/laws.FnExactBest", spec := "fnExactBest", inPlace := ["internal/bytealg.abigen_runtime_cmpstring"], unfollowed := true, recurses := true, apart := false }
def FnExactBestSaid : Prop := fnExactBestRow.holds Tryz.pinned (OpenSpec.ofChange fnExactBestSpec)

/-- ITS FALSE NEIGHBOUR: 'it returns false'. Refute it at one input. -/
def fnExactBestWrong : ChangeSpec := { name := "fnExactBest", fn := fun _ => fun
  | [d] => { results := [.lit (.bool false)], args := [d] }
  | _ => none }
def FnExactBestWrongFalsely : Prop := fnExactBestRow.holds Tryz.pinned (OpenSpec.ofChange fnExactBestWrong)

/-- 'laws.FnExactDrain': WHATEVER THE INPUT: true; the input reads as it did. -/
def fnExactDrainSpec : ChangeSpec := { name := "fnExactDrain", fn := fun _ => fun
  | [d] => { results := [.lit (.bool true)], args := [d] }
  | _ => none }
def fnExactDrainRow : OpenClaim := { program := "ytaamahohdnbpiaagreat", sum := "0ceed40615e66ff789c131d9b1460bfc0d6b87e51ab154e2688debb41ccadf52", func := "loop.example/s01647/laws.FnExactDrain", spec := "fnExactDrain", unfollowed := true, recurses := true, apart := false }
def FnExactDrainSaid : Prop := fnExactDrainRow.holds Tryz.pinned (OpenSpec.ofChange fnExactDrainSpec)

/-- ITS FALSE NEIGHBOUR: 'it returns false'. Refute it at one input. -/
def fnExactDrainWrong : ChangeSpec := { name := "fnExactDrain", fn := fun _ => fun
  | [d] => { results := [.lit (.bool false)], args := [d] }
  | _ => none }
def FnExactDrainWrongFalsely : Prop := fnExactDrainRow.holds Tryz.pinned (OpenSpec.ofChange fnExactDrainWrong)

/-- 'laws.FnExactTake': WHATEVER THE INPUT: true; the input reads as it did. -/
def fnExactTakeSpec : ChangeSpec := { name := "fnExactTake", fn := fun _ => fun
  | [d1, d2] => { results := [.lit (.bool true)], args := [d1, d2] }
  | _ => none }
def fnExactTakeRow : OpenClaim := { program := "ytaamahohdnbpiaagreat", sum := "0ceed40615e66ff789c131d9b1460bfc0d6b87e51ab154e2688debb41ccadf52", func := "loop.example/s01647/laws.FnExactTake", spec := "fnExactTake", unfollowed := true, recurses := true, apart := false }
def FnExactTakeSaid : Prop := fnExactTakeRow.holds Tryz.pinned (OpenSpec.ofChange fnExactTakeSpec)

/-- ITS FALSE NEIGHBOUR: 'it returns false'. Refute it at one input. -/
def fnExactTakeWrong : ChangeSpec := { name := "fnExactTake", fn := fun _ => fun
  | [d1, d2] => { results := [.lit (.bool false)], args := [d1, d2] }
  | _ => none }
def FnExactTakeWrongFalsely : Prop := fnExactTakeRow.holds Tryz.pinned (OpenSpec.ofChange fnExactTakeWrong)

/-- 'laws.FnExactFetch': WHATEVER THE INPUT: true; the input reads as it did. -/
def fnExactFetchSpec : ChangeSpec := { name := "fnExactFetch", fn := fun _ => fun
  | [d] => { results := [.lit (.bool true)], args := [d] }
  | _ => none }
def fnExactFetchRow : OpenClaim := { program := "ytaamahohdnbpiaagreat", sum := "0ceed40615e66ff789c131d9b1460bfc0d6b87e51ab154e2688debb41ccadf52", func := "loop.example/s01647/laws.FnExactFetch", spec := "fnExactFetch", unfollowed := true, recurses := true, apart := false }
def FnExactFetchSaid : Prop := fnExactFetchRow.holds Tryz.pinned (OpenSpec.ofChange fnExactFetchSpec)

/-- ITS FALSE NEIGHBOUR: 'it returns false'. Refute it at one input. -/
def fnExactFetchWrong : ChangeSpec := { name := "fnExactFetch", fn := fun _ => fun
  | [d] => { results := [.lit (.bool false)], args := [d] }
  | _ => none }
def FnExactFetchWrongFalsely : Prop := fnExactFetchRow.holds Tryz.pinned (OpenSpec.ofChange fnExactFetchWrong)

/-- 'laws.FnExactRelease': WHATEVER THE INPUT: true; the input reads as it did. -/
def fnExactReleaseSpec : ChangeSpec := { name := "fnExactRelease", fn := fun _ => fun
  | [d1, d2] => { results := [.lit (.bool true)], args := [d1, d2] }
  | _ => none }
def fnExactReleaseRow : OpenClaim := { program := "ytaamahohdnbpiaagreat", sum := "0ceed40615e66ff789c131d9b1460bfc0d6b87e51ab154e2688debb41ccadf52", func := "loop.example/s01647/laws.FnExactRelease", spec := "fnExactRelease", unfollowed := true, recurses := true, apart := false }
def FnExactReleaseSaid : Prop := fnExactReleaseRow.holds Tryz.pinned (OpenSpec.ofChange fnExactReleaseSpec)

/-- ITS FALSE NEIGHBOUR: 'it returns false'. Refute it at one input. -/
def fnExactReleaseWrong : ChangeSpec := { name := "fnExactRelease", fn := fun _ => fun
  | [d1, d2] => { results := [.lit (.bool false)], args := [d1, d2] }
  | _ => none }
def FnExactReleaseWrongFalsely : Prop := fnExactReleaseRow.holds Tryz.pinned (OpenSpec.ofChange fnExactReleaseWrong)

/-- 'laws.FnExactAbort': WHATEVER THE INPUT: true; the input reads as it did. -/
def fnExactAbortSpec : ChangeSpec := { name := "fnExactAbort", fn := fun _ => fun
  | [d1, d2] => { results := [.lit (.bool true)], args := [d1, d2] }
  | _ => none }
def fnExactAbortRow : OpenClaim := { program := "ytaamahohdnbpiaagreat", sum := "0ceed40615e66ff789c131d9b1460bfc0d6b87e51ab154e2688debb41ccadf52", func := "loop.example/s01647/laws.FnExactAbort", spec := "fnExactAbort", unfollowed := true, recurses := true, apart := false }
def FnExactAbortSaid : Prop := fnExactAbortRow.holds Tryz.pinned (OpenSpec.ofChange fnExactAbortSpec)

/-- ITS FALSE NEIGHBOUR: 'it returns false'. Refute it at one input. -/
def fnExactAbortWrong : ChangeSpec := { name := "fnExactAbort", fn := fun _ => fun
  | [d1, d2] => { results := [.lit (.bool false)], args := [d1, d2] }
  | _ => none }
def FnExactAbortWrongFalsely : Prop := fnExactAbortRow.holds Tryz.pinned (OpenSpec.ofChange fnExactAbortWrong)

/-- 'laws.FnExactDeliver': WHATEVER THE INPUT: true; the input reads as it did. -/
def fnExactDeliverSpec : ChangeSpec := { name := "fnExactDeliver", fn := fun _ => fun
  | [d1, d2] => { results := [.lit (.bool true)], args := [d1, d2] }
  | _ => none }
def fnExactDeliverRow : OpenClaim := { program := "ytaamahohdnbpiaagreat", sum := "0ceed40615e66ff789c131d9b1460bfc0d6b87e51ab154e2688debb41ccadf52", func := "loop.example/s01647/laws.FnExactDeliver", spec := "fnExactDeliver", unfollowed := true, recurses := true, apart := false }
def FnExactDeliverSaid : Prop := fnExactDeliverRow.holds Tryz.pinned (OpenSpec.ofChange fnExactDeliverSpec)

/-- ITS FALSE NEIGHBOUR: 'it returns false'. Refute it at one input. -/
def fnExactDeliverWrong : ChangeSpec := { name := "fnExactDeliver", fn := fun _ => fun
  | [d1, d2] => { results := [.lit (.bool false)], args := [d1, d2] }
  | _ => none }
def FnExactDeliverWrongFalsely : Prop := fnExactDeliverRow.holds Tryz.pinned (OpenSpec.ofChange fnExactDeliverWrong)

/-- 'laws.FnExactSubmit': WHATEVER THE INPUT: true; the input reads as it did. -/
def fnExactSubmitSpec : ChangeSpec := { name := "fnExactSubmit", fn := fun _ => fun
  | [d1, d2, d3] => { results := [.lit (.bool true)], args := [d1, d2, d3] }
  | _ => none }
def fnExactSubmitRow : OpenClaim := { program := "ytaamahohdnbpiaagreat", sum := "0ceed40615e66ff789c131d9b1460bfc0d6b87e51ab154e2688debb41ccadf52", func := "loop.example/s01647/laws.FnExactSubmit", spec := "fnExactSubmit", unfollowed := true, recurses := true, apart := false }
def FnExactSubmitSaid : Prop := fnExactSubmitRow.holds Tryz.pinned (OpenSpec.ofChange fnExactSubmitSpec)

/-- ITS FALSE NEIGHBOUR: 'it returns false'. Refute it at one input. -/
def fnExactSubmitWrong : ChangeSpec := { name := "fnExactSubmit", fn := fun _ => fun
  | [d1, d2, d3] => { results := [.lit (.bool false)], args := [d1, d2, d3] }
  | _ => none }
def FnExactSubmitWrongFalsely : Prop := fnExactSubmitRow.holds Tryz.pinned (OpenSpec.ofChange fnExactSubmitWrong)

/- THE SECOND FORM. 'bulk': how many values and letters a reading holds, each counted each time it is reached (what is shared counts as often as it is met; a slice's spare places count too). A statement '..UptoSaid' is the law's where the arguments, and the package variables that the reading takes, are together of bulk at most 1048576: NARROWER than '..Said'. Prove '..Said' where nothing that the law and all that it calls make is longer than what came in: it says more and counts as full. Else prove '..UptoSaid'. A law counts once. -/
mutual
def uptoBulk {H : Type} : DataW H → Nat
  | .lit (.string bytes) => bytes.length + 1
  | .lit _ => 1
  | .nil => 1
  | .ptr d => uptoBulk d + 1
  | .slice elems spare => uptoBulkAll elems + uptoBulkAll spare + 1
  | .agg parts => uptoBulkAll parts + 1
  | .iface _ d => uptoBulk d + 1
  | .map entries => uptoBulkEntries entries + 1
  | .held _ => 1
def uptoBulkAll {H : Type} : List (DataW H) → Nat
  | [] => 0
  | d :: r => uptoBulk d + uptoBulkAll r
def uptoBulkEntries {H : Type} : List (Lit × DataW H) → Nat
  | [] => 0
  | x :: r => uptoBulkEntry x + uptoBulkEntries r
def uptoBulkEntry {H : Type} : Lit × DataW H → Nat
  | (.string bytes, d) => bytes.length + uptoBulk d + 1
  | (_, d) => uptoBulk d + 1
 end
def uptoSmall : (H : Type) → List (DataW H) → Bool := fun _ ds => decide (uptoBulkAll ds ≤ 1048576)
def OpenSpec.upto (s : _root_.Go.ChangeSpec) : _root_.Go.OpenSpec := { _root_.Go.OpenSpec.ofChange s with cond := some uptoSmall }

/-- 'laws.FnFirstOut', WHERE WHAT IT READS IS OF BULK AT MOST 1048576: true; the input reads as it did. -/
def fnFirstOutUptoRow : OpenClaim := { program := "ytaamahohdnbpiaagreat", sum := "0ceed40615e66ff789c131d9b1460bfc0d6b87e51ab154e2688debb41ccadf52", func := "loop.example/s01647/laws.FnFirstOut", spec := "fnFirstOut", inPlace := ["internal/bytealg.abigen_runtime_cmpstring"], unfollowed := true, recurses := true, apart := false, narrowed := true }
def FnFirstOutUptoSaid : Prop := fnFirstOutUptoRow.holds Tryz.pinned (OpenSpec.upto fnFirstOutSpec)

/-- 'laws.FnBoxes', WHERE WHAT IT READS IS OF BULK AT MOST 1048576: true; the input reads as it did. -/
def fnBoxesUptoRow : OpenClaim := { program := "ytaamahohdnbpiaagreat", sum := "0ceed40615e66ff789c131d9b1460bfc0d6b87e51ab154e2688debb41ccadf52", func := "loop.example/s01647/laws.FnBoxes", spec := "fnBoxes", inPlace := ["internal/bytealg.abigen_runtime_cmpstring"], unfollowed := true, recurses := true, apart := false, narrowed := true }
def FnBoxesUptoSaid : Prop := fnBoxesUptoRow.holds Tryz.pinned (OpenSpec.upto fnBoxesSpec)

/-- 'laws.FnExactBest', WHERE WHAT IT READS IS OF BULK AT MOST 1048576: true; the input reads as it did. -/
def fnExactBestUptoRow : OpenClaim := { program := "ytaamahohdnbpiaagreat", sum := "0ceed40615e66ff789c131d9b1460bfc0d6b87e51ab154e2688debb41ccadf52", func := "loop.example/s01647/laws.FnExactBest", spec := "fnExactBest", inPlace := ["internal/bytealg.abigen_runtime_cmpstring"], unfollowed := true, recurses := true, apart := false, narrowed := true }
def FnExactBestUptoSaid : Prop := fnExactBestUptoRow.holds Tryz.pinned (OpenSpec.upto fnExactBestSpec)

/-- 'laws.FnExactDrain', WHERE WHAT IT READS IS OF BULK AT MOST 1048576: true; the input reads as it did. -/
def fnExactDrainUptoRow : OpenClaim := { program := "ytaamahohdnbpiaagreat", sum := "0ceed40615e66ff789c131d9b1460bfc0d6b87e51ab154e2688debb41ccadf52", func := "loop.example/s01647/laws.FnExactDrain", spec := "fnExactDrain", unfollowed := true, recurses := true, apart := false, narrowed := true }
def FnExactDrainUptoSaid : Prop := fnExactDrainUptoRow.holds Tryz.pinned (OpenSpec.upto fnExactDrainSpec)

/-- 'laws.FnExactTake', WHERE WHAT IT READS IS OF BULK AT MOST 1048576: true; the input reads as it did. -/
def fnExactTakeUptoRow : OpenClaim := { program := "ytaamahohdnbpiaagreat", sum := "0ceed40615e66ff789c131d9b1460bfc0d6b87e51ab154e2688debb41ccadf52", func := "loop.example/s01647/laws.FnExactTake", spec := "fnExactTake", unfollowed := true, recurses := true, apart := false, narrowed := true }
def FnExactTakeUptoSaid : Prop := fnExactTakeUptoRow.holds Tryz.pinned (OpenSpec.upto fnExactTakeSpec)

/-- 'laws.FnExactFetch', WHERE WHAT IT READS IS OF BULK AT MOST 1048576: true; the input reads as it did. -/
def fnExactFetchUptoRow : OpenClaim := { program := "ytaamahohdnbpiaagreat", sum := "0ceed40615e66ff789c131d9b1460bfc0d6b87e51ab154e2688debb41ccadf52", func := "loop.example/s01647/laws.FnExactFetch", spec := "fnExactFetch", unfollowed := true, recurses := true, apart := false, narrowed := true }
def FnExactFetchUptoSaid : Prop := fnExactFetchUptoRow.holds Tryz.pinned (OpenSpec.upto fnExactFetchSpec)

/-- 'laws.FnExactRelease', WHERE WHAT IT READS IS OF BULK AT MOST 1048576: true; the input reads as it did. -/
def fnExactReleaseUptoRow : OpenClaim := { program := "ytaamahohdnbpiaagreat", sum := "0ceed40615e66ff789c131d9b1460bfc0d6b87e51ab154e2688debb41ccadf52", func := "loop.example/s01647/laws.FnExactRelease", spec := "fnExactRelease", unfollowed := true, recurses := true, apart := false, narrowed := true }
def FnExactReleaseUptoSaid : Prop := fnExactReleaseUptoRow.holds Tryz.pinned (OpenSpec.upto fnExactReleaseSpec)

/-- 'laws.FnExactAbort', WHERE WHAT IT READS IS OF BULK AT MOST 1048576: true; the input reads as it did. -/
def fnExactAbortUptoRow : OpenClaim := { program := "ytaamahohdnbpiaagreat", sum := "0ceed40615e66ff789c131d9b1460bfc0d6b87e51ab154e2688debb41ccadf52", func := "loop.example/s01647/laws.FnExactAbort", spec := "fnExactAbort", unfollowed := true, recurses := true, apart := false, narrowed := true }
def FnExactAbortUptoSaid : Prop := fnExactAbortUptoRow.holds Tryz.pinned (OpenSpec.upto fnExactAbortSpec)

/-- 'laws.FnExactDeliver', WHERE WHAT IT READS IS OF BULK AT MOST 1048576: true; the input reads as it did. -/
def fnExactDeliverUptoRow : OpenClaim := { program := "ytaamahohdnbpiaagreat", sum := "0ceed40615e66ff789c131d9b1460bfc0d6b87e51ab154e2688debb41ccadf52", func := "loop.example/s01647/laws.FnExactDeliver", spec := "fnExactDeliver", unfollowed := true, recurses := true, apart := false, narrowed := true }
def FnExactDeliverUptoSaid : Prop := fnExactDeliverUptoRow.holds Tryz.pinned (OpenSpec.upto fnExactDeliverSpec)

/-- 'laws.FnExactSubmit', WHERE WHAT IT READS IS OF BULK AT MOST 1048576: true; the input reads as it did. -/
def fnExactSubmitUptoRow : OpenClaim := { program := "ytaamahohdnbpiaagreat", sum := "0ceed40615e66ff789c131d9b1460bfc0d6b87e51ab154e2688debb41ccadf52", func := "loop.example/s01647/laws.FnExactSubmit", spec := "fnExactSubmit", unfollowed := true, recurses := true, apart := false, narrowed := true }
def FnExactSubmitUptoSaid : Prop := fnExactSubmitUptoRow.holds Tryz.pinned (OpenSpec.upto fnExactSubmitSpec)

end Rows
end Go.Proofs.YtaamahohdnbpiaaGreat
