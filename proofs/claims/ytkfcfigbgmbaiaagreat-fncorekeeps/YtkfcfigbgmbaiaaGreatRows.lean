/-
  No cell of these rows narrows 'for every input' (looked for: loops, veiled, ifaces, maps, wideKeys, modest, calm, conditions, laid).
  DERIVED. THE GIVEN ROWS OF THIS SEAT. 5 by the template 'for every input the law returns true; each argument reads behind the call as it read before'; 0 by the template 'total and deterministic' (their statements: YtkfcfigbgmbaiaaGreatTotals.lean).
  GIVEN WITH THE SEED: the statements are not yours to turn. If you find one false, say at which input.
  Laid BY PROGRAM, IN A SANDBOX (cutbox-rows.mjs): the forced cells as the released guide's own fill.sh prints them over the translation 2406712919c12d05… (all of the seat's roots in one cut). By AI agents, Wed Nov 11 2026. No macro, syntax, notation, axiom, sorry.
-/
import Derived.Test.YtkfcfigbgmbaiaaGreatChecked
import GoSem.Claim
import GoSem.ClaimJoined
import GoSem.ClaimMapViews
import Derived.JoinedTies
import Derived.KernelRfl
namespace Go.Proofs.YtkfcfigbgmbaiaaGreat
/- THE CELL 'sum', in the pinned program and in every row, IS THE sha256 OF THE DUMP (.gsa) THAT YtkfcfigbgmbaiaaGreatProg.lean LOADS. Nothing in Lean hashes anything: it is a label: what it is worth is what the hold of that sum in a sandbox is worth. -/
noncomputable def Tryz.pinned : Pinned := { name := "ytkfcfigbgmbaiaagreat", sum := "2406712919c12d0540cbea7df878d594e7c438981a630cfb9514215e29a43ecd", checked := Tryz.checked }
namespace Rows
def none {H : Type} : Left H := { results := [], args := [] }

/-- 'laws.FnExactRestart': WHATEVER THE INPUT: true; the input reads as it did. -/
def fnExactRestartSpec : ChangeSpec := { name := "fnExactRestart", fn := fun _ => fun
  | [d] => { results := [.lit (.bool true)], args := [d] }
  | _ => none }
def fnExactRestartRow : OpenClaim := { program := "ytkfcfigbgmbaiaagreat", sum := "2406712919c12d0540cbea7df878d594e7c438981a630cfb9514215e29a43ecd", func := "loop.example/s01647/laws.FnExactRestart", spec := "fnExactRestart", inPlace := ["internal/bytealg.abigen_runtime_cmpstring"], unfollowed := true, recurses := true, apart := false }
def FnExactRestartSaid : Prop := fnExactRestartRow.holds Tryz.pinned (OpenSpec.ofChange fnExactRestartSpec)

/-- ITS FALSE NEIGHBOUR: 'it returns false'. Refute it at one input. -/
def fnExactRestartWrong : ChangeSpec := { name := "fnExactRestart", fn := fun _ => fun
  | [d] => { results := [.lit (.bool false)], args := [d] }
  | _ => none }
def FnExactRestartWrongFalsely : Prop := fnExactRestartRow.holds Tryz.pinned (OpenSpec.ofChange fnExactRestartWrong)

/-- 'laws.FnExactFault': WHATEVER THE INPUT: true; the input reads as it did. -/
def fnExactFaultSpec : ChangeSpec := { name := "fnExactFault", fn := fun _ => fun
  | [d1, d2] => { results := [.lit (.bool true)], args := [d1, d2] }
  | _ => none }
def fnExactFaultRow : OpenClaim := { program := "ytkfcfigbgmbaiaagreat", sum := "2406712919c12d0540cbea7df878d594e7c438981a630cfb9514215e29a43ecd", func := "loop.example/s01647/laws.FnExactFault", spec := "fnExactFault", inPlace := ["internal/bytealg.abigen_runtime_cmpstring"], unfollowed := true, recurses := true, apart := false }
def FnExactFaultSaid : Prop := fnExactFaultRow.holds Tryz.pinned (OpenSpec.ofChange fnExactFaultSpec)

/-- ITS FALSE NEIGHBOUR: 'it returns false'. Refute it at one input. -/
def fnExactFaultWrong : ChangeSpec := { name := "fnExactFault", fn := fun _ => fun
  | [d1, d2] => { results := [.lit (.bool false)], args := [d1, d2] }
  | _ => none }
def FnExactFaultWrongFalsely : Prop := fnExactFaultRow.holds Tryz.pinned (OpenSpec.ofChange fnExactFaultWrong)

/-- 'laws.FnExactFinish': WHATEVER THE INPUT: true; the input reads as it did. -/
def fnExactFinishSpec : ChangeSpec := { name := "fnExactFinish", fn := fun _ => fun
  | [d1, d2, d3] => { results := [.lit (.bool true)], args := [d1, d2, d3] }
  | _ => none }
def fnExactFinishRow : OpenClaim := { program := "ytkfcfigbgmbaiaagreat", sum := "2406712919c12d0540cbea7df878d594e7c438981a630cfb9514215e29a43ecd", func := "loop.example/s01647/laws.FnExactFinish", spec := "fnExactFinish", inPlace := ["internal/bytealg.abigen_runtime_cmpstring"], unfollowed := true, recurses := true, apart := false }
def FnExactFinishSaid : Prop := fnExactFinishRow.holds Tryz.pinned (OpenSpec.ofChange fnExactFinishSpec)

/-- ITS FALSE NEIGHBOUR: 'it returns false'. Refute it at one input. -/
def fnExactFinishWrong : ChangeSpec := { name := "fnExactFinish", fn := fun _ => fun
  | [d1, d2, d3] => { results := [.lit (.bool false)], args := [d1, d2, d3] }
  | _ => none }
def FnExactFinishWrongFalsely : Prop := fnExactFinishRow.holds Tryz.pinned (OpenSpec.ofChange fnExactFinishWrong)

/-- 'laws.FnExactCoreStep': WHATEVER THE INPUT: true; the input reads as it did. -/
def fnExactCoreStepSpec : ChangeSpec := { name := "fnExactCoreStep", fn := fun _ => fun
  | [d1, d2] => { results := [.lit (.bool true)], args := [d1, d2] }
  | _ => none }
def fnExactCoreStepRow : OpenClaim := { program := "ytkfcfigbgmbaiaagreat", sum := "2406712919c12d0540cbea7df878d594e7c438981a630cfb9514215e29a43ecd", func := "loop.example/s01647/laws.FnExactCoreStep", spec := "fnExactCoreStep", inPlace := ["internal/bytealg.abigen_runtime_cmpstring"], unfollowed := true, recurses := true, apart := false }
def FnExactCoreStepSaid : Prop := fnExactCoreStepRow.holds Tryz.pinned (OpenSpec.ofChange fnExactCoreStepSpec)

/-- ITS FALSE NEIGHBOUR: 'it returns false'. Refute it at one input. -/
def fnExactCoreStepWrong : ChangeSpec := { name := "fnExactCoreStep", fn := fun _ => fun
  | [d1, d2] => { results := [.lit (.bool false)], args := [d1, d2] }
  | _ => none }
def FnExactCoreStepWrongFalsely : Prop := fnExactCoreStepRow.holds Tryz.pinned (OpenSpec.ofChange fnExactCoreStepWrong)

/-- 'laws.FnCoreKeeps': WHATEVER THE INPUT: true; the input reads as it did. -/
def fnCoreKeepsSpec : ChangeSpec := { name := "fnCoreKeeps", fn := fun _ => fun
  | [d1, d2] => { results := [.lit (.bool true)], args := [d1, d2] }
  | _ => none }
def fnCoreKeepsRow : OpenClaim := { program := "ytkfcfigbgmbaiaagreat", sum := "2406712919c12d0540cbea7df878d594e7c438981a630cfb9514215e29a43ecd", func := "loop.example/s01647/laws.FnCoreKeeps", spec := "fnCoreKeeps", inPlace := ["internal/bytealg.abigen_runtime_cmpstring"], unfollowed := true, recurses := true, apart := false }
def FnCoreKeepsSaid : Prop := fnCoreKeepsRow.holds Tryz.pinned (OpenSpec.ofChange fnCoreKeepsSpec)

/-- ITS FALSE NEIGHBOUR: 'it returns false'. Refute it at one input. -/
def fnCoreKeepsWrong : ChangeSpec := { name := "fnCoreKeeps", fn := fun _ => fun
  | [d1, d2] => { results := [.lit (.bool false)], args := [d1, d2] }
  | _ => none }
def FnCoreKeepsWrongFalsely : Prop := fnCoreKeepsRow.holds Tryz.pinned (OpenSpec.ofChange fnCoreKeepsWrong)

/- THE SECOND FORM. 'bulk': how many values and letters a reading holds, each counted each time it is reached (what is shared counts as often as it is met; a slice's spare places count too). A statement '..UptoSaid' is the law's where the arguments, and the package variables that the reading takes, are together of bulk at most 1048576: NARROWER than '..Said'. Prove '..Said' where nothing that the law and all that it calls make is longer than what came in: it says more and counts as full. Else prove '..UptoSaid'. A law counts once. -/
mutual
def uptoBulk {H : Type} : DataW H → Nat
  | .lit (.string bytes) => bytes.length + 1
  | .lit _ => 1
  | .nil => 1
  | .ptr d => uptoBulk d + 1
  | .slice elems spare => uptoBulkAll elems + uptoBulkAll spare + 1
  | .agg parts => uptoBulkAll parts + 1
  | .iface _ d => uptoBulk d + 1
  | .map entries => uptoBulkEntries entries + 1
  | .held _ => 1
def uptoBulkAll {H : Type} : List (DataW H) → Nat
  | [] => 0
  | d :: r => uptoBulk d + uptoBulkAll r
def uptoBulkEntries {H : Type} : List (Lit × DataW H) → Nat
  | [] => 0
  | x :: r => uptoBulkEntry x + uptoBulkEntries r
def uptoBulkEntry {H : Type} : Lit × DataW H → Nat
  | (.string bytes, d) => bytes.length + uptoBulk d + 1
  | (_, d) => uptoBulk d + 1
 end
def uptoSmall : (H : Type) → List (DataW H) → Bool := fun _ ds => decide (uptoBulkAll ds ≤ 1048576)
def OpenSpec.upto (s : _root_.Go.ChangeSpec) : _root_.Go.OpenSpec := { _root_.Go.OpenSpec.ofChange s with cond := some uptoSmall }

/-- 'laws.FnExactRestart', WHERE WHAT IT READS IS OF BULK AT MOST 1048576: true; the input reads as it did. -/
def fnExactRestartUptoRow : OpenClaim := { program := "ytkfcfigbgmbaiaagreat", sum := "2406712919c12d0540cbea7df878d594e7c438981a630cfb9514215e29a43ecd", func := "loop.example/s01647/laws.FnExactRestart", spec := "fnExactRestart", inPlace := ["internal/bytealg.abigen_runtime_cmpstring"], unfollowed := true, recurses := true, apart := false, narrowed := true }
def FnExactRestartUptoSaid : Prop := fnExactRestartUptoRow.holds Tryz.pinned (OpenSpec.upto fnExactRestartSpec)

/-- 'laws.FnExactFault', WHERE WHAT IT READS IS OF BULK AT MOST 1048576: true; the input reads as it did. -/
def fnExactFaultUptoRow : OpenClaim := { program := "ytkfcfigbgmbaiaagreat", sum := "2406712919c12d0540cbea7df878d594e7c438981a630cfb9514215e29a43ecd", func := "loop.example/s01647/laws.FnExactFault", spec := "fnExactFault", inPlace := ["internal/bytealg.abigen_runtime_cmpstring"], unfollowed := true, recurses := true, apart := false, narrowed := true }
def FnExactFaultUptoSaid : Prop := fnExactFaultUptoRow.holds Tryz.pinned (OpenSpec.upto fnExactFaultSpec)

/-- 'laws.FnExactFinish', WHERE WHAT IT READS IS OF BULK AT MOST 1048576: true; the input reads as it did. -/
def fnExactFinishUptoRow : OpenClaim := { program := "ytkfcfigbgmbaiaagreat", sum := "2406712919c12d0540cbea7df878d594e7c438981a630cfb9514215e29a43ecd", func := "loop.example/s01647/laws.FnExactFinish", spec := "fnExactFinish", inPlace := ["internal/bytealg.abigen_runtime_cmpstring"], unfollowed := true, recurses := true, apart := false, narrowed := true }
def FnExactFinishUptoSaid : Prop := fnExactFinishUptoRow.holds Tryz.pinned (OpenSpec.upto fnExactFinishSpec)

/-- 'laws.FnExactCoreStep', WHERE WHAT IT READS IS OF BULK AT MOST 1048576: true; the input reads as it did. -/
def fnExactCoreStepUptoRow : OpenClaim := { program := "ytkfcfigbgmbaiaagreat", sum := "2406712919c12d0540cbea7df878d594e7c438981a630cfb9514215e29a43ecd", func := "loop.example/s01647/laws.FnExactCoreStep", spec := "fnExactCoreStep", inPlace := ["internal/bytealg.abigen_runtime_cmpstring"], unfollowed := true, recurses := true, apart := false, narrowed := true }
def FnExactCoreStepUptoSaid : Prop := fnExactCoreStepUptoRow.holds Tryz.pinned (OpenSpec.upto fnExactCoreStepSpec)

/-- 'laws.FnCoreKeeps', WHERE WHAT IT READS IS OF BULK AT MOST 1048576: true; the input reads as it did. -/
def fnCoreKeepsUptoRow : OpenClaim := { program := "ytkfcfigbgmbaiaagreat", sum := "2406712919c12d0540cbea7df878d594e7c438981a630cfb9514215e29a43ecd", func := "loop.example/s01647/laws.FnCoreKeeps", spec := "fnCoreKeeps", inPlace := ["internal/bytealg.abigen_runtime_cmpstring"], unfollowed := true, recurses := true, apart := false, narrowed := true }
def FnCoreKeepsUptoSaid : Prop := fnCoreKeepsUptoRow.holds Tryz.pinned (OpenSpec.upto fnCoreKeepsSpec)

end Rows
end Go.Proofs.YtkfcfigbgmbaiaaGreat
