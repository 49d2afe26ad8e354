/-
  No cell of these rows narrows 'for every input' (looked for: loops, veiled, ifaces, maps, wideKeys, modest, calm, conditions, laid).
  DERIVED. THE GIVEN ROWS OF THIS SEAT. 13 by the template 'for every input the law returns true; each argument reads behind the call as it read before'; 0 by the template 'total and deterministic' (their statements: YtnefmdjodjpopaaTotals.lean).
  GIVEN WITH THE SEED: the statements are not yours to turn. If you find one false, say at which input.
  Laid BY PROGRAM, IN A SANDBOX (cutbox-rows.mjs): the forced cells as the released guide's own fill.sh prints them over the translation b00b73cadb8a63b1… (all of the seat's roots in one cut). By AI agents, Wed Nov 11 2026. No macro, syntax, notation, axiom, sorry.
-/
import Derived.Test.YtnefmdjodjpopaaChecked
import GoSem.Claim
import GoSem.ClaimJoined
import GoSem.ClaimMapViews
import Derived.JoinedTies
import Derived.KernelRfl
namespace Go.Proofs.Ytnefmdjodjpopaa
/- THE CELL 'sum', in the pinned program and in every row, IS THE sha256 OF THE DUMP (.gsa) THAT YtnefmdjodjpopaaProg.lean LOADS. Nothing in Lean hashes anything: it is a label: what it is worth is what the hold of that sum in a sandbox is worth. -/
noncomputable def Try.pinned : Pinned := { name := "ytnefmdjodjpopaa", sum := "b00b73cadb8a63b199bc9f2ac20c214f3c52af4a66cab274046cb875f4535c9c", checked := Try.checked }
namespace Rows
def none {H : Type} : Left H := { results := [], args := [] }

/-- 'laws.FnExactCrc15': WHATEVER THE INPUT: true; the input reads as it did. -/
def fnExactCrc15Spec : ChangeSpec := { name := "fnExactCrc15", fn := fun _ => fun
  | [d] => { results := [.lit (.bool true)], args := [d] }
  | _ => none }
def fnExactCrc15Row : OpenClaim := { program := "ytnefmdjodjpopaa", sum := "b00b73cadb8a63b199bc9f2ac20c214f3c52af4a66cab274046cb875f4535c9c", func := "loop.example/s01647/laws.FnExactCrc15", spec := "fnExactCrc15", apart := false }
def FnExactCrc15Said : Prop := fnExactCrc15Row.holds Try.pinned (OpenSpec.ofChange fnExactCrc15Spec)

/-- ITS FALSE NEIGHBOUR: 'it returns false'. Refute it at one input. -/
def fnExactCrc15Wrong : ChangeSpec := { name := "fnExactCrc15", fn := fun _ => fun
  | [d] => { results := [.lit (.bool false)], args := [d] }
  | _ => none }
def FnExactCrc15WrongFalsely : Prop := fnExactCrc15Row.holds Try.pinned (OpenSpec.ofChange fnExactCrc15Wrong)

/-- 'laws.FnExactDestuff': WHATEVER THE INPUT: true; the input reads as it did. -/
def fnExactDestuffSpec : ChangeSpec := { name := "fnExactDestuff", fn := fun _ => fun
  | [d] => { results := [.lit (.bool true)], args := [d] }
  | _ => none }
def fnExactDestuffRow : OpenClaim := { program := "ytnefmdjodjpopaa", sum := "b00b73cadb8a63b199bc9f2ac20c214f3c52af4a66cab274046cb875f4535c9c", func := "loop.example/s01647/laws.FnExactDestuff", spec := "fnExactDestuff", apart := false }
def FnExactDestuffSaid : Prop := fnExactDestuffRow.holds Try.pinned (OpenSpec.ofChange fnExactDestuffSpec)

/-- ITS FALSE NEIGHBOUR: 'it returns false'. Refute it at one input. -/
def fnExactDestuffWrong : ChangeSpec := { name := "fnExactDestuff", fn := fun _ => fun
  | [d] => { results := [.lit (.bool false)], args := [d] }
  | _ => none }
def FnExactDestuffWrongFalsely : Prop := fnExactDestuffRow.holds Try.pinned (OpenSpec.ofChange fnExactDestuffWrong)

/-- 'laws.FnExactStuff': WHATEVER THE INPUT: true; the input reads as it did. -/
def fnExactStuffSpec : ChangeSpec := { name := "fnExactStuff", fn := fun _ => fun
  | [d] => { results := [.lit (.bool true)], args := [d] }
  | _ => none }
def fnExactStuffRow : OpenClaim := { program := "ytnefmdjodjpopaa", sum := "b00b73cadb8a63b199bc9f2ac20c214f3c52af4a66cab274046cb875f4535c9c", func := "loop.example/s01647/laws.FnExactStuff", spec := "fnExactStuff", apart := false }
def FnExactStuffSaid : Prop := fnExactStuffRow.holds Try.pinned (OpenSpec.ofChange fnExactStuffSpec)

/-- ITS FALSE NEIGHBOUR: 'it returns false'. Refute it at one input. -/
def fnExactStuffWrong : ChangeSpec := { name := "fnExactStuff", fn := fun _ => fun
  | [d] => { results := [.lit (.bool false)], args := [d] }
  | _ => none }
def FnExactStuffWrongFalsely : Prop := fnExactStuffRow.holds Try.pinned (OpenSpec.ofChange fnExactStuffWrong)

/-- 'laws.FnExactValidFrame': WHATEVER THE INPUT: true; the input reads as it did. -/
def fnExactValidFrameSpec : ChangeSpec := { name := "fnExactValidFrame", fn := fun _ => fun
  | [d] => { results := [.lit (.bool true)], args := [d] }
  | _ => none }
def fnExactValidFrameRow : OpenClaim := { program := "ytnefmdjodjpopaa", sum := "b00b73cadb8a63b199bc9f2ac20c214f3c52af4a66cab274046cb875f4535c9c", func := "loop.example/s01647/laws.FnExactValidFrame", spec := "fnExactValidFrame", apart := false }
def FnExactValidFrameSaid : Prop := fnExactValidFrameRow.holds Try.pinned (OpenSpec.ofChange fnExactValidFrameSpec)

/-- ITS FALSE NEIGHBOUR: 'it returns false'. Refute it at one input. -/
def fnExactValidFrameWrong : ChangeSpec := { name := "fnExactValidFrame", fn := fun _ => fun
  | [d] => { results := [.lit (.bool false)], args := [d] }
  | _ => none }
def FnExactValidFrameWrongFalsely : Prop := fnExactValidFrameRow.holds Try.pinned (OpenSpec.ofChange fnExactValidFrameWrong)

/-- 'laws.FnExactBody': WHATEVER THE INPUT: true; the input reads as it did. -/
def fnExactBodySpec : ChangeSpec := { name := "fnExactBody", fn := fun _ => fun
  | [d] => { results := [.lit (.bool true)], args := [d] }
  | _ => none }
def fnExactBodyRow : OpenClaim := { program := "ytnefmdjodjpopaa", sum := "b00b73cadb8a63b199bc9f2ac20c214f3c52af4a66cab274046cb875f4535c9c", func := "loop.example/s01647/laws.FnExactBody", spec := "fnExactBody", recurses := true, apart := false }
def FnExactBodySaid : Prop := fnExactBodyRow.holds Try.pinned (OpenSpec.ofChange fnExactBodySpec)

/-- ITS FALSE NEIGHBOUR: 'it returns false'. Refute it at one input. -/
def fnExactBodyWrong : ChangeSpec := { name := "fnExactBody", fn := fun _ => fun
  | [d] => { results := [.lit (.bool false)], args := [d] }
  | _ => none }
def FnExactBodyWrongFalsely : Prop := fnExactBodyRow.holds Try.pinned (OpenSpec.ofChange fnExactBodyWrong)

/-- 'laws.FnExactJudge': WHATEVER THE INPUT: true; the input reads as it did. -/
def fnExactJudgeSpec : ChangeSpec := { name := "fnExactJudge", fn := fun _ => fun
  | [d] => { results := [.lit (.bool true)], args := [d] }
  | _ => none }
def fnExactJudgeRow : OpenClaim := { program := "ytnefmdjodjpopaa", sum := "b00b73cadb8a63b199bc9f2ac20c214f3c52af4a66cab274046cb875f4535c9c", func := "loop.example/s01647/laws.FnExactJudge", spec := "fnExactJudge", apart := false }
def FnExactJudgeSaid : Prop := fnExactJudgeRow.holds Try.pinned (OpenSpec.ofChange fnExactJudgeSpec)

/-- ITS FALSE NEIGHBOUR: 'it returns false'. Refute it at one input. -/
def fnExactJudgeWrong : ChangeSpec := { name := "fnExactJudge", fn := fun _ => fun
  | [d] => { results := [.lit (.bool false)], args := [d] }
  | _ => none }
def FnExactJudgeWrongFalsely : Prop := fnExactJudgeRow.holds Try.pinned (OpenSpec.ofChange fnExactJudgeWrong)

/-- 'laws.FnExactArb': WHATEVER THE INPUT: true; the input reads as it did. -/
def fnExactArbSpec : ChangeSpec := { name := "fnExactArb", fn := fun _ => fun
  | [d] => { results := [.lit (.bool true)], args := [d] }
  | _ => none }
def fnExactArbRow : OpenClaim := { program := "ytnefmdjodjpopaa", sum := "b00b73cadb8a63b199bc9f2ac20c214f3c52af4a66cab274046cb875f4535c9c", func := "loop.example/s01647/laws.FnExactArb", spec := "fnExactArb", recurses := true, apart := false }
def FnExactArbSaid : Prop := fnExactArbRow.holds Try.pinned (OpenSpec.ofChange fnExactArbSpec)

/-- ITS FALSE NEIGHBOUR: 'it returns false'. Refute it at one input. -/
def fnExactArbWrong : ChangeSpec := { name := "fnExactArb", fn := fun _ => fun
  | [d] => { results := [.lit (.bool false)], args := [d] }
  | _ => none }
def FnExactArbWrongFalsely : Prop := fnExactArbRow.holds Try.pinned (OpenSpec.ofChange fnExactArbWrong)

/-- 'laws.FnStuffed': WHATEVER THE INPUT: true; the input reads as it did. -/
def fnStuffedSpec : ChangeSpec := { name := "fnStuffed", fn := fun _ => fun
  | [d] => { results := [.lit (.bool true)], args := [d] }
  | _ => none }
def fnStuffedRow : OpenClaim := { program := "ytnefmdjodjpopaa", sum := "b00b73cadb8a63b199bc9f2ac20c214f3c52af4a66cab274046cb875f4535c9c", func := "loop.example/s01647/laws.FnStuffed", spec := "fnStuffed", apart := false }
def FnStuffedSaid : Prop := fnStuffedRow.holds Try.pinned (OpenSpec.ofChange fnStuffedSpec)

/-- ITS FALSE NEIGHBOUR: 'it returns false'. Refute it at one input. -/
def fnStuffedWrong : ChangeSpec := { name := "fnStuffed", fn := fun _ => fun
  | [d] => { results := [.lit (.bool false)], args := [d] }
  | _ => none }
def FnStuffedWrongFalsely : Prop := fnStuffedRow.holds Try.pinned (OpenSpec.ofChange fnStuffedWrong)

/-- 'laws.FnArbitration': WHATEVER THE INPUT: true; the input reads as it did. -/
def fnArbitrationSpec : ChangeSpec := { name := "fnArbitration", fn := fun _ => fun
  | [d1, d2] => { results := [.lit (.bool true)], args := [d1, d2] }
  | _ => none }
def fnArbitrationRow : OpenClaim := { program := "ytnefmdjodjpopaa", sum := "b00b73cadb8a63b199bc9f2ac20c214f3c52af4a66cab274046cb875f4535c9c", func := "loop.example/s01647/laws.FnArbitration", spec := "fnArbitration", recurses := true, apart := false }
def FnArbitrationSaid : Prop := fnArbitrationRow.holds Try.pinned (OpenSpec.ofChange fnArbitrationSpec)

/-- ITS FALSE NEIGHBOUR: 'it returns false'. Refute it at one input. -/
def fnArbitrationWrong : ChangeSpec := { name := "fnArbitration", fn := fun _ => fun
  | [d1, d2] => { results := [.lit (.bool false)], args := [d1, d2] }
  | _ => none }
def FnArbitrationWrongFalsely : Prop := fnArbitrationRow.holds Try.pinned (OpenSpec.ofChange fnArbitrationWrong)

/-- 'laws.FnExactDecode': WHATEVER THE INPUT: true; the input reads as it did. -/
def fnExactDecodeSpec : ChangeSpec := { name := "fnExactDecode", fn := fun _ => fun
  | [d] => { results := [.lit (.bool true)], args := [d] }
  | _ => none }
def fnExactDecodeRow : OpenClaim := { program := "ytnefmdjodjpopaa", sum := "b00b73cadb8a63b199bc9f2ac20c214f3c52af4a66cab274046cb875f4535c9c", func := "loop.example/s01647/laws.FnExactDecode", spec := "fnExactDecode", apart := false }
def FnExactDecodeSaid : Prop := fnExactDecodeRow.holds Try.pinned (OpenSpec.ofChange fnExactDecodeSpec)

/-- ITS FALSE NEIGHBOUR: 'it returns false'. Refute it at one input. -/
def fnExactDecodeWrong : ChangeSpec := { name := "fnExactDecode", fn := fun _ => fun
  | [d] => { results := [.lit (.bool false)], args := [d] }
  | _ => none }
def FnExactDecodeWrongFalsely : Prop := fnExactDecodeRow.holds Try.pinned (OpenSpec.ofChange fnExactDecodeWrong)

/-- 'laws.FnExactEncode': WHATEVER THE INPUT: true; the input reads as it did. -/
def fnExactEncodeSpec : ChangeSpec := { name := "fnExactEncode", fn := fun _ => fun
  | [d] => { results := [.lit (.bool true)], args := [d] }
  | _ => none }
def fnExactEncodeRow : OpenClaim := { program := "ytnefmdjodjpopaa", sum := "b00b73cadb8a63b199bc9f2ac20c214f3c52af4a66cab274046cb875f4535c9c", func := "loop.example/s01647/laws.FnExactEncode", spec := "fnExactEncode", recurses := true, apart := false }
def FnExactEncodeSaid : Prop := fnExactEncodeRow.holds Try.pinned (OpenSpec.ofChange fnExactEncodeSpec)

/-- ITS FALSE NEIGHBOUR: 'it returns false'. Refute it at one input. -/
def fnExactEncodeWrong : ChangeSpec := { name := "fnExactEncode", fn := fun _ => fun
  | [d] => { results := [.lit (.bool false)], args := [d] }
  | _ => none }
def FnExactEncodeWrongFalsely : Prop := fnExactEncodeRow.holds Try.pinned (OpenSpec.ofChange fnExactEncodeWrong)

/-- 'laws.FnFiveFlips': WHATEVER THE INPUT: true; the input reads as it did. -/
def fnFiveFlipsSpec : ChangeSpec := { name := "fnFiveFlips", fn := fun _ => fun
  | [d1, d2] => { results := [.lit (.bool true)], args := [d1, d2] }
  | _ => none }
def fnFiveFlipsRow : OpenClaim := { program := "ytnefmdjodjpopaa", sum := "b00b73cadb8a63b199bc9f2ac20c214f3c52af4a66cab274046cb875f4535c9c", func := "loop.example/s01647/laws.FnFiveFlips", spec := "fnFiveFlips", recurses := true, apart := false }
def FnFiveFlipsSaid : Prop := fnFiveFlipsRow.holds Try.pinned (OpenSpec.ofChange fnFiveFlipsSpec)

/-- ITS FALSE NEIGHBOUR: 'it returns false'. Refute it at one input. -/
def fnFiveFlipsWrong : ChangeSpec := { name := "fnFiveFlips", fn := fun _ => fun
  | [d1, d2] => { results := [.lit (.bool false)], args := [d1, d2] }
  | _ => none }
def FnFiveFlipsWrongFalsely : Prop := fnFiveFlipsRow.holds Try.pinned (OpenSpec.ofChange fnFiveFlipsWrong)

/-- 'laws.FnImage': WHATEVER THE INPUT: true; the input reads as it did. -/
def fnImageSpec : ChangeSpec := { name := "fnImage", fn := fun _ => fun
  | [d] => { results := [.lit (.bool true)], args := [d] }
  | _ => none }
def fnImageRow : OpenClaim := { program := "ytnefmdjodjpopaa", sum := "b00b73cadb8a63b199bc9f2ac20c214f3c52af4a66cab274046cb875f4535c9c", func := "loop.example/s01647/laws.FnImage", spec := "fnImage", recurses := true, apart := false }
def FnImageSaid : Prop := fnImageRow.holds Try.pinned (OpenSpec.ofChange fnImageSpec)

/-- ITS FALSE NEIGHBOUR: 'it returns false'. Refute it at one input. -/
def fnImageWrong : ChangeSpec := { name := "fnImage", fn := fun _ => fun
  | [d] => { results := [.lit (.bool false)], args := [d] }
  | _ => none }
def FnImageWrongFalsely : Prop := fnImageRow.holds Try.pinned (OpenSpec.ofChange fnImageWrong)

/- THE SECOND FORM. 'bulk': how many values and letters a reading holds, each counted each time it is reached (what is shared counts as often as it is met; a slice's spare places count too). A statement '..UptoSaid' is the law's where the arguments, and the package variables that the reading takes, are together of bulk at most 1048576: NARROWER than '..Said'. Prove '..Said' where nothing that the law and all that it calls make is longer than what came in: it says more and counts as full. Else prove '..UptoSaid'. A law counts once. -/
mutual
def uptoBulk {H : Type} : DataW H → Nat
  | .lit (.string bytes) => bytes.length + 1
  | .lit _ => 1
  | .nil => 1
  | .ptr d => uptoBulk d + 1
  | .slice elems spare => uptoBulkAll elems + uptoBulkAll spare + 1
  | .agg parts => uptoBulkAll parts + 1
  | .iface _ d => uptoBulk d + 1
  | .map entries => uptoBulkEntries entries + 1
  | .held _ => 1
def uptoBulkAll {H : Type} : List (DataW H) → Nat
  | [] => 0
  | d :: r => uptoBulk d + uptoBulkAll r
def uptoBulkEntries {H : Type} : List (Lit × DataW H) → Nat
  | [] => 0
  | x :: r => uptoBulkEntry x + uptoBulkEntries r
def uptoBulkEntry {H : Type} : Lit × DataW H → Nat
  | (.string bytes, d) => bytes.length + uptoBulk d + 1
  | (_, d) => uptoBulk d + 1
 end
def uptoSmall : (H : Type) → List (DataW H) → Bool := fun _ ds => decide (uptoBulkAll ds ≤ 1048576)
def OpenSpec.upto (s : _root_.Go.ChangeSpec) : _root_.Go.OpenSpec := { _root_.Go.OpenSpec.ofChange s with cond := some uptoSmall }

/-- 'laws.FnExactCrc15', WHERE WHAT IT READS IS OF BULK AT MOST 1048576: true; the input reads as it did. -/
def fnExactCrc15UptoRow : OpenClaim := { program := "ytnefmdjodjpopaa", sum := "b00b73cadb8a63b199bc9f2ac20c214f3c52af4a66cab274046cb875f4535c9c", func := "loop.example/s01647/laws.FnExactCrc15", spec := "fnExactCrc15", apart := false, narrowed := true }
def FnExactCrc15UptoSaid : Prop := fnExactCrc15UptoRow.holds Try.pinned (OpenSpec.upto fnExactCrc15Spec)

/-- 'laws.FnExactDestuff', WHERE WHAT IT READS IS OF BULK AT MOST 1048576: true; the input reads as it did. -/
def fnExactDestuffUptoRow : OpenClaim := { program := "ytnefmdjodjpopaa", sum := "b00b73cadb8a63b199bc9f2ac20c214f3c52af4a66cab274046cb875f4535c9c", func := "loop.example/s01647/laws.FnExactDestuff", spec := "fnExactDestuff", apart := false, narrowed := true }
def FnExactDestuffUptoSaid : Prop := fnExactDestuffUptoRow.holds Try.pinned (OpenSpec.upto fnExactDestuffSpec)

/-- 'laws.FnExactStuff', WHERE WHAT IT READS IS OF BULK AT MOST 1048576: true; the input reads as it did. -/
def fnExactStuffUptoRow : OpenClaim := { program := "ytnefmdjodjpopaa", sum := "b00b73cadb8a63b199bc9f2ac20c214f3c52af4a66cab274046cb875f4535c9c", func := "loop.example/s01647/laws.FnExactStuff", spec := "fnExactStuff", apart := false, narrowed := true }
def FnExactStuffUptoSaid : Prop := fnExactStuffUptoRow.holds Try.pinned (OpenSpec.upto fnExactStuffSpec)

/-- 'laws.FnExactValidFrame', WHERE WHAT IT READS IS OF BULK AT MOST 1048576: true; the input reads as it did. -/
def fnExactValidFrameUptoRow : OpenClaim := { program := "ytnefmdjodjpopaa", sum := "b00b73cadb8a63b199bc9f2ac20c214f3c52af4a66cab274046cb875f4535c9c", func := "loop.example/s01647/laws.FnExactValidFrame", spec := "fnExactValidFrame", apart := false, narrowed := true }
def FnExactValidFrameUptoSaid : Prop := fnExactValidFrameUptoRow.holds Try.pinned (OpenSpec.upto fnExactValidFrameSpec)

/-- 'laws.FnExactBody', WHERE WHAT IT READS IS OF BULK AT MOST 1048576: true; the input reads as it did. -/
def fnExactBodyUptoRow : OpenClaim := { program := "ytnefmdjodjpopaa", sum := "b00b73cadb8a63b199bc9f2ac20c214f3c52af4a66cab274046cb875f4535c9c", func := "loop.example/s01647/laws.FnExactBody", spec := "fnExactBody", recurses := true, apart := false, narrowed := true }
def FnExactBodyUptoSaid : Prop := fnExactBodyUptoRow.holds Try.pinned (OpenSpec.upto fnExactBodySpec)

/-- 'laws.FnExactJudge', WHERE WHAT IT READS IS OF BULK AT MOST 1048576: true; the input reads as it did. -/
def fnExactJudgeUptoRow : OpenClaim := { program := "ytnefmdjodjpopaa", sum := "b00b73cadb8a63b199bc9f2ac20c214f3c52af4a66cab274046cb875f4535c9c", func := "loop.example/s01647/laws.FnExactJudge", spec := "fnExactJudge", apart := false, narrowed := true }
def FnExactJudgeUptoSaid : Prop := fnExactJudgeUptoRow.holds Try.pinned (OpenSpec.upto fnExactJudgeSpec)

/-- 'laws.FnExactArb', WHERE WHAT IT READS IS OF BULK AT MOST 1048576: true; the input reads as it did. -/
def fnExactArbUptoRow : OpenClaim := { program := "ytnefmdjodjpopaa", sum := "b00b73cadb8a63b199bc9f2ac20c214f3c52af4a66cab274046cb875f4535c9c", func := "loop.example/s01647/laws.FnExactArb", spec := "fnExactArb", recurses := true, apart := false, narrowed := true }
def FnExactArbUptoSaid : Prop := fnExactArbUptoRow.holds Try.pinned (OpenSpec.upto fnExactArbSpec)

/-- 'laws.FnStuffed', WHERE WHAT IT READS IS OF BULK AT MOST 1048576: true; the input reads as it did. -/
def fnStuffedUptoRow : OpenClaim := { program := "ytnefmdjodjpopaa", sum := "b00b73cadb8a63b199bc9f2ac20c214f3c52af4a66cab274046cb875f4535c9c", func := "loop.example/s01647/laws.FnStuffed", spec := "fnStuffed", apart := false, narrowed := true }
def FnStuffedUptoSaid : Prop := fnStuffedUptoRow.holds Try.pinned (OpenSpec.upto fnStuffedSpec)

/-- 'laws.FnArbitration', WHERE WHAT IT READS IS OF BULK AT MOST 1048576: true; the input reads as it did. -/
def fnArbitrationUptoRow : OpenClaim := { program := "ytnefmdjodjpopaa", sum := "b00b73cadb8a63b199bc9f2ac20c214f3c52af4a66cab274046cb875f4535c9c", func := "loop.example/s01647/laws.FnArbitration", spec := "fnArbitration", recurses := true, apart := false, narrowed := true }
def FnArbitrationUptoSaid : Prop := fnArbitrationUptoRow.holds Try.pinned (OpenSpec.upto fnArbitrationSpec)

/-- 'laws.FnExactDecode', WHERE WHAT IT READS IS OF BULK AT MOST 1048576: true; the input reads as it did. -/
def fnExactDecodeUptoRow : OpenClaim := { program := "ytnefmdjodjpopaa", sum := "b00b73cadb8a63b199bc9f2ac20c214f3c52af4a66cab274046cb875f4535c9c", func := "loop.example/s01647/laws.FnExactDecode", spec := "fnExactDecode", apart := false, narrowed := true }
def FnExactDecodeUptoSaid : Prop := fnExactDecodeUptoRow.holds Try.pinned (OpenSpec.upto fnExactDecodeSpec)

/-- 'laws.FnExactEncode', WHERE WHAT IT READS IS OF BULK AT MOST 1048576: true; the input reads as it did. -/
def fnExactEncodeUptoRow : OpenClaim := { program := "ytnefmdjodjpopaa", sum := "b00b73cadb8a63b199bc9f2ac20c214f3c52af4a66cab274046cb875f4535c9c", func := "loop.example/s01647/laws.FnExactEncode", spec := "fnExactEncode", recurses := true, apart := false, narrowed := true }
def FnExactEncodeUptoSaid : Prop := fnExactEncodeUptoRow.holds Try.pinned (OpenSpec.upto fnExactEncodeSpec)

/-- 'laws.FnFiveFlips', WHERE WHAT IT READS IS OF BULK AT MOST 1048576: true; the input reads as it did. -/
def fnFiveFlipsUptoRow : OpenClaim := { program := "ytnefmdjodjpopaa", sum := "b00b73cadb8a63b199bc9f2ac20c214f3c52af4a66cab274046cb875f4535c9c", func := "loop.example/s01647/laws.FnFiveFlips", spec := "fnFiveFlips", recurses := true, apart := false, narrowed := true }
def FnFiveFlipsUptoSaid : Prop := fnFiveFlipsUptoRow.holds Try.pinned (OpenSpec.upto fnFiveFlipsSpec)

/-- 'laws.FnImage', WHERE WHAT IT READS IS OF BULK AT MOST 1048576: true; the input reads as it did. -/
def fnImageUptoRow : OpenClaim := { program := "ytnefmdjodjpopaa", sum := "b00b73cadb8a63b199bc9f2ac20c214f3c52af4a66cab274046cb875f4535c9c", func := "loop.example/s01647/laws.FnImage", spec := "fnImage", recurses := true, apart := false, narrowed := true }
def FnImageUptoSaid : Prop := fnImageUptoRow.holds Try.pinned (OpenSpec.upto fnImageSpec)

end Rows
end Go.Proofs.Ytnefmdjodjpopaa
