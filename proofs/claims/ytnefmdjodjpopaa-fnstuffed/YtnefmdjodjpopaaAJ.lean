import Derived.Test.YtnefmdjodjpopaaU
namespace Go.Proofs.Ytnefmdjodjpopaa
open Go.ChangeShapes Go.WideShapes Go.ChangeAt Go.RowKit

set_option maxRecDepth 20000 in
theorem code_open {H : Type} {enc : TypeId × Value → H} {W : World} {r : Reach} {b0 : Nat} {v : Value} {d : DataW H} {p : List MemPlace}
    (hv : Value.okWide Try.prog W r b0 28 v) (h : DataW.Trod enc Try.prog W 0 (fun _ => true) true 28 v d p) :
    ∃ a n cap l, v = .slice a n cap ∧ isBytes W a n cap l ∧ n ≤ maxLen := by
  obtain ⟨a, n, cap, rfl⟩ := okWide_slice Try.underlying28 hv
  obtain ⟨fuel, hf⟩ := h
  exact bytes_open (v := .slice a n cap) (by simpa [Value.cells] using hf)
end Go.Proofs.Ytnefmdjodjpopaa
