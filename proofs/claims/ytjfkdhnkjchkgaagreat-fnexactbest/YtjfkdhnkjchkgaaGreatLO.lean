import Derived.Test.YtjfkdhnkjchkgaaGreatHU
namespace Go.Proofs.YtjfkdhnkjchkgaaGreat
open Go.ChangeShapes Go.WideShapes Go.ChangeAt Go.RowKit
set_option maxRecDepth 20000 in
theorem hostV_open {H : Type} {enc : TypeId × Value → H} {W : World} {r : Reach} {b0 : Nat} {v : Value} {d : DataW H} {p : List MemPlace}
    (hv : Value.okWide Tryz.prog W r b0 61 v) (h : DataW.Trod enc Tryz.prog W 0 (fun _ => true) true 61 v d p) :
    ∃ (C : Ho) (s : Sl), v = hoV C s ∧ isHo W C s ∧ C.le 9223372036854775807 := by
  obtain ⟨cs, rfl, hsz⟩ := okWide_struct Tryz.underlying61 hv
  obtain ⟨fuel, hf⟩ := h
  obtain ⟨C, s, e, r, l⟩ := host_open hf
  refine ⟨C, s, ?_, r, l⟩
  have e' : cs.toList = _ := e
  cases cs
  simp only [] at e'
  rw [e']
end Go.Proofs.YtjfkdhnkjchkgaaGreat
