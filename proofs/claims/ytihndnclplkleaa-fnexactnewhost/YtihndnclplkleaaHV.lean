import Derived.Test.YtihndnclplkleaaHU
namespace Go.Proofs.Ytihndnclplkleaa
open Go.ChangeShapes Go.WideShapes Go.ChangeAt Go.RowKit
theorem array4 {α : Type} {cs : Array α} (h : cs.size = 4) : ∃ c0 c1 c2 c3, cs = #[c0, c1, c2, c3] := by
  obtain ⟨l⟩ := cs
  match l, h with
  | [c0, c1, c2, c3], _ => exact ⟨c0, c1, c2, c3, rfl⟩
set_option maxRecDepth 40000 in
theorem cfg_open {H : Type} {enc : TypeId × Value → H} {W : World} {r : Reach} {b0 : Nat} {v : Value} {d : DataW H} {p : List MemPlace}
    (hv : Value.okWide Try.prog W r b0 32 v) (h : DataW.Trod enc Try.prog W 0 (fun _ => true) true 32 v d p) : ∃ x y z t : Int, v = cfV x y z t := by
  obtain ⟨cs, rfl, hsz⟩ := okWide_struct Try.underlying32 hv
  obtain ⟨c0, c1, c2, c3, rfl⟩ := array4 (hsz.trans Try.cells32)
  obtain ⟨fuel, hf⟩ := h
  obtain ⟨x, y, z, t, e⟩ := config_open (cs := [c0, c1, c2, c3]) hf
  refine ⟨x, y, z, t, ?_⟩
  simp at e
  obtain ⟨q0, q1, q2, q3⟩ := e
  rw [q0, q1, q2, q3]
set_option maxRecDepth 40000 in
theorem filters_open {H : Type} {enc : TypeId × Value → H} {W : World} {r : Reach} {b0 : Nat} {v : Value} {d : DataW H} {p : List MemPlace}
    (hv : Value.okWide Try.prog W r b0 33 v) (h : DataW.Trod enc Try.prog W 0 (fun _ => true) true 33 v d p) : ∃ a n cap bs, v = .slice a n cap ∧ isR3s W a n cap bs ∧ n ≤ 9223372036854775807 := by
  obtain ⟨a, n, cap, rfl⟩ := okWide_slice Try.underlying33 hv
  obtain ⟨fuel, hf⟩ := h
  obtain ⟨a', n', cap', bs, e, h1, h2⟩ := filterS_rows (v := .slice a n cap) (by simpa [Value.cells] using hf)
  cases e
  exact ⟨a, n, cap, bs, rfl, h1, by rw [h1.len]; exact h2⟩
end Go.Proofs.Ytihndnclplkleaa
