import Derived.Test.YtihndnclplkleaaB
import Derived.ProofKit
import Derived.OpenShut
import Derived.Lib.SmallJoins
namespace Go.Proofs.Ytihndnclplkleaa
open Go.ChangeShapes Go.WideShapes Go.ChangeAt Go.RowKit

theorem array2 {α : Type} {cs : Array α} (h : cs.size = 2) : ∃ c0 c1, cs = #[c0, c1] := by
  obtain ⟨l⟩ := cs
  match l, h with
  | [c0, c1], _ => exact ⟨c0, c1, rfl⟩
theorem Try.cells24 : Try.prog.cellsOf 24 = 2 := by kernel_rfl
theorem Try.cells3 : Try.prog.cellsOf 3 = 1 := by kernel_rfl
theorem Try.cells22 : Try.prog.cellsOf 22 = 1 := by kernel_rfl
theorem Try.cells115 : Try.prog.cellsOf 115 = 1 := by kernel_rfl

theorem words_open {H : Type} {enc : TypeId × Value → H} {W : World} {fuel : Nat} {v : Value} {y : DataW H × List MemPlace}
    (h : DataW.trod enc Try.prog W 0 (fun _ => true) true fuel 22 [v] = some y) : ∃ a n cap l, v = .slice a n cap ∧ isWords W a n cap l ∧ n ≤ maxLen := by
  rcases open_ints Try.underlying22 Try.underlying115 Try.cells115 h with ⟨hcs, _⟩ | ⟨x, n, c, zs, hcs, _, hl, hm, hz, _, hcell, hwz⟩
  · simp at hcs
    exact ⟨none, 0, 0, [], hcs, ⟨rfl, Nat.le_refl _, (fun x hx => by cases hx), fun e => absurd rfl e⟩, by unfold maxLen; omega⟩
  · simp at hcs
    have hz' : zs.length = c := by simpa using hz
    have hb : ∀ z ∈ zs, 0 ≤ z ∧ z < 18446744073709551616 := by
      intro z hzz
      have := bounds_u64 (hwz z hzz)
      omega
    have hlen : (zs.take n).length = n := by rw [List.length_take]; omega
    refine ⟨some x, n, c, (zs.take n).map Int.toNat, hcs, ⟨by rw [List.length_map, hlen], hl, ?_, ?_⟩, by omega⟩
    · intro u hu
      rw [List.mem_map] at hu
      obtain ⟨z, hz1, rfl⟩ := hu
      have := hb z (List.mem_of_mem_take hz1)
      omega
    · intro hne
      have hn0 : 0 < n := by
        rcases Nat.eq_zero_or_pos n with e | e
        · subst e; simp at hne
        · exact e
      obtain ⟨b, off, spot⟩ := x
      have hc0 := hcell 0 (by omega)
      have hspot : spot = none := by simpa [Addr.add] using World.cell?_spot hc0
      subst hspot
      refine ⟨b, off, rfl, fun j hj => ?_⟩
      have hj' : j < n := by rw [List.length_map, hlen] at hj; exact hj
      have hcj := hcell j (by omega)
      have e2 : (⟨b, off, none⟩ : Addr).add j = ⟨b, off + j, none⟩ := by simp only [Addr.add]; split <;> simp_all
      rw [e2] at hcj
      rw [hcj]
      have hzj : zs.getD j 0 = zs[j]'(by omega) := by simp [List.getD, show j < zs.length by omega]
      have hbj := hb (zs[j]'(by omega)) (List.getElem_mem _)
      rw [hzj, List.getElem_map, List.getElem_take]
      congr 2
      omega
set_option maxRecDepth 20000 in
theorem packed_open {H : Type} {enc : TypeId × Value → H} {W : World} {r : Reach} {b0 : Nat} {v : Value} {d : DataW H} {p : List MemPlace}
    (hv : Value.okWide Try.prog W r b0 24 v) (h : DataW.Trod enc Try.prog W 0 (fun _ => true) true 24 v d p) :
    ∃ N a n cap l, v = pkV N a n cap ∧ isWords W a n cap l ∧ n ≤ maxLen := by
  obtain ⟨cs, rfl, hsz⟩ := okWide_struct Try.underlying24 hv
  obtain ⟨c0, c1, rfl⟩ := array2 (hsz.trans Try.cells24)
  obtain ⟨fuel, hf⟩ := h
  obtain ⟨xs, n, _, _, _, hlen, hfs⟩ := DataW.trod_struct Try.underlying24 hf
  match xs, hlen with
  | [y0, y1], _ =>
    have h0 : DataW.trod enc Try.prog W 0 (fun _ => true) true n 3 (List.take (Try.prog.cellsOf 3) [c0, c1]) = some y0 := hfs 0 _ rfl
    have h1 : DataW.trod enc Try.prog W 0 (fun _ => true) true n 22 (List.take (Try.prog.cellsOf 22) [c1]) = some y1 := hfs 1 _ rfl
    rw [Try.cells3] at h0
    rw [Try.cells22] at h1
    obtain ⟨N, e0, _, _⟩ := DataW.trod_int Try.underlying3 h0
    obtain ⟨a, m, cap, l, e1, hy, hm⟩ := words_open h1
    refine ⟨N, a, m, cap, l, ?_, hy, hm⟩
    simp at e0
    rw [e0, e1]
end Go.Proofs.Ytihndnclplkleaa
