import Derived.Test.YtjmlalojfghkiaaDoorR46
import Derived.Test.YtjmlalojfghkiaaDoorR39
import Derived.ProofKit
import Derived.OpenShut
import Derived.Lib.SmallJoins
namespace Go.Proofs.YtjmlalojfghkiaaDoor.K
open Go.ChangeShapes Go.WideShapes Go.ChangeAt Go.RowKit
set_option linter.unusedVariables false
theorem Tryd.cells3 : Tryd.prog.cellsOf 3 = 1 := by kernel_rfl
theorem Tryd.cells5 : Tryd.prog.cellsOf 5 = 1 := by kernel_rfl
theorem Tryd.cells97 : Tryd.prog.cellsOf 97 = 3 := by kernel_rfl
theorem Tryd.cells108 : Tryd.prog.cellsOf 108 = 42 := by kernel_rfl
theorem bytes_open {H : Type} {enc : TypeId × Value → H} {W : World} {fuel : Nat} {v : Value} {y : DataW H × List MemPlace}
    (h : DataW.trod enc Tryd.prog W 0 (fun _ => true) true fuel 23 [v] = some y) : ∃ a n cap l, v = .slice a n cap ∧ isBytes W a n cap l ∧ n ≤ maxLen := by
  rcases open_ints Tryd.underlying23 Tryd.underlying5 Tryd.cells5 h with ⟨hcs, _⟩ | ⟨x, n, c, zs, hcs, _, hl, hm, hz, _, hcell, hwz⟩
  · simp at hcs
    exact ⟨none, 0, 0, [], hcs, ⟨rfl, Nat.le_refl _, (fun x hx => by cases hx), fun e => absurd rfl e⟩, by unfold maxLen; omega⟩
  · simp at hcs
    have hz' : zs.length = c := by simpa using hz
    have hb : ∀ z ∈ zs, 0 ≤ z ∧ z < 256 := by
      intro z hzz
      have := bounds_u8 (hwz z hzz)
      omega
    have hlen : (zs.take n).length = n := by rw [List.length_take]; omega
    refine ⟨some x, n, c, (zs.take n).map Int.toNat, hcs, ⟨by rw [List.length_map, hlen], hl, ?_, ?_⟩, by omega⟩
    · intro u hu
      rw [List.mem_map] at hu
      obtain ⟨z, hz1, rfl⟩ := hu
      have := hb z (List.mem_of_mem_take hz1)
      omega
    · intro hne
      have hn0 : 0 < n := by
        rcases Nat.eq_zero_or_pos n with e | e
        · subst e; simp at hne
        · exact e
      obtain ⟨b, off, spot⟩ := x
      have hc0 := hcell 0 (by omega)
      have hspot : spot = none := by simpa [Addr.add] using World.cell?_spot hc0
      subst hspot
      refine ⟨b, off, rfl, fun j hj => ?_⟩
      have hj' : j < n := by rw [List.length_map, hlen] at hj; exact hj
      have hcj := hcell j (by omega)
      have e2 : (⟨b, off, none⟩ : Addr).add j = ⟨b, off + j, none⟩ := by simp only [Addr.add]; split <;> simp_all
      rw [e2] at hcj
      rw [hcj]
      have hzj : zs.getD j 0 = zs[j]'(by omega) := by simp [List.getD, show j < zs.length by omega]
      have hbj := hb (zs[j]'(by omega)) (List.getElem_mem _)
      rw [hzj, List.getElem_map, List.getElem_take]
      congr 2
      omega
set_option maxRecDepth 100000 in
theorem row_cells {H : Type} {enc : TypeId × Value → H} {W : World} {sp : Nat → Bool} {held : Bool} {fuel : Nat} {cs : List Value} {a b c : Int} {p : List MemPlace}
    (h : DataW.trod enc Tryd.prog W 0 sp held fuel 97 cs = some (.agg [.lit (.int .i64 a), .lit (.int .i64 b), .lit (.int .i64 c)], p)) : cs = [.int .i64 a, .int .i64 b, .int .i64 c] := by
  obtain ⟨xs, n, _, hx, hcl, hlen, hfs⟩ := DataW.trod_struct Tryd.underlying97 h
  rw [Tryd.cells97] at hcl
  match cs, hcl with
  | [c0, c1, c2], _ =>
    match xs, hlen with
    | [y0, y1, y2], _ =>
      have h0 : DataW.trod enc Tryd.prog W 0 sp held n 3 (List.take (Tryd.prog.cellsOf 3) [c0, c1, c2]) = some y0 := hfs 0 _ rfl
      have h1 : DataW.trod enc Tryd.prog W 0 sp held n 3 (List.take (Tryd.prog.cellsOf 3) [c1, c2]) = some y1 := hfs 1 _ rfl
      have h2 : DataW.trod enc Tryd.prog W 0 sp held n 3 (List.take (Tryd.prog.cellsOf 3) [c2]) = some y2 := hfs 2 _ rfl
      rw [Tryd.cells3] at h0 h1 h2
      obtain ⟨x0, e0, f0, _⟩ := DataW.trod_int Tryd.underlying3 h0
      obtain ⟨x1, e1, f1, _⟩ := DataW.trod_int Tryd.underlying3 h1
      obtain ⟨x2, e2, f2, _⟩ := DataW.trod_int Tryd.underlying3 h2
      rw [f0, f1, f2] at hx
      simp at hx e0 e1 e2
      obtain ⟨⟨rfl, rfl, rfl⟩, _⟩ := hx
      rw [e0, e1, e2]
set_option maxRecDepth 100000 in
theorem code_open {H : Type} {enc : TypeId × Value → H} {W : World} {r : Reach} {b0 : Nat} {v : Value} {d : DataW H} {p : List MemPlace}
    (hv : Value.okWide Tryd.prog W r b0 23 v) (h : DataW.Trod enc Tryd.prog W 0 (fun _ => true) true 23 v d p) :
    ∃ a n cap l, v = .slice a n cap ∧ isBytes W a n cap l ∧ n ≤ maxLen := by
  obtain ⟨a, n, cap, rfl⟩ := okWide_slice Tryd.underlying23 hv
  obtain ⟨fuel, hf⟩ := h
  exact bytes_open (v := .slice a n cap) (by simpa [Value.cells] using hf)
end Go.Proofs.YtjmlalojfghkiaaDoor.K
