import Derived.Test.YtnefmdjodjpopaaH
import Derived.ProofKit
import Derived.OpenShut
import Derived.Lib.SmallJoins
namespace Go.Proofs.Ytnefmdjodjpopaa
open Go.ChangeShapes Go.WideShapes Go.ChangeAt Go.RowKit

theorem array5 {α : Type} {cs : Array α} (h : cs.size = 5) : ∃ c0 c1 c2 c3 c4, cs = #[c0, c1, c2, c3, c4] := by
  obtain ⟨l⟩ := cs
  match l, h with
  | [c0, c1, c2, c3, c4], _ => exact ⟨c0, c1, c2, c3, c4, rfl⟩
theorem Try.cells30 : Try.prog.cellsOf 30 = 5 := by kernel_rfl
theorem Try.cells4 : Try.prog.cellsOf 4 = 1 := by kernel_rfl
theorem Try.cells27 : Try.prog.cellsOf 27 = 1 := by kernel_rfl
theorem Try.cells3 : Try.prog.cellsOf 3 = 1 := by kernel_rfl
theorem Try.cells28 : Try.prog.cellsOf 28 = 1 := by kernel_rfl
theorem Try.cells5 : Try.prog.cellsOf 5 = 1 := by kernel_rfl

theorem bytes_open {H : Type} {enc : TypeId × Value → H} {W : World} {fuel : Nat} {v : Value} {y : DataW H × List MemPlace}
    (h : DataW.trod enc Try.prog W 0 (fun _ => true) true fuel 28 [v] = some y) : ∃ a n cap l, v = .slice a n cap ∧ isBytes W a n cap l ∧ n ≤ maxLen := by
  rcases open_ints Try.underlying28 Try.underlying5 Try.cells5 h with ⟨hcs, _⟩ | ⟨x, n, c, zs, hcs, _, hl, hm, hz, _, hcell, hwz⟩
  · simp at hcs
    exact ⟨none, 0, 0, [], hcs, ⟨rfl, Nat.le_refl _, (fun x hx => by cases hx), fun e => absurd rfl e⟩, by unfold maxLen; omega⟩
  · simp at hcs
    have hz' : zs.length = c := by simpa using hz
    have hb : ∀ z ∈ zs, 0 ≤ z ∧ z < 256 := by
      intro z hzz
      have := bounds_u8 (hwz z hzz)
      omega
    have hlen : (zs.take n).length = n := by rw [List.length_take]; omega
    refine ⟨some x, n, c, (zs.take n).map Int.toNat, hcs, ⟨by rw [List.length_map, hlen], hl, ?_, ?_⟩, by omega⟩
    · intro u hu
      rw [List.mem_map] at hu
      obtain ⟨z, hz1, rfl⟩ := hu
      have := hb z (List.mem_of_mem_take hz1)
      omega
    · intro hne
      have hn0 : 0 < n := by
        rcases Nat.eq_zero_or_pos n with e | e
        · subst e; simp at hne
        · exact e
      obtain ⟨b, off, spot⟩ := x
      have hc0 := hcell 0 (by omega)
      have hspot : spot = none := by simpa [Addr.add] using World.cell?_spot hc0
      subst hspot
      refine ⟨b, off, rfl, fun j hj => ?_⟩
      have hj' : j < n := by rw [List.length_map, hlen] at hj; exact hj
      have hcj := hcell j (by omega)
      have e2 : (⟨b, off, none⟩ : Addr).add j = ⟨b, off + j, none⟩ := by simp only [Addr.add]; split <;> simp_all
      rw [e2] at hcj
      rw [hcj]
      have hzj : zs.getD j 0 = zs[j]'(by omega) := by simp [List.getD, show j < zs.length by omega]
      have hbj := hb (zs[j]'(by omega)) (List.getElem_mem _)
      rw [hzj, List.getElem_map, List.getElem_take]
      congr 2
      omega
set_option maxRecDepth 20000 in
theorem frame_open {H : Type} {enc : TypeId × Value → H} {W : World} {r : Reach} {b0 : Nat} {v : Value} {d : DataW H} {p : List MemPlace}
    (hv : Value.okWide Try.prog W r b0 30 v) (h : DataW.Trod enc Try.prog W 0 (fun _ => true) true 30 v d p) :
    ∃ e i rr dd a n cap l, v = frV e i rr dd a n cap ∧ isBytes W a n cap l ∧ n ≤ maxLen := by
  obtain ⟨cs, rfl, hsz⟩ := okWide_struct Try.underlying30 hv
  obtain ⟨c0, c1, c2, c3, c4, rfl⟩ := array5 (hsz.trans Try.cells30)
  obtain ⟨fuel, hf⟩ := h
  obtain ⟨xs, n, _, _, _, hlen, hfs⟩ := DataW.trod_struct Try.underlying30 hf
  match xs, hlen with
  | [y0, y1, y2, y3, y4], _ =>
    have h0 : DataW.trod enc Try.prog W 0 (fun _ => true) true n 4 (List.take (Try.prog.cellsOf 4) [c0, c1, c2, c3, c4]) = some y0 := hfs 0 _ rfl
    have h1 : DataW.trod enc Try.prog W 0 (fun _ => true) true n 27 (List.take (Try.prog.cellsOf 27) [c1, c2, c3, c4]) = some y1 := hfs 1 _ rfl
    have h2 : DataW.trod enc Try.prog W 0 (fun _ => true) true n 4 (List.take (Try.prog.cellsOf 4) [c2, c3, c4]) = some y2 := hfs 2 _ rfl
    have h3 : DataW.trod enc Try.prog W 0 (fun _ => true) true n 3 (List.take (Try.prog.cellsOf 3) [c3, c4]) = some y3 := hfs 3 _ rfl
    have h4 : DataW.trod enc Try.prog W 0 (fun _ => true) true n 28 (List.take (Try.prog.cellsOf 28) [c4]) = some y4 := hfs 4 _ rfl
    rw [Try.cells4] at h0 h2
    rw [Try.cells27] at h1
    rw [Try.cells3] at h3
    rw [Try.cells28] at h4
    obtain ⟨e, e0, _⟩ := DataW.trod_bool Try.underlying4 h0
    obtain ⟨i, e1, _, wi⟩ := DataW.trod_int Try.underlying27 h1
    obtain ⟨rr, e2, _⟩ := DataW.trod_bool Try.underlying4 h2
    obtain ⟨dd, e3, _, _⟩ := DataW.trod_int Try.underlying3 h3
    obtain ⟨a, m, cap, l, e4, hy, hm⟩ := bytes_open h4
    have hi := bounds_u32 wi
    refine ⟨e, i.toNat, rr, dd, a, m, cap, l, ?_, hy, hm⟩
    have e1' : ((i.toNat : Nat) : Int) = i := by omega
    simp only [frV, e1']
    simp at e0 e1 e2 e3
    rw [e0, e1, e2, e3, e4]
end Go.Proofs.Ytnefmdjodjpopaa
