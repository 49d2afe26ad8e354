import Derived.Test.YtjmlalojfghkiaaDoorAH
import Derived.ProofKit
import Derived.OpenShut
import Derived.Lib.SmallJoins
namespace Go.Proofs.YtjmlalojfghkiaaDoor
open Go.ChangeShapes Go.WideShapes Go.ChangeAt Go.RowKit
set_option linter.unusedVariables false
theorem Tryd.cells3 : Tryd.prog.cellsOf 3 = 1 := by kernel_rfl
theorem Tryd.cells4 : Tryd.prog.cellsOf 4 = 1 := by kernel_rfl
theorem Tryd.cells5 : Tryd.prog.cellsOf 5 = 1 := by kernel_rfl
theorem Tryd.cells22 : Tryd.prog.cellsOf 22 = 1 := by kernel_rfl
theorem Tryd.cells23 : Tryd.prog.cellsOf 23 = 1 := by kernel_rfl
theorem Tryd.cells25 : Tryd.prog.cellsOf 25 = 5 := by kernel_rfl
theorem Tryd.cells27 : Tryd.prog.cellsOf 27 = 11 := by kernel_rfl
theorem Tryd.cells97 : Tryd.prog.cellsOf 97 = 3 := by kernel_rfl
theorem Tryd.cells108 : Tryd.prog.cellsOf 108 = 42 := by kernel_rfl
theorem bytes_open {H : Type} {enc : TypeId × Value → H} {W : World} {fuel : Nat} {v : Value} {y : DataW H × List MemPlace}
    (h : DataW.trod enc Tryd.prog W 0 (fun _ => true) true fuel 23 [v] = some y) : ∃ a n cap l, v = .slice a n cap ∧ isBytes W a n cap l ∧ n ≤ maxLen := by
  rcases open_ints Tryd.underlying23 Tryd.underlying5 Tryd.cells5 h with ⟨hcs, _⟩ | ⟨x, n, c, zs, hcs, _, hl, hm, hz, _, hcell, hwz⟩
  · simp at hcs
    exact ⟨none, 0, 0, [], hcs, ⟨rfl, Nat.le_refl _, (fun x hx => by cases hx), fun e => absurd rfl e⟩, by unfold maxLen; omega⟩
  · simp at hcs
    have hz' : zs.length = c := by simpa using hz
    have hb : ∀ z ∈ zs, 0 ≤ z ∧ z < 256 := by
      intro z hzz
      have := bounds_u8 (hwz z hzz)
      omega
    have hlen : (zs.take n).length = n := by rw [List.length_take]; omega
    refine ⟨some x, n, c, (zs.take n).map Int.toNat, hcs, ⟨by rw [List.length_map, hlen], hl, ?_, ?_⟩, by omega⟩
    · intro u hu
      rw [List.mem_map] at hu
      obtain ⟨z, hz1, rfl⟩ := hu
      have := hb z (List.mem_of_mem_take hz1)
      omega
    · intro hne
      have hn0 : 0 < n := by
        rcases Nat.eq_zero_or_pos n with e | e
        · subst e; simp at hne
        · exact e
      obtain ⟨b, off, spot⟩ := x
      have hc0 := hcell 0 (by omega)
      have hspot : spot = none := by simpa [Addr.add] using World.cell?_spot hc0
      subst hspot
      refine ⟨b, off, rfl, fun j hj => ?_⟩
      have hj' : j < n := by rw [List.length_map, hlen] at hj; exact hj
      have hcj := hcell j (by omega)
      have e2 : (⟨b, off, none⟩ : Addr).add j = ⟨b, off + j, none⟩ := by simp only [Addr.add]; split <;> simp_all
      rw [e2] at hcj
      rw [hcj]
      have hzj : zs.getD j 0 = zs[j]'(by omega) := by simp [List.getD, show j < zs.length by omega]
      have hbj := hb (zs[j]'(by omega)) (List.getElem_mem _)
      rw [hzj, List.getElem_map, List.getElem_take]
      congr 2
      omega
set_option maxRecDepth 20000 in
theorem rec5_open {H : Type} {enc : TypeId × Value → H} {W : World} {fuel : Nat} {cs : List Value} {y : DataW H × List MemPlace}
    (h : DataW.trod enc Tryd.prog W 0 (fun _ => true) true fuel 25 cs = some y) : ∃ (e : Bool) (i : Nat) (r : Bool) (d : Int) (l : List Nat) (a : Option Addr) (n cap : Nat), cs = [.bool e, .int .u32 (i : Int), .bool r, .int .i64 d, .slice a n cap] ∧ isBytes W a n cap l ∧ n ≤ maxLen := by
  obtain ⟨xs, n, _, _, hcl, hlen, hfs⟩ := DataW.trod_struct Tryd.underlying25 h
  rw [Tryd.cells25] at hcl
  match cs, hcl with
  | [c0, c1, c2, c3, c4], _ =>
    match xs, hlen with
    | [y0, y1, y2, y3, y4], _ =>
      have h0 : DataW.trod enc Tryd.prog W 0 (fun _ => true) true n 4 (List.take (Tryd.prog.cellsOf 4) [c0, c1, c2, c3, c4]) = some y0 := hfs 0 _ rfl
      have h1 : DataW.trod enc Tryd.prog W 0 (fun _ => true) true n 22 (List.take (Tryd.prog.cellsOf 22) [c1, c2, c3, c4]) = some y1 := hfs 1 _ rfl
      have h2 : DataW.trod enc Tryd.prog W 0 (fun _ => true) true n 4 (List.take (Tryd.prog.cellsOf 4) [c2, c3, c4]) = some y2 := hfs 2 _ rfl
      have h3 : DataW.trod enc Tryd.prog W 0 (fun _ => true) true n 3 (List.take (Tryd.prog.cellsOf 3) [c3, c4]) = some y3 := hfs 3 _ rfl
      have h4 : DataW.trod enc Tryd.prog W 0 (fun _ => true) true n 23 (List.take (Tryd.prog.cellsOf 23) [c4]) = some y4 := hfs 4 _ rfl
      rw [Tryd.cells4] at h0 h2
      rw [Tryd.cells22] at h1
      rw [Tryd.cells3] at h3
      rw [Tryd.cells23] at h4
      obtain ⟨e, e0, _⟩ := DataW.trod_bool Tryd.underlying4 h0
      obtain ⟨i, e1, _, wi⟩ := DataW.trod_int Tryd.underlying22 h1
      obtain ⟨rr, e2, _⟩ := DataW.trod_bool Tryd.underlying4 h2
      obtain ⟨dd, e3, _, _⟩ := DataW.trod_int Tryd.underlying3 h3
      obtain ⟨a, m, cap, l, e4, hy, hm⟩ := bytes_open h4
      have hi := bounds_u32 wi
      refine ⟨e, i.toNat, rr, dd, l, a, m, cap, ?_, hy, hm⟩
      have e1' : ((i.toNat : Nat) : Int) = i := by omega
      simp only [e1']
      simp at e0 e1 e2 e3
      rw [e0, e1, e2, e3, e4]
theorem array11 {α : Type} {cs : Array α} (h : cs.size = 11) : ∃ c0 c1 c2 c3 c4 c5 c6 c7 c8 c9 c10, cs = #[c0, c1, c2, c3, c4, c5, c6, c7, c8, c9, c10] := by
  obtain ⟨l⟩ := cs
  match l, h with
  | [c0, c1, c2, c3, c4, c5, c6, c7, c8, c9, c10], _ => exact ⟨c0, c1, c2, c3, c4, c5, c6, c7, c8, c9, c10, rfl⟩
set_option maxRecDepth 40000 in
theorem scan_open {H : Type} {enc : TypeId × Value → H} {W : World} {r : Reach} {b0 : Nat} {v : Value} {d : DataW H} {p : List MemPlace}
    (hv : Value.okWide Tryd.prog W r b0 27 v) (h : DataW.Trod enc Tryd.prog W 0 (fun _ => true) true 27 v d p) :
    ∃ (S : Sc) (a : Option Addr) (n cap : Nat), v = scV S a n cap ∧ isBytes W a n cap S.l ∧ n ≤ 9223372036854775807 := by
  obtain ⟨cs, rfl, hsz⟩ := okWide_struct Tryd.underlying27 hv
  obtain ⟨c0, c1, c2, c3, c4, c5, c6, c7, c8, c9, c10, rfl⟩ := array11 (hsz.trans Tryd.cells27)
  obtain ⟨fuel, hf⟩ := h
  obtain ⟨xs, n, _, _, _, hlen, hfs⟩ := DataW.trod_struct Tryd.underlying27 hf
  match xs, hlen with
  | [y0, y1, y2, y3, y4, y5, y6], _ =>
    have h0 : DataW.trod enc Tryd.prog W 0 (fun _ => true) true n 3 (List.take (Tryd.prog.cellsOf 3) [c0, c1, c2, c3, c4, c5, c6, c7, c8, c9, c10]) = some y0 := hfs 0 _ rfl
    have h1 : DataW.trod enc Tryd.prog W 0 (fun _ => true) true n 3 (List.take (Tryd.prog.cellsOf 3) [c1, c2, c3, c4, c5, c6, c7, c8, c9, c10]) = some y1 := hfs 1 _ rfl
    have h2 : DataW.trod enc Tryd.prog W 0 (fun _ => true) true n 3 (List.take (Tryd.prog.cellsOf 3) [c2, c3, c4, c5, c6, c7, c8, c9, c10]) = some y2 := hfs 2 _ rfl
    have h3 : DataW.trod enc Tryd.prog W 0 (fun _ => true) true n 3 (List.take (Tryd.prog.cellsOf 3) [c3, c4, c5, c6, c7, c8, c9, c10]) = some y3 := hfs 3 _ rfl
    have h4 : DataW.trod enc Tryd.prog W 0 (fun _ => true) true n 3 (List.take (Tryd.prog.cellsOf 3) [c4, c5, c6, c7, c8, c9, c10]) = some y4 := hfs 4 _ rfl
    have h5 : DataW.trod enc Tryd.prog W 0 (fun _ => true) true n 3 (List.take (Tryd.prog.cellsOf 3) [c5, c6, c7, c8, c9, c10]) = some y5 := hfs 5 _ rfl
    have h6 : DataW.trod enc Tryd.prog W 0 (fun _ => true) true n 25 (List.take (Tryd.prog.cellsOf 25) [c6, c7, c8, c9, c10]) = some y6 := hfs 6 _ rfl
    rw [Tryd.cells3] at h0 h1 h2 h3 h4 h5
    rw [Tryd.cells25] at h6
    obtain ⟨x0, e0, _, _⟩ := DataW.trod_int Tryd.underlying3 h0
    obtain ⟨x1, e1, _, _⟩ := DataW.trod_int Tryd.underlying3 h1
    obtain ⟨x2, e2, _, _⟩ := DataW.trod_int Tryd.underlying3 h2
    obtain ⟨x3, e3, _, _⟩ := DataW.trod_int Tryd.underlying3 h3
    obtain ⟨x4, e4, _, _⟩ := DataW.trod_int Tryd.underlying3 h4
    obtain ⟨x5, e5, _, _⟩ := DataW.trod_int Tryd.underlying3 h5
    obtain ⟨e, i, r, d, l, a, k, cap, e6, hl, hm⟩ := rec5_open h6
    refine ⟨⟨x0, x1, x2, x3, x4, x5, e, i, r, d, l⟩, a, k, cap, ?_, hl, by unfold maxLen at hm; omega⟩
    simp at e0 e1 e2 e3 e4 e5 e6
    obtain ⟨q0, q1, q2, q3, q4⟩ := e6
    rw [e0, e1, e2, e3, e4, e5, q0, q1, q2, q3, q4]
set_option maxRecDepth 40000 in
/-- one row of the table -/
theorem row_cells {H : Type} {enc : TypeId × Value → H} {W : World} {sp : Nat → Bool} {held : Bool} {fuel : Nat} {cs : List Value} {a b c : Int} {p : List MemPlace}
    (h : DataW.trod enc Tryd.prog W 0 sp held fuel 97 cs = some (.agg [.lit (.int .i64 a), .lit (.int .i64 b), .lit (.int .i64 c)], p)) : cs = [.int .i64 a, .int .i64 b, .int .i64 c] := by
  obtain ⟨xs, n, _, hx, hcl, hlen, hfs⟩ := DataW.trod_struct Tryd.underlying97 h
  rw [Tryd.cells97] at hcl
  match cs, hcl with
  | [c0, c1, c2], _ =>
    match xs, hlen with
    | [y0, y1, y2], _ =>
      have h0 : DataW.trod enc Tryd.prog W 0 sp held n 3 (List.take (Tryd.prog.cellsOf 3) [c0, c1, c2]) = some y0 := hfs 0 _ rfl
      have h1 : DataW.trod enc Tryd.prog W 0 sp held n 3 (List.take (Tryd.prog.cellsOf 3) [c1, c2]) = some y1 := hfs 1 _ rfl
      have h2 : DataW.trod enc Tryd.prog W 0 sp held n 3 (List.take (Tryd.prog.cellsOf 3) [c2]) = some y2 := hfs 2 _ rfl
      rw [Tryd.cells3] at h0 h1 h2
      obtain ⟨x0, e0, f0, _⟩ := DataW.trod_int Tryd.underlying3 h0
      obtain ⟨x1, e1, f1, _⟩ := DataW.trod_int Tryd.underlying3 h1
      obtain ⟨x2, e2, f2, _⟩ := DataW.trod_int Tryd.underlying3 h2
      rw [f0, f1, f2] at hx
      simp at hx e0 e1 e2
      obtain ⟨⟨rfl, rfl, rfl⟩, _⟩ := hx
      rw [e0, e1, e2]
end Go.Proofs.YtjmlalojfghkiaaDoor
