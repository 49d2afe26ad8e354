import Derived.Test.YtjfkdhnkjchkgaaGreatHO
namespace Go.Proofs.YtjfkdhnkjchkgaaGreat
open Go.ChangeShapes Go.WideShapes Go.ChangeAt Go.RowKit
theorem Tryz.cells55 : Tryz.prog.cellsOf 55 = 4 := by kernel_rfl
theorem Tryz.cells56 : Tryz.prog.cellsOf 56 = 1 := by kernel_rfl
theorem Tryz.cells57 : Tryz.prog.cellsOf 57 = 1 := by kernel_rfl
theorem Tryz.cells58 : Tryz.prog.cellsOf 58 = 1 := by kernel_rfl
theorem Tryz.cells59 : Tryz.prog.cellsOf 59 = 1 := by kernel_rfl
theorem Tryz.cells61 : Tryz.prog.cellsOf 61 = 10 := by kernel_rfl
set_option maxRecDepth 20000 in
theorem config_open {H : Type} {enc : TypeId × Value → H} {W : World} {fuel : Nat} {cs : List Value} {y : DataW H × List MemPlace}
    (h : DataW.trod enc Tryz.prog W 0 (fun _ => true) true fuel 55 cs = some y) : ∃ a b c d : Int, cs = [.int .i64 a, .int .i64 b, .int .i64 c, .int .i64 d] := by
  obtain ⟨xs, n, _, _, hcl, hlen, hfs⟩ := DataW.trod_struct Tryz.underlying55 h
  rw [Tryz.cells55] at hcl
  match cs, hcl with
  | [c0, c1, c2, c3], _ =>
    match xs, hlen with
    | [y0, y1, y2, y3], _ =>
      have h0 : DataW.trod enc Tryz.prog W 0 (fun _ => true) true n 3 (List.take (Tryz.prog.cellsOf 3) [c0, c1, c2, c3]) = some y0 := hfs 0 _ rfl
      have h1 : DataW.trod enc Tryz.prog W 0 (fun _ => true) true n 3 (List.take (Tryz.prog.cellsOf 3) [c1, c2, c3]) = some y1 := hfs 1 _ rfl
      have h2 : DataW.trod enc Tryz.prog W 0 (fun _ => true) true n 3 (List.take (Tryz.prog.cellsOf 3) [c2, c3]) = some y2 := hfs 2 _ rfl
      have h3 : DataW.trod enc Tryz.prog W 0 (fun _ => true) true n 3 (List.take (Tryz.prog.cellsOf 3) [c3]) = some y3 := hfs 3 _ rfl
      rw [Tryz.cells3] at h0 h1 h2 h3
      obtain ⟨x0, e0, _, _⟩ := DataW.trod_int Tryz.underlying3 h0
      obtain ⟨x1, e1, _, _⟩ := DataW.trod_int Tryz.underlying3 h1
      obtain ⟨x2, e2, _, _⟩ := DataW.trod_int Tryz.underlying3 h2
      obtain ⟨x3, e3, _, _⟩ := DataW.trod_int Tryz.underlying3 h3
      simp at e0 e1 e2 e3
      exact ⟨x0, x1, x2, x3, by rw [e0, e1, e2, e3]⟩
set_option maxRecDepth 20000 in
theorem host_open {H : Type} {enc : TypeId × Value → H} {W : World} {fuel : Nat} {cs : List Value} {y : DataW H × List MemPlace}
    (h : DataW.trod enc Tryz.prog W 0 (fun _ => true) true fuel 61 cs = some y) : ∃ (h : Ho) (s : Sl), cs = [.int .i64 h.c0, .int .i64 h.c1, .int .i64 h.c2, .int .i64 h.c3, .slice s.a1 s.n1 s.k1, .slice s.a2 s.n2 s.k2, .slice s.a3 s.n3 s.k3, .slice s.a4 s.n4 s.k4, .int .i64 h.lo, .int .i64 h.st] ∧ isHo W h s ∧ h.le 9223372036854775807 := by
  obtain ⟨xs, n, _, _, hcl, hlen, hfs⟩ := DataW.trod_struct Tryz.underlying61 h
  rw [Tryz.cells61] at hcl
  match cs, hcl with
  | [c0, c1, c2, c3, c4, c5, c6, c7, c8, c9], _ =>
    match xs, hlen with
    | [y0, y1, y2, y3, y4, y5, y6], _ =>
      have h0 : DataW.trod enc Tryz.prog W 0 (fun _ => true) true n 55 (List.take (Tryz.prog.cellsOf 55) [c0, c1, c2, c3, c4, c5, c6, c7, c8, c9]) = some y0 := hfs 0 _ rfl
      have h1 : DataW.trod enc Tryz.prog W 0 (fun _ => true) true n 56 (List.take (Tryz.prog.cellsOf 56) [c4, c5, c6, c7, c8, c9]) = some y1 := hfs 1 _ rfl
      have h2 : DataW.trod enc Tryz.prog W 0 (fun _ => true) true n 57 (List.take (Tryz.prog.cellsOf 57) [c5, c6, c7, c8, c9]) = some y2 := hfs 2 _ rfl
      have h3 : DataW.trod enc Tryz.prog W 0 (fun _ => true) true n 58 (List.take (Tryz.prog.cellsOf 58) [c6, c7, c8, c9]) = some y3 := hfs 3 _ rfl
      have h4 : DataW.trod enc Tryz.prog W 0 (fun _ => true) true n 59 (List.take (Tryz.prog.cellsOf 59) [c7, c8, c9]) = some y4 := hfs 4 _ rfl
      have h5 : DataW.trod enc Tryz.prog W 0 (fun _ => true) true n 3 (List.take (Tryz.prog.cellsOf 3) [c8, c9]) = some y5 := hfs 5 _ rfl
      have h6 : DataW.trod enc Tryz.prog W 0 (fun _ => true) true n 3 (List.take (Tryz.prog.cellsOf 3) [c9]) = some y6 := hfs 6 _ rfl
      rw [Tryz.cells55] at h0
      rw [Tryz.cells56] at h1
      rw [Tryz.cells57] at h2
      rw [Tryz.cells58] at h3
      rw [Tryz.cells59] at h4
      rw [Tryz.cells3] at h5 h6
      obtain ⟨x0, x1, x2, x3, e0⟩ := config_open h0
      obtain ⟨a1, n1, k1, fs, e1, r1, l1⟩ := filterS_rows h1
      obtain ⟨a2, n2, k2, bx, e2, r2, l2, d2⟩ := boxS_rows h2
      obtain ⟨a3, n3, k3, ff, e3, r3, l3, d3⟩ := frameS_rows h3
      obtain ⟨a4, n4, k4, qu, e4, r4, l4, d4⟩ := eventS_rows h4
      obtain ⟨lo, e5, _, _⟩ := DataW.trod_int Tryz.underlying3 h5
      obtain ⟨st, e6, _, _⟩ := DataW.trod_int Tryz.underlying3 h6
      refine ⟨⟨x0, x1, x2, x3, fs, bx, ff, qu, lo, st⟩, ⟨a1, n1, k1, a2, n2, k2, a3, n3, k3, a4, n4, k4⟩, ?_, ⟨r1, r2, r3, r4⟩, ⟨l1, l2, l3, l4, d2, d3, d4⟩⟩
      simp at e0 e5 e6
      obtain ⟨q0, q1, q2, q3⟩ := e0
      rw [q0, q1, q2, q3, e1, e2, e3, e4, e5, e6]
end Go.Proofs.YtjfkdhnkjchkgaaGreat
