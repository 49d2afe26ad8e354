import Derived.Test.YtihndnclplkleaaHO
import Derived.Test.YtihndnclplkleaaHQ
import Derived.Test.YtihndnclplkleaaHR
namespace Go.Proofs.Ytihndnclplkleaa
open Go.ChangeShapes Go.WideShapes Go.ChangeAt Go.RowKit
theorem Try.cells32 : Try.prog.cellsOf 32 = 4 := by kernel_rfl
theorem Try.cells33 : Try.prog.cellsOf 33 = 1 := by kernel_rfl
theorem Try.cells51 : Try.prog.cellsOf 51 = 1 := by kernel_rfl
theorem Try.cells52 : Try.prog.cellsOf 52 = 1 := by kernel_rfl
theorem Try.cells53 : Try.prog.cellsOf 53 = 1 := by kernel_rfl
theorem Try.cells55 : Try.prog.cellsOf 55 = 10 := by kernel_rfl
theorem Try.cells57 : Try.prog.cellsOf 57 = 21 := by kernel_rfl
set_option maxRecDepth 20000 in
theorem config_open {H : Type} {enc : TypeId × Value → H} {W : World} {fuel : Nat} {cs : List Value} {y : DataW H × List MemPlace}
    (h : DataW.trod enc Try.prog W 0 (fun _ => true) true fuel 32 cs = some y) : ∃ a b c d : Int, cs = [.int .i64 a, .int .i64 b, .int .i64 c, .int .i64 d] := by
  obtain ⟨xs, n, _, _, hcl, hlen, hfs⟩ := DataW.trod_struct Try.underlying32 h
  rw [Try.cells32] at hcl
  match cs, hcl with
  | [c0, c1, c2, c3], _ =>
    match xs, hlen with
    | [y0, y1, y2, y3], _ =>
      have h0 : DataW.trod enc Try.prog W 0 (fun _ => true) true n 3 (List.take (Try.prog.cellsOf 3) [c0, c1, c2, c3]) = some y0 := hfs 0 _ rfl
      have h1 : DataW.trod enc Try.prog W 0 (fun _ => true) true n 3 (List.take (Try.prog.cellsOf 3) [c1, c2, c3]) = some y1 := hfs 1 _ rfl
      have h2 : DataW.trod enc Try.prog W 0 (fun _ => true) true n 3 (List.take (Try.prog.cellsOf 3) [c2, c3]) = some y2 := hfs 2 _ rfl
      have h3 : DataW.trod enc Try.prog W 0 (fun _ => true) true n 3 (List.take (Try.prog.cellsOf 3) [c3]) = some y3 := hfs 3 _ rfl
      rw [Try.cells3] at h0 h1 h2 h3
      obtain ⟨x0, e0, _, _⟩ := DataW.trod_int Try.underlying3 h0
      obtain ⟨x1, e1, _, _⟩ := DataW.trod_int Try.underlying3 h1
      obtain ⟨x2, e2, _, _⟩ := DataW.trod_int Try.underlying3 h2
      obtain ⟨x3, e3, _, _⟩ := DataW.trod_int Try.underlying3 h3
      simp at e0 e1 e2 e3
      exact ⟨x0, x1, x2, x3, by rw [e0, e1, e2, e3]⟩
set_option maxRecDepth 20000 in
theorem host_open {H : Type} {enc : TypeId × Value → H} {W : World} {fuel : Nat} {cs : List Value} {y : DataW H × List MemPlace}
    (h : DataW.trod enc Try.prog W 0 (fun _ => true) true fuel 55 cs = some y) : ∃ (h : Ho) (s : Sl), cs = [.int .i64 h.c0, .int .i64 h.c1, .int .i64 h.c2, .int .i64 h.c3, .slice s.a1 s.n1 s.k1, .slice s.a2 s.n2 s.k2, .slice s.a3 s.n3 s.k3, .slice s.a4 s.n4 s.k4, .int .i64 h.lo, .int .i64 h.st] ∧ isHo W h s ∧ h.le 9223372036854775807 := by
  obtain ⟨xs, n, _, _, hcl, hlen, hfs⟩ := DataW.trod_struct Try.underlying55 h
  rw [Try.cells55] at hcl
  match cs, hcl with
  | [c0, c1, c2, c3, c4, c5, c6, c7, c8, c9], _ =>
    match xs, hlen with
    | [y0, y1, y2, y3, y4, y5, y6], _ =>
      have h0 : DataW.trod enc Try.prog W 0 (fun _ => true) true n 32 (List.take (Try.prog.cellsOf 32) [c0, c1, c2, c3, c4, c5, c6, c7, c8, c9]) = some y0 := hfs 0 _ rfl
      have h1 : DataW.trod enc Try.prog W 0 (fun _ => true) true n 33 (List.take (Try.prog.cellsOf 33) [c4, c5, c6, c7, c8, c9]) = some y1 := hfs 1 _ rfl
      have h2 : DataW.trod enc Try.prog W 0 (fun _ => true) true n 51 (List.take (Try.prog.cellsOf 51) [c5, c6, c7, c8, c9]) = some y2 := hfs 2 _ rfl
      have h3 : DataW.trod enc Try.prog W 0 (fun _ => true) true n 52 (List.take (Try.prog.cellsOf 52) [c6, c7, c8, c9]) = some y3 := hfs 3 _ rfl
      have h4 : DataW.trod enc Try.prog W 0 (fun _ => true) true n 53 (List.take (Try.prog.cellsOf 53) [c7, c8, c9]) = some y4 := hfs 4 _ rfl
      have h5 : DataW.trod enc Try.prog W 0 (fun _ => true) true n 3 (List.take (Try.prog.cellsOf 3) [c8, c9]) = some y5 := hfs 5 _ rfl
      have h6 : DataW.trod enc Try.prog W 0 (fun _ => true) true n 3 (List.take (Try.prog.cellsOf 3) [c9]) = some y6 := hfs 6 _ rfl
      rw [Try.cells32] at h0
      rw [Try.cells33] at h1
      rw [Try.cells51] at h2
      rw [Try.cells52] at h3
      rw [Try.cells53] at h4
      rw [Try.cells3] at h5 h6
      obtain ⟨x0, x1, x2, x3, e0⟩ := config_open h0
      obtain ⟨a1, n1, k1, fs, e1, r1, l1⟩ := filterS_rows h1
      obtain ⟨a2, n2, k2, bx, e2, r2, l2, d2⟩ := boxS_rows h2
      obtain ⟨a3, n3, k3, ff, e3, r3, l3, d3⟩ := frameS_rows h3
      obtain ⟨a4, n4, k4, qu, e4, r4, l4, d4⟩ := eventS_rows h4
      obtain ⟨lo, e5, _, _⟩ := DataW.trod_int Try.underlying3 h5
      obtain ⟨st, e6, _, _⟩ := DataW.trod_int Try.underlying3 h6
      refine ⟨⟨x0, x1, x2, x3, fs, bx, ff, qu, lo, st⟩, ⟨a1, n1, k1, a2, n2, k2, a3, n3, k3, a4, n4, k4⟩, ?_, ⟨r1, r2, r3, r4⟩, ⟨l1, l2, l3, l4, d2, d3, d4⟩⟩
      simp at e0 e5 e6
      obtain ⟨q0, q1, q2, q3⟩ := e0
      rw [q0, q1, q2, q3, e1, e2, e3, e4, e5, e6]
theorem array21 {α : Type} {cs : Array α} (h : cs.size = 21) : ∃ c0 c1 c2 c3 c4 c5 c6 c7 c8 c9 c10 c11 c12 c13 c14 c15 c16 c17 c18 c19 c20, cs = #[c0, c1, c2, c3, c4, c5, c6, c7, c8, c9, c10, c11, c12, c13, c14, c15, c16, c17, c18, c19, c20] := by
  obtain ⟨l⟩ := cs
  match l, h with
  | [c0, c1, c2, c3, c4, c5, c6, c7, c8, c9, c10, c11, c12, c13, c14, c15, c16, c17, c18, c19, c20], _ => exact ⟨c0, c1, c2, c3, c4, c5, c6, c7, c8, c9, c10, c11, c12, c13, c14, c15, c16, c17, c18, c19, c20, rfl⟩
set_option maxRecDepth 40000 in
theorem core_open {H : Type} {enc : TypeId × Value → H} {W : World} {r : Reach} {b0 : Nat} {v : Value} {d : DataW H} {p : List MemPlace}
    (hv : Value.okWide Try.prog W r b0 57 v) (h : DataW.Trod enc Try.prog W 0 (fun _ => true) true 57 v d p) :
    ∃ (C : Co) (s : Sl), v = coV C s ∧ isHo W C.ho s ∧ C.ho.le 9223372036854775807 := by
  obtain ⟨cs, rfl, hsz⟩ := okWide_struct Try.underlying57 hv
  obtain ⟨c0, c1, c2, c3, c4, c5, c6, c7, c8, c9, c10, c11, c12, c13, c14, c15, c16, c17, c18, c19, c20, rfl⟩ := array21 (hsz.trans Try.cells57)
  obtain ⟨fuel, hf⟩ := h
  obtain ⟨xs, n, _, _, _, hlen, hfs⟩ := DataW.trod_struct Try.underlying57 hf
  match xs, hlen with
  | [y0, y1, y2, y3, y4, y5, y6, y7, y8, y9, y10, y11], _ =>
    have h0 : DataW.trod enc Try.prog W 0 (fun _ => true) true n 3 (List.take (Try.prog.cellsOf 3) [c0, c1, c2, c3, c4, c5, c6, c7, c8, c9, c10, c11, c12, c13, c14, c15, c16, c17, c18, c19, c20]) = some y0 := hfs 0 _ rfl
    have h1 : DataW.trod enc Try.prog W 0 (fun _ => true) true n 3 (List.take (Try.prog.cellsOf 3) [c1, c2, c3, c4, c5, c6, c7, c8, c9, c10, c11, c12, c13, c14, c15, c16, c17, c18, c19, c20]) = some y1 := hfs 1 _ rfl
    have h2 : DataW.trod enc Try.prog W 0 (fun _ => true) true n 3 (List.take (Try.prog.cellsOf 3) [c2, c3, c4, c5, c6, c7, c8, c9, c10, c11, c12, c13, c14, c15, c16, c17, c18, c19, c20]) = some y2 := hfs 2 _ rfl
    have h3 : DataW.trod enc Try.prog W 0 (fun _ => true) true n 4 (List.take (Try.prog.cellsOf 4) [c3, c4, c5, c6, c7, c8, c9, c10, c11, c12, c13, c14, c15, c16, c17, c18, c19, c20]) = some y3 := hfs 3 _ rfl
    have h4 : DataW.trod enc Try.prog W 0 (fun _ => true) true n 4 (List.take (Try.prog.cellsOf 4) [c4, c5, c6, c7, c8, c9, c10, c11, c12, c13, c14, c15, c16, c17, c18, c19, c20]) = some y4 := hfs 4 _ rfl
    have h5 : DataW.trod enc Try.prog W 0 (fun _ => true) true n 4 (List.take (Try.prog.cellsOf 4) [c5, c6, c7, c8, c9, c10, c11, c12, c13, c14, c15, c16, c17, c18, c19, c20]) = some y5 := hfs 5 _ rfl
    have h6 : DataW.trod enc Try.prog W 0 (fun _ => true) true n 4 (List.take (Try.prog.cellsOf 4) [c6, c7, c8, c9, c10, c11, c12, c13, c14, c15, c16, c17, c18, c19, c20]) = some y6 := hfs 6 _ rfl
    have h7 : DataW.trod enc Try.prog W 0 (fun _ => true) true n 4 (List.take (Try.prog.cellsOf 4) [c7, c8, c9, c10, c11, c12, c13, c14, c15, c16, c17, c18, c19, c20]) = some y7 := hfs 7 _ rfl
    have h8 : DataW.trod enc Try.prog W 0 (fun _ => true) true n 3 (List.take (Try.prog.cellsOf 3) [c8, c9, c10, c11, c12, c13, c14, c15, c16, c17, c18, c19, c20]) = some y8 := hfs 8 _ rfl
    have h9 : DataW.trod enc Try.prog W 0 (fun _ => true) true n 3 (List.take (Try.prog.cellsOf 3) [c9, c10, c11, c12, c13, c14, c15, c16, c17, c18, c19, c20]) = some y9 := hfs 9 _ rfl
    have h10 : DataW.trod enc Try.prog W 0 (fun _ => true) true n 3 (List.take (Try.prog.cellsOf 3) [c10, c11, c12, c13, c14, c15, c16, c17, c18, c19, c20]) = some y10 := hfs 10 _ rfl
    have h11 : DataW.trod enc Try.prog W 0 (fun _ => true) true n 55 (List.take (Try.prog.cellsOf 55) [c11, c12, c13, c14, c15, c16, c17, c18, c19, c20]) = some y11 := hfs 11 _ rfl
    rw [Try.cells3] at h0 h1 h2 h8 h9 h10
    rw [Try.cells4] at h3 h4 h5 h6 h7
    rw [Try.cells55] at h11
    obtain ⟨x0, e0, _, _⟩ := DataW.trod_int Try.underlying3 h0
    obtain ⟨x1, e1, _, _⟩ := DataW.trod_int Try.underlying3 h1
    obtain ⟨x2, e2, _, _⟩ := DataW.trod_int Try.underlying3 h2
    obtain ⟨x3, e3, _⟩ := DataW.trod_bool Try.underlying4 h3
    obtain ⟨x4, e4, _⟩ := DataW.trod_bool Try.underlying4 h4
    obtain ⟨x5, e5, _⟩ := DataW.trod_bool Try.underlying4 h5
    obtain ⟨x6, e6, _⟩ := DataW.trod_bool Try.underlying4 h6
    obtain ⟨x7, e7, _⟩ := DataW.trod_bool Try.underlying4 h7
    obtain ⟨x8, e8, _, _⟩ := DataW.trod_int Try.underlying3 h8
    obtain ⟨x9, e9, _, _⟩ := DataW.trod_int Try.underlying3 h9
    obtain ⟨x10, e10, _, _⟩ := DataW.trod_int Try.underlying3 h10
    obtain ⟨ho, s, e11, r11, l11⟩ := host_open h11
    refine ⟨⟨x0, x1, x2, x3, x4, x5, x6, x7, x8, x9, x10, ho⟩, s, ?_, r11, l11⟩
    simp at e0 e1 e2 e3 e4 e5 e6 e7 e8 e9 e10 e11
    obtain ⟨q0, q1, q2, q3, q4, q5, q6, q7, q8, q9⟩ := e11
    rw [e0, e1, e2, e3, e4, e5, e6, e7, e8, e9, e10, q0, q1, q2, q3, q4, q5, q6, q7, q8, q9]
end Go.Proofs.Ytihndnclplkleaa
