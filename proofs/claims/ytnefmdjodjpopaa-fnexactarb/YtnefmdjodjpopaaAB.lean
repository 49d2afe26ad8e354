import Derived.Test.YtnefmdjodjpopaaAA
namespace Go.Proofs.Ytnefmdjodjpopaa
open Go.RowKit

set_option maxHeartbeats 2000000 in
set_option maxRecDepth 20000 in
theorem lawArb (e : Bool) (i : Nat) (r : Bool) (d : Int) (a : Option Addr) (n cap : Nat) (l : List Nat) (w : World) (h : isBytes w a n cap l) (hn : n ≤ 9223372036854775807) :
    Calls Try.prog 9 #[frV e i r d a n cap] w fun o w' => o = .returned (.bool true) ∧ Below w.heap.size w w' := by
  by_cases hl : (n : Int) ≤ ((1048576 : Nat) : Int)
  · have HS : Hid (∀ W, Calls Try.prog 22 #[frV e i r d a n cap, .int .i64 ((1048576 : Nat) : Int)] W fun o w' => o = .returned (.int .i64 (((1048576 : Nat) : Int) - (n : Int))) ∧ W.alloc (frC e i r d a n cap 30) = w') := by
      intro W; have := szFrame_any W e i r d a n cap 1048576 hn (by omega); rw [if_pos hl] at this; exact this
    have HH : Hid (isBytes w a n cap l) := h
    have hn' : n ≤ 1048576 := by omega
    clear h hl
    have hW : Below w.heap.size w ((w.alloc (frC e i r d a n cap 30)).alloc (frC e i r d a n cap 30)) := ((Below.refl _ _).alloc (Nat.le_refl _) _).alloc (by simp) _
    have HW : Hid (Below w.heap.size w ((w.alloc (frC e i r d a n cap 30)).alloc (frC e i r d a n cap 30))) := hW
    clear hW
    have hX : ((w.alloc (frC e i r d a n cap 30)).alloc (frC e i r d a n cap 30)).cell? ⟨w.heap.size, 0, none⟩ = some (.bool e) ∧ ((w.alloc (frC e i r d a n cap 30)).alloc (frC e i r d a n cap 30)).cell? ⟨w.heap.size, 1, none⟩ = some (.int .u32 (i : Int)) ∧ ((w.alloc (frC e i r d a n cap 30)).alloc (frC e i r d a n cap 30)).cell? ⟨w.heap.size, 2, none⟩ = some (.bool r) ∧ ((w.alloc (frC e i r d a n cap 30)).alloc (frC e i r d a n cap 30)).cell? ⟨w.heap.size, 3, none⟩ = some (.int .i64 d) ∧ ((w.alloc (frC e i r d a n cap 30)).alloc (frC e i r d a n cap 30)).cell? ⟨w.heap.size, 4, none⟩ = some (.slice a n cap) := by
      refine ⟨?_, ?_, ?_, ?_, ?_⟩ <;> go_simp
    have HX : Hid (((w.alloc (frC e i r d a n cap 30)).alloc (frC e i r d a n cap 30)).cell? ⟨w.heap.size, 0, none⟩ = some (.bool e) ∧ ((w.alloc (frC e i r d a n cap 30)).alloc (frC e i r d a n cap 30)).cell? ⟨w.heap.size, 1, none⟩ = some (.int .u32 (i : Int)) ∧ ((w.alloc (frC e i r d a n cap 30)).alloc (frC e i r d a n cap 30)).cell? ⟨w.heap.size, 2, none⟩ = some (.bool r) ∧ ((w.alloc (frC e i r d a n cap 30)).alloc (frC e i r d a n cap 30)).cell? ⟨w.heap.size, 3, none⟩ = some (.int .i64 d) ∧ ((w.alloc (frC e i r d a n cap 30)).alloc (frC e i r d a n cap 30)).cell? ⟨w.heap.size, 4, none⟩ = some (.slice a n cap)) := hX
    clear hX
    go_enter Try.func9, Try.ntmps9
    go_wp2_with (first | (go_at_call 22; refine (HS.out _).mono ?_; rintro o w1 ⟨rfl, rfl⟩))
    refine (toFrame_any _ e i r d a n cap l (HH.out.below HW.out) hn').mono ?_
    rintro o w1 ⟨g1, rfl, hy1, hb1⟩
    have hB1 := HW.out.trans (hb1.mono (by simp; omega))
    have hx1 := box5 hb1 (by simp; omega) HX.out
    have hz1 : w.heap.size < w1.heap.size := Nat.lt_of_lt_of_le (by simp; omega) hb1.size
    clear hb1
    go_wp2_with fail
    refine (specArb_any w1 e i r d (some ⟨g1, 0, none⟩) n n l hy1).mono ?_
    rintro o w2 ⟨rfl, hb2⟩
    have hB2 := hB1.trans (hb2.mono (by omega))
    have hx2 := box5 hb2 hz1 hx1
    have hz2 : w.heap.size < w2.heap.size := Nat.lt_of_lt_of_le hz1 hb2.size
    clear hb2 hx1 hB1 hz1 hy1
    go_wp2_with fail
    refine (toFrame_any _ e i r d a n cap l (HH.out.below hB2) hn').mono ?_
    rintro o w3 ⟨g3, rfl, hy3, hb3⟩
    have hB3 := hB2.trans (hb3.mono (by omega))
    have hx3 := box5 hb3 hz2 hx2
    have hz3 : w.heap.size < w3.heap.size := Nat.lt_of_lt_of_le hz2 hb3.size
    clear hb3 hx2 hB2 hz2
    have HX3 : Hid ((w3.cell? ⟨w.heap.size, 0, none⟩ = some (.bool e) ∧ w3.cell? ⟨w.heap.size, 1, none⟩ = some (.int .u32 (i : Int)) ∧ w3.cell? ⟨w.heap.size, 2, none⟩ = some (.bool r) ∧ w3.cell? ⟨w.heap.size, 3, none⟩ = some (.int .i64 d) ∧ w3.cell? ⟨w.heap.size, 4, none⟩ = some (.slice a n cap)) ∧ isBytes w3 (some ⟨g3, 0, none⟩) n n l) := ⟨hx3, hy3⟩
    clear hx3 hy3
    go_wp2_with fail
    refine (arb_any _ e i r d (some ⟨g3, 0, none⟩) n n l (HX3.out.2.below ((Below.refl _ _).alloc (Nat.le_refl _) _))).mono ?_
    rintro o w4 ⟨rfl, hb4⟩
    have hcell : (w3.alloc (frC e i r d (some ⟨g3, 0, none⟩) n n 33)).cell? ⟨w3.heap.size, 0, none⟩ = some (.bool e) ∧ (w3.alloc (frC e i r d (some ⟨g3, 0, none⟩) n n 33)).cell? ⟨w3.heap.size, 1, none⟩ = some (.int .u32 (i : Int)) ∧ (w3.alloc (frC e i r d (some ⟨g3, 0, none⟩) n n 33)).cell? ⟨w3.heap.size, 2, none⟩ = some (.bool r) ∧ (w3.alloc (frC e i r d (some ⟨g3, 0, none⟩) n n 33)).cell? ⟨w3.heap.size, 3, none⟩ = some (.int .i64 d) ∧ (w3.alloc (frC e i r d (some ⟨g3, 0, none⟩) n n 33)).cell? ⟨w3.heap.size, 4, none⟩ = some (.slice (some ⟨g3, 0, none⟩) n n) := by
      refine ⟨?_, ?_, ?_, ?_, ?_⟩ <;> go_simp
    have hA : Below w3.heap.size w3 (w3.alloc (frC e i r d (some ⟨g3, 0, none⟩) n n 33)) := (Below.refl _ _).alloc (Nat.le_refl _) _
    have hk1 := box5 hb4 (by simp; omega) (box5 hA hz3 HX3.out.1)
    have hk2 := box5 hb4 (by simp) hcell
    have hB4 : Below w.heap.size w w4 := (hB3.trans (hA.mono (by omega))).trans (hb4.mono (by simp; omega))
    have hS0 : w4.cell? ⟨w.heap.size, 0, none⟩ = some (.bool e) ∧ w4.cell? ⟨w.heap.size, 1, none⟩ = some (.int .u32 (i : Int)) ∧ w4.cell? ⟨w.heap.size, 2, none⟩ = some (.bool r) ∧ w4.cell? ⟨w.heap.size, 3, none⟩ = some (.int .i64 d) ∧ w4.cell? ⟨w.heap.size, 4, none⟩ = some (.slice a n cap) ∧ w4.cell? ⟨w3.heap.size, 0, none⟩ = some (.bool e) ∧ w4.cell? ⟨w3.heap.size, 1, none⟩ = some (.int .u32 (i : Int)) ∧ w4.cell? ⟨w3.heap.size, 2, none⟩ = some (.bool r) ∧ w4.cell? ⟨w3.heap.size, 3, none⟩ = some (.int .i64 d) ∧ w4.cell? ⟨w3.heap.size, 4, none⟩ = some (.slice (some ⟨g3, 0, none⟩) n n) ∧ isBytes w4 a n cap l ∧ isBytes w4 (some ⟨g3, 0, none⟩) n n l ∧ w.heap.size < w4.heap.size ∧ w3.heap.size < w4.heap.size := by
      obtain ⟨p0, p1, p2, p3, p4⟩ := hk1
      obtain ⟨q0, q1, q2, q3, q4⟩ := hk2
      have hz4 := hb4.size
      simp at hz4
      exact ⟨p0, p1, p2, p3, p4, q0, q1, q2, q3, q4, HH.out.below hB4, (HX3.out.2.below hA).below hb4, by omega, by omega⟩
    have HB4 : Hid (Below w.heap.size w w4) := hB4
    have hz4 : w.heap.size < w4.heap.size := by have := hb4.size; simp at this; omega
    clear hk1 hk2 hcell hA hb4 hB3 hB4 HX3
    generalize w3.heap.size = b at *
    go_wp2
    go_region_held3 (fun W => W.cell? ⟨w.heap.size, 0, none⟩ = some (.bool e) ∧ W.cell? ⟨w.heap.size, 1, none⟩ = some (.int .u32 (i : Int)) ∧ W.cell? ⟨w.heap.size, 2, none⟩ = some (.bool r) ∧ W.cell? ⟨w.heap.size, 3, none⟩ = some (.int .i64 d) ∧ W.cell? ⟨w.heap.size, 4, none⟩ = some (.slice a n cap) ∧ W.cell? ⟨b, 0, none⟩ = some (.bool e) ∧ W.cell? ⟨b, 1, none⟩ = some (.int .u32 (i : Int)) ∧ W.cell? ⟨b, 2, none⟩ = some (.bool r) ∧ W.cell? ⟨b, 3, none⟩ = some (.int .i64 d) ∧ W.cell? ⟨b, 4, none⟩ = some (.slice (some ⟨g3, 0, none⟩) n n) ∧ isBytes W a n cap l ∧ isBytes W (some ⟨g3, 0, none⟩) n n l ∧ w.heap.size < W.heap.size ∧ b < W.heap.size) (first | exact lf_drew _ _ _ _ _ _ _ _ _ _ _ _ hS0 | exact lf_be _ _ _ _ _ _ _ _ _ _ _ _ _ (by assumption) (by assumption)) (first | (go_at_call 24; refine (toFrame_any _ e i r d a n cap l (lf_y1 (by assumption)) hn').mono ?_; rintro o w5 ⟨g5, rfl, hy5, hb5⟩) | (go_at_call 26; refine (eqFrame_same _ e i r d _ _ _ l (lf_y2 (by assumption)) _ _ _ hy5 hn').mono ?_; rintro o w6 ⟨rfl, hb6⟩))
    go_wp2
    go_ret
    exact ⟨rfl, (HB4.out.trans (((Below.refl w4.heap.size w4).drew.trans hb5).mono (by omega))).trans (hb6.mono (by have := hb5.size; simp at this; omega))⟩
  · have HS : Hid (∀ W, Calls Try.prog 22 #[frV e i r d a n cap, .int .i64 ((1048576 : Nat) : Int)] W fun o w' => o = .returned (.int .i64 (-1)) ∧ W.alloc (frC e i r d a n cap 30) = w') := by
      intro W; have := szFrame_any W e i r d a n cap 1048576 hn (by omega); rw [if_neg hl] at this; exact this
    clear h hl
    go_enter Try.func9, Try.ntmps9
    go_wp2_with (first | (go_at_call 22; refine (HS.out _).mono ?_; rintro o w1 ⟨rfl, rfl⟩))
    go_ret
    exact ⟨rfl, ((Below.refl _ _).alloc (Nat.le_refl _) _).alloc (by simp) _⟩
end Go.Proofs.Ytnefmdjodjpopaa
