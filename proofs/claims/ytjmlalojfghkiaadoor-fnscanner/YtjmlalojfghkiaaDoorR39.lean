import Derived.Test.YtjmlalojfghkiaaDoorR38
namespace Go.Proofs.YtjmlalojfghkiaaDoor.J
open Go.RowKit
set_option linter.unusedVariables false
set_option maxHeartbeats 8000000 in
set_option maxRecDepth 40000 in
/-- spec.DrawJudge -/
theorem drawJudge_any (w : World) (a : Option Addr) (n cap : Nat) (l : List Nat) (h : isBytes w a n cap l) (hn : n ≤ 1048576) :
    Calls Tryd.prog 12 #[.slice a n cap] w fun o w' => ∃ t : ByteArray, o = .returned (.string t) ∧ t.size ≤ 1000000 ∧ Below w.heap.size w w' := by
  have HH : Hid (isBytes w a n cap l) := h
  clear h
  go_enter Tryd.func12, Tryd.ntmps12
  go_wp2_with fail
  refine (new_any w a n cap l HH.out hn).mono ?_
  rintro o w1 ⟨b, rfl, hs1, hb1, hbl1⟩
  go_wp2_with fail
  refine (n_int w w1 b a n cap 0 l 12 _ (by omega) hs1 (by omega) (by omega) (by omega)).mono ?_
  rintro o w2 ⟨r2, rfl, hr2, hs2, hg2⟩
  have HS2 : Hid (srcI w b a n cap l 1 w2) := hs2
  clear hs1 hs2 hg2 hb1 hbl1 HH
  have HG : Hid (∀ W i, srcI w b a n cap l i W → i ≤ 1000000 → Calls Tryd.prog 37 #[.pointer (some ⟨b, 0, none⟩)] W fun o w' => ∃ t : ByteArray, o = .returned (.string t) ∧ t.size ≤ 3000 ∧ ∃ i', i' ≤ i + 1000 ∧ srcI w b a n cap l i' w' ∧ W.grownBy w' (some b)) := fun W i hW hi => genHeard_any w W b a n cap i l hW hi
  by_cases hz : r2 = 0
  · subst hz
    go_wp2_with fail
    refine (HG.out w2 1 HS2.out (by omega)).mono ?_
    rintro o w3 ⟨t3, rfl, ht3, i3, hi3, hs3, hg3⟩
    have HS3 : Hid (srcI w b a n cap l i3 w3 ∧ i3 ≤ 1001) := ⟨hs3, by omega⟩
    clear hs3 hg3 hi3 HG
    go_wp2_with fail
    refine (repeat_any w3 { data := #[49] } 3850 (by decide) (by omega)).mono ?_
    rintro o w4 ⟨t4, rfl, ht4, rfl⟩
    go_wp2_with fail
    refine (genText_any w w3 b a n cap i3 l 99 HS3.out.1 (by have := HS3.out.2; omega) (by omega)).mono ?_
    rintro o w5 ⟨g5, i5, rfl, hl5, hn5, hi5, hs5, hg5⟩
    have hk5 : (strN g5).size ≤ 99 := by rw [strN_size]; exact hn5
    have hsum : (t3 ++ t4).size = t3.size + t4.size := ByteArray.size_append
    have HB5 : Hid (Below w.heap.size w w5) := hs5.bel
    clear hs5 hg5 hl5 hi5 HS3
    go_wp2_with fail
    go_ret
    exact ⟨_, rfl, by rw [ByteArray.size_append]; omega, HB5.out⟩
  · have hz' : ((r2 : Int) == 0) = false := by simp; omega
    clear hz
    go_wp2_with fail
    refine (HG.out w2 1 HS2.out (by omega)).mono ?_
    rintro o w3 ⟨t3, rfl, ht3, i3, hi3, hs3, hg3⟩
    go_wp2_with fail
    go_ret
    exact ⟨_, rfl, by omega, hs3.bel⟩
end Go.Proofs.YtjmlalojfghkiaaDoor.J
