import Derived.Test.YtnefmdjodjpopaaGB
namespace Go.Proofs.Ytnefmdjodjpopaa
open Go.RowKit

set_option maxHeartbeats 1000000 in
theorem wByte_any (w : World) (a : Option Addr) (n cap : Nat) (l : List Nat) (i : Nat) (h : isBytes w a n cap l) (hn : n ≤ 1048576) (hi : i ≤ 100) :
    Calls Try.prog 45 #[.slice a n cap, .int .i64 (i : Int)] w fun o w' => ∃ x : Nat, o = .returned (.int .i64 (x : Int)) ∧ x < 256 ∧ Below w.heap.size w w' := by
  by_cases hl : l = []
  · subst hl
    have hn0 : n = 0 := h.len
    subst hn0
    clear h
    have hm : IntKind.i64.wrap (7 * (i : Int)) = 7 * (i : Int) := by simp [IntKind.wrap, IntKind.bits, IntKind.signed]; omega
    go_enter Try.func45, Try.ntmps45
    go_wp2
    go_ret
    exact ⟨7 * i % 256, by congr 2, by omega, Below.refl _ _⟩
  · obtain ⟨g, off, rfl, hc⟩ := h.cells hl
    have hlen := h.len
    have hpos : 0 < l.length := List.length_pos_iff.2 hl
    have hm : i % n < l.length := by rw [hlen]; exact Nat.mod_lt _ hpos
    have hcell := hc (i % n) hm
    have hx : l[i % n] < 256 := h.small _ (List.getElem_mem hm)
    generalize l[i % n] = x at *
    have hn0 : ¬ (n : Int) = 0 := by omega
    have hmod : (i : Int).tmod (n : Int) = ((i % n : Nat) : Int) := by rw [Int.tmod_eq_emod_of_nonneg (by omega)]; omega
    have hmod2 : ((i % n : Nat) : Int) < (n : Int) := by omega
    have HX : Hid (x < 256) := hx
    clear h hc hl hx
    subst hlen
    generalize hk : i % l.length = k at *
    clear hk
    go_enter Try.func45, Try.ntmps45
    go_wp2
    go_ret
    exact ⟨x, by rw [show wrap64 (x : Int) = (x : Int) by unfold wrap64; have := HX.out; omega]; rfl, HX.out, Below.refl _ _⟩
end Go.Proofs.Ytnefmdjodjpopaa
