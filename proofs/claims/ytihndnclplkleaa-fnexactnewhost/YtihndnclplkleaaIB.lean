import Derived.Test.YtihndnclplkleaaIA
namespace Go.Proofs.Ytihndnclplkleaa
open Go.RowKit
/-- where the look at the filters stands behind k of them -/
theorem all_snoc {bs : List R3} {k : Nat} (hk : k < bs.length) (h : ∀ j (hj : j < bs.length), j < k → okFl bs[j] = true) (h1 : okFl bs[k] = true) : ∀ j (hj : j < bs.length), j < k + 1 → okFl bs[j] = true := by
  intro j hj h2
  by_cases e : j = k
  · subst e; exact h1
  · exact h j hj (by omega)
theorem all_yes {bs : List R3} {k : Nat} (hk : bs.length ≤ k) (h : ∀ j (hj : j < bs.length), j < k → okFl bs[j] = true) : bs.all okFl = true := by
  rw [List.all_eq_true]
  intro x hx
  obtain ⟨j, hj, rfl⟩ := List.getElem_of_mem hx
  exact h j hj (by omega)
theorem all_no {bs : List R3} {k : Nat} (hk : k < bs.length) (h1 : okFl bs[k] = false) : bs.all okFl = false := by
  rw [List.all_eq_false]
  exact ⟨bs[k], List.getElem_mem hk, by rw [h1]; simp⟩
set_option maxHeartbeats 2000000 in
theorem indexFunc_any (w : World) (a : Option Addr) (n cap : Nat) (bs : List R3) (h : isR3s w a n cap bs) (hn : n ≤ 1048576) :
    Calls Try.prog 83 #[.slice a n cap, .func (.func 69) #[] #[]] w fun o w' => ∃ z : Int, o = .returned (.int .i64 z) ∧ decide (0 ≤ z) = !bs.all okFl ∧ Below w.heap.size w w' := by
  have hlen := h.len
  have hcp := h.cap
  by_cases hl : bs = []
  · subst hl
    have hn0 : n = 0 := hlen
    subst hn0
    clear hlen h
    go_enter Try.func83, Try.ntmps83
    go_wp2
    go_loopw [8] (fun i wr => i = .int .i64 0 ∧ wr = w) (fun _ _ => 0)
    case atStart => exact ⟨rfl, rfl⟩
    case round =>
      obtain ⟨rfl, rfl⟩ := hrel
      go_wp2
      go_ret
      exact ⟨-1, rfl, rfl, Below.refl _ _⟩
  · obtain ⟨g, off, rfl, hc⟩ := h.cells hl
    have HL : Hid (n = bs.length) := hlen
    have HC : Hid (∀ j (h : j < bs.length), at3 w g (off + j * 3) bs[j]) := hc
    have hgz : g < w.heap.size := World.block_lt_of_cell? w _ (hc 0 (List.length_pos_iff.2 hl)).c0
    clear h hlen hc
    go_enter Try.func83, Try.ntmps83
    go_wp2
    go_loopw [8] (fun i wr => ∃ k : Nat, k ≤ n ∧ i = .int .i64 (k : Int) ∧ (∀ j (hj : j < bs.length), j < k → okFl bs[j] = true) ∧ Below w.heap.size w wr) (fun i _ => n - (intOf i).toNat)
    case atStart => exact ⟨0, Nat.zero_le _, rfl, fun j hj h => absurd h (Nat.not_lt_zero _), Below.refl _ _⟩
    case round =>
      obtain ⟨k, hk, rfl, hdone, hb⟩ := hrel
      by_cases hlt : k < n
      · have hkl : k < bs.length := by have := HL.out; omega
        have hx := HC.out k hkl
        have x0 := (hb.cell (by exact hgz)).trans hx.c0
        have x1 := (hb.cell (by exact hgz)).trans hx.c1
        have x2 := (hb.cell (by exact hgz)).trans hx.c2
        have HB : Hid (Below w.heap.size w wr) := hb
        have HD : Hid (∀ j (hj : j < bs.length), j < k → okFl bs[j] = true) := hdone
        have HW : Hid (∀ W, Calls Try.prog 69 #[flV bs[k].e bs[k].m bs[k].k] W fun o w' => o = .returned (.bool (!okFl bs[k])) ∧ Below W.heap.size W w') := fun W => wrongFilter_any W bs[k]
        clear hx hb hdone
        cases hok : okFl bs[k]
        · have HN : Hid (bs.all okFl = false) := all_no hkl hok
          rw [hok] at HW
          clear hok
          generalize bs[k].e = e0 at *
          generalize bs[k].m = m0 at *
          generalize bs[k].k = k0 at *
          go_wp2_with (first | (go_at_call 69; refine (HW.out _).mono ?_; rintro o w5 ⟨rfl, hb5⟩))
          go_ret
          exact ⟨_, rfl, by rw [HN.out]; simp, HB.out.trans (hb5.mono HB.out.size)⟩
        · have HN : Hid (∀ j (hj : j < bs.length), j < k + 1 → okFl bs[j] = true) := all_snoc hkl HD.out hok
          rw [hok] at HW
          clear hok
          generalize bs[k].e = e0 at *
          generalize bs[k].m = m0 at *
          generalize bs[k].k = k0 at *
          go_wp2_with (first | (go_at_call 69; refine (HW.out _).mono ?_; rintro o w5 ⟨rfl, hb5⟩))
          go_roundw
          case rel => exact ⟨k + 1, by omega, by go_num, HN.out, HB.out.trans (hb5.mono HB.out.size)⟩
          case measure => simp [intOf]; omega
      · have HN : Hid (bs.all okFl = true) := all_yes (by have := HL.out; omega) hdone
        clear hdone
        go_wp2
        go_ret
        exact ⟨_, rfl, by rw [HN.out]; simp, hb⟩
theorem containsFunc_any (w : World) (a : Option Addr) (n cap : Nat) (bs : List R3) (h : isR3s w a n cap bs) (hn : n ≤ 1048576) :
    Calls Try.prog 68 #[.slice a n cap, .func (.func 69) #[] #[]] w fun o w' => o = .returned (.bool (!bs.all okFl)) ∧ Below w.heap.size w w' := by
  have HI : Hid (Calls Try.prog 83 #[.slice a n cap, .func (.func 69) #[] #[]] w fun o w' => ∃ z : Int, o = .returned (.int .i64 z) ∧ decide (0 ≤ z) = !bs.all okFl ∧ Below w.heap.size w w') := indexFunc_any w a n cap bs h hn
  clear h
  go_enter Try.func68, Try.ntmps68
  go_wp2_with (first | (go_at_call 83; refine HI.out.mono ?_; rintro o w5 ⟨z, rfl, hz, hb5⟩; have HZ : Hid (decide (0 ≤ z) = !bs.all okFl) := hz; clear hz))
  go_ret
  exact ⟨ret_bool HZ.out, hb5⟩
def okFs (bs : List R3) : Bool := decide (bs.length ≤ 16) && bs.all okFl
theorem validFilters_any (w : World) (a : Option Addr) (n cap : Nat) (bs : List R3) (h : isR3s w a n cap bs) (hn : n ≤ 1048576) :
    Calls Try.prog 42 #[.slice a n cap] w fun o w' => o = .returned (.bool (okFs bs)) ∧ Below w.heap.size w w' := by
  have hl := h.len
  have HI : Hid (Calls Try.prog 68 #[.slice a n cap, .func (.func 69) #[] #[]] w fun o w' => o = .returned (.bool (!bs.all okFl)) ∧ Below w.heap.size w w') := containsFunc_any w a n cap bs h hn
  clear h
  by_cases h16 : n ≤ 16
  · have HD : Hid (okFs bs = bs.all okFl) := by unfold Hid okFs; rw [show decide (bs.length ≤ 16) = true from decide_eq_true (by omega)]; simp
    have hd : decide ((n : Int) ≤ 16) = true := by simp; omega
    clear hl
    have hmf : ∀ (fn : Fn) (first cap : Array Value) (w : World), (Instr.makeFunc fn first cap).run Try.prog w = .ok (.func fn first cap) w := fun _ _ _ _ => rfl
    go_enter Try.func42, Try.ntmps42
    go_wp2_with (first | (go_at_call 68; refine HI.out.mono ?_; rintro o w5 ⟨rfl, hb5⟩))
    go_ret
    exact ⟨ret_bool (by rw [HD.out]; try simp), hb5⟩
  · have HD : Hid (okFs bs = false) := by unfold Hid okFs; rw [show decide (bs.length ≤ 16) = false from decide_eq_false (by omega)]; rfl
    have hd : decide ((n : Int) ≤ 16) = false := by simp; omega
    clear hl
    go_enter Try.func42, Try.ntmps42
    go_wp2
    go_ret
    exact ⟨ret_bool HD.out.symm, Below.refl _ _⟩
end Go.Proofs.Ytihndnclplkleaa
