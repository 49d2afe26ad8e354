import Derived.Test.YtihndnclplkleaaIB
namespace Go.Proofs.Ytihndnclplkleaa
open Go.RowKit
theorem okFl_iff (x : R3) : okFl x = true ↔ (x.m < (if x.e = true then 536870912 else 2048) ∧ x.k < (if x.e = true then 536870912 else 2048)) := by simp [okFl]
set_option maxHeartbeats 4000000 in
theorem l3okFilters_any (w : World) (a : Option Addr) (n cap : Nat) (bs : List R3) (h : isR3s w a n cap bs) (hn : n ≤ 1048576) :
    Calls Try.prog 38 #[.slice a n cap] w fun o w' => o = .returned (.bool (okFs bs)) ∧ Below w.heap.size w w' := by
  have hlen := h.len
  have hcp := h.cap
  by_cases h16 : n ≤ 16
  · have HF : Hid (okFs bs = bs.all okFl) := by unfold Hid okFs; rw [show decide (bs.length ≤ 16) = true from decide_eq_true (by omega)]; simp
    have hd : decide ((16 : Int) < (n : Int)) = false := by simp; omega
    by_cases hl : bs = []
    · subst hl
      have hn0 : n = 0 := hlen
      subst hn0
      clear hlen h
      go_enter Try.func38, Try.ntmps38
      go_wp2
      go_loopw [3, 4] (fun i _ wr => i = .int .i64 0 ∧ wr = w) (fun _ _ _ => 0)
      case atStart => exact ⟨rfl, rfl⟩
      case round =>
        obtain ⟨rfl, rfl⟩ := hrel
        go_wp2
        go_ret
        exact ⟨ret_bool HF.out.symm, Below.refl _ _⟩
    · obtain ⟨g, off, rfl, hc⟩ := h.cells hl
      have HL : Hid (n = bs.length) := hlen
      have HC : Hid (∀ j (h : j < bs.length), at3 w g (off + j * 3) bs[j]) := hc
      clear h hlen hc
      go_enter Try.func38, Try.ntmps38
      go_wp2
      go_loopw [3, 4] (fun i _ wr => ∃ k : Nat, k ≤ n ∧ i = .int .i64 (k : Int) ∧ (∀ j (hj : j < bs.length), j < k → okFl bs[j] = true) ∧ ∃ q, wr = w.drewN q) (fun i _ _ => n - (intOf i).toNat)
      case atStart => exact ⟨0, Nat.zero_le _, rfl, fun j hj h => absurd h (Nat.not_lt_zero _), 0, rfl⟩
      case round =>
        obtain ⟨k, hk, rfl, hdone, q, rfl⟩ := hrel
        have HD : Hid (∀ j (hj : j < bs.length), j < k → okFl bs[j] = true) := hdone
        clear hdone
        by_cases hlt : k < n
        · have hkl : k < bs.length := by have := HL.out; omega
          have hx := HC.out k hkl
          have hgz := World.block_lt_of_cell? w _ hx.c0
          have x0 := ((below_q (B := w.heap.size) w q).cell (by exact hgz)).trans hx.c0
          have x1 := ((below_q (B := w.heap.size) w q).cell (by exact hgz)).trans hx.c1
          have x2 := ((below_q (B := w.heap.size) w q).cell (by exact hgz)).trans hx.c2
          have HY : Hid (okFl bs[k] = true → ∀ j (hj : j < bs.length), j < k + 1 → okFl bs[j] = true) := fun h => all_snoc hkl HD.out h
          have HN : Hid (okFl bs[k] = false → bs.all okFl = false) := fun h => all_no hkl h
          have HO : Hid (okFl bs[k] = true ↔ (bs[k].m < (if bs[k].e = true then 536870912 else 2048) ∧ bs[k].k < (if bs[k].e = true then 536870912 else 2048))) := okFl_iff bs[k]
          clear hx
          generalize okFl bs[k] = R at *
          generalize bs[k].m = m0 at *
          generalize bs[k].k = k0 at *
          generalize hW : w.drewN q = W at *
          have HW : Hid (W = w.drewN q) := hW.symm
          clear hW
          cases he : bs[k].e
          · rw [he] at x0 HO
            clear he
            by_cases hm : m0 < 2048
            · have hdm : decide (2048 ≤ m0) = false := by simp; omega
              by_cases hk0 : k0 < 2048
              · have hdk : decide (2048 ≤ k0) = false := by simp; omega
                have HR : Hid (R = true) := HO.out.2 (by simp; omega)
                go_wp2
                go_roundw
                case rel => exact ⟨k + 1, by omega, by go_num, HY.out HR.out, q, HW.out⟩
                case measure => simp [intOf]; omega
              · have hdk : decide (2048 ≤ k0) = true := by simp; omega
                have HR : Hid (R = false) := by cases hR : R with | false => exact rfl | true => exact absurd (HO.out.1 hR) (by simp; omega)
                go_wp2
                go_ret
                exact ⟨ret_bool (by rw [HF.out, HN.out HR.out]), by rw [HW.out]; exact below_q w q⟩
            · have hdm : decide (2048 ≤ m0) = true := by simp; omega
              have HR : Hid (R = false) := by cases hR : R with | false => exact rfl | true => exact absurd (HO.out.1 hR) (by simp; omega)
              go_wp2
              go_ret
              exact ⟨ret_bool (by rw [HF.out, HN.out HR.out]), by rw [HW.out]; exact below_q w q⟩
          · rw [he] at x0 HO
            clear he
            by_cases hm : m0 < 536870912
            · have hdm : decide (536870912 ≤ m0) = false := by simp; omega
              by_cases hk0 : k0 < 536870912
              · have hdk : decide (536870912 ≤ k0) = false := by simp; omega
                have HR : Hid (R = true) := HO.out.2 (by simp; omega)
                go_wp2
                go_roundw
                case rel => exact ⟨k + 1, by omega, by go_num, HY.out HR.out, q, HW.out⟩
                case measure => simp [intOf]; omega
              · have hdk : decide (536870912 ≤ k0) = true := by simp; omega
                have HR : Hid (R = false) := by cases hR : R with | false => exact rfl | true => exact absurd (HO.out.1 hR) (by simp; omega)
                go_wp2
                go_ret
                exact ⟨ret_bool (by rw [HF.out, HN.out HR.out]), by rw [HW.out]; exact below_q w q⟩
            · have hdm : decide (536870912 ≤ m0) = true := by simp; omega
              have HR : Hid (R = false) := by cases hR : R with | false => exact rfl | true => exact absurd (HO.out.1 hR) (by simp; omega)
              go_wp2
              go_ret
              exact ⟨ret_bool (by rw [HF.out, HN.out HR.out]), by rw [HW.out]; exact below_q w q⟩
        · have HA : Hid (bs.all okFl = true) := all_yes (by have := HL.out; omega) HD.out
          go_wp2
          go_ret
          exact ⟨ret_bool (by rw [HF.out, HA.out]), below_q w q⟩
  · have HF : Hid (okFs bs = false) := by unfold Hid okFs; rw [show decide (bs.length ≤ 16) = false from decide_eq_false (by omega)]; rfl
    have hd : decide ((16 : Int) < (n : Int)) = true := by simp; omega
    clear h hlen
    go_enter Try.func38, Try.ntmps38
    go_wp2
    go_ret
    exact ⟨ret_bool HF.out.symm, Below.refl _ _⟩
end Go.Proofs.Ytihndnclplkleaa
