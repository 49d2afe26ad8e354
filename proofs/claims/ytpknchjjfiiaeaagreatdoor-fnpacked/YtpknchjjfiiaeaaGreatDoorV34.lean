import Derived.Test.YtpknchjjfiiaeaaGreatDoorV29
import Derived.Test.YtpknchjjfiiaeaaGreatDoorV33
namespace Go.Proofs.YtpknchjjfiiaeaaGreatDoor
open Go.RowKit
set_option linter.unusedVariables false
theorem PV_bit (s : ByteArray) (q : Nat) : ∀ m r, r < m → PV s q m / 2 ^ (m - 1 - r) % 2 = fb s (64 * q + r)
  | 0, r, h => absurd h (Nat.not_lt_zero _)
  | m + 1, r, h => by
    show (2 * PV s q m + fb s (64 * q + m)) / 2 ^ (m + 1 - 1 - r) % 2 = _
    have hf := fb_lt s (64 * q + m)
    by_cases e : r = m
    · subst e
      rw [show r + 1 - 1 - r = 0 by omega, Nat.pow_zero, Nat.div_one]
      omega
    · have ih := PV_bit s q m r (by omega)
      have e2 : (2 : Nat) ^ (m + 1 - 1 - r) = 2 * 2 ^ (m - 1 - r) := by rw [show m + 1 - 1 - r = (m - 1 - r) + 1 by omega, Nat.pow_succ, Nat.mul_comm]
      rw [e2, ← Nat.div_div_eq_div_mul, show (2 * PV s q m + fb s (64 * q + m)) / 2 = PV s q m by omega]
      exact ih
theorem lev_wl (o : List Nat) (ho : ∀ x ∈ o, J.M.isL x) (i : Nat) (h : i < 64 * (wl o).length) : lev (wl o) i = if h : i < o.length then o[i] - 48 else 0 := by
  have hq : i / 64 < (wl o).length := by omega
  have hl := wl_len o
  unfold lev
  rw [getD_at _ _ hq, wl_at]
  unfold wq
  have hm : min 64 (o.length - 64 * (i / 64)) ≤ 64 := Nat.min_le_left _ _
  have hm2 := Nat.min_le_right 64 (o.length - 64 * (i / 64))
  by_cases hi : i < o.length
  · rw [dif_pos hi]
    have hr : i % 64 < min 64 (o.length - 64 * (i / 64)) := by omega
    have hb := PV_bit (strN o) (i / 64) (min 64 (o.length - 64 * (i / 64))) (i % 64) hr
    rw [show 64 * (i / 64) + i % 64 = i by omega, fb_str o i hi ho] at hb
    generalize min 64 (o.length - 64 * (i / 64)) = m at *
    have e : (2 : Nat) ^ (63 - i % 64) = 2 ^ (64 - m) * 2 ^ (m - 1 - i % 64) := by rw [← Nat.pow_add]; congr 1; omega
    rw [e, ← Nat.div_div_eq_div_mul, Nat.mul_div_cancel _ (Nat.pos_of_ne_zero (by simp))]
    exact hb
  · rw [dif_neg hi]
    have hr : min 64 (o.length - 64 * (i / 64)) ≤ i % 64 := by omega
    generalize min 64 (o.length - 64 * (i / 64)) = m at *
    have e : (2 : Nat) ^ (64 - m) = 2 ^ (i % 64 - m) * 2 * 2 ^ (63 - i % 64) := by rw [← Nat.pow_succ, ← Nat.pow_add]; congr 1; omega
    rw [e, ← Nat.mul_assoc, Nat.mul_div_cancel _ (Nat.pos_of_ne_zero (by simp)), ← Nat.mul_assoc]
    omega
theorem okP_wl (o : List Nat) (ho : ∀ x ∈ o, J.M.isL x) (hn : o.length ≤ 4000) : okP (o.length : Int) (wl o) = true := by
  unfold okP
  simp only [Bool.and_eq_true, decide_eq_true_eq, Int.toNat_natCast]
  refine ⟨⟨⟨by omega, by omega⟩, wl_len o⟩, padB_iff.2 fun i h1 h2 => ?_⟩
  rw [lev_wl o ho i h2, dif_neg (by omega)]
theorem LB_wl (o : List Nat) (ho : ∀ x ∈ o, J.M.isL x) : LB (wl o) o.length = o.map (fun x => x - 48) := by
  apply List.ext_getElem
  · simp [LB]
  · intro i h1 h2
    have hi : i < o.length := by simpa [LB] using h1
    simp only [LB, List.getElem_map, List.getElem_range]
    rw [lev_wl o ho i (by have := wl_len o; omega), dif_pos hi]
theorem crc_same : M.crcN = J.M.crcN := rfl
theorem cpZ_wl (o : List Nat) (ho : ∀ x ∈ o, J.M.isL x) (hn : o.length ≤ 2000) : cpZ (o.length : Int) (wl o) = ((J.M.crcN (o.map (fun x => x - 48)) : Nat) : Int) := by
  unfold cpZ
  rw [if_pos ⟨okP_wl o ho (by omega), by omega⟩, Int.toNat_natCast, LB_wl o ho, crc_same]
/-- bitWriter.finish -/
theorem finishG (w : World) (b : Nat) (n : Nat) (ao : Option Addr) (m cp : Nat) (x2 x3 x4 : Value) (hh : w.heap[b]? = some (.cells #[.int .i64 (n : Int), .slice ao m cp, x2, x3, x4] 61)) :
    Calls Tryz.prog 32 #[.pointer (some ⟨b, 0, none⟩)] w fun o w' => o = .returned (pkV (n : Int) ao m cp) ∧ Below w.heap.size w w' := by
  obtain ⟨⟨c0, c1, -, -, -⟩, -, hbz⟩ := bw5 hh
  clear hh
  go_enter Tryz.func32, Tryz.ntmps32
  go_wp2
  go_region
  go_wp2
  refine bodyPost_ret (v := pkV (n : Int) ao m cp) (by simp [results, Tryz.results32, go_sem]) rfl ?_
  exact ⟨rfl, ((Below.refl _ _).alloc (Nat.le_refl _) _).drew⟩
theorem bwS.finish {w0 w : World} {b : Nat} {o : List Nat} {st : Bool} {r : Nat × Nat} (h : bwS w0 b o st r w) :
    ∃ ao cp, (Calls Tryz.prog 32 #[.pointer (some ⟨b, 0, none⟩)] w fun y w' => y = .returned (pkV (o.length : Int) ao (wl o).length cp) ∧ Below w.heap.size w w') ∧ ownsW w (b + 1) (.slice ao (wl o).length cp) (wl o) := by
  obtain ⟨⟨v, hh, own⟩, hbel⟩ := h
  obtain ⟨ao, cp, rfl, hcp⟩ := own.slice
  exact ⟨ao, cp, finishG w b o.length ao _ cp _ _ _ hh, own⟩
theorem wl_small (o : List Nat) : ∀ x ∈ wl o, x < 18446744073709551616 := by
  intro x hx
  obtain ⟨q, hq, rfl⟩ := List.getElem_of_mem hx
  rw [wl_at]
  exact wq_lt _ _ _
end Go.Proofs.YtpknchjjfiiaeaaGreatDoor
