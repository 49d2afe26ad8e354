import Derived.Test.YtcenoecjihcjjaaL
import Derived.Deep.RegionWith
namespace Go.Proofs.Ytcenoecjihcjjaa
open Go.RowKit
set_option maxHeartbeats 2000000 in
set_option maxRecDepth 20000 in
theorem bit_mid (w : World) (b g cap m n q r x : Nat) (L : Nat) (hL : L < 2) (hn : n ≤ 4000)
    (c0 : w.cell? ⟨b, 0, none⟩ = some (.int .i64 (n : Int))) (c1 : w.cell? ⟨b, 1, none⟩ = some (.slice (some ⟨g, 0, none⟩) m cap)) (c2 : w.cell? ⟨b, 2, none⟩ = some (.bool false))
    (f0 : w.frozen? ⟨b, 0, none⟩ = false) (hgb : ¬ b = g)
    (e3 : (n : Int).tdiv 64 = (q : Int)) (e4 : (n : Int).tmod 64 = (r : Int)) (hr : ((r : Int) == 0) = false) (hr2 : r < 64) (hq : q < m) (hq3 : q ≤ 1000) (hc : w.cell? ⟨g, q, none⟩ = some (.int .u64 (x : Int))) (hf : w.frozen? ⟨g, q, none⟩ = false) :
    Calls Try.prog 27 #[.pointer (some ⟨b, 0, none⟩), .int .i64 (L : Int)] w fun o w' => o = .returned (.tuple #[]) ∧ w' = ((w.setCell ⟨g, q, none⟩ (.int .u64 (bits BinOp.or IntKind.u64 (x : Int) (IntKind.u64.wrap ((L : Int) * 2 ^ (63 - r)))))).setCell ⟨b, 0, none⟩ (.int .i64 ((n : Int) + 1))).drew := by
  go_enter Try.func27, Try.ntmps27
  go_wp2
  go_region
  go_wp2
  refine bodyPost_ret (results_none rfl _ _ _) rfl ?_
  exact ⟨rfl, rfl⟩
/-- the bits below are 0: the 'or' is a sum -/
theorem or_sum (x L r : Nat) (hL : L < 2) (hr : r < 64) (hx : x < 18446744073709551616) (hd : x % 2 ^ (64 - r) = 0) :
    bits BinOp.or IntKind.u64 (x : Int) (IntKind.u64.wrap ((L : Int) * 2 ^ (63 - r))) = ((x + L * 2 ^ (63 - r) : Nat) : Int) := by
  have hp : L * 2 ^ (63 - r) < 2 ^ (64 - r) := by
    have e : 64 - r = (63 - r) + 1 := by omega
    rw [e, Nat.pow_succ]
    have : 0 < 2 ^ (63 - r) := Nat.pos_of_ne_zero (by simp)
    have : L * 2 ^ (63 - r) ≤ 1 * 2 ^ (63 - r) := Nat.mul_le_mul_right _ (by omega)
    omega
  have h64 : (2 : Nat) ^ (64 - r) ≤ 2 ^ 64 := Nat.pow_le_pow_right (by decide) (by omega)
  have hy : L * 2 ^ (63 - r) < 18446744073709551616 := Nat.lt_of_lt_of_le hp h64
  rw [wrap_nat, Nat.mod_eq_of_lt (by omega), u64_or_nat _ _ hx hy]
  congr 1
  obtain ⟨k, hk⟩ : ∃ k, x = 2 ^ (64 - r) * k := Nat.dvd_of_mod_eq_zero hd
  subst hk
  rw [Nat.two_pow_add_eq_or_of_lt hp]
set_option maxHeartbeats 2000000 in
set_option maxRecDepth 20000 in
theorem bit_new (w : World) (b n q : Nat) (v : Value) (l : List Nat) (L : Nat) (hL : L < 2) (hn : n ≤ 4000) (hl : l.length = q) (hbz : b < w.heap.size) (own : ownsW w (b + 1) v l)
    (c0 : w.cell? ⟨b, 0, none⟩ = some (.int .i64 (n : Int))) (c1 : w.cell? ⟨b, 1, none⟩ = some v) (c2 : w.cell? ⟨b, 2, none⟩ = some (.bool false))
    (f0 : w.frozen? ⟨b, 0, none⟩ = false) (f1 : w.frozen? ⟨b, 1, none⟩ = false)
    (e3 : (n : Int).tdiv 64 = (q : Int)) (e4 : (n : Int).tmod 64 = 0) (hq3 : q ≤ 1000) :
    Calls Try.prog 27 #[.pointer (some ⟨b, 0, none⟩), .int .i64 (L : Int)] w fun o w' => ∃ w1 g cp, ownsW w1 (b + 1) (.slice (some ⟨g, 0, none⟩) (q + 1) cp) (l ++ [0]) ∧ Below (b + 1) w w1 ∧ Lib.OthersKept 54 none w w1 ∧ o = .returned (.tuple #[]) ∧ w' = (((w1.setCell ⟨b, 1, none⟩ (.slice (some ⟨g, 0, none⟩) (q + 1) cp)).setCell ⟨g, q, none⟩ (.int .u64 (bits BinOp.or IntKind.u64 0 ((L : Int) * 9223372036854775808)))).setCell ⟨b, 0, none⟩ (.int .i64 ((n : Int) + 1))).drew := by
  have HO : Hid (ownsW w (b + 1) v l) := own
  have HL : Hid (l.length = q) := hl
  clear own hl
  go_enter Try.func27, Try.ntmps27
  go_wp2_with (first | (at_builtin; refine app_word2 w w rfl (.tmp 14) (.tmp 15) rfl (b + 1) _ l 0 _ rfl rfl HO.out rfl (by have := HL.out; omega) (by omega) (Below.refl _ _) ?_))
  intro v1 w1 ho1 hb1 hk1 hz1
  obtain ⟨g, cp, e, hgB, hgz, hcp, hcm, hrow⟩ := ho1.open (by simp)
  have hlen : (l ++ [0]).length = q + 1 := by simp [HL.out]
  rw [hlen] at e hcp hrow
  subst e
  have hc : w1.cell? ⟨g, q, none⟩ = some (.int .u64 0) := by
    rw [hrow.cell q (by omega)]
    have := HL.out
    subst this
    simp [List.getD]
  have hf := hrow.free q (by omega)
  have d0 := (hb1.cell (p := ⟨b, 0, none⟩) (by simp)).trans c0
  have d2 := (hb1.cell (p := ⟨b, 2, none⟩) (by simp)).trans c2
  have d1 := (hb1.cell (p := ⟨b, 1, none⟩) (by simp)).trans c1
  have g0 := (hb1.frozen (p := ⟨b, 0, none⟩) (by simp)).trans f0
  have g1 := (hb1.frozen (p := ⟨b, 1, none⟩) (by simp)).trans f1
  have HR : Hid (ownsW w1 (b + 1) (.slice (some ⟨g, 0, none⟩) (q + 1) cp) (l ++ [0]) ∧ Below (b + 1) w w1 ∧ Lib.OthersKept 54 none w w1) := ⟨ho1, hb1, hk1⟩
  have hgb : ¬ b = g := by omega
  clear ho1 hb1 hk1 hrow hlen c0 c1 c2 f0 f1 hcm
  go_wp2
  go_region
  go_wp2
  refine bodyPost_ret (results_none rfl _ _ _) rfl ?_
  exact ⟨w1, g, cp, HR.out.1, HR.out.2.1, HR.out.2.2, rfl, rfl⟩
end Go.Proofs.Ytcenoecjihcjjaa
