import Derived.Test.YtpknchjjfiiaeaaGreatDoorV21
import Derived.Deep.RegionWith
import Derived.Test.YtpknchjjfiiaeaaGreatDoorV00
namespace Go.Proofs.YtpknchjjfiiaeaaGreatDoor
open Go.RowKit
set_option maxHeartbeats 2000000 in
set_option maxRecDepth 20000 in
theorem bit_mid (w : World) (b g cap m n q r x : Nat) (L : Nat) (hL : L < 2) (hn : n ≤ 4000)
    (c0 : w.cell? ⟨b, 0, none⟩ = some (.int .i64 (n : Int))) (c1 : w.cell? ⟨b, 1, none⟩ = some (.slice (some ⟨g, 0, none⟩) m cap)) (c2 : w.cell? ⟨b, 2, none⟩ = some (.bool false))
    (f0 : w.frozen? ⟨b, 0, none⟩ = false) (hgb : ¬ b = g)
    (e3 : (n : Int).tdiv 64 = (q : Int)) (e4 : (n : Int).tmod 64 = (r : Int)) (hr : ((r : Int) == 0) = false) (hr2 : r < 64) (hq : q < m) (hq3 : q ≤ 1000) (hc : w.cell? ⟨g, q, none⟩ = some (.int .u64 (x : Int))) (hf : w.frozen? ⟨g, q, none⟩ = false) :
    Calls Tryz.prog 31 #[.pointer (some ⟨b, 0, none⟩), .int .i64 (L : Int)] w fun o w' => o = .returned (.tuple #[]) ∧ w' = ((w.setCell ⟨g, q, none⟩ (.int .u64 (bits BinOp.or IntKind.u64 (x : Int) (IntKind.u64.wrap ((L : Int) * 2 ^ (63 - r)))))).setCell ⟨b, 0, none⟩ (.int .i64 ((n : Int) + 1))).drew := by
  go_enter Tryz.func31, Tryz.ntmps31
  go_wp2
  go_region
  go_wp2
  refine bodyPost_ret (results_none rfl _ _ _) rfl ?_
  exact ⟨rfl, rfl⟩
/-- the bits below are 0: the 'or' is a sum -/
theorem or_sum (x L r : Nat) (hL : L < 2) (hr : r < 64) (hx : x < 18446744073709551616) (hd : x % 2 ^ (64 - r) = 0) :
    bits BinOp.or IntKind.u64 (x : Int) (IntKind.u64.wrap ((L : Int) * 2 ^ (63 - r))) = ((x + L * 2 ^ (63 - r) : Nat) : Int) := by
  have hp : L * 2 ^ (63 - r) < 2 ^ (64 - r) := by
    have e : 64 - r = (63 - r) + 1 := by omega
    rw [e, Nat.pow_succ]
    have : 0 < 2 ^ (63 - r) := Nat.pos_of_ne_zero (by simp)
    have : L * 2 ^ (63 - r) ≤ 1 * 2 ^ (63 - r) := Nat.mul_le_mul_right _ (by omega)
    omega
  have h64 : (2 : Nat) ^ (64 - r) ≤ 2 ^ 64 := Nat.pow_le_pow_right (by decide) (by omega)
  have hy : L * 2 ^ (63 - r) < 18446744073709551616 := Nat.lt_of_lt_of_le hp h64
  rw [wrap_nat, Nat.mod_eq_of_lt (by omega), u64_or_nat _ _ hx hy]
  congr 1
  obtain ⟨k, hk⟩ : ∃ k, x = 2 ^ (64 - r) * k := Nat.dvd_of_mod_eq_zero hd
  subst hk
  rw [Nat.two_pow_add_eq_or_of_lt hp]
set_option maxHeartbeats 2000000 in
set_option maxRecDepth 20000 in
theorem bit_new (w : World) (b n q : Nat) (v : Value) (l : List Nat) (L : Nat) (hL : L < 2) (hn : n ≤ 4000) (hl : l.length = q) (hbz : b < w.heap.size) (own : ownsW w (b + 1) v l)
    (c0 : w.cell? ⟨b, 0, none⟩ = some (.int .i64 (n : Int))) (c1 : w.cell? ⟨b, 1, none⟩ = some v) (c2 : w.cell? ⟨b, 2, none⟩ = some (.bool false))
    (f0 : w.frozen? ⟨b, 0, none⟩ = false) (f1 : w.frozen? ⟨b, 1, none⟩ = false)
    (e3 : (n : Int).tdiv 64 = (q : Int)) (e4 : (n : Int).tmod 64 = 0) (hq3 : q ≤ 1000) :
    Calls Tryz.prog 31 #[.pointer (some ⟨b, 0, none⟩), .int .i64 (L : Int)] w fun o w' => ∃ w1 g cp, ownsW w1 (b + 1) (.slice (some ⟨g, 0, none⟩) (q + 1) cp) (l ++ [0]) ∧ Below (b + 1) w w1 ∧ Lib.OthersKept 64 none w w1 ∧ o = .returned (.tuple #[]) ∧ w' = (((w1.setCell ⟨b, 1, none⟩ (.slice (some ⟨g, 0, none⟩) (q + 1) cp)).setCell ⟨g, q, none⟩ (.int .u64 (bits BinOp.or IntKind.u64 0 ((L : Int) * 9223372036854775808)))).setCell ⟨b, 0, none⟩ (.int .i64 ((n : Int) + 1))).drew := by
  have HO : Hid (ownsW w (b + 1) v l) := own
  have HL : Hid (l.length = q) := hl
  clear own hl
  go_enter Tryz.func31, Tryz.ntmps31
  go_wp2_with (first | (at_builtin; refine app_word2 w w rfl (.tmp 14) (.tmp 15) rfl (b + 1) _ l 0 _ rfl rfl HO.out rfl (by have := HL.out; omega) (by omega) (Below.refl _ _) ?_))
  intro v1 w1 ho1 hb1 hk1 hz1
  obtain ⟨g, cp, e, hgB, hgz, hcp, hcm, hrow⟩ := ho1.open (by simp)
  have hlen : (l ++ [0]).length = q + 1 := by simp [HL.out]
  rw [hlen] at e hcp hrow
  subst e
  have hc : w1.cell? ⟨g, q, none⟩ = some (.int .u64 0) := by
    rw [hrow.cell q (by omega)]
    have := HL.out
    subst this
    simp [List.getD]
  have hf := hrow.free q (by omega)
  have d0 := (hb1.cell (p := ⟨b, 0, none⟩) (by simp)).trans c0
  have d2 := (hb1.cell (p := ⟨b, 2, none⟩) (by simp)).trans c2
  have d1 := (hb1.cell (p := ⟨b, 1, none⟩) (by simp)).trans c1
  have g0 := (hb1.frozen (p := ⟨b, 0, none⟩) (by simp)).trans f0
  have g1 := (hb1.frozen (p := ⟨b, 1, none⟩) (by simp)).trans f1
  have HR : Hid (ownsW w1 (b + 1) (.slice (some ⟨g, 0, none⟩) (q + 1) cp) (l ++ [0]) ∧ Below (b + 1) w w1 ∧ Lib.OthersKept 64 none w w1) := ⟨ho1, hb1, hk1⟩
  have hgb : ¬ b = g := by omega
  clear ho1 hb1 hk1 hrow hlen c0 c1 c2 f0 f1 hcm
  go_wp2
  go_region
  go_wp2
  refine bodyPost_ret (results_none rfl _ _ _) rfl ?_
  exact ⟨w1, g, cp, HR.out.1, HR.out.2.1, HR.out.2.2, rfl, rfl⟩
/-- word q behind n bits -/
def wq (s : ByteArray) (n q : Nat) : Nat := PV s q (min 64 (n - 64 * q)) * 2 ^ (64 - min 64 (n - 64 * q))
/-- the words behind n bits -/
def wn (s : ByteArray) (n : Nat) : List Nat := (List.range ((n + 63) / 64)).map (wq s n)
theorem wn_len (s : ByteArray) (n : Nat) : (wn s n).length = (n + 63) / 64 := by simp [wn]
theorem wq_lt (s : ByteArray) (n q : Nat) : wq s n q < 18446744073709551616 := by
  unfold wq
  have h := PV_lt s q (min 64 (n - 64 * q))
  have hm : min 64 (n - 64 * q) ≤ 64 := Nat.min_le_left _ _
  generalize min 64 (n - 64 * q) = r at *
  have e : (2 : Nat) ^ r * 2 ^ (64 - r) = 18446744073709551616 := by rw [← Nat.pow_add, show r + (64 - r) = 64 by omega]
  rw [← e]
  exact Nat.mul_lt_mul_of_pos_right h (Nat.pos_of_ne_zero (by simp))
theorem wq_full (s : ByteArray) (n q : Nat) (h : 64 * q + 64 ≤ n) : wq s (n + 1) q = wq s n q := by
  unfold wq
  rw [show min 64 (n + 1 - 64 * q) = 64 by omega, show min 64 (n - 64 * q) = 64 by omega]
theorem wq_step (s : ByteArray) (q r : Nat) (h : r < 64) : wq s (64 * q + r + 1) q = wq s (64 * q + r) q + fb s (64 * q + r) * 2 ^ (63 - r) := by
  unfold wq
  rw [show min 64 (64 * q + r + 1 - 64 * q) = r + 1 by omega, show min 64 (64 * q + r - 64 * q) = r by omega]
  show (2 * PV s q r + fb s (64 * q + r)) * _ = _
  have e : 64 - r = (63 - r) + 1 := by omega
  rw [show 64 - (r + 1) = 63 - r by omega, e, Nat.pow_succ, Nat.add_mul]
  congr 1
  rw [Nat.mul_comm 2 (PV s q r), Nat.mul_assoc, Nat.mul_comm 2]
theorem wq_dvd (s : ByteArray) (q r : Nat) (h : r < 64) : wq s (64 * q + r) q % 2 ^ (64 - r) = 0 := by
  unfold wq
  rw [show min 64 (64 * q + r - 64 * q) = r by omega]
  exact Nat.mul_mod_left _ _
theorem wq_zero (s : ByteArray) (q : Nat) : wq s (64 * q) q = 0 := by
  unfold wq
  rw [show min 64 (64 * q - 64 * q) = 0 by omega]
  simp [PV]
theorem wn_at (s : ByteArray) (n q : Nat) (h : q < (wn s n).length) : (wn s n)[q] = wq s n q := by simp [wn]
theorem wn_mid (s : ByteArray) (q r : Nat) (h0 : 0 < r) (h : r < 64) : wn s (64 * q + r + 1) = (wn s (64 * q + r)).set q (wq s (64 * q + r) q + fb s (64 * q + r) * 2 ^ (63 - r)) := by
  apply List.ext_getElem
  · simp only [List.length_set, wn_len]; omega
  · intro i h1 h2
    rw [wn_at, List.getElem_set]
    split
    · subst i; exact wq_step s q r h
    · rw [wn_at]
      rw [wn_len] at h1
      exact wq_full s _ _ (by omega)
theorem wn_new (s : ByteArray) (q : Nat) : wn s (64 * q + 1) = (wn s (64 * q) ++ [0]).set q (fb s (64 * q) * 2 ^ 63) := by
  apply List.ext_getElem
  · simp only [List.length_set, List.length_append, List.length_singleton, wn_len]; omega
  · intro i h1 h2
    have hl := wn_len s (64 * q)
    rw [wn_at, List.getElem_set]
    split
    · subst i
      have := wq_step s q 0 (by decide)
      simp only [Nat.add_zero, wq_zero, Nat.zero_add] at this
      exact this
    · rw [wn_len] at h1
      rw [List.getElem_append_left (by omega), wn_at]
      exact wq_full s _ _ (by omega)
theorem PV_pad (s : ByteArray) (q r : Nat) (h : s.size ≤ 64 * q + r) (d : Nat) : PV s q (r + d) = PV s q r * 2 ^ d := by
  induction d with
  | zero => simp
  | succ d ih =>
    show 2 * PV s q (r + d) + fb s (64 * q + (r + d)) = _
    rw [ih, fb_end (by omega), Nat.pow_succ, Nat.add_zero, Nat.mul_comm 2, Nat.mul_assoc]
theorem wn_end (s : ByteArray) : wn s s.size = pkL s ((s.size + 63) / 64) := by
  unfold wn pkL
  apply List.map_congr_left
  intro q hq
  rw [List.mem_range] at hq
  unfold wq
  by_cases h : 64 * q + 64 ≤ s.size
  · rw [show min 64 (s.size - 64 * q) = 64 by omega]
    simp
  · have hm : min 64 (s.size - 64 * q) = s.size - 64 * q := by omega
    rw [hm]
    have := PV_pad s q (s.size - 64 * q) (by omega) (64 - (s.size - 64 * q))
    rw [show s.size - 64 * q + (64 - (s.size - 64 * q)) = 64 by omega] at this
    exact this.symm
/-- the writer in block b behind n bits of s -/
structure bwI (w0 : World) (b : Nat) (s : ByteArray) (n : Nat) (W : World) : Prop where
  row : ∃ v, W.heap[b]? = some (.cells #[.int .i64 (n : Int), v, .bool false, .int .i32 0, .int .i64 0] 61) ∧ ownsW W (b + 1) v (wn s n)
  bel : Below b w0 W
theorem bw_cells {W : World} {b : Nat} {x0 x1 x2 x3 x4 : Value} (h : W.heap[b]? = some (.cells #[x0, x1, x2, x3, x4] 61)) :
    W.cell? ⟨b, 0, none⟩ = some x0 ∧ W.cell? ⟨b, 1, none⟩ = some x1 ∧ W.cell? ⟨b, 2, none⟩ = some x2 ∧ W.frozen? ⟨b, 0, none⟩ = false ∧ W.frozen? ⟨b, 1, none⟩ = false ∧ b < W.heap.size := by
  refine ⟨?_, ?_, ?_, ?_, ?_, ?_⟩
  · simp [World.cell?, h]
  · simp [World.cell?, h]
  · simp [World.cell?, h]
  · simp [World.frozen?, h]
  · simp [World.frozen?, h]
  · rw [Array.getElem?_eq_some_iff] at h; exact h.1
theorem new_or (L : Nat) (hL : L < 2) : bits BinOp.or IntKind.u64 0 ((L : Int) * 9223372036854775808) = ((L * 2 ^ 63 : Nat) : Int) := by
  have := u64_or_nat 0 (L * 2 ^ 63) (by decide) (by omega)
  rw [Nat.zero_or] at this
  rw [← this]
  congr 1
theorem bw_new {w0 w1 : World} {b g q n cp : Nat} {v : Value} {l l' : List Nat} {x : Nat} {X : Int} (hX : X = (x : Int)) (hh : w1.heap[b]? = some (.cells #[.int .i64 (n : Int), v, .bool false, .int .i32 0, .int .i64 0] 61))
    (ho : ownsW w1 (b + 1) (.slice (some ⟨g, 0, none⟩) l.length cp) l) (hgb : ¬ b = g) (hb : Below b w0 w1) (hbg : b ≤ g) (hl' : l' = l.set q x) :
    (((w1.setCell ⟨b, 1, none⟩ (.slice (some ⟨g, 0, none⟩) l.length cp)).setCell ⟨g, q, none⟩ (.int .u64 X)).setCell ⟨b, 0, none⟩ (.int .i64 ((n : Int) + 1))).drew.heap[b]? = some (.cells #[.int .i64 ((n + 1 : Nat) : Int), .slice (some ⟨g, 0, none⟩) l.length cp, .bool false, .int .i32 0, .int .i64 0] 61) ∧
    ownsW (((w1.setCell ⟨b, 1, none⟩ (.slice (some ⟨g, 0, none⟩) l.length cp)).setCell ⟨g, q, none⟩ (.int .u64 X)).setCell ⟨b, 0, none⟩ (.int .i64 ((n : Int) + 1))).drew (b + 1) (.slice (some ⟨g, 0, none⟩) l.length cp) l' ∧
    Below b w0 (((w1.setCell ⟨b, 1, none⟩ (.slice (some ⟨g, 0, none⟩) l.length cp)).setCell ⟨g, q, none⟩ (.int .u64 X)).setCell ⟨b, 0, none⟩ (.int .i64 ((n : Int) + 1))).drew := by
  subst hX hl'
  refine ⟨?_, ?_, ?_⟩
  · show (((w1.setCell ⟨b, 1, none⟩ _).setCell ⟨g, q, none⟩ _).setCell ⟨b, 0, none⟩ _).heap[b]? = _
    have h1 := heap_setCell_same w1 b 1 _ _ (.slice (some ⟨g, 0, none⟩) l.length cp) hh
    have h2 := (heap_setCell_other (w1.setCell ⟨b, 1, none⟩ (.slice (some ⟨g, 0, none⟩) l.length cp)) ⟨g, q, none⟩ b (.int .u64 (x : Int)) (by show b ≠ g; exact hgb)).trans h1
    rw [heap_setCell_same _ b 0 _ _ (.int .i64 ((n : Int) + 1)) h2]
    simp
  · have h3 := ((ho.setCellO b 1 (.slice (some ⟨g, 0, none⟩) l.length cp) (by omega)).stored q x).setCellO b 0 (.int .i64 ((n : Int) + 1)) (by omega)
    exact h3.otherBlock fun _ _ => rfl
  · exact (((hb.setCell (p := ⟨b, 1, none⟩) (by simp) _).setCell (p := ⟨g, q, none⟩) (by simpa using hbg) _).setCell (p := ⟨b, 0, none⟩) (by simp) _).drew
theorem kept_cell {b : Option Nat} {a w : World} (h : Lib.OthersKept 64 b a w) {g : Nat} (hg : ∃ c fz, w.heap[g]? = some (.cells c 64 fz)) (j : Nat) (x : Value) : Lib.OthersKept 64 b a (w.setCell ⟨g, j, none⟩ x) := by
  intro k o hk hb ho
  have h1 := h k o hk hb ho
  rw [heap_setCell_other w ⟨g, j, none⟩ k x (fun e => ?_)]
  · exact h1
  · obtain ⟨c, fz, hc⟩ := hg
    have e' : k = g := e
    subst e'
    rw [h1] at hc
    exact ho c fz (Option.some.inj hc)
theorem kept_weak {b : Option Nat} {w w' : World} (h : Lib.OthersKept 64 none w w') : Lib.OthersKept 64 b w w' := fun k o hk _ ho => h k o hk (by simp) ho
theorem kept_new {w w1 : World} {b g q n : Nat} (hk : Lib.OthersKept 64 none w w1) (hg : ∃ c fz, w1.heap[g]? = some (.cells c 64 fz)) (e : g ≠ b) {X : Int} {v : Value} :
    Lib.OthersKept 64 (some b) w (((w1.setCell ⟨b, 1, none⟩ v).setCell ⟨g, q, none⟩ (.int .u64 X)).setCell ⟨b, 0, none⟩ (.int .i64 ((n : Int) + 1))).drew := by
  refine ((kept_cell ((kept_weak hk).setCell ⟨b, 1, none⟩ rfl v) ?_ q _).setCell ⟨b, 0, none⟩ rfl _).drew
  obtain ⟨c, fz, hc⟩ := hg
  exact ⟨c, fz, (heap_setCell_other w1 ⟨b, 1, none⟩ g v e).trans hc⟩
theorem bit_step (w0 w : World) (b n : Nat) (s : ByteArray) (h : bwI w0 b s n w) (hn : n ≤ 4000) :
    Calls Tryz.prog 31 #[.pointer (some ⟨b, 0, none⟩), .int .i64 (fb s n : Int)] w fun o w' => o = .returned (.tuple #[]) ∧ bwI w0 b s (n + 1) w' ∧ Lib.OthersKept 64 (some b) w w' := by
  obtain ⟨⟨v, hh, own⟩, hbel⟩ := h
  obtain ⟨c0, c1, c2, f0, f1, hbz⟩ := bw_cells hh
  have hL := fb_lt s n
  have e3 : (n : Int).tdiv 64 = ((n / 64 : Nat) : Int) := by rw [Int.tdiv_eq_ediv_of_nonneg (by omega)]; omega
  have e4 : (n : Int).tmod 64 = ((n % 64 : Nat) : Int) := by rw [Int.tmod_eq_emod_of_nonneg (by omega)]; omega
  have en : 64 * (n / 64) + n % 64 = n := by omega
  by_cases hr : n % 64 = 0
  · refine (bit_new w b n (n / 64) v (wn s n) (fb s n) hL hn (by rw [wn_len]; omega) hbz own c0 c1 c2 f0 f1 e3 (by rw [e4, hr]; rfl) (by omega)).mono ?_
    rintro o w' ⟨w1, g, cp, ho, hb, hk, rfl, rfl⟩
    have hg := (World.ownsRow.lt ho g (by simp [Value.ownBlock])).1
    have hkk := kept_new (b := b) (q := n / 64) (n := n) hk (ho.kind g (by simp [Value.ownBlock])) (by omega) (X := bits BinOp.or IntKind.u64 0 ((fb s n : Int) * 9223372036854775808)) (v := .slice (some ⟨g, 0, none⟩) (n / 64 + 1) cp)
    have hl : (wn s n ++ [0]).length = n / 64 + 1 := by simp [wn_len]; omega
    have hh1 := (hb.block b (by omega)).trans hh
    have e : wn s (n + 1) = (wn s n ++ [0]).set (n / 64) (fb s n * 2 ^ 63) := by
      have := wn_new s (n / 64)
      rw [show 64 * (n / 64) = n by omega] at this
      exact this
    rw [← hl] at ho
    have := bw_new (w0 := w0) (q := n / 64) (new_or (fb s n) hL) hh1 ho (by omega) (hbel.trans (hb.mono (by omega))) (by omega) e
    rw [hl] at this
    exact ⟨rfl, ⟨⟨_, this.1, this.2.1⟩, this.2.2⟩, hkk⟩
  · have hne : wn s n ≠ [] := by intro e; have := wn_len s n; rw [e] at this; simp at this; omega
    obtain ⟨g, cp, rfl, hgB, hgz, hcp, hcm, hrow⟩ := own.open hne
    have hlen := wn_len s n
    have hq : n / 64 < (wn s n).length := by omega
    have hc : w.cell? ⟨g, n / 64, none⟩ = some (.int .u64 (wq s n (n / 64) : Int)) := by
      rw [hrow.cell _ hq, getD_at _ _ hq, wn_at]
    refine (bit_mid w b g cp (wn s n).length n (n / 64) (n % 64) (wq s n (n / 64)) (fb s n) hL hn c0 c1 c2 f0 (by omega) e3 e4 (by simp; omega) (by omega) hq (by omega) hc (hrow.free _ hq)).mono ?_
    rintro o w' ⟨rfl, rfl⟩
    have hd : wq s n (n / 64) % 2 ^ (64 - n % 64) = 0 := by
      have := wq_dvd s (n / 64) (n % 64) (by omega)
      rw [en] at this
      exact this
    have e : wn s (n + 1) = (wn s n).set (n / 64) (wq s n (n / 64) + fb s n * 2 ^ (63 - n % 64)) := by
      have := wn_mid s (n / 64) (n % 64) (by omega) (by omega)
      rw [en] at this
      exact this
    rw [or_sum _ _ _ hL (by omega) (wq_lt s n (n / 64)) hd]
    refine ⟨rfl, ⟨⟨.slice (some ⟨g, 0, none⟩) (wn s n).length cp, ?_, ?_⟩, ?_⟩, ?_⟩
    · show ((w.setCell ⟨g, n / 64, none⟩ _).setCell ⟨b, 0, none⟩ _).heap[b]? = _
      have h2 := (heap_setCell_other w ⟨g, n / 64, none⟩ b (.int .u64 ((wq s n (n / 64) + fb s n * 2 ^ (63 - n % 64) : Nat) : Int)) (by show b ≠ g; omega)).trans hh
      rw [heap_setCell_same _ b 0 _ _ (.int .i64 ((n : Int) + 1)) h2]
      simp
    · rw [e]
      exact ((own.stored (n / 64) (wq s n (n / 64) + fb s n * 2 ^ (63 - n % 64))).setCellO b 0 (.int .i64 ((n : Int) + 1)) (by omega)).otherBlock fun _ _ => rfl
    · exact ((hbel.setCell (p := ⟨g, n / 64, none⟩) (by simp; omega) _).setCell (p := ⟨b, 0, none⟩) (by simp) _).drew
    · exact ((kept_cell (Lib.OthersKept.refl 64 (some b) w) (own.kind g (by simp [Value.ownBlock])) _ _).setCell ⟨b, 0, none⟩ rfl _).drew
theorem own_none (w : World) (B : Nat) : ownsW w B (.slice none 0 0) [] := ⟨by simp [wv], .inl ⟨rfl, rfl⟩⟩
theorem wn_zero (s : ByteArray) : wn s 0 = [] := by simp [wn]
/-- the writer and the iterator behind k letters -/
structure pkS (w0 : World) (b : Nat) (s : ByteArray) (k : Nat) (W : World) : Prop where
  bw : bwI w0 b s k W
  it : W.heap[b + 1]? = some (.stringIter s k)
theorem pkS.next {w0 : World} {b : Nat} {s : ByteArray} {k : Nat} {W : World} (h : pkS w0 b s k W) (k' : Nat) : bwI w0 b s k (W.iterAt (b + 1) s k') ∧ (W.iterAt (b + 1) s k').heap[b + 1]? = some (.stringIter s k') := by
  obtain ⟨⟨v, hh, own⟩, hbel⟩ := h.bw
  refine ⟨⟨⟨v, (Lib.iterAt_other W (b + 1) b s k' (by omega)).trans hh, own.otherBlock fun g hg => ?_⟩, Lib.below_iterAt hbel (by omega) s k'⟩, Lib.iterAt_heap W (b + 1) s k k' h.it⟩
  obtain ⟨c, fz, hc⟩ := own.kind g hg
  refine Lib.iterAt_other W (b + 1) g s k' (fun e => ?_)
  rw [e, h.it] at hc
  cases hc
theorem ownsW.slice {w : World} {B : Nat} {v : Value} {l : List Nat} (h : ownsW w B v l) : ∃ ao cp, v = .slice ao l.length cp ∧ l.length ≤ cp := by
  obtain ⟨_, ⟨rfl, h2⟩ | ⟨g, cap, cur, rfl, hb, hh, hc, _⟩⟩ := h
  · exact ⟨none, 0, by rw [h2], by omega⟩
  · exact ⟨_, cap, rfl, hc⟩
theorem ownsW.lower {w : World} {B B' : Nat} {v : Value} {l : List Nat} (h : ownsW w B v l) (hB : B' ≤ B) : ownsW w B' v l := by
  obtain ⟨h1, h2 | ⟨g, cap, cur, rfl, hb, rest⟩⟩ := h
  · exact ⟨h1, .inl h2⟩
  · exact ⟨h1, .inr ⟨g, cap, cur, rfl, by omega, rest⟩⟩
theorem ownsW.cap {w : World} {B : Nat} {ao : Option Addr} {n cp : Nat} {l : List Nat} (h : ownsW w B (.slice ao n cp) l) (hn : n = l.length) : n ≤ cp := by
  obtain ⟨ao', cp', e, h2⟩ := h.slice
  cases e
  omega
theorem finish_any (w : World) (b : Nat) (n : Nat) (ao : Option Addr) (m cp : Nat) (hh : w.heap[b]? = some (.cells #[.int .i64 (n : Int), .slice ao m cp, .bool false, .int .i32 0, .int .i64 0] 61)) :
    Calls Tryz.prog 32 #[.pointer (some ⟨b, 0, none⟩)] w fun o w' => o = .returned (pkV (n : Int) ao m cp) ∧ Below w.heap.size w w' := by
  obtain ⟨c0, c1, -, -, -, hbz⟩ := bw_cells hh
  go_enter Tryz.func32, Tryz.ntmps32
  go_wp2
  go_region
  go_wp2
  refine bodyPost_ret (v := pkV (n : Int) ao m cp) (by simp [results, Tryz.results32, go_sem]) rfl ?_
  exact ⟨rfl, ((Below.refl _ _).alloc (Nat.le_refl _) _).drew⟩
theorem fb_at {s : ByteArray} (hs : okT s 4000 = true) (k : Nat) (h : k < s.size) : (s[k].toNat = 48 ∧ fb s k = 0) ∨ (s[k].toNat = 49 ∧ fb s k = 1) := by
  unfold okT at hs; rw [Bool.and_eq_true] at hs
  rcases okC_val (List.all_eq_true.1 hs.2 s[k] (by rw [Array.mem_toList_iff]; exact Array.getElem_mem (xs := s.data) (i := k) h)) with h1 | h1
  · exact .inl ⟨h1, fb_zero h (by omega)⟩
  · exact .inr ⟨h1, fb_one h (by omega)⟩
set_option maxHeartbeats 2000000 in
set_option maxRecDepth 20000 in
theorem implPack_ok (s : ByteArray) (w : World) (hs : okT s 4000 = true) (hz : s.size ≤ 4000) :
    Calls Tryz.prog 6 #[.string s] w fun o w' => ∃ ao cap, o = .returned (pkV (s.size : Int) ao ((s.size + 63) / 64) cap) ∧ (s.size + 63) / 64 ≤ cap ∧ ownsW w' w.heap.size (.slice ao ((s.size + 63) / 64) cap) (pkL s ((s.size + 63) / 64)) ∧ Below w.heap.size w w' := by
  have HS : Hid (okT s 4000 = true) := hs
  clear hs
  go_enter Tryz.func6, Tryz.ntmps6
  go_wp2_with (first | (go_at_call 30; refine (isBitText_any _ _ _).mono ?_; rw [HS.out]; rintro o w1 ⟨rfl, hb1⟩))
  have hb2 : Below w.heap.size w w1 := ((Below.refl _ _).alloc (Nat.le_refl _) _).trans (hb1.mono (by simp))
  have hres := hb1.block w.heap.size (by simp)
  have hresf : w1.heap[w.heap.size]? = some (.cells #[.int .i64 0, .slice none 0 0] 27) := by rw [hres]; exact heap_alloc_new w _
  have hwz : w.heap.size < w1.heap.size := lt_of_block hresf
  have st0 : pkS w1 w1.heap.size s 0 ((w1.alloc (.cells #[.int .i64 0, .slice none 0 0, .bool false, .int .i32 0, .int .i64 0] 61)).iter s 0) := by
    refine ⟨⟨⟨.slice none 0 0, ?_, by rw [wn_zero]; exact own_none _ _⟩, ((Below.refl _ _).alloc (Nat.le_refl _) _).alloc (by simp) _⟩, ?_⟩
    · unfold World.iter
      rw [Below.heap_alloc _ _ _ (by simp)]
      exact heap_alloc_new w1 _
    · have := World.iter_heap (w1.alloc (.cells #[.int .i64 0, .slice none 0 0, .bool false, .int .i32 0, .int .i64 0] 61)) s 0
      simpa using this
  have HR : Hid (Below w.heap.size w w1 ∧ w1.heap[w.heap.size]? = some (.cells #[.int .i64 0, .slice none 0 0] 27)) := ⟨hb2, hresf⟩
  clear hb1 hb2 hres hresf
  generalize hb : w1.heap.size = b at *
  go_loopw [5] (fun _ wr => ∃ k : Nat, k ≤ s.size ∧ pkS w1 b s k wr) (fun _ wr => s.size - wr.iterPos (b + 1))
  case atStart => exact ⟨0, Nat.zero_le _, st0⟩
  case round =>
    clear st0
    obtain ⟨k, hk, st⟩ := hrel
    by_cases hlt : k < s.size
    · have hv := fb_at HS.out k hlt
      have hnx := fun ty => Lib.run_next_ascii_at (P := Tryz.prog) wr (b + 1) s k ty st.it hlt (by rcases hv with h | h <;> omega)
      have st1 := st.next (k + 1)
      have HP : Hid (wr.iterPos (b + 1) = k) := iterPos_of st.it
      clear st
      generalize wr.iterAt (b + 1) s (k + 1) = wr1 at *
      have HC : Hid (Calls Tryz.prog 31 #[.pointer (some ⟨b, 0, none⟩), .int .i64 (fb s k : Int)] wr1 fun o w' => o = .returned (.tuple #[]) ∧ pkS w1 b s (k + 1) w') := by
        refine (bit_step w1 wr1 b k s st1.1 (by omega)).mono ?_
        rintro o w' ⟨rfl, hbw, hkp⟩
        exact ⟨rfl, hbw, hkp _ _ st1.2 (by simp) (by intro c fz e; cases e)⟩
      clear st1
      rcases hv with ⟨h48, hf⟩ | ⟨h49, hf⟩
      · rw [h48] at hnx
        rw [hf] at HC
        go_wp2_with (first | (go_at_call 31; refine HC.out.mono ?_; rintro o w2 ⟨rfl, st2⟩))
        go_roundw
        case rel => exact ⟨k + 1, by omega, st2⟩
        case measure => rw [iterPos_of st2.it, HP.out]; omega
      · rw [h49] at hnx
        rw [hf] at HC
        go_wp2_with (first | (go_at_call 31; refine HC.out.mono ?_; rintro o w2 ⟨rfl, st2⟩))
        go_roundw
        case rel => exact ⟨k + 1, by omega, st2⟩
        case measure => rw [iterPos_of st2.it, HP.out]; omega
    · have hke : k = s.size := by omega
      subst hke
      have hnx : ∀ ty, (Instr.next (.pointer (some ⟨b + 1, 0, none⟩)) true ty).run Tryz.prog wr = _ := fun ty => Lib.run_next_end_at wr (b + 1) s s.size ty st.it hlt
      obtain ⟨⟨v, hh, own⟩, hbel⟩ := st.bw
      rw [wn_end] at own
      obtain ⟨ao, cp, rfl, hcp⟩ := own.slice
      rw [pkL_len] at hh hcp own
      have HF : Hid (Calls Tryz.prog 32 #[.pointer (some ⟨b, 0, none⟩)] wr fun o w' => o = .returned (pkV (s.size : Int) ao ((s.size + 63) / 64) cp) ∧ Below wr.heap.size wr w') := finish_any wr b s.size ao _ cp hh
      have HO : Hid (ownsW wr (b + 1) (.slice ao ((s.size + 63) / 64) cp) (pkL s ((s.size + 63) / 64)) ∧ (s.size + 63) / 64 ≤ cp ∧ Below b w1 wr) := ⟨own, hcp, hbel⟩
      clear st own hcp hbel hh hlt
      have HD : Hid (∀ w2, Below wr.heap.size wr w2 → w2.cell? ⟨w.heap.size, 0, none⟩ = some (.int .i64 0) ∧ w2.cell? ⟨w.heap.size, 1, none⟩ = some (.slice none 0 0) ∧ w2.frozen? ⟨w.heap.size, 0, none⟩ = false ∧ w2.frozen? ⟨w.heap.size, 1, none⟩ = false) := by
        intro w2 hb2
        have h0 := (HO.out.2.2.block w.heap.size hwz).trans HR.out.2
        have h1 := (hb2.block w.heap.size (lt_of_block h0)).trans h0
        exact ⟨by simp [World.cell?, h1], by simp [World.cell?, h1], by simp [World.frozen?, h1], by simp [World.frozen?, h1]⟩
      go_wp2_with (first | (go_at_call 32; refine HF.out.mono ?_; rintro o w2 ⟨rfl, hb2⟩; obtain ⟨d0, d1, g0, g1⟩ := HD.out w2 hb2))
      refine bodyPost_ret (v := pkV (s.size : Int) ao ((s.size + 63) / 64) cp) (by simp [results, Tryz.results6, go_sem, d0, d1]) rfl ?_
      have ho2 : ownsW w2 (b + 1) (.slice ao ((s.size + 63) / 64) cp) (pkL s ((s.size + 63) / 64)) := HO.out.1.otherBlock fun g hg => hb2.block g (World.ownsRow.lt HO.out.1 g hg).2
      have hB : Below w.heap.size w w2 := HR.out.1.trans ((HO.out.2.2.mono (by omega)).trans (hb2.mono (by have := Below.size HO.out.2.2; omega)))
      have H2 := (ho2.setCellO w.heap.size 0 (.int .i64 (s.size : Int)) (by omega)).setCellO w.heap.size 1 (.slice ao ((s.size + 63) / 64) cp) (by omega)
      exact ⟨ao, cp, rfl, HO.out.2.1, H2.lower (by omega), (hB.setCell (p := ⟨_, 0, none⟩) (by simp) _).setCell (p := ⟨_, 1, none⟩) (by simp) _⟩
set_option linter.unusedVariables false
theorem PV_congr {s t : ByteArray} {q : Nat} : ∀ j, (∀ i, i < j → fb s (64 * q + i) = fb t (64 * q + i)) → PV s q j = PV t q j
  | 0, _ => rfl
  | j + 1, h => by
    show 2 * PV s q j + fb s (64 * q + j) = 2 * PV t q j + fb t (64 * q + j)
    rw [PV_congr j (fun i hi => h i (by omega)), h j (by omega)]
theorem wn_congr {s t : ByteArray} {n : Nat} (h : ∀ i, i < n → fb s i = fb t i) : wn s n = wn t n := by
  unfold wn
  apply List.map_congr_left
  intro q hq
  unfold wq
  rw [PV_congr _ (fun i hi => h _ (by have := Nat.min_le_right 64 (n - 64 * q); omega))]
theorem fb_str (l : List Nat) (i : Nat) (h : i < l.length) (hl : ∀ x ∈ l, J.M.isL x) : fb (strN l) i = l[i] - 48 := by
  have hs : (strN l).size = l.length := by simp [strN, ByteArray.size]
  have hx := hl l[i] (List.getElem_mem h)
  unfold fb
  rw [dif_pos (by omega)]
  have e : ((strN l)[i]'(by omega)).toNat = l[i] := by
    show (UInt8.toNat ((l.map UInt8.ofNat).toArray[i]'(by simp; omega))) = _
    simp
    rcases hx with hx | hx <;> omega
  rw [e]
  rcases hx with hx | hx <;> rw [hx] <;> rfl
/-- the words of a list of letters -/
def wl (o : List Nat) : List Nat := wn (strN o) o.length
theorem wl_snoc_wn (o : List Nat) (c : Nat) (ho : ∀ x ∈ o, J.M.isL x) (hc : J.M.isL c) : wn (strN (o ++ [c])) o.length = wl o := by
  refine wn_congr fun i hi => ?_
  rw [fb_str (o ++ [c]) i (by simp; omega) (by intro x hx; rw [List.mem_append] at hx; rcases hx with hx | hx; exact ho x hx; simp at hx; subst hx; exact hc), fb_str o i hi ho, List.getElem_append_left hi]
theorem fb_last (o : List Nat) (c : Nat) (ho : ∀ x ∈ o, J.M.isL x) (hc : J.M.isL c) : fb (strN (o ++ [c])) o.length = c - 48 := by
  rw [fb_str (o ++ [c]) o.length (by simp) (by intro x hx; rw [List.mem_append] at hx; rcases hx with hx | hx; exact ho x hx; simp at hx; subst hx; exact hc)]
  simp
theorem wl_new (o : List Nat) (c : Nat) (ho : ∀ x ∈ o, J.M.isL x) (hc : J.M.isL c) (hr : o.length % 64 = 0) : wl (o ++ [c]) = (wl o ++ [0]).set (o.length / 64) ((c - 48) * 2 ^ 63) := by
  have := wn_new (strN (o ++ [c])) (o.length / 64)
  rw [show 64 * (o.length / 64) = o.length by omega, wl_snoc_wn o c ho hc, fb_last o c ho hc] at this
  unfold wl at this ⊢
  rw [List.length_append]
  exact this
theorem wl_mid (o : List Nat) (c : Nat) (ho : ∀ x ∈ o, J.M.isL x) (hc : J.M.isL c) (hr : ¬ o.length % 64 = 0) : wl (o ++ [c]) = (wl o).set (o.length / 64) (wq (strN o) o.length (o.length / 64) + (c - 48) * 2 ^ (63 - o.length % 64)) := by
  have e := wl_snoc_wn o c ho hc
  have := wn_mid (strN (o ++ [c])) (o.length / 64) (o.length % 64) (by omega) (by omega)
  rw [show 64 * (o.length / 64) + o.length % 64 = o.length by omega, e, fb_last o c ho hc] at this
  have e2 : wq (strN (o ++ [c])) o.length (o.length / 64) = wq (strN o) o.length (o.length / 64) := by
    unfold wq
    rw [PV_congr _ (fun i hi => ?_)]
    have hi' : 64 * (o.length / 64) + i < o.length := by have := Nat.min_le_right 64 (o.length - 64 * (o.length / 64)); omega
    rw [fb_str (o ++ [c]) _ (by simp; omega) (by intro x hx; rw [List.mem_append] at hx; rcases hx with hx | hx; exact ho x hx; simp at hx; subst hx; exact hc), fb_str o _ hi' ho, List.getElem_append_left hi']
  rw [e2] at this
  unfold wl at this ⊢
  rw [List.length_append]
  exact this
theorem wl_len (o : List Nat) : (wl o).length = (o.length + 63) / 64 := wn_len _ _
/-- the writer in block b: what it has written, whether it stuffs, its run -/
structure bwS (w0 : World) (b : Nat) (o : List Nat) (st : Bool) (r : Nat × Nat) (W : World) : Prop where
  row : ∃ v, W.heap[b]? = some (.cells #[.int .i64 (o.length : Int), v, .bool st, .int .i32 (r.1 : Int), .int .i64 (r.2 : Int)] 61) ∧ ownsW W (b + 1) v (wl o)
  bel : Below b w0 W
theorem bw5 {W : World} {b : Nat} {x0 x1 x2 x3 x4 : Value} (h : W.heap[b]? = some (.cells #[x0, x1, x2, x3, x4] 61)) :
    (W.cell? ⟨b, 0, none⟩ = some x0 ∧ W.cell? ⟨b, 1, none⟩ = some x1 ∧ W.cell? ⟨b, 2, none⟩ = some x2 ∧ W.cell? ⟨b, 3, none⟩ = some x3 ∧ W.cell? ⟨b, 4, none⟩ = some x4) ∧ (∀ j, W.frozen? ⟨b, j, none⟩ = false) ∧ b < W.heap.size := by
  refine ⟨⟨?_, ?_, ?_, ?_, ?_⟩, fun j => ?_, ?_⟩
  iterate 5 simp [World.cell?, h]
  · simp [World.frozen?, h]
  · rw [Array.getElem?_eq_some_iff] at h; exact h.1
theorem bw_newG {w0 w1 : World} {b g q n cp : Nat} {v x2 x3 x4 : Value} {l l' : List Nat} {x : Nat} {X : Int} (hX : X = (x : Int)) (hh : w1.heap[b]? = some (.cells #[.int .i64 (n : Int), v, x2, x3, x4] 61))
    (ho : ownsW w1 (b + 1) (.slice (some ⟨g, 0, none⟩) l.length cp) l) (hgb : ¬ b = g) (hb : Below b w0 w1) (hbg : b ≤ g) (hl' : l' = l.set q x) :
    (((w1.setCell ⟨b, 1, none⟩ (.slice (some ⟨g, 0, none⟩) l.length cp)).setCell ⟨g, q, none⟩ (.int .u64 X)).setCell ⟨b, 0, none⟩ (.int .i64 ((n : Int) + 1))).drew.heap[b]? = some (.cells #[.int .i64 ((n + 1 : Nat) : Int), .slice (some ⟨g, 0, none⟩) l.length cp, x2, x3, x4] 61) ∧
    ownsW (((w1.setCell ⟨b, 1, none⟩ (.slice (some ⟨g, 0, none⟩) l.length cp)).setCell ⟨g, q, none⟩ (.int .u64 X)).setCell ⟨b, 0, none⟩ (.int .i64 ((n : Int) + 1))).drew (b + 1) (.slice (some ⟨g, 0, none⟩) l.length cp) l' ∧
    Below b w0 (((w1.setCell ⟨b, 1, none⟩ (.slice (some ⟨g, 0, none⟩) l.length cp)).setCell ⟨g, q, none⟩ (.int .u64 X)).setCell ⟨b, 0, none⟩ (.int .i64 ((n : Int) + 1))).drew := by
  subst hX hl'
  refine ⟨?_, ?_, ?_⟩
  · show (((w1.setCell ⟨b, 1, none⟩ _).setCell ⟨g, q, none⟩ _).setCell ⟨b, 0, none⟩ _).heap[b]? = _
    have h1 := heap_setCell_same w1 b 1 _ _ (.slice (some ⟨g, 0, none⟩) l.length cp) hh
    have h2 := (heap_setCell_other (w1.setCell ⟨b, 1, none⟩ (.slice (some ⟨g, 0, none⟩) l.length cp)) ⟨g, q, none⟩ b (.int .u64 (x : Int)) (by show b ≠ g; exact hgb)).trans h1
    rw [heap_setCell_same _ b 0 _ _ (.int .i64 ((n : Int) + 1)) h2]
    simp
  · have h3 := ((ho.setCellO b 1 (.slice (some ⟨g, 0, none⟩) l.length cp) (by omega)).stored q x).setCellO b 0 (.int .i64 ((n : Int) + 1)) (by omega)
    exact h3.otherBlock fun _ _ => rfl
  · exact (((hb.setCell (p := ⟨b, 1, none⟩) (by simp) _).setCell (p := ⟨g, q, none⟩) (by simpa using hbg) _).setCell (p := ⟨b, 0, none⟩) (by simp) _).drew
/-- run.hear at a place within the writer -/
theorem hear_at (w : World) (b : Nat) (x0 x1 x2 : Value) (a k c : Nat) (hc : c ≤ 49) (ha : a ≤ 49) (hk : k ≤ 100000) (h : w.heap[b]? = some (.cells #[x0, x1, x2, .int .i32 (a : Int), .int .i64 (k : Int)] 61)) :
    Calls Tryz.prog 58 #[.pointer (some ⟨b, 3, none⟩), .int .i32 (c : Int)] w fun o w' => o = .returned (.tuple #[]) ∧ w'.heap[b]? = some (.cells #[x0, x1, x2, .int .i32 ((J.M.hear (a, k) c).1 : Int), .int .i64 ((J.M.hear (a, k) c).2 : Int)] 61) ∧ (∀ q, q ≠ b → w'.heap[q]? = w.heap[q]?) ∧ Below b w w' := by
  obtain ⟨⟨c0, c1, c2, c3, c4⟩, fz, hz⟩ := bw5 h
  have f3 := fz 3
  have f4 := fz 4
  have HH : Hid (w.heap[b]? = some (.cells #[x0, x1, x2, .int .i32 (a : Int), .int .i64 (k : Int)] 61)) := h
  clear h c0 c1 c2 fz
  by_cases e : c = a
  · subst e
    have hb : ((c : Int) != (c : Int)) = false := by simp
    go_enter Tryz.func58, Tryz.ntmps58
    go_wp2
    go_end0
    refine ⟨rfl, ?_, fun q hq => heap_setCell_other w ⟨b, 4, none⟩ q _ hq, (Below.refl _ _).setCell (p := ⟨b, 4, none⟩) (by simp) _⟩
    rw [heap_setCell_same _ b 4 _ _ _ HH.out, J.M.hear_same]
    simp
  · have hb : ((c : Int) != (a : Int)) = true := by simp; omega
    go_enter Tryz.func58, Tryz.ntmps58
    go_wp2
    go_end0
    have h1 := heap_setCell_same w b 3 _ _ (Value.int IntKind.i32 (c : Int)) HH.out
    have h2 := heap_setCell_same _ b 4 _ _ (Value.int IntKind.i64 0) h1
    have h3 := heap_setCell_same _ b 4 _ _ (Value.int IntKind.i64 1) h2
    refine ⟨rfl, ?_, fun q hq => ?_, ?_⟩
    · rw [h3, J.M.hear_other a k c e]
      simp
    · exact ((heap_setCell_other _ ⟨b, 4, none⟩ q _ hq).trans (heap_setCell_other _ ⟨b, 4, none⟩ q _ hq)).trans (heap_setCell_other w ⟨b, 3, none⟩ q _ hq)
    · exact (((Below.refl b w).setCell (p := ⟨b, 3, none⟩) (by simp) _).setCell (p := ⟨b, 4, none⟩) (by simp) _).setCell (p := ⟨b, 4, none⟩) (by simp) _
/-- run.full there -/
theorem full_at (w : World) (b : Nat) (x0 x1 x2 : Value) (a k : Nat) (h : w.heap[b]? = some (.cells #[x0, x1, x2, .int .i32 (a : Int), .int .i64 (k : Int)] 61)) :
    Calls Tryz.prog 59 #[.pointer (some ⟨b, 3, none⟩)] w fun o w' => o = .returned (.bool (decide (k = 5))) ∧ w' = w := by
  obtain ⟨⟨c0, c1, c2, c3, c4⟩, fz, hz⟩ := bw5 h
  clear h c0 c1 c2 c3 fz hz
  have e : ((k : Int) == 5) = decide (k = 5) := by
    by_cases hk : k = 5
    · simp [hk]
    · have : ¬ (k : Int) = 5 := by omega
      simp [hk, this]
  go_enter Tryz.func59, Tryz.ntmps59
  go_wp2
  go_ret
  first | exact ⟨rfl, rfl⟩ | exact ⟨by rw [e], rfl⟩
end Go.Proofs.YtpknchjjfiiaeaaGreatDoor
