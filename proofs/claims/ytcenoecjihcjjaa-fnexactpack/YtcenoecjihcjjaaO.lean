import Derived.Test.YtcenoecjihcjjaaN
namespace Go.Proofs.Ytcenoecjihcjjaa
open Go.RowKit

/-- word q behind n bits -/
def wq (s : ByteArray) (n q : Nat) : Nat := PV s q (min 64 (n - 64 * q)) * 2 ^ (64 - min 64 (n - 64 * q))
/-- the words behind n bits -/
def wn (s : ByteArray) (n : Nat) : List Nat := (List.range ((n + 63) / 64)).map (wq s n)
theorem wn_len (s : ByteArray) (n : Nat) : (wn s n).length = (n + 63) / 64 := by simp [wn]
theorem wq_lt (s : ByteArray) (n q : Nat) : wq s n q < 18446744073709551616 := by
  unfold wq
  have h := PV_lt s q (min 64 (n - 64 * q))
  have hm : min 64 (n - 64 * q) ≤ 64 := Nat.min_le_left _ _
  generalize min 64 (n - 64 * q) = r at *
  have e : (2 : Nat) ^ r * 2 ^ (64 - r) = 18446744073709551616 := by rw [← Nat.pow_add, show r + (64 - r) = 64 by omega]
  rw [← e]
  exact Nat.mul_lt_mul_of_pos_right h (Nat.pos_of_ne_zero (by simp))
theorem wq_full (s : ByteArray) (n q : Nat) (h : 64 * q + 64 ≤ n) : wq s (n + 1) q = wq s n q := by
  unfold wq
  rw [show min 64 (n + 1 - 64 * q) = 64 by omega, show min 64 (n - 64 * q) = 64 by omega]
theorem wq_step (s : ByteArray) (q r : Nat) (h : r < 64) : wq s (64 * q + r + 1) q = wq s (64 * q + r) q + fb s (64 * q + r) * 2 ^ (63 - r) := by
  unfold wq
  rw [show min 64 (64 * q + r + 1 - 64 * q) = r + 1 by omega, show min 64 (64 * q + r - 64 * q) = r by omega]
  show (2 * PV s q r + fb s (64 * q + r)) * _ = _
  have e : 64 - r = (63 - r) + 1 := by omega
  rw [show 64 - (r + 1) = 63 - r by omega, e, Nat.pow_succ, Nat.add_mul]
  congr 1
  rw [Nat.mul_comm 2 (PV s q r), Nat.mul_assoc, Nat.mul_comm 2]
theorem wq_dvd (s : ByteArray) (q r : Nat) (h : r < 64) : wq s (64 * q + r) q % 2 ^ (64 - r) = 0 := by
  unfold wq
  rw [show min 64 (64 * q + r - 64 * q) = r by omega]
  exact Nat.mul_mod_left _ _
theorem wq_zero (s : ByteArray) (q : Nat) : wq s (64 * q) q = 0 := by
  unfold wq
  rw [show min 64 (64 * q - 64 * q) = 0 by omega]
  simp [PV]
theorem wn_at (s : ByteArray) (n q : Nat) (h : q < (wn s n).length) : (wn s n)[q] = wq s n q := by simp [wn]
theorem wn_mid (s : ByteArray) (q r : Nat) (h0 : 0 < r) (h : r < 64) : wn s (64 * q + r + 1) = (wn s (64 * q + r)).set q (wq s (64 * q + r) q + fb s (64 * q + r) * 2 ^ (63 - r)) := by
  apply List.ext_getElem
  · simp only [List.length_set, wn_len]; omega
  · intro i h1 h2
    rw [wn_at, List.getElem_set]
    split
    · subst i; exact wq_step s q r h
    · rw [wn_at]
      rw [wn_len] at h1
      exact wq_full s _ _ (by omega)
theorem wn_new (s : ByteArray) (q : Nat) : wn s (64 * q + 1) = (wn s (64 * q) ++ [0]).set q (fb s (64 * q) * 2 ^ 63) := by
  apply List.ext_getElem
  · simp only [List.length_set, List.length_append, List.length_singleton, wn_len]; omega
  · intro i h1 h2
    have hl := wn_len s (64 * q)
    rw [wn_at, List.getElem_set]
    split
    · subst i
      have := wq_step s q 0 (by decide)
      simp only [Nat.add_zero, wq_zero, Nat.zero_add] at this
      exact this
    · rw [wn_len] at h1
      rw [List.getElem_append_left (by omega), wn_at]
      exact wq_full s _ _ (by omega)
theorem PV_pad (s : ByteArray) (q r : Nat) (h : s.size ≤ 64 * q + r) (d : Nat) : PV s q (r + d) = PV s q r * 2 ^ d := by
  induction d with
  | zero => simp
  | succ d ih =>
    show 2 * PV s q (r + d) + fb s (64 * q + (r + d)) = _
    rw [ih, fb_end (by omega), Nat.pow_succ, Nat.add_zero, Nat.mul_comm 2, Nat.mul_assoc]
theorem wn_end (s : ByteArray) : wn s s.size = pkL s ((s.size + 63) / 64) := by
  unfold wn pkL
  apply List.map_congr_left
  intro q hq
  rw [List.mem_range] at hq
  unfold wq
  by_cases h : 64 * q + 64 ≤ s.size
  · rw [show min 64 (s.size - 64 * q) = 64 by omega]
    simp
  · have hm : min 64 (s.size - 64 * q) = s.size - 64 * q := by omega
    rw [hm]
    have := PV_pad s q (s.size - 64 * q) (by omega) (64 - (s.size - 64 * q))
    rw [show s.size - 64 * q + (64 - (s.size - 64 * q)) = 64 by omega] at this
    exact this.symm
/-- the writer in block b behind n bits of s -/
structure bwI (w0 : World) (b : Nat) (s : ByteArray) (n : Nat) (W : World) : Prop where
  row : ∃ v, W.heap[b]? = some (.cells #[.int .i64 (n : Int), v, .bool false, .int .i32 0, .int .i64 0] 58) ∧ ownsW W (b + 1) v (wn s n)
  bel : Below b w0 W
theorem bw_cells {W : World} {b : Nat} {x0 x1 x2 x3 x4 : Value} (h : W.heap[b]? = some (.cells #[x0, x1, x2, x3, x4] 58)) :
    W.cell? ⟨b, 0, none⟩ = some x0 ∧ W.cell? ⟨b, 1, none⟩ = some x1 ∧ W.cell? ⟨b, 2, none⟩ = some x2 ∧ W.frozen? ⟨b, 0, none⟩ = false ∧ W.frozen? ⟨b, 1, none⟩ = false ∧ b < W.heap.size := by
  refine ⟨?_, ?_, ?_, ?_, ?_, ?_⟩
  · simp [World.cell?, h]
  · simp [World.cell?, h]
  · simp [World.cell?, h]
  · simp [World.frozen?, h]
  · simp [World.frozen?, h]
  · rw [Array.getElem?_eq_some_iff] at h; exact h.1
theorem new_or (L : Nat) (hL : L < 2) : bits BinOp.or IntKind.u64 0 ((L : Int) * 9223372036854775808) = ((L * 2 ^ 63 : Nat) : Int) := by
  have := u64_or_nat 0 (L * 2 ^ 63) (by decide) (by omega)
  rw [Nat.zero_or] at this
  rw [← this]
  congr 1
theorem bw_new {w0 w1 : World} {b g q n cp : Nat} {v : Value} {l l' : List Nat} {x : Nat} {X : Int} (hX : X = (x : Int)) (hh : w1.heap[b]? = some (.cells #[.int .i64 (n : Int), v, .bool false, .int .i32 0, .int .i64 0] 58))
    (ho : ownsW w1 (b + 1) (.slice (some ⟨g, 0, none⟩) l.length cp) l) (hgb : ¬ b = g) (hb : Below b w0 w1) (hbg : b ≤ g) (hl' : l' = l.set q x) :
    (((w1.setCell ⟨b, 1, none⟩ (.slice (some ⟨g, 0, none⟩) l.length cp)).setCell ⟨g, q, none⟩ (.int .u64 X)).setCell ⟨b, 0, none⟩ (.int .i64 ((n : Int) + 1))).drew.heap[b]? = some (.cells #[.int .i64 ((n + 1 : Nat) : Int), .slice (some ⟨g, 0, none⟩) l.length cp, .bool false, .int .i32 0, .int .i64 0] 58) ∧
    ownsW (((w1.setCell ⟨b, 1, none⟩ (.slice (some ⟨g, 0, none⟩) l.length cp)).setCell ⟨g, q, none⟩ (.int .u64 X)).setCell ⟨b, 0, none⟩ (.int .i64 ((n : Int) + 1))).drew (b + 1) (.slice (some ⟨g, 0, none⟩) l.length cp) l' ∧
    Below b w0 (((w1.setCell ⟨b, 1, none⟩ (.slice (some ⟨g, 0, none⟩) l.length cp)).setCell ⟨g, q, none⟩ (.int .u64 X)).setCell ⟨b, 0, none⟩ (.int .i64 ((n : Int) + 1))).drew := by
  subst hX hl'
  refine ⟨?_, ?_, ?_⟩
  · show (((w1.setCell ⟨b, 1, none⟩ _).setCell ⟨g, q, none⟩ _).setCell ⟨b, 0, none⟩ _).heap[b]? = _
    have h1 := heap_setCell_same w1 b 1 _ _ (.slice (some ⟨g, 0, none⟩) l.length cp) hh
    have h2 := (heap_setCell_other (w1.setCell ⟨b, 1, none⟩ (.slice (some ⟨g, 0, none⟩) l.length cp)) ⟨g, q, none⟩ b (.int .u64 (x : Int)) (by show b ≠ g; exact hgb)).trans h1
    rw [heap_setCell_same _ b 0 _ _ (.int .i64 ((n : Int) + 1)) h2]
    simp
  · have h3 := ((ho.setCellO b 1 (.slice (some ⟨g, 0, none⟩) l.length cp) (by omega)).stored q x).setCellO b 0 (.int .i64 ((n : Int) + 1)) (by omega)
    exact h3.otherBlock fun _ _ => rfl
  · exact (((hb.setCell (p := ⟨b, 1, none⟩) (by simp) _).setCell (p := ⟨g, q, none⟩) (by simpa using hbg) _).setCell (p := ⟨b, 0, none⟩) (by simp) _).drew
theorem kept_cell {b : Option Nat} {a w : World} (h : Lib.OthersKept 54 b a w) {g : Nat} (hg : ∃ c fz, w.heap[g]? = some (.cells c 54 fz)) (j : Nat) (x : Value) : Lib.OthersKept 54 b a (w.setCell ⟨g, j, none⟩ x) := by
  intro k o hk hb ho
  have h1 := h k o hk hb ho
  rw [heap_setCell_other w ⟨g, j, none⟩ k x (fun e => ?_)]
  · exact h1
  · obtain ⟨c, fz, hc⟩ := hg
    have e' : k = g := e
    subst e'
    rw [h1] at hc
    exact ho c fz (Option.some.inj hc)
theorem kept_weak {b : Option Nat} {w w' : World} (h : Lib.OthersKept 54 none w w') : Lib.OthersKept 54 b w w' := fun k o hk _ ho => h k o hk (by simp) ho
theorem kept_new {w w1 : World} {b g q n : Nat} (hk : Lib.OthersKept 54 none w w1) (hg : ∃ c fz, w1.heap[g]? = some (.cells c 54 fz)) (e : g ≠ b) {X : Int} {v : Value} :
    Lib.OthersKept 54 (some b) w (((w1.setCell ⟨b, 1, none⟩ v).setCell ⟨g, q, none⟩ (.int .u64 X)).setCell ⟨b, 0, none⟩ (.int .i64 ((n : Int) + 1))).drew := by
  refine ((kept_cell ((kept_weak hk).setCell ⟨b, 1, none⟩ rfl v) ?_ q _).setCell ⟨b, 0, none⟩ rfl _).drew
  obtain ⟨c, fz, hc⟩ := hg
  exact ⟨c, fz, (heap_setCell_other w1 ⟨b, 1, none⟩ g v e).trans hc⟩
theorem bit_step (w0 w : World) (b n : Nat) (s : ByteArray) (h : bwI w0 b s n w) (hn : n ≤ 4000) :
    Calls Try.prog 27 #[.pointer (some ⟨b, 0, none⟩), .int .i64 (fb s n : Int)] w fun o w' => o = .returned (.tuple #[]) ∧ bwI w0 b s (n + 1) w' ∧ Lib.OthersKept 54 (some b) w w' := by
  obtain ⟨⟨v, hh, own⟩, hbel⟩ := h
  obtain ⟨c0, c1, c2, f0, f1, hbz⟩ := bw_cells hh
  have hL := fb_lt s n
  have e3 : (n : Int).tdiv 64 = ((n / 64 : Nat) : Int) := by rw [Int.tdiv_eq_ediv_of_nonneg (by omega)]; omega
  have e4 : (n : Int).tmod 64 = ((n % 64 : Nat) : Int) := by rw [Int.tmod_eq_emod_of_nonneg (by omega)]; omega
  have en : 64 * (n / 64) + n % 64 = n := by omega
  by_cases hr : n % 64 = 0
  · refine (bit_new w b n (n / 64) v (wn s n) (fb s n) hL hn (by rw [wn_len]; omega) hbz own c0 c1 c2 f0 f1 e3 (by rw [e4, hr]; rfl) (by omega)).mono ?_
    rintro o w' ⟨w1, g, cp, ho, hb, hk, rfl, rfl⟩
    have hg := (World.ownsRow.lt ho g (by simp [Value.ownBlock])).1
    have hkk := kept_new (b := b) (q := n / 64) (n := n) hk (ho.kind g (by simp [Value.ownBlock])) (by omega) (X := bits BinOp.or IntKind.u64 0 ((fb s n : Int) * 9223372036854775808)) (v := .slice (some ⟨g, 0, none⟩) (n / 64 + 1) cp)
    have hl : (wn s n ++ [0]).length = n / 64 + 1 := by simp [wn_len]; omega
    have hh1 := (hb.block b (by omega)).trans hh
    have e : wn s (n + 1) = (wn s n ++ [0]).set (n / 64) (fb s n * 2 ^ 63) := by
      have := wn_new s (n / 64)
      rw [show 64 * (n / 64) = n by omega] at this
      exact this
    rw [← hl] at ho
    have := bw_new (w0 := w0) (q := n / 64) (new_or (fb s n) hL) hh1 ho (by omega) (hbel.trans (hb.mono (by omega))) (by omega) e
    rw [hl] at this
    exact ⟨rfl, ⟨⟨_, this.1, this.2.1⟩, this.2.2⟩, hkk⟩
  · have hne : wn s n ≠ [] := by intro e; have := wn_len s n; rw [e] at this; simp at this; omega
    obtain ⟨g, cp, rfl, hgB, hgz, hcp, hcm, hrow⟩ := own.open hne
    have hlen := wn_len s n
    have hq : n / 64 < (wn s n).length := by omega
    have hc : w.cell? ⟨g, n / 64, none⟩ = some (.int .u64 (wq s n (n / 64) : Int)) := by
      rw [hrow.cell _ hq, getD_at _ _ hq, wn_at]
    refine (bit_mid w b g cp (wn s n).length n (n / 64) (n % 64) (wq s n (n / 64)) (fb s n) hL hn c0 c1 c2 f0 (by omega) e3 e4 (by simp; omega) (by omega) hq (by omega) hc (hrow.free _ hq)).mono ?_
    rintro o w' ⟨rfl, rfl⟩
    have hd : wq s n (n / 64) % 2 ^ (64 - n % 64) = 0 := by
      have := wq_dvd s (n / 64) (n % 64) (by omega)
      rw [en] at this
      exact this
    have e : wn s (n + 1) = (wn s n).set (n / 64) (wq s n (n / 64) + fb s n * 2 ^ (63 - n % 64)) := by
      have := wn_mid s (n / 64) (n % 64) (by omega) (by omega)
      rw [en] at this
      exact this
    rw [or_sum _ _ _ hL (by omega) (wq_lt s n (n / 64)) hd]
    refine ⟨rfl, ⟨⟨.slice (some ⟨g, 0, none⟩) (wn s n).length cp, ?_, ?_⟩, ?_⟩, ?_⟩
    · show ((w.setCell ⟨g, n / 64, none⟩ _).setCell ⟨b, 0, none⟩ _).heap[b]? = _
      have h2 := (heap_setCell_other w ⟨g, n / 64, none⟩ b (.int .u64 ((wq s n (n / 64) + fb s n * 2 ^ (63 - n % 64) : Nat) : Int)) (by show b ≠ g; omega)).trans hh
      rw [heap_setCell_same _ b 0 _ _ (.int .i64 ((n : Int) + 1)) h2]
      simp
    · rw [e]
      exact ((own.stored (n / 64) (wq s n (n / 64) + fb s n * 2 ^ (63 - n % 64))).setCellO b 0 (.int .i64 ((n : Int) + 1)) (by omega)).otherBlock fun _ _ => rfl
    · exact ((hbel.setCell (p := ⟨g, n / 64, none⟩) (by simp; omega) _).setCell (p := ⟨b, 0, none⟩) (by simp) _).drew
    · exact ((kept_cell (Lib.OthersKept.refl 54 (some b) w) (own.kind g (by simp [Value.ownBlock])) _ _).setCell ⟨b, 0, none⟩ rfl _).drew
end Go.Proofs.Ytcenoecjihcjjaa
