import Derived.Test.YtpknchjjfiiaeaaDoorT15
import Derived.Deep.RegionWith
import Derived.Test.YtpknchjjfiiaeaaDoorT02
namespace Go.Proofs.YtpknchjjfiiaeaaDoor
open Go.RowKit
set_option maxHeartbeats 2000000 in
set_option maxRecDepth 20000 in
theorem bit_mid (w : World) (b g cap m n q r x : Nat) (L : Nat) (hL : L < 2) (hn : n ≤ 4000)
    (c0 : w.cell? ⟨b, 0, none⟩ = some (.int .i64 (n : Int))) (c1 : w.cell? ⟨b, 1, none⟩ = some (.slice (some ⟨g, 0, none⟩) m cap)) (c2 : w.cell? ⟨b, 2, none⟩ = some (.bool false))
    (f0 : w.frozen? ⟨b, 0, none⟩ = false) (hgb : ¬ b = g)
    (e3 : (n : Int).tdiv 64 = (q : Int)) (e4 : (n : Int).tmod 64 = (r : Int)) (hr : ((r : Int) == 0) = false) (hr2 : r < 64) (hq : q < m) (hq3 : q ≤ 1000) (hc : w.cell? ⟨g, q, none⟩ = some (.int .u64 (x : Int))) (hf : w.frozen? ⟨g, q, none⟩ = false) :
    Calls Tryd.prog 64 #[.pointer (some ⟨b, 0, none⟩), .int .i64 (L : Int)] w fun o w' => o = .returned (.tuple #[]) ∧ w' = ((w.setCell ⟨g, q, none⟩ (.int .u64 (bits BinOp.or IntKind.u64 (x : Int) (IntKind.u64.wrap ((L : Int) * 2 ^ (63 - r)))))).setCell ⟨b, 0, none⟩ (.int .i64 ((n : Int) + 1))).drew := by
  go_enter Tryd.func64, Tryd.ntmps64
  go_wp2
  go_region
  go_wp2
  refine bodyPost_ret (results_none rfl _ _ _) rfl ?_
  exact ⟨rfl, rfl⟩
/-- the bits below are 0: the 'or' is a sum -/
theorem or_sum (x L r : Nat) (hL : L < 2) (hr : r < 64) (hx : x < 18446744073709551616) (hd : x % 2 ^ (64 - r) = 0) :
    bits BinOp.or IntKind.u64 (x : Int) (IntKind.u64.wrap ((L : Int) * 2 ^ (63 - r))) = ((x + L * 2 ^ (63 - r) : Nat) : Int) := by
  have hp : L * 2 ^ (63 - r) < 2 ^ (64 - r) := by
    have e : 64 - r = (63 - r) + 1 := by omega
    rw [e, Nat.pow_succ]
    have : 0 < 2 ^ (63 - r) := Nat.pos_of_ne_zero (by simp)
    have : L * 2 ^ (63 - r) ≤ 1 * 2 ^ (63 - r) := Nat.mul_le_mul_right _ (by omega)
    omega
  have h64 : (2 : Nat) ^ (64 - r) ≤ 2 ^ 64 := Nat.pow_le_pow_right (by decide) (by omega)
  have hy : L * 2 ^ (63 - r) < 18446744073709551616 := Nat.lt_of_lt_of_le hp h64
  rw [wrap_nat, Nat.mod_eq_of_lt (by omega), u64_or_nat _ _ hx hy]
  congr 1
  obtain ⟨k, hk⟩ : ∃ k, x = 2 ^ (64 - r) * k := Nat.dvd_of_mod_eq_zero hd
  subst hk
  rw [Nat.two_pow_add_eq_or_of_lt hp]
set_option maxHeartbeats 2000000 in
set_option maxRecDepth 20000 in
theorem bit_new (w : World) (b n q : Nat) (v : Value) (l : List Nat) (L : Nat) (hL : L < 2) (hn : n ≤ 4000) (hl : l.length = q) (hbz : b < w.heap.size) (own : ownsW w (b + 1) v l)
    (c0 : w.cell? ⟨b, 0, none⟩ = some (.int .i64 (n : Int))) (c1 : w.cell? ⟨b, 1, none⟩ = some v) (c2 : w.cell? ⟨b, 2, none⟩ = some (.bool false))
    (f0 : w.frozen? ⟨b, 0, none⟩ = false) (f1 : w.frozen? ⟨b, 1, none⟩ = false)
    (e3 : (n : Int).tdiv 64 = (q : Int)) (e4 : (n : Int).tmod 64 = 0) (hq3 : q ≤ 1000) :
    Calls Tryd.prog 64 #[.pointer (some ⟨b, 0, none⟩), .int .i64 (L : Int)] w fun o w' => ∃ w1 g cp, ownsW w1 (b + 1) (.slice (some ⟨g, 0, none⟩) (q + 1) cp) (l ++ [0]) ∧ Below (b + 1) w w1 ∧ Lib.OthersKept 60 none w w1 ∧ o = .returned (.tuple #[]) ∧ w' = (((w1.setCell ⟨b, 1, none⟩ (.slice (some ⟨g, 0, none⟩) (q + 1) cp)).setCell ⟨g, q, none⟩ (.int .u64 (bits BinOp.or IntKind.u64 0 ((L : Int) * 9223372036854775808)))).setCell ⟨b, 0, none⟩ (.int .i64 ((n : Int) + 1))).drew := by
  have HO : Hid (ownsW w (b + 1) v l) := own
  have HL : Hid (l.length = q) := hl
  clear own hl
  go_enter Tryd.func64, Tryd.ntmps64
  go_wp2_with (first | (at_builtin; refine app_word2 w w rfl (.tmp 14) (.tmp 15) rfl (b + 1) _ l 0 _ rfl rfl HO.out rfl (by have := HL.out; omega) (by omega) (Below.refl _ _) ?_))
  intro v1 w1 ho1 hb1 hk1 hz1
  obtain ⟨g, cp, e, hgB, hgz, hcp, hcm, hrow⟩ := ho1.open (by simp)
  have hlen : (l ++ [0]).length = q + 1 := by simp [HL.out]
  rw [hlen] at e hcp hrow
  subst e
  have hc : w1.cell? ⟨g, q, none⟩ = some (.int .u64 0) := by
    rw [hrow.cell q (by omega)]
    have := HL.out
    subst this
    simp [List.getD]
  have hf := hrow.free q (by omega)
  have d0 := (hb1.cell (p := ⟨b, 0, none⟩) (by simp)).trans c0
  have d2 := (hb1.cell (p := ⟨b, 2, none⟩) (by simp)).trans c2
  have d1 := (hb1.cell (p := ⟨b, 1, none⟩) (by simp)).trans c1
  have g0 := (hb1.frozen (p := ⟨b, 0, none⟩) (by simp)).trans f0
  have g1 := (hb1.frozen (p := ⟨b, 1, none⟩) (by simp)).trans f1
  have HR : Hid (ownsW w1 (b + 1) (.slice (some ⟨g, 0, none⟩) (q + 1) cp) (l ++ [0]) ∧ Below (b + 1) w w1 ∧ Lib.OthersKept 60 none w w1) := ⟨ho1, hb1, hk1⟩
  have hgb : ¬ b = g := by omega
  clear ho1 hb1 hk1 hrow hlen c0 c1 c2 f0 f1 hcm
  go_wp2
  go_region
  go_wp2
  refine bodyPost_ret (results_none rfl _ _ _) rfl ?_
  exact ⟨w1, g, cp, HR.out.1, HR.out.2.1, HR.out.2.2, rfl, rfl⟩
/-- word q behind n bits -/
def wq (s : ByteArray) (n q : Nat) : Nat := PV s q (min 64 (n - 64 * q)) * 2 ^ (64 - min 64 (n - 64 * q))
/-- the words behind n bits -/
def wn (s : ByteArray) (n : Nat) : List Nat := (List.range ((n + 63) / 64)).map (wq s n)
theorem wn_len (s : ByteArray) (n : Nat) : (wn s n).length = (n + 63) / 64 := by simp [wn]
theorem wq_lt (s : ByteArray) (n q : Nat) : wq s n q < 18446744073709551616 := by
  unfold wq
  have h := PV_lt s q (min 64 (n - 64 * q))
  have hm : min 64 (n - 64 * q) ≤ 64 := Nat.min_le_left _ _
  generalize min 64 (n - 64 * q) = r at *
  have e : (2 : Nat) ^ r * 2 ^ (64 - r) = 18446744073709551616 := by rw [← Nat.pow_add, show r + (64 - r) = 64 by omega]
  rw [← e]
  exact Nat.mul_lt_mul_of_pos_right h (Nat.pos_of_ne_zero (by simp))
theorem wq_full (s : ByteArray) (n q : Nat) (h : 64 * q + 64 ≤ n) : wq s (n + 1) q = wq s n q := by
  unfold wq
  rw [show min 64 (n + 1 - 64 * q) = 64 by omega, show min 64 (n - 64 * q) = 64 by omega]
theorem wq_step (s : ByteArray) (q r : Nat) (h : r < 64) : wq s (64 * q + r + 1) q = wq s (64 * q + r) q + fb s (64 * q + r) * 2 ^ (63 - r) := by
  unfold wq
  rw [show min 64 (64 * q + r + 1 - 64 * q) = r + 1 by omega, show min 64 (64 * q + r - 64 * q) = r by omega]
  show (2 * PV s q r + fb s (64 * q + r)) * _ = _
  have e : 64 - r = (63 - r) + 1 := by omega
  rw [show 64 - (r + 1) = 63 - r by omega, e, Nat.pow_succ, Nat.add_mul]
  congr 1
  rw [Nat.mul_comm 2 (PV s q r), Nat.mul_assoc, Nat.mul_comm 2]
theorem wq_dvd (s : ByteArray) (q r : Nat) (h : r < 64) : wq s (64 * q + r) q % 2 ^ (64 - r) = 0 := by
  unfold wq
  rw [show min 64 (64 * q + r - 64 * q) = r by omega]
  exact Nat.mul_mod_left _ _
theorem wq_zero (s : ByteArray) (q : Nat) : wq s (64 * q) q = 0 := by
  unfold wq
  rw [show min 64 (64 * q - 64 * q) = 0 by omega]
  simp [PV]
theorem wn_at (s : ByteArray) (n q : Nat) (h : q < (wn s n).length) : (wn s n)[q] = wq s n q := by simp [wn]
theorem wn_mid (s : ByteArray) (q r : Nat) (h0 : 0 < r) (h : r < 64) : wn s (64 * q + r + 1) = (wn s (64 * q + r)).set q (wq s (64 * q + r) q + fb s (64 * q + r) * 2 ^ (63 - r)) := by
  apply List.ext_getElem
  · simp only [List.length_set, wn_len]; omega
  · intro i h1 h2
    rw [wn_at, List.getElem_set]
    split
    · subst i; exact wq_step s q r h
    · rw [wn_at]
      rw [wn_len] at h1
      exact wq_full s _ _ (by omega)
theorem wn_new (s : ByteArray) (q : Nat) : wn s (64 * q + 1) = (wn s (64 * q) ++ [0]).set q (fb s (64 * q) * 2 ^ 63) := by
  apply List.ext_getElem
  · simp only [List.length_set, List.length_append, List.length_singleton, wn_len]; omega
  · intro i h1 h2
    have hl := wn_len s (64 * q)
    rw [wn_at, List.getElem_set]
    split
    · subst i
      have := wq_step s q 0 (by decide)
      simp only [Nat.add_zero, wq_zero, Nat.zero_add] at this
      exact this
    · rw [wn_len] at h1
      rw [List.getElem_append_left (by omega), wn_at]
      exact wq_full s _ _ (by omega)
theorem new_or (L : Nat) (hL : L < 2) : bits BinOp.or IntKind.u64 0 ((L : Int) * 9223372036854775808) = ((L * 2 ^ 63 : Nat) : Int) := by
  have := u64_or_nat 0 (L * 2 ^ 63) (by decide) (by omega)
  rw [Nat.zero_or] at this
  rw [← this]
  congr 1
theorem kept_cell {b : Option Nat} {a w : World} (h : Lib.OthersKept 60 b a w) {g : Nat} (hg : ∃ c fz, w.heap[g]? = some (.cells c 60 fz)) (j : Nat) (x : Value) : Lib.OthersKept 60 b a (w.setCell ⟨g, j, none⟩ x) := by
  intro k o hk hb ho
  have h1 := h k o hk hb ho
  rw [heap_setCell_other w ⟨g, j, none⟩ k x (fun e => ?_)]
  · exact h1
  · obtain ⟨c, fz, hc⟩ := hg
    have e' : k = g := e
    subst e'
    rw [h1] at hc
    exact ho c fz (Option.some.inj hc)
theorem kept_weak {b : Option Nat} {w w' : World} (h : Lib.OthersKept 60 none w w') : Lib.OthersKept 60 b w w' := fun k o hk _ ho => h k o hk (by simp) ho
theorem kept_new {w w1 : World} {b g q n : Nat} (hk : Lib.OthersKept 60 none w w1) (hg : ∃ c fz, w1.heap[g]? = some (.cells c 60 fz)) (e : g ≠ b) {X : Int} {v : Value} :
    Lib.OthersKept 60 (some b) w (((w1.setCell ⟨b, 1, none⟩ v).setCell ⟨g, q, none⟩ (.int .u64 X)).setCell ⟨b, 0, none⟩ (.int .i64 ((n : Int) + 1))).drew := by
  refine ((kept_cell ((kept_weak hk).setCell ⟨b, 1, none⟩ rfl v) ?_ q _).setCell ⟨b, 0, none⟩ rfl _).drew
  obtain ⟨c, fz, hc⟩ := hg
  exact ⟨c, fz, (heap_setCell_other w1 ⟨b, 1, none⟩ g v e).trans hc⟩
theorem own_none (w : World) (B : Nat) : ownsW w B (.slice none 0 0) [] := ⟨by simp [wv], .inl ⟨rfl, rfl⟩⟩
theorem ownsW.slice {w : World} {B : Nat} {v : Value} {l : List Nat} (h : ownsW w B v l) : ∃ ao cp, v = .slice ao l.length cp ∧ l.length ≤ cp := by
  obtain ⟨_, ⟨rfl, h2⟩ | ⟨g, cap, cur, rfl, hb, hh, hc, _⟩⟩ := h
  · exact ⟨none, 0, by rw [h2], by omega⟩
  · exact ⟨_, cap, rfl, hc⟩
theorem ownsW.lower {w : World} {B B' : Nat} {v : Value} {l : List Nat} (h : ownsW w B v l) (hB : B' ≤ B) : ownsW w B' v l := by
  obtain ⟨h1, h2 | ⟨g, cap, cur, rfl, hb, rest⟩⟩ := h
  · exact ⟨h1, .inl h2⟩
  · exact ⟨h1, .inr ⟨g, cap, cur, rfl, by omega, rest⟩⟩
theorem ownsW.cap {w : World} {B : Nat} {ao : Option Addr} {n cp : Nat} {l : List Nat} (h : ownsW w B (.slice ao n cp) l) (hn : n = l.length) : n ≤ cp := by
  obtain ⟨ao', cp', e, h2⟩ := h.slice
  cases e
  omega
set_option linter.unusedVariables false
theorem PV_congr {s t : ByteArray} {q : Nat} : ∀ j, (∀ i, i < j → fb s (64 * q + i) = fb t (64 * q + i)) → PV s q j = PV t q j
  | 0, _ => rfl
  | j + 1, h => by
    show 2 * PV s q j + fb s (64 * q + j) = 2 * PV t q j + fb t (64 * q + j)
    rw [PV_congr j (fun i hi => h i (by omega)), h j (by omega)]
theorem wn_congr {s t : ByteArray} {n : Nat} (h : ∀ i, i < n → fb s i = fb t i) : wn s n = wn t n := by
  unfold wn
  apply List.map_congr_left
  intro q hq
  unfold wq
  rw [PV_congr _ (fun i hi => h _ (by have := Nat.min_le_right 64 (n - 64 * q); omega))]
theorem fb_str (l : List Nat) (i : Nat) (h : i < l.length) (hl : ∀ x ∈ l, J.M.isL x) : fb (strN l) i = l[i] - 48 := by
  have hs : (strN l).size = l.length := by simp [strN, ByteArray.size]
  have hx := hl l[i] (List.getElem_mem h)
  unfold fb
  rw [dif_pos (by omega)]
  have e : ((strN l)[i]'(by omega)).toNat = l[i] := by
    show (UInt8.toNat ((l.map UInt8.ofNat).toArray[i]'(by simp; omega))) = _
    simp
    rcases hx with hx | hx <;> omega
  rw [e]
  rcases hx with hx | hx <;> rw [hx] <;> rfl
/-- the words of a list of letters -/
def wl (o : List Nat) : List Nat := wn (strN o) o.length
theorem wl_snoc_wn (o : List Nat) (c : Nat) (ho : ∀ x ∈ o, J.M.isL x) (hc : J.M.isL c) : wn (strN (o ++ [c])) o.length = wl o := by
  refine wn_congr fun i hi => ?_
  rw [fb_str (o ++ [c]) i (by simp; omega) (by intro x hx; rw [List.mem_append] at hx; rcases hx with hx | hx; exact ho x hx; simp at hx; subst hx; exact hc), fb_str o i hi ho, List.getElem_append_left hi]
theorem fb_last (o : List Nat) (c : Nat) (ho : ∀ x ∈ o, J.M.isL x) (hc : J.M.isL c) : fb (strN (o ++ [c])) o.length = c - 48 := by
  rw [fb_str (o ++ [c]) o.length (by simp) (by intro x hx; rw [List.mem_append] at hx; rcases hx with hx | hx; exact ho x hx; simp at hx; subst hx; exact hc)]
  simp
theorem wl_new (o : List Nat) (c : Nat) (ho : ∀ x ∈ o, J.M.isL x) (hc : J.M.isL c) (hr : o.length % 64 = 0) : wl (o ++ [c]) = (wl o ++ [0]).set (o.length / 64) ((c - 48) * 2 ^ 63) := by
  have := wn_new (strN (o ++ [c])) (o.length / 64)
  rw [show 64 * (o.length / 64) = o.length by omega, wl_snoc_wn o c ho hc, fb_last o c ho hc] at this
  unfold wl at this ⊢
  rw [List.length_append]
  exact this
theorem wl_mid (o : List Nat) (c : Nat) (ho : ∀ x ∈ o, J.M.isL x) (hc : J.M.isL c) (hr : ¬ o.length % 64 = 0) : wl (o ++ [c]) = (wl o).set (o.length / 64) (wq (strN o) o.length (o.length / 64) + (c - 48) * 2 ^ (63 - o.length % 64)) := by
  have e := wl_snoc_wn o c ho hc
  have := wn_mid (strN (o ++ [c])) (o.length / 64) (o.length % 64) (by omega) (by omega)
  rw [show 64 * (o.length / 64) + o.length % 64 = o.length by omega, e, fb_last o c ho hc] at this
  have e2 : wq (strN (o ++ [c])) o.length (o.length / 64) = wq (strN o) o.length (o.length / 64) := by
    unfold wq
    rw [PV_congr _ (fun i hi => ?_)]
    have hi' : 64 * (o.length / 64) + i < o.length := by have := Nat.min_le_right 64 (o.length - 64 * (o.length / 64)); omega
    rw [fb_str (o ++ [c]) _ (by simp; omega) (by intro x hx; rw [List.mem_append] at hx; rcases hx with hx | hx; exact ho x hx; simp at hx; subst hx; exact hc), fb_str o _ hi' ho, List.getElem_append_left hi']
  rw [e2] at this
  unfold wl at this ⊢
  rw [List.length_append]
  exact this
theorem wl_len (o : List Nat) : (wl o).length = (o.length + 63) / 64 := wn_len _ _
/-- the writer in block b: what it has written, whether it stuffs, its run -/
structure bwS (w0 : World) (b : Nat) (o : List Nat) (st : Bool) (r : Nat × Nat) (W : World) : Prop where
  row : ∃ v, W.heap[b]? = some (.cells #[.int .i64 (o.length : Int), v, .bool st, .int .i32 (r.1 : Int), .int .i64 (r.2 : Int)] 68) ∧ ownsW W (b + 1) v (wl o)
  bel : Below b w0 W
theorem bw5 {W : World} {b : Nat} {x0 x1 x2 x3 x4 : Value} (h : W.heap[b]? = some (.cells #[x0, x1, x2, x3, x4] 68)) :
    (W.cell? ⟨b, 0, none⟩ = some x0 ∧ W.cell? ⟨b, 1, none⟩ = some x1 ∧ W.cell? ⟨b, 2, none⟩ = some x2 ∧ W.cell? ⟨b, 3, none⟩ = some x3 ∧ W.cell? ⟨b, 4, none⟩ = some x4) ∧ (∀ j, W.frozen? ⟨b, j, none⟩ = false) ∧ b < W.heap.size := by
  refine ⟨⟨?_, ?_, ?_, ?_, ?_⟩, fun j => ?_, ?_⟩
  iterate 5 simp [World.cell?, h]
  · simp [World.frozen?, h]
  · rw [Array.getElem?_eq_some_iff] at h; exact h.1
theorem bw_newG {w0 w1 : World} {b g q n cp : Nat} {v x2 x3 x4 : Value} {l l' : List Nat} {x : Nat} {X : Int} (hX : X = (x : Int)) (hh : w1.heap[b]? = some (.cells #[.int .i64 (n : Int), v, x2, x3, x4] 68))
    (ho : ownsW w1 (b + 1) (.slice (some ⟨g, 0, none⟩) l.length cp) l) (hgb : ¬ b = g) (hb : Below b w0 w1) (hbg : b ≤ g) (hl' : l' = l.set q x) :
    (((w1.setCell ⟨b, 1, none⟩ (.slice (some ⟨g, 0, none⟩) l.length cp)).setCell ⟨g, q, none⟩ (.int .u64 X)).setCell ⟨b, 0, none⟩ (.int .i64 ((n : Int) + 1))).drew.heap[b]? = some (.cells #[.int .i64 ((n + 1 : Nat) : Int), .slice (some ⟨g, 0, none⟩) l.length cp, x2, x3, x4] 68) ∧
    ownsW (((w1.setCell ⟨b, 1, none⟩ (.slice (some ⟨g, 0, none⟩) l.length cp)).setCell ⟨g, q, none⟩ (.int .u64 X)).setCell ⟨b, 0, none⟩ (.int .i64 ((n : Int) + 1))).drew (b + 1) (.slice (some ⟨g, 0, none⟩) l.length cp) l' ∧
    Below b w0 (((w1.setCell ⟨b, 1, none⟩ (.slice (some ⟨g, 0, none⟩) l.length cp)).setCell ⟨g, q, none⟩ (.int .u64 X)).setCell ⟨b, 0, none⟩ (.int .i64 ((n : Int) + 1))).drew := by
  subst hX hl'
  refine ⟨?_, ?_, ?_⟩
  · show (((w1.setCell ⟨b, 1, none⟩ _).setCell ⟨g, q, none⟩ _).setCell ⟨b, 0, none⟩ _).heap[b]? = _
    have h1 := heap_setCell_same w1 b 1 _ _ (.slice (some ⟨g, 0, none⟩) l.length cp) hh
    have h2 := (heap_setCell_other (w1.setCell ⟨b, 1, none⟩ (.slice (some ⟨g, 0, none⟩) l.length cp)) ⟨g, q, none⟩ b (.int .u64 (x : Int)) (by show b ≠ g; exact hgb)).trans h1
    rw [heap_setCell_same _ b 0 _ _ (.int .i64 ((n : Int) + 1)) h2]
    simp
  · have h3 := ((ho.setCellO b 1 (.slice (some ⟨g, 0, none⟩) l.length cp) (by omega)).stored q x).setCellO b 0 (.int .i64 ((n : Int) + 1)) (by omega)
    exact h3.otherBlock fun _ _ => rfl
  · exact (((hb.setCell (p := ⟨b, 1, none⟩) (by simp) _).setCell (p := ⟨g, q, none⟩) (by simpa using hbg) _).setCell (p := ⟨b, 0, none⟩) (by simp) _).drew
/-- run.hear at a place within the writer -/
theorem hear_at (w : World) (b : Nat) (x0 x1 x2 : Value) (a k c : Nat) (hc : c ≤ 49) (ha : a ≤ 49) (hk : k ≤ 100000) (h : w.heap[b]? = some (.cells #[x0, x1, x2, .int .i32 (a : Int), .int .i64 (k : Int)] 68)) :
    Calls Tryd.prog 69 #[.pointer (some ⟨b, 3, none⟩), .int .i32 (c : Int)] w fun o w' => o = .returned (.tuple #[]) ∧ w'.heap[b]? = some (.cells #[x0, x1, x2, .int .i32 ((J.M.hear (a, k) c).1 : Int), .int .i64 ((J.M.hear (a, k) c).2 : Int)] 68) ∧ (∀ q, q ≠ b → w'.heap[q]? = w.heap[q]?) ∧ Below b w w' := by
  obtain ⟨⟨c0, c1, c2, c3, c4⟩, fz, hz⟩ := bw5 h
  have f3 := fz 3
  have f4 := fz 4
  have HH : Hid (w.heap[b]? = some (.cells #[x0, x1, x2, .int .i32 (a : Int), .int .i64 (k : Int)] 68)) := h
  clear h c0 c1 c2 fz
  by_cases e : c = a
  · subst e
    have hb : ((c : Int) != (c : Int)) = false := by simp
    go_enter Tryd.func69, Tryd.ntmps69
    go_wp2
    go_end0
    refine ⟨rfl, ?_, fun q hq => heap_setCell_other w ⟨b, 4, none⟩ q _ hq, (Below.refl _ _).setCell (p := ⟨b, 4, none⟩) (by simp) _⟩
    rw [heap_setCell_same _ b 4 _ _ _ HH.out, J.M.hear_same]
    simp
  · have hb : ((c : Int) != (a : Int)) = true := by simp; omega
    go_enter Tryd.func69, Tryd.ntmps69
    go_wp2
    go_end0
    have h1 := heap_setCell_same w b 3 _ _ (Value.int IntKind.i32 (c : Int)) HH.out
    have h2 := heap_setCell_same _ b 4 _ _ (Value.int IntKind.i64 0) h1
    have h3 := heap_setCell_same _ b 4 _ _ (Value.int IntKind.i64 1) h2
    refine ⟨rfl, ?_, fun q hq => ?_, ?_⟩
    · rw [h3, J.M.hear_other a k c e]
      simp
    · exact ((heap_setCell_other _ ⟨b, 4, none⟩ q _ hq).trans (heap_setCell_other _ ⟨b, 4, none⟩ q _ hq)).trans (heap_setCell_other w ⟨b, 3, none⟩ q _ hq)
    · exact (((Below.refl b w).setCell (p := ⟨b, 3, none⟩) (by simp) _).setCell (p := ⟨b, 4, none⟩) (by simp) _).setCell (p := ⟨b, 4, none⟩) (by simp) _
/-- run.full there -/
theorem full_at (w : World) (b : Nat) (x0 x1 x2 : Value) (a k : Nat) (h : w.heap[b]? = some (.cells #[x0, x1, x2, .int .i32 (a : Int), .int .i64 (k : Int)] 68)) :
    Calls Tryd.prog 70 #[.pointer (some ⟨b, 3, none⟩)] w fun o w' => o = .returned (.bool (decide (k = 5))) ∧ w' = w := by
  obtain ⟨⟨c0, c1, c2, c3, c4⟩, fz, hz⟩ := bw5 h
  clear h c0 c1 c2 c3 fz hz
  have e : ((k : Int) == 5) = decide (k = 5) := by
    by_cases hk : k = 5
    · simp [hk]
    · have : ¬ (k : Int) = 5 := by omega
      simp [hk, this]
  go_enter Tryd.func70, Tryd.ntmps70
  go_wp2
  go_ret
  first | exact ⟨rfl, rfl⟩ | exact ⟨by rw [e], rfl⟩
theorem ownsW.alloc {w : World} {B : Nat} {v : Value} {l : List Nat} (h : ownsW w B v l) (o : Obj) : ownsW (w.alloc o) B v l := by
  unfold ownsW at h ⊢
  exact World.ownsRow.alloc h o
theorem ownsW.below {w w' : World} {B : Nat} {v : Value} {l : List Nat} (h : ownsW w B v l) (hb : Below w.heap.size w w') : ownsW w' B v l :=
  h.otherBlock fun g hg => hb.block g (World.ownsRow.lt h g hg).2
/-- what stands while the law goes on: the two answers and their words -/
structure ldP (w : World) (B b0 b1 : Nat) (N : Int) (m : Nat) (a0 : Option Addr) (c0 : Nat) (a1 : Option Addr) (c1 : Nat) (l0 l1 : List Nat) (W : World) : Prop where
  f0 : W.heap[b0]? = some (.cells #[.int .i64 N, .slice a0 m c0] 29)
  f1 : W.heap[b1]? = some (.cells #[.int .i64 N, .slice a1 m c1] 29)
  o0 : ownsW W w.heap.size (.slice a0 m c0) l0
  lt0 : ∀ g, (Value.slice a0 m c0).ownBlock = some g → g < B
  o1 : ownsW W B (.slice a1 m c1) l1
  bel : Below w.heap.size w W
  lb0 : b0 < B
  lb1 : B ≤ W.heap.size
  lbw : w.heap.size ≤ B
theorem ldP.below {w : World} {B b0 b1 : Nat} {N : Int} {m : Nat} {a0 : Option Addr} {c0 : Nat} {a1 : Option Addr} {c1 : Nat} {l0 l1 : List Nat} {W W' : World} (h : ldP w B b0 b1 N m a0 c0 a1 c1 l0 l1 W) (hb : Below W.heap.size W W') : ldP w B b0 b1 N m a0 c0 a1 c1 l0 l1 W' :=
  ⟨(hb.block b0 (lt_of_block h.f0)).trans h.f0, (hb.block b1 (lt_of_block h.f1)).trans h.f1, h.o0.below hb, h.lt0, h.o1.below hb, h.bel.trans (hb.mono h.bel.size), h.lb0, Nat.le_trans h.lb1 hb.size, h.lbw⟩
end Go.Proofs.YtpknchjjfiiaeaaDoor
