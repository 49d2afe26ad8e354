import Derived.Test.YtnefmdjodjpopaaN
import Derived.Test.YtnefmdjodjpopaaM
import Derived.Test.YtnefmdjodjpopaaGC
import Derived.Test.YtnefmdjodjpopaaBK
import Derived.Deep.AppendLies
import Derived.Test.YtnefmdjodjpopaaGB
namespace Go.Proofs.Ytnefmdjodjpopaa
set_option linter.unusedVariables false
namespace M

/-- one bit turned at the end turns the register by the generator -/
theorem stepN_turn (r b : Nat) (hr : r < 32768) (hb : b < 2) : stepN r (1 - b) = stepN r b ^^^ 17817 := by
  have ht : r / 16384 = 0 ∨ r / 16384 = 1 := by omega
  have hxx : ∀ y : Nat, y ^^^ 17817 ^^^ 17817 = y := fun y => by rw [Nat.xor_assoc, Nat.xor_self, Nat.xor_zero]
  unfold stepN
  rcases (show b = 0 ∨ b = 1 by omega) with rfl | rfl <;> rcases ht with h | h <;> rw [h] <;> simp [hxx]
theorem dbl_xor (r s : Nat) : (2 * (r ^^^ s)) % 32768 = ((2 * r) % 32768) ^^^ ((2 * s) % 32768) := by
  have e : 2 * (r ^^^ s) = (2 * r) ^^^ (2 * s) := by
    apply Nat.eq_of_testBit_eq
    intro i
    cases i with
    | zero => simp
    | succ i => rw [Nat.testBit_xor, Nat.testBit_succ, Nat.testBit_succ, Nat.testBit_succ]; simp [Nat.testBit_xor]
  rw [e]
  exact Nat.xor_mod_two_pow (n := 15)
theorem top_xor (r s : Nat) (hr : r < 32768) (hs : s < 32768) : (r ^^^ s) / 16384 = (r / 16384 + s / 16384) % 2 := by
  have h1 : (r ^^^ s) / 16384 = (r / 16384) ^^^ (s / 16384) := by
    rw [show (16384 : Nat) = 2 ^ 14 from rfl, ← Nat.shiftRight_eq_div_pow, ← Nat.shiftRight_eq_div_pow, ← Nat.shiftRight_eq_div_pow, Nat.shiftRight_xor_distrib]
  rw [h1]
  have ht : r / 16384 = 0 ∨ r / 16384 = 1 := by omega
  have hu : s / 16384 = 0 ∨ s / 16384 = 1 := by omega
  rcases ht with h | h <;> rcases hu with h' | h' <;> rw [h, h'] <;> rfl
theorem stepN_lin (r s b : Nat) (hr : r < 32768) (hs : s < 32768) (hb : b < 2) : stepN (r ^^^ s) b = stepN r b ^^^ stepN s 0 := by
  have ht : r / 16384 = 0 ∨ r / 16384 = 1 := by omega
  have hu : s / 16384 = 0 ∨ s / 16384 = 1 := by omega
  have hx := top_xor r s hr hs
  have hd := dbl_xor r s
  have c1 : ∀ x y : Nat, x ^^^ 17817 ^^^ (y ^^^ 17817) = x ^^^ y := fun x y => by
    rw [Nat.xor_comm y, ← Nat.xor_assoc, Nat.xor_assoc x, Nat.xor_self, Nat.xor_zero]
  have c2 : ∀ x y : Nat, x ^^^ 17817 ^^^ y = x ^^^ y ^^^ 17817 := fun x y => by rw [Nat.xor_assoc, Nat.xor_comm 17817, Nat.xor_assoc]
  have c3 : ∀ x y : Nat, x ^^^ (y ^^^ 17817) = x ^^^ y ^^^ 17817 := fun x y => by rw [Nat.xor_assoc]
  unfold stepN
  rw [hx, hd]
  rcases (show b = 0 ∨ b = 1 by omega) with rfl | rfl <;> rcases ht with h | h <;> rcases hu with h' | h' <;> rw [h, h'] <;> simp [c1, c2, c3]
/-- the register's turn of a bit that lies k bits ahead of the end -/
def pw : Nat → Nat
  | 0 => 17817
  | k + 1 => stepN (pw k) 0
theorem pw_lt : ∀ k, pw k < 32768
  | 0 => by decide
  | k + 1 => stepN_lt _ _
theorem fold_lin (c : List Nat) (hc : ∀ x ∈ c, x < 2) : ∀ r k, r < 32768 → c.foldl stepN (r ^^^ pw k) = c.foldl stepN r ^^^ pw (k + c.length) := by
  induction c with
  | nil => intro r k hr; rfl
  | cons b c ih =>
    intro r k hr
    show c.foldl stepN (stepN (r ^^^ pw k) b) = c.foldl stepN (stepN r b) ^^^ _
    rw [stepN_lin r (pw k) b hr (pw_lt k) (hc b (by simp))]
    show c.foldl stepN (stepN r b ^^^ pw (k + 1)) = _
    rw [ih (fun x hx => hc x (by simp [hx])) (stepN r b) (k + 1) (stepN_lt _ _), List.length_cons]
    congr 2
    omega
/-- one bit turned -/
theorem crc_turn (l : List Nat) (hl : ∀ x ∈ l, x < 2) (j : Nat) (hj : j < l.length) : crcN (l.set j (1 - l.getD j 0)) = crcN l ^^^ pw (l.length - 1 - j) := by
  have e1 : l = l.take j ++ l.getD j 0 :: l.drop (j + 1) := by
    have : l.getD j 0 = l[j] := by simp [hj]
    rw [this, List.getElem_cons_drop hj, List.take_append_drop]
  have e2 : l.set j (1 - l.getD j 0) = l.take j ++ (1 - l.getD j 0) :: l.drop (j + 1) := by rw [List.set_eq_take_append_cons_drop, if_pos hj]
  have hb : l.getD j 0 < 2 := by
    have : l.getD j 0 = l[j] := by simp [hj]
    rw [this]; exact hl _ (List.getElem_mem hj)
  have hd : ∀ x ∈ l.drop (j + 1), x < 2 := fun x hx => hl x (List.mem_of_mem_drop hx)
  rw [e2]
  have e3 : crcN l = (l.drop (j + 1)).foldl stepN (stepN (crcN (l.take j)) (l.getD j 0)) := by
    conv => lhs; rw [e1]
    unfold crcN
    rw [List.foldl_append]
    rfl
  rw [e3]
  unfold crcN
  rw [List.foldl_append]
  show (l.drop (j + 1)).foldl stepN (stepN (crcN (l.take j)) (1 - l.getD j 0)) = _
  rw [stepN_turn _ _ (crcN_lt _) hb]
  have := fold_lin (l.drop (j + 1)) hd (stepN (crcN (l.take j)) (l.getD j 0)) 0 (stepN_lt _ _)
  show (l.drop (j + 1)).foldl stepN (stepN (crcN (l.take j)) (l.getD j 0) ^^^ pw 0) = _
  rw [this, List.length_drop]
  congr 2
  omega
/-- what a turned bit, k bits ahead of the end of the sum, turns -/
def ev (k : Nat) : Nat := if k < 15 then 2 ^ k else pw (k - 15)
def parN (x : Nat) : Nat → Bool
  | 0 => false
  | n + 1 => parN x n ^^ x.testBit n
def par (x : Nat) : Bool := parN x 15
theorem parN_xor (x y : Nat) : ∀ n, parN (x ^^^ y) n = (parN x n ^^ parN y n)
  | 0 => rfl
  | n + 1 => by
    show (parN (x ^^^ y) n ^^ (x ^^^ y).testBit n) = ((parN x n ^^ x.testBit n) ^^ (parN y n ^^ y.testBit n))
    rw [parN_xor x y n, Nat.testBit_xor]
    cases parN x n <;> cases parN y n <;> cases x.testBit n <;> cases y.testBit n <;> rfl
theorem par_xor (x y : Nat) : par (x ^^^ y) = (par x ^^ par y) := parN_xor x y 15
/-- the table of the turns, built once -/
def evs : List Nat := (List.range 15).map (2 ^ ·) ++ (List.range 102).foldl (fun l _ => l ++ [stepN (l.getLastD 0) 0]) [17817]
def seen : List Nat → Nat → Bool
  | [], _ => true
  | x :: xs, m => !m.testBit x && seen xs (m ||| (1 <<< x))
def pairs : List Nat → List Nat
  | [] => []
  | x :: xs => xs.map (x ^^^ ·) ++ pairs xs
end M
set_option maxRecDepth 100000 in
theorem seen_evs : M.seen (M.pairs M.evs) 1 = true := by decide +kernel
set_option maxRecDepth 100000 in
theorem par_evs : M.evs.all (fun x => M.par x) = true := by decide +kernel
theorem bit_set (m x y : Nat) : (m ||| (1 <<< x)).testBit y = (m.testBit y || decide (x = y)) := by
  rw [Nat.testBit_or, Nat.one_shiftLeft, Nat.testBit_two_pow]
theorem seen_ok : ∀ (l : List Nat) (m : Nat), M.seen l m = true → (∀ x ∈ l, m.testBit x = false) ∧ l.Nodup
  | [], m, _ => ⟨by simp, List.nodup_nil⟩
  | x :: l, m, h => by
    have h' : (!m.testBit x && M.seen l (m ||| (1 <<< x))) = true := h
    rw [Bool.and_eq_true] at h'
    obtain ⟨h1, h2⟩ := h'
    obtain ⟨a, b⟩ := seen_ok l _ h2
    have hx : m.testBit x = false := by simpa using h1
    refine ⟨fun y hy => ?_, List.nodup_cons.2 ⟨fun hm => ?_, b⟩⟩
    · rw [List.mem_cons] at hy
      rcases hy with rfl | hy
      · exact hx
      · have := a y hy
        rw [bit_set] at this
        simp at this
        exact this.1
    · have := a x hm
      rw [bit_set] at this
      simp at this
theorem evs_len : M.evs.length = 118 := by decide +kernel
/-- no two pairs of turns are alike, and none is nothing -/
theorem pairs_at (l : List Nat) : ∀ (i j : Nat) (hi : i < j) (hj : j < l.length), ∃ n, ∃ h : n < (M.pairs l).length, (M.pairs l)[n] = l.getD i 0 ^^^ l.getD j 0 := by
  intro i j hi hj
  have : l.getD i 0 ^^^ l.getD j 0 ∈ M.pairs l := by
    induction l generalizing i j with
    | nil => simp at hj
    | cons x l ih =>
      show _ ∈ l.map (x ^^^ ·) ++ M.pairs l
      rw [List.mem_append]
      cases j with
      | zero => omega
      | succ j =>
        have hj' : j < l.length := by simpa using hj
        have ej : (x :: l).getD (j + 1) 0 = l.getD j 0 := rfl
        rw [ej]
        cases i with
        | zero =>
          left
          rw [List.mem_map]
          exact ⟨l.getD j 0, by have : l.getD j 0 = l[j] := (by simp [hj']); rw [this]; exact List.getElem_mem hj', rfl⟩
        | succ i =>
          right
          have ei : (x :: l).getD (i + 1) 0 = l.getD i 0 := rfl
          rw [ei]
          exact ih i j (by omega) hj'
  obtain ⟨n, h, e⟩ := List.getElem_of_mem this
  exact ⟨n, h, e⟩
/-- pairs that are alike are the same pair -/
theorem pair_inj (l : List Nat) (hn : (M.pairs l).Nodup) : ∀ (i j i' j' : Nat), i < j → j < l.length → i' < j' → j' < l.length → l.getD i 0 ^^^ l.getD j 0 = l.getD i' 0 ^^^ l.getD j' 0 → i = i' ∧ j = j' := by
  induction l with
  | nil => intro i j i' j' _ h; simp at h
  | cons x l ih =>
    have hn' : (l.map (x ^^^ ·) ++ M.pairs l).Nodup := hn
    rw [List.nodup_append] at hn'
    obtain ⟨n1, n2, n3⟩ := hn'
    have mem1 : ∀ j, j < l.length → x ^^^ l.getD j 0 ∈ l.map (x ^^^ ·) := fun j hj => by
      rw [List.mem_map]
      exact ⟨l.getD j 0, by have : l.getD j 0 = l[j] := (by simp [hj]); rw [this]; exact List.getElem_mem hj, rfl⟩
    have mem2 : ∀ i j, i < j → j < l.length → l.getD i 0 ^^^ l.getD j 0 ∈ M.pairs l := fun i j hi hj => by
      obtain ⟨n, h, e⟩ := pairs_at l i j hi hj
      rw [← e]; exact List.getElem_mem h
    have inj1 : ∀ j j', j < l.length → j' < l.length → x ^^^ l.getD j 0 = x ^^^ l.getD j' 0 → j = j' := fun j j' hj hj' e => by
      have a : (l.map (x ^^^ ·))[j]'(by simpa using hj) = (l.map (x ^^^ ·))[j']'(by simpa using hj') := by
        have e1 : l.getD j 0 = l[j] := by simp [hj]
        have e2 : l.getD j' 0 = l[j'] := by simp [hj']
        rw [e1, e2] at e
        simpa using e
      exact (List.getElem_inj n1).1 a
    intro i j i' j' h1 h2 h3 h4 e
    cases j with
    | zero => omega
    | succ j =>
      cases j' with
      | zero => omega
      | succ j' =>
        have hj : j < l.length := by simpa using h2
        have hj' : j' < l.length := by simpa using h4
        cases i with
        | zero =>
          cases i' with
          | zero => have := inj1 j j' hj hj' e; omega
          | succ i' => exact absurd e (n3 _ (mem1 j hj) _ (mem2 i' j' (by omega) hj'))
        | succ i =>
          cases i' with
          | zero => exact absurd e.symm (n3 _ (mem1 j' hj') _ (mem2 i j (by omega) hj))
          | succ i' =>
            obtain ⟨a, b⟩ := ih n2 i j i' j' (by omega) hj (by omega) hj' e
            omega
end Go.Proofs.Ytnefmdjodjpopaa
namespace Go.Proofs.Ytnefmdjodjpopaa
set_option linter.unusedVariables false

set_option maxRecDepth 100000 in
theorem evs_all : (List.range 118).all (fun k => M.evs.getD k 0 == M.ev k) = true := by decide +kernel
theorem evs_at (k : Nat) (h : k < 118) : M.evs.getD k 0 = M.ev k := by
  have := List.all_eq_true.1 evs_all k (List.mem_range.2 h)
  simpa using this
theorem ev_par (k : Nat) (h : k < 118) : M.par (M.ev k) = true := by
  have h1 : k < M.evs.length := by rw [evs_len]; exact h
  have := List.all_eq_true.1 par_evs (M.evs[k]) (List.getElem_mem h1)
  have e : M.evs.getD k 0 = M.evs[k] := by simp [h1]
  rw [← e, evs_at k h] at this
  exact this
theorem ev_two (a b : Nat) (ha : a < 118) (hb : b < 118) (hab : a ≠ b) : M.ev a ^^^ M.ev b ≠ 0 := by
  have key : ∀ a b, a < b → b < 118 → M.ev a ^^^ M.ev b ≠ 0 := by
    intro a b h hb e
    obtain ⟨n, hn, e'⟩ := pairs_at M.evs a b h (by rw [evs_len]; exact hb)
    rw [evs_at a (by omega), evs_at b hb, e] at e'
    have := (seen_ok _ _ seen_evs).1 _ (List.getElem_mem hn)
    rw [e'] at this
    cases this
  rcases Nat.lt_or_gt_of_ne hab with h | h
  · exact key a b h hb
  · rw [Nat.xor_comm]; exact key b a h ha
theorem ev_four (a b c d : Nat) (ha : a < 118) (hb : b < 118) (hc : c < 118) (hd : d < 118) (h1 : a ≠ b) (h2 : a ≠ c) (h3 : a ≠ d) (h4 : b ≠ c) (h5 : b ≠ d) (h6 : c ≠ d) : M.ev a ^^^ M.ev b ≠ M.ev c ^^^ M.ev d := by
  have key : ∀ a b c d, a < b → b < 118 → c < d → d < 118 → M.ev a ^^^ M.ev b = M.ev c ^^^ M.ev d → a = c ∧ b = d := by
    intro a b c d p q r s e
    refine pair_inj M.evs (seen_ok _ _ seen_evs).2 a b c d p (by rw [evs_len]; exact q) r (by rw [evs_len]; exact s) ?_
    rw [evs_at a (by omega), evs_at b q, evs_at c (by omega), evs_at d s]
    exact e
  intro e
  rcases Nat.lt_or_gt_of_ne h1 with p | p <;> rcases Nat.lt_or_gt_of_ne h6 with q | q
  · have := key a b c d p hb q hd e; omega
  · have := key a b d c p hb q hc (by rw [Nat.xor_comm (M.ev d)]; exact e); omega
  · have := key b a c d p ha q hd (by rw [Nat.xor_comm (M.ev b)]; exact e); omega
  · have := key b a d c p ha q hc (by rw [Nat.xor_comm (M.ev b), Nat.xor_comm (M.ev d)]; exact e); omega
/-- the turns of several bits -/
def evL (ks : List Nat) : Nat := ks.foldl (fun s k => s ^^^ M.ev k) 0
theorem xor_zero {a b : Nat} (h : a ^^^ b = 0) : a = b := by
  have := congrArg (· ^^^ b) h
  simpa [Nat.xor_assoc] using this
/-- one to five bits turned are told -/
theorem five (ks : List Nat) (hn : ks.Nodup) (h1 : 1 ≤ ks.length) (h5 : ks.length ≤ 5) (hk : ∀ k ∈ ks, k < 118) : evL ks ≠ 0 := by
  have hp0 : M.par 0 = false := by decide
  match ks, hn, h1, h5, hk with
  | [a], _, _, _, hk =>
    intro e
    have : M.par (evL [a]) = true := by
      show M.par (0 ^^^ M.ev a) = true
      rw [Nat.zero_xor]; exact ev_par a (hk a (by simp))
    rw [e, hp0] at this
    cases this
  | [a, b], hn, _, _, hk =>
    show 0 ^^^ M.ev a ^^^ M.ev b ≠ 0
    rw [Nat.zero_xor]
    simp at hn
    exact ev_two a b (hk a (by simp)) (hk b (by simp)) hn
  | [a, b, c], _, _, _, hk =>
    intro e
    have : M.par (evL [a, b, c]) = true := by
      show M.par (0 ^^^ M.ev a ^^^ M.ev b ^^^ M.ev c) = true
      rw [Nat.zero_xor, M.par_xor, M.par_xor, ev_par a (hk a (by simp)), ev_par b (hk b (by simp)), ev_par c (hk c (by simp))]; rfl
    rw [e, hp0] at this
    cases this
  | [a, b, c, d], hn, _, _, hk =>
    intro e
    have e : 0 ^^^ M.ev a ^^^ M.ev b ^^^ M.ev c ^^^ M.ev d = 0 := e
    rw [Nat.zero_xor, Nat.xor_assoc] at e
    simp at hn
    obtain ⟨⟨n1, n2, n3⟩, ⟨n4, n5⟩, n6⟩ := hn
    exact ev_four a b c d (hk a (by simp)) (hk b (by simp)) (hk c (by simp)) (hk d (by simp)) n1 n2 n3 n4 n5 n6 (xor_zero e)
  | [a, b, c, d, f], _, _, _, hk =>
    intro e
    have : M.par (evL [a, b, c, d, f]) = true := by
      show M.par (0 ^^^ M.ev a ^^^ M.ev b ^^^ M.ev c ^^^ M.ev d ^^^ M.ev f) = true
      rw [Nat.zero_xor, M.par_xor, M.par_xor, M.par_xor, M.par_xor, ev_par a (hk a (by simp)), ev_par b (hk b (by simp)), ev_par c (hk c (by simp)), ev_par d (hk d (by simp)), ev_par f (hk f (by simp))]; rfl
    rw [e, hp0] at this
    cases this
end Go.Proofs.Ytnefmdjodjpopaa
namespace Go.Proofs.Ytnefmdjodjpopaa
set_option linter.unusedVariables false

/-- a letter turned -/
def flipL (x : List Nat) (p : Nat) : List Nat := x.set p (97 - x.getD p 0)
theorem flipL_len (x : List Nat) (p : Nat) : (flipL x p).length = x.length := by unfold flipL; rw [List.length_set]
theorem flipL_other (x : List Nat) (p j : Nat) (h : j ≠ p) : (flipL x p).getD j 0 = x.getD j 0 := by
  unfold flipL
  rw [List.getD_eq_getElem?_getD, List.getElem?_set_ne (fun e => h e.symm), List.getD_eq_getElem?_getD]
theorem flipL_isL (x : List Nat) (p : Nat) (hx : ∀ y ∈ x, M.isL y) : ∀ y ∈ flipL x p, M.isL y := by
  intro y hy
  by_cases hp : p < x.length
  · unfold flipL at hy
    rcases List.mem_or_eq_of_mem_set hy with h | h
    · exact hx y h
    · rw [h]; exact (M.isL_opp (over_isL hx p hp)).1
  · unfold flipL at hy
    rw [List.set_eq_of_length_le (by omega)] at hy
    exact hx y hy
theorem dbl_flip (v b k : Nat) (hb : b < 2) : (2 * v + b) ^^^ 2 ^ (k + 1) = 2 * (v ^^^ 2 ^ k) + b := by
  apply Nat.eq_of_testBit_eq
  intro i
  rw [Nat.testBit_xor]
  cases i with
  | zero =>
    rw [Nat.testBit_zero, Nat.testBit_zero, Nat.testBit_zero]
    have : (2 ^ (k + 1)) % 2 = 0 := by rw [Nat.pow_succ]; omega
    rw [this]
    have e1 : (2 * v + b) % 2 = b := by omega
    have e2 : (2 * (v ^^^ 2 ^ k) + b) % 2 = b := by omega
    rw [e1, e2]; simp
  | succ i =>
    rw [Nat.testBit_succ, Nat.testBit_succ, Nat.testBit_succ]
    have e1 : (2 * v + b) / 2 = v := by omega
    have e2 : (2 * (v ^^^ 2 ^ k) + b) / 2 = v ^^^ 2 ^ k := by omega
    have e3 : 2 ^ (k + 1) / 2 = 2 ^ k := by rw [Nat.pow_succ]; omega
    rw [e1, e2, e3, Nat.testBit_xor]
theorem end_flip (v b : Nat) (hb : b < 2) : (2 * v + b) ^^^ 1 = 2 * v + (1 - b) := by
  apply Nat.eq_of_testBit_eq
  intro i
  rw [Nat.testBit_xor]
  cases i with
  | zero =>
    rw [Nat.testBit_zero, Nat.testBit_zero, Nat.testBit_zero]
    rcases (show b = 0 ∨ b = 1 by omega) with rfl | rfl
    · have e1 : (2 * v + 0) % 2 = 0 := by omega
      have e2 : (2 * v + (1 - 0)) % 2 = 1 := by omega
      rw [e1, e2]; rfl
    · have e1 : (2 * v + 1) % 2 = 1 := by omega
      have e2 : (2 * v + (1 - 1)) % 2 = 0 := by omega
      rw [e1, e2]; rfl
  | succ i =>
    rw [Nat.testBit_succ, Nat.testBit_succ, Nat.testBit_succ]
    have e1 : (2 * v + b) / 2 = v := by omega
    have e2 : (2 * v + (1 - b)) / 2 = v := by omega
    rw [e1, e2]
    simp
theorem valL_flip (l : List Nat) (hl : ∀ y ∈ l, M.isL y) : ∀ j, j < l.length → valL (flipL l j) = valL l ^^^ 2 ^ (l.length - 1 - j) := by
  induction l using M.snoc_ind with
  | h0 => intro j h; cases h
  | h1 l c ih =>
    intro j hj
    have hc : M.isL c := hl c (by simp)
    have hl' : ∀ y ∈ l, M.isL y := fun y hy => hl y (by simp [hy])
    have hv : ∀ v, valStep v c = 2 * v + (c - 48) := (isL_bit hc).2
    rw [List.length_append, List.length_singleton] at hj ⊢
    by_cases e : j = l.length
    · subst e
      have e1 : flipL (l ++ [c]) l.length = l ++ [97 - c] := by
        unfold flipL
        rw [List.set_append_right _ _ (Nat.le_refl _), Nat.sub_self]
        simp
      rw [e1, valL_snoc, valL_snoc, hv, (isL_bit (M.isL_opp hc).1).2, show l.length + 1 - 1 - l.length = 0 by omega]
      have hb : c - 48 < 2 := by rcases hc with rfl | rfl <;> decide
      rw [show (2 : Nat) ^ 0 = 1 from rfl, end_flip _ _ hb]
      rcases hc with rfl | rfl <;> rfl
    · have hjl : j < l.length := by omega
      have e1 : flipL (l ++ [c]) j = flipL l j ++ [c] := by
        unfold flipL
        rw [List.set_append_left _ _ hjl]
        congr 2
        rw [List.getD_eq_getElem?_getD, List.getElem?_append_left hjl, List.getD_eq_getElem?_getD]
      have hb : c - 48 < 2 := by rcases hc with rfl | rfl <;> decide
      rw [e1, valL_snoc, valL_snoc, hv, hv, ih hl' j hjl, show l.length + 1 - 1 - j = (l.length - 1 - j) + 1 by omega, dbl_flip _ _ _ hb]
/-- what the sum and the bits said differ by -/
def synd (E : Nat) (x : List Nat) : Nat := M.crcN ((x.take E).map (· - 48)) ^^^ valL (x.drop E)
theorem bits2 (l : List Nat) (hl : ∀ y ∈ l, M.isL y) : ∀ y ∈ l.map (· - 48), y < 2 := by
  intro y hy
  rw [List.mem_map] at hy
  obtain ⟨z, hz, rfl⟩ := hy
  rcases hl z hz with rfl | rfl <;> decide
theorem synd_flip (E : Nat) (x : List Nat) (hx : ∀ y ∈ x, M.isL y) (hl : x.length = E + 15) (p : Nat) (hp : p < x.length) : synd E (flipL x p) = synd E x ^^^ M.ev (E + 14 - p) := by
  unfold synd
  by_cases h : p < E
  · have e1 : (flipL x p).take E = flipL (x.take E) p := by
      unfold flipL
      rw [List.take_set]
      congr 1
      rw [List.getD_eq_getElem?_getD, List.getD_eq_getElem?_getD, List.getElem?_take_of_lt h]
    have e2 : (flipL x p).drop E = x.drop E := by unfold flipL; rw [List.drop_set_of_lt h]
    have hlt : p < (x.take E).length := by rw [List.length_take]; omega
    have hxt : ∀ y ∈ x.take E, M.isL y := fun y hy => hx y (List.mem_of_mem_take hy)
    have e3 : (flipL (x.take E) p).map (· - 48) = ((x.take E).map (· - 48)).set p (1 - ((x.take E).map (· - 48)).getD p 0) := by
      unfold flipL
      rw [List.map_set]
      congr 1
      have g : ((x.take E).map (· - 48)).getD p 0 = (x.take E).getD p 0 - 48 := by
        rw [List.getD_eq_getElem?_getD, List.getElem?_map, List.getD_eq_getElem?_getD]
        rw [List.getElem?_eq_getElem hlt]
        rfl
      rw [g]
      rcases over_isL hxt p hlt with h' | h' <;> rw [h']
    rw [e1, e2, e3, M.crc_turn _ (bits2 _ hxt) p (by rw [List.length_map]; exact hlt)]
    have e4 : M.pw (((x.take E).map (· - 48)).length - 1 - p) = M.ev (E + 14 - p) := by
      unfold M.ev
      rw [if_neg (by omega), List.length_map, List.length_take]
      congr 1
      omega
    rw [e4, Nat.xor_assoc, Nat.xor_comm (M.ev _), ← Nat.xor_assoc]
  · have e1 : (flipL x p).take E = x.take E := by unfold flipL; rw [List.take_set_of_le (by omega)]
    have e2 : (flipL x p).drop E = flipL (x.drop E) (p - E) := by
      unfold flipL
      rw [List.drop_set, if_neg h]
      congr 1
      rw [List.getD_eq_getElem?_getD, List.getD_eq_getElem?_getD, List.getElem?_drop, show E + (p - E) = p by omega]
    have hd : (x.drop E).length = 15 := by rw [List.length_drop]; omega
    rw [e1, e2, valL_flip _ (fun y hy => hx y (List.mem_of_mem_drop hy)) (p - E) (by rw [hd]; omega), ← Nat.xor_assoc]
    congr 1
    unfold M.ev
    rw [if_pos (by omega), hd]
    congr 1
    omega
/-- several letters turned -/
def flips (x : List Nat) (ks : List Nat) : List Nat := ks.foldl flipL x
theorem flips_snoc (x ks : List Nat) (k : Nat) : flips x (ks ++ [k]) = flipL (flips x ks) k := by unfold flips; rw [List.foldl_append]; rfl
theorem evL_snoc (ks : List Nat) (k : Nat) : evL (ks ++ [k]) = evL ks ^^^ M.ev k := by unfold evL; rw [List.foldl_append]; rfl
theorem flips_len (x ks : List Nat) : (flips x ks).length = x.length := by
  induction ks using M.snoc_ind with
  | h0 => rfl
  | h1 ks k ih => rw [flips_snoc, flipL_len, ih]
theorem flips_isL (x ks : List Nat) (hx : ∀ y ∈ x, M.isL y) : ∀ y ∈ flips x ks, M.isL y := by
  induction ks using M.snoc_ind with
  | h0 => exact hx
  | h1 ks k ih => rw [flips_snoc]; exact flipL_isL _ _ ih
theorem flips_other (x ks : List Nat) (j : Nat) (h : j ∉ ks) : (flips x ks).getD j 0 = x.getD j 0 := by
  induction ks using M.snoc_ind with
  | h0 => rfl
  | h1 ks k ih =>
    rw [List.mem_append, not_or] at h
    rw [flips_snoc, flipL_other _ _ _ (by simpa using h.2), ih h.1]
theorem synd_flips (E : Nat) (x : List Nat) (hx : ∀ y ∈ x, M.isL y) (hl : x.length = E + 15) (ks : List Nat) (hk : ∀ k ∈ ks, k < x.length) : synd E (flips x ks) = synd E x ^^^ evL (ks.map (fun k => E + 14 - k)) := by
  induction ks using M.snoc_ind with
  | h0 => show synd E x = synd E x ^^^ 0; rw [Nat.xor_zero]
  | h1 ks k ih =>
    rw [flips_snoc, synd_flip E _ (flips_isL x ks hx) (by rw [flips_len]; exact hl) k (by rw [flips_len]; exact hk k (by simp)), ih (fun k' h' => hk k' (by simp [h'])), List.map_append, List.map_singleton, evL_snoc, Nat.xor_assoc]
end Go.Proofs.Ytnefmdjodjpopaa
namespace Go.Proofs.Ytnefmdjodjpopaa
set_option linter.unusedVariables false

/-- the letters that must stay: the start, the remote bit, the extension bit, the length's code -/
def fixd (e : Bool) (j : Nat) : Prop := j = 0 ∨ j = 12 ∨ j = 13 ∨ (e = true ∧ (j = 32 ∨ (35 ≤ j ∧ j < 39))) ∨ (e = false ∧ 15 ≤ j ∧ j < 19)
theorem stretch_same (x y : List Nat) (hl : x.length = y.length) (a m : Nat) (h : ∀ j, a ≤ j → j < a + m → x.getD j 0 = y.getD j 0) : (x.drop a).take m = (y.drop a).take m := by
  apply List.ext_getElem?
  intro i
  by_cases hi : i < m
  · rw [List.getElem?_take_of_lt hi, List.getElem?_take_of_lt hi, List.getElem?_drop, List.getElem?_drop]
    have := h (a + i) (by omega) (by omega)
    by_cases hx : a + i < x.length
    · have hy : a + i < y.length := by omega
      rw [List.getElem?_eq_getElem hx, List.getElem?_eq_getElem hy]
      rw [List.getD_eq_getElem?_getD, List.getD_eq_getElem?_getD, List.getElem?_eq_getElem hx, List.getElem?_eq_getElem hy] at this
      simpa using this
    · rw [List.getElem?_eq_none (by omega), List.getElem?_eq_none (by omega)]
  · rw [List.getElem?_eq_none (by rw [List.length_take]; omega), List.getElem?_eq_none (by rw [List.length_take]; omega)]
theorem lay_same (e : Bool) (x y : List Nat) (hl : x.length = y.length) (hH : layH x = bodyH e) (h : ∀ j, fixd e j → y.getD j 0 = x.getD j 0) : layH y = layH x ∧ layN y = layN x ∧ endL y = endL x := by
  have h13 := h 13 (by unfold fixd; simp)
  have a1 : layH y = layH x := by unfold layH; rw [h13]
  have a2 : layN y = layN x := by
    have hR : layR y = layR x := by
      unfold layR
      rw [h13]
      have hi := layH_iff x
      rw [hH] at hi
      cases e with
      | true =>
        have hp : x.getD 13 0 = 49 := hi.1 rfl
        rw [if_pos hp, if_pos hp, h 32 (by unfold fixd; simp)]
      | false =>
        have hp : ¬ x.getD 13 0 = 49 := fun hq => by have := hi.2 hq; cases this
        rw [if_neg hp, if_neg hp, h 12 (by unfold fixd; simp)]
    have hS : (y.drop (layH x - 4)).take 4 = (x.drop (layH x - 4)).take 4 := by
      refine stretch_same y x hl.symm _ 4 (fun j h1 h2 => h j ?_)
      rw [hH] at h1 h2
      unfold fixd
      cases e with
      | true => exact .inr (.inr (.inr (.inl ⟨rfl, .inr ⟨h1, h2⟩⟩)))
      | false => exact .inr (.inr (.inr (.inr ⟨rfl, h1, h2⟩)))
    unfold layN
    rw [hR, a1, hS]
  exact ⟨a1, a2, by unfold endL; rw [a1, a2]⟩
/-- plain letters whose layout is their own -/
theorem lay_gen (x : List Nat) (h0 : x.getD 0 0 = 48) (hx : ∀ y ∈ x, M.isL y) (hH : layH x ≤ x.length) (hE : x.length = endL x + 15) : Lay x := by
  have key : ∀ m, m ≤ x.length → m < layH (x.take m) ∨ (layH (x.take m) ≤ m ∧ endL (x.take m) = endL x) := by
    intro m hm
    by_cases a : m < layH (x.take m)
    · exact .inl a
    · right
      have hlt : (x.take m).length = m := by rw [List.length_take]; omega
      have := (lay_pre (x.take m) (x.drop m) (by omega)).2.2
      rw [List.take_append_drop] at this
      exact ⟨by omega, this.symm⟩
  refine ⟨hx, ?_, ?_⟩
  · intro m hm
    have hlt : (x.take m).length = m := by rw [List.length_take]; omega
    have hH' := layH_or (x.take m)
    have hE' := layH_le (x.take m)
    have hf := fieldL_eq (x.take m)
    rw [hlt] at hf
    rcases key m (by omega) with a | ⟨a1, a2⟩
    · have := fN_lt m _ (endL (x.take m)) hH' a
      refine look0 (by omega) (fun f1 => ?_)
      have : m = 0 := this.2 (by omega)
      subst this
      exact h0
    · have := fN_mid m _ _ hH' hE' a1 (by omega)
      exact look0 (by omega) (fun f1 => by omega)
  · intro m hm
    have hlt : (x.take m).length = m := by rw [List.length_take]; omega
    have hH' := layH_or (x.take m)
    have hE' := layH_le (x.take m)
    have hf := fieldL_eq (x.take m)
    rw [hlt] at hf
    rcases key m hm with a | ⟨a1, a2⟩
    · have := fN_lt m _ (endL (x.take m)) hH' a
      omega
    · by_cases a3 : m < endL (x.take m) + 15
      · have := fN_mid m _ _ hH' hE' a1 a3
        omega
      · have := fN_end m _ _ hH' hE' (by omega)
        omega
/-- the end of a text whose sum is wrong -/
theorem bad_sum (x : List Nat) (h0 : x.getD 0 0 = 48) (hx : ∀ y ∈ x, M.isL y) (hH : layH x ≤ x.length) (hE : x.length = endL x + 15) (hlen : x.length ≤ 118) (a : Nat) (ha : M.isL a) (hbad : crcOkL (x ++ [49, a]) = false) :
    (walkZ (strN (M.stuffL x ++ [49, a, 49]))).code = 5 := by
  have hlay := lay_gen x h0 hx hH hE
  have h49 : M.isL 49 := .inr rfl
  have hL : ∀ y ∈ M.stuffL x ++ [49, a, 49], M.isL y := by
    intro y hy
    rw [List.mem_append] at hy
    rcases hy with hy | hy
    · exact M.stuff_all x hx y hy
    · simp only [List.mem_cons, List.not_mem_nil, or_false] at hy
      rcases hy with h | h | h <;> rw [h] <;> first | exact h49 | exact ha
  have hws := walk_stuff x (M.stuffL x ++ [49, a, 49]) hlay hL (List.take_left' rfl) x.length (Nat.le_refl _)
  rw [List.take_length] at hws
  obtain ⟨hz, hS⟩ := hws
  have hHo := layH_or x
  have hHE := layH_le x
  have g0 : (M.stuffL x ++ [49, a, 49]).getD (M.stuffL x).length 0 = 49 := by rw [List.getD_eq_getElem?_getD, List.getElem?_append_right (Nat.le_refl _), Nat.sub_self]; rfl
  have g1 : (M.stuffL x ++ [49, a, 49]).getD ((M.stuffL x).length + 1) 0 = a := by rw [List.getD_eq_getElem?_getD, List.getElem?_append_right (by omega), Nat.add_sub_cancel_left]; rfl
  have g2 : (M.stuffL x ++ [49, a, 49]).getD ((M.stuffL x).length + 2) 0 = 49 := by rw [List.getD_eq_getElem?_getD, List.getElem?_append_right (by omega), Nat.add_sub_cancel_left]; rfl
  have P : ∀ t : List Nat, layH (x ++ t) ≤ (x ++ t).length ∧ endL (x ++ t) = endL x := fun t => by
    obtain ⟨p1, p2, p3⟩ := lay_pre x t hH
    exact ⟨by rw [p1, List.length_append]; omega, p3⟩
  have F : ∀ t : List Nat, t.length < 10 → fieldL (x ++ t) = if t.length = 0 then 11 else if t.length = 1 then 12 else if t.length = 2 then 13 else 14 := fun t ht => by
    have hle := layH_le (x ++ t)
    rw [(P t).2] at hle
    rw [fieldL_eq, (P t).2, List.length_append, hE]
    exact fN_tail t.length _ _ (layH_or _) hle ht
  have s1 : sw (M.stuffL x ++ [49, a, 49]) ((M.stuffL x).length + 1) = (0, x ++ [49], false) := by
    have := sw_next _ _ 0 x hS (by rw [g0, F [49] (by decide)]; decide)
    rw [g0] at this
    rw [this]
    congr 1
    have := look_tail x (endL x) 0 49 hH rfl (by omega) (by decide) (fun _ => rfl) (fun h => by cases h)
    simpa using this
  have s2 : sw (M.stuffL x ++ [49, a, 49]) ((M.stuffL x).length + 2) = (0, x ++ [49, a], false) := by
    have := sw_next _ _ 0 (x ++ [49]) s1 (by rw [g1, List.append_assoc, List.singleton_append, F [49, a] (by simp)]; simp)
    rw [g1, List.append_assoc, List.singleton_append] at this
    rw [this]
    congr 1
    have := look_tail (x ++ [49]) (endL x) 1 a (P [49]).1 (P [49]).2 (by rw [List.length_append, hE]; rfl) (by decide) (fun h => absurd rfl h) (fun h => by cases h)
    simpa using this
  have s3 : (sw (M.stuffL x ++ [49, a, 49]) ((M.stuffL x).length + 3)).1 = 5 := by
    have := sw_next _ _ 0 (x ++ [49, a]) s2 (by rw [g2, List.append_assoc, F ([49, a] ++ [49]) (by simp)]; simp)
    rw [this]
    show lookL (x ++ [49, a]) _ = 5
    rw [g2]
    unfold lookL
    rw [F [49, a] (by simp), hbad]
    rfl
  have hlen2 := M.stuff_len x
  rw [(walk_code _).1]
  unfold swZ
  have hll : (M.stuffL x ++ [49, a, 49]).length = (M.stuffL x).length + 3 := by simp
  rw [if_pos (okT_strN _ 4000 hL (by rw [hll]; omega)), lt_strN _ (isL_256 hL), hll, swF_on]
  · rw [Nat.zero_add]; exact s3
  · intro j _ hj
    by_cases h1 : j ≤ (M.stuffL x).length
    · rw [hz j h1]; rfl
    · rcases (show j = (M.stuffL x).length + 1 ∨ j = (M.stuffL x).length + 2 by omega) with rfl | rfl
      · rw [s1]; rfl
      · rw [s2]; rfl
end Go.Proofs.Ytnefmdjodjpopaa
namespace Go.Proofs.Ytnefmdjodjpopaa
set_option linter.unusedVariables false

theorem synd_plain (e : Bool) (i : Nat) (r : Bool) (d : Nat) (l : List Nat) : synd (bodyL e i r d l).length (plainL e i r d l) = 0 := by
  unfold synd
  have e1 : (plainL e i r d l).take (bodyL e i r d l).length = bodyL e i r d l := by unfold plainL; rw [List.take_left' rfl]
  have e2 : (plainL e i r d l).drop (bodyL e i r d l).length = M.num (M.crcN ((bodyL e i r d l).map (fun x => x - 48))) 15 := by unfold plainL; rw [List.drop_left' rfl]
  rw [e1, e2, valL_num, Nat.mod_eq_of_lt (M.crcN_lt _), Nat.xor_self]
theorem body_le (e : Bool) (i : Nat) (r : Bool) (d : Nat) (l : List Nat) (h : fits r d l) : (bodyL e i r d l).length ≤ 103 := by
  have h3 := h.len
  have h4 : l.length ≤ 8 := by rw [h3]; split <;> omega
  rw [bodyL_length]
  cases e <;> simp <;> omega
/-- one to five open letters turned: the sum is told to be wrong -/
theorem flips_bad (e : Bool) (i : Nat) (r : Bool) (d : Nat) (l : List Nat) (h : fits r d l) (hs : List Nat) (hn : hs.Nodup) (h1 : 1 ≤ hs.length) (h5 : hs.length ≤ 5) (ho : ∀ p ∈ hs, p < (bodyL e i r d l).length + 15 ∧ ¬ fixd e p) (a : Nat) (ha : M.isL a) :
    (walkZ (strN (M.stuffL (flips (plainL e i r d l) hs) ++ [49, a, 49]))).code = 5 := by
  obtain ⟨p1, p2⟩ := plain_lay e i r d l [] h
  obtain ⟨b1, -, -, -⟩ := body_lay e i r d l (M.num (M.crcN ((bodyL e i r d l).map (fun x => x - 48))) 15) h
  have b1 : layH (plainL e i r d l) = bodyH e := b1
  rw [List.append_nil] at p1 p2
  have hpl := plainL_len e i r d l
  have hisl := plainL_isL e i r d l
  have hE := body_le e i r d l h
  have hnf : ∀ j, fixd e j → j ∉ hs := fun j hj hm => (ho j hm).2 hj
  have hsame : ∀ j, fixd e j → (flips (plainL e i r d l) hs).getD j 0 = (plainL e i r d l).getD j 0 := fun j hj => flips_other _ _ j (hnf j hj)
  have hfl := flips_len (plainL e i r d l) hs
  obtain ⟨q1, q2, q3⟩ := lay_same e (plainL e i r d l) (flips (plainL e i r d l) hs) hfl.symm b1 hsame
  have hx0 : (plainL e i r d l).getD 0 0 = 48 := by unfold plainL bodyL; simp
  have hxi := flips_isL _ hs hisl
  have hH : layH (flips (plainL e i r d l) hs) ≤ (flips (plainL e i r d l) hs).length := by rw [q1, hfl]; exact p1
  have hEE : endL (flips (plainL e i r d l) hs) = (bodyL e i r d l).length := by rw [q3, p2]
  refine bad_sum _ (by rw [hsame 0 (.inl rfl)]; exact hx0) hxi hH (by rw [hfl, hEE]; exact hpl) (by rw [hfl, hpl]; omega) a ha ?_
  have hlist : ∀ y ∈ flips (plainL e i r d l) hs ++ [49, a], M.isL y := by
    intro y hy
    rw [List.mem_append] at hy
    rcases hy with hy | hy
    · exact hxi y hy
    · simp only [List.mem_cons, List.not_mem_nil, or_false] at hy
      rcases hy with h | h <;> rw [h]
      · exact .inr rfl
      · exact ha
  obtain ⟨r1, -, r3⟩ := lay_pre (flips (plainL e i r d l) hs) [49, a] hH
  rw [crcOkL_M _ hlist]
  unfold crcOkM
  rw [layL2 (by rw [r1, List.length_append]; omega), r3, hEE]
  have hlen : (flips (plainL e i r d l) hs).length = (bodyL e i r d l).length + 15 := by rw [hfl]; exact hpl
  have t1 : (flips (plainL e i r d l) hs ++ [49, a]).take (bodyL e i r d l).length = (flips (plainL e i r d l) hs).take (bodyL e i r d l).length := List.take_append_of_le_length (by omega)
  have t2 : ((flips (plainL e i r d l) hs ++ [49, a]).drop (bodyL e i r d l).length).take 15 = (flips (plainL e i r d l) hs).drop (bodyL e i r d l).length := by
    rw [List.drop_append_of_le_length (by omega), List.take_left' (by rw [List.length_drop]; omega)]
  rw [t1, t2, Bool.and_eq_false_iff]
  right
  refine decide_eq_false (fun heq => ?_)
  have hsy := synd_flips (bodyL e i r d l).length (plainL e i r d l) hisl hpl hs (fun k hk => by rw [hpl]; exact (ho k hk).1)
  rw [synd_plain, Nat.zero_xor] at hsy
  have h0 : synd (bodyL e i r d l).length (flips (plainL e i r d l) hs) = 0 := by unfold synd; rw [heq, Nat.xor_self]
  rw [h0] at hsy
  refine five (hs.map (fun k => (bodyL e i r d l).length + 14 - k)) ?_ (by rw [List.length_map]; exact h1) (by rw [List.length_map]; exact h5) ?_ hsy.symm
  · rw [List.nodup_iff_pairwise_ne, List.pairwise_map]
    refine List.Pairwise.imp_of_mem (fun {x y} hx hy hne => ?_) hn
    have := (ho x hx).1
    have := (ho y hy).1
    omega
  · intro k hk
    rw [List.mem_map] at hk
    obtain ⟨z, -, rfl⟩ := hk
    omega
/-- none turned: it goes on, at the end of the frame -/
theorem flips_none (e : Bool) (i : Nat) (r : Bool) (d : Nat) (l : List Nat) (h : fits r d l) :
    (walkZ (strN (M.stuffL (plainL e i r d l) ++ [49, 49, 49]))).code = 0 ∧ (walkZ (strN (M.stuffL (plainL e i r d l) ++ [49, 49, 49]))).field = 14 := by
  have h49 : M.isL 49 := .inr rfl
  have hlen := imgL_len e i r d l 49
  have e1 : (imgL e i r d l 49).take ((M.stuffL (plainL e i r d l)).length + 3) = M.stuffL (plainL e i r d l) ++ [49, 49, 49] := by
    unfold imgL tailT
    rw [List.take_append, List.take_of_length_le (by omega), Nat.add_sub_cancel_left]
    rfl
  have hz := img_swZ e i r d l 49 h h49 ((M.stuffL (plainL e i r d l)).length + 3) (by omega)
  have ht := tail_walk e i r d l 49 h h49 3 (by decide)
  rw [e1] at hz
  have hz2 : swZ (strN (M.stuffL (plainL e i r d l) ++ [49, 49, 49])) = (0, plainL e i r d l ++ (tailT 49).take 3, false) := by rw [hz]; exact ht
  have hil : ∀ y ∈ M.stuffL (plainL e i r d l) ++ [49, 49, 49], M.isL y := by rw [← e1]; intro y hy; exact imgL_isL e i r d l 49 h49 y (List.mem_of_mem_take hy)
  have hle := imgL_le e i r d l 49 h
  have hk : okT (strN (M.stuffL (plainL e i r d l) ++ [49, 49, 49])) 4000 = true := okT_strN _ 4000 hil (by rw [← e1, List.length_take]; omega)
  have hw := walk_all (lt (strN (M.stuffL (plainL e i r d l) ++ [49, 49, 49]))) (lt_isL hk)
  have hzz : swF (lt (strN (M.stuffL (plainL e i r d l) ++ [49, 49, 49]))) (lt (strN (M.stuffL (plainL e i r d l) ++ [49, 49, 49]))).length 0 = (0, plainL e i r d l ++ (tailT 49).take 3, false) := by
    rw [← hz2]; unfold swZ; rw [if_pos hk]
  rw [hzz] at hw
  obtain ⟨w1, w2, -⟩ := hw
  unfold walkZ
  rw [if_pos hk]
  refine ⟨w1, ?_⟩
  rw [(w2 rfl).1]
  obtain ⟨q1, q2⟩ := plain_lay e i r d l ((tailT 49).take 3) h
  have hle := layH_le (plainL e i r d l ++ (tailT 49).take 3)
  rw [q2] at hle
  rw [fieldL_eq, q2]
  have hl' : (plainL e i r d l ++ (tailT 49).take 3).length = (bodyL e i r d l).length + 15 + 3 := by rw [List.length_append, plainL_len]; rfl
  rw [hl', fN_tail 3 _ _ (layH_or _) hle (by decide)]
  rfl
end Go.Proofs.Ytnefmdjodjpopaa
namespace Go.Proofs.Ytnefmdjodjpopaa
open Go.RowKit

def iv (l : List Nat) : List Value := l.map (fun x : Nat => Value.int .i64 ((x : Nat) : Int))
theorem info3 : (Try.prog.info? 3).map (fun i => (i.zero, i.size, i.bytes)) = some (some (.int .i64 0), 1, 8) := by kernel_rfl
theorem under52 : Try.prog.underlying 52 = some (.slice 3) := by kernel_rfl
/-- a row of ints of its own -/
def ownsI (w : World) (B : Nat) (v : Value) (l : List Nat) : Prop := w.ownsRow B 3 1 v l.length (iv l)
theorem ownI_nil (w : World) (B : Nat) (hB : B ≤ w.heap.size) : ownsI (w.alloc (.cells #[] 3)) B (.slice (some ⟨w.heap.size, 0, none⟩) 0 0) [] :=
  World.ownsRow_made w #[] 0 hB (by decide) rfl
theorem list_appI {ci : Int} {ops : Array Oper} {rest : List Oper} {o : Oper} {a : Act} {Q : Exit → Act → World → Prop} (wr W : World) (hW : W = wr.alloc (.cells #[.int .i64 ci] 3)) (hgd : o.guard = none) (s x : Operand)
    (ho : o.op = .call { callee := .builtin .append, args := #[s, x], argTypes := #[52, 52] })
    (B : Nat) (v : Value) (l : List Nat) (c : Nat) (hci : ci = (c : Int)) (hs : a.eval s = v) (hown : ownsI wr B v l)
    (hx : a.eval x = .slice (some ⟨wr.heap.size, 0, none⟩) 1 1) (hlen : l.length ≤ 1000000) (hB : B ≤ wr.heap.size)
    (h : ∀ ao cap' w', ownsI w' B (.slice ao (l.length + 1) cap') (l ++ [c]) → (wr.alloc (.cells #[.int .i64 (c : Int)] 3)).grownBy w' v.ownBlock → (∀ g, g < wr.heap.size → v.ownBlock ≠ some g → (Value.slice ao (l.length + 1) cap').ownBlock ≠ some g) → wpList Try.prog ops Q rest (a.put o.dst (.slice ao (l.length + 1) cap')) w') :
    wpList Try.prog ops Q (o :: rest) a W := by
  subst hci hW
  obtain ⟨i0, hi, hz0, hz1, hz2⟩ := info_parts info3
  refine wpList_append_lies _ hgd s x 52 ho B 3 i0 (.int .i64 0) 1 8 under52 hi hz0 hz1 hz2 rfl (by decide) v l.length (iv l) hs (World.ownsRow.alloc hown _) ⟨wr.heap.size, 0, none⟩ 1 1 [.int .i64 (c : Int)] hx rfl ?_ ?_ (by decide) ?_ ?_ ?_ (wr.heap.size + 1) (by simp) ?_
  · intro j u hj
    match j, hj with
    | 0, hj => simp at hj; subst hj; simp [Addr.add]
  · intro u hu; simp at hu; subst hu; rfl
  · unfold maxLen; omega
  · omega
  · simp; omega
  · intro gg cap w' ho' hg hat hlt
    have e1 : iv (l ++ [c]) = iv l ++ [.int .i64 (c : Int)] := by simp [iv]
    refine h (some ⟨gg, 0, none⟩) cap w' ?_ hg (fun g hgl hne => ?_)
    · unfold ownsI
      rw [e1, List.length_append]
      exact ho'
    · intro e
      simp [Value.ownBlock] at e
      rcases hat with hat | hat
      · exact hne (e ▸ hat)
      · omega
theorem ownsI.otherBlock {w w' : World} {B : Nat} {v : Value} {l : List Nat} (h : ownsI w B v l) (hk : ∀ g, v.ownBlock = some g → w'.heap[g]? = w.heap[g]?) : ownsI w' B v l := by
  obtain ⟨h1, h2 | ⟨g, cap, cur, rfl, hb, hh, rest⟩⟩ := h
  · exact ⟨h1, .inl h2⟩
  · exact ⟨h1, .inr ⟨g, cap, cur, rfl, hb, (hk g (by simp [Value.ownBlock])).trans hh, rest⟩⟩
/-- wOpen at work -/
structure woS (w0 : World) (F : Nat) (e : Bool) (i : Nat) (r : Bool) (d : Int) (fv : Value) (v : Value) (ol : List Nat) (W : World) : Prop where
  f : frAt W F e i r d fv
  own : ownsI W w0.heap.size v ol
  bel : Below w0.heap.size w0 W
  ne : v.ownBlock ≠ some F
  le : w0.heap.size ≤ F
theorem woS.app {w0 : World} {F : Nat} {e : Bool} {i : Nat} {r : Bool} {d : Int} {fv v v' : Value} {ol ol' : List Nat} {W W' : World} {o : Obj} (h : woS w0 F e i r d fv v ol W) (ho : ownsI W' w0.heap.size v' ol') (hg : (W.alloc o).grownBy W' v.ownBlock) (hk : ∀ g, g < W.heap.size → v.ownBlock ≠ some g → v'.ownBlock ≠ some g) : woS w0 F e i r d fv v' ol' W' := by
  have hz := h.bel.size
  refine ⟨((hg.block F (by simp; exact Nat.lt_succ_of_lt h.f.lt) (fun e => h.ne e.symm)).trans (Below.heap_alloc W _ F h.f.lt)).trans h.f, ho, ?_, hk F h.f.lt h.ne, h.le⟩
  exact (h.bel.alloc hz _).grown hg (by simp; omega) (fun k e => (World.ownsRow.lt h.own k e).1)
theorem open_snoc {e : Bool} {n k : Nat} {ol : List Nat} (h : ∀ p ∈ ol, p < n ∧ ¬ fixd e p) (hk : k < n) (hf : ¬ fixd e k) : ∀ p ∈ ol ++ [k], p < n ∧ ¬ fixd e p := by
  intro p hp
  rw [List.mem_append, List.mem_singleton] at hp
  rcases hp with hp | rfl
  · exact h p hp
  · exact ⟨hk, hf⟩
set_option maxHeartbeats 4000000 in
set_option maxRecDepth 20000 in
theorem wOpen_ok (w : World) (e : Bool) (i : Nat) (r : Bool) (dn : Nat) (a : Option Addr) (cap : Nat) (l : List Nat) (h : isBytes w a l.length cap l) (hv : validB e i r (dn : Int) l.length = true) (hf : fits r dn l) :
    Calls Try.prog 44 #[frV e i r (dn : Int) a l.length cap] w fun o w' => ∃ (ao : Option Addr) (cp : Nat) (ol : List Nat), o = .returned (.slice ao ol.length cp) ∧ ownsI w' w.heap.size (.slice ao ol.length cp) ol ∧ (∀ p ∈ ol, p < (bodyL e i r dn l).length + 15 ∧ ¬ fixd e p) ∧ ol ≠ [] ∧ ol.length ≤ 118 ∧ Below w.heap.size w w' := by
  have hb := body_le e i r dn l hf
  have H : Hid (isBytes w a l.length cap l ∧ validB e i r (dn : Int) l.length = true) := ⟨h, hv⟩
  clear h hv hf
  go_enter Try.func44, Try.ntmps44
  go_wp2_with fail
  refine (specBody_ok _ e i r dn a l.length cap l (H.out.1.below (((Below.refl _ _).alloc (Nat.le_refl _) _).alloc (by simp) _)) H.out.2).mono ?_
  rintro o w1 ⟨rfl, hb1⟩
  have z0 : (w.alloc (.cells #[.bool e, .int .u32 (i : Int), .bool r, .int .i64 (dn : Int), .slice a l.length cap] 33)).heap.size = w.heap.size + 1 := by simp
  have hbw : Below w.heap.size w ((w.alloc (.cells #[.bool e, .int .u32 (i : Int), .bool r, .int .i64 (dn : Int), .slice a l.length cap] 33)).alloc (.cells #[] 3)) := ((Below.refl _ _).alloc (Nat.le_refl _) _).alloc (by simp) _
  have st : woS w w.heap.size e i r (dn : Int) (.slice a l.length cap) (.slice (some ⟨w.heap.size + 1, 0, none⟩) 0 0) [] w1 := by
    have o0 := ownI_nil (w.alloc (.cells #[.bool e, .int .u32 (i : Int), .bool r, .int .i64 (dn : Int), .slice a l.length cap] 33)) w.heap.size (by omega)
    rw [z0] at o0
    refine ⟨(hb1.block _ (by simp; omega)).trans ((Below.heap_alloc _ _ _ (by omega)).trans (heap_alloc_new w _)), o0.otherBlock (fun g hg => hb1.block g (World.ownsRow.lt o0 g hg).2), hbw.trans (hb1.mono (by simp; omega)), by simp [Value.ownBlock], Nat.le_refl _⟩
  have hs : (strN (bodyL e i r dn l)).size = (bodyL e i r dn l).length := strN_size _
  clear z0 hbw hb1
  generalize hbn : (bodyL e i r dn l).length = bn at *
  have HBN : Hid ((bodyL e i r dn l).length = bn) := hbn
  clear hbn
  generalize strN (bodyL e i r dn l) = tb at *
  have HW : Hid (w.heap.size = w.heap.size) := rfl
  go_wp2_with fail
  go_loopw [3, 5] (fun v ii wr => ∃ (k : Nat) (ol : List Nat) (ao : Option Addr) (cp : Nat), 1 ≤ k ∧ k ≤ bn + 15 ∧ ii = .int .i64 (k : Int) ∧ v = .slice ao ol.length cp ∧ woS w w.heap.size e i r (dn : Int) (.slice a l.length cap) (.slice ao ol.length cp) ol wr ∧ (∀ p ∈ ol, p < bn + 15 ∧ ¬ fixd e p) ∧ (2 ≤ k → ol ≠ []) ∧ ol.length ≤ k) (fun _ ii _ => bn + 15 - (intOf ii).toNat)
  case atStart => exact ⟨1, [], _, _, by decide, by omega, rfl, rfl, st, by simp, by omega, by decide⟩
  case round =>
    clear st
    obtain ⟨k, ol, ao, cp, hk1, hk2, rfl, rfl, st, ho, hne, hll⟩ := hrel
    obtain ⟨p0, -⟩ := st.f.cells
    by_cases hlt : k < bn + 15
    · have HO : Hid ((∀ p ∈ ol, p < bn + 15 ∧ ¬ fixd e p) ∧ (2 ≤ k → ol ≠ []) ∧ ol.length ≤ k ∧ 1 ≤ k ∧ k < bn + 15) := ⟨ho, hne, hll, hk1, hlt⟩
      have ST : Hid (woS w w.heap.size e i r (dn : Int) (.slice a l.length cap) (.slice ao ol.length cp) ol wr) := st
      have hlt' : (k : Int) < (bn : Int) + 15 := by omega
      by_cases hc : fixd e k
      · have hc2 : k = 12 ∨ k = 13 ∨ (e = true ∧ (k = 32 ∨ k = 35 ∨ k = 36 ∨ k = 37 ∨ k = 38)) ∨ (e = false ∧ (k = 15 ∨ k = 16 ∨ k = 17 ∨ k = 18)) := by
          unfold fixd at hc
          rcases hc with h | h | h | ⟨h, h'⟩ | ⟨h, h'⟩
          · omega
          · exact .inl h
          · exact .inr (.inl h)
          · exact .inr (.inr (.inl ⟨h, by omega⟩))
          · exact .inr (.inr (.inr ⟨h, by omega⟩))
        clear st ho hne hll hk1 hk2 hc hlt
        obtain ⟨K, HKK⟩ : ∃ K, Hid (K = k + 1) := ⟨k + 1, rfl⟩
        rcases hc2 with rfl | rfl | ⟨rfl, rfl | rfl | rfl | rfl | rfl⟩ | ⟨rfl, rfl | rfl | rfl | rfl⟩
        all_goals
          go_wp2
          go_roundw
          case rel => exact ⟨K, ol, ao, cp, by have := HKK.out; omega, by have := HO.out.2.2.2.2; have := HKK.out; omega, by rw [HKK.out]; rfl, rfl, ST.out, HO.out.1, fun _ => HO.out.2.1 (by decide), by have := HO.out.2.2.1; have := HKK.out; omega⟩
          case measure => first | (simp [intOf]; omega) | simp [intOf]
      · have hq : ¬ k = 12 ∧ ¬ k = 13 ∧ (e = true → ¬ (k = 32 ∨ (35 ≤ k ∧ k < 39))) ∧ (e = false → ¬ (15 ≤ k ∧ k < 19)) := by
          unfold fixd at hc
          refine ⟨fun h => hc (.inr (.inl h)), fun h => hc (.inr (.inr (.inl h))), fun he h => hc (.inr (.inr (.inr (.inl ⟨he, h⟩)))), fun he h => hc (.inr (.inr (.inr (.inr ⟨he, h⟩))))⟩
        have HC : Hid (¬ fixd e k) := hc
        have b12 : ((k : Int) == 12) = false := by simp; omega
        have b13 : ((k : Int) == 13) = false := by simp; omega
        have HLL : Hid (ol.length ≤ 1000000) := by unfold Hid; omega
        clear st ho hne hll hc
        cases e with
        | true =>
          have b32 : ((k : Int) == 32) = false := by have := hq.2.2.1 rfl; simp; omega
          by_cases h35 : (35 : Int) ≤ (k : Int)
          · have h39 : ¬ (k : Int) < 39 := by have := hq.2.2.1 rfl; omega
            clear hq
            go_wp2_with (at_builtin; refine list_appI wr _ rfl rfl (.tmp 47) (.tmp 49) rfl w.heap.size _ ol k rfl rfl ST.out.own rfl HLL.out ST.out.bel.size ?_)
            intro ao9 cp9 w9 ho9 hg9 hk9
            have st9 := ST.out.app ho9 hg9 hk9
            go_wp2
            go_roundw
            case rel => exact ⟨k + 1, ol ++ [k], ao9, cp9, by omega, HO.out.2.2.2.2, by go_num, by rw [List.length_append]; rfl, by rw [List.length_append]; exact st9, open_snoc HO.out.1 HO.out.2.2.2.2 HC.out, fun _ => by simp, by rw [List.length_append]; have := HO.out.2.2.1; simp; omega⟩
            case measure => have := HO.out.2.2.2.2; simp [intOf]; omega
          · clear hq
            go_wp2_with (at_builtin; refine list_appI wr _ rfl rfl (.tmp 47) (.tmp 49) rfl w.heap.size _ ol k rfl rfl ST.out.own rfl HLL.out ST.out.bel.size ?_)
            intro ao9 cp9 w9 ho9 hg9 hk9
            have st9 := ST.out.app ho9 hg9 hk9
            go_wp2
            go_roundw
            case rel => exact ⟨k + 1, ol ++ [k], ao9, cp9, by omega, HO.out.2.2.2.2, by go_num, by rw [List.length_append]; rfl, by rw [List.length_append]; exact st9, open_snoc HO.out.1 HO.out.2.2.2.2 HC.out, fun _ => by simp, by rw [List.length_append]; have := HO.out.2.2.1; simp; omega⟩
            case measure => have := HO.out.2.2.2.2; simp [intOf]; omega
        | false =>
          by_cases h15 : (15 : Int) ≤ (k : Int)
          · have h19 : ¬ (k : Int) < 19 := by have := hq.2.2.2 rfl; omega
            clear hq
            go_wp2_with (at_builtin; refine list_appI wr _ rfl rfl (.tmp 47) (.tmp 49) rfl w.heap.size _ ol k rfl rfl ST.out.own rfl HLL.out ST.out.bel.size ?_)
            intro ao9 cp9 w9 ho9 hg9 hk9
            have st9 := ST.out.app ho9 hg9 hk9
            go_wp2
            go_roundw
            case rel => exact ⟨k + 1, ol ++ [k], ao9, cp9, by omega, HO.out.2.2.2.2, by go_num, by rw [List.length_append]; rfl, by rw [List.length_append]; exact st9, open_snoc HO.out.1 HO.out.2.2.2.2 HC.out, fun _ => by simp, by rw [List.length_append]; have := HO.out.2.2.1; simp; omega⟩
            case measure => have := HO.out.2.2.2.2; simp [intOf]; omega
          · clear hq
            go_wp2_with (at_builtin; refine list_appI wr _ rfl rfl (.tmp 47) (.tmp 49) rfl w.heap.size _ ol k rfl rfl ST.out.own rfl HLL.out ST.out.bel.size ?_)
            intro ao9 cp9 w9 ho9 hg9 hk9
            have st9 := ST.out.app ho9 hg9 hk9
            go_wp2
            go_roundw
            case rel => exact ⟨k + 1, ol ++ [k], ao9, cp9, by omega, HO.out.2.2.2.2, by go_num, by rw [List.length_append]; rfl, by rw [List.length_append]; exact st9, open_snoc HO.out.1 HO.out.2.2.2.2 HC.out, fun _ => by simp, by rw [List.length_append]; have := HO.out.2.2.1; simp; omega⟩
            case measure => have := HO.out.2.2.2.2; simp [intOf]; omega
    · have hlt' : ¬ (k : Int) < (bn : Int) + 15 := by omega
      have HE : Hid (ownsI wr w.heap.size (.slice ao ol.length cp) ol ∧ (∀ p ∈ ol, p < bn + 15 ∧ ¬ fixd e p) ∧ ol ≠ [] ∧ ol.length ≤ 118 ∧ Below w.heap.size w wr) := ⟨st.own, ho, hne (by omega), by omega, st.bel⟩
      clear st ho hne hll hlt p0
      go_wp2
      go_ret
      rw [HBN.out]
      exact ⟨ao, cp, ol, rfl, HE.out⟩
end Go.Proofs.Ytnefmdjodjpopaa
namespace Go.Proofs.Ytnefmdjodjpopaa
open Go.RowKit

set_option maxHeartbeats 2000000 in
theorem wBits_1 (v : Nat) (hv : v < 2) (w : World) :
    Calls Try.prog 43 #[.int .i64 (v : Int), .int .i64 1] w fun o w' => o = .returned (.string (strN (M.num v 1))) ∧ Below w.heap.size w w' := by
  go_enter Try.func43, Try.ntmps43
  go_wp2
  go_loopw [5, 6] (fun t i wr => ∃ m : Nat, m ≤ 1 ∧ i = .int .i64 ((m : Int) - 1) ∧ t = .string (strN (M.num (v / 2 ^ m) (1 - m))) ∧ Below w.heap.size w wr) (fun _ i _ => (intOf i + 1).toNat)
  case atStart => exact ⟨1, Nat.le_refl _, rfl, rfl, Below.refl _ _⟩
  case round =>
    obtain ⟨m, hm, rfl, rfl, hb⟩ := hrel
    cases m with
    | zero =>
      have HB : Hid (Below w.heap.size w wr) := hb
      clear hb
      go_wp2
      go_ret
      exact ⟨by simp, HB.out⟩
    | succ m =>
      have HB : Hid (Below w.heap.size w wr) := hb
      have HM : Hid (m < 1) := by unfold Hid; omega
      have HT : Hid (M.num (v / 2 ^ m) (1 - m) = M.num (v / 2 ^ (m + 1)) (1 - (m + 1)) ++ [48 + v / 2 ^ m % 2]) := num_step v 1 m (by omega)
      have hi : ((m + 1 : Nat) : Int) - 1 = (m : Int) := by omega
      have hsz : (strN (M.num (v / 2 ^ (m + 1)) (1 - (m + 1)))).size ≤ 15 := by rw [strN_size, M.num_length]; omega
      clear hb
      rw [hi]
      generalize ht0 : strN (M.num (v / 2 ^ (m + 1)) (1 - (m + 1))) = t0 at *
      have HT0 : Hid (strN (M.num (v / 2 ^ (m + 1)) (1 - (m + 1))) = t0) := ht0
      clear ht0 hi
      go_wp2_with fail
      rw [and_bit v m (by omega)]
      refine (wDec_bit (v / 2 ^ m % 2) (Nat.mod_lt _ (by decide)) wr).mono ?_
      rintro o w2 ⟨rfl, hb2⟩
      have HB2 : Hid (Below w.heap.size w w2) := HB.out.trans (hb2.mono HB.out.size)
      have hs1 : (strN [48 + v / 2 ^ m % 2]).size = 1 := by rw [strN_size]; rfl
      have HE : Hid (t0 ++ strN [48 + v / 2 ^ m % 2] = strN (M.num (v / 2 ^ m) (1 - m))) := by unfold Hid; rw [← HT0.out, strN_append, ← HT.out]
      clear hb2
      generalize strN [48 + v / 2 ^ m % 2] = t1 at *
      go_wp2
      go_roundw
      case rel => exact ⟨m, by have := HM.out; omega, by go_num, by rw [HE.out], HB2.out⟩
      case measure => simp [intOf]
set_option maxHeartbeats 2000000 in
theorem wFlip_48 (L : List Nat) (i : Nat) (hi : i < L.length) (hL : L.length ≤ 300) (hs : ∀ x ∈ L, x < 256) (h49 : L.getD i 0 = 48) (w : World) :
    Calls Try.prog 46 #[.string (strN L), .int .i64 (i : Int)] w fun o w' => o = .returned (.string (strN (L.take i ++ [49] ++ L.drop (i + 1)))) ∧ Below w.heap.size w w' := by
  have hsz : (strN L).size = L.length := strN_size L
  have hlt : i < (strN L).size := by omega
  have hat : (((strN L)[i]'hlt).toNat : Int) = 48 := by rw [strN_get L i hi hs hlt, h49]; rfl
  have HE : Hid ((strN L).extract 0 i ++ strN [49] ++ (strN L).extract (i + 1) L.length = strN (L.take i ++ [49] ++ L.drop (i + 1))) := by
    unfold Hid
    rw [strN_take, strN_drop L (i + 1) L.length rfl, strN_append, strN_append]
  have hs1 : ((strN L).extract 0 i).size = i := by rw [ByteArray.size_extract]; omega
  have hs2 : ((strN L).extract (i + 1) L.length).size = L.length - (i + 1) := by rw [ByteArray.size_extract]; omega
  have i1 : (i : Int) + 1 ≤ (L.length : Int) := by omega
  have hw : IntKind.i64.wrap ((i : Int) + 1) = ((i + 1 : Nat) : Int) := by
    have : (i : Int) + 1 = ((i + 1 : Nat) : Int) := by omega
    rw [this]
    simp [IntKind.wrap, IntKind.bits, IntKind.signed]
    omega
  clear h49 hs
  go_enter Try.func46, Try.ntmps46
  go_wp2
  go_quiet (fail)
  go_wp2
  go_ret
  exact ⟨congrArg (fun s => Ending.returned (.string s)) HE.out, below_drewN (Below.refl _ _) _⟩
theorem wFlip_any (L : List Nat) (i : Nat) (hi : i < L.length) (hL : L.length ≤ 300) (hs : ∀ x ∈ L, M.isL x) (w : World) :
    Calls Try.prog 46 #[.string (strN L), .int .i64 (i : Int)] w fun o w' => o = .returned (.string (strN (flipL L i))) ∧ Below w.heap.size w w' := by
  have hs' := isL_256 hs
  have e : ∀ b, L.take i ++ [b] ++ L.drop (i + 1) = L.set i b := fun b => by rw [List.set_eq_take_append_cons_drop, if_pos hi]; simp
  rcases over_isL hs i hi with h | h
  · have := wFlip_48 L i hi hL hs' h w
    rw [e] at this
    unfold flipL
    rw [h]
    exact this
  · have := wFlip_49 L i hi hL hs' h w
    rw [e] at this
    unfold flipL
    rw [h]
    exact this
end Go.Proofs.Ytnefmdjodjpopaa
namespace Go.Proofs.Ytnefmdjodjpopaa
open Go.RowKit

set_option maxHeartbeats 1000000 in
theorem wByte_any (w : World) (a : Option Addr) (n cap : Nat) (l : List Nat) (i : Nat) (h : isBytes w a n cap l) (hn : n ≤ 1048576) (hi : i ≤ 100) :
    Calls Try.prog 45 #[.slice a n cap, .int .i64 (i : Int)] w fun o w' => ∃ x : Nat, o = .returned (.int .i64 (x : Int)) ∧ x < 256 ∧ Below w.heap.size w w' := by
  by_cases hl : l = []
  · subst hl
    have hn0 : n = 0 := h.len
    subst hn0
    clear h
    have hm : IntKind.i64.wrap (7 * (i : Int)) = 7 * (i : Int) := by simp [IntKind.wrap, IntKind.bits, IntKind.signed]; omega
    go_enter Try.func45, Try.ntmps45
    go_wp2
    go_ret
    exact ⟨7 * i % 256, by congr 2, by omega, Below.refl _ _⟩
  · obtain ⟨g, off, rfl, hc⟩ := h.cells hl
    have hlen := h.len
    have hpos : 0 < l.length := List.length_pos_iff.2 hl
    have hm : i % n < l.length := by rw [hlen]; exact Nat.mod_lt _ hpos
    have hcell := hc (i % n) hm
    have hx : l[i % n] < 256 := h.small _ (List.getElem_mem hm)
    generalize l[i % n] = x at *
    have hn0 : ¬ (n : Int) = 0 := by omega
    have hmod : (i : Int).tmod (n : Int) = ((i % n : Nat) : Int) := by rw [Int.tmod_eq_emod_of_nonneg (by omega)]; omega
    have hmod2 : ((i % n : Nat) : Int) < (n : Int) := by omega
    have HX : Hid (x < 256) := hx
    clear h hc hl hx
    subst hlen
    generalize hk : i % l.length = k at *
    clear hk
    go_enter Try.func45, Try.ntmps45
    go_wp2
    go_ret
    exact ⟨x, by rw [show wrap64 (x : Int) = (x : Int) by unfold wrap64; have := HX.out; omega]; rfl, HX.out, Below.refl _ _⟩
end Go.Proofs.Ytnefmdjodjpopaa
namespace Go.Proofs.Ytnefmdjodjpopaa
open Go.RowKit

/-- a frame's cells in block b -/
def frB (W : World) (b : Nat) (e : Bool) (i : Nat) (r : Bool) (d : Int) (v : Value) : Prop := W.heap[b]? = some (.cells #[.bool e, .int .u32 (i : Int), .bool r, .int .i64 d, v] 33 (0, 0))
theorem frB.cells {W : World} {b : Nat} {e : Bool} {i : Nat} {r : Bool} {d : Int} {v : Value} (h : frB W b e i r d v) :
    W.cell? ⟨b, 0, none⟩ = some (.bool e) ∧ W.cell? ⟨b, 1, none⟩ = some (.int .u32 (i : Int)) ∧ W.cell? ⟨b, 2, none⟩ = some (.bool r) ∧ W.cell? ⟨b, 3, none⟩ = some (.int .i64 d) ∧ W.cell? ⟨b, 4, none⟩ = some v ∧
    W.frozen? ⟨b, 0, none⟩ = false ∧ W.frozen? ⟨b, 1, none⟩ = false ∧ W.frozen? ⟨b, 2, none⟩ = false ∧ W.frozen? ⟨b, 3, none⟩ = false ∧ W.frozen? ⟨b, 4, none⟩ = false := by
  unfold frB at h
  refine ⟨?_, ?_, ?_, ?_, ?_, ?_, ?_, ?_, ?_, ?_⟩ <;> simp [World.cell?, World.frozen?, h]
theorem frB.lt {W : World} {b : Nat} {e : Bool} {i : Nat} {r : Bool} {d : Int} {v : Value} (h : frB W b e i r d v) : b < W.heap.size := lt_of_block h
/-- a frame stored over block b -/
def setF (W : World) (b : Nat) (e : Bool) (i : Nat) (r : Bool) (d : Int) (v : Value) : World :=
  ((((W.setCell ⟨b, 0, none⟩ (.bool e)).setCell ⟨b, 1, none⟩ (.int .u32 (i : Int))).setCell ⟨b, 2, none⟩ (.bool r)).setCell ⟨b, 3, none⟩ (.int .i64 d)).setCell ⟨b, 4, none⟩ v
theorem setF_same {W : World} {b : Nat} {e : Bool} {i : Nat} {r : Bool} {d : Int} {v : Value} (h : frB W b e i r d v) (e' : Bool) (i' : Nat) (r' : Bool) (d' : Int) (v' : Value) : frB (setF W b e' i' r' d' v') b e' i' r' d' v' := by
  unfold frB at h
  have h0 := heap_setCell_same _ b 0 _ _ (Value.bool e') h
  have h1 := heap_setCell_same _ b 1 _ _ (Value.int .u32 (i' : Int)) h0
  have h2 := heap_setCell_same _ b 2 _ _ (Value.bool r') h1
  have h3 := heap_setCell_same _ b 3 _ _ (Value.int .i64 d') h2
  have h4 := heap_setCell_same _ b 4 _ _ v' h3
  unfold frB setF
  rw [h4]
  simp
theorem setF_other (W : World) (b : Nat) (e : Bool) (i : Nat) (r : Bool) (d : Int) (v : Value) (c : Nat) (h : c ≠ b) : (setF W b e i r d v).heap[c]? = W.heap[c]? := by
  have n : ∀ j, (⟨b, j, none⟩ : Addr).block ≠ c := fun j e => h e.symm
  unfold setF
  rw [heap_setCell_other _ ⟨b, 4, none⟩ c _ (by first | exact h | exact n 4), heap_setCell_other _ ⟨b, 3, none⟩ c _ (by first | exact h | exact n 3), heap_setCell_other _ ⟨b, 2, none⟩ c _ (by first | exact h | exact n 2), heap_setCell_other _ ⟨b, 1, none⟩ c _ (by first | exact h | exact n 1), heap_setCell_other _ ⟨b, 0, none⟩ c _ (by first | exact h | exact n 0)]
theorem setF_below {B : Nat} {w0 W : World} {b : Nat} (h : Below B w0 W) (hb : B ≤ b) (e : Bool) (i : Nat) (r : Bool) (d : Int) (v : Value) : Below B w0 (setF W b e i r d v) :=
  ((((h.setCell (p := ⟨b, 0, none⟩) hb _).setCell (p := ⟨b, 1, none⟩) hb _).setCell (p := ⟨b, 2, none⟩) hb _).setCell (p := ⟨b, 3, none⟩) hb _).setCell (p := ⟨b, 4, none⟩) hb _
/-- a row of bytes doesn't lie in a frame's block -/
theorem bytes_ne {W : World} {b : Nat} {e : Bool} {i : Nat} {r : Bool} {d : Int} {vo : Option Addr} {vn vc : Nat} {a : Option Addr} {n cap : Nat} {l : List Nat} (h : frB W b e i r d (.slice vo vn vc)) (hy : isBytes W a n cap l) (hl : l ≠ []) : ∀ x, a = some x → x.block ≠ b := by
  intro x hx hb
  obtain ⟨g, off, e', hc⟩ := hy.cells hl
  rw [hx] at e'
  cases e'
  have h0 := hc 0 (List.length_pos_iff.2 hl)
  unfold frB at h
  have hb' : g = b := hb
  subst hb'
  simp only [World.cell?, h] at h0
  match off, h0 with
  | 0, h0 => simp at h0
  | 1, h0 => simp at h0
  | 2, h0 => simp at h0
  | 3, h0 => simp at h0
  | 4, h0 => simp at h0
  | o + 5, h0 => simp at h0
theorem setF_bytes {W : World} {b : Nat} {e : Bool} {i : Nat} {r : Bool} {d : Int} {vo : Option Addr} {vn vc : Nat} {a : Option Addr} {n cap : Nat} {l : List Nat} (h : frB W b e i r d (.slice vo vn vc)) (hy : isBytes W a n cap l) (e' : Bool) (i' : Nat) (r' : Bool) (d' : Int) (v' : Value) : isBytes (setF W b e' i' r' d' v') a n cap l := by
  refine ⟨hy.len, hy.cap, hy.small, fun hl => ?_⟩
  obtain ⟨g, off, e0, hc⟩ := hy.cells hl
  have hne := bytes_ne h hy hl _ e0
  refine ⟨g, off, e0, fun j hj => ?_⟩
  have := hc j hj
  simp only [World.cell?] at this ⊢
  rw [setF_other W b e' i' r' d' v' g hne]
  exact this
/-- two frames in blocks F and G, the results' blocks R1 and R2 -/
structure wpI (w0 : World) (F G R1 R2 : Nat) (e1 : Bool) (i1 : Nat) (r1 : Bool) (d1 : Int) (ao1 : Option Addr) (n1 cp1 : Nat) (l1 : List Nat) (e2 : Bool) (i2 : Nat) (r2 : Bool) (d2 : Int) (ao2 : Option Addr) (n2 cp2 : Nat) (l2 : List Nat) (W : World) : Prop where
  f : frB W F e1 i1 r1 d1 (.slice ao1 n1 cp1)
  y1 : isBytes W ao1 n1 cp1 l1
  g : frB W G e2 i2 r2 d2 (.slice ao2 n2 cp2)
  y2 : isBytes W ao2 n2 cp2 l2
  z1 : frB W R1 false 0 false 0 (.slice none 0 0)
  z2 : frB W R2 false 0 false 0 (.slice none 0 0)
  bel : Below w0.heap.size w0 W
  dis : F ≠ G ∧ F ≠ R1 ∧ F ≠ R2 ∧ G ≠ R1 ∧ G ≠ R2 ∧ R1 ≠ R2 ∧ w0.heap.size ≤ F ∧ w0.heap.size ≤ G ∧ w0.heap.size ≤ R1 ∧ w0.heap.size ≤ R2
theorem wpI.below {w0 : World} {F G R1 R2 : Nat} {e1 : Bool} {i1 : Nat} {r1 : Bool} {d1 : Int} {ao1 : Option Addr} {n1 cp1 : Nat} {l1 : List Nat} {e2 : Bool} {i2 : Nat} {r2 : Bool} {d2 : Int} {ao2 : Option Addr} {n2 cp2 : Nat} {l2 : List Nat} {W W' : World} (h : wpI w0 F G R1 R2 e1 i1 r1 d1 ao1 n1 cp1 l1 e2 i2 r2 d2 ao2 n2 cp2 l2 W) (hb : Below W.heap.size W W') : wpI w0 F G R1 R2 e1 i1 r1 d1 ao1 n1 cp1 l1 e2 i2 r2 d2 ao2 n2 cp2 l2 W' :=
  ⟨(hb.block _ h.f.lt).trans h.f, h.y1.below hb, (hb.block _ h.g.lt).trans h.g, h.y2.below hb, (hb.block _ h.z1.lt).trans h.z1, (hb.block _ h.z2.lt).trans h.z2, h.bel.trans (hb.mono (by have := h.f.lt; have := h.dis; omega)), h.dis⟩
theorem nilBytes (W : World) : isBytes W none 0 0 [] := ⟨rfl, Nat.le_refl _, by simp, fun h => absurd rfl h⟩
theorem wpI.setf {w0 : World} {F G R1 R2 : Nat} {e1 : Bool} {i1 : Nat} {r1 : Bool} {d1 : Int} {ao1 : Option Addr} {n1 cp1 : Nat} {l1 : List Nat} {e2 : Bool} {i2 : Nat} {r2 : Bool} {d2 : Int} {ao2 : Option Addr} {n2 cp2 : Nat} {l2 : List Nat} {W : World} (h : wpI w0 F G R1 R2 e1 i1 r1 d1 ao1 n1 cp1 l1 e2 i2 r2 d2 ao2 n2 cp2 l2 W) (e : Bool) (i : Nat) (r : Bool) : wpI w0 F G R1 R2 e i r 0 none 0 0 [] e2 i2 r2 d2 ao2 n2 cp2 l2 (setF W F e i r 0 (.slice none 0 0)) := by
  obtain ⟨q1, q2, q3, q4, q5, q6, q7, q8, q9, q10⟩ := h.dis
  exact ⟨setF_same h.f _ _ _ _ _, nilBytes _, (setF_other W F e i r 0 _ G (Ne.symm q1)).trans h.g, setF_bytes h.f h.y2 _ _ _ _ _, (setF_other W F e i r 0 _ R1 (Ne.symm q2)).trans h.z1, (setF_other W F e i r 0 _ R2 (Ne.symm q3)).trans h.z2, setF_below h.bel q7 _ _ _ _ _, h.dis⟩
theorem wpI.setg {w0 : World} {F G R1 R2 : Nat} {e1 : Bool} {i1 : Nat} {r1 : Bool} {d1 : Int} {ao1 : Option Addr} {n1 cp1 : Nat} {l1 : List Nat} {e2 : Bool} {i2 : Nat} {r2 : Bool} {d2 : Int} {ao2 : Option Addr} {n2 cp2 : Nat} {l2 : List Nat} {W : World} (h : wpI w0 F G R1 R2 e1 i1 r1 d1 ao1 n1 cp1 l1 e2 i2 r2 d2 ao2 n2 cp2 l2 W) (e : Bool) (i : Nat) (r : Bool) : wpI w0 F G R1 R2 e1 i1 r1 d1 ao1 n1 cp1 l1 e i r 0 none 0 0 [] (setF W G e i r 0 (.slice none 0 0)) := by
  obtain ⟨q1, q2, q3, q4, q5, q6, q7, q8, q9, q10⟩ := h.dis
  exact ⟨(setF_other W G e i r 0 _ F q1).trans h.f, setF_bytes h.g h.y1 _ _ _ _ _, setF_same h.g _ _ _ _ _, nilBytes _, (setF_other W G e i r 0 _ R1 (Ne.symm q4)).trans h.z1, (setF_other W G e i r 0 _ R2 (Ne.symm q5)).trans h.z2, setF_below h.bel q8 _ _ _ _ _, h.dis⟩
/-- the two frames handed back -/
theorem wpI.fin {w0 : World} {F G R1 R2 : Nat} {e1 : Bool} {i1 : Nat} {r1 : Bool} {d1 : Int} {ao1 : Option Addr} {n1 cp1 : Nat} {l1 : List Nat} {e2 : Bool} {i2 : Nat} {r2 : Bool} {d2 : Int} {ao2 : Option Addr} {n2 cp2 : Nat} {l2 : List Nat} {W : World} (h : wpI w0 F G R1 R2 e1 i1 r1 d1 ao1 n1 cp1 l1 e2 i2 r2 d2 ao2 n2 cp2 l2 W) :
    isBytes (setF (setF W R1 e1 i1 r1 d1 (.slice ao1 n1 cp1)) R2 e2 i2 r2 d2 (.slice ao2 n2 cp2)) ao1 n1 cp1 l1 ∧ isBytes (setF (setF W R1 e1 i1 r1 d1 (.slice ao1 n1 cp1)) R2 e2 i2 r2 d2 (.slice ao2 n2 cp2)) ao2 n2 cp2 l2 ∧ Below w0.heap.size w0 (setF (setF W R1 e1 i1 r1 d1 (.slice ao1 n1 cp1)) R2 e2 i2 r2 d2 (.slice ao2 n2 cp2)) := by
  obtain ⟨q1, q2, q3, q4, q5, q6, q7, q8, q9, q10⟩ := h.dis
  have h2 : frB (setF W R1 e1 i1 r1 d1 (.slice ao1 n1 cp1)) R2 false 0 false 0 (.slice none 0 0) := (setF_other W R1 _ _ _ _ _ R2 (Ne.symm q6)).trans h.z2
  exact ⟨setF_bytes h2 (setF_bytes h.z1 h.y1 _ _ _ _ _) _ _ _ _ _, setF_bytes h2 (setF_bytes h.z1 h.y2 _ _ _ _ _) _ _ _ _ _, setF_below (setF_below h.bel q9 _ _ _ _ _) q10 _ _ _ _ _⟩
end Go.Proofs.Ytnefmdjodjpopaa
namespace Go.Proofs.Ytnefmdjodjpopaa
open Go.RowKit

theorem imI.setZ {w0 : World} {F : Nat} {e : Bool} {i : Nat} {r : Bool} {d : Int} {ao : Option Addr} {m cp : Nat} {l : List Nat} {W : World} (h : imI w0 F e i r d ao m cp l W) (x : Nat) : imI w0 F false x false 0 none 0 0 [] (setF W F false x false 0 (.slice none 0 0)) :=
  ⟨setF_same (show frB W F e i r d (.slice ao m cp) from h.f) _ _ _ _ _, nilBytes _, setF_below h.bel h.le _ _ _ _ _, h.le⟩
theorem valid_zero (x : Nat) (h : x < 2048) : validB false x false ((0 : Nat) : Int) ([] : List Nat).length = true := by
  unfold validB dl
  simp [h]
/-- the drawn frame, made valid, in block F -/
structure fv (w0 : World) (F : Nat) (e : Bool) (i : Nat) (r : Bool) (dn : Nat) (ao : Option Addr) (cp : Nat) (l : List Nat) (W : World) : Prop where
  im : imI w0 F e i r (dn : Int) ao l.length cp l W
  ok : validB e i r (dn : Int) l.length = true
  ft : fits r dn l
theorem fv.below {w0 : World} {F : Nat} {e : Bool} {i : Nat} {r : Bool} {dn : Nat} {ao : Option Addr} {cp : Nat} {l : List Nat} {W W' : World} (h : fv w0 F e i r dn ao cp l W) (hb : Below W.heap.size W W') : fv w0 F e i r dn ao cp l W' := ⟨h.im.below hb, h.ok, h.ft⟩
/-- a row of ints, as read -/
structure isInts (w : World) (a : Option Addr) (n : Nat) (l : List Nat) : Prop where
  len : n = l.length
  cells : l ≠ [] → ∃ g, a = some ⟨g, 0, none⟩ ∧ ∀ j (h : j < l.length), w.cell? ⟨g, j, none⟩ = some (.int .i64 (l[j] : Int))
theorem isInts.ofOwn {w : World} {B : Nat} {a : Option Addr} {n cap : Nat} {l : List Nat} (h : ownsI w B (.slice a n cap) l) (hn : n = l.length) : isInts w a n l := by
  refine ⟨hn, fun hl => ?_⟩
  obtain ⟨h1, ⟨h2, h3⟩ | ⟨g, cap', cur, hv, hb, hh, hc, hm, hsz, htk⟩⟩ := h
  · cases hl (List.eq_nil_of_length_eq_zero h3)
  · cases hv
    refine ⟨g, rfl, fun j hj => ?_⟩
    have hjc : j < cur.size := by rw [hsz]; omega
    have e1 : (cur.toList.take (l.length * 1))[j]? = (iv l)[j]? := by rw [htk]
    rw [Nat.mul_one, List.getElem?_take_of_lt hj] at e1
    have e2 : (iv l)[j]? = some (.int .i64 (l[j] : Int)) := by unfold iv; rw [List.getElem?_map, List.getElem?_eq_getElem hj]; rfl
    rw [e2] at e1
    simp only [World.cell?, hh]
    simpa using e1
theorem isInts.low {W W' : World} {a : Option Addr} {n : Nat} {l : List Nat} (h : isInts W a n l) (hk : ∀ g, (∃ x, a = some x ∧ x.block = g) → W'.heap[g]? = W.heap[g]?) : isInts W' a n l := by
  refine ⟨h.len, fun hl => ?_⟩
  obtain ⟨g, e, hc⟩ := h.cells hl
  refine ⟨g, e, fun j hj => ?_⟩
  have := hc j hj
  simp only [World.cell?] at this ⊢
  rw [hk g ⟨_, e, rfl⟩]
  exact this
/-- the flips at work: the open places, the places hit -/
structure ffI (w0 : World) (B : Nat) (oa : Option Addr) (ol : List Nat) (v : Value) (hs : List Nat) (W : World) : Prop where
  op : isInts W oa ol.length ol
  opl : ∀ x, oa = some x → x.block < B
  own : ownsI W B v hs
  bel : Below w0.heap.size w0 W
  hB : w0.heap.size ≤ B ∧ B ≤ W.heap.size
theorem ffI.below {w0 : World} {B : Nat} {oa : Option Addr} {ol : List Nat} {v : Value} {hs : List Nat} {W W' : World} (h : ffI w0 B oa ol v hs W) (hb : Below W.heap.size W W') : ffI w0 B oa ol v hs W' :=
  ⟨h.op.low (fun g ⟨x, e, eg⟩ => hb.block g (by have := h.opl x e; have := h.hB; omega)), h.opl, h.own.otherBlock (fun g hg => hb.block g (World.ownsRow.lt h.own g hg).2), h.bel.trans (hb.mono (by have := h.hB; omega)), h.hB.1, Nat.le_trans h.hB.2 hb.size⟩
theorem ffI.app {w0 : World} {B : Nat} {oa : Option Addr} {ol : List Nat} {v v' : Value} {hs hs' : List Nat} {W W' : World} {o : Obj} (h : ffI w0 B oa ol v hs W) (ho : ownsI W' B v' hs') (hg : (W.alloc o).grownBy W' v.ownBlock) : ffI w0 B oa ol v' hs' W' := by
  have hz := h.bel.size
  have hvb : ∀ g, v.ownBlock = some g → B ≤ g := fun g e => (World.ownsRow.lt h.own g e).1
  refine ⟨h.op.low (fun g ⟨x, e, eg⟩ => ?_), h.opl, ho, ?_, h.hB.1, Nat.le_trans h.hB.2 (Nat.le_trans (by simp) hg.size)⟩
  · have hlt := h.opl x e
    have hgW : g < W.heap.size := by have := h.hB; omega
    exact (hg.block g (by simp; omega) (fun e' => by have := hvb g e'.symm; omega)).trans (Below.heap_alloc W _ g hgW)
  · exact (h.bel.alloc hz _).grown hg (by simp; omega) (fun k e => Nat.le_trans h.hB.1 (hvb k e))
theorem ff_rem {x1 x2 k n J : Nat} (h : J = (x1 * 5 + x2 * 3 + k) % n) : ((x1 : Int) * 5 + (x2 : Int) * 3 + (k : Int)).tmod (n : Int) = (J : Int) := by
  subst h
  rw [Int.tmod_eq_emod_of_nonneg (by omega)]
  push_cast
  rfl
theorem ff_cell {W : World} {g n : Nat} {l : List Nat} (h : isInts W (some ⟨g, 0, none⟩) n l) {J : Nat} (hJ : J < l.length) : W.cell? ⟨g, J, none⟩ = some (.int .i64 ((l.getD J 0 : Nat) : Int)) := by
  obtain ⟨g', e, hc⟩ := h.cells (by intro e; rw [e] at hJ; simp at hJ)
  cases e
  rw [hc J hJ]
  simp [hJ]
theorem ff_nodup {hs : List Nat} {p : Nat} (h : hs.Nodup) (hp : p ∉ hs) : (hs ++ [p]).Nodup := by
  rw [List.nodup_append]
  refine ⟨h, by simp, fun a ha b hb => ?_⟩
  rw [List.mem_singleton] at hb
  subst hb
  intro e
  exact hp (e ▸ ha)
theorem ff_sub {hs ol : List Nat} {p : Nat} (h : ∀ q ∈ hs, q ∈ ol) (hp : p ∈ ol) : ∀ q ∈ hs ++ [p], q ∈ ol := by
  intro q hq
  rw [List.mem_append, List.mem_singleton] at hq
  rcases hq with hq | rfl
  · exact h q hq
  · exact hp
theorem ff_dec (s : ByteArray) (h : (walkZ s).code = 5) (W : World) : Calls Try.prog 38 #[.string s] W fun o w' => (∃ ao cp, o = .returned (.tuple #[frV false 0 false 0 ao 0 cp, .int .i64 5])) ∧ Below W.heap.size W w' := by
  refine (decode_any s W).mono ?_
  rintro o w' ⟨ao, cap, rfl, ho, hb⟩
  have hk : decK (walkZ s) = Wk.zero := by unfold decK; rw [if_neg (by rw [h]; decide)]
  rw [hk, h]
  exact ⟨⟨ao, cap, rfl⟩, hb⟩
theorem ff_jud (s : ByteArray) (h : (walkZ s).code = 5) (W : World) : Calls Try.prog 30 #[.string s] W fun o w' => o = .returned (.agg #[.int .i64 5, .int .i64 0, .bool false, .bool false]) ∧ Below W.heap.size W w' := by
  refine (judge_any s W).mono ?_
  rintro o w' ⟨rfl, hb⟩
  refine ⟨?_, hb⟩
  unfold judgeV
  rw [h]
  rfl
theorem field39_0 (W : World) (c f : Int) (d o : Bool) : (Instr.field 39 (.agg #[.int .i64 c, .int .i64 f, .bool d, .bool o]) 0).run Try.prog W = .ok (.int .i64 c) W := by kernel_rfl
theorem field39_1 (W : World) (c f : Int) (d o : Bool) : (Instr.field 39 (.agg #[.int .i64 c, .int .i64 f, .bool d, .bool o]) 1).run Try.prog W = .ok (.int .i64 f) W := by kernel_rfl
set_option maxHeartbeats 8000000 in
set_option maxRecDepth 20000 in
/-- laws.FnFiveFlips -/
theorem lawFiveFlips (a : Option Addr) (n cap : Nat) (l : List Nat) (b : Option Addr) (m cpm : Nat) (lm : List Nat) (w : World) (h : isBytes w a n cap l) (hn : n ≤ 9223372036854775807) (h' : isBytes w b m cpm lm) (hm : m ≤ 9223372036854775807) :
    Calls Try.prog 14 #[.slice a n cap, .slice b m cpm] w fun o w' => o = .returned (.bool true) ∧ Below w.heap.size w w' := by
  by_cases hl : (1048576 : Int) < (n : Int)
  · clear h h'
    go_enter Try.func14, Try.ntmps14
    go_wp2
    go_ret
    exact ⟨rfl, Below.refl _ _⟩
  · by_cases hl2 : (1048576 : Int) < (m : Int)
    · clear h h'
      go_enter Try.func14, Try.ntmps14
      go_wp2
      go_ret
      exact ⟨rfl, Below.refl _ _⟩
    · have HD : Hid (Calls Try.prog 42 #[.slice a n cap] w fun o w' => drOut w o w') := drawEncode_any w a n cap l h (by omega)
      have HM : Hid (isBytes w b m cpm lm ∧ m ≤ 1048576) := ⟨h', by omega⟩
      clear h h' hn hm
      go_enter Try.func14, Try.ntmps14
      go_wp2_with fail
      refine HD.out.mono ?_
      rintro o w1 ⟨e, i, r, d, ao, cp, dl, rfl, hi, hd, hl9, hy, hb⟩
      have st := imI.start (e := e) (i := i) (r := r) (d := d) hy hb
      have hsm := hy.small
      clear hb hy hi hd hl9
      obtain ⟨p0, p1, p2, p3, p4⟩ := st.f.cells
      have ST : Hid (imI w w1.heap.size e i r d ao dl.length cp dl (w1.alloc (.cells #[.bool e, .int .u32 (i : Int), .bool r, .int .i64 d, .slice ao dl.length cp] 33))) := st
      clear st
      go_wp2_with fail
      refine (specValid_any _ e i r d ao dl.length cp).mono ?_
      rintro o w2 ⟨rfl, hb2⟩
      have st := ST.out.below hb2
      clear ST hb2 p0 p1 p2 p3 p4
      generalize w1.heap.size = F at *
      obtain ⟨p0, p1, p2, p3, p4⟩ := st.f.cells
      have f5 : frB w2 F e i r d (.slice ao dl.length cp) := st.f
      obtain ⟨-, -, -, -, -, p5, p6, p7, p8, p9⟩ := f5.cells
      clear f5
      cases hv : validB e i r d dl.length
      · have st2 := st.setZ (n % 2048)
        have hnn : IntKind.u32.wrap (n : Int) = (n : Int) := by simp [IntKind.wrap, IntKind.bits, IntKind.signed]; omega
        have HMM : Hid ((n : Int) % 2048 = ((n % 2048 : Nat) : Int)) := by unfold Hid; omega
        have HFV : Hid (fv w F false (n % 2048) false 0 none 0 [] (setF w2 F false (n % 2048) false 0 (.slice none 0 0))) := ⟨st2, valid_zero _ (Nat.mod_lt _ (by decide)), ⟨by decide, rfl, by simp⟩⟩
        obtain ⟨u0, u1, u2, u3, u4⟩ := st2.f.cells
        unfold setF at u0 u1 u2 u3 u4
        rw [← HMM.out] at u0 u1 u2 u3 u4
        clear st st2
        go_wp2_with fail
        rw [HMM.out]
        refine (body_ok _ false (n % 2048) false 0 none 0 0 [] (nilBytes _) (valid_zero _ (Nat.mod_lt _ (by decide)))).mono ?_
        rintro o w3 ⟨rfl, hb3⟩
        have key : ∃ (fe : Bool) (fi : Nat) (fr : Bool) (fd : Nat) (fao : Option Addr) (fcp : Nat) (fl : List Nat), fv w F fe fi fr fd fao fcp fl w3 ∧ strN (bodyL false (n % 2048) false 0 []) = strN (bodyL fe fi fr fd fl) := ⟨false, n % 2048, false, 0, none, 0, [], (show fv w F false (n % 2048) false 0 none 0 [] (setF w2 F false (n % 2048) false 0 (.slice none 0 0)) from HFV.out).below hb3, rfl⟩
        clear HFV hb3 u0 u1 u2 u3 u4 p0 p1 p2 p3 p4 p5 p6 p7 p8 p9 hnn HMM
        generalize strN (bodyL false (n % 2048) false 0 []) = tb at *
        obtain ⟨fe, fi, fr, fd, fao, fcp, fl, hfv, rfl⟩ := key
        have hF0 := field39_0
        have hF1 := field39_1
        have hft := hfv.ft
        have hok := hfv.ok
        have hbl := body_le fe fi fr fd fl hft
        have hpl := plainL_len fe fi fr fd fl
        have H27 : Hid (∀ W, isBytes W fao fl.length fcp fl → Calls Try.prog 27 #[frV fe fi fr (fd : Int) fao fl.length fcp] W fun o w' => o = .returned (.string (strN (bodyL fe fi fr fd fl))) ∧ Below W.heap.size W w') := fun W hW => specBody_ok W fe fi fr fd fao fl.length fcp fl hW hok
        have H44 : Hid (∀ W, isBytes W fao fl.length fcp fl → Calls Try.prog 44 #[frV fe fi fr (fd : Int) fao fl.length fcp] W fun o w' => ∃ (ao : Option Addr) (cp : Nat) (ol : List Nat), o = .returned (.slice ao ol.length cp) ∧ ownsI w' W.heap.size (.slice ao ol.length cp) ol ∧ (∀ p ∈ ol, p < (bodyL fe fi fr fd fl).length + 15 ∧ ¬ fixd fe p) ∧ ol ≠ [] ∧ ol.length ≤ 118 ∧ Below W.heap.size W w') := fun W hW => wOpen_ok W fe fi fr fd fao fcp fl hW hok hft
        have H17 : Hid (∀ W, Calls Try.prog 17 #[.string (strN (bodyL fe fi fr fd fl))] W fun o w' => o = .returned (.int .i64 (M.crcN ((bodyL fe fi fr fd fl).map (fun x => x - 48)) : Nat)) ∧ Below W.heap.size W w') := by
          intro W
          have := crc15_any (strN (bodyL fe fi fr fd fl)) W
          rw [crcZ_strN _ (bodyL_isL fe fi fr fd fl) (by omega)] at this
          exact this
        have H43 : Hid (∀ W, Calls Try.prog 43 #[.int .i64 (M.crcN ((bodyL fe fi fr fd fl).map (fun x => x - 48)) : Nat), .int .i64 15] W fun o w' => o = .returned (.string (strN (M.num (M.crcN ((bodyL fe fi fr fd fl).map (fun x => x - 48))) 15))) ∧ Below W.heap.size W w') := fun W => wBits_15 _ (M.crcN_lt _) W
        have HP : Hid (strN (bodyL fe fi fr fd fl) ++ strN (M.num (M.crcN ((bodyL fe fi fr fd fl).map (fun x => x - 48))) 15) = strN (plainL fe fi fr fd fl)) := by unfold Hid; rw [strN_append]; rfl
        have H21 : Hid (∀ W x, (∀ y ∈ x, M.isL y) → x.length ≤ 118 → Calls Try.prog 21 #[.string (strN x)] W fun o w' => o = .returned (.string (strN (M.stuffL x))) ∧ Below W.heap.size W w') := by
          intro W x hx hxl
          have := stuff_any (strN x) W
          rw [stuffZ_strN x hx (by omega)] at this
          exact this
        have H30n : Hid (∀ W, Calls Try.prog 30 #[.string (strN (M.stuffL (plainL fe fi fr fd fl)) ++ (⟨#[49, 49, 49]⟩ : ByteArray))] W fun o w' => (∃ (d o' : Bool), o = .returned (.agg #[.int .i64 0, .int .i64 14, .bool d, .bool o'])) ∧ Below W.heap.size W w') := by
          intro W
          rw [show (⟨#[49, 49, 49]⟩ : ByteArray) = strN [49, 49, 49] from rfl, strN_append]
          refine (judge_any _ W).mono ?_
          rintro o w' ⟨rfl, hb⟩
          obtain ⟨c0, c1⟩ := flips_none fe fi fr fd fl hft
          refine ⟨?_, hb⟩
          unfold judgeV
          rw [c0, if_pos (by rfl), c1]
          exact ⟨_, _, rfl⟩
        have HPL : Hid ((∀ y ∈ plainL fe fi fr fd fl, M.isL y) ∧ (plainL fe fi fr fd fl).length ≤ 118 ∧ (plainL fe fi fr fd fl).length = (bodyL fe fi fr fd fl).length + 15) := ⟨plainL_isL fe fi fr fd fl, by omega, hpl⟩
        have HFT : Hid (fits fr fd fl) := hft
        have hbs : (strN (bodyL fe fi fr fd fl)).size ≤ 200 := by rw [strN_size]; omega
        have hns : (strN (M.num (M.crcN ((bodyL fe fi fr fd fl).map (fun x => x - 48))) 15)).size = 15 := by rw [strN_size, M.num_length]
        have hss : (strN (M.stuffL (plainL fe fi fr fd fl))).size ≤ 300 := by rw [strN_size]; have := M.stuff_len (plainL fe fi fr fd fl); omega
        clear hft hok hbl hpl hsm hl hl2
        have HV : Hid (fv w F fe fi fr fd fao fcp fl w3) := hfv
        obtain ⟨p0, p1, p2, p3, p4⟩ := hfv.im.f.cells
        clear hfv
        generalize M.crcN ((bodyL fe fi fr fd fl).map (fun x => x - 48)) = cr at *
        go_wp2_with fail
        refine (H17.out _).mono ?_
        rintro o w4 ⟨rfl, hb⟩
        have hfv := HV.out.below hb
        clear HV hb p0 p1 p2 p3 p4
        have HV : Hid (fv w F fe fi fr fd fao fcp fl w4) := hfv
        obtain ⟨p0, p1, p2, p3, p4⟩ := hfv.im.f.cells
        clear hfv
        go_wp2_with fail
        refine (H43.out _).mono ?_
        rintro o w5 ⟨rfl, hb⟩
        have hfv := HV.out.below hb
        clear HV hb p0 p1 p2 p3 p4
        clear H17 H43
        have HV : Hid (fv w F fe fi fr fd fao fcp fl w5) := hfv
        obtain ⟨p0, p1, p2, p3, p4⟩ := hfv.im.f.cells
        clear hfv
        go_wp2_with fail
        rw [HP.out]
        clear HP
        refine (H27.out _ HV.out.im.y).mono ?_
        rintro o w6 ⟨rfl, hb⟩
        have hfv := HV.out.below hb
        clear HV hb p0 p1 p2 p3 p4
        clear H27
        have HV : Hid (fv w F fe fi fr fd fao fcp fl w6) := hfv
        obtain ⟨p0, p1, p2, p3, p4⟩ := hfv.im.f.cells
        clear hfv
        go_wp2_with fail
        refine (H21.out _ _ HPL.out.1 HPL.out.2.1).mono ?_
        rintro o w7 ⟨rfl, hb⟩
        have hfv := HV.out.below hb
        clear HV hb p0 p1 p2 p3 p4
        have HV : Hid (fv w F fe fi fr fd fao fcp fl w7) := hfv
        obtain ⟨p0, p1, p2, p3, p4⟩ := hfv.im.f.cells
        clear hfv
        go_wp2_with fail
        refine (H30n.out _).mono ?_
        rintro o w8 ⟨⟨dA, oA, rfl⟩, hb⟩
        have hfv := HV.out.below hb
        clear HV hb p0 p1 p2 p3 p4
        have HV : Hid (fv w F fe fi fr fd fao fcp fl w8) := hfv
        obtain ⟨p0, p1, p2, p3, p4⟩ := hfv.im.f.cells
        clear hfv
        go_wp2_with fail
        refine (H21.out _ _ HPL.out.1 HPL.out.2.1).mono ?_
        rintro o w9 ⟨rfl, hb⟩
        have hfv := HV.out.below hb
        clear HV hb p0 p1 p2 p3 p4
        have HV : Hid (fv w F fe fi fr fd fao fcp fl w9) := hfv
        obtain ⟨p0, p1, p2, p3, p4⟩ := hfv.im.f.cells
        clear hfv
        go_wp2_with fail
        refine (H30n.out _).mono ?_
        rintro o w10 ⟨⟨dB, oB, rfl⟩, hb⟩
        have hfv := HV.out.below hb
        clear HV hb p0 p1 p2 p3 p4
        clear H30n
        have HV : Hid (fv w F fe fi fr fd fao fcp fl w10) := hfv
        obtain ⟨p0, p1, p2, p3, p4⟩ := hfv.im.f.cells
        clear hfv
        go_wp2_with fail
        refine (H44.out _ HV.out.im.y).mono ?_
        rintro o w11 ⟨oa, oc, ol, rfl, hown, hopen, hne, hol, hb⟩
        have hfv := HV.out.below hb
        have st : ffI w w11.heap.size oa ol (.slice (some ⟨w11.heap.size, 0, none⟩) 0 0) [] (w11.alloc (.cells #[] 3)) := by
          have hbe := hfv.im.bel
          have hA : Below w11.heap.size w11 (w11.alloc (.cells #[] 3)) := (Below.refl _ _).alloc (Nat.le_refl _) _
          have hlt : ∀ x, oa = some x → x.block < w11.heap.size := fun x e => by subst e; exact (World.ownsRow.lt hown x.block (by simp [Value.ownBlock])).2
          exact ⟨(isInts.ofOwn hown rfl).low (fun g ⟨x, e, eg⟩ => Below.heap_alloc w11 _ g (by have := hlt x e; omega)), hlt, ownI_nil w11 w11.heap.size (Nat.le_refl _), hbe.trans (hA.mono hbe.size), hbe.size, by simp⟩
        have HOL : Hid ((∀ p ∈ ol, p < (bodyL fe fi fr fd fl).length + 15 ∧ ¬ fixd fe p) ∧ ol ≠ [] ∧ ol.length ≤ 118) := ⟨hopen, hne, hol⟩
        have ST : Hid (ffI w w11.heap.size oa ol (.slice (some ⟨w11.heap.size, 0, none⟩) 0 0) [] (w11.alloc (.cells #[] 3))) := st
        clear HV hb hfv hown hopen hne hol H44 p0 p1 p2 p3 p4 st
        go_wp2_with fail
        refine (wByte_any _ b m cpm lm 0 (HM.out.1.below ST.out.bel) HM.out.2 (by decide)).mono ?_
        rintro o w12 ⟨x0, rfl, hx0, hb⟩
        have st := ST.out.below hb
        clear ST hb
        generalize w11.heap.size = B at *
        have HN : Hid (x0 % 5 + 1 ≤ 5) := by unfold Hid; omega
        have HNN : Hid ((1 : Int) + (x0 : Int) % 5 = ((1 + x0 % 5 : Nat) : Int)) := by unfold Hid; omega
        go_wp2_with fail
        rw [HNN.out]
        generalize hnnE : 1 + x0 % 5 = nn at *
        have HN5 : Hid (1 ≤ nn ∧ nn ≤ 5) := by unfold Hid; omega
        clear hnnE HNN HN hx0
        go_loopw [7, 9, 11] (fun pl v ii wr => ∃ (k : Nat) (hs : List Nat) (ao : Option Addr) (cp : Nat), k ≤ nn ∧ ii = .int .i64 (k : Int) ∧ v = .slice ao hs.length cp ∧ pl = .string (strN (flips (plainL fe fi fr fd fl) hs)) ∧ ffI w B oa ol (.slice ao hs.length cp) hs wr ∧ hs.Nodup ∧ hs.length ≤ k ∧ (1 ≤ k → 1 ≤ hs.length) ∧ (∀ p ∈ hs, p ∈ ol)) (fun _ _ ii _ => nn - (intOf ii).toNat)
        case atStart => exact ⟨0, [], _, _, Nat.zero_le _, rfl, rfl, rfl, st, List.nodup_nil, Nat.le_refl _, by omega, by simp⟩
        case round =>
          clear st
          obtain ⟨k, hs, ao, cp, hk, rfl, rfl, rfl, st, hnd, hlk, hl1, hsub⟩ := hrel
          by_cases hlt : k < nn
          · have hlt' : (k : Int) < (nn : Int) := by omega
            have HH : Hid (hs.Nodup ∧ hs.length ≤ k ∧ (∀ p ∈ hs, p ∈ ol) ∧ k < nn) := ⟨hnd, hlk, hsub, hlt⟩
            have hk5 : k ≤ 5 := by have := HN5.out; omega
            have STd : Hid (ffI w B oa ol (.slice ao hs.length cp) hs wr.drew) := st.below (Below.refl _ _).drew
            have ST0 : Hid (ffI w B oa ol (.slice ao hs.length cp) hs wr) := st
            have hol : 0 < ol.length := List.length_pos_iff.2 HOL.out.2.1
            have hol2 : ol.length ≤ 118 := HOL.out.2.2
            have hol0 : ¬ (ol.length : Int) = 0 := by omega
            obtain ⟨g, rfl, hcells⟩ := st.op.cells HOL.out.2.1
            clear hcells
            have HK1 : Hid ((k : Int) + 1 = ((k + 1 : Nat) : Int)) := by unfold Hid; omega
            have HK2 : Hid ((k : Int) + 2 = ((k + 2 : Nat) : Int)) := by unfold Hid; omega
            clear st hnd hlk hl1 hsub hlt hk
            clear STd
            go_wp2_with fail
            rw [HK1.out]
            refine (wByte_any _ b m cpm lm (k + 1) (HM.out.1.below ST0.out.bel) HM.out.2 (by omega)).mono ?_
            rintro o w13 ⟨x1, rfl, hx1, hb13⟩
            have st13 := ST0.out.below hb13
            clear ST0 hb13
            go_wp2_with fail
            rw [HK2.out]
            refine (wByte_any _ b m cpm lm (k + 2) (HM.out.1.below st13.bel) HM.out.2 (by omega)).mono ?_
            rintro o w14 ⟨x2, rfl, hx2, hb14⟩
            have st14 := st13.below hb14
            obtain ⟨J, hJ⟩ : ∃ J, J = (x1 * 5 + x2 * 3 + k) % ol.length := ⟨_, rfl⟩
            have hJl : J < ol.length := hJ ▸ Nat.mod_lt _ hol
            have hrem : ((x1 : Int) * 5 + (x2 : Int) * 3 + (k : Int)).tmod (ol.length : Int) = (J : Int) := ff_rem hJ
            have hJl' : (J : Int) < (ol.length : Int) := by omega
            have hcJ := ff_cell st14.op hJl
            have HpO : Hid (ol.getD J 0 ∈ ol) := by unfold Hid; have e : ol.getD J 0 = ol[J] := by simp [hJl]
                                                    rw [e]; exact List.getElem_mem hJl
            generalize ol.getD J 0 = p at *
            have ST : Hid (ffI w B (some ⟨g, 0, none⟩) ol (.slice ao hs.length cp) hs w14) := st14
            clear hJ st13 st14 hb14 HK1 HK2
            go_wp2_with fail
            go_loopw [13, 14] (fun ag jj wr => ∃ j : Nat, j ≤ hs.length ∧ jj = .int .i64 (j : Int) ∧ ag = .bool (decide (p ∈ hs.take j)) ∧ wr = w14) (fun _ jj _ => hs.length - (intOf jj).toNat)
            case atStart => exact ⟨0, Nat.zero_le _, rfl, by simp, rfl⟩
            case round =>
              obtain ⟨j, hj, rfl, rfl, rfl⟩ := hrel
              by_cases hjl : j < hs.length
              · have hjl' : (j : Int) < (hs.length : Int) := by omega
                obtain ⟨g2, rfl, hc2⟩ := (isInts.ofOwn ST.out.own rfl).cells (by intro e; rw [e] at hjl; simp at hjl)
                have hcj := hc2 j hjl
                have hll : hs.length ≤ 5 := by have := HH.out.2.1; omega
                have HT : Hid (hs.take (j + 1) = hs.take j ++ [hs[j]]) := List.take_succ_eq_append_getElem hjl
                generalize hs[j] = hj0 at *
                by_cases hp : hj0 = p
                · have hpB : ((hj0 : Int) == (p : Int)) = true := by simp; omega
                  have HQ : Hid (decide (p ∈ hs.take (j + 1)) = true) := by unfold Hid; rw [HT.out, hp]; simp
                  clear hc2 hp
                  go_wp2
                  go_roundw
                  case rel => exact ⟨j + 1, hjl, by go_num, by rw [HQ.out], trivial⟩
                  case measure => simp [intOf]; omega
                · have hpB : ((hj0 : Int) == (p : Int)) = false := by simp; omega
                  have HQ : Hid (decide (p ∈ hs.take (j + 1)) = decide (p ∈ hs.take j)) := by
                    unfold Hid
                    rw [HT.out]
                    have hp' : ¬ p = hj0 := fun e => hp e.symm
                    simp [hp']
                  clear hc2 hp
                  generalize hAg : decide (p ∈ hs.take j) = ag at *
                  clear hAg
                  go_wp2
                  go_roundw
                  case rel => exact ⟨j + 1, hjl, by go_num, by rw [HQ.out], trivial⟩
                  case measure => simp [intOf]; omega
              · have hjl' : ¬ (j : Int) < (hs.length : Int) := by omega
                have hje : hs.take j = hs := List.take_of_length_le (by omega)
                rw [hje]
                have hll : hs.length ≤ 5 := by have := HH.out.2.1; omega
                clear hje hjl hj
                by_cases hin : p ∈ hs
                · have HE : Hid (1 ≤ hs.length) := by unfold Hid; have := List.length_pos_of_mem hin; omega
                  rw [decide_eq_true hin]
                  clear hin
                  go_wp2
                  go_roundw
                  case rel => exact ⟨k + 1, hs, ao, cp, HH.out.2.2.2, by go_num, rfl, rfl, ST.out, HH.out.1, by have := HH.out.2.1; omega, fun _ => HE.out, HH.out.2.2.1⟩
                  case measure => have := HH.out.2.2.2; simp [intOf]; omega
                · have HE : Hid (p ∉ hs) := hin
                  rw [decide_eq_false hin]
                  clear hin
                  have HLL : Hid (hs.length ≤ 1000000) := by unfold Hid; omega
                  go_wp2_with (at_builtin; refine list_appI wr _ rfl rfl (.tmp 108) (.tmp 110) rfl B _ hs p rfl rfl ST.out.own rfl HLL.out ST.out.hB.2 ?_)
                  intro ao9 cp9 w15 ho9 hg9 hk9
                  have st15 := ST.out.app ho9 hg9
                  have hx := flips_isL _ hs HPL.out.1
                  have hxl : (flips (plainL fe fi fr fd fl) hs).length ≤ 118 := by rw [flips_len]; exact HPL.out.2.1
                  have hpl : p < (flips (plainL fe fi fr fd fl) hs).length := by rw [flips_len, HPL.out.2.2]; exact (HOL.out.1 p HpO.out).1
                  have H46 : Hid (∀ W, Calls Try.prog 46 #[.string (strN (flips (plainL fe fi fr fd fl) hs)), .int .i64 (p : Int)] W fun o w' => o = .returned (.string (strN (flips (plainL fe fi fr fd fl) (hs ++ [p])))) ∧ Below W.heap.size W w') := by
                    intro W
                    rw [flips_snoc]
                    exact wFlip_any _ p hpl (by omega) hx W
                  clear hx hxl hpl ho9 hg9 hk9 ST
                  go_wp2_with fail
                  refine (H46.out _).mono ?_
                  rintro o w16 ⟨rfl, hb16⟩
                  have st16 := st15.below hb16
                  clear st15 hb16 H46
                  go_wp2
                  go_roundw
                  case rel => exact ⟨k + 1, hs ++ [p], ao9, cp9, HH.out.2.2.2, by go_num, by rw [List.length_append]; rfl, rfl, by rw [List.length_append]; exact st16, ff_nodup HH.out.1 HE.out, by rw [List.length_append]; have := HH.out.2.1; simp; omega, fun _ => by simp, ff_sub HH.out.2.2.1 HpO.out⟩
                  case measure => have := HH.out.2.2.2; simp [intOf]; omega
          · have hlt' : ¬ (k : Int) < (nn : Int) := by omega
            have HQ : Hid (∀ v, v < 2 → (walkZ (strN (M.stuffL (flips (plainL fe fi fr fd fl) hs) ++ [49, 48 + v, 49]))).code = 5) := by
              intro v hv
              refine flips_bad fe fi fr fd fl HFT.out hs hnd (hl1 (by have := HN5.out; omega)) (by have := HN5.out; omega) (fun p hp => HOL.out.1 p (hsub p hp)) (48 + v) ?_
              rcases (show v = 0 ∨ v = 1 by omega) with rfl | rfl
              · exact .inl rfl
              · exact .inr rfl
            have HX : Hid ((∀ y ∈ flips (plainL fe fi fr fd fl) hs, M.isL y) ∧ (flips (plainL fe fi fr fd fl) hs).length ≤ 118) := ⟨flips_isL _ hs HPL.out.1, by rw [flips_len]; exact HPL.out.2.1⟩
            have hs3 : (strN (M.stuffL (flips (plainL fe fi fr fd fl) hs))).size ≤ 300 := by rw [strN_size]; have := M.stuff_len (flips (plainL fe fi fr fd fl) hs); have := HX.out.2; omega
            have ST : Hid (ffI w B oa ol (.slice ao hs.length cp) hs wr) := st
            clear st hnd hlk hl1 hsub hlt hk
            generalize flips (plainL fe fi fr fd fl) hs = x' at *
            go_wp2_with fail
            refine (H21.out _ _ HX.out.1 HX.out.2).mono ?_
            rintro o w13 ⟨rfl, hb13⟩
            have st := ST.out.below hb13
            clear ST hb13
            go_wp2_with fail
            refine (wByte_any _ b m cpm lm 9 (HM.out.1.below st.bel) HM.out.2 (by decide)).mono ?_
            rintro o w14 ⟨x9, rfl, hx9, hb14⟩
            have st2 := st.below hb14
            have ST : Hid (ffI w B oa ol (.slice ao hs.length cp) hs w14) := st2
            clear st st2 hb14
            have HV9 : Hid ((x9 : Int) % 2 = ((x9 % 2 : Nat) : Int)) := by unfold Hid; omega
            go_wp2_with fail
            rw [HV9.out]
            refine (wBits_1 (x9 % 2) (Nat.mod_lt _ (by decide)) _).mono ?_
            rintro o w15 ⟨rfl, hb15⟩
            have st := ST.out.below hb15
            have ST : Hid (ffI w B oa ol (.slice ao hs.length cp) hs w15) := st
            clear st hb15
            have hv2 : x9 % 2 < 2 := Nat.mod_lt _ (by decide)
            generalize x9 % 2 = v9 at *
            have HT : Hid (strN (M.stuffL x') ++ (⟨#[49]⟩ : ByteArray) ++ strN (M.num v9 1) ++ (⟨#[49]⟩ : ByteArray) = strN (M.stuffL x' ++ [49, 48 + v9, 49])) := by
              have e1 : M.num v9 1 = [48 + v9] := by show M.num (v9 / 2) 0 ++ [48 + v9 % 2] = _; rw [Nat.mod_eq_of_lt hv2]; rfl
              unfold Hid
              rw [e1, show (⟨#[49]⟩ : ByteArray) = strN [49] from rfl, strN_append, strN_append, strN_append]
              simp
            have hn1 : (strN (M.num v9 1)).size = 1 := by rw [strN_size, M.num_length]
            have hc5 := HQ.out v9 hv2
            have H38 : Hid (∀ W, Calls Try.prog 38 #[.string (strN (M.stuffL x' ++ [49, 48 + v9, 49]))] W fun o w' => (∃ ao cp, o = .returned (.tuple #[frV false 0 false 0 ao 0 cp, .int .i64 5])) ∧ Below W.heap.size W w') := ff_dec _ hc5
            have H30 : Hid (∀ W, Calls Try.prog 30 #[.string (strN (M.stuffL x' ++ [49, 48 + v9, 49]))] W fun o w' => o = .returned (.agg #[.int .i64 5, .int .i64 0, .bool false, .bool false]) ∧ Below W.heap.size W w') := ff_jud _ hc5
            clear hc5 HQ HX HV9
            go_wp2_with fail
            rw [HT.out]
            generalize strN (M.stuffL x' ++ [49, 48 + v9, 49]) = tt at *
            clear HT
            refine (H38.out _).mono ?_
            rintro o w16 ⟨⟨ao6, cp6, rfl⟩, hb16⟩
            have st := ST.out.below hb16
            have HB16 : Hid (Below w.heap.size w w16) := st.bel
            clear ST hb16 H38 st
            go_wp2_with fail
            refine (H30.out _).mono ?_
            rintro o w17 ⟨rfl, hb17⟩
            have HB17 : Hid (Below w.heap.size w w17) := (HB16.out.alloc HB16.out.size _).trans (hb17.mono (Nat.le_trans HB16.out.size (by simp)))
            clear hb17 H30
            go_wp2
            go_ret
            exact ⟨rfl, HB17.out⟩
      · obtain ⟨dn, rfl, hf, hib⟩ := valid_fits hv hsm
        have ST : Hid (imI w F e i r (dn : Int) ao dl.length cp dl w2) := st
        clear st
        go_wp2_with fail
        refine (body_ok _ e i r dn ao dl.length cp dl ST.out.y hv).mono ?_
        rintro o w3 ⟨rfl, hb3⟩
        have key : ∃ (fe : Bool) (fi : Nat) (fr : Bool) (fd : Nat) (fao : Option Addr) (fcp : Nat) (fl : List Nat), fv w F fe fi fr fd fao fcp fl w3 ∧ strN (bodyL e i r dn dl) = strN (bodyL fe fi fr fd fl) := ⟨e, i, r, dn, ao, cp, dl, ⟨ST.out.below hb3, hv, hf⟩, rfl⟩
        clear ST hb3 p0 p1 p2 p3 p4 p5 p6 p7 p8 p9 hv hf hib
        generalize strN (bodyL e i r dn dl) = tb at *
        obtain ⟨fe, fi, fr, fd, fao, fcp, fl, hfv, rfl⟩ := key
        have hF0 := field39_0
        have hF1 := field39_1
        have hft := hfv.ft
        have hok := hfv.ok
        have hbl := body_le fe fi fr fd fl hft
        have hpl := plainL_len fe fi fr fd fl
        have H27 : Hid (∀ W, isBytes W fao fl.length fcp fl → Calls Try.prog 27 #[frV fe fi fr (fd : Int) fao fl.length fcp] W fun o w' => o = .returned (.string (strN (bodyL fe fi fr fd fl))) ∧ Below W.heap.size W w') := fun W hW => specBody_ok W fe fi fr fd fao fl.length fcp fl hW hok
        have H44 : Hid (∀ W, isBytes W fao fl.length fcp fl → Calls Try.prog 44 #[frV fe fi fr (fd : Int) fao fl.length fcp] W fun o w' => ∃ (ao : Option Addr) (cp : Nat) (ol : List Nat), o = .returned (.slice ao ol.length cp) ∧ ownsI w' W.heap.size (.slice ao ol.length cp) ol ∧ (∀ p ∈ ol, p < (bodyL fe fi fr fd fl).length + 15 ∧ ¬ fixd fe p) ∧ ol ≠ [] ∧ ol.length ≤ 118 ∧ Below W.heap.size W w') := fun W hW => wOpen_ok W fe fi fr fd fao fcp fl hW hok hft
        have H17 : Hid (∀ W, Calls Try.prog 17 #[.string (strN (bodyL fe fi fr fd fl))] W fun o w' => o = .returned (.int .i64 (M.crcN ((bodyL fe fi fr fd fl).map (fun x => x - 48)) : Nat)) ∧ Below W.heap.size W w') := by
          intro W
          have := crc15_any (strN (bodyL fe fi fr fd fl)) W
          rw [crcZ_strN _ (bodyL_isL fe fi fr fd fl) (by omega)] at this
          exact this
        have H43 : Hid (∀ W, Calls Try.prog 43 #[.int .i64 (M.crcN ((bodyL fe fi fr fd fl).map (fun x => x - 48)) : Nat), .int .i64 15] W fun o w' => o = .returned (.string (strN (M.num (M.crcN ((bodyL fe fi fr fd fl).map (fun x => x - 48))) 15))) ∧ Below W.heap.size W w') := fun W => wBits_15 _ (M.crcN_lt _) W
        have HP : Hid (strN (bodyL fe fi fr fd fl) ++ strN (M.num (M.crcN ((bodyL fe fi fr fd fl).map (fun x => x - 48))) 15) = strN (plainL fe fi fr fd fl)) := by unfold Hid; rw [strN_append]; rfl
        have H21 : Hid (∀ W x, (∀ y ∈ x, M.isL y) → x.length ≤ 118 → Calls Try.prog 21 #[.string (strN x)] W fun o w' => o = .returned (.string (strN (M.stuffL x))) ∧ Below W.heap.size W w') := by
          intro W x hx hxl
          have := stuff_any (strN x) W
          rw [stuffZ_strN x hx (by omega)] at this
          exact this
        have H30n : Hid (∀ W, Calls Try.prog 30 #[.string (strN (M.stuffL (plainL fe fi fr fd fl)) ++ (⟨#[49, 49, 49]⟩ : ByteArray))] W fun o w' => (∃ (d o' : Bool), o = .returned (.agg #[.int .i64 0, .int .i64 14, .bool d, .bool o'])) ∧ Below W.heap.size W w') := by
          intro W
          rw [show (⟨#[49, 49, 49]⟩ : ByteArray) = strN [49, 49, 49] from rfl, strN_append]
          refine (judge_any _ W).mono ?_
          rintro o w' ⟨rfl, hb⟩
          obtain ⟨c0, c1⟩ := flips_none fe fi fr fd fl hft
          refine ⟨?_, hb⟩
          unfold judgeV
          rw [c0, if_pos (by rfl), c1]
          exact ⟨_, _, rfl⟩
        have HPL : Hid ((∀ y ∈ plainL fe fi fr fd fl, M.isL y) ∧ (plainL fe fi fr fd fl).length ≤ 118 ∧ (plainL fe fi fr fd fl).length = (bodyL fe fi fr fd fl).length + 15) := ⟨plainL_isL fe fi fr fd fl, by omega, hpl⟩
        have HFT : Hid (fits fr fd fl) := hft
        have hbs : (strN (bodyL fe fi fr fd fl)).size ≤ 200 := by rw [strN_size]; omega
        have hns : (strN (M.num (M.crcN ((bodyL fe fi fr fd fl).map (fun x => x - 48))) 15)).size = 15 := by rw [strN_size, M.num_length]
        have hss : (strN (M.stuffL (plainL fe fi fr fd fl))).size ≤ 300 := by rw [strN_size]; have := M.stuff_len (plainL fe fi fr fd fl); omega
        clear hft hok hbl hpl hsm hl hl2
        have HV : Hid (fv w F fe fi fr fd fao fcp fl w3) := hfv
        obtain ⟨p0, p1, p2, p3, p4⟩ := hfv.im.f.cells
        clear hfv
        generalize M.crcN ((bodyL fe fi fr fd fl).map (fun x => x - 48)) = cr at *
        go_wp2_with fail
        refine (H17.out _).mono ?_
        rintro o w4 ⟨rfl, hb⟩
        have hfv := HV.out.below hb
        clear HV hb p0 p1 p2 p3 p4
        have HV : Hid (fv w F fe fi fr fd fao fcp fl w4) := hfv
        obtain ⟨p0, p1, p2, p3, p4⟩ := hfv.im.f.cells
        clear hfv
        go_wp2_with fail
        refine (H43.out _).mono ?_
        rintro o w5 ⟨rfl, hb⟩
        have hfv := HV.out.below hb
        clear HV hb p0 p1 p2 p3 p4
        clear H17 H43
        have HV : Hid (fv w F fe fi fr fd fao fcp fl w5) := hfv
        obtain ⟨p0, p1, p2, p3, p4⟩ := hfv.im.f.cells
        clear hfv
        go_wp2_with fail
        rw [HP.out]
        clear HP
        refine (H27.out _ HV.out.im.y).mono ?_
        rintro o w6 ⟨rfl, hb⟩
        have hfv := HV.out.below hb
        clear HV hb p0 p1 p2 p3 p4
        clear H27
        have HV : Hid (fv w F fe fi fr fd fao fcp fl w6) := hfv
        obtain ⟨p0, p1, p2, p3, p4⟩ := hfv.im.f.cells
        clear hfv
        go_wp2_with fail
        refine (H21.out _ _ HPL.out.1 HPL.out.2.1).mono ?_
        rintro o w7 ⟨rfl, hb⟩
        have hfv := HV.out.below hb
        clear HV hb p0 p1 p2 p3 p4
        have HV : Hid (fv w F fe fi fr fd fao fcp fl w7) := hfv
        obtain ⟨p0, p1, p2, p3, p4⟩ := hfv.im.f.cells
        clear hfv
        go_wp2_with fail
        refine (H30n.out _).mono ?_
        rintro o w8 ⟨⟨dA, oA, rfl⟩, hb⟩
        have hfv := HV.out.below hb
        clear HV hb p0 p1 p2 p3 p4
        have HV : Hid (fv w F fe fi fr fd fao fcp fl w8) := hfv
        obtain ⟨p0, p1, p2, p3, p4⟩ := hfv.im.f.cells
        clear hfv
        go_wp2_with fail
        refine (H21.out _ _ HPL.out.1 HPL.out.2.1).mono ?_
        rintro o w9 ⟨rfl, hb⟩
        have hfv := HV.out.below hb
        clear HV hb p0 p1 p2 p3 p4
        have HV : Hid (fv w F fe fi fr fd fao fcp fl w9) := hfv
        obtain ⟨p0, p1, p2, p3, p4⟩ := hfv.im.f.cells
        clear hfv
        go_wp2_with fail
        refine (H30n.out _).mono ?_
        rintro o w10 ⟨⟨dB, oB, rfl⟩, hb⟩
        have hfv := HV.out.below hb
        clear HV hb p0 p1 p2 p3 p4
        clear H30n
        have HV : Hid (fv w F fe fi fr fd fao fcp fl w10) := hfv
        obtain ⟨p0, p1, p2, p3, p4⟩ := hfv.im.f.cells
        clear hfv
        go_wp2_with fail
        refine (H44.out _ HV.out.im.y).mono ?_
        rintro o w11 ⟨oa, oc, ol, rfl, hown, hopen, hne, hol, hb⟩
        have hfv := HV.out.below hb
        have st : ffI w w11.heap.size oa ol (.slice (some ⟨w11.heap.size, 0, none⟩) 0 0) [] (w11.alloc (.cells #[] 3)) := by
          have hbe := hfv.im.bel
          have hA : Below w11.heap.size w11 (w11.alloc (.cells #[] 3)) := (Below.refl _ _).alloc (Nat.le_refl _) _
          have hlt : ∀ x, oa = some x → x.block < w11.heap.size := fun x e => by subst e; exact (World.ownsRow.lt hown x.block (by simp [Value.ownBlock])).2
          exact ⟨(isInts.ofOwn hown rfl).low (fun g ⟨x, e, eg⟩ => Below.heap_alloc w11 _ g (by have := hlt x e; omega)), hlt, ownI_nil w11 w11.heap.size (Nat.le_refl _), hbe.trans (hA.mono hbe.size), hbe.size, by simp⟩
        have HOL : Hid ((∀ p ∈ ol, p < (bodyL fe fi fr fd fl).length + 15 ∧ ¬ fixd fe p) ∧ ol ≠ [] ∧ ol.length ≤ 118) := ⟨hopen, hne, hol⟩
        have ST : Hid (ffI w w11.heap.size oa ol (.slice (some ⟨w11.heap.size, 0, none⟩) 0 0) [] (w11.alloc (.cells #[] 3))) := st
        clear HV hb hfv hown hopen hne hol H44 p0 p1 p2 p3 p4 st
        go_wp2_with fail
        refine (wByte_any _ b m cpm lm 0 (HM.out.1.below ST.out.bel) HM.out.2 (by decide)).mono ?_
        rintro o w12 ⟨x0, rfl, hx0, hb⟩
        have st := ST.out.below hb
        clear ST hb
        generalize w11.heap.size = B at *
        have HN : Hid (x0 % 5 + 1 ≤ 5) := by unfold Hid; omega
        have HNN : Hid ((1 : Int) + (x0 : Int) % 5 = ((1 + x0 % 5 : Nat) : Int)) := by unfold Hid; omega
        go_wp2_with fail
        rw [HNN.out]
        generalize hnnE : 1 + x0 % 5 = nn at *
        have HN5 : Hid (1 ≤ nn ∧ nn ≤ 5) := by unfold Hid; omega
        clear hnnE HNN HN hx0
        go_loopw [7, 9, 11] (fun pl v ii wr => ∃ (k : Nat) (hs : List Nat) (ao : Option Addr) (cp : Nat), k ≤ nn ∧ ii = .int .i64 (k : Int) ∧ v = .slice ao hs.length cp ∧ pl = .string (strN (flips (plainL fe fi fr fd fl) hs)) ∧ ffI w B oa ol (.slice ao hs.length cp) hs wr ∧ hs.Nodup ∧ hs.length ≤ k ∧ (1 ≤ k → 1 ≤ hs.length) ∧ (∀ p ∈ hs, p ∈ ol)) (fun _ _ ii _ => nn - (intOf ii).toNat)
        case atStart => exact ⟨0, [], _, _, Nat.zero_le _, rfl, rfl, rfl, st, List.nodup_nil, Nat.le_refl _, by omega, by simp⟩
        case round =>
          clear st
          obtain ⟨k, hs, ao, cp, hk, rfl, rfl, rfl, st, hnd, hlk, hl1, hsub⟩ := hrel
          by_cases hlt : k < nn
          · have hlt' : (k : Int) < (nn : Int) := by omega
            have HH : Hid (hs.Nodup ∧ hs.length ≤ k ∧ (∀ p ∈ hs, p ∈ ol) ∧ k < nn) := ⟨hnd, hlk, hsub, hlt⟩
            have hk5 : k ≤ 5 := by have := HN5.out; omega
            have STd : Hid (ffI w B oa ol (.slice ao hs.length cp) hs wr.drew) := st.below (Below.refl _ _).drew
            have ST0 : Hid (ffI w B oa ol (.slice ao hs.length cp) hs wr) := st
            have hol : 0 < ol.length := List.length_pos_iff.2 HOL.out.2.1
            have hol2 : ol.length ≤ 118 := HOL.out.2.2
            have hol0 : ¬ (ol.length : Int) = 0 := by omega
            obtain ⟨g, rfl, hcells⟩ := st.op.cells HOL.out.2.1
            clear hcells
            have HK1 : Hid ((k : Int) + 1 = ((k + 1 : Nat) : Int)) := by unfold Hid; omega
            have HK2 : Hid ((k : Int) + 2 = ((k + 2 : Nat) : Int)) := by unfold Hid; omega
            clear st hnd hlk hl1 hsub hlt hk
            clear STd
            go_wp2_with fail
            rw [HK1.out]
            refine (wByte_any _ b m cpm lm (k + 1) (HM.out.1.below ST0.out.bel) HM.out.2 (by omega)).mono ?_
            rintro o w13 ⟨x1, rfl, hx1, hb13⟩
            have st13 := ST0.out.below hb13
            clear ST0 hb13
            go_wp2_with fail
            rw [HK2.out]
            refine (wByte_any _ b m cpm lm (k + 2) (HM.out.1.below st13.bel) HM.out.2 (by omega)).mono ?_
            rintro o w14 ⟨x2, rfl, hx2, hb14⟩
            have st14 := st13.below hb14
            obtain ⟨J, hJ⟩ : ∃ J, J = (x1 * 5 + x2 * 3 + k) % ol.length := ⟨_, rfl⟩
            have hJl : J < ol.length := hJ ▸ Nat.mod_lt _ hol
            have hrem : ((x1 : Int) * 5 + (x2 : Int) * 3 + (k : Int)).tmod (ol.length : Int) = (J : Int) := ff_rem hJ
            have hJl' : (J : Int) < (ol.length : Int) := by omega
            have hcJ := ff_cell st14.op hJl
            have HpO : Hid (ol.getD J 0 ∈ ol) := by unfold Hid; have e : ol.getD J 0 = ol[J] := by simp [hJl]
                                                    rw [e]; exact List.getElem_mem hJl
            generalize ol.getD J 0 = p at *
            have ST : Hid (ffI w B (some ⟨g, 0, none⟩) ol (.slice ao hs.length cp) hs w14) := st14
            clear hJ st13 st14 hb14 HK1 HK2
            go_wp2_with fail
            go_loopw [13, 14] (fun ag jj wr => ∃ j : Nat, j ≤ hs.length ∧ jj = .int .i64 (j : Int) ∧ ag = .bool (decide (p ∈ hs.take j)) ∧ wr = w14) (fun _ jj _ => hs.length - (intOf jj).toNat)
            case atStart => exact ⟨0, Nat.zero_le _, rfl, by simp, rfl⟩
            case round =>
              obtain ⟨j, hj, rfl, rfl, rfl⟩ := hrel
              by_cases hjl : j < hs.length
              · have hjl' : (j : Int) < (hs.length : Int) := by omega
                obtain ⟨g2, rfl, hc2⟩ := (isInts.ofOwn ST.out.own rfl).cells (by intro e; rw [e] at hjl; simp at hjl)
                have hcj := hc2 j hjl
                have hll : hs.length ≤ 5 := by have := HH.out.2.1; omega
                have HT : Hid (hs.take (j + 1) = hs.take j ++ [hs[j]]) := List.take_succ_eq_append_getElem hjl
                generalize hs[j] = hj0 at *
                by_cases hp : hj0 = p
                · have hpB : ((hj0 : Int) == (p : Int)) = true := by simp; omega
                  have HQ : Hid (decide (p ∈ hs.take (j + 1)) = true) := by unfold Hid; rw [HT.out, hp]; simp
                  clear hc2 hp
                  go_wp2
                  go_roundw
                  case rel => exact ⟨j + 1, hjl, by go_num, by rw [HQ.out], trivial⟩
                  case measure => simp [intOf]; omega
                · have hpB : ((hj0 : Int) == (p : Int)) = false := by simp; omega
                  have HQ : Hid (decide (p ∈ hs.take (j + 1)) = decide (p ∈ hs.take j)) := by
                    unfold Hid
                    rw [HT.out]
                    have hp' : ¬ p = hj0 := fun e => hp e.symm
                    simp [hp']
                  clear hc2 hp
                  generalize hAg : decide (p ∈ hs.take j) = ag at *
                  clear hAg
                  go_wp2
                  go_roundw
                  case rel => exact ⟨j + 1, hjl, by go_num, by rw [HQ.out], trivial⟩
                  case measure => simp [intOf]; omega
              · have hjl' : ¬ (j : Int) < (hs.length : Int) := by omega
                have hje : hs.take j = hs := List.take_of_length_le (by omega)
                rw [hje]
                have hll : hs.length ≤ 5 := by have := HH.out.2.1; omega
                clear hje hjl hj
                by_cases hin : p ∈ hs
                · have HE : Hid (1 ≤ hs.length) := by unfold Hid; have := List.length_pos_of_mem hin; omega
                  rw [decide_eq_true hin]
                  clear hin
                  go_wp2
                  go_roundw
                  case rel => exact ⟨k + 1, hs, ao, cp, HH.out.2.2.2, by go_num, rfl, rfl, ST.out, HH.out.1, by have := HH.out.2.1; omega, fun _ => HE.out, HH.out.2.2.1⟩
                  case measure => have := HH.out.2.2.2; simp [intOf]; omega
                · have HE : Hid (p ∉ hs) := hin
                  rw [decide_eq_false hin]
                  clear hin
                  have HLL : Hid (hs.length ≤ 1000000) := by unfold Hid; omega
                  go_wp2_with (at_builtin; refine list_appI wr _ rfl rfl (.tmp 108) (.tmp 110) rfl B _ hs p rfl rfl ST.out.own rfl HLL.out ST.out.hB.2 ?_)
                  intro ao9 cp9 w15 ho9 hg9 hk9
                  have st15 := ST.out.app ho9 hg9
                  have hx := flips_isL _ hs HPL.out.1
                  have hxl : (flips (plainL fe fi fr fd fl) hs).length ≤ 118 := by rw [flips_len]; exact HPL.out.2.1
                  have hpl : p < (flips (plainL fe fi fr fd fl) hs).length := by rw [flips_len, HPL.out.2.2]; exact (HOL.out.1 p HpO.out).1
                  have H46 : Hid (∀ W, Calls Try.prog 46 #[.string (strN (flips (plainL fe fi fr fd fl) hs)), .int .i64 (p : Int)] W fun o w' => o = .returned (.string (strN (flips (plainL fe fi fr fd fl) (hs ++ [p])))) ∧ Below W.heap.size W w') := by
                    intro W
                    rw [flips_snoc]
                    exact wFlip_any _ p hpl (by omega) hx W
                  clear hx hxl hpl ho9 hg9 hk9 ST
                  go_wp2_with fail
                  refine (H46.out _).mono ?_
                  rintro o w16 ⟨rfl, hb16⟩
                  have st16 := st15.below hb16
                  clear st15 hb16 H46
                  go_wp2
                  go_roundw
                  case rel => exact ⟨k + 1, hs ++ [p], ao9, cp9, HH.out.2.2.2, by go_num, by rw [List.length_append]; rfl, rfl, by rw [List.length_append]; exact st16, ff_nodup HH.out.1 HE.out, by rw [List.length_append]; have := HH.out.2.1; simp; omega, fun _ => by simp, ff_sub HH.out.2.2.1 HpO.out⟩
                  case measure => have := HH.out.2.2.2; simp [intOf]; omega
          · have hlt' : ¬ (k : Int) < (nn : Int) := by omega
            have HQ : Hid (∀ v, v < 2 → (walkZ (strN (M.stuffL (flips (plainL fe fi fr fd fl) hs) ++ [49, 48 + v, 49]))).code = 5) := by
              intro v hv
              refine flips_bad fe fi fr fd fl HFT.out hs hnd (hl1 (by have := HN5.out; omega)) (by have := HN5.out; omega) (fun p hp => HOL.out.1 p (hsub p hp)) (48 + v) ?_
              rcases (show v = 0 ∨ v = 1 by omega) with rfl | rfl
              · exact .inl rfl
              · exact .inr rfl
            have HX : Hid ((∀ y ∈ flips (plainL fe fi fr fd fl) hs, M.isL y) ∧ (flips (plainL fe fi fr fd fl) hs).length ≤ 118) := ⟨flips_isL _ hs HPL.out.1, by rw [flips_len]; exact HPL.out.2.1⟩
            have hs3 : (strN (M.stuffL (flips (plainL fe fi fr fd fl) hs))).size ≤ 300 := by rw [strN_size]; have := M.stuff_len (flips (plainL fe fi fr fd fl) hs); have := HX.out.2; omega
            have ST : Hid (ffI w B oa ol (.slice ao hs.length cp) hs wr) := st
            clear st hnd hlk hl1 hsub hlt hk
            generalize flips (plainL fe fi fr fd fl) hs = x' at *
            go_wp2_with fail
            refine (H21.out _ _ HX.out.1 HX.out.2).mono ?_
            rintro o w13 ⟨rfl, hb13⟩
            have st := ST.out.below hb13
            clear ST hb13
            go_wp2_with fail
            refine (wByte_any _ b m cpm lm 9 (HM.out.1.below st.bel) HM.out.2 (by decide)).mono ?_
            rintro o w14 ⟨x9, rfl, hx9, hb14⟩
            have st2 := st.below hb14
            have ST : Hid (ffI w B oa ol (.slice ao hs.length cp) hs w14) := st2
            clear st st2 hb14
            have HV9 : Hid ((x9 : Int) % 2 = ((x9 % 2 : Nat) : Int)) := by unfold Hid; omega
            go_wp2_with fail
            rw [HV9.out]
            refine (wBits_1 (x9 % 2) (Nat.mod_lt _ (by decide)) _).mono ?_
            rintro o w15 ⟨rfl, hb15⟩
            have st := ST.out.below hb15
            have ST : Hid (ffI w B oa ol (.slice ao hs.length cp) hs w15) := st
            clear st hb15
            have hv2 : x9 % 2 < 2 := Nat.mod_lt _ (by decide)
            generalize x9 % 2 = v9 at *
            have HT : Hid (strN (M.stuffL x') ++ (⟨#[49]⟩ : ByteArray) ++ strN (M.num v9 1) ++ (⟨#[49]⟩ : ByteArray) = strN (M.stuffL x' ++ [49, 48 + v9, 49])) := by
              have e1 : M.num v9 1 = [48 + v9] := by show M.num (v9 / 2) 0 ++ [48 + v9 % 2] = _; rw [Nat.mod_eq_of_lt hv2]; rfl
              unfold Hid
              rw [e1, show (⟨#[49]⟩ : ByteArray) = strN [49] from rfl, strN_append, strN_append, strN_append]
              simp
            have hn1 : (strN (M.num v9 1)).size = 1 := by rw [strN_size, M.num_length]
            have hc5 := HQ.out v9 hv2
            have H38 : Hid (∀ W, Calls Try.prog 38 #[.string (strN (M.stuffL x' ++ [49, 48 + v9, 49]))] W fun o w' => (∃ ao cp, o = .returned (.tuple #[frV false 0 false 0 ao 0 cp, .int .i64 5])) ∧ Below W.heap.size W w') := ff_dec _ hc5
            have H30 : Hid (∀ W, Calls Try.prog 30 #[.string (strN (M.stuffL x' ++ [49, 48 + v9, 49]))] W fun o w' => o = .returned (.agg #[.int .i64 5, .int .i64 0, .bool false, .bool false]) ∧ Below W.heap.size W w') := ff_jud _ hc5
            clear hc5 HQ HX HV9
            go_wp2_with fail
            rw [HT.out]
            generalize strN (M.stuffL x' ++ [49, 48 + v9, 49]) = tt at *
            clear HT
            refine (H38.out _).mono ?_
            rintro o w16 ⟨⟨ao6, cp6, rfl⟩, hb16⟩
            have st := ST.out.below hb16
            have HB16 : Hid (Below w.heap.size w w16) := st.bel
            clear ST hb16 H38 st
            go_wp2_with fail
            refine (H30.out _).mono ?_
            rintro o w17 ⟨rfl, hb17⟩
            have HB17 : Hid (Below w.heap.size w w17) := (HB16.out.alloc HB16.out.size _).trans (hb17.mono (Nat.le_trans HB16.out.size (by simp)))
            clear hb17 H30
            go_wp2
            go_ret
            exact ⟨rfl, HB17.out⟩
end Go.Proofs.Ytnefmdjodjpopaa
