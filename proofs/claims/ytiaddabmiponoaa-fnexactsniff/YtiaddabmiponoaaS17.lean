import Derived.Test.YtiaddabmiponoaaS16
import Derived.Test.YtiaddabmiponoaaS12
namespace Go.Proofs.Ytiaddabmiponoaa
open Go.RowKit
theorem judge_same (s : ByteArray) : judgeV (walkZ s) = sjV (swZ s).1 (swZ s).2.1 (swZ s).2.2 := by
  unfold walkZ swZ
  by_cases hk : okT s 4000 = true
  · rw [if_pos hk, if_pos hk]
    obtain ⟨h1, h2, -⟩ := walk_all (lt s) (lt_isL hk)
    unfold judgeV sjV
    rw [h1]
    by_cases hg : goesOnB (swF (lt s) (lt s).length 0).1 = true
    · obtain ⟨h3, h4, h5⟩ := h2 hg
      rw [if_pos hg, if_pos hg, h3, h4, h5]
    · rw [if_neg hg, if_neg hg]
  · rw [if_neg hk, if_neg hk]
    rfl
theorem sjV_shape (c : Nat) (p : List Nat) (d : Bool) : ∃ c' f' : Nat, ∃ d' o' : Bool, sjV c p d = .agg #[.int .i64 (c' : Int), .int .i64 (f' : Int), .bool d', .bool o'] := by
  unfold sjV
  split
  · exact ⟨_, _, _, _, rfl⟩
  · exact ⟨_, 0, _, _, rfl⟩
theorem vd_cells {w w2 : World} {c f : Nat} {d o : Bool} (x : Obj) (h : Below (w.alloc (.cells #[.int .i64 (c : Int), .int .i64 (f : Int), .bool d, .bool o] 45)).heap.size (w.alloc (.cells #[.int .i64 (c : Int), .int .i64 (f : Int), .bool d, .bool o] 45)) w2) :
    (w2.alloc x).cell? ⟨w.heap.size, 0, none⟩ = some (.int .i64 (c : Int)) ∧ (w2.alloc x).cell? ⟨w.heap.size, 1, none⟩ = some (.int .i64 (f : Int)) ∧ (w2.alloc x).cell? ⟨w.heap.size, 2, none⟩ = some (.bool d) ∧ (w2.alloc x).cell? ⟨w.heap.size, 3, none⟩ = some (.bool o) := by
  have e : (w2.alloc x).heap[w.heap.size]? = some (.cells #[.int .i64 (c : Int), .int .i64 (f : Int), .bool d, .bool o] 45 (0, 0)) := by
    have hz := h.size
    rw [Below.heap_alloc w2 x _ (Nat.lt_of_lt_of_le (by simp) hz)]
    exact (h.block _ (by simp)).trans (heap_alloc_new w _)
  refine ⟨?_, ?_, ?_, ?_⟩ <;> simp [World.cell?, e]
set_option linter.unusedVariables false
/-- the code of the n letters from i on -/
def cd (s : ByteArray) (i n : Nat) : Nat := (walkZ (s.extract i (i + n))).code
/-- the frame of the n letters from i on -/
def fk (s : ByteArray) (i n : Nat) : Wk := decK (walkZ (s.extract i (i + n)))
def goes (c : Nat) : Prop := c = 0 ∨ c = 1
/-- a frame from i on ends with its n-th letter -/
structure fnd (s : ByteArray) (i n : Nat) : Prop where
  lo : 1 ≤ n
  hi : i + n ≤ s.size
  no : ¬ goes (cd s i n)
  be : ∀ m, 1 ≤ m → m < n → goes (cd s i m)
def nof (s : ByteArray) (i : Nat) : Prop := ∀ m, 1 ≤ m → i + m ≤ s.size → goes (cd s i m)
theorem fnd.one {s : ByteArray} {i n m : Nat} (h : fnd s i n) (h' : fnd s i m) : n = m := by
  by_cases e : n < m
  · exact absurd (h'.be n h.lo e) h.no
  · by_cases e' : m < n
    · exact absurd (h.be m h'.lo e') h'.no
    · omega
theorem fnd.nof {s : ByteArray} {i n : Nat} (h : fnd s i n) : ¬ nof s i := fun x => h.no (x n h.lo h.hi)
/-- eleven levels 1 from p on -/
def qs (s : ByteArray) (p : Nat) : Prop := p + 11 ≤ s.size ∧ ∀ k (h : k < s.size), p ≤ k → k < p + 11 → ¬ (s[k].toNat : Int) = 48
/-- the first place behind eleven levels 1, from f on -/
def qt (s : ByteArray) (f e : Nat) : Prop := ∃ p, f ≤ p ∧ qs s p ∧ (∀ p', f ≤ p' → p' < p → ¬ qs s p') ∧ e = p + 11
def noq (s : ByteArray) (f : Nat) : Prop := ∀ p, f ≤ p → ¬ qs s p
theorem qt.one {s : ByteArray} {f e e' : Nat} (h : qt s f e) (h' : qt s f e') : e = e' := by
  obtain ⟨p, a1, a2, a3, rfl⟩ := h
  obtain ⟨p', b1, b2, b3, rfl⟩ := h'
  by_cases e : p < p'
  · exact absurd a2 (b3 p a1 e)
  · by_cases e' : p' < p
    · exact absurd b2 (a3 p' b1 e')
    · omega
theorem qt.noq {s : ByteArray} {f e : Nat} (h : qt s f e) : ¬ noq s f := fun x => by
  obtain ⟨p, a1, a2, _⟩ := h
  exact x p a1 a2
theorem field45 (x a : Int) (b c : Bool) : ∀ w : World, (Instr.field 45 (.agg #[.int .i64 x, .int .i64 a, .bool b, .bool c]) 0).run Try.prog w = .ok (.int .i64 x) w := fun _ => by kernel_rfl
theorem ret_two {a b c d : Int} (h : a = c) (h' : b = d) : Ending.returned (.tuple #[.int .i64 a, .int .i64 b]) = .returned (.tuple #[.int .i64 c, .int .i64 d]) := by rw [h, h']
set_option maxHeartbeats 4000000 in
set_option maxRecDepth 20000 in
/-- spec.l7end -/
theorem l7end_any (s : ByteArray) (i : Nat) (w : World) (hs : s.size ≤ 6000) (hi : i ≤ s.size) :
    Calls Try.prog 10 #[.string s, .int .i64 (i : Int)] w fun o w' => ((∃ n, fnd s i n ∧ o = .returned (.tuple #[.int .i64 (n : Int), .int .i64 (cd s i n : Int)])) ∨ (nof s i ∧ o = .returned (.tuple #[.int .i64 0, .int .i64 0]))) ∧ Below w.heap.size w w' := by
  have HJ : Hid (∀ X n, Calls Try.prog 18 #[.string (s.extract i (i + n))] X fun o w' => ∃ (a : Int) (b c : Bool), o = .returned (.agg #[.int .i64 (cd s i n : Int), .int .i64 a, .bool b, .bool c]) ∧ Below X.heap.size X w') := fun X n => by
    refine (specJudge_any (s.extract i (i + n)) X (by simp [maxLen]; omega)).mono ?_
    rintro o w' ⟨rfl, hb⟩
    rw [← judge_same]
    unfold judgeV
    split
    · exact ⟨_, _, _, rfl, hb⟩
    · exact ⟨_, _, _, rfl, hb⟩
  go_enter Try.func10, Try.ntmps10
  go_wp2
  go_loopw [6] (fun k wr => ∃ n : Nat, 1 ≤ n ∧ i + n ≤ s.size + 1 ∧ k = .int .i64 (n : Int) ∧ (∀ m, 1 ≤ m → m < n → goes (cd s i m)) ∧ Below w.heap.size w wr) (fun k _ => s.size + 1 - (intOf k).toNat)
  case atStart => exact ⟨1, Nat.le_refl _, by omega, rfl, fun m h1 h2 => absurd h2 (by omega), Below.refl _ _⟩
  case round =>
    obtain ⟨n, hn1, hn2, rfl, hA, hB⟩ := hrel
    have HA : Hid (∀ m, 1 ≤ m → m < n → goes (cd s i m)) := hA
    have HB : Hid (Below w.heap.size w wr) := hB
    clear hA hB
    by_cases hlt : i + n ≤ s.size
    · go_wp2_with fail
      refine (HJ.out _ n).mono ?_
      rintro o w1 ⟨xa, xb, xc, rfl, hb1⟩
      have HB1 : Hid (Below w.heap.size w w1) := HB.out.trans (hb1.mono HB.out.size)
      clear hb1
      obtain ⟨c, ec⟩ : ∃ c, cd s i n = c := ⟨_, rfl⟩
      have HEC : Hid (cd s i n = c) := ec
      rw [ec]
      clear ec
      have HGO : Hid (goes c → ∀ m, 1 ≤ m → m < n + 1 → goes (cd s i m)) := fun hg m h1 h2 => by
        by_cases e : m = n
        · subst e; rw [HEC.out]; exact hg
        · exact HA.out m h1 (by omega)
      by_cases h0 : c = 0
      · subst h0
        have hfd := field45 0 xa xb xc
        go_wp2_with fail
        go_roundw
        case rel => exact ⟨n + 1, by omega, by omega, by go_num, HGO.out (Or.inl rfl), HB1.out⟩
        case measure => simp [intOf]; omega
      · by_cases h1 : c = 1
        · subst h1
          have hfd := field45 1 xa xb xc
          go_wp2_with fail
          go_roundw
          case rel => exact ⟨n + 1, by omega, by omega, by go_num, HGO.out (Or.inr rfl), HB1.out⟩
          case measure => simp [intOf]; omega
        · have b0 : ((c : Int) != 0) = true := by simp; omega
          have b1 : ((c : Int) != 1) = true := by simp; omega
          have HNG : Hid (¬ goes c) := fun x => by rcases x with x | x <;> omega
          clear h0 h1
          have hfd := field45 (c : Int) xa xb xc
          go_wp2_with fail
          refine bodyPost_ret (results_tmp2 rfl _ _ _) rfl ?_
          refine ⟨Or.inl ⟨n, ⟨hn1, hlt, by rw [HEC.out]; exact HNG.out, HA.out⟩, ?_⟩, HB1.out⟩
          rw [HEC.out]
          rfl
    · go_wp2
      refine bodyPost_ret (results_tmp2 rfl _ _ _) rfl ?_
      exact ⟨Or.inr ⟨fun m h1 h2 => HA.out m h1 (by omega), rfl⟩, HB.out⟩
set_option maxHeartbeats 4000000 in
/-- spec.l7found -/
theorem l7found_any (s : ByteArray) (j : Nat) (w : World) (hs : s.size ≤ 6000) (hj : j ≤ 6000) :
    Calls Try.prog 11 #[.string s, .int .i64 (j : Int)] w fun o w' => ((∃ e, qt s (j + 1) e ∧ o = .returned (.int .i64 (e : Int))) ∨ (noq s (j + 1) ∧ o = .returned (.int .i64 ((s.size : Int) + 1)))) ∧ w = w' := by
  go_enter Try.func11, Try.ntmps11
  go_wp2
  go_loop [5] (fun k => ∃ p : Nat, j + 1 ≤ p ∧ p ≤ 12002 ∧ k = .int .i64 ((p : Int) + 11) ∧ (∀ p', j + 1 ≤ p' → p' < p → ¬ qs s p')) (fun k => s.size + 1 - (intOf k).toNat)
  case atStart => exact ⟨j + 1, Nat.le_refl _, by omega, by go_num, fun p h1 h2 => absurd h2 (by omega)⟩
  case round =>
    obtain ⟨p, hp1, hp2, rfl, hA⟩ := hrel
    have HA : Hid (∀ p', j + 1 ≤ p' → p' < p → ¬ qs s p') := hA
    clear hA
    by_cases hlt : p + 11 ≤ s.size
    · go_wp2
      go_loop [6, 7] (fun a k => ∃ (b : Bool) (q : Nat), a = .bool b ∧ k = .int .i64 (q : Int) ∧ p ≤ q ∧ q ≤ p + 11 ∧ (b = true ↔ ∀ x (h : x < s.size), p ≤ x → x < q → ¬ (s[x].toNat : Int) = 48)) (fun _ k => p + 11 - (intOf k).toNat)
      case atStart => exact ⟨true, p, rfl, by go_num, Nat.le_refl _, by omega, by simp; intro x h h1 h2; omega⟩
      case round =>
        obtain ⟨b, q, rfl, rfl, hq1, hq2, hB⟩ := hrel
        have HB : Hid (b = true ↔ ∀ x (h : x < s.size), p ≤ x → x < q → ¬ (s[x].toNat : Int) = 48) := hB
        clear hB
        by_cases hlq : q < p + 11
        · have hqs : q < s.size := by omega
          by_cases h0 : (s[q].toNat : Int) = 48
          · go_wp2
            go_round
            case rel =>
              refine ⟨false, q + 1, rfl, by go_num, by omega, by omega, ?_⟩
              constructor
              · intro x; cases x
              · intro hx; exact absurd h0 (hx q hqs hq1 (by omega))
            case measure => simp [intOf]; omega
          · have b0 : ((s[q].toNat : Int) == 48) = false := by simpa using h0
            go_wp2
            go_round
            case rel =>
              refine ⟨b, q + 1, rfl, by go_num, by omega, by omega, ?_⟩
              rw [HB.out]
              constructor
              · intro hx x h h1 h2
                by_cases e : x = q
                · subst e; exact h0
                · exact hx x h h1 (by omega)
              · intro hx x h h1 h2
                exact hx x h h1 (by omega)
            case measure => simp [intOf]; omega
        · have hqe : q = p + 11 := by omega
          cases b
          · go_wp2
            go_round
            case rel =>
              refine ⟨p + 1, by omega, by omega, by go_num, fun p' h1 h2 => ?_⟩
              by_cases e : p' = p
              · subst e
                intro hq
                have := HB.out.2 (fun x h h1 h2 => hq.2 x h h1 (by omega))
                cases this
              · exact HA.out p' h1 (by omega)
            case measure => simp [intOf]; omega
          · go_wp2
            go_ret
            refine ⟨Or.inl ⟨p + 11, ⟨p, hp1, ⟨hlt, fun x h h1 h2 => HB.out.1 trivial x h h1 (by omega)⟩, HA.out, rfl⟩, ?_⟩, rfl⟩
            exact ret_int (by omega)
    · go_wp2
      go_ret
      exact ⟨Or.inr ⟨fun p' h1 h2 => by
        by_cases e : p' < p
        · exact HA.out p' h1 e h2
        · exact absurd h2.1 (by omega), rfl⟩, rfl⟩
/-- where a walk ends well, all of the frame is there -/
theorem sw12 (L : List Nat) (i : Nat) (h : (sw L i).1 = 1 ∨ (sw L i).1 = 2) : layH (sw L i).2.1 ≤ (sw L i).2.1.length ∧ endL (sw L i).2.1 + 24 ≤ (sw L i).2.1.length := by
  cases i with
  | zero => rcases h with h | h <;> cases h
  | succ i =>
    have hs : sw L (i + 1) = swStep L i (sw L i) := rfl
    have e2 : (sw L (i + 1)).1 = if (sw L i).2.2 = true then (if L.getD i 0 = L.getD (i - 1) 0 then 3 else 0) else lookL (sw L i).2.1 (L.getD i 0) := by rw [hs]; rfl
    have e3 : (sw L (i + 1)).2.1 = if (sw L i).2.2 = true then (sw L i).2.1 else (sw L i).2.1 ++ [L.getD i 0] := by rw [hs]; rfl
    rw [e2] at h
    rw [e3]
    by_cases hd : (sw L i).2.2 = true
    · rw [if_pos hd] at h
      split at h <;> omega
    · rw [if_neg hd] at h ⊢
      have hH := layH_or (sw L i).2.1
      have hE := layH_le (sw L i).2.1
      have hf := fieldL_eq (sw L i).2.1
      have hf14 := fN14 (sw L i).2.1.length _ _ hH hE
      rw [← hf] at hf14
      generalize (sw L i).2.1 = q at *
      generalize L.getD i 0 = c at *
      have h14 : fieldL q = 14 := by
        unfold lookL at h
        grind
      have hr := hf14.1 h14
      have e4 := layL2 (p := q) (by omega)
      have h23 : endL q + 23 ≤ q.length := by
        unfold lookL at h
        rw [h14, e4] at h
        simp at h
        grind
      rw [layH_snoc q c (by omega), endL_snoc q c (by omega), List.length_append, List.length_singleton]
      omega
theorem swF12 (L : List Nat) : ∀ f i, ((swF L f i).1 = 1 ∨ (swF L f i).1 = 2) → layH (swF L f i).2.1 ≤ (swF L f i).2.1.length ∧ endL (swF L f i).2.1 + 24 ≤ (swF L f i).2.1.length
  | 0, i => sw12 L i
  | f + 1, i => by
    rw [swF_succ]
    split
    · exact swF12 L f (i + 1)
    · intro h; rcases h with h | h <;> cases h
theorem swZ12 (s : ByteArray) (h : (swZ s).1 = 1 ∨ (swZ s).1 = 2) : layH (swZ s).2.1 ≤ (swZ s).2.1.length ∧ endL (swZ s).2.1 + 24 ≤ (swZ s).2.1.length := by
  unfold swZ at h ⊢
  split
  · rename_i hk
    rw [if_pos hk] at h
    exact swF12 _ _ _ h
  · rename_i hk
    rw [if_neg hk] at h
    rcases h with h | h <;> cases h
end Go.Proofs.Ytiaddabmiponoaa
