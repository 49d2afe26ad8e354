import Derived.Test.YtcenoecjihcjjaaJ
import Derived.Test.YtcenoecjihcjjaaG
import Derived.Test.YtcenoecjihcjjaaDM
import Derived.Lib.OthersKept
namespace Go.Proofs.Ytcenoecjihcjjaa
open Go.RowKit
def dueF (f : Nat → Nat) (i : Nat) : Bool :=
  decide (5 ≤ i) && (f (i - 1) == f (i - 2) && f (i - 2) == f (i - 3) && f (i - 3) == f (i - 4) && f (i - 4) == f (i - 5))

set_option maxHeartbeats 1000000 in
theorem due_any (w : World) (g n cap i : Nat) (f : Nat → Nat) (hrow : rowB w g n f) (hi : i ≤ n) (hn : n ≤ 100000000) :
    Calls Try.prog 38 #[.slice (some ⟨g, 0, none⟩) n cap, .int .i64 i] w fun e w' => e = .returned (.bool (dueF f i)) ∧ ∃ q, w' = w.drewN q := by
  by_cases h5 : i < 5
  · have HD : Hid (dueF f i = false) := by simp [dueF, Hid]; omega
    go_enter Try.func38, Try.ntmps38
    go_wp2
    go_ret
    exact ⟨ret_bool HD.out.symm, 0, rfl⟩
  · obtain ⟨k, rfl⟩ : ∃ k, i = k + 5 := ⟨i - 5, by omega⟩
    have c1 := hrow.cell (k + 4) (by omega)
    have c2 := hrow.cell (k + 3) (by omega)
    have c3 := hrow.cell (k + 2) (by omega)
    have c4 := hrow.cell (k + 1) (by omega)
    have c5 := hrow.cell k (by omega)
    have HD : Hid (dueF f (k + 5) = (f (k + 4) == f (k + 3) && f (k + 3) == f (k + 2) && f (k + 2) == f (k + 1) && f (k + 1) == f k)) := by
      simp [dueF, Hid]
    generalize f (k + 4) = x1 at *
    generalize f (k + 3) = x2 at *
    generalize f (k + 2) = x3 at *
    generalize f (k + 1) = x4 at *
    generalize f k = x5 at *
    clear hrow
    by_cases e1 : x1 = x2
    · have b1 : ((x1 : Int) == (x2 : Int)) = true := by simp; omega
      have E1 : Hid (x1 = x2) := e1
      clear e1
      by_cases e2 : x2 = x3
      · have b2 : ((x2 : Int) == (x3 : Int)) = true := by simp; omega
        have E2 : Hid (x2 = x3) := e2
        clear e2
        by_cases e3 : x3 = x4
        · have b3 : ((x3 : Int) == (x4 : Int)) = true := by simp; omega
          have E3 : Hid (x3 = x4) := e3
          clear e3
          by_cases e4 : x4 = x5
          · have b4 : ((x4 : Int) == (x5 : Int)) = true := by simp; omega
            have E4 : Hid (x4 = x5) := e4
            clear e4
            go_enter Try.func38, Try.ntmps38
            go_wp2
            go_quiet (fail)
            go_wp2
            go_ret
            exact ⟨ret_bool (by rw [HD.out]; simp [E1.out, E2.out, E3.out, E4.out]), _, rfl⟩
          · have b4 : ((x4 : Int) == (x5 : Int)) = false := by simp; omega
            have E4 : Hid (¬ x4 = x5) := e4
            clear e4
            go_enter Try.func38, Try.ntmps38
            go_wp2
            go_quiet (fail)
            go_wp2
            go_ret
            exact ⟨ret_bool (by rw [HD.out]; simp [E4.out]), _, rfl⟩
        · have b3 : ((x3 : Int) == (x4 : Int)) = false := by simp; omega
          have E3 : Hid (¬ x3 = x4) := e3
          clear e3
          go_enter Try.func38, Try.ntmps38
          go_wp2
          go_quiet (fail)
          go_wp2
          go_ret
          exact ⟨ret_bool (by rw [HD.out]; simp [E3.out]), _, rfl⟩
      · have b2 : ((x2 : Int) == (x3 : Int)) = false := by simp; omega
        have E2 : Hid (¬ x2 = x3) := e2
        clear e2
        go_enter Try.func38, Try.ntmps38
        go_wp2
        go_quiet (fail)
        go_wp2
        go_ret
        exact ⟨ret_bool (by rw [HD.out]; simp [E2.out]), _, rfl⟩
    · have b1 : ((x1 : Int) == (x2 : Int)) = false := by simp; omega
      have E1 : Hid (¬ x1 = x2) := e1
      clear e1
      go_enter Try.func38, Try.ntmps38
      go_wp2
      go_quiet (fail)
      go_wp2
      go_ret
      exact ⟨ret_bool (by rw [HD.out]; simp [E1.out]), _, rfl⟩
def lt (s : ByteArray) : List Nat := s.data.toList.map UInt8.toNat
theorem lt_length (s : ByteArray) : (lt s).length = s.size := by simp [lt]
theorem lt_snoc (s : ByteArray) (k : Nat) (h : k < s.size) : (lt s).take (k + 1) = (lt s).take k ++ [s[k].toNat] := by
  unfold lt; rw [← List.map_take, take_snoc s k h]; simp [List.map_take]
theorem lt_isL {s : ByteArray} {m : Int} (h : okT s m = true) : ∀ x ∈ lt s, M.isL x := by
  intro x hx
  unfold okT at h; rw [Bool.and_eq_true] at h
  unfold lt at hx
  rw [List.mem_map] at hx
  obtain ⟨c, hc, rfl⟩ := hx
  exact okC_val (List.all_eq_true.1 h.2 c hc)
theorem isL_lt {l : List Nat} (h : ∀ x ∈ l, M.isL x) : ∀ x ∈ l, x < 256 := by
  intro x hx
  rcases h x hx with rfl | rfl <;> decide
theorem strN_lt (s : ByteArray) : strN (lt s) = s := by
  unfold strN lt
  rw [List.map_map]
  have : (UInt8.ofNat ∘ UInt8.toNat) = id := by funext c; simp
  rw [this]; simp
theorem getD_snoc_lt (l : List Nat) (a j : Nat) (h : j < l.length) : (l ++ [a]).getD j 0 = l.getD j 0 := by simp [List.getD, List.getElem?_append_left h]
theorem getD_snoc_eq (l : List Nat) (a j : Nat) (h : j = l.length) : (l ++ [a]).getD j 0 = a := by subst h; simp [List.getD]
theorem due_trail (l : List Nat) : dueF (fun t => l.getD t 0) l.length = decide (5 ≤ (M.trail l).2) := by
  by_cases h5 : 5 ≤ l.length
  · have ne : ∀ l : List Nat, 1 ≤ l.length → l ≠ [] := by intro l h e; simp [e] at h
    obtain ⟨l1, e, rfl⟩ := M.snoc_cases l (ne _ (by omega))
    simp only [List.length_append, List.length_singleton] at h5
    obtain ⟨l2, d, rfl⟩ := M.snoc_cases l1 (ne _ (by omega))
    simp only [List.length_append, List.length_singleton] at h5
    obtain ⟨l3, c, rfl⟩ := M.snoc_cases l2 (ne _ (by omega))
    simp only [List.length_append, List.length_singleton] at h5
    obtain ⟨l4, b, rfl⟩ := M.snoc_cases l3 (ne _ (by omega))
    simp only [List.length_append, List.length_singleton] at h5
    obtain ⟨l5, a, rfl⟩ := M.snoc_cases l4 (ne _ (by omega))
    rw [Bool.eq_iff_iff, decide_eq_true_iff, M.trail5]
    simp only [dueF, List.length_append, List.length_singleton]
    have g1 : (l5 ++ [a] ++ [b] ++ [c] ++ [d] ++ [e]).getD (l5.length + 1 + 1 + 1 + 1 + 1 - 1) 0 = e := getD_snoc_eq _ _ _ (by simp)
    have g2 : (l5 ++ [a] ++ [b] ++ [c] ++ [d] ++ [e]).getD (l5.length + 1 + 1 + 1 + 1 + 1 - 2) 0 = d := by
      rw [getD_snoc_lt _ _ _ (by simp)]; exact getD_snoc_eq _ _ _ (by simp)
    have g3 : (l5 ++ [a] ++ [b] ++ [c] ++ [d] ++ [e]).getD (l5.length + 1 + 1 + 1 + 1 + 1 - 3) 0 = c := by
      rw [getD_snoc_lt _ _ _ (by simp), getD_snoc_lt _ _ _ (by simp)]; exact getD_snoc_eq _ _ _ (by simp)
    have g4 : (l5 ++ [a] ++ [b] ++ [c] ++ [d] ++ [e]).getD (l5.length + 1 + 1 + 1 + 1 + 1 - 4) 0 = b := by
      rw [getD_snoc_lt _ _ _ (by simp), getD_snoc_lt _ _ _ (by simp), getD_snoc_lt _ _ _ (by simp)]; exact getD_snoc_eq _ _ _ (by simp)
    have g5 : (l5 ++ [a] ++ [b] ++ [c] ++ [d] ++ [e]).getD (l5.length + 1 + 1 + 1 + 1 + 1 - 5) 0 = a := by
      rw [getD_snoc_lt _ _ _ (by simp), getD_snoc_lt _ _ _ (by simp), getD_snoc_lt _ _ _ (by simp), getD_snoc_lt _ _ _ (by simp)]; exact getD_snoc_eq _ _ _ (by simp)
    rw [g1, g2, g3, g4, g5]
    simp [and_assoc]
  · have := M.trail_le l
    rw [Bool.eq_iff_iff, decide_eq_true_iff]
    simp [dueF]; omega

theorem ownsB.drewN {w : World} {B : Nat} {v : Value} {l : List Nat} (h : ownsB w B v l) (q : Nat) : ownsB (w.drewN q) B v l := by
  induction q generalizing w with
  | zero => exact h
  | succ q ih => exact ih (World.ownsRow.drew h)
theorem okT_size {s : ByteArray} {m : Int} (h : okT s m = true) : (s.size : Int) ≤ m := by
  unfold okT at h; rw [Bool.and_eq_true, decide_eq_true_iff] at h; exact h.1
theorem okT_at {s : ByteArray} {m : Int} (h : okT s m = true) (k : Nat) (hk : k < s.size) : s[k].toNat = 48 ∨ s[k].toNat = 49 := by
  unfold okT at h; rw [Bool.and_eq_true] at h
  exact okC_val (List.all_eq_true.1 h.2 _ (by rw [Array.mem_toList_iff]; exact Array.getElem_mem (xs := s.data) (i := k) hk))
theorem ret_tup {a b : ByteArray} {x y : Int} (h : (a, x) = (b, y)) : Ending.returned (.tuple #[.string a, .int .i64 x]) = .returned (.tuple #[.string b, .int .i64 y]) := by cases h; rfl
/-- what Destuff answers -/
def destZ (s : ByteArray) : ByteArray × Int := if okT s 4000 = true then (strN (M.dsGo (lt s) 0 [] (0, 0)).1, (M.dsGo (lt s) 0 [] (0, 0)).2) else (⟨#[]⟩, -2)
theorem lt_at (s : ByteArray) (k : Nat) (h : k < s.size) (h' : k < (lt s).length) : (lt s)[k] = s[k].toNat := by simp only [lt, List.getElem_map]; rfl

theorem rowB.below {B : Nat} {w w' : World} {g n : Nat} {f : Nat → Nat} (h : rowB w g n f) (hb : Below B w w') (hg : g < B) : rowB w' g n f :=
  ⟨fun t ht => (hb.cell (by exact hg)).trans (h.cell t ht), fun t ht => (hb.frozen (by exact hg)).trans (h.free t ht)⟩
theorem bytesRow_at (s : ByteArray) (cap t : Nat) (h : t < s.size) : (bytesRow s cap)[t]? = some (.int .u8 ((lt s).getD t 0 : Int)) := by
  have hd : t < s.data.size := h
  unfold bytesRow
  rw [Array.getElem?_append_left (by simpa using hd)]
  simp only [lt, List.getD, List.getElem?_map, Array.getElem?_map, Array.getElem?_toList]
  rw [Array.getElem?_eq_getElem hd]
  rfl
theorem rowB_bytes (w : World) (s : ByteArray) (cap : Nat) : rowB (w.alloc (.cells (bytesRow s cap) 5 ((bytesRow s cap).size, (bytesRow s cap).size + 1))) w.heap.size s.size (fun t => (lt s).getD t 0) := by
  refine ⟨fun t ht => ?_, fun t ht => ?_⟩
  · rw [World.cell?_alloc_mark, bytesRow_at s cap t ht]
  · have h1 : (w.alloc (.cells (bytesRow s cap) 5 ((bytesRow s cap).size, (bytesRow s cap).size + 1))).heap[w.heap.size]? = _ := heap_alloc_new w _
    have h2 : s.size ≤ (bytesRow s cap).size := by unfold bytesRow; simp
    simp only [World.frozen?, h1]
    simp
    omega
theorem dueF_congr {f f' : Nat → Nat} {i : Nat} (h : ∀ t, t < i → f t = f' t) : dueF f i = dueF f' i := by
  unfold dueF
  by_cases h5 : 5 ≤ i
  · rw [h (i - 1) (by omega), h (i - 2) (by omega), h (i - 3) (by omega), h (i - 4) (by omega), h (i - 5) (by omega)]
  · simp [h5]
theorem due_take (l : List Nat) (k : Nat) (hk : k ≤ l.length) (hr : (M.trail (l.take k)).2 ≤ 5) : dueF (fun t => l.getD t 0) k = decide ((M.trail (l.take k)).2 = 5) := by
  have h1 := due_trail (l.take k)
  rw [List.length_take, Nat.min_eq_left hk] at h1
  rw [dueF_congr (f' := fun t => (l.take k).getD t 0) (fun t ht => by simp [List.getD, ht]), h1]
  rw [Bool.eq_iff_iff]; simp; omega
set_option maxHeartbeats 1000000 in
theorem specDestuff_ok (s : ByteArray) (w : World) (hs : s.size ≤ maxLen) (hk : okT s 4000 = true) :
    Calls Try.prog 19 #[.string s] w fun e w' => e = .returned (.tuple #[.string (destZ s).1, .int .i64 (destZ s).2]) ∧ Below w.heap.size w w' := by
    have hsz := okT_size hk
    have HZ : Hid (destZ s = (strN (M.dsGo (lt s) 0 [] (0, 0)).1, (M.dsGo (lt s) 0 [] (0, 0)).2)) := by simp [destZ, hk, Hid]
    have hcb := fun w => run_bytes_of_string (P := Try.prog) w 9 40 5 s Try.underlying9 Try.underlying40 Try.underlying5
    go_enter Try.func19, Try.ntmps19
    go_wp2_with (go_at_call 25; refine (okBits_any _ _ _ hs).mono ?_; rintro e w1 ⟨rfl, rfl⟩)
    clear hcb
    generalize grownCap w s.size 0 5 = cap
    have hrow0 := rowB_bytes w s cap
    have hown0 := own_nil (w.alloc (.cells (bytesRow s cap) 5 ((bytesRow s cap).size, (bytesRow s cap).size + 1))) (w.heap.size + 1) (by simp)
    have hwA : Below w.heap.size w (w.alloc (.cells (bytesRow s cap) 5 ((bytesRow s cap).size, (bytesRow s cap).size + 1))) := (Below.refl _ _).alloc (Nat.le_refl _) _
    have hzA : (w.alloc (.cells (bytesRow s cap) 5 ((bytesRow s cap).size, (bytesRow s cap).size + 1))).heap.size = w.heap.size + 1 := by simp
    generalize w.alloc (.cells (bytesRow s cap) 5 ((bytesRow s cap).size, (bytesRow s cap).size + 1)) = wA at *
    rw [hzA] at hown0
    have HK : Hid (okT s 4000 = true) := hk
    clear hk
    have hfin : ∀ w', Below (w.heap.size + 1) wA w' → Below w.heap.size w w' := fun w' h => hwA.trans (h.mono (by omega))
    have HF : Hid (∀ w', Below (w.heap.size + 1) wA w' → Below w.heap.size w w') := hfin
    have HzA : Hid (wA.heap.size = w.heap.size + 1) := hzA
    clear hfin hwA hzA
    go_loopw [5, 6] (fun v i wr => ∃ (k : Nat) (out : List Nat), k ≤ s.size ∧ i = .int .i64 k ∧ M.dsAt (lt s) k out ∧ ownsB wr (w.heap.size + 1) v out ∧ Below (w.heap.size + 1) wA wr ∧ w.heap.size + 1 ≤ wr.heap.size) (fun _ i _ => s.size - (intOf i).toNat)
    case atStart => exact ⟨0, [], Nat.zero_le _, rfl, M.dsAt.zero _, World.ownsRow.drew hown0, ((Below.refl _ _).alloc (by rw [HzA.out]; exact Nat.le_refl _) _).drew, by simp [HzA.out]⟩
    case round =>
      clear hown0
      obtain ⟨k, out, hk, rfl, hat, hown, hbel, hz⟩ := hrel
      by_cases hlt : k < s.size
      · have hv : M.isL s[k].toNat := okT_at HK.out k hlt
        have hkl : k < (lt s).length := by rw [lt_length]; exact hlt
        have hlk := lt_at s k hlt hkl
        have hrun := hat.run
        have hll := hat.len
        have hrow := hrow0.below hbel (by omega)
        have hc := hrow.cell k hlt
        have hgk : (lt s).getD k 0 = s[k].toNat := by rw [← hlk]; simp [List.getD, hkl]
        simp only [hgk] at hc
        have HD : Hid (dueF (fun t => (lt s).getD t 0) k = decide ((M.trail ((lt s).take k)).2 = 5)) := due_take (lt s) k (by omega) hrun
        by_cases h5 : (M.trail ((lt s).take k)).2 = 5
        · have HD' : Hid (dueF (fun t => (lt s).getD t 0) k = true) := by rw [HD.out]; exact decide_eq_true h5
          have hk5 : 1 ≤ k := by
            have := M.trail_le ((lt s).take k)
            rw [List.length_take] at this
            omega
          obtain ⟨m, rfl⟩ : ∃ m, k = m + 1 := ⟨k - 1, by omega⟩
          have hml : m < (lt s).length := by omega
          have hcm := hrow.cell m (by omega)
          have hgm : (lt s).getD m 0 = (M.trail ((lt s).take (m + 1))).1 := by rw [M.trail_last _ m hml]; simp [List.getD, hml]
          simp only [hgm] at hcm
          by_cases he : (lt s)[m + 1] = (M.trail ((lt s).take (m + 1))).1
          · have HE : Hid (M.dsGo (lt s) 0 [] (0, 0) = (out, ((m + 1 : Nat) : Int))) := hat.bad hkl h5 he
            have hq : ((s[m + 1].toNat : Int) == ((M.trail ((lt s).take (m + 1))).1 : Int)) = true := by rw [← he, hlk]; simp
            have hcv := fun q => conv_own (hown.drewN q) (isL_lt hat.all)
            clear hat h5 he hlk HD hgk hgm hrow0
            generalize (M.trail ((lt s).take (m + 1))).1 = y at *
            go_wp2_with (go_at_call 38; refine (due_any _ w.heap.size s.size cap _ _ hrow hk (by omega)).mono ?_; rw [HD'.out]; rintro e w2 ⟨rfl, q, rfl⟩)
            go_quiet (fail)
            go_wp2
            go_ret2
            exact ⟨ret_tup (by rw [HZ.out, HE.out]; rfl), HF.out _ (below_drewN hbel _)⟩
          · have hat' := hat.skip hkl h5 he
            have hq : ((s[m + 1].toNat : Int) == ((M.trail ((lt s).take (m + 1))).1 : Int)) = false := by rw [← hlk]; simp; omega
            clear hat h5 he hlk HD hgk hgm
            generalize (M.trail ((lt s).take (m + 1))).1 = y at *
            go_wp2_with (go_at_call 38; refine (due_any _ w.heap.size s.size cap _ _ hrow hk (by omega)).mono ?_; rw [HD'.out]; rintro e w2 ⟨rfl, q, rfl⟩)
            go_quiet (fail)
            go_wp2
            go_roundw
            case rel => exact ⟨m + 1 + 1, out, by omega, by go_num, hat', hown.drewN _, below_drewN hbel _, by simpa using hz⟩
            case measure => simp [intOf]; omega
        · have HD' : Hid (dueF (fun t => (lt s).getD t 0) k = false) := by rw [HD.out]; exact decide_eq_false h5
          have hat' := hat.put hkl h5 (by rw [hlk]; exact hv)
          rw [hlk] at hat'
          clear hat h5 hlk HD hgk
          go_wp2_with (first | (go_at_call 38; refine (due_any _ w.heap.size s.size cap _ _ hrow hk (by omega)).mono ?_; rw [HD'.out]; rintro e w2 ⟨rfl, q, rfl⟩) | (at_builtin; refine app_byte wA (wr.drewN q) rfl (.tmp 23) (.tmp 28) rfl (w.heap.size + 1) _ out s[k].toNat _ rfl rfl (hown.drewN q) rfl (by omega) (by simpa using hz) (below_drewN hbel q) ?_))
          intro v3 w3 hown3 hbel3 hz3
          clear hown hbel hz hrow hc
          go_wp2
          go_roundw
          case rel => exact ⟨k + 1, _, by omega, by go_num, hat', hown3, hbel3, hz3⟩
          case measure => simp [intOf]; omega
      · have HE : Hid (M.dsGo (lt s) 0 [] (0, 0) = (out, -1)) := hat.fin (by rw [lt_length]; omega)
        have hcv := conv_own hown (isL_lt hat.all)
        clear hat
        go_wp2
        go_ret2
        exact ⟨ret_tup (by rw [HZ.out, HE.out]), HF.out _ hbel⟩

theorem specDestuff_any (s : ByteArray) (w : World) (hs : s.size ≤ maxLen) :
    Calls Try.prog 19 #[.string s] w fun e w' => e = .returned (.tuple #[.string (destZ s).1, .int .i64 (destZ s).2]) ∧ Below w.heap.size w w' := by
  by_cases hk : okT s 4000 = true
  · exact specDestuff_ok s w hs hk
  · have hk' : okT s 4000 = false := by simpa using hk
    have HZ : Hid (destZ s = (⟨#[]⟩, -2)) := by simp [destZ, hk', Hid]
    clear hk
    go_enter Try.func19, Try.ntmps19
    go_wp2_with (go_at_call 25; refine (okBits_any _ _ _ hs).mono ?_; rintro e w1 ⟨rfl, rfl⟩)
    go_ret2
    exact ⟨ret_tup HZ.out.symm, Below.refl _ _⟩

end Go.Proofs.Ytcenoecjihcjjaa
