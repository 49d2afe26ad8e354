import Derived.Test.YtjmlalojfghkiaaDoorR14
import Derived.Test.YtjmlalojfghkiaaDoorR00
import Derived.Lib.OthersKept
import Derived.Laws.IdiomStrings
namespace Go.Proofs.YtjmlalojfghkiaaDoor.J
open Go.RowKit
theorem ret_str {a b : ByteArray} (h : a = b) : Ending.returned (.string a) = .returned (.string b) := by rw [h]
/-- the letters of a text, as numbers -/
def lt (s : ByteArray) : List Nat := s.data.toList.map UInt8.toNat
/-- the text of letters -/
def strN (l : List Nat) : ByteArray := ⟨(l.map UInt8.ofNat).toArray⟩
theorem lt_length (s : ByteArray) : (lt s).length = s.size := by simp [lt]
theorem lt_snoc (s : ByteArray) (k : Nat) (h : k < s.size) : (lt s).take (k + 1) = (lt s).take k ++ [s[k].toNat] := by
  unfold lt; rw [← List.map_take, take_snoc s k h]; simp [List.map_take]
theorem lt_isL {s : ByteArray} {m : Int} (h : okT s m = true) : ∀ x ∈ lt s, M.isL x := by
  intro x hx
  unfold okT at h; rw [Bool.and_eq_true] at h
  unfold lt at hx
  rw [List.mem_map] at hx
  obtain ⟨c, hc, rfl⟩ := hx
  exact okC_val (List.all_eq_true.1 h.2 c hc)
theorem isL_lt {l : List Nat} (h : ∀ x ∈ l, M.isL x) : ∀ x ∈ l, x < 256 := by
  intro x hx
  rcases h x hx with rfl | rfl <;> decide
theorem strN_lt (s : ByteArray) : strN (lt s) = s := by
  unfold strN lt
  rw [List.map_map]
  have : (UInt8.ofNat ∘ UInt8.toNat) = id := by funext c; simp
  rw [this]; simp
theorem conv_own {w : World} {B : Nat} {v : Value} {l : List Nat} (h : ownsB w B v l) (hl : ∀ x ∈ l, x < 256) : (convert 23 9 v).run Tryd.prog w = .ok (.string (strN l)) w := by
  have h' := h
  obtain ⟨_, ⟨rfl, h1⟩ | ⟨g, cap, cur, rfl, hb, hh, hc, hm, hsz, htk⟩⟩ := h
  · have : l = [] := List.length_eq_zero_iff.1 h1
    subst this
    rw [run_convert_bytes_string w 23 9 5 none 0 0 Tryd.underlying23 Tryd.underlying5 Tryd.underlying9]
    rfl
  · have := run_convert_bytes_back (P := Tryd.prog) w 23 9 5 ⟨g, 0, none⟩ cap (l.map UInt8.ofNat) Tryd.underlying23 Tryd.underlying5 Tryd.underlying9 (by
      intro j hj
      have hj' : j < l.length := by simpa using hj
      have hc := World.ownsRow.cellAt h' j (by omega)
      rw [bv_at l j hj'] at hc
      have hx := hl l[j] (List.getElem_mem hj')
      have e : (UInt8.ofNat l[j]).toNat = l[j] := by simp; omega
      have e2 : (⟨g, 0, none⟩ : Addr).add j = ⟨g, j, none⟩ := by simp only [Addr.add]; split <;> simp_all
      rw [e2, List.getElem_map, e]
      exact hc)
    rw [List.length_map] at this
    exact this
theorem getD_snoc_lt (l : List Nat) (a j : Nat) (h : j < l.length) : (l ++ [a]).getD j 0 = l.getD j 0 := by simp [List.getD, List.getElem?_append_left h]
theorem getD_snoc_eq (l : List Nat) (a j : Nat) (h : j = l.length) : (l ++ [a]).getD j 0 = a := by subst h; simp [List.getD]
theorem due_trail (l : List Nat) : dueF (fun t => l.getD t 0) l.length = decide (5 ≤ (M.trail l).2) := by
  by_cases h5 : 5 ≤ l.length
  · have ne : ∀ l : List Nat, 1 ≤ l.length → l ≠ [] := by intro l h e; simp [e] at h
    obtain ⟨l1, e, rfl⟩ := M.snoc_cases l (ne _ (by omega))
    simp only [List.length_append, List.length_singleton] at h5
    obtain ⟨l2, d, rfl⟩ := M.snoc_cases l1 (ne _ (by omega))
    simp only [List.length_append, List.length_singleton] at h5
    obtain ⟨l3, c, rfl⟩ := M.snoc_cases l2 (ne _ (by omega))
    simp only [List.length_append, List.length_singleton] at h5
    obtain ⟨l4, b, rfl⟩ := M.snoc_cases l3 (ne _ (by omega))
    simp only [List.length_append, List.length_singleton] at h5
    obtain ⟨l5, a, rfl⟩ := M.snoc_cases l4 (ne _ (by omega))
    rw [Bool.eq_iff_iff, decide_eq_true_iff, M.trail5]
    simp only [dueF, List.length_append, List.length_singleton]
    have g1 : (l5 ++ [a] ++ [b] ++ [c] ++ [d] ++ [e]).getD (l5.length + 1 + 1 + 1 + 1 + 1 - 1) 0 = e := getD_snoc_eq _ _ _ (by simp)
    have g2 : (l5 ++ [a] ++ [b] ++ [c] ++ [d] ++ [e]).getD (l5.length + 1 + 1 + 1 + 1 + 1 - 2) 0 = d := by
      rw [getD_snoc_lt _ _ _ (by simp)]; exact getD_snoc_eq _ _ _ (by simp)
    have g3 : (l5 ++ [a] ++ [b] ++ [c] ++ [d] ++ [e]).getD (l5.length + 1 + 1 + 1 + 1 + 1 - 3) 0 = c := by
      rw [getD_snoc_lt _ _ _ (by simp), getD_snoc_lt _ _ _ (by simp)]; exact getD_snoc_eq _ _ _ (by simp)
    have g4 : (l5 ++ [a] ++ [b] ++ [c] ++ [d] ++ [e]).getD (l5.length + 1 + 1 + 1 + 1 + 1 - 4) 0 = b := by
      rw [getD_snoc_lt _ _ _ (by simp), getD_snoc_lt _ _ _ (by simp), getD_snoc_lt _ _ _ (by simp)]; exact getD_snoc_eq _ _ _ (by simp)
    have g5 : (l5 ++ [a] ++ [b] ++ [c] ++ [d] ++ [e]).getD (l5.length + 1 + 1 + 1 + 1 + 1 - 5) 0 = a := by
      rw [getD_snoc_lt _ _ _ (by simp), getD_snoc_lt _ _ _ (by simp), getD_snoc_lt _ _ _ (by simp), getD_snoc_lt _ _ _ (by simp)]; exact getD_snoc_eq _ _ _ (by simp)
    rw [g1, g2, g3, g4, g5]
    simp [and_assoc]
  · have := M.trail_le l
    rw [Bool.eq_iff_iff, decide_eq_true_iff]
    simp [dueF]; omega
theorem other_any (c : Nat) (w : World) (h : M.isL c) :
    Calls Tryd.prog 65 #[.int .u8 c] w fun e w' => e = .returned (.int .u8 ((97 - c : Nat) : Int)) ∧ w = w' := by
  rcases h with rfl | rfl
  · go_enter Tryd.func65, Tryd.ntmps65
    go_wp2
    go_ret
    exact ⟨rfl, rfl⟩
  · go_enter Tryd.func65, Tryd.ntmps65
    go_wp2
    go_ret
    exact ⟨rfl, rfl⟩
theorem ownsB.drewN {w : World} {B : Nat} {v : Value} {l : List Nat} (h : ownsB w B v l) (q : Nat) : ownsB (w.drewN q) B v l := by
  induction q generalizing w with
  | zero => exact h
  | succ q ih => exact ih (World.ownsRow.drew h)
/-- what Stuff answers -/
def stuffZ (s : ByteArray) : ByteArray := if okT s 2000 = true then strN (M.stuffL (lt s)) else ⟨#[]⟩
theorem stStep_due {l : List Nat} {c : Nat} (hr : (M.trail l).2 ≤ 4) : decide (5 ≤ (M.trail (l ++ [c])).2) = decide ((M.trail (l ++ [c])).2 = 5) := by
  have := M.hear_le (M.trail l) c
  rw [M.trail_snoc]
  rw [Bool.eq_iff_iff]; simp; omega
set_option maxHeartbeats 1000000 in
theorem specStuff_ok (s : ByteArray) (w : World) (hs : s.size ≤ maxLen) (hk : okT s 2000 = true) :
    Calls Tryd.prog 62 #[.string s] w fun e w' => e = .returned (.string (stuffZ s)) ∧ Below w.heap.size w w' := by
    have hsz := okT_size hk
    go_enter Tryd.func62, Tryd.ntmps62
    go_wp2_with (go_at_call 69; refine (okBits_any _ _ _ hs).mono ?_; rintro e w1 ⟨rfl, rfl⟩)
    have HK : Hid (okT s 2000 = true) := hk
    clear hk
    go_loopw [3, 4] (fun v i wr => ∃ k : Nat, k ≤ s.size ∧ i = .int .i64 k ∧ ownsB wr w.heap.size v (M.stuffL ((lt s).take k)) ∧ Below w.heap.size w wr ∧ w.heap.size ≤ wr.heap.size) (fun _ i _ => s.size - (intOf i).toNat)
    case atStart => exact ⟨0, Nat.zero_le _, rfl, own_nil _ _ (Nat.le_refl _), (Below.refl _ _).alloc (Nat.le_refl _) _, by simp⟩
    case round =>
      obtain ⟨k, hk, rfl, hown, hbel, hz⟩ := hrel
      by_cases hlt : k < s.size
      · have hv : M.isL s[k].toNat := okT_at HK.out k hlt
        have hL : ∀ x ∈ (lt s).take k, M.isL x := fun x hx => lt_isL HK.out x (List.mem_of_mem_take hx)
        have hrun := M.stuff_run _ hL
        have hll : (M.stuffL ((lt s).take k)).length ≤ 4000 := by
          have := M.stuff_len ((lt s).take k)
          rw [List.length_take, lt_length] at this
          omega
        have HS : Hid (M.stuffL ((lt s).take (k + 1)) = M.stStep (M.stuffL ((lt s).take k)) s[k].toNat) := by rw [lt_snoc s k hlt, M.stuffL_snoc]; exact rfl
        clear hL
        generalize M.stuffL ((lt s).take k) = l at *
        go_wp2_with (at_builtin; refine app_byte w wr rfl (.tmp 15) (.tmp 19) rfl w.heap.size _ l s[k].toNat _ rfl rfl hown rfl (by omega) hz hbel ?_)
        intro v1 w1 hown1 hbel1 hz1
        clear hown hbel hz
        obtain ⟨g, cap, hv1, hgB, hgz, hcap, hcm, hrow⟩ := hown1.open (by simp)
        subst hv1
        have hdt := due_trail (l ++ [s[k].toNat])
        rw [stStep_due hrun] at hdt
        have hle : (l ++ [s[k].toNat]).length ≤ 4001 := by simp; omega
        unfold M.stStep at HS
        generalize hl1 : l ++ [s[k].toNat] = l1 at *
        have HD : Hid (dueF (fun t => l1.getD t 0) l1.length = decide ((M.trail l1).2 = 5)) := hdt
        clear hdt hl1
        by_cases h5 : (M.trail l1).2 = 5
        · rw [if_pos h5] at HS
          have HD' : Hid (dueF (fun t => l1.getD t 0) l1.length = true) := by rw [HD.out, h5]; exact rfl
          clear HD h5 hrun
          go_wp2_with (go_at_call 71; refine (due_any _ g l1.length cap l1.length _ hrow (Nat.le_refl _) (by omega)).mono ?_; rw [HD'.out]; rintro e w2 ⟨rfl, q, rfl⟩)
          have hown2 := hown1.drewN q
          have hbel2 := below_drewN hbel1 q
          have hz2 : w.heap.size ≤ (w1.drewN q).heap.size := by simpa using hz1
          refine (other_any _ _ hv).mono ?_
          rintro e w2 ⟨rfl, rfl⟩
          clear hown1 hbel1 hz1 hrow
          go_wp2_with (at_builtin; refine app_byte w (w1.drewN q) rfl (.tmp 25) (.tmp 30) rfl w.heap.size _ l1 (97 - s[k].toNat) _ rfl rfl hown2 rfl (by omega) hz2 hbel2 ?_)
          intro v3 w3 hown3 hbel3 hz3
          clear hown2 hbel2 hz2
          go_wp2
          go_roundw
          case rel => exact ⟨k + 1, by omega, by go_num, by rw [HS.out]; exact hown3, hbel3, hz3⟩
          case measure => simp [intOf]; omega
        · rw [if_neg h5] at HS
          have HD' : Hid (dueF (fun t => l1.getD t 0) l1.length = false) := by rw [HD.out]; exact decide_eq_false h5
          clear HD h5 hrun
          go_wp2_with (go_at_call 71; refine (due_any _ g l1.length cap l1.length _ hrow (Nat.le_refl _) (by omega)).mono ?_; rw [HD'.out]; rintro e w2 ⟨rfl, q, rfl⟩)
          go_roundw
          case rel => exact ⟨k + 1, by omega, by go_num, by rw [HS.out]; exact hown1.drewN q, below_drewN hbel1 q, by simpa using hz1⟩
          case measure => simp [intOf]; omega
      · have hke : (lt s).take k = lt s := List.take_of_length_le (by rw [lt_length]; omega)
        rw [hke] at hown
        have hcv := conv_own hown (isL_lt (M.stuff_all _ (lt_isL HK.out)))
        have HZ : Hid (stuffZ s = strN (M.stuffL (lt s))) := by simp [stuffZ, HK.out, Hid]
        generalize M.stuffL (lt s) = l at *
        clear hke
        go_wp2
        go_ret
        exact ⟨ret_str HZ.out.symm, hbel⟩
theorem specStuff_any (s : ByteArray) (w : World) (hs : s.size ≤ maxLen) :
    Calls Tryd.prog 62 #[.string s] w fun e w' => e = .returned (.string (stuffZ s)) ∧ Below w.heap.size w w' := by
  by_cases hk : okT s 2000 = true
  · exact specStuff_ok s w hs hk
  · have hk' : okT s 2000 = false := by simpa using hk
    have HZ : Hid (stuffZ s = ⟨#[]⟩) := by simp [stuffZ, hk', Hid]
    clear hk
    go_enter Tryd.func62, Tryd.ntmps62
    go_wp2_with (go_at_call 69; refine (okBits_any _ _ _ hs).mono ?_; rintro e w1 ⟨rfl, rfl⟩)
    go_ret
    exact ⟨ret_str HZ.out.symm, Below.refl _ _⟩
theorem ownsB.kind {w : World} {B : Nat} {v : Value} {l : List Nat} (h : ownsB w B v l) : ∀ g, v.ownBlock = some g → ∃ c fz, w.heap[g]? = some (.cells c 5 fz) := by
  intro g hg
  obtain ⟨_, ⟨rfl, _⟩ | ⟨g', cap, cur, rfl, _, hh, _⟩⟩ := h
  · simp [Value.ownBlock] at hg
  · simp [Value.ownBlock] at hg
    subst hg
    exact ⟨cur, _, hh⟩
/-- one letter put behind a row of letters that the call itself made; all other blocks stand -/
theorem app_byte2 {ops : Array Oper} {rest : List Oper} {o : Oper} {a : Act} {Q : Exit → Act → World → Prop} (w0 wr : World) (hgd : o.guard = none) (s x : Operand)
    (ho : o.op = .call { callee := .builtin .append, args := #[s, x], argTypes := #[23, 23] })
    (B : Nat) (v : Value) (l : List Nat) (c : Nat) (ci : Int) (hci : ci = (c : Int)) (hs : a.eval s = v) (hown : ownsB wr B v l)
    (hx : a.eval x = .slice (some ⟨wr.heap.size, 0, none⟩) 1 1) (hlen : l.length ≤ 100000000) (hB : B ≤ wr.heap.size) (hbel : Below B w0 wr)
    (h : ∀ v' w', ownsB w' B v' (l ++ [c]) → Below B w0 w' → Lib.OthersKept 5 none wr w' → wpList Tryd.prog ops Q rest (a.put o.dst v') w') :
    wpList Tryd.prog ops Q (o :: rest) a (wr.alloc (.cells #[.int .u8 ci] 5)) := by
  subst hci
  obtain ⟨i0, hi, hz0, hz1, hz2⟩ := info_parts Tryd.info5
  refine wpList_append_own _ hgd s x 23 ho B 5 i0 (.int .u8 0) 1 1 Tryd.underlying23 hi hz0 hz1 hz2 rfl (by decide) v l.length (bv l) hs (World.ownsRow.alloc hown _) ⟨wr.heap.size, 0, none⟩ 1 1 [.int .u8 (c : Int)] hx rfl ?_ ?_ ?_ ?_ ?_ ?_
  · intro j u hj
    match j, hj with
    | 0, hj => simp at hj; subst hj; simp [Addr.add]
  · intro u hu; simp at hu; subst hu; rfl
  · unfold maxLen; omega
  · omega
  · simp; omega
  · intro v' w' ho' hg _
    have hr : ∀ k, v.ownBlock = some k → B ≤ k := fun k hk => (World.ownsRow.lt hown k hk).1
    refine h v' w' ?_ ((hbel.alloc hB _).grown hg (by simp; omega) hr) (((Lib.OthersKept.refl 5 none wr).alloc _).grown hg ?_)
    · have e1 : bv (l ++ [c]) = bv l ++ [.int .u8 (c : Int)] := by simp [bv]
      unfold ownsB
      rw [e1, List.length_append]
      exact ho'
    · intro g hg'
      exact ownsB.kind (B := B) (l := l) (World.ownsRow.alloc hown _) g hg'
/-- the two cells of a run -/
def runAt (w : World) (b : Nat) (r : Nat × Nat) : Prop := w.heap[b]? = some (.cells #[.int .i32 (r.1 : Int), .int .i64 (r.2 : Int)] 65 (0, 0))
theorem runAt.c0 {w : World} {b : Nat} {r : Nat × Nat} (h : runAt w b r) : w.cell? ⟨b, 0, none⟩ = some (.int .i32 (r.1 : Int)) := by unfold runAt at h; simp [World.cell?, h]
theorem runAt.c1 {w : World} {b : Nat} {r : Nat × Nat} (h : runAt w b r) : w.cell? ⟨b, 1, none⟩ = some (.int .i64 (r.2 : Int)) := by unfold runAt at h; simp [World.cell?, h]
theorem runAt.f0 {w : World} {b : Nat} {r : Nat × Nat} (h : runAt w b r) (i : Nat) : w.frozen? ⟨b, i, none⟩ = false := by unfold runAt at h; simp [World.frozen?, h]
theorem gb_refl (w : World) (b : Option Nat) : w.grownBy w b := ⟨rfl, rfl, rfl, Nat.le_refl _, fun _ _ _ => rfl⟩
theorem gb_set {w w1 : World} {b : Nat} (h : w.grownBy w1 (some b)) (i : Nat) (v : Value) : w.grownBy (w1.setCell ⟨b, i, none⟩ v) (some b) :=
  ⟨h.os, h.tape, h.output, by simpa using h.size, fun k hk hne => (heap_setCell_other w1 ⟨b, i, none⟩ k v (fun e => hne (by simp [e]))).trans (h.block k hk hne)⟩
theorem full_any (w : World) (b : Nat) (r : Nat × Nat) (h : runAt w b r) :
    Calls Tryd.prog 68 #[.pointer (some ⟨b, 0, none⟩)] w fun e w' => e = .returned (.bool (decide (r.2 = 5))) ∧ w = w' := by
  have c1 := h.c1
  have hb : ((r.2 : Int) == 5) = decide (r.2 = 5) := by rw [Bool.eq_iff_iff]; simp; omega
  go_enter Tryd.func68, Tryd.ntmps68
  go_wp2
  go_ret
  exact ⟨rfl, rfl⟩
theorem hear_any (w : World) (b : Nat) (r : Nat × Nat) (c : Nat) (h : runAt w b r) (hr : r.2 ≤ 100000) :
    Calls Tryd.prog 84 #[.pointer (some ⟨b, 0, none⟩), .int .i32 c] w fun e w' => e = .returned (.tuple #[]) ∧ runAt w' b (M.hear r c) ∧ w.grownBy w' (some b) := by
  have c0 := h.c0
  have c1 := h.c1
  have f0 := h.f0 0
  have f1 := h.f0 1
  by_cases hc : c = r.1
  · have hb : ((c : Int) != (r.1 : Int)) = false := by simp; omega
    go_enter Tryd.func84, Tryd.ntmps84
    go_wp2
    go_end0
    refine ⟨rfl, ?_, gb_set (gb_refl _ _) _ _⟩
    have h1 := heap_setCell_same w b 1 _ _ (Value.int IntKind.i64 ((r.2 : Int) + 1)) h
    unfold runAt
    rw [h1, M.hear, if_pos hc]
    simp
  · have hb : ((c : Int) != (r.1 : Int)) = true := by simp; omega
    go_enter Tryd.func84, Tryd.ntmps84
    go_wp2
    go_end0
    refine ⟨rfl, ?_, gb_set (gb_set (gb_set (gb_refl _ _) _ _) _ _) _ _⟩
    have h1 := heap_setCell_same w b 0 _ _ (Value.int IntKind.i32 (c : Int)) h
    have h2 := heap_setCell_same _ b 1 _ _ (Value.int IntKind.i64 0) h1
    have h3 := heap_setCell_same _ b 1 _ _ (Value.int IntKind.i64 1) h2
    unfold runAt
    rw [h3, M.hear, if_neg hc]
    simp
/-- what stands in the world of impl.Stuff's and impl.Destuff's loop: the letters put out, the run, the iterator -/
structure stI (w0 : World) (B b1 b2 : Nat) (s : ByteArray) (k : Nat) (v : Value) (l : List Nat) (r : Nat × Nat) (w : World) : Prop where
  own : ownsB w B v l
  run : runAt w b1 r
  it : w.heap[b2]? = some (.stringIter s k)
  bel : Below B w0 w
  B1 : B ≤ b1
  B2 : B ≤ b2
theorem stI.size {w0 : World} {B b1 b2 : Nat} {s : ByteArray} {k : Nat} {v : Value} {l : List Nat} {r : Nat × Nat} {w : World} (h : stI w0 B b1 b2 s k v l r w) : B ≤ w.heap.size :=
  Nat.le_of_lt (Nat.lt_of_le_of_lt h.B1 (lt_of_block h.run))
theorem stI.ne {w0 : World} {B b1 b2 : Nat} {s : ByteArray} {k : Nat} {v : Value} {l : List Nat} {r : Nat × Nat} {w : World} (h : stI w0 B b1 b2 s k v l r w) : b1 ≠ b2 := by
  intro e
  have h1 := h.run
  have h2 := h.it
  rw [← e, h1] at h2
  cases h2
theorem ownsB.otherBlock {w w' : World} {B : Nat} {v : Value} {l : List Nat} (h : ownsB w B v l) (hk : ∀ g, v.ownBlock = some g → w'.heap[g]? = w.heap[g]?) : ownsB w' B v l := by
  obtain ⟨h1, h2 | ⟨g, cap, cur, rfl, hb, hh, rest⟩⟩ := h
  · exact ⟨h1, .inl h2⟩
  · exact ⟨h1, .inr ⟨g, cap, cur, rfl, hb, (hk g rfl).trans hh, rest⟩⟩
theorem stI.next {w0 : World} {B b1 b2 : Nat} {s : ByteArray} {k : Nat} {v : Value} {l : List Nat} {r : Nat × Nat} {w : World} (h : stI w0 B b1 b2 s k v l r w) (k' : Nat) : stI w0 B b1 b2 s k' v l r (w.iterAt b2 s k') := by
  refine ⟨h.own.otherBlock (fun g hg => ?_), (Lib.iterAt_other w b2 b1 s k' h.ne).trans h.run, Lib.iterAt_heap w b2 s k k' h.it, Lib.below_iterAt h.bel h.B2 s k', h.B1, h.B2⟩
  obtain ⟨c, fz, hc⟩ := h.own.kind g hg
  refine Lib.iterAt_other w b2 g s k' (fun e => ?_)
  rw [e, h.it] at hc
  cases hc
theorem stI.hear {w0 : World} {B b1 b2 : Nat} {s : ByteArray} {k : Nat} {v : Value} {l : List Nat} {r r' : Nat × Nat} {w w' : World} (h : stI w0 B b1 b2 s k v l r w) (hr : runAt w' b1 r') (hg : w.grownBy w' (some b1)) : stI w0 B b1 b2 s k v l r' w' := by
  refine ⟨h.own.otherBlock (fun g hgv => ?_), hr, ?_, h.bel.grown hg h.size (fun k e => by cases e; exact h.B1), h.B1, h.B2⟩
  · obtain ⟨c, fz, hc⟩ := h.own.kind g hgv
    refine hg.block g (lt_of_block hc) (fun e => ?_)
    cases e
    rw [h.run] at hc
    cases hc
  · rw [hg.block b2 (lt_of_block h.it) (fun e => h.ne (by cases e; rfl))]
    exact h.it
theorem stI.app {w0 : World} {B b1 b2 : Nat} {s : ByteArray} {k : Nat} {v v' : Value} {l l' : List Nat} {r : Nat × Nat} {w w' : World} (h : stI w0 B b1 b2 s k v l r w) (ho : ownsB w' B v' l') (hb : Below B w0 w') (hk : Lib.OthersKept 5 none w w') : stI w0 B b1 b2 s k v' l' r w' :=
  ⟨ho, hk _ _ h.run (by simp) (by intro c fz e; cases e), hk _ _ h.it (by simp) (by intro c fz e; cases e), hb, h.B1, h.B2⟩
theorem make_bytes {ops : Array Oper} {rest : List Oper} {o : Oper} {a : Act} {Q : Exit → Act → World → Prop} (w : World)
    (hg : o.guard = none) (l c : Operand) (hop : o.op = Op.makeSlice 23 l c) (B : Nat) (C : Int) (n : Nat) (hl : a.eval l = .int .i64 0) (hc : a.eval c = .int .i64 C) (hC : C = (n : Int)) (hn : n ≤ 100000000) (hB : B ≤ w.heap.size)
    (hK : ∀ w', ownsB w' B (.slice (some ⟨w.heap.size, 0, none⟩) 0 n) [] → w.grownBy w' none → wpList Tryd.prog ops Q rest (a.put o.dst (.slice (some ⟨w.heap.size, 0, none⟩) 0 n)) w') :
    wpList Tryd.prog ops Q (o :: rest) a w := by
  obtain ⟨i0, hi, hz0, hz1, hz2⟩ := info_parts Tryd.info5
  exact wpList_make_own w hg l c 23 hop B 5 i0 (.int .u8 0) 1 Tryd.underlying23 hi hz0 hz1 .i64 .i64 C n hl hc hC (by rw [hz2]; omega) (by unfold maxLen; omega) hB hK
namespace M
/-- the way back from letters: what is left, the place, what is put out, the run -/
def dsGo : List Nat → Nat → List Nat → Nat × Nat → List Nat × Int
  | [], _, out, _ => (out, -1)
  | c :: rest, i, out, r => if r.2 = 5 ∧ c = r.1 then (out, (i : Int)) else dsGo rest (i + 1) (if r.2 = 5 then out else out ++ [c]) (hear r c)
theorem dsGo_bad (c : Nat) (rest : List Nat) (i : Nat) (out : List Nat) (r : Nat × Nat) (h : r.2 = 5) (hc : c = r.1) : dsGo (c :: rest) i out r = (out, (i : Int)) := by
  rw [dsGo, if_pos ⟨h, hc⟩]
theorem dsGo_skip (c : Nat) (rest : List Nat) (i : Nat) (out : List Nat) (r : Nat × Nat) (h : r.2 = 5) (hc : ¬ c = r.1) : dsGo (c :: rest) i out r = dsGo rest (i + 1) out (hear r c) := by
  rw [dsGo, if_neg (fun e => hc e.2), if_pos h]
theorem dsGo_put (c : Nat) (rest : List Nat) (i : Nat) (out : List Nat) (r : Nat × Nat) (h : ¬ r.2 = 5) : dsGo (c :: rest) i out r = dsGo rest (i + 1) (out ++ [c]) (hear r c) := by
  rw [dsGo, if_neg (fun e => h e.1), if_neg h]
/-- where the way back stands behind k letters -/
structure dsAt (l : List Nat) (k : Nat) (out : List Nat) : Prop where
  eq : dsGo (l.drop k) k out (trail (l.take k)) = dsGo l 0 [] (0, 0)
  len : out.length ≤ k
  all : ∀ x ∈ out, isL x
  run : (trail (l.take k)).2 ≤ 5
theorem dsAt.zero (l : List Nat) : dsAt l 0 [] := ⟨rfl, Nat.le_refl _, (fun x hx => by cases hx), (by exact (by decide : 0 ≤ 5))⟩
theorem drop_at (l : List Nat) (k : Nat) (h : k < l.length) : l.drop k = l[k] :: l.drop (k + 1) := List.drop_eq_getElem_cons h
theorem take_at (l : List Nat) (k : Nat) (h : k < l.length) : l.take (k + 1) = l.take k ++ [l[k]] := List.take_succ_eq_append_getElem h
theorem dsAt.bad {l : List Nat} {k : Nat} {out : List Nat} (h : dsAt l k out) (hk : k < l.length) (h5 : (trail (l.take k)).2 = 5) (hc : l[k] = (trail (l.take k)).1) : dsGo l 0 [] (0, 0) = (out, (k : Int)) := by
  rw [← h.eq, drop_at l k hk, dsGo_bad _ _ _ _ _ h5 hc]
theorem dsAt.skip {l : List Nat} {k : Nat} {out : List Nat} (h : dsAt l k out) (hk : k < l.length) (h5 : (trail (l.take k)).2 = 5) (hc : ¬ l[k] = (trail (l.take k)).1) : dsAt l (k + 1) out := by
  refine ⟨?_, Nat.le_succ_of_le h.len, h.all, ?_⟩
  · rw [← h.eq, drop_at l k hk, dsGo_skip _ _ _ _ _ h5 hc, take_at l k hk, trail_snoc]
  · rw [take_at l k hk, trail_snoc, hear, if_neg hc]; exact (by decide : 1 ≤ 5)
theorem dsAt.put {l : List Nat} {k : Nat} {out : List Nat} (h : dsAt l k out) (hk : k < l.length) (h5 : ¬ (trail (l.take k)).2 = 5) (hl : isL l[k]) : dsAt l (k + 1) (out ++ [l[k]]) := by
  refine ⟨?_, by simpa using h.len, ?_, ?_⟩
  · rw [← h.eq, drop_at l k hk, dsGo_put _ _ _ _ _ h5, take_at l k hk, trail_snoc]
  · intro x hx
    simp at hx
    rcases hx with hx | rfl
    · exact h.all x hx
    · exact hl
  · rw [take_at l k hk, trail_snoc]
    have := h.run
    exact Nat.le_trans (hear_le _ _) (by omega)
theorem dsAt.fin {l : List Nat} {k : Nat} {out : List Nat} (h : dsAt l k out) (hk : l.length ≤ k) : dsGo l 0 [] (0, 0) = (out, -1) := by
  rw [← h.eq, List.drop_eq_nil_of_le hk]; rfl
/-- the letter of the run is the letter before -/
theorem trail_last (l : List Nat) (k : Nat) (h : k < l.length) : (trail (l.take (k + 1))).1 = l[k] := by
  rw [take_at l k h, trail_snoc, hear_fst]
end M
theorem ret_tup {a b : ByteArray} {x y : Int} (h : (a, x) = (b, y)) : Ending.returned (.tuple #[.string a, .int .i64 x]) = .returned (.tuple #[.string b, .int .i64 y]) := by cases h; rfl
/-- what Destuff answers -/
def destZ (s : ByteArray) : ByteArray × Int := if okT s 4000 = true then (strN (M.dsGo (lt s) 0 [] (0, 0)).1, (M.dsGo (lt s) 0 [] (0, 0)).2) else (⟨#[]⟩, -2)
theorem lt_at (s : ByteArray) (k : Nat) (h : k < s.size) (h' : k < (lt s).length) : (lt s)[k] = s[k].toNat := by simp only [lt, List.getElem_map]; rfl
theorem rowB.below {B : Nat} {w w' : World} {g n : Nat} {f : Nat → Nat} (h : rowB w g n f) (hb : Below B w w') (hg : g < B) : rowB w' g n f :=
  ⟨fun t ht => (hb.cell (by exact hg)).trans (h.cell t ht), fun t ht => (hb.frozen (by exact hg)).trans (h.free t ht)⟩
theorem bytesRow_at (s : ByteArray) (cap t : Nat) (h : t < s.size) : (bytesRow s cap)[t]? = some (.int .u8 ((lt s).getD t 0 : Int)) := by
  have hd : t < s.data.size := h
  unfold bytesRow
  rw [Array.getElem?_append_left (by simpa using hd)]
  simp only [lt, List.getD, List.getElem?_map, Array.getElem?_map, Array.getElem?_toList]
  rw [Array.getElem?_eq_getElem hd]
  rfl
theorem rowB_bytes (w : World) (s : ByteArray) (cap : Nat) : rowB (w.alloc (.cells (bytesRow s cap) 5 ((bytesRow s cap).size, (bytesRow s cap).size + 1))) w.heap.size s.size (fun t => (lt s).getD t 0) := by
  refine ⟨fun t ht => ?_, fun t ht => ?_⟩
  · rw [World.cell?_alloc_mark, bytesRow_at s cap t ht]
  · have h1 : (w.alloc (.cells (bytesRow s cap) 5 ((bytesRow s cap).size, (bytesRow s cap).size + 1))).heap[w.heap.size]? = _ := heap_alloc_new w _
    have h2 : s.size ≤ (bytesRow s cap).size := by unfold bytesRow; simp
    simp only [World.frozen?, h1]
    simp
    omega
theorem dueF_congr {f f' : Nat → Nat} {i : Nat} (h : ∀ t, t < i → f t = f' t) : dueF f i = dueF f' i := by
  unfold dueF
  by_cases h5 : 5 ≤ i
  · rw [h (i - 1) (by omega), h (i - 2) (by omega), h (i - 3) (by omega), h (i - 4) (by omega), h (i - 5) (by omega)]
  · simp [h5]
theorem due_take (l : List Nat) (k : Nat) (hk : k ≤ l.length) (hr : (M.trail (l.take k)).2 ≤ 5) : dueF (fun t => l.getD t 0) k = decide ((M.trail (l.take k)).2 = 5) := by
  have h1 := due_trail (l.take k)
  rw [List.length_take, Nat.min_eq_left hk] at h1
  rw [dueF_congr (f' := fun t => (l.take k).getD t 0) (fun t ht => by simp [List.getD, ht]), h1]
  rw [Bool.eq_iff_iff]; simp; omega
end Go.Proofs.YtjmlalojfghkiaaDoor.J
