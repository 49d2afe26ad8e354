import Derived.Test.YtnefmdjodjpopaaAC
namespace Go.Proofs.Ytnefmdjodjpopaa
open Go.RowKit

/-- a source of choices in block b: the bytes, how many were taken, the state -/
def srcAt (W : World) (b : Nat) (a : Option Addr) (n cap : Nat) (i s : Nat) : Prop := W.heap[b]? = some (.cells #[.slice a n cap, .int .i64 (i : Int), .int .u64 (s : Int)] 101 (0, 0))
theorem srcAt.cells {W : World} {b : Nat} {a : Option Addr} {n cap i s : Nat} (h : srcAt W b a n cap i s) :
    W.cell? ⟨b, 0, none⟩ = some (.slice a n cap) ∧ W.cell? ⟨b, 1, none⟩ = some (.int .i64 (i : Int)) ∧ W.cell? ⟨b, 2, none⟩ = some (.int .u64 (s : Int)) ∧ W.frozen? ⟨b, 1, none⟩ = false ∧ W.frozen? ⟨b, 2, none⟩ = false := by
  unfold srcAt at h
  refine ⟨?_, ?_, ?_, ?_, ?_⟩ <;> simp [World.cell?, World.frozen?, h]

theorem u64_nat (z : Int) : ∃ s : Nat, IntKind.u64.wrap z = (s : Int) := ⟨(IntKind.u64.wrap z).toNat, by rw [IntKind.wrap_u64]; omega⟩
theorem srcRes (z : Int) (k : Nat) (hk : 1 < k) (hk2 : k ≤ 1000000000) : ∃ r : Nat, wrap64 ((IntKind.u64.wrap z / 8589934592).tmod (k : Int)) = (r : Int) ∧ r < k := by
  obtain ⟨s, hs⟩ : ∃ s : Nat, IntKind.u64.wrap z / 8589934592 = (s : Int) ∧ s < 2147483648 := ⟨(IntKind.u64.wrap z / 8589934592).toNat, by rw [IntKind.wrap_u64]; omega⟩
  refine ⟨s % k, ?_, Nat.mod_lt _ (by omega)⟩
  rw [hs.1]
  have h1 : ((s : Int)).tmod (k : Int) = ((s % k : Nat) : Int) := by
    rw [Int.tmod_eq_emod_of_nonneg (by omega)]; omega
  have h2 : s % k < k := Nat.mod_lt _ (by omega)
  rw [h1]
  generalize s % k = y at *
  unfold wrap64
  omega
theorem u64_toNat (z : Int) : IntKind.u64.wrap z = ((IntKind.u64.wrap z).toNat : Int) := by rw [IntKind.wrap_u64]; omega
theorem src_set {W : World} {b : Nat} {a : Option Addr} {n cap i s s' : Nat} {x y : Int} (q : Nat) (h : srcAt W b a n cap i s) (hx : x = ((i + 1 : Nat) : Int)) (hy : y = (s' : Int)) :
    srcAt (((W.drewN q).setCell ⟨b, 1, none⟩ (.int .i64 x)).setCell ⟨b, 2, none⟩ (.int .u64 y)) b a n cap (i + 1) s' ∧ W.grownBy (((W.drewN q).setCell ⟨b, 1, none⟩ (.int .i64 x)).setCell ⟨b, 2, none⟩ (.int .u64 y)) (some b) := by
  subst hx hy
  have h0 : (W.drewN q).heap[b]? = some (.cells #[.slice a n cap, .int .i64 (i : Int), .int .u64 (s : Int)] 101 (0, 0)) := h
  have h1 := heap_setCell_same _ b 1 _ _ (Value.int IntKind.i64 ((i + 1 : Nat) : Int)) h0
  have h2 := heap_setCell_same _ b 2 _ _ (Value.int IntKind.u64 (s' : Int)) h1
  have hg0 : W.grownBy (W.drewN q) (some b) := ⟨rfl, rfl, rfl, Nat.le_refl _, fun _ _ _ => rfl⟩
  refine ⟨?_, gb_set (gb_set hg0 1 _) 2 _⟩
  unfold srcAt
  rw [h2]
  simp

set_option maxHeartbeats 2000000 in
theorem srcN_any (w : World) (b : Nat) (a : Option Addr) (n cap i s : Nat) (l : List Nat) (k : Nat) (h : srcAt w b a n cap i s) (hy : isBytes w a n cap l) (hi : i ≤ 1000000000000) (hk : k ≤ 1000000000) :
    Calls Try.prog 75 #[.pointer (some ⟨b, 0, none⟩), .int .i64 (k : Int)] w fun o w' => ∃ r s' : Nat, o = .returned (.int .i64 (r : Int)) ∧ (k ≤ 1 → r = 0) ∧ (1 < k → r < k) ∧ srcAt w' b a n cap (i + 1) s' ∧ w.grownBy w' (some b) := by
  obtain ⟨c0, c1, c2, f1, f2⟩ := h.cells
  have HS : Hid (srcAt w b a n cap i s) := h
  clear h
  by_cases hin : i < n
  · have hl : l ≠ [] := by intro e; have := hy.len; rw [e] at this; simp at this; omega
    obtain ⟨g, off, rfl, hc⟩ := hy.cells hl
    have hil : i < l.length := by have := hy.len; omega
    have hcx := hc i hil
    have hx := hy.small l[i] (List.getElem_mem _)
    generalize l[i] = x at *
    have hin' : decide ((i : Int) < (n : Int)) = true := by simp; omega
    clear hy hc hl
    by_cases h1 : k ≤ 1
    · have h1' : (k : Int) ≤ 1 := by omega
      go_enter Try.func75, Try.ntmps75
      go_wp2
      go_quiet (fail)
      go_wp2
      go_quiet (fail)
      go_wp2
      go_ret
      have hp := fun q y s' hy => src_set (x := (i : Int) + 1) (y := y) (s' := s') q HS.out (by omega) hy
      exact ⟨0, _, rfl, fun _ => rfl, fun hh => absurd hh (by omega), (hp _ _ _ (u64_toNat _)).1, (hp _ _ _ (u64_toNat _)).2⟩
    · have h1' : (1 : Int) < (k : Int) := by omega
      go_enter Try.func75, Try.ntmps75
      go_wp2
      go_quiet (fail)
      go_wp2
      go_quiet (fail)
      go_wp2
      go_ret
      have hp := fun q y s' hy => src_set (x := (i : Int) + 1) (y := y) (s' := s') q HS.out (by omega) hy
      obtain ⟨r, hr, hrk⟩ := srcRes (IntKind.u64.wrap (IntKind.u64.wrap (IntKind.u64.wrap ((s : Int) + (x : Int)) + 1) * 6364136223846793005) + 1442695040888963407) k (by omega) hk
      exact ⟨r, _, ret_int hr, fun hh => absurd hh (by omega), fun _ => hrk, (hp _ _ _ (u64_toNat _)).1, (hp _ _ _ (u64_toNat _)).2⟩
  · have hin' : decide ((i : Int) < (n : Int)) = false := by simp; omega
    by_cases h1 : k ≤ 1
    · have h1' : (k : Int) ≤ 1 := by omega
      go_enter Try.func75, Try.ntmps75
      go_wp2
      go_quiet (fail)
      go_wp2
      go_ret
      have hp := fun q y s' hy => src_set (x := (i : Int) + 1) (y := y) (s' := s') q HS.out (by omega) hy
      exact ⟨0, _, rfl, fun _ => rfl, fun hh => absurd hh (by omega), (hp _ _ _ (u64_toNat _)).1, (hp _ _ _ (u64_toNat _)).2⟩
    · have h1' : (1 : Int) < (k : Int) := by omega
      go_enter Try.func75, Try.ntmps75
      go_wp2
      go_quiet (fail)
      go_wp2
      go_ret
      have hp := fun q y s' hy => src_set (x := (i : Int) + 1) (y := y) (s' := s') q HS.out (by omega) hy
      obtain ⟨r, hr, hrk⟩ := srcRes (IntKind.u64.wrap (IntKind.u64.wrap (IntKind.u64.wrap (s : Int) + 1) * 6364136223846793005) + 1442695040888963407) k (by omega) hk
      exact ⟨r, _, ret_int hr, fun hh => absurd hh (by omega), fun _ => hrk, (hp _ _ _ (u64_toNat _)).1, (hp _ _ _ (u64_toNat _)).2⟩
end Go.Proofs.Ytnefmdjodjpopaa
namespace Go.Proofs.Ytnefmdjodjpopaa
open Go.RowKit

theorem gb_trans {w w1 w2 : World} {b : Option Nat} (h : w.grownBy w1 b) (k : w1.grownBy w2 b) : w.grownBy w2 b :=
  ⟨k.os.trans h.os, k.tape.trans h.tape, k.output.trans h.output, Nat.le_trans h.size k.size, fun i hi hne => (k.block i (Nat.lt_of_lt_of_le hi h.size) hne).trans (h.block i hi hne)⟩
theorem gb_below {w w1 w2 : World} {b : Option Nat} (h : w.grownBy w1 b) (k : Below w.heap.size w1 w2) : w.grownBy w2 b :=
  ⟨k.os.trans h.os, k.tape.trans h.tape, k.output.trans h.output, Nat.le_trans h.size k.size, fun i hi hne => (k.block i hi).trans (h.block i hi hne)⟩
theorem ownsB.gb {w w1 : World} {B : Nat} {v : Value} {l : List Nat} {b : Nat} (h : ownsB w B v l) (hg : w.grownBy w1 (some b)) (hb : b < B) : ownsB w1 B v l :=
  h.otherBlock (fun g hgv => hg.block g ((World.ownsRow.lt h g hgv).2) (fun e => by cases e; have := (World.ownsRow.lt h _ hgv).1; omega))
theorem ownsB.shape {w : World} {B : Nat} {v : Value} {l : List Nat} (h : ownsB w B v l) : ∃ ao cap, v = .slice ao l.length cap := by
  obtain ⟨_, ⟨rfl, h1⟩ | ⟨g, cap, cur, rfl, _⟩⟩ := h
  · exact ⟨none, 0, by rw [h1]⟩
  · exact ⟨_, cap, rfl⟩
theorem srcAt.below {w w1 : World} {B b : Nat} {a : Option Addr} {n cap i s : Nat} (h : srcAt w b a n cap i s) (hb : Below B w w1) (hB : b < B) : srcAt w1 b a n cap i s := (hb.block b hB).trans h
theorem srcAt.lt {w : World} {b : Nat} {a : Option Addr} {n cap i s : Nat} (h : srcAt w b a n cap i s) : b < w.heap.size := lt_of_block h
/-- the length that a slice's value bears -/
def lenOf : Value → Nat | .slice _ n _ => n | _ => 0

/-- the source of choices, and what it reads -/
structure srcI (w0 : World) (b : Nat) (a : Option Addr) (n cap : Nat) (l : List Nat) (i : Nat) (w : World) : Prop where
  at_ : ∃ s, srcAt w b a n cap i s
  bel : Below w0.heap.size w0 w
  by_ : isBytes w0 a n cap l
  hb : w0.heap.size ≤ b
theorem srcI.lt {w0 w : World} {b : Nat} {a : Option Addr} {n cap i : Nat} {l : List Nat} (h : srcI w0 b a n cap l i w) : b < w.heap.size := by
  obtain ⟨s, hs⟩ := h.at_; exact hs.lt
theorem srcI.step {w0 w w1 : World} {b : Nat} {a : Option Addr} {n cap i i' : Nat} {l : List Nat} (h : srcI w0 b a n cap l i w) (hs : ∃ s', srcAt w1 b a n cap i' s') (hg : w.grownBy w1 (some b)) : srcI w0 b a n cap l i' w1 :=
  ⟨hs, h.bel.grown hg h.bel.size (fun k e => by cases e; exact h.hb), h.by_, h.hb⟩
theorem srcI.below {w0 w w1 : World} {B b : Nat} {a : Option Addr} {n cap i : Nat} {l : List Nat} (h : srcI w0 b a n cap l i w) (hb : Below B w w1) (hB : b < B) : srcI w0 b a n cap l i w1 := by
  obtain ⟨s, hs⟩ := h.at_
  exact ⟨⟨s, hs.below hb hB⟩, h.bel.trans (hb.mono (by have := h.hb; omega)), h.by_, h.hb⟩

theorem n_any (w0 w : World) (b : Nat) (a : Option Addr) (n cap i : Nat) (l : List Nat) (k : Nat) (h : srcI w0 b a n cap l i w) (hi : i ≤ 1000000000000) (hk : k ≤ 1000000000) :
    Calls Try.prog 75 #[.pointer (some ⟨b, 0, none⟩), .int .i64 (k : Int)] w fun o w' => ∃ r : Nat, o = .returned (.int .i64 (r : Int)) ∧ (k ≤ 1 → r = 0) ∧ (1 < k → r < k) ∧ srcI w0 b a n cap l (i + 1) w' ∧ w.grownBy w' (some b) := by
  obtain ⟨s, hs⟩ := h.at_
  refine (srcN_any w b a n cap i s l k hs (h.by_.below h.bel) hi hk).mono ?_
  rintro o w' ⟨r, s', rfl, h1, h2, h3, h4⟩
  exact ⟨r, rfl, h1, h2, h.step ⟨s', h3⟩ h4, h4⟩
theorem n_2 (w0 w : World) (b : Nat) (a : Option Addr) (n cap i : Nat) (l : List Nat) (h : srcI w0 b a n cap l i w) (hi : i ≤ 1000000000000) :
    Calls Try.prog 75 #[.pointer (some ⟨b, 0, none⟩), .int .i64 2] w fun o w' => ∃ r : Nat, o = .returned (.int .i64 (r : Int)) ∧ r < 2 ∧ srcI w0 b a n cap l (i + 1) w' ∧ w.grownBy w' (some b) := by
  refine (n_any w0 w b a n cap i l 2 h hi (by omega)).mono ?_
  rintro o w' ⟨r, rfl, _, h2, h3, h4⟩
  exact ⟨r, rfl, h2 (by omega), h3, h4⟩
theorem n_3 (w0 w : World) (b : Nat) (a : Option Addr) (n cap i : Nat) (l : List Nat) (h : srcI w0 b a n cap l i w) (hi : i ≤ 1000000000000) :
    Calls Try.prog 75 #[.pointer (some ⟨b, 0, none⟩), .int .i64 3] w fun o w' => ∃ r : Nat, o = .returned (.int .i64 (r : Int)) ∧ r < 3 ∧ srcI w0 b a n cap l (i + 1) w' ∧ w.grownBy w' (some b) := by
  refine (n_any w0 w b a n cap i l 3 h hi (by omega)).mono ?_
  rintro o w' ⟨r, rfl, _, h2, h3, h4⟩
  exact ⟨r, rfl, h2 (by omega), h3, h4⟩
theorem n_7 (w0 w : World) (b : Nat) (a : Option Addr) (n cap i : Nat) (l : List Nat) (h : srcI w0 b a n cap l i w) (hi : i ≤ 1000000000000) :
    Calls Try.prog 75 #[.pointer (some ⟨b, 0, none⟩), .int .i64 7] w fun o w' => ∃ r : Nat, o = .returned (.int .i64 (r : Int)) ∧ r < 7 ∧ srcI w0 b a n cap l (i + 1) w' ∧ w.grownBy w' (some b) := by
  refine (n_any w0 w b a n cap i l 7 h hi (by omega)).mono ?_
  rintro o w' ⟨r, rfl, _, h2, h3, h4⟩
  exact ⟨r, rfl, h2 (by omega), h3, h4⟩
end Go.Proofs.Ytnefmdjodjpopaa
namespace Go.Proofs.Ytnefmdjodjpopaa
open Go.RowKit

set_option maxHeartbeats 2000000 in
theorem genText_any (w0 w : World) (b : Nat) (a : Option Addr) (n cap i : Nat) (l : List Nat) (most : Nat) (h : srcI w0 b a n cap l i w) (hi : i ≤ 1000000000) (hm : most ≤ 3000000) :
    Calls Try.prog 77 #[.pointer (some ⟨b, 0, none⟩), .int .i64 (most : Int)] w fun o w' => ∃ (t : List Nat) (i' : Nat), o = .returned (.string (strN t)) ∧ (∀ x ∈ t, M.isL x) ∧ t.length ≤ most ∧ i' ≤ i + 1 + 3 * most ∧ srcI w0 b a n cap l i' w' ∧ w.grownBy w' (some b) := by
  have hbw := h.lt
  go_enter Try.func77, Try.ntmps77
  go_wp2_with fail
  refine (n_any w0 w b a n cap i l (most + 1) h (by omega) (by omega)).mono ?_
  rintro o w1 ⟨N, rfl, _, hN, hI1, hg1⟩
  have hN' : N ≤ most := by
    by_cases hm0 : 1 < most + 1
    · have := hN hm0; omega
    · have : most = 0 := by omega
      subst this
      rename_i h0 
      have := h0 (by omega)
      omega
  clear hN h
  have hB1 : w.heap.size ≤ w1.heap.size := hg1.size
  have hown0 := own_nil w1 w1.heap.size (Nat.le_refl _)
  have hb1 : b < w1.heap.size := hI1.lt
  have hI2 : srcI w0 b a n cap l (i + 1) (w1.alloc (.cells #[] 5)) := hI1.below ((Below.refl w1.heap.size w1).alloc (Nat.le_refl _) _) hb1
  have hg2 : w1.grownBy (w1.alloc (.cells #[] 5)) (some b) := World.grownBy_alloc w1 _ (some b)
  go_wp2_with fail
  go_loopw [6, 7, 8, 9] (fun v c _ _ wr => ∃ (t : List Nat) (i' cc : Nat), c = .int .u8 (cc : Int) ∧ M.isL cc ∧ ownsB wr w1.heap.size v t ∧ (∀ x ∈ t, M.isL x) ∧ t.length ≤ N ∧ i' ≤ i + 1 + 3 * t.length ∧ srcI w0 b a n cap l i' wr ∧ w1.grownBy wr (some b)) (fun v _ _ _ _ => N - lenOf v)
  case atStart => exact ⟨[], i + 1, 48, rfl, .inl rfl, hown0, (fun x hx => by cases hx), Nat.zero_le _, Nat.le_refl _, hI2, hg2⟩
  case round =>
    clear hown0 hI2 hg2
    obtain ⟨t, i', cc, rfl, hcc, hown, hall, htN, hi', hI, hg⟩ := hrel
    obtain ⟨ao, cp, rfl⟩ := hown.shape
    by_cases hlt : t.length < N
    · go_wp2_with fail
      refine (n_7 w0 wr b a n cap i' l hI (by omega)).mono ?_
      rintro o w2 ⟨r1, rfl, hr1, hI2, hg2⟩
      have hown2 := hown.gb hg2 hb1
      have hgg2 := gb_trans hg hg2
      clear hown hI hg hg2
      go_wp2_with fail
      refine (n_3 w0 w2 b a n cap _ l hI2 (by omega)).mono ?_
      rintro o w3 ⟨r2, rfl, hr2, hI3, hg3⟩
      have hown3 := hown2.gb hg3 hb1
      have hgg3 := gb_trans hgg2 hg3
      clear hown2 hI2 hgg2 hg3
      by_cases hr0 : r2 = 0
      · subst hr0
        go_wp2_with fail
        have hgoal : True := trivial
        clear hgoal
        go_loopw [6, 9] (fun v j wr => ∃ (t' : List Nat) (jj : Nat), j = .int .i64 (jj : Int) ∧ jj ≤ (1 + r1) ∧ t.length + jj ≤ t'.length ∧ t'.length ≤ t.length + jj ∧ ownsB wr w1.heap.size v t' ∧ (∀ x ∈ t', M.isL x) ∧ t'.length ≤ N ∧ srcI w0 b a n cap l (i' + 1 + 1) wr ∧ w1.grownBy wr (some b)) (fun _ j _ => (1 + r1) - (intOf j).toNat)
        case atStart => exact ⟨t, 0, rfl, Nat.zero_le _, Nat.le_refl _, Nat.le_refl _, hown3, hall, htN, hI3, hgg3⟩
        case round =>
          clear hI3 hown3 hgg3
          obtain ⟨t', jj, rfl, hjk, ht1, ht2, hown, hall', htN', hI, hg⟩ := hrel
          obtain ⟨ao', cp', rfl⟩ := hown.shape
          by_cases hin : jj < (1 + r1) ∧ t'.length < N
          · obtain ⟨hj, hl'⟩ := hin
            have hBw : w1.heap.size ≤ wr.heap.size := hg.size
            go_wp2_with (first | (at_builtin; refine app_byte2 wr wr rfl (.tmp 39) (.tmp 41) rfl w1.heap.size _ t' cc _ rfl rfl hown rfl (by omega) hBw (Below.refl _ _) ?_))
            intro v5 w5 ho5 hb5 _
            have hI5 := hI.below hb5 hb1
            have hg5 := gb_below hg hb5
            have hall5 : ∀ x ∈ t' ++ [cc], M.isL x := by
              intro x hx
              simp at hx
              rcases hx with hx | rfl
              · exact hall' x hx
              · exact hcc
            clear hown hI hg hb5
            go_wp2
            go_roundw
            case rel => exact ⟨t' ++ [cc], jj + 1, by go_num, by omega, by simp; omega, by simp; omega, ho5, hall5, by simp; omega, hI5, hg5⟩
            case measure => simp [intOf]; omega
          · have hpr : t.length < t'.length := by
              by_cases hj : jj < (1 + r1)
              · have : ¬ t'.length < N := fun e => hin ⟨hj, e⟩
                omega
              · omega
            have hopp := M.isL_opp hcc
            by_cases hj : jj < (1 + r1)
            · have hl' : ¬ t'.length < N := fun e => hin ⟨hj, e⟩
              clear hin
              go_wp2_with (first | (go_at_call 54; refine (other_any cc _ hcc).mono ?_; rintro o w6 ⟨rfl, rfl⟩))
              go_roundw
              case rel => exact ⟨t', i' + 1 + 1, 97 - cc, rfl, hopp.1, hown, hall', htN', by omega, hI, hg⟩
              case measure => simp [lenOf]; omega
            · clear hin
              go_wp2_with (first | (go_at_call 54; refine (other_any cc _ hcc).mono ?_; rintro o w6 ⟨rfl, rfl⟩))
              go_roundw
              case rel => exact ⟨t', i' + 1 + 1, 97 - cc, rfl, hopp.1, hown, hall', htN', by omega, hI, hg⟩
              case measure => simp [lenOf]; omega
      · have hr0' : (0 : Int) < (r2 : Int) := by omega
        go_wp2_with fail
        refine (n_2 w0 w3 b a n cap _ l hI3 (by omega)).mono ?_
        rintro o w4 ⟨r3, rfl, hr3, hI4, hg4⟩
        have hown4 := hown3.gb hg4 hb1
        have hgg4 := gb_trans hgg3 hg4
        clear hown3 hI3 hgg3 hg4
        go_wp2_with fail
        have hgoal : True := trivial
        clear hgoal
        go_loopw [6, 9] (fun v j wr => ∃ (t' : List Nat) (jj : Nat), j = .int .i64 (jj : Int) ∧ jj ≤ (1 + r3) ∧ t.length + jj ≤ t'.length ∧ t'.length ≤ t.length + jj ∧ ownsB wr w1.heap.size v t' ∧ (∀ x ∈ t', M.isL x) ∧ t'.length ≤ N ∧ srcI w0 b a n cap l (i' + 1 + 1 + 1) wr ∧ w1.grownBy wr (some b)) (fun _ j _ => (1 + r3) - (intOf j).toNat)
        case atStart => exact ⟨t, 0, rfl, Nat.zero_le _, Nat.le_refl _, Nat.le_refl _, hown4, hall, htN, hI4, hgg4⟩
        case round =>
          clear hI4 hown4 hgg4
          obtain ⟨t', jj, rfl, hjk, ht1, ht2, hown, hall', htN', hI, hg⟩ := hrel
          obtain ⟨ao', cp', rfl⟩ := hown.shape
          by_cases hin : jj < (1 + r3) ∧ t'.length < N
          · obtain ⟨hj, hl'⟩ := hin
            have hBw : w1.heap.size ≤ wr.heap.size := hg.size
            go_wp2_with (first | (at_builtin; refine app_byte2 wr wr rfl (.tmp 39) (.tmp 41) rfl w1.heap.size _ t' cc _ rfl rfl hown rfl (by omega) hBw (Below.refl _ _) ?_))
            intro v5 w5 ho5 hb5 _
            have hI5 := hI.below hb5 hb1
            have hg5 := gb_below hg hb5
            have hall5 : ∀ x ∈ t' ++ [cc], M.isL x := by
              intro x hx
              simp at hx
              rcases hx with hx | rfl
              · exact hall' x hx
              · exact hcc
            clear hown hI hg hb5
            go_wp2
            go_roundw
            case rel => exact ⟨t' ++ [cc], jj + 1, by go_num, by omega, by simp; omega, by simp; omega, ho5, hall5, by simp; omega, hI5, hg5⟩
            case measure => simp [intOf]; omega
          · have hpr : t.length < t'.length := by
              by_cases hj : jj < (1 + r3)
              · have : ¬ t'.length < N := fun e => hin ⟨hj, e⟩
                omega
              · omega
            have hopp := M.isL_opp hcc
            by_cases hj : jj < (1 + r3)
            · have hl' : ¬ t'.length < N := fun e => hin ⟨hj, e⟩
              clear hin
              go_wp2_with (first | (go_at_call 54; refine (other_any cc _ hcc).mono ?_; rintro o w6 ⟨rfl, rfl⟩))
              go_roundw
              case rel => exact ⟨t', i' + 1 + 1 + 1, 97 - cc, rfl, hopp.1, hown, hall', htN', by omega, hI, hg⟩
              case measure => simp [lenOf]; omega
            · clear hin
              go_wp2_with (first | (go_at_call 54; refine (other_any cc _ hcc).mono ?_; rintro o w6 ⟨rfl, rfl⟩))
              go_roundw
              case rel => exact ⟨t', i' + 1 + 1 + 1, 97 - cc, rfl, hopp.1, hown, hall', htN', by omega, hI, hg⟩
              case measure => simp [lenOf]; omega
    · have hcv := conv_own hown (isL_lt hall)
      go_wp2
      go_ret
      exact ⟨t, i', rfl, hall, by omega, by omega, hI, gb_trans hg1 hg⟩
end Go.Proofs.Ytnefmdjodjpopaa
namespace Go.Proofs.Ytnefmdjodjpopaa
open Go.RowKit

theorem conv_row {w : World} {g n cap : Nat} {f : Nat → Nat} (h : rowB w g n f) (hf : ∀ t, t < n → f t < 256) : (convert 28 9 (.slice (some ⟨g, 0, none⟩) n cap)).run Try.prog w = .ok (.string (strN ((List.range n).map f))) w := by
  have := run_convert_bytes_back (P := Try.prog) w 28 9 5 ⟨g, 0, none⟩ cap (((List.range n).map f).map UInt8.ofNat) Try.underlying28 Try.underlying5 Try.underlying9 (by
    intro j hj
    have hj' : j < n := by simpa using hj
    have hc := h.cell j hj'
    have hx := hf j hj'
    have e2 : (⟨g, 0, none⟩ : Addr).add j = ⟨g, j, none⟩ := by simp only [Addr.add]; split <;> simp_all
    have e : ((((List.range n).map f).map UInt8.ofNat)[j]).toNat = f j := by simp; omega
    rw [e2, e]
    exact hc)
  simp only [List.length_map, List.length_range] at this
  exact this

theorem new_any (w : World) (a : Option Addr) (n cap : Nat) (l : List Nat) (h : isBytes w a n cap l) (hn : n ≤ 1048576) :
    Calls Try.prog 74 #[.slice a n cap] w fun o w' => ∃ b, o = .returned (.pointer (some ⟨b, 0, none⟩)) ∧ srcI w b a n cap l 0 w' ∧ w.heap.size ≤ b ∧ Below w.heap.size w w' := by
  have HH : Hid (isBytes w a n cap l) := h
  clear h
  go_enter Try.func74, Try.ntmps74
  go_wp2
  go_ret
  have hb : Below w.heap.size w (w.alloc (.cells #[.slice a n cap, .int .i64 0, .int .u64 ((n : Int) + 77)] 101)) := (Below.refl _ _).alloc (Nat.le_refl _) _
  refine ⟨w.heap.size, rfl, ⟨⟨n + 77, ?_⟩, hb, HH.out, Nat.le_refl _⟩, Nat.le_refl _, hb⟩
  exact heap_alloc_new w _
theorem size_any (w0 w : World) (b : Nat) (a : Option Addr) (n cap i : Nat) (l : List Nat) (h : srcI w0 b a n cap l i w) :
    Calls Try.prog 78 #[.pointer (some ⟨b, 0, none⟩)] w fun o w' => o = .returned (.int .i64 (n : Int)) ∧ w = w' := by
  obtain ⟨s, hs⟩ := h.at_
  have hc := hs.cells.1
  clear hs h
  go_enter Try.func78, Try.ntmps78
  go_wp2
  go_ret
  exact ⟨rfl, rfl⟩
theorem repeat_any (w : World) (s : ByteArray) (n : Nat) (hs : s.size ≤ 10) (hn : n ≤ 1000) :
    Calls Try.prog 76 #[.string s, .int .i64 (n : Int)] w fun o w' => ∃ t : ByteArray, o = .returned (.string t) ∧ t.size ≤ 10 * n ∧ w = w' := by
  go_enter Try.func76, Try.ntmps76
  go_wp2
  go_loop [5, 6] (fun t i => ∃ (k : Nat) (u : ByteArray), k ≤ n ∧ i = .int .i64 (k : Int) ∧ t = .string u ∧ u.size ≤ 10 * k) (fun _ i => n - (intOf i).toNat)
  case atStart => exact ⟨0, ⟨#[]⟩, Nat.zero_le _, rfl, rfl, Nat.le_refl _⟩
  case round =>
    obtain ⟨k, u, hk, rfl, rfl, hu⟩ := hrel
    by_cases hlt : k < n
    · go_wp2
      go_round
      case rel => exact ⟨k + 1, u ++ s, by omega, by go_num, rfl, by rw [ByteArray.size_append]; omega⟩
      case measure => simp [intOf]; omega
    · go_wp2
      go_ret
      exact ⟨u, rfl, by omega, rfl⟩

theorem n_4 (w0 w : World) (b : Nat) (a : Option Addr) (n cap i : Nat) (l : List Nat) (h : srcI w0 b a n cap l i w) (hi : i ≤ 1000000000000) :
    Calls Try.prog 75 #[.pointer (some ⟨b, 0, none⟩), .int .i64 4] w fun o w' => ∃ r : Nat, o = .returned (.int .i64 (r : Int)) ∧ r < 4 ∧ srcI w0 b a n cap l (i + 1) w' ∧ w.grownBy w' (some b) := by
  refine (n_any w0 w b a n cap i l 4 h hi (by omega)).mono ?_
  rintro o w' ⟨r, rfl, _, h2, h3, h4⟩
  exact ⟨r, rfl, h2 (by omega), h3, h4⟩
theorem n_6 (w0 w : World) (b : Nat) (a : Option Addr) (n cap i : Nat) (l : List Nat) (h : srcI w0 b a n cap l i w) (hi : i ≤ 1000000000000) :
    Calls Try.prog 75 #[.pointer (some ⟨b, 0, none⟩), .int .i64 6] w fun o w' => ∃ r : Nat, o = .returned (.int .i64 (r : Int)) ∧ r < 6 ∧ srcI w0 b a n cap l (i + 1) w' ∧ w.grownBy w' (some b) := by
  refine (n_any w0 w b a n cap i l 6 h hi (by omega)).mono ?_
  rintro o w' ⟨r, rfl, _, h2, h3, h4⟩
  exact ⟨r, rfl, h2 (by omega), h3, h4⟩
theorem n_10 (w0 w : World) (b : Nat) (a : Option Addr) (n cap i : Nat) (l : List Nat) (h : srcI w0 b a n cap l i w) (hi : i ≤ 1000000000000) :
    Calls Try.prog 75 #[.pointer (some ⟨b, 0, none⟩), .int .i64 10] w fun o w' => ∃ r : Nat, o = .returned (.int .i64 (r : Int)) ∧ r < 10 ∧ srcI w0 b a n cap l (i + 1) w' ∧ w.grownBy w' (some b) := by
  refine (n_any w0 w b a n cap i l 10 h hi (by omega)).mono ?_
  rintro o w' ⟨r, rfl, _, h2, h3, h4⟩
  exact ⟨r, rfl, h2 (by omega), h3, h4⟩
theorem rowB.gb {w w1 : World} {g m : Nat} {f : Nat → Nat} {b : Nat} (h : rowB w g m f) (hg : w.grownBy w1 (some b)) (hz : g < w.heap.size) (hne : g ≠ b) : rowB w1 g m f := by
  have hk := hg.block g hz (fun e => hne (by cases e; rfl))
  exact ⟨fun t ht => (World.cell?_of_block (a := ⟨g, t, none⟩) hk).trans (h.cell t ht), fun t ht => (World.frozen?_of_block (a := ⟨g, t, none⟩) hk).trans (h.free t ht)⟩
set_option maxHeartbeats 2000000 in
theorem spoil_any (w0 w : World) (b : Nat) (a : Option Addr) (n cap i : Nat) (l : List Nat) (t : List Nat) (h : srcI w0 b a n cap l i w) (hi : i ≤ 100000000000) (hall : ∀ x ∈ t, M.isL x) (ht : t.length ≤ 100000000) :
    Calls Try.prog 79 #[.pointer (some ⟨b, 0, none⟩), .string (strN t)] w fun o w' => ∃ u : List Nat, o = .returned (.string (strN u)) ∧ u.length = t.length ∧ ∃ i', i' ≤ i + 2 ∧ srcI w0 b a n cap l i' w' ∧ w.grownBy w' (some b) := by
  by_cases ht0 : t = []
  · subst ht0
    have hz : (((strN []).size : Nat) : Int) = 0 := rfl
    go_enter Try.func79, Try.ntmps79
    go_wp2
    go_ret
    exact ⟨[], rfl, rfl, i, by omega, h, gb_refl _ _⟩
  · have htl : 0 < t.length := List.length_pos_iff.2 ht0
    have hsz : (strN t).size = t.length := strN_size t
    have hz : ((((strN t).size : Nat) : Int) == 0) = false := by rw [hsz]; simp; omega
    have hcb := fun w => run_bytes_of_string (P := Try.prog) w 9 28 5 (strN t) Try.underlying9 Try.underlying28 Try.underlying5
    have hlt := lt_strN t (isL_lt hall)
    have hbw := h.lt
    have hrow := fun cp => rowB_bytes w.drew (strN t) cp
    have HR : Hid (∀ cp, rowB (w.drew.alloc (.cells (bytesRow (strN t) cp) 5 ((bytesRow (strN t) cp).size, (bytesRow (strN t) cp).size + 1))) w.heap.size t.length (fun k => t.getD k 0)) := by
      intro cp; have := hrow cp; rw [hlt, hsz] at this; exact this
    clear hrow hlt
    go_enter Try.func79, Try.ntmps79
    go_wp2_with fail
    have hrA := HR.out (grownCap w t.length 0 5)
    clear hcb HR
    generalize grownCap w t.length 0 5 = cp at *
    have hbA : Below w.heap.size w (w.alloc (.cells (bytesRow (strN t) cp) 5 ((bytesRow (strN t) cp).size, (bytesRow (strN t) cp).size + 1))).drew := ((Below.refl _ _).alloc (Nat.le_refl _) _).drew
    have hgA : w.grownBy (w.alloc (.cells (bytesRow (strN t) cp) 5 ((bytesRow (strN t) cp).size, (bytesRow (strN t) cp).size + 1))).drew (some b) := gb_below (gb_refl _ _) hbA
    have hIA := h.below hbA hbw
    have hzA : w.heap.size < (w.alloc (.cells (bytesRow (strN t) cp) 5 ((bytesRow (strN t) cp).size, (bytesRow (strN t) cp).size + 1))).drew.heap.size := by simp
    have hrB : rowB (w.alloc (.cells (bytesRow (strN t) cp) 5 ((bytesRow (strN t) cp).size, (bytesRow (strN t) cp).size + 1))).drew w.heap.size t.length (fun k => t.getD k 0) := ⟨fun k hk => hrA.cell k hk, fun k hk => hrA.free k hk⟩
    clear hrA hbA h
    generalize (w.alloc (.cells (bytesRow (strN t) cp) 5 ((bytesRow (strN t) cp).size, (bytesRow (strN t) cp).size + 1))).drew = wA at *
    refine (n_any w0 wA b a n cap i l t.length hIA (by omega) (by omega)).mono ?_
    rintro o w1 ⟨r, rfl, hr0, hr1, hI1, hg1⟩
    have hr : r < t.length := by
      by_cases e : 1 < t.length
      · exact hr1 e
      · have := hr0 (by omega); omega
    clear hr0 hr1
    have hrow1 := hrB.gb hg1 hzA (by omega)
    have hz1 : w.heap.size < w1.heap.size := Nat.lt_of_lt_of_le hzA hg1.size
    have hgg1 := gb_trans hgA hg1
    clear hrB hzA hIA hgA hg1
    go_wp2_with fail
    refine (n_4 w0 w1 b a n cap _ l hI1 (by omega)).mono ?_
    rintro o w2 ⟨r2, rfl, hr2, hI2, hg2⟩
    have hrow2 := hrow1.gb hg2 hz1 (by omega)
    have hz2 : w.heap.size < w2.heap.size := Nat.lt_of_lt_of_le hz1 hg2.size
    have hgg2 := gb_trans hgg1 hg2
    have hcr := hrow2.cell r hr
    have hfr := hrow2.free r hr
    have hlr : M.isL (t.getD r 0) := hall _ (by rw [getD_at t r hr]; exact List.getElem_mem _)
    clear hrow1 hz1 hI1 hgg1 hg2
    have hBs : ∀ v, Below w.heap.size w2 (w2.setCell ⟨w.heap.size, r, none⟩ v) := fun v => (Below.refl _ _).setCell (by exact Nat.le_refl _) v
    have HB : Hid (∀ v, Below w.heap.size w2 (w2.setCell ⟨w.heap.size, r, none⟩ v)) := hBs
    clear hBs
    by_cases h4 : r2 = 0
    · subst h4
      have hrow3 : rowB (w2.setCell ⟨w.heap.size, r, none⟩ (.int .u8 120)) w.heap.size t.length (fun k => if k = r then 120 else t.getD k 0) := hrow2.set' r hr 120 (by simp) (fun k _ hk => by simp [hk])
      have hcv := conv_row (cap := cp) hrow3 (fun k hk => by
        by_cases e : k = r
        · simp [e]
        · simp only [e, if_false]; rw [getD_at t k hk]; exact isL_lt hall _ (List.getElem_mem _))
      clear hrow3 hrow2
      go_wp2
      go_ret
      exact ⟨_, rfl, by simp, _, Nat.le_refl _, hI2.below (HB.out _) hbw, gb_below hgg2 (HB.out _)⟩
    · have h4' : ((r2 : Int) == 0) = false := by simp; omega
      have hop := M.isL_opp hlr
      have HX : Hid (∀ w, Calls Try.prog 54 #[.int .u8 ((t.getD r 0 : Nat) : Int)] w fun o w' => o = .returned (.int .u8 ((97 - t.getD r 0 : Nat) : Int)) ∧ w = w') := fun w => other_any _ w hlr
      have hx97 : 97 - t.getD r 0 < 256 := by omega
      have hrow3 : rowB (w2.setCell ⟨w.heap.size, r, none⟩ (.int .u8 ((97 - t.getD r 0 : Nat) : Int))) w.heap.size t.length (fun k => if k = r then 97 - t.getD r 0 else t.getD k 0) := hrow2.set' r hr _ (by simp) (fun k _ hk => by simp [hk])
      have hcv := conv_row (cap := cp) hrow3 (fun k hk => by
        by_cases e : k = r
        · simp only [e, if_true]; exact hx97
        · simp only [e, if_false]; rw [getD_at t k hk]; exact isL_lt hall _ (List.getElem_mem _))
      clear hrow3 hrow2
      generalize 97 - t.getD r 0 = y at *
      generalize t.getD r 0 = x at *
      go_wp2_with (first | (go_at_call 54; refine (HX.out _).mono ?_; rintro o w6 ⟨rfl, rfl⟩))
      go_ret
      exact ⟨_, rfl, by simp, _, Nat.le_refl _, hI2.below (HB.out _) hbw, gb_below hgg2 (HB.out _)⟩

set_option maxHeartbeats 1000000 in
theorem drawStuff_any (w : World) (a : Option Addr) (n cap : Nat) (l : List Nat) (h : isBytes w a n cap l) (hn : n ≤ 1048576) :
    Calls Try.prog 34 #[.slice a n cap] w fun o w' => ∃ t : ByteArray, o = .returned (.string t) ∧ t.size ≤ 2000000 ∧ Below w.heap.size w w' := by
  go_enter Try.func34, Try.ntmps34
  go_wp2_with fail
  refine (new_any w a n cap l h hn).mono ?_
  rintro o w1 ⟨b, rfl, hI1, hb, hB1⟩
  go_wp2_with fail
  refine (n_10 w w1 b a n cap _ l hI1 (by omega)).mono ?_
  rintro o w2 ⟨r, rfl, hr, hI2, hg2⟩
  have hB2 := hI2.bel
  clear hI1 hg2 hB1
  by_cases hr0 : r = 0
  · subst hr0
    go_wp2_with fail
    refine (repeat_any w2 _ 399 (by decide) (by omega)).mono ?_
    rintro o w3 ⟨t3, rfl, ht3, rfl⟩
    go_wp2_with fail
    refine (genText_any w w2 b a n cap _ l 9 hI2 (by omega) (by omega)).mono ?_
    rintro o w4 ⟨t4, i4, rfl, _, ht4, _, hI4, _⟩
    have hs4 : (strN t4).size ≤ 9 := by rw [strN_size]; exact ht4
    have hB4 := hI4.bel
    go_wp2
    go_ret
    exact ⟨_, rfl, by rw [ByteArray.size_append]; omega, hB4⟩
  · have hr0' : ((r : Int) == 0) = false := by simp; omega
    go_wp2_with (first | (go_at_call 78; refine (size_any w w2 b a n cap _ l hI2).mono ?_; rintro o w3 ⟨rfl, rfl⟩))
    refine (genText_any w w2 b a n cap _ l (20 + n) hI2 (by omega) (by omega)).mono ?_
    rintro o w4 ⟨t4, i4, rfl, hall4, ht4, hi4, hI4, _⟩
    have hs4 : (strN t4).size ≤ 1048600 := by rw [strN_size]; omega
    go_wp2_with fail
    refine (n_6 w w4 b a n cap _ l hI4 (by omega)).mono ?_
    rintro o w5 ⟨r5, rfl, hr5, hI5, _⟩
    by_cases h5 : r5 = 0
    · subst h5
      go_wp2_with fail
      refine (spoil_any w w5 b a n cap _ l t4 hI5 (by omega) hall4 (by omega)).mono ?_
      rintro o w6 ⟨u, rfl, hu, i6, _, hI6, _⟩
      have hB6 := hI6.bel
      go_wp2
      go_ret
      exact ⟨_, rfl, by rw [strN_size, hu]; omega, hB6⟩
    · have h5' : ((r5 : Int) == 0) = false := by simp; omega
      have hB5 := hI5.bel
      go_wp2
      go_ret
      exact ⟨_, rfl, by omega, hB5⟩
end Go.Proofs.Ytnefmdjodjpopaa
namespace Go.Proofs.Ytnefmdjodjpopaa
namespace M
theorem take_snoc_le {α : Type} (l : List α) (c : α) (k : Nat) (h : k ≤ l.length) : (l ++ [c]).take k = l.take k := List.take_append_of_le_length h
theorem runs_le (l : List Nat) (h : ∀ x ∈ l, isL x) : ∀ k, (trail ((stuffL l).take k)).2 ≤ 5 := by
  induction l using snoc_ind with
  | h0 => intro k; simp [stuffL, trail]
  | h1 l a ih =>
    have ha : isL a := h a (by simp)
    have hl : ∀ x ∈ l, isL x := fun x hx => h x (by simp [hx])
    have h4 := stuff_run l hl
    have ih' := ih hl
    have hA : ∀ k, (trail ((stuffL l ++ [a]).take k)).2 ≤ 5 := by
      intro k
      by_cases hk : k ≤ (stuffL l).length
      · rw [take_snoc_le _ _ _ hk]; exact ih' k
      · rw [List.take_of_length_le (by simp; omega), trail_snoc]
        exact Nat.le_trans (hear_le _ _) (by omega)
    intro k
    rw [stuffL_snoc]
    unfold stStep
    split
    · by_cases hk : k ≤ (stuffL l ++ [a]).length
      · rw [take_snoc_le _ _ _ hk]; exact hA k
      · rw [List.take_of_length_le (by simp at hk ⊢; omega), trail_snoc, trail_snoc]
        have hf := hear_fst (trail (stuffL l)) a
        generalize hear (trail (stuffL l)) a = r at *
        obtain ⟨x, m⟩ := r
        simp only at hf
        subst hf
        rw [hear_other _ _ _ (isL_opp ha).2]
        exact (by decide : 1 ≤ 5)
    · exact hA k
theorem ds_stuff (l : List Nat) (h : ∀ x ∈ l, isL x) : ∀ q, dsGo (stuffL l ++ q) 0 [] (0, 0) = dsGo q (stuffL l).length l (trail (stuffL l)) := by
  induction l using snoc_ind with
  | h0 => intro q; simp [stuffL, trail]
  | h1 l a ih =>
    have ha : isL a := h a (by simp)
    have hl : ∀ x ∈ l, isL x := fun x hx => h x (by simp [hx])
    have h4 := stuff_run l hl
    have ih' := ih hl
    intro q
    rw [stuffL_snoc]
    unfold stStep
    split
    · rename_i h5
      rw [List.append_assoc, List.append_assoc, ih', List.singleton_append, dsGo_put _ _ _ _ _ (by omega), List.singleton_append, ← trail_snoc,
        dsGo_skip _ _ _ _ _ h5 (by rw [trail_snoc, hear_fst]; exact (isL_opp ha).2), ← trail_snoc]
      simp
    · rw [List.append_assoc, ih', List.singleton_append, dsGo_put _ _ _ _ _ (by omega), ← trail_snoc]
      simp
theorem ds_stuff_all (l : List Nat) (h : ∀ x ∈ l, isL x) : dsGo (stuffL l) 0 [] (0, 0) = (l, -1) := by
  have := ds_stuff l h []
  rw [List.append_nil] at this
  rw [this]; rfl
end M
open Go.RowKit
theorem isBytes_size {w : World} {a : Option Addr} {n cap : Nat} {l : List Nat} (h : isBytes w a n cap l) : n = l.length := h.len
theorem stuffZ_bad {t : ByteArray} (h : okT t 2000 = false) : stuffZ t = ⟨#[]⟩ := by simp [stuffZ, h]
theorem toList_strN (l : List Nat) : (strN l).toList = l.map UInt8.ofNat := by unfold strN; rw [ByteArray.toList_eq]
theorem strN_at (l : List Nat) (k : Nat) (h : k < l.length) (h' : k < (strN l).size) (hs : ∀ x ∈ l, x < 256) : ((strN l)[k]'h').toNat = l[k] := by
  have hx := hs l[k] (List.getElem_mem h)
  have e : (strN l)[k]'h' = UInt8.ofNat l[k] := by
    show (strN l).data[k]'h' = _
    simp [strN]
  rw [e]; simp; omega
theorem trail_at (l : List Nat) (k : Nat) (h : k < l.length) : (M.trail (l.take (k + 1))).2 = if k = 0 then 1 else if l[k] = l.getD (k - 1) 0 then (M.trail (l.take k)).2 + 1 else 1 := by
  rw [M.take_at l k h, M.trail_snoc]
  by_cases hk : k = 0
  · subst hk
    rw [if_pos rfl]
    simp only [List.take_zero, M.trail, List.foldl_nil, M.hear]
    by_cases hc : l[0] = 0 <;> simp [hc]
  · rw [if_neg hk]
    obtain ⟨m, rfl⟩ : ∃ m, k = m + 1 := ⟨k - 1, by omega⟩
    have hf := M.trail_last l m (by omega)
    have hg : l.getD (m + 1 - 1) 0 = l[m] := by simp [List.getD, show m < l.length by omega]
    rw [hg, ← hf]
    unfold M.hear
    split <;> simp_all

set_option maxHeartbeats 2000000 in
set_option maxRecDepth 20000 in
theorem lawStuffed (a : Option Addr) (n cap : Nat) (l : List Nat) (w : World) (h : isBytes w a n cap l) (hn : n ≤ 9223372036854775807) :
    Calls Try.prog 10 #[.slice a n cap] w fun o w' => o = .returned (.bool true) ∧ Below w.heap.size w w' := by
  by_cases hl : (1048576 : Int) < (n : Int)
  · go_enter Try.func10, Try.ntmps10
    go_wp2
    go_ret
    exact ⟨rfl, Below.refl _ _⟩
  · have hn' : n ≤ 1048576 := by omega
    have HH : Hid (isBytes w a n cap l) := h
    clear h
    go_enter Try.func10, Try.ntmps10
    go_wp2_with fail
    refine (drawStuff_any w a n cap l HH.out hn').mono ?_
    rintro o w1 ⟨t, rfl, ht, hB1⟩
    have htm : t.size ≤ maxLen := by unfold maxLen; omega
    go_wp2_with fail
    refine (stuff_any t w1).mono ?_
    rintro o w2 ⟨rfl, hb2⟩
    have hB2 := hB1.trans (hb2.mono hB1.size)
    clear hb2 hB1
    go_wp2_with fail
    refine (specStuff_any t w2 htm).mono ?_
    rintro o w3 ⟨rfl, hb3⟩
    have hB3 := hB2.trans (hb3.mono hB2.size)
    clear hb3 hB2
    by_cases hok : okT t 2000 = true
    · have hsz := okT_size hok
      have HZ : Hid (stuffZ t = strN (M.stuffL (lt t))) := by simp [stuffZ, hok, Hid]
      have hL := lt_isL hok
      have HL : Hid (∀ x ∈ lt t, M.isL x) := hL
      have hsl := M.stuff_len (lt t)
      have hsg := M.stuff_ge (lt t)
      rw [lt_length] at hsl hsg
      have hss : (strN (M.stuffL (lt t))).size = (M.stuffL (lt t)).length := strN_size _
      rw [HZ.out]
      have hall := M.stuff_all _ hL
      have HSM : Hid (∀ x ∈ M.stuffL (lt t), x < 256) := isL_lt hall
      have HR : Hid (∀ k, (M.trail ((M.stuffL (lt t)).take k)).2 ≤ 5) := M.runs_le _ hL
      have HD : Hid (destZ (strN (M.stuffL (lt t))) = (t, -1)) := by
        unfold Hid destZ
        rw [if_pos (okT_strN _ 4000 hall (by omega)), lt_strN _ (isL_lt hall), M.ds_stuff_all _ hL, strN_lt]
      clear hok hL HL HZ hall
      generalize M.stuffL (lt t) = S at *
      by_cases ht0 : t.size = 0
      · have hS0 : S.length = 0 := by omega
        have hc0 : ¬ (0 : Int) < (t.size : Int) := by omega
        have hS1 : S.length ≤ 0 := by omega
        clear hsg hsl hS0
        go_wp2_with fail
        go_loopw [5, 6] (fun run i wr => ∃ k : Nat, k ≤ S.length ∧ i = .int .i64 (k : Int) ∧ run = .int .i64 (((M.trail (S.take k)).2 : Nat) : Int) ∧ ∃ q, wr = w3.drewN q) (fun _ i _ => S.length - (intOf i).toNat)
        case atStart => exact ⟨0, Nat.zero_le _, rfl, rfl, 0, rfl⟩
        case round =>
          obtain ⟨k, hk, rfl, rfl, q, rfl⟩ := hrel
          have hr5 := HR.out k
          have hr6 := HR.out (k + 1)
          by_cases hlt : k < S.length
          · exact absurd hlt (by omega)
          · go_wp2_with fail
            refine (destuff_any _ _).mono ?_
            rw [HD.out]
            rintro o w5 ⟨rfl, hb5⟩
            have hB5 := hB3.trans (((below_q w3 q).trans hb5).mono hB3.size)
            have htt : (t.toList == t.toList) = true := by simp
            go_wp2
            go_ret
            exact ⟨rfl, hB5⟩
      · have hc0 : (0 : Int) < (t.size : Int) := by omega
        have hne : (strN S).toList.isEmpty = false := by
          rw [toList_strN]
          have : 0 < S.length := by omega
          cases S with
          | nil => simp at this
          | cons x S => rfl
        clear hsg
        go_wp2_with fail
        go_loopw [5, 6] (fun run i wr => ∃ k : Nat, k ≤ S.length ∧ i = .int .i64 (k : Int) ∧ run = .int .i64 (((M.trail (S.take k)).2 : Nat) : Int) ∧ ∃ q, wr = w3.drewN q) (fun _ i _ => S.length - (intOf i).toNat)
        case atStart => exact ⟨0, Nat.zero_le _, rfl, rfl, 0, rfl⟩
        case round =>
          obtain ⟨k, hk, rfl, rfl, q, rfl⟩ := hrel
          have hr5 := HR.out k
          have hr6 := HR.out (k + 1)
          by_cases hlt : k < S.length
          · have HT := trail_at S k hlt
            have hk1 : ∀ h, ((strN S)[k]'h).toNat = S[k] := fun h => strN_at S k hlt h HSM.out
            by_cases hk0 : k = 0
            · subst hk0
              rw [if_pos rfl] at HT
              have HT' : Hid ((M.trail (S.take (0 + 1))).2 = 1) := HT
              clear HT hr6
              generalize (M.trail (S.take 0)).2 = rr at *
              go_wp2
              go_quiet (fail)
              go_wp2
              go_roundw
              case rel => exact ⟨0 + 1, by omega, by go_num, by rw [HT'.out]; rfl, _, rfl⟩
              case measure => simp [intOf]; omega
            · obtain ⟨m, rfl⟩ : ∃ m, k = m + 1 := ⟨k - 1, by omega⟩
              rw [if_neg hk0, show m + 1 - 1 = m from rfl, getD_at S m (by omega)] at HT
              have hb1 : ((m : Int) + 1) < (S.length : Int) := by omega
              have hb0 : (m : Int) < (S.length : Int) := by omega
              have hg0 : decide ((0 : Int) < (m : Int) + 1) = true := decide_eq_true (by omega)
              have hk2 : ∀ h, ((strN S)[m]'h).toNat = S[m] := fun h => strN_at S m (by omega) h HSM.out
              by_cases he : S[m + 1] = S[m]
              · rw [if_pos he] at HT
                have HT' : Hid ((M.trail (S.take (m + 1 + 1))).2 = (M.trail (S.take (m + 1))).2 + 1) := HT
                have hq : ((S[m + 1] : Int) == (S[m] : Int)) = true := by simp; omega
                have hr6' : (M.trail (S.take (m + 1))).2 + 1 ≤ 5 := by rw [← HT]; exact hr6
                clear HT he hr6
                generalize S[m + 1] = x1 at *
                generalize S[m] = x0 at *
                generalize (M.trail (S.take (m + 1))).2 = rr at *
                go_wp2
                go_quiet (fail)
                go_wp2
                go_roundw
                case rel => exact ⟨m + 1 + 1, by omega, by go_num, by rw [HT'.out]; go_num, _, rfl⟩
                case measure => simp [intOf]; omega
              · rw [if_neg he] at HT
                have HT' : Hid ((M.trail (S.take (m + 1 + 1))).2 = 1) := HT
                have hq : ((S[m + 1] : Int) == (S[m] : Int)) = false := by simp; omega
                clear HT he hr6
                generalize S[m + 1] = x1 at *
                generalize S[m] = x0 at *
                generalize (M.trail (S.take (m + 1))).2 = rr at *
                go_wp2
                go_quiet (fail)
                go_wp2
                go_roundw
                case rel => exact ⟨m + 1 + 1, by omega, by go_num, by rw [HT'.out]; rfl, _, rfl⟩
                case measure => simp [intOf]; omega
          · go_wp2_with fail
            refine (destuff_any _ _).mono ?_
            rw [HD.out]
            rintro o w5 ⟨rfl, hb5⟩
            have hB5 := hB3.trans (((below_q w3 q).trans hb5).mono hB3.size)
            have htt : (t.toList == t.toList) = true := by simp
            go_wp2
            go_ret
            exact ⟨rfl, hB5⟩
    · have hok' : okT t 2000 = false := by simpa using hok
      have ht0 : t.size ≠ 0 := by
        intro e
        apply hok
        have : t = ⟨#[]⟩ := by
          apply ByteArray.ext
          apply Array.eq_empty_of_size_eq_zero
          exact e
        rw [this]; rfl
      have hc0 : (0 : Int) < (t.size : Int) := by omega
      have HC : Hid (crcZ t = -1) := by simp [crcZ, hok', Hid]
      rw [stuffZ_bad hok']
      clear hok hok'
      go_wp2_with (first | (go_at_call 16; refine (specCrc_any t _ htm).mono ?_; rw [HC.out]; rintro o w4 ⟨rfl, hb4⟩))
      go_ret
      exact ⟨rfl, hB3.trans (hb4.mono hB3.size)⟩
end Go.Proofs.Ytnefmdjodjpopaa
namespace Go.Proofs.Ytnefmdjodjpopaa
open Go.RowKit

theorem n_int (w0 w : World) (b : Nat) (a : Option Addr) (n cap i : Nat) (l : List Nat) (k : Nat) (K : Int) (hK : K = (k : Int)) (h : srcI w0 b a n cap l i w) (hi : i ≤ 1000000000000) (hk : k ≤ 1000000000) (hk1 : 1 < k) :
    Calls Try.prog 75 #[.pointer (some ⟨b, 0, none⟩), .int .i64 K] w fun o w' => ∃ r : Nat, o = .returned (.int .i64 (r : Int)) ∧ r < k ∧ srcI w0 b a n cap l (i + 1) w' ∧ w.grownBy w' (some b) := by
  subst hK
  refine (n_any w0 w b a n cap i l k h hi hk).mono ?_
  rintro o w' ⟨r, rfl, _, h2, h3, h4⟩
  exact ⟨r, rfl, h2 hk1, h3, h4⟩

set_option maxHeartbeats 1000000 in
theorem genByte_any (w0 w : World) (b : Nat) (a : Option Addr) (n cap i : Nat) (l : List Nat) (h : srcI w0 b a n cap l i w) (hi : i ≤ 100000000000) :
    Calls Try.prog 97 #[.pointer (some ⟨b, 0, none⟩)] w fun o w' => ∃ (x i' : Nat), o = .returned (.int .u8 (x : Int)) ∧ x < 256 ∧ i' ≤ i + 2 ∧ srcI w0 b a n cap l i' w' ∧ w.grownBy w' (some b) := by
  go_enter Try.func97, Try.ntmps97
  go_wp2_with fail
  refine (n_int w0 w b a n cap i l 4 _ rfl h (by omega) (by omega) (by omega)).mono ?_
  rintro o w1 ⟨r, rfl, hr, hI1, hg1⟩
  by_cases h0 : r = 0
  · subst h0
    go_wp2
    go_ret
    exact ⟨0, i + 1, rfl, by omega, by omega, hI1, hg1⟩
  · by_cases h1 : r = 1
    · subst h1
      go_wp2
      go_ret
      exact ⟨255, i + 1, rfl, by omega, by omega, hI1, hg1⟩
    · have h0' : ((r : Int) == 0) = false := by simp; omega
      have h1' : ((r : Int) == 1) = false := by simp; omega
      go_wp2_with fail
      refine (n_int w0 w1 b a n cap _ l 256 _ rfl hI1 (by omega) (by omega) (by omega)).mono ?_
      rintro o w2 ⟨x, rfl, hx, hI2, hg2⟩
      go_wp2
      go_ret
      exact ⟨x, i + 2, rfl, by omega, by omega, hI2, gb_trans hg1 hg2⟩

set_option maxHeartbeats 1000000 in
set_option maxRecDepth 20000 in
theorem genId_any (w0 w : World) (b : Nat) (a : Option Addr) (n cap i : Nat) (l : List Nat) (e : Bool) (h : srcI w0 b a n cap l i w) (hi : i ≤ 100000000000) :
    Calls Try.prog 96 #[.pointer (some ⟨b, 0, none⟩), .bool e] w fun o w' => ∃ (x i' : Nat), o = .returned (.int .u32 (x : Int)) ∧ x < 4294967296 ∧ i' ≤ i + 2 ∧ srcI w0 b a n cap l i' w' ∧ w.grownBy w' (some b) := by
  cases e
  · go_enter Try.func96, Try.ntmps96
    go_wp2_with fail
    refine (n_int w0 w b a n cap i l 6 _ rfl h (by omega) (by omega) (by omega)).mono ?_
    rintro o w1 ⟨r, rfl, hr, hI1, hg1⟩
    rcases (show r = 0 ∨ r = 1 ∨ r = 2 ∨ r = 3 ∨ (4 ≤ r) from by omega) with h0 | h0 | h0 | h0 | h0
    · subst h0
      go_wp2
      go_ret
      exact ⟨0, i + 1, rfl, by omega, by omega, hI1, hg1⟩
    · subst h0
      go_wp2
      go_ret
      exact ⟨2047, i + 1, rfl, by omega, by omega, hI1, hg1⟩
    · subst h0
      go_wp2_with fail
      refine (n_int w0 w1 b a n cap _ l 8 _ rfl hI1 (by omega) (by omega) (by omega)).mono ?_
      rintro o w2 ⟨x, rfl, hx, hI2, hg2⟩
      go_wp2
      go_ret
      exact ⟨x, i + 2, rfl, by omega, by omega, hI2, gb_trans hg1 hg2⟩
    · subst h0
      go_wp2_with fail
      refine (n_int w0 w1 b a n cap _ l 64 _ rfl hI1 (by omega) (by omega) (by omega)).mono ?_
      rintro o w2 ⟨x, rfl, hx, hI2, hg2⟩
      go_wp2
      go_ret
      exact ⟨2047 - x, i + 2, ret_int (by omega), by omega, by omega, hI2, gb_trans hg1 hg2⟩
    · have h0' : ((r : Int) == 0) = false := by simp; omega
      have h1' : ((r : Int) == 1) = false := by simp; omega
      have h2' : ((r : Int) == 2) = false := by simp; omega
      have h3' : ((r : Int) == 3) = false := by simp; omega
      go_wp2_with fail
      refine (n_int w0 w1 b a n cap _ l 2048 _ rfl hI1 (by omega) (by omega) (by omega)).mono ?_
      rintro o w2 ⟨x, rfl, hx, hI2, hg2⟩
      go_wp2
      go_ret
      exact ⟨x, i + 2, rfl, by omega, by omega, hI2, gb_trans hg1 hg2⟩
  · go_enter Try.func96, Try.ntmps96
    go_wp2_with fail
    refine (n_int w0 w b a n cap i l 6 _ rfl h (by omega) (by omega) (by omega)).mono ?_
    rintro o w1 ⟨r, rfl, hr, hI1, hg1⟩
    rcases (show r = 0 ∨ r = 1 ∨ r = 2 ∨ r = 3 ∨ (4 ≤ r) from by omega) with h0 | h0 | h0 | h0 | h0
    · subst h0
      go_wp2
      go_ret
      exact ⟨0, i + 1, rfl, by omega, by omega, hI1, hg1⟩
    · subst h0
      go_wp2
      go_ret
      exact ⟨536870911, i + 1, rfl, by omega, by omega, hI1, hg1⟩
    · subst h0
      go_wp2_with fail
      refine (n_int w0 w1 b a n cap _ l 8 _ rfl hI1 (by omega) (by omega) (by omega)).mono ?_
      rintro o w2 ⟨x, rfl, hx, hI2, hg2⟩
      go_wp2
      go_ret
      exact ⟨x, i + 2, rfl, by omega, by omega, hI2, gb_trans hg1 hg2⟩
    · subst h0
      go_wp2_with fail
      refine (n_int w0 w1 b a n cap _ l 64 _ rfl hI1 (by omega) (by omega) (by omega)).mono ?_
      rintro o w2 ⟨x, rfl, hx, hI2, hg2⟩
      go_wp2
      go_ret
      exact ⟨536870911 - x, i + 2, ret_int (by omega), by omega, by omega, hI2, gb_trans hg1 hg2⟩
    · have h0' : ((r : Int) == 0) = false := by simp; omega
      have h1' : ((r : Int) == 1) = false := by simp; omega
      have h2' : ((r : Int) == 2) = false := by simp; omega
      have h3' : ((r : Int) == 3) = false := by simp; omega
      go_wp2_with fail
      refine (n_int w0 w1 b a n cap _ l 536870912 _ rfl hI1 (by omega) (by omega) (by omega)).mono ?_
      rintro o w2 ⟨x, rfl, hx, hI2, hg2⟩
      go_wp2
      go_ret
      exact ⟨x, i + 2, rfl, by omega, by omega, hI2, gb_trans hg1 hg2⟩
end Go.Proofs.Ytnefmdjodjpopaa
