import Derived.Test.YtnefmdjodjpopaaE
namespace Go.Proofs.Ytnefmdjodjpopaa
open Go.RowKit

theorem ownsB.kind {w : World} {B : Nat} {v : Value} {l : List Nat} (h : ownsB w B v l) : ∀ g, v.ownBlock = some g → ∃ c fz, w.heap[g]? = some (.cells c 5 fz) := by
  intro g hg
  obtain ⟨_, ⟨rfl, _⟩ | ⟨g', cap, cur, rfl, _, hh, _⟩⟩ := h
  · simp [Value.ownBlock] at hg
  · simp [Value.ownBlock] at hg
    subst hg
    exact ⟨cur, _, hh⟩
/-- one letter put behind a row of letters that the call itself made; all other blocks stand -/
theorem app_byte2 {ops : Array Oper} {rest : List Oper} {o : Oper} {a : Act} {Q : Exit → Act → World → Prop} (w0 wr : World) (hgd : o.guard = none) (s x : Operand)
    (ho : o.op = .call { callee := .builtin .append, args := #[s, x], argTypes := #[28, 28] })
    (B : Nat) (v : Value) (l : List Nat) (c : Nat) (ci : Int) (hci : ci = (c : Int)) (hs : a.eval s = v) (hown : ownsB wr B v l)
    (hx : a.eval x = .slice (some ⟨wr.heap.size, 0, none⟩) 1 1) (hlen : l.length ≤ 100000000) (hB : B ≤ wr.heap.size) (hbel : Below B w0 wr)
    (h : ∀ v' w', ownsB w' B v' (l ++ [c]) → Below B w0 w' → Lib.OthersKept 5 none wr w' → wpList Try.prog ops Q rest (a.put o.dst v') w') :
    wpList Try.prog ops Q (o :: rest) a (wr.alloc (.cells #[.int .u8 ci] 5)) := by
  subst hci
  obtain ⟨i0, hi, hz0, hz1, hz2⟩ := info_parts Try.info5
  refine wpList_append_own _ hgd s x 28 ho B 5 i0 (.int .u8 0) 1 1 Try.underlying28 hi hz0 hz1 hz2 rfl (by decide) v l.length (bv l) hs (World.ownsRow.alloc hown _) ⟨wr.heap.size, 0, none⟩ 1 1 [.int .u8 (c : Int)] hx rfl ?_ ?_ ?_ ?_ ?_ ?_
  · intro j u hj
    match j, hj with
    | 0, hj => simp at hj; subst hj; simp [Addr.add]
  · intro u hu; simp at hu; subst hu; rfl
  · unfold maxLen; omega
  · omega
  · simp; omega
  · intro v' w' ho' hg _
    have hr : ∀ k, v.ownBlock = some k → B ≤ k := fun k hk => (World.ownsRow.lt hown k hk).1
    refine h v' w' ?_ ((hbel.alloc hB _).grown hg (by simp; omega) hr) (((Lib.OthersKept.refl 5 none wr).alloc _).grown hg ?_)
    · have e1 : bv (l ++ [c]) = bv l ++ [.int .u8 (c : Int)] := by simp [bv]
      unfold ownsB
      rw [e1, List.length_append]
      exact ho'
    · intro g hg'
      exact ownsB.kind (B := B) (l := l) (World.ownsRow.alloc hown _) g hg'

/-- the two cells of a run -/
def runAt (w : World) (b : Nat) (r : Nat × Nat) : Prop := w.heap[b]? = some (.cells #[.int .i32 (r.1 : Int), .int .i64 (r.2 : Int)] 60 (0, 0))
theorem runAt.c0 {w : World} {b : Nat} {r : Nat × Nat} (h : runAt w b r) : w.cell? ⟨b, 0, none⟩ = some (.int .i32 (r.1 : Int)) := by unfold runAt at h; simp [World.cell?, h]
theorem runAt.c1 {w : World} {b : Nat} {r : Nat × Nat} (h : runAt w b r) : w.cell? ⟨b, 1, none⟩ = some (.int .i64 (r.2 : Int)) := by unfold runAt at h; simp [World.cell?, h]
theorem runAt.f0 {w : World} {b : Nat} {r : Nat × Nat} (h : runAt w b r) (i : Nat) : w.frozen? ⟨b, i, none⟩ = false := by unfold runAt at h; simp [World.frozen?, h]

theorem gb_refl (w : World) (b : Option Nat) : w.grownBy w b := ⟨rfl, rfl, rfl, Nat.le_refl _, fun _ _ _ => rfl⟩
theorem gb_set {w w1 : World} {b : Nat} (h : w.grownBy w1 (some b)) (i : Nat) (v : Value) : w.grownBy (w1.setCell ⟨b, i, none⟩ v) (some b) :=
  ⟨h.os, h.tape, h.output, by simpa using h.size, fun k hk hne => (heap_setCell_other w1 ⟨b, i, none⟩ k v (fun e => hne (by simp [e]))).trans (h.block k hk hne)⟩
theorem full_any (w : World) (b : Nat) (r : Nat × Nat) (h : runAt w b r) :
    Calls Try.prog 52 #[.pointer (some ⟨b, 0, none⟩)] w fun e w' => e = .returned (.bool (decide (r.2 = 5))) ∧ w = w' := by
  have c1 := h.c1
  have hb : ((r.2 : Int) == 5) = decide (r.2 = 5) := by rw [Bool.eq_iff_iff]; simp; omega
  go_enter Try.func52, Try.ntmps52
  go_wp2
  go_ret
  exact ⟨rfl, rfl⟩
theorem hear_any (w : World) (b : Nat) (r : Nat × Nat) (c : Nat) (h : runAt w b r) (hr : r.2 ≤ 100000) :
    Calls Try.prog 53 #[.pointer (some ⟨b, 0, none⟩), .int .i32 c] w fun e w' => e = .returned (.tuple #[]) ∧ runAt w' b (M.hear r c) ∧ w.grownBy w' (some b) := by
  have c0 := h.c0
  have c1 := h.c1
  have f0 := h.f0 0
  have f1 := h.f0 1
  by_cases hc : c = r.1
  · have hb : ((c : Int) != (r.1 : Int)) = false := by simp; omega
    go_enter Try.func53, Try.ntmps53
    go_wp2
    go_end0
    refine ⟨rfl, ?_, gb_set (gb_refl _ _) _ _⟩
    have h1 := heap_setCell_same w b 1 _ _ (Value.int IntKind.i64 ((r.2 : Int) + 1)) h
    unfold runAt
    rw [h1, M.hear, if_pos hc]
    simp
  · have hb : ((c : Int) != (r.1 : Int)) = true := by simp; omega
    go_enter Try.func53, Try.ntmps53
    go_wp2
    go_end0
    refine ⟨rfl, ?_, gb_set (gb_set (gb_set (gb_refl _ _) _ _) _ _) _ _⟩
    have h1 := heap_setCell_same w b 0 _ _ (Value.int IntKind.i32 (c : Int)) h
    have h2 := heap_setCell_same _ b 1 _ _ (Value.int IntKind.i64 0) h1
    have h3 := heap_setCell_same _ b 1 _ _ (Value.int IntKind.i64 1) h2
    unfold runAt
    rw [h3, M.hear, if_neg hc]
    simp
theorem opp_any (c : Nat) (w : World) (h : M.isL c) :
    Calls Try.prog 55 #[.int .i32 c] w fun e w' => e = .returned (.int .i32 ((97 - c : Nat) : Int)) ∧ w = w' := by
  rcases h with rfl | rfl
  · go_enter Try.func55, Try.ntmps55
    go_wp2
    go_ret
    exact ⟨rfl, rfl⟩
  · go_enter Try.func55, Try.ntmps55
    go_wp2
    go_ret
    exact ⟨rfl, rfl⟩

/-- what stands in the world of impl.Stuff's and impl.Destuff's loop: the letters put out, the run, the iterator -/
structure stI (w0 : World) (B b1 b2 : Nat) (s : ByteArray) (k : Nat) (v : Value) (l : List Nat) (r : Nat × Nat) (w : World) : Prop where
  own : ownsB w B v l
  run : runAt w b1 r
  it : w.heap[b2]? = some (.stringIter s k)
  bel : Below B w0 w
  B1 : B ≤ b1
  B2 : B ≤ b2
theorem stI.size {w0 : World} {B b1 b2 : Nat} {s : ByteArray} {k : Nat} {v : Value} {l : List Nat} {r : Nat × Nat} {w : World} (h : stI w0 B b1 b2 s k v l r w) : B ≤ w.heap.size :=
  Nat.le_of_lt (Nat.lt_of_le_of_lt h.B1 (lt_of_block h.run))
theorem stI.ne {w0 : World} {B b1 b2 : Nat} {s : ByteArray} {k : Nat} {v : Value} {l : List Nat} {r : Nat × Nat} {w : World} (h : stI w0 B b1 b2 s k v l r w) : b1 ≠ b2 := by
  intro e
  have h1 := h.run
  have h2 := h.it
  rw [← e, h1] at h2
  cases h2
theorem ownsB.otherBlock {w w' : World} {B : Nat} {v : Value} {l : List Nat} (h : ownsB w B v l) (hk : ∀ g, v.ownBlock = some g → w'.heap[g]? = w.heap[g]?) : ownsB w' B v l := by
  obtain ⟨h1, h2 | ⟨g, cap, cur, rfl, hb, hh, rest⟩⟩ := h
  · exact ⟨h1, .inl h2⟩
  · exact ⟨h1, .inr ⟨g, cap, cur, rfl, hb, (hk g rfl).trans hh, rest⟩⟩
theorem stI.next {w0 : World} {B b1 b2 : Nat} {s : ByteArray} {k : Nat} {v : Value} {l : List Nat} {r : Nat × Nat} {w : World} (h : stI w0 B b1 b2 s k v l r w) (k' : Nat) : stI w0 B b1 b2 s k' v l r (w.iterAt b2 s k') := by
  refine ⟨h.own.otherBlock (fun g hg => ?_), (Lib.iterAt_other w b2 b1 s k' h.ne).trans h.run, Lib.iterAt_heap w b2 s k k' h.it, Lib.below_iterAt h.bel h.B2 s k', h.B1, h.B2⟩
  obtain ⟨c, fz, hc⟩ := h.own.kind g hg
  refine Lib.iterAt_other w b2 g s k' (fun e => ?_)
  rw [e, h.it] at hc
  cases hc
theorem stI.hear {w0 : World} {B b1 b2 : Nat} {s : ByteArray} {k : Nat} {v : Value} {l : List Nat} {r r' : Nat × Nat} {w w' : World} (h : stI w0 B b1 b2 s k v l r w) (hr : runAt w' b1 r') (hg : w.grownBy w' (some b1)) : stI w0 B b1 b2 s k v l r' w' := by
  refine ⟨h.own.otherBlock (fun g hgv => ?_), hr, ?_, h.bel.grown hg h.size (fun k e => by cases e; exact h.B1), h.B1, h.B2⟩
  · obtain ⟨c, fz, hc⟩ := h.own.kind g hgv
    refine hg.block g (lt_of_block hc) (fun e => ?_)
    cases e
    rw [h.run] at hc
    cases hc
  · rw [hg.block b2 (lt_of_block h.it) (fun e => h.ne (by cases e; rfl))]
    exact h.it
theorem stI.app {w0 : World} {B b1 b2 : Nat} {s : ByteArray} {k : Nat} {v v' : Value} {l l' : List Nat} {r : Nat × Nat} {w w' : World} (h : stI w0 B b1 b2 s k v l r w) (ho : ownsB w' B v' l') (hb : Below B w0 w') (hk : Lib.OthersKept 5 none w w') : stI w0 B b1 b2 s k v' l' r w' :=
  ⟨ho, hk _ _ h.run (by simp) (by intro c fz e; cases e), hk _ _ h.it (by simp) (by intro c fz e; cases e), hb, h.B1, h.B2⟩

theorem make_bytes {ops : Array Oper} {rest : List Oper} {o : Oper} {a : Act} {Q : Exit → Act → World → Prop} (w : World)
    (hg : o.guard = none) (l c : Operand) (hop : o.op = Op.makeSlice 28 l c) (B : Nat) (C : Int) (n : Nat) (hl : a.eval l = .int .i64 0) (hc : a.eval c = .int .i64 C) (hC : C = (n : Int)) (hn : n ≤ 100000000) (hB : B ≤ w.heap.size)
    (hK : ∀ w', ownsB w' B (.slice (some ⟨w.heap.size, 0, none⟩) 0 n) [] → w.grownBy w' none → wpList Try.prog ops Q rest (a.put o.dst (.slice (some ⟨w.heap.size, 0, none⟩) 0 n)) w') :
    wpList Try.prog ops Q (o :: rest) a w := by
  obtain ⟨i0, hi, hz0, hz1, hz2⟩ := info_parts Try.info5
  exact wpList_make_own w hg l c 28 hop B 5 i0 (.int .u8 0) 1 Try.underlying28 hi hz0 hz1 .i64 .i64 C n hl hc hC (by rw [hz2]; omega) (by unfold maxLen; omega) hB hK

set_option maxHeartbeats 1000000 in
theorem stuff_ok (s : ByteArray) (w : World) (hk : okT s 2000 = true) :
    Calls Try.prog 21 #[.string s] w fun e w' => e = .returned (.string (stuffZ s)) ∧ Below w.heap.size w w' := by
    have hsz := okT_size hk
    go_enter Try.func21, Try.ntmps21
    go_wp2_with (first | (go_at_call 49; refine (isBitText_any _ _ _).mono ?_; rintro e w1 ⟨rfl, hb1⟩) | (at_make; refine make_bytes _ rfl (.const (.int .i64 0)) (.tmp 16) rfl w.heap.size _ (s.size + s.size / 4 + 1) rfl rfl (by omega) (by omega) hb1.size ?_; intro w2 hown2 hg2))
    have HK : Hid (okT s 2000 = true) := hk
    clear hk
    have hB2 := Nat.le_trans hb1.size hg2.size
    have st0 : stI w w.heap.size w2.heap.size (w2.heap.size + 1) s 0 (.slice (some ⟨w1.heap.size, 0, none⟩) 0 (s.size + s.size / 4 + 1)) [] (0, 0) ((w2.alloc (.cells #[.int .i32 0, .int .i64 0] 60)).iter s 0) := by
      refine ⟨World.ownsRow.alloc (World.ownsRow.alloc hown2 _) _, ?_, ?_, ((hb1.grown hg2 hb1.size (by intro k e; cases e)).alloc hB2 _).alloc (by simp; omega) _, hB2, by omega⟩
      · unfold runAt World.iter
        rw [Below.heap_alloc _ _ _ (by simp)]
        exact heap_alloc_new w2 _
      · have := World.iter_heap (w2.alloc (.cells #[.int .i32 0, .int .i64 0] 60)) s 0
        simpa using this
    clear hown2 hg2
    generalize hb2 : w2.heap.size = b1 at *
    clear hb2
    go_loopw [3, 6] (fun v _ wr => ∃ k : Nat, k ≤ s.size ∧ stI w w.heap.size b1 (b1 + 1) s k v (M.stuffL ((lt s).take k)) (M.trail (M.stuffL ((lt s).take k))) wr) (fun _ _ wr => s.size - wr.iterPos (b1 + 1))
    case atStart => exact ⟨0, Nat.zero_le _, st0⟩
    case round =>
      clear st0
      obtain ⟨k, hk, st⟩ := hrel
      by_cases hlt : k < s.size
      · have hv : M.isL s[k].toNat := okT_at HK.out k hlt
        have hv256 : (s[k].toNat : Int) < 256 := by rcases hv with h | h <;> omega
        have hL : ∀ x ∈ (lt s).take k, M.isL x := fun x hx => lt_isL HK.out x (List.mem_of_mem_take hx)
        have hrun := M.stuff_run _ hL
        have hll : (M.stuffL ((lt s).take k)).length ≤ 4000 := by
          have := M.stuff_len ((lt s).take k)
          rw [List.length_take, lt_length] at this
          omega
        have HS : Hid (M.stuffL ((lt s).take (k + 1)) = M.stStep (M.stuffL ((lt s).take k)) s[k].toNat) := by rw [lt_snoc s k hlt, M.stuffL_snoc]; exact rfl
        clear hL
        generalize M.stuffL ((lt s).take k) = l at *
        have hnx := fun ty => Lib.run_next_ascii_at (P := Try.prog) wr (b1 + 1) s k ty st.it hlt (by rcases hv with h | h <;> omega)
        have st1 := st.next (k + 1)
        have HP : Hid (wr.iterPos (b1 + 1) = k) := iterPos_of st.it
        clear st
        generalize wr.iterAt (b1 + 1) s (k + 1) = wr1 at *
        go_wp2_with (first | (at_builtin; (refine app_byte2 w wr1 rfl (.tmp 23) (.tmp 26) rfl w.heap.size _ l s[k].toNat _ (by omega) rfl st1.own rfl (by omega) st1.size st1.bel ?_)))
        intro v2 w2 ho2 hb2 hk2
        have st2 := st1.app ho2 hb2 hk2
        clear st1 ho2 hb2 hk2
        have HT : Hid (M.hear (M.trail l) s[k].toNat = M.trail (l ++ [s[k].toNat])) := (M.trail_snoc _ _).symm
        have hle : (l ++ [s[k].toNat]).length ≤ 4001 := by simp; omega
        have hr5 : (M.trail (l ++ [s[k].toNat])).2 ≤ 5 := by
          rw [M.trail_snoc]; exact Nat.le_trans (M.hear_le _ _) (by omega)
        unfold M.stStep at HS
        generalize hl1 : l ++ [s[k].toNat] = l1 at *
        clear hl1
        by_cases h5 : (M.trail l1).2 = 5
        · have HS' : Hid (M.stuffL (List.take (k + 1) (lt s)) = l1 ++ [97 - s[k].toNat]) := by have := HS.out; rw [if_pos h5] at this; exact this
          have hd5 : decide ((M.trail l1).2 = 5) = true := decide_eq_true h5
          have HT2 : Hid (M.hear (M.trail l1) (97 - s[k].toNat) = M.trail (l1 ++ [97 - s[k].toNat])) := (M.trail_snoc _ _).symm
          clear HS h5
          go_wp2_with (first | (go_at_call 53; refine (hear_any _ b1 _ s[k].toNat st2.run (by omega)).mono ?_; rw [HT.out]; rintro e w3 ⟨rfl, hr3, hg3⟩))
          have st3 := st2.hear hr3 hg3
          clear st2 hr3 hg3
          go_wp2_with (first | (go_at_call 52; refine (full_any _ b1 _ st3.run).mono ?_; rw [hd5]; rintro e w4 ⟨rfl, rfl⟩))
          have hv97 : ((97 - s[k].toNat : Nat) : Int) < 256 := by omega
          have HO : Hid (∀ w, Calls Try.prog 55 #[.int .i32 (s[k].toNat : Int)] w fun e w' => e = .returned (.int .i32 ((97 - s[k].toNat : Nat) : Int)) ∧ w = w') := fun w => opp_any _ w hv
          generalize 97 - s[k].toNat = c' at *
          refine (HO.out _).mono ?_
          rintro e w4 ⟨rfl, rfl⟩
          go_wp2_with (first | (at_builtin; (refine app_byte2 w w3 rfl (.tmp 31) (.tmp 35) rfl w.heap.size _ l1 c' _ (by omega) rfl st3.own rfl (by omega) st3.size st3.bel ?_)))
          intro v5 w5 ho5 hb5 hk5
          have st5 := st3.app ho5 hb5 hk5
          clear st3 ho5 hb5 hk5
          go_wp2_with fail
          refine (HO.out _).mono ?_
          rintro e w6 ⟨rfl, rfl⟩
          go_wp2_with (first | (go_at_call 53; refine (hear_any _ b1 _ c' st5.run (by omega)).mono ?_; rw [HT2.out]; rintro e w7 ⟨rfl, hr7, hg7⟩))
          have st7 := st5.hear hr7 hg7
          clear st5 hr7 hg7
          go_roundw
          case rel => exact ⟨k + 1, by omega, by rw [HS'.out]; exact st7⟩
          case measure => rw [iterPos_of st7.it, HP.out]; omega
        · have HS' : Hid (M.stuffL (List.take (k + 1) (lt s)) = l1) := by have := HS.out; rw [if_neg h5] at this; exact this
          have hd5 : decide ((M.trail l1).2 = 5) = false := decide_eq_false h5
          clear HS h5
          go_wp2_with (first | (go_at_call 53; refine (hear_any _ b1 _ s[k].toNat st2.run (by omega)).mono ?_; rw [HT.out]; rintro e w3 ⟨rfl, hr3, hg3⟩))
          have st3 := st2.hear hr3 hg3
          clear st2 hr3 hg3
          go_wp2_with (first | (go_at_call 52; refine (full_any _ b1 _ st3.run).mono ?_; rw [hd5]; rintro e w4 ⟨rfl, rfl⟩))
          go_roundw
          case rel => exact ⟨k + 1, by omega, by rw [HS'.out]; exact st3⟩
          case measure => rw [iterPos_of st3.it, HP.out]; omega
      · have hke : (lt s).take k = lt s := List.take_of_length_le (by rw [lt_length]; omega)
        rw [hke] at st
        have hcv := conv_own st.own (isL_lt (M.stuff_all _ (lt_isL HK.out)))
        have HZ : Hid (stuffZ s = strN (M.stuffL (lt s))) := by simp [stuffZ, HK.out, Hid]
        have hnx : ∀ ty, (Instr.next (.pointer (some ⟨b1 + 1, 0, none⟩)) true ty).run Try.prog wr = _ := fun ty => Lib.run_next_end_at wr (b1 + 1) s k ty st.it hlt
        have hbel := st.bel
        clear st
        generalize M.stuffL (lt s) = l at *
        clear hke
        go_wp2
        go_ret
        exact ⟨ret_str HZ.out.symm, hbel⟩

theorem stuff_any (s : ByteArray) (w : World) :
    Calls Try.prog 21 #[.string s] w fun e w' => e = .returned (.string (stuffZ s)) ∧ Below w.heap.size w w' := by
  by_cases hk : okT s 2000 = true
  · exact stuff_ok s w hk
  · have hk' : okT s 2000 = false := by simpa using hk
    have HZ : Hid (stuffZ s = ⟨#[]⟩) := by simp [stuffZ, hk', Hid]
    clear hk
    go_enter Try.func21, Try.ntmps21
    go_wp2_with (go_at_call 49; refine (isBitText_any _ _ _).mono ?_; rintro e w1 ⟨rfl, hb1⟩)
    go_ret
    exact ⟨ret_str HZ.out.symm, hb1⟩

/-- laws.FnExactStuff -/
theorem lawStuff (s : ByteArray) (w : World) (hs : s.size ≤ maxLen) :
    Calls Try.prog 5 #[.string s] w fun e w' => e = .returned (.bool true) ∧ Below w.heap.size w w' := by
  have hs' := hs
  unfold maxLen at hs'
  by_cases hl : (1048576 : Int) < (s.size : Int)
  · go_enter Try.func5, Try.ntmps5
    go_wp2
    go_ret
    exact ⟨rfl, Below.refl _ _⟩
  · go_enter Try.func5, Try.ntmps5
    go_wp2_with (first | (go_at_call 20; refine (specStuff_any _ _ hs).mono ?_; rintro e w1 ⟨rfl, hb1⟩) | (go_at_call 21; refine (stuff_any _ _).mono ?_; rintro e w2 ⟨rfl, hb2⟩))
    go_ret
    exact ⟨rfl, hb1.trans (hb2.mono hb1.size)⟩
end Go.Proofs.Ytnefmdjodjpopaa
