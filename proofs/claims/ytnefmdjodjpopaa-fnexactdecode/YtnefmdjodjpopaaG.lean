import Derived.Test.YtnefmdjodjpopaaF
namespace Go.Proofs.Ytnefmdjodjpopaa
namespace M
/-- the way back from letters: what is left, the place, what is put out, the run -/
def dsGo : List Nat → Nat → List Nat → Nat × Nat → List Nat × Int
  | [], _, out, _ => (out, -1)
  | c :: rest, i, out, r => if r.2 = 5 ∧ c = r.1 then (out, (i : Int)) else dsGo rest (i + 1) (if r.2 = 5 then out else out ++ [c]) (hear r c)
theorem dsGo_bad (c : Nat) (rest : List Nat) (i : Nat) (out : List Nat) (r : Nat × Nat) (h : r.2 = 5) (hc : c = r.1) : dsGo (c :: rest) i out r = (out, (i : Int)) := by
  rw [dsGo, if_pos ⟨h, hc⟩]
theorem dsGo_skip (c : Nat) (rest : List Nat) (i : Nat) (out : List Nat) (r : Nat × Nat) (h : r.2 = 5) (hc : ¬ c = r.1) : dsGo (c :: rest) i out r = dsGo rest (i + 1) out (hear r c) := by
  rw [dsGo, if_neg (fun e => hc e.2), if_pos h]
theorem dsGo_put (c : Nat) (rest : List Nat) (i : Nat) (out : List Nat) (r : Nat × Nat) (h : ¬ r.2 = 5) : dsGo (c :: rest) i out r = dsGo rest (i + 1) (out ++ [c]) (hear r c) := by
  rw [dsGo, if_neg (fun e => h e.1), if_neg h]
/-- where the way back stands behind k letters -/
structure dsAt (l : List Nat) (k : Nat) (out : List Nat) : Prop where
  eq : dsGo (l.drop k) k out (trail (l.take k)) = dsGo l 0 [] (0, 0)
  len : out.length ≤ k
  all : ∀ x ∈ out, isL x
  run : (trail (l.take k)).2 ≤ 5
theorem dsAt.zero (l : List Nat) : dsAt l 0 [] := ⟨rfl, Nat.le_refl _, (fun x hx => by cases hx), (by exact (by decide : 0 ≤ 5))⟩
theorem drop_at (l : List Nat) (k : Nat) (h : k < l.length) : l.drop k = l[k] :: l.drop (k + 1) := List.drop_eq_getElem_cons h
theorem take_at (l : List Nat) (k : Nat) (h : k < l.length) : l.take (k + 1) = l.take k ++ [l[k]] := List.take_succ_eq_append_getElem h
theorem dsAt.bad {l : List Nat} {k : Nat} {out : List Nat} (h : dsAt l k out) (hk : k < l.length) (h5 : (trail (l.take k)).2 = 5) (hc : l[k] = (trail (l.take k)).1) : dsGo l 0 [] (0, 0) = (out, (k : Int)) := by
  rw [← h.eq, drop_at l k hk, dsGo_bad _ _ _ _ _ h5 hc]
theorem dsAt.skip {l : List Nat} {k : Nat} {out : List Nat} (h : dsAt l k out) (hk : k < l.length) (h5 : (trail (l.take k)).2 = 5) (hc : ¬ l[k] = (trail (l.take k)).1) : dsAt l (k + 1) out := by
  refine ⟨?_, Nat.le_succ_of_le h.len, h.all, ?_⟩
  · rw [← h.eq, drop_at l k hk, dsGo_skip _ _ _ _ _ h5 hc, take_at l k hk, trail_snoc]
  · rw [take_at l k hk, trail_snoc, hear, if_neg hc]; exact (by decide : 1 ≤ 5)
theorem dsAt.put {l : List Nat} {k : Nat} {out : List Nat} (h : dsAt l k out) (hk : k < l.length) (h5 : ¬ (trail (l.take k)).2 = 5) (hl : isL l[k]) : dsAt l (k + 1) (out ++ [l[k]]) := by
  refine ⟨?_, by simpa using h.len, ?_, ?_⟩
  · rw [← h.eq, drop_at l k hk, dsGo_put _ _ _ _ _ h5, take_at l k hk, trail_snoc]
  · intro x hx
    simp at hx
    rcases hx with hx | rfl
    · exact h.all x hx
    · exact hl
  · rw [take_at l k hk, trail_snoc]
    have := h.run
    exact Nat.le_trans (hear_le _ _) (by omega)
theorem dsAt.fin {l : List Nat} {k : Nat} {out : List Nat} (h : dsAt l k out) (hk : l.length ≤ k) : dsGo l 0 [] (0, 0) = (out, -1) := by
  rw [← h.eq, List.drop_eq_nil_of_le hk]; rfl
/-- the letter of the run is the letter before -/
theorem trail_last (l : List Nat) (k : Nat) (h : k < l.length) : (trail (l.take (k + 1))).1 = l[k] := by
  rw [take_at l k h, trail_snoc, hear_fst]
end M
open Go.RowKit

theorem ret_tup {a b : ByteArray} {x y : Int} (h : (a, x) = (b, y)) : Ending.returned (.tuple #[.string a, .int .i64 x]) = .returned (.tuple #[.string b, .int .i64 y]) := by cases h; rfl
/-- what Destuff answers -/
def destZ (s : ByteArray) : ByteArray × Int := if okT s 4000 = true then (strN (M.dsGo (lt s) 0 [] (0, 0)).1, (M.dsGo (lt s) 0 [] (0, 0)).2) else (⟨#[]⟩, -2)
theorem lt_at (s : ByteArray) (k : Nat) (h : k < s.size) (h' : k < (lt s).length) : (lt s)[k] = s[k].toNat := by simp only [lt, List.getElem_map]; rfl

set_option maxHeartbeats 1000000 in
theorem destuff_ok (s : ByteArray) (w : World) (hk : okT s 4000 = true) :
    Calls Try.prog 19 #[.string s] w fun e w' => e = .returned (.tuple #[.string (destZ s).1, .int .i64 (destZ s).2]) ∧ Below w.heap.size w w' := by
    have hsz := okT_size hk
    have HZ : Hid (destZ s = (strN (M.dsGo (lt s) 0 [] (0, 0)).1, (M.dsGo (lt s) 0 [] (0, 0)).2)) := by simp [destZ, hk, Hid]
    go_enter Try.func19, Try.ntmps19
    go_wp2_with (first | (go_at_call 49; refine (isBitText_any _ _ _).mono ?_; rintro e w1 ⟨rfl, hb1⟩) | (at_make; refine make_bytes _ rfl (.const (.int .i64 0)) (.tmp 13) rfl w.heap.size _ s.size rfl rfl (by omega) (by omega) hb1.size ?_; intro w2 hown2 hg2))
    have HK : Hid (okT s 4000 = true) := hk
    clear hk
    have hB2 := Nat.le_trans hb1.size hg2.size
    have st0 : stI w w.heap.size w2.heap.size (w2.heap.size + 1) s 0 (.slice (some ⟨w1.heap.size, 0, none⟩) 0 s.size) [] (0, 0) ((w2.alloc (.cells #[.int .i32 0, .int .i64 0] 60)).iter s 0) := by
      refine ⟨World.ownsRow.alloc (World.ownsRow.alloc hown2 _) _, ?_, ?_, ((hb1.grown hg2 hb1.size (by intro k e; cases e)).alloc hB2 _).alloc (by simp; omega) _, hB2, by omega⟩
      · unfold runAt World.iter
        rw [Below.heap_alloc _ _ _ (by simp)]
        exact heap_alloc_new w2 _
      · have := World.iter_heap (w2.alloc (.cells #[.int .i32 0, .int .i64 0] 60)) s 0
        simpa using this
    clear hown2 hg2
    generalize hb2 : w2.heap.size = b1 at *
    clear hb2
    go_loopw [4, 6, 7, 8] (fun v _ _ _ wr => ∃ (k : Nat) (out : List Nat), k ≤ s.size ∧ M.dsAt (lt s) k out ∧ stI w w.heap.size b1 (b1 + 1) s k v out (M.trail ((lt s).take k)) wr) (fun _ _ _ _ wr => s.size - wr.iterPos (b1 + 1))
    case atStart => exact ⟨0, [], Nat.zero_le _, M.dsAt.zero _, st0⟩
    case round =>
      clear st0
      obtain ⟨k, out, hk, hat, st⟩ := hrel
      by_cases hlt : k < s.size
      · have hv : M.isL s[k].toNat := okT_at HK.out k hlt
        have hv256 : (s[k].toNat : Int) < 256 := by rcases hv with h | h <;> omega
        have hkl : k < (lt s).length := by rw [lt_length]; exact hlt
        have hlk := lt_at s k hlt hkl
        have hrun := hat.run
        have hll := hat.len
        have HX : Hid ((lt s).take (k + 1) = (lt s).take k ++ [s[k].toNat]) := lt_snoc s k hlt
        have hnx := fun ty => Lib.run_next_ascii_at (P := Try.prog) wr (b1 + 1) s k ty st.it hlt (by rcases hv with h | h <;> omega)
        have st1 := st.next (k + 1)
        have HP : Hid (wr.iterPos (b1 + 1) = k) := iterPos_of st.it
        clear st
        generalize wr.iterAt (b1 + 1) s (k + 1) = wr1 at *
        have HT : Hid (M.hear (M.trail ((lt s).take k)) s[k].toNat = M.trail ((lt s).take (k + 1))) := by rw [HX.out, M.trail_snoc]; exact rfl
        by_cases h5 : (M.trail ((lt s).take k)).2 = 5
        · have hd5 : decide ((M.trail ((lt s).take k)).2 = 5) = true := decide_eq_true h5
          by_cases hc : (lt s)[k] = (M.trail ((lt s).take k)).1
          · have HE : Hid (M.dsGo (lt s) 0 [] (0, 0) = (out, (k : Int))) := hat.bad hkl h5 hc
            have hcv := conv_own st1.own (isL_lt hat.all)
            have hbel := st1.bel
            have hq : ((s[k].toNat : Int) == ((M.trail ((lt s).take k)).1 : Int)) = true := by rw [← hc, hlk]; simp
            clear hat h5 hc HT hlk
            generalize M.trail ((lt s).take k) = r at *
            have c0 := st1.run.c0
            go_wp2_with (first | (go_at_call 52; refine (full_any _ b1 _ st1.run).mono ?_; rw [hd5]; rintro e w4 ⟨rfl, rfl⟩))
            go_ret2
            exact ⟨ret_tup (by rw [HZ.out, HE.out]), hbel⟩
          · have hat' := hat.skip hkl h5 hc
            have hq : ((s[k].toNat : Int) == ((M.trail ((lt s).take k)).1 : Int)) = false := by rw [← hlk]; simp; omega
            clear hat h5 hc hlk
            generalize M.trail ((lt s).take k) = r at *
            have c0 := st1.run.c0
            go_wp2_with (first | (go_at_call 52; refine (full_any _ b1 _ st1.run).mono ?_; rw [hd5]; rintro e w4 ⟨rfl, rfl⟩) | (go_at_call 53; refine (hear_any _ b1 _ s[k].toNat st1.run (by omega)).mono ?_; rw [HT.out]; rintro e w3 ⟨rfl, hr3, hg3⟩))
            have st3 := st1.hear hr3 hg3
            clear st1 hr3 hg3
            go_roundw
            case rel => exact ⟨k + 1, out, by omega, hat', st3⟩
            case measure => rw [iterPos_of st3.it, HP.out]; omega
        · have hat' := hat.put hkl h5 (by rw [hlk]; exact hv)
          rw [hlk] at hat'
          have hd5 : decide ((M.trail ((lt s).take k)).2 = 5) = false := decide_eq_false h5
          clear hat h5 hlk
          generalize M.trail ((lt s).take k) = r at *
          go_wp2_with (first | (go_at_call 52; refine (full_any _ b1 _ st1.run).mono ?_; rw [hd5]; rintro e w4 ⟨rfl, rfl⟩) | (go_at_call 53; refine (hear_any _ b1 _ s[k].toNat st1.run (by omega)).mono ?_; rw [HT.out]; rintro e w3 ⟨rfl, hr3, hg3⟩; have st3 := st1.hear hr3 hg3; clear st1 hr3 hg3) | (at_builtin; (refine app_byte2 w _ rfl (.tmp 36) (.tmp 39) rfl w.heap.size _ out s[k].toNat _ (by omega) rfl (stI.own (by assumption)) rfl (by omega) (stI.size (by assumption)) (stI.bel (by assumption)) ?_)))
          intro v5 w5 ho5 hb5 hk5
          have st5 := st3.app ho5 hb5 hk5
          clear st3 ho5 hb5 hk5
          go_wp2
          go_roundw
          case rel => exact ⟨k + 1, _, by omega, hat', st5⟩
          case measure => rw [iterPos_of st5.it, HP.out]; omega
      · have hke : (lt s).take k = lt s := List.take_of_length_le (by rw [lt_length]; omega)
        have HE : Hid (M.dsGo (lt s) 0 [] (0, 0) = (out, -1)) := hat.fin (by rw [lt_length]; omega)
        have hcv := conv_own st.own (isL_lt hat.all)
        have hnx : ∀ ty, (Instr.next (.pointer (some ⟨b1 + 1, 0, none⟩)) true ty).run Try.prog wr = _ := fun ty => Lib.run_next_end_at wr (b1 + 1) s k ty st.it hlt
        have hbel := st.bel
        clear st hke hat
        go_wp2
        go_ret2
        exact ⟨ret_tup (by rw [HZ.out, HE.out]), hbel⟩

theorem destuff_any (s : ByteArray) (w : World) :
    Calls Try.prog 19 #[.string s] w fun e w' => e = .returned (.tuple #[.string (destZ s).1, .int .i64 (destZ s).2]) ∧ Below w.heap.size w w' := by
  by_cases hk : okT s 4000 = true
  · exact destuff_ok s w hk
  · have hk' : okT s 4000 = false := by simpa using hk
    have HZ : Hid (destZ s = (⟨#[]⟩, -2)) := by simp [destZ, hk', Hid]
    clear hk
    go_enter Try.func19, Try.ntmps19
    go_wp2_with (go_at_call 49; refine (isBitText_any _ _ _).mono ?_; rintro e w1 ⟨rfl, hb1⟩)
    go_ret2
    exact ⟨ret_tup HZ.out.symm, hb1⟩

theorem rowB.below {B : Nat} {w w' : World} {g n : Nat} {f : Nat → Nat} (h : rowB w g n f) (hb : Below B w w') (hg : g < B) : rowB w' g n f :=
  ⟨fun t ht => (hb.cell (by exact hg)).trans (h.cell t ht), fun t ht => (hb.frozen (by exact hg)).trans (h.free t ht)⟩
theorem bytesRow_at (s : ByteArray) (cap t : Nat) (h : t < s.size) : (bytesRow s cap)[t]? = some (.int .u8 ((lt s).getD t 0 : Int)) := by
  have hd : t < s.data.size := h
  unfold bytesRow
  rw [Array.getElem?_append_left (by simpa using hd)]
  simp only [lt, List.getD, List.getElem?_map, Array.getElem?_map, Array.getElem?_toList]
  rw [Array.getElem?_eq_getElem hd]
  rfl
theorem rowB_bytes (w : World) (s : ByteArray) (cap : Nat) : rowB (w.alloc (.cells (bytesRow s cap) 5 ((bytesRow s cap).size, (bytesRow s cap).size + 1))) w.heap.size s.size (fun t => (lt s).getD t 0) := by
  refine ⟨fun t ht => ?_, fun t ht => ?_⟩
  · rw [World.cell?_alloc_mark, bytesRow_at s cap t ht]
  · have h1 : (w.alloc (.cells (bytesRow s cap) 5 ((bytesRow s cap).size, (bytesRow s cap).size + 1))).heap[w.heap.size]? = _ := heap_alloc_new w _
    have h2 : s.size ≤ (bytesRow s cap).size := by unfold bytesRow; simp
    simp only [World.frozen?, h1]
    simp
    omega
theorem dueF_congr {f f' : Nat → Nat} {i : Nat} (h : ∀ t, t < i → f t = f' t) : dueF f i = dueF f' i := by
  unfold dueF
  by_cases h5 : 5 ≤ i
  · rw [h (i - 1) (by omega), h (i - 2) (by omega), h (i - 3) (by omega), h (i - 4) (by omega), h (i - 5) (by omega)]
  · simp [h5]
theorem due_take (l : List Nat) (k : Nat) (hk : k ≤ l.length) (hr : (M.trail (l.take k)).2 ≤ 5) : dueF (fun t => l.getD t 0) k = decide ((M.trail (l.take k)).2 = 5) := by
  have h1 := due_trail (l.take k)
  rw [List.length_take, Nat.min_eq_left hk] at h1
  rw [dueF_congr (f' := fun t => (l.take k).getD t 0) (fun t ht => by simp [List.getD, ht]), h1]
  rw [Bool.eq_iff_iff]; simp; omega
set_option maxHeartbeats 1000000 in
theorem specDestuff_ok (s : ByteArray) (w : World) (hs : s.size ≤ maxLen) (hk : okT s 4000 = true) :
    Calls Try.prog 18 #[.string s] w fun e w' => e = .returned (.tuple #[.string (destZ s).1, .int .i64 (destZ s).2]) ∧ Below w.heap.size w w' := by
    have hsz := okT_size hk
    have HZ : Hid (destZ s = (strN (M.dsGo (lt s) 0 [] (0, 0)).1, (M.dsGo (lt s) 0 [] (0, 0)).2)) := by simp [destZ, hk, Hid]
    have hcb := fun w => run_bytes_of_string (P := Try.prog) w 9 28 5 s Try.underlying9 Try.underlying28 Try.underlying5
    go_enter Try.func18, Try.ntmps18
    go_wp2_with (go_at_call 48; refine (okBits_any _ _ _ hs).mono ?_; rintro e w1 ⟨rfl, rfl⟩)
    clear hcb
    generalize grownCap w s.size 0 5 = cap
    have hrow0 := rowB_bytes w s cap
    have hown0 := own_nil (w.alloc (.cells (bytesRow s cap) 5 ((bytesRow s cap).size, (bytesRow s cap).size + 1))) (w.heap.size + 1) (by simp)
    have hwA : Below w.heap.size w (w.alloc (.cells (bytesRow s cap) 5 ((bytesRow s cap).size, (bytesRow s cap).size + 1))) := (Below.refl _ _).alloc (Nat.le_refl _) _
    have hzA : (w.alloc (.cells (bytesRow s cap) 5 ((bytesRow s cap).size, (bytesRow s cap).size + 1))).heap.size = w.heap.size + 1 := by simp
    generalize w.alloc (.cells (bytesRow s cap) 5 ((bytesRow s cap).size, (bytesRow s cap).size + 1)) = wA at *
    rw [hzA] at hown0
    have HK : Hid (okT s 4000 = true) := hk
    clear hk
    have hfin : ∀ w', Below (w.heap.size + 1) wA w' → Below w.heap.size w w' := fun w' h => hwA.trans (h.mono (by omega))
    have HF : Hid (∀ w', Below (w.heap.size + 1) wA w' → Below w.heap.size w w') := hfin
    have HzA : Hid (wA.heap.size = w.heap.size + 1) := hzA
    clear hfin hwA hzA
    go_loopw [5, 6] (fun v i wr => ∃ (k : Nat) (out : List Nat), k ≤ s.size ∧ i = .int .i64 k ∧ M.dsAt (lt s) k out ∧ ownsB wr (w.heap.size + 1) v out ∧ Below (w.heap.size + 1) wA wr ∧ w.heap.size + 1 ≤ wr.heap.size) (fun _ i _ => s.size - (intOf i).toNat)
    case atStart => exact ⟨0, [], Nat.zero_le _, rfl, M.dsAt.zero _, World.ownsRow.drew hown0, ((Below.refl _ _).alloc (by rw [HzA.out]; exact Nat.le_refl _) _).drew, by simp [HzA.out]⟩
    case round =>
      clear hown0
      obtain ⟨k, out, hk, rfl, hat, hown, hbel, hz⟩ := hrel
      by_cases hlt : k < s.size
      · have hv : M.isL s[k].toNat := okT_at HK.out k hlt
        have hkl : k < (lt s).length := by rw [lt_length]; exact hlt
        have hlk := lt_at s k hlt hkl
        have hrun := hat.run
        have hll := hat.len
        have hrow := hrow0.below hbel (by omega)
        have hc := hrow.cell k hlt
        have hgk : (lt s).getD k 0 = s[k].toNat := by rw [← hlk]; simp [List.getD, hkl]
        simp only [hgk] at hc
        have HD : Hid (dueF (fun t => (lt s).getD t 0) k = decide ((M.trail ((lt s).take k)).2 = 5)) := due_take (lt s) k (by omega) hrun
        by_cases h5 : (M.trail ((lt s).take k)).2 = 5
        · have HD' : Hid (dueF (fun t => (lt s).getD t 0) k = true) := by rw [HD.out]; exact decide_eq_true h5
          have hk5 : 1 ≤ k := by
            have := M.trail_le ((lt s).take k)
            rw [List.length_take] at this
            omega
          obtain ⟨m, rfl⟩ : ∃ m, k = m + 1 := ⟨k - 1, by omega⟩
          have hml : m < (lt s).length := by omega
          have hcm := hrow.cell m (by omega)
          have hgm : (lt s).getD m 0 = (M.trail ((lt s).take (m + 1))).1 := by rw [M.trail_last _ m hml]; simp [List.getD, hml]
          simp only [hgm] at hcm
          by_cases he : (lt s)[m + 1] = (M.trail ((lt s).take (m + 1))).1
          · have HE : Hid (M.dsGo (lt s) 0 [] (0, 0) = (out, ((m + 1 : Nat) : Int))) := hat.bad hkl h5 he
            have hq : ((s[m + 1].toNat : Int) == ((M.trail ((lt s).take (m + 1))).1 : Int)) = true := by rw [← he, hlk]; simp
            have hcv := fun q => conv_own (hown.drewN q) (isL_lt hat.all)
            clear hat h5 he hlk HD hgk hgm hrow0
            generalize (M.trail ((lt s).take (m + 1))).1 = y at *
            go_wp2_with (go_at_call 51; refine (due_any _ w.heap.size s.size cap _ _ hrow hk (by omega)).mono ?_; rw [HD'.out]; rintro e w2 ⟨rfl, q, rfl⟩)
            go_quiet (fail)
            go_wp2
            go_ret2
            exact ⟨ret_tup (by rw [HZ.out, HE.out]; rfl), HF.out _ (below_drewN hbel _)⟩
          · have hat' := hat.skip hkl h5 he
            have hq : ((s[m + 1].toNat : Int) == ((M.trail ((lt s).take (m + 1))).1 : Int)) = false := by rw [← hlk]; simp; omega
            clear hat h5 he hlk HD hgk hgm
            generalize (M.trail ((lt s).take (m + 1))).1 = y at *
            go_wp2_with (go_at_call 51; refine (due_any _ w.heap.size s.size cap _ _ hrow hk (by omega)).mono ?_; rw [HD'.out]; rintro e w2 ⟨rfl, q, rfl⟩)
            go_quiet (fail)
            go_wp2
            go_roundw
            case rel => exact ⟨m + 1 + 1, out, by omega, by go_num, hat', hown.drewN _, below_drewN hbel _, by simpa using hz⟩
            case measure => simp [intOf]; omega
        · have HD' : Hid (dueF (fun t => (lt s).getD t 0) k = false) := by rw [HD.out]; exact decide_eq_false h5
          have hat' := hat.put hkl h5 (by rw [hlk]; exact hv)
          rw [hlk] at hat'
          clear hat h5 hlk HD hgk
          go_wp2_with (first | (go_at_call 51; refine (due_any _ w.heap.size s.size cap _ _ hrow hk (by omega)).mono ?_; rw [HD'.out]; rintro e w2 ⟨rfl, q, rfl⟩) | (at_builtin; refine app_byte wA (wr.drewN q) rfl (.tmp 23) (.tmp 28) rfl (w.heap.size + 1) _ out s[k].toNat _ rfl rfl (hown.drewN q) rfl (by omega) (by simpa using hz) (below_drewN hbel q) ?_))
          intro v3 w3 hown3 hbel3 hz3
          clear hown hbel hz hrow hc
          go_wp2
          go_roundw
          case rel => exact ⟨k + 1, _, by omega, by go_num, hat', hown3, hbel3, hz3⟩
          case measure => simp [intOf]; omega
      · have HE : Hid (M.dsGo (lt s) 0 [] (0, 0) = (out, -1)) := hat.fin (by rw [lt_length]; omega)
        have hcv := conv_own hown (isL_lt hat.all)
        clear hat
        go_wp2
        go_ret2
        exact ⟨ret_tup (by rw [HZ.out, HE.out]), HF.out _ hbel⟩

theorem specDestuff_any (s : ByteArray) (w : World) (hs : s.size ≤ maxLen) :
    Calls Try.prog 18 #[.string s] w fun e w' => e = .returned (.tuple #[.string (destZ s).1, .int .i64 (destZ s).2]) ∧ Below w.heap.size w w' := by
  by_cases hk : okT s 4000 = true
  · exact specDestuff_ok s w hs hk
  · have hk' : okT s 4000 = false := by simpa using hk
    have HZ : Hid (destZ s = (⟨#[]⟩, -2)) := by simp [destZ, hk', Hid]
    clear hk
    go_enter Try.func18, Try.ntmps18
    go_wp2_with (go_at_call 48; refine (okBits_any _ _ _ hs).mono ?_; rintro e w1 ⟨rfl, rfl⟩)
    go_ret2
    exact ⟨ret_tup HZ.out.symm, Below.refl _ _⟩

/-- laws.FnExactDestuff -/
theorem lawDestuff (s : ByteArray) (w : World) (hs : s.size ≤ maxLen) :
    Calls Try.prog 4 #[.string s] w fun e w' => e = .returned (.bool true) ∧ Below w.heap.size w w' := by
  have hs' := hs
  unfold maxLen at hs'
  by_cases hl : (1048576 : Int) < (s.size : Int)
  · go_enter Try.func4, Try.ntmps4
    go_wp2
    go_ret
    exact ⟨rfl, Below.refl _ _⟩
  · go_enter Try.func4, Try.ntmps4
    go_wp2_with (first | (go_at_call 18; refine (specDestuff_any _ _ hs).mono ?_; rintro e w1 ⟨rfl, hb1⟩) | (go_at_call 19; refine (destuff_any _ _).mono ?_; rintro e w2 ⟨rfl, hb2⟩))
    go_ret
    exact ⟨rfl, hb1.trans (hb2.mono hb1.size)⟩
end Go.Proofs.Ytnefmdjodjpopaa
