import Derived.Test.YtnefmdjodjpopaaAG
namespace Go.Proofs.Ytnefmdjodjpopaa
open Go.RowKit

theorem conv_row {w : World} {g n cap : Nat} {f : Nat → Nat} (h : rowB w g n f) (hf : ∀ t, t < n → f t < 256) : (convert 28 9 (.slice (some ⟨g, 0, none⟩) n cap)).run Try.prog w = .ok (.string (strN ((List.range n).map f))) w := by
  have := run_convert_bytes_back (P := Try.prog) w 28 9 5 ⟨g, 0, none⟩ cap (((List.range n).map f).map UInt8.ofNat) Try.underlying28 Try.underlying5 Try.underlying9 (by
    intro j hj
    have hj' : j < n := by simpa using hj
    have hc := h.cell j hj'
    have hx := hf j hj'
    have e2 : (⟨g, 0, none⟩ : Addr).add j = ⟨g, j, none⟩ := by simp only [Addr.add]; split <;> simp_all
    have e : ((((List.range n).map f).map UInt8.ofNat)[j]).toNat = f j := by simp; omega
    rw [e2, e]
    exact hc)
  simp only [List.length_map, List.length_range] at this
  exact this

theorem new_any (w : World) (a : Option Addr) (n cap : Nat) (l : List Nat) (h : isBytes w a n cap l) (hn : n ≤ 1048576) :
    Calls Try.prog 74 #[.slice a n cap] w fun o w' => ∃ b, o = .returned (.pointer (some ⟨b, 0, none⟩)) ∧ srcI w b a n cap l 0 w' ∧ w.heap.size ≤ b ∧ Below w.heap.size w w' := by
  have HH : Hid (isBytes w a n cap l) := h
  clear h
  go_enter Try.func74, Try.ntmps74
  go_wp2
  go_ret
  have hb : Below w.heap.size w (w.alloc (.cells #[.slice a n cap, .int .i64 0, .int .u64 ((n : Int) + 77)] 101)) := (Below.refl _ _).alloc (Nat.le_refl _) _
  refine ⟨w.heap.size, rfl, ⟨⟨n + 77, ?_⟩, hb, HH.out, Nat.le_refl _⟩, Nat.le_refl _, hb⟩
  exact heap_alloc_new w _
theorem size_any (w0 w : World) (b : Nat) (a : Option Addr) (n cap i : Nat) (l : List Nat) (h : srcI w0 b a n cap l i w) :
    Calls Try.prog 78 #[.pointer (some ⟨b, 0, none⟩)] w fun o w' => o = .returned (.int .i64 (n : Int)) ∧ w = w' := by
  obtain ⟨s, hs⟩ := h.at_
  have hc := hs.cells.1
  clear hs h
  go_enter Try.func78, Try.ntmps78
  go_wp2
  go_ret
  exact ⟨rfl, rfl⟩
theorem repeat_any (w : World) (s : ByteArray) (n : Nat) (hs : s.size ≤ 10) (hn : n ≤ 1000) :
    Calls Try.prog 76 #[.string s, .int .i64 (n : Int)] w fun o w' => ∃ t : ByteArray, o = .returned (.string t) ∧ t.size ≤ 10 * n ∧ w = w' := by
  go_enter Try.func76, Try.ntmps76
  go_wp2
  go_loop [5, 6] (fun t i => ∃ (k : Nat) (u : ByteArray), k ≤ n ∧ i = .int .i64 (k : Int) ∧ t = .string u ∧ u.size ≤ 10 * k) (fun _ i => n - (intOf i).toNat)
  case atStart => exact ⟨0, ⟨#[]⟩, Nat.zero_le _, rfl, rfl, Nat.le_refl _⟩
  case round =>
    obtain ⟨k, u, hk, rfl, rfl, hu⟩ := hrel
    by_cases hlt : k < n
    · go_wp2
      go_round
      case rel => exact ⟨k + 1, u ++ s, by omega, by go_num, rfl, by rw [ByteArray.size_append]; omega⟩
      case measure => simp [intOf]; omega
    · go_wp2
      go_ret
      exact ⟨u, rfl, by omega, rfl⟩

theorem n_4 (w0 w : World) (b : Nat) (a : Option Addr) (n cap i : Nat) (l : List Nat) (h : srcI w0 b a n cap l i w) (hi : i ≤ 1000000000000) :
    Calls Try.prog 75 #[.pointer (some ⟨b, 0, none⟩), .int .i64 4] w fun o w' => ∃ r : Nat, o = .returned (.int .i64 (r : Int)) ∧ r < 4 ∧ srcI w0 b a n cap l (i + 1) w' ∧ w.grownBy w' (some b) := by
  refine (n_any w0 w b a n cap i l 4 h hi (by omega)).mono ?_
  rintro o w' ⟨r, rfl, _, h2, h3, h4⟩
  exact ⟨r, rfl, h2 (by omega), h3, h4⟩
theorem n_6 (w0 w : World) (b : Nat) (a : Option Addr) (n cap i : Nat) (l : List Nat) (h : srcI w0 b a n cap l i w) (hi : i ≤ 1000000000000) :
    Calls Try.prog 75 #[.pointer (some ⟨b, 0, none⟩), .int .i64 6] w fun o w' => ∃ r : Nat, o = .returned (.int .i64 (r : Int)) ∧ r < 6 ∧ srcI w0 b a n cap l (i + 1) w' ∧ w.grownBy w' (some b) := by
  refine (n_any w0 w b a n cap i l 6 h hi (by omega)).mono ?_
  rintro o w' ⟨r, rfl, _, h2, h3, h4⟩
  exact ⟨r, rfl, h2 (by omega), h3, h4⟩
theorem n_10 (w0 w : World) (b : Nat) (a : Option Addr) (n cap i : Nat) (l : List Nat) (h : srcI w0 b a n cap l i w) (hi : i ≤ 1000000000000) :
    Calls Try.prog 75 #[.pointer (some ⟨b, 0, none⟩), .int .i64 10] w fun o w' => ∃ r : Nat, o = .returned (.int .i64 (r : Int)) ∧ r < 10 ∧ srcI w0 b a n cap l (i + 1) w' ∧ w.grownBy w' (some b) := by
  refine (n_any w0 w b a n cap i l 10 h hi (by omega)).mono ?_
  rintro o w' ⟨r, rfl, _, h2, h3, h4⟩
  exact ⟨r, rfl, h2 (by omega), h3, h4⟩
theorem rowB.gb {w w1 : World} {g m : Nat} {f : Nat → Nat} {b : Nat} (h : rowB w g m f) (hg : w.grownBy w1 (some b)) (hz : g < w.heap.size) (hne : g ≠ b) : rowB w1 g m f := by
  have hk := hg.block g hz (fun e => hne (by cases e; rfl))
  exact ⟨fun t ht => (World.cell?_of_block (a := ⟨g, t, none⟩) hk).trans (h.cell t ht), fun t ht => (World.frozen?_of_block (a := ⟨g, t, none⟩) hk).trans (h.free t ht)⟩
set_option maxHeartbeats 2000000 in
theorem spoil_any (w0 w : World) (b : Nat) (a : Option Addr) (n cap i : Nat) (l : List Nat) (t : List Nat) (h : srcI w0 b a n cap l i w) (hi : i ≤ 100000000000) (hall : ∀ x ∈ t, M.isL x) (ht : t.length ≤ 100000000) :
    Calls Try.prog 79 #[.pointer (some ⟨b, 0, none⟩), .string (strN t)] w fun o w' => ∃ u : List Nat, o = .returned (.string (strN u)) ∧ u.length = t.length ∧ ∃ i', i' ≤ i + 2 ∧ srcI w0 b a n cap l i' w' ∧ w.grownBy w' (some b) := by
  by_cases ht0 : t = []
  · subst ht0
    have hz : (((strN []).size : Nat) : Int) = 0 := rfl
    go_enter Try.func79, Try.ntmps79
    go_wp2
    go_ret
    exact ⟨[], rfl, rfl, i, by omega, h, gb_refl _ _⟩
  · have htl : 0 < t.length := List.length_pos_iff.2 ht0
    have hsz : (strN t).size = t.length := strN_size t
    have hz : ((((strN t).size : Nat) : Int) == 0) = false := by rw [hsz]; simp; omega
    have hcb := fun w => run_bytes_of_string (P := Try.prog) w 9 28 5 (strN t) Try.underlying9 Try.underlying28 Try.underlying5
    have hlt := lt_strN t (isL_lt hall)
    have hbw := h.lt
    have hrow := fun cp => rowB_bytes w.drew (strN t) cp
    have HR : Hid (∀ cp, rowB (w.drew.alloc (.cells (bytesRow (strN t) cp) 5 ((bytesRow (strN t) cp).size, (bytesRow (strN t) cp).size + 1))) w.heap.size t.length (fun k => t.getD k 0)) := by
      intro cp; have := hrow cp; rw [hlt, hsz] at this; exact this
    clear hrow hlt
    go_enter Try.func79, Try.ntmps79
    go_wp2_with fail
    have hrA := HR.out (grownCap w t.length 0 5)
    clear hcb HR
    generalize grownCap w t.length 0 5 = cp at *
    have hbA : Below w.heap.size w (w.alloc (.cells (bytesRow (strN t) cp) 5 ((bytesRow (strN t) cp).size, (bytesRow (strN t) cp).size + 1))).drew := ((Below.refl _ _).alloc (Nat.le_refl _) _).drew
    have hgA : w.grownBy (w.alloc (.cells (bytesRow (strN t) cp) 5 ((bytesRow (strN t) cp).size, (bytesRow (strN t) cp).size + 1))).drew (some b) := gb_below (gb_refl _ _) hbA
    have hIA := h.below hbA hbw
    have hzA : w.heap.size < (w.alloc (.cells (bytesRow (strN t) cp) 5 ((bytesRow (strN t) cp).size, (bytesRow (strN t) cp).size + 1))).drew.heap.size := by simp
    have hrB : rowB (w.alloc (.cells (bytesRow (strN t) cp) 5 ((bytesRow (strN t) cp).size, (bytesRow (strN t) cp).size + 1))).drew w.heap.size t.length (fun k => t.getD k 0) := ⟨fun k hk => hrA.cell k hk, fun k hk => hrA.free k hk⟩
    clear hrA hbA h
    generalize (w.alloc (.cells (bytesRow (strN t) cp) 5 ((bytesRow (strN t) cp).size, (bytesRow (strN t) cp).size + 1))).drew = wA at *
    refine (n_any w0 wA b a n cap i l t.length hIA (by omega) (by omega)).mono ?_
    rintro o w1 ⟨r, rfl, hr0, hr1, hI1, hg1⟩
    have hr : r < t.length := by
      by_cases e : 1 < t.length
      · exact hr1 e
      · have := hr0 (by omega); omega
    clear hr0 hr1
    have hrow1 := hrB.gb hg1 hzA (by omega)
    have hz1 : w.heap.size < w1.heap.size := Nat.lt_of_lt_of_le hzA hg1.size
    have hgg1 := gb_trans hgA hg1
    clear hrB hzA hIA hgA hg1
    go_wp2_with fail
    refine (n_4 w0 w1 b a n cap _ l hI1 (by omega)).mono ?_
    rintro o w2 ⟨r2, rfl, hr2, hI2, hg2⟩
    have hrow2 := hrow1.gb hg2 hz1 (by omega)
    have hz2 : w.heap.size < w2.heap.size := Nat.lt_of_lt_of_le hz1 hg2.size
    have hgg2 := gb_trans hgg1 hg2
    have hcr := hrow2.cell r hr
    have hfr := hrow2.free r hr
    have hlr : M.isL (t.getD r 0) := hall _ (by rw [getD_at t r hr]; exact List.getElem_mem _)
    clear hrow1 hz1 hI1 hgg1 hg2
    have hBs : ∀ v, Below w.heap.size w2 (w2.setCell ⟨w.heap.size, r, none⟩ v) := fun v => (Below.refl _ _).setCell (by exact Nat.le_refl _) v
    have HB : Hid (∀ v, Below w.heap.size w2 (w2.setCell ⟨w.heap.size, r, none⟩ v)) := hBs
    clear hBs
    by_cases h4 : r2 = 0
    · subst h4
      have hrow3 : rowB (w2.setCell ⟨w.heap.size, r, none⟩ (.int .u8 120)) w.heap.size t.length (fun k => if k = r then 120 else t.getD k 0) := hrow2.set' r hr 120 (by simp) (fun k _ hk => by simp [hk])
      have hcv := conv_row (cap := cp) hrow3 (fun k hk => by
        by_cases e : k = r
        · simp [e]
        · simp only [e, if_false]; rw [getD_at t k hk]; exact isL_lt hall _ (List.getElem_mem _))
      clear hrow3 hrow2
      go_wp2
      go_ret
      exact ⟨_, rfl, by simp, _, Nat.le_refl _, hI2.below (HB.out _) hbw, gb_below hgg2 (HB.out _)⟩
    · have h4' : ((r2 : Int) == 0) = false := by simp; omega
      have hop := M.isL_opp hlr
      have HX : Hid (∀ w, Calls Try.prog 54 #[.int .u8 ((t.getD r 0 : Nat) : Int)] w fun o w' => o = .returned (.int .u8 ((97 - t.getD r 0 : Nat) : Int)) ∧ w = w') := fun w => other_any _ w hlr
      have hx97 : 97 - t.getD r 0 < 256 := by omega
      have hrow3 : rowB (w2.setCell ⟨w.heap.size, r, none⟩ (.int .u8 ((97 - t.getD r 0 : Nat) : Int))) w.heap.size t.length (fun k => if k = r then 97 - t.getD r 0 else t.getD k 0) := hrow2.set' r hr _ (by simp) (fun k _ hk => by simp [hk])
      have hcv := conv_row (cap := cp) hrow3 (fun k hk => by
        by_cases e : k = r
        · simp only [e, if_true]; exact hx97
        · simp only [e, if_false]; rw [getD_at t k hk]; exact isL_lt hall _ (List.getElem_mem _))
      clear hrow3 hrow2
      generalize 97 - t.getD r 0 = y at *
      generalize t.getD r 0 = x at *
      go_wp2_with (first | (go_at_call 54; refine (HX.out _).mono ?_; rintro o w6 ⟨rfl, rfl⟩))
      go_ret
      exact ⟨_, rfl, by simp, _, Nat.le_refl _, hI2.below (HB.out _) hbw, gb_below hgg2 (HB.out _)⟩

set_option maxHeartbeats 1000000 in
theorem drawStuff_any (w : World) (a : Option Addr) (n cap : Nat) (l : List Nat) (h : isBytes w a n cap l) (hn : n ≤ 1048576) :
    Calls Try.prog 34 #[.slice a n cap] w fun o w' => ∃ t : ByteArray, o = .returned (.string t) ∧ t.size ≤ 2000000 ∧ Below w.heap.size w w' := by
  go_enter Try.func34, Try.ntmps34
  go_wp2_with fail
  refine (new_any w a n cap l h hn).mono ?_
  rintro o w1 ⟨b, rfl, hI1, hb, hB1⟩
  go_wp2_with fail
  refine (n_10 w w1 b a n cap _ l hI1 (by omega)).mono ?_
  rintro o w2 ⟨r, rfl, hr, hI2, hg2⟩
  have hB2 := hI2.bel
  clear hI1 hg2 hB1
  by_cases hr0 : r = 0
  · subst hr0
    go_wp2_with fail
    refine (repeat_any w2 _ 399 (by decide) (by omega)).mono ?_
    rintro o w3 ⟨t3, rfl, ht3, rfl⟩
    go_wp2_with fail
    refine (genText_any w w2 b a n cap _ l 9 hI2 (by omega) (by omega)).mono ?_
    rintro o w4 ⟨t4, i4, rfl, _, ht4, _, hI4, _⟩
    have hs4 : (strN t4).size ≤ 9 := by rw [strN_size]; exact ht4
    have hB4 := hI4.bel
    go_wp2
    go_ret
    exact ⟨_, rfl, by rw [ByteArray.size_append]; omega, hB4⟩
  · have hr0' : ((r : Int) == 0) = false := by simp; omega
    go_wp2_with (first | (go_at_call 78; refine (size_any w w2 b a n cap _ l hI2).mono ?_; rintro o w3 ⟨rfl, rfl⟩))
    refine (genText_any w w2 b a n cap _ l (20 + n) hI2 (by omega) (by omega)).mono ?_
    rintro o w4 ⟨t4, i4, rfl, hall4, ht4, hi4, hI4, _⟩
    have hs4 : (strN t4).size ≤ 1048600 := by rw [strN_size]; omega
    go_wp2_with fail
    refine (n_6 w w4 b a n cap _ l hI4 (by omega)).mono ?_
    rintro o w5 ⟨r5, rfl, hr5, hI5, _⟩
    by_cases h5 : r5 = 0
    · subst h5
      go_wp2_with fail
      refine (spoil_any w w5 b a n cap _ l t4 hI5 (by omega) hall4 (by omega)).mono ?_
      rintro o w6 ⟨u, rfl, hu, i6, _, hI6, _⟩
      have hB6 := hI6.bel
      go_wp2
      go_ret
      exact ⟨_, rfl, by rw [strN_size, hu]; omega, hB6⟩
    · have h5' : ((r5 : Int) == 0) = false := by simp; omega
      have hB5 := hI5.bel
      go_wp2
      go_ret
      exact ⟨_, rfl, by omega, hB5⟩
end Go.Proofs.Ytnefmdjodjpopaa
