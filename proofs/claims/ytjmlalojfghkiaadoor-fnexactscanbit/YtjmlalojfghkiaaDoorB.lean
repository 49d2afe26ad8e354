import Derived.Test.YtjmlalojfghkiaaDoorA
namespace Go.Proofs.YtjmlalojfghkiaaDoor
open Go.RowKit
set_option maxHeartbeats 2000000 in
set_option maxRecDepth 20000 in
/-- spec.l1copyFrame -/
theorem l1copyFrame_any (w : World) (e : Bool) (i : Nat) (r : Bool) (d : Int) (a : Option Addr) (n cap : Nat) (l : List Nat) (h : isBytes w a n cap l) (hn : n ≤ 1048576) :
    Calls Tryd.prog 47 #[frV e i r d a n cap] w fun o w' => ∃ g k, o = .returned (frV e i r d (some ⟨g, 0, none⟩) n k) ∧ (w.heap.size ≤ g ∧ g < w'.heap.size ∧ St (w.heap.size + 2) w' (fun W => isBytes W (some ⟨g, 0, none⟩) n k l) ∧ w.heap.size + 2 ≤ g) ∧ Below w.heap.size w w' := by
  have HH : Hid (isBytes w a n cap l) := h
  have HL : Hid (n = l.length) := h.len
  have HSm : Hid (∀ x ∈ l, x < 256) := h.small
  have hcp := h.cap
  clear h
  have hB0 : Below w.heap.size w ((w.alloc (.cells #[.bool e, .int .u32 (i : Int), .bool r, .int .i64 d, .slice a n cap] 29)).alloc (.cells #[.bool false, .int .u32 0, .bool false, .int .i64 0, .slice none 0 0] 29)) := ((Below.refl _ _).alloc (Nat.le_refl _) _).alloc (by simp) _
  have HB0 : Hid _ := hB0
  clear hB0
  go_enter Tryd.func47, Tryd.ntmps47
  go_wp2_with fail
  have hown := own_nil ((w.alloc (.cells #[.bool e, .int .u32 (i : Int), .bool r, .int .i64 d, .slice a n cap] 29)).alloc (.cells #[.bool false, .int .u32 0, .bool false, .int .i64 0, .slice none 0 0] 29)) (w.heap.size + 2) (by simp)
  have x0 : ((w.alloc (.cells #[.bool e, .int .u32 (i : Int), .bool r, .int .i64 d, .slice a n cap] 29)).alloc (.cells #[.bool false, .int .u32 0, .bool false, .int .i64 0, .slice none 0 0] 29)).heap[w.heap.size]? = some (.cells [.bool e, .int .u32 (i : Int), .bool r, .int .i64 d, .slice a n cap].toArray 29) := by
    rw [Below.heap_alloc _ _ _ (by simp)]
    exact heap_alloc_new w _
  have x1 : rowZ ((w.alloc (.cells #[.bool e, .int .u32 (i : Int), .bool r, .int .i64 d, .slice a n cap] 29)).alloc (.cells #[.bool false, .int .u32 0, .bool false, .int .i64 0, .slice none 0 0] 29)) (w.heap.size + 1) 5 := by
    have := rowZ_alloc (w.alloc (.cells #[.bool e, .int .u32 (i : Int), .bool r, .int .i64 d, .slice a n cap] 29)) [.bool false, .int .u32 0, .bool false, .int .i64 0, .slice none 0 0] 29
    simpa using this
  have hz2 : ((w.alloc (.cells #[.bool e, .int .u32 (i : Int), .bool r, .int .i64 d, .slice a n cap] 29)).alloc (.cells #[.bool false, .int .u32 0, .bool false, .int .i64 0, .slice none 0 0] 29)).heap.size = w.heap.size + 2 := by simp
  have hs2 : w.heap.size + 1 + 1 = ((w.alloc (.cells #[.bool e, .int .u32 (i : Int), .bool r, .int .i64 d, .slice a n cap] 29)).alloc (.cells #[.bool false, .int .u32 0, .bool false, .int .i64 0, .slice none 0 0] 29)).heap.size := by simp
  simp only [hs2]
  clear hs2
  generalize (w.alloc (.cells #[.bool e, .int .u32 (i : Int), .bool r, .int .i64 d, .slice a n cap] 29)).alloc (.cells #[.bool false, .int .u32 0, .bool false, .int .i64 0, .slice none 0 0] 29) = W2 at *
  rw [← hz2] at hown
  have HX0 : Hid (W2.heap[w.heap.size]? = some (.cells [.bool e, .int .u32 (i : Int), .bool r, .int .i64 d, .slice a n cap].toArray 29)) := x0
  have HX1 : Hid (rowZ W2 (w.heap.size + 1) 5) := x1
  have HZ2 : Hid (W2.heap.size = w.heap.size + 2) := hz2
  clear x0 x1 hz2
  go_loopw [3, 4] (fun v t wr => ∃ k : Nat, k ≤ n ∧ t = .int .i64 k ∧ ownsB wr W2.heap.size v (l.take k) ∧ (k = 0 → v = .slice (some ⟨W2.heap.size, 0, none⟩) 0 0) ∧ Below W2.heap.size W2 wr) (fun _ t _ => n - (intOf t).toNat)
  case atStart => exact ⟨0, Nat.zero_le _, rfl, hown, fun _ => rfl, (Below.refl _ _).alloc (Nat.le_refl _) _⟩
  case round =>
    clear hown
    obtain ⟨k, hk, rfl, ho, hv0, hb⟩ := hrel
    have hrg := range_block ((hb.block _ (by have := HZ2.out; omega)).trans HX0.out)
    have y0 := hrg 0 (.bool e) rfl
    have y1 := hrg 1 (.int .u32 (i : Int)) rfl
    have y2 := hrg 2 (.bool r) rfl
    have y3 := hrg 3 (.int .i64 d) rfl
    have y4 := hrg 4 (.slice a n cap) rfl
    simp only [Nat.zero_add, Nat.add_zero] at y0 y1 y2 y3 y4
    clear hrg
    by_cases hlt : k < n
    · have hkl : k < l.length := by have := HL.out; omega
      obtain ⟨g0, o0, rfl, hc⟩ := HH.out.cells (by intro e; rw [e] at hkl; exact absurd hkl (Nat.not_lt_zero _))
      have hx := hc k hkl
      have hgz : g0 < w.heap.size := World.block_lt_of_cell? w _ hx
      have xk := (hb.cell (p := ⟨g0, o0 + k, none⟩) (by have := HZ2.out; show g0 < _; omega)).trans ((HB0.out.cell (p := ⟨g0, o0 + k, none⟩) (by exact hgz)).trans hx)
      have HO : Hid (ownsB wr W2.heap.size u3 (l.take k)) := ho
      have HB : Hid (Below W2.heap.size W2 wr) := hb
      have HT : Hid (l.take k ++ [l[k]] = l.take (k + 1)) := take_snoc l k hkl
      have HLT : Hid ((l.take k).length ≤ 100000000) := by show _ ≤ _; rw [List.length_take]; omega
      clear ho hb hc hx hv0
      generalize l[k] = ck at *
      go_wp2_with (first | (at_builtin; refine app_byte W2 wr rfl (.tmp 13) (.tmp 19) rfl W2.heap.size u3 (l.take k) ck _ rfl rfl HO.out rfl HLT.out HB.out.size HB.out ?_; intro v' w' ho' hb' _))
      go_roundw
      case rel => exact ⟨k + 1, by omega, by go_num, by rw [← HT.out]; exact ho', fun e => absurd e (by omega), hb'⟩
      case measure => simp [intOf]; omega
    · have hkn : k = n := by omega
      subst hkn
      have htk : l.take k = l := by rw [List.take_of_length_le (by have := HL.out; omega)]
      rw [htk] at ho
      have hnn : u3 ≠ .slice none 0 0 := by
        intro e
        by_cases hk0 : k = 0
        · rw [hv0 hk0] at e; cases e
        · subst e
          rcases ho.2 with ⟨_, h⟩ | ⟨g, _, _, h, _⟩
          · have := HL.out; omega
          · cases h
      obtain ⟨g1, k1, rfl, q1, q2, q3⟩ := ownsB_bytes ho hnn HSm.out
      rw [← HL.out] at q3 ⊢
      have HQ : Hid (w.heap.size + 2 ≤ g1 ∧ g1 < wr.heap.size ∧ St W2.heap.size wr (fun W => isBytes W (some ⟨g1, 0, none⟩) k k1 l)) := ⟨by have := HZ2.out; omega, q2, q3⟩
      have HB : Hid (Below w.heap.size w wr) := HB0.out.trans (hb.mono (by have := HZ2.out; omega))
      have hZ := HX1.out.below hb (by have := HZ2.out; omega)
      obtain ⟨u0, z0⟩ := hZ.cell 0 (by omega)
      obtain ⟨u1, z1⟩ := hZ.cell 1 (by omega)
      obtain ⟨u2, z2⟩ := hZ.cell 2 (by omega)
      obtain ⟨u3, z3⟩ := hZ.cell 3 (by omega)
      obtain ⟨u4, z4⟩ := hZ.cell 4 (by omega)
      have f0 := hZ.free 0
      have f1 := hZ.free 1
      have f2 := hZ.free 2
      have f3 := hZ.free 3
      have f4 := hZ.free 4
      clear hZ q1 q2 q3 ho hb hv0 hnn htk
      go_wp2
      refine bodyPost_ret (v := frV e i r d (some ⟨g1, 0, none⟩) k k1) (by simp [results, Tryd.results47, go_sem, z0, z1, z2, z3, z4]) rfl ?_
      have hq := HQ.out
      have hz := HZ2.out
      refine ⟨g1, k1, rfl, ⟨by omega, by simpa using hq.2.1, ?_, hq.1⟩, ?_⟩
      · rw [show w.heap.size + 2 = W2.heap.size from hz.symm]
        exact ((((hq.2.2.set _ _ (by omega) _).set _ _ (by omega) _).set _ _ (by omega) _).set _ _ (by omega) _).set _ _ (by omega) _
      · (repeat refine Below.setCell ?_ (by simp) _)
        exact HB.out
set_option maxHeartbeats 1000000 in
theorem toByteS_row (w : World) (a : Option Addr) (n cap : Nat) (l : List Nat) (h : isBytes w a n cap l) (hn : n ≤ 1048576) :
    Calls Tryd.prog 48 #[.slice a n cap] w fun e w' => ∃ g, e = .returned (.slice (some ⟨g, 0, none⟩) n n) ∧ isBytes w' (some ⟨g, 0, none⟩) n n l ∧ Below w.heap.size w w' ∧ w.heap.size ≤ g ∧ g < w'.heap.size ∧ ∃ f, rowB w' g n f := by

  have hlen := h.len
  have hcp := h.cap
  by_cases hl : l = []
  · subst hl
    have hn0 : n = 0 := hlen
    subst hn0
    have HS : Hid (∀ x ∈ ([] : List Nat), x < 256) := h.small
    clear hlen h
    go_enter Tryd.func48, Tryd.ntmps48
    go_wp2_with (first | (at_make; refine make_zeroB _ rfl (.tmp 6) (.tmp 6) rfl _ 0 rfl rfl rfl (by omega) ?_; intro w1 hrow hg1 hz1))
    go_loopw [4] (fun i wr => i = .int .i64 0 ∧ Below w.heap.size w wr ∧ w.heap.size < wr.heap.size) (fun _ _ => 0)
    case atStart => exact ⟨rfl, (Below.refl _ _).grown hg1 (Nat.le_refl _) (by intro k e; cases e), hz1⟩
    case round =>
      obtain ⟨rfl, hb, hz⟩ := hrel
      go_wp2
      go_ret
      exact ⟨_, rfl, ⟨rfl, Nat.le_refl _, HS.out, fun e => absurd rfl e⟩, hb, Nat.le_refl _, hz, (fun _ => 0), ⟨fun t ht => absurd ht (Nat.not_lt_zero _), fun t ht => absurd ht (Nat.not_lt_zero _)⟩⟩
  · obtain ⟨g, off, rfl, hc⟩ := h.cells hl
    have hgz : g < w.heap.size := World.block_lt_of_cell? w _ (hc 0 (by have := List.length_pos_iff.2 hl; omega))
    have hsm := h.small
    have HL : Hid (n = l.length) := hlen
    have hn1 : n ≤ l.length := by omega
    have hn2 : l.length ≤ n := by omega
    clear h hlen
    go_enter Tryd.func48, Tryd.ntmps48
    go_wp2_with (first | (at_make; refine make_zeroB _ rfl (.tmp 6) (.tmp 6) rfl _ n rfl rfl rfl (by omega) ?_; intro w1 hrow hg1 hz1))
    go_loopw [4] (fun i wr => ∃ k : Nat, k ≤ n ∧ i = .int .i64 k ∧ rowB wr w.heap.size n (fun t => if t < k then l.getD t 0 else 0) ∧ Below w.heap.size w wr ∧ w.heap.size < wr.heap.size) (fun i _ => n - (intOf i).toNat)
    case atStart => exact ⟨0, Nat.zero_le _, rfl, hrow.of (fun t _ => by simp), (Below.refl _ _).grown hg1 (Nat.le_refl _) (by intro k e; cases e), hz1⟩
    case round =>
      clear hrow hz1
      obtain ⟨k, hk, rfl, hrow, hb, hz⟩ := hrel
      by_cases hlt : k < n
      · have hcx : wr.cell? ⟨g, off + k, none⟩ = some (.int .u8 (l[k] : Int)) := (hb.cell (by exact hgz)).trans (hc k (by omega))
        have hcy := hrow.cell k hlt
        have hfy := hrow.free k hlt
        have HG : Hid (l.getD k 0 = l[k]) := getD_at l k (by omega)
        generalize l[k] = x at *
        have hne : ¬ w.heap.size = g := by omega
        go_wp2
        go_roundw
        case rel =>
          refine ⟨k + 1, by omega, by go_num, hrow.set' k hlt _ ?_ ?_, hb.setCell (by exact Nat.le_refl _) _, by simpa using hz⟩
          · rw [if_pos (Nat.lt_succ_self k), HG.out]
          · intro t _ hne'
            by_cases h1 : t < k
            · rw [if_pos h1, if_pos (by omega)]
            · rw [if_neg h1, if_neg (by omega)]
        case measure => simp [intOf]; omega
      · go_wp2
        go_ret
        refine ⟨_, rfl, ⟨HL.out, Nat.le_refl _, hsm, fun _ => ⟨_, 0, rfl, fun j hj => ?_⟩⟩, hb, Nat.le_refl _, hz, _, hrow⟩
        have := hrow.cell j (by omega)
        rw [Nat.zero_add, this, if_pos (by omega), getD_at l j hj]
theorem rowB.up {w W : World} {g n : Nat} {f : Nat → Nat} (h : rowB w g n f) (he : W.heap[g]? = w.heap[g]?) : rowB W g n f :=
  ⟨fun t ht => cell_up (h.cell t ht) he, fun t ht => by have := h.free t ht; simp only [World.frozen?, he] at this ⊢; exact this⟩
theorem rowB.below {w W : World} {g n : Nat} {f : Nat → Nat} (h : rowB w g n f) (hb : Below w.heap.size w W) (hg : g < w.heap.size) : rowB W g n f := h.up (hb.block g hg)
set_option maxHeartbeats 2000000 in
theorem markByteS_row (w : World) (g n cap c : Nat) (f : Nat → Nat) (hr : rowB w g n f) (hcp : n ≤ cap) (hn : n ≤ 1048576) (hc : c ≤ 1000) :
    Calls Tryd.prog 57 #[.slice (some ⟨g, 0, none⟩) n cap, .int .i64 (c : Int)] w fun o w' => o = .returned (.int .i64 ((c + n : Nat) : Int)) ∧ rowB w' g n (fun t => (c + t) % 256) ∧ (∀ b, b ≠ g → w'.heap[b]? = w.heap[b]?) ∧ w'.heap.size = w.heap.size ∧ Below g w w' := by
  have HR : Hid (rowB w g n f) := hr
  clear hr
  go_enter Tryd.func57, Tryd.ntmps57
  go_wp2
  go_loopw [1, 5] (fun kk i wr => ∃ k : Nat, k ≤ n ∧ i = .int .i64 (k : Int) ∧ kk = .int .i64 ((c + k : Nat) : Int) ∧ rowB wr g n (fun t => if t < k then (c + t) % 256 else f t) ∧ (∀ b, b ≠ g → wr.heap[b]? = w.heap[b]?) ∧ wr.heap.size = w.heap.size ∧ Below g w wr) (fun _ i _ => n - (intOf i).toNat)
  case atStart => exact ⟨0, Nat.zero_le _, rfl, by go_num, HR.out.of (fun t _ => by simp), fun _ _ => rfl, rfl, Below.refl _ _⟩
  case round =>
    obtain ⟨k, hk, rfl, rfl, hrow, hoth, hsz, hb⟩ := hrel
    by_cases hlt : k < n
    · have z0 := hrow.cell k hlt
      have f0 := hrow.free k hlt
      have HD : Hid (rowB wr g n (fun t => if t < k then (c + t) % 256 else f t) ∧ (∀ b, b ≠ g → wr.heap[b]? = w.heap[b]?) ∧ wr.heap.size = w.heap.size ∧ Below g w wr) := ⟨hrow, hoth, hsz, hb⟩
      clear hrow hoth hsz hb
      generalize hC : c + k = C at *
      have HC : Hid (c + k = C) := hC
      have hC1 : C ≤ 4000000 := by omega
      clear hC
      go_wp2
      obtain ⟨r2, r3, r4, r5⟩ := HD.out
      have hC := HC.out
      refine ⟨⟨k + 1, by omega, by go_num, by rw [← hC]; go_num, ?_, fun b hb => (heap_setCell_other _ _ _ _ (by exact hb)).trans (r3 b hb), by simpa using r4, r5.setCell (by exact Nat.le_refl _) _⟩, by simp [intOf]; omega⟩
      refine r2.set' k hlt _ ?_ ?_
      · rw [if_pos (Nat.lt_succ_self k)]
        go_num
      · intro t _ hne'
        by_cases h1 : t < k
        · rw [if_pos h1, if_pos (by omega)]
        · rw [if_neg h1, if_neg (by omega)]
    · have hkn : k = n := by omega
      subst hkn
      have hrow := hrow.of (f' := fun t => (c + t) % 256) (fun t ht => by rw [if_pos ht])
      go_wp2
      go_ret
      exact ⟨rfl, hrow, hoth, hsz, hb⟩
set_option maxHeartbeats 2000000 in
theorem heldByteS_row (w : World) (g n cap c : Nat) (hr : rowB w g n (fun t => (c + t) % 256)) (hcp : n ≤ cap) (hn : n ≤ 1048576) (hc : c ≤ 1000) :
    Calls Tryd.prog 58 #[.slice (some ⟨g, 0, none⟩) n cap, .int .i64 (c : Int)] w fun o w' => o = .returned (.int .i64 ((c + n : Nat) : Int)) ∧ w' = w := by
  have HR : Hid (rowB w g n (fun t => (c + t) % 256)) := hr
  clear hr
  go_enter Tryd.func58, Tryd.ntmps58
  go_wp2
  go_loopw [1, 5] (fun kk i wr => ∃ k : Nat, k ≤ n ∧ i = .int .i64 (k : Int) ∧ kk = .int .i64 ((c + k : Nat) : Int) ∧ wr = w) (fun _ i _ => n - (intOf i).toNat)
  case atStart => exact ⟨0, Nat.zero_le _, rfl, by go_num, rfl⟩
  case round =>
    obtain ⟨k, hk, rfl, rfl, rfl⟩ := hrel
    by_cases hlt : k < n
    · have x0 := HR.out.cell k hlt
      generalize hC : c + k = C at *
      have HC : Hid (c + k = C) := hC
      have hC1 : C ≤ 4000000 := by omega
      clear hC
      go_wp2
      refine ⟨⟨k + 1, by omega, by go_num, by rw [← HC.out]; go_num, trivial⟩, by simp [intOf]; omega⟩
    · have hkn : k = n := by omega
      subst hkn
      go_wp2
      go_ret
      exact ⟨rfl, rfl⟩
end Go.Proofs.YtjmlalojfghkiaaDoor
