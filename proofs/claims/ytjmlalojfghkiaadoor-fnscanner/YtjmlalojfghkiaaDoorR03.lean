import Derived.Test.YtjmlalojfghkiaaDoorR02
namespace Go.Proofs.YtjmlalojfghkiaaDoor
open Go.RowKit
set_option maxHeartbeats 2000000 in
set_option maxRecDepth 20000 in
/-- spec.l1copyFrame -/
theorem l1copyFrame_any (w : World) (e : Bool) (i : Nat) (r : Bool) (d : Int) (a : Option Addr) (n cap : Nat) (l : List Nat) (h : isBytes w a n cap l) (hn : n ≤ 1048576) :
    Calls Tryd.prog 47 #[frV e i r d a n cap] w fun o w' => ∃ g k, o = .returned (frV e i r d (some ⟨g, 0, none⟩) n k) ∧ (w.heap.size ≤ g ∧ g < w'.heap.size ∧ St (w.heap.size + 2) w' (fun W => isBytes W (some ⟨g, 0, none⟩) n k l) ∧ w.heap.size + 2 ≤ g) ∧ Below w.heap.size w w' := by
  have HH : Hid (isBytes w a n cap l) := h
  have HL : Hid (n = l.length) := h.len
  have HSm : Hid (∀ x ∈ l, x < 256) := h.small
  have hcp := h.cap
  clear h
  have hB0 : Below w.heap.size w ((w.alloc (.cells #[.bool e, .int .u32 (i : Int), .bool r, .int .i64 d, .slice a n cap] 29)).alloc (.cells #[.bool false, .int .u32 0, .bool false, .int .i64 0, .slice none 0 0] 29)) := ((Below.refl _ _).alloc (Nat.le_refl _) _).alloc (by simp) _
  have HB0 : Hid _ := hB0
  clear hB0
  go_enter Tryd.func47, Tryd.ntmps47
  go_wp2_with fail
  have hown := own_nil ((w.alloc (.cells #[.bool e, .int .u32 (i : Int), .bool r, .int .i64 d, .slice a n cap] 29)).alloc (.cells #[.bool false, .int .u32 0, .bool false, .int .i64 0, .slice none 0 0] 29)) (w.heap.size + 2) (by simp)
  have x0 : ((w.alloc (.cells #[.bool e, .int .u32 (i : Int), .bool r, .int .i64 d, .slice a n cap] 29)).alloc (.cells #[.bool false, .int .u32 0, .bool false, .int .i64 0, .slice none 0 0] 29)).heap[w.heap.size]? = some (.cells [.bool e, .int .u32 (i : Int), .bool r, .int .i64 d, .slice a n cap].toArray 29) := by
    rw [Below.heap_alloc _ _ _ (by simp)]
    exact heap_alloc_new w _
  have x1 : rowZ ((w.alloc (.cells #[.bool e, .int .u32 (i : Int), .bool r, .int .i64 d, .slice a n cap] 29)).alloc (.cells #[.bool false, .int .u32 0, .bool false, .int .i64 0, .slice none 0 0] 29)) (w.heap.size + 1) 5 := by
    have := rowZ_alloc (w.alloc (.cells #[.bool e, .int .u32 (i : Int), .bool r, .int .i64 d, .slice a n cap] 29)) [.bool false, .int .u32 0, .bool false, .int .i64 0, .slice none 0 0] 29
    simpa using this
  have hz2 : ((w.alloc (.cells #[.bool e, .int .u32 (i : Int), .bool r, .int .i64 d, .slice a n cap] 29)).alloc (.cells #[.bool false, .int .u32 0, .bool false, .int .i64 0, .slice none 0 0] 29)).heap.size = w.heap.size + 2 := by simp
  have hs2 : w.heap.size + 1 + 1 = ((w.alloc (.cells #[.bool e, .int .u32 (i : Int), .bool r, .int .i64 d, .slice a n cap] 29)).alloc (.cells #[.bool false, .int .u32 0, .bool false, .int .i64 0, .slice none 0 0] 29)).heap.size := by simp
  simp only [hs2]
  clear hs2
  generalize (w.alloc (.cells #[.bool e, .int .u32 (i : Int), .bool r, .int .i64 d, .slice a n cap] 29)).alloc (.cells #[.bool false, .int .u32 0, .bool false, .int .i64 0, .slice none 0 0] 29) = W2 at *
  rw [← hz2] at hown
  have HX0 : Hid (W2.heap[w.heap.size]? = some (.cells [.bool e, .int .u32 (i : Int), .bool r, .int .i64 d, .slice a n cap].toArray 29)) := x0
  have HX1 : Hid (rowZ W2 (w.heap.size + 1) 5) := x1
  have HZ2 : Hid (W2.heap.size = w.heap.size + 2) := hz2
  clear x0 x1 hz2
  go_loopw [3, 4] (fun v t wr => ∃ k : Nat, k ≤ n ∧ t = .int .i64 k ∧ ownsB wr W2.heap.size v (l.take k) ∧ (k = 0 → v = .slice (some ⟨W2.heap.size, 0, none⟩) 0 0) ∧ Below W2.heap.size W2 wr) (fun _ t _ => n - (intOf t).toNat)
  case atStart => exact ⟨0, Nat.zero_le _, rfl, hown, fun _ => rfl, (Below.refl _ _).alloc (Nat.le_refl _) _⟩
  case round =>
    clear hown
    obtain ⟨k, hk, rfl, ho, hv0, hb⟩ := hrel
    have hrg := range_block ((hb.block _ (by have := HZ2.out; omega)).trans HX0.out)
    have y0 := hrg 0 (.bool e) rfl
    have y1 := hrg 1 (.int .u32 (i : Int)) rfl
    have y2 := hrg 2 (.bool r) rfl
    have y3 := hrg 3 (.int .i64 d) rfl
    have y4 := hrg 4 (.slice a n cap) rfl
    simp only [Nat.zero_add, Nat.add_zero] at y0 y1 y2 y3 y4
    clear hrg
    by_cases hlt : k < n
    · have hkl : k < l.length := by have := HL.out; omega
      obtain ⟨g0, o0, rfl, hc⟩ := HH.out.cells (by intro e; rw [e] at hkl; exact absurd hkl (Nat.not_lt_zero _))
      have hx := hc k hkl
      have hgz : g0 < w.heap.size := World.block_lt_of_cell? w _ hx
      have xk := (hb.cell (p := ⟨g0, o0 + k, none⟩) (by have := HZ2.out; show g0 < _; omega)).trans ((HB0.out.cell (p := ⟨g0, o0 + k, none⟩) (by exact hgz)).trans hx)
      have HO : Hid (ownsB wr W2.heap.size u3 (l.take k)) := ho
      have HB : Hid (Below W2.heap.size W2 wr) := hb
      have HT : Hid (l.take k ++ [l[k]] = l.take (k + 1)) := take_snoc l k hkl
      have HLT : Hid ((l.take k).length ≤ 100000000) := by show _ ≤ _; rw [List.length_take]; omega
      clear ho hb hc hx hv0
      generalize l[k] = ck at *
      go_wp2_with (first | (at_builtin; refine app_byte W2 wr rfl (.tmp 13) (.tmp 19) rfl W2.heap.size u3 (l.take k) ck _ rfl rfl HO.out rfl HLT.out HB.out.size HB.out ?_; intro v' w' ho' hb' _))
      go_roundw
      case rel => exact ⟨k + 1, by omega, by go_num, by rw [← HT.out]; exact ho', fun e => absurd e (by omega), hb'⟩
      case measure => simp [intOf]; omega
    · have hkn : k = n := by omega
      subst hkn
      have htk : l.take k = l := by rw [List.take_of_length_le (by have := HL.out; omega)]
      rw [htk] at ho
      have hnn : u3 ≠ .slice none 0 0 := by
        intro e
        by_cases hk0 : k = 0
        · rw [hv0 hk0] at e; cases e
        · subst e
          rcases ho.2 with ⟨_, h⟩ | ⟨g, _, _, h, _⟩
          · have := HL.out; omega
          · cases h
      obtain ⟨g1, k1, rfl, q1, q2, q3⟩ := ownsB_bytes ho hnn HSm.out
      rw [← HL.out] at q3 ⊢
      have HQ : Hid (w.heap.size + 2 ≤ g1 ∧ g1 < wr.heap.size ∧ St W2.heap.size wr (fun W => isBytes W (some ⟨g1, 0, none⟩) k k1 l)) := ⟨by have := HZ2.out; omega, q2, q3⟩
      have HB : Hid (Below w.heap.size w wr) := HB0.out.trans (hb.mono (by have := HZ2.out; omega))
      have hZ := HX1.out.below hb (by have := HZ2.out; omega)
      obtain ⟨u0, z0⟩ := hZ.cell 0 (by omega)
      obtain ⟨u1, z1⟩ := hZ.cell 1 (by omega)
      obtain ⟨u2, z2⟩ := hZ.cell 2 (by omega)
      obtain ⟨u3, z3⟩ := hZ.cell 3 (by omega)
      obtain ⟨u4, z4⟩ := hZ.cell 4 (by omega)
      have f0 := hZ.free 0
      have f1 := hZ.free 1
      have f2 := hZ.free 2
      have f3 := hZ.free 3
      have f4 := hZ.free 4
      clear hZ q1 q2 q3 ho hb hv0 hnn htk
      go_wp2
      refine bodyPost_ret (v := frV e i r d (some ⟨g1, 0, none⟩) k k1) (by simp [results, Tryd.results47, go_sem, z0, z1, z2, z3, z4]) rfl ?_
      have hq := HQ.out
      have hz := HZ2.out
      refine ⟨g1, k1, rfl, ⟨by omega, by simpa using hq.2.1, ?_, hq.1⟩, ?_⟩
      · rw [show w.heap.size + 2 = W2.heap.size from hz.symm]
        exact ((((hq.2.2.set _ _ (by omega) _).set _ _ (by omega) _).set _ _ (by omega) _).set _ _ (by omega) _).set _ _ (by omega) _
      · (repeat refine Below.setCell ?_ (by simp) _)
        exact HB.out
set_option maxHeartbeats 1000000 in
theorem toByteS_row (w : World) (a : Option Addr) (n cap : Nat) (l : List Nat) (h : isBytes w a n cap l) (hn : n ≤ 1048576) :
    Calls Tryd.prog 48 #[.slice a n cap] w fun e w' => ∃ g, e = .returned (.slice (some ⟨g, 0, none⟩) n n) ∧ isBytes w' (some ⟨g, 0, none⟩) n n l ∧ Below w.heap.size w w' ∧ w.heap.size ≤ g ∧ g < w'.heap.size ∧ ∃ f, rowB w' g n f := by
  have hlen := h.len
  have hcp := h.cap
  by_cases hl : l = []
  · subst hl
    have hn0 : n = 0 := hlen
    subst hn0
    have HS : Hid (∀ x ∈ ([] : List Nat), x < 256) := h.small
    clear hlen h
    go_enter Tryd.func48, Tryd.ntmps48
    go_wp2_with (first | (at_make; refine make_zeroB _ rfl (.tmp 6) (.tmp 6) rfl _ 0 rfl rfl rfl (by omega) ?_; intro w1 hrow hg1 hz1))
    go_loopw [4] (fun i wr => i = .int .i64 0 ∧ Below w.heap.size w wr ∧ w.heap.size < wr.heap.size) (fun _ _ => 0)
    case atStart => exact ⟨rfl, (Below.refl _ _).grown hg1 (Nat.le_refl _) (by intro k e; cases e), hz1⟩
    case round =>
      obtain ⟨rfl, hb, hz⟩ := hrel
      go_wp2
      go_ret
      exact ⟨_, rfl, ⟨rfl, Nat.le_refl _, HS.out, fun e => absurd rfl e⟩, hb, Nat.le_refl _, hz, (fun _ => 0), ⟨fun t ht => absurd ht (Nat.not_lt_zero _), fun t ht => absurd ht (Nat.not_lt_zero _)⟩⟩
  · obtain ⟨g, off, rfl, hc⟩ := h.cells hl
    have hgz : g < w.heap.size := World.block_lt_of_cell? w _ (hc 0 (by have := List.length_pos_iff.2 hl; omega))
    have hsm := h.small
    have HL : Hid (n = l.length) := hlen
    have hn1 : n ≤ l.length := by omega
    have hn2 : l.length ≤ n := by omega
    clear h hlen
    go_enter Tryd.func48, Tryd.ntmps48
    go_wp2_with (first | (at_make; refine make_zeroB _ rfl (.tmp 6) (.tmp 6) rfl _ n rfl rfl rfl (by omega) ?_; intro w1 hrow hg1 hz1))
    go_loopw [4] (fun i wr => ∃ k : Nat, k ≤ n ∧ i = .int .i64 k ∧ rowB wr w.heap.size n (fun t => if t < k then l.getD t 0 else 0) ∧ Below w.heap.size w wr ∧ w.heap.size < wr.heap.size) (fun i _ => n - (intOf i).toNat)
    case atStart => exact ⟨0, Nat.zero_le _, rfl, hrow.of (fun t _ => by simp), (Below.refl _ _).grown hg1 (Nat.le_refl _) (by intro k e; cases e), hz1⟩
    case round =>
      clear hrow hz1
      obtain ⟨k, hk, rfl, hrow, hb, hz⟩ := hrel
      by_cases hlt : k < n
      · have hcx : wr.cell? ⟨g, off + k, none⟩ = some (.int .u8 (l[k] : Int)) := (hb.cell (by exact hgz)).trans (hc k (by omega))
        have hcy := hrow.cell k hlt
        have hfy := hrow.free k hlt
        have HG : Hid (l.getD k 0 = l[k]) := getD_at l k (by omega)
        generalize l[k] = x at *
        have hne : ¬ w.heap.size = g := by omega
        go_wp2
        go_roundw
        case rel =>
          refine ⟨k + 1, by omega, by go_num, hrow.set' k hlt _ ?_ ?_, hb.setCell (by exact Nat.le_refl _) _, by simpa using hz⟩
          · rw [if_pos (Nat.lt_succ_self k), HG.out]
          · intro t _ hne'
            by_cases h1 : t < k
            · rw [if_pos h1, if_pos (by omega)]
            · rw [if_neg h1, if_neg (by omega)]
        case measure => simp [intOf]; omega
      · go_wp2
        go_ret
        refine ⟨_, rfl, ⟨HL.out, Nat.le_refl _, hsm, fun _ => ⟨_, 0, rfl, fun j hj => ?_⟩⟩, hb, Nat.le_refl _, hz, _, hrow⟩
        have := hrow.cell j (by omega)
        rw [Nat.zero_add, this, if_pos (by omega), getD_at l j hj]
theorem rowB.up {w W : World} {g n : Nat} {f : Nat → Nat} (h : rowB w g n f) (he : W.heap[g]? = w.heap[g]?) : rowB W g n f :=
  ⟨fun t ht => cell_up (h.cell t ht) he, fun t ht => by have := h.free t ht; simp only [World.frozen?, he] at this ⊢; exact this⟩
theorem rowB.below {w W : World} {g n : Nat} {f : Nat → Nat} (h : rowB w g n f) (hb : Below w.heap.size w W) (hg : g < w.heap.size) : rowB W g n f := h.up (hb.block g hg)
set_option maxHeartbeats 2000000 in
theorem markByteS_row (w : World) (g n cap c : Nat) (f : Nat → Nat) (hr : rowB w g n f) (hcp : n ≤ cap) (hn : n ≤ 1048576) (hc : c ≤ 1000) :
    Calls Tryd.prog 57 #[.slice (some ⟨g, 0, none⟩) n cap, .int .i64 (c : Int)] w fun o w' => o = .returned (.int .i64 ((c + n : Nat) : Int)) ∧ rowB w' g n (fun t => (c + t) % 256) ∧ (∀ b, b ≠ g → w'.heap[b]? = w.heap[b]?) ∧ w'.heap.size = w.heap.size ∧ Below g w w' := by
  have HR : Hid (rowB w g n f) := hr
  clear hr
  go_enter Tryd.func57, Tryd.ntmps57
  go_wp2
  go_loopw [1, 5] (fun kk i wr => ∃ k : Nat, k ≤ n ∧ i = .int .i64 (k : Int) ∧ kk = .int .i64 ((c + k : Nat) : Int) ∧ rowB wr g n (fun t => if t < k then (c + t) % 256 else f t) ∧ (∀ b, b ≠ g → wr.heap[b]? = w.heap[b]?) ∧ wr.heap.size = w.heap.size ∧ Below g w wr) (fun _ i _ => n - (intOf i).toNat)
  case atStart => exact ⟨0, Nat.zero_le _, rfl, by go_num, HR.out.of (fun t _ => by simp), fun _ _ => rfl, rfl, Below.refl _ _⟩
  case round =>
    obtain ⟨k, hk, rfl, rfl, hrow, hoth, hsz, hb⟩ := hrel
    by_cases hlt : k < n
    · have z0 := hrow.cell k hlt
      have f0 := hrow.free k hlt
      have HD : Hid (rowB wr g n (fun t => if t < k then (c + t) % 256 else f t) ∧ (∀ b, b ≠ g → wr.heap[b]? = w.heap[b]?) ∧ wr.heap.size = w.heap.size ∧ Below g w wr) := ⟨hrow, hoth, hsz, hb⟩
      clear hrow hoth hsz hb
      generalize hC : c + k = C at *
      have HC : Hid (c + k = C) := hC
      have hC1 : C ≤ 4000000 := by omega
      clear hC
      go_wp2
      obtain ⟨r2, r3, r4, r5⟩ := HD.out
      have hC := HC.out
      refine ⟨⟨k + 1, by omega, by go_num, by rw [← hC]; go_num, ?_, fun b hb => (heap_setCell_other _ _ _ _ (by exact hb)).trans (r3 b hb), by simpa using r4, r5.setCell (by exact Nat.le_refl _) _⟩, by simp [intOf]; omega⟩
      refine r2.set' k hlt _ ?_ ?_
      · rw [if_pos (Nat.lt_succ_self k)]
        go_num
      · intro t _ hne'
        by_cases h1 : t < k
        · rw [if_pos h1, if_pos (by omega)]
        · rw [if_neg h1, if_neg (by omega)]
    · have hkn : k = n := by omega
      subst hkn
      have hrow := hrow.of (f' := fun t => (c + t) % 256) (fun t ht => by rw [if_pos ht])
      go_wp2
      go_ret
      exact ⟨rfl, hrow, hoth, hsz, hb⟩
set_option maxHeartbeats 2000000 in
theorem heldByteS_row (w : World) (g n cap c : Nat) (hr : rowB w g n (fun t => (c + t) % 256)) (hcp : n ≤ cap) (hn : n ≤ 1048576) (hc : c ≤ 1000) :
    Calls Tryd.prog 58 #[.slice (some ⟨g, 0, none⟩) n cap, .int .i64 (c : Int)] w fun o w' => o = .returned (.int .i64 ((c + n : Nat) : Int)) ∧ w' = w := by
  have HR : Hid (rowB w g n (fun t => (c + t) % 256)) := hr
  clear hr
  go_enter Tryd.func58, Tryd.ntmps58
  go_wp2
  go_loopw [1, 5] (fun kk i wr => ∃ k : Nat, k ≤ n ∧ i = .int .i64 (k : Int) ∧ kk = .int .i64 ((c + k : Nat) : Int) ∧ wr = w) (fun _ i _ => n - (intOf i).toNat)
  case atStart => exact ⟨0, Nat.zero_le _, rfl, by go_num, rfl⟩
  case round =>
    obtain ⟨k, hk, rfl, rfl, rfl⟩ := hrel
    by_cases hlt : k < n
    · have x0 := HR.out.cell k hlt
      generalize hC : c + k = C at *
      have HC : Hid (c + k = C) := hC
      have hC1 : C ≤ 4000000 := by omega
      clear hC
      go_wp2
      refine ⟨⟨k + 1, by omega, by go_num, by rw [← HC.out]; go_num, trivial⟩, by simp [intOf]; omega⟩
    · have hkn : k = n := by omega
      subst hkn
      go_wp2
      go_ret
      exact ⟨rfl, rfl⟩
/-- a scan -/
structure Sc where
  f : Int
  lf : Int
  rn : Int
  lv : Int
  cr : Int
  ac : Int
  e : Bool
  i : Nat
  r : Bool
  d : Int
  l : List Nat
abbrev scV (S : Sc) (a : Option Addr) (n cap : Nat) : Value := .agg #[.int .i64 S.f, .int .i64 S.lf, .int .i64 S.rn, .int .i64 S.lv, .int .i64 S.cr, .int .i64 S.ac, .bool S.e, .int .u32 (S.i : Int), .bool S.r, .int .i64 S.d, .slice a n cap]
def scL (S : Sc) (a : Option Addr) (n cap : Nat) : List Value := [.int .i64 S.f, .int .i64 S.lf, .int .i64 S.rn, .int .i64 S.lv, .int .i64 S.cr, .int .i64 S.ac, .bool S.e, .int .u32 (S.i : Int), .bool S.r, .int .i64 S.d, .slice a n cap]
theorem scV_L (S : Sc) (a : Option Addr) (n cap : Nat) : scV S a n cap = .agg (scL S a n cap).toArray := rfl
theorem sz31 : (Tryd.prog.info? 31).map (·.size) = some 11 := by kernel_rfl
theorem one11 (f lf rn lv cr ac : Int) (e : Bool) (i : Int) (r : Bool) (d : Int) (a : Option Addr) (n c : Nat) : (#[.int .i64 f, .int .i64 lf, .int .i64 rn, .int .i64 lv, .int .i64 cr, .int .i64 ac, .bool e, .int .u32 i, .bool r, .int .i64 d, .slice a n c] : Array Value).all (·.oneCell') = true :=
  all_oneCell_toArray (by simp [Value.oneCell'])
set_option maxHeartbeats 1000000 in
set_option maxRecDepth 20000 in
theorem toFrame_row (w : World) (e : Bool) (i : Nat) (r : Bool) (d : Int) (a : Option Addr) (n cap : Nat) (l : List Nat) (h : isBytes w a n cap l) (hn : n ≤ 1048576) :
    Calls Tryd.prog 26 #[frV e i r d a n cap] w fun o w' => ∃ g, o = .returned (frV e i r d (some ⟨g, 0, none⟩) n n) ∧ isBytes w' (some ⟨g, 0, none⟩) n n l ∧ Below w.heap.size w w' ∧ w.heap.size + 3 ≤ g ∧ g < w'.heap.size ∧ ∃ f, rowB w' g n f := by
  have HH : Hid (isBytes w a n cap l) := h
  clear h
  go_enter Tryd.func26, Tryd.ntmps26
  go_wp2_with (first | (go_at_call 48; refine (toByteS_row _ a n cap l (HH.out.below ?_) hn).mono ?_))
  · exact (((Below.refl _ _).alloc (Nat.le_refl _) _).alloc (by simp) _).alloc (by simp; omega) _
  · rintro o w1 ⟨g, rfl, hby, hb, hg, hgz, f, hrow⟩
    have HGZ : Hid (g < w1.heap.size) := hgz
    clear hgz
    obtain ⟨hc, hf⟩ := bcell hb
    have hB : Below w.heap.size w w1 := ((((Below.refl w.heap.size w).alloc (Nat.le_refl _) _).alloc (by simp) _).alloc (by simp; omega) _).trans (hb.mono (by simp; omega))
    have HG : Hid (w.heap.size + 1 + 1 + 1 ≤ g) := by unfold Hid; simpa using hg
    have HY : Hid (isBytes w1 (some ⟨g, 0, none⟩) n n l ∧ rowB w1 g n f) := ⟨hby, hrow⟩
    clear hb hg hby hrow
    go_wp2
    refine bodyPost_ret (v := frV e i r d (some ⟨g, 0, none⟩) n n) (by simp [results, Tryd.results26, go_sem, hc]) rfl ?_
    have hg' := HG.out
    refine ⟨g, rfl, HY.out.1.other ?_, ?_, by omega, by simpa using HGZ.out, f, HY.out.2.up ?_⟩
    · repeat rw [heap_setCell_other _ _ g _ (by show g ≠ _; simp; omega)]
    · repeat refine Below.setCell ?_ (by simp; try omega) _
      exact hB
    · repeat rw [heap_setCell_other _ _ g _ (by show g ≠ _; simp; omega)]
abbrev z11 : List Value := [.int .i64 0, .int .i64 0, .int .i64 0, .int .i64 0, .int .i64 0, .int .i64 0, .bool false, .int .u32 0, .bool false, .int .i64 0, .slice none 0 0]
set_option maxHeartbeats 4000000 in
set_option maxRecDepth 20000 in
theorem toScan_row (w : World) (S : Sc) (a : Option Addr) (n cap : Nat) (h : isBytes w a n cap S.l) (hn : n ≤ 1048576) :
    Calls Tryd.prog 7 #[scV S a n cap] w fun o w' => ∃ g, o = .returned (scV S (some ⟨g, 0, none⟩) n n) ∧ isBytes w' (some ⟨g, 0, none⟩) n n S.l ∧ Below w.heap.size w w' ∧ w.heap.size ≤ g ∧ g < w'.heap.size ∧ ∃ f, rowB w' g n f := by
  have HH : Hid (isBytes w a n cap S.l) := h
  clear h
  obtain ⟨f, lf, rn, lv, cr, ac, e, i, r, d, l⟩ := S
  go_enter Tryd.func7, Tryd.ntmps7
  go_wp2_with fail
  refine (toFrame_row _ e i r d a n cap l (HH.out.below ((((Below.refl _ _).alloc (Nat.le_refl _) _).alloc (by simp) _).alloc (by simp; omega) _)) hn).mono ?_
  rintro o w1 ⟨g, rfl, hby, hb, hg, hgz, fr, hrow⟩
  have HB : Hid (Below w.heap.size w w1) := ((((Below.refl w.heap.size w).alloc (Nat.le_refl _) _).alloc (by simp) _).alloc (by simp; omega) _).trans (hb.mono (by simp; omega))
  have HP : Hid (blk w1 (w.heap.size + 1 + 1) ([.int .i64 f, .int .i64 lf, .int .i64 rn, .int .i64 lv, .int .i64 cr, .int .i64 ac] ++ [.bool false, .int .u32 0, .bool false, .int .i64 0, .slice none 0 0] ++ []) 31) := by
    have := (blk.new ((w.alloc (.cells #[.int .i64 f, .int .i64 lf, .int .i64 rn, .int .i64 lv, .int .i64 cr, .int .i64 ac, .bool e, .int .u32 (i : Int), .bool r, .int .i64 d, .slice a n cap] 27)).alloc (.cells z11.toArray 31)) [.int .i64 f, .int .i64 lf, .int .i64 rn, .int .i64 lv, .int .i64 cr, .int .i64 ac, .bool false, .int .u32 0, .bool false, .int .i64 0, .slice none 0 0] 31).below hb
    simpa [Hid] using this
  have HR : Hid (blk w1 (w.heap.size + 1) ([] ++ z11 ++ []) 31) := by
    have := ((blk.new (w.alloc (.cells #[.int .i64 f, .int .i64 lf, .int .i64 rn, .int .i64 lv, .int .i64 cr, .int .i64 ac, .bool e, .int .u32 (i : Int), .bool r, .int .i64 d, .slice a n cap] 27)) z11 31).alloc (.cells #[.int .i64 f, .int .i64 lf, .int .i64 rn, .int .i64 lv, .int .i64 cr, .int .i64 ac, .bool false, .int .u32 0, .bool false, .int .i64 0, .slice none 0 0] 31)).below hb
    simpa [Hid] using this
  have HG : Hid (w.heap.size + 3 ≤ g ∧ g < w1.heap.size ∧ isBytes w1 (some ⟨g, 0, none⟩) n n l ∧ rowB w1 g n fr) := by
    simp at hg
    exact ⟨by omega, hgz, hby, hrow⟩
  clear hb hg hgz hby hrow
  go_wp2_with (first
    | (refine wpList_store_mid (P := Tryd.prog) rfl 29 (.tmp 25) (.tmp 24) rfl (w.heap.size + 1 + 1) 6 #[.bool e, .int .u32 (i : Int), .bool r, .int .i64 d, .slice (some ⟨g, 0, none⟩) n n] rfl rfl (HP.out.there 6 5 (by simp)) sz29 (one5 _ _ _ _ _ _ _) ?_; generalize hW2 : World.setCells w1 (w.heap.size + 1 + 1) 6 _ = w2; have HW2 : Hid (World.setCells w1 (w.heap.size + 1 + 1) 6 [.bool e, .int .u32 (i : Int), .bool r, .int .i64 d, .slice (some ⟨g, 0, none⟩) n n] = w2) := hW2; have HP2 : Hid (blk w2 (w.heap.size + 1 + 1) (scL ⟨f, lf, rn, lv, cr, ac, e, i, r, d, l⟩ (some ⟨g, 0, none⟩) n n) 31) := (hW2 ▸ blk.put [.int .i64 f, .int .i64 lf, .int .i64 rn, .int .i64 lv, .int .i64 cr, .int .i64 ac] _ [] _ HP.out rfl); have HR2 : Hid (blk w2 (w.heap.size + 1) ([] ++ z11 ++ []) 31) := (hW2 ▸ HR.out.other (by omega) _ _); clear hW2)
    | (refine wpList_load_mid (P := Tryd.prog) rfl 31 (.tmp 3) rfl (w.heap.size + 1 + 1) 0 rfl _ _ HP2.out.load Tryd.underlying31 rfl sz31 ?_)
    | (refine wpList_store_mid (P := Tryd.prog) rfl 31 (.tmp 2) (.tmp 26) rfl (w.heap.size + 1) 0 _ rfl rfl (HR2.out.there 0 11 (by simp)) sz31 (one11 _ _ _ _ _ _ _ _ _ _ _ _ _) ?_; generalize hW3 : World.setCells w2 (w.heap.size + 1) 0 _ = w3; have HW3 : Hid (World.setCells w2 (w.heap.size + 1) 0 (scL ⟨f, lf, rn, lv, cr, ac, e, i, r, d, l⟩ (some ⟨g, 0, none⟩) n n) = w3) := hW3; clear hW3))
  have e2 := HW2.out
  have e3 := HW3.out
  have hF : blk w3 (w.heap.size + 1) (scL ⟨f, lf, rn, lv, cr, ac, e, i, r, d, l⟩ (some ⟨g, 0, none⟩) n n) 31 := e3 ▸ blk.put [] z11 [] _ HR2.out rfl
  have hL := run_loadVar_mid (P := Tryd.prog) w3 (w.heap.size + 1) 0 31 _ _ hF.load Tryd.underlying31 rfl sz31
  refine bodyPost_ret (v := scV ⟨f, lf, rn, lv, cr, ac, e, i, r, d, l⟩ (some ⟨g, 0, none⟩) n n) (results_cell Tryd.results7 _ w3 (w.heap.size + 1) _ rfl hL) rfl ?_
  obtain ⟨g1, g2, g3, g4⟩ := HG.out
  subst e2
  subst e3
  have eq : (World.setCells (World.setCells w1 (w.heap.size + 1 + 1) 6 [.bool e, .int .u32 (i : Int), .bool r, .int .i64 d, .slice (some ⟨g, 0, none⟩) n n]) (w.heap.size + 1) 0 (scL ⟨f, lf, rn, lv, cr, ac, e, i, r, d, l⟩ (some ⟨g, 0, none⟩) n n)).heap[g]? = w1.heap[g]? := by
    rw [setCells_other _ _ (by omega), setCells_other _ _ (by omega)]
  exact ⟨g, rfl, g3.other eq, setCells_below (by omega) _ _ (setCells_below (by omega) _ _ HB.out), by omega, by rw [setCells_size, setCells_size]; exact g2, fr, g4.up eq⟩
theorem szScan_any (w : World) (S : Sc) (a : Option Addr) (n cap : Nat) (m : Nat) (hn : n ≤ 9223372036854775807) (hm : m ≤ 1048576) :
    Calls Tryd.prog 5 #[scV S a n cap, .int .i64 m] w fun o w' => o = .returned (.int .i64 (if (n : Int) ≤ (m : Int) then (m : Int) - (n : Int) else -1)) ∧ Below w.heap.size w w' := by
  obtain ⟨f, lf, rn, lv, cr, ac, e, i, r, d, l⟩ := S
  by_cases h : (n : Int) ≤ (m : Int)
  · have HC : Hid (∀ W, Calls Tryd.prog 18 #[frV e i r d a n cap, .int .i64 m] W fun o w' => o = .returned (.int .i64 ((m : Int) - (n : Int))) ∧ W.alloc (frC e i r d a n cap 25) = w') := by
      intro W; have := szFrame_any W e i r d a n cap m hn hm; rw [if_pos h] at this; exact this
    rw [if_pos h]
    go_enter Tryd.func5, Tryd.ntmps5
    go_wp2_with (first | (go_at_call 18; refine (HC.out _).mono ?_; rintro o w1 ⟨rfl, rfl⟩))
    go_ret
    exact ⟨rfl, ((Below.refl _ _).alloc (Nat.le_refl _) _).alloc (by simp) _⟩
  · have HC : Hid (∀ W, Calls Tryd.prog 18 #[frV e i r d a n cap, .int .i64 m] W fun o w' => o = .returned (.int .i64 (-1)) ∧ W.alloc (frC e i r d a n cap 25) = w') := by
      intro W; have := szFrame_any W e i r d a n cap m hn hm; rw [if_neg h] at this; exact this
    rw [if_neg h]
    go_enter Tryd.func5, Tryd.ntmps5
    go_wp2_with (first | (go_at_call 18; refine (HC.out _).mono ?_; rintro o w1 ⟨rfl, rfl⟩))
    go_ret
    exact ⟨rfl, ((Below.refl _ _).alloc (Nat.le_refl _) _).alloc (by simp) _⟩
set_option maxHeartbeats 4000000 in
set_option maxRecDepth 20000 in
theorem eqScan_same (w : World) (S : Sc) (a : Option Addr) (n cap : Nat) (h : isBytes w a n cap S.l) (a' : Option Addr) (n' cap' : Nat) (h' : isBytes w a' n' cap' S.l) (hn : n ≤ 1048576) :
    Calls Tryd.prog 9 #[scV S a n cap, scV S a' n' cap'] w fun o w' => o = .returned (.bool true) ∧ Below w.heap.size w w' := by
  have HH : Hid (isBytes w a n cap S.l) := h
  have HH' : Hid (isBytes w a' n' cap' S.l) := h'
  clear h h'
  obtain ⟨f, lf, rn, lv, cr, ac, e, i, r, d, l⟩ := S
  have h1 : (f != f) = false := by simp
  have h2 : (lf != lf) = false := by simp
  have h3 : (rn != rn) = false := by simp
  have h4 : (lv != lv) = false := by simp
  have h5 : (cr != cr) = false := by simp
  have h6 : (ac != ac) = false := by simp
  have HC : Hid (∀ W, Below w.heap.size w W → Calls Tryd.prog 32 #[frV e i r d a n cap, frV e i r d a' n' cap'] W fun o w' => o = .returned (.bool true) ∧ Below w.heap.size w w') := by
    intro W hW
    refine (eqFrame_same W e i r d a n cap l (HH.out.below hW) a' n' cap' (HH'.out.below hW) hn).mono ?_
    rintro o w' ⟨rfl, hb⟩
    exact ⟨rfl, hW.trans (hb.mono hW.size)⟩
  go_enter Tryd.func9, Tryd.ntmps9
  go_wp2_with (first | (go_at_call 32; refine (HC.out _ (((Below.refl _ _).alloc (Nat.le_refl _) _).alloc (by simp) _)).mono ?_; rintro o w1 ⟨rfl, hb1⟩))
  go_ret
  exact ⟨rfl, hb1⟩
end Go.Proofs.YtjmlalojfghkiaaDoor
