import Derived.Test.YtpknchjjfiiaeaaDoorR09
namespace Go.Proofs.YtpknchjjfiiaeaaDoor.Kd
open Go.RowKit
set_option maxHeartbeats 1000000 in
theorem toByteS_row (w : World) (a : Option Addr) (n cap : Nat) (l : List Nat) (h : isBytes w a n cap l) (hn : n ≤ 1048576) :
    Calls Tryd.prog 23 #[.slice a n cap] w fun e w' => ∃ g, e = .returned (.slice (some ⟨g, 0, none⟩) n n) ∧ isBytes w' (some ⟨g, 0, none⟩) n n l ∧ Below w.heap.size w w' ∧ w.heap.size ≤ g ∧ g < w'.heap.size ∧ ∃ f, rowB w' g n f := by
  have hlen := h.len
  have hcp := h.cap
  by_cases hl : l = []
  · subst hl
    have hn0 : n = 0 := hlen
    subst hn0
    have HS : Hid (∀ x ∈ ([] : List Nat), x < 256) := h.small
    clear hlen h
    go_enter Tryd.func23, Tryd.ntmps23
    go_wp2_with (first | (at_make; refine make_zeroB _ rfl (.tmp 6) (.tmp 6) rfl _ 0 rfl rfl rfl (by omega) ?_; intro w1 hrow hg1 hz1))
    go_loopw [4] (fun i wr => i = .int .i64 0 ∧ Below w.heap.size w wr ∧ w.heap.size < wr.heap.size) (fun _ _ => 0)
    case atStart => exact ⟨rfl, (Below.refl _ _).grown hg1 (Nat.le_refl _) (by intro k e; cases e), hz1⟩
    case round =>
      obtain ⟨rfl, hb, hz⟩ := hrel
      go_wp2
      go_ret
      exact ⟨_, rfl, ⟨rfl, Nat.le_refl _, HS.out, fun e => absurd rfl e⟩, hb, Nat.le_refl _, hz, (fun _ => 0), ⟨fun t ht => absurd ht (Nat.not_lt_zero _), fun t ht => absurd ht (Nat.not_lt_zero _)⟩⟩
  · obtain ⟨g, off, rfl, hc⟩ := h.cells hl
    have hgz : g < w.heap.size := World.block_lt_of_cell? w _ (hc 0 (by have := List.length_pos_iff.2 hl; omega))
    have hsm := h.small
    have HL : Hid (n = l.length) := hlen
    have hn1 : n ≤ l.length := by omega
    have hn2 : l.length ≤ n := by omega
    clear h hlen
    go_enter Tryd.func23, Tryd.ntmps23
    go_wp2_with (first | (at_make; refine make_zeroB _ rfl (.tmp 6) (.tmp 6) rfl _ n rfl rfl rfl (by omega) ?_; intro w1 hrow hg1 hz1))
    go_loopw [4] (fun i wr => ∃ k : Nat, k ≤ n ∧ i = .int .i64 k ∧ rowB wr w.heap.size n (fun t => if t < k then l.getD t 0 else 0) ∧ Below w.heap.size w wr ∧ w.heap.size < wr.heap.size) (fun i _ => n - (intOf i).toNat)
    case atStart => exact ⟨0, Nat.zero_le _, rfl, hrow.of (fun t _ => by simp), (Below.refl _ _).grown hg1 (Nat.le_refl _) (by intro k e; cases e), hz1⟩
    case round =>
      clear hrow hz1
      obtain ⟨k, hk, rfl, hrow, hb, hz⟩ := hrel
      by_cases hlt : k < n
      · have hcx : wr.cell? ⟨g, off + k, none⟩ = some (.int .u8 (l[k] : Int)) := (hb.cell (by exact hgz)).trans (hc k (by omega))
        have hcy := hrow.cell k hlt
        have hfy := hrow.free k hlt
        have HG : Hid (l.getD k 0 = l[k]) := getD_at l k (by omega)
        generalize l[k] = x at *
        have hne : ¬ w.heap.size = g := by omega
        go_wp2
        go_roundw
        case rel =>
          refine ⟨k + 1, by omega, by go_num, hrow.set' k hlt _ ?_ ?_, hb.setCell (by exact Nat.le_refl _) _, by simpa using hz⟩
          · rw [if_pos (Nat.lt_succ_self k), HG.out]
          · intro t _ hne'
            by_cases h1 : t < k
            · rw [if_pos h1, if_pos (by omega)]
            · rw [if_neg h1, if_neg (by omega)]
        case measure => simp [intOf]; omega
      · go_wp2
        go_ret
        refine ⟨_, rfl, ⟨HL.out, Nat.le_refl _, hsm, fun _ => ⟨_, 0, rfl, fun j hj => ?_⟩⟩, hb, Nat.le_refl _, hz, _, hrow⟩
        have := hrow.cell j (by omega)
        rw [Nat.zero_add, this, if_pos (by omega), getD_at l j hj]
theorem rowB.up {w W : World} {g n : Nat} {f : Nat → Nat} (h : rowB w g n f) (he : W.heap[g]? = w.heap[g]?) : rowB W g n f :=
  ⟨fun t ht => cell_up (h.cell t ht) he, fun t ht => by have := h.free t ht; simp only [World.frozen?, he] at this ⊢; exact this⟩
theorem rowB.below {w W : World} {g n : Nat} {f : Nat → Nat} (h : rowB w g n f) (hb : Below w.heap.size w W) (hg : g < w.heap.size) : rowB W g n f := h.up (hb.block g hg)
set_option maxHeartbeats 2000000 in
theorem markByteS_row (w : World) (g n cap c : Nat) (f : Nat → Nat) (hr : rowB w g n f) (hcp : n ≤ cap) (hn : n ≤ 1048576) (hc : c ≤ 1000) :
    Calls Tryd.prog 28 #[.slice (some ⟨g, 0, none⟩) n cap, .int .i64 (c : Int)] w fun o w' => o = .returned (.int .i64 ((c + n : Nat) : Int)) ∧ rowB w' g n (fun t => (c + t) % 256) ∧ (∀ b, b ≠ g → w'.heap[b]? = w.heap[b]?) ∧ w'.heap.size = w.heap.size ∧ Below g w w' := by
  have HR : Hid (rowB w g n f) := hr
  clear hr
  go_enter Tryd.func28, Tryd.ntmps28
  go_wp2
  go_loopw [1, 5] (fun kk i wr => ∃ k : Nat, k ≤ n ∧ i = .int .i64 (k : Int) ∧ kk = .int .i64 ((c + k : Nat) : Int) ∧ rowB wr g n (fun t => if t < k then (c + t) % 256 else f t) ∧ (∀ b, b ≠ g → wr.heap[b]? = w.heap[b]?) ∧ wr.heap.size = w.heap.size ∧ Below g w wr) (fun _ i _ => n - (intOf i).toNat)
  case atStart => exact ⟨0, Nat.zero_le _, rfl, by go_num, HR.out.of (fun t _ => by simp), fun _ _ => rfl, rfl, Below.refl _ _⟩
  case round =>
    obtain ⟨k, hk, rfl, rfl, hrow, hoth, hsz, hb⟩ := hrel
    by_cases hlt : k < n
    · have z0 := hrow.cell k hlt
      have f0 := hrow.free k hlt
      have HD : Hid (rowB wr g n (fun t => if t < k then (c + t) % 256 else f t) ∧ (∀ b, b ≠ g → wr.heap[b]? = w.heap[b]?) ∧ wr.heap.size = w.heap.size ∧ Below g w wr) := ⟨hrow, hoth, hsz, hb⟩
      clear hrow hoth hsz hb
      generalize hC : c + k = C at *
      have HC : Hid (c + k = C) := hC
      have hC1 : C ≤ 4000000 := by omega
      clear hC
      go_wp2
      obtain ⟨r2, r3, r4, r5⟩ := HD.out
      have hC := HC.out
      refine ⟨⟨k + 1, by omega, by go_num, by rw [← hC]; go_num, ?_, fun b hb => (heap_setCell_other _ _ _ _ (by exact hb)).trans (r3 b hb), by simpa using r4, r5.setCell (by exact Nat.le_refl _) _⟩, by simp [intOf]; omega⟩
      refine r2.set' k hlt _ ?_ ?_
      · rw [if_pos (Nat.lt_succ_self k)]
        go_num
      · intro t _ hne'
        by_cases h1 : t < k
        · rw [if_pos h1, if_pos (by omega)]
        · rw [if_neg h1, if_neg (by omega)]
    · have hkn : k = n := by omega
      subst hkn
      have hrow := hrow.of (f' := fun t => (c + t) % 256) (fun t ht => by rw [if_pos ht])
      go_wp2
      go_ret
      exact ⟨rfl, hrow, hoth, hsz, hb⟩
set_option maxHeartbeats 1000000 in
set_option maxRecDepth 20000 in
theorem toFrame_row (w : World) (e : Bool) (i : Nat) (r : Bool) (d : Int) (a : Option Addr) (n cap : Nat) (l : List Nat) (h : isBytes w a n cap l) (hn : n ≤ 1048576) :
    Calls Tryd.prog 7 #[frV e i r d a n cap] w fun o w' => ∃ g, o = .returned (frV e i r d (some ⟨g, 0, none⟩) n n) ∧ isBytes w' (some ⟨g, 0, none⟩) n n l ∧ Below w.heap.size w w' ∧ w.heap.size + 3 ≤ g ∧ g < w'.heap.size ∧ ∃ f, rowB w' g n f := by
  have HH : Hid (isBytes w a n cap l) := h
  clear h
  go_enter Tryd.func7, Tryd.ntmps7
  go_wp2_with (first | (go_at_call 23; refine (toByteS_row _ a n cap l (HH.out.below ?_) hn).mono ?_))
  · exact (((Below.refl _ _).alloc (Nat.le_refl _) _).alloc (by simp) _).alloc (by simp; omega) _
  · rintro o w1 ⟨g, rfl, hby, hb, hg, hgz, f, hrow⟩
    have HGZ : Hid (g < w1.heap.size) := hgz
    clear hgz
    obtain ⟨hc, hf⟩ := bcell hb
    have hB : Below w.heap.size w w1 := ((((Below.refl w.heap.size w).alloc (Nat.le_refl _) _).alloc (by simp) _).alloc (by simp; omega) _).trans (hb.mono (by simp; omega))
    have HG : Hid (w.heap.size + 1 + 1 + 1 ≤ g) := by unfold Hid; simpa using hg
    have HY : Hid (isBytes w1 (some ⟨g, 0, none⟩) n n l ∧ rowB w1 g n f) := ⟨hby, hrow⟩
    clear hb hg hby hrow
    go_wp2
    refine bodyPost_ret (v := frV e i r d (some ⟨g, 0, none⟩) n n) (by simp [results, Tryd.results7, go_sem, hc]) rfl ?_
    have hg' := HG.out
    refine ⟨g, rfl, HY.out.1.other ?_, ?_, by omega, by simpa using HGZ.out, f, HY.out.2.up ?_⟩
    · repeat rw [heap_setCell_other _ _ g _ (by show g ≠ _; simp; omega)]
    · repeat refine Below.setCell ?_ (by simp; try omega) _
      exact hB
    · repeat rw [heap_setCell_other _ _ g _ (by show g ≠ _; simp; omega)]
/-- what a mark leaves: the row g with its marks, all other blocks as they were -/
structure mkd (w w' : World) (g n c : Nat) : Prop where
  row : rowB w' g n (fun t => (c + t) % 256)
  oth : ∀ b, b ≠ g → b < w.heap.size → w'.heap[b]? = w.heap[b]?
  bel : Below g w w'
set_option maxHeartbeats 1000000 in
theorem markFrame_row (w : World) (e : Bool) (i : Nat) (r : Bool) (d : Int) (g n cap c : Nat) (f : Nat → Nat) (hr : rowB w g n f) (hg : g < w.heap.size) (hcp : n ≤ cap) (hn : n ≤ 1048576) (hc : c ≤ 1000) :
    Calls Tryd.prog 11 #[frV e i r d (some ⟨g, 0, none⟩) n cap, .int .i64 (c : Int)] w fun o w' => o = .returned (.int .i64 ((c + n : Nat) : Int)) ∧ mkd w w' g n c := by
  have HR : Hid (rowB (w.alloc (.cells #[.bool e, .int .u32 (i : Int), .bool r, .int .i64 d, .slice (some ⟨g, 0, none⟩) n cap] 31)) g n f) := hr.below ((Below.refl _ _).alloc (Nat.le_refl _) _) hg
  clear hr
  go_enter Tryd.func11, Tryd.ntmps11
  go_wp2_with fail
  refine (markByteS_row _ g n cap c f HR.out hcp hn hc).mono ?_
  rintro o w1 ⟨rfl, h1, h2, h3, h4⟩
  have HM : Hid (mkd w w1 g n c) := ⟨h1, fun b hb hl => (h2 b hb).trans (Below.heap_alloc _ _ _ hl), (((Below.refl w.heap.size w).alloc (Nat.le_refl _) _).mono (by omega)).trans h4⟩
  clear h1 h2 h3 h4
  go_wp2_with fail
  go_ret
  exact ⟨rfl, HM.out⟩
def sizeZ (f : Int) (e : Bool) (d : Int) : Int :=
  if f = 2 then 11 else if f = 5 then 18 else if f = 7 then (if e = true then 2 else 1) else if f = 8 then 4
  else if f = 9 then (if d > 8 then 64 else 8 * d) else if f = 10 then 15 else if f = 14 then 7 else 1
def afterZ (f : Int) (e r : Bool) (d : Int) : Int :=
  if f = 4 ∧ e = false then 7 else if f = 8 ∧ (r = true ∨ d = 0) then 10 else f + 1
/-- one bit into the register of fifteen -/
def stepN (r b : Nat) : Nat := if b ≠ r / 16384 then ((2 * r) % 32768) ^^^ 17817 else (2 * r) % 32768
theorem stepN_lt (r b : Nat) : stepN r b < 32768 := by
  unfold stepN
  split
  · exact Nat.xor_lt_two_pow (n := 15) (by omega) (by decide)
  · omega
theorem wraps_i64 (n : Int) (h0 : 0 ≤ n) (h1 : n < 2 ^ 62) : IntKind.i64.wrap n = n := by rw [IntKind.wrap_i64]; omega
theorem i64_mask15 (n : Int) (h0 : 0 ≤ n) (h1 : n < 2 ^ 62) : bits .and .i64 n 32767 = n % 32768 :=
  bits_mask .i64 62 (by decide) wraps_i64 15 (by decide) n h0 h1
theorem i64_xor_nat (a b : Nat) (ha : a < 2 ^ 62) (hb : b < 2 ^ 62) : bits .xor .i64 (a : Int) (b : Int) = ((a ^^^ b : Nat) : Int) :=
  by
  have hx : a ^^^ b < 2 ^ 62 := Nat.xor_lt_two_pow ha hb
  show IntKind.i64.wrap ((BitVec.ofInt 64 (a : Int) ^^^ BitVec.ofInt 64 (b : Int)).toNat : Int) = _
  rw [BitVec.toNat_xor, ofInt_u64 a (by omega), ofInt_u64 b (by omega), wraps_i64 _ (by omega) (by omega)]
theorem crcStep_yes (r b : Nat) (h1 : r < 32768) (h : ((b : Int) != (r : Int) / 16384) = true) :
    bits BinOp.xor IntKind.i64 (bits BinOp.and IntKind.i64 ((r : Int) * 2) 32767) 17817 = ((stepN r b : Nat) : Int) := by
  have h' : b ≠ r / 16384 := by
    intro e
    rw [bne_iff_ne] at h
    exact h (by omega)
  rw [i64_mask15 _ (by omega) (by omega)]
  have e : ((r : Int) * 2) % 32768 = ((2 * r % 32768 : Nat) : Int) := by omega
  rw [e, show (17817 : Int) = ((17817 : Nat) : Int) from rfl, i64_xor_nat _ _ (by omega) (by decide)]
  simp [stepN, h']
theorem crcStep_no (r b : Nat) (h1 : r < 32768) (h : ((b : Int) != (r : Int) / 16384) = false) :
    bits BinOp.and IntKind.i64 ((r : Int) * 2) 32767 = ((stepN r b : Nat) : Int) := by
  have h' : ¬ b ≠ r / 16384 := by
    intro e
    rw [bne_eq_false_iff_eq] at h
    exact e (by omega)
  rw [i64_mask15 _ (by omega) (by omega)]
  unfold stepN
  rw [if_neg h']
  omega
set_option maxHeartbeats 400000 in
theorem crcStep_any (r b : Nat) (w : World) (h1 : r < 32768) :
    Calls Tryd.prog 59 #[.int .i64 r, .int .i64 b] w fun e w' => e = .returned (.int .i64 (stepN r b : Nat)) ∧ w = w' := by
  go_enter Tryd.func59, Tryd.ntmps59
  go_wp2
  · have hc : ((b : Int) != (r : Int) / 16384) = true := by assumption
    go_ret
    exact ⟨ret_int (crcStep_yes r b h1 hc), rfl⟩
  · have hc : ((b : Int) != (r : Int) / 16384) = false := by assumption
    go_ret
    exact ⟨ret_int (crcStep_no r b h1 hc), rfl⟩
end Go.Proofs.YtpknchjjfiiaeaaDoor.Kd
