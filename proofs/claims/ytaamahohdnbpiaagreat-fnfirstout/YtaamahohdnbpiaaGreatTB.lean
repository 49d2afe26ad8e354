import Derived.Test.YtaamahohdnbpiaaGreatG34
import Derived.Test.YtaamahohdnbpiaaGreatHO
import Derived.Test.YtaamahohdnbpiaaGreatVB
import Derived.Deep.RegionHeld3
import Derived.Deep.AppendLies
import Derived.Deep.RegionLaw
namespace Go.Proofs.YtaamahohdnbpiaaGreat
open Go.RowKit
set_option linter.unusedVariables false
namespace M
def stepN (r b : Nat) : Nat := if b ≠ r / 16384 then ((2 * r) % 32768) ^^^ 17817 else (2 * r) % 32768
end M
namespace M
def crcN (l : List Nat) : Nat := l.foldl stepN 0
end M
namespace M
def mb (l : List Nat) (j : Nat) : Bool := l.getD j 0 == 1
end M
namespace M
def V (l : List Nat) (i j : Nat) : Bool := if j < i then false else mb l j ^^ (decide (j < i + 15) && (crcN (l.take i)).testBit (14 - (j - i)))
end M
theorem ownsB.open {w : World} {B : Nat} {v : Value} {l : List Nat} (h : ownsB w B v l) (hl : l ≠ []) :
    ∃ g cap, v = .slice (some ⟨g, 0, none⟩) l.length cap ∧ B ≤ g ∧ g < w.heap.size ∧ l.length ≤ cap ∧ cap ≤ maxLen ∧ rowB w g l.length (fun t => l.getD t 0) := by
  have h' := h
  obtain ⟨_, h1 | ⟨g, cap, cur, rfl, hb, hh, hc, hm, hsz, htk⟩⟩ := h
  · exact absurd (List.length_eq_zero_iff.1 h1.2) hl
  · refine ⟨g, cap, rfl, hb, (World.ownsRow.lt h' g rfl).2, hc, hm, fun t ht => ?_, fun t ht => ?_⟩
    · rw [World.ownsRow.cellAt h' t (by omega), bv_at l t ht]; simp [List.getD, ht]
    · exact World.ownsRow.frozenAt h' t
theorem gb_set {w w1 : World} {b : Nat} (h : w.grownBy w1 (some b)) (i : Nat) (v : Value) : w.grownBy (w1.setCell ⟨b, i, none⟩ v) (some b) :=
  ⟨h.os, h.tape, h.output, by simpa using h.size, fun k hk hne => (heap_setCell_other w1 ⟨b, i, none⟩ k v (fun e => hne (by simp [e]))).trans (h.block k hk hne)⟩
theorem stI.ne {w0 : World} {B b1 b2 : Nat} {s : ByteArray} {k : Nat} {v : Value} {l : List Nat} {r : Nat × Nat} {w : World} (h : stI w0 B b1 b2 s k v l r w) : b1 ≠ b2 := by
  intro e
  have h1 := h.run
  have h2 := h.it
  rw [← e, h1] at h2
  cases h2
theorem ownsB.otherBlock {w w' : World} {B : Nat} {v : Value} {l : List Nat} (h : ownsB w B v l) (hk : ∀ g, v.ownBlock = some g → w'.heap[g]? = w.heap[g]?) : ownsB w' B v l := by
  obtain ⟨h1, h2 | ⟨g, cap, cur, rfl, hb, hh, rest⟩⟩ := h
  · exact ⟨h1, .inl h2⟩
  · exact ⟨h1, .inr ⟨g, cap, cur, rfl, hb, (hk g rfl).trans hh, rest⟩⟩
theorem stI.app {w0 : World} {B b1 b2 : Nat} {s : ByteArray} {k : Nat} {v v' : Value} {l l' : List Nat} {r : Nat × Nat} {w w' : World} (h : stI w0 B b1 b2 s k v l r w) (ho : ownsB w' B v' l') (hb : Below B w0 w') (hk : Lib.OthersKept 5 none w w') : stI w0 B b1 b2 s k v' l' r w' :=
  ⟨ho, hk _ _ h.run (by simp) (by intro c fz e; cases e), hk _ _ h.it (by simp) (by intro c fz e; cases e), hb, h.B1, h.B2⟩
theorem isBytes.drew {W : World} {a : Option Addr} {n cap : Nat} {l : List Nat} (h : isBytes W a n cap l) : isBytes W.drew a n cap l := h.below (Below.refl _ _).drew
def srcAt (W : World) (b : Nat) (a : Option Addr) (n cap : Nat) (i s : Nat) : Prop := W.heap[b]? = some (.cells #[.slice a n cap, .int .i64 (i : Int), .int .u64 (s : Int)] 170 (0, 0))
theorem srcAt.cells {W : World} {b : Nat} {a : Option Addr} {n cap i s : Nat} (h : srcAt W b a n cap i s) :
    W.cell? ⟨b, 0, none⟩ = some (.slice a n cap) ∧ W.cell? ⟨b, 1, none⟩ = some (.int .i64 (i : Int)) ∧ W.cell? ⟨b, 2, none⟩ = some (.int .u64 (s : Int)) ∧ W.frozen? ⟨b, 1, none⟩ = false ∧ W.frozen? ⟨b, 2, none⟩ = false := by
  unfold srcAt at h
  refine ⟨?_, ?_, ?_, ?_, ?_⟩ <;> simp [World.cell?, World.frozen?, h]
theorem srcRes (z : Int) (k : Nat) (hk : 1 < k) (hk2 : k ≤ 1000000000) : ∃ r : Nat, wrap64 ((IntKind.u64.wrap z / 8589934592).tmod (k : Int)) = (r : Int) ∧ r < k := by
  obtain ⟨s, hs⟩ : ∃ s : Nat, IntKind.u64.wrap z / 8589934592 = (s : Int) ∧ s < 2147483648 := ⟨(IntKind.u64.wrap z / 8589934592).toNat, by rw [IntKind.wrap_u64]; omega⟩
  refine ⟨s % k, ?_, Nat.mod_lt _ (by omega)⟩
  rw [hs.1]
  have h1 : ((s : Int)).tmod (k : Int) = ((s % k : Nat) : Int) := by
    rw [Int.tmod_eq_emod_of_nonneg (by omega)]; omega
  have h2 : s % k < k := Nat.mod_lt _ (by omega)
  rw [h1]
  generalize s % k = y at *
  unfold wrap64
  omega
theorem u64_toNat (z : Int) : IntKind.u64.wrap z = ((IntKind.u64.wrap z).toNat : Int) := by rw [IntKind.wrap_u64]; omega
theorem src_set {W : World} {b : Nat} {a : Option Addr} {n cap i s s' : Nat} {x y : Int} (q : Nat) (h : srcAt W b a n cap i s) (hx : x = ((i + 1 : Nat) : Int)) (hy : y = (s' : Int)) :
    srcAt (((W.drewN q).setCell ⟨b, 1, none⟩ (.int .i64 x)).setCell ⟨b, 2, none⟩ (.int .u64 y)) b a n cap (i + 1) s' ∧ W.grownBy (((W.drewN q).setCell ⟨b, 1, none⟩ (.int .i64 x)).setCell ⟨b, 2, none⟩ (.int .u64 y)) (some b) := by
  subst hx hy
  have h0 : (W.drewN q).heap[b]? = some (.cells #[.slice a n cap, .int .i64 (i : Int), .int .u64 (s : Int)] 170 (0, 0)) := h
  have h1 := heap_setCell_same _ b 1 _ _ (Value.int IntKind.i64 ((i + 1 : Nat) : Int)) h0
  have h2 := heap_setCell_same _ b 2 _ _ (Value.int IntKind.u64 (s' : Int)) h1
  have hg0 : W.grownBy (W.drewN q) (some b) := ⟨rfl, rfl, rfl, Nat.le_refl _, fun _ _ _ => rfl⟩
  refine ⟨?_, gb_set (gb_set hg0 1 _) 2 _⟩
  unfold srcAt
  rw [h2]
  simp
set_option maxHeartbeats 2000000 in
theorem srcN_any (w : World) (b : Nat) (a : Option Addr) (n cap i s : Nat) (l : List Nat) (k : Nat) (h : srcAt w b a n cap i s) (hy : isBytes w a n cap l) (hi : i ≤ 1000000000000) (hk : k ≤ 1000000000) :
    Calls Tryz.prog 158 #[.pointer (some ⟨b, 0, none⟩), .int .i64 (k : Int)] w fun o w' => ∃ r s' : Nat, o = .returned (.int .i64 (r : Int)) ∧ (k ≤ 1 → r = 0) ∧ (1 < k → r < k) ∧ srcAt w' b a n cap (i + 1) s' ∧ w.grownBy w' (some b) := by
  obtain ⟨c0, c1, c2, f1, f2⟩ := h.cells
  have HS : Hid (srcAt w b a n cap i s) := h
  clear h
  by_cases hin : i < n
  · have hl : l ≠ [] := by intro e; have := hy.len; rw [e] at this; simp at this; omega
    obtain ⟨g, off, rfl, hc⟩ := hy.cells hl
    have hil : i < l.length := by have := hy.len; omega
    have hcx := hc i hil
    have hx := hy.small l[i] (List.getElem_mem _)
    generalize l[i] = x at *
    have hin' : decide ((i : Int) < (n : Int)) = true := by simp; omega
    clear hy hc hl
    by_cases h1 : k ≤ 1
    · have h1' : (k : Int) ≤ 1 := by omega
      go_enter Tryz.func158, Tryz.ntmps158
      go_wp2
      go_quiet (fail)
      go_wp2
      go_quiet (fail)
      go_wp2
      go_ret
      have hp := fun q y s' hy => src_set (x := (i : Int) + 1) (y := y) (s' := s') q HS.out (by omega) hy
      exact ⟨0, _, rfl, fun _ => rfl, fun hh => absurd hh (by omega), (hp _ _ _ (u64_toNat _)).1, (hp _ _ _ (u64_toNat _)).2⟩
    · have h1' : (1 : Int) < (k : Int) := by omega
      go_enter Tryz.func158, Tryz.ntmps158
      go_wp2
      go_quiet (fail)
      go_wp2
      go_quiet (fail)
      go_wp2
      go_ret
      have hp := fun q y s' hy => src_set (x := (i : Int) + 1) (y := y) (s' := s') q HS.out (by omega) hy
      obtain ⟨r, hr, hrk⟩ := srcRes (IntKind.u64.wrap (IntKind.u64.wrap (IntKind.u64.wrap ((s : Int) + (x : Int)) + 1) * 6364136223846793005) + 1442695040888963407) k (by omega) hk
      exact ⟨r, _, ret_int hr, fun hh => absurd hh (by omega), fun _ => hrk, (hp _ _ _ (u64_toNat _)).1, (hp _ _ _ (u64_toNat _)).2⟩
  · have hin' : decide ((i : Int) < (n : Int)) = false := by simp; omega
    by_cases h1 : k ≤ 1
    · have h1' : (k : Int) ≤ 1 := by omega
      go_enter Tryz.func158, Tryz.ntmps158
      go_wp2
      go_quiet (fail)
      go_wp2
      go_ret
      have hp := fun q y s' hy => src_set (x := (i : Int) + 1) (y := y) (s' := s') q HS.out (by omega) hy
      exact ⟨0, _, rfl, fun _ => rfl, fun hh => absurd hh (by omega), (hp _ _ _ (u64_toNat _)).1, (hp _ _ _ (u64_toNat _)).2⟩
    · have h1' : (1 : Int) < (k : Int) := by omega
      go_enter Tryz.func158, Tryz.ntmps158
      go_wp2
      go_quiet (fail)
      go_wp2
      go_ret
      have hp := fun q y s' hy => src_set (x := (i : Int) + 1) (y := y) (s' := s') q HS.out (by omega) hy
      obtain ⟨r, hr, hrk⟩ := srcRes (IntKind.u64.wrap (IntKind.u64.wrap (IntKind.u64.wrap (s : Int) + 1) * 6364136223846793005) + 1442695040888963407) k (by omega) hk
      exact ⟨r, _, ret_int hr, fun hh => absurd hh (by omega), fun _ => hrk, (hp _ _ _ (u64_toNat _)).1, (hp _ _ _ (u64_toNat _)).2⟩
theorem gb_trans {w w1 w2 : World} {b : Option Nat} (h : w.grownBy w1 b) (k : w1.grownBy w2 b) : w.grownBy w2 b :=
  ⟨k.os.trans h.os, k.tape.trans h.tape, k.output.trans h.output, Nat.le_trans h.size k.size, fun i hi hne => (k.block i (Nat.lt_of_lt_of_le hi h.size) hne).trans (h.block i hi hne)⟩
theorem gb_below {w w1 w2 : World} {b : Option Nat} (h : w.grownBy w1 b) (k : Below w.heap.size w1 w2) : w.grownBy w2 b :=
  ⟨k.os.trans h.os, k.tape.trans h.tape, k.output.trans h.output, Nat.le_trans h.size k.size, fun i hi hne => (k.block i hi).trans (h.block i hi hne)⟩
theorem ownsB.gb {w w1 : World} {B : Nat} {v : Value} {l : List Nat} {b : Nat} (h : ownsB w B v l) (hg : w.grownBy w1 (some b)) (hb : b < B) : ownsB w1 B v l :=
  h.otherBlock (fun g hgv => hg.block g ((World.ownsRow.lt h g hgv).2) (fun e => by cases e; have := (World.ownsRow.lt h _ hgv).1; omega))
theorem srcAt.below {w w1 : World} {B b : Nat} {a : Option Addr} {n cap i s : Nat} (h : srcAt w b a n cap i s) (hb : Below B w w1) (hB : b < B) : srcAt w1 b a n cap i s := (hb.block b hB).trans h
theorem srcAt.lt {w : World} {b : Nat} {a : Option Addr} {n cap i s : Nat} (h : srcAt w b a n cap i s) : b < w.heap.size := lt_of_block h
structure srcI (w0 : World) (b : Nat) (a : Option Addr) (n cap : Nat) (l : List Nat) (i : Nat) (w : World) : Prop where
  at_ : ∃ s, srcAt w b a n cap i s
  bel : Below w0.heap.size w0 w
  by_ : isBytes w0 a n cap l
  hb : w0.heap.size ≤ b
theorem srcI.lt {w0 w : World} {b : Nat} {a : Option Addr} {n cap i : Nat} {l : List Nat} (h : srcI w0 b a n cap l i w) : b < w.heap.size := by
  obtain ⟨s, hs⟩ := h.at_; exact hs.lt
theorem srcI.step {w0 w w1 : World} {b : Nat} {a : Option Addr} {n cap i i' : Nat} {l : List Nat} (h : srcI w0 b a n cap l i w) (hs : ∃ s', srcAt w1 b a n cap i' s') (hg : w.grownBy w1 (some b)) : srcI w0 b a n cap l i' w1 :=
  ⟨hs, h.bel.grown hg h.bel.size (fun k e => by cases e; exact h.hb), h.by_, h.hb⟩
theorem srcI.below {w0 w w1 : World} {B b : Nat} {a : Option Addr} {n cap i : Nat} {l : List Nat} (h : srcI w0 b a n cap l i w) (hb : Below B w w1) (hB : b < B) : srcI w0 b a n cap l i w1 := by
  obtain ⟨s, hs⟩ := h.at_
  exact ⟨⟨s, hs.below hb hB⟩, h.bel.trans (hb.mono (by have := h.hb; omega)), h.by_, h.hb⟩
theorem n_any (w0 w : World) (b : Nat) (a : Option Addr) (n cap i : Nat) (l : List Nat) (k : Nat) (h : srcI w0 b a n cap l i w) (hi : i ≤ 1000000000000) (hk : k ≤ 1000000000) :
    Calls Tryz.prog 158 #[.pointer (some ⟨b, 0, none⟩), .int .i64 (k : Int)] w fun o w' => ∃ r : Nat, o = .returned (.int .i64 (r : Int)) ∧ (k ≤ 1 → r = 0) ∧ (1 < k → r < k) ∧ srcI w0 b a n cap l (i + 1) w' ∧ w.grownBy w' (some b) := by
  obtain ⟨s, hs⟩ := h.at_
  refine (srcN_any w b a n cap i s l k hs (h.by_.below h.bel) hi hk).mono ?_
  rintro o w' ⟨r, s', rfl, h1, h2, h3, h4⟩
  exact ⟨r, rfl, h1, h2, h.step ⟨s', h3⟩ h4, h4⟩
theorem new_any (w : World) (a : Option Addr) (n cap : Nat) (l : List Nat) (h : isBytes w a n cap l) (hn : n ≤ 1048576) :
    Calls Tryz.prog 113 #[.slice a n cap] w fun o w' => ∃ b, o = .returned (.pointer (some ⟨b, 0, none⟩)) ∧ srcI w b a n cap l 0 w' ∧ w.heap.size ≤ b ∧ Below w.heap.size w w' := by
  have HH : Hid (isBytes w a n cap l) := h
  clear h
  go_enter Tryz.func113, Tryz.ntmps113
  go_wp2
  go_ret
  have hb : Below w.heap.size w (w.alloc (.cells #[.slice a n cap, .int .i64 0, .int .u64 ((n : Int) + 77)] 170)) := (Below.refl _ _).alloc (Nat.le_refl _) _
  refine ⟨w.heap.size, rfl, ⟨⟨n + 77, ?_⟩, hb, HH.out, Nat.le_refl _⟩, Nat.le_refl _, hb⟩
  exact heap_alloc_new w _
theorem rowB.gb {w w1 : World} {g m : Nat} {f : Nat → Nat} {b : Nat} (h : rowB w g m f) (hg : w.grownBy w1 (some b)) (hz : g < w.heap.size) (hne : g ≠ b) : rowB w1 g m f := by
  have hk := hg.block g hz (fun e => hne (by cases e; rfl))
  exact ⟨fun t ht => (World.cell?_of_block (a := ⟨g, t, none⟩) hk).trans (h.cell t ht), fun t ht => (World.frozen?_of_block (a := ⟨g, t, none⟩) hk).trans (h.free t ht)⟩
theorem n_int (w0 w : World) (b : Nat) (a : Option Addr) (n cap i : Nat) (l : List Nat) (k : Nat) (K : Int) (hK : K = (k : Int)) (h : srcI w0 b a n cap l i w) (hi : i ≤ 1000000000000) (hk : k ≤ 1000000000) (hk1 : 1 < k) :
    Calls Tryz.prog 158 #[.pointer (some ⟨b, 0, none⟩), .int .i64 K] w fun o w' => ∃ r : Nat, o = .returned (.int .i64 (r : Int)) ∧ r < k ∧ srcI w0 b a n cap l (i + 1) w' ∧ w.grownBy w' (some b) := by
  subst hK
  refine (n_any w0 w b a n cap i l k h hi hk).mono ?_
  rintro o w' ⟨r, rfl, _, h2, h3, h4⟩
  exact ⟨r, rfl, h2 hk1, h3, h4⟩
set_option maxHeartbeats 1000000 in
theorem genByte_any (w0 w : World) (b : Nat) (a : Option Addr) (n cap i : Nat) (l : List Nat) (h : srcI w0 b a n cap l i w) (hi : i ≤ 100000000000) :
    Calls Tryz.prog 181 #[.pointer (some ⟨b, 0, none⟩)] w fun o w' => ∃ (x i' : Nat), o = .returned (.int .u8 (x : Int)) ∧ x < 256 ∧ i' ≤ i + 2 ∧ srcI w0 b a n cap l i' w' ∧ w.grownBy w' (some b) := by
  go_enter Tryz.func181, Tryz.ntmps181
  go_wp2_with fail
  refine (n_int w0 w b a n cap i l 4 _ rfl h (by omega) (by omega) (by omega)).mono ?_
  rintro o w1 ⟨r, rfl, hr, hI1, hg1⟩
  by_cases h0 : r = 0
  · subst h0
    go_wp2
    go_ret
    exact ⟨0, i + 1, rfl, by omega, by omega, hI1, hg1⟩
  · by_cases h1 : r = 1
    · subst h1
      go_wp2
      go_ret
      exact ⟨255, i + 1, rfl, by omega, by omega, hI1, hg1⟩
    · have h0' : ((r : Int) == 0) = false := by simp; omega
      have h1' : ((r : Int) == 1) = false := by simp; omega
      go_wp2_with fail
      refine (n_int w0 w1 b a n cap _ l 256 _ rfl hI1 (by omega) (by omega) (by omega)).mono ?_
      rintro o w2 ⟨x, rfl, hx, hI2, hg2⟩
      go_wp2
      go_ret
      exact ⟨x, i + 2, rfl, by omega, by omega, hI2, gb_trans hg1 hg2⟩
set_option maxHeartbeats 1000000 in
set_option maxRecDepth 20000 in
theorem genId_any (w0 w : World) (b : Nat) (a : Option Addr) (n cap i : Nat) (l : List Nat) (e : Bool) (h : srcI w0 b a n cap l i w) (hi : i ≤ 100000000000) :
    Calls Tryz.prog 180 #[.pointer (some ⟨b, 0, none⟩), .bool e] w fun o w' => ∃ (x i' : Nat), o = .returned (.int .u32 (x : Int)) ∧ x < 4294967296 ∧ i' ≤ i + 2 ∧ srcI w0 b a n cap l i' w' ∧ w.grownBy w' (some b) := by
  cases e
  · go_enter Tryz.func180, Tryz.ntmps180
    go_wp2_with fail
    refine (n_int w0 w b a n cap i l 6 _ rfl h (by omega) (by omega) (by omega)).mono ?_
    rintro o w1 ⟨r, rfl, hr, hI1, hg1⟩
    rcases (show r = 0 ∨ r = 1 ∨ r = 2 ∨ r = 3 ∨ (4 ≤ r) from by omega) with h0 | h0 | h0 | h0 | h0
    · subst h0
      go_wp2
      go_ret
      exact ⟨0, i + 1, rfl, by omega, by omega, hI1, hg1⟩
    · subst h0
      go_wp2
      go_ret
      exact ⟨2047, i + 1, rfl, by omega, by omega, hI1, hg1⟩
    · subst h0
      go_wp2_with fail
      refine (n_int w0 w1 b a n cap _ l 8 _ rfl hI1 (by omega) (by omega) (by omega)).mono ?_
      rintro o w2 ⟨x, rfl, hx, hI2, hg2⟩
      go_wp2
      go_ret
      exact ⟨x, i + 2, rfl, by omega, by omega, hI2, gb_trans hg1 hg2⟩
    · subst h0
      go_wp2_with fail
      refine (n_int w0 w1 b a n cap _ l 64 _ rfl hI1 (by omega) (by omega) (by omega)).mono ?_
      rintro o w2 ⟨x, rfl, hx, hI2, hg2⟩
      go_wp2
      go_ret
      exact ⟨2047 - x, i + 2, ret_int (by omega), by omega, by omega, hI2, gb_trans hg1 hg2⟩
    · have h0' : ((r : Int) == 0) = false := by simp; omega
      have h1' : ((r : Int) == 1) = false := by simp; omega
      have h2' : ((r : Int) == 2) = false := by simp; omega
      have h3' : ((r : Int) == 3) = false := by simp; omega
      go_wp2_with fail
      refine (n_int w0 w1 b a n cap _ l 2048 _ rfl hI1 (by omega) (by omega) (by omega)).mono ?_
      rintro o w2 ⟨x, rfl, hx, hI2, hg2⟩
      go_wp2
      go_ret
      exact ⟨x, i + 2, rfl, by omega, by omega, hI2, gb_trans hg1 hg2⟩
  · go_enter Tryz.func180, Tryz.ntmps180
    go_wp2_with fail
    refine (n_int w0 w b a n cap i l 6 _ rfl h (by omega) (by omega) (by omega)).mono ?_
    rintro o w1 ⟨r, rfl, hr, hI1, hg1⟩
    rcases (show r = 0 ∨ r = 1 ∨ r = 2 ∨ r = 3 ∨ (4 ≤ r) from by omega) with h0 | h0 | h0 | h0 | h0
    · subst h0
      go_wp2
      go_ret
      exact ⟨0, i + 1, rfl, by omega, by omega, hI1, hg1⟩
    · subst h0
      go_wp2
      go_ret
      exact ⟨536870911, i + 1, rfl, by omega, by omega, hI1, hg1⟩
    · subst h0
      go_wp2_with fail
      refine (n_int w0 w1 b a n cap _ l 8 _ rfl hI1 (by omega) (by omega) (by omega)).mono ?_
      rintro o w2 ⟨x, rfl, hx, hI2, hg2⟩
      go_wp2
      go_ret
      exact ⟨x, i + 2, rfl, by omega, by omega, hI2, gb_trans hg1 hg2⟩
    · subst h0
      go_wp2_with fail
      refine (n_int w0 w1 b a n cap _ l 64 _ rfl hI1 (by omega) (by omega) (by omega)).mono ?_
      rintro o w2 ⟨x, rfl, hx, hI2, hg2⟩
      go_wp2
      go_ret
      exact ⟨536870911 - x, i + 2, ret_int (by omega), by omega, by omega, hI2, gb_trans hg1 hg2⟩
    · have h0' : ((r : Int) == 0) = false := by simp; omega
      have h1' : ((r : Int) == 1) = false := by simp; omega
      have h2' : ((r : Int) == 2) = false := by simp; omega
      have h3' : ((r : Int) == 3) = false := by simp; omega
      go_wp2_with fail
      refine (n_int w0 w1 b a n cap _ l 536870912 _ rfl hI1 (by omega) (by omega) (by omega)).mono ?_
      rintro o w2 ⟨x, rfl, hx, hI2, hg2⟩
      go_wp2
      go_ret
      exact ⟨x, i + 2, rfl, by omega, by omega, hI2, gb_trans hg1 hg2⟩
end Go.Proofs.YtaamahohdnbpiaaGreat
