import Derived.Test.YtaamahohdnbpiaaGreatG23
import Derived.Test.YtaamahohdnbpiaaGreatMH
import Derived.Test.YtaamahohdnbpiaaGreatG04
namespace Go.Proofs.YtaamahohdnbpiaaGreat
open Go.RowKit
set_option linter.unusedVariables false
/-- the queue and the count of what is lost, behind one event more -/
def quP (c3 : Int) (qu : List R8) (e : R8) : List R8 := if (qu.length : Int) < c3 then qu ++ [e] else qu
def loP (c3 : Int) (qu : List R8) (lo : Int) : Int := if (qu.length : Int) < c3 then lo else if lo < 100000 then lo + 1 else lo
def postHo (H : Ho) (e : R8) : Ho := { H with qu := quP H.c3 H.qu e, lo := loP H.c3 H.qu H.lo }
def qSl (s : Sl) (g n k : Nat) : Sl := { s with a4 := some ⟨g, 0, none⟩, n4 := n, k4 := k }
theorem ownG.holes {w w' V : World} {B T E g gd kd : Nat} {g' k' : Nat} {rs : List (R8 × Nat × Nat)} {ev : R8} (h1 : ownG rc8 w' B E 8 g' k' (rs ++ [(ev, gd, kd)])) (hg : g' = g ∨ w.heap.size ≤ g') (hgT : g < T) (hall : ∀ p ∈ rs, rc8.gd p < T) (hgd : w.heap.size ≤ gd) (hV : ∀ x, B ≤ x → x < T ∨ w.heap.size ≤ x → x < w'.heap.size → V.heap[x]? = w'.heap[x]?) (hz : w'.heap.size ≤ V.heap.size) : ownG rc8 V B E 8 g' k' (rs ++ [(ev, gd, kd)]) := by
  refine ⟨ownsRow_kept h1.own (hV g' h1.lt.1 (by omega) h1.lt.2), fun p hp => ?_⟩
  obtain ⟨d1, d2, d3, d4⟩ := h1.dat p hp
  have e : rc8.gd p < T ∨ w.heap.size ≤ rc8.gd p := by
    rcases List.mem_append.1 hp with h | h
    · exact Or.inl (hall p h)
    · right
      have : p = (ev, gd, kd) := by simpa using h
      subst this
      exact hgd
  exact ⟨d1.other (hV _ d2 e d4), d2, d3, Nat.lt_of_lt_of_le d4 hz⟩
theorem ownG.holes0 {w' V : World} {B T E g k : Nat} {rs : List (R8 × Nat × Nat)} (h1 : ownG rc8 w' B E 8 g k rs) (hgT : g < T) (hall : ∀ p ∈ rs, rc8.gd p < T) (hV : ∀ x, B ≤ x → x < T → x < w'.heap.size → V.heap[x]? = w'.heap[x]?) (hz : w'.heap.size ≤ V.heap.size) : ownG rc8 V B E 8 g k rs := by
  refine ⟨ownsRow_kept h1.own (hV g h1.lt.1 hgT h1.lt.2), fun p hp => ?_⟩
  obtain ⟨d1, d2, d3, d4⟩ := h1.dat p hp
  exact ⟨d1.other (hV _ d2 (hall p hp) d4), d2, d3, Nat.lt_of_lt_of_le d4 hz⟩
/-- spec.l3post -/
theorem l3post_q (w : World) (H : Ho) (s : Sl) (B T g4 : Nat) (ev : R8) (ao : Option Addr) (m c : Nat) (ha : s.a4 = some ⟨g4, 0, none⟩) (hQ : rowQ8 B T 46 g4 s.n4 s.k4 H.qu w) (hB : B ≤ w.heap.size) (hn : s.n4 ≤ 1000) (hlo : 0 ≤ H.lo ∧ H.lo ≤ 100000) (hf : isBytes w ao m c ev.l) (hm : m ≤ 1048576) :
    Calls Tryz.prog 143 #[.agg (hoL H s).toArray, .int .i64 ev.x, .int .i64 ev.y, .int .i64 ev.z, frV ev.e ev.i ev.r ev.d ao m c] w fun o w' => ∃ g' n' k', o = .returned (.agg (hoL (postHo H ev) (qSl s g' n' k')).toArray) ∧ (∀ V : World, (∀ x, B ≤ x → x < T ∨ w.heap.size ≤ x → x < w'.heap.size → V.heap[x]? = w'.heap[x]?) → w'.heap.size ≤ V.heap.size → rowQ8 B V.heap.size 46 g' n' k' (quP H.c3 H.qu ev) V) ∧ (∀ q, q ≠ g4 → q < w.heap.size → w'.heap[q]? = w.heap[q]?) ∧ Below B w w' := by
  obtain ⟨rs, ho, hmap, hlen, hgT, hall⟩ := hQ
  have hql : H.qu.length = s.n4 := by rw [← hmap, List.length_map, hlen]
  have hml := hf.len
  subst hml
  obtain ⟨c0, c1, c2, c3, fs, bx, ff, qu, lo, st⟩ := H
  obtain ⟨a1, n1, k1, a2, n2, k2, a3, n3, k3, a4, n4, k4⟩ := s
  obtain ⟨x, y, z, e, i, r, d, l⟩ := ev
  simp only [] at ha hlen hql hn hlo hmap ho hf hm
  subst ha
  by_cases hq : (n4 : Int) < c3
  · refine (l3post_more w c0 c1 c2 c3 lo st a1 n1 k1 a2 n2 k2 a3 n3 k3 B g4 n4 k4 rs x y z e i r d ao c l hq hn ho hlen hB hf hm).mono ?_
    rintro o w' ⟨g', k', gd, kd, rfl, h1, h2, h3, h4, h5⟩
    have hq' : (qu.length : Int) < c3 := by rw [hql]; exact hq
    refine ⟨g', n4 + 1, k', ?_, fun V hV hz => ?_, h2, h5⟩
    · simp only [hoL, postHo, qSl, loP, if_pos hq']
    have h1 := h1.holes h3 hgT hall h4 hV hz
    refine ⟨_, h1, ?_, ?_, h1.lt.2, fun p hp => (h1.dat p hp).2.2.2⟩
    · simp only [quP, if_pos hq', List.map_append, hmap, List.map_cons, List.map_nil]
    · simp [hlen]
  · refine (l3post_full w c0 c1 c2 c3 lo st a1 n1 k1 a2 n2 k2 a3 n3 k3 (some ⟨g4, 0, none⟩) n4 k4 x y z e i r d ao l.length c (by omega) hlo).mono ?_
    rintro o w' ⟨rfl, hb⟩
    have hq' : ¬ (qu.length : Int) < c3 := by rw [hql]; exact hq
    refine ⟨g4, n4, k4, ?_, fun V hV hz => ?_, fun q _ h => hb.block q h, hb.mono hB⟩
    · simp only [hoL, postHo, qSl, loP, if_neg hq']
    have h1 := (ho.below hb).holes0 hgT hall (fun x h1 h2 h3 => hV x h1 (Or.inl h2) h3) hz
    exact ⟨rs, h1, by simp only [quP, if_neg hq', hmap], hlen, h1.lt.2, fun p hp => (h1.dat p hp).2.2.2⟩
/-- an event without a frame -/
abbrev ev3 (x y z : Int) : R8 := ⟨x, y, z, false, 0, false, 0, []⟩
/-- spec.l3say -/
theorem l3say_q (w : World) (H : Ho) (s : Sl) (B T g4 : Nat) (x y z : Int) (ha : s.a4 = some ⟨g4, 0, none⟩) (hQ : rowQ8 B T 46 g4 s.n4 s.k4 H.qu w) (hB : B ≤ w.heap.size) (hn : s.n4 ≤ 1000) (hlo : 0 ≤ H.lo ∧ H.lo ≤ 100000) :
    Calls Tryz.prog 139 #[.agg (hoL H s).toArray, .int .i64 x, .int .i64 y, .int .i64 z] w fun o w' => ∃ g' n' k', o = .returned (.agg (hoL (postHo H (ev3 x y z)) (qSl s g' n' k')).toArray) ∧ (∀ V : World, (∀ x, B ≤ x → x < T ∨ w.heap.size ≤ x → x < w'.heap.size → V.heap[x]? = w'.heap[x]?) → w'.heap.size ≤ V.heap.size → rowQ8 B V.heap.size 46 g' n' k' (quP H.c3 H.qu (ev3 x y z)) V) ∧ (∀ q, q ≠ g4 → q < w.heap.size → w'.heap[q]? = w.heap[q]?) ∧ Below B w w' := by
  obtain ⟨rs, ho, hmap, hlen, hgT, hall⟩ := hQ
  have hql : H.qu.length = s.n4 := by rw [← hmap, List.length_map, hlen]
  obtain ⟨c0, c1, c2, c3, fs, bx, ff, qu, lo, st⟩ := H
  obtain ⟨a1, n1, k1, a2, n2, k2, a3, n3, k3, a4, n4, k4⟩ := s
  simp only [] at ha hlen hql hn hlo hmap ho
  subst ha
  by_cases hq : (n4 : Int) < c3
  · refine (l3say_more w c0 c1 c2 c3 lo st a1 n1 k1 a2 n2 k2 a3 n3 k3 B g4 n4 k4 rs x y z hq hn ho hlen hB).mono ?_
    rintro o w' ⟨g', k', gd, kd, rfl, h1, h2, h3, h4, h5⟩
    have hq' : (qu.length : Int) < c3 := by rw [hql]; exact hq
    refine ⟨g', n4 + 1, k', ?_, fun V hV hz => ?_, h2, h5⟩
    · simp only [hoL, postHo, qSl, loP, if_pos hq']
    have h1 := h1.holes h3 hgT hall h4 hV hz
    refine ⟨_, h1, ?_, ?_, h1.lt.2, fun p hp => (h1.dat p hp).2.2.2⟩
    · simp only [quP, if_pos hq', List.map_append, hmap, List.map_cons, List.map_nil]
    · simp [hlen]
  · have hq' : ¬ (qu.length : Int) < c3 := by rw [hql]; exact hq
    refine (l3say_full w c0 c1 c2 c3 lo st a1 n1 k1 a2 n2 k2 a3 n3 k3 (some ⟨g4, 0, none⟩) n4 k4 x y z (by omega) hlo (loP c3 qu lo) (by simp only [loP, if_neg hq'])).mono ?_
    rintro o w' ⟨rfl, hb⟩
    refine ⟨g4, n4, k4, rfl, fun V hV hz => ?_, fun q _ h => hb.block q h, hb.mono hB⟩
    have h1 := (ho.below hb).holes0 hgT hall (fun x h1 h2 h3 => hV x h1 (Or.inl h2) h3) hz
    exact ⟨rs, h1, by simp only [quP, if_neg hq', hmap], hlen, h1.lt.2, fun p hp => (h1.dat p hp).2.2.2⟩
/-- the first box that a test picks -/
def fstB (p : R8 → Prop) (bx : List R8) (r : Int) : Prop := (∃ (k : Nat) (h : k < bx.length), p bx[k] ∧ (∀ j (hj : j < bx.length), j < k → ¬ p bx[j]) ∧ r = (k : Int)) ∨ ((∀ k (h : k < bx.length), ¬ p bx[k]) ∧ r = -1)
theorem fstB.ix {p : R8 → Prop} [DecidablePred p] {bx : List R8} {r : Int} (h : fstB p bx r) : (r = -1 ∧ bx.findIdx (fun b => decide (p b)) = bx.length) ∨ (r = (bx.findIdx (fun b => decide (p b)) : Int) ∧ bx.findIdx (fun b => decide (p b)) < bx.length) := by
  rcases h with ⟨k, hk, h1, h2, rfl⟩ | ⟨h1, rfl⟩
  · right
    have e : bx.findIdx (fun b => decide (p b)) = k := by
      rw [List.findIdx_eq hk]
      exact ⟨by simpa using h1, fun j hj => by simpa using h2 j (by omega) hj⟩
    rw [e]
    exact ⟨rfl, hk⟩
  · left
    refine ⟨rfl, List.findIdx_eq_length.2 fun b hb => ?_⟩
    obtain ⟨j, hj, rfl⟩ := List.getElem_of_mem hb
    simpa using h1 j hj
def tagB (t : Int) (b : R8) : Prop := b.x ≠ 0 ∧ b.y = t
set_option maxHeartbeats 4000000 in
set_option maxRecDepth 20000 in
/-- spec.l3find -/
theorem l3find_any (w : World) (H : Ho) (s : Sl) (t : Int) (h : isR8s w s.a2 s.n2 s.k2 H.bx) (hn : s.n2 ≤ 1000) :
    Calls Tryz.prog 140 #[.agg (hoL H s).toArray, .int .i64 t] w fun o w' => ∃ r : Int, o = .returned (.int .i64 r) ∧ fstB (tagB t) H.bx r ∧ Below w.heap.size w w' := by
  have H0 : Hid (obS w H s (w.alloc (.cells (hoL H s).toArray 35))) := ⟨blk.new w _ 35, (Below.refl _ _).alloc (Nat.le_refl _) _⟩
  have hcp := h.cap
  obtain ⟨c0, c1, c2, c3, fs, bx, ff, qu, lo, st⟩ := H
  obtain ⟨a1, n1, k1, a2, n2, k2, a3, n3, k3, a4, n4, k4⟩ := s
  simp only [] at h hcp hn ⊢
  have HL : Hid (n2 = bx.length) := h.len
  by_cases hl : bx = []
  · subst hl
    have hn0 : n2 = 0 := HL.out
    subst hn0
    clear h
    go_enter Tryz.func140, Tryz.ntmps140
    go_wp2_with fail
    go_loopw [5] (fun i wr => i = .int .i64 0 ∧ obS w ⟨c0, c1, c2, c3, fs, [], ff, qu, lo, st⟩ ⟨a1, n1, k1, a2, 0, k2, a3, n3, k3, a4, n4, k4⟩ wr) (fun _ _ => 0)
    case atStart => exact ⟨rfl, H0.out⟩
    case round =>
      obtain ⟨rfl, hS⟩ := hrel
      have p5 := hS.p.cell 5 _ rfl
      have HS := hS.b
      go_wp2
      go_ret
      exact ⟨-1, rfl, Or.inr ⟨fun k hk => (by cases hk), rfl⟩, HS⟩
  obtain ⟨g, off, rfl, hc⟩ := h.cells hl
  have HC : Hid (∀ j (h : j < bx.length), ∃ ao m c, at8 w g (off + j * 8) bx[j] ao m c) := hc
  clear hc h hl
  go_enter Tryz.func140, Tryz.ntmps140
  go_wp2_with fail
  go_loopw [5] (fun i wr => ∃ k : Nat, k ≤ n2 ∧ i = .int .i64 (k : Int) ∧ (∀ j (hj : j < bx.length), j < k → ¬ tagB t bx[j]) ∧ obS w ⟨c0, c1, c2, c3, fs, bx, ff, qu, lo, st⟩ ⟨a1, n1, k1, some ⟨g, off, none⟩, n2, k2, a3, n3, k3, a4, n4, k4⟩ wr) (fun i _ => n2 - (intOf i).toNat)
  case atStart => exact ⟨0, Nat.zero_le _, rfl, fun j _ h => absurd h (Nat.not_lt_zero _), H0.out⟩
  case round =>
    obtain ⟨k, hk, rfl, hA, hS⟩ := hrel
    have HA : Hid (∀ j (hj : j < bx.length), j < k → ¬ tagB t bx[j]) := hA
    have HS : Hid (obS w ⟨c0, c1, c2, c3, fs, bx, ff, qu, lo, st⟩ ⟨a1, n1, k1, some ⟨g, off, none⟩, n2, k2, a3, n3, k3, a4, n4, k4⟩ wr) := hS
    have x5 := hS.p.cell 5 _ rfl
    clear hA hS
    by_cases hlt : k < n2
    · have hkl : k < bx.length := by have := HL.out; omega
      obtain ⟨ao, m, c, hx⟩ := HC.out k hkl
      have u0 := (hx.below HS.out.b).c0
      have u1 := (hx.below HS.out.b).c1
      clear hx
      have HON : Hid (tagB t bx[k] ↔ (bx[k].x ≠ 0 ∧ bx[k].y = t)) := Iff.rfl
      generalize bx[k].x = x at *
      generalize bx[k].y = y at *
      by_cases h2 : x = 0
      · subst h2
        go_wp2_with fail
        go_roundw
        case rel =>
          refine ⟨k + 1, by omega, by go_num, fun j hj hjk => ?_, HS.out⟩
          by_cases e : j = k
          · subst e
            intro hh
            exact (HON.out.1 hh).1 rfl
          · exact HA.out j hj (by omega)
        case measure => simp [intOf]; omega
      · have h2' : (x == 0) = false := by simpa using h2
        by_cases h3 : y = t
        · subst h3
          go_wp2_with fail
          go_ret
          exact ⟨k, rfl, Or.inl ⟨k, hkl, HON.out.2 ⟨h2, by simp⟩, HA.out, rfl⟩, HS.out.b⟩
        · have h3' : (y == t) = false := by simpa using h3
          go_wp2_with fail
          go_roundw
          case rel =>
            refine ⟨k + 1, by omega, by go_num, fun j hj hjk => ?_, HS.out⟩
            by_cases e : j = k
            · subst e
              intro hh
              exact h3 (HON.out.1 hh).2
            · exact HA.out j hj (by omega)
          case measure => simp [intOf]; omega
    · have hkn : n2 = k := by omega
      subst hkn
      go_wp2_with fail
      go_ret
      exact ⟨-1, rfl, Or.inr ⟨fun j hj => HA.out j hj (by have := HL.out; omega), rfl⟩, HS.out.b⟩
end Go.Proofs.YtaamahohdnbpiaaGreat
namespace Go.Proofs.YtaamahohdnbpiaaGreat
open Go.RowKit
set_option linter.unusedVariables false
structure dtS (w : World) (H : Ho) (s : Sl) (W : World) : Prop where
  p : blk W w.heap.size (hoL H s) 35
  r : blk W (w.heap.size + 1) Z10 35
  b : Below w.heap.size w W
structure dtP (w : World) (H : Ho) (s : Sl) (W : World) : Prop where
  p : blk W w.heap.size (hoL H s) 35
  r : blk W (w.heap.size + 1) Z10 35
theorem dtS.below {w : World} {H : Ho} {s : Sl} {W W' : World} (h : dtS w H s W) (hb : Below W.heap.size W W') : dtS w H s W' := ⟨h.p.below hb, h.r.below hb, h.b.trans (hb.mono h.b.size)⟩
theorem dtS.new (w : World) (H : Ho) (s : Sl) : dtS w H s ((w.alloc (.cells (hoL H s).toArray 35)).alloc (.cells Z10.toArray 35)) := by
  refine ⟨(blk.new w _ 35).alloc _, ?_, ((Below.refl _ _).alloc (Nat.le_refl _) _).alloc (by simp) _⟩
  have := blk.new (w.alloc (.cells (hoL H s).toArray 35)) Z10 35
  simpa using this
end Go.Proofs.YtaamahohdnbpiaaGreat
namespace Go.Proofs.YtaamahohdnbpiaaGreat
open Go.RowKit
set_option linter.unusedVariables false

abbrev zHo : Ho := ⟨0, 0, 0, 0, [], [], [], [], 0, 0⟩
abbrev zSl : Sl := ⟨none, 0, 0, none, 0, 0, none, 0, 0, none, 0, 0⟩
theorem zHo_is (W : World) : isHo W zHo zSl := ⟨⟨rfl, Nat.le_refl _, fun e => absurd rfl e⟩, ⟨rfl, Nat.le_refl _, fun e => absurd rfl e⟩, ⟨rfl, Nat.le_refl _, fun e => absurd rfl e⟩, ⟨rfl, Nat.le_refl _, fun e => absurd rfl e⟩⟩
/-- what Take answers -/
def takeRel (H : Ho) (i : Int) (T : Ho) : Prop := (okHo H ∧ T = takeHo H i) ∨ (¬ okHo H ∧ T = zHo)
theorem takeRel.yes {H : Ho} {i : Int} {T : Ho} (h : takeRel H i T) (hok : okHo H) : T = takeHo H i := by
  rcases h with ⟨_, e⟩ | ⟨h, _⟩
  · exact e
  · exact absurd hok h
theorem takeRel.no {H : Ho} {i : Int} {T : Ho} (h : takeRel H i T) (hok : ¬ okHo H) : T = zHo := by
  rcases h with ⟨h, _⟩ | ⟨_, e⟩
  · exact absurd h hok
  · exact e
theorem okL (W : World) (H : Ho) (s : Sl) (h : isHo W H s) (hn : H.le 1048576) (hok : okHo H) : Calls Tryz.prog 72 #[.agg (hoL H s).toArray] W fun o w' => o = .returned (.bool true) ∧ Below W.heap.size W w' := (l3ok_any W H s h hn).mono (by rintro o w' ⟨⟨b, rfl, hb⟩, h2⟩; rw [hb.2 hok]; exact ⟨rfl, h2⟩)
theorem badL (W : World) (H : Ho) (s : Sl) (h : isHo W H s) (hn : H.le 1048576) (hok : ¬ okHo H) : Calls Tryz.prog 72 #[.agg (hoL H s).toArray] W fun o w' => o = .returned (.bool false) ∧ Below W.heap.size W w' := (l3ok_any W H s h hn).mono (by rintro o w' ⟨⟨b, rfl, hb⟩, h2⟩; cases b; exact ⟨rfl, h2⟩; exact absurd (hb.1 rfl) hok)
theorem zHo_L : hoL zHo zSl = [.int .i64 0, .int .i64 0, .int .i64 0, .int .i64 0, .slice none 0 0, .slice none 0 0, .slice none 0 0, .slice none 0 0, .int .i64 0, .int .i64 0] := rfl
end Go.Proofs.YtaamahohdnbpiaaGreat
namespace Go.Proofs.YtaamahohdnbpiaaGreat
open Go.RowKit
set_option linter.unusedVariables false
theorem dr8.same0 {b0 W W' : World} {U U' g n : Nat} {bx : List R8} {hs : Nat → Hd} (h : dr8 b0 U g n bx hs 0 W) (he : W'.heap[g]? = W.heap[g]?) (hz : W.heap.size ≤ W'.heap.size) (hb : Below b0.heap.size b0 W') : dr8 b0 U' g n bx hs 0 W' :=
  ⟨h.len, h.row.up he, fun j hj => rangeAt.up (h.rng j hj) he, h.old, fun j hj hk => absurd hk (Nat.not_lt_zero _), h.dst, h.lo, Nat.lt_of_lt_of_le h.hi hz, hb, h.sm⟩
theorem dx8.same0 {b0 W W' : World} {U U' : Nat} {a : Option Addr} {n c : Nat} {ff : List R8} {hs : Nat → Hd} (h : dx8 b0 U a n c ff hs 0 W) (he : ∀ g, a = some ⟨g, 0, none⟩ → W'.heap[g]? = W.heap[g]?) (hz : W.heap.size ≤ W'.heap.size) (hb : Below b0.heap.size b0 W') : dx8 b0 U' a n c ff hs 0 W' := by
  rcases h with h | ⟨g, e, h1, h2⟩
  · exact Or.inl h
  · exact Or.inr ⟨g, e, h1, h2.same0 (he g e) hz hb⟩
theorem dx8.same {b0 W W' : World} {U : Nat} {a : Option Addr} {n c : Nat} {ff : List R8} {hs : Nat → Hd} {k : Nat} (h : dx8 b0 U a n c ff hs k W) (he : ∀ x, a = some ⟨x, 0, none⟩ ∨ U ≤ x → x < W.heap.size → W'.heap[x]? = W.heap[x]?) (hz : W.heap.size ≤ W'.heap.size) (hb : Below b0.heap.size b0 W') : dx8 b0 U a n c ff hs k W' := by
  rcases h with h | ⟨g, e, h1, h2⟩
  · exact Or.inl h
  · exact Or.inr ⟨g, e, h1, h2.same (fun x hx => he x (by rcases hx with e2 | e2; (left; rw [e2]; exact e); (right; exact e2))) hz hb⟩
/-- complete: what the host's rows ask -/
theorem dx8.sx {b0 W : World} {U : Nat} {a : Option Addr} {n c : Nat} {ff : List R8} {hs : Nat → Hd} (h : dx8 b0 U a n c ff hs n W) (hU : ∀ g, a = some ⟨g, 0, none⟩ → g < U) : sx8 W a n c hs ∧ isR8s W a n c ff ∧ dst hs n ∧ (∀ j, j < n → ∀ b, (hs j).1 = some ⟨b, 0, none⟩ → U ≤ b ∧ b < W.heap.size) := by
  rcases h with ⟨e1, e2, e3, e4⟩ | ⟨g, e, h1, h2⟩
  · subst e2
    exact ⟨Or.inl ⟨e1, rfl, e3⟩, ⟨by rw [e4]; rfl, by omega, fun hne => absurd e4 hne⟩, fun i j _ hj => absurd hj (Nat.not_lt_zero _), fun j hj => absurd hj (Nat.not_lt_zero _)⟩
  · obtain ⟨q1, q2⟩ := h2.sh (hU g e)
    subst e
    exact ⟨Or.inr ⟨g, rfl, q1, h1⟩, h2.is h1, h2.dst, q2⟩
theorem isR8s.same {W W' : World} {a : Option Addr} {n c : Nat} {ff : List R8} (h : isR8s W a n c ff) {hs : Nat → Hd} (hx : sx8 W a n c hs) (he : ∀ x, ft a n hs x → W'.heap[x]? = W.heap[x]?) : isR8s W' a n c ff := by
  rcases hx with ⟨e1, e2, e3⟩ | ⟨g, e, h1, h2⟩
  · have : ff = [] := List.length_eq_zero_iff.1 (by have := h.len; omega)
    exact ⟨h.len, h.cap, fun hne => absurd this hne⟩
  · subst e
    refine ⟨h.len, h.cap, fun hne => ?_⟩
    obtain ⟨g', off, e, hc⟩ := h.cells hne
    cases e
    refine ⟨g, 0, rfl, fun j hj => ?_⟩
    obtain ⟨ao, m, c', hat⟩ := hc j hj
    have hj' : j < n := by have := h.len; omega
    have hcs := hat.cs
    rw [Nat.zero_add, (h1.dat j hj').1] at hcs
    have e1 : (hs j).1 = ao := by injection hcs with q; injection q
    have e2 : (hs j).2.1 = m := by injection hcs with q; injection q
    have hg := he g (Or.inl rfl)
    refine ⟨ao, m, c', cell_up hat.c0 hg, cell_up hat.c1 hg, cell_up hat.c2 hg, cell_up hat.c3 hg, cell_up hat.c4 hg, cell_up hat.c5 hg, cell_up hat.c6 hg, cell_up hat.cs hg, ?_⟩
    have hd2 := (h1.dat j hj').2
    rcases hd2.2.2 with ⟨z1, z2⟩ | ⟨b, z1, z2, z3⟩
    · refine ⟨hat.dat.len, hat.dat.cap, hat.dat.small, fun hne2 => ?_⟩
      exact absurd (List.length_pos_iff.2 hne2) (by have := hat.dat.len; omega)
    · have hb := he b (Or.inr ⟨j, hj', z1⟩)
      have hdt := hat.dat
      rw [← e1, z1] at hdt ⊢
      exact hdt.other hb
theorem dr5.same0 {b0 W W' : World} {U U' g n : Nat} {bx : List R5} {hs : Nat → Hd} (h : dr5 b0 U g n bx hs 0 W) (he : W'.heap[g]? = W.heap[g]?) (hz : W.heap.size ≤ W'.heap.size) (hb : Below b0.heap.size b0 W') : dr5 b0 U' g n bx hs 0 W' :=
  ⟨h.len, h.row.up he, fun j hj => rangeAt.up (h.rng j hj) he, h.old, fun j hj hk => absurd hk (Nat.not_lt_zero _), h.dst, h.lo, Nat.lt_of_lt_of_le h.hi hz, hb, h.sm⟩
theorem dx5.same0 {b0 W W' : World} {U U' : Nat} {a : Option Addr} {n c : Nat} {ff : List R5} {hs : Nat → Hd} (h : dx5 b0 U a n c ff hs 0 W) (he : ∀ g, a = some ⟨g, 0, none⟩ → W'.heap[g]? = W.heap[g]?) (hz : W.heap.size ≤ W'.heap.size) (hb : Below b0.heap.size b0 W') : dx5 b0 U' a n c ff hs 0 W' := by
  rcases h with h | ⟨g, e, h1, h2⟩
  · exact Or.inl h
  · exact Or.inr ⟨g, e, h1, h2.same0 (he g e) hz hb⟩
theorem dx5.same {b0 W W' : World} {U : Nat} {a : Option Addr} {n c : Nat} {ff : List R5} {hs : Nat → Hd} {k : Nat} (h : dx5 b0 U a n c ff hs k W) (he : ∀ x, a = some ⟨x, 0, none⟩ ∨ U ≤ x → x < W.heap.size → W'.heap[x]? = W.heap[x]?) (hz : W.heap.size ≤ W'.heap.size) (hb : Below b0.heap.size b0 W') : dx5 b0 U a n c ff hs k W' := by
  rcases h with h | ⟨g, e, h1, h2⟩
  · exact Or.inl h
  · exact Or.inr ⟨g, e, h1, h2.same (fun x hx => he x (by rcases hx with e2 | e2; (left; rw [e2]; exact e); (right; exact e2))) hz hb⟩
/-- complete: what the host's rows ask -/
theorem dx5.sx {b0 W : World} {U : Nat} {a : Option Addr} {n c : Nat} {ff : List R5} {hs : Nat → Hd} (h : dx5 b0 U a n c ff hs n W) (hU : ∀ g, a = some ⟨g, 0, none⟩ → g < U) : sx5 W a n c hs ∧ isR5s W a n c ff ∧ dst hs n ∧ (∀ j, j < n → ∀ b, (hs j).1 = some ⟨b, 0, none⟩ → U ≤ b ∧ b < W.heap.size) := by
  rcases h with ⟨e1, e2, e3, e4⟩ | ⟨g, e, h1, h2⟩
  · subst e2
    exact ⟨Or.inl ⟨e1, rfl, e3⟩, ⟨by rw [e4]; rfl, by omega, fun hne => absurd e4 hne⟩, fun i j _ hj => absurd hj (Nat.not_lt_zero _), fun j hj => absurd hj (Nat.not_lt_zero _)⟩
  · obtain ⟨q1, q2⟩ := h2.sh (hU g e)
    subst e
    exact ⟨Or.inr ⟨g, rfl, q1, h1⟩, h2.is h1, h2.dst, q2⟩
theorem isR5s.same {W W' : World} {a : Option Addr} {n c : Nat} {ff : List R5} (h : isR5s W a n c ff) {hs : Nat → Hd} (hx : sx5 W a n c hs) (he : ∀ x, ft a n hs x → W'.heap[x]? = W.heap[x]?) : isR5s W' a n c ff := by
  rcases hx with ⟨e1, e2, e3⟩ | ⟨g, e, h1, h2⟩
  · have : ff = [] := List.length_eq_zero_iff.1 (by have := h.len; omega)
    exact ⟨h.len, h.cap, fun hne => absurd this hne⟩
  · subst e
    refine ⟨h.len, h.cap, fun hne => ?_⟩
    obtain ⟨g', off, e, hc⟩ := h.cells hne
    cases e
    refine ⟨g, 0, rfl, fun j hj => ?_⟩
    obtain ⟨ao, m, c', hat⟩ := hc j hj
    have hj' : j < n := by have := h.len; omega
    have hcs := hat.cs
    rw [Nat.zero_add, (h1.dat j hj').1] at hcs
    have e1 : (hs j).1 = ao := by injection hcs with q; injection q
    have e2 : (hs j).2.1 = m := by injection hcs with q; injection q
    have hg := he g (Or.inl rfl)
    refine ⟨ao, m, c', cell_up hat.c0 hg, cell_up hat.c1 hg, cell_up hat.c2 hg, cell_up hat.c3 hg, cell_up hat.cs hg, ?_⟩
    have hd2 := (h1.dat j hj').2
    rcases hd2.2.2 with ⟨z1, z2⟩ | ⟨b, z1, z2, z3⟩
    · refine ⟨hat.dat.len, hat.dat.cap, hat.dat.small, fun hne2 => ?_⟩
      exact absurd (List.length_pos_iff.2 hne2) (by have := hat.dat.len; omega)
    · have hb := he b (Or.inr ⟨j, hj', z1⟩)
      have hdt := hat.dat
      rw [← e1, z1] at hdt ⊢
      exact hdt.other hb
theorem isR3s.same {W W' : World} {g n c : Nat} {ff : List R3} (h : isR3s W (some ⟨g, 0, none⟩) n c ff) (he : W'.heap[g]? = W.heap[g]?) : isR3s W' (some ⟨g, 0, none⟩) n c ff := by
  refine ⟨h.len, h.cap, fun hne => ?_⟩
  obtain ⟨g', off, e, hc⟩ := h.cells hne
  cases e
  exact ⟨g, 0, rfl, fun j hj => (hc j hj).up he⟩
/-- told's host on its way: its rows' bytes are its own up to i2, i3, i4 -/
structure tdF (w : World) (n1 : Nat) (fs : List R3) (n2 : Nat) (bx : List R8) (n3 : Nat) (ff : List R5) (n4 : Nat) (qu : List R8) (g1 g2 : Nat) (h2 : Nat → Hd) (a3 : Option Addr) (k3 : Nat) (h3 : Nat → Hd) (a4 : Option Addr) (k4 : Nat) (h4 : Nat → Hd) (PH : Nat) (HL : List Value) (U2 i2 U3 i3 U4 i4 : Nat) (W : World) : Prop where
  f1 : dr3 w g1 n1 fs W
  f2 : dr8 w U2 g2 n2 bx h2 i2 W
  f3 : dx5 w U3 a3 n3 k3 ff h3 i3 W
  f4 : dx8 w U4 a4 n4 k4 qu h4 i4 W
  fh : blk W PH HL 35
  fr : blk W w.heap.size Z10 35
  b : Below w.heap.size w W
/-- the order of told's blocks -/
structure tdO (w : World) (n1 k1 n2 k2 g1 g2 : Nat) (a3 a4 : Option Addr) (PH : Nat) : Prop where
  c1 : n1 ≤ k1
  c2 : n2 ≤ k2
  o1 : g1 < g2
  o2 : ∀ g, a3 = some ⟨g, 0, none⟩ → g2 < g
  o3 : ∀ g, a4 = some ⟨g, 0, none⟩ → g2 < g ∧ ∀ g', a3 = some ⟨g', 0, none⟩ → g' < g
  p1 : PH ≠ g1 ∧ PH ≠ g2 ∧ (∀ g, a3 = some ⟨g, 0, none⟩ → PH ≠ g) ∧ (∀ g, a4 = some ⟨g, 0, none⟩ → PH ≠ g)
  r1 : w.heap.size < g1 ∧ w.heap.size < PH
theorem tdE.put {w : World} {n1 : Nat} {fs : List R3} {n2 : Nat} {bx : List R8} {n3 : Nat} {ff : List R5} {n4 : Nat} {qu : List R8} {g1 k1 g2 k2 : Nat} {h2 : Nat → Hd} {a3 : Option Addr} {k3 : Nat} {h3 : Nat → Hd} {a4 : Option Addr} {k4 : Nat} {h4 : Nat → Hd} {PH : Nat} {W : World} (E : tdE w n1 fs n2 bx n3 ff n4 qu g1 k1 g2 k2 h2 a3 k3 h3 a4 k4 h4 PH W) (hb : Below w.heap.size w W) (HL : List Value) (hl : HL.length = 10) (U2 U3 U4 : Nat) : tdF w n1 fs n2 bx n3 ff n4 qu g1 g2 h2 a3 k3 h3 a4 k4 h4 PH HL U2 0 U3 0 U4 0 (World.setCells W PH 0 HL) ∧ tdO w n1 k1 n2 k2 g1 g2 a3 a4 PH := by
  have oth : ∀ x, x ≠ PH → (World.setCells W PH 0 HL).heap[x]? = W.heap[x]? := fun x hx => setCells_other PH x hx HL W 0
  have hz : W.heap.size ≤ (World.setCells W PH 0 HL).heap.size := by rw [setCells_size]; exact Nat.le_refl _
  have hbb : Below w.heap.size w (World.setCells W PH 0 HL) := setCells_below (by have := E.r1.2; omega) 0 HL hb
  refine ⟨⟨E.f1.same (oth _ (fun e => E.p1.1 e.symm)) hz, E.f2.same0 (oth _ (fun e => E.p1.2.1 e.symm)) hz hbb, E.f3.same0 (fun g hg => oth _ (fun e => E.p1.2.2.1 g hg e.symm)) hz hbb, E.f4.same0 (fun g hg => oth _ (fun e => E.p1.2.2.2 g hg e.symm)) hz hbb, ?_, E.fr.kept (oth _ (by have := E.r1.2; omega)), hbb⟩, ⟨E.c1, E.c2, E.o1, E.o2, E.o3, E.p1, E.r1⟩⟩
  have := blk.put [] Z10 [] HL (w := W) (b := PH) (T := 35) (by simpa using E.fh) (by rw [hl]; rfl)
  simpa using this
end Go.Proofs.YtaamahohdnbpiaaGreat
namespace Go.Proofs.YtaamahohdnbpiaaGreat
open Go.RowKit
set_option linter.unusedVariables false
abbrev z8 : R8 := ⟨0, 0, 0, false, 0, false, 0, []⟩
/-- n records at g with their bytes, from B on and below T, each with bytes of its own or none -/
structure bxR (B T g n k : Nat) (bx : List R8) (hs : Nat → Hd) (W : World) : Prop where
  len : n = bx.length
  cap : n ≤ k
  lo : B ≤ g
  hi : g < T
  row : rowF W g (n * 8)
  rng : ∀ j (h : j < bx.length), W.rangeAt g (j * 8) (x8 (bx[j], hs j))
  dat : ∀ j (h : j < bx.length), isBytes W (hs j).1 (hs j).2.1 (hs j).2.2 bx[j].l ∧ (((hs j).1 = none ∧ (hs j).2.1 = 0) ∨ ∃ b, (hs j).1 = some ⟨b, 0, none⟩ ∧ B ≤ b ∧ b < T ∧ b ≠ g)
theorem isBytes.none0 {W W' : World} {a : Option Addr} {n c : Nat} {l : List Nat} (h : isBytes W a n c l) (hn : n = 0) : isBytes W' a n c l := ⟨h.len, h.cap, h.small, fun hne => absurd (List.length_pos_iff.2 hne) (by have := h.len; omega)⟩
theorem bxR.st {B T g n k : Nat} {bx : List R8} {hs : Nat → Hd} {W W' : World} (h : bxR B T g n k bx hs W) (he : ∀ x, B ≤ x → x < T → W'.heap[x]? = W.heap[x]?) : bxR B T g n k bx hs W' :=
  ⟨h.len, h.cap, h.lo, h.hi, h.row.up (he g h.lo h.hi), fun j hj => rangeAt.up (h.rng j hj) (he g h.lo h.hi), fun j hj => by
    obtain ⟨h1, h2⟩ := h.dat j hj
    refine ⟨?_, h2⟩
    rcases h2 with ⟨e1, e2⟩ | ⟨b, e1, e2, e3, _⟩
    · exact h1.none0 e2
    · rw [e1] at h1 ⊢
      exact h1.other (he b e2 e3)⟩
theorem x8_at8 {W : World} {g o : Nat} {b : R8} {h : Hd} (hr : W.rangeAt g o (x8 (b, h))) (hd : isBytes W h.1 h.2.1 h.2.2 b.l) : at8 W g o b h.1 h.2.1 h.2.2 :=
  ⟨hr 0 _ rfl, hr 1 _ rfl, hr 2 _ rfl, hr 3 _ rfl, hr 4 _ rfl, hr 5 _ rfl, hr 6 _ rfl, hr 7 _ rfl, hd⟩
theorem bxR.is {B T g n k : Nat} {bx : List R8} {hs : Nat → Hd} {W : World} (h : bxR B T g n k bx hs W) : isR8s W (some ⟨g, 0, none⟩) n k bx :=
  ⟨h.len, h.cap, fun _ => ⟨g, 0, rfl, fun j hj => ⟨_, _, _, by rw [Nat.zero_add]; exact x8_at8 (h.rng j hj) (h.dat j hj).1⟩⟩⟩
theorem rowQ8.bxR {B T E g n k : Nat} {bx : List R8} {W : World} (h : rowQ8 B T E g n k bx W) : ∃ hs, bxR B T g n k bx hs W := by
  have hi := h.is
  obtain ⟨rs, h2, h3, h4, h5, h6⟩ := h
  have hl := h2.lt
  obtain ⟨g1, c1, e1, q1, q2, q3, q4⟩ := own_slice h2.own (by intro e; cases e)
  rcases ownsRow_split h2.own with ⟨e, _⟩ | ⟨g2, c2, e2, _, _, _, hrf, hrg⟩
  · cases e
  cases e2
  subst h3
  refine ⟨fun j => (rs.map fun p => ((some ⟨p.2.1, 0, none⟩, p.1.l.length, p.2.2) : Hd)).getD j (none, 0, 0), ⟨hi.len, hi.cap, hl.1, h5, by rw [← h4]; exact hrf, fun j hj => ?_, fun j hj => ?_⟩⟩
  · have hj' : j < rs.length := by simpa using hj
    have e : x8 ((rs.map (·.1))[j], (rs.map fun p => ((some ⟨p.2.1, 0, none⟩, p.1.l.length, p.2.2) : Hd)).getD j (none, 0, 0)) = rc8.enc rs[j] := by
      simp [x8, rc8, List.getD, hj']
    rw [e]
    intro t u hu
    have ht : t < 8 := by have := (List.getElem?_eq_some_iff.mp hu).1; simpa [rc8] using this
    have := hrg (j * 8 + t) u (by rw [flat_at rc8.enc 8 (fun _ => rfl) rs j hj' t ht]; exact hu)
    rw [Nat.zero_add] at this
    exact this
  · have hj' : j < rs.length := by simpa using hj
    have hm := List.getElem_mem hj'
    obtain ⟨d1, d2, d3, d4⟩ := h2.dat rs[j] hm
    simp only [List.getElem_map, List.getD, List.getElem?_map, List.getElem?_eq_getElem hj', Option.map_some, Option.getD_some]
    exact ⟨d1, Or.inr ⟨_, rfl, d2, h6 _ hm, d3⟩⟩
/-- one record is written anew -/
theorem bxR.put {B T g n k : Nat} {bx : List R8} {hs : Nat → Hd} {W : World} (h : bxR B T g n k bx hs W) (i : Nat) (hi : i < bx.length) (b : R8) (hd : Hd) (hb : isBytes W hd.1 hd.2.1 hd.2.2 b.l) (hw : (hd.1 = none ∧ hd.2.1 = 0) ∨ ∃ b, hd.1 = some ⟨b, 0, none⟩ ∧ B ≤ b ∧ b < T ∧ b ≠ g) : bxR B T g n k (bx.set i b) (fun j => if j = i then hd else hs j) (setRow W g (i * 8) (x8 (b, hd))) := by
  have hln := h.len
  have oth : ∀ x, x ≠ g → (setRow W g (i * 8) (x8 (b, hd))).heap[x]? = W.heap[x]? := fun x hx => setRow_block g x hx _ _ _
  have dk : ∀ (hd' : Hd) (l : List Nat), isBytes W hd'.1 hd'.2.1 hd'.2.2 l → ((hd'.1 = none ∧ hd'.2.1 = 0) ∨ ∃ b, hd'.1 = some ⟨b, 0, none⟩ ∧ B ≤ b ∧ b < T ∧ b ≠ g) → isBytes (setRow W g (i * 8) (x8 (b, hd))) hd'.1 hd'.2.1 hd'.2.2 l := by
    intro hd' l h1 h2
    rcases h2 with ⟨e1, e2⟩ | ⟨c, e1, e2, e3, e4⟩
    · exact h1.none0 e2
    · rw [e1] at h1 ⊢
      exact h1.other (oth c e4)
  refine ⟨by rw [List.length_set]; exact h.len, h.cap, h.lo, h.hi, h.row.setRow _ _ _ _, fun j hj => ?_, fun j hj => ?_⟩
  · have hj' : j < bx.length := by simpa using hj
    by_cases e : j = i
    · subst e
      rw [List.getElem_set_self, if_pos rfl]
      intro t u hu
      have ht : t < (x8 (b, hd)).length := (List.getElem?_eq_some_iff.mp hu).1
      have ht8 : t < 8 := by simpa [x8] using ht
      rw [setRow_at g _ _ _ t ht ((h.row (j * 8 + t) (by omega)).1)]
      rw [List.getElem?_eq_getElem ht] at hu
      exact hu
    · rw [List.getElem_set_ne (fun x => e x.symm), if_neg e]
      intro t u hu
      have ht : t < 8 := by have := (List.getElem?_eq_some_iff.mp hu).1; simpa [x8] using this
      rw [setRow_other g _ _ _ _ (by simp [x8]; omega)]
      exact h.rng j hj' t u hu
  · have hj' : j < bx.length := by simpa using hj
    by_cases e : j = i
    · subst e
      rw [List.getElem_set_self, if_pos rfl]
      exact ⟨dk hd b.l hb hw, hw⟩
    · rw [List.getElem_set_ne (fun x => e x.symm), if_neg e]
      exact ⟨dk _ _ (h.dat j hj').1 (h.dat j hj').2, (h.dat j hj').2⟩
theorem bxR.there {B T g n k : Nat} {bx : List R8} {hs : Nat → Hd} {W : World} (h : bxR B T g n k bx hs W) (i : Nat) (hi : i < bx.length) : W.there g (i * 8) 8 := fun j hj => by
  obtain ⟨⟨v, hv⟩, hf⟩ := h.row (i * 8 + j) (by have := h.len; omega)
  exact ⟨by rw [hv]; rfl, hf⟩
/-- the state of one record is written -/
theorem bxR.setX {B T g n k : Nat} {bx : List R8} {hs : Nat → Hd} {W : World} (h : bxR B T g n k bx hs W) (i : Nat) (hi : i < bx.length) (v : Int) : bxR B T g n k (bx.set i { bx[i] with x := v }) hs (W.setCell ⟨g, i * 8, none⟩ (.int .i64 v)) := by
  have oth : ∀ x, x ≠ g → (W.setCell ⟨g, i * 8, none⟩ (.int .i64 v)).heap[x]? = W.heap[x]? := fun x hx => heap_setCell_other W ⟨g, i * 8, none⟩ x _ hx
  refine ⟨by rw [List.length_set]; exact h.len, h.cap, h.lo, h.hi, h.row.setCell _ _, fun j hj => ?_, fun j hj => ?_⟩
  · have hj' : j < bx.length := by simpa using hj
    have ot : ∀ t, j * 8 + t ≠ i * 8 → (W.setCell ⟨g, i * 8, none⟩ (.int .i64 v)).cell? ⟨g, j * 8 + t, none⟩ = W.cell? ⟨g, j * 8 + t, none⟩ := fun t ht => World.cell?_setCell_other _ _ _ _ (by intro e; simp at e <;> omega)
    intro t u hu
    have ht : t < 8 := by have := (List.getElem?_eq_some_iff.mp hu).1; simpa [x8] using this
    by_cases e : j = i
    · subst e
      rw [List.getElem_set_self] at hu
      by_cases et : t = 0
      · subst et
        have e0 : u = .int .i64 v := by simpa [x8] using hu.symm
        subst e0
        obtain ⟨⟨w0, hw0⟩, _⟩ := h.row (j * 8) (by have := h.len; omega)
        exact World.cell?_setCell_same _ _ _ hw0
      · rw [ot t (by omega)]
        refine h.rng j hj' t u ?_
        rw [← hu]
        match t, ht, et with
        | 1, _, _ | 2, _, _ | 3, _, _ | 4, _, _ | 5, _, _ | 6, _, _ | 7, _, _ => rfl
    · rw [List.getElem_set_ne (fun x => e x.symm)] at hu
      rw [ot t (by omega)]
      exact h.rng j hj' t u hu
  · have hj' : j < bx.length := by simpa using hj
    have e : (bx.set i { bx[i] with x := v })[j].l = bx[j].l := by
      by_cases e : j = i
      · subst e
        rw [List.getElem_set_self]
      · rw [List.getElem_set_ne (fun x => e x.symm)]
    rw [e]
    obtain ⟨h1, h2⟩ := h.dat j hj'
    refine ⟨?_, h2⟩
    rcases h2 with ⟨e1, e2⟩ | ⟨b, e1, e2, e3, e4⟩
    · exact h1.none0 e2
    · rw [e1] at h1 ⊢
      exact h1.other (oth b e4)
/-- a host of spec on its way: its four rows one behind the other -/
structure spS (B T0 T1 T2 : Nat) (H : Ho) (s : Sl) (W : World) : Prop where
  f : ∃ gf, s.a1 = some ⟨gf, 0, none⟩ ∧ B ≤ gf ∧ gf < T0 ∧ isR3s W (some ⟨gf, 0, none⟩) s.n1 s.k1 H.fs
  x : ∃ gb hs, s.a2 = some ⟨gb, 0, none⟩ ∧ bxR T0 T1 gb s.n2 s.k2 H.bx hs W
  r : ∃ gq, s.a3 = some ⟨gq, 0, none⟩ ∧ rowQ5 T1 T2 25 gq s.n3 s.k3 H.ff W
  q : ∃ g4, s.a4 = some ⟨g4, 0, none⟩ ∧ rowQ8 T2 W.heap.size 46 g4 s.n4 s.k4 H.qu W
  o : B ≤ T0 ∧ T0 ≤ T1 ∧ T1 ≤ T2 ∧ T2 ≤ W.heap.size
theorem spS.is {B T0 T1 T2 : Nat} {H : Ho} {s : Sl} {W : World} (h : spS B T0 T1 T2 H s W) : isHo W H s := by
  obtain ⟨gf, e1, _, _, h1⟩ := h.f
  obtain ⟨gb, hs, e2, h2⟩ := h.x
  obtain ⟨gq, e3, h3⟩ := h.r
  obtain ⟨g4, e4, h4⟩ := h.q
  exact ⟨by rw [e1]; exact h1, by rw [e2]; exact h2.is, by rw [e3]; exact h3.is, by rw [e4]; exact h4.is⟩
theorem rowQ8.mono {B T T' E g n k : Nat} {bs : List R8} {W : World} (h : rowQ8 B T E g n k bs W) (hT : T ≤ T') : rowQ8 B T' E g n k bs W := by
  obtain ⟨rs, h1, h2, h3, h4, h5⟩ := h
  exact ⟨rs, h1, h2, h3, by omega, fun p hp => Nat.lt_of_lt_of_le (h5 p hp) hT⟩
theorem rowQ8.keep {B T E g n k : Nat} {bs : List R8} {W W' : World} (h : rowQ8 B T E g n k bs W) (he : ∀ x, B ≤ x → x < T → W'.heap[x]? = W.heap[x]?) : rowQ8 B T E g n k bs W' := by
  obtain ⟨rs, h1, h2, h3, h4, h5⟩ := h
  refine ⟨rs, ⟨ownsRow_kept h1.own (he g h1.lt.1 h4), fun p hp => ?_⟩, h2, h3, h4, h5⟩
  obtain ⟨d1, d2, d3, d4⟩ := h1.dat p hp
  have e := he _ d2 (h5 p hp)
  refine ⟨d1.other e, d2, d3, ?_⟩
  rw [Array.getElem?_eq_getElem d4] at e
  exact lt_of_some e
theorem rowQ5.keep {B T E g n k : Nat} {bs : List R5} {W W' : World} (h : rowQ5 B T E g n k bs W) (he : ∀ x, B ≤ x → x < T → W'.heap[x]? = W.heap[x]?) : rowQ5 B T E g n k bs W' := by
  obtain ⟨rs, h1, h2, h3, h4, h5⟩ := h
  refine ⟨rs, ⟨ownsRow_kept h1.own (he g h1.lt.1 h4), fun p hp => ?_⟩, h2, h3, h4, h5⟩
  obtain ⟨d1, d2, d3, d4⟩ := h1.dat p hp
  have e := he _ d2 (h5 p hp)
  refine ⟨d1.other e, d2, d3, ?_⟩
  rw [Array.getElem?_eq_getElem d4] at e
  exact lt_of_some e
theorem spS.st {B T0 T1 T2 : Nat} {H : Ho} {s : Sl} {W W' : World} (h : spS B T0 T1 T2 H s W) (he : ∀ x, B ≤ x → x < W.heap.size → W'.heap[x]? = W.heap[x]?) (hz : W.heap.size ≤ W'.heap.size) : spS B T0 T1 T2 H s W' := by
  obtain ⟨o1, o2, o3, o4⟩ := h.o
  obtain ⟨gf, e1, h1a, h1b, h1⟩ := h.f
  obtain ⟨gb, hs, e2, h2⟩ := h.x
  obtain ⟨gq, e3, h3⟩ := h.r
  obtain ⟨g4, e4, h4⟩ := h.q
  exact ⟨⟨gf, e1, h1a, h1b, h1.same (he gf h1a (by omega))⟩, ⟨gb, hs, e2, h2.st fun x h1 h2 => he x (by omega) (by omega)⟩, ⟨gq, e3, h3.keep fun x h1 h2 => he x (by omega) (by omega)⟩, ⟨g4, e4, (h4.keep fun x h1 h2 => he x (by omega) h2).mono hz⟩, ⟨o1, o2, o3, by omega⟩⟩
theorem spS.below {B T0 T1 T2 : Nat} {H : Ho} {s : Sl} {W W' : World} (h : spS B T0 T1 T2 H s W) (hb : Below W.heap.size W W') : spS B T0 T1 T2 H s W' := h.st (fun x _ hx => hb.block x hx) hb.size
/-- behind a post -/
theorem spS.post {B T0 T1 T2 : Nat} {H : Ho} {s : Sl} {W V : World} {e : R8} {g' n' k' : Nat} (h : spS B T0 T1 T2 H s W) (hq : rowQ8 T2 V.heap.size 46 g' n' k' (quP H.c3 H.qu e) V) (he : ∀ q, B ≤ q → q < T2 → V.heap[q]? = W.heap[q]?) (hz : W.heap.size ≤ V.heap.size) : spS B T0 T1 T2 (postHo H e) (qSl s g' n' k') V := by
  obtain ⟨o1, o2, o3, o4⟩ := h.o
  obtain ⟨gf, e1, h1a, h1b, h1⟩ := h.f
  obtain ⟨gb, hs, e2, h2⟩ := h.x
  obtain ⟨gq, e3, h3⟩ := h.r
  exact ⟨⟨gf, e1, h1a, h1b, h1.same (he gf (by omega) (by omega))⟩, ⟨gb, hs, e2, h2.st fun x h1 h2 => he x (by omega) (by omega)⟩, ⟨gq, e3, h3.keep fun x h1 h2 => he x (by omega) (by omega)⟩, ⟨g', rfl, hq⟩, ⟨o1, o2, o3, by omega⟩⟩
/-- behind a change of the boxes -/
theorem spS.box {B T0 T1 T2 gb : Nat} {H : Ho} {s : Sl} {W W' : World} {bx : List R8} {hs : Nat → Hd} (h : spS B T0 T1 T2 H s W) (e2 : s.a2 = some ⟨gb, 0, none⟩) (hx : bxR T0 T1 gb s.n2 s.k2 bx hs W') (he : ∀ q, q ≠ gb → W'.heap[q]? = W.heap[q]?) (hz : W'.heap.size = W.heap.size) : spS B T0 T1 T2 { H with bx := bx } s W' := by
  obtain ⟨o1, o2, o3, o4⟩ := h.o
  obtain ⟨gf, e1, h1a, h1b, h1⟩ := h.f
  obtain ⟨gq, e3, h3⟩ := h.r
  obtain ⟨g4, e4, h4⟩ := h.q
  have := hx.lo
  have := hx.hi
  refine ⟨⟨gf, e1, h1a, h1b, h1.same (he gf (by omega))⟩, ⟨gb, hs, e2, hx⟩, ⟨gq, e3, h3.keep fun x h1 h2 => he x (by omega)⟩, ⟨g4, e4, ?_⟩, ⟨o1, o2, o3, by omega⟩⟩
  rw [hz]
  exact h4.keep fun x h1 h2 => he x (by omega)
end Go.Proofs.YtaamahohdnbpiaaGreat
