import Derived.Test.YtfbeaekddgpmmaaGreatDoorK11
import Derived.Deep.RegionHeld3
namespace Go.Proofs.YtfbeaekddgpmmaaGreatDoor.H
open Go.RowKit Kd
set_option linter.unusedVariables false
theorem below_q {B : Nat} (w : World) (q : Nat) : Below B w (w.drewN q) := below_drewN (Below.refl _ _) q
abbrev flV (e : Bool) (m k : Int) : Value := .agg #[.bool e, .int .u32 m, .int .u32 k]
abbrev cfV (a b c d : Int) : Value := .agg #[.int .i64 a, .int .i64 b, .int .i64 c, .int .i64 d]
set_option maxHeartbeats 1000000 in
theorem eqFilter_same (w : World) (e : Bool) (m k : Int) : Calls Tryz.prog 81 #[flV e m k, flV e m k] w fun o w' => o = .returned (.bool true) ∧ Below w.heap.size w w' := by
  have hE : (e != e) = false := by simp
  have hM : (m != m) = false := by simp
  have hK : (k != k) = false := by simp
  go_enter Tryz.func81, Tryz.ntmps81
  go_wp2
  go_ret
  exact ⟨rfl, ((Below.refl _ _).alloc (Nat.le_refl _) _).alloc (by simp) _⟩
set_option maxHeartbeats 1000000 in
theorem eqConfig_same (w : World) (a b c d : Int) : Calls Tryz.prog 68 #[cfV a b c d, cfV a b c d] w fun o w' => o = .returned (.bool true) ∧ Below w.heap.size w w' := by
  have hE : (a != a) = false := by simp
  have hM : (b != b) = false := by simp
  have hK : (c != c) = false := by simp
  have hL : (d != d) = false := by simp
  go_enter Tryz.func68, Tryz.ntmps68
  go_wp2
  go_ret
  exact ⟨rfl, ((Below.refl _ _).alloc (Nat.le_refl _) _).alloc (by simp) _⟩
/-- a filter: Ext, Mask, Match -/
structure R3 where
  e : Bool
  m : Int
  k : Int
structure at3 (w : World) (g o : Nat) (b : R3) : Prop where
  c0 : w.cell? ⟨g, o, none⟩ = some (.bool b.e)
  c1 : w.cell? ⟨g, o + 1, none⟩ = some (.int .u32 b.m)
  c2 : w.cell? ⟨g, o + 2, none⟩ = some (.int .u32 b.k)
/-- the slice holds the filters bs -/
structure isR3s (w : World) (a : Option Addr) (n cap : Nat) (bs : List R3) : Prop where
  len : n = bs.length
  cap : n ≤ cap
  cells : bs ≠ [] → ∃ g off, a = some ⟨g, off, none⟩ ∧ ∀ j (h : j < bs.length), at3 w g (off + j * 3) bs[j]
theorem at3.below {w w' : World} {g o : Nat} {b : R3} (h : at3 w g o b) (hb : Below w.heap.size w w') : at3 w' g o b := by
  have hg := World.block_lt_of_cell? w _ h.c0
  exact ⟨(hb.cell (by exact hg)).trans h.c0, (hb.cell (by exact hg)).trans h.c1, (hb.cell (by exact hg)).trans h.c2⟩
theorem isR3s.below {w w' : World} {a : Option Addr} {n cap : Nat} {bs : List R3} (h : isR3s w a n cap bs) (hb : Below w.heap.size w w') : isR3s w' a n cap bs := by
  refine ⟨h.len, h.cap, fun hl => ?_⟩
  obtain ⟨g, off, ha, hc⟩ := h.cells hl
  exact ⟨g, off, ha, fun j hj => (hc j hj).below hb⟩
theorem Tryz.info60 : (Tryz.prog.info? 60).map (fun i => (i.zero, i.size, i.bytes)) = some (some (.agg #[.bool false, .int .u32 0, .int .u32 0]), 3, 12) := by kernel_rfl
theorem at3.keep {w : World} {g o : Nat} {b : R3} (h : at3 w g o b) (vs : List Value) (p : Nat) (hp : o + 3 ≤ p ∨ p + vs.length ≤ o) : at3 (setRow w g p vs) g o b :=
  ⟨(Kd.setRow_other g vs w p o (by omega)).trans h.c0, (Kd.setRow_other g vs w p (o + 1) (by omega)).trans h.c1, (Kd.setRow_other g vs w p (o + 2) (by omega)).trans h.c2⟩
theorem at3.new {w : World} {g N : Nat} (h : rowZ w g N) (p : Nat) (hp : p + 3 ≤ N) (b : R3) : at3 (setRow w g p [.bool b.e, .int .u32 b.m, .int .u32 b.k]) g p b :=
  ⟨setRow_at g _ w p 0 (by simp) (h.cell p (by omega)), setRow_at g _ w p 1 (by simp) (h.cell (p + 1) (by omega)), setRow_at g _ w p 2 (by simp) (h.cell (p + 2) (by omega))⟩
theorem at3.up {W w : World} {g o : Nat} {b : R3} (h : at3 w g o b) (he : W.heap[g]? = w.heap[g]?) : at3 W g o b := ⟨cell_up h.c0 he, cell_up h.c1 he, cell_up h.c2 he⟩
theorem invFilter_be (W W' : World) (g1 g2 A B : Nat) (ge : Bool) (gm : Int) (gk : Int) (h : W.cell? ⟨g1, A, none⟩ = some (.bool ge) ∧ W.cell? ⟨g1, A + 1, none⟩ = some (.int .u32 gm) ∧ W.cell? ⟨g1, A + 2, none⟩ = some (.int .u32 gk) ∧ W.cell? ⟨g2, B, none⟩ = some (.bool ge) ∧ W.cell? ⟨g2, B + 1, none⟩ = some (.int .u32 gm) ∧ W.cell? ⟨g2, B + 2, none⟩ = some (.int .u32 gk) ∧ g1 < W.heap.size ∧ g2 < W.heap.size) (hb : Below W.heap.size W W') : (fun W => W.cell? ⟨g1, A, none⟩ = some (.bool ge) ∧ W.cell? ⟨g1, A + 1, none⟩ = some (.int .u32 gm) ∧ W.cell? ⟨g1, A + 2, none⟩ = some (.int .u32 gk) ∧ W.cell? ⟨g2, B, none⟩ = some (.bool ge) ∧ W.cell? ⟨g2, B + 1, none⟩ = some (.int .u32 gm) ∧ W.cell? ⟨g2, B + 2, none⟩ = some (.int .u32 gk) ∧ g1 < W.heap.size ∧ g2 < W.heap.size) W' := by
  obtain ⟨a0, a1, a2, b0, b1, b2, s1, s2⟩ := h
  exact ⟨(hb.cell (by exact s1)).trans a0, (hb.cell (by exact s1)).trans a1, (hb.cell (by exact s1)).trans a2, (hb.cell (by exact s2)).trans b0, (hb.cell (by exact s2)).trans b1, (hb.cell (by exact s2)).trans b2, Nat.lt_of_lt_of_le s1 hb.size, Nat.lt_of_lt_of_le s2 hb.size⟩
set_option maxHeartbeats 4000000 in
set_option maxRecDepth 20000 in
theorem eqFilterS_same (w : World) (a1 a2 : Option Addr) (n1 c1 n2 c2 : Nat) (bs : List R3) (h1 : isR3s w a1 n1 c1 bs) (h2 : isR3s w a2 n2 c2 bs) (hn : n1 ≤ 1048576) :
    Calls Tryz.prog 69 #[.slice a1 n1 c1, .slice a2 n2 c2] w fun o w' => o = .returned (.bool true) ∧ Below w.heap.size w w' := by
  have e1 := h1.len
  have e2 := h2.len
  by_cases hl : bs = []
  · subst hl
    have e1' : n1 = 0 := e1
    have e2' : n2 = 0 := e2
    subst e1' e2'
    clear e1 e2 h1 h2
    go_enter Tryz.func69, Tryz.ntmps69
    go_wp2
    go_loopw [5] (fun i wr => i = .int .i64 0 ∧ wr = w) (fun _ _ => 0)
    case atStart => exact ⟨rfl, rfl⟩
    case round =>
      obtain ⟨rfl, rfl⟩ := hrel
      go_wp2
      go_ret
      exact ⟨rfl, Below.refl _ _⟩
  · obtain ⟨g1, o1, rfl, k1⟩ := h1.cells hl
    obtain ⟨g2, o2, rfl, k2⟩ := h2.cells hl
    have hnn : n2 = n1 := by omega
    subst hnn
    have HL : Hid (n2 = bs.length) := e2
    have HK1 : Hid (∀ j (h : j < bs.length), at3 w g1 (o1 + j * 3) bs[j]) := k1
    have HK2 : Hid (∀ j (h : j < bs.length), at3 w g2 (o2 + j * 3) bs[j]) := k2
    have hcp1 := h1.cap
    have hcp2 := h2.cap
    clear e1 e2 h1 h2 k1 k2
    go_enter Tryz.func69, Tryz.ntmps69
    go_wp2
    go_loopw [5] (fun i wr => ∃ k : Nat, k ≤ n2 ∧ i = .int .i64 k ∧ Below w.heap.size w wr) (fun i _ => n2 - (intOf i).toNat)
    case atStart => exact ⟨0, Nat.zero_le _, rfl, Below.refl _ _⟩
    case round =>
      obtain ⟨k, hk, rfl, hb⟩ := hrel
      by_cases hlt : k < n2
      · have hkl : k < bs.length := by have := HL.out; omega
        have y1 := HK1.out k hkl
        have y2 := HK2.out k hkl
        have z1 := World.block_lt_of_cell? w _ y1.c0
        have z2 := World.block_lt_of_cell? w _ y2.c0
        have hS0 : wr.cell? ⟨g1, o1 + k * 3, none⟩ = some (.bool bs[k].e) ∧ wr.cell? ⟨g1, o1 + k * 3 + 1, none⟩ = some (.int .u32 bs[k].m) ∧ wr.cell? ⟨g1, o1 + k * 3 + 2, none⟩ = some (.int .u32 bs[k].k) ∧ wr.cell? ⟨g2, o2 + k * 3, none⟩ = some (.bool bs[k].e) ∧ wr.cell? ⟨g2, o2 + k * 3 + 1, none⟩ = some (.int .u32 bs[k].m) ∧ wr.cell? ⟨g2, o2 + k * 3 + 2, none⟩ = some (.int .u32 bs[k].k) ∧ g1 < wr.heap.size ∧ g2 < wr.heap.size := ⟨(hb.cell (by exact z1)).trans y1.c0, (hb.cell (by exact z1)).trans y1.c1, (hb.cell (by exact z1)).trans y1.c2, (hb.cell (by exact z2)).trans y2.c0, (hb.cell (by exact z2)).trans y2.c1, (hb.cell (by exact z2)).trans y2.c2, Nat.lt_of_lt_of_le z1 hb.size, Nat.lt_of_lt_of_le z2 hb.size⟩
        have HB : Hid (Below w.heap.size w wr) := hb
        clear hb y1 y2 z1 z2
        generalize hBe : bs[k].e = ge at *
        generalize hBm : bs[k].m = gm at *
        generalize hBk : bs[k].k = gk at *
        clear hBe hBm hBk
        go_wp2
        go_region_held3 (fun W => W.cell? ⟨g1, o1 + k * 3, none⟩ = some (.bool ge) ∧ W.cell? ⟨g1, o1 + k * 3 + 1, none⟩ = some (.int .u32 gm) ∧ W.cell? ⟨g1, o1 + k * 3 + 2, none⟩ = some (.int .u32 gk) ∧ W.cell? ⟨g2, o2 + k * 3, none⟩ = some (.bool ge) ∧ W.cell? ⟨g2, o2 + k * 3 + 1, none⟩ = some (.int .u32 gm) ∧ W.cell? ⟨g2, o2 + k * 3 + 2, none⟩ = some (.int .u32 gk) ∧ g1 < W.heap.size ∧ g2 < W.heap.size) (first | exact invFilter_be _ _ _ _ _ _ _ _ _ hS0 (Below.refl _ _).drew | exact invFilter_be _ _ _ _ _ _ _ _ _ (by assumption) (by assumption)) (first | (go_at_call 81; refine (eqFilter_same _ ge gm gk).mono ?_; rintro o w5 ⟨rfl, hb5⟩))
        go_wp2
        go_roundw
        case rel => exact ⟨k + 1, by omega, by go_num, HB.out.trans (((Below.refl _ _).drew.trans hb5).mono HB.out.size)⟩
        case measure => simp [intOf]; omega
      · go_wp2
        go_ret
        exact ⟨rfl, hb⟩
/-- a config in its ranges -/
def okCf (a b c d : Int) : Bool := decide (1 ≤ a ∧ a ≤ 8 ∧ 1 ≤ b ∧ b ≤ 16 ∧ 0 ≤ c ∧ c ≤ 1 ∧ 1 ≤ d ∧ d ≤ 32)
theorem inRange_any (w : World) (v l m : Int) : Calls Tryz.prog 83 #[.int .i64 v, .int .i64 l, .int .i64 m] w fun o w' => o = .returned (.bool (decide (l ≤ v ∧ v ≤ m))) ∧ w = w' := by
  have HD : Hid (∀ b : Bool, (b = true ↔ (l ≤ v ∧ v ≤ m)) → b = decide (l ≤ v ∧ v ≤ m)) := fun b h => by rw [Bool.eq_iff_iff, h]; simp
  generalize decide (l ≤ v ∧ v ≤ m) = R at *
  go_enter Tryz.func83, Tryz.ntmps83
  go_wp2
  all_goals
    go_ret
    refine ⟨ret_bool (HD.out _ ?_), rfl⟩
    simp
    try omega
set_option maxHeartbeats 1000000 in
theorem l3okConfig_any (w : World) (a b c d : Int) : Calls Tryz.prog 46 #[cfV a b c d] w fun o w' => o = .returned (.bool (okCf a b c d)) ∧ Below w.heap.size w w' := by
  go_enter Tryz.func46, Tryz.ntmps46
  go_wp2
  all_goals
    go_ret
    refine ⟨ret_bool ?_, (Below.refl _ _).alloc (Nat.le_refl _) _⟩
    unfold okCf
    rw [Bool.eq_iff_iff]
    simp
    try omega
set_option maxHeartbeats 1000000 in
theorem validConfig_any (w : World) (a b c d : Int) : Calls Tryz.prog 72 #[cfV a b c d] w fun o w' => o = .returned (.bool (okCf a b c d)) ∧ Below w.heap.size w w' := by
  go_enter Tryz.func72, Tryz.ntmps72
  go_wp2_with (first | (go_at_call 83; refine (inRange_any _ _ _ _).mono ?_; rintro o w1 ⟨rfl, rfl⟩))
  all_goals
    go_ret
    refine ⟨ret_bool ?_, (Below.refl _ _).alloc (Nat.le_refl _) _⟩
    unfold okCf
    rw [Bool.eq_iff_iff]
    simp
    try omega
/-- a filter in its ranges -/
def okFl (x : R3) : Bool := decide (x.m < (if x.e = true then 536870912 else 2048)) && decide (x.k < (if x.e = true then 536870912 else 2048))
set_option maxHeartbeats 1000000 in
theorem wrongFilter_any (w : World) (x : R3) : Calls Tryz.prog 85 #[flV x.e x.m x.k] w fun o w' => o = .returned (.bool (!okFl x)) ∧ Below w.heap.size w w' := by
  obtain ⟨e, m, k⟩ := x
  cases e
  · have HD : Hid (∀ b : Bool, (b = true ↔ ¬ (m < 2048 ∧ k < 2048)) → b = !okFl ⟨false, m, k⟩) := fun b h => by rw [Bool.eq_iff_iff, h]; simp [okFl]; omega
    generalize okFl ⟨false, m, k⟩ = R at *
    go_enter Tryz.func85, Tryz.ntmps85
    go_wp2
    all_goals
      go_ret
      refine ⟨ret_bool (HD.out _ ?_), (Below.refl _ _).alloc (Nat.le_refl _) _⟩
      simp
      try omega
  · have HD : Hid (∀ b : Bool, (b = true ↔ ¬ (m < 536870912 ∧ k < 536870912)) → b = !okFl ⟨true, m, k⟩) := fun b h => by rw [Bool.eq_iff_iff, h]; simp [okFl]; omega
    generalize okFl ⟨true, m, k⟩ = R at *
    go_enter Tryz.func85, Tryz.ntmps85
    go_wp2
    all_goals
      go_ret
      refine ⟨ret_bool (HD.out _ ?_), (Below.refl _ _).alloc (Nat.le_refl _) _⟩
      simp
      try omega
/-- where the look at the filters stands behind k of them -/
theorem all_snoc {bs : List R3} {k : Nat} (hk : k < bs.length) (h : ∀ j (hj : j < bs.length), j < k → okFl bs[j] = true) (h1 : okFl bs[k] = true) : ∀ j (hj : j < bs.length), j < k + 1 → okFl bs[j] = true := by
  intro j hj h2
  by_cases e : j = k
  · subst e; exact h1
  · exact h j hj (by omega)
theorem all_yes {bs : List R3} {k : Nat} (hk : bs.length ≤ k) (h : ∀ j (hj : j < bs.length), j < k → okFl bs[j] = true) : bs.all okFl = true := by
  rw [List.all_eq_true]
  intro x hx
  obtain ⟨j, hj, rfl⟩ := List.getElem_of_mem hx
  exact h j hj (by omega)
theorem all_no {bs : List R3} {k : Nat} (hk : k < bs.length) (h1 : okFl bs[k] = false) : bs.all okFl = false := by
  rw [List.all_eq_false]
  exact ⟨bs[k], List.getElem_mem hk, by rw [h1]; simp⟩
set_option maxHeartbeats 2000000 in
theorem indexFunc_any (w : World) (a : Option Addr) (n cap : Nat) (bs : List R3) (h : isR3s w a n cap bs) (hn : n ≤ 1048576) :
    Calls Tryz.prog 97 #[.slice a n cap, .func (.func 85) #[] #[]] w fun o w' => ∃ z : Int, o = .returned (.int .i64 z) ∧ decide (0 ≤ z) = !bs.all okFl ∧ Below w.heap.size w w' := by
  have hlen := h.len
  have hcp := h.cap
  by_cases hl : bs = []
  · subst hl
    have hn0 : n = 0 := hlen
    subst hn0
    clear hlen h
    go_enter Tryz.func97, Tryz.ntmps97
    go_wp2
    go_loopw [8] (fun i wr => i = .int .i64 0 ∧ wr = w) (fun _ _ => 0)
    case atStart => exact ⟨rfl, rfl⟩
    case round =>
      obtain ⟨rfl, rfl⟩ := hrel
      go_wp2
      go_ret
      exact ⟨-1, rfl, rfl, Below.refl _ _⟩
  · obtain ⟨g, off, rfl, hc⟩ := h.cells hl
    have HL : Hid (n = bs.length) := hlen
    have HC : Hid (∀ j (h : j < bs.length), at3 w g (off + j * 3) bs[j]) := hc
    have hgz : g < w.heap.size := World.block_lt_of_cell? w _ (hc 0 (List.length_pos_iff.2 hl)).c0
    clear h hlen hc
    go_enter Tryz.func97, Tryz.ntmps97
    go_wp2
    go_loopw [8] (fun i wr => ∃ k : Nat, k ≤ n ∧ i = .int .i64 (k : Int) ∧ (∀ j (hj : j < bs.length), j < k → okFl bs[j] = true) ∧ Below w.heap.size w wr) (fun i _ => n - (intOf i).toNat)
    case atStart => exact ⟨0, Nat.zero_le _, rfl, fun j hj h => absurd h (Nat.not_lt_zero _), Below.refl _ _⟩
    case round =>
      obtain ⟨k, hk, rfl, hdone, hb⟩ := hrel
      by_cases hlt : k < n
      · have hkl : k < bs.length := by have := HL.out; omega
        have hx := HC.out k hkl
        have x0 := (hb.cell (by exact hgz)).trans hx.c0
        have x1 := (hb.cell (by exact hgz)).trans hx.c1
        have x2 := (hb.cell (by exact hgz)).trans hx.c2
        have HB : Hid (Below w.heap.size w wr) := hb
        have HD : Hid (∀ j (hj : j < bs.length), j < k → okFl bs[j] = true) := hdone
        have HW : Hid (∀ W, Calls Tryz.prog 85 #[flV bs[k].e bs[k].m bs[k].k] W fun o w' => o = .returned (.bool (!okFl bs[k])) ∧ Below W.heap.size W w') := fun W => wrongFilter_any W bs[k]
        clear hx hb hdone
        cases hok : okFl bs[k]
        · have HN : Hid (bs.all okFl = false) := all_no hkl hok
          rw [hok] at HW
          clear hok
          generalize bs[k].e = e0 at *
          generalize bs[k].m = m0 at *
          generalize bs[k].k = k0 at *
          go_wp2_with (first | (go_at_call 85; refine (HW.out _).mono ?_; rintro o w5 ⟨rfl, hb5⟩))
          go_ret
          exact ⟨_, rfl, by rw [HN.out]; simp, HB.out.trans (hb5.mono HB.out.size)⟩
        · have HN : Hid (∀ j (hj : j < bs.length), j < k + 1 → okFl bs[j] = true) := all_snoc hkl HD.out hok
          rw [hok] at HW
          clear hok
          generalize bs[k].e = e0 at *
          generalize bs[k].m = m0 at *
          generalize bs[k].k = k0 at *
          go_wp2_with (first | (go_at_call 85; refine (HW.out _).mono ?_; rintro o w5 ⟨rfl, hb5⟩))
          go_roundw
          case rel => exact ⟨k + 1, by omega, by go_num, HN.out, HB.out.trans (hb5.mono HB.out.size)⟩
          case measure => simp [intOf]; omega
      · have HN : Hid (bs.all okFl = true) := all_yes (by have := HL.out; omega) hdone
        clear hdone
        go_wp2
        go_ret
        exact ⟨_, rfl, by rw [HN.out]; simp, hb⟩
theorem containsFunc_any (w : World) (a : Option Addr) (n cap : Nat) (bs : List R3) (h : isR3s w a n cap bs) (hn : n ≤ 1048576) :
    Calls Tryz.prog 84 #[.slice a n cap, .func (.func 85) #[] #[]] w fun o w' => o = .returned (.bool (!bs.all okFl)) ∧ Below w.heap.size w w' := by
  have HI : Hid (Calls Tryz.prog 97 #[.slice a n cap, .func (.func 85) #[] #[]] w fun o w' => ∃ z : Int, o = .returned (.int .i64 z) ∧ decide (0 ≤ z) = !bs.all okFl ∧ Below w.heap.size w w') := indexFunc_any w a n cap bs h hn
  clear h
  go_enter Tryz.func84, Tryz.ntmps84
  go_wp2_with (first | (go_at_call 97; refine HI.out.mono ?_; rintro o w5 ⟨z, rfl, hz, hb5⟩; have HZ : Hid (decide (0 ≤ z) = !bs.all okFl) := hz; clear hz))
  go_ret
  exact ⟨ret_bool HZ.out, hb5⟩
def okFs (bs : List R3) : Bool := decide (bs.length ≤ 16) && bs.all okFl
theorem validFilters_any (w : World) (a : Option Addr) (n cap : Nat) (bs : List R3) (h : isR3s w a n cap bs) (hn : n ≤ 1048576) :
    Calls Tryz.prog 74 #[.slice a n cap] w fun o w' => o = .returned (.bool (okFs bs)) ∧ Below w.heap.size w w' := by
  have hl := h.len
  have HI : Hid (Calls Tryz.prog 84 #[.slice a n cap, .func (.func 85) #[] #[]] w fun o w' => o = .returned (.bool (!bs.all okFl)) ∧ Below w.heap.size w w') := containsFunc_any w a n cap bs h hn
  clear h
  by_cases h16 : n ≤ 16
  · have HD : Hid (okFs bs = bs.all okFl) := by unfold Hid okFs; rw [show decide (bs.length ≤ 16) = true from decide_eq_true (by omega)]; simp
    have hd : decide ((n : Int) ≤ 16) = true := by simp; omega
    clear hl
    have hmf : ∀ (fn : Fn) (first cap : Array Value) (w : World), (Instr.makeFunc fn first cap).run Tryz.prog w = .ok (.func fn first cap) w := fun _ _ _ _ => rfl
    go_enter Tryz.func74, Tryz.ntmps74
    go_wp2_with (first | (go_at_call 84; refine HI.out.mono ?_; rintro o w5 ⟨rfl, hb5⟩))
    go_ret
    exact ⟨ret_bool (by rw [HD.out]; try simp), hb5⟩
  · have HD : Hid (okFs bs = false) := by unfold Hid okFs; rw [show decide (bs.length ≤ 16) = false from decide_eq_false (by omega)]; rfl
    have hd : decide ((n : Int) ≤ 16) = false := by simp; omega
    clear hl
    go_enter Tryz.func74, Tryz.ntmps74
    go_wp2
    go_ret
    exact ⟨ret_bool HD.out.symm, Below.refl _ _⟩
theorem okFl_iff (x : R3) : okFl x = true ↔ (x.m < (if x.e = true then 536870912 else 2048) ∧ x.k < (if x.e = true then 536870912 else 2048)) := by simp [okFl]
set_option maxHeartbeats 4000000 in
theorem l3okFilters_any (w : World) (a : Option Addr) (n cap : Nat) (bs : List R3) (h : isR3s w a n cap bs) (hn : n ≤ 1048576) :
    Calls Tryz.prog 27 #[.slice a n cap] w fun o w' => o = .returned (.bool (okFs bs)) ∧ Below w.heap.size w w' := by
  have hlen := h.len
  have hcp := h.cap
  by_cases h16 : n ≤ 16
  · have HF : Hid (okFs bs = bs.all okFl) := by unfold Hid okFs; rw [show decide (bs.length ≤ 16) = true from decide_eq_true (by omega)]; simp
    have hd : decide ((16 : Int) < (n : Int)) = false := by simp; omega
    by_cases hl : bs = []
    · subst hl
      have hn0 : n = 0 := hlen
      subst hn0
      clear hlen h
      go_enter Tryz.func27, Tryz.ntmps27
      go_wp2
      go_loopw [3, 4] (fun i _ wr => i = .int .i64 0 ∧ wr = w) (fun _ _ _ => 0)
      case atStart => exact ⟨rfl, rfl⟩
      case round =>
        obtain ⟨rfl, rfl⟩ := hrel
        go_wp2
        go_ret
        exact ⟨ret_bool HF.out.symm, Below.refl _ _⟩
    · obtain ⟨g, off, rfl, hc⟩ := h.cells hl
      have HL : Hid (n = bs.length) := hlen
      have HC : Hid (∀ j (h : j < bs.length), at3 w g (off + j * 3) bs[j]) := hc
      clear h hlen hc
      go_enter Tryz.func27, Tryz.ntmps27
      go_wp2
      go_loopw [3, 4] (fun i _ wr => ∃ k : Nat, k ≤ n ∧ i = .int .i64 (k : Int) ∧ (∀ j (hj : j < bs.length), j < k → okFl bs[j] = true) ∧ ∃ q, wr = w.drewN q) (fun i _ _ => n - (intOf i).toNat)
      case atStart => exact ⟨0, Nat.zero_le _, rfl, fun j hj h => absurd h (Nat.not_lt_zero _), 0, rfl⟩
      case round =>
        obtain ⟨k, hk, rfl, hdone, q, rfl⟩ := hrel
        have HD : Hid (∀ j (hj : j < bs.length), j < k → okFl bs[j] = true) := hdone
        clear hdone
        by_cases hlt : k < n
        · have hkl : k < bs.length := by have := HL.out; omega
          have hx := HC.out k hkl
          have hgz := World.block_lt_of_cell? w _ hx.c0
          have x0 := ((below_q (B := w.heap.size) w q).cell (by exact hgz)).trans hx.c0
          have x1 := ((below_q (B := w.heap.size) w q).cell (by exact hgz)).trans hx.c1
          have x2 := ((below_q (B := w.heap.size) w q).cell (by exact hgz)).trans hx.c2
          have HY : Hid (okFl bs[k] = true → ∀ j (hj : j < bs.length), j < k + 1 → okFl bs[j] = true) := fun h => all_snoc hkl HD.out h
          have HN : Hid (okFl bs[k] = false → bs.all okFl = false) := fun h => all_no hkl h
          have HO : Hid (okFl bs[k] = true ↔ (bs[k].m < (if bs[k].e = true then 536870912 else 2048) ∧ bs[k].k < (if bs[k].e = true then 536870912 else 2048))) := okFl_iff bs[k]
          clear hx
          generalize okFl bs[k] = R at *
          generalize bs[k].m = m0 at *
          generalize bs[k].k = k0 at *
          generalize hW : w.drewN q = W at *
          have HW : Hid (W = w.drewN q) := hW.symm
          clear hW
          cases he : bs[k].e
          · rw [he] at x0 HO
            clear he
            by_cases hm : m0 < 2048
            · have hdm : decide (2048 ≤ m0) = false := by simp; omega
              by_cases hk0 : k0 < 2048
              · have hdk : decide (2048 ≤ k0) = false := by simp; omega
                have HR : Hid (R = true) := HO.out.2 (by simp; omega)
                go_wp2
                go_roundw
                case rel => exact ⟨k + 1, by omega, by go_num, HY.out HR.out, q, HW.out⟩
                case measure => simp [intOf]; omega
              · have hdk : decide (2048 ≤ k0) = true := by simp; omega
                have HR : Hid (R = false) := by cases hR : R with | false => exact rfl | true => exact absurd (HO.out.1 hR) (by simp; omega)
                go_wp2
                go_ret
                exact ⟨ret_bool (by rw [HF.out, HN.out HR.out]), by rw [HW.out]; exact below_q w q⟩
            · have hdm : decide (2048 ≤ m0) = true := by simp; omega
              have HR : Hid (R = false) := by cases hR : R with | false => exact rfl | true => exact absurd (HO.out.1 hR) (by simp; omega)
              go_wp2
              go_ret
              exact ⟨ret_bool (by rw [HF.out, HN.out HR.out]), by rw [HW.out]; exact below_q w q⟩
          · rw [he] at x0 HO
            clear he
            by_cases hm : m0 < 536870912
            · have hdm : decide (536870912 ≤ m0) = false := by simp; omega
              by_cases hk0 : k0 < 536870912
              · have hdk : decide (536870912 ≤ k0) = false := by simp; omega
                have HR : Hid (R = true) := HO.out.2 (by simp; omega)
                go_wp2
                go_roundw
                case rel => exact ⟨k + 1, by omega, by go_num, HY.out HR.out, q, HW.out⟩
                case measure => simp [intOf]; omega
              · have hdk : decide (536870912 ≤ k0) = true := by simp; omega
                have HR : Hid (R = false) := by cases hR : R with | false => exact rfl | true => exact absurd (HO.out.1 hR) (by simp; omega)
                go_wp2
                go_ret
                exact ⟨ret_bool (by rw [HF.out, HN.out HR.out]), by rw [HW.out]; exact below_q w q⟩
            · have hdm : decide (536870912 ≤ m0) = true := by simp; omega
              have HR : Hid (R = false) := by cases hR : R with | false => exact rfl | true => exact absurd (HO.out.1 hR) (by simp; omega)
              go_wp2
              go_ret
              exact ⟨ret_bool (by rw [HF.out, HN.out HR.out]), by rw [HW.out]; exact below_q w q⟩
        · have HA : Hid (bs.all okFl = true) := all_yes (by have := HL.out; omega) HD.out
          go_wp2
          go_ret
          exact ⟨ret_bool (by rw [HF.out, HA.out]), below_q w q⟩
  · have HF : Hid (okFs bs = false) := by unfold Hid okFs; rw [show decide (bs.length ≤ 16) = false from decide_eq_false (by omega)]; rfl
    have hd : decide ((16 : Int) < (n : Int)) = true := by simp; omega
    clear h hlen
    go_enter Tryz.func27, Tryz.ntmps27
    go_wp2
    go_ret
    exact ⟨ret_bool HF.out.symm, Below.refl _ _⟩
/-- the filter that the marks from c on make -/
def mkF (c : Nat) : R3 := ⟨decide (c % 3 = 0), ((c + 1 : Nat) : Int), ((c + 2 : Nat) : Int)⟩
theorem mkF_row (C : Nat) : [Value.bool ((C : Int) % 3 == 0), .int .u32 ((C : Int) + 1), .int .u32 ((C : Int) + 1 + 1)] = [.bool (mkF C).e, .int .u32 (mkF C).m, .int .u32 (mkF C).k] := by
  have h1 : ((C : Int) % 3 == 0) = decide (C % 3 = 0) := by rw [Bool.eq_iff_iff]; simp; omega
  simp only [mkF, h1]
  congr 3
end Go.Proofs.YtfbeaekddgpmmaaGreatDoor.H
