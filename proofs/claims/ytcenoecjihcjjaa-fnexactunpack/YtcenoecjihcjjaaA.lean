import Derived.Test.YtcenoecjihcjjaaProg
import Derived.WalkKit
import Derived.WalkSpells
import Derived.WalkLawsBesides
import Derived.Deep.QuietTactic
import Derived.BigQuiet
namespace Go.Proofs.Ytcenoecjihcjjaa
open Go.RowKit

theorem ret_int {k : IntKind} {a b : Int} (h : a = b) : Ending.returned (.int k a) = .returned (.int k b) := by rw [h]
theorem ret_bool {a b : Bool} (h : a = b) : Ending.returned (.bool a) = .returned (.bool b) := by rw [h]
theorem Try.info54 : (Try.prog.info? 54).map (fun i => (i.zero, i.size, i.bytes)) = some (some (.int .u64 0), 1, 8) := by kernel_rfl
/-- the row of letters, cell by cell -/
structure rowW (w : World) (g n : Nat) (f : Nat → Nat) : Prop where
  cell : ∀ t, t < n → w.cell? ⟨g, t, none⟩ = some (.int .u64 (f t : Int))
  free : ∀ t, t < n → w.frozen? ⟨g, t, none⟩ = false
theorem rowW.of {w : World} {g n : Nat} {f f' : Nat → Nat} (h : rowW w g n f) (he : ∀ t, t < n → f t = f' t) : rowW w g n f' :=
  ⟨fun t ht => by rw [← he t ht]; exact h.cell t ht, h.free⟩
theorem rowW.set {w : World} {g n : Nat} {f f' : Nat → Nat} (h : rowW w g n f) (t0 : Nat) (ht0 : t0 < n) (x : Int) (hx : x = (f' t0 : Int)) (he : ∀ t, t < n → t ≠ t0 → f t = f' t) : rowW (w.setCell ⟨g, t0, none⟩ (.int .u64 x)).drew g n f' := by
  refine ⟨fun t ht => ?_, fun t ht => ?_⟩
  · rw [World.cell?_drew]
    by_cases e : t = t0
    · subst e
      rw [World.cell?_setCell_same _ _ _ (h.cell t ht), hx]
    · rw [World.cell?_setCell_other _ _ _ _ (by intro hh; exact e (by simpa using hh.symm)), h.cell t ht, he t ht e]
  · rw [World.frozen?_drew, World.frozen?_setCell]
    exact h.free t ht
/-- the slice v holds the letters l -/
structure isWords (w : World) (a : Option Addr) (n cap : Nat) (l : List Nat) : Prop where
  len : n = l.length
  cap : n ≤ cap
  small : ∀ x ∈ l, x < 18446744073709551616
  cells : l ≠ [] → ∃ g off, a = some ⟨g, off, none⟩ ∧ ∀ j (h : j < l.length), w.cell? ⟨g, off + j, none⟩ = some (.int .u64 (l[j] : Int))
theorem isWords.below {w w' : World} {a : Option Addr} {n cap : Nat} {l : List Nat} (h : isWords w a n cap l) (hb : Below w.heap.size w w') : isWords w' a n cap l := by
  refine ⟨h.len, h.cap, h.small, fun hl => ?_⟩
  obtain ⟨g, off, ha, hc⟩ := h.cells hl
  refine ⟨g, off, ha, fun j hj => ?_⟩
  have h1 := hc j hj
  rw [hb.cell (World.block_lt_of_cell? w _ h1)]
  exact h1
theorem make_zero {ops : Array Oper} {rest : List Oper} {o : Oper} {a : Act} {Q : Exit → Act → World → Prop} (w : World)
    (hg : o.guard = none) (l c : Operand) (hop : o.op = Op.makeSlice 28 l c) (C : Int) (n : Nat) (hl : a.eval l = .int .i64 C) (hc : a.eval c = .int .i64 C) (hC : C = (n : Int)) (hn : n ≤ 100000000)
    (hK : ∀ w', rowW w' w.heap.size n (fun _ => 0) → w.grownBy w' none → w.heap.size < w'.heap.size → wpList Try.prog ops Q rest (a.put o.dst (.slice (some ⟨w.heap.size, 0, none⟩) n n)) w') :
    wpList Try.prog ops Q (o :: rest) a w := by
  obtain ⟨i0, hi, hz0, hz1, hz2⟩ := info_parts Try.info54
  refine wpList_make_full w hg l c 28 hop w.heap.size 54 i0 (.int .u64 0) 1 Try.underlying28 hi hz0 hz1 .i64 .i64 C C n hl hc hC hC (by rw [hz2]; omega) (by unfold maxLen; omega) (Nat.le_refl _) ?_
  intro w' ho hgr
  refine hK w' ⟨fun t ht => ?_, fun t ht => World.ownsRow.frozenAt ho t⟩ hgr (World.ownsRow.lt ho _ rfl).2
  rw [World.ownsRow.cellAt ho t (by omega)]
  have e : (madeCells (Value.int IntKind.u64 0).cells (n * 1)).toList = List.replicate (n * 1) (.int .u64 0) := toList_madeCells_one _ _
  rw [e, Nat.mul_one, List.getElem?_replicate, if_pos ht]
  rfl
theorem rowW.set' {w : World} {g n : Nat} {f f' : Nat → Nat} (h : rowW w g n f) (t0 : Nat) (ht0 : t0 < n) (x : Int) (hx : x = (f' t0 : Int)) (he : ∀ t, t < n → t ≠ t0 → f t = f' t) : rowW (w.setCell ⟨g, t0, none⟩ (.int .u64 x)) g n f' :=
  ⟨fun t ht => by have := (h.set t0 ht0 x hx he).cell t ht; rwa [World.cell?_drew] at this, fun t ht => by rw [World.frozen?_setCell]; exact h.free t ht⟩
theorem getD_at (l : List Nat) (k : Nat) (h : k < l.length) : l.getD k 0 = l[k] := by simp [List.getD, h]

set_option maxHeartbeats 1000000 in
theorem toWordS_any (w : World) (a : Option Addr) (n cap : Nat) (l : List Nat) (h : isWords w a n cap l) (hn : n ≤ 1048576) :
    Calls Try.prog 35 #[.slice a n cap] w fun e w' => ∃ g, e = .returned (.slice (some ⟨g, 0, none⟩) n n) ∧ isWords w' (some ⟨g, 0, none⟩) n n l ∧ Below w.heap.size w w' ∧ w.heap.size ≤ g ∧ g < w'.heap.size := by

  have hlen := h.len
  have hcp := h.cap
  by_cases hl : l = []
  · subst hl
    have hn0 : n = 0 := hlen
    subst hn0
    have HS : Hid (∀ x ∈ ([] : List Nat), x < 18446744073709551616) := h.small
    clear hlen h
    go_enter Try.func35, Try.ntmps35
    go_wp2_with (first | (at_make; refine make_zero _ rfl (.tmp 6) (.tmp 6) rfl _ 0 rfl rfl rfl (by omega) ?_; intro w1 hrow hg1 hz1))
    go_loopw [4] (fun i wr => i = .int .i64 0 ∧ Below w.heap.size w wr ∧ w.heap.size < wr.heap.size) (fun _ _ => 0)
    case atStart => exact ⟨rfl, (Below.refl _ _).grown hg1 (Nat.le_refl _) (by intro k e; cases e), hz1⟩
    case round =>
      obtain ⟨rfl, hb, hz⟩ := hrel
      go_wp2
      go_ret
      exact ⟨_, rfl, ⟨rfl, Nat.le_refl _, HS.out, fun e => absurd rfl e⟩, hb, Nat.le_refl _, hz⟩
  · obtain ⟨g, off, rfl, hc⟩ := h.cells hl
    have hgz : g < w.heap.size := World.block_lt_of_cell? w _ (hc 0 (by have := List.length_pos_iff.2 hl; omega))
    have hsm := h.small
    have HL : Hid (n = l.length) := hlen
    have hn1 : n ≤ l.length := by omega
    have hn2 : l.length ≤ n := by omega
    clear h hlen
    go_enter Try.func35, Try.ntmps35
    go_wp2_with (first | (at_make; refine make_zero _ rfl (.tmp 6) (.tmp 6) rfl _ n rfl rfl rfl (by omega) ?_; intro w1 hrow hg1 hz1))
    go_loopw [4] (fun i wr => ∃ k : Nat, k ≤ n ∧ i = .int .i64 k ∧ rowW wr w.heap.size n (fun t => if t < k then l.getD t 0 else 0) ∧ Below w.heap.size w wr ∧ w.heap.size < wr.heap.size) (fun i _ => n - (intOf i).toNat)
    case atStart => exact ⟨0, Nat.zero_le _, rfl, hrow.of (fun t _ => by simp), (Below.refl _ _).grown hg1 (Nat.le_refl _) (by intro k e; cases e), hz1⟩
    case round =>
      clear hrow hz1
      obtain ⟨k, hk, rfl, hrow, hb, hz⟩ := hrel
      by_cases hlt : k < n
      · have hcx : wr.cell? ⟨g, off + k, none⟩ = some (.int .u64 (l[k] : Int)) := (hb.cell (by exact hgz)).trans (hc k (by omega))
        have hcy := hrow.cell k hlt
        have hfy := hrow.free k hlt
        have HG : Hid (l.getD k 0 = l[k]) := getD_at l k (by omega)
        generalize l[k] = x at *
        have hne : ¬ w.heap.size = g := by omega
        go_wp2
        go_roundw
        case rel =>
          refine ⟨k + 1, by omega, by go_num, hrow.set' k hlt _ ?_ ?_, hb.setCell (by exact Nat.le_refl _) _, by simpa using hz⟩
          · rw [if_pos (Nat.lt_succ_self k), HG.out]
          · intro t _ hne'
            by_cases h1 : t < k
            · rw [if_pos h1, if_pos (by omega)]
            · rw [if_neg h1, if_neg (by omega)]
        case measure => simp [intOf]; omega
      · go_wp2
        go_ret
        refine ⟨_, rfl, ⟨HL.out, Nat.le_refl _, hsm, fun _ => ⟨_, 0, rfl, fun j hj => ?_⟩⟩, hb, Nat.le_refl _, hz⟩
        have := hrow.cell j (by omega)
        rw [Nat.zero_add, this, if_pos (by omega), getD_at l j hj]

theorem szWordS_any (w : World) (a : Option Addr) (n cap : Nat) (m : Nat) (hn : n ≤ 9223372036854775807) (hm : m ≤ 1048576) :
    Calls Try.prog 32 #[.slice a n cap, .int .i64 m] w fun o w' => o = .returned (.int .i64 (if (n : Int) ≤ (m : Int) then (m : Int) - (n : Int) else -1)) ∧ w = w' := by
  by_cases h : (n : Int) ≤ (m : Int)
  · rw [if_pos h]
    go_enter Try.func32, Try.ntmps32
    go_wp2
    go_ret
    exact ⟨rfl, rfl⟩
  · rw [if_neg h]
    go_enter Try.func32, Try.ntmps32
    go_wp2
    go_ret
    exact ⟨rfl, rfl⟩
theorem bcell {W w1 : World} (hb : Below W.heap.size W w1) : (∀ b o, b < W.heap.size → w1.cell? ⟨b, o, none⟩ = W.cell? ⟨b, o, none⟩) ∧ (∀ b o, b < W.heap.size → w1.frozen? ⟨b, o, none⟩ = W.frozen? ⟨b, o, none⟩) :=
  ⟨fun b o h => hb.cell (p := ⟨b, o, none⟩) h, fun b o h => hb.frozen (p := ⟨b, o, none⟩) h⟩
theorem isWords.setOther {w : World} {g n cap : Nat} {l : List Nat} (h : isWords w (some ⟨g, 0, none⟩) n cap l) (b j : Nat) (v : Value) (hb : b ≠ g) : isWords (w.setCell ⟨b, j, none⟩ v) (some ⟨g, 0, none⟩) n cap l := by
  refine ⟨h.len, h.cap, h.small, fun hl => ?_⟩
  obtain ⟨g', off, ha, hc⟩ := h.cells hl
  refine ⟨g', off, ha, fun t ht => ?_⟩
  cases ha
  rw [World.cell?_setCell_other _ _ _ _ (by intro hh; exact hb (congrArg Addr.block hh))]
  exact hc t ht
set_option maxHeartbeats 1000000 in
theorem eqWordS_same (w : World) (a1 a2 : Option Addr) (n1 c1 n2 c2 : Nat) (l : List Nat) (h1 : isWords w a1 n1 c1 l) (h2 : isWords w a2 n2 c2 l) (hn : n1 ≤ 1048576) :
    Calls Try.prog 29 #[.slice a1 n1 c1, .slice a2 n2 c2] w fun o w' => o = .returned (.bool true) ∧ ∃ q, w' = w.drewN q := by
  have e1 := h1.len
  have e2 := h2.len
  by_cases hl : l = []
  · subst hl
    have e1' : n1 = 0 := e1
    have e2' : n2 = 0 := e2
    subst e1' e2'
    clear e1 e2 h1 h2
    go_enter Try.func29, Try.ntmps29
    go_wp2
    go_loopw [5] (fun i wr => i = .int .i64 0 ∧ wr = w) (fun _ _ => 0)
    case atStart => exact ⟨rfl, rfl⟩
    case round =>
      obtain ⟨rfl, rfl⟩ := hrel
      go_wp2
      go_ret
      exact ⟨rfl, 0, rfl⟩
  · obtain ⟨g1, o1, rfl, k1⟩ := h1.cells hl
    obtain ⟨g2, o2, rfl, k2⟩ := h2.cells hl
    have hnn : n2 = n1 := by omega
    subst hnn
    have hn1 : n2 ≤ l.length := by omega
    clear e1 e2 h1 h2
    go_enter Try.func29, Try.ntmps29
    go_wp2
    go_loopw [5] (fun i wr => ∃ k : Nat, k ≤ n2 ∧ i = .int .i64 k ∧ ∃ q, wr = w.drewN q) (fun i _ => n2 - (intOf i).toNat)
    case atStart => exact ⟨0, Nat.zero_le _, rfl, 0, rfl⟩
    case round =>
      obtain ⟨k, hk, rfl, q, rfl⟩ := hrel
      by_cases hlt : k < n2
      · have c1 := k1 k (by omega)
        have c2 := k2 k (by omega)
        generalize l[k] = x at *
        go_wp2
        go_quiet (fail)
        go_wp2
        go_roundw
        case rel => exact ⟨k + 1, by omega, by go_num, _, rfl⟩
        case measure => simp [intOf]; omega
      · go_wp2
        go_ret
        exact ⟨rfl, _, rfl⟩
theorem below_q {B : Nat} (w : World) (q : Nat) : Below B w (w.drewN q) := below_drewN (Below.refl _ _) q
end Go.Proofs.Ytcenoecjihcjjaa
