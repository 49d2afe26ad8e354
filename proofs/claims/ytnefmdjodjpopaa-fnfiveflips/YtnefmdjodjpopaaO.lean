import Derived.Test.YtnefmdjodjpopaaL
namespace Go.Proofs.Ytnefmdjodjpopaa
open Go.RowKit

theorem szByteS_any (w : World) (a : Option Addr) (n cap : Nat) (m : Nat) (hn : n ≤ 9223372036854775807) (hm : m ≤ 1048576) :
    Calls Try.prog 56 #[.slice a n cap, .int .i64 m] w fun o w' => o = .returned (.int .i64 (if (n : Int) ≤ (m : Int) then (m : Int) - (n : Int) else -1)) ∧ w = w' := by
  by_cases h : (n : Int) ≤ (m : Int)
  · rw [if_pos h]
    go_enter Try.func56, Try.ntmps56
    go_wp2
    go_ret
    exact ⟨rfl, rfl⟩
  · rw [if_neg h]
    go_enter Try.func56, Try.ntmps56
    go_wp2
    go_ret
    exact ⟨rfl, rfl⟩
theorem szFrame_any (w : World) (e : Bool) (i : Nat) (r : Bool) (d : Int) (a : Option Addr) (n cap : Nat) (m : Nat) (hn : n ≤ 9223372036854775807) (hm : m ≤ 1048576) :
    Calls Try.prog 22 #[frV e i r d a n cap, .int .i64 m] w fun o w' => o = .returned (.int .i64 (if (n : Int) ≤ (m : Int) then (m : Int) - (n : Int) else -1)) ∧ w.alloc (frC e i r d a n cap 30) = w' := by
  by_cases h : (n : Int) ≤ (m : Int)
  · have HC : Hid (∀ W, Calls Try.prog 56 #[.slice a n cap, .int .i64 m] W fun o w' => o = .returned (.int .i64 ((m : Int) - (n : Int))) ∧ W = w') := by
      intro W; have := szByteS_any W a n cap m hn hm; rw [if_pos h] at this; exact this
    rw [if_pos h]
    go_enter Try.func22, Try.ntmps22
    go_wp2_with (first | (go_at_call 56; refine (HC.out _).mono ?_; rintro o w1 ⟨rfl, rfl⟩))
    go_ret
    exact ⟨rfl, rfl⟩
  · have HC : Hid (∀ W, Calls Try.prog 56 #[.slice a n cap, .int .i64 m] W fun o w' => o = .returned (.int .i64 (-1)) ∧ W = w') := by
      intro W; have := szByteS_any W a n cap m hn hm; rw [if_neg h] at this; exact this
    rw [if_neg h]
    go_enter Try.func22, Try.ntmps22
    go_wp2_with (first | (go_at_call 56; refine (HC.out _).mono ?_; rintro o w1 ⟨rfl, rfl⟩))
    go_ret
    exact ⟨rfl, rfl⟩
theorem bcell {W w1 : World} (hb : Below W.heap.size W w1) : (∀ b o, b < W.heap.size → w1.cell? ⟨b, o, none⟩ = W.cell? ⟨b, o, none⟩) ∧ (∀ b o, b < W.heap.size → w1.frozen? ⟨b, o, none⟩ = W.frozen? ⟨b, o, none⟩) :=
  ⟨fun b o h => hb.cell (p := ⟨b, o, none⟩) h, fun b o h => hb.frozen (p := ⟨b, o, none⟩) h⟩
theorem isBytes.setOther {w : World} {g n cap : Nat} {l : List Nat} (h : isBytes w (some ⟨g, 0, none⟩) n cap l) (b j : Nat) (v : Value) (hb : b ≠ g) : isBytes (w.setCell ⟨b, j, none⟩ v) (some ⟨g, 0, none⟩) n cap l := by
  refine ⟨h.len, h.cap, h.small, fun hl => ?_⟩
  obtain ⟨g', off, ha, hc⟩ := h.cells hl
  refine ⟨g', off, ha, fun t ht => ?_⟩
  cases ha
  rw [World.cell?_setCell_other _ _ _ _ (by intro hh; exact hb (congrArg Addr.block hh))]
  exact hc t ht
set_option maxHeartbeats 1000000 in
set_option maxRecDepth 20000 in
theorem toFrame_any (w : World) (e : Bool) (i : Nat) (r : Bool) (d : Int) (a : Option Addr) (n cap : Nat) (l : List Nat) (h : isBytes w a n cap l) (hn : n ≤ 1048576) :
    Calls Try.prog 24 #[frV e i r d a n cap] w fun o w' => ∃ g, o = .returned (frV e i r d (some ⟨g, 0, none⟩) n n) ∧ isBytes w' (some ⟨g, 0, none⟩) n n l ∧ Below w.heap.size w w' := by
  have HH : Hid (isBytes w a n cap l) := h
  clear h
  go_enter Try.func24, Try.ntmps24
  go_wp2_with (first | (go_at_call 58; refine (toByteS_any _ a n cap l (HH.out.below ?_) hn).mono ?_))
  · exact (((Below.refl _ _).alloc (Nat.le_refl _) _).alloc (by simp) _).alloc (by simp; omega) _
  · rintro o w1 ⟨g, rfl, hby, hb, hg, _⟩
    obtain ⟨hc, hf⟩ := bcell hb
    have hB : Below w.heap.size w w1 := ((((Below.refl w.heap.size w).alloc (Nat.le_refl _) _).alloc (by simp) _).alloc (by simp; omega) _).trans (hb.mono (by simp; omega))

    have HG : Hid (w.heap.size + 1 + 1 + 1 ≤ g) := by unfold Hid; simpa using hg
    have HY : Hid (isBytes w1 (some ⟨g, 0, none⟩) n n l) := hby
    clear hb hg hby
    go_wp2
    refine bodyPost_ret (v := frV e i r d (some ⟨g, 0, none⟩) n n) (by simp [results, Try.results24, go_sem, hc]) rfl ?_
    have hg' := HG.out
    refine ⟨g, rfl, ?_, ?_⟩
    · exact (((((HY.out.setOther _ 4 _ (by omega)).setOther _ 0 _ (by omega)).setOther _ 1 _ (by omega)).setOther _ 2 _ (by omega)).setOther _ 3 _ (by omega)).setOther _ 4 _ (by omega)
    · exact (((((hB.setCell (p := ⟨_, 4, none⟩) (by simp; omega) _).setCell (p := ⟨_, 0, none⟩) (by simp) _).setCell (p := ⟨_, 1, none⟩) (by simp) _).setCell (p := ⟨_, 2, none⟩) (by simp) _).setCell (p := ⟨_, 3, none⟩) (by simp) _).setCell (p := ⟨_, 4, none⟩) (by simp) _

set_option maxHeartbeats 1000000 in
theorem eqByteS_same (w : World) (a1 a2 : Option Addr) (n1 c1 n2 c2 : Nat) (l : List Nat) (h1 : isBytes w a1 n1 c1 l) (h2 : isBytes w a2 n2 c2 l) (hn : n1 ≤ 1048576) :
    Calls Try.prog 61 #[.slice a1 n1 c1, .slice a2 n2 c2] w fun o w' => o = .returned (.bool true) ∧ ∃ q, w' = w.drewN q := by
  have e1 := h1.len
  have e2 := h2.len
  by_cases hl : l = []
  · subst hl
    have e1' : n1 = 0 := e1
    have e2' : n2 = 0 := e2
    subst e1' e2'
    clear e1 e2 h1 h2
    go_enter Try.func61, Try.ntmps61
    go_wp2
    go_loopw [5] (fun i wr => i = .int .i64 0 ∧ wr = w) (fun _ _ => 0)
    case atStart => exact ⟨rfl, rfl⟩
    case round =>
      obtain ⟨rfl, rfl⟩ := hrel
      go_wp2
      go_ret
      exact ⟨rfl, 0, rfl⟩
  · obtain ⟨g1, o1, rfl, k1⟩ := h1.cells hl
    obtain ⟨g2, o2, rfl, k2⟩ := h2.cells hl
    have hnn : n2 = n1 := by omega
    subst hnn
    have hn1 : n2 ≤ l.length := by omega
    clear e1 e2 h1 h2
    go_enter Try.func61, Try.ntmps61
    go_wp2
    go_loopw [5] (fun i wr => ∃ k : Nat, k ≤ n2 ∧ i = .int .i64 k ∧ ∃ q, wr = w.drewN q) (fun i _ => n2 - (intOf i).toNat)
    case atStart => exact ⟨0, Nat.zero_le _, rfl, 0, rfl⟩
    case round =>
      obtain ⟨k, hk, rfl, q, rfl⟩ := hrel
      by_cases hlt : k < n2
      · have c1 := k1 k (by omega)
        have c2 := k2 k (by omega)
        generalize l[k] = x at *
        go_wp2
        go_quiet (fail)
        go_wp2
        go_roundw
        case rel => exact ⟨k + 1, by omega, by go_num, _, rfl⟩
        case measure => simp [intOf]; omega
      · go_wp2
        go_ret
        exact ⟨rfl, _, rfl⟩
theorem below_q {B : Nat} (w : World) (q : Nat) : Below B w (w.drewN q) := below_drewN (Below.refl _ _) q
set_option maxHeartbeats 1000000 in
set_option maxRecDepth 20000 in
theorem eqFrame_same (w : World) (e : Bool) (i : Nat) (r : Bool) (d : Int) (a : Option Addr) (n cap : Nat) (l : List Nat) (h : isBytes w a n cap l) (a' : Option Addr) (n' cap' : Nat) (h' : isBytes w a' n' cap' l) (hn : n ≤ 1048576) :
    Calls Try.prog 26 #[frV e i r d a n cap, frV e i r d a' n' cap'] w fun o w' => o = .returned (.bool true) ∧ Below w.heap.size w w' := by
  have HH : Hid (isBytes w a n cap l) := h
  have HH' : Hid (isBytes w a' n' cap' l) := h'
  clear h h'
  have hE : (e != e) = false := by simp
  have hR : (r != r) = false := by simp
  have hD : (d != d) = false := by simp
  have hI : ((i : Int) != (i : Int)) = false := by simp
  have hbl : Below w.heap.size w ((w.alloc (frC e i r d a n cap 33)).alloc (frC e i r d a' n' cap' 33)) := ((Below.refl _ _).alloc (Nat.le_refl _) _).alloc (by simp) _
  have HB : Hid (Below w.heap.size w ((w.alloc (frC e i r d a n cap 33)).alloc (frC e i r d a' n' cap' 33))) := hbl
  clear hbl
  go_enter Try.func26, Try.ntmps26
  go_wp2_with (first | (go_at_call 61; refine (eqByteS_same _ _ _ _ _ _ _ l (HH.out.below HB.out) (HH'.out.below HB.out) hn).mono ?_; rintro o w1 ⟨rfl, q, rfl⟩))
  go_ret
  exact ⟨rfl, below_drewN HB.out q⟩
end Go.Proofs.Ytnefmdjodjpopaa
