import Derived.Test.YtnefmdjodjpopaaAC
namespace Go.Proofs.Ytnefmdjodjpopaa
open Go.RowKit

/-- a source of choices in block b: the bytes, how many were taken, the state -/
def srcAt (W : World) (b : Nat) (a : Option Addr) (n cap : Nat) (i s : Nat) : Prop := W.heap[b]? = some (.cells #[.slice a n cap, .int .i64 (i : Int), .int .u64 (s : Int)] 101 (0, 0))
theorem srcAt.cells {W : World} {b : Nat} {a : Option Addr} {n cap i s : Nat} (h : srcAt W b a n cap i s) :
    W.cell? ⟨b, 0, none⟩ = some (.slice a n cap) ∧ W.cell? ⟨b, 1, none⟩ = some (.int .i64 (i : Int)) ∧ W.cell? ⟨b, 2, none⟩ = some (.int .u64 (s : Int)) ∧ W.frozen? ⟨b, 1, none⟩ = false ∧ W.frozen? ⟨b, 2, none⟩ = false := by
  unfold srcAt at h
  refine ⟨?_, ?_, ?_, ?_, ?_⟩ <;> simp [World.cell?, World.frozen?, h]

theorem u64_nat (z : Int) : ∃ s : Nat, IntKind.u64.wrap z = (s : Int) := ⟨(IntKind.u64.wrap z).toNat, by rw [IntKind.wrap_u64]; omega⟩
theorem srcRes (z : Int) (k : Nat) (hk : 1 < k) (hk2 : k ≤ 1000000000) : ∃ r : Nat, wrap64 ((IntKind.u64.wrap z / 8589934592).tmod (k : Int)) = (r : Int) ∧ r < k := by
  obtain ⟨s, hs⟩ : ∃ s : Nat, IntKind.u64.wrap z / 8589934592 = (s : Int) ∧ s < 2147483648 := ⟨(IntKind.u64.wrap z / 8589934592).toNat, by rw [IntKind.wrap_u64]; omega⟩
  refine ⟨s % k, ?_, Nat.mod_lt _ (by omega)⟩
  rw [hs.1]
  have h1 : ((s : Int)).tmod (k : Int) = ((s % k : Nat) : Int) := by
    rw [Int.tmod_eq_emod_of_nonneg (by omega)]; omega
  have h2 : s % k < k := Nat.mod_lt _ (by omega)
  rw [h1]
  generalize s % k = y at *
  unfold wrap64
  omega
theorem u64_toNat (z : Int) : IntKind.u64.wrap z = ((IntKind.u64.wrap z).toNat : Int) := by rw [IntKind.wrap_u64]; omega
theorem src_set {W : World} {b : Nat} {a : Option Addr} {n cap i s s' : Nat} {x y : Int} (q : Nat) (h : srcAt W b a n cap i s) (hx : x = ((i + 1 : Nat) : Int)) (hy : y = (s' : Int)) :
    srcAt (((W.drewN q).setCell ⟨b, 1, none⟩ (.int .i64 x)).setCell ⟨b, 2, none⟩ (.int .u64 y)) b a n cap (i + 1) s' ∧ W.grownBy (((W.drewN q).setCell ⟨b, 1, none⟩ (.int .i64 x)).setCell ⟨b, 2, none⟩ (.int .u64 y)) (some b) := by
  subst hx hy
  have h0 : (W.drewN q).heap[b]? = some (.cells #[.slice a n cap, .int .i64 (i : Int), .int .u64 (s : Int)] 101 (0, 0)) := h
  have h1 := heap_setCell_same _ b 1 _ _ (Value.int IntKind.i64 ((i + 1 : Nat) : Int)) h0
  have h2 := heap_setCell_same _ b 2 _ _ (Value.int IntKind.u64 (s' : Int)) h1
  have hg0 : W.grownBy (W.drewN q) (some b) := ⟨rfl, rfl, rfl, Nat.le_refl _, fun _ _ _ => rfl⟩
  refine ⟨?_, gb_set (gb_set hg0 1 _) 2 _⟩
  unfold srcAt
  rw [h2]
  simp

set_option maxHeartbeats 2000000 in
theorem srcN_any (w : World) (b : Nat) (a : Option Addr) (n cap i s : Nat) (l : List Nat) (k : Nat) (h : srcAt w b a n cap i s) (hy : isBytes w a n cap l) (hi : i ≤ 1000000000000) (hk : k ≤ 1000000000) :
    Calls Try.prog 75 #[.pointer (some ⟨b, 0, none⟩), .int .i64 (k : Int)] w fun o w' => ∃ r s' : Nat, o = .returned (.int .i64 (r : Int)) ∧ (k ≤ 1 → r = 0) ∧ (1 < k → r < k) ∧ srcAt w' b a n cap (i + 1) s' ∧ w.grownBy w' (some b) := by
  obtain ⟨c0, c1, c2, f1, f2⟩ := h.cells
  have HS : Hid (srcAt w b a n cap i s) := h
  clear h
  by_cases hin : i < n
  · have hl : l ≠ [] := by intro e; have := hy.len; rw [e] at this; simp at this; omega
    obtain ⟨g, off, rfl, hc⟩ := hy.cells hl
    have hil : i < l.length := by have := hy.len; omega
    have hcx := hc i hil
    have hx := hy.small l[i] (List.getElem_mem _)
    generalize l[i] = x at *
    have hin' : decide ((i : Int) < (n : Int)) = true := by simp; omega
    clear hy hc hl
    by_cases h1 : k ≤ 1
    · have h1' : (k : Int) ≤ 1 := by omega
      go_enter Try.func75, Try.ntmps75
      go_wp2
      go_quiet (fail)
      go_wp2
      go_quiet (fail)
      go_wp2
      go_ret
      have hp := fun q y s' hy => src_set (x := (i : Int) + 1) (y := y) (s' := s') q HS.out (by omega) hy
      exact ⟨0, _, rfl, fun _ => rfl, fun hh => absurd hh (by omega), (hp _ _ _ (u64_toNat _)).1, (hp _ _ _ (u64_toNat _)).2⟩
    · have h1' : (1 : Int) < (k : Int) := by omega
      go_enter Try.func75, Try.ntmps75
      go_wp2
      go_quiet (fail)
      go_wp2
      go_quiet (fail)
      go_wp2
      go_ret
      have hp := fun q y s' hy => src_set (x := (i : Int) + 1) (y := y) (s' := s') q HS.out (by omega) hy
      obtain ⟨r, hr, hrk⟩ := srcRes (IntKind.u64.wrap (IntKind.u64.wrap (IntKind.u64.wrap ((s : Int) + (x : Int)) + 1) * 6364136223846793005) + 1442695040888963407) k (by omega) hk
      exact ⟨r, _, ret_int hr, fun hh => absurd hh (by omega), fun _ => hrk, (hp _ _ _ (u64_toNat _)).1, (hp _ _ _ (u64_toNat _)).2⟩
  · have hin' : decide ((i : Int) < (n : Int)) = false := by simp; omega
    by_cases h1 : k ≤ 1
    · have h1' : (k : Int) ≤ 1 := by omega
      go_enter Try.func75, Try.ntmps75
      go_wp2
      go_quiet (fail)
      go_wp2
      go_ret
      have hp := fun q y s' hy => src_set (x := (i : Int) + 1) (y := y) (s' := s') q HS.out (by omega) hy
      exact ⟨0, _, rfl, fun _ => rfl, fun hh => absurd hh (by omega), (hp _ _ _ (u64_toNat _)).1, (hp _ _ _ (u64_toNat _)).2⟩
    · have h1' : (1 : Int) < (k : Int) := by omega
      go_enter Try.func75, Try.ntmps75
      go_wp2
      go_quiet (fail)
      go_wp2
      go_ret
      have hp := fun q y s' hy => src_set (x := (i : Int) + 1) (y := y) (s' := s') q HS.out (by omega) hy
      obtain ⟨r, hr, hrk⟩ := srcRes (IntKind.u64.wrap (IntKind.u64.wrap (IntKind.u64.wrap (s : Int) + 1) * 6364136223846793005) + 1442695040888963407) k (by omega) hk
      exact ⟨r, _, ret_int hr, fun hh => absurd hh (by omega), fun _ => hrk, (hp _ _ _ (u64_toNat _)).1, (hp _ _ _ (u64_toNat _)).2⟩
end Go.Proofs.Ytnefmdjodjpopaa
