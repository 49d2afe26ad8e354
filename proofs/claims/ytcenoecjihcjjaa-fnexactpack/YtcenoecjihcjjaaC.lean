import Derived.Test.YtcenoecjihcjjaaB
import Derived.Laws.BitsAllLaws
namespace Go.Proofs.Ytcenoecjihcjjaa
open Go.RowKit
def lev (l : List Nat) (i : Nat) : Nat := l.getD (i / 64) 0 / 2 ^ (63 - i % 64) % 2
theorem lev_val (x r : Nat) (hx : x < 18446744073709551616) : wrap64 (bits BinOp.and IntKind.u64 ((x : Int) / 2 ^ (63 - r)) 1) = ((x / 2 ^ (63 - r) % 2 : Nat) : Int) := by
  have e : (x : Int) / 2 ^ (63 - r) = ((x / 2 ^ (63 - r) : Nat) : Int) := by push_cast; rfl
  have hy : x / 2 ^ (63 - r) < 18446744073709551616 := Nat.lt_of_le_of_lt (Nat.div_le_self _ _) hx
  rw [e]
  generalize x / 2 ^ (63 - r) = y at *
  have := u64_and_nat y 1 hy (by decide)
  rw [show ((1 : Nat) : Int) = 1 from rfl] at this
  rw [this, Nat.and_one_is_mod]
  unfold wrap64
  omega
set_option maxHeartbeats 1000000 in
set_option maxRecDepth 20000 in
theorem levelAt_ok (w : World) (N : Int) (a : Option Addr) (n cap : Nat) (l : List Nat) (h : isWords w a n cap l) (i : Nat) (hi : i < 64 * n) (hn : n ≤ 1048576) :
    Calls Try.prog 37 #[pkV N a n cap, .int .i64 (i : Int)] w fun o w' => o = .returned (.int .i64 (lev l i : Int)) ∧ w' = w.alloc (pkC N a n cap 30) := by
  have hl : l ≠ [] := by intro e; subst e; have := h.len; simp at this; omega
  obtain ⟨g, off, rfl, hc⟩ := h.cells hl
  have hgz : g < w.heap.size := World.block_lt_of_cell? w _ (hc 0 (by have := List.length_pos_iff.2 hl; omega))
  have hll : i / 64 < l.length := by have := h.len; omega
  have hcx := hc (i / 64) hll
  have hlt : i / 64 < n := by omega
  have hr : i % 64 < 64 := by omega
  have HL : Hid (l.getD (i / 64) 0 = l[i / 64]'hll) := getD_at l _ hll
  have HX0 := h.small _ (List.getElem_mem (l := l) (n := i / 64) hll)
  have hx : Hid (l[i / 64]'(hll) < 18446744073709551616) := HX0
  clear HX0 h hc
  generalize hxx : l[i / 64]'hll = x at *
  have HV : Hid (lev l i = x / 2 ^ (63 - i % 64) % 2) := by unfold Hid lev; rw [HL.out]
  have e3 : (i : Int).tdiv 64 = ((i / 64 : Nat) : Int) := by rw [Int.tdiv_eq_ediv_of_nonneg (by omega)]; omega
  have e4 : (i : Int).tmod 64 = ((i % 64 : Nat) : Int) := by rw [Int.tmod_eq_emod_of_nonneg (by omega)]; omega
  generalize lev l i = L at *
  clear HL
  clear hxx
  clear hll
  generalize i / 64 = q at *
  generalize i % 64 = r at *
  go_enter Try.func37, Try.ntmps37
  go_wp2
  go_ret
  exact ⟨ret_int (by rw [HV.out]; exact lev_val x r hx.out), rfl⟩
set_option maxHeartbeats 1000000 in
set_option maxRecDepth 20000 in
theorem l2bit_ok (w : World) (N : Int) (a : Option Addr) (n cap : Nat) (l : List Nat) (h : isWords w a n cap l) (i : Nat) (hi : i < 64 * n) (hn : n ≤ 1048576) :
    Calls Try.prog 34 #[pkV N a n cap, .int .i64 (i : Int)] w fun o w' => o = .returned (.int .i64 (lev l i : Int)) ∧ w' = w.alloc (pkC N a n cap 30) := by
  have hl : l ≠ [] := by intro e; subst e; have := h.len; simp at this; omega
  obtain ⟨g, off, rfl, hc⟩ := h.cells hl
  have hgz : g < w.heap.size := World.block_lt_of_cell? w _ (hc 0 (by have := List.length_pos_iff.2 hl; omega))
  have hll : i / 64 < l.length := by have := h.len; omega
  have hcx := hc (i / 64) hll
  have hlt : i / 64 < n := by omega
  have hr : i % 64 < 64 := by omega
  have HL : Hid (l.getD (i / 64) 0 = l[i / 64]'hll) := getD_at l _ hll
  have HX0 := h.small _ (List.getElem_mem (l := l) (n := i / 64) hll)
  have hx : Hid (l[i / 64]'(hll) < 18446744073709551616) := HX0
  clear HX0 h hc
  generalize hxx : l[i / 64]'hll = x at *
  have HV : Hid (lev l i = x / 2 ^ (63 - i % 64) % 2) := by unfold Hid lev; rw [HL.out]
  have e3 : (i : Int).tdiv 64 = ((i / 64 : Nat) : Int) := by rw [Int.tdiv_eq_ediv_of_nonneg (by omega)]; omega
  have e4 : (i : Int).tmod 64 = ((i % 64 : Nat) : Int) := by rw [Int.tmod_eq_emod_of_nonneg (by omega)]; omega
  generalize lev l i = L at *
  clear HL
  clear hxx
  clear hll
  generalize i / 64 = q at *
  generalize i % 64 = r at *
  go_enter Try.func34, Try.ntmps34
  go_wp2
  go_ret
  exact ⟨ret_int (by rw [HV.out]; exact lev_val x r hx.out), rfl⟩
end Go.Proofs.Ytcenoecjihcjjaa
