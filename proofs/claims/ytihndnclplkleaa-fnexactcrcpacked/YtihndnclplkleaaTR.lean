import Derived.Test.YtihndnclplkleaaTQ
import Derived.Test.YtihndnclplkleaaG
namespace Go.Proofs.Ytihndnclplkleaa
open Go.RowKit

/-- the bits of the first k places -/
def LB (l : List Nat) (k : Nat) : List Nat := (List.range k).map (lev l)
def octN (l : List Nat) (i : Nat) : Nat := l.getD (i / 8) 0 / 2 ^ (56 - 8 * (i % 8)) % 256
theorem LB_succ (l : List Nat) (k : Nat) : LB l (k + 1) = LB l k ++ [lev l k] := by simp [LB, List.range_succ]
theorem lev_oct (l : List Nat) (i k : Nat) (hk : k < 8) : lev l (8 * i + k) = octN l i / 2 ^ (7 - k) % 2 := by
  unfold lev octN
  have e1 : (8 * i + k) / 64 = i / 8 := by omega
  have e2 : 63 - (8 * i + k) % 64 = (56 - 8 * (i % 8)) + (7 - k) := by omega
  rw [e1, e2, Nat.pow_add, ← Nat.div_div_eq_div_mul]
  generalize l.getD (i / 8) 0 / 2 ^ (56 - 8 * (i % 8)) = y
  have hk' : k = 0 ∨ k = 1 ∨ k = 2 ∨ k = 3 ∨ k = 4 ∨ k = 5 ∨ k = 6 ∨ k = 7 := by omega
  rcases hk' with rfl | rfl | rfl | rfl | rfl | rfl | rfl | rfl <;> simp only [Nat.reduceSub, Nat.reducePow] <;> omega
theorem LB_oct (l : List Nat) (i : Nat) : LB l (8 * (i + 1)) = LB l (8 * i) ++ M.oct (octN l i) := by
  have h := fun k hk => lev_oct l i k hk
  rw [show 8 * (i + 1) = 8 * i + 1 + 1 + 1 + 1 + 1 + 1 + 1 + 1 by omega]
  simp only [LB_succ, List.append_assoc, List.cons_append, List.nil_append, M.oct]
  have h0 := h 0 (by decide); have h1 := h 1 (by decide); have h2 := h 2 (by decide); have h3 := h 3 (by decide)
  have h4 := h 4 (by decide); have h5 := h 5 (by decide); have h6 := h 6 (by decide); have h7 := h 7 (by decide)
  simp only [Nat.reduceSub, Nat.reducePow, Nat.add_zero, Nat.div_one] at h0 h1 h2 h3 h4 h5 h6 h7
  rw [show 8 * i + 1 + 1 = 8 * i + 2 by omega, show 8 * i + 2 + 1 = 8 * i + 3 by omega, show 8 * i + 3 + 1 = 8 * i + 4 by omega, show 8 * i + 4 + 1 = 8 * i + 5 by omega, show 8 * i + 5 + 1 = 8 * i + 6 by omega, show 8 * i + 6 + 1 = 8 * i + 7 by omega]
  rw [h0, h1, h2, h3, h4, h5, h6, h7]
theorem crc_oct (l : List Nat) (i : Nat) : M.crcN (LB l (8 * (i + 1))) = M.S8 (M.crcN (LB l (8 * i))) (octN l i) := by
  rw [LB_oct]
  unfold M.crcN M.S8
  rw [List.foldl_append]
theorem octN_lt (l : List Nat) (i : Nat) : octN l i < 256 := by unfold octN; omega
theorem oct_val (x d : Nat) (hx : x < 18446744073709551616) : wrap64 (bits BinOp.and IntKind.u64 ((x : Int) / 2 ^ d) 255) = ((x / 2 ^ d % 256 : Nat) : Int) := by
  have e : (x : Int) / 2 ^ d = ((x / 2 ^ d : Nat) : Int) := by push_cast; rfl
  have hy : x / 2 ^ d < 18446744073709551616 := Nat.lt_of_le_of_lt (Nat.div_le_self _ _) hx
  rw [e]
  generalize x / 2 ^ d = y at *
  have := u64_and_nat y 255 hy (by decide)
  rw [show ((255 : Nat) : Int) = 255 from rfl] at this
  rw [this, Nat.and_two_pow_sub_one_eq_mod (n := 8)]
  unfold wrap64
  omega
set_option maxHeartbeats 1000000 in
set_option maxRecDepth 20000 in
theorem octetAt_ok (w : World) (N : Int) (a : Option Addr) (n cap : Nat) (l : List Nat) (h : isWords w a n cap l) (i : Nat) (hi : i < 8 * n) (hn : n ≤ 1048576) :
    Calls Try.prog 33 #[pkV N a n cap, .int .i64 (i : Int)] w fun o w' => o = .returned (.int .i64 (octN l i : Int)) ∧ w' = w.alloc (pkC N a n cap 27) := by
  have hl : l ≠ [] := by intro e; subst e; have := h.len; simp at this; omega
  obtain ⟨g, off, rfl, hc⟩ := h.cells hl
  have hgz : g < w.heap.size := World.block_lt_of_cell? w _ (hc 0 (by have := List.length_pos_iff.2 hl; omega))
  have hll : i / 8 < l.length := by have := h.len; omega
  have hcx := hc (i / 8) hll
  have hlt : i / 8 < n := by omega
  have hr : i % 8 < 8 := by omega
  have HL : Hid (l.getD (i / 8) 0 = l[i / 8]'hll) := getD_at l _ hll
  have HX0 := h.small _ (List.getElem_mem (l := l) (n := i / 8) hll)
  have hx : Hid (l[i / 8]'(hll) < 18446744073709551616) := HX0
  clear HX0 h hc
  generalize hxx : l[i / 8]'hll = x at *
  have HV : Hid (octN l i = x / 2 ^ (56 - 8 * (i % 8)) % 256) := by unfold Hid octN; rw [HL.out]
  have e3 : (i : Int).tdiv 8 = ((i / 8 : Nat) : Int) := by rw [Int.tdiv_eq_ediv_of_nonneg (by omega)]; omega
  have e4 : (i : Int).tmod 8 = ((i % 8 : Nat) : Int) := by rw [Int.tmod_eq_emod_of_nonneg (by omega)]; omega
  generalize octN l i = L at *
  clear HL
  clear hxx
  clear hll
  generalize i / 8 = q at *
  generalize i % 8 = r at *
  go_enter Try.func33, Try.ntmps33
  go_wp2
  go_ret
  exact ⟨ret_int (by rw [HV.out, Nat.mul_comm 8 r]; exact oct_val x _ hx.out), rfl⟩
end Go.Proofs.Ytihndnclplkleaa
