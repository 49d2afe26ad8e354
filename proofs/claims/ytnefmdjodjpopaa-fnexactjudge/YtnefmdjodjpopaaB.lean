import Derived.Test.YtnefmdjodjpopaaA
import Derived.Test.YtnefmdjodjpopaaM
namespace Go.Proofs.Ytnefmdjodjpopaa
open Go.RowKit

theorem wraps_i64 (n : Int) (h0 : 0 ≤ n) (h1 : n < 2 ^ 62) : IntKind.i64.wrap n = n := by rw [IntKind.wrap_i64]; omega
theorem i64_mask15 (n : Int) (h0 : 0 ≤ n) (h1 : n < 2 ^ 62) : bits .and .i64 n 32767 = n % 32768 :=
  bits_mask .i64 62 (by decide) wraps_i64 15 (by decide) n h0 h1
theorem i64_xor_nat (a b : Nat) (ha : a < 2 ^ 62) (hb : b < 2 ^ 62) : bits .xor .i64 (a : Int) (b : Int) = ((a ^^^ b : Nat) : Int) :=
  by
  have hx : a ^^^ b < 2 ^ 62 := Nat.xor_lt_two_pow ha hb
  show IntKind.i64.wrap ((BitVec.ofInt 64 (a : Int) ^^^ BitVec.ofInt 64 (b : Int)).toNat : Int) = _
  rw [BitVec.toNat_xor, ofInt_u64 a (by omega), ofInt_u64 b (by omega), wraps_i64 _ (by omega) (by omega)]

theorem crcStep_yes (r b : Nat) (h1 : r < 32768) (h : ((b : Int) != (r : Int) / 16384) = true) :
    bits BinOp.xor IntKind.i64 (bits BinOp.and IntKind.i64 ((r : Int) * 2) 32767) 17817 = ((M.stepN r b : Nat) : Int) := by
  have h' : b ≠ r / 16384 := by
    intro e
    rw [bne_iff_ne] at h
    exact h (by omega)
  rw [i64_mask15 _ (by omega) (by omega)]
  have e : ((r : Int) * 2) % 32768 = ((2 * r % 32768 : Nat) : Int) := by omega
  rw [e, show (17817 : Int) = ((17817 : Nat) : Int) from rfl, i64_xor_nat _ _ (by omega) (by decide)]
  simp [M.stepN, h']
theorem crcStep_no (r b : Nat) (h1 : r < 32768) (h : ((b : Int) != (r : Int) / 16384) = false) :
    bits BinOp.and IntKind.i64 ((r : Int) * 2) 32767 = ((M.stepN r b : Nat) : Int) := by
  have h' : ¬ b ≠ r / 16384 := by
    intro e
    rw [bne_eq_false_iff_eq] at h
    exact e (by omega)
  rw [i64_mask15 _ (by omega) (by omega)]
  unfold M.stepN
  rw [if_neg h']
  omega
set_option maxHeartbeats 400000 in
theorem crcStep_any (r b : Nat) (w : World) (h1 : r < 32768) :
    Calls Try.prog 50 #[.int .i64 r, .int .i64 b] w fun e w' => e = .returned (.int .i64 (M.stepN r b : Nat)) ∧ w = w' := by
  go_enter Try.func50, Try.ntmps50
  go_wp2
  · have hc : ((b : Int) != (r : Int) / 16384) = true := by assumption
    go_ret
    exact ⟨ret_int (crcStep_yes r b h1 hc), rfl⟩
  · have hc : ((b : Int) != (r : Int) / 16384) = false := by assumption
    go_ret
    exact ⟨ret_int (crcStep_no r b h1 hc), rfl⟩

/-- the bits of a bit text -/
def bl (s : ByteArray) : List Nat := s.data.toList.map (fun c => c.toNat - 48)
theorem bl_length (s : ByteArray) : (bl s).length = s.size := by simp [bl]
theorem bl_snoc (s : ByteArray) (k : Nat) (h : k < s.size) : (bl s).take (k + 1) = (bl s).take k ++ [s[k].toNat - 48] := by
  unfold bl; rw [← List.map_take, take_snoc s k h]; simp [List.map_take]
theorem okT_size {s : ByteArray} {m : Int} (h : okT s m = true) : (s.size : Int) ≤ m := by
  unfold okT at h; rw [Bool.and_eq_true, decide_eq_true_iff] at h; exact h.1
theorem okT_at {s : ByteArray} {m : Int} (h : okT s m = true) (k : Nat) (hk : k < s.size) : s[k].toNat = 48 ∨ s[k].toNat = 49 := by
  unfold okT at h; rw [Bool.and_eq_true] at h
  exact okC_val (List.all_eq_true.1 h.2 _ (by rw [Array.mem_toList_iff]; exact Array.getElem_mem (xs := s.data) (i := k) hk))
theorem bl_bits {s : ByteArray} {m : Int} (h : okT s m = true) : ∀ x ∈ bl s, x < 2 := by
  intro x hx
  unfold okT at h; rw [Bool.and_eq_true] at h
  unfold bl at hx
  rw [List.mem_map] at hx
  obtain ⟨c, hc, rfl⟩ := hx
  have := okC_val (List.all_eq_true.1 h.2 c hc)
  omega
/-- what Crc15 answers -/
def crcZ (s : ByteArray) : Int := if okT s 2000 = true then (M.crcN (bl s) : Nat) else -1

set_option maxHeartbeats 400000 in
theorem crc15_any (s : ByteArray) (w : World) :
    Calls Try.prog 17 #[.string s] w fun e w' => e = .returned (.int .i64 (crcZ s)) ∧ Below w.heap.size w w' := by
  by_cases hk : okT s 2000 = true
  · have HZ : Hid (crcZ s = (M.crcN (bl s) : Nat)) := by simp [crcZ, hk, Hid]
    go_enter Try.func17, Try.ntmps17
    go_wp2_with (go_at_call 49; refine (isBitText_any _ _ _).mono ?_; rintro e w1 ⟨rfl, hb1⟩)
    have HK : Hid (okT s 2000 = true) := hk
    clear hk
    go_loopw [3, 5] (fun r _ w' => ∃ k : Nat, k ≤ s.size ∧ w' = w1.iter s k ∧ r = .int .i64 ((M.crcN ((bl s).take k) : Nat) : Int)) (fun _ _ w' => s.size - w'.iterPos w1.heap.size)
    case atStart => exact ⟨0, Nat.zero_le _, rfl, rfl⟩
    case round =>
      obtain ⟨k, hk, rfl, rfl⟩ := hrel
      by_cases hlt : k < s.size
      · have hv := okT_at HK.out k hlt
        have hnx := fun ty => run_next_ascii (P := Try.prog) w1 s k ty hlt (by omega)
        have hr := M.crcN_lt ((bl s).take k)
        have HS : Hid (M.crcN ((bl s).take (k + 1)) = M.stepN (M.crcN ((bl s).take k)) (s[k].toNat - 48)) := by
          rw [bl_snoc s k hlt, M.crcN_snoc]; exact rfl
        generalize hR : M.crcN ((bl s).take k) = r at *
        clear hR
        rcases hv with hv | hv
        · rw [hv] at hnx
          have HS' : Hid (M.crcN ((bl s).take (k + 1)) = M.stepN r 0) := by rw [HS.out, hv]; exact rfl
          clear hv HS
          go_wp2_with (go_at_call 50; refine (crcStep_any r 0 _ hr).mono ?_; rintro e w2 ⟨rfl, rfl⟩)
          go_roundw
          case rel => exact ⟨k + 1, by omega, rfl, by rw [HS'.out]⟩
          case measure => simp; omega
        · rw [hv] at hnx
          have HS' : Hid (M.crcN ((bl s).take (k + 1)) = M.stepN r 1) := by rw [HS.out, hv]; exact rfl
          clear hv HS
          go_wp2_with (go_at_call 50; refine (crcStep_any r 1 _ hr).mono ?_; rintro e w2 ⟨rfl, rfl⟩)
          go_roundw
          case rel => exact ⟨k + 1, by omega, rfl, by rw [HS'.out]⟩
          case measure => simp; omega
      · have hnx : ∀ ty, (Instr.next (.pointer (some ⟨w1.heap.size, 0, none⟩)) true ty).run Try.prog (w1.iter s k) = _ := fun ty => run_next_end w1 s k ty hlt
        have HE : Hid ((bl s).take k = bl s) := List.take_of_length_le (by rw [bl_length]; omega)
        go_wp2
        go_ret
        exact ⟨ret_int (by rw [HE.out, HZ.out]), hb1.alloc (by exact hb1.size) _⟩
  · have hk' : okT s 2000 = false := by simpa using hk
    have HZ : Hid (crcZ s = -1) := by simp [crcZ, hk', Hid]
    clear hk
    go_enter Try.func17, Try.ntmps17
    go_wp2_with (go_at_call 49; refine (isBitText_any _ _ _).mono ?_; rintro e w1 ⟨rfl, hb1⟩)
    go_ret
    exact ⟨ret_int HZ.out.symm, hb1⟩
end Go.Proofs.Ytnefmdjodjpopaa
