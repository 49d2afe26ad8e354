import Derived.Test.YtihndnclplkleaaJ
import Derived.Test.YtihndnclplkleaaMS
namespace Go.Proofs.Ytihndnclplkleaa
open Go.RowKit
theorem wraps_i64 (n : Int) (h0 : 0 ≤ n) (h1 : n < 2 ^ 62) : IntKind.i64.wrap n = n := by rw [IntKind.wrap_i64]; omega
theorem i64_mask15 (n : Int) (h0 : 0 ≤ n) (h1 : n < 2 ^ 62) : bits .and .i64 n 32767 = n % 32768 :=
  bits_mask .i64 62 (by decide) wraps_i64 15 (by decide) n h0 h1
theorem i64_xor_nat (a b : Nat) (ha : a < 2 ^ 62) (hb : b < 2 ^ 62) : bits .xor .i64 (a : Int) (b : Int) = ((a ^^^ b : Nat) : Int) :=
  by
  have hx : a ^^^ b < 2 ^ 62 := Nat.xor_lt_two_pow ha hb
  show IntKind.i64.wrap ((BitVec.ofInt 64 (a : Int) ^^^ BitVec.ofInt 64 (b : Int)).toNat : Int) = _
  rw [BitVec.toNat_xor, ofInt_u64 a (by omega), ofInt_u64 b (by omega), wraps_i64 _ (by omega) (by omega)]

theorem crcStep_yes (r b : Nat) (h1 : r < 32768) (h : ((b : Int) != (r : Int) / 16384) = true) :
    bits BinOp.xor IntKind.i64 (bits BinOp.and IntKind.i64 ((r : Int) * 2) 32767) 17817 = ((M.stepN r b : Nat) : Int) := by
  have h' : b ≠ r / 16384 := by
    intro e
    rw [bne_iff_ne] at h
    exact h (by omega)
  rw [i64_mask15 _ (by omega) (by omega)]
  have e : ((r : Int) * 2) % 32768 = ((2 * r % 32768 : Nat) : Int) := by omega
  rw [e, show (17817 : Int) = ((17817 : Nat) : Int) from rfl, i64_xor_nat _ _ (by omega) (by decide)]
  simp [M.stepN, h']
theorem crcStep_no (r b : Nat) (h1 : r < 32768) (h : ((b : Int) != (r : Int) / 16384) = false) :
    bits BinOp.and IntKind.i64 ((r : Int) * 2) 32767 = ((M.stepN r b : Nat) : Int) := by
  have h' : ¬ b ≠ r / 16384 := by
    intro e
    rw [bne_eq_false_iff_eq] at h
    exact e (by omega)
  rw [i64_mask15 _ (by omega) (by omega)]
  unfold M.stepN
  rw [if_neg h']
  omega
set_option maxHeartbeats 400000 in
theorem crcStep_any (r b : Nat) (w : World) (h1 : r < 32768) :
    Calls Try.prog 34 #[.int .i64 r, .int .i64 b] w fun e w' => e = .returned (.int .i64 (M.stepN r b : Nat)) ∧ w = w' := by
  go_enter Try.func34, Try.ntmps34
  go_wp2
  · have hc : ((b : Int) != (r : Int) / 16384) = true := by assumption
    go_ret
    exact ⟨ret_int (crcStep_yes r b h1 hc), rfl⟩
  · have hc : ((b : Int) != (r : Int) / 16384) = false := by assumption
    go_ret
    exact ⟨ret_int (crcStep_no r b h1 hc), rfl⟩

/-- the bits of a bit text -/
def bl (s : ByteArray) : List Nat := s.data.toList.map (fun c => c.toNat - 48)
theorem bl_length (s : ByteArray) : (bl s).length = s.size := by simp [bl]
theorem bl_snoc (s : ByteArray) (k : Nat) (h : k < s.size) : (bl s).take (k + 1) = (bl s).take k ++ [s[k].toNat - 48] := by
  unfold bl; rw [← List.map_take, take_snoc s k h]; simp [List.map_take]
theorem okT_size {s : ByteArray} {m : Int} (h : okT s m = true) : (s.size : Int) ≤ m := by
  unfold okT at h; rw [Bool.and_eq_true, decide_eq_true_iff] at h; exact h.1
theorem okT_at {s : ByteArray} {m : Int} (h : okT s m = true) (k : Nat) (hk : k < s.size) : s[k].toNat = 48 ∨ s[k].toNat = 49 := by
  unfold okT at h; rw [Bool.and_eq_true] at h
  exact okC_val (List.all_eq_true.1 h.2 _ (by rw [Array.mem_toList_iff]; exact Array.getElem_mem (xs := s.data) (i := k) hk))
theorem bl_bits {s : ByteArray} {m : Int} (h : okT s m = true) : ∀ x ∈ bl s, x < 2 := by
  intro x hx
  unfold okT at h; rw [Bool.and_eq_true] at h
  unfold bl at hx
  rw [List.mem_map] at hx
  obtain ⟨c, hc, rfl⟩ := hx
  have := okC_val (List.all_eq_true.1 h.2 c hc)
  omega
/-- what Crc15 answers -/
def crcZ (s : ByteArray) : Int := if okT s 2000 = true then (M.crcN (bl s) : Nat) else -1

theorem ownsB.open {w : World} {B : Nat} {v : Value} {l : List Nat} (h : ownsB w B v l) (hl : l ≠ []) :
    ∃ g cap, v = .slice (some ⟨g, 0, none⟩) l.length cap ∧ B ≤ g ∧ g < w.heap.size ∧ l.length ≤ cap ∧ cap ≤ maxLen ∧ rowB w g l.length (fun t => l.getD t 0) := by
  have h' := h
  obtain ⟨_, h1 | ⟨g, cap, cur, rfl, hb, hh, hc, hm, hsz, htk⟩⟩ := h
  · exact absurd (List.length_eq_zero_iff.1 h1.2) hl
  · refine ⟨g, cap, rfl, hb, (World.ownsRow.lt h' g rfl).2, hc, hm, fun t ht => ?_, fun t ht => ?_⟩
    · rw [World.ownsRow.cellAt h' t (by omega), bv_at l t ht]; simp [List.getD, ht]
    · exact World.ownsRow.frozenAt h' t
theorem g_at (j : Nat) (hj : j < 16) (h : j < (ByteArray.mk #[49, 49, 48, 48, 48, 49, 48, 49, 49, 48, 48, 49, 49, 48, 48, 49]).size) : (((ByteArray.mk #[49, 49, 48, 48, 48, 49, 48, 49, 49, 48, 48, 49, 49, 48, 48, 49])[j]'h).toNat : Int) = 48 + ((M.gbit j).toNat : Int) := by
  have : ∀ j : Fin 16, (((ByteArray.mk #[49, 49, 48, 48, 48, 49, 48, 49, 49, 48, 48, 49, 49, 48, 48, 49])[j.val]'(j.isLt)).toNat : Int) = 48 + ((M.gbit j.val).toNat : Int) := by decide
  exact this ⟨j, hj⟩
theorem xor_bits (a b : Bool) : bits BinOp.xor IntKind.u8 (a.toNat : Int) (b.toNat : Int) = ((a ^^ b).toNat : Int) := by
  rw [u8_xor_nat _ _ (by cases a <;> decide) (by cases b <;> decide)]
  cases a <;> cases b <;> rfl
theorem xor_cell (a : Bool) (j : Nat) (hj : j < 16) (h : j < (ByteArray.mk #[49, 49, 48, 48, 48, 49, 48, 49, 49, 48, 48, 49, 49, 48, 48, 49]).size) :
    bits BinOp.xor IntKind.u8 (a.toNat : Int) ((((ByteArray.mk #[49, 49, 48, 48, 48, 49, 48, 49, 49, 48, 48, 49, 49, 48, 48, 49])[j]'h).toNat - 48 : Int) % 256) = ((a ^^ M.gbit j).toNat : Int) := by
  rw [g_at j hj h, ← xor_bits]
  congr 1
  have : (M.gbit j).toNat < 2 := by cases M.gbit j <;> decide
  omega
theorem V0_at (l : List Nat) (hb : ∀ x ∈ l, x < 2) (t : Nat) (_ : t < (l ++ List.replicate 15 0).length) : (l ++ List.replicate 15 0).getD t 0 = (M.V l 0 t).toNat := by
  rw [M.V_zero]
  unfold M.mb
  by_cases h : t < l.length
  · have hx := hb l[t] (List.getElem_mem h)
    have e1 : (l ++ List.replicate 15 0).getD t 0 = l[t] := by simp [List.getD, List.getElem?_append_left h, h]
    have e2 : l.getD t 0 = l[t] := by simp [List.getD, h]
    rw [e1, e2]
    generalize l[t] = x at *
    have : x = 0 ∨ x = 1 := by omega
    rcases this with rfl | rfl <;> rfl
  · have e2 : l.getD t 0 = 0 := by simp [List.getD, List.getElem?_eq_none (Nat.le_of_not_lt h)]
    have e1 : (l ++ List.replicate 15 0).getD t 0 = 0 := by
      unfold List.getD
      rw [List.getElem?_append_right (Nat.le_of_not_lt h), List.getElem?_replicate]
      split <;> rfl
    rw [e1, e2]; rfl
theorem sub48 (c : UInt8) (h : c.toNat = 48 ∨ c.toNat = 49) : (c.toNat : Int) - 48 = ((c.toNat - 48 : Nat) : Int) := by omega

set_option maxHeartbeats 400000 in
theorem specCrc_ok (s : ByteArray) (w : World) (hs : s.size ≤ maxLen) (hk : okT s 2000 = true) :
    Calls Try.prog 28 #[.string s] w fun e w' => e = .returned (.int .i64 (crcZ s)) ∧ Below w.heap.size w w' := by
    have hsz := okT_size hk
    go_enter Try.func28, Try.ntmps28
    go_wp2_with (go_at_call 61; refine (okBits_any _ _ _ hs).mono ?_; rintro e w1 ⟨rfl, rfl⟩)
    have HK : Hid (okT s 2000 = true) := hk
    clear hk
    go_loopw [3, 4] (fun v i wr => ∃ k : Nat, k ≤ s.size ∧ i = .int .i64 k ∧ ownsB wr w.heap.size v ((bl s).take k) ∧ Below w.heap.size w wr ∧ w.heap.size ≤ wr.heap.size) (fun _ i _ => s.size - (intOf i).toNat)
    case atStart => exact ⟨0, Nat.zero_le _, rfl, own_nil _ _ (Nat.le_refl _), (Below.refl _ _).alloc (Nat.le_refl _) _, by simp⟩
    case round =>
      obtain ⟨k, hk, rfl, hown, hbel, hz⟩ := hrel
      by_cases hlt : k < s.size
      · have hv := okT_at HK.out k hlt
        have hll : ((bl s).take k).length ≤ 100000000 := by rw [List.length_take, bl_length]; omega
        have HS : Hid ((bl s).take (k + 1) = (bl s).take k ++ [s[k].toNat - 48]) := bl_snoc s k hlt
        generalize (bl s).take k = l at *
        rcases hv with hv | hv
        · have HS' : Hid ((bl s).take (k + 1) = l ++ [0]) := by rw [HS.out, hv]; exact rfl
          clear HS
          go_wp2_with (at_builtin; refine app_byte w wr rfl (.tmp 21) (.tmp 26) rfl w.heap.size _ l 0 _ rfl rfl hown rfl hll hz hbel ?_)
          intro v' w' hown' hbel' hz'
          clear hown hbel hz
          go_wp2
          go_roundw
          case rel => exact ⟨k + 1, by omega, by go_num, by rw [HS'.out]; exact hown', hbel', hz'⟩
          case measure => simp [intOf]; omega
        · have HS' : Hid ((bl s).take (k + 1) = l ++ [1]) := by rw [HS.out, hv]; exact rfl
          clear HS
          go_wp2_with (at_builtin; refine app_byte w wr rfl (.tmp 21) (.tmp 26) rfl w.heap.size _ l 1 _ rfl rfl hown rfl hll hz hbel ?_)
          intro v' w' hown' hbel' hz'
          clear hown hbel hz
          go_wp2
          go_roundw
          case rel => exact ⟨k + 1, by omega, by go_num, by rw [HS'.out]; exact hown', hbel', hz'⟩
          case measure => simp [intOf]; omega
      · have hke : (bl s).take k = bl s := List.take_of_length_le (by rw [bl_length]; omega)
        rw [hke] at hown
        have hbn := bl_length s
        clear hke
        go_wp2
        have hB0 : ∀ x ∈ bl s, x < 2 := bl_bits HK.out
        generalize hL : bl s = l at *
        have HL : Hid (bl s = l) := hL
        clear hL
        go_loopw [3, 5] (fun v i wr => ∃ j : Nat, j ≤ 15 ∧ i = .int .i64 j ∧ ownsB wr w.heap.size v (l ++ List.replicate j 0) ∧ Below w.heap.size w wr ∧ w.heap.size ≤ wr.heap.size) (fun _ i _ => 15 - (intOf i).toNat)
        case atStart => exact ⟨0, Nat.zero_le _, rfl, by simpa using hown, hbel, hz⟩
        case round =>
          clear hown hbel hz
          obtain ⟨j, hj, rfl, hown, hbel, hz⟩ := hrel
          by_cases hlt : j < 15
          · have hll : (l ++ List.replicate j 0).length ≤ 100000000 := by rw [List.length_append, List.length_replicate]; omega
            have HS : Hid (l ++ List.replicate (j + 1) 0 = (l ++ List.replicate j 0) ++ [0]) := by rw [List.append_assoc, List.replicate_succ']; exact rfl
            generalize l ++ List.replicate j 0 = l' at *
            go_wp2_with (at_builtin; refine app_byte w _ rfl (.tmp 32) (.tmp 33) rfl w.heap.size _ l' 0 _ rfl rfl hown rfl hll hz hbel ?_)
            intro v' w' hown' hbel' hz'
            clear hown hbel hz
            go_wp2
            go_roundw
            case rel => exact ⟨j + 1, by omega, by go_num, by rw [HS.out]; exact hown', hbel', hz'⟩
            case measure => simp [intOf]; omega
          · have hj' : j = 15 := by omega
            subst hj'
            have hown3 : ∃ g cap n, u3 = .slice (some ⟨g, 0, none⟩) n cap ∧ w.heap.size ≤ g ∧ g < wr.heap.size ∧ n ≤ cap ∧ cap ≤ maxLen ∧ l.length + 15 ≤ n ∧ n ≤ l.length + 15 ∧ rowB wr g n (fun t => (M.V l 0 t).toNat) := by
              obtain ⟨g, cap, hv, h1, h2, h3, h4, h5⟩ := hown.open (by simp)
              exact ⟨g, cap, _, hv, h1, h2, h3, h4, by simp, by simp, h5.of (V0_at l hB0)⟩
            clear hown
            obtain ⟨g, cap, n, rfl, hgB, hgz, hcap, hcm, hn1, hn2, hrow⟩ := hown3
            unfold maxLen at hcm
            have hbn1 : l.length ≤ 2000 := by omega
            have HBN : Hid (l.length = s.size) := hbn
            clear hbn
            go_wp2
            go_loopw [7, 8] (fun i _ wr => ∃ k : Nat, k ≤ l.length ∧ i = .int .i64 k ∧ rowB wr g n (fun t => (M.V l k t).toNat) ∧ Below w.heap.size w wr ∧ g < wr.heap.size) (fun i _ _ => l.length - (intOf i).toNat)
            case atStart => exact ⟨0, Nat.zero_le _, rfl, hrow, hbel, hgz⟩
            case round =>
              clear hrow hbel hgz hz
              obtain ⟨i, hi, rfl, hrow, hbel, hgz⟩ := hrel
              by_cases hil : i < l.length
              · have hc := hrow.cell i (by omega)
                have HST : Hid (∀ j, M.V l (i + 1) j = (M.V l i j ^^ (M.V l i i && (decide (i ≤ j ∧ j < i + 16) && M.gbit (j - i))))) := fun j => M.V_step l i j hB0 hil
                cases hb : M.V l i i
                · simp only [hb, Bool.toNat_false] at hc
                  have HB : Hid (M.V l i i = false) := hb
                  clear hb
                  go_wp2
                  go_roundw
                  case rel => exact ⟨i + 1, by omega, by go_num, hrow.of (fun t _ => by rw [HST.out t, HB.out]; simp), hbel, hgz⟩
                  case measure => simp [intOf]; omega
                · simp only [hb, Bool.toNat_true] at hc
                  have HB : Hid (M.V l i i = true) := hb
                  clear hb
                  go_wp2
                  go_loopw [8] (fun jj wr => ∃ j : Nat, j ≤ 16 ∧ jj = .int .i64 j ∧ rowB wr g n (fun t => (M.V l i t ^^ (decide (i ≤ t ∧ t < i + j) && M.gbit (t - i))).toNat) ∧ Below w.heap.size w wr ∧ g < wr.heap.size) (fun jj _ => 16 - (intOf jj).toNat)
                  case atStart => exact ⟨0, Nat.zero_le _, rfl, hrow.of (fun t _ => by rw [show decide (i ≤ t ∧ t < i + 0) = false from decide_eq_false (by omega)]; simp), hbel, hgz⟩
                  case round =>
                    clear hrow hbel hgz hc
                    obtain ⟨j, hj, rfl, hrow, hbel, hgz⟩ := hrel
                    by_cases hjl : j < 16
                    · have hc := hrow.cell (i + j) (by omega)
                      have hf := hrow.free (i + j) (by omega)
                      go_wp2
                      go_region
                      go_wp2
                      refine ⟨⟨j + 1, by omega, by go_num, hrow.set (i + j) (by omega) _ ?_ ?_, (hbel.setCell (by exact hgB) _).drew, by simpa using hgz⟩, by simp [intOf]; omega⟩
                      · rw [xor_cell _ j hjl, show decide (i ≤ i + j ∧ i + j < i + (j + 1)) = true from decide_eq_true (by omega), show i + j - i = j from by omega]
                        simp
                      · intro t ht hne
                        have e : decide (i ≤ t ∧ t < i + j) = decide (i ≤ t ∧ t < i + (j + 1)) := by
                          rw [Bool.eq_iff_iff]; simp; omega
                        simp only [e]
                    · have hj16 : j = 16 := by omega
                      subst hj16
                      have hrow' : rowB wr g n (fun t => (M.V l (i + 1) t).toNat) := hrow.of (fun t _ => by rw [HST.out t, HB.out]; simp)
                      clear hrow
                      go_wp2
                      go_roundw
                      case rel => exact ⟨i + 1, by omega, by go_num, hrow', hbel, hgz⟩
                      case measure => simp [intOf]; omega
              · have hil' : i = l.length := by omega
                subst hil'
                have hr := M.crcN_lt l
                have HV : Hid (∀ k, k < 15 → M.V l l.length (l.length + k) = (M.crcN l).testBit (14 - k)) := M.V_end l
                have HZ : Hid (crcZ s = (M.crcN (bl s) : Nat)) := by simp [crcZ, HK.out, Hid]
                go_wp2
                go_loopw [9, 10] (fun c i wr => ∃ q : Nat, q ≤ 15 ∧ i = .int .i64 ((l.length + q : Nat) : Int) ∧ c = .int .i64 ((M.topv (M.crcN l) q : Nat) : Int) ∧ rowB wr g n (fun t => (M.V l l.length t).toNat) ∧ Below w.heap.size w wr ∧ g < wr.heap.size) (fun _ i _ => l.length + 15 - (intOf i).toNat)
                case atStart => exact ⟨0, by omega, by go_num, by rw [M.topv_zero _ hr]; rfl, hrow, hbel, hgz⟩
                case round =>
                  clear hrow hbel hgz
                  obtain ⟨q, hq, rfl, rfl, hrow, hbel, hgz⟩ := hrel
                  have htp := M.topv_le (M.crcN l) q hr
                  by_cases hql : q < 15
                  · have hc := hrow.cell (l.length + q) (by omega)
                    rw [HV.out q hql] at hc
                    have HT : Hid (M.topv (M.crcN l) (q + 1) = 2 * M.topv (M.crcN l) q + ((M.crcN l).testBit (14 - q)).toNat) := M.topv_succ _ q hql
                    have hbb : ((M.crcN l).testBit (14 - q)).toNat < 2 := by cases (M.crcN l).testBit (14 - q) <;> decide
                    generalize ((M.crcN l).testBit (14 - q)).toNat = y at *
                    generalize hx : M.topv (M.crcN l) q = x at *
                    clear hx
                    go_wp2
                    go_roundw
                    case rel => exact ⟨q + 1, by omega, by go_num, by rw [HT.out]; go_num, hrow, hbel, hgz⟩
                    case measure => simp [intOf]; omega
                  · have hq' : q = 15 := by omega
                    subst hq'
                    rw [M.topv_end] at htp ⊢
                    go_wp2
                    go_ret
                    exact ⟨ret_int (by rw [HZ.out, HL.out]), hbel⟩

theorem specCrc_any (s : ByteArray) (w : World) (hs : s.size ≤ maxLen) :
    Calls Try.prog 28 #[.string s] w fun e w' => e = .returned (.int .i64 (crcZ s)) ∧ Below w.heap.size w w' := by
  by_cases hk : okT s 2000 = true
  · exact specCrc_ok s w hs hk
  · have hk' : okT s 2000 = false := by simpa using hk
    have HZ : Hid (crcZ s = -1) := by simp [crcZ, hk', Hid]
    clear hk
    go_enter Try.func28, Try.ntmps28
    go_wp2_with (go_at_call 61; refine (okBits_any _ _ _ hs).mono ?_; rintro e w1 ⟨rfl, rfl⟩)
    go_ret
    exact ⟨ret_int HZ.out.symm, Below.refl _ _⟩

end Go.Proofs.Ytihndnclplkleaa
