import Derived.Test.YtnefmdjodjpopaaW
namespace Go.Proofs.Ytnefmdjodjpopaa
open Go.RowKit

theorem box_below {B : Nat} {W W' : World} {b : Nat} {o : Obj} (h : W.heap[b]? = some o) (hb : Below B W W') (hB : b < B) : W'.heap[b]? = some o := (hb.block b hB).trans h
/-- what Body answers -/
def bodyZ (e : Bool) (i : Nat) (r : Bool) (d : Int) (n : Nat) (l : List Nat) : ByteArray := if validB e i r d n = true then strN (bodyL e i r d.toNat l) else ⟨#[]⟩
theorem validB_true {e : Bool} {i : Nat} {r : Bool} {d : Int} {n : Nat} (h : validB e i r d n = true) : i < 536870912 ∧ (e = false → i < 2048) ∧ 0 ≤ d ∧ d ≤ 15 ∧ n ≤ 8 := by
  unfold validB at h
  simp only [Bool.and_eq_true, decide_eq_true_iff, beq_iff_eq] at h
  obtain ⟨⟨⟨h1, h2⟩, h3⟩, h4⟩ := h
  have h5 := dl_bounds r d h2
  refine ⟨?_, ?_, h2, h3, by omega⟩
  · cases e <;> simp at h1 <;> omega
  · intro he; subst he; simpa using h1
theorem flat_snoc (l : List Nat) (k : Nat) (h : k < l.length) (p : List Nat) : p ++ (l.take (k + 1)).flatMap (fun x => M.num x 8) = p ++ (l.take k).flatMap (fun x => M.num x 8) ++ M.num l[k] 8 := by
  rw [M.take_at l k h, List.flatMap_append, List.append_assoc]; simp
theorem flat_len (l : List Nat) : (l.flatMap (fun x => M.num x 8)).length = 8 * l.length := by
  induction l with
  | nil => rfl
  | cons a l ih => rw [List.flatMap_cons, List.length_append, ih, M.num_length, List.length_cons]; omega

set_option maxHeartbeats 2000000 in
set_option maxRecDepth 20000 in
theorem body_ok (w : World) (e : Bool) (i : Nat) (r : Bool) (dn : Nat) (a : Option Addr) (n cap : Nat) (l : List Nat) (h : isBytes w a n cap l) (hv : validB e i r (dn : Int) n = true) :
    Calls Try.prog 28 #[frV e i r (dn : Int) a n cap] w fun o w' => o = .returned (.string (strN (bodyL e i r dn l))) ∧ Below w.heap.size w w' := by
  obtain ⟨hi, _, _, hd15, hn8⟩ := validB_true hv
  have HV : Hid (validB e i r (dn : Int) n = true) := hv
  have HH : Hid (isBytes w a n cap l) := h
  have hW : Below w.heap.size w (w.alloc (frC e i r (dn : Int) a n cap 33)) := (Below.refl _ _).alloc (Nat.le_refl _) _
  have HW : Hid (Below w.heap.size w (w.alloc (frC e i r (dn : Int) a n cap 33)) ∧ (w.alloc (frC e i r (dn : Int) a n cap 33)).heap[w.heap.size]? = some (frC e i r (dn : Int) a n cap 33)) := ⟨hW, heap_alloc_new w _⟩
  clear hv h hW
  go_enter Try.func28, Try.ntmps28
  go_wp2_with fail
  refine (valid_any _ e i r (dn : Int) a n cap l (HH.out.below HW.out.1)).mono ?_
  rw [HV.out]
  rintro o w1 ⟨rfl, hb1⟩
  have hB1 : Below w.heap.size w w1 := HW.out.1.trans (hb1.mono (by simp))
  have hx1 := box_below HW.out.2 hb1 (by simp)
  have hz1 : w.heap.size < w1.heap.size := lt_of_block hx1
  have HX1 : Hid (w1.heap[w.heap.size]? = some (frC e i r (dn : Int) a n cap 33)) := hx1
  have hc1 := frC_cells hx1
  clear hb1 hx1
  have hy1 := HH.out.below hB1
  have HY1 : Hid (isBytes w1 a n cap l) := hy1
  clear hy1
  go_wp2_with fail
  have hWb : Below w1.heap.size w1 (w1.alloc (.cells #[.int .u8 48] 5)) := (Below.refl _ _).alloc (Nat.le_refl _) _
  have hWz : w1.heap.size ≤ (w1.alloc (.cells #[.int .u8 48] 5)).heap.size := by simp
  refine (appendArb_any _ w1.heap.size _ [48] (own_one w1 48 w1.heap.size (Nat.le_refl _)) hWz (by simp) e i r (dn : Int) a n cap (by omega)).mono ?_
  rintro o w2 ⟨v2, rfl, ho2, hb2, _⟩
  have hB2 := hWb.trans hb2
  have hx2 := box_below HX1.out hB2 hz1
  have hc2 := frC_cells hx2
  have hz2 : w1.heap.size ≤ w2.heap.size := hB2.size
  clear hb2 hWb hWz hc1 hx2
  go_wp2_with (first | (go_at_call 66; refine (sizeRes_any _ _ _ _ _ _ _ _).mono ?_; rintro o w3 ⟨rfl, rfl⟩))
  have ho2' : ownsB (w2.alloc (frC e i r (dn : Int) a n cap 33)) w1.heap.size v2 ([48] ++ arbL e i r) := World.ownsRow.alloc ho2 _
  have hB3 : Below w1.heap.size w1 (w2.alloc (frC e i r (dn : Int) a n cap 33)) := hB2.alloc hz2 _
  have hal := arbL_length e i r
  refine (appendBits_any _ w1.heap.size v2 _ 0 (1 + e.toNat) ho2' (by simp; omega) (by simp; omega) (by omega) (by cases e <;> simp)).mono ?_
  rintro o w4 ⟨v4, rfl, ho4, hb4, _⟩
  have hB4 := hB3.trans hb4
  have hx4 := box_below HX1.out hB4 hz1
  have hc4 := frC_cells hx4
  have hz4 : w1.heap.size ≤ w4.heap.size := hB4.size
  clear hb4 hB3 hB2 hc2 hx4 ho2 ho2' hz2
  go_wp2_with fail
  refine (appendBits_any _ w1.heap.size v4 _ dn 4 ho4 hz4 (by simp [M.num_length]; cases e <;> simp <;> omega) (by omega) (by omega)).mono ?_
  rintro o w5 ⟨v5, rfl, ho5, hb5, _⟩
  have hB5 := hB4.trans hb5
  have hx5 := box_below HX1.out hB5 hz1
  have hc5 := frC_cells hx5
  have hz5 : w1.heap.size ≤ w5.heap.size := hB5.size
  clear hb5 hB4 hc4 hx5 ho4 hz4
  have hpl : ([48] ++ arbL e i r ++ M.num 0 (1 + e.toNat) ++ M.num dn 4).length ≤ 100 := by simp [M.num_length]; cases e <;> simp <;> omega
  have HBD : Hid (bodyL e i r dn l = [48] ++ arbL e i r ++ M.num 0 (1 + e.toNat) ++ M.num dn 4 ++ l.flatMap (fun x => M.num x 8)) := rfl
  generalize [48] ++ arbL e i r ++ M.num 0 (1 + e.toNat) ++ M.num dn 4 = pre at *
  go_wp2_with fail
  by_cases hl : l = []
  · have hn0 : n = 0 := by have := HY1.out.len; rw [hl] at this; simpa using this
    subst hn0 hl
    have hz0 : ¬ (0 : Int) < ((0 : Nat) : Int) := by omega
    go_loopw [3, 5, 24] (fun v _ idx wr => idx = .int .i64 0 ∧ ownsB wr w1.heap.size v pre ∧ Below w1.heap.size w1 wr) (fun _ _ _ _ => 0)
    case atStart => exact ⟨rfl, ho5, hB5⟩
    case round =>
      clear ho5 hB5 hc5
      obtain ⟨rfl, ho, hb⟩ := hrel
      have hall : ∀ x ∈ pre, M.isL x := fun x hx => bodyL_isL e i r dn [] x (by rw [HBD.out]; simp [hx])
      have hcv := conv_own ho (isL_lt hall)
      clear hall
      go_wp2
      go_ret
      exact ⟨ret_str (by rw [HBD.out]; simp), hB1.trans (hb.mono (by omega))⟩
  · obtain ⟨g, off, rfl, hcl⟩ := HY1.out.cells hl
    have hlen := HY1.out.len
    have hn1 : n ≤ l.length := by omega
    have hn2 : l.length ≤ n := by omega
    have hsm := HY1.out.small
    have HSM : Hid (∀ x ∈ l, x < 256) := hsm
    clear hlen hsm
    have hgz : g < w1.heap.size := World.block_lt_of_cell? w1 _ (hcl 0 (by have := List.length_pos_iff.2 hl; omega))
    go_loopw [3, 5, 24] (fun v _ idx wr => ∃ k : Nat, k ≤ n ∧ idx = .int .i64 k ∧ ownsB wr w1.heap.size v (pre ++ (l.take k).flatMap (fun x => M.num x 8)) ∧ Below w1.heap.size w1 wr ∧ w1.heap.size ≤ wr.heap.size) (fun _ _ idx _ => n - (intOf idx).toNat)
    case atStart => exact ⟨0, Nat.zero_le _, rfl, by simpa using ho5, hB5, hz5⟩
    case round =>
      clear ho5 hB5 hz5 hc5
      obtain ⟨k, hk, rfl, ho, hb, hz⟩ := hrel
      by_cases hlt : k < n
      · have hc : wr.cell? ⟨g, off + k, none⟩ = some (.int .u8 (l[k] : Int)) := (hb.cell (by exact hgz)).trans (hcl k (by omega))
        have hx256 := HSM.out l[k] (List.getElem_mem _)
        have HF : Hid (pre ++ (l.take (k + 1)).flatMap (fun x => M.num x 8) = pre ++ (l.take k).flatMap (fun x => M.num x 8) ++ M.num l[k] 8) := flat_snoc l k (by omega) pre
        have hpl2 : (pre ++ (l.take k).flatMap (fun x => M.num x 8)).length ≤ 1000 := by rw [List.length_append, flat_len, List.length_take]; omega
        generalize l[k] = x at *
        generalize pre ++ (l.take k).flatMap (fun x => M.num x 8) = p1 at *
        go_wp2_with (first | (go_at_call 65; refine (appendBits_any _ w1.heap.size _ p1 x 8 ho hz (by omega) (by omega) (by omega)).mono ?_; rintro o w7 ⟨v7, rfl, ho7, hb7, _⟩))
        have hb8 := hb.trans hb7
        have hz7 : w1.heap.size ≤ w7.heap.size := hb8.size
        clear ho hb hz hb7
        go_roundw
        case rel => exact ⟨k + 1, by omega, by go_num, by rw [HF.out]; exact ho7, hb8, hz7⟩
        case measure => simp [intOf]; omega
      · have hke : l.take k = l := List.take_of_length_le (by omega)
        rw [hke] at ho
        have hall : ∀ x ∈ pre ++ l.flatMap (fun x => M.num x 8), M.isL x := fun x hx => bodyL_isL e i r dn l x (by rw [HBD.out]; exact hx)
        have hcv := conv_own ho (isL_lt hall)
        clear hall hke
        generalize pre ++ l.flatMap (fun x => M.num x 8) = p1 at *
        go_wp2
        go_ret
        exact ⟨ret_str (by rw [HBD.out]), hB1.trans (hb.mono (by omega))⟩

set_option maxHeartbeats 1000000 in
theorem body_any (w : World) (e : Bool) (i : Nat) (r : Bool) (d : Int) (a : Option Addr) (n cap : Nat) (l : List Nat) (h : isBytes w a n cap l) :
    Calls Try.prog 28 #[frV e i r d a n cap] w fun o w' => o = .returned (.string (bodyZ e i r d n l)) ∧ Below w.heap.size w w' := by
  by_cases hv : validB e i r d n = true
  · obtain ⟨_, _, hd0, _, _⟩ := validB_true hv
    obtain ⟨dn, rfl⟩ := Int.eq_ofNat_of_zero_le hd0
    refine (body_ok w e i r dn a n cap l h hv).mono ?_
    rintro o w' ⟨rfl, hb⟩
    exact ⟨ret_str (by simp [bodyZ, hv]), hb⟩
  · have hv' : validB e i r d n = false := by simpa using hv
    have HZ : Hid (bodyZ e i r d n l = ⟨#[]⟩) := by simp [bodyZ, hv', Hid]
    have HV : Hid (validB e i r d n = false) := hv'
    have HH : Hid (isBytes w a n cap l) := h
    clear hv hv' h
    go_enter Try.func28, Try.ntmps28
    go_wp2_with (first | (go_at_call 25; refine (valid_any _ e i r d a n cap l (HH.out.below ((Below.refl _ _).alloc (Nat.le_refl _) _))).mono ?_; rw [HV.out]; rintro o w1 ⟨rfl, hb1⟩))
    go_ret
    exact ⟨ret_str HZ.out.symm, ((Below.refl w.heap.size w).alloc (Nat.le_refl _) _).trans (hb1.mono (by simp))⟩

theorem num_quiet (v n : Nat) (w : World) (hn : n ≤ 64) (hv : v < 4611686018427387904) : Calls Try.prog 62 #[.int .i64 v, .int .i64 n] w fun o w' => o = .returned (.string (strN (M.num v n))) ∧ w' = w :=
  (num_any n v w hn hv).mono fun _ _ h => ⟨h.1, h.2.symm⟩
theorem flag_quiet (r : Bool) (w : World) : Calls Try.prog 63 #[.bool r] w fun o w' => o = .returned (.string (strN [48 + r.toNat])) ∧ w' = w :=
  (flag_any r w).mono fun _ _ h => ⟨h.1, h.2.symm⟩
theorem strN_take (l : List Nat) (k : Nat) : (strN l).extract 0 k = strN (l.take k) := by
  unfold strN
  apply ByteArray.ext
  simp [ByteArray.data_extract]
theorem strN_drop (l : List Nat) (k m : Nat) (h : m = l.length) : (strN l).extract k m = strN (l.drop k) := by
  subst h
  unfold strN
  apply ByteArray.ext
  simp [ByteArray.data_extract]
  exact List.take_of_length_le (by simp)
theorem num_q4 (v : Nat) (w : World) (hv : v < 4611686018427387904) : Calls Try.prog 62 #[.int .i64 (v : Int), .int .i64 4] w fun o w' => o = .returned (.string (strN (M.num v 4))) ∧ w' = w := num_quiet v 4 w (by omega) hv
theorem num_q8 (v : Nat) (w : World) (hv : v < 4611686018427387904) : Calls Try.prog 62 #[.int .i64 (v : Int), .int .i64 8] w fun o w' => o = .returned (.string (strN (M.num v 8))) ∧ w' = w := num_quiet v 8 w (by omega) hv
theorem num_q11 (v : Nat) (w : World) (hv : v < 4611686018427387904) : Calls Try.prog 62 #[.int .i64 (v : Int), .int .i64 11] w fun o w' => o = .returned (.string (strN (M.num v 11))) ∧ w' = w := num_quiet v 11 w (by omega) hv
theorem num_q15 (v : Nat) (w : World) (hv : v < 4611686018427387904) : Calls Try.prog 62 #[.int .i64 (v : Int), .int .i64 15] w fun o w' => o = .returned (.string (strN (M.num v 15))) ∧ w' = w := num_quiet v 15 w (by omega) hv
theorem num_q29 (v : Nat) (w : World) (hv : v < 4611686018427387904) : Calls Try.prog 62 #[.int .i64 (v : Int), .int .i64 29] w fun o w' => o = .returned (.string (strN (M.num v 29))) ∧ w' = w := num_quiet v 29 w (by omega) hv
end Go.Proofs.Ytnefmdjodjpopaa
