import Derived.Test.YtpknchjjfiiaeaaGreatDoorV08
namespace Go.Proofs.YtpknchjjfiiaeaaGreatDoor.J
open Go.RowKit
theorem box_below {B : Nat} {W W' : World} {b : Nat} {o : Obj} (h : W.heap[b]? = some o) (hb : Below B W W') (hB : b < B) : W'.heap[b]? = some o := (hb.block b hB).trans h
/-- what Body answers -/
def bodyZ (e : Bool) (i : Nat) (r : Bool) (d : Int) (n : Nat) (l : List Nat) : ByteArray := if validB e i r d n = true then strN (bodyL e i r d.toNat l) else ⟨#[]⟩
theorem validB_true {e : Bool} {i : Nat} {r : Bool} {d : Int} {n : Nat} (h : validB e i r d n = true) : i < 536870912 ∧ (e = false → i < 2048) ∧ 0 ≤ d ∧ d ≤ 15 ∧ n ≤ 8 := by
  unfold validB at h
  simp only [Bool.and_eq_true, decide_eq_true_iff, beq_iff_eq] at h
  obtain ⟨⟨⟨h1, h2⟩, h3⟩, h4⟩ := h
  have h5 := dl_bounds r d h2
  refine ⟨?_, ?_, h2, h3, by omega⟩
  · cases e <;> simp at h1 <;> omega
  · intro he; subst he; simpa using h1
theorem flat_snoc (l : List Nat) (k : Nat) (h : k < l.length) (p : List Nat) : p ++ (l.take (k + 1)).flatMap (fun x => M.num x 8) = p ++ (l.take k).flatMap (fun x => M.num x 8) ++ M.num l[k] 8 := by
  rw [M.take_at l k h, List.flatMap_append, List.append_assoc]; simp
theorem flat_len (l : List Nat) : (l.flatMap (fun x => M.num x 8)).length = 8 * l.length := by
  induction l with
  | nil => rfl
  | cons a l ih => rw [List.flatMap_cons, List.length_append, ih, M.num_length, List.length_cons]; omega
set_option maxHeartbeats 2000000 in
set_option maxRecDepth 20000 in
theorem body_ok (w : World) (e : Bool) (i : Nat) (r : Bool) (dn : Nat) (a : Option Addr) (n cap : Nat) (l : List Nat) (h : isBytes w a n cap l) (hv : validB e i r (dn : Int) n = true) :
    Calls Tryz.prog 17 #[frV e i r (dn : Int) a n cap] w fun o w' => o = .returned (.string (strN (bodyL e i r dn l))) ∧ Below w.heap.size w w' := by
  obtain ⟨hi, _, _, hd15, hn8⟩ := validB_true hv
  have HV : Hid (validB e i r (dn : Int) n = true) := hv
  have HH : Hid (isBytes w a n cap l) := h
  have hW : Below w.heap.size w (w.alloc (frC e i r (dn : Int) a n cap 33)) := (Below.refl _ _).alloc (Nat.le_refl _) _
  have HW : Hid (Below w.heap.size w (w.alloc (frC e i r (dn : Int) a n cap 33)) ∧ (w.alloc (frC e i r (dn : Int) a n cap 33)).heap[w.heap.size]? = some (frC e i r (dn : Int) a n cap 33)) := ⟨hW, heap_alloc_new w _⟩
  clear hv h hW
  go_enter Tryz.func17, Tryz.ntmps17
  go_wp2_with fail
  refine (valid_any _ e i r (dn : Int) a n cap l (HH.out.below HW.out.1)).mono ?_
  rw [HV.out]
  rintro o w1 ⟨rfl, hb1⟩
  have hB1 : Below w.heap.size w w1 := HW.out.1.trans (hb1.mono (by simp))
  have hx1 := box_below HW.out.2 hb1 (by simp)
  have hz1 : w.heap.size < w1.heap.size := lt_of_block hx1
  have HX1 : Hid (w1.heap[w.heap.size]? = some (frC e i r (dn : Int) a n cap 33)) := hx1
  have hc1 := frC_cells hx1
  clear hb1 hx1
  have hy1 := HH.out.below hB1
  have HY1 : Hid (isBytes w1 a n cap l) := hy1
  clear hy1
  go_wp2_with fail
  have hWb : Below w1.heap.size w1 (w1.alloc (.cells #[.int .u8 48] 5)) := (Below.refl _ _).alloc (Nat.le_refl _) _
  have hWz : w1.heap.size ≤ (w1.alloc (.cells #[.int .u8 48] 5)).heap.size := by simp
  refine (appendArb_any _ w1.heap.size _ [48] (own_one w1 48 w1.heap.size (Nat.le_refl _)) hWz (by simp) e i r (dn : Int) a n cap (by omega)).mono ?_
  rintro o w2 ⟨v2, rfl, ho2, hb2, _⟩
  have hB2 := hWb.trans hb2
  have hx2 := box_below HX1.out hB2 hz1
  have hc2 := frC_cells hx2
  have hz2 : w1.heap.size ≤ w2.heap.size := hB2.size
  clear hb2 hWb hWz hc1 hx2
  go_wp2_with (first | (go_at_call 49; refine (sizeRes_any _ _ _ _ _ _ _ _).mono ?_; rintro o w3 ⟨rfl, rfl⟩))
  have ho2' : ownsB (w2.alloc (frC e i r (dn : Int) a n cap 33)) w1.heap.size v2 ([48] ++ arbL e i r) := World.ownsRow.alloc ho2 _
  have hB3 : Below w1.heap.size w1 (w2.alloc (frC e i r (dn : Int) a n cap 33)) := hB2.alloc hz2 _
  have hal := arbL_length e i r
  refine (appendBits_any _ w1.heap.size v2 _ 0 (1 + e.toNat) ho2' (by simp; omega) (by simp; omega) (by omega) (by cases e <;> simp)).mono ?_
  rintro o w4 ⟨v4, rfl, ho4, hb4, _⟩
  have hB4 := hB3.trans hb4
  have hx4 := box_below HX1.out hB4 hz1
  have hc4 := frC_cells hx4
  have hz4 : w1.heap.size ≤ w4.heap.size := hB4.size
  clear hb4 hB3 hB2 hc2 hx4 ho2 ho2' hz2
  go_wp2_with fail
  refine (appendBits_any _ w1.heap.size v4 _ dn 4 ho4 hz4 (by simp [M.num_length]; cases e <;> simp <;> omega) (by omega) (by omega)).mono ?_
  rintro o w5 ⟨v5, rfl, ho5, hb5, _⟩
  have hB5 := hB4.trans hb5
  have hx5 := box_below HX1.out hB5 hz1
  have hc5 := frC_cells hx5
  have hz5 : w1.heap.size ≤ w5.heap.size := hB5.size
  clear hb5 hB4 hc4 hx5 ho4 hz4
  have hpl : ([48] ++ arbL e i r ++ M.num 0 (1 + e.toNat) ++ M.num dn 4).length ≤ 100 := by simp [M.num_length]; cases e <;> simp <;> omega
  have HBD : Hid (bodyL e i r dn l = [48] ++ arbL e i r ++ M.num 0 (1 + e.toNat) ++ M.num dn 4 ++ l.flatMap (fun x => M.num x 8)) := rfl
  generalize [48] ++ arbL e i r ++ M.num 0 (1 + e.toNat) ++ M.num dn 4 = pre at *
  go_wp2_with fail
  by_cases hl : l = []
  · have hn0 : n = 0 := by have := HY1.out.len; rw [hl] at this; simpa using this
    subst hn0 hl
    have hz0 : ¬ (0 : Int) < ((0 : Nat) : Int) := by omega
    go_loopw [3, 5, 24] (fun v _ idx wr => idx = .int .i64 0 ∧ ownsB wr w1.heap.size v pre ∧ Below w1.heap.size w1 wr) (fun _ _ _ _ => 0)
    case atStart => exact ⟨rfl, ho5, hB5⟩
    case round =>
      clear ho5 hB5 hc5
      obtain ⟨rfl, ho, hb⟩ := hrel
      have hall : ∀ x ∈ pre, M.isL x := fun x hx => bodyL_isL e i r dn [] x (by rw [HBD.out]; simp [hx])
      have hcv := conv_own ho (isL_lt hall)
      clear hall
      go_wp2
      go_ret
      exact ⟨ret_str (by rw [HBD.out]; simp), hB1.trans (hb.mono (by omega))⟩
  · obtain ⟨g, off, rfl, hcl⟩ := HY1.out.cells hl
    have hlen := HY1.out.len
    have hn1 : n ≤ l.length := by omega
    have hn2 : l.length ≤ n := by omega
    have hsm := HY1.out.small
    have HSM : Hid (∀ x ∈ l, x < 256) := hsm
    clear hlen hsm
    have hgz : g < w1.heap.size := World.block_lt_of_cell? w1 _ (hcl 0 (by have := List.length_pos_iff.2 hl; omega))
    go_loopw [3, 5, 24] (fun v _ idx wr => ∃ k : Nat, k ≤ n ∧ idx = .int .i64 k ∧ ownsB wr w1.heap.size v (pre ++ (l.take k).flatMap (fun x => M.num x 8)) ∧ Below w1.heap.size w1 wr ∧ w1.heap.size ≤ wr.heap.size) (fun _ _ idx _ => n - (intOf idx).toNat)
    case atStart => exact ⟨0, Nat.zero_le _, rfl, by simpa using ho5, hB5, hz5⟩
    case round =>
      clear ho5 hB5 hz5 hc5
      obtain ⟨k, hk, rfl, ho, hb, hz⟩ := hrel
      by_cases hlt : k < n
      · have hc : wr.cell? ⟨g, off + k, none⟩ = some (.int .u8 (l[k] : Int)) := (hb.cell (by exact hgz)).trans (hcl k (by omega))
        have hx256 := HSM.out l[k] (List.getElem_mem _)
        have HF : Hid (pre ++ (l.take (k + 1)).flatMap (fun x => M.num x 8) = pre ++ (l.take k).flatMap (fun x => M.num x 8) ++ M.num l[k] 8) := flat_snoc l k (by omega) pre
        have hpl2 : (pre ++ (l.take k).flatMap (fun x => M.num x 8)).length ≤ 1000 := by rw [List.length_append, flat_len, List.length_take]; omega
        generalize l[k] = x at *
        generalize pre ++ (l.take k).flatMap (fun x => M.num x 8) = p1 at *
        go_wp2_with (first | (go_at_call 41; refine (appendBits_any _ w1.heap.size _ p1 x 8 ho hz (by omega) (by omega) (by omega)).mono ?_; rintro o w7 ⟨v7, rfl, ho7, hb7, _⟩))
        have hb8 := hb.trans hb7
        have hz7 : w1.heap.size ≤ w7.heap.size := hb8.size
        clear ho hb hz hb7
        go_roundw
        case rel => exact ⟨k + 1, by omega, by go_num, by rw [HF.out]; exact ho7, hb8, hz7⟩
        case measure => simp [intOf]; omega
      · have hke : l.take k = l := List.take_of_length_le (by omega)
        rw [hke] at ho
        have hall : ∀ x ∈ pre ++ l.flatMap (fun x => M.num x 8), M.isL x := fun x hx => bodyL_isL e i r dn l x (by rw [HBD.out]; exact hx)
        have hcv := conv_own ho (isL_lt hall)
        clear hall hke
        generalize pre ++ l.flatMap (fun x => M.num x 8) = p1 at *
        go_wp2
        go_ret
        exact ⟨ret_str (by rw [HBD.out]), hB1.trans (hb.mono (by omega))⟩
set_option maxHeartbeats 1000000 in
theorem body_any (w : World) (e : Bool) (i : Nat) (r : Bool) (d : Int) (a : Option Addr) (n cap : Nat) (l : List Nat) (h : isBytes w a n cap l) :
    Calls Tryz.prog 17 #[frV e i r d a n cap] w fun o w' => o = .returned (.string (bodyZ e i r d n l)) ∧ Below w.heap.size w w' := by
  by_cases hv : validB e i r d n = true
  · obtain ⟨_, _, hd0, _, _⟩ := validB_true hv
    obtain ⟨dn, rfl⟩ := Int.eq_ofNat_of_zero_le hd0
    refine (body_ok w e i r dn a n cap l h hv).mono ?_
    rintro o w' ⟨rfl, hb⟩
    exact ⟨ret_str (by simp [bodyZ, hv]), hb⟩
  · have hv' : validB e i r d n = false := by simpa using hv
    have HZ : Hid (bodyZ e i r d n l = ⟨#[]⟩) := by simp [bodyZ, hv', Hid]
    have HV : Hid (validB e i r d n = false) := hv'
    have HH : Hid (isBytes w a n cap l) := h
    clear hv hv' h
    go_enter Tryz.func17, Tryz.ntmps17
    go_wp2_with (first | (go_at_call 40; refine (valid_any _ e i r d a n cap l (HH.out.below ((Below.refl _ _).alloc (Nat.le_refl _) _))).mono ?_; rw [HV.out]; rintro o w1 ⟨rfl, hb1⟩))
    go_ret
    exact ⟨ret_str HZ.out.symm, ((Below.refl w.heap.size w).alloc (Nat.le_refl _) _).trans (hb1.mono (by simp))⟩
theorem num_quiet (v n : Nat) (w : World) (hn : n ≤ 64) (hv : v < 4611686018427387904) : Calls Tryz.prog 46 #[.int .i64 v, .int .i64 n] w fun o w' => o = .returned (.string (strN (M.num v n))) ∧ w' = w :=
  (num_any n v w hn hv).mono fun _ _ h => ⟨h.1, h.2.symm⟩
theorem flag_quiet (r : Bool) (w : World) : Calls Tryz.prog 56 #[.bool r] w fun o w' => o = .returned (.string (strN [48 + r.toNat])) ∧ w' = w :=
  (flag_any r w).mono fun _ _ h => ⟨h.1, h.2.symm⟩
theorem strN_take (l : List Nat) (k : Nat) : (strN l).extract 0 k = strN (l.take k) := by
  unfold strN
  apply ByteArray.ext
  simp [ByteArray.data_extract]
theorem strN_drop (l : List Nat) (k m : Nat) (h : m = l.length) : (strN l).extract k m = strN (l.drop k) := by
  subst h
  unfold strN
  apply ByteArray.ext
  simp [ByteArray.data_extract]
  exact List.take_of_length_le (by simp)
theorem num_q4 (v : Nat) (w : World) (hv : v < 4611686018427387904) : Calls Tryz.prog 46 #[.int .i64 (v : Int), .int .i64 4] w fun o w' => o = .returned (.string (strN (M.num v 4))) ∧ w' = w := num_quiet v 4 w (by omega) hv
theorem num_q8 (v : Nat) (w : World) (hv : v < 4611686018427387904) : Calls Tryz.prog 46 #[.int .i64 (v : Int), .int .i64 8] w fun o w' => o = .returned (.string (strN (M.num v 8))) ∧ w' = w := num_quiet v 8 w (by omega) hv
theorem num_q11 (v : Nat) (w : World) (hv : v < 4611686018427387904) : Calls Tryz.prog 46 #[.int .i64 (v : Int), .int .i64 11] w fun o w' => o = .returned (.string (strN (M.num v 11))) ∧ w' = w := num_quiet v 11 w (by omega) hv
theorem num_e29 (v : Nat) (w : World) (hv : v < 4611686018427387904) : Calls Tryz.prog 46 #[.int .i64 (v : Int), .int .i64 29] w fun o w' => o = .returned (.string (strN (M.num v 29))) ∧ w = w' := num_any 29 v w (by omega) hv
theorem num02 : M.num 0 2 = [48, 48] := rfl
theorem num29_take (i : Nat) : (M.num i 29).take 11 = M.num (i / 2 ^ 18) 11 := by
  rw [show (29 : Nat) = 11 + 18 from rfl, M.num_split 18 i 11, List.take_append_of_le_length (by rw [M.num_length]; omega), List.take_of_length_le (by rw [M.num_length]; omega)]
theorem num29_drop (i : Nat) : (M.num i 29).drop 11 = M.num i 18 := by
  rw [show (29 : Nat) = 11 + 18 from rfl, M.num_split 18 i 11, List.drop_append_of_le_length (by rw [M.num_length]; omega), List.drop_eq_nil_of_le (by rw [M.num_length]; omega), List.nil_append]
theorem b48 : ({ data := #[48] } : ByteArray) = strN [48] := rfl
theorem b49 : ({ data := #[49] } : ByteArray) = strN [49] := rfl
theorem b4848 : ({ data := #[48, 48] } : ByteArray) = strN [48, 48] := rfl
set_option maxHeartbeats 1000000 in
set_option maxRecDepth 20000 in
theorem specBody_ok (w : World) (e : Bool) (i : Nat) (r : Bool) (dn : Nat) (a : Option Addr) (n cap : Nat) (l : List Nat) (h : isBytes w a n cap l) (hv : validB e i r (dn : Int) n = true) :
    Calls Tryz.prog 21 #[frV e i r (dn : Int) a n cap] w fun o w' => o = .returned (.string (strN (bodyL e i r dn l))) ∧ Below w.heap.size w w' := by
  obtain ⟨hi, hi2, _, hd15, hn8⟩ := validB_true hv
  have HV : Hid (validB e i r (dn : Int) n = true) := hv
  have HH : Hid (isBytes w a n cap l) := h
  have hW : Below w.heap.size w (w.alloc (frC e i r (dn : Int) a n cap 33)) := (Below.refl _ _).alloc (Nat.le_refl _) _
  have HW : Hid (Below w.heap.size w (w.alloc (frC e i r (dn : Int) a n cap 33)) ∧ (w.alloc (frC e i r (dn : Int) a n cap 33)).heap[w.heap.size]? = some (frC e i r (dn : Int) a n cap 33)) := ⟨hW, heap_alloc_new w _⟩
  clear hv h hW hi2
  cases e
  · go_enter Tryz.func21, Tryz.ntmps21
    go_wp2_with fail
    refine (specValid_any _ _ i r (dn : Int) a n cap).mono ?_
    rw [HV.out]
    rintro o w1 ⟨rfl, hb1⟩
    have hB1 : Below w.heap.size w w1 := HW.out.1.trans (hb1.mono (by simp))
    have hx1 := box_below HW.out.2 hb1 (by simp)
    have hc1 := frC_cells hx1
    have HY1 : Hid (isBytes w1 a n cap l) := HH.out.below hB1
    clear hb1 hx1
    have hs1 : (strN (M.num i 11)).size ≤ 11 := by rw [strN_size, M.num_length]; omega
    have hs2 : (strN [48 + r.toNat]).size ≤ 1 := by rw [strN_size]; simp
    go_wp2_with fail
    go_quiet (first | (go_at_call 46; exact Calls.quiet_of_same (num_q11 i _ (by omega))) | (go_at_call 56; exact Calls.quiet_of_same (flag_quiet r _)))
    go_wp2_with fail
    have hEq : ({ data := #[48] } ++ strN (M.num i 11) ++ strN [48 + r.toNat] ++ { data := #[48] } ++ { data := #[48] } : ByteArray) = strN ([48] ++ M.num i 11 ++ [48 + r.toNat] ++ [48] ++ [48]) := by
      rw [b48]
      simp only [strN_append]
    rw [hEq]
    have HBD : Hid (bodyL false i r dn l = [48] ++ M.num i 11 ++ [48 + r.toNat] ++ [48] ++ [48] ++ M.num dn 4 ++ l.flatMap (fun x => M.num x 8)) := by
      simp [Hid, bodyL, arbL, num01]
    have hpl : ([48] ++ M.num i 11 ++ [48 + r.toNat] ++ [48] ++ [48] ++ M.num dn 4).length ≤ 100 := by simp [M.num_length]
    have hs3 : (strN ([48] ++ M.num i 11 ++ [48 + r.toNat] ++ [48] ++ [48])).size ≤ 100 := by rw [strN_size]; simp [M.num_length]
    have hs4 : (strN (M.num dn 4)).size ≤ 4 := by rw [strN_size, M.num_length]; omega
    have HAP : Hid (strN ([48] ++ M.num i 11 ++ [48 + r.toNat] ++ [48] ++ [48]) ++ strN (M.num dn 4) = strN ([48] ++ M.num i 11 ++ [48 + r.toNat] ++ [48] ++ [48] ++ M.num dn 4)) := strN_append _ _
    clear hEq hs1 hs2
    generalize [48] ++ M.num i 11 ++ [48 + r.toNat] ++ [48] ++ [48] ++ M.num dn 4 = pre at *
    generalize strN ([48] ++ M.num i 11 ++ [48 + r.toNat] ++ [48] ++ [48]) = sp at *
    refine (num_q4 dn _ (by omega)).mono ?_
    rintro o w2 ⟨rfl, rfl⟩
    go_wp2_with fail
    rw [HAP.out]
    by_cases hl : l = []
    · have hn0 : n = 0 := by have := HY1.out.len; rw [hl] at this; simpa using this
      subst hn0 hl
      go_loopw [3, 5] (fun s idx wr => idx = .int .i64 0 ∧ s = .string (strN pre) ∧ wr = w1.drewN nq) (fun _ _ _ => 0)
      case atStart => exact ⟨rfl, rfl, rfl⟩
      case round =>
        obtain ⟨rfl, rfl, rfl⟩ := hrel
        go_wp2
        go_ret
        exact ⟨ret_str (by rw [HBD.out]; simp), below_drewN hB1 nq⟩
    · obtain ⟨g, off, rfl, hcl⟩ := HY1.out.cells hl
      have hlen := HY1.out.len
      have hn1 : n ≤ l.length := by omega
      have hn2 : l.length ≤ n := by omega
      have HSM : Hid (∀ x ∈ l, x < 256) := HY1.out.small
      clear hlen
      go_loopw [3, 5] (fun s idx wr => ∃ k : Nat, k ≤ n ∧ idx = .int .i64 k ∧ s = .string (strN (pre ++ (l.take k).flatMap (fun x => M.num x 8))) ∧ wr = w1.drewN nq) (fun _ idx _ => n - (intOf idx).toNat)
      case atStart => exact ⟨0, Nat.zero_le _, rfl, by simp, rfl⟩
      case round =>
        obtain ⟨k, hk, rfl, rfl, rfl⟩ := hrel
        by_cases hlt : k < n
        · have hc := hcl k (by omega)
          have hx256 := HSM.out l[k] (List.getElem_mem _)
          have HF : Hid (strN (pre ++ (l.take k).flatMap (fun x => M.num x 8)) ++ strN (M.num l[k] 8) = strN (pre ++ (l.take (k + 1)).flatMap (fun x => M.num x 8))) := by rw [flat_snoc l k (by omega) pre, strN_append]; exact rfl
          have hpl2 : (strN (pre ++ (l.take k).flatMap (fun x => M.num x 8))).size ≤ 1000 := by rw [strN_size, List.length_append, flat_len, List.length_take]; omega
          generalize l[k] = x at *
          have hs8 : (strN (M.num x 8)).size ≤ 8 := by rw [strN_size, M.num_length]; omega
          generalize strN (pre ++ (l.take k).flatMap (fun x => M.num x 8)) = sp at *
          go_wp2_with (first | (go_at_call 46; refine (num_q8 x _ (by omega)).mono ?_; rintro o w7 ⟨rfl, rfl⟩))
          go_roundw
          case rel => exact ⟨k + 1, by omega, by go_num, by rw [← HF.out], by first | rfl | trivial⟩
          case measure => simp [intOf]; omega
        · have hke : l.take k = l := List.take_of_length_le (by omega)
          have HKE : Hid (l.take k = l) := hke
          clear hke
          go_wp2
          go_ret
          exact ⟨ret_str (by rw [HBD.out, HKE.out]), below_drewN hB1 nq⟩
  · go_enter Tryz.func21, Tryz.ntmps21
    go_wp2_with fail
    refine (specValid_any _ _ i r (dn : Int) a n cap).mono ?_
    rw [HV.out]
    rintro o w1 ⟨rfl, hb1⟩
    have hB1 : Below w.heap.size w w1 := HW.out.1.trans (hb1.mono (by simp))
    have hx1 := box_below HW.out.2 hb1 (by simp)
    have hc1 := frC_cells hx1
    have HY1 : Hid (isBytes w1 a n cap l) := HH.out.below hB1
    clear hb1 hx1
    have hs29 : (strN (M.num i 29)).size = 29 := by rw [strN_size, M.num_length]
    have hs2 : (strN [48 + r.toNat]).size ≤ 1 := by rw [strN_size]; simp
    go_wp2_with (first | (go_at_call 46; refine (num_e29 i _ (by omega)).mono ?_; rintro o w7 ⟨rfl, rfl⟩))
    go_quiet (first | (go_at_call 56; exact Calls.quiet_of_same (flag_quiet r _)))
    go_wp2_with fail
    have hEq : ({ data := #[48] } ++ (strN (M.num i 29)).extract 0 11 ++ { data := #[49] } ++ { data := #[49] } ++ (strN (M.num i 29)).extract 11 29 ++ strN [48 + r.toNat] ++ { data := #[48, 48] } : ByteArray) = strN ([48] ++ M.num (i / 2 ^ 18) 11 ++ [49] ++ [49] ++ M.num i 18 ++ [48 + r.toNat] ++ [48, 48]) := by
      rw [b48, b49, b4848, strN_take, strN_drop _ 11 29 (by rw [M.num_length]), num29_take, num29_drop]
      simp only [strN_append]
    rw [hEq]
    have HBD : Hid (bodyL true i r dn l = [48] ++ M.num (i / 2 ^ 18) 11 ++ [49] ++ [49] ++ M.num i 18 ++ [48 + r.toNat] ++ [48, 48] ++ M.num dn 4 ++ l.flatMap (fun x => M.num x 8)) := by
      simp [Hid, bodyL, arbL, num02]
    have hpl : ([48] ++ M.num (i / 2 ^ 18) 11 ++ [49] ++ [49] ++ M.num i 18 ++ [48 + r.toNat] ++ [48, 48] ++ M.num dn 4).length ≤ 100 := by simp [M.num_length]
    have hs3 : (strN ([48] ++ M.num (i / 2 ^ 18) 11 ++ [49] ++ [49] ++ M.num i 18 ++ [48 + r.toNat] ++ [48, 48])).size ≤ 100 := by rw [strN_size]; simp [M.num_length]
    have hs4 : (strN (M.num dn 4)).size ≤ 4 := by rw [strN_size, M.num_length]; omega
    have HAP : Hid (strN ([48] ++ M.num (i / 2 ^ 18) 11 ++ [49] ++ [49] ++ M.num i 18 ++ [48 + r.toNat] ++ [48, 48]) ++ strN (M.num dn 4) = strN ([48] ++ M.num (i / 2 ^ 18) 11 ++ [49] ++ [49] ++ M.num i 18 ++ [48 + r.toNat] ++ [48, 48] ++ M.num dn 4)) := strN_append _ _
    clear hEq hs29 hs2
    generalize [48] ++ M.num (i / 2 ^ 18) 11 ++ [49] ++ [49] ++ M.num i 18 ++ [48 + r.toNat] ++ [48, 48] ++ M.num dn 4 = pre at *
    generalize strN ([48] ++ M.num (i / 2 ^ 18) 11 ++ [49] ++ [49] ++ M.num i 18 ++ [48 + r.toNat] ++ [48, 48]) = sp at *
    refine (num_q4 dn _ (by omega)).mono ?_
    rintro o w2 ⟨rfl, rfl⟩
    go_wp2_with fail
    rw [HAP.out]
    by_cases hl : l = []
    · have hn0 : n = 0 := by have := HY1.out.len; rw [hl] at this; simpa using this
      subst hn0 hl
      go_loopw [3, 5] (fun s idx wr => idx = .int .i64 0 ∧ s = .string (strN pre) ∧ wr = w1.drewN nq) (fun _ _ _ => 0)
      case atStart => exact ⟨rfl, rfl, rfl⟩
      case round =>
        obtain ⟨rfl, rfl, rfl⟩ := hrel
        go_wp2
        go_ret
        exact ⟨ret_str (by rw [HBD.out]; simp), below_drewN hB1 nq⟩
    · obtain ⟨g, off, rfl, hcl⟩ := HY1.out.cells hl
      have hlen := HY1.out.len
      have hn1 : n ≤ l.length := by omega
      have hn2 : l.length ≤ n := by omega
      have HSM : Hid (∀ x ∈ l, x < 256) := HY1.out.small
      clear hlen
      go_loopw [3, 5] (fun s idx wr => ∃ k : Nat, k ≤ n ∧ idx = .int .i64 k ∧ s = .string (strN (pre ++ (l.take k).flatMap (fun x => M.num x 8))) ∧ wr = w1.drewN nq) (fun _ idx _ => n - (intOf idx).toNat)
      case atStart => exact ⟨0, Nat.zero_le _, rfl, by simp, rfl⟩
      case round =>
        obtain ⟨k, hk, rfl, rfl, rfl⟩ := hrel
        by_cases hlt : k < n
        · have hc := hcl k (by omega)
          have hx256 := HSM.out l[k] (List.getElem_mem _)
          have HF : Hid (strN (pre ++ (l.take k).flatMap (fun x => M.num x 8)) ++ strN (M.num l[k] 8) = strN (pre ++ (l.take (k + 1)).flatMap (fun x => M.num x 8))) := by rw [flat_snoc l k (by omega) pre, strN_append]; exact rfl
          have hpl2 : (strN (pre ++ (l.take k).flatMap (fun x => M.num x 8))).size ≤ 1000 := by rw [strN_size, List.length_append, flat_len, List.length_take]; omega
          generalize l[k] = x at *
          have hs8 : (strN (M.num x 8)).size ≤ 8 := by rw [strN_size, M.num_length]; omega
          generalize strN (pre ++ (l.take k).flatMap (fun x => M.num x 8)) = sp at *
          go_wp2_with (first | (go_at_call 46; refine (num_q8 x _ (by omega)).mono ?_; rintro o w7 ⟨rfl, rfl⟩))
          go_roundw
          case rel => exact ⟨k + 1, by omega, by go_num, by rw [← HF.out], by first | rfl | trivial⟩
          case measure => simp [intOf]; omega
        · have hke : l.take k = l := List.take_of_length_le (by omega)
          have HKE : Hid (l.take k = l) := hke
          clear hke
          go_wp2
          go_ret
          exact ⟨ret_str (by rw [HBD.out, HKE.out]), below_drewN hB1 nq⟩
set_option maxHeartbeats 1000000 in
theorem specBody_any (w : World) (e : Bool) (i : Nat) (r : Bool) (d : Int) (a : Option Addr) (n cap : Nat) (l : List Nat) (h : isBytes w a n cap l) :
    Calls Tryz.prog 21 #[frV e i r d a n cap] w fun o w' => o = .returned (.string (bodyZ e i r d n l)) ∧ Below w.heap.size w w' := by
  by_cases hv : validB e i r d n = true
  · obtain ⟨_, _, hd0, _, _⟩ := validB_true hv
    obtain ⟨dn, rfl⟩ := Int.eq_ofNat_of_zero_le hd0
    refine (specBody_ok w e i r dn a n cap l h hv).mono ?_
    rintro o w' ⟨rfl, hb⟩
    exact ⟨ret_str (by simp [bodyZ, hv]), hb⟩
  · have hv' : validB e i r d n = false := by simpa using hv
    have HZ : Hid (bodyZ e i r d n l = ⟨#[]⟩) := by simp [bodyZ, hv', Hid]
    have HV : Hid (validB e i r d n = false) := hv'
    clear hv hv' h
    go_enter Tryz.func21, Tryz.ntmps21
    go_wp2_with (first | (go_at_call 13; refine (specValid_any _ e i r d a n cap).mono ?_; rw [HV.out]; rintro o w1 ⟨rfl, hb1⟩))
    go_ret
    exact ⟨ret_str HZ.out.symm, ((Below.refl w.heap.size w).alloc (Nat.le_refl _) _).trans (hb1.mono (by simp))⟩
theorem ownsB_nil (w : World) (B : Nat) : ownsB w B (.slice none 0 0) [] := World.ownsRow_nil w B 5 1
theorem lt_strN (l : List Nat) (h : ∀ x ∈ l, x < 256) : lt (strN l) = l := by
  unfold lt strN
  simp only [List.map_map]
  conv => rhs; rw [← List.map_id l]
  apply List.map_congr_left
  intro x hx
  have := h x hx
  simp; omega
theorem bl_strN (l : List Nat) (h : ∀ x ∈ l, x < 256) : bl (strN l) = l.map (fun x => x - 48) := by
  have : bl (strN l) = (lt (strN l)).map (fun x => x - 48) := by unfold bl lt; simp
  rw [this, lt_strN l h]
theorem okT_strN (l : List Nat) (m : Int) (h : ∀ x ∈ l, M.isL x) (hm : (l.length : Int) ≤ m) : okT (strN l) m = true := by
  unfold okT
  rw [Bool.and_eq_true, decide_eq_true_iff, strN_size]
  refine ⟨hm, ?_⟩
  rw [List.all_eq_true]
  intro c hc
  unfold strN at hc
  simp at hc
  obtain ⟨x, hx, rfl⟩ := hc
  rcases h x hx with rfl | rfl <;> rfl
theorem stuffZ_strN (l : List Nat) (h : ∀ x ∈ l, M.isL x) (hm : l.length ≤ 2000) : stuffZ (strN l) = strN (M.stuffL l) := by
  unfold stuffZ
  rw [if_pos (okT_strN l 2000 h (by omega)), lt_strN l (isL_lt h)]
theorem crcZ_strN (l : List Nat) (h : ∀ x ∈ l, M.isL x) (hm : l.length ≤ 2000) : crcZ (strN l) = ((M.crcN (l.map (fun x => x - 48)) : Nat) : Int) := by
  unfold crcZ
  rw [if_pos (okT_strN l 2000 h (by omega)), bl_strN l (isL_lt h)]
/-- the plain letters of an image: body and sum -/
def plainL (e : Bool) (i : Nat) (r : Bool) (d : Nat) (l : List Nat) : List Nat :=
  bodyL e i r d l ++ M.num (M.crcN ((bodyL e i r d l).map (fun x => x - 48))) 15
/-- what Encode answers -/
def encZ (e : Bool) (i : Nat) (r : Bool) (d : Int) (n : Nat) (l : List Nat) : ByteArray :=
  if validB e i r d n = true then strN (M.stuffL (plainL e i r d.toNat l) ++ List.replicate 10 49) else ⟨#[]⟩
theorem plainL_isL (e : Bool) (i : Nat) (r : Bool) (d : Nat) (l : List Nat) : ∀ x ∈ plainL e i r d l, M.isL x := by
  intro x hx
  unfold plainL at hx
  rw [List.mem_append] at hx
  rcases hx with hx | hx
  · exact bodyL_isL e i r d l x hx
  · exact M.num_isL _ _ x hx
theorem plainL_length (e : Bool) (i : Nat) (r : Bool) (d : Nat) (l : List Nat) : (plainL e i r d l).length = (if e = true then 54 else 34) + 8 * l.length := by
  unfold plainL
  rw [List.length_append, bodyL_length, M.num_length]
  cases e <;> simp <;> omega
set_option maxHeartbeats 1000000 in
set_option maxRecDepth 20000 in
theorem encode_any (w : World) (e : Bool) (i : Nat) (r : Bool) (d : Int) (a : Option Addr) (n cap : Nat) (l : List Nat) (h : isBytes w a n cap l) :
    Calls Tryz.prog 12 #[frV e i r d a n cap] w fun o w' => o = .returned (.string (encZ e i r d n l)) ∧ Below w.heap.size w w' := by
  have HH : Hid (isBytes w a n cap l) := h
  have HW : Hid (Below w.heap.size w (w.alloc (frC e i r d a n cap 33)) ∧ (w.alloc (frC e i r d a n cap 33)).heap[w.heap.size]? = some (frC e i r d a n cap 33)) := ⟨(Below.refl _ _).alloc (Nat.le_refl _) _, heap_alloc_new w _⟩
  have hlen := h.len
  clear h
  by_cases hv : validB e i r d n = true
  · have hn8 := (validB_true hv).2.2.2.2
    have HZ : Hid (encZ e i r d n l = strN (M.stuffL (plainL e i r d.toNat l) ++ List.replicate 10 49)) := by simp [encZ, hv, Hid]
    have HBZ : Hid (bodyZ e i r d n l = strN (bodyL e i r d.toNat l)) := by simp [bodyZ, hv, Hid]
    have HV : Hid (validB e i r d n = true) := hv
    have hbl := bodyL_length e i r d.toNat l
    have hbl' : (bodyL e i r d.toNat l).length ≤ 200 := by rw [hbl]; split <;> omega
    have HC : Hid (crcZ (strN (bodyL e i r d.toNat l)) = ((M.crcN ((bodyL e i r d.toNat l).map (fun x => x - 48)) : Nat) : Int)) := crcZ_strN _ (bodyL_isL _ _ _ _ _) (by omega)
    have hc := M.crcN_lt ((bodyL e i r d.toNat l).map (fun x => x - 48))
    have HP : Hid (strN (bodyL e i r d.toNat l) ++ strN (M.num (M.crcN ((bodyL e i r d.toNat l).map (fun x => x - 48))) 15) = strN (plainL e i r d.toNat l)) := by rw [strN_append]; exact rfl
    have hpl := plainL_length e i r d.toNat l
    have hpl' : (plainL e i r d.toNat l).length ≤ 200 := by rw [hpl]; split <;> omega
    have HS : Hid (stuffZ (strN (plainL e i r d.toNat l)) = strN (M.stuffL (plainL e i r d.toNat l))) := stuffZ_strN _ (plainL_isL _ _ _ _ _) (by omega)
    have hst : (strN (M.stuffL (plainL e i r d.toNat l))).size ≤ 400 := by rw [strN_size]; have := M.stuff_len (plainL e i r d.toNat l); omega
    have HT : Hid (strN (M.stuffL (plainL e i r d.toNat l)) ++ strN (List.replicate 10 49) = strN (M.stuffL (plainL e i r d.toNat l) ++ List.replicate 10 49)) := strN_append _ _
    have hbs : (strN (bodyL e i r d.toNat l)).size ≤ 200 := by rw [strN_size]; exact hbl'
    clear hv hbl hbl' hpl hpl' hlen
    generalize M.crcN ((bodyL e i r d.toNat l).map (fun x => x - 48)) = c at *
    generalize strN (M.stuffL (plainL e i r d.toNat l)) = ss at *
    generalize strN (plainL e i r d.toNat l) = ps at *
    generalize strN (bodyL e i r d.toNat l) = bs at *
    go_enter Tryz.func12, Tryz.ntmps12
    go_wp2_with fail
    refine (valid_any _ e i r d a n cap l (HH.out.below HW.out.1)).mono ?_
    rw [HV.out]
    rintro o w1 ⟨rfl, hb1⟩
    have hB1 : Below w.heap.size w w1 := HW.out.1.trans (hb1.mono (by simp))
    have hx1 := box_below HW.out.2 hb1 (by simp)
    have hc1 := frC_cells hx1
    clear hb1 hx1
    go_wp2_with fail
    refine (body_any _ e i r d a n cap l (HH.out.below hB1)).mono ?_
    rw [HBZ.out]
    rintro o w2 ⟨rfl, hb2⟩
    have hB2 := hB1.trans (hb2.mono hB1.size)
    clear hb2 hB1 hc1
    go_wp2_with fail
    refine (crc15_any _ _).mono ?_
    rw [HC.out]
    rintro o w3 ⟨rfl, hb3⟩
    have hB3 := hB2.trans (hb3.mono hB2.size)
    clear hb3 hB2
    go_wp2_with fail
    refine (appendBits_any _ w3.heap.size _ [] c 15 (ownsB_nil w3 _) (Nat.le_refl _) (by simp) (by omega) (by omega)).mono ?_
    rintro o w4 ⟨v4, rfl, ho4, hb4, _⟩
    rw [List.nil_append] at ho4
    have hB4 := hB3.trans (hb4.mono hB3.size)
    have hcv := conv_own ho4 (isL_lt (M.num_isL _ _))
    have hs15 : (strN (M.num c 15)).size ≤ 15 := by rw [strN_size, M.num_length]; omega
    clear hb4 hB3 ho4
    go_wp2_with fail
    rw [HP.out]
    refine (stuff_any _ _).mono ?_
    rw [HS.out]
    rintro o w5 ⟨rfl, hb5⟩
    have hB5 := hB4.trans (hb5.mono hB4.size)
    clear hcv
    go_wp2
    go_ret
    exact ⟨ret_str (by rw [HZ.out, ← HT.out]; rfl), hB5⟩
  · have hv' : validB e i r d n = false := by simpa using hv
    have HZ : Hid (encZ e i r d n l = ⟨#[]⟩) := by simp [encZ, hv', Hid]
    have HV : Hid (validB e i r d n = false) := hv'
    clear hv hv' hlen
    go_enter Tryz.func12, Tryz.ntmps12
    go_wp2_with (first | (go_at_call 40; refine (valid_any _ e i r d a n cap l (HH.out.below HW.out.1)).mono ?_; rw [HV.out]; rintro o w1 ⟨rfl, hb1⟩))
    go_ret
    exact ⟨ret_str HZ.out.symm, HW.out.1.trans (hb1.mono (by simp))⟩
theorem num_e15 (v : Nat) (w : World) (hv : v < 4611686018427387904) : Calls Tryz.prog 46 #[.int .i64 (v : Int), .int .i64 15] w fun o w' => o = .returned (.string (strN (M.num v 15))) ∧ w = w' := num_any 15 v w (by omega) hv
theorem tail_eq (s : ByteArray) : s ++ { data := #[49] } ++ { data := #[49] } ++ { data := #[49] } ++ { data := #[49, 49, 49, 49, 49, 49, 49] } = s ++ strN (List.replicate 10 49) := by
  apply ByteArray.ext
  simp [strN]
set_option maxHeartbeats 1000000 in
set_option maxRecDepth 20000 in
theorem specEncode_any (w : World) (e : Bool) (i : Nat) (r : Bool) (d : Int) (a : Option Addr) (n cap : Nat) (l : List Nat) (h : isBytes w a n cap l) :
    Calls Tryz.prog 16 #[frV e i r d a n cap] w fun o w' => o = .returned (.string (encZ e i r d n l)) ∧ Below w.heap.size w w' := by
  have HH : Hid (isBytes w a n cap l) := h
  have HW : Hid (Below w.heap.size w (w.alloc (frC e i r d a n cap 33)) ∧ (w.alloc (frC e i r d a n cap 33)).heap[w.heap.size]? = some (frC e i r d a n cap 33)) := ⟨(Below.refl _ _).alloc (Nat.le_refl _) _, heap_alloc_new w _⟩
  have hlen := h.len
  clear h
  by_cases hv : validB e i r d n = true
  · have hn8 := (validB_true hv).2.2.2.2
    have HZ : Hid (encZ e i r d n l = strN (M.stuffL (plainL e i r d.toNat l) ++ List.replicate 10 49)) := by simp [encZ, hv, Hid]
    have HBZ : Hid (bodyZ e i r d n l = strN (bodyL e i r d.toNat l)) := by simp [bodyZ, hv, Hid]
    have HV : Hid (validB e i r d n = true) := hv
    have hbl := bodyL_length e i r d.toNat l
    have hbl' : (bodyL e i r d.toNat l).length ≤ 200 := by rw [hbl]; split <;> omega
    have HC : Hid (crcZ (strN (bodyL e i r d.toNat l)) = ((M.crcN ((bodyL e i r d.toNat l).map (fun x => x - 48)) : Nat) : Int)) := crcZ_strN _ (bodyL_isL _ _ _ _ _) (by omega)
    have hc := M.crcN_lt ((bodyL e i r d.toNat l).map (fun x => x - 48))
    have HP : Hid (strN (bodyL e i r d.toNat l) ++ strN (M.num (M.crcN ((bodyL e i r d.toNat l).map (fun x => x - 48))) 15) = strN (plainL e i r d.toNat l)) := by rw [strN_append]; exact rfl
    have hpl := plainL_length e i r d.toNat l
    have hpl' : (plainL e i r d.toNat l).length ≤ 200 := by rw [hpl]; split <;> omega
    have HS : Hid (stuffZ (strN (plainL e i r d.toNat l)) = strN (M.stuffL (plainL e i r d.toNat l))) := stuffZ_strN _ (plainL_isL _ _ _ _ _) (by omega)
    have hst : (strN (M.stuffL (plainL e i r d.toNat l))).size ≤ 400 := by rw [strN_size]; have := M.stuff_len (plainL e i r d.toNat l); omega
    have HT : Hid (strN (M.stuffL (plainL e i r d.toNat l)) ++ strN (List.replicate 10 49) = strN (M.stuffL (plainL e i r d.toNat l) ++ List.replicate 10 49)) := strN_append _ _
    have hbs : (strN (bodyL e i r d.toNat l)).size ≤ 200 := by rw [strN_size]; exact hbl'
    have hps : (strN (plainL e i r d.toNat l)).size ≤ 200 := by rw [strN_size]; exact hpl'
    clear hv hbl hbl' hpl hpl' hlen
    generalize M.crcN ((bodyL e i r d.toNat l).map (fun x => x - 48)) = c at *
    generalize strN (M.stuffL (plainL e i r d.toNat l)) = ss at *
    generalize strN (plainL e i r d.toNat l) = ps at *
    generalize strN (bodyL e i r d.toNat l) = bs at *
    go_enter Tryz.func16, Tryz.ntmps16
    go_wp2_with fail
    refine (specValid_any _ e i r d a n cap).mono ?_
    rw [HV.out]
    rintro o w1 ⟨rfl, hb1⟩
    have hB1 : Below w.heap.size w w1 := HW.out.1.trans (hb1.mono (by simp))
    have hx1 := box_below HW.out.2 hb1 (by simp)
    have hc1 := frC_cells hx1
    clear hb1 hx1
    go_wp2_with fail
    refine (specBody_any _ e i r d a n cap l (HH.out.below hB1)).mono ?_
    rw [HBZ.out]
    rintro o w2 ⟨rfl, hb2⟩
    have hB2 := hB1.trans (hb2.mono hB1.size)
    clear hb2 hB1 hc1
    go_wp2_with fail
    refine (specCrc_any _ _ (by unfold maxLen; omega)).mono ?_
    rw [HC.out]
    rintro o w3 ⟨rfl, hb3⟩
    have hB3 := hB2.trans (hb3.mono hB2.size)
    clear hb3 hB2
    have hs15 : (strN (M.num c 15)).size ≤ 15 := by rw [strN_size, M.num_length]; omega
    go_wp2_with fail
    refine (num_e15 c _ (by omega)).mono ?_
    rintro o w4 ⟨rfl, rfl⟩
    go_wp2_with fail
    rw [HP.out]
    refine (specStuff_any _ _ (by unfold maxLen; omega)).mono ?_
    rw [HS.out]
    rintro o w5 ⟨rfl, hb5⟩
    have hB5 := hB3.trans (hb5.mono hB3.size)
    go_wp2
    go_ret
    exact ⟨ret_str (by rw [HZ.out, ← HT.out, ← tail_eq]), hB5⟩
  · have hv' : validB e i r d n = false := by simpa using hv
    have HZ : Hid (encZ e i r d n l = ⟨#[]⟩) := by simp [encZ, hv', Hid]
    have HV : Hid (validB e i r d n = false) := hv'
    clear hv hv' hlen
    go_enter Tryz.func16, Tryz.ntmps16
    go_wp2_with (first | (go_at_call 13; refine (specValid_any _ e i r d a n cap).mono ?_; rw [HV.out]; rintro o w1 ⟨rfl, hb1⟩))
    go_ret
    exact ⟨ret_str HZ.out.symm, HW.out.1.trans (hb1.mono (by simp))⟩
/-- what is known of a frame behind the bits walked so far -/
structure Wk where
  field : Nat
  taken : Nat
  last : Nat × Nat
  sum : Nat
  crc : Nat
  ext : Bool
  id : Nat
  rtr : Bool
  dlc : Nat
  data : List Nat
  code : Nat
namespace Wk
def due (k : Wk) : Bool := decide (k.field ≤ 11) && decide (k.last.2 = 5)
def crcOk (k : Wk) : Bool := decide (10 < k.field) && decide (k.crc = k.sum)
def form (good : Bool) : Nat := if good = true then 0 else 4
def eofCode (k : Wk) (bit : Nat) : Nat :=
  if k.field = 14 ∧ k.taken = 6 then (if bit = 0 then 6 else 2)
  else if k.field = 14 ∧ k.taken = 5 ∧ bit = 1 then 1 else form (decide (bit = 1))
def plainCode (k : Wk) (bit : Nat) : Nat :=
  if k.field = 1 then form (decide (bit = 0))
  else if k.field = 11 then form (decide (bit = 1))
  else if k.field = 13 then (if bit = 1 ∧ k.crcOk = false then 5 else form (decide (bit = 1)))
  else if k.field = 14 then k.eofCode bit else 0
def dlen (k : Wk) : Nat := if k.rtr = true then 0 else min k.dlc 8
def fsize (k : Wk) (f : Nat) : Nat :=
  if f = 2 then 11 else if f = 5 then 18 else if f = 7 then (if k.ext = true then 2 else 1) else if f = 8 then 4 else if f = 9 then 8 * k.dlen else if f = 10 then 15 else if f = 14 then 7 else 1
def fafter (k : Wk) (f : Nat) : Nat :=
  if f = 4 ∧ k.ext = false then 7 else if f = 8 ∧ k.dlen = 0 then 10 else f + 1
end Wk
/-- what a method of the walk leaves: all below B, and every block that is neither b nor a row of letters -/
structure kept (B b : Nat) (w w' : World) : Prop where
  bel : Below B w w'
  oth : Lib.OthersKept 5 (some b) w w'
theorem kept.refl (B b : Nat) (w : World) : kept B b w w := ⟨Below.refl _ _, Lib.OthersKept.refl _ _ _⟩
theorem kept.trans {B b : Nat} {w w1 w2 : World} (h : kept B b w w1) (k : kept B b w1 w2) : kept B b w w2 := ⟨h.bel.trans k.bel, h.oth.trans k.oth⟩
theorem kept.set {B b : Nat} {w w1 : World} (h : kept B b w w1) (hB : B ≤ b) (j : Nat) (x : Value) : kept B b w (w1.setCell ⟨b, j, none⟩ x) :=
  ⟨h.bel.setCell (by exact hB) x, h.oth.setCell ⟨b, j, none⟩ rfl x⟩
theorem kept.drewN {B b : Nat} {w w1 : World} (h : kept B b w w1) (q : Nat) : kept B b w (w1.drewN q) := ⟨below_drewN h.bel q, h.oth⟩
theorem kept.alloc {B b : Nat} {w w1 : World} (h : kept B b w w1) (hB : B ≤ w1.heap.size) (o : Obj) : kept B b w (w1.alloc o) := ⟨h.bel.alloc hB o, h.oth.alloc o⟩
/-- one bit more of the data -/
def keepD (data : List Nat) (taken bit : Nat) : List Nat :=
  if taken % 8 = 0 then data ++ [bit] else data.set (data.length - 1) (2 * data.getD (data.length - 1) 0 % 256 + bit)
theorem ownsB.stored {w : World} {B g cap : Nat} {l : List Nat} (h : ownsB w B (.slice (some ⟨g, 0, none⟩) l.length cap) l) (j x : Nat) : ownsB (w.setCell ⟨g, j, none⟩ (.int .u8 (x : Int))) B (.slice (some ⟨g, 0, none⟩) l.length cap) (l.set j x) := by
  have := (World.ownsRow.stored h j (.int .u8 (x : Int))).1
  unfold ownsB
  have e : bv (l.set j x) = (bv l).set j (.int .u8 (x : Int)) := by simp [bv, List.map_set]
  rw [e, List.length_set]
  exact this
theorem kept.row {B b g : Nat} {w w1 : World} (h : kept B b w w1) (hB : B ≤ g) (hg : ∃ c fz, w1.heap[g]? = some (.cells c 5 fz)) (j : Nat) (x : Value) : kept B b w (w1.setCell ⟨g, j, none⟩ x) := by
  refine ⟨h.bel.setCell (by exact hB) x, fun i o hi hb ho => ?_⟩
  have h1 := h.oth i o hi hb ho
  rw [heap_setCell_other w1 ⟨g, j, none⟩ i x (fun e => ?_)]
  · exact h1
  · obtain ⟨c, fz, hc⟩ := hg
    have e' : i = g := e
    rw [e', hc] at h1
    exact ho c fz (Option.some.inj h1).symm
end Go.Proofs.YtpknchjjfiiaeaaGreatDoor.J
