import Derived.Test.YtnefmdjodjpopaaY
namespace Go.Proofs.Ytnefmdjodjpopaa
open Go.RowKit

/-- what Arb answers -/
def arbZ (e : Bool) (i : Nat) (r : Bool) (d : Int) (n : Nat) : ByteArray := if validB e i r d n = true then strN (arbL e i r) else ⟨#[]⟩
theorem arbL_isL (e : Bool) (i : Nat) (r : Bool) : ∀ x ∈ arbL e i r, M.isL x := fun x hx => bodyL_isL e i r 0 [] x (by unfold bodyL; simp [hx])
theorem ownsB_nil (w : World) (B : Nat) : ownsB w B (.slice none 0 0) [] := World.ownsRow_nil w B 5 1
theorem strN_mid (l : List Nat) (a b : Nat) : (strN l).extract a b = strN ((l.drop a).take (b - a)) := by
  unfold strN
  apply ByteArray.ext
  simp [ByteArray.data_extract, List.map_drop, List.map_take]
theorem body_arb (e : Bool) (i : Nat) (r : Bool) (d : Nat) (l : List Nat) : ((bodyL e i r d l).drop 1).take (if e = true then 32 else 13) = arbL e i r := by
  have hl : (arbL e i r).length = if e = true then 32 else 13 := by cases e <;> simp [arbL, M.num_length]
  have hb : bodyL e i r d l = [48] ++ (arbL e i r ++ (M.num 0 (1 + e.toNat) ++ M.num d 4 ++ l.flatMap (fun x => M.num x 8))) := by simp [bodyL]
  rw [hb, ← hl]
  simp

set_option maxHeartbeats 1000000 in
set_option maxRecDepth 20000 in
theorem arb_any (w : World) (e : Bool) (i : Nat) (r : Bool) (d : Int) (a : Option Addr) (n cap : Nat) (l : List Nat) (h : isBytes w a n cap l) :
    Calls Try.prog 33 #[frV e i r d a n cap] w fun o w' => o = .returned (.string (arbZ e i r d n)) ∧ Below w.heap.size w w' := by
  have HH : Hid (isBytes w a n cap l) := h
  have HW : Hid (Below w.heap.size w (w.alloc (frC e i r d a n cap 33)) ∧ (w.alloc (frC e i r d a n cap 33)).heap[w.heap.size]? = some (frC e i r d a n cap 33)) := ⟨(Below.refl _ _).alloc (Nat.le_refl _) _, heap_alloc_new w _⟩
  clear h
  by_cases hv : validB e i r d n = true
  · have hi := (validB_true hv).1
    have HZ : Hid (arbZ e i r d n = strN (arbL e i r)) := by simp [arbZ, hv, Hid]
    have HV : Hid (validB e i r d n = true) := hv
    clear hv
    go_enter Try.func33, Try.ntmps33
    go_wp2_with fail
    refine (valid_any _ e i r d a n cap l (HH.out.below HW.out.1)).mono ?_
    rw [HV.out]
    rintro o w1 ⟨rfl, hb1⟩
    have hB1 : Below w.heap.size w w1 := HW.out.1.trans (hb1.mono (by simp))
    have hx1 := box_below HW.out.2 hb1 (by simp)
    have hz1 : w.heap.size < w1.heap.size := lt_of_block hx1
    have hc1 := frC_cells hx1
    clear hb1 hx1
    go_wp2_with fail
    refine (appendArb_any _ w1.heap.size _ [] (ownsB_nil w1 _) (Nat.le_refl _) (by simp) e i r d a n cap (by omega)).mono ?_
    rintro o w2 ⟨v2, rfl, ho2, hb2, _⟩
    rw [List.nil_append] at ho2
    have hcv := conv_own ho2 (isL_lt (arbL_isL e i r))
    generalize arbL e i r = al at *
    go_wp2
    go_ret
    exact ⟨ret_str HZ.out.symm, hB1.trans (hb2.mono (by omega))⟩
  · have hv' : validB e i r d n = false := by simpa using hv
    have HZ : Hid (arbZ e i r d n = ⟨#[]⟩) := by simp [arbZ, hv', Hid]
    have HV : Hid (validB e i r d n = false) := hv'
    clear hv hv'
    go_enter Try.func33, Try.ntmps33
    go_wp2_with (first | (go_at_call 25; refine (valid_any _ e i r d a n cap l (HH.out.below HW.out.1)).mono ?_; rw [HV.out]; rintro o w1 ⟨rfl, hb1⟩))
    go_ret
    exact ⟨ret_str HZ.out.symm, HW.out.1.trans (hb1.mono (by simp))⟩

set_option maxHeartbeats 1000000 in
set_option maxRecDepth 20000 in
theorem specArb_any (w : World) (e : Bool) (i : Nat) (r : Bool) (d : Int) (a : Option Addr) (n cap : Nat) (l : List Nat) (h : isBytes w a n cap l) :
    Calls Try.prog 32 #[frV e i r d a n cap] w fun o w' => o = .returned (.string (arbZ e i r d n)) ∧ Below w.heap.size w w' := by
  have HH : Hid (isBytes w a n cap l) := h
  have HW : Hid (Below w.heap.size w (w.alloc (frC e i r d a n cap 33)) ∧ (w.alloc (frC e i r d a n cap 33)).heap[w.heap.size]? = some (frC e i r d a n cap 33)) := ⟨(Below.refl _ _).alloc (Nat.le_refl _) _, heap_alloc_new w _⟩
  clear h
  by_cases hv : validB e i r d n = true
  · have HZ : Hid (arbZ e i r d n = strN (arbL e i r)) := by simp [arbZ, hv, Hid]
    have HBZ : Hid (bodyZ e i r d n l = strN (bodyL e i r d.toNat l)) := by simp [bodyZ, hv, Hid]
    have HV : Hid (validB e i r d n = true) := hv
    clear hv
    have hsz : (strN (bodyL e i r d.toNat l)).size = (if e = true then 39 else 19) + 8 * l.length := by rw [strN_size, bodyL_length]
    cases e
    · have h33 : 14 ≤ (strN (bodyL false i r d.toNat l)).size := by rw [hsz]; simp; omega
      have HA : Hid ((strN (bodyL false i r d.toNat l)).extract 1 14 = strN (arbL false i r)) := by
        rw [strN_mid]; exact congrArg strN (body_arb false i r d.toNat l)
      clear hsz
      generalize strN (bodyL false i r d.toNat l) = bs at *
      go_enter Try.func32, Try.ntmps32
      go_wp2_with fail
      refine (specValid_any _ _ i r d a n cap).mono ?_
      rw [HV.out]
      rintro o w1 ⟨rfl, hb1⟩
      have hB1 : Below w.heap.size w w1 := HW.out.1.trans (hb1.mono (by simp))
      have hx1 := box_below HW.out.2 hb1 (by simp)
      have hz1 : w.heap.size < w1.heap.size := lt_of_block hx1
      have HX1 : Hid (w1.heap[w.heap.size]? = some (frC false i r d a n cap 33)) := hx1
      have hc1 := frC_cells hx1
      clear hb1 hx1
      go_wp2_with fail
      refine (specBody_any _ _ i r d a n cap l (HH.out.below hB1)).mono ?_
      rw [HBZ.out]
      rintro o w2 ⟨rfl, hb2⟩
      have hc2 := frC_cells (box_below HX1.out hb2 hz1)
      clear hc1
      go_wp2
      go_ret
      exact ⟨ret_str (by rw [HZ.out, HA.out]), hB1.trans (hb2.mono (by omega))⟩
    · have h33 : 33 ≤ (strN (bodyL true i r d.toNat l)).size := by rw [hsz]; simp; omega
      have HA : Hid ((strN (bodyL true i r d.toNat l)).extract 1 33 = strN (arbL true i r)) := by
        rw [strN_mid]; exact congrArg strN (body_arb true i r d.toNat l)
      clear hsz
      generalize strN (bodyL true i r d.toNat l) = bs at *
      go_enter Try.func32, Try.ntmps32
      go_wp2_with fail
      refine (specValid_any _ _ i r d a n cap).mono ?_
      rw [HV.out]
      rintro o w1 ⟨rfl, hb1⟩
      have hB1 : Below w.heap.size w w1 := HW.out.1.trans (hb1.mono (by simp))
      have hx1 := box_below HW.out.2 hb1 (by simp)
      have hz1 : w.heap.size < w1.heap.size := lt_of_block hx1
      have HX1 : Hid (w1.heap[w.heap.size]? = some (frC true i r d a n cap 33)) := hx1
      have hc1 := frC_cells hx1
      clear hb1 hx1
      go_wp2_with fail
      refine (specBody_any _ _ i r d a n cap l (HH.out.below hB1)).mono ?_
      rw [HBZ.out]
      rintro o w2 ⟨rfl, hb2⟩
      have hc2 := frC_cells (box_below HX1.out hb2 hz1)
      clear hc1
      go_wp2
      go_ret
      exact ⟨ret_str (by rw [HZ.out, HA.out]), hB1.trans (hb2.mono (by omega))⟩
  · have hv' : validB e i r d n = false := by simpa using hv
    have HZ : Hid (arbZ e i r d n = ⟨#[]⟩) := by simp [arbZ, hv', Hid]
    have HV : Hid (validB e i r d n = false) := hv'
    clear hv hv'
    go_enter Try.func32, Try.ntmps32
    go_wp2_with (first | (go_at_call 23; refine (specValid_any _ e i r d a n cap).mono ?_; rw [HV.out]; rintro o w1 ⟨rfl, hb1⟩))
    go_ret
    exact ⟨ret_str HZ.out.symm, HW.out.1.trans (hb1.mono (by simp))⟩
end Go.Proofs.Ytnefmdjodjpopaa
