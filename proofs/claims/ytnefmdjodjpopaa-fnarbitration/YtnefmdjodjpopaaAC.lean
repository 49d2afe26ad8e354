import Derived.Test.YtnefmdjodjpopaaAA
namespace Go.Proofs.Ytnefmdjodjpopaa
open Go.RowKit

theorem lt_strN (l : List Nat) (h : ∀ x ∈ l, x < 256) : lt (strN l) = l := by
  unfold lt strN
  simp only [List.map_map]
  conv => rhs; rw [← List.map_id l]
  apply List.map_congr_left
  intro x hx
  have := h x hx
  simp; omega
theorem bl_strN (l : List Nat) (h : ∀ x ∈ l, x < 256) : bl (strN l) = l.map (fun x => x - 48) := by
  have : bl (strN l) = (lt (strN l)).map (fun x => x - 48) := by unfold bl lt; simp
  rw [this, lt_strN l h]
theorem okT_strN (l : List Nat) (m : Int) (h : ∀ x ∈ l, M.isL x) (hm : (l.length : Int) ≤ m) : okT (strN l) m = true := by
  unfold okT
  rw [Bool.and_eq_true, decide_eq_true_iff, strN_size]
  refine ⟨hm, ?_⟩
  rw [List.all_eq_true]
  intro c hc
  unfold strN at hc
  simp at hc
  obtain ⟨x, hx, rfl⟩ := hc
  rcases h x hx with rfl | rfl <;> rfl
theorem stuffZ_strN (l : List Nat) (h : ∀ x ∈ l, M.isL x) (hm : l.length ≤ 2000) : stuffZ (strN l) = strN (M.stuffL l) := by
  unfold stuffZ
  rw [if_pos (okT_strN l 2000 h (by omega)), lt_strN l (isL_lt h)]
theorem crcZ_strN (l : List Nat) (h : ∀ x ∈ l, M.isL x) (hm : l.length ≤ 2000) : crcZ (strN l) = ((M.crcN (l.map (fun x => x - 48)) : Nat) : Int) := by
  unfold crcZ
  rw [if_pos (okT_strN l 2000 h (by omega)), bl_strN l (isL_lt h)]
/-- the plain letters of an image: body and sum -/
def plainL (e : Bool) (i : Nat) (r : Bool) (d : Nat) (l : List Nat) : List Nat :=
  bodyL e i r d l ++ M.num (M.crcN ((bodyL e i r d l).map (fun x => x - 48))) 15
/-- what Encode answers -/
def encZ (e : Bool) (i : Nat) (r : Bool) (d : Int) (n : Nat) (l : List Nat) : ByteArray :=
  if validB e i r d n = true then strN (M.stuffL (plainL e i r d.toNat l) ++ List.replicate 10 49) else ⟨#[]⟩
theorem plainL_isL (e : Bool) (i : Nat) (r : Bool) (d : Nat) (l : List Nat) : ∀ x ∈ plainL e i r d l, M.isL x := by
  intro x hx
  unfold plainL at hx
  rw [List.mem_append] at hx
  rcases hx with hx | hx
  · exact bodyL_isL e i r d l x hx
  · exact M.num_isL _ _ x hx
theorem plainL_length (e : Bool) (i : Nat) (r : Bool) (d : Nat) (l : List Nat) : (plainL e i r d l).length = (if e = true then 54 else 34) + 8 * l.length := by
  unfold plainL
  rw [List.length_append, bodyL_length, M.num_length]
  cases e <;> simp <;> omega

set_option maxHeartbeats 1000000 in
set_option maxRecDepth 20000 in
theorem encode_any (w : World) (e : Bool) (i : Nat) (r : Bool) (d : Int) (a : Option Addr) (n cap : Nat) (l : List Nat) (h : isBytes w a n cap l) :
    Calls Try.prog 36 #[frV e i r d a n cap] w fun o w' => o = .returned (.string (encZ e i r d n l)) ∧ Below w.heap.size w w' := by
  have HH : Hid (isBytes w a n cap l) := h
  have HW : Hid (Below w.heap.size w (w.alloc (frC e i r d a n cap 33)) ∧ (w.alloc (frC e i r d a n cap 33)).heap[w.heap.size]? = some (frC e i r d a n cap 33)) := ⟨(Below.refl _ _).alloc (Nat.le_refl _) _, heap_alloc_new w _⟩
  have hlen := h.len
  clear h
  by_cases hv : validB e i r d n = true
  · have hn8 := (validB_true hv).2.2.2.2
    have HZ : Hid (encZ e i r d n l = strN (M.stuffL (plainL e i r d.toNat l) ++ List.replicate 10 49)) := by simp [encZ, hv, Hid]
    have HBZ : Hid (bodyZ e i r d n l = strN (bodyL e i r d.toNat l)) := by simp [bodyZ, hv, Hid]
    have HV : Hid (validB e i r d n = true) := hv
    have hbl := bodyL_length e i r d.toNat l
    have hbl' : (bodyL e i r d.toNat l).length ≤ 200 := by rw [hbl]; split <;> omega
    have HC : Hid (crcZ (strN (bodyL e i r d.toNat l)) = ((M.crcN ((bodyL e i r d.toNat l).map (fun x => x - 48)) : Nat) : Int)) := crcZ_strN _ (bodyL_isL _ _ _ _ _) (by omega)
    have hc := M.crcN_lt ((bodyL e i r d.toNat l).map (fun x => x - 48))
    have HP : Hid (strN (bodyL e i r d.toNat l) ++ strN (M.num (M.crcN ((bodyL e i r d.toNat l).map (fun x => x - 48))) 15) = strN (plainL e i r d.toNat l)) := by rw [strN_append]; exact rfl
    have hpl := plainL_length e i r d.toNat l
    have hpl' : (plainL e i r d.toNat l).length ≤ 200 := by rw [hpl]; split <;> omega
    have HS : Hid (stuffZ (strN (plainL e i r d.toNat l)) = strN (M.stuffL (plainL e i r d.toNat l))) := stuffZ_strN _ (plainL_isL _ _ _ _ _) (by omega)
    have hst : (strN (M.stuffL (plainL e i r d.toNat l))).size ≤ 400 := by rw [strN_size]; have := M.stuff_len (plainL e i r d.toNat l); omega
    have HT : Hid (strN (M.stuffL (plainL e i r d.toNat l)) ++ strN (List.replicate 10 49) = strN (M.stuffL (plainL e i r d.toNat l) ++ List.replicate 10 49)) := strN_append _ _
    have hbs : (strN (bodyL e i r d.toNat l)).size ≤ 200 := by rw [strN_size]; exact hbl'
    clear hv hbl hbl' hpl hpl' hlen
    generalize M.crcN ((bodyL e i r d.toNat l).map (fun x => x - 48)) = c at *
    generalize strN (M.stuffL (plainL e i r d.toNat l)) = ss at *
    generalize strN (plainL e i r d.toNat l) = ps at *
    generalize strN (bodyL e i r d.toNat l) = bs at *
    go_enter Try.func36, Try.ntmps36
    go_wp2_with fail
    refine (valid_any _ e i r d a n cap l (HH.out.below HW.out.1)).mono ?_
    rw [HV.out]
    rintro o w1 ⟨rfl, hb1⟩
    have hB1 : Below w.heap.size w w1 := HW.out.1.trans (hb1.mono (by simp))
    have hx1 := box_below HW.out.2 hb1 (by simp)
    have hc1 := frC_cells hx1
    clear hb1 hx1
    go_wp2_with fail
    refine (body_any _ e i r d a n cap l (HH.out.below hB1)).mono ?_
    rw [HBZ.out]
    rintro o w2 ⟨rfl, hb2⟩
    have hB2 := hB1.trans (hb2.mono hB1.size)
    clear hb2 hB1 hc1
    go_wp2_with fail
    refine (crc15_any _ _).mono ?_
    rw [HC.out]
    rintro o w3 ⟨rfl, hb3⟩
    have hB3 := hB2.trans (hb3.mono hB2.size)
    clear hb3 hB2
    go_wp2_with fail
    refine (appendBits_any _ w3.heap.size _ [] c 15 (ownsB_nil w3 _) (Nat.le_refl _) (by simp) (by omega) (by omega)).mono ?_
    rintro o w4 ⟨v4, rfl, ho4, hb4, _⟩
    rw [List.nil_append] at ho4
    have hB4 := hB3.trans (hb4.mono hB3.size)
    have hcv := conv_own ho4 (isL_lt (M.num_isL _ _))
    have hs15 : (strN (M.num c 15)).size ≤ 15 := by rw [strN_size, M.num_length]; omega
    clear hb4 hB3 ho4
    go_wp2_with fail
    rw [HP.out]
    refine (stuff_any _ _).mono ?_
    rw [HS.out]
    rintro o w5 ⟨rfl, hb5⟩
    have hB5 := hB4.trans (hb5.mono hB4.size)
    clear hcv
    go_wp2
    go_ret
    exact ⟨ret_str (by rw [HZ.out, ← HT.out]; rfl), hB5⟩
  · have hv' : validB e i r d n = false := by simpa using hv
    have HZ : Hid (encZ e i r d n l = ⟨#[]⟩) := by simp [encZ, hv', Hid]
    have HV : Hid (validB e i r d n = false) := hv'
    clear hv hv' hlen
    go_enter Try.func36, Try.ntmps36
    go_wp2_with (first | (go_at_call 25; refine (valid_any _ e i r d a n cap l (HH.out.below HW.out.1)).mono ?_; rw [HV.out]; rintro o w1 ⟨rfl, hb1⟩))
    go_ret
    exact ⟨ret_str HZ.out.symm, HW.out.1.trans (hb1.mono (by simp))⟩
theorem num_e15 (v : Nat) (w : World) (hv : v < 4611686018427387904) : Calls Try.prog 62 #[.int .i64 (v : Int), .int .i64 15] w fun o w' => o = .returned (.string (strN (M.num v 15))) ∧ w = w' := num_any 15 v w (by omega) hv
theorem tail_eq (s : ByteArray) : s ++ { data := #[49] } ++ { data := #[49] } ++ { data := #[49] } ++ { data := #[49, 49, 49, 49, 49, 49, 49] } = s ++ strN (List.replicate 10 49) := by
  apply ByteArray.ext
  simp [strN]
set_option maxHeartbeats 1000000 in
set_option maxRecDepth 20000 in
theorem specEncode_any (w : World) (e : Bool) (i : Nat) (r : Bool) (d : Int) (a : Option Addr) (n cap : Nat) (l : List Nat) (h : isBytes w a n cap l) :
    Calls Try.prog 41 #[frV e i r d a n cap] w fun o w' => o = .returned (.string (encZ e i r d n l)) ∧ Below w.heap.size w w' := by
  have HH : Hid (isBytes w a n cap l) := h
  have HW : Hid (Below w.heap.size w (w.alloc (frC e i r d a n cap 33)) ∧ (w.alloc (frC e i r d a n cap 33)).heap[w.heap.size]? = some (frC e i r d a n cap 33)) := ⟨(Below.refl _ _).alloc (Nat.le_refl _) _, heap_alloc_new w _⟩
  have hlen := h.len
  clear h
  by_cases hv : validB e i r d n = true
  · have hn8 := (validB_true hv).2.2.2.2
    have HZ : Hid (encZ e i r d n l = strN (M.stuffL (plainL e i r d.toNat l) ++ List.replicate 10 49)) := by simp [encZ, hv, Hid]
    have HBZ : Hid (bodyZ e i r d n l = strN (bodyL e i r d.toNat l)) := by simp [bodyZ, hv, Hid]
    have HV : Hid (validB e i r d n = true) := hv
    have hbl := bodyL_length e i r d.toNat l
    have hbl' : (bodyL e i r d.toNat l).length ≤ 200 := by rw [hbl]; split <;> omega
    have HC : Hid (crcZ (strN (bodyL e i r d.toNat l)) = ((M.crcN ((bodyL e i r d.toNat l).map (fun x => x - 48)) : Nat) : Int)) := crcZ_strN _ (bodyL_isL _ _ _ _ _) (by omega)
    have hc := M.crcN_lt ((bodyL e i r d.toNat l).map (fun x => x - 48))
    have HP : Hid (strN (bodyL e i r d.toNat l) ++ strN (M.num (M.crcN ((bodyL e i r d.toNat l).map (fun x => x - 48))) 15) = strN (plainL e i r d.toNat l)) := by rw [strN_append]; exact rfl
    have hpl := plainL_length e i r d.toNat l
    have hpl' : (plainL e i r d.toNat l).length ≤ 200 := by rw [hpl]; split <;> omega
    have HS : Hid (stuffZ (strN (plainL e i r d.toNat l)) = strN (M.stuffL (plainL e i r d.toNat l))) := stuffZ_strN _ (plainL_isL _ _ _ _ _) (by omega)
    have hst : (strN (M.stuffL (plainL e i r d.toNat l))).size ≤ 400 := by rw [strN_size]; have := M.stuff_len (plainL e i r d.toNat l); omega
    have HT : Hid (strN (M.stuffL (plainL e i r d.toNat l)) ++ strN (List.replicate 10 49) = strN (M.stuffL (plainL e i r d.toNat l) ++ List.replicate 10 49)) := strN_append _ _
    have hbs : (strN (bodyL e i r d.toNat l)).size ≤ 200 := by rw [strN_size]; exact hbl'
    have hps : (strN (plainL e i r d.toNat l)).size ≤ 200 := by rw [strN_size]; exact hpl'
    clear hv hbl hbl' hpl hpl' hlen
    generalize M.crcN ((bodyL e i r d.toNat l).map (fun x => x - 48)) = c at *
    generalize strN (M.stuffL (plainL e i r d.toNat l)) = ss at *
    generalize strN (plainL e i r d.toNat l) = ps at *
    generalize strN (bodyL e i r d.toNat l) = bs at *
    go_enter Try.func41, Try.ntmps41
    go_wp2_with fail
    refine (specValid_any _ e i r d a n cap).mono ?_
    rw [HV.out]
    rintro o w1 ⟨rfl, hb1⟩
    have hB1 : Below w.heap.size w w1 := HW.out.1.trans (hb1.mono (by simp))
    have hx1 := box_below HW.out.2 hb1 (by simp)
    have hc1 := frC_cells hx1
    clear hb1 hx1
    go_wp2_with fail
    refine (specBody_any _ e i r d a n cap l (HH.out.below hB1)).mono ?_
    rw [HBZ.out]
    rintro o w2 ⟨rfl, hb2⟩
    have hB2 := hB1.trans (hb2.mono hB1.size)
    clear hb2 hB1 hc1
    go_wp2_with fail
    refine (specCrc_any _ _ (by unfold maxLen; omega)).mono ?_
    rw [HC.out]
    rintro o w3 ⟨rfl, hb3⟩
    have hB3 := hB2.trans (hb3.mono hB2.size)
    clear hb3 hB2
    have hs15 : (strN (M.num c 15)).size ≤ 15 := by rw [strN_size, M.num_length]; omega
    go_wp2_with fail
    refine (num_e15 c _ (by omega)).mono ?_
    rintro o w4 ⟨rfl, rfl⟩
    go_wp2_with fail
    rw [HP.out]
    refine (specStuff_any _ _ (by unfold maxLen; omega)).mono ?_
    rw [HS.out]
    rintro o w5 ⟨rfl, hb5⟩
    have hB5 := hB3.trans (hb5.mono hB3.size)
    go_wp2
    go_ret
    exact ⟨ret_str (by rw [HZ.out, ← HT.out, ← tail_eq]), hB5⟩
  · have hv' : validB e i r d n = false := by simpa using hv
    have HZ : Hid (encZ e i r d n l = ⟨#[]⟩) := by simp [encZ, hv', Hid]
    have HV : Hid (validB e i r d n = false) := hv'
    clear hv hv' hlen
    go_enter Try.func41, Try.ntmps41
    go_wp2_with (first | (go_at_call 23; refine (specValid_any _ e i r d a n cap).mono ?_; rw [HV.out]; rintro o w1 ⟨rfl, hb1⟩))
    go_ret
    exact ⟨ret_str HZ.out.symm, HW.out.1.trans (hb1.mono (by simp))⟩
end Go.Proofs.Ytnefmdjodjpopaa
