import Derived.Test.YtnefmdjodjpopaaAW
namespace Go.Proofs.Ytnefmdjodjpopaa
open Go.RowKit

/-- where the plain letters' head ends, and where their body ends -/
def layH (l : List Nat) : Nat := if l.getD 13 0 = 49 then 39 else 19
def layR (l : List Nat) : Bool := if l.getD 13 0 = 49 then decide (l.getD 32 0 = 49) else decide (l.getD 12 0 = 49)
def layN (l : List Nat) : Nat := if layR l = true then 0 else min (valL ((l.drop (layH l - 4)).take 4)) 8
def layL (l : List Nat) : Nat × Nat :=
  if l.length < 14 then (0, 0) else if l.length < layH l then (layH l, 0) else (layH l, layH l + 8 * layN l)
theorem isBytes.sub {w : World} {g off n cap : Nat} {l : List Nat} (h : isBytes w (some ⟨g, off, none⟩) n cap l) (i m c : Nat) (him : i + m ≤ l.length) (hm : 0 < m) (hc : m ≤ c) : isBytes w (some ⟨g, off + i, none⟩) m c ((l.drop i).take m) := by
  have hl : ((l.drop i).take m).length = m := by rw [List.length_take, List.length_drop]; omega
  refine ⟨hl.symm, hc, fun x hx => h.small x (List.mem_of_mem_drop (List.mem_of_mem_take hx)), fun _ => ⟨g, off + i, rfl, fun j hj => ?_⟩⟩
  rw [hl] at hj
  obtain ⟨g', off', e, hcc⟩ := h.cells (by intro e; rw [e] at him; simp at him; omega)
  cases e
  rw [List.getElem_take, List.getElem_drop, Nat.add_assoc]
  exact hcc (i + j) (by omega)
theorem isBytes.at {w : World} {g off n cap : Nat} {l : List Nat} (h : isBytes w (some ⟨g, off, none⟩) n cap l) (i : Nat) (hi : i < l.length) : w.cell? ⟨g, off + i, none⟩ = some (.int .u8 (l.getD i 0 : Nat)) := by
  obtain ⟨g', off', e, hcc⟩ := h.cells (by intro e; rw [e] at hi; simp at hi)
  cases e
  have e : l.getD i 0 = l[i] := by simp [hi]
  rw [e]
  exact hcc i hi
theorem val4_lt (l : List Nat) : valL (l.take 4) < 16 := by
  have h1 := valL_lt (l.take 4)
  have h2 : (l.take 4).length ≤ 4 := by rw [List.length_take]; omega
  exact Nat.lt_of_lt_of_le h1 (Nat.le_trans (Nat.pow_le_pow_right (by decide) h2) (by decide))
/-- l1val of four letters of a row -/
theorem l1val4 (w : World) {l : List Nat} (h : ∀ x ∈ l, x < 256) (i : Nat) : Calls Try.prog 82 #[.string (strN ((l.drop i).take 4))] w fun e w' => e = .returned (.int .i64 (valL ((l.drop i).take 4) : Nat)) ∧ w = w' := by
  have hs : ∀ x ∈ (l.drop i).take 4, x < 256 := fun x hx => h x (List.mem_of_mem_drop (List.mem_of_mem_take hx))
  have hz : (strN ((l.drop i).take 4)).size ≤ 40 := by
    have e : (strN ((l.drop i).take 4)).size = ((l.drop i).take 4).length := by simp [strN, ByteArray.size]
    rw [e, List.length_take]; omega
  have := l1val_any (strN ((l.drop i).take 4)) w hz
  rw [lt_strN _ hs] at this
  exact this
set_option maxHeartbeats 2000000 in
set_option maxRecDepth 20000 in
theorem l1lay_19 (w : World) (g off n cap : Nat) (l : List Nat) (h : isBytes w (some ⟨g, off, none⟩) n cap l) (hn : l.length ≤ 100000) (h14 : ¬ l.length < 14) (h13 : layH l = 19) :
    Calls Try.prog 81 #[.slice (some ⟨g, off, none⟩) n cap] w fun e w' => e = .returned (.tuple #[.int .i64 ((layL l).1 : Nat), .int .i64 ((layL l).2 : Nat)]) ∧ w = w' := by
  have hlen := h.len
  have hcap := h.cap
  subst hlen
  have c13 := h.at 13 (by omega)
  have c12 := h.at 12 (by omega)
  have e13 : ((l.getD 13 0 : Int) == 49) = false := by
    unfold layH at h13
    split at h13 <;> simp_all <;> omega
  have h14' : ¬ (l.length : Int) < 14 := by omega
  by_cases hh : l.length < 19
  · have hh' : (l.length : Int) < 19 := by omega
    have HL : Hid (layL l = (19, 0)) := by unfold Hid layL; rw [if_neg h14, h13, if_pos hh]
    clear h h13 hh h14 c12 hn
    generalize l.getD 13 0 = x13 at *
    generalize l.length = n at *
    go_enter Try.func81, Try.ntmps81
    go_wp2
    go_ret2
    exact ⟨by rw [HL.out]; rfl, rfl⟩
  · have hh' : ¬ (l.length : Int) < 19 := by omega
    have c32 := h.at 12 (by omega)
    have hcv := convB (h.sub 15 4 (cap - 15) (by omega) (by decide) (by omega))
    have HV : Hid (∀ w, Calls Try.prog 82 #[.string (strN ((l.drop 15).take 4))] w fun e w' => e = .returned (.int .i64 (valL ((l.drop 15).take 4) : Nat)) ∧ w = w') := fun w => l1val4 w h.small 15
    have hv16 := val4_lt (l.drop 15)
    have HL : Hid (layL l = (19, 19 + 8 * (if l.getD 12 0 = 49 then 0 else min (valL ((l.drop 15).take 4)) 8))) := by
      unfold Hid layL layN layR
      rw [if_neg h14, h13, if_neg hh]
      unfold layH at h13
      split at h13 <;> simp_all
    clear h h13 hh h14 hn
    generalize l.drop 15 = l4 at *
    generalize l.getD 13 0 = x13 at *
    generalize strN (l4.take 4) = t4 at *
    generalize valL (l4.take 4) = v4 at *
    generalize l.getD 12 0 = xr at *
    by_cases hr : xr = 49
    · have hr' : ((xr : Int) == 49) = true := by simp; omega
      have HL' : Hid (layL l = (19, 19)) := by unfold Hid; rw [HL.out, if_pos hr]
      clear HL hr
      generalize l.length = n at *
      by_cases h8 : (v4 : Int) > 8
      · go_enter Try.func81, Try.ntmps81
        go_wp2_with (go_at_call 82; refine (HV.out _).mono ?_; rintro e w1 ⟨rfl, rfl⟩)
        go_ret2
        exact ⟨by rw [HL'.out]; rfl, rfl⟩
      · go_enter Try.func81, Try.ntmps81
        go_wp2_with (go_at_call 82; refine (HV.out _).mono ?_; rintro e w1 ⟨rfl, rfl⟩)
        go_ret2
        exact ⟨by rw [HL'.out]; rfl, rfl⟩
    · have hr' : ((xr : Int) == 49) = false := by simp; omega
      by_cases h8 : (v4 : Int) > 8
      · have HL' : Hid (layL l = (19, 19 + 64)) := by unfold Hid; rw [HL.out, if_neg hr, Nat.min_eq_right (by omega)]
        clear HL hr
        generalize l.length = n at *
        go_enter Try.func81, Try.ntmps81
        go_wp2_with (go_at_call 82; refine (HV.out _).mono ?_; rintro e w1 ⟨rfl, rfl⟩)
        go_ret2
        exact ⟨by rw [HL'.out]; rfl, rfl⟩
      · have HL' : Hid (layL l = (19, 19 + 8 * v4)) := by unfold Hid; rw [HL.out, if_neg hr, Nat.min_eq_left (by omega)]
        clear HL hr
        generalize l.length = n at *
        go_enter Try.func81, Try.ntmps81
        go_wp2_with (go_at_call 82; refine (HV.out _).mono ?_; rintro e w1 ⟨rfl, rfl⟩)
        go_ret2
        exact ⟨by rw [HL'.out]; simp, rfl⟩
set_option maxHeartbeats 2000000 in
set_option maxRecDepth 20000 in
theorem l1lay_39 (w : World) (g off n cap : Nat) (l : List Nat) (h : isBytes w (some ⟨g, off, none⟩) n cap l) (hn : l.length ≤ 100000) (h14 : ¬ l.length < 14) (h13 : layH l = 39) :
    Calls Try.prog 81 #[.slice (some ⟨g, off, none⟩) n cap] w fun e w' => e = .returned (.tuple #[.int .i64 ((layL l).1 : Nat), .int .i64 ((layL l).2 : Nat)]) ∧ w = w' := by
  have hlen := h.len
  have hcap := h.cap
  subst hlen
  have c13 := h.at 13 (by omega)
  have c12 := h.at 12 (by omega)
  have e13 : ((l.getD 13 0 : Int) == 49) = true := by
    unfold layH at h13
    split at h13 <;> simp_all <;> omega
  have h14' : ¬ (l.length : Int) < 14 := by omega
  by_cases hh : l.length < 39
  · have hh' : (l.length : Int) < 39 := by omega
    have HL : Hid (layL l = (39, 0)) := by unfold Hid layL; rw [if_neg h14, h13, if_pos hh]
    clear h h13 hh h14 c12 hn
    generalize l.getD 13 0 = x13 at *
    generalize l.length = n at *
    go_enter Try.func81, Try.ntmps81
    go_wp2
    go_ret2
    exact ⟨by rw [HL.out]; rfl, rfl⟩
  · have hh' : ¬ (l.length : Int) < 39 := by omega
    have c32 := h.at 32 (by omega)
    have hcv := convB (h.sub 35 4 (cap - 35) (by omega) (by decide) (by omega))
    have HV : Hid (∀ w, Calls Try.prog 82 #[.string (strN ((l.drop 35).take 4))] w fun e w' => e = .returned (.int .i64 (valL ((l.drop 35).take 4) : Nat)) ∧ w = w') := fun w => l1val4 w h.small 35
    have hv16 := val4_lt (l.drop 35)
    have HL : Hid (layL l = (39, 39 + 8 * (if l.getD 32 0 = 49 then 0 else min (valL ((l.drop 35).take 4)) 8))) := by
      unfold Hid layL layN layR
      rw [if_neg h14, h13, if_neg hh]
      unfold layH at h13
      split at h13 <;> simp_all
    clear h h13 hh h14 hn
    generalize l.drop 35 = l4 at *
    generalize l.getD 13 0 = x13 at *
    generalize strN (l4.take 4) = t4 at *
    generalize valL (l4.take 4) = v4 at *
    generalize l.getD 32 0 = xr at *
    generalize l.getD 12 0 = x12 at *
    by_cases hr : xr = 49
    · have hr' : ((xr : Int) == 49) = true := by simp; omega
      have HL' : Hid (layL l = (39, 39)) := by unfold Hid; rw [HL.out, if_pos hr]
      clear HL hr
      generalize l.length = n at *
      by_cases h8 : (v4 : Int) > 8
      · go_enter Try.func81, Try.ntmps81
        go_wp2_with (go_at_call 82; refine (HV.out _).mono ?_; rintro e w1 ⟨rfl, rfl⟩)
        go_ret2
        exact ⟨by rw [HL'.out]; rfl, rfl⟩
      · go_enter Try.func81, Try.ntmps81
        go_wp2_with (go_at_call 82; refine (HV.out _).mono ?_; rintro e w1 ⟨rfl, rfl⟩)
        go_ret2
        exact ⟨by rw [HL'.out]; rfl, rfl⟩
    · have hr' : ((xr : Int) == 49) = false := by simp; omega
      by_cases h8 : (v4 : Int) > 8
      · have HL' : Hid (layL l = (39, 39 + 64)) := by unfold Hid; rw [HL.out, if_neg hr, Nat.min_eq_right (by omega)]
        clear HL hr
        generalize l.length = n at *
        go_enter Try.func81, Try.ntmps81
        go_wp2_with (go_at_call 82; refine (HV.out _).mono ?_; rintro e w1 ⟨rfl, rfl⟩)
        go_ret2
        exact ⟨by rw [HL'.out]; rfl, rfl⟩
      · have HL' : Hid (layL l = (39, 39 + 8 * v4)) := by unfold Hid; rw [HL.out, if_neg hr, Nat.min_eq_left (by omega)]
        clear HL hr
        generalize l.length = n at *
        go_enter Try.func81, Try.ntmps81
        go_wp2_with (go_at_call 82; refine (HV.out _).mono ?_; rintro e w1 ⟨rfl, rfl⟩)
        go_ret2
        exact ⟨by rw [HL'.out]; simp, rfl⟩
end Go.Proofs.Ytnefmdjodjpopaa
