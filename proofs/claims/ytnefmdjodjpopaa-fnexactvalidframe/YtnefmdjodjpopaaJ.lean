import Derived.Test.YtnefmdjodjpopaaH
namespace Go.Proofs.Ytnefmdjodjpopaa
open Go.RowKit

theorem convB {w : World} {a : Option Addr} {n cap : Nat} {l : List Nat} (h : isBytes w a n cap l) : (convert 28 9 (.slice a n cap)).run Try.prog w = .ok (.string (strN l)) w := by
  obtain ⟨rfl, hcap, hsm, hc⟩ := h
  by_cases hl : l = []
  · subst hl
    cases a with
    | none =>
      rw [run_convert_bytes_string w 28 9 5 none _ cap Try.underlying28 Try.underlying5 Try.underlying9]
      rfl
    | some a =>
      have := run_convert_bytes_back (P := Try.prog) w 28 9 5 a cap [] Try.underlying28 Try.underlying5 Try.underlying9 (by intro j hj; simp at hj)
      exact this
  · obtain ⟨g, off, rfl, hcc⟩ := hc hl
    have := run_convert_bytes_back (P := Try.prog) w 28 9 5 ⟨g, off, none⟩ cap (l.map UInt8.ofNat) Try.underlying28 Try.underlying5 Try.underlying9 (by
      intro j hj
      have hj' : j < l.length := by simpa using hj
      have hc := hcc j hj'
      have hx := hsm l[j] (List.getElem_mem hj')
      have e : (UInt8.ofNat l[j]).toNat = l[j] := by simp; omega
      have e2 : (⟨g, off, none⟩ : Addr).add j = ⟨g, off + j, none⟩ := by simp only [Addr.add]; split <;> simp_all
      rw [e2, List.getElem_map, e]
      exact hc)
    rw [List.length_map] at this
    exact this
theorem strN_inj {l m : List Nat} (hl : ∀ x ∈ l, x < 256) (hm : ∀ x ∈ m, x < 256) (h : l.map UInt8.ofNat = m.map UInt8.ofNat) : l = m := by
  have key : ∀ l : List Nat, (∀ x ∈ l, x < 256) → (l.map UInt8.ofNat).map UInt8.toNat = l := by
    intro l hl
    rw [List.map_map]
    conv => rhs; rw [← List.map_id l]
    apply List.map_congr_left
    intro x hx
    have := hl x hx
    simp; omega
  rw [← key l hl, ← key m hm, h]

theorem equal_any (w : World) (a1 a2 : Option Addr) (n1 c1 n2 c2 : Nat) (l1 l2 : List Nat) (h1 : isBytes w a1 n1 c1 l1) (h2 : isBytes w a2 n2 c2 l2) :
    Calls Try.prog 88 #[.slice a1 n1 c1, .slice a2 n2 c2] w fun o w' => o = .returned (.bool (decide (l1 = l2))) ∧ w = w' := by
  have k1 := convB h1
  have k2 := convB h2
  have HE : Hid ((l1.map UInt8.ofNat == l2.map UInt8.ofNat) = decide (l1 = l2)) := by
    unfold Hid
    rw [Bool.eq_iff_iff, beq_iff_eq, decide_eq_true_iff]
    exact ⟨strN_inj h1.small h2.small, fun e => by rw [e]⟩
  clear h1 h2
  go_enter Try.func88, Try.ntmps88
  go_wp2
  go_ret
  exact ⟨ret_bool (by rw [← HE.out]; simp [strN]), rfl⟩
theorem headOf_any (w : World) (e : Bool) (i : Nat) (r : Bool) (d : Int) (a : Option Addr) (n cap : Nat) :
    Calls Try.prog 87 #[frV e i r d a n cap] w fun o w' => o = .returned (.agg #[.bool e, .bool r]) ∧ (w.alloc (frC e i r d a n cap 33)).alloc (.cells #[.bool e, .bool r] 94) = w' := by
  go_enter Try.func87, Try.ntmps87
  go_wp2
  exact bodyPost_ret (v := .agg #[.bool e, .bool r]) (by simp [results, Try.results87, go_sem]) rfl ⟨rfl, rfl⟩
def zeroRow (k : Nat) : Array Value := madeCells #[.int .u8 0] k
theorem zeroRow_at (k t : Nat) (h : t < k) : (zeroRow k)[t]? = some (.int .u8 0) := by
  have := toList_madeCells_one (.int .u8 0) k
  unfold zeroRow
  rw [← Array.getElem?_toList, this, List.getElem?_replicate, if_pos h]
theorem mkz (w : World) (k : Nat) (hk : k ≤ 100000000) : (Instr.makeSlice 28 (.int .i64 (k : Int)) (.int .i64 (k : Int))).run Try.prog w = .ok (.slice (some ⟨w.heap.size, 0, none⟩) k k) (w.alloc (.cells (zeroRow k) 5)) := by
  obtain ⟨i0, hi, hz0, hz1, hz2⟩ := info_parts Try.info5
  have hr := run_make (P := Try.prog) w 28 5 i0 (.int .u8 0) Try.underlying28 hi hz0 .i64 .i64 k k (by omega) (Int.le_refl _) (by rw [hz2]; omega) (by omega)
  simp only [Int.toNat_natCast, hz1, Nat.mul_one] at hr
  exact hr
theorem isBytes_zero (w : World) (k : Nat) : isBytes (w.alloc (.cells (zeroRow k) 5)) (some ⟨w.heap.size, 0, none⟩) k k (List.replicate k 0) := by
  refine ⟨by simp, Nat.le_refl _, fun x hx => by rw [List.mem_replicate] at hx; rw [hx.2]; decide, fun _ => ⟨_, 0, rfl, fun j hj => ?_⟩⟩
  have hj' : j < k := by simpa using hj
  have h1 : (w.alloc (.cells (zeroRow k) 5)).cell? ⟨w.heap.size, 0 + j, none⟩ = (zeroRow k)[0 + j]? := World.cell?_alloc_mark w (zeroRow k) 5 (0, 0) (0 + j)
  rw [h1, Nat.zero_add, zeroRow_at k j hj']
  simp
theorem isBytes_zero' (w : World) (k b : Nat) (hb : w.heap.size = b) : isBytes (w.alloc (.cells (zeroRow k) 5)) (some ⟨b, 0, none⟩) k k (List.replicate k 0) := by
  subst hb; exact isBytes_zero w k
theorem dl_bounds (r : Bool) (d : Int) (h0 : 0 ≤ d) : 0 ≤ dl r d ∧ dl r d ≤ 8 := by
  unfold dl; split
  · omega
  · split <;> omega

set_option maxHeartbeats 2000000 in
set_option maxRecDepth 20000 in
theorem fitted_any (w : World) (e : Bool) (i : Nat) (r : Bool) (d : Int) (a : Option Addr) (n cap : Nat) (l : List Nat) (h : isBytes w a n cap l) (i' : Nat) (d' : Int) (k : Nat)
    (hi' : (if (536870911 : Int) < (i : Int) then (536870911 : Int) else (i : Int)) = (i' : Int)) (hd' : (if (15 : Int) < (if d < 0 then 0 else d) then (15 : Int) else (if d < 0 then 0 else d)) = d') (hk : dl (r && ((n : Int) == 0)) d' = (k : Int)) (hk8 : k ≤ 8) :
    Calls Try.prog 60 #[frV e i r d a n cap] w fun o w' => ∃ a' n' cap' l', o = .returned (frV (e || decide ((2047 : Int) < (i : Int))) i' (r && ((n : Int) == 0)) d' a' n' cap') ∧ isBytes w' a' n' cap' l' ∧ Below w.heap.size w w' ∧ (n = k → l' = l) ∧ (n ≠ k → l' ≠ l) := by
  cases e
  · cases r
    · have HH : Hid (isBytes w a n cap l) := h
      have hlen := h.len
      have HK : Hid (dl false d' = (k : Int)) := hk
      clear h hk
      by_cases hnk : n = k
      · have hb : ((n : Int) != (k : Int)) = false := by simp; omega
        have HN : Hid (n = k) := hnk
        clear hnk hlen
        go_enter Try.func60, Try.ntmps60
        go_wp2_with (first | (go_at_call 89; refine (dataLen_any _ _ _ _ _ _ _ _).mono ?_; rw [HK.out]; rintro o w1 ⟨rfl, rfl⟩))
        all_goals
          refine bodyPost_ret (v := frV (decide ((2047 : Int) < (i : Int))) i' false d' a n cap) (by simp [results, Try.results60, go_sem]) rfl ?_
          have hbl := (((Below.refl w.heap.size w).alloc (Nat.le_refl _) (frC (decide ((2047 : Int) < (i : Int))) i' false d' a n cap 33)).alloc (by simp) (frC (decide ((2047 : Int) < (i : Int))) i' false d' a n cap 33)).alloc (by simp; omega) (frC (decide ((2047 : Int) < (i : Int))) i' false d' a n cap 33)
          exact ⟨_, _, _, rfl, l, HH.out.below hbl, hbl, fun _ => rfl, fun hh => absurd HN.out hh⟩
      · have hb : ((n : Int) != (k : Int)) = true := by simp; omega
        have hne : List.replicate k 0 ≠ l := by intro e; apply hnk; rw [hlen, ← e]; simp
        have HN : Hid (¬ n = k) := hnk
        have HE : Hid (List.replicate k 0 ≠ l) := hne
        have hmk := fun w => mkz w k (by omega)
        clear hnk hlen hne
        go_enter Try.func60, Try.ntmps60
        go_wp2_with (first | (go_at_call 89; refine (dataLen_any _ _ _ _ _ _ _ _).mono ?_; rw [HK.out]; rintro o w1 ⟨rfl, rfl⟩))
        all_goals
          refine bodyPost_ret (v := frV (decide ((2047 : Int) < (i : Int))) i' false d' (some ⟨w.heap.size + 3, 0, none⟩) k k) (by simp [results, Try.results60, go_sem]) rfl ?_
          exact ⟨_, _, _, rfl, List.replicate k 0, isBytes_zero' _ k _ (by simp), ((((Below.refl w.heap.size w).alloc (Nat.le_refl _) _).alloc (by simp) _).alloc (by simp; omega) _).alloc (by simp; omega) _, fun hh => absurd hh HN.out, fun _ => HE.out⟩
    · have HH : Hid (isBytes w a n cap l) := h
      have hlen := h.len
      have HK : Hid (dl ((n : Int) == 0) d' = (k : Int)) := hk
      clear h hk
      by_cases hnk : n = k
      · have hb : ((n : Int) != (k : Int)) = false := by simp; omega
        have HN : Hid (n = k) := hnk
        clear hnk hlen
        go_enter Try.func60, Try.ntmps60
        go_wp2_with (first | (go_at_call 89; refine (dataLen_any _ _ _ _ _ _ _ _).mono ?_; rw [HK.out]; rintro o w1 ⟨rfl, rfl⟩))
        all_goals
          refine bodyPost_ret (v := frV (decide ((2047 : Int) < (i : Int))) i' ((n : Int) == 0) d' a n cap) (by simp [results, Try.results60, go_sem]) rfl ?_
          have hbl := (((Below.refl w.heap.size w).alloc (Nat.le_refl _) (frC (decide ((2047 : Int) < (i : Int))) i' ((n : Int) == 0) d' a n cap 33)).alloc (by simp) (frC (decide ((2047 : Int) < (i : Int))) i' ((n : Int) == 0) d' a n cap 33)).alloc (by simp; omega) (frC (decide ((2047 : Int) < (i : Int))) i' ((n : Int) == 0) d' a n cap 33)
          exact ⟨_, _, _, rfl, l, HH.out.below hbl, hbl, fun _ => rfl, fun hh => absurd HN.out hh⟩
      · have hb : ((n : Int) != (k : Int)) = true := by simp; omega
        have hne : List.replicate k 0 ≠ l := by intro e; apply hnk; rw [hlen, ← e]; simp
        have HN : Hid (¬ n = k) := hnk
        have HE : Hid (List.replicate k 0 ≠ l) := hne
        have hmk := fun w => mkz w k (by omega)
        clear hnk hlen hne
        go_enter Try.func60, Try.ntmps60
        go_wp2_with (first | (go_at_call 89; refine (dataLen_any _ _ _ _ _ _ _ _).mono ?_; rw [HK.out]; rintro o w1 ⟨rfl, rfl⟩))
        all_goals
          refine bodyPost_ret (v := frV (decide ((2047 : Int) < (i : Int))) i' ((n : Int) == 0) d' (some ⟨w.heap.size + 3, 0, none⟩) k k) (by simp [results, Try.results60, go_sem]) rfl ?_
          exact ⟨_, _, _, rfl, List.replicate k 0, isBytes_zero' _ k _ (by simp), ((((Below.refl w.heap.size w).alloc (Nat.le_refl _) _).alloc (by simp) _).alloc (by simp; omega) _).alloc (by simp; omega) _, fun hh => absurd hh HN.out, fun _ => HE.out⟩
  · cases r
    · have HH : Hid (isBytes w a n cap l) := h
      have hlen := h.len
      have HK : Hid (dl false d' = (k : Int)) := hk
      clear h hk
      by_cases hnk : n = k
      · have hb : ((n : Int) != (k : Int)) = false := by simp; omega
        have HN : Hid (n = k) := hnk
        clear hnk hlen
        go_enter Try.func60, Try.ntmps60
        go_wp2_with (first | (go_at_call 89; refine (dataLen_any _ _ _ _ _ _ _ _).mono ?_; rw [HK.out]; rintro o w1 ⟨rfl, rfl⟩))
        all_goals
          refine bodyPost_ret (v := frV true i' false d' a n cap) (by simp [results, Try.results60, go_sem]) rfl ?_
          have hbl := (((Below.refl w.heap.size w).alloc (Nat.le_refl _) (frC true i' false d' a n cap 33)).alloc (by simp) (frC true i' false d' a n cap 33)).alloc (by simp; omega) (frC true i' false d' a n cap 33)
          exact ⟨_, _, _, rfl, l, HH.out.below hbl, hbl, fun _ => rfl, fun hh => absurd HN.out hh⟩
      · have hb : ((n : Int) != (k : Int)) = true := by simp; omega
        have hne : List.replicate k 0 ≠ l := by intro e; apply hnk; rw [hlen, ← e]; simp
        have HN : Hid (¬ n = k) := hnk
        have HE : Hid (List.replicate k 0 ≠ l) := hne
        have hmk := fun w => mkz w k (by omega)
        clear hnk hlen hne
        go_enter Try.func60, Try.ntmps60
        go_wp2_with (first | (go_at_call 89; refine (dataLen_any _ _ _ _ _ _ _ _).mono ?_; rw [HK.out]; rintro o w1 ⟨rfl, rfl⟩))
        all_goals
          refine bodyPost_ret (v := frV true i' false d' (some ⟨w.heap.size + 3, 0, none⟩) k k) (by simp [results, Try.results60, go_sem]) rfl ?_
          exact ⟨_, _, _, rfl, List.replicate k 0, isBytes_zero' _ k _ (by simp), ((((Below.refl w.heap.size w).alloc (Nat.le_refl _) _).alloc (by simp) _).alloc (by simp; omega) _).alloc (by simp; omega) _, fun hh => absurd hh HN.out, fun _ => HE.out⟩
    · have HH : Hid (isBytes w a n cap l) := h
      have hlen := h.len
      have HK : Hid (dl ((n : Int) == 0) d' = (k : Int)) := hk
      clear h hk
      by_cases hnk : n = k
      · have hb : ((n : Int) != (k : Int)) = false := by simp; omega
        have HN : Hid (n = k) := hnk
        clear hnk hlen
        go_enter Try.func60, Try.ntmps60
        go_wp2_with (first | (go_at_call 89; refine (dataLen_any _ _ _ _ _ _ _ _).mono ?_; rw [HK.out]; rintro o w1 ⟨rfl, rfl⟩))
        all_goals
          refine bodyPost_ret (v := frV true i' ((n : Int) == 0) d' a n cap) (by simp [results, Try.results60, go_sem]) rfl ?_
          have hbl := (((Below.refl w.heap.size w).alloc (Nat.le_refl _) (frC true i' ((n : Int) == 0) d' a n cap 33)).alloc (by simp) (frC true i' ((n : Int) == 0) d' a n cap 33)).alloc (by simp; omega) (frC true i' ((n : Int) == 0) d' a n cap 33)
          exact ⟨_, _, _, rfl, l, HH.out.below hbl, hbl, fun _ => rfl, fun hh => absurd HN.out hh⟩
      · have hb : ((n : Int) != (k : Int)) = true := by simp; omega
        have hne : List.replicate k 0 ≠ l := by intro e; apply hnk; rw [hlen, ← e]; simp
        have HN : Hid (¬ n = k) := hnk
        have HE : Hid (List.replicate k 0 ≠ l) := hne
        have hmk := fun w => mkz w k (by omega)
        clear hnk hlen hne
        go_enter Try.func60, Try.ntmps60
        go_wp2_with (first | (go_at_call 89; refine (dataLen_any _ _ _ _ _ _ _ _).mono ?_; rw [HK.out]; rintro o w1 ⟨rfl, rfl⟩))
        all_goals
          refine bodyPost_ret (v := frV true i' ((n : Int) == 0) d' (some ⟨w.heap.size + 3, 0, none⟩) k k) (by simp [results, Try.results60, go_sem]) rfl ?_
          exact ⟨_, _, _, rfl, List.replicate k 0, isBytes_zero' _ k _ (by simp), ((((Below.refl w.heap.size w).alloc (Nat.le_refl _) _).alloc (by simp) _).alloc (by simp; omega) _).alloc (by simp; omega) _, fun hh => absurd hh HN.out, fun _ => HE.out⟩
end Go.Proofs.Ytnefmdjodjpopaa
