import Derived.Test.YtjmlalojfghkiaaDoorR22
import Derived.Test.YtjmlalojfghkiaaDoorR19
namespace Go.Proofs.YtjmlalojfghkiaaDoor.J
open Go.RowKit
/-- the number that letters stand for -/
def valStep (v c : Nat) : Nat := 2 * v + (if c = 49 then 1 else 0)
def valL (l : List Nat) : Nat := l.foldl valStep 0
theorem valL_snoc (l : List Nat) (c : Nat) : valL (l ++ [c]) = valStep (valL l) c := by unfold valL; rw [List.foldl_append]; rfl
theorem valL_lt (l : List Nat) : valL l < 2 ^ l.length := by
  induction l using M.snoc_ind with
  | h0 => decide
  | h1 l a ih =>
    rw [valL_snoc, List.length_append, List.length_singleton, Nat.pow_succ]
    unfold valStep
    split <;> omega
theorem l1val_any (s : ByteArray) (w : World) (hs : s.size ≤ 40) :
    Calls Tryd.prog 74 #[.string s] w fun e w' => e = .returned (.int .i64 (valL (lt s) : Nat)) ∧ w = w' := by
  have hs' : s.size ≤ maxLen := by unfold maxLen; omega
  go_enter Tryd.func74, Tryd.ntmps74
  go_wp2
  go_loopw [3, 4] (fun v i wr => ∃ k : Nat, k ≤ s.size ∧ i = .int .i64 k ∧ v = .int .i64 (valL ((lt s).take k) : Nat) ∧ wr = w) (fun _ i _ => s.size - (intOf i).toNat)
  case atStart => exact ⟨0, Nat.zero_le _, rfl, rfl, rfl⟩
  case round =>
    obtain ⟨k, hk, rfl, rfl, rfl⟩ := hrel
    by_cases hlt : k < s.size
    · have hb : valL ((lt s).take k) < 1099511627776 := by
        have h1 := valL_lt ((lt s).take k)
        rw [List.length_take, lt_length] at h1
        exact Nat.lt_of_lt_of_le h1 (Nat.le_trans (Nat.pow_le_pow_right (by decide) (show min k s.size ≤ 40 by omega)) (by decide))
      have HS : Hid (valL ((lt s).take (k + 1)) = valStep (valL ((lt s).take k)) s[k].toNat) := by rw [lt_snoc s k hlt, valL_snoc]; exact rfl
      generalize valL ((lt s).take k) = v at *
      by_cases hc : s[k].toNat = 49
      · have HS' : Hid (valL ((lt s).take (k + 1)) = 2 * v + 1) := by rw [HS.out]; unfold valStep; rw [if_pos hc]; exact rfl
        have hc' : ((s[k].toNat : Int) == 49) = true := by simp; omega
        clear HS hc
        go_wp2
        go_roundw
        case rel => exact ⟨k + 1, by omega, by go_num, by rw [HS'.out]; go_num, trivial⟩
        case measure => simp [intOf]; omega
      · have HS' : Hid (valL ((lt s).take (k + 1)) = 2 * v) := by rw [HS.out]; unfold valStep; rw [if_neg hc]; exact rfl
        have hc' : ((s[k].toNat : Int) == 49) = false := by simp; omega
        clear HS hc
        go_wp2
        go_roundw
        case rel => exact ⟨k + 1, by omega, by go_num, by rw [HS'.out]; go_num, trivial⟩
        case measure => simp [intOf]; omega
    · have hke : (lt s).take k = lt s := List.take_of_length_le (by rw [lt_length]; omega)
      rw [hke]
      generalize hv : valL (lt s) = v at *
      have HV : Hid (valL (lt s) = v) := hv
      clear hv hke
      go_wp2
      go_ret
      exact ⟨by rw [HV.out]; rfl, rfl⟩
/-- where the plain letters' head ends, and where their body ends -/
def layH (l : List Nat) : Nat := if l.getD 13 0 = 49 then 39 else 19
def layR (l : List Nat) : Bool := if l.getD 13 0 = 49 then decide (l.getD 32 0 = 49) else decide (l.getD 12 0 = 49)
def layN (l : List Nat) : Nat := if layR l = true then 0 else min (valL ((l.drop (layH l - 4)).take 4)) 8
def layL (l : List Nat) : Nat × Nat :=
  if l.length < 14 then (0, 0) else if l.length < layH l then (layH l, 0) else (layH l, layH l + 8 * layN l)
theorem isBytes.sub {w : World} {g off n cap : Nat} {l : List Nat} (h : isBytes w (some ⟨g, off, none⟩) n cap l) (i m c : Nat) (him : i + m ≤ l.length) (hm : 0 < m) (hc : m ≤ c) : isBytes w (some ⟨g, off + i, none⟩) m c ((l.drop i).take m) := by
  have hl : ((l.drop i).take m).length = m := by rw [List.length_take, List.length_drop]; omega
  refine ⟨hl.symm, hc, fun x hx => h.small x (List.mem_of_mem_drop (List.mem_of_mem_take hx)), fun _ => ⟨g, off + i, rfl, fun j hj => ?_⟩⟩
  rw [hl] at hj
  obtain ⟨g', off', e, hcc⟩ := h.cells (by intro e; rw [e] at him; simp at him; omega)
  cases e
  rw [List.getElem_take, List.getElem_drop, Nat.add_assoc]
  exact hcc (i + j) (by omega)
theorem isBytes.at {w : World} {g off n cap : Nat} {l : List Nat} (h : isBytes w (some ⟨g, off, none⟩) n cap l) (i : Nat) (hi : i < l.length) : w.cell? ⟨g, off + i, none⟩ = some (.int .u8 (l.getD i 0 : Nat)) := by
  obtain ⟨g', off', e, hcc⟩ := h.cells (by intro e; rw [e] at hi; simp at hi)
  cases e
  have e : l.getD i 0 = l[i] := by simp [hi]
  rw [e]
  exact hcc i hi
theorem val4_lt (l : List Nat) : valL (l.take 4) < 16 := by
  have h1 := valL_lt (l.take 4)
  have h2 : (l.take 4).length ≤ 4 := by rw [List.length_take]; omega
  exact Nat.lt_of_lt_of_le h1 (Nat.le_trans (Nat.pow_le_pow_right (by decide) h2) (by decide))
/-- l1val of four letters of a row -/
theorem l1val4 (w : World) {l : List Nat} (h : ∀ x ∈ l, x < 256) (i : Nat) : Calls Tryd.prog 74 #[.string (strN ((l.drop i).take 4))] w fun e w' => e = .returned (.int .i64 (valL ((l.drop i).take 4) : Nat)) ∧ w = w' := by
  have hs : ∀ x ∈ (l.drop i).take 4, x < 256 := fun x hx => h x (List.mem_of_mem_drop (List.mem_of_mem_take hx))
  have hz : (strN ((l.drop i).take 4)).size ≤ 40 := by
    have e : (strN ((l.drop i).take 4)).size = ((l.drop i).take 4).length := by simp [strN, ByteArray.size]
    rw [e, List.length_take]; omega
  have := l1val_any (strN ((l.drop i).take 4)) w hz
  rw [lt_strN _ hs] at this
  exact this
set_option maxHeartbeats 2000000 in
set_option maxRecDepth 20000 in
theorem l1lay_19 (w : World) (g off n cap : Nat) (l : List Nat) (h : isBytes w (some ⟨g, off, none⟩) n cap l) (hn : l.length ≤ 100000) (h14 : ¬ l.length < 14) (h13 : layH l = 19) :
    Calls Tryd.prog 72 #[.slice (some ⟨g, off, none⟩) n cap] w fun e w' => e = .returned (.tuple #[.int .i64 ((layL l).1 : Nat), .int .i64 ((layL l).2 : Nat)]) ∧ w = w' := by
  have hlen := h.len
  have hcap := h.cap
  subst hlen
  have c13 := h.at 13 (by omega)
  have c12 := h.at 12 (by omega)
  have e13 : ((l.getD 13 0 : Int) == 49) = false := by
    unfold layH at h13
    split at h13 <;> simp_all <;> omega
  have h14' : ¬ (l.length : Int) < 14 := by omega
  by_cases hh : l.length < 19
  · have hh' : (l.length : Int) < 19 := by omega
    have HL : Hid (layL l = (19, 0)) := by unfold Hid layL; rw [if_neg h14, h13, if_pos hh]
    clear h h13 hh h14 c12 hn
    generalize l.getD 13 0 = x13 at *
    generalize l.length = n at *
    go_enter Tryd.func72, Tryd.ntmps72
    go_wp2
    go_ret2
    exact ⟨by rw [HL.out]; rfl, rfl⟩
  · have hh' : ¬ (l.length : Int) < 19 := by omega
    have c32 := h.at 12 (by omega)
    have hcv := convB (h.sub 15 4 (cap - 15) (by omega) (by decide) (by omega))
    have HV : Hid (∀ w, Calls Tryd.prog 74 #[.string (strN ((l.drop 15).take 4))] w fun e w' => e = .returned (.int .i64 (valL ((l.drop 15).take 4) : Nat)) ∧ w = w') := fun w => l1val4 w h.small 15
    have hv16 := val4_lt (l.drop 15)
    have HL : Hid (layL l = (19, 19 + 8 * (if l.getD 12 0 = 49 then 0 else min (valL ((l.drop 15).take 4)) 8))) := by
      unfold Hid layL layN layR
      rw [if_neg h14, h13, if_neg hh]
      unfold layH at h13
      split at h13 <;> simp_all
    clear h h13 hh h14 hn
    generalize l.drop 15 = l4 at *
    generalize l.getD 13 0 = x13 at *
    generalize strN (l4.take 4) = t4 at *
    generalize valL (l4.take 4) = v4 at *
    generalize l.getD 12 0 = xr at *
    by_cases hr : xr = 49
    · have hr' : ((xr : Int) == 49) = true := by simp; omega
      have HL' : Hid (layL l = (19, 19)) := by unfold Hid; rw [HL.out, if_pos hr]
      clear HL hr
      generalize l.length = n at *
      by_cases h8 : (v4 : Int) > 8
      · go_enter Tryd.func72, Tryd.ntmps72
        go_wp2_with (go_at_call 74; refine (HV.out _).mono ?_; rintro e w1 ⟨rfl, rfl⟩)
        go_ret2
        exact ⟨by rw [HL'.out]; rfl, rfl⟩
      · go_enter Tryd.func72, Tryd.ntmps72
        go_wp2_with (go_at_call 74; refine (HV.out _).mono ?_; rintro e w1 ⟨rfl, rfl⟩)
        go_ret2
        exact ⟨by rw [HL'.out]; rfl, rfl⟩
    · have hr' : ((xr : Int) == 49) = false := by simp; omega
      by_cases h8 : (v4 : Int) > 8
      · have HL' : Hid (layL l = (19, 19 + 64)) := by unfold Hid; rw [HL.out, if_neg hr, Nat.min_eq_right (by omega)]
        clear HL hr
        generalize l.length = n at *
        go_enter Tryd.func72, Tryd.ntmps72
        go_wp2_with (go_at_call 74; refine (HV.out _).mono ?_; rintro e w1 ⟨rfl, rfl⟩)
        go_ret2
        exact ⟨by rw [HL'.out]; rfl, rfl⟩
      · have HL' : Hid (layL l = (19, 19 + 8 * v4)) := by unfold Hid; rw [HL.out, if_neg hr, Nat.min_eq_left (by omega)]
        clear HL hr
        generalize l.length = n at *
        go_enter Tryd.func72, Tryd.ntmps72
        go_wp2_with (go_at_call 74; refine (HV.out _).mono ?_; rintro e w1 ⟨rfl, rfl⟩)
        go_ret2
        exact ⟨by rw [HL'.out]; simp, rfl⟩
set_option maxHeartbeats 2000000 in
set_option maxRecDepth 20000 in
theorem l1lay_39 (w : World) (g off n cap : Nat) (l : List Nat) (h : isBytes w (some ⟨g, off, none⟩) n cap l) (hn : l.length ≤ 100000) (h14 : ¬ l.length < 14) (h13 : layH l = 39) :
    Calls Tryd.prog 72 #[.slice (some ⟨g, off, none⟩) n cap] w fun e w' => e = .returned (.tuple #[.int .i64 ((layL l).1 : Nat), .int .i64 ((layL l).2 : Nat)]) ∧ w = w' := by
  have hlen := h.len
  have hcap := h.cap
  subst hlen
  have c13 := h.at 13 (by omega)
  have c12 := h.at 12 (by omega)
  have e13 : ((l.getD 13 0 : Int) == 49) = true := by
    unfold layH at h13
    split at h13 <;> simp_all <;> omega
  have h14' : ¬ (l.length : Int) < 14 := by omega
  by_cases hh : l.length < 39
  · have hh' : (l.length : Int) < 39 := by omega
    have HL : Hid (layL l = (39, 0)) := by unfold Hid layL; rw [if_neg h14, h13, if_pos hh]
    clear h h13 hh h14 c12 hn
    generalize l.getD 13 0 = x13 at *
    generalize l.length = n at *
    go_enter Tryd.func72, Tryd.ntmps72
    go_wp2
    go_ret2
    exact ⟨by rw [HL.out]; rfl, rfl⟩
  · have hh' : ¬ (l.length : Int) < 39 := by omega
    have c32 := h.at 32 (by omega)
    have hcv := convB (h.sub 35 4 (cap - 35) (by omega) (by decide) (by omega))
    have HV : Hid (∀ w, Calls Tryd.prog 74 #[.string (strN ((l.drop 35).take 4))] w fun e w' => e = .returned (.int .i64 (valL ((l.drop 35).take 4) : Nat)) ∧ w = w') := fun w => l1val4 w h.small 35
    have hv16 := val4_lt (l.drop 35)
    have HL : Hid (layL l = (39, 39 + 8 * (if l.getD 32 0 = 49 then 0 else min (valL ((l.drop 35).take 4)) 8))) := by
      unfold Hid layL layN layR
      rw [if_neg h14, h13, if_neg hh]
      unfold layH at h13
      split at h13 <;> simp_all
    clear h h13 hh h14 hn
    generalize l.drop 35 = l4 at *
    generalize l.getD 13 0 = x13 at *
    generalize strN (l4.take 4) = t4 at *
    generalize valL (l4.take 4) = v4 at *
    generalize l.getD 32 0 = xr at *
    generalize l.getD 12 0 = x12 at *
    by_cases hr : xr = 49
    · have hr' : ((xr : Int) == 49) = true := by simp; omega
      have HL' : Hid (layL l = (39, 39)) := by unfold Hid; rw [HL.out, if_pos hr]
      clear HL hr
      generalize l.length = n at *
      by_cases h8 : (v4 : Int) > 8
      · go_enter Tryd.func72, Tryd.ntmps72
        go_wp2_with (go_at_call 74; refine (HV.out _).mono ?_; rintro e w1 ⟨rfl, rfl⟩)
        go_ret2
        exact ⟨by rw [HL'.out]; rfl, rfl⟩
      · go_enter Tryd.func72, Tryd.ntmps72
        go_wp2_with (go_at_call 74; refine (HV.out _).mono ?_; rintro e w1 ⟨rfl, rfl⟩)
        go_ret2
        exact ⟨by rw [HL'.out]; rfl, rfl⟩
    · have hr' : ((xr : Int) == 49) = false := by simp; omega
      by_cases h8 : (v4 : Int) > 8
      · have HL' : Hid (layL l = (39, 39 + 64)) := by unfold Hid; rw [HL.out, if_neg hr, Nat.min_eq_right (by omega)]
        clear HL hr
        generalize l.length = n at *
        go_enter Tryd.func72, Tryd.ntmps72
        go_wp2_with (go_at_call 74; refine (HV.out _).mono ?_; rintro e w1 ⟨rfl, rfl⟩)
        go_ret2
        exact ⟨by rw [HL'.out]; rfl, rfl⟩
      · have HL' : Hid (layL l = (39, 39 + 8 * v4)) := by unfold Hid; rw [HL.out, if_neg hr, Nat.min_eq_left (by omega)]
        clear HL hr
        generalize l.length = n at *
        go_enter Tryd.func72, Tryd.ntmps72
        go_wp2_with (go_at_call 74; refine (HV.out _).mono ?_; rintro e w1 ⟨rfl, rfl⟩)
        go_ret2
        exact ⟨by rw [HL'.out]; simp, rfl⟩
theorem l1lay_any (w : World) (a : Option Addr) (n cap : Nat) (l : List Nat) (h : isBytes w a n cap l) (hn : l.length ≤ 100000) :
    Calls Tryd.prog 72 #[.slice a n cap] w fun e w' => e = .returned (.tuple #[.int .i64 ((layL l).1 : Nat), .int .i64 ((layL l).2 : Nat)]) ∧ w = w' := by
  by_cases h14 : l.length < 14
  · have hlen := h.len
    subst hlen
    have h14' : (l.length : Int) < 14 := by omega
    have HL : Hid (layL l = (0, 0)) := by unfold Hid layL; rw [if_pos h14]
    clear h hn h14
    generalize l.length = n at *
    go_enter Tryd.func72, Tryd.ntmps72
    go_wp2
    go_ret2
    exact ⟨by rw [HL.out]; rfl, rfl⟩
  · obtain ⟨g, off, rfl, -⟩ := h.cells (by intro e; rw [e] at h14; simp at h14)
    by_cases h13 : l.getD 13 0 = 49
    · exact l1lay_39 w g off n cap l h hn h14 (by unfold layH; rw [if_pos h13])
    · exact l1lay_19 w g off n cap l h hn h14 (by unfold layH; rw [if_neg h13])
/-- the field of the plain letter behind these -/
def fieldL (l : List Nat) : Nat :=
  if l.length = 0 then 1 else if l.length < 12 then 2 else if l.length = 12 then 3 else if l.length = 13 then 4
  else if l.length < (layL l).1 then
    (if (layL l).1 ≤ l.length + 4 then 8 else if (layL l).1 = 19 then 7 else if l.length < 32 then 5 else if l.length = 32 then 6 else 7)
  else if l.length < (layL l).2 then 9 else if l.length < (layL l).2 + 15 then 10 else if l.length < (layL l).2 + 18 then l.length - (layL l).2 - 4
  else if l.length < (layL l).2 + 25 then 14 else 15
theorem layL_le (l : List Nat) : (layL l).1 ≤ 39 ∧ (layL l).2 ≤ 103 := by
  have : layH l ≤ 39 := by unfold layH; split <;> omega
  have h2 : layN l ≤ 8 := by unfold layN; split <;> omega
  unfold layL
  split
  · exact ⟨by simp, by simp⟩
  · split
    · exact ⟨this, by simp⟩
    · exact ⟨this, by show _ + _ ≤ _; omega⟩
theorem ret_i64 {a b : Int} (h : a = b) : Ending.returned (.int .i64 a) = .returned (.int .i64 b) := by rw [h]
set_option maxHeartbeats 6000000 in
set_option maxRecDepth 20000 in
theorem l1field_any (w : World) (a : Option Addr) (n cap : Nat) (l : List Nat) (h : isBytes w a n cap l) (hn : l.length ≤ 100000) :
    Calls Tryd.prog 44 #[.slice a n cap] w fun e w' => e = .returned (.int .i64 (fieldL l : Nat)) ∧ w = w' := by
  have HC : Hid (Calls Tryd.prog 72 #[.slice a n cap] w fun e w' => e = .returned (.tuple #[.int .i64 ((layL l).1 : Nat), .int .i64 ((layL l).2 : Nat)]) ∧ w = w') := l1lay_any w a n cap l h hn
  have hlen := h.len
  subst hlen
  obtain ⟨hh1, hh2⟩ := layL_le l
  have HF : Hid (fieldL l = _) := (show fieldL l = _ from by unfold fieldL; rfl)
  clear h
  generalize (layL l).1 = H at *
  generalize (layL l).2 = E at *
  generalize fieldL l = F at *
  generalize l.length = n at *
  by_cases p0 : n = 0
  · have ip0 : ((n : Int) == 0) = true := by first | omega | (simp; omega)
    have HF' : Hid (F = 1) := by unfold Hid; rw [HF.out, if_pos p0]
    clear HF p0
    go_enter Tryd.func44, Tryd.ntmps44
    go_wp2_with (go_at_call 72; refine HC.out.mono ?_; rintro e w1 ⟨rfl, rfl⟩)
    go_ret
    exact ⟨by rw [HF'.out]; rfl, rfl⟩
  · have ip0 : ((n : Int) == 0) = false := by first | omega | (simp; omega)
    by_cases p1 : n < 12
    · have ip1 : (n : Int) < 12 := by first | omega | (simp; omega)
      have HF' : Hid (F = 2) := by unfold Hid; rw [HF.out, if_neg p0, if_pos p1]
      clear HF p0 p1
      go_enter Tryd.func44, Tryd.ntmps44
      go_wp2_with (go_at_call 72; refine HC.out.mono ?_; rintro e w1 ⟨rfl, rfl⟩)
      go_ret
      exact ⟨by rw [HF'.out]; rfl, rfl⟩
    · have ip1 : ¬ (n : Int) < 12 := by first | omega | (simp; omega)
      by_cases p2 : n = 12
      · have ip2 : ((n : Int) == 12) = true := by first | omega | (simp; omega)
        have HF' : Hid (F = 3) := by unfold Hid; rw [HF.out, if_neg p0, if_neg p1, if_pos p2]
        clear HF p0 p1 p2
        go_enter Tryd.func44, Tryd.ntmps44
        go_wp2_with (go_at_call 72; refine HC.out.mono ?_; rintro e w1 ⟨rfl, rfl⟩)
        go_ret
        exact ⟨by rw [HF'.out]; rfl, rfl⟩
      · have ip2 : ((n : Int) == 12) = false := by first | omega | (simp; omega)
        by_cases p3 : n = 13
        · have ip3 : ((n : Int) == 13) = true := by first | omega | (simp; omega)
          have HF' : Hid (F = 4) := by unfold Hid; rw [HF.out, if_neg p0, if_neg p1, if_neg p2, if_pos p3]
          clear HF p0 p1 p2 p3
          go_enter Tryd.func44, Tryd.ntmps44
          go_wp2_with (go_at_call 72; refine HC.out.mono ?_; rintro e w1 ⟨rfl, rfl⟩)
          go_ret
          exact ⟨by rw [HF'.out]; rfl, rfl⟩
        · have ip3 : ((n : Int) == 13) = false := by first | omega | (simp; omega)
          by_cases p4 : n < H
          · have ip4 : (n : Int) < (H : Int) := by first | omega | (simp; omega)
            by_cases p5 : H ≤ n + 4
            · have ip5 : (n : Int) ≥ (H : Int) - 4 := by first | omega | (simp; omega)
              have HF' : Hid (F = 8) := by unfold Hid; rw [HF.out, if_neg p0, if_neg p1, if_neg p2, if_neg p3, if_pos p4, if_pos p5]
              clear HF p0 p1 p2 p3 p4 p5
              go_enter Tryd.func44, Tryd.ntmps44
              go_wp2_with (go_at_call 72; refine HC.out.mono ?_; rintro e w1 ⟨rfl, rfl⟩)
              go_ret
              exact ⟨by rw [HF'.out]; rfl, rfl⟩
            · have ip5 : ¬ (n : Int) ≥ (H : Int) - 4 := by first | omega | (simp; omega)
              by_cases p6 : H = 19
              · have ip6 : ((H : Int) == 19) = true := by first | omega | (simp; omega)
                have HF' : Hid (F = 7) := by unfold Hid; rw [HF.out, if_neg p0, if_neg p1, if_neg p2, if_neg p3, if_pos p4, if_neg p5, if_pos p6]
                clear HF p0 p1 p2 p3 p4 p5 p6
                go_enter Tryd.func44, Tryd.ntmps44
                go_wp2_with (go_at_call 72; refine HC.out.mono ?_; rintro e w1 ⟨rfl, rfl⟩)
                go_ret
                exact ⟨by rw [HF'.out]; rfl, rfl⟩
              · have ip6 : ((H : Int) == 19) = false := by first | omega | (simp; omega)
                by_cases p7 : n < 32
                · have ip7 : (n : Int) < 32 := by first | omega | (simp; omega)
                  have HF' : Hid (F = 5) := by unfold Hid; rw [HF.out, if_neg p0, if_neg p1, if_neg p2, if_neg p3, if_pos p4, if_neg p5, if_neg p6, if_pos p7]
                  clear HF p0 p1 p2 p3 p4 p5 p6 p7
                  go_enter Tryd.func44, Tryd.ntmps44
                  go_wp2_with (go_at_call 72; refine HC.out.mono ?_; rintro e w1 ⟨rfl, rfl⟩)
                  go_ret
                  exact ⟨by rw [HF'.out]; rfl, rfl⟩
                · have ip7 : ¬ (n : Int) < 32 := by first | omega | (simp; omega)
                  by_cases p8 : n = 32
                  · have ip8 : ((n : Int) == 32) = true := by first | omega | (simp; omega)
                    have HF' : Hid (F = 6) := by unfold Hid; rw [HF.out, if_neg p0, if_neg p1, if_neg p2, if_neg p3, if_pos p4, if_neg p5, if_neg p6, if_neg p7, if_pos p8]
                    clear HF p0 p1 p2 p3 p4 p5 p6 p7 p8
                    go_enter Tryd.func44, Tryd.ntmps44
                    go_wp2_with (go_at_call 72; refine HC.out.mono ?_; rintro e w1 ⟨rfl, rfl⟩)
                    go_ret
                    exact ⟨by rw [HF'.out]; rfl, rfl⟩
                  · have ip8 : ((n : Int) == 32) = false := by first | omega | (simp; omega)
                    have HF' : Hid (F = 7) := by unfold Hid; rw [HF.out, if_neg p0, if_neg p1, if_neg p2, if_neg p3, if_pos p4, if_neg p5, if_neg p6, if_neg p7, if_neg p8]
                    clear HF p0 p1 p2 p3 p4 p5 p6 p7 p8
                    go_enter Tryd.func44, Tryd.ntmps44
                    go_wp2_with (go_at_call 72; refine HC.out.mono ?_; rintro e w1 ⟨rfl, rfl⟩)
                    go_ret
                    exact ⟨by rw [HF'.out]; rfl, rfl⟩
          · have ip4 : ¬ (n : Int) < (H : Int) := by first | omega | (simp; omega)
            by_cases p9 : n < E
            · have ip9 : (n : Int) < (E : Int) := by first | omega | (simp; omega)
              have HF' : Hid (F = 9) := by unfold Hid; rw [HF.out, if_neg p0, if_neg p1, if_neg p2, if_neg p3, if_neg p4, if_pos p9]
              clear HF p0 p1 p2 p3 p4 p9
              go_enter Tryd.func44, Tryd.ntmps44
              go_wp2_with (go_at_call 72; refine HC.out.mono ?_; rintro e w1 ⟨rfl, rfl⟩)
              go_ret
              exact ⟨by rw [HF'.out]; rfl, rfl⟩
            · have ip9 : ¬ (n : Int) < (E : Int) := by first | omega | (simp; omega)
              by_cases p10 : n < E + 15
              · have ip10 : (n : Int) < (E : Int) + 15 := by first | omega | (simp; omega)
                have HF' : Hid (F = 10) := by unfold Hid; rw [HF.out, if_neg p0, if_neg p1, if_neg p2, if_neg p3, if_neg p4, if_neg p9, if_pos p10]
                clear HF p0 p1 p2 p3 p4 p9 p10
                go_enter Tryd.func44, Tryd.ntmps44
                go_wp2_with (go_at_call 72; refine HC.out.mono ?_; rintro e w1 ⟨rfl, rfl⟩)
                go_ret
                exact ⟨by rw [HF'.out]; rfl, rfl⟩
              · have ip10 : ¬ (n : Int) < (E : Int) + 15 := by first | omega | (simp; omega)
                by_cases p11 : n < E + 18
                · have ip11 : (n : Int) < (E : Int) + 18 := by first | omega | (simp; omega)
                  have HF' : Hid (F = n - E - 4) := by unfold Hid; rw [HF.out, if_neg p0, if_neg p1, if_neg p2, if_neg p3, if_neg p4, if_neg p9, if_neg p10, if_pos p11]
                  clear HF p0 p1 p2 p3 p4 p9 p10 p11
                  go_enter Tryd.func44, Tryd.ntmps44
                  go_wp2_with (go_at_call 72; refine HC.out.mono ?_; rintro e w1 ⟨rfl, rfl⟩)
                  go_ret
                  exact ⟨by rw [HF'.out]; exact ret_i64 (by omega), rfl⟩
                · have ip11 : ¬ (n : Int) < (E : Int) + 18 := by first | omega | (simp; omega)
                  by_cases p12 : n < E + 25
                  · have ip12 : (n : Int) < (E : Int) + 25 := by first | omega | (simp; omega)
                    have HF' : Hid (F = 14) := by unfold Hid; rw [HF.out, if_neg p0, if_neg p1, if_neg p2, if_neg p3, if_neg p4, if_neg p9, if_neg p10, if_neg p11, if_pos p12]
                    clear HF p0 p1 p2 p3 p4 p9 p10 p11 p12
                    go_enter Tryd.func44, Tryd.ntmps44
                    go_wp2_with (go_at_call 72; refine HC.out.mono ?_; rintro e w1 ⟨rfl, rfl⟩)
                    go_ret
                    exact ⟨by rw [HF'.out]; rfl, rfl⟩
                  · have ip12 : ¬ (n : Int) < (E : Int) + 25 := by first | omega | (simp; omega)
                    have HF' : Hid (F = 15) := by unfold Hid; rw [HF.out, if_neg p0, if_neg p1, if_neg p2, if_neg p3, if_neg p4, if_neg p9, if_neg p10, if_neg p11, if_neg p12]
                    clear HF p0 p1 p2 p3 p4 p9 p10 p11 p12
                    go_enter Tryd.func44, Tryd.ntmps44
                    go_wp2_with (go_at_call 72; refine HC.out.mono ?_; rintro e w1 ⟨rfl, rfl⟩)
                    go_ret
                    exact ⟨by rw [HF'.out]; rfl, rfl⟩
/-- a source of choices in block b: the bytes, how many were taken, the state -/
def srcAt (W : World) (b : Nat) (a : Option Addr) (n cap : Nat) (i s : Nat) : Prop := W.heap[b]? = some (.cells #[.slice a n cap, .int .i64 (i : Int), .int .u64 (s : Int)] 80 (0, 0))
theorem srcAt.cells {W : World} {b : Nat} {a : Option Addr} {n cap i s : Nat} (h : srcAt W b a n cap i s) :
    W.cell? ⟨b, 0, none⟩ = some (.slice a n cap) ∧ W.cell? ⟨b, 1, none⟩ = some (.int .i64 (i : Int)) ∧ W.cell? ⟨b, 2, none⟩ = some (.int .u64 (s : Int)) ∧ W.frozen? ⟨b, 1, none⟩ = false ∧ W.frozen? ⟨b, 2, none⟩ = false := by
  unfold srcAt at h
  refine ⟨?_, ?_, ?_, ?_, ?_⟩ <;> simp [World.cell?, World.frozen?, h]
theorem u64_nat (z : Int) : ∃ s : Nat, IntKind.u64.wrap z = (s : Int) := ⟨(IntKind.u64.wrap z).toNat, by rw [IntKind.wrap_u64]; omega⟩
theorem srcRes (z : Int) (k : Nat) (hk : 1 < k) (hk2 : k ≤ 1000000000) : ∃ r : Nat, wrap64 ((IntKind.u64.wrap z / 8589934592).tmod (k : Int)) = (r : Int) ∧ r < k := by
  obtain ⟨s, hs⟩ : ∃ s : Nat, IntKind.u64.wrap z / 8589934592 = (s : Int) ∧ s < 2147483648 := ⟨(IntKind.u64.wrap z / 8589934592).toNat, by rw [IntKind.wrap_u64]; omega⟩
  refine ⟨s % k, ?_, Nat.mod_lt _ (by omega)⟩
  rw [hs.1]
  have h1 : ((s : Int)).tmod (k : Int) = ((s % k : Nat) : Int) := by
    rw [Int.tmod_eq_emod_of_nonneg (by omega)]; omega
  have h2 : s % k < k := Nat.mod_lt _ (by omega)
  rw [h1]
  generalize s % k = y at *
  unfold wrap64
  omega
theorem u64_toNat (z : Int) : IntKind.u64.wrap z = ((IntKind.u64.wrap z).toNat : Int) := by rw [IntKind.wrap_u64]; omega
theorem src_set {W : World} {b : Nat} {a : Option Addr} {n cap i s s' : Nat} {x y : Int} (q : Nat) (h : srcAt W b a n cap i s) (hx : x = ((i + 1 : Nat) : Int)) (hy : y = (s' : Int)) :
    srcAt (((W.drewN q).setCell ⟨b, 1, none⟩ (.int .i64 x)).setCell ⟨b, 2, none⟩ (.int .u64 y)) b a n cap (i + 1) s' ∧ W.grownBy (((W.drewN q).setCell ⟨b, 1, none⟩ (.int .i64 x)).setCell ⟨b, 2, none⟩ (.int .u64 y)) (some b) := by
  subst hx hy
  have h0 : (W.drewN q).heap[b]? = some (.cells #[.slice a n cap, .int .i64 (i : Int), .int .u64 (s : Int)] 80 (0, 0)) := h
  have h1 := heap_setCell_same _ b 1 _ _ (Value.int IntKind.i64 ((i + 1 : Nat) : Int)) h0
  have h2 := heap_setCell_same _ b 2 _ _ (Value.int IntKind.u64 (s' : Int)) h1
  have hg0 : W.grownBy (W.drewN q) (some b) := ⟨rfl, rfl, rfl, Nat.le_refl _, fun _ _ _ => rfl⟩
  refine ⟨?_, gb_set (gb_set hg0 1 _) 2 _⟩
  unfold srcAt
  rw [h2]
  simp
set_option maxHeartbeats 2000000 in
theorem srcN_any (w : World) (b : Nat) (a : Option Addr) (n cap i s : Nat) (l : List Nat) (k : Nat) (h : srcAt w b a n cap i s) (hy : isBytes w a n cap l) (hi : i ≤ 1000000000000) (hk : k ≤ 1000000000) :
    Calls Tryd.prog 36 #[.pointer (some ⟨b, 0, none⟩), .int .i64 (k : Int)] w fun o w' => ∃ r s' : Nat, o = .returned (.int .i64 (r : Int)) ∧ (k ≤ 1 → r = 0) ∧ (1 < k → r < k) ∧ srcAt w' b a n cap (i + 1) s' ∧ w.grownBy w' (some b) := by
  obtain ⟨c0, c1, c2, f1, f2⟩ := h.cells
  have HS : Hid (srcAt w b a n cap i s) := h
  clear h
  by_cases hin : i < n
  · have hl : l ≠ [] := by intro e; have := hy.len; rw [e] at this; simp at this; omega
    obtain ⟨g, off, rfl, hc⟩ := hy.cells hl
    have hil : i < l.length := by have := hy.len; omega
    have hcx := hc i hil
    have hx := hy.small l[i] (List.getElem_mem _)
    generalize l[i] = x at *
    have hin' : decide ((i : Int) < (n : Int)) = true := by simp; omega
    clear hy hc hl
    by_cases h1 : k ≤ 1
    · have h1' : (k : Int) ≤ 1 := by omega
      go_enter Tryd.func36, Tryd.ntmps36
      go_wp2
      go_quiet (fail)
      go_wp2
      go_quiet (fail)
      go_wp2
      go_ret
      have hp := fun q y s' hy => src_set (x := (i : Int) + 1) (y := y) (s' := s') q HS.out (by omega) hy
      exact ⟨0, _, rfl, fun _ => rfl, fun hh => absurd hh (by omega), (hp _ _ _ (u64_toNat _)).1, (hp _ _ _ (u64_toNat _)).2⟩
    · have h1' : (1 : Int) < (k : Int) := by omega
      go_enter Tryd.func36, Tryd.ntmps36
      go_wp2
      go_quiet (fail)
      go_wp2
      go_quiet (fail)
      go_wp2
      go_ret
      have hp := fun q y s' hy => src_set (x := (i : Int) + 1) (y := y) (s' := s') q HS.out (by omega) hy
      obtain ⟨r, hr, hrk⟩ := srcRes (IntKind.u64.wrap (IntKind.u64.wrap (IntKind.u64.wrap ((s : Int) + (x : Int)) + 1) * 6364136223846793005) + 1442695040888963407) k (by omega) hk
      exact ⟨r, _, ret_int hr, fun hh => absurd hh (by omega), fun _ => hrk, (hp _ _ _ (u64_toNat _)).1, (hp _ _ _ (u64_toNat _)).2⟩
  · have hin' : decide ((i : Int) < (n : Int)) = false := by simp; omega
    by_cases h1 : k ≤ 1
    · have h1' : (k : Int) ≤ 1 := by omega
      go_enter Tryd.func36, Tryd.ntmps36
      go_wp2
      go_quiet (fail)
      go_wp2
      go_ret
      have hp := fun q y s' hy => src_set (x := (i : Int) + 1) (y := y) (s' := s') q HS.out (by omega) hy
      exact ⟨0, _, rfl, fun _ => rfl, fun hh => absurd hh (by omega), (hp _ _ _ (u64_toNat _)).1, (hp _ _ _ (u64_toNat _)).2⟩
    · have h1' : (1 : Int) < (k : Int) := by omega
      go_enter Tryd.func36, Tryd.ntmps36
      go_wp2
      go_quiet (fail)
      go_wp2
      go_ret
      have hp := fun q y s' hy => src_set (x := (i : Int) + 1) (y := y) (s' := s') q HS.out (by omega) hy
      obtain ⟨r, hr, hrk⟩ := srcRes (IntKind.u64.wrap (IntKind.u64.wrap (IntKind.u64.wrap (s : Int) + 1) * 6364136223846793005) + 1442695040888963407) k (by omega) hk
      exact ⟨r, _, ret_int hr, fun hh => absurd hh (by omega), fun _ => hrk, (hp _ _ _ (u64_toNat _)).1, (hp _ _ _ (u64_toNat _)).2⟩
end Go.Proofs.YtjmlalojfghkiaaDoor.J
