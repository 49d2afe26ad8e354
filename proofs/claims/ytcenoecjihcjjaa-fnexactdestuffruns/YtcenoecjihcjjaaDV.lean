import Derived.Test.YtcenoecjihcjjaaDT
namespace Go.Proofs.Ytcenoecjihcjjaa
open Go.RowKit
theorem drZ_bad {f : Int} {l : List Int} (h : ¬ ((f = 0 ∨ f = 1) ∧ fitGo l 4000 = true)) : drZ f l = (⟨#[]⟩, -2) := if_neg h
theorem isInts.hid {w : World} {g off n cap : Nat} {l : List Int} (h : isInts w (some ⟨g, off, none⟩) n cap l) (hl : l ≠ []) : ∀ j (h : j < l.length), w.cell? ⟨g, off + j, none⟩ = some (.int .i64 l[j]) := by
  obtain ⟨g', off', e, hc⟩ := h.cells hl
  cases e
  exact hc
/-- the runs, one by one: each a number, all of them within the room -/
def runsOk (l : List Int) : Prop := ∀ j (hj : j < l.length), ∃ X : Nat, l[j] = (X : Int) ∧ (1 ≤ X ∧ X ≤ 4000) ∧ (∀ c, (M.rtGo c ((l.map Int.toNat).take j)).length + X ≤ 4000) ∧ ∀ c, c < 2 → M.rtGo c ((l.map Int.toNat).take (j + 1)) = M.rtGo c ((l.map Int.toNat).take j) ++ List.replicate X (48 + (c + j) % 2)
theorem sum_take_le (l : List Nat) : ∀ j, (l.take j).sum ≤ l.sum := by
  induction l with
  | nil => intro j; simp
  | cons x xs ih =>
    intro j
    cases j with
    | zero => simp
    | succ j => simp [ih j]
theorem runs_fit {l : List Int} {k : Nat} {z : Int} (h : ftAt l k z) (hk : k = l.length) : runsOk l := by
  intro j hj
  have htk : l.take k = l := List.take_of_length_le (by omega)
  have hp := h.pos l[j] (by rw [htk]; exact List.getElem_mem hj)
  have hs := h.sum
  rw [htk] at hs
  have hhi := h.hi
  have hjm : j < (l.map Int.toNat).length := by simpa using hj
  have e1 : (l.map Int.toNat).take (j + 1) = (l.map Int.toNat).take j ++ [(l[j]).toNat] := by
    rw [List.take_succ_eq_append_getElem hjm]; simp
  have hle := sum_take_le (l.map Int.toNat) (j + 1)
  rw [e1, List.sum_append] at hle
  simp at hle
  refine ⟨(l[j]).toNat, by omega, ⟨by omega, by omega⟩, fun c => ?_, fun c hc => ?_⟩
  · rw [M.rt_len]
    rw [← List.map_take] at *
    omega
  · rw [e1, rt_snoc _ _ c hc, List.length_take, Nat.min_eq_left (by omega)]
theorem runs_val {l : List Int} {k : Nat} {z : Int} (c : Nat) (hc : c < 2) (h : ftAt l k z) (hk : k = l.length) : drZ (c : Int) l = destZ (strN (M.rtGo c (l.map Int.toNat))) := by
  have htk : l.take k = l := List.take_of_length_le (by omega)
  have hs := h.sum
  have hpos := h.pos
  rw [htk] at hs hpos
  have hhi := h.hi
  unfold drZ
  rw [if_pos ⟨by omega, h.fin (by omega)⟩, dest_runs c hc _ ?_ (by omega)]
  · rfl
  · intro x hx
    rw [List.mem_map] at hx
    obtain ⟨y, hy, rfl⟩ := hx
    have := hpos y hy
    omega
theorem strN_size (l : List Nat) : (strN l).size = l.length := by simp [strN, ByteArray.size]
theorem runs_size {l : List Int} {k c : Nat} (h : runsOk l) (_ : k = l.length) : (strN (M.rtGo c (l.map Int.toNat))).size ≤ maxLen := by
  rw [strN_size]
  have hb : (M.rtGo c (l.map Int.toNat)).length ≤ 4000 := by
    rcases Nat.eq_zero_or_pos l.length with h0 | h0
    · have : l = [] := List.length_eq_zero_iff.1 h0
      subst this
      simp [M.rtGo]
    · obtain ⟨X, h1, _, h3, _⟩ := h (l.length - 1) (by omega)
      have h3' := h3 c
      rw [M.rt_len] at h3' ⊢
      have e : (l.map Int.toNat) = (l.map Int.toNat).take (l.length - 1) ++ [X] := by
        have hlt : l.length - 1 < (l.map Int.toNat).length := by simp; omega
        have := List.take_succ_eq_append_getElem hlt
        rw [List.take_of_length_le (by simp; omega)] at this
        rw [this]
        simp [h1]
      rw [e, List.sum_append]
      simp only [List.sum_singleton]
      rw [e] at h3'
      rw [List.take_append_of_le_length (by simp; try omega), List.take_take, Nat.min_self] at h3'
      exact h3'
  unfold maxLen
  omega
set_option maxHeartbeats 4000000 in
set_option maxRecDepth 20000 in
theorem specRuns_ok (w : World) (c : Nat) (hc2 : c < 2) (g off n cap : Nat) (l : List Int) (h : isInts w (some ⟨g, off, none⟩) n cap l) (hl : l ≠ []) (hn4 : n ≤ 4000) :
    Calls Try.prog 6 #[.int .i64 (c : Int), .slice (some ⟨g, off, none⟩) n cap] w fun o w' => o = .returned (.tuple #[.string (drZ (c : Int) l).1, .int .i64 (drZ (c : Int) l).2]) ∧ Below w.heap.size w w' := by
  have HC : Hid (∀ j (h : j < l.length), w.cell? ⟨g, off + j, none⟩ = some (.int .i64 l[j])) := h.hid hl
  have HM : Hid (∀ x ∈ l, -9223372036854775808 ≤ x ∧ x ≤ 9223372036854775807) := h.small
  have HL : Hid (n = l.length) := h.len
  have hgz : g < w.heap.size := World.block_lt_of_cell? w _ (HC.out 0 (List.length_pos_iff.2 hl))
  have hcp := h.cap
  have hz0 : decide (4000 < (n : Int)) = false := by simp; omega
  have hcc : (((c : Int) != 0) = true ∧ ((c : Int) != 1) = false) ∨ ((c : Int) != 0) = false := by
    have : c = 0 ∨ c = 1 := by omega
    rcases this with rfl | rfl
    · exact .inr rfl
    · exact .inl ⟨rfl, rfl⟩
  clear h hl
  go_enter Try.func6, Try.ntmps6
  rcases hcc with ⟨hc0, hc1⟩ | hc0
  · go_wp2
    go_loopw [6, 7] (fun s i wr => ∃ (k : Nat) (z : Int), k ≤ n ∧ i = .int .i64 (k : Int) ∧ s = .int .i64 z ∧ ftAt l k z ∧ wr = w) (fun _ i _ => n - (intOf i).toNat)
    case atStart => exact ⟨0, 0, Nat.zero_le _, rfl, rfl, ftAt.zero l, rfl⟩
    case round =>
      obtain ⟨k, z, hk, rfl, rfl, hat, hw⟩ := hrel
      have hw' : w = wr := hw.symm
      subst hw'
      clear hw
      have hlo := hat.lo
      have hhi := hat.hi
      by_cases hlt : k < n
      · have hkl : k < l.length := by have := HL.out; omega
        have hcx := HC.out k hkl
        have hx := HM.out l[k] (List.getElem_mem hkl)
        by_cases hb1 : l[k] < 1
        · have HF : Hid (drZ (c : Int) l = (⟨#[]⟩, -2)) := drZ_bad (by rw [hat.bad hkl (.inl hb1)]; simp)
          clear hat
          generalize l[k] = x at *
          have hd : decide (x < 1) = true := by simpa using hb1
          go_wp2
          go_ret2
          exact ⟨ret_tup HF.out.symm, Below.refl _ _⟩
        · by_cases hb2 : 4000 - z < l[k]
          · have HF : Hid (drZ (c : Int) l = (⟨#[]⟩, -2)) := drZ_bad (by rw [hat.bad hkl (.inr hb2)]; simp)
            clear hat
            generalize l[k] = x at *
            have hd : decide (x < 1) = false := by simpa using hb1
            have hd2 : decide (4000 - z < x) = true := by simpa using hb2
            go_wp2
            go_ret2
            exact ⟨ret_tup HF.out.symm, Below.refl _ _⟩
          · have hat2 := hat.next hkl (by omega) (by omega)
            have HN : Hid (ftAt l (k + 1) (z + l[k])) := hat2
            clear hat hat2
            generalize l[k] = x at *
            have hd : decide (x < 1) = false := by simpa using hb1
            have hd2 : decide (4000 - z < x) = false := by simpa using hb2
            go_wp2
            go_roundw
            case rel => exact ⟨k + 1, z + x, by omega, by go_num, by go_num, HN.out, trivial⟩
            case measure => simp [intOf]; omega
      · have hkn : k = n := by omega
        subst hkn
        have HT := runs_fit hat HL.out
        have HT : Hid (runsOk l) := HT
        have HZ : Hid (drZ (c : Int) l = destZ (strN (M.rtGo c (l.map Int.toNat)))) := runs_val c hc2 hat HL.out
        clear hat hlt hhi hlo hz0 hc0
        have hcvs : ∀ k, ∀ x ∈ M.rtGo c ((l.map Int.toNat).take k), x < 256 := fun k => isL_lt (M.rt_isL _ c hc2)
        have HV : Hid (∀ k, ∀ x ∈ M.rtGo c ((l.map Int.toNat).take k), x < 256) := hcvs
        clear hcvs
        go_wp2_with fail
        go_loopw [8, 9] (fun v i W => ∃ j : Nat, j ≤ k ∧ i = .int .i64 (j : Int) ∧ ownsB W w.heap.size v (M.rtGo c ((l.map Int.toNat).take j)) ∧ Below w.heap.size w W ∧ w.heap.size ≤ W.heap.size) (fun _ i _ => k - (intOf i).toNat)
        case atStart => exact ⟨0, Nat.zero_le _, rfl, by simpa [M.rtGo] using own_nil w w.heap.size (Nat.le_refl _), (Below.refl _ _).alloc (Nat.le_refl _) _, by simp⟩
        case round =>
          obtain ⟨j, hj, rfl, hown, hbel, hz⟩ := hrel
          by_cases hjk : j < k
          · have hjl : j < l.length := by have := HL.out; omega
            obtain ⟨X, hX1, hX2, hX3, hX4⟩ := HT.out j hjl
            have HCJ : Hid (w.cell? ⟨g, off + j, none⟩ = some (.int .i64 (X : Int))) := by have := HC.out j hjl; rw [hX1] at this; exact this
            have HS : Hid (M.rtGo c ((l.map Int.toNat).take (j + 1)) = M.rtGo c ((l.map Int.toNat).take j) ++ List.replicate X (48 + (c + j) % 2)) := hX4 c hc2
            have hlen : (M.rtGo c ((l.map Int.toNat).take j)).length + X ≤ 4000 := hX3 c
            have hem : ((c : Int) + (j : Int)).tmod 2 = (((c + j) % 2 : Nat) : Int) := by rw [Int.tmod_eq_emod_of_nonneg (by omega)]; omega
            have hy2 : (c + j) % 2 < 2 := by omega
            generalize (c + j) % 2 = y at *
            clear hX1 hX3 hX4
            generalize M.rtGo c ((l.map Int.toNat).take j) = L at *
            go_wp2_with fail
            go_loopw [8, 10] (fun v i W => ∃ q : Nat, q ≤ X ∧ i = .int .i64 (q : Int) ∧ ownsB W w.heap.size v (L ++ List.replicate q (48 + y)) ∧ Below w.heap.size w W ∧ w.heap.size ≤ W.heap.size) (fun _ i _ => X - (intOf i).toNat)
            case atStart => exact ⟨0, Nat.zero_le _, rfl, by simpa using hown, hbel, hz⟩
            case round =>
              clear hown hbel hz
              obtain ⟨q, hq, rfl, hown, hbel, hz⟩ := hrel
              have hcx : wr.cell? ⟨g, off + j, none⟩ = some (.int .i64 (X : Int)) := (hbel.cell (by exact hgz)).trans HCJ.out
              by_cases hqX : q < X
              · have HR : Hid (L ++ List.replicate (q + 1) (48 + y) = (L ++ List.replicate q (48 + y)) ++ [48 + y]) := by rw [List.append_assoc, List.replicate_succ']; exact rfl
                have hll : (L ++ List.replicate q (48 + y)).length ≤ 100000000 := by simp; omega
                generalize L ++ List.replicate q (48 + y) = L2 at *
                go_wp2_with (first | (at_builtin; refine app_byte w wr rfl (.tmp 61) (.tmp 68) rfl w.heap.size _ L2 (48 + y) _ (by omega) rfl hown rfl hll hz hbel ?_))
                intro v' w' hown' hbel' hz'
                clear hown hbel hz hcx
                go_wp2
                go_roundw
                case rel => exact ⟨q + 1, by omega, by go_num, by rw [HR.out]; exact hown', hbel', hz'⟩
                case measure => simp [intOf]; omega
              · have hqe : q = X := by omega
                subst hqe
                have ho2 : ownsB wr w.heap.size u8 (M.rtGo c ((l.map Int.toNat).take (j + 1))) := by rw [HS.out]; exact hown
                clear hown
                go_wp2
                go_roundw
                case rel => exact ⟨j + 1, by omega, by go_num, ho2, hbel, hz⟩
                case measure => simp [intOf]; omega
          · have hje : (l.map Int.toNat).take j = l.map Int.toNat := List.take_of_length_le (by have := HL.out; simp; omega)
            rw [hje] at hown
            have hV := HV.out j
            rw [hje] at hV
            have hcv := conv_own hown hV
            have HSZ : Hid ((strN (M.rtGo c (l.map Int.toNat))).size ≤ maxLen) := runs_size HT.out HL.out
            clear hown hV hje
            generalize M.rtGo c (l.map Int.toNat) = L at *
            go_wp2_with (first | (go_at_call 19; refine (specDestuff_any _ _ HSZ.out).mono ?_; rintro o w4 ⟨rfl, hb4⟩))
            go_ret2
            exact ⟨ret_tup HZ.out.symm, hbel.trans (hb4.mono hz)⟩
  · go_wp2
    go_loopw [6, 7] (fun s i wr => ∃ (k : Nat) (z : Int), k ≤ n ∧ i = .int .i64 (k : Int) ∧ s = .int .i64 z ∧ ftAt l k z ∧ wr = w) (fun _ i _ => n - (intOf i).toNat)
    case atStart => exact ⟨0, 0, Nat.zero_le _, rfl, rfl, ftAt.zero l, rfl⟩
    case round =>
      obtain ⟨k, z, hk, rfl, rfl, hat, hw⟩ := hrel
      have hw' : w = wr := hw.symm
      subst hw'
      clear hw
      have hlo := hat.lo
      have hhi := hat.hi
      by_cases hlt : k < n
      · have hkl : k < l.length := by have := HL.out; omega
        have hcx := HC.out k hkl
        have hx := HM.out l[k] (List.getElem_mem hkl)
        by_cases hb1 : l[k] < 1
        · have HF : Hid (drZ (c : Int) l = (⟨#[]⟩, -2)) := drZ_bad (by rw [hat.bad hkl (.inl hb1)]; simp)
          clear hat
          generalize l[k] = x at *
          have hd : decide (x < 1) = true := by simpa using hb1
          go_wp2
          go_ret2
          exact ⟨ret_tup HF.out.symm, Below.refl _ _⟩
        · by_cases hb2 : 4000 - z < l[k]
          · have HF : Hid (drZ (c : Int) l = (⟨#[]⟩, -2)) := drZ_bad (by rw [hat.bad hkl (.inr hb2)]; simp)
            clear hat
            generalize l[k] = x at *
            have hd : decide (x < 1) = false := by simpa using hb1
            have hd2 : decide (4000 - z < x) = true := by simpa using hb2
            go_wp2
            go_ret2
            exact ⟨ret_tup HF.out.symm, Below.refl _ _⟩
          · have hat2 := hat.next hkl (by omega) (by omega)
            have HN : Hid (ftAt l (k + 1) (z + l[k])) := hat2
            clear hat hat2
            generalize l[k] = x at *
            have hd : decide (x < 1) = false := by simpa using hb1
            have hd2 : decide (4000 - z < x) = false := by simpa using hb2
            go_wp2
            go_roundw
            case rel => exact ⟨k + 1, z + x, by omega, by go_num, by go_num, HN.out, trivial⟩
            case measure => simp [intOf]; omega
      · have hkn : k = n := by omega
        subst hkn
        have HT := runs_fit hat HL.out
        have HT : Hid (runsOk l) := HT
        have HZ : Hid (drZ (c : Int) l = destZ (strN (M.rtGo c (l.map Int.toNat)))) := runs_val c hc2 hat HL.out
        clear hat hlt hhi hlo hz0 hc0
        have hcvs : ∀ k, ∀ x ∈ M.rtGo c ((l.map Int.toNat).take k), x < 256 := fun k => isL_lt (M.rt_isL _ c hc2)
        have HV : Hid (∀ k, ∀ x ∈ M.rtGo c ((l.map Int.toNat).take k), x < 256) := hcvs
        clear hcvs
        go_wp2_with fail
        go_loopw [8, 9] (fun v i W => ∃ j : Nat, j ≤ k ∧ i = .int .i64 (j : Int) ∧ ownsB W w.heap.size v (M.rtGo c ((l.map Int.toNat).take j)) ∧ Below w.heap.size w W ∧ w.heap.size ≤ W.heap.size) (fun _ i _ => k - (intOf i).toNat)
        case atStart => exact ⟨0, Nat.zero_le _, rfl, by simpa [M.rtGo] using own_nil w w.heap.size (Nat.le_refl _), (Below.refl _ _).alloc (Nat.le_refl _) _, by simp⟩
        case round =>
          obtain ⟨j, hj, rfl, hown, hbel, hz⟩ := hrel
          by_cases hjk : j < k
          · have hjl : j < l.length := by have := HL.out; omega
            obtain ⟨X, hX1, hX2, hX3, hX4⟩ := HT.out j hjl
            have HCJ : Hid (w.cell? ⟨g, off + j, none⟩ = some (.int .i64 (X : Int))) := by have := HC.out j hjl; rw [hX1] at this; exact this
            have HS : Hid (M.rtGo c ((l.map Int.toNat).take (j + 1)) = M.rtGo c ((l.map Int.toNat).take j) ++ List.replicate X (48 + (c + j) % 2)) := hX4 c hc2
            have hlen : (M.rtGo c ((l.map Int.toNat).take j)).length + X ≤ 4000 := hX3 c
            have hem : ((c : Int) + (j : Int)).tmod 2 = (((c + j) % 2 : Nat) : Int) := by rw [Int.tmod_eq_emod_of_nonneg (by omega)]; omega
            have hy2 : (c + j) % 2 < 2 := by omega
            generalize (c + j) % 2 = y at *
            clear hX1 hX3 hX4
            generalize M.rtGo c ((l.map Int.toNat).take j) = L at *
            go_wp2_with fail
            go_loopw [8, 10] (fun v i W => ∃ q : Nat, q ≤ X ∧ i = .int .i64 (q : Int) ∧ ownsB W w.heap.size v (L ++ List.replicate q (48 + y)) ∧ Below w.heap.size w W ∧ w.heap.size ≤ W.heap.size) (fun _ i _ => X - (intOf i).toNat)
            case atStart => exact ⟨0, Nat.zero_le _, rfl, by simpa using hown, hbel, hz⟩
            case round =>
              clear hown hbel hz
              obtain ⟨q, hq, rfl, hown, hbel, hz⟩ := hrel
              have hcx : wr.cell? ⟨g, off + j, none⟩ = some (.int .i64 (X : Int)) := (hbel.cell (by exact hgz)).trans HCJ.out
              by_cases hqX : q < X
              · have HR : Hid (L ++ List.replicate (q + 1) (48 + y) = (L ++ List.replicate q (48 + y)) ++ [48 + y]) := by rw [List.append_assoc, List.replicate_succ']; exact rfl
                have hll : (L ++ List.replicate q (48 + y)).length ≤ 100000000 := by simp; omega
                generalize L ++ List.replicate q (48 + y) = L2 at *
                go_wp2_with (first | (at_builtin; refine app_byte w wr rfl (.tmp 61) (.tmp 68) rfl w.heap.size _ L2 (48 + y) _ (by omega) rfl hown rfl hll hz hbel ?_))
                intro v' w' hown' hbel' hz'
                clear hown hbel hz hcx
                go_wp2
                go_roundw
                case rel => exact ⟨q + 1, by omega, by go_num, by rw [HR.out]; exact hown', hbel', hz'⟩
                case measure => simp [intOf]; omega
              · have hqe : q = X := by omega
                subst hqe
                have ho2 : ownsB wr w.heap.size u8 (M.rtGo c ((l.map Int.toNat).take (j + 1))) := by rw [HS.out]; exact hown
                clear hown
                go_wp2
                go_roundw
                case rel => exact ⟨j + 1, by omega, by go_num, ho2, hbel, hz⟩
                case measure => simp [intOf]; omega
          · have hje : (l.map Int.toNat).take j = l.map Int.toNat := List.take_of_length_le (by have := HL.out; simp; omega)
            rw [hje] at hown
            have hV := HV.out j
            rw [hje] at hV
            have hcv := conv_own hown hV
            have HSZ : Hid ((strN (M.rtGo c (l.map Int.toNat))).size ≤ maxLen) := runs_size HT.out HL.out
            clear hown hV hje
            generalize M.rtGo c (l.map Int.toNat) = L at *
            go_wp2_with (first | (go_at_call 19; refine (specDestuff_any _ _ HSZ.out).mono ?_; rintro o w4 ⟨rfl, hb4⟩))
            go_ret2
            exact ⟨ret_tup HZ.out.symm, hbel.trans (hb4.mono hz)⟩
end Go.Proofs.Ytcenoecjihcjjaa
