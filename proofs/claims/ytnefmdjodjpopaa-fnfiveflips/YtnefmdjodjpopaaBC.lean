import Derived.Test.YtnefmdjodjpopaaBB
namespace Go.Proofs.Ytnefmdjodjpopaa
open Go.RowKit

/-- what l1walk answers -/
def swZ (s : ByteArray) : Nat × List Nat × Bool := if okT s 4000 = true then swF (lt s) (lt s).length 0 else (8, [], false)
/-- what stands in the world of l1walk's loop -/
structure wlI (w0 : World) (B ga : Nat) (L : List Nat) (v : Value) (p : List Nat) (w : World) : Prop where
  own : ownsB w B v p
  row : rowB w ga L.length (fun t => L.getD t 0)
  lt : ga < w.heap.size
  ne : v.ownBlock ≠ some ga
  bel : Below B w0 w
  le : B ≤ w.heap.size
theorem rowB.block {w w' : World} {g n : Nat} {f : Nat → Nat} (h : rowB w g n f) (hb : w'.heap[g]? = w.heap[g]?) : rowB w' g n f :=
  ⟨fun t ht => by rw [← h.cell t ht]; simp only [World.cell?, hb], fun t ht => by rw [← h.free t ht]; simp only [World.frozen?, hb]⟩
theorem wlI.below {w0 : World} {B ga : Nat} {L : List Nat} {v : Value} {p : List Nat} {w w' : World} (h : wlI w0 B ga L v p w) (hb : Below w.heap.size w w') : wlI w0 B ga L v p w' :=
  ⟨h.own.below hb, h.row.block (hb.block ga h.lt), Nat.lt_of_lt_of_le h.lt hb.size, h.ne, h.bel.trans (hb.mono h.le), Nat.le_trans h.le hb.size⟩
theorem wlI.app {w0 : World} {B ga : Nat} {L : List Nat} {v v' : Value} {p p' : List Nat} {w w' : World} (h : wlI w0 B ga L v p w) (ho : ownsB w' B v' p') (hb : Below B w0 w') (hk : ∀ g, g < w.heap.size → v.ownBlock ≠ some g → w'.heap[g]? = w.heap[g]? ∧ v'.ownBlock ≠ some g) (hz : w.heap.size ≤ w'.heap.size) : wlI w0 B ga L v' p' w' :=
  ⟨ho, h.row.block (hk ga h.lt h.ne).1, Nat.lt_of_lt_of_le h.lt hz, (hk ga h.lt h.ne).2, hb, Nat.le_trans h.le hz⟩
theorem convS (s : ByteArray) (w : World) : ∃ cap w', (convert 9 28 (.string s)).run Try.prog w = .ok (.slice (some ⟨w.heap.size, 0, none⟩) s.size cap) w' ∧ rowB w' w.heap.size s.size (fun t => (lt s).getD t 0) ∧ Below w.heap.size w w' ∧ w'.heap.size = w.heap.size + 1 := by
  refine ⟨_, _, run_bytes_of_string w 9 28 5 s Try.underlying9 Try.underlying28 Try.underlying5, rowB_bytes w.drew s _, (Below.refl w.heap.size w).drew.alloc (Nat.le_refl _) _, by simp⟩
theorem swF_succ (L : List Nat) (f i : Nat) : swF L (f + 1) i = if goesOnB (sw L i).1 = true then swF L f (i + 1) else (7, (sw L i).2.1, false) := rfl
theorem sw_due0 (L : List Nat) (k : Nat) (h : (sw L k).2.2 = true) : ∃ m, k = m + 1 := by
  cases k with
  | zero => cases h
  | succ m => exact ⟨m, rfl⟩
set_option maxHeartbeats 8000000 in
set_option maxRecDepth 20000 in
theorem l1walk_ok (s : ByteArray) (w : World) (hs : s.size ≤ maxLen) (hk : okT s 4000 = true) :
    Calls Try.prog 67 #[.string s] w fun e w' => ∃ v, e = .returned (.tuple #[.int .i64 ((swZ s).1 : Nat), v, .bool (swZ s).2.2]) ∧ ownsB w' w.heap.size v (swZ s).2.1 ∧ Below w.heap.size w w' := by
  have hsz := okT_size hk
  have HZ : Hid (swZ s = swF (lt s) s.size 0) := by unfold Hid swZ; rw [if_pos hk, lt_length]
  have HK : Hid (∀ x ∈ lt s, M.isL x) := lt_isL hk
  have HKK : Hid (okT s 4000 = true) := hk
  clear hk
  have hs' : s.size ≤ 100000 := by omega
  have HS : Hid (s.size ≤ maxLen) := hs
  clear hs
  obtain ⟨cap, wc, hcv, hrow, hbc, hzc⟩ := convS s (w.alloc (.cells #[] 5))
  go_enter Try.func67, Try.ntmps67
  go_wp2_with (go_at_call 48; refine (okBits_any _ _ _ HS.out).mono ?_; rw [HKK.out]; rintro e w1 ⟨rfl, rfl⟩)
  have st0 : wlI w w.heap.size (w.heap.size + 1) (lt s) (.slice (some ⟨w.heap.size, 0, none⟩) 0 0) [] wc := by
    have e : (w.alloc (.cells #[] 5)).heap.size = w.heap.size + 1 := by simp
    rw [e] at hrow hbc hzc
    refine ⟨(own_nil w w.heap.size (Nat.le_refl _)).below (by rw [e]; exact hbc), by rw [lt_length]; exact hrow, by omega, by simp [Value.ownBlock], ((Below.refl w.heap.size w).alloc (Nat.le_refl _) _).trans (hbc.mono (by omega)), by omega⟩
  clear hcv hrow hbc hzc
  generalize hga : w.heap.size + 1 = ga at *
  have HLen : Hid ((lt s).length = s.size) := lt_length s
  generalize hLs : lt s = L at *
  clear hLs
  go_loopw [5, 7, 8, 9] (fun v c d i wr => ∃ k : Nat, k ≤ s.size ∧ i = .int .i64 k ∧ c = .int .i64 ((sw L k).1 : Nat) ∧ d = .bool (sw L k).2.2 ∧ wlI w w.heap.size ga L v (sw L k).2.1 wr ∧ swF L s.size 0 = swF L (s.size - k) k) (fun _ _ _ i _ => s.size - (intOf i).toNat)
  case atStart => exact ⟨0, Nat.zero_le _, rfl, rfl, rfl, st0, rfl⟩
  case round =>
    clear st0
    obtain ⟨k, hk, rfl, rfl, rfl, st, hsw⟩ := hrel
    by_cases hlt : k < s.size
    · have hnk : s.size - k = (s.size - (k + 1)) + 1 := by omega
      rw [hnk] at hsw
      rw [swF_succ] at hsw
      by_cases hgo : goesOnB (sw L k).1 = true
      · rw [if_pos hgo] at hsw
        have hL : k < L.length := by rw [HLen.out]; exact hlt
        have hv : M.isL (L.getD k 0) := by
          have e : L.getD k 0 = L[k] := by simp [hL]
          rw [e]; exact HK.out _ (List.getElem_mem hL)
        have hpl := sw_len L k
        have hps : ∀ x ∈ (sw L k).2.1, x < 256 := fun x hx => by rcases sw_small L HK.out k (by rw [HLen.out]; exact hk) x hx with h | h <;> omega
        have ck := st.row.cell k hL
        have HST : Hid (sw L (k + 1) = swStep L k (sw L k)) := rfl
        have HSW : Hid (swF L s.size 0 = swF L (s.size - (k + 1)) (k + 1)) := hsw
        have HD0 : Hid ((sw L k).2.2 = true → ∃ m, k = m + 1) := sw_due0 L k
        have hcode : (sw L k).1 = 0 ∨ (sw L k).1 = 1 := by simpa [goesOnB] using hgo
        have hvx : L.getD k 0 < 256 := by rcases hv with h | h <;> omega
        clear hsw hgo hnk
        unfold swStep at HST
        generalize (sw L k).1 = code at *
        generalize (sw L k).2.1 = p at *
        generalize (sw L k).2.2 = d at *
        have ST : Hid (wlI w w.heap.size ga L u5 p wr) := st
        have HV : Hid (M.isL (L.getD k 0)) := hv
        have hl1 : (lt s).length = (lt s).length := rfl
        clear st hv hl1
        rcases hcode with rfl | rfl
        · cases d
          · -- a plain letter
            have HR2 : Hid (sw L (k + 1) = (lookL p (L.getD k 0), p ++ [L.getD k 0], dueF (fun t => L.getD t 0) (k + 1) && (decide (fieldL (p ++ [L.getD k 0]) ≤ 10) || decide (fieldL (p ++ [L.getD k 0]) = 11)))) := HST.out
            clear HST HD0
            have HK1 : Hid ((k : Int) + 1 = ((k + 1 : Nat) : Int)) := by unfold Hid; omega
            have hps3 : ∀ x ∈ p ++ [L.getD k 0], x < 256 := by
              intro x hx
              rw [List.mem_append, List.mem_singleton] at hx
              rcases hx with hx | rfl
              · exact hps x hx
              · exact hvx
            obtain ⟨ao, cp, rfl, hby⟩ := ST.out.own.bytes hps
            have HC : Hid (∀ w', Below wr.heap.size wr w' → w'.cell? ⟨ga, k, none⟩ = some (.int .u8 (L.getD k 0 : Nat))) := fun w' hb => (ST.out.below hb).row.cell k hL
            have HL90 : Hid (Calls Try.prog 90 #[.slice ao p.length cp, .int .u8 (L.getD k 0 : Nat)] wr fun e w' => e = .returned (.int .i64 (lookL p (L.getD k 0) : Nat)) ∧ Below wr.heap.size wr w') := l1look_any wr ao _ cp p (L.getD k 0) HV.out hby (by omega)
            clear hby hps
            generalize L.getD k 0 = c at *
            go_wp2_with fail
            refine HL90.out.mono ?_
            rintro e w2 ⟨rfl, hb2⟩
            have st2 := ST.out.below hb2
            have ck2 := HC.out w2 hb2
            clear ck HC HL90 ST hb2
            generalize lookL p c = code2 at *
            go_wp2_with (at_builtin; refine app_byte3 w w2 rfl (.tmp 47) (.tmp 52) rfl w.heap.size _ p c _ rfl rfl st2.own rfl (by omega) st2.le st2.bel ?_)
            intro v3 w3 ho3 hb3 hk3 hz3
            have st3 := st2.app ho3 hb3 hk3 hz3
            clear st2 ho3 hb3 hk3 hz3 ck2
            have row3 : rowB w3 ga s.size (fun t => L.getD t 0) := by rw [← HLen.out]; exact st3.row
            go_wp2_with fail
            rw [HK1.out]
            refine (due_any _ ga s.size cap (k + 1) _ row3 (by omega) (by omega)).mono ?_
            rintro e w4 ⟨rfl, q, rfl⟩
            have st4 : wlI w w.heap.size ga L _ (p ++ [c]) (w3.drewN q) := st3.below (below_drewN (Below.refl _ _) q)
            clear row3
            cases hD : dueF (fun t => L.getD t 0) (k + 1)
            · have HR3 : Hid (sw L (k + 1) = (code2, (p ++ [c]), false)) := by unfold Hid; rw [HR2.out, hD]; rfl
              clear HR2 hD
              go_wp2
              go_roundw
              case rel => exact ⟨k + 1, by omega, by go_num, by rw [HR3.out] <;> rfl, by rw [HR3.out], by rw [HR3.out]; exact st4, HSW.out⟩
              case measure => simp [intOf]; omega
            · have HR3 : Hid (sw L (k + 1) = (code2, (p ++ [c]), decide (fieldL ((p ++ [c])) ≤ 10) || decide (fieldL ((p ++ [c])) = 11))) := by unfold Hid; rw [HR2.out, hD]; rfl
              clear HR2 hD
              obtain ⟨ao3, cp3, rfl, hby3⟩ := st4.own.bytes hps3
              have H68 : Hid (Calls Try.prog 68 #[.slice ao3 ((p ++ [c])).length cp3] (w3.drewN q) fun e w' => e = .returned (.int .i64 (fieldL ((p ++ [c])) : Nat)) ∧ w3.drewN q = w') := l1field_any _ ao3 _ cp3 _ hby3 (by first | omega | (simp; omega))
              have ST4 : Hid (wlI w w.heap.size ga L (.slice ao3 ((p ++ [c])).length cp3) ((p ++ [c])) (w3.drewN q)) := st4
              clear st4 hby3
              generalize fieldL ((p ++ [c])) = F at *
              generalize (p ++ [c]) = p3 at *
              by_cases hF : F ≤ 10
              · have hF' : (F : Int) ≤ 10 := by omega
                have HR4 : Hid (sw L (k + 1) = (code2, p3, true)) := by unfold Hid; rw [HR3.out, decide_eq_true hF]; rfl
                clear HR3 hF
                go_wp2_with (go_at_call 68; refine H68.out.mono ?_; rintro e w5 ⟨rfl, rfl⟩)
                go_roundw
                case rel => exact ⟨k + 1, by omega, by go_num, by rw [HR4.out] <;> rfl, by rw [HR4.out], by rw [HR4.out]; exact ST4.out, HSW.out⟩
                case measure => simp [intOf]; omega
              · have hF' : ¬ (F : Int) ≤ 10 := by omega
                have HR4 : Hid (sw L (k + 1) = (code2, p3, ((F : Int) == 11))) := by
                  unfold Hid; rw [HR3.out, decide_eq_false hF, Bool.false_or]
                  congr 2
                  rw [Bool.eq_iff_iff]; simp; omega
                have HFn : Hid (decide ((F : Int) ≤ 10) = false) := decide_eq_false hF'
                clear HR3 hF
                go_wp2_with (go_at_call 68; refine H68.out.mono ?_; rintro e w5 ⟨rfl, rfl⟩)
                go_roundw
                case rel => exact ⟨k + 1, by omega, by go_num, by rw [HR4.out] <;> rfl, by rw [HR4.out, HFn.out] <;> rfl, by rw [HR4.out]; exact ST4.out, HSW.out⟩
                case measure => simp [intOf]; omega
          · -- a stuff letter is due
            obtain ⟨m, hm⟩ := HD0.out rfl
            have HR2 : Hid (sw L (k + 1) = (if L.getD k 0 = L.getD m 0 then 3 else 0, p, dueF (fun t => L.getD t 0) (k + 1) && (decide (fieldL p ≤ 10) || decide (fieldL p = 11)))) := by have := HST.out; rw [show k - 1 = m by omega] at this; exact this
            clear HST HD0
            have HK1 : Hid ((k : Int) + 1 = ((k + 1 : Nat) : Int)) := by unfold Hid; omega
            have hps3 := hps
            have hkm : (k : Int) - 1 = (m : Int) := by omega
            have cm : wr.cell? ⟨ga, m, none⟩ = some (.int .u8 (L.getD m 0 : Nat)) := ST.out.row.cell m (by omega)
            have st3 := ST.out.below (Below.refl wr.heap.size wr).drew
            clear ST hps HV
            have hmlt : (m : Int) < (s.size : Int) := by omega
            have hm0 : (0 : Int) ≤ (m : Int) := by omega
            clear hm
            by_cases hc : L.getD k 0 = L.getD m 0
            · have hc' : ((L.getD k 0 : Int) == (L.getD m 0 : Int)) = true := by rw [hc]; exact beq_self_eq_true _
              have HR2' : Hid (sw L (k + 1) = (3, p, dueF (fun t => L.getD t 0) (k + 1) && (decide (fieldL p ≤ 10) || decide (fieldL p = 11)))) := by unfold Hid; rw [HR2.out, if_pos hc]
              clear HR2 hc
              have HR2 := HR2'
              clear HR2'
              generalize L.getD k 0 = c at *
              generalize L.getD m 0 = c1 at *
              go_wp2
              go_region
              all_goals
                go_wp2_with fail
                generalize wr.drew = wd at *
                have row3 : rowB wd ga s.size (fun t => L.getD t 0) := by rw [← HLen.out]; exact st3.row
                go_wp2_with fail
                rw [HK1.out]
                refine (due_any _ ga s.size cap (k + 1) _ row3 (by omega) (by omega)).mono ?_
                rintro e w4 ⟨rfl, q, rfl⟩
                have st4 : wlI w w.heap.size ga L _ p (wd.drewN q) := st3.below (below_drewN (Below.refl _ _) q)
                clear row3
                cases hD : dueF (fun t => L.getD t 0) (k + 1)
                · have HR3 : Hid (sw L (k + 1) = (3, p, false)) := by unfold Hid; rw [HR2.out, hD]; rfl
                  clear HR2 hD
                  go_wp2
                  go_roundw
                  case rel => exact ⟨k + 1, by omega, by go_num, by rw [HR3.out] <;> rfl, by rw [HR3.out], by rw [HR3.out]; exact st4, HSW.out⟩
                  case measure => simp [intOf]; omega
                · have HR3 : Hid (sw L (k + 1) = (3, p, decide (fieldL (p) ≤ 10) || decide (fieldL (p) = 11))) := by unfold Hid; rw [HR2.out, hD]; rfl
                  clear HR2 hD
                  obtain ⟨ao3, cp3, rfl, hby3⟩ := st4.own.bytes hps3
                  have H68 : Hid (Calls Try.prog 68 #[.slice ao3 (p).length cp3] (wd.drewN q) fun e w' => e = .returned (.int .i64 (fieldL (p) : Nat)) ∧ wd.drewN q = w') := l1field_any _ ao3 _ cp3 _ hby3 (by first | omega | (simp; omega))
                  have ST4 : Hid (wlI w w.heap.size ga L (.slice ao3 (p).length cp3) (p) (wd.drewN q)) := st4
                  clear st4 hby3
                  generalize fieldL (p) = F at *
                  generalize p = p3 at *
                  by_cases hF : F ≤ 10
                  · have hF' : (F : Int) ≤ 10 := by omega
                    have HR4 : Hid (sw L (k + 1) = (3, p3, true)) := by unfold Hid; rw [HR3.out, decide_eq_true hF]; rfl
                    clear HR3 hF
                    go_wp2_with (go_at_call 68; refine H68.out.mono ?_; rintro e w5 ⟨rfl, rfl⟩)
                    go_roundw
                    case rel => exact ⟨k + 1, by omega, by go_num, by rw [HR4.out] <;> rfl, by rw [HR4.out], by rw [HR4.out]; exact ST4.out, HSW.out⟩
                    case measure => simp [intOf]; omega
                  · have hF' : ¬ (F : Int) ≤ 10 := by omega
                    have HR4 : Hid (sw L (k + 1) = (3, p3, ((F : Int) == 11))) := by
                      unfold Hid; rw [HR3.out, decide_eq_false hF, Bool.false_or]
                      congr 2
                      rw [Bool.eq_iff_iff]; simp; omega
                    have HFn : Hid (decide ((F : Int) ≤ 10) = false) := decide_eq_false hF'
                    clear HR3 hF
                    go_wp2_with (go_at_call 68; refine H68.out.mono ?_; rintro e w5 ⟨rfl, rfl⟩)
                    go_roundw
                    case rel => exact ⟨k + 1, by omega, by go_num, by rw [HR4.out] <;> rfl, by rw [HR4.out, HFn.out] <;> rfl, by rw [HR4.out]; exact ST4.out, HSW.out⟩
                    case measure => simp [intOf]; omega
            · have hc' : ((L.getD k 0 : Int) == (L.getD m 0 : Int)) = false := by rw [beq_eq_false_iff_ne]; omega
              have HR2' : Hid (sw L (k + 1) = (0, p, dueF (fun t => L.getD t 0) (k + 1) && (decide (fieldL p ≤ 10) || decide (fieldL p = 11)))) := by unfold Hid; rw [HR2.out, if_neg hc]
              clear HR2 hc
              have HR2 := HR2'
              clear HR2'
              generalize L.getD k 0 = c at *
              generalize L.getD m 0 = c1 at *
              go_wp2
              go_region
              all_goals
                go_wp2_with fail
                generalize wr.drew = wd at *
                have row3 : rowB wd ga s.size (fun t => L.getD t 0) := by rw [← HLen.out]; exact st3.row
                go_wp2_with fail
                rw [HK1.out]
                refine (due_any _ ga s.size cap (k + 1) _ row3 (by omega) (by omega)).mono ?_
                rintro e w4 ⟨rfl, q, rfl⟩
                have st4 : wlI w w.heap.size ga L _ p (wd.drewN q) := st3.below (below_drewN (Below.refl _ _) q)
                clear row3
                cases hD : dueF (fun t => L.getD t 0) (k + 1)
                · have HR3 : Hid (sw L (k + 1) = (0, p, false)) := by unfold Hid; rw [HR2.out, hD]; rfl
                  clear HR2 hD
                  go_wp2
                  go_roundw
                  case rel => exact ⟨k + 1, by omega, by go_num, by rw [HR3.out] <;> rfl, by rw [HR3.out], by rw [HR3.out]; exact st4, HSW.out⟩
                  case measure => simp [intOf]; omega
                · have HR3 : Hid (sw L (k + 1) = (0, p, decide (fieldL (p) ≤ 10) || decide (fieldL (p) = 11))) := by unfold Hid; rw [HR2.out, hD]; rfl
                  clear HR2 hD
                  obtain ⟨ao3, cp3, rfl, hby3⟩ := st4.own.bytes hps3
                  have H68 : Hid (Calls Try.prog 68 #[.slice ao3 (p).length cp3] (wd.drewN q) fun e w' => e = .returned (.int .i64 (fieldL (p) : Nat)) ∧ wd.drewN q = w') := l1field_any _ ao3 _ cp3 _ hby3 (by first | omega | (simp; omega))
                  have ST4 : Hid (wlI w w.heap.size ga L (.slice ao3 (p).length cp3) (p) (wd.drewN q)) := st4
                  clear st4 hby3
                  generalize fieldL (p) = F at *
                  generalize p = p3 at *
                  by_cases hF : F ≤ 10
                  · have hF' : (F : Int) ≤ 10 := by omega
                    have HR4 : Hid (sw L (k + 1) = (0, p3, true)) := by unfold Hid; rw [HR3.out, decide_eq_true hF]; rfl
                    clear HR3 hF
                    go_wp2_with (go_at_call 68; refine H68.out.mono ?_; rintro e w5 ⟨rfl, rfl⟩)
                    go_roundw
                    case rel => exact ⟨k + 1, by omega, by go_num, by rw [HR4.out] <;> rfl, by rw [HR4.out], by rw [HR4.out]; exact ST4.out, HSW.out⟩
                    case measure => simp [intOf]; omega
                  · have hF' : ¬ (F : Int) ≤ 10 := by omega
                    have HR4 : Hid (sw L (k + 1) = (0, p3, ((F : Int) == 11))) := by
                      unfold Hid; rw [HR3.out, decide_eq_false hF, Bool.false_or]
                      congr 2
                      rw [Bool.eq_iff_iff]; simp; omega
                    have HFn : Hid (decide ((F : Int) ≤ 10) = false) := decide_eq_false hF'
                    clear HR3 hF
                    go_wp2_with (go_at_call 68; refine H68.out.mono ?_; rintro e w5 ⟨rfl, rfl⟩)
                    go_roundw
                    case rel => exact ⟨k + 1, by omega, by go_num, by rw [HR4.out] <;> rfl, by rw [HR4.out, HFn.out] <;> rfl, by rw [HR4.out]; exact ST4.out, HSW.out⟩
                    case measure => simp [intOf]; omega
        · cases d
          · -- a plain letter
            have HR2 : Hid (sw L (k + 1) = (lookL p (L.getD k 0), p ++ [L.getD k 0], dueF (fun t => L.getD t 0) (k + 1) && (decide (fieldL (p ++ [L.getD k 0]) ≤ 10) || decide (fieldL (p ++ [L.getD k 0]) = 11)))) := HST.out
            clear HST HD0
            have HK1 : Hid ((k : Int) + 1 = ((k + 1 : Nat) : Int)) := by unfold Hid; omega
            have hps3 : ∀ x ∈ p ++ [L.getD k 0], x < 256 := by
              intro x hx
              rw [List.mem_append, List.mem_singleton] at hx
              rcases hx with hx | rfl
              · exact hps x hx
              · exact hvx
            obtain ⟨ao, cp, rfl, hby⟩ := ST.out.own.bytes hps
            have HC : Hid (∀ w', Below wr.heap.size wr w' → w'.cell? ⟨ga, k, none⟩ = some (.int .u8 (L.getD k 0 : Nat))) := fun w' hb => (ST.out.below hb).row.cell k hL
            have HL90 : Hid (Calls Try.prog 90 #[.slice ao p.length cp, .int .u8 (L.getD k 0 : Nat)] wr fun e w' => e = .returned (.int .i64 (lookL p (L.getD k 0) : Nat)) ∧ Below wr.heap.size wr w') := l1look_any wr ao _ cp p (L.getD k 0) HV.out hby (by omega)
            clear hby hps
            generalize L.getD k 0 = c at *
            go_wp2_with fail
            refine HL90.out.mono ?_
            rintro e w2 ⟨rfl, hb2⟩
            have st2 := ST.out.below hb2
            have ck2 := HC.out w2 hb2
            clear ck HC HL90 ST hb2
            generalize lookL p c = code2 at *
            go_wp2_with (at_builtin; refine app_byte3 w w2 rfl (.tmp 47) (.tmp 52) rfl w.heap.size _ p c _ rfl rfl st2.own rfl (by omega) st2.le st2.bel ?_)
            intro v3 w3 ho3 hb3 hk3 hz3
            have st3 := st2.app ho3 hb3 hk3 hz3
            clear st2 ho3 hb3 hk3 hz3 ck2
            have row3 : rowB w3 ga s.size (fun t => L.getD t 0) := by rw [← HLen.out]; exact st3.row
            go_wp2_with fail
            rw [HK1.out]
            refine (due_any _ ga s.size cap (k + 1) _ row3 (by omega) (by omega)).mono ?_
            rintro e w4 ⟨rfl, q, rfl⟩
            have st4 : wlI w w.heap.size ga L _ (p ++ [c]) (w3.drewN q) := st3.below (below_drewN (Below.refl _ _) q)
            clear row3
            cases hD : dueF (fun t => L.getD t 0) (k + 1)
            · have HR3 : Hid (sw L (k + 1) = (code2, (p ++ [c]), false)) := by unfold Hid; rw [HR2.out, hD]; rfl
              clear HR2 hD
              go_wp2
              go_roundw
              case rel => exact ⟨k + 1, by omega, by go_num, by rw [HR3.out] <;> rfl, by rw [HR3.out], by rw [HR3.out]; exact st4, HSW.out⟩
              case measure => simp [intOf]; omega
            · have HR3 : Hid (sw L (k + 1) = (code2, (p ++ [c]), decide (fieldL ((p ++ [c])) ≤ 10) || decide (fieldL ((p ++ [c])) = 11))) := by unfold Hid; rw [HR2.out, hD]; rfl
              clear HR2 hD
              obtain ⟨ao3, cp3, rfl, hby3⟩ := st4.own.bytes hps3
              have H68 : Hid (Calls Try.prog 68 #[.slice ao3 ((p ++ [c])).length cp3] (w3.drewN q) fun e w' => e = .returned (.int .i64 (fieldL ((p ++ [c])) : Nat)) ∧ w3.drewN q = w') := l1field_any _ ao3 _ cp3 _ hby3 (by first | omega | (simp; omega))
              have ST4 : Hid (wlI w w.heap.size ga L (.slice ao3 ((p ++ [c])).length cp3) ((p ++ [c])) (w3.drewN q)) := st4
              clear st4 hby3
              generalize fieldL ((p ++ [c])) = F at *
              generalize (p ++ [c]) = p3 at *
              by_cases hF : F ≤ 10
              · have hF' : (F : Int) ≤ 10 := by omega
                have HR4 : Hid (sw L (k + 1) = (code2, p3, true)) := by unfold Hid; rw [HR3.out, decide_eq_true hF]; rfl
                clear HR3 hF
                go_wp2_with (go_at_call 68; refine H68.out.mono ?_; rintro e w5 ⟨rfl, rfl⟩)
                go_roundw
                case rel => exact ⟨k + 1, by omega, by go_num, by rw [HR4.out] <;> rfl, by rw [HR4.out], by rw [HR4.out]; exact ST4.out, HSW.out⟩
                case measure => simp [intOf]; omega
              · have hF' : ¬ (F : Int) ≤ 10 := by omega
                have HR4 : Hid (sw L (k + 1) = (code2, p3, ((F : Int) == 11))) := by
                  unfold Hid; rw [HR3.out, decide_eq_false hF, Bool.false_or]
                  congr 2
                  rw [Bool.eq_iff_iff]; simp; omega
                have HFn : Hid (decide ((F : Int) ≤ 10) = false) := decide_eq_false hF'
                clear HR3 hF
                go_wp2_with (go_at_call 68; refine H68.out.mono ?_; rintro e w5 ⟨rfl, rfl⟩)
                go_roundw
                case rel => exact ⟨k + 1, by omega, by go_num, by rw [HR4.out] <;> rfl, by rw [HR4.out, HFn.out] <;> rfl, by rw [HR4.out]; exact ST4.out, HSW.out⟩
                case measure => simp [intOf]; omega
          · -- a stuff letter is due
            obtain ⟨m, hm⟩ := HD0.out rfl
            have HR2 : Hid (sw L (k + 1) = (if L.getD k 0 = L.getD m 0 then 3 else 0, p, dueF (fun t => L.getD t 0) (k + 1) && (decide (fieldL p ≤ 10) || decide (fieldL p = 11)))) := by have := HST.out; rw [show k - 1 = m by omega] at this; exact this
            clear HST HD0
            have HK1 : Hid ((k : Int) + 1 = ((k + 1 : Nat) : Int)) := by unfold Hid; omega
            have hps3 := hps
            have hkm : (k : Int) - 1 = (m : Int) := by omega
            have cm : wr.cell? ⟨ga, m, none⟩ = some (.int .u8 (L.getD m 0 : Nat)) := ST.out.row.cell m (by omega)
            have st3 := ST.out.below (Below.refl wr.heap.size wr).drew
            clear ST hps HV
            have hmlt : (m : Int) < (s.size : Int) := by omega
            have hm0 : (0 : Int) ≤ (m : Int) := by omega
            clear hm
            by_cases hc : L.getD k 0 = L.getD m 0
            · have hc' : ((L.getD k 0 : Int) == (L.getD m 0 : Int)) = true := by rw [hc]; exact beq_self_eq_true _
              have HR2' : Hid (sw L (k + 1) = (3, p, dueF (fun t => L.getD t 0) (k + 1) && (decide (fieldL p ≤ 10) || decide (fieldL p = 11)))) := by unfold Hid; rw [HR2.out, if_pos hc]
              clear HR2 hc
              have HR2 := HR2'
              clear HR2'
              generalize L.getD k 0 = c at *
              generalize L.getD m 0 = c1 at *
              go_wp2
              go_region
              all_goals
                go_wp2_with fail
                generalize wr.drew = wd at *
                have row3 : rowB wd ga s.size (fun t => L.getD t 0) := by rw [← HLen.out]; exact st3.row
                go_wp2_with fail
                rw [HK1.out]
                refine (due_any _ ga s.size cap (k + 1) _ row3 (by omega) (by omega)).mono ?_
                rintro e w4 ⟨rfl, q, rfl⟩
                have st4 : wlI w w.heap.size ga L _ p (wd.drewN q) := st3.below (below_drewN (Below.refl _ _) q)
                clear row3
                cases hD : dueF (fun t => L.getD t 0) (k + 1)
                · have HR3 : Hid (sw L (k + 1) = (3, p, false)) := by unfold Hid; rw [HR2.out, hD]; rfl
                  clear HR2 hD
                  go_wp2
                  go_roundw
                  case rel => exact ⟨k + 1, by omega, by go_num, by rw [HR3.out] <;> rfl, by rw [HR3.out], by rw [HR3.out]; exact st4, HSW.out⟩
                  case measure => simp [intOf]; omega
                · have HR3 : Hid (sw L (k + 1) = (3, p, decide (fieldL (p) ≤ 10) || decide (fieldL (p) = 11))) := by unfold Hid; rw [HR2.out, hD]; rfl
                  clear HR2 hD
                  obtain ⟨ao3, cp3, rfl, hby3⟩ := st4.own.bytes hps3
                  have H68 : Hid (Calls Try.prog 68 #[.slice ao3 (p).length cp3] (wd.drewN q) fun e w' => e = .returned (.int .i64 (fieldL (p) : Nat)) ∧ wd.drewN q = w') := l1field_any _ ao3 _ cp3 _ hby3 (by first | omega | (simp; omega))
                  have ST4 : Hid (wlI w w.heap.size ga L (.slice ao3 (p).length cp3) (p) (wd.drewN q)) := st4
                  clear st4 hby3
                  generalize fieldL (p) = F at *
                  generalize p = p3 at *
                  by_cases hF : F ≤ 10
                  · have hF' : (F : Int) ≤ 10 := by omega
                    have HR4 : Hid (sw L (k + 1) = (3, p3, true)) := by unfold Hid; rw [HR3.out, decide_eq_true hF]; rfl
                    clear HR3 hF
                    go_wp2_with (go_at_call 68; refine H68.out.mono ?_; rintro e w5 ⟨rfl, rfl⟩)
                    go_roundw
                    case rel => exact ⟨k + 1, by omega, by go_num, by rw [HR4.out] <;> rfl, by rw [HR4.out], by rw [HR4.out]; exact ST4.out, HSW.out⟩
                    case measure => simp [intOf]; omega
                  · have hF' : ¬ (F : Int) ≤ 10 := by omega
                    have HR4 : Hid (sw L (k + 1) = (3, p3, ((F : Int) == 11))) := by
                      unfold Hid; rw [HR3.out, decide_eq_false hF, Bool.false_or]
                      congr 2
                      rw [Bool.eq_iff_iff]; simp; omega
                    have HFn : Hid (decide ((F : Int) ≤ 10) = false) := decide_eq_false hF'
                    clear HR3 hF
                    go_wp2_with (go_at_call 68; refine H68.out.mono ?_; rintro e w5 ⟨rfl, rfl⟩)
                    go_roundw
                    case rel => exact ⟨k + 1, by omega, by go_num, by rw [HR4.out] <;> rfl, by rw [HR4.out, HFn.out] <;> rfl, by rw [HR4.out]; exact ST4.out, HSW.out⟩
                    case measure => simp [intOf]; omega
            · have hc' : ((L.getD k 0 : Int) == (L.getD m 0 : Int)) = false := by rw [beq_eq_false_iff_ne]; omega
              have HR2' : Hid (sw L (k + 1) = (0, p, dueF (fun t => L.getD t 0) (k + 1) && (decide (fieldL p ≤ 10) || decide (fieldL p = 11)))) := by unfold Hid; rw [HR2.out, if_neg hc]
              clear HR2 hc
              have HR2 := HR2'
              clear HR2'
              generalize L.getD k 0 = c at *
              generalize L.getD m 0 = c1 at *
              go_wp2
              go_region
              all_goals
                go_wp2_with fail
                generalize wr.drew = wd at *
                have row3 : rowB wd ga s.size (fun t => L.getD t 0) := by rw [← HLen.out]; exact st3.row
                go_wp2_with fail
                rw [HK1.out]
                refine (due_any _ ga s.size cap (k + 1) _ row3 (by omega) (by omega)).mono ?_
                rintro e w4 ⟨rfl, q, rfl⟩
                have st4 : wlI w w.heap.size ga L _ p (wd.drewN q) := st3.below (below_drewN (Below.refl _ _) q)
                clear row3
                cases hD : dueF (fun t => L.getD t 0) (k + 1)
                · have HR3 : Hid (sw L (k + 1) = (0, p, false)) := by unfold Hid; rw [HR2.out, hD]; rfl
                  clear HR2 hD
                  go_wp2
                  go_roundw
                  case rel => exact ⟨k + 1, by omega, by go_num, by rw [HR3.out] <;> rfl, by rw [HR3.out], by rw [HR3.out]; exact st4, HSW.out⟩
                  case measure => simp [intOf]; omega
                · have HR3 : Hid (sw L (k + 1) = (0, p, decide (fieldL (p) ≤ 10) || decide (fieldL (p) = 11))) := by unfold Hid; rw [HR2.out, hD]; rfl
                  clear HR2 hD
                  obtain ⟨ao3, cp3, rfl, hby3⟩ := st4.own.bytes hps3
                  have H68 : Hid (Calls Try.prog 68 #[.slice ao3 (p).length cp3] (wd.drewN q) fun e w' => e = .returned (.int .i64 (fieldL (p) : Nat)) ∧ wd.drewN q = w') := l1field_any _ ao3 _ cp3 _ hby3 (by first | omega | (simp; omega))
                  have ST4 : Hid (wlI w w.heap.size ga L (.slice ao3 (p).length cp3) (p) (wd.drewN q)) := st4
                  clear st4 hby3
                  generalize fieldL (p) = F at *
                  generalize p = p3 at *
                  by_cases hF : F ≤ 10
                  · have hF' : (F : Int) ≤ 10 := by omega
                    have HR4 : Hid (sw L (k + 1) = (0, p3, true)) := by unfold Hid; rw [HR3.out, decide_eq_true hF]; rfl
                    clear HR3 hF
                    go_wp2_with (go_at_call 68; refine H68.out.mono ?_; rintro e w5 ⟨rfl, rfl⟩)
                    go_roundw
                    case rel => exact ⟨k + 1, by omega, by go_num, by rw [HR4.out] <;> rfl, by rw [HR4.out], by rw [HR4.out]; exact ST4.out, HSW.out⟩
                    case measure => simp [intOf]; omega
                  · have hF' : ¬ (F : Int) ≤ 10 := by omega
                    have HR4 : Hid (sw L (k + 1) = (0, p3, ((F : Int) == 11))) := by
                      unfold Hid; rw [HR3.out, decide_eq_false hF, Bool.false_or]
                      congr 2
                      rw [Bool.eq_iff_iff]; simp; omega
                    have HFn : Hid (decide ((F : Int) ≤ 10) = false) := decide_eq_false hF'
                    clear HR3 hF
                    go_wp2_with (go_at_call 68; refine H68.out.mono ?_; rintro e w5 ⟨rfl, rfl⟩)
                    go_roundw
                    case rel => exact ⟨k + 1, by omega, by go_num, by rw [HR4.out] <;> rfl, by rw [HR4.out, HFn.out] <;> rfl, by rw [HR4.out]; exact ST4.out, HSW.out⟩
                    case measure => simp [intOf]; omega
      · rw [if_neg hgo] at hsw
        have HR : Hid (swZ s = (7, (sw L k).2.1, false)) := by unfold Hid; rw [HZ.out]; exact hsw
        have n0 : (((sw L k).1 : Int) != 0) = true := by simp [goesOnB] at hgo; simp; omega
        have n1 : (((sw L k).1 : Int) != 1) = true := by simp [goesOnB] at hgo; simp; omega
        have ho := st.own
        have hb := st.bel
        clear hsw hgo st hnk
        generalize (sw L k).1 = code at *
        generalize (sw L k).2.1 = p at *
        generalize (sw L k).2.2 = d at *
        go_wp2
        refine bodyPost_ret (v := .tuple #[.int .i64 7, u5, .bool false]) (by simp [results, Try.results67, go_sem]) rfl ⟨u5, by rw [HR.out]; rfl, by rw [HR.out]; exact ho, hb⟩
    · have hke : s.size - k = 0 := by omega
      rw [hke] at hsw
      have HR : Hid (swZ s = sw L k) := by unfold Hid; rw [HZ.out]; exact hsw
      have ho := st.own
      have hb := st.bel
      clear hsw st hke
      generalize sw L k = r at *
      go_wp2
      refine bodyPost_ret (v := .tuple #[.int .i64 (r.1 : Nat), u5, .bool r.2.2]) (by simp [results, Try.results67, go_sem]) rfl ⟨u5, by rw [HR.out], by rw [HR.out]; exact ho, hb⟩
set_option maxRecDepth 20000 in
theorem l1walk_any (s : ByteArray) (w : World) (hs : s.size ≤ maxLen) :
    Calls Try.prog 67 #[.string s] w fun e w' => ∃ v, e = .returned (.tuple #[.int .i64 ((swZ s).1 : Nat), v, .bool (swZ s).2.2]) ∧ ownsB w' w.heap.size v (swZ s).2.1 ∧ Below w.heap.size w w' := by
  by_cases hk : okT s 4000 = true
  · exact l1walk_ok s w hs hk
  · have hk' : okT s 4000 = false := by simpa using hk
    have HZ : Hid (swZ s = (8, [], false)) := by unfold Hid swZ; rw [if_neg hk]
    have HS : Hid (s.size ≤ maxLen) := hs
    clear hk hs
    go_enter Try.func67, Try.ntmps67
    go_wp2_with (go_at_call 48; refine (okBits_any _ _ _ HS.out).mono ?_; rw [hk']; rintro e w1 ⟨rfl, rfl⟩)
    refine bodyPost_ret (v := .tuple #[.int .i64 8, .slice (some ⟨w.heap.size, 0, none⟩) 0 0, .bool false]) (by simp [results, Try.results67, go_sem]) rfl ⟨_, by rw [HZ.out]; rfl, by rw [HZ.out]; exact own_nil w w.heap.size (Nat.le_refl _), (Below.refl _ _).alloc (Nat.le_refl _) _⟩
end Go.Proofs.Ytnefmdjodjpopaa
