import Derived.Test.YtnefmdjodjpopaaBH
namespace Go.Proofs.Ytnefmdjodjpopaa
open Go.RowKit

theorem valL_ltn (l : List Nat) (m n : Nat) (h : l.length ≤ m) (hn : 2 ^ m ≤ n) : valL l < n := Nat.lt_of_lt_of_le (valL_lt l) (Nat.le_trans (Nat.pow_le_pow_right (by decide) h) hn)
theorem valL_lt11 (l : List Nat) : valL (l.take 11) < 2048 := valL_ltn _ 11 _ (by rw [List.length_take]; omega) (by decide)
theorem valL_lt8 (l : List Nat) : valL (l.take 8) < 256 := valL_ltn _ 8 _ (by rw [List.length_take]; omega) (by decide)
theorem valL_lt29 (l m : List Nat) : valL (l.take 11 ++ m.take 18) < 536870912 := valL_ltn _ 29 _ (by rw [List.length_append, List.length_take, List.length_take]; omega) (by decide)
theorem sdI.drew {w0 : World} {B R F g off cap : Nat} {p : List Nat} {e : Bool} {i : Nat} {r : Bool} {d : Nat} {v : Value} {l : List Nat} {W : World} (h : sdI w0 B R F g off cap p e i r d v l W) : sdI w0 B R F g off cap p e i r d v l W.drew :=
  ⟨h.fr, World.ownsRow.drew h.own, h.row.below (Below.refl _ _).drew, h.res, h.bel.drew, h.ne, h.dis⟩
theorem sd_end {w0 : World} {B F g off cap : Nat} {p : List Nat} {e : Bool} {i : Nat} {r : Bool} {d : Nat} {v : Value} {l : List Nat} {W : World} (h : sdI w0 B B F g off cap p e i r d v l W) (x0 x1 x2 x3 x4 : Value) :
    ownsB (((((W.setCell ⟨B, 0, none⟩ x0).setCell ⟨B, 1, none⟩ x1).setCell ⟨B, 2, none⟩ x2).setCell ⟨B, 3, none⟩ x3).setCell ⟨B, 4, none⟩ x4) B v l ∧ Below B w0 (((((W.setCell ⟨B, 0, none⟩ x0).setCell ⟨B, 1, none⟩ x1).setCell ⟨B, 2, none⟩ x2).setCell ⟨B, 3, none⟩ x3).setCell ⟨B, 4, none⟩ x4) := by
  have n := h.ne.2.2
  exact ⟨sd_own _ _ (sd_own _ _ (sd_own _ _ (sd_own _ _ (sd_own _ _ h.own n) n) n) n) n, ((((h.bel.setCell (p := ⟨B, 0, none⟩) (Nat.le_refl _) _).setCell (p := ⟨B, 1, none⟩) (Nat.le_refl _) _).setCell (p := ⟨B, 2, none⟩) (Nat.le_refl _) _).setCell (p := ⟨B, 3, none⟩) (Nat.le_refl _) _).setCell (p := ⟨B, 4, none⟩) (Nat.le_refl _) _⟩
set_option maxHeartbeats 2000000 in
set_option maxRecDepth 20000 in
theorem specDecode_19_1 (s : ByteArray) (w : World) (hs : s.size ≤ maxLen) (p : List Nat) (dd : Bool) (hz : swZ s = (1, p, dd)) (hH : layH p = 19) :
    Calls Try.prog 37 #[.string s] w fun e w' => ∃ ao cap, e = .returned (.tuple #[frV false (valL ((p.drop 1).take 11)) (decide (p.getD 12 0 = 49)) ((valL ((p.drop 15).take 4) : Nat) : Int) ao (datL p 19 (layN p)).length cap, .int .i64 1]) ∧ ownsB w' w.heap.size (.slice ao (datL p 19 (layN p)).length cap) (datL p 19 (layN p)) ∧ Below w.heap.size w w' := by
  have HS : Hid (s.size ≤ maxLen) := hs
  clear hs
  obtain ⟨hpl, hps⟩ := swZ_bytes s
  have h12 := swZ12 s (by rw [hz]; simp)
  have HW := l1walk_any s
  rw [hz] at hpl hps h12 HW
  dsimp only at hpl hps h12 HW
  have HW' : Hid (∀ w, s.size ≤ maxLen → Calls Try.prog 67 #[.string s] w fun e w' => ∃ v, e = .returned (.tuple #[.int .i64 (1 : Nat), v, .bool dd]) ∧ ownsB w' w.heap.size v p ∧ Below w.heap.size w w') := HW
  clear HW hz
  have hl2 := layL2 h12.1
  go_enter Try.func37, Try.ntmps37
  go_wp2_with fail
  refine (HW'.out _ HS.out).mono ?_
  rintro e w1 ⟨v, rfl, ho, hb1⟩
  obtain ⟨hr, hb⟩ := sd_res hb1
  have hsm : ∀ x ∈ p, x < 256 := fun x hx => by rcases hps x hx with h | h <;> omega
  obtain ⟨g, cap, rfl, hg1, hg2, -, -, -⟩ := ho.open (by intro e; rw [e] at h12; simp at h12)
  obtain ⟨ao, cap', hv', hby⟩ := ho.bytes hsm
  cases hv'
  have H81 : Hid (Calls Try.prog 81 #[.slice (some ⟨g, 0, none⟩) p.length cap] w1 fun e w' => e = .returned (.tuple #[.int .i64 ((layL p).1 : Nat), .int .i64 ((layL p).2 : Nat)]) ∧ w1 = w') := l1lay_any w1 _ _ cap _ hby (by omega)
  have hl1 : (layL p).1 = 19 := by
    unfold layL
    rw [if_neg (by omega), if_neg (by omega)]; exact hH
  rw [hl1, hl2] at H81
  have hcap := hby.cap
  have hE : endL p = 19 + 8 * layN p := by unfold endL; rw [hH]
  have hN := layN_le p
  have HV : Hid (∀ W a m, m ≤ 40 → Calls Try.prog 82 #[.string (strN ((p.drop a).take m))] W fun e w' => e = .returned (.int .i64 (valL ((p.drop a).take m) : Nat)) ∧ W = w') := fun W a m hm => l1val40 W (fun x hx => hsm x (List.mem_of_mem_drop (List.mem_of_mem_take hx))) (by rw [List.length_take]; omega)
  have hn2 := h12.2
  have HST : Hid (∀ d, sdI w w.heap.size w.heap.size (w1.heap.size + 1) g 0 cap p false 0 false d (.slice (some ⟨w1.heap.size, 0, none⟩) 0 0) [] ((w1.alloc (.cells #[] 5)).alloc (.cells #[.bool false, .int .u32 0, .bool false, .int .i64 (d : Int), .slice (some ⟨w1.heap.size, 0, none⟩) 0 0] 33))) := fun d => sdI.start d hr hb hby (by simp at hg1; omega) hg2 false
  have HCV : Hid (∀ W a m, a + m ≤ p.length → 0 < m → isBytes W (some ⟨g, 0, none⟩) p.length cap p → (convert 28 9 (.slice (some ⟨g, a, none⟩) m (cap - a))).run Try.prog W = .ok (.string (strN ((p.drop a).take m))) W) := by
    intro W a m h1 h2 h3
    have := convB (h3.sub a m (cap - a) (by omega) h2 (by omega))
    rwa [Nat.zero_add] at this
  have hcv1 := HCV.out w1 15 4 (by omega) (by decide) hby
  clear hl1 hl2 hb1 hby ho hps hH h12 hsm hr hb
  generalize hn : p.length = n at *
  generalize endL p = E at *
  generalize hNe : layN p = N at *
  have HNE : Hid (layN p = N) := hNe
  clear hNe
  have hv4 : valL ((p.drop 15).take 4) < 16 := val4_lt _
  have hv11 : valL ((p.drop 1).take 11) < 2048 := valL_lt11 _
  go_wp2_with (first | (go_at_call 81; refine H81.out.mono ?_; rintro e w2 ⟨rfl, rfl⟩) | (go_at_call 82; refine (HV.out _ 15 4 (by decide)).mono ?_; rintro e w2 ⟨rfl, rfl⟩))
  have st := HST.out (valL ((p.drop 15).take 4))
  have hcv2 := HCV.out _ 1 11 (by omega) (by decide) (by have := st.row; rw [hn] at this; exact this)
  rw [hcv2]
  clear hcv1 hcv2 H81 HST
  generalize (w1.alloc (.cells #[] 5)).alloc (.cells #[.bool false, .int .u32 0, .bool false, .int .i64 (valL ((p.drop 15).take 4) : Nat), .slice (some ⟨w1.heap.size, 0, none⟩) 0 0] 33) = W2 at *
  generalize w1.heap.size + 1 = F at *
  have HV11 := HV.out W2 1 11 (by decide)
  generalize ht11 : strN ((p.drop 1).take 11) = t11 at *
  generalize hv11e : valL ((p.drop 1).take 11) = v11 at *
  generalize hv4e : valL ((p.drop 15).take 4) = v4 at *
  have HV11E : Hid (valL ((p.drop 1).take 11) = v11) := hv11e
  have HV4E : Hid (valL ((p.drop 15).take 4) = v4) := hv4e
  have HT : Hid (strN ((p.drop 1).take 11) = t11) := ht11
  clear hv11e hv4e ht11
  have c12 := (st.set v11).row.at 12 (by omega)
  obtain ⟨d0, d1, d2, d3, d4, z0, z1, z2, z3, z4⟩ := st.cells
  have ST : Hid (sdI w w.heap.size w.heap.size F g 0 cap p false 0 false v4 (.slice (some ⟨w1.heap.size, 0, none⟩) 0 0) [] W2) := st
  clear st
  rw [Nat.zero_add] at c12
  generalize hx12 : p.getD 12 0 = x12 at *
  have HX12 : Hid (p.getD 12 0 = x12) := hx12
  clear hx12
  go_wp2_with (first | (go_at_call 82; refine HV11.mono ?_; rintro e w2 ⟨rfl, rfl⟩))
  have st := (ST.out.set v11).setr ((x12 : Int) == 49)
  generalize (W2.setCell ⟨F, 1, none⟩ (.int .u32 (v11 : Int))).setCell ⟨F, 2, none⟩ (.bool ((x12 : Int) == 49)) = W3 at *
  generalize hr12 : ((x12 : Int) == 49) = r12 at *
  have HR : Hid (decide (p.getD 12 0 = 49) = r12) := by unfold Hid; rw [HX12.out, ← hr12, Bool.eq_iff_iff]; simp; omega
  clear hr12
  clear ST HV11 d0 d1 d2 d3 d4 z0 z1 z2 z3 z4 c12 hg1 hg2
  go_loopw [10] (fun kk wr => ∃ j k v, j ≤ N ∧ k = 19 + 8 * j ∧ kk = .int .i64 ((k : Nat) : Int) ∧ sdI w w.heap.size w.heap.size F g 0 cap p false v11 r12 v4 v (datL p 19 j) wr) (fun kk _ => 27 + 8 * N - (intOf kk).toNat)
  case atStart => exact ⟨0, 19, _, Nat.zero_le _, rfl, rfl, by simpa [datL] using st⟩
  case round =>
    clear st
    obtain ⟨j, k, v, hj, hk, rfl, st⟩ := hrel
    by_cases hlt : j < N
    · have hlt' : (k : Int) + 8 ≤ 19 + 8 * (N : Int) := by omega
      have hcv := HCV.out wr.drew k 8 (by omega) (by decide) (by have := st.row; rw [hn] at this; exact this.below (Below.refl _ _).drew)
      have HV8 : Hid (∀ W, Calls Try.prog 82 #[.string (strN ((p.drop k).take 8))] W fun e w' => e = .returned (.int .i64 (valL ((p.drop k).take 8) : Nat)) ∧ W = w') := fun W => HV.out W k 8 (by decide)
      have HLN : Hid ((datL p 19 j).length ≤ 100000000) := by unfold Hid datL; simp; omega
      have HLB : Hid (w.heap.size ≤ wr.drew.heap.size) := st.dis.2.2.2.2.2.1
      have HD : Hid (datL p 19 (j + 1) = datL p 19 j ++ [valL ((p.drop k).take 8)]) := by unfold Hid; rw [hk]; exact datL_succ p 19 j
      have hv8 : valL ((p.drop k).take 8) < 256 := valL_lt8 _
      generalize strN ((p.drop k).take 8) = t8 at *
      generalize valL ((p.drop k).take 8) = v8 at *
      obtain ⟨d0, d1, d2, d3, d4, z0, z1, z2, z3, z4⟩ := st.cells
      have ST : Hid (sdI w w.heap.size w.heap.size F g 0 cap p false v11 r12 v4 v (datL p 19 j) wr) := st
      clear st
      have HU8 : Hid (IntKind.u8.wrap (v8 : Int) = (v8 : Int)) := by unfold Hid; simp [IntKind.wrap, IntKind.bits, IntKind.signed]; omega
      have hFl : F < wr.heap.size := lt_of_block ST.out.fr
      have d4a : (wr.alloc (.cells #[.int .u8 (IntKind.u8.wrap (v8 : Int))] 5)).cell? ⟨F, 4, none⟩ = some v := by rw [← d4]; simp only [World.cell?]; rw [Below.heap_alloc wr _ F hFl]
      have hkk : k + 8 ≤ n := by omega
      have hkc : k + 8 ≤ cap := by omega
      have hk9 : k ≤ 110 := by omega
      have HK : Hid (k = 19 + 8 * j) := hk
      have HJ : Hid (j < N) := hlt
      have i1 : (k : Int) + 8 ≤ (cap : Int) := by omega
      have i2 : (k : Int) ≤ (k : Int) + 8 := by omega
      have hck : ¬ cap = k := by omega
      have hw8 : IntKind.i64.wrap ((k : Int) + 8) = ((k + 8 : Nat) : Int) := by rw [wrap8 k hk9]; omega
      have hk8 : ((k : Int) + 8).toNat - k = 8 := by omega
      clear hk hlt hj
      go_wp2_with fail
      go_region_law (first | (go_simp; go_at_call 82; refine (HV8.out _).mono ?_; rintro e w2 ⟨rfl, rfl⟩) | (refine step_app w wr.drew _ rfl (by rfl) _ _ (by rfl) w.heap.size v (datL p 19 j) v8 HU8.out (by rfl) (World.ownsRow.drew ST.out.own) (by rfl) HLN.out HLB.out ST.out.bel.drew ?_; intro v' w3 ho3 hb3 hk3 hz3; obtain ⟨y4, f4⟩ := sd_keep ST.out hk3; obtain ⟨ao3, cp3, rfl⟩ := ho3.shapeB))
      all_goals
        have st3 := ST.out.app (W' := w3) ho3 hb3 hk3 hz3
        rw [show (datL p 19 j ++ [v8]).length = (datL p 19 j).length + 1 by simp, ← HD.out] at st3
        go_wp2
        go_roundw
        case rel => exact ⟨j + 1, k + 8, _, HJ.out, by have := HK.out; omega, by go_num, st3⟩
        case measure => have := HK.out; have := HJ.out; simp [intOf]; omega
    · have hlt' : ¬ (k : Int) + 8 ≤ 19 + 8 * (N : Int) := by omega
      have hjN : j = N := by omega
      subst hjN
      obtain ⟨ao3, cp3, rfl⟩ := st.own.shapeB
      obtain ⟨d0, d1, d2, d3, d4, z0, z1, z2, z3, z4⟩ := st.cells
      obtain ⟨e0, e1, e2, e3, e4, y0, y1, y2, y3, y4⟩ := st.cellsR
      have ST : Hid (sdI w w.heap.size w.heap.size F g 0 cap p false v11 r12 v4 (.slice ao3 (datL p 19 j).length cp3) (datL p 19 j) wr) := st
      clear st
      go_wp2
      have he := sd_end ST.out (.bool false) (.int .u32 (v11 : Int)) (.bool r12) (.int .i64 (v4 : Int)) (.slice ao3 (datL p 19 j).length cp3)
      refine bodyPost_ret (v := .tuple #[frV false v11 r12 (v4 : Int) ao3 (datL p 19 j).length cp3, .int .i64 1]) (by simp [results, Try.results37, go_sem, e0, e1, e2, e3, e4]) rfl ⟨ao3, cp3, ?_, ?_, ?_⟩
      · have q1 := HV11E.out; have q2 := HR.out
        rw [List.drop_one] at q1; rw [List.getD_eq_getElem?_getD] at q2
        rw [HNE.out, HV4E.out, q1, q2]
      · rw [HNE.out]; exact he.1
      · exact he.2
set_option maxHeartbeats 2000000 in
set_option maxRecDepth 20000 in
theorem specDecode_19_2 (s : ByteArray) (w : World) (hs : s.size ≤ maxLen) (p : List Nat) (dd : Bool) (hz : swZ s = (2, p, dd)) (hH : layH p = 19) :
    Calls Try.prog 37 #[.string s] w fun e w' => ∃ ao cap, e = .returned (.tuple #[frV false (valL ((p.drop 1).take 11)) (decide (p.getD 12 0 = 49)) ((valL ((p.drop 15).take 4) : Nat) : Int) ao (datL p 19 (layN p)).length cap, .int .i64 2]) ∧ ownsB w' w.heap.size (.slice ao (datL p 19 (layN p)).length cap) (datL p 19 (layN p)) ∧ Below w.heap.size w w' := by
  have HS : Hid (s.size ≤ maxLen) := hs
  clear hs
  obtain ⟨hpl, hps⟩ := swZ_bytes s
  have h12 := swZ12 s (by rw [hz]; simp)
  have HW := l1walk_any s
  rw [hz] at hpl hps h12 HW
  dsimp only at hpl hps h12 HW
  have HW' : Hid (∀ w, s.size ≤ maxLen → Calls Try.prog 67 #[.string s] w fun e w' => ∃ v, e = .returned (.tuple #[.int .i64 (2 : Nat), v, .bool dd]) ∧ ownsB w' w.heap.size v p ∧ Below w.heap.size w w') := HW
  clear HW hz
  have hl2 := layL2 h12.1
  go_enter Try.func37, Try.ntmps37
  go_wp2_with fail
  refine (HW'.out _ HS.out).mono ?_
  rintro e w1 ⟨v, rfl, ho, hb1⟩
  obtain ⟨hr, hb⟩ := sd_res hb1
  have hsm : ∀ x ∈ p, x < 256 := fun x hx => by rcases hps x hx with h | h <;> omega
  obtain ⟨g, cap, rfl, hg1, hg2, -, -, -⟩ := ho.open (by intro e; rw [e] at h12; simp at h12)
  obtain ⟨ao, cap', hv', hby⟩ := ho.bytes hsm
  cases hv'
  have H81 : Hid (Calls Try.prog 81 #[.slice (some ⟨g, 0, none⟩) p.length cap] w1 fun e w' => e = .returned (.tuple #[.int .i64 ((layL p).1 : Nat), .int .i64 ((layL p).2 : Nat)]) ∧ w1 = w') := l1lay_any w1 _ _ cap _ hby (by omega)
  have hl1 : (layL p).1 = 19 := by
    unfold layL
    rw [if_neg (by omega), if_neg (by omega)]; exact hH
  rw [hl1, hl2] at H81
  have hcap := hby.cap
  have hE : endL p = 19 + 8 * layN p := by unfold endL; rw [hH]
  have hN := layN_le p
  have HV : Hid (∀ W a m, m ≤ 40 → Calls Try.prog 82 #[.string (strN ((p.drop a).take m))] W fun e w' => e = .returned (.int .i64 (valL ((p.drop a).take m) : Nat)) ∧ W = w') := fun W a m hm => l1val40 W (fun x hx => hsm x (List.mem_of_mem_drop (List.mem_of_mem_take hx))) (by rw [List.length_take]; omega)
  have hn2 := h12.2
  have HST : Hid (∀ d, sdI w w.heap.size w.heap.size (w1.heap.size + 1) g 0 cap p false 0 false d (.slice (some ⟨w1.heap.size, 0, none⟩) 0 0) [] ((w1.alloc (.cells #[] 5)).alloc (.cells #[.bool false, .int .u32 0, .bool false, .int .i64 (d : Int), .slice (some ⟨w1.heap.size, 0, none⟩) 0 0] 33))) := fun d => sdI.start d hr hb hby (by simp at hg1; omega) hg2 false
  have HCV : Hid (∀ W a m, a + m ≤ p.length → 0 < m → isBytes W (some ⟨g, 0, none⟩) p.length cap p → (convert 28 9 (.slice (some ⟨g, a, none⟩) m (cap - a))).run Try.prog W = .ok (.string (strN ((p.drop a).take m))) W) := by
    intro W a m h1 h2 h3
    have := convB (h3.sub a m (cap - a) (by omega) h2 (by omega))
    rwa [Nat.zero_add] at this
  have hcv1 := HCV.out w1 15 4 (by omega) (by decide) hby
  clear hl1 hl2 hb1 hby ho hps hH h12 hsm hr hb
  generalize hn : p.length = n at *
  generalize endL p = E at *
  generalize hNe : layN p = N at *
  have HNE : Hid (layN p = N) := hNe
  clear hNe
  have hv4 : valL ((p.drop 15).take 4) < 16 := val4_lt _
  have hv11 : valL ((p.drop 1).take 11) < 2048 := valL_lt11 _
  go_wp2_with (first | (go_at_call 81; refine H81.out.mono ?_; rintro e w2 ⟨rfl, rfl⟩) | (go_at_call 82; refine (HV.out _ 15 4 (by decide)).mono ?_; rintro e w2 ⟨rfl, rfl⟩))
  have st := HST.out (valL ((p.drop 15).take 4))
  have hcv2 := HCV.out _ 1 11 (by omega) (by decide) (by have := st.row; rw [hn] at this; exact this)
  rw [hcv2]
  clear hcv1 hcv2 H81 HST
  generalize (w1.alloc (.cells #[] 5)).alloc (.cells #[.bool false, .int .u32 0, .bool false, .int .i64 (valL ((p.drop 15).take 4) : Nat), .slice (some ⟨w1.heap.size, 0, none⟩) 0 0] 33) = W2 at *
  generalize w1.heap.size + 1 = F at *
  have HV11 := HV.out W2 1 11 (by decide)
  generalize ht11 : strN ((p.drop 1).take 11) = t11 at *
  generalize hv11e : valL ((p.drop 1).take 11) = v11 at *
  generalize hv4e : valL ((p.drop 15).take 4) = v4 at *
  have HV11E : Hid (valL ((p.drop 1).take 11) = v11) := hv11e
  have HV4E : Hid (valL ((p.drop 15).take 4) = v4) := hv4e
  have HT : Hid (strN ((p.drop 1).take 11) = t11) := ht11
  clear hv11e hv4e ht11
  have c12 := (st.set v11).row.at 12 (by omega)
  obtain ⟨d0, d1, d2, d3, d4, z0, z1, z2, z3, z4⟩ := st.cells
  have ST : Hid (sdI w w.heap.size w.heap.size F g 0 cap p false 0 false v4 (.slice (some ⟨w1.heap.size, 0, none⟩) 0 0) [] W2) := st
  clear st
  rw [Nat.zero_add] at c12
  generalize hx12 : p.getD 12 0 = x12 at *
  have HX12 : Hid (p.getD 12 0 = x12) := hx12
  clear hx12
  go_wp2_with (first | (go_at_call 82; refine HV11.mono ?_; rintro e w2 ⟨rfl, rfl⟩))
  have st := (ST.out.set v11).setr ((x12 : Int) == 49)
  generalize (W2.setCell ⟨F, 1, none⟩ (.int .u32 (v11 : Int))).setCell ⟨F, 2, none⟩ (.bool ((x12 : Int) == 49)) = W3 at *
  generalize hr12 : ((x12 : Int) == 49) = r12 at *
  have HR : Hid (decide (p.getD 12 0 = 49) = r12) := by unfold Hid; rw [HX12.out, ← hr12, Bool.eq_iff_iff]; simp; omega
  clear hr12
  clear ST HV11 d0 d1 d2 d3 d4 z0 z1 z2 z3 z4 c12 hg1 hg2
  go_loopw [10] (fun kk wr => ∃ j k v, j ≤ N ∧ k = 19 + 8 * j ∧ kk = .int .i64 ((k : Nat) : Int) ∧ sdI w w.heap.size w.heap.size F g 0 cap p false v11 r12 v4 v (datL p 19 j) wr) (fun kk _ => 27 + 8 * N - (intOf kk).toNat)
  case atStart => exact ⟨0, 19, _, Nat.zero_le _, rfl, rfl, by simpa [datL] using st⟩
  case round =>
    clear st
    obtain ⟨j, k, v, hj, hk, rfl, st⟩ := hrel
    by_cases hlt : j < N
    · have hlt' : (k : Int) + 8 ≤ 19 + 8 * (N : Int) := by omega
      have hcv := HCV.out wr.drew k 8 (by omega) (by decide) (by have := st.row; rw [hn] at this; exact this.below (Below.refl _ _).drew)
      have HV8 : Hid (∀ W, Calls Try.prog 82 #[.string (strN ((p.drop k).take 8))] W fun e w' => e = .returned (.int .i64 (valL ((p.drop k).take 8) : Nat)) ∧ W = w') := fun W => HV.out W k 8 (by decide)
      have HLN : Hid ((datL p 19 j).length ≤ 100000000) := by unfold Hid datL; simp; omega
      have HLB : Hid (w.heap.size ≤ wr.drew.heap.size) := st.dis.2.2.2.2.2.1
      have HD : Hid (datL p 19 (j + 1) = datL p 19 j ++ [valL ((p.drop k).take 8)]) := by unfold Hid; rw [hk]; exact datL_succ p 19 j
      have hv8 : valL ((p.drop k).take 8) < 256 := valL_lt8 _
      generalize strN ((p.drop k).take 8) = t8 at *
      generalize valL ((p.drop k).take 8) = v8 at *
      obtain ⟨d0, d1, d2, d3, d4, z0, z1, z2, z3, z4⟩ := st.cells
      have ST : Hid (sdI w w.heap.size w.heap.size F g 0 cap p false v11 r12 v4 v (datL p 19 j) wr) := st
      clear st
      have HU8 : Hid (IntKind.u8.wrap (v8 : Int) = (v8 : Int)) := by unfold Hid; simp [IntKind.wrap, IntKind.bits, IntKind.signed]; omega
      have hFl : F < wr.heap.size := lt_of_block ST.out.fr
      have d4a : (wr.alloc (.cells #[.int .u8 (IntKind.u8.wrap (v8 : Int))] 5)).cell? ⟨F, 4, none⟩ = some v := by rw [← d4]; simp only [World.cell?]; rw [Below.heap_alloc wr _ F hFl]
      have hkk : k + 8 ≤ n := by omega
      have hkc : k + 8 ≤ cap := by omega
      have hk9 : k ≤ 110 := by omega
      have HK : Hid (k = 19 + 8 * j) := hk
      have HJ : Hid (j < N) := hlt
      have i1 : (k : Int) + 8 ≤ (cap : Int) := by omega
      have i2 : (k : Int) ≤ (k : Int) + 8 := by omega
      have hck : ¬ cap = k := by omega
      have hw8 : IntKind.i64.wrap ((k : Int) + 8) = ((k + 8 : Nat) : Int) := by rw [wrap8 k hk9]; omega
      have hk8 : ((k : Int) + 8).toNat - k = 8 := by omega
      clear hk hlt hj
      go_wp2_with fail
      go_region_law (first | (go_simp; go_at_call 82; refine (HV8.out _).mono ?_; rintro e w2 ⟨rfl, rfl⟩) | (refine step_app w wr.drew _ rfl (by rfl) _ _ (by rfl) w.heap.size v (datL p 19 j) v8 HU8.out (by rfl) (World.ownsRow.drew ST.out.own) (by rfl) HLN.out HLB.out ST.out.bel.drew ?_; intro v' w3 ho3 hb3 hk3 hz3; obtain ⟨y4, f4⟩ := sd_keep ST.out hk3; obtain ⟨ao3, cp3, rfl⟩ := ho3.shapeB))
      all_goals
        have st3 := ST.out.app (W' := w3) ho3 hb3 hk3 hz3
        rw [show (datL p 19 j ++ [v8]).length = (datL p 19 j).length + 1 by simp, ← HD.out] at st3
        go_wp2
        go_roundw
        case rel => exact ⟨j + 1, k + 8, _, HJ.out, by have := HK.out; omega, by go_num, st3⟩
        case measure => have := HK.out; have := HJ.out; simp [intOf]; omega
    · have hlt' : ¬ (k : Int) + 8 ≤ 19 + 8 * (N : Int) := by omega
      have hjN : j = N := by omega
      subst hjN
      obtain ⟨ao3, cp3, rfl⟩ := st.own.shapeB
      obtain ⟨d0, d1, d2, d3, d4, z0, z1, z2, z3, z4⟩ := st.cells
      obtain ⟨e0, e1, e2, e3, e4, y0, y1, y2, y3, y4⟩ := st.cellsR
      have ST : Hid (sdI w w.heap.size w.heap.size F g 0 cap p false v11 r12 v4 (.slice ao3 (datL p 19 j).length cp3) (datL p 19 j) wr) := st
      clear st
      go_wp2
      have he := sd_end ST.out (.bool false) (.int .u32 (v11 : Int)) (.bool r12) (.int .i64 (v4 : Int)) (.slice ao3 (datL p 19 j).length cp3)
      refine bodyPost_ret (v := .tuple #[frV false v11 r12 (v4 : Int) ao3 (datL p 19 j).length cp3, .int .i64 2]) (by simp [results, Try.results37, go_sem, e0, e1, e2, e3, e4]) rfl ⟨ao3, cp3, ?_, ?_, ?_⟩
      · have q1 := HV11E.out; have q2 := HR.out
        rw [List.drop_one] at q1; rw [List.getD_eq_getElem?_getD] at q2
        rw [HNE.out, HV4E.out, q1, q2]
      · rw [HNE.out]; exact he.1
      · exact he.2
set_option maxHeartbeats 2000000 in
set_option maxRecDepth 20000 in
theorem specDecode_39_1 (s : ByteArray) (w : World) (hs : s.size ≤ maxLen) (p : List Nat) (dd : Bool) (hz : swZ s = (1, p, dd)) (hH : layH p = 39) :
    Calls Try.prog 37 #[.string s] w fun e w' => ∃ ao cap, e = .returned (.tuple #[frV true (valL ((p.drop 1).take 11 ++ (p.drop 14).take 18)) (decide (p.getD 32 0 = 49)) ((valL ((p.drop 35).take 4) : Nat) : Int) ao (datL p 39 (layN p)).length cap, .int .i64 1]) ∧ ownsB w' w.heap.size (.slice ao (datL p 39 (layN p)).length cap) (datL p 39 (layN p)) ∧ Below w.heap.size w w' := by
  have HS : Hid (s.size ≤ maxLen) := hs
  clear hs
  obtain ⟨hpl, hps⟩ := swZ_bytes s
  have h12 := swZ12 s (by rw [hz]; simp)
  have HW := l1walk_any s
  rw [hz] at hpl hps h12 HW
  dsimp only at hpl hps h12 HW
  have HW' : Hid (∀ w, s.size ≤ maxLen → Calls Try.prog 67 #[.string s] w fun e w' => ∃ v, e = .returned (.tuple #[.int .i64 (1 : Nat), v, .bool dd]) ∧ ownsB w' w.heap.size v p ∧ Below w.heap.size w w') := HW
  clear HW hz
  have hl2 := layL2 h12.1
  go_enter Try.func37, Try.ntmps37
  go_wp2_with fail
  refine (HW'.out _ HS.out).mono ?_
  rintro e w1 ⟨v, rfl, ho, hb1⟩
  obtain ⟨hr, hb⟩ := sd_res hb1
  have hsm : ∀ x ∈ p, x < 256 := fun x hx => by rcases hps x hx with h | h <;> omega
  obtain ⟨g, cap, rfl, hg1, hg2, -, -, -⟩ := ho.open (by intro e; rw [e] at h12; simp at h12)
  obtain ⟨ao, cap', hv', hby⟩ := ho.bytes hsm
  cases hv'
  have H81 : Hid (Calls Try.prog 81 #[.slice (some ⟨g, 0, none⟩) p.length cap] w1 fun e w' => e = .returned (.tuple #[.int .i64 ((layL p).1 : Nat), .int .i64 ((layL p).2 : Nat)]) ∧ w1 = w') := l1lay_any w1 _ _ cap _ hby (by omega)
  have hl1 : (layL p).1 = 39 := by
    unfold layL
    rw [if_neg (by omega), if_neg (by omega)]; exact hH
  rw [hl1, hl2] at H81
  have hcap := hby.cap
  have hE : endL p = 39 + 8 * layN p := by unfold endL; rw [hH]
  have hN := layN_le p
  have HV : Hid (∀ W a m, m ≤ 40 → Calls Try.prog 82 #[.string (strN ((p.drop a).take m))] W fun e w' => e = .returned (.int .i64 (valL ((p.drop a).take m) : Nat)) ∧ W = w') := fun W a m hm => l1val40 W (fun x hx => hsm x (List.mem_of_mem_drop (List.mem_of_mem_take hx))) (by rw [List.length_take]; omega)
  have hn2 := h12.2
  have HST : Hid (∀ d, sdI w w.heap.size w.heap.size (w1.heap.size + 1) g 0 cap p true 0 false d (.slice (some ⟨w1.heap.size, 0, none⟩) 0 0) [] ((w1.alloc (.cells #[] 5)).alloc (.cells #[.bool true, .int .u32 0, .bool false, .int .i64 (d : Int), .slice (some ⟨w1.heap.size, 0, none⟩) 0 0] 33))) := fun d => sdI.start d hr hb hby (by simp at hg1; omega) hg2 true
  have HCV : Hid (∀ W a m, a + m ≤ p.length → 0 < m → isBytes W (some ⟨g, 0, none⟩) p.length cap p → (convert 28 9 (.slice (some ⟨g, a, none⟩) m (cap - a))).run Try.prog W = .ok (.string (strN ((p.drop a).take m))) W) := by
    intro W a m h1 h2 h3
    have := convB (h3.sub a m (cap - a) (by omega) h2 (by omega))
    rwa [Nat.zero_add] at this
  have hcv1 := HCV.out w1 35 4 (by omega) (by decide) hby
  have HV29 : Hid (∀ W, Calls Try.prog 82 #[.string (strN ((p.drop 1).take 11) ++ strN ((p.drop 14).take 18))] W fun e w' => e = .returned (.int .i64 (valL ((p.drop 1).take 11 ++ (p.drop 14).take 18) : Nat)) ∧ W = w') := by
    intro W
    rw [strN_append]
    refine l1val40 W (fun x hx => ?_) (by rw [List.length_append, List.length_take, List.length_take]; omega)
    rw [List.mem_append] at hx
    rcases hx with hx | hx <;> exact hsm x (List.mem_of_mem_drop (List.mem_of_mem_take hx))
  have hv29 : valL ((p.drop 1).take 11 ++ (p.drop 14).take 18) < 536870912 := valL_lt29 _ _
  clear hl1 hl2 hb1 hby ho hps hH h12 hsm hr hb
  generalize hn : p.length = n at *
  generalize endL p = E at *
  generalize hNe : layN p = N at *
  have HNE : Hid (layN p = N) := hNe
  clear hNe
  have hv4 : valL ((p.drop 35).take 4) < 16 := val4_lt _
  have hv11 : valL ((p.drop 1).take 11) < 2048 := valL_lt11 _
  go_wp2_with (first | (go_at_call 81; refine H81.out.mono ?_; rintro e w2 ⟨rfl, rfl⟩) | (go_at_call 82; refine (HV.out _ 35 4 (by decide)).mono ?_; rintro e w2 ⟨rfl, rfl⟩))
  have st := HST.out (valL ((p.drop 35).take 4))
  have hcv2 := HCV.out _ 1 11 (by omega) (by decide) (by have := st.row; rw [hn] at this; exact this)
  rw [hcv2]
  clear hcv1 hcv2 H81 HST
  generalize (w1.alloc (.cells #[] 5)).alloc (.cells #[.bool true, .int .u32 0, .bool false, .int .i64 (valL ((p.drop 35).take 4) : Nat), .slice (some ⟨w1.heap.size, 0, none⟩) 0 0] 33) = W2 at *
  generalize w1.heap.size + 1 = F at *
  have HV11 := HV.out W2 1 11 (by decide)
  generalize hv29e : valL ((p.drop 1).take 11 ++ (p.drop 14).take 18) = v29 at *
  have HV29E : Hid (valL ((p.drop 1).take 11 ++ (p.drop 14).take 18) = v29) := hv29e
  clear hv29e
  generalize ht11 : strN ((p.drop 1).take 11) = t11 at *
  generalize hv11e : valL ((p.drop 1).take 11) = v11 at *
  generalize hv4e : valL ((p.drop 35).take 4) = v4 at *
  have HV11E : Hid (valL ((p.drop 1).take 11) = v11) := hv11e
  have HV4E : Hid (valL ((p.drop 35).take 4) = v4) := hv4e
  have HT : Hid (strN ((p.drop 1).take 11) = t11) := ht11
  clear hv11e hv4e ht11
  have c12 := (st.set v11).row.at 12 (by omega)
  obtain ⟨d0, d1, d2, d3, d4, z0, z1, z2, z3, z4⟩ := st.cells
  have ST : Hid (sdI w w.heap.size w.heap.size F g 0 cap p true 0 false v4 (.slice (some ⟨w1.heap.size, 0, none⟩) 0 0) [] W2) := st
  clear st
  rw [Nat.zero_add] at c12
  generalize hx12 : p.getD 12 0 = x12 at *
  have HX12 : Hid (p.getD 12 0 = x12) := hx12
  clear hx12
  go_wp2_with (first | (go_at_call 82; refine HV11.mono ?_; rintro e w2 ⟨rfl, rfl⟩))
  have st := (ST.out.set v11).setr ((x12 : Int) == 49)
  generalize (W2.setCell ⟨F, 1, none⟩ (.int .u32 (v11 : Int))).setCell ⟨F, 2, none⟩ (.bool ((x12 : Int) == 49)) = W3 at *
  clear ST HV11 d0 d1 d2 d3 d4 z0 z1 z2 z3 z4 c12
  obtain ⟨d0, d1, d2, d3, d4, z0, z1, z2, z3, z4⟩ := st.cells
  have hrow : isBytes W3.drew (some ⟨g, 0, none⟩) n cap p := by have := st.row; rw [hn] at this; exact this.below (Below.refl _ _).drew
  have hcvA := HCV.out W3.drew 1 11 (by omega) (by decide) hrow
  have hcvB := HCV.out W3.drew 14 18 (by omega) (by decide) hrow
  rw [HT.out] at hcvA
  have hs11 : t11.size ≤ 11 := by rw [← HT.out, strN_size, List.length_take]; omega
  have hs18 : (strN ((p.drop 14).take 18)).size ≤ 18 := by rw [strN_size, List.length_take]; omega
  generalize ht18 : strN ((p.drop 14).take 18) = t18 at *
  have HT18 : Hid (strN ((p.drop 14).take 18) = t18) := ht18
  clear ht18
  have c12 := (st.set v29).row.at 32 (by omega)
  rw [Nat.zero_add] at c12
  generalize hx32 : p.getD 32 0 = x32 at *
  have HX32 : Hid (p.getD 32 0 = x32) := hx32
  clear hx32 hrow
  have ST3 : Hid (sdI w w.heap.size w.heap.size F g 0 cap p true v11 ((x12 : Int) == 49) v4 (.slice (some ⟨w1.heap.size, 0, none⟩) 0 0) [] W3) := st
  clear st
  generalize ((x12 : Int) == 49) = r0 at *
  have i1 : (12 : Int) ≤ (cap : Int) := by omega
  have i2 : (32 : Int) ≤ (cap : Int) := by omega
  have i3 : ¬ cap = 1 := by omega
  have i4 : ¬ cap = 14 := by omega
  have i5 : ¬ 9223372036854775807 < t11.size + t18.size := by omega
  have hw29 : IntKind.u32.wrap (v29 : Int) = (v29 : Int) := by simp [IntKind.wrap, IntKind.bits, IntKind.signed]; omega
  have hrow2 : isBytes (W3.setCell ⟨F, 1, none⟩ (.int .u32 (v29 : Int))).drew (some ⟨g, 0, none⟩) n cap p := by have := (ST3.out.set v29).row; rw [hn] at this; exact this.below (Below.refl _ _).drew
  have HS0 : Hid ((convert 28 9 (.slice (some ⟨g, 1, none⟩) 11 (cap - 1))).run Try.prog W3.drew = .ok (.string t11) W3.drew ∧ (convert 28 9 (.slice (some ⟨g, 14, none⟩) 18 (cap - 14))).run Try.prog W3.drew = .ok (.string t18) W3.drew) := ⟨hcvA, hcvB⟩
  have HS1 : Hid (∀ V, V = (W3.setCell ⟨F, 1, none⟩ (.int .u32 (v29 : Int))).drew → (convert 28 9 (.slice (some ⟨g, 1, none⟩) 11 (cap - 1))).run Try.prog V = .ok (.string t11) V ∧ (convert 28 9 (.slice (some ⟨g, 14, none⟩) 18 (cap - 14))).run Try.prog V = .ok (.string t18) V) := by
    rintro V rfl
    have h1 := HCV.out _ 1 11 (by omega) (by decide) hrow2
    have h2 := HCV.out _ 14 18 (by omega) (by decide) hrow2
    rw [HT.out] at h1
    rw [HT18.out] at h2
    exact ⟨h1, h2⟩
  clear hrow2 hcvA hcvB
  go_region_held3 (fun V => (convert 28 9 (.slice (some ⟨g, 1, none⟩) 11 (cap - 1))).run Try.prog V = .ok (.string t11) V ∧ (convert 28 9 (.slice (some ⟨g, 14, none⟩) 18 (cap - 14))).run Try.prog V = .ok (.string t18) V) (first | exact HS0.out | exact HS1.out _ rfl) (first | (go_at_call 82; refine (HV29.out _).mono ?_; rintro e w2 ⟨rfl, rfl⟩))
  clear HS0 HS1
  go_wp2
  have st := ((ST3.out.set v29).setr ((x32 : Int) == 49)).drew
  generalize ((W3.setCell ⟨F, 1, none⟩ (.int .u32 (v29 : Int))).setCell ⟨F, 2, none⟩ (.bool ((x32 : Int) == 49))).drew = W4 at *
  generalize hr12 : ((x32 : Int) == 49) = r12 at *
  have HR : Hid (decide (p.getD 32 0 = 49) = r12) := by unfold Hid; rw [HX32.out, ← hr12, Bool.eq_iff_iff]; simp; omega
  have ST := ST3
  have HV11 := ST3
  clear hr12 ST3 i1 i2 i3 i4 i5 hw29 hs11 hs18
  clear ST HV11 d0 d1 d2 d3 d4 z0 z1 z2 z3 z4 c12 hg1 hg2
  go_loopw [10] (fun kk wr => ∃ j k v, j ≤ N ∧ k = 39 + 8 * j ∧ kk = .int .i64 ((k : Nat) : Int) ∧ sdI w w.heap.size w.heap.size F g 0 cap p true v29 r12 v4 v (datL p 39 j) wr) (fun kk _ => 47 + 8 * N - (intOf kk).toNat)
  case atStart => exact ⟨0, 39, _, Nat.zero_le _, rfl, rfl, by simpa [datL] using st⟩
  case round =>
    clear st
    obtain ⟨j, k, v, hj, hk, rfl, st⟩ := hrel
    by_cases hlt : j < N
    · have hlt' : (k : Int) + 8 ≤ 39 + 8 * (N : Int) := by omega
      have hcv := HCV.out wr.drew k 8 (by omega) (by decide) (by have := st.row; rw [hn] at this; exact this.below (Below.refl _ _).drew)
      have HV8 : Hid (∀ W, Calls Try.prog 82 #[.string (strN ((p.drop k).take 8))] W fun e w' => e = .returned (.int .i64 (valL ((p.drop k).take 8) : Nat)) ∧ W = w') := fun W => HV.out W k 8 (by decide)
      have HLN : Hid ((datL p 39 j).length ≤ 100000000) := by unfold Hid datL; simp; omega
      have HLB : Hid (w.heap.size ≤ wr.drew.heap.size) := st.dis.2.2.2.2.2.1
      have HD : Hid (datL p 39 (j + 1) = datL p 39 j ++ [valL ((p.drop k).take 8)]) := by unfold Hid; rw [hk]; exact datL_succ p 39 j
      have hv8 : valL ((p.drop k).take 8) < 256 := valL_lt8 _
      generalize strN ((p.drop k).take 8) = t8 at *
      generalize valL ((p.drop k).take 8) = v8 at *
      obtain ⟨d0, d1, d2, d3, d4, z0, z1, z2, z3, z4⟩ := st.cells
      have ST : Hid (sdI w w.heap.size w.heap.size F g 0 cap p true v29 r12 v4 v (datL p 39 j) wr) := st
      clear st
      have HU8 : Hid (IntKind.u8.wrap (v8 : Int) = (v8 : Int)) := by unfold Hid; simp [IntKind.wrap, IntKind.bits, IntKind.signed]; omega
      have hFl : F < wr.heap.size := lt_of_block ST.out.fr
      have d4a : (wr.alloc (.cells #[.int .u8 (IntKind.u8.wrap (v8 : Int))] 5)).cell? ⟨F, 4, none⟩ = some v := by rw [← d4]; simp only [World.cell?]; rw [Below.heap_alloc wr _ F hFl]
      have hkk : k + 8 ≤ n := by omega
      have hkc : k + 8 ≤ cap := by omega
      have hk9 : k ≤ 110 := by omega
      have HK : Hid (k = 39 + 8 * j) := hk
      have HJ : Hid (j < N) := hlt
      have i1 : (k : Int) + 8 ≤ (cap : Int) := by omega
      have i2 : (k : Int) ≤ (k : Int) + 8 := by omega
      have hck : ¬ cap = k := by omega
      have hw8 : IntKind.i64.wrap ((k : Int) + 8) = ((k + 8 : Nat) : Int) := by rw [wrap8 k hk9]; omega
      have hk8 : ((k : Int) + 8).toNat - k = 8 := by omega
      clear hk hlt hj
      go_wp2_with fail
      go_region_law (first | (go_simp; go_at_call 82; refine (HV8.out _).mono ?_; rintro e w2 ⟨rfl, rfl⟩) | (refine step_app w wr.drew _ rfl (by rfl) _ _ (by rfl) w.heap.size v (datL p 39 j) v8 HU8.out (by rfl) (World.ownsRow.drew ST.out.own) (by rfl) HLN.out HLB.out ST.out.bel.drew ?_; intro v' w3 ho3 hb3 hk3 hz3; obtain ⟨y4, f4⟩ := sd_keep ST.out hk3; obtain ⟨ao3, cp3, rfl⟩ := ho3.shapeB))
      all_goals
        have st3 := ST.out.app (W' := w3) ho3 hb3 hk3 hz3
        rw [show (datL p 39 j ++ [v8]).length = (datL p 39 j).length + 1 by simp, ← HD.out] at st3
        go_wp2
        go_roundw
        case rel => exact ⟨j + 1, k + 8, _, HJ.out, by have := HK.out; omega, by go_num, st3⟩
        case measure => have := HK.out; have := HJ.out; simp [intOf]; omega
    · have hlt' : ¬ (k : Int) + 8 ≤ 39 + 8 * (N : Int) := by omega
      have hjN : j = N := by omega
      subst hjN
      obtain ⟨ao3, cp3, rfl⟩ := st.own.shapeB
      obtain ⟨d0, d1, d2, d3, d4, z0, z1, z2, z3, z4⟩ := st.cells
      obtain ⟨e0, e1, e2, e3, e4, y0, y1, y2, y3, y4⟩ := st.cellsR
      have ST : Hid (sdI w w.heap.size w.heap.size F g 0 cap p true v29 r12 v4 (.slice ao3 (datL p 39 j).length cp3) (datL p 39 j) wr) := st
      clear st
      go_wp2
      have he := sd_end ST.out (.bool true) (.int .u32 (v29 : Int)) (.bool r12) (.int .i64 (v4 : Int)) (.slice ao3 (datL p 39 j).length cp3)
      refine bodyPost_ret (v := .tuple #[frV true v29 r12 (v4 : Int) ao3 (datL p 39 j).length cp3, .int .i64 1]) (by simp [results, Try.results37, go_sem, e0, e1, e2, e3, e4]) rfl ⟨ao3, cp3, ?_, ?_, ?_⟩
      · have q1 := HV29E.out; have q2 := HR.out
        rw [List.drop_one] at q1; rw [List.getD_eq_getElem?_getD] at q2
        rw [HNE.out, HV4E.out, q1, q2]
      · rw [HNE.out]; exact he.1
      · exact he.2
set_option maxHeartbeats 2000000 in
set_option maxRecDepth 20000 in
theorem specDecode_39_2 (s : ByteArray) (w : World) (hs : s.size ≤ maxLen) (p : List Nat) (dd : Bool) (hz : swZ s = (2, p, dd)) (hH : layH p = 39) :
    Calls Try.prog 37 #[.string s] w fun e w' => ∃ ao cap, e = .returned (.tuple #[frV true (valL ((p.drop 1).take 11 ++ (p.drop 14).take 18)) (decide (p.getD 32 0 = 49)) ((valL ((p.drop 35).take 4) : Nat) : Int) ao (datL p 39 (layN p)).length cap, .int .i64 2]) ∧ ownsB w' w.heap.size (.slice ao (datL p 39 (layN p)).length cap) (datL p 39 (layN p)) ∧ Below w.heap.size w w' := by
  have HS : Hid (s.size ≤ maxLen) := hs
  clear hs
  obtain ⟨hpl, hps⟩ := swZ_bytes s
  have h12 := swZ12 s (by rw [hz]; simp)
  have HW := l1walk_any s
  rw [hz] at hpl hps h12 HW
  dsimp only at hpl hps h12 HW
  have HW' : Hid (∀ w, s.size ≤ maxLen → Calls Try.prog 67 #[.string s] w fun e w' => ∃ v, e = .returned (.tuple #[.int .i64 (2 : Nat), v, .bool dd]) ∧ ownsB w' w.heap.size v p ∧ Below w.heap.size w w') := HW
  clear HW hz
  have hl2 := layL2 h12.1
  go_enter Try.func37, Try.ntmps37
  go_wp2_with fail
  refine (HW'.out _ HS.out).mono ?_
  rintro e w1 ⟨v, rfl, ho, hb1⟩
  obtain ⟨hr, hb⟩ := sd_res hb1
  have hsm : ∀ x ∈ p, x < 256 := fun x hx => by rcases hps x hx with h | h <;> omega
  obtain ⟨g, cap, rfl, hg1, hg2, -, -, -⟩ := ho.open (by intro e; rw [e] at h12; simp at h12)
  obtain ⟨ao, cap', hv', hby⟩ := ho.bytes hsm
  cases hv'
  have H81 : Hid (Calls Try.prog 81 #[.slice (some ⟨g, 0, none⟩) p.length cap] w1 fun e w' => e = .returned (.tuple #[.int .i64 ((layL p).1 : Nat), .int .i64 ((layL p).2 : Nat)]) ∧ w1 = w') := l1lay_any w1 _ _ cap _ hby (by omega)
  have hl1 : (layL p).1 = 39 := by
    unfold layL
    rw [if_neg (by omega), if_neg (by omega)]; exact hH
  rw [hl1, hl2] at H81
  have hcap := hby.cap
  have hE : endL p = 39 + 8 * layN p := by unfold endL; rw [hH]
  have hN := layN_le p
  have HV : Hid (∀ W a m, m ≤ 40 → Calls Try.prog 82 #[.string (strN ((p.drop a).take m))] W fun e w' => e = .returned (.int .i64 (valL ((p.drop a).take m) : Nat)) ∧ W = w') := fun W a m hm => l1val40 W (fun x hx => hsm x (List.mem_of_mem_drop (List.mem_of_mem_take hx))) (by rw [List.length_take]; omega)
  have hn2 := h12.2
  have HST : Hid (∀ d, sdI w w.heap.size w.heap.size (w1.heap.size + 1) g 0 cap p true 0 false d (.slice (some ⟨w1.heap.size, 0, none⟩) 0 0) [] ((w1.alloc (.cells #[] 5)).alloc (.cells #[.bool true, .int .u32 0, .bool false, .int .i64 (d : Int), .slice (some ⟨w1.heap.size, 0, none⟩) 0 0] 33))) := fun d => sdI.start d hr hb hby (by simp at hg1; omega) hg2 true
  have HCV : Hid (∀ W a m, a + m ≤ p.length → 0 < m → isBytes W (some ⟨g, 0, none⟩) p.length cap p → (convert 28 9 (.slice (some ⟨g, a, none⟩) m (cap - a))).run Try.prog W = .ok (.string (strN ((p.drop a).take m))) W) := by
    intro W a m h1 h2 h3
    have := convB (h3.sub a m (cap - a) (by omega) h2 (by omega))
    rwa [Nat.zero_add] at this
  have hcv1 := HCV.out w1 35 4 (by omega) (by decide) hby
  have HV29 : Hid (∀ W, Calls Try.prog 82 #[.string (strN ((p.drop 1).take 11) ++ strN ((p.drop 14).take 18))] W fun e w' => e = .returned (.int .i64 (valL ((p.drop 1).take 11 ++ (p.drop 14).take 18) : Nat)) ∧ W = w') := by
    intro W
    rw [strN_append]
    refine l1val40 W (fun x hx => ?_) (by rw [List.length_append, List.length_take, List.length_take]; omega)
    rw [List.mem_append] at hx
    rcases hx with hx | hx <;> exact hsm x (List.mem_of_mem_drop (List.mem_of_mem_take hx))
  have hv29 : valL ((p.drop 1).take 11 ++ (p.drop 14).take 18) < 536870912 := valL_lt29 _ _
  clear hl1 hl2 hb1 hby ho hps hH h12 hsm hr hb
  generalize hn : p.length = n at *
  generalize endL p = E at *
  generalize hNe : layN p = N at *
  have HNE : Hid (layN p = N) := hNe
  clear hNe
  have hv4 : valL ((p.drop 35).take 4) < 16 := val4_lt _
  have hv11 : valL ((p.drop 1).take 11) < 2048 := valL_lt11 _
  go_wp2_with (first | (go_at_call 81; refine H81.out.mono ?_; rintro e w2 ⟨rfl, rfl⟩) | (go_at_call 82; refine (HV.out _ 35 4 (by decide)).mono ?_; rintro e w2 ⟨rfl, rfl⟩))
  have st := HST.out (valL ((p.drop 35).take 4))
  have hcv2 := HCV.out _ 1 11 (by omega) (by decide) (by have := st.row; rw [hn] at this; exact this)
  rw [hcv2]
  clear hcv1 hcv2 H81 HST
  generalize (w1.alloc (.cells #[] 5)).alloc (.cells #[.bool true, .int .u32 0, .bool false, .int .i64 (valL ((p.drop 35).take 4) : Nat), .slice (some ⟨w1.heap.size, 0, none⟩) 0 0] 33) = W2 at *
  generalize w1.heap.size + 1 = F at *
  have HV11 := HV.out W2 1 11 (by decide)
  generalize hv29e : valL ((p.drop 1).take 11 ++ (p.drop 14).take 18) = v29 at *
  have HV29E : Hid (valL ((p.drop 1).take 11 ++ (p.drop 14).take 18) = v29) := hv29e
  clear hv29e
  generalize ht11 : strN ((p.drop 1).take 11) = t11 at *
  generalize hv11e : valL ((p.drop 1).take 11) = v11 at *
  generalize hv4e : valL ((p.drop 35).take 4) = v4 at *
  have HV11E : Hid (valL ((p.drop 1).take 11) = v11) := hv11e
  have HV4E : Hid (valL ((p.drop 35).take 4) = v4) := hv4e
  have HT : Hid (strN ((p.drop 1).take 11) = t11) := ht11
  clear hv11e hv4e ht11
  have c12 := (st.set v11).row.at 12 (by omega)
  obtain ⟨d0, d1, d2, d3, d4, z0, z1, z2, z3, z4⟩ := st.cells
  have ST : Hid (sdI w w.heap.size w.heap.size F g 0 cap p true 0 false v4 (.slice (some ⟨w1.heap.size, 0, none⟩) 0 0) [] W2) := st
  clear st
  rw [Nat.zero_add] at c12
  generalize hx12 : p.getD 12 0 = x12 at *
  have HX12 : Hid (p.getD 12 0 = x12) := hx12
  clear hx12
  go_wp2_with (first | (go_at_call 82; refine HV11.mono ?_; rintro e w2 ⟨rfl, rfl⟩))
  have st := (ST.out.set v11).setr ((x12 : Int) == 49)
  generalize (W2.setCell ⟨F, 1, none⟩ (.int .u32 (v11 : Int))).setCell ⟨F, 2, none⟩ (.bool ((x12 : Int) == 49)) = W3 at *
  clear ST HV11 d0 d1 d2 d3 d4 z0 z1 z2 z3 z4 c12
  obtain ⟨d0, d1, d2, d3, d4, z0, z1, z2, z3, z4⟩ := st.cells
  have hrow : isBytes W3.drew (some ⟨g, 0, none⟩) n cap p := by have := st.row; rw [hn] at this; exact this.below (Below.refl _ _).drew
  have hcvA := HCV.out W3.drew 1 11 (by omega) (by decide) hrow
  have hcvB := HCV.out W3.drew 14 18 (by omega) (by decide) hrow
  rw [HT.out] at hcvA
  have hs11 : t11.size ≤ 11 := by rw [← HT.out, strN_size, List.length_take]; omega
  have hs18 : (strN ((p.drop 14).take 18)).size ≤ 18 := by rw [strN_size, List.length_take]; omega
  generalize ht18 : strN ((p.drop 14).take 18) = t18 at *
  have HT18 : Hid (strN ((p.drop 14).take 18) = t18) := ht18
  clear ht18
  have c12 := (st.set v29).row.at 32 (by omega)
  rw [Nat.zero_add] at c12
  generalize hx32 : p.getD 32 0 = x32 at *
  have HX32 : Hid (p.getD 32 0 = x32) := hx32
  clear hx32 hrow
  have ST3 : Hid (sdI w w.heap.size w.heap.size F g 0 cap p true v11 ((x12 : Int) == 49) v4 (.slice (some ⟨w1.heap.size, 0, none⟩) 0 0) [] W3) := st
  clear st
  generalize ((x12 : Int) == 49) = r0 at *
  have i1 : (12 : Int) ≤ (cap : Int) := by omega
  have i2 : (32 : Int) ≤ (cap : Int) := by omega
  have i3 : ¬ cap = 1 := by omega
  have i4 : ¬ cap = 14 := by omega
  have i5 : ¬ 9223372036854775807 < t11.size + t18.size := by omega
  have hw29 : IntKind.u32.wrap (v29 : Int) = (v29 : Int) := by simp [IntKind.wrap, IntKind.bits, IntKind.signed]; omega
  have hrow2 : isBytes (W3.setCell ⟨F, 1, none⟩ (.int .u32 (v29 : Int))).drew (some ⟨g, 0, none⟩) n cap p := by have := (ST3.out.set v29).row; rw [hn] at this; exact this.below (Below.refl _ _).drew
  have HS0 : Hid ((convert 28 9 (.slice (some ⟨g, 1, none⟩) 11 (cap - 1))).run Try.prog W3.drew = .ok (.string t11) W3.drew ∧ (convert 28 9 (.slice (some ⟨g, 14, none⟩) 18 (cap - 14))).run Try.prog W3.drew = .ok (.string t18) W3.drew) := ⟨hcvA, hcvB⟩
  have HS1 : Hid (∀ V, V = (W3.setCell ⟨F, 1, none⟩ (.int .u32 (v29 : Int))).drew → (convert 28 9 (.slice (some ⟨g, 1, none⟩) 11 (cap - 1))).run Try.prog V = .ok (.string t11) V ∧ (convert 28 9 (.slice (some ⟨g, 14, none⟩) 18 (cap - 14))).run Try.prog V = .ok (.string t18) V) := by
    rintro V rfl
    have h1 := HCV.out _ 1 11 (by omega) (by decide) hrow2
    have h2 := HCV.out _ 14 18 (by omega) (by decide) hrow2
    rw [HT.out] at h1
    rw [HT18.out] at h2
    exact ⟨h1, h2⟩
  clear hrow2 hcvA hcvB
  go_region_held3 (fun V => (convert 28 9 (.slice (some ⟨g, 1, none⟩) 11 (cap - 1))).run Try.prog V = .ok (.string t11) V ∧ (convert 28 9 (.slice (some ⟨g, 14, none⟩) 18 (cap - 14))).run Try.prog V = .ok (.string t18) V) (first | exact HS0.out | exact HS1.out _ rfl) (first | (go_at_call 82; refine (HV29.out _).mono ?_; rintro e w2 ⟨rfl, rfl⟩))
  clear HS0 HS1
  go_wp2
  have st := ((ST3.out.set v29).setr ((x32 : Int) == 49)).drew
  generalize ((W3.setCell ⟨F, 1, none⟩ (.int .u32 (v29 : Int))).setCell ⟨F, 2, none⟩ (.bool ((x32 : Int) == 49))).drew = W4 at *
  generalize hr12 : ((x32 : Int) == 49) = r12 at *
  have HR : Hid (decide (p.getD 32 0 = 49) = r12) := by unfold Hid; rw [HX32.out, ← hr12, Bool.eq_iff_iff]; simp; omega
  have ST := ST3
  have HV11 := ST3
  clear hr12 ST3 i1 i2 i3 i4 i5 hw29 hs11 hs18
  clear ST HV11 d0 d1 d2 d3 d4 z0 z1 z2 z3 z4 c12 hg1 hg2
  go_loopw [10] (fun kk wr => ∃ j k v, j ≤ N ∧ k = 39 + 8 * j ∧ kk = .int .i64 ((k : Nat) : Int) ∧ sdI w w.heap.size w.heap.size F g 0 cap p true v29 r12 v4 v (datL p 39 j) wr) (fun kk _ => 47 + 8 * N - (intOf kk).toNat)
  case atStart => exact ⟨0, 39, _, Nat.zero_le _, rfl, rfl, by simpa [datL] using st⟩
  case round =>
    clear st
    obtain ⟨j, k, v, hj, hk, rfl, st⟩ := hrel
    by_cases hlt : j < N
    · have hlt' : (k : Int) + 8 ≤ 39 + 8 * (N : Int) := by omega
      have hcv := HCV.out wr.drew k 8 (by omega) (by decide) (by have := st.row; rw [hn] at this; exact this.below (Below.refl _ _).drew)
      have HV8 : Hid (∀ W, Calls Try.prog 82 #[.string (strN ((p.drop k).take 8))] W fun e w' => e = .returned (.int .i64 (valL ((p.drop k).take 8) : Nat)) ∧ W = w') := fun W => HV.out W k 8 (by decide)
      have HLN : Hid ((datL p 39 j).length ≤ 100000000) := by unfold Hid datL; simp; omega
      have HLB : Hid (w.heap.size ≤ wr.drew.heap.size) := st.dis.2.2.2.2.2.1
      have HD : Hid (datL p 39 (j + 1) = datL p 39 j ++ [valL ((p.drop k).take 8)]) := by unfold Hid; rw [hk]; exact datL_succ p 39 j
      have hv8 : valL ((p.drop k).take 8) < 256 := valL_lt8 _
      generalize strN ((p.drop k).take 8) = t8 at *
      generalize valL ((p.drop k).take 8) = v8 at *
      obtain ⟨d0, d1, d2, d3, d4, z0, z1, z2, z3, z4⟩ := st.cells
      have ST : Hid (sdI w w.heap.size w.heap.size F g 0 cap p true v29 r12 v4 v (datL p 39 j) wr) := st
      clear st
      have HU8 : Hid (IntKind.u8.wrap (v8 : Int) = (v8 : Int)) := by unfold Hid; simp [IntKind.wrap, IntKind.bits, IntKind.signed]; omega
      have hFl : F < wr.heap.size := lt_of_block ST.out.fr
      have d4a : (wr.alloc (.cells #[.int .u8 (IntKind.u8.wrap (v8 : Int))] 5)).cell? ⟨F, 4, none⟩ = some v := by rw [← d4]; simp only [World.cell?]; rw [Below.heap_alloc wr _ F hFl]
      have hkk : k + 8 ≤ n := by omega
      have hkc : k + 8 ≤ cap := by omega
      have hk9 : k ≤ 110 := by omega
      have HK : Hid (k = 39 + 8 * j) := hk
      have HJ : Hid (j < N) := hlt
      have i1 : (k : Int) + 8 ≤ (cap : Int) := by omega
      have i2 : (k : Int) ≤ (k : Int) + 8 := by omega
      have hck : ¬ cap = k := by omega
      have hw8 : IntKind.i64.wrap ((k : Int) + 8) = ((k + 8 : Nat) : Int) := by rw [wrap8 k hk9]; omega
      have hk8 : ((k : Int) + 8).toNat - k = 8 := by omega
      clear hk hlt hj
      go_wp2_with fail
      go_region_law (first | (go_simp; go_at_call 82; refine (HV8.out _).mono ?_; rintro e w2 ⟨rfl, rfl⟩) | (refine step_app w wr.drew _ rfl (by rfl) _ _ (by rfl) w.heap.size v (datL p 39 j) v8 HU8.out (by rfl) (World.ownsRow.drew ST.out.own) (by rfl) HLN.out HLB.out ST.out.bel.drew ?_; intro v' w3 ho3 hb3 hk3 hz3; obtain ⟨y4, f4⟩ := sd_keep ST.out hk3; obtain ⟨ao3, cp3, rfl⟩ := ho3.shapeB))
      all_goals
        have st3 := ST.out.app (W' := w3) ho3 hb3 hk3 hz3
        rw [show (datL p 39 j ++ [v8]).length = (datL p 39 j).length + 1 by simp, ← HD.out] at st3
        go_wp2
        go_roundw
        case rel => exact ⟨j + 1, k + 8, _, HJ.out, by have := HK.out; omega, by go_num, st3⟩
        case measure => have := HK.out; have := HJ.out; simp [intOf]; omega
    · have hlt' : ¬ (k : Int) + 8 ≤ 39 + 8 * (N : Int) := by omega
      have hjN : j = N := by omega
      subst hjN
      obtain ⟨ao3, cp3, rfl⟩ := st.own.shapeB
      obtain ⟨d0, d1, d2, d3, d4, z0, z1, z2, z3, z4⟩ := st.cells
      obtain ⟨e0, e1, e2, e3, e4, y0, y1, y2, y3, y4⟩ := st.cellsR
      have ST : Hid (sdI w w.heap.size w.heap.size F g 0 cap p true v29 r12 v4 (.slice ao3 (datL p 39 j).length cp3) (datL p 39 j) wr) := st
      clear st
      go_wp2
      have he := sd_end ST.out (.bool true) (.int .u32 (v29 : Int)) (.bool r12) (.int .i64 (v4 : Int)) (.slice ao3 (datL p 39 j).length cp3)
      refine bodyPost_ret (v := .tuple #[frV true v29 r12 (v4 : Int) ao3 (datL p 39 j).length cp3, .int .i64 2]) (by simp [results, Try.results37, go_sem, e0, e1, e2, e3, e4]) rfl ⟨ao3, cp3, ?_, ?_, ?_⟩
      · have q1 := HV29E.out; have q2 := HR.out
        rw [List.drop_one] at q1; rw [List.getD_eq_getElem?_getD] at q2
        rw [HNE.out, HV4E.out, q1, q2]
      · rw [HNE.out]; exact he.1
      · exact he.2
end Go.Proofs.Ytnefmdjodjpopaa
