import Derived.Test.YtiaddabmiponoaaS23
import Derived.Deep.DeepCutAuto
namespace Go.Proofs.Ytiaddabmiponoaa
open Go.RowKit
set_option linter.unusedVariables false
theorem okT_letters {s : ByteArray} {m : Int} (h : okT s m = true) : (s.size : Int) ≤ m ∧ ∀ k (hk : k < s.size), okC s[k] = true := by
  constructor
  · by_cases hm : (s.size : Int) ≤ m
    · exact hm
    · rw [okT_long hm] at h
      cases h
  · intro k hk
    cases hc : okC s[k] with
    | true => rfl
    | false =>
      rw [okT_bad k hk hc] at h
      cases h
theorem sz34 : (Try.prog.info? 34).map (·.size) = some 5 := by kernel_rfl
theorem one34 (e : Bool) (i : Int) (r : Bool) (d : Int) (a : Option Addr) (n c : Nat) : (#[.bool e, .int .u32 i, .bool r, .int .i64 d, .slice a n c] : Array Value).all (·.oneCell') = true := all_oneCell_toArray (by simp [Value.oneCell'])
set_option maxHeartbeats 8000000 in
set_option maxRecDepth 20000 in
/-- spec.Sniff -/
theorem specSniff_any (s : ByteArray) (L : List (Nat × Nat)) (w : World) (hs : s.size ≤ maxLen) (hL : (okT s 6000 = true ∧ SN s 0 L) ∨ (okT s 6000 = false ∧ L = [])) :
    Calls Try.prog 4 #[.string s] w fun o w' => ∃ v rs, o = .returned v ∧ slR s w.heap.size v rs w' ∧ rs.map (·.1) = L ∧ Below w.heap.size w w' := by
  have HOK : Hid (∀ X, Calls Try.prog 9 #[.string s, .int .i64 6000] X fun e w' => e = .returned (.bool (okT s 6000)) ∧ X = w') := fun X => okBits_any s 6000 X hs
  have HS0 : Hid (slR s w.heap.size (.slice (some ⟨w.heap.size, 0, none⟩) 0 0) [] (w.alloc (.cells #[] 38))) := slR.e1 w (Nat.le_refl _)
  have HB0 : Hid (Below w.heap.size w (w.alloc (.cells #[] 38))) := (Below.refl _ _).alloc (Nat.le_refl _) _
  rcases hL with ⟨hk, hsn⟩ | ⟨hk, rfl⟩
  · obtain ⟨hsz, hlt⟩ := okT_letters hk
    have hsz' : s.size ≤ 6000 := by omega
    have HLT : Hid (∀ k (hk : k < s.size), okC s[k] = true) := hlt
    have HE : Hid (∀ (i : Nat), i ≤ s.size → ∀ X, Calls Try.prog 10 #[.string s, .int .i64 (i : Int)] X fun o w' => ((∃ n, fnd s i n ∧ o = .returned (.tuple #[.int .i64 (n : Int), .int .i64 (cd s i n : Int)])) ∨ (nof s i ∧ o = .returned (.tuple #[.int .i64 0, .int .i64 0]))) ∧ Below X.heap.size X w') := fun i hi X => l7end_any s i X hsz' hi
    have HF : Hid (∀ (j : Nat), j ≤ 6000 → ∀ X, Calls Try.prog 11 #[.string s, .int .i64 (j : Int)] X fun o w' => ((∃ e, qt s (j + 1) e ∧ o = .returned (.int .i64 (e : Int))) ∨ (noq s (j + 1) ∧ o = .returned (.int .i64 ((s.size : Int) + 1)))) ∧ X = w') := fun j hj X => l7found_any s j X hsz' hj
    have HD : Hid (∀ (i n : Nat) X, Calls Try.prog 12 #[.string (s.extract i (i + n))] X fun e w' => ∃ ao cap, e = .returned (.tuple #[frV (fk s i n).ext (fk s i n).id (fk s i n).rtr ((fk s i n).dlc : Int) ao (fk s i n).data.length cap, .int .i64 (cd s i n : Int)]) ∧ ownsB w' X.heap.size (.slice ao (fk s i n).data.length cap) (fk s i n).data ∧ Below X.heap.size X w') := fun i n X => by
      have hz : (s.extract i (i + n)).size ≤ maxLen := by
        have : (s.extract i (i + n)).size ≤ s.size := by simp; omega
        unfold maxLen; omega
      unfold fk cd
      exact specDecode_any (s.extract i (i + n)) X hz
    rw [hk] at HOK
    have HSN : Hid (SN s 0 L) := hsn
    clear hsn hlt hsz hk
    go_enter Try.func4, Try.ntmps4
    go_wp2_with (first | (go_at_call 9; refine (HOK.out _).mono ?_; rintro o w1 ⟨rfl, rfl⟩))
    go_loopw [3, 4] (fun o k wr => ∃ (i : Nat) (rs : List Sx) (g n c : Nat) (L0 : List (Nat × Nat)), o = .slice (some ⟨g, 0, none⟩) n c ∧ k = .int .i64 (i : Int) ∧ i ≤ s.size + 1 ∧ Hid (n = rs.length) ∧ n ≤ i ∧ Hid (slR s w.heap.size (.slice (some ⟨g, 0, none⟩) n c) rs wr) ∧ Hid (SN s i L0) ∧ Hid (L = rs.map (·.1) ++ L0) ∧ Hid (Below w.heap.size w wr)) (fun _ k _ => s.size + 1 - (intOf k).toNat)
    case atStart => exact ⟨0, [], w.heap.size, 0, 0, L, rfl, rfl, by omega, rfl, Nat.le_refl _, HS0.out, HSN.out, rfl, HB0.out⟩
    case round =>
      obtain ⟨i, rs, g, n, c, L0, rfl, rfl, hi, HNN, hni, HR, HSI, HLL, HB⟩ := hrel
      by_cases hlt : i < s.size
      · by_cases h49 : (s[i].toNat : Int) = 49
        · have HS1 : Hid (SN s (i + 1) L0) := HSI.out.i1 hlt h49
          go_wp2
          go_roundw
          case rel => exact ⟨i + 1, rs, g, n, c, L0, rfl, by go_num, by omega, HNN.out, by omega, HR.out, HS1.out, HLL.out, HB.out⟩
          case measure => simp [intOf]; omega
        · have b49 : ((s[i].toNat : Int) == 49) = false := by simpa using h49
          have HN49 : Hid (¬ (s[i].toNat : Int) = 49) := h49
          clear h49
          go_wp2_with fail
          refine (HE.out i (by omega) _).mono ?_
          rintro o w1 ⟨⟨m, hf, rfl⟩ | ⟨hno, rfl⟩, hb1⟩
          · have HFD : Hid (fnd s i m) := hf
            have hlo := hf.lo
            have hhi := hf.hi
            have bm0 : ((m : Int) == 0) = false := by simp; omega
            have HR1 : Hid (slR s w.heap.size (.slice (some ⟨g, 0, none⟩) n c) rs w1) := HR.out.below hb1
            have HB1 : Hid (Below w.heap.size w w1) := HB.out.trans (hb1.mono HB.out.size)
            obtain ⟨cc, ecc⟩ : ∃ cc, cd s i m = cc := ⟨_, rfl⟩
            have HCC : Hid (cd s i m = cc) := ecc
            rw [ecc]
            clear hb1 hf ecc HR HB
            by_cases h2 : cc = 2
            · subst h2
              have hdc := HD.out i m w1
              rw [HCC.out] at hdc
              have HDC := hidB hdc
              have HC2 := HCC
              clear hdc HCC
              go_wp2_with fail
              refine HDC.out.mono ?_
              rintro o w2 ⟨ao, cap, rfl, ho2, hb2⟩
              have HR2 := hidB (HR1.out.below hb2)
              have HFS := hidB (HR1.out.fresh (Nat.le_refl _) ho2)
              have HOW := hidB (ownsB.lower ho2 HB1.out.size)
              have HB2 := hidB (HB1.out.trans (hb2.mono HB1.out.size))
              clear ho2 hb2 HDC HR1 HB1
              have HZ : Hid (blk (w2.alloc (.cells [.bool false, .int .u32 0, .bool false, .int .i64 0, .slice none 0 0].toArray 34)) w2.heap.size [.bool false, .int .u32 0, .bool false, .int .i64 0, .slice none 0 0] 34) := blk.new w2 _ 34
              have HZB : Hid (Below w2.heap.size w2 (w2.alloc (.cells [.bool false, .int .u32 0, .bool false, .int .i64 0, .slice none 0 0].toArray 34))) := (Below.refl _ _).alloc (Nat.le_refl _) _
              go_upto_region 14 with (first | (refine wpList_store_mid (P := Try.prog) rfl 34 (.tmp 7) (.tmp 50) rfl w2.heap.size 0 [.bool (fk s i m).ext, .int .u32 ((fk s i m).id : Int), .bool (fk s i m).rtr, .int .i64 ((fk s i m).dlc : Int), .slice ao (fk s i m).data.length cap].toArray rfl rfl (HZ.out.there 0 5 (by simp)) sz34 (one34 _ _ _ _ _ _ _) ?_; generalize hX : World.setCells _ w2.heap.size 0 _ = w3; have HX3 : Hid (World.setCells (w2.alloc (.cells [.bool false, .int .u32 0, .bool false, .int .i64 0, .slice none 0 0].toArray 34)) w2.heap.size 0 [.bool (fk s i m).ext, .int .u32 ((fk s i m).id : Int), .bool (fk s i m).rtr, .int .i64 ((fk s i m).dlc : Int), .slice ao (fk s i m).data.length cap] = w3) := hX; clear hX))
              have HB23 : Hid (Below w2.heap.size w2 w3) := by show Below _ _ _; rw [← HX3.out]; exact setCells_below (Nat.le_refl _) 0 _ HZB.out
              have HP3 : Hid (blk w3 w2.heap.size [.bool (fk s i m).ext, .int .u32 ((fk s i m).id : Int), .bool (fk s i m).rtr, .int .i64 ((fk s i m).dlc : Int), .slice ao (fk s i m).data.length cap] 34) := by
                show blk _ _ _ _
                rw [← HX3.out]
                have := blk.put [] [.bool false, .int .u32 0, .bool false, .int .i64 0, .slice none 0 0] [] [.bool (fk s i m).ext, .int .u32 ((fk s i m).id : Int), .bool (fk s i m).rtr, .int .i64 ((fk s i m).dlc : Int), .slice ao (fk s i m).data.length cap] (w := w2.alloc (.cells [.bool false, .int .u32 0, .bool false, .int .i64 0, .slice none 0 0].toArray 34)) (b := w2.heap.size) (T := 34) (by simpa using HZ.out) rfl
                simpa using this
              have HR3 := hidB (HR2.out.below HB23.out)
              have HO3 : Hid (ownsB w3 w.heap.size (.slice ao (fk s i m).data.length cap) (fk s i m).data) := ownsB.below HOW.out HB23.out
              have HB3 := hidB (HB2.out.trans (HB23.out.mono HB2.out.size))
              clear HX3 HZ HZB HB23 HR2 HOW HB2
              generalize w2.heap.size = bf at *
              have HNB : Hid ((w3.alloc (.cells [.int .i64 (i : Int), .int .i64 (m : Int), .bool (fk s i m).ext, .int .u32 ((fk s i m).id : Int), .bool (fk s i m).rtr, .int .i64 ((fk s i m).dlc : Int), .slice ao (fk s i m).data.length cap].toArray 38)).heap[w3.heap.size]? = some (.cells [.int .i64 (i : Int), .int .i64 (m : Int), .bool (fk s i m).ext, .int .u32 ((fk s i m).id : Int), .bool (fk s i m).rtr, .int .i64 ((fk s i m).dlc : Int), .slice ao (fk s i m).data.length cap].toArray 38)) := heap_alloc_new w3 _
              have hbA : Below w3.heap.size w3 (w3.alloc (.cells [.int .i64 (i : Int), .int .i64 (m : Int), .bool (fk s i m).ext, .int .u32 ((fk s i m).id : Int), .bool (fk s i m).rtr, .int .i64 ((fk s i m).dlc : Int), .slice ao (fk s i m).data.length cap].toArray 38)) := (Below.refl _ _).alloc (Nat.le_refl _) _
              have HR4 := hidB (HR3.out.below hbA)
              have HO4 : Hid (ownsB (w3.alloc (.cells [.int .i64 (i : Int), .int .i64 (m : Int), .bool (fk s i m).ext, .int .u32 ((fk s i m).id : Int), .bool (fk s i m).rtr, .int .i64 ((fk s i m).dlc : Int), .slice ao (fk s i m).data.length cap].toArray 38)) w.heap.size (.slice ao (fk s i m).data.length cap) (fk s i m).data) := ownsB.below HO3.out hbA
              have HB4 := hidB (HB3.out.trans (hbA.mono HB3.out.size))
              have HOW4 : Hid ((w3.alloc (.cells [.int .i64 (i : Int), .int .i64 (m : Int), .bool (fk s i m).ext, .int .u32 ((fk s i m).id : Int), .bool (fk s i m).rtr, .int .i64 ((fk s i m).dlc : Int), .slice ao (fk s i m).data.length cap].toArray 38)).ownsRow w.heap.size 38 7 (.slice (some ⟨g, 0, none⟩) n c) n (rs.flatMap (enc7 s))) := by
                have := HR4.out.own
                rw [← HNN.out] at this
                exact this
              clear hbA
              have hwz := HB3.out.size
              have hgB := (ownsRow_lt HR3.out.own rfl).2
              have HGB : Hid (w.heap.size ≤ g) := hgB
              clear hgB
              go_upto_region 16 with (first | (refine wpList_load_mid (P := Try.prog) rfl 34 (.tmp 7) rfl bf 0 rfl [.bool (fk s i m).ext, .int .u32 ((fk s i m).id : Int), .bool (fk s i m).rtr, .int .i64 ((fk s i m).dlc : Int), .slice ao (fk s i m).data.length cap] _ HP3.out.load Try.underlying34 rfl sz34 ?_) | (refine app_rec rfl (.tmp 52) (.tmp 57) 22 38 _ 7 64 Try.info38 Try.underlying22 rfl (by decide) (by decide) rfl w.heap.size g n c (rs.flatMap (enc7 s)) rfl HOW4.out w3.heap.size [.int .i64 (i : Int), .int .i64 (m : Int), .bool (fk s i m).ext, .int .u32 ((fk s i m).id : Int), .bool (fk s i m).rtr, .int .i64 ((fk s i m).dlc : Int), .slice ao (fk s i m).data.length cap] rfl rfl HNB.out (by simp [Value.oneCell']) (by omega) (by simp; omega) ?_; intro g' k' w5 hown5 hgr5 hgg5 hgB5; have HOW5 := hidB hown5; have HGR5 := hidB hgr5; clear hown5 hgr5 hgg5 hgB5))
              have HR5 : Hid (slR s w.heap.size (.slice (some ⟨g', 0, none⟩) (n + 1) k') (rs ++ [((i, m), (ao, (fk s i m).data.length, cap))]) w5) := HR4.out.app ((i, m), (ao, (fk s i m).data.length, cap)) HO4.out HFS.out (by rw [← HNN.out]; exact HOW5.out) HGR5.out
              have HB5 : Hid (Below w.heap.size w w5) := HB4.out.grown HGR5.out (by have := HB4.out.size; omega) (by intro x e; cases e; exact HGB.out)
              have HS5 : Hid (∀ x, gp s (i + m) x → ∃ L', L0 = (i, m) :: L' ∧ SN s x L') := fun x hx => HSI.out.i3 hlt HN49.out HFD.out HC2.out hx
              clear HOW5 HGR5 HR4 HO4 HB4 HOW4 HNB HR3 HO3 HB3 HP3 HFS hwz HGB HSI
              go_wp2
              go_loopw [4, 9] (fun x k wr => ∃ q : Nat, q ≤ 3 ∧ x = .int .i64 (((i + m + q : Nat)) : Int) ∧ k = .int .i64 (q : Int) ∧ i + m + q ≤ s.size ∧ Hid (∀ b, b < q → ¬ z0 s (i + m + b)) ∧ wr = w5) (fun _ k _ => 3 - (intOf k).toNat)
              case atStart => exact ⟨0, by omega, by go_num, rfl, by omega, fun b hb => absurd hb (by omega), rfl⟩
              case round =>
                obtain ⟨q, hq3, rfl, rfl, hqs, HZQ, rfl⟩ := hrel
                by_cases hin : q < 3 ∧ i + m + q < s.size
                · obtain ⟨hq, hqz⟩ := hin
                  by_cases h48 : (s[i + m + q].toNat : Int) = 48
                  · have HZ1 : Hid (z0 s (i + m + q)) := ⟨hqz, h48⟩
                    have HFO := hidB (HF.out (i + m + q) (by omega) wr)
                    go_wp2_with fail
                    refine HFO.out.mono ?_
                    rintro o w6 ⟨⟨e, hqt, rfl⟩ | ⟨hqt, rfl⟩, rfl⟩
                    · have hx := HS5.out e (Or.inl ⟨q, hq, HZ1.out, HZQ.out, Or.inl hqt⟩)
                      have HX := hidB hx
                      have he : i + m + q ≤ e ∧ e ≤ s.size := by
                        obtain ⟨p, a, b, _, rfl⟩ := hqt
                        have := b.1
                        omega
                      clear hx hqt
                      go_wp2
                      go_roundw
                      case rel =>
                        obtain ⟨L', hl, hsn⟩ := HX.out
                        exact ⟨e, (rs ++ [((i, m), (ao, (fk s i m).data.length, cap))]), g', n + 1, k', L', rfl, rfl, by omega, by rw [List.length_append, ← HNN.out]; rfl, by omega, HR5.out, hsn, by rw [HLL.out, hl, List.map_append, List.append_assoc]; rfl, HB5.out⟩
                      case measure => simp [intOf]; omega
                    · have hx := HS5.out (s.size + 1) (Or.inl ⟨q, hq, HZ1.out, HZQ.out, Or.inr ⟨hqt, by omega⟩⟩)
                      have HX := hidB hx
                      clear hx hqt
                      go_wp2
                      go_roundw
                      case rel =>
                        obtain ⟨L', hl, hsn⟩ := HX.out
                        exact ⟨s.size + 1, (rs ++ [((i, m), (ao, (fk s i m).data.length, cap))]), g', n + 1, k', L', rfl, by go_num, by omega, by rw [List.length_append, ← HNN.out]; rfl, by omega, HR5.out, hsn, by rw [HLL.out, hl, List.map_append, List.append_assoc]; rfl, HB5.out⟩
                      case measure => simp [intOf]; omega
                  · have b48 : ((s[i + m + q].toNat : Int) == 48) = false := by simpa using h48
                    have HZ1 : Hid (∀ b, b < q + 1 → ¬ z0 s (i + m + b)) := fun b hb hz => by
                      by_cases e : b = q
                      · subst e
                        obtain ⟨_, hv⟩ := hz
                        exact h48 hv
                      · exact HZQ.out b (by omega) hz
                    clear h48
                    go_wp2
                    go_roundw
                    case rel => exact ⟨q + 1, by omega, by go_num, by go_num, by omega, HZ1.out, trivial⟩
                    case measure => simp [intOf]; omega
                · have hx := HS5.out (i + m + q) (Or.inr ⟨fun b hb hz => by
                    obtain ⟨hl, hv⟩ := hz
                    by_cases e : b < q
                    · exact HZQ.out b e ⟨hl, hv⟩
                    · exact absurd hin (by omega), by omega⟩)
                  have HX := hidB hx
                  clear hx
                  by_cases hq : q < 3
                  · have hqe : s.size = i + m + q := by omega
                    have HQE : Hid (s.size = i + m + q) := hqe
                    have hnl : ¬ i + m + q < s.size := by omega
                    clear hqe
                    go_wp2
                    go_roundw
                    case rel =>
                      obtain ⟨L', hl, hsn⟩ := HX.out
                      exact ⟨i + m + q, (rs ++ [((i, m), (ao, (fk s i m).data.length, cap))]), g', n + 1, k', L', rfl, rfl, by omega, by rw [List.length_append, ← HNN.out]; rfl, by omega, HR5.out, hsn, by rw [HLL.out, hl, List.map_append, List.append_assoc]; rfl, HB5.out⟩
                    case measure => simp [intOf]; omega
                  · have hqe : q = 3 := by omega
                    subst hqe
                    go_wp2
                    go_roundw
                    case rel =>
                      obtain ⟨L', hl, hsn⟩ := HX.out
                      exact ⟨i + m + 3, (rs ++ [((i, m), (ao, (fk s i m).data.length, cap))]), g', n + 1, k', L', rfl, by go_num, by omega, by rw [List.length_append, ← HNN.out]; rfl, by omega, HR5.out, hsn, by rw [HLL.out, hl, List.map_append, List.append_assoc]; rfl, HB5.out⟩
                    case measure => simp [intOf]; omega
            · have b2 : ((cc : Int) != 2) = true := by simp; omega
              have HN2 : Hid (¬ cd s i m = 2) := by show ¬ _; rw [HCC.out]; exact h2
              have hfo := HF.out (i + m - 1) (by omega) w1
              rw [show ((i + m - 1 : Nat) : Int) = (i : Int) + (m : Int) - 1 by omega, show i + m - 1 + 1 = i + m by omega] at hfo
              have HFO : Hid (Calls Try.prog 11 #[.string s, .int .i64 ((i : Int) + (m : Int) - 1)] w1 fun o w' => ((∃ e, qt s (i + m) e ∧ o = .returned (.int .i64 (e : Int))) ∨ (noq s (i + m) ∧ o = .returned (.int .i64 ((s.size : Int) + 1)))) ∧ w1 = w') := hfo
              clear hfo h2
              go_wp2_with fail
              refine HFO.out.mono ?_
              rintro o w2 ⟨⟨e, hq, rfl⟩ | ⟨hq, rfl⟩, rfl⟩
              · have HS1 : Hid (SN s e L0) := HSI.out.i2 hlt HN49.out HFD.out HN2.out (Or.inl hq)
                have he : i + m ≤ e ∧ e ≤ s.size := by
                  obtain ⟨p, a, b, _, rfl⟩ := hq
                  have := b.1
                  omega
                clear hq
                go_wp2
                go_roundw
                case rel => exact ⟨e, rs, g, n, c, L0, rfl, rfl, by omega, HNN.out, by omega, HR1.out, HS1.out, HLL.out, HB1.out⟩
                case measure => simp [intOf]; omega
              · have HS1 : Hid (SN s (s.size + 1) L0) := HSI.out.i2 hlt HN49.out HFD.out HN2.out (Or.inr ⟨hq, by omega⟩)
                clear hq
                go_wp2
                go_roundw
                case rel => exact ⟨s.size + 1, rs, g, n, c, L0, rfl, by go_num, by omega, HNN.out, by omega, HR1.out, HS1.out, HLL.out, HB1.out⟩
                case measure => simp [intOf]; omega
          · have HL0 : Hid (L0 = []) := HSI.out.i0 hlt HN49.out hno
            have HR1 : Hid (slR s w.heap.size (.slice (some ⟨g, 0, none⟩) n c) rs w1) := HR.out.below hb1
            have HB1 : Hid (Below w.heap.size w w1) := HB.out.trans (hb1.mono HB.out.size)
            clear hb1 hno
            go_wp2
            go_ret
            exact ⟨_, rs, rfl, HR1.out, by rw [HLL.out, HL0.out, List.append_nil], HB1.out⟩
      · have HL0 : Hid (L0 = []) := HSI.out.end_ (by omega)
        go_wp2
        go_ret
        exact ⟨_, rs, rfl, HR.out, by rw [HLL.out, HL0.out, List.append_nil], HB.out⟩
  · rw [hk] at HOK
    clear hk
    go_enter Try.func4, Try.ntmps4
    go_wp2_with (first | (go_at_call 9; refine (HOK.out _).mono ?_; rintro o w1 ⟨rfl, rfl⟩))
    go_ret
    exact ⟨_, [], rfl, HS0.out, rfl, HB0.out⟩
end Go.Proofs.Ytiaddabmiponoaa
