import Derived.Test.YtiaddabmiponoaaS27
import Derived.RangeFuncNested
import Derived.RangeFuncBound
import Derived.RangeFuncCalls
import Derived.RangeFuncLeaves
import Derived.Shelf.Abstract
import Derived.Shelf.RegionOpen
import Derived.WalkKit
import Derived.OwnWalkIn
import Derived.TacticsInMore
import Derived.LoopNIn
import Derived.LoopIn
namespace Go.Proofs.Ytiaddabmiponoaa
open Go.RowKit Go.Shelf
set_option linter.unusedVariables false
attribute [local go_sem] Oper.semAt_some
/-- what a slot is in the world at hand -/
def gdS (s : ByteArray) (B : Nat) (x : Sx) (W : World) : Prop := ownsB W B (.slice x.2.1 x.2.2.1 x.2.2.2) (fk s x.1.1 x.1.2).data
theorem cell_of_heap {w w' : World} {b : Nat} (h : w'.heap[b]? = w.heap[b]?) (o : Nat) : w'.cell? ⟨b, o, none⟩ = w.cell? ⟨b, o, none⟩ := by
  simp only [World.cell?, h]
set_option maxHeartbeats 8000000 in
set_option maxRecDepth 20000 in
theorem slots_in (n : Nat) (hn : 1 ≤ n) (l bv ov n0 : Nat) (s : ByteArray) (m : Int) (L : List (Nat × Nat)) (J : List Sx → World → Prop)
    (hJb : ∀ pre W W', J pre W → Below W.heap.size W W' → J pre W')
    (hY : ∀ pre x W0 W, J pre W0 → pre.length ≤ L.length → n0 ≤ W0.heap.size → Below W0.heap.size W0 W → gdS s W0.heap.size x W → YieldAt Fence.wide (n - 1) Try.prog l #[.agg (enc7 s x).toArray] W fun e W' => e = .returned (.bool true) ∧ J (pre ++ [x]) W' ∧ W.heap.size ≤ W'.heap.size ∧ ∀ g, g ≠ ov → (g < n0 ∨ W0.heap.size ≤ g) → g < W.heap.size → W'.heap[g]? = W.heap[g]?)
    (hs : s.size ≤ 6000) (hok : ∀ k (h : k < s.size), okC s[k] = true) (hSN : SN s 0 L) (hov : ov < n0) (hbo : bv ≠ ov) (h0o : 0 ≠ ov) (hbv : bv < n0) (W : World) (hW : n0 ≤ W.heap.size)
    (hbus : W.cell? ⟨bv, 0, none⟩ = some (.string s)) (hm : W.cell? ⟨0, 0, none⟩ = some (.int .i64 m)) (h0 : J [] W) :
    CallsIn Fence.wide n Try.prog 22 #[.func (.yield l) #[] #[], .pointer (some ⟨bv, 0, none⟩)] W fun e W' => (∃ v, e = .returned v) ∧ ∃ xs, xs.map (·.1) = L ∧ J xs W' := by
  have HHY := hidB hY
  clear hY
  refine callsIn_of_wp Try.func22 rfl trivial ?_ rfl
  simp only [Try.ntmps22, List.size_toArray, List.length_cons, List.length_nil, Nat.reduceAdd, Nat.reduceSub, Array.replicate_succ, Array.replicate_zero, List.push_toArray, List.append_toArray, List.nil_append, List.cons_append]
  have HJB : Hid (∀ pre W W', J pre W → Below W.heap.size W W' → J pre W') := hJb
  have HOK : Hid (∀ k (h : k < s.size), okC s[k] = true) := hok
  have HS0 : Hid (SN s 0 L) := hSN
  have HJ0 : Hid (J [] W) := h0
  have HC0 : Hid (W.cell? ⟨bv, 0, none⟩ = some (.string s) ∧ W.cell? ⟨0, 0, none⟩ = some (.int .i64 m)) := ⟨hbus, hm⟩
  clear hJb hok hSN h0 hbus hm
  gi_wp2
  gi_loopw [3] (fun k wr => ∃ (i : Nat) (pre : List Sx) (L0 : List (Nat × Nat)), k = .int .i64 (i : Int) ∧ i ≤ s.size ∧ n0 ≤ wr.heap.size ∧ Hid (SN s i L0) ∧ Hid (L = pre.map (·.1) ++ L0) ∧ Hid (J pre wr) ∧ wr.cell? ⟨bv, 0, none⟩ = some (.string s) ∧ Hid (wr.cell? ⟨0, 0, none⟩ = some (.int .i64 m))) (fun k _ => s.size - (intOf k).toNat)
  case atStart => exact ⟨0, [], L, rfl, Nat.zero_le _, hW, HS0.out, rfl, HJ0.out, HC0.out.1, HC0.out.2⟩
  case round =>
    obtain ⟨i, pre, L0, rfl, hi, hwz, HSI, HLL, HJ, hbus, HM⟩ := hrel
    by_cases hlt : i < s.size
    · by_cases h49 : (s[i].toNat : Int) = 49
      · have HS1 : Hid (SN s (i + 1) L0) := HSI.out.i1 hlt h49
        gi_wp2
        go_roundw
        case rel => exact ⟨i + 1, pre, L0, by go_num, by omega, hwz, HS1.out, HLL.out, HJ.out, hbus, HM.out⟩
        case measure => simp [intOf]; omega
      · have b49 : ((s[i].toNat : Int) == 49) = false := by simpa using h49
        have HN49 : Hid (¬ (s[i].toNat : Int) = 49) := h49
        clear h49
        gi_wp2
        refine ⟨trivial, (callsIn_wide.2 (slotAt_any s i wr hs hlt)).mono ?_⟩
        rintro o w1 ⟨⟨q, ao, cap, hf, rfl, ho⟩ | ⟨hno, q, fe, fi, fr, fd, ao, fm, cap, c, hq, hc, rfl⟩, hb1⟩
        · have HFD : Hid (fnd s i q) := hf
          have hlo := hf.lo
          have hhi := hf.hi
          have HJ1 : Hid (J pre w1) := HJB.out pre wr w1 HJ.out hb1
          have hz1 := hb1.size
          have hbus1 : w1.cell? ⟨bv, 0, none⟩ = some (.string s) := (hb1.cell (by show bv < _; omega)).trans hbus
          have HM1 : Hid (w1.cell? ⟨0, 0, none⟩ = some (.int .i64 m)) := (hb1.cell (by exact World.block_lt_of_cell? wr _ HM.out)).trans HM.out
          have HB1 := hidB hb1
          have HO1 : Hid (ownsB w1 (wr.heap.size + 2) (.slice ao (fk s i q).data.length cap) (fk s i q).data) := ho
          obtain ⟨c, ec⟩ : ∃ c, cd s i q = c := ⟨_, rfl⟩
          have HCC : Hid (cd s i q = c) := ec
          rw [ec]
          clear hf ho hb1 ec
          by_cases h2 : c = 2
          · subst h2
            have hbA : Below w1.heap.size w1 (w1.alloc (.cells #[.int .i64 (i : Int), .int .i64 (q : Int), .bool (fk s i q).ext, .int .u32 ((fk s i q).id : Int), .bool (fk s i q).rtr, .int .i64 ((fk s i q).dlc : Int), .slice ao (fk s i q).data.length cap] 38)) := (Below.refl _ _).alloc (Nat.le_refl _) _
            have y1 : (w1.alloc (.cells #[.int .i64 (i : Int), .int .i64 (q : Int), .bool (fk s i q).ext, .int .u32 ((fk s i q).id : Int), .bool (fk s i q).rtr, .int .i64 ((fk s i q).dlc : Int), .slice ao (fk s i q).data.length cap] 38)).cell? ⟨w1.heap.size, 1, none⟩ = some (.int .i64 (q : Int)) := (blk.new w1 #[.int .i64 (i : Int), .int .i64 (q : Int), .bool (fk s i q).ext, .int .u32 ((fk s i q).id : Int), .bool (fk s i q).rtr, .int .i64 ((fk s i q).dlc : Int), .slice ao (fk s i q).data.length cap].toList 38).cell 1 _ rfl
            have hbus2 : (w1.alloc (.cells #[.int .i64 (i : Int), .int .i64 (q : Int), .bool (fk s i q).ext, .int .u32 ((fk s i q).id : Int), .bool (fk s i q).rtr, .int .i64 ((fk s i q).dlc : Int), .slice ao (fk s i q).data.length cap] 38)).cell? ⟨bv, 0, none⟩ = some (.string s) := (hbA.cell (by show bv < _; omega)).trans hbus1
            have hm2 : (w1.alloc (.cells #[.int .i64 (i : Int), .int .i64 (q : Int), .bool (fk s i q).ext, .int .u32 ((fk s i q).id : Int), .bool (fk s i q).rtr, .int .i64 ((fk s i q).dlc : Int), .slice ao (fk s i q).data.length cap] 38)).cell? ⟨0, 0, none⟩ = some (.int .i64 m) := (hbA.cell (by exact World.block_lt_of_cell? w1 _ HM1.out)).trans HM1.out
            have hz2 : (w1.alloc (.cells #[.int .i64 (i : Int), .int .i64 (q : Int), .bool (fk s i q).ext, .int .u32 ((fk s i q).id : Int), .bool (fk s i q).rtr, .int .i64 ((fk s i q).dlc : Int), .slice ao (fk s i q).data.length cap] 38)).heap.size = w1.heap.size + 1 := by simp
            obtain ⟨fn, tmps, assign, body, hy, hR⟩ := HHY.out pre ((i, q), (ao, (fk s i q).data.length, cap)) wr (w1.alloc (.cells #[.int .i64 (i : Int), .int .i64 (q : Int), .bool (fk s i q).ext, .int .u32 ((fk s i q).id : Int), .bool (fk s i q).rtr, .int .i64 ((fk s i q).dlc : Int), .slice ao (fk s i q).data.length cap] 38)) HJ.out (by rw [HLL.out, List.length_append, List.length_map]; omega) hwz (HB1.out.trans (hbA.mono hz1)) ((ownsB.below HO1.out hbA).lower (by omega))
            have HA := hidB (And.intro hbus2 (And.intro hm2 hz2))
            have HY1 := hidB y1
            clear hbA hbus2 hm2 hz2 y1
            have HR := hidB hR
            clear hR
            dsimp only [enc7] at hy
            gi_wp2
            refine HR.out.mono ?_
            rintro e w3 ⟨rfl, hJ3, hz3, hk3⟩
            have HJ3 := hidB hJ3
            have e0 := HA.out.2.2
            have hbus3 : w3.cell? ⟨bv, 0, none⟩ = some (.string s) := (cell_of_heap (hk3 bv hbo (Or.inl hbv) (by omega)) 0).trans HA.out.1
            have HM3 : Hid (w3.cell? ⟨0, 0, none⟩ = some (.int .i64 m)) := (cell_of_heap (hk3 0 h0o (Or.inl (by omega)) (by omega)) 0).trans HA.out.2.1
            have y3 : w3.cell? ⟨w1.heap.size, 1, none⟩ = some (.int .i64 (q : Int)) := (cell_of_heap (hk3 w1.heap.size (by omega) (Or.inr hz1) (by omega)) 1).trans HY1.out
            have hz4 : n0 ≤ w3.heap.size := by omega
            clear hJ3 hz3 hk3 e0 HR HA HY1 hy
            have hfb := freeBehind_any s (i + q) 2 w3 m hs (by omega) HOK.out HM3.out
            rw [show ((i + q : Nat) : Int) = (i : Int) + (q : Int) by omega] at hfb
            have HFB := hidB hfb
            clear hfb
            gi_wp2
            refine ⟨trivial, (callsIn_wide.2 HFB.out).mono ?_⟩
            rintro o w4 ⟨⟨x, hx1, hx2, hx3, rfl⟩, rfl⟩
            have HX := hidB (And.intro hx1 hx2)
            clear hx1 hx2 HFB
            obtain ⟨L', e3, hs3⟩ := HSI.out.i3 hlt HN49.out HFD.out HCC.out (HX.out.2 trivial)
            have HSX := hidB hs3
            have HLX : Hid (L = (pre ++ [((i, q), (ao, (fk s i q).data.length, cap))]).map (·.1) ++ L') := by
              show _ = _
              rw [HLL.out, e3]
              simp
            have hxi : i + q ≤ x := (HX.out.2 trivial).ge hhi
            clear hs3 e3
            gi_wp2
            go_roundw
            case rel => exact ⟨x, _, L', rfl, hx3, hz4, HSX.out, HLX.out, HJ3.out, hbus3, HM3.out⟩
            case measure => simp [intOf]; omega
          · have b2 : ((c : Int) == 2) = false := by simp; omega
            have HC2 : Hid (¬ c = 2) := h2
            clear h2
            gi_wp2
            refine ⟨fun _ h => (by cases h), ?_⟩
            have hbA : Below w1.heap.size w1 (w1.alloc (.cells #[.int .i64 (i : Int), .int .i64 (q : Int), .bool (fk s i q).ext, .int .u32 ((fk s i q).id : Int), .bool (fk s i q).rtr, .int .i64 ((fk s i q).dlc : Int), .slice ao (fk s i q).data.length cap] 38)) := (Below.refl _ _).alloc (Nat.le_refl _) _
            have y1 : (w1.alloc (.cells #[.int .i64 (i : Int), .int .i64 (q : Int), .bool (fk s i q).ext, .int .u32 ((fk s i q).id : Int), .bool (fk s i q).rtr, .int .i64 ((fk s i q).dlc : Int), .slice ao (fk s i q).data.length cap] 38)).cell? ⟨w1.heap.size, 1, none⟩ = some (.int .i64 (q : Int)) := (blk.new w1 #[.int .i64 (i : Int), .int .i64 (q : Int), .bool (fk s i q).ext, .int .u32 ((fk s i q).id : Int), .bool (fk s i q).rtr, .int .i64 ((fk s i q).dlc : Int), .slice ao (fk s i q).data.length cap].toList 38).cell 1 _ rfl
            have HJ2 : Hid (J pre (w1.alloc (.cells #[.int .i64 (i : Int), .int .i64 (q : Int), .bool (fk s i q).ext, .int .u32 ((fk s i q).id : Int), .bool (fk s i q).rtr, .int .i64 ((fk s i q).dlc : Int), .slice ao (fk s i q).data.length cap] 38))) := HJB.out pre w1 _ HJ1.out hbA
            have hbus2 : (w1.alloc (.cells #[.int .i64 (i : Int), .int .i64 (q : Int), .bool (fk s i q).ext, .int .u32 ((fk s i q).id : Int), .bool (fk s i q).rtr, .int .i64 ((fk s i q).dlc : Int), .slice ao (fk s i q).data.length cap] 38)).cell? ⟨bv, 0, none⟩ = some (.string s) := (hbA.cell (by show bv < _; omega)).trans hbus1
            have HM2 : Hid ((w1.alloc (.cells #[.int .i64 (i : Int), .int .i64 (q : Int), .bool (fk s i q).ext, .int .u32 ((fk s i q).id : Int), .bool (fk s i q).rtr, .int .i64 ((fk s i q).dlc : Int), .slice ao (fk s i q).data.length cap] 38)).cell? ⟨0, 0, none⟩ = some (.int .i64 m)) := (hbA.cell (by exact World.block_lt_of_cell? w1 _ HM1.out)).trans HM1.out
            have hz2 : n0 ≤ (w1.alloc (.cells #[.int .i64 (i : Int), .int .i64 (q : Int), .bool (fk s i q).ext, .int .u32 ((fk s i q).id : Int), .bool (fk s i q).rtr, .int .i64 ((fk s i q).dlc : Int), .slice ao (fk s i q).data.length cap] 38)).heap.size := by have := hbA.size; omega
            clear hbA hbus1 HJ1 HM1
            generalize w1.alloc (.cells #[.int .i64 (i : Int), .int .i64 (q : Int), .bool (fk s i q).ext, .int .u32 ((fk s i q).id : Int), .bool (fk s i q).rtr, .int .i64 ((fk s i q).dlc : Int), .slice ao (fk s i q).data.length cap] 38) = w2 at *
            have hfb := freeBehind_any s (i + q) c w2 m hs (by omega) HOK.out HM2.out
            rw [show ((i + q : Nat) : Int) = (i : Int) + (q : Int) by omega] at hfb
            have HFB := hidB hfb
            clear hfb
            gi_wp2
            refine ⟨trivial, (callsIn_wide.2 HFB.out).mono ?_⟩
            rintro o w3 ⟨⟨x, hx1, hx2, hx3, rfl⟩, rfl⟩
            have HX := hidB (And.intro hx1 hx2)
            clear hx1 hx2 HFB
            have HSX : Hid (SN s x L0) := HSI.out.i2 hlt HN49.out HFD.out (by rw [HCC.out]; exact HC2.out) (HX.out.1 HC2.out)
            have HLX := HLL
            have hxi : i + q ≤ x := (HX.out.1 HC2.out).gt hhi
            gi_wp2
            go_roundw
            case rel => exact ⟨x, pre, L0, rfl, hx3, hz2, HSX.out, HLX.out, HJ2.out, hbus2, HM2.out⟩
            case measure => simp [intOf]; omega
        · have HL0 : Hid (L0 = []) := HSI.out.i0 hlt HN49.out hno
          have hiq : i + q = s.size := by omega
          have HIQ : Hid (i + q = s.size) := hiq
          have hq0 : 1 ≤ q := by omega
          have hql : i + q ≤ s.size := by omega
          have HC2 : Hid (¬ c = 2) := by rcases hc with rfl | rfl <;> (show ¬ _; decide)
          have HJ1 : Hid (J pre w1) := HJB.out pre wr w1 HJ.out hb1
          have hz1 := hb1.size
          have hbus1 : w1.cell? ⟨bv, 0, none⟩ = some (.string s) := (hb1.cell (by show bv < _; omega)).trans hbus
          have HM1 : Hid (w1.cell? ⟨0, 0, none⟩ = some (.int .i64 m)) := (hb1.cell (by exact World.block_lt_of_cell? wr _ HM.out)).trans HM.out
          have b2 : ((c : Int) == 2) = false := by rcases hc with rfl | rfl <;> decide
          clear hno hb1 hq hiq hc
          gi_wp2
          refine ⟨fun _ h => (by cases h), ?_⟩
          have hbA : Below w1.heap.size w1 (w1.alloc (.cells #[.int .i64 (i : Int), .int .i64 (q : Int), .bool fe, .int .u32 (fi : Int), .bool fr, .int .i64 fd, .slice ao fm cap] 38)) := (Below.refl _ _).alloc (Nat.le_refl _) _
          have y1 : (w1.alloc (.cells #[.int .i64 (i : Int), .int .i64 (q : Int), .bool fe, .int .u32 (fi : Int), .bool fr, .int .i64 fd, .slice ao fm cap] 38)).cell? ⟨w1.heap.size, 1, none⟩ = some (.int .i64 (q : Int)) := (blk.new w1 #[.int .i64 (i : Int), .int .i64 (q : Int), .bool fe, .int .u32 (fi : Int), .bool fr, .int .i64 fd, .slice ao fm cap].toList 38).cell 1 _ rfl
          have HJ2 : Hid (J pre (w1.alloc (.cells #[.int .i64 (i : Int), .int .i64 (q : Int), .bool fe, .int .u32 (fi : Int), .bool fr, .int .i64 fd, .slice ao fm cap] 38))) := HJB.out pre w1 _ HJ1.out hbA
          have hbus2 : (w1.alloc (.cells #[.int .i64 (i : Int), .int .i64 (q : Int), .bool fe, .int .u32 (fi : Int), .bool fr, .int .i64 fd, .slice ao fm cap] 38)).cell? ⟨bv, 0, none⟩ = some (.string s) := (hbA.cell (by show bv < _; omega)).trans hbus1
          have HM2 : Hid ((w1.alloc (.cells #[.int .i64 (i : Int), .int .i64 (q : Int), .bool fe, .int .u32 (fi : Int), .bool fr, .int .i64 fd, .slice ao fm cap] 38)).cell? ⟨0, 0, none⟩ = some (.int .i64 m)) := (hbA.cell (by exact World.block_lt_of_cell? w1 _ HM1.out)).trans HM1.out
          have hz2 : n0 ≤ (w1.alloc (.cells #[.int .i64 (i : Int), .int .i64 (q : Int), .bool fe, .int .u32 (fi : Int), .bool fr, .int .i64 fd, .slice ao fm cap] 38)).heap.size := by have := hbA.size; omega
          clear hbA hbus1 HJ1 HM1
          generalize w1.alloc (.cells #[.int .i64 (i : Int), .int .i64 (q : Int), .bool fe, .int .u32 (fi : Int), .bool fr, .int .i64 fd, .slice ao fm cap] 38) = w2 at *
          have hfb := freeBehind_any s (i + q) c w2 m hs (by omega) HOK.out HM2.out
          rw [show ((i + q : Nat) : Int) = (i : Int) + (q : Int) by omega] at hfb
          have HFB := hidB hfb
          clear hfb
          gi_wp2
          refine ⟨trivial, (callsIn_wide.2 HFB.out).mono ?_⟩
          rintro o w3 ⟨⟨x, hx1, hx2, hx3, rfl⟩, rfl⟩
          have HX := hidB (And.intro hx1 hx2)
          clear hx1 hx2 HFB
          have hxs : s.size ≤ x := by
            rcases HX.out.1 HC2.out with ⟨p, a1, a2, _, rfl⟩ | ⟨_, h⟩
            · have := HIQ.out; omega
            · exact h
          have HSX : Hid (SN s x L0) := by show SN _ _ _; rw [HL0.out]; exact SN.done hxs
          have HLX := HLL
          have hxi : i + q ≤ x := by have := HIQ.out; omega
          gi_wp2
          go_roundw
          case rel => exact ⟨x, pre, L0, rfl, hx3, hz2, HSX.out, HLX.out, HJ2.out, hbus2, HM2.out⟩
          case measure => simp [intOf]; omega
    · have HL0 : Hid (L0 = []) := HSI.out.end_ (by omega)
      gi_wp2
      go_end0
      exact ⟨⟨_, rfl⟩, pre, by rw [HLL.out, HL0.out, List.append_nil], HJ.out⟩
end Go.Proofs.Ytiaddabmiponoaa
