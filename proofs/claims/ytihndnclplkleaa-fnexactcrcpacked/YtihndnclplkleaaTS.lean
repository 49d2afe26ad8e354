import Derived.Test.YtihndnclplkleaaTR
namespace Go.Proofs.Ytihndnclplkleaa
open Go.RowKit
def tabC : Array Value := (Value.int .u32 0 :: Value.int .i32 0 :: Value.int .u32 0 :: List.replicate 256 (Value.int .u16 0)).toArray
set_option maxRecDepth 100000 in
theorem zero_tab : Try.zeroCells85 = tabC := by kernel_rfl
theorem tabC_at (j : Nat) (hj : j < 256) : tabC[3 + j]? = some (.int .u16 0) := by
  unfold tabC
  rw [List.getElem?_toArray, show 3 + j = j + 1 + 1 + 1 by omega]
  simp only [List.getElem?_cons_succ]
  rw [List.getElem?_replicate, if_pos hj]
theorem tabC_0 : tabC[0]? = some (.int .u32 0) := by unfold tabC; rw [List.getElem?_toArray]; exact List.getElem?_cons_zero
theorem tabC_1 : tabC[1]? = some (.int .i32 0) := by unfold tabC; rw [List.getElem?_toArray, show (1 : Nat) = 0 + 1 from rfl, List.getElem?_cons_succ]; exact List.getElem?_cons_zero
theorem new_tab (w : World) : tabQ (w.alloc (.cells Try.zeroCells85 85)) w.heap.size := by
  rw [zero_tab]
  have hh : (w.alloc (.cells tabC 85)).heap[w.heap.size]? = some (.cells tabC 85) := heap_alloc_new w _
  refine .inl ⟨?_, ?_, ?_, ?_⟩
  · simp only [World.cell?, hh]
    exact tabC_0
  · simp only [World.cell?, hh]
    exact tabC_1
  · intro j hj
    have e : (if j < 1 then M.tabN j else 0 : Nat) = 0 := by
      split
      · rw [show j = 0 by omega]; exact M.tab_zero
      · rfl
    rw [e]
    simp only [World.cell?, hh]
    exact tabC_at j hj
  · intro j
    simp only [World.frozen?, hh]
    simp
theorem tabQ.other {w w' : World} {b : Nat} (h : tabQ w b) (hb : w'.heap[b]? = w.heap[b]?) : tabQ w' b := by
  have hc : ∀ j, w'.cell? ⟨b, j, none⟩ = w.cell? ⟨b, j, none⟩ := fun j => by simp only [World.cell?, hb]
  have hf : ∀ j, w'.frozen? ⟨b, j, none⟩ = w.frozen? ⟨b, j, none⟩ := fun j => by simp only [World.frozen?, hb]
  rcases h with ⟨h0, h1, ht⟩ | ⟨h0, ht⟩
  · exact .inl ⟨(hc 0).trans h0, (hc 1).trans h1, fun j hj => (hc _).trans (ht.cell j hj), fun j => (hf j).trans (ht.free j)⟩
  · exact .inr ⟨(hc 0).trans h0, fun j hj => (hc _).trans (ht.cell j hj), fun j => (hf j).trans (ht.free j)⟩
/-- what stands in the world of CrcPacked's loops: the table's block b, the argument's block p -/
structure crI (w w1 : World) (b : Nat) (N : Int) (a : Option Addr) (n cap : Nat) (W : World) : Prop where
  tab : tabQ W b
  bel : Below b w1 W
  lt : b < W.heap.size
  fst : Below (w.heap.size + 1) (w.alloc (pkC N a n cap 27)) w1
  le : w.heap.size + 1 ≤ b
theorem crI.inn {w w1 : World} {b : Nat} {N : Int} {a : Option Addr} {n cap : Nat} {W : World} (h : crI w w1 b N a n cap W) :
    W.cell? ⟨w.heap.size, 0, none⟩ = some (.int .i64 N) ∧ W.cell? ⟨w.heap.size, 1, none⟩ = some (.slice a n cap) ∧ Below w.heap.size w W := by
  exact pk_in (h.fst.trans (h.bel.mono h.le))
theorem crI.below {w w1 : World} {b : Nat} {N : Int} {a : Option Addr} {n cap : Nat} {W W' : World} (h : crI w w1 b N a n cap W) (hb : Below W.heap.size W W') : crI w w1 b N a n cap W' :=
  ⟨h.tab.other (hb.block b h.lt), h.bel.trans (hb.mono (Nat.le_of_lt h.lt)), Nat.lt_of_lt_of_le h.lt hb.size, h.fst, h.le⟩
theorem crI.step {w w1 : World} {b : Nat} {N : Int} {a : Option Addr} {n cap : Nat} {W W' : World} (h : crI w w1 b N a n cap W) (ht : tabQ W' b) (hb : Below b W W') : crI w w1 b N a n cap W' :=
  ⟨ht, h.bel.trans hb, Nat.lt_of_lt_of_le h.lt hb.size, h.fst, h.le⟩
set_option maxHeartbeats 4000000 in
set_option maxRecDepth 100000 in
theorem crcPacked_ok (w : World) (N : Nat) (a : Option Addr) (n cap : Nat) (l : List Nat) (h : isWords w a n cap l) (hok : okP (N : Int) l = true) (hN : N ≤ 2000) :
    Calls Try.prog 9 #[pkV (N : Int) a n cap] w fun o w' => o = .returned (.int .i64 (M.crcN (LB l N) : Int)) ∧ Below w.heap.size w w' := by
  obtain ⟨-, hNl, hll⟩ := okP_parts hok
  have hnl := h.len
  rw [← hnl] at hNl hll
  clear hnl
  have HO : Hid (okP (N : Int) l = true) := hok
  have HH : Hid (isWords w a n cap l) := h
  clear h hok
  have hgt : decide ((2000 : Int) < (N : Int)) = false := by simp; omega
  have e3 : (N : Int).tdiv 8 = ((N / 8 : Nat) : Int) := by rw [Int.tdiv_eq_ediv_of_nonneg (by omega)]; omega
  go_enter Try.func9, Try.ntmps9
  go_wp2_with fail
  refine (validPacked_any _ (N : Int) a n cap l (HH.out.below ((Below.refl _ _).alloc (Nat.le_refl _) _)) (by omega)).mono ?_
  rintro o w1 ⟨rfl, hb0⟩
  rw [HO.out]
  have hb1 : Below (w.heap.size + 1) (w.alloc (pkC (N : Int) a n cap 27)) w1 := hb0.mono (by simp)
  have st : crI w w1 w1.heap.size (N : Int) a n cap (w1.alloc (.cells Try.zeroCells85 85)) := ⟨new_tab w1, (Below.refl _ _).alloc (Nat.le_refl _) _, by simp, hb1, by have := hb1.size; simpa using this⟩
  clear hb0 hb1
  have hNd : decide ((N : Int) < 0) = false := by simp
  go_wp2_with fail
  obtain ⟨c0, c1, hB⟩ := st.inn
  have ST : Hid (crI w w1 w1.heap.size (N : Int) a n cap (w1.alloc (.cells Try.zeroCells85 85))) := st
  clear st
  generalize w1.alloc (.cells Try.zeroCells85 85) = w2 at *
  generalize w1.heap.size = b at *
  go_quiet (fail)
  have eq8 : (N : Int) / 8 = ((N / 8 : Nat) : Int) := by omega
  rw [eq8]
  have hq1 : 8 * (N / 8) ≤ N := by omega
  have hq2 : N < 8 * (N / 8) + 8 := by omega
  clear eq8 e3
  generalize N / 8 = q at *
  have st := ST.out.below (below_q w2 nq)
  clear ST c0 c1 hB
  generalize w2.drewN nq = w3 at *
  have ST : Hid (crI w w1 b (N : Int) a n cap w3) := st
  clear st
  go_wp2_with fail
  go_loopw [4, 20] (fun r i W => ∃ k : Nat, k ≤ q ∧ i = .int .i64 (k : Int) ∧ r = .int .i64 (M.crcN (LB l (8 * k)) : Int) ∧ crI w w1 b (N : Int) a n cap W) (fun _ i _ => q - (intOf i).toNat)
  case atStart => exact ⟨0, Nat.zero_le _, rfl, rfl, ST.out⟩
  case round =>
    clear ST
    obtain ⟨k, hk, rfl, rfl, st⟩ := hrel
    obtain ⟨c0, c1, hB⟩ := st.inn
    have hr := M.crcN_lt (LB l (8 * k))
    by_cases hkq : k < q
    · have ho := octN_lt l k
      have HS : Hid (M.crcN (LB l (8 * (k + 1))) = M.S8 (M.crcN (LB l (8 * k))) (octN l k)) := crc_oct l k
      have HA : Hid (Calls Try.prog 33 #[pkV (N : Int) a n cap, .int .i64 (k : Int)] wr fun o w' => o = .returned (.int .i64 (octN l k : Int)) ∧ crI w w1 b (N : Int) a n cap w') := by
        refine (octetAt_ok wr (N : Int) a n cap l (HH.out.below hB) k (by omega) (by omega)).mono ?_
        rintro o w' ⟨rfl, rfl⟩
        exact ⟨rfl, st.below ((Below.refl _ _).alloc (Nat.le_refl _) _)⟩
      clear st hB
      generalize hx : M.crcN (LB l (8 * k)) = x at *
      clear hx
      generalize octN l k = y at *
      go_wp2_with (first | (go_at_call 33; refine HA.out.mono ?_; rintro o w4 ⟨rfl, st⟩) | (go_at_call 32; refine (step_any b w4 x y st.tab hr ho).mono ?_; rintro o w5 ⟨rfl, t5, b5, -⟩))
      go_roundw
      case rel => exact ⟨k + 1, by omega, by go_num, by rw [HS.out], st.step t5 b5⟩
      case measure => simp [intOf]; omega
    · have hkk : k = q := by omega
      subst hkk
      have ST : Hid (crI w w1 b (N : Int) a n cap wr) := st
      clear st hB c0 c1
      go_wp2_with fail
      go_loopw [4, 7] (fun r i W => ∃ j : Nat, 8 * k ≤ j ∧ j ≤ N ∧ i = .int .i64 (j : Int) ∧ r = .int .i64 (M.crcN (LB l j) : Int) ∧ crI w w1 b (N : Int) a n cap W) (fun _ i _ => N - (intOf i).toNat)
      case atStart => exact ⟨8 * k, Nat.le_refl _, by omega, by go_num, rfl, ST.out⟩
      case round =>
        clear ST hr
        obtain ⟨j, hj1, hj2, rfl, rfl, st⟩ := hrel
        obtain ⟨c0, c1, hB⟩ := st.inn
        have hr := M.crcN_lt (LB l j)
        by_cases hjN : j < N
        · have HS : Hid (M.crcN (LB l (j + 1)) = M.stepN (M.crcN (LB l j)) (lev l j)) := by rw [LB_succ, M.crcN_snoc]; exact rfl
          have HA : Hid (Calls Try.prog 35 #[pkV (N : Int) a n cap, .int .i64 (j : Int)] wr fun o w' => o = .returned (.int .i64 (lev l j : Int)) ∧ crI w w1 b (N : Int) a n cap w') := by
            refine (levelAt_ok wr (N : Int) a n cap l (HH.out.below hB) j (by omega) (by omega)).mono ?_
            rintro o w' ⟨rfl, rfl⟩
            exact ⟨rfl, st.below ((Below.refl _ _).alloc (Nat.le_refl _) _)⟩
          clear st hB
          generalize hx : M.crcN (LB l j) = x at *
          clear hx
          generalize lev l j = y at *
          go_wp2_with (first | (go_at_call 35; refine HA.out.mono ?_; rintro o w4 ⟨rfl, st⟩) | (go_at_call 34; refine (crcStep_any x y _ hr).mono ?_; rintro o w5 ⟨rfl, rfl⟩))
          go_roundw
          case rel => exact ⟨j + 1, by omega, by omega, by go_num, by rw [HS.out], st⟩
          case measure => simp [intOf]; omega
        · have hjj : j = N := by omega
          subst hjj
          clear st
          generalize hx : M.crcN (LB l j) = x at *
          have HX : Hid (x = M.crcN (LB l j)) := hx.symm
          clear hx
          go_wp2
          go_ret
          exact ⟨ret_int (by rw [HX.out]), hB⟩
/-- what CrcPacked answers -/
def cpZ (N : Int) (l : List Nat) : Int := if okP N l = true ∧ N ≤ 2000 then (M.crcN (LB l N.toNat) : Int) else -1
theorem okP_nat {N : Int} {l : List Nat} (hok : okP N l = true) : ∃ M : Nat, N = (M : Int) := ⟨N.toNat, by
  simp only [okP, Bool.and_eq_true, decide_eq_true_eq] at hok
  omega⟩
set_option maxHeartbeats 1000000 in
theorem crcPacked_any (w : World) (N : Int) (a : Option Addr) (n cap : Nat) (l : List Nat) (h : isWords w a n cap l) (hn : n ≤ 1048576) :
    Calls Try.prog 9 #[pkV N a n cap] w fun o w' => o = .returned (.int .i64 (cpZ N l)) ∧ Below w.heap.size w w' := by
  by_cases h2 : N ≤ 2000
  · cases hok : okP N l
    · have HZ : Hid (cpZ N l = -1) := by unfold Hid cpZ; rw [if_neg (by simp [hok])]
      have HH : Hid (isWords w a n cap l) := h
      have HO : Hid (okP N l = false) := hok
      have hgt : decide ((2000 : Int) < N) = false := by simp; omega
      clear h hok
      go_enter Try.func9, Try.ntmps9
      go_wp2_with (first | (go_at_call 31; refine (validPacked_any _ N a n cap l (HH.out.below ((Below.refl _ _).alloc (Nat.le_refl _) _)) hn).mono ?_; rintro o w1 ⟨rfl, hb0⟩; rw [HO.out]))
      go_ret
      exact ⟨ret_int HZ.out.symm, ((Below.refl _ _).alloc (Nat.le_refl _) _).trans (hb0.mono (by simp))⟩
    · obtain ⟨K, rfl⟩ := okP_nat hok
      have e : cpZ (K : Int) l = (M.crcN (LB l K) : Int) := by unfold cpZ; rw [if_pos ⟨hok, h2⟩]; rfl
      rw [e]
      exact crcPacked_ok w K a n cap l h hok (by omega)
  · have HZ : Hid (cpZ N l = -1) := by unfold Hid cpZ; rw [if_neg (by intro h; exact h2 h.2)]
    have hgt : decide ((2000 : Int) < N) = true := by simp; omega
    clear h
    go_enter Try.func9, Try.ntmps9
    go_wp2
    go_ret
    exact ⟨ret_int HZ.out.symm, (Below.refl _ _).alloc (Nat.le_refl _) _⟩
theorem bl_un (l : List Nat) (N : Nat) : bl (strN (unL l N)) = LB l N := by
  unfold bl strN unL LB
  simp only [List.map_map]
  apply List.map_congr_left
  intro i _
  have := lev_lt l i
  simp only [Function.comp]
  rw [UInt8.toNat_ofNat']
  omega
theorem un_ok (l : List Nat) (N : Nat) (hN : N ≤ 2000) : okT (strN (unL l N)) 2000 = true := by
  unfold okT
  rw [Bool.and_eq_true, decide_eq_true_iff]
  refine ⟨?_, ?_⟩
  · have : (strN (unL l N)).size = N := by simp [strN, unL, ByteArray.size]
    omega
  · rw [List.all_eq_true]
    intro c hc
    unfold strN unL at hc
    simp only [List.map_map, List.mem_map] at hc
    obtain ⟨i, _, rfl⟩ := hc
    have := lev_lt l i
    have hl : lev l i = 0 ∨ lev l i = 1 := by omega
    rcases hl with h | h <;> simp [h, okC]
set_option maxHeartbeats 1000000 in
theorem specCrcPacked_any (w : World) (N : Int) (a : Option Addr) (n cap : Nat) (l : List Nat) (h : isWords w a n cap l) :
    Calls Try.prog 7 #[pkV N a n cap] w fun o w' => o = .returned (.int .i64 (cpZ N l)) ∧ Below w.heap.size w w' := by
  have HH : Hid (isWords w a n cap l) := h
  clear h
  have hbA : Below w.heap.size w (w.alloc (pkC N a n cap 27)) := (Below.refl _ _).alloc (Nat.le_refl _) _
  cases hok : okP N l
  · have HZ : Hid (cpZ N l = -1) := by unfold Hid cpZ; rw [if_neg (by simp [hok])]
    have HO : Hid (okP N l = false) := hok
    clear hok hbA
    go_enter Try.func7, Try.ntmps7
    go_wp2_with (first | (go_at_call 27; refine (l2ok_any _ N a n cap l (HH.out.below ((Below.refl _ _).alloc (Nat.le_refl _) _))).mono ?_; rintro o w1 ⟨rfl, hb0⟩; rw [HO.out]))
    go_ret
    exact ⟨ret_int HZ.out.symm, ((Below.refl _ _).alloc (Nat.le_refl _) _).trans (hb0.mono (by simp))⟩
  · by_cases h2 : N ≤ 2000
    · obtain ⟨M, rfl⟩ := okP_nat hok
      have HO : Hid (okP (M : Int) l = true) := hok
      have HU : Hid (unZ (M : Int) l = strN (unL l M)) := by unfold Hid unZ; rw [if_pos hok]; rfl
      have HZ : Hid (crcZ (strN (unL l M)) = cpZ (M : Int) l) := by
        unfold Hid crcZ cpZ
        rw [if_pos (un_ok l M (by omega)), if_pos ⟨hok, h2⟩, bl_un]
        rfl
      have hsz : Hid ((strN (unL l M)).size ≤ maxLen) := by
        have : (strN (unL l M)).size = M := by simp [strN, unL, ByteArray.size]
        unfold Hid maxLen; omega
      have hgt : decide ((2000 : Int) < (M : Int)) = false := by simp; omega
      have HI : Hid (∀ w1, Below (w.alloc (pkC (M : Int) a n cap 27)).heap.size (w.alloc (pkC (M : Int) a n cap 27)) w1 → w1.cell? ⟨w.heap.size, 0, none⟩ = some (.int .i64 (M : Int)) ∧ w1.cell? ⟨w.heap.size, 1, none⟩ = some (.slice a n cap) ∧ Below w.heap.size w w1) := fun w1 hb => pk_in (hb.mono (by simp))
      clear hok hbA h2
      go_enter Try.func7, Try.ntmps7
      go_wp2_with (first | (go_at_call 27; refine (l2ok_any _ (M : Int) a n cap l (HH.out.below ((Below.refl _ _).alloc (Nat.le_refl _) _))).mono ?_; rintro o w1 ⟨rfl, hb0⟩; rw [HO.out]; obtain ⟨c0, c1, hB⟩ := HI.out w1 hb0) | (go_at_call 29; refine (specUnpack_any _ (M : Int) a n cap l (HH.out.below hB)).mono ?_; rintro o w2 ⟨rfl, hb2⟩; rw [HU.out]) | (go_at_call 28; refine (specCrc_any _ _ hsz.out).mono ?_; rintro o w3 ⟨rfl, hb3⟩))
      go_ret
      exact ⟨ret_int HZ.out, (hB.trans (hb2.mono hB.size)).trans (hb3.mono (Nat.le_trans hB.size hb2.size))⟩
    · have HZ : Hid (cpZ N l = -1) := by unfold Hid cpZ; rw [if_neg (by intro h; exact h2 h.2)]
      have HO : Hid (okP N l = true) := hok
      have hgt : decide ((2000 : Int) < N) = true := by simp; omega
      have HI : Hid (∀ w1, Below (w.alloc (pkC N a n cap 27)).heap.size (w.alloc (pkC N a n cap 27)) w1 → w1.cell? ⟨w.heap.size, 0, none⟩ = some (.int .i64 N) ∧ w1.cell? ⟨w.heap.size, 1, none⟩ = some (.slice a n cap) ∧ Below w.heap.size w w1) := fun w1 hb => pk_in (hb.mono (by simp))
      clear hok hbA
      go_enter Try.func7, Try.ntmps7
      go_wp2_with (first | (go_at_call 27; refine (l2ok_any _ N a n cap l (HH.out.below ((Below.refl _ _).alloc (Nat.le_refl _) _))).mono ?_; rintro o w1 ⟨rfl, hb0⟩; rw [HO.out]; obtain ⟨c0, c1, hB⟩ := HI.out w1 hb0))
      go_ret
      exact ⟨ret_int HZ.out.symm, hB⟩
end Go.Proofs.Ytihndnclplkleaa
