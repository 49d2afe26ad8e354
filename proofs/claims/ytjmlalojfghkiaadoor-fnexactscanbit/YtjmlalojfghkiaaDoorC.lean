import Derived.Test.YtjmlalojfghkiaaDoorB
namespace Go.Proofs.YtjmlalojfghkiaaDoor
open Go.RowKit
/-- a scan -/
structure Sc where
  f : Int
  lf : Int
  rn : Int
  lv : Int
  cr : Int
  ac : Int
  e : Bool
  i : Nat
  r : Bool
  d : Int
  l : List Nat
abbrev scV (S : Sc) (a : Option Addr) (n cap : Nat) : Value := .agg #[.int .i64 S.f, .int .i64 S.lf, .int .i64 S.rn, .int .i64 S.lv, .int .i64 S.cr, .int .i64 S.ac, .bool S.e, .int .u32 (S.i : Int), .bool S.r, .int .i64 S.d, .slice a n cap]
def scL (S : Sc) (a : Option Addr) (n cap : Nat) : List Value := [.int .i64 S.f, .int .i64 S.lf, .int .i64 S.rn, .int .i64 S.lv, .int .i64 S.cr, .int .i64 S.ac, .bool S.e, .int .u32 (S.i : Int), .bool S.r, .int .i64 S.d, .slice a n cap]
theorem scV_L (S : Sc) (a : Option Addr) (n cap : Nat) : scV S a n cap = .agg (scL S a n cap).toArray := rfl
theorem sz31 : (Tryd.prog.info? 31).map (·.size) = some 11 := by kernel_rfl
theorem one11 (f lf rn lv cr ac : Int) (e : Bool) (i : Int) (r : Bool) (d : Int) (a : Option Addr) (n c : Nat) : (#[.int .i64 f, .int .i64 lf, .int .i64 rn, .int .i64 lv, .int .i64 cr, .int .i64 ac, .bool e, .int .u32 i, .bool r, .int .i64 d, .slice a n c] : Array Value).all (·.oneCell') = true :=
  all_oneCell_toArray (by simp [Value.oneCell'])
set_option maxHeartbeats 1000000 in
set_option maxRecDepth 20000 in
theorem toFrame_row (w : World) (e : Bool) (i : Nat) (r : Bool) (d : Int) (a : Option Addr) (n cap : Nat) (l : List Nat) (h : isBytes w a n cap l) (hn : n ≤ 1048576) :
    Calls Tryd.prog 26 #[frV e i r d a n cap] w fun o w' => ∃ g, o = .returned (frV e i r d (some ⟨g, 0, none⟩) n n) ∧ isBytes w' (some ⟨g, 0, none⟩) n n l ∧ Below w.heap.size w w' ∧ w.heap.size + 3 ≤ g ∧ g < w'.heap.size ∧ ∃ f, rowB w' g n f := by
  have HH : Hid (isBytes w a n cap l) := h
  clear h
  go_enter Tryd.func26, Tryd.ntmps26
  go_wp2_with (first | (go_at_call 48; refine (toByteS_row _ a n cap l (HH.out.below ?_) hn).mono ?_))
  · exact (((Below.refl _ _).alloc (Nat.le_refl _) _).alloc (by simp) _).alloc (by simp; omega) _
  · rintro o w1 ⟨g, rfl, hby, hb, hg, hgz, f, hrow⟩
    have HGZ : Hid (g < w1.heap.size) := hgz
    clear hgz
    obtain ⟨hc, hf⟩ := bcell hb
    have hB : Below w.heap.size w w1 := ((((Below.refl w.heap.size w).alloc (Nat.le_refl _) _).alloc (by simp) _).alloc (by simp; omega) _).trans (hb.mono (by simp; omega))
    have HG : Hid (w.heap.size + 1 + 1 + 1 ≤ g) := by unfold Hid; simpa using hg
    have HY : Hid (isBytes w1 (some ⟨g, 0, none⟩) n n l ∧ rowB w1 g n f) := ⟨hby, hrow⟩
    clear hb hg hby hrow
    go_wp2
    refine bodyPost_ret (v := frV e i r d (some ⟨g, 0, none⟩) n n) (by simp [results, Tryd.results26, go_sem, hc]) rfl ?_
    have hg' := HG.out
    refine ⟨g, rfl, HY.out.1.other ?_, ?_, by omega, by simpa using HGZ.out, f, HY.out.2.up ?_⟩
    · repeat rw [heap_setCell_other _ _ g _ (by show g ≠ _; simp; omega)]
    · repeat refine Below.setCell ?_ (by simp; try omega) _
      exact hB
    · repeat rw [heap_setCell_other _ _ g _ (by show g ≠ _; simp; omega)]
abbrev z11 : List Value := [.int .i64 0, .int .i64 0, .int .i64 0, .int .i64 0, .int .i64 0, .int .i64 0, .bool false, .int .u32 0, .bool false, .int .i64 0, .slice none 0 0]
set_option maxHeartbeats 4000000 in
set_option maxRecDepth 20000 in
theorem toScan_row (w : World) (S : Sc) (a : Option Addr) (n cap : Nat) (h : isBytes w a n cap S.l) (hn : n ≤ 1048576) :
    Calls Tryd.prog 7 #[scV S a n cap] w fun o w' => ∃ g, o = .returned (scV S (some ⟨g, 0, none⟩) n n) ∧ isBytes w' (some ⟨g, 0, none⟩) n n S.l ∧ Below w.heap.size w w' ∧ w.heap.size ≤ g ∧ g < w'.heap.size ∧ ∃ f, rowB w' g n f := by
  have HH : Hid (isBytes w a n cap S.l) := h
  clear h
  obtain ⟨f, lf, rn, lv, cr, ac, e, i, r, d, l⟩ := S
  go_enter Tryd.func7, Tryd.ntmps7
  go_wp2_with fail
  refine (toFrame_row _ e i r d a n cap l (HH.out.below ((((Below.refl _ _).alloc (Nat.le_refl _) _).alloc (by simp) _).alloc (by simp; omega) _)) hn).mono ?_
  rintro o w1 ⟨g, rfl, hby, hb, hg, hgz, fr, hrow⟩
  have HB : Hid (Below w.heap.size w w1) := ((((Below.refl w.heap.size w).alloc (Nat.le_refl _) _).alloc (by simp) _).alloc (by simp; omega) _).trans (hb.mono (by simp; omega))
  have HP : Hid (blk w1 (w.heap.size + 1 + 1) ([.int .i64 f, .int .i64 lf, .int .i64 rn, .int .i64 lv, .int .i64 cr, .int .i64 ac] ++ [.bool false, .int .u32 0, .bool false, .int .i64 0, .slice none 0 0] ++ []) 31) := by
    have := (blk.new ((w.alloc (.cells #[.int .i64 f, .int .i64 lf, .int .i64 rn, .int .i64 lv, .int .i64 cr, .int .i64 ac, .bool e, .int .u32 (i : Int), .bool r, .int .i64 d, .slice a n cap] 27)).alloc (.cells z11.toArray 31)) [.int .i64 f, .int .i64 lf, .int .i64 rn, .int .i64 lv, .int .i64 cr, .int .i64 ac, .bool false, .int .u32 0, .bool false, .int .i64 0, .slice none 0 0] 31).below hb
    simpa [Hid] using this
  have HR : Hid (blk w1 (w.heap.size + 1) ([] ++ z11 ++ []) 31) := by
    have := ((blk.new (w.alloc (.cells #[.int .i64 f, .int .i64 lf, .int .i64 rn, .int .i64 lv, .int .i64 cr, .int .i64 ac, .bool e, .int .u32 (i : Int), .bool r, .int .i64 d, .slice a n cap] 27)) z11 31).alloc (.cells #[.int .i64 f, .int .i64 lf, .int .i64 rn, .int .i64 lv, .int .i64 cr, .int .i64 ac, .bool false, .int .u32 0, .bool false, .int .i64 0, .slice none 0 0] 31)).below hb
    simpa [Hid] using this
  have HG : Hid (w.heap.size + 3 ≤ g ∧ g < w1.heap.size ∧ isBytes w1 (some ⟨g, 0, none⟩) n n l ∧ rowB w1 g n fr) := by
    simp at hg
    exact ⟨by omega, hgz, hby, hrow⟩
  clear hb hg hgz hby hrow
  go_wp2_with (first
    | (refine wpList_store_mid (P := Tryd.prog) rfl 29 (.tmp 25) (.tmp 24) rfl (w.heap.size + 1 + 1) 6 #[.bool e, .int .u32 (i : Int), .bool r, .int .i64 d, .slice (some ⟨g, 0, none⟩) n n] rfl rfl (HP.out.there 6 5 (by simp)) sz29 (one5 _ _ _ _ _ _ _) ?_; generalize hW2 : World.setCells w1 (w.heap.size + 1 + 1) 6 _ = w2; have HW2 : Hid (World.setCells w1 (w.heap.size + 1 + 1) 6 [.bool e, .int .u32 (i : Int), .bool r, .int .i64 d, .slice (some ⟨g, 0, none⟩) n n] = w2) := hW2; have HP2 : Hid (blk w2 (w.heap.size + 1 + 1) (scL ⟨f, lf, rn, lv, cr, ac, e, i, r, d, l⟩ (some ⟨g, 0, none⟩) n n) 31) := (hW2 ▸ blk.put [.int .i64 f, .int .i64 lf, .int .i64 rn, .int .i64 lv, .int .i64 cr, .int .i64 ac] _ [] _ HP.out rfl); have HR2 : Hid (blk w2 (w.heap.size + 1) ([] ++ z11 ++ []) 31) := (hW2 ▸ HR.out.other (by omega) _ _); clear hW2)
    | (refine wpList_load_mid (P := Tryd.prog) rfl 31 (.tmp 3) rfl (w.heap.size + 1 + 1) 0 rfl _ _ HP2.out.load Tryd.underlying31 rfl sz31 ?_)
    | (refine wpList_store_mid (P := Tryd.prog) rfl 31 (.tmp 2) (.tmp 26) rfl (w.heap.size + 1) 0 _ rfl rfl (HR2.out.there 0 11 (by simp)) sz31 (one11 _ _ _ _ _ _ _ _ _ _ _ _ _) ?_; generalize hW3 : World.setCells w2 (w.heap.size + 1) 0 _ = w3; have HW3 : Hid (World.setCells w2 (w.heap.size + 1) 0 (scL ⟨f, lf, rn, lv, cr, ac, e, i, r, d, l⟩ (some ⟨g, 0, none⟩) n n) = w3) := hW3; clear hW3))
  have e2 := HW2.out
  have e3 := HW3.out
  have hF : blk w3 (w.heap.size + 1) (scL ⟨f, lf, rn, lv, cr, ac, e, i, r, d, l⟩ (some ⟨g, 0, none⟩) n n) 31 := e3 ▸ blk.put [] z11 [] _ HR2.out rfl
  have hL := run_loadVar_mid (P := Tryd.prog) w3 (w.heap.size + 1) 0 31 _ _ hF.load Tryd.underlying31 rfl sz31
  refine bodyPost_ret (v := scV ⟨f, lf, rn, lv, cr, ac, e, i, r, d, l⟩ (some ⟨g, 0, none⟩) n n) (results_cell Tryd.results7 _ w3 (w.heap.size + 1) _ rfl hL) rfl ?_
  obtain ⟨g1, g2, g3, g4⟩ := HG.out
  subst e2
  subst e3
  have eq : (World.setCells (World.setCells w1 (w.heap.size + 1 + 1) 6 [.bool e, .int .u32 (i : Int), .bool r, .int .i64 d, .slice (some ⟨g, 0, none⟩) n n]) (w.heap.size + 1) 0 (scL ⟨f, lf, rn, lv, cr, ac, e, i, r, d, l⟩ (some ⟨g, 0, none⟩) n n)).heap[g]? = w1.heap[g]? := by
    rw [setCells_other _ _ (by omega), setCells_other _ _ (by omega)]
  exact ⟨g, rfl, g3.other eq, setCells_below (by omega) _ _ (setCells_below (by omega) _ _ HB.out), by omega, by rw [setCells_size, setCells_size]; exact g2, fr, g4.up eq⟩
theorem szScan_any (w : World) (S : Sc) (a : Option Addr) (n cap : Nat) (m : Nat) (hn : n ≤ 9223372036854775807) (hm : m ≤ 1048576) :
    Calls Tryd.prog 5 #[scV S a n cap, .int .i64 m] w fun o w' => o = .returned (.int .i64 (if (n : Int) ≤ (m : Int) then (m : Int) - (n : Int) else -1)) ∧ Below w.heap.size w w' := by
  obtain ⟨f, lf, rn, lv, cr, ac, e, i, r, d, l⟩ := S
  by_cases h : (n : Int) ≤ (m : Int)
  · have HC : Hid (∀ W, Calls Tryd.prog 18 #[frV e i r d a n cap, .int .i64 m] W fun o w' => o = .returned (.int .i64 ((m : Int) - (n : Int))) ∧ W.alloc (frC e i r d a n cap 25) = w') := by
      intro W; have := szFrame_any W e i r d a n cap m hn hm; rw [if_pos h] at this; exact this
    rw [if_pos h]
    go_enter Tryd.func5, Tryd.ntmps5
    go_wp2_with (first | (go_at_call 18; refine (HC.out _).mono ?_; rintro o w1 ⟨rfl, rfl⟩))
    go_ret
    exact ⟨rfl, ((Below.refl _ _).alloc (Nat.le_refl _) _).alloc (by simp) _⟩
  · have HC : Hid (∀ W, Calls Tryd.prog 18 #[frV e i r d a n cap, .int .i64 m] W fun o w' => o = .returned (.int .i64 (-1)) ∧ W.alloc (frC e i r d a n cap 25) = w') := by
      intro W; have := szFrame_any W e i r d a n cap m hn hm; rw [if_neg h] at this; exact this
    rw [if_neg h]
    go_enter Tryd.func5, Tryd.ntmps5
    go_wp2_with (first | (go_at_call 18; refine (HC.out _).mono ?_; rintro o w1 ⟨rfl, rfl⟩))
    go_ret
    exact ⟨rfl, ((Below.refl _ _).alloc (Nat.le_refl _) _).alloc (by simp) _⟩
set_option maxHeartbeats 4000000 in
set_option maxRecDepth 20000 in
theorem eqScan_same (w : World) (S : Sc) (a : Option Addr) (n cap : Nat) (h : isBytes w a n cap S.l) (a' : Option Addr) (n' cap' : Nat) (h' : isBytes w a' n' cap' S.l) (hn : n ≤ 1048576) :
    Calls Tryd.prog 9 #[scV S a n cap, scV S a' n' cap'] w fun o w' => o = .returned (.bool true) ∧ Below w.heap.size w w' := by
  have HH : Hid (isBytes w a n cap S.l) := h
  have HH' : Hid (isBytes w a' n' cap' S.l) := h'
  clear h h'
  obtain ⟨f, lf, rn, lv, cr, ac, e, i, r, d, l⟩ := S
  have h1 : (f != f) = false := by simp
  have h2 : (lf != lf) = false := by simp
  have h3 : (rn != rn) = false := by simp
  have h4 : (lv != lv) = false := by simp
  have h5 : (cr != cr) = false := by simp
  have h6 : (ac != ac) = false := by simp
  have HC : Hid (∀ W, Below w.heap.size w W → Calls Tryd.prog 32 #[frV e i r d a n cap, frV e i r d a' n' cap'] W fun o w' => o = .returned (.bool true) ∧ Below w.heap.size w w') := by
    intro W hW
    refine (eqFrame_same W e i r d a n cap l (HH.out.below hW) a' n' cap' (HH'.out.below hW) hn).mono ?_
    rintro o w' ⟨rfl, hb⟩
    exact ⟨rfl, hW.trans (hb.mono hW.size)⟩
  go_enter Tryd.func9, Tryd.ntmps9
  go_wp2_with (first | (go_at_call 32; refine (HC.out _ (((Below.refl _ _).alloc (Nat.le_refl _) _).alloc (by simp) _)).mono ?_; rintro o w1 ⟨rfl, hb1⟩))
  go_ret
  exact ⟨rfl, hb1⟩
end Go.Proofs.YtjmlalojfghkiaaDoor
