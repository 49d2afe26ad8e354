import Derived.Test.YtjmlalojfghkiaaDoorR13
namespace Go.Proofs.YtjmlalojfghkiaaDoor
open Go.RowKit
set_option linter.unusedVariables false
theorem or_i64 (x bit : Nat) (hx : x < 1000000) (hb : bit < 2) : bits BinOp.or IntKind.i64 ((x : Int) * 2) (bit : Int) = ((2 * x + bit : Nat) : Int) := by
  have e : (x : Int) * 2 = ((2 * x : Nat) : Int) := by omega
  rw [e, (bits_nat .i64 62 (by decide) wraps_i64 (2 * x) bit (by omega) (by omega)).2, nat_join 1 _ _ (by omega) (by omega)]
theorem or_u32 (x bit : Nat) (hx : x < 1073741824) (hb : bit < 2) : bits BinOp.or IntKind.u32 ((x : Int) * 2) (bit : Int) = ((2 * x + bit : Nat) : Int) := by
  have e : (x : Int) * 2 = ((2 * x : Nat) : Int) := by omega
  rw [e, u32_or_nat _ _ (by omega) (by omega), nat_join 1 _ _ (by omega) (by omega)]
theorem u32_mask29 (n : Int) (h0 : 0 ≤ n) (h1 : n < 2 ^ 32) : bits .and .u32 n 536870911 = n % 536870912 :=
  bits_mask .u32 32 (by decide) (fun n h0 h1 => by rw [IntKind.wrap_u32]; omega) 29 (by decide) n h0 h1
theorem id_val (x b : Nat) (hx : x < 536870912) (hb : b < 2) : bits BinOp.and IntKind.u32 (bits BinOp.or IntKind.u32 ((x : Int) * 2) (b : Int)) 536870911 = (((2 * x + b) % 536870912 : Nat) : Int) := by
  rw [or_u32 x b (by omega) hb, u32_mask29 _ (by omega) (by omega)]
  omega
theorem i64_mask4 (n : Int) (h0 : 0 ≤ n) (h1 : n < 2 ^ 62) : bits .and .i64 n 15 = n % 16 :=
  bits_mask .i64 62 (by decide) wraps_i64 4 (by decide) n h0 h1
theorem dlc_val (x : Int) (b : Nat) (h0 : 0 ≤ x) (h1 : x ≤ 15) (hb : b < 2) : bits BinOp.and IntKind.i64 (bits BinOp.or IntKind.i64 (x * 2) (b : Int)) 15 = (2 * x + b) % 16 := by
  obtain ⟨y, rfl⟩ : ∃ y : Nat, x = (y : Int) := ⟨x.toNat, by omega⟩
  rw [or_i64 y b (by omega) hb, i64_mask4 _ (by omega) (by omega)]
  omega
theorem acc_val (x : Int) (b : Nat) (h0 : 0 ≤ x) (h1 : x ≤ 32767) (hb : b < 2) : bits BinOp.and IntKind.i64 (bits BinOp.or IntKind.i64 (x * 2) (b : Int)) 32767 = (2 * x + b) % 32768 := by
  obtain ⟨y, rfl⟩ : ∃ y : Nat, x = (y : Int) := ⟨x.toNat, by omega⟩
  rw [or_i64 y b (by omega) hb, i64_mask15 _ (by omega) (by omega)]
  omega
theorem kP.put {w w' : World} {P B : Nat} {T T' : Sc} {g n k : Nat} (h : kP w w' P B T g n k) (hg : g ≠ P) (o : Nat) (v : Value) (hl : T'.l = T.l) (he : (scL T (some ⟨g, 0, none⟩) n k).set o v = scL T' (some ⟨g, 0, none⟩) n k) : kP w (w'.setCell ⟨P, o, none⟩ v) P B T' g n k :=
  ⟨he ▸ h.q.set o v, by rw [hl]; exact h.o.keep h.l (heap_setCell_other _ _ _ _ (by exact hg)), by rw [hl]; exact h.l, h.b.setCell (by exact Nat.le_refl _) _, fun q h1 h2 => (heap_setCell_other _ _ _ _ (by exact h1)).trans (h.r q h1 h2)⟩
set_option maxHeartbeats 4000000 in
set_option maxRecDepth 20000 in
theorem keep_id (w : World) (P B : Nat) (hPB : P < B) (hB : B ≤ w.heap.size) (f : Int) (hf : f = 2 ∨ f = 5) (lf rn lv cr ac : Int) (e : Bool) (i : Nat) (r : Bool) (d : Int) (l : List Nat) (g n k : Nat) (h : kP w w P B ⟨f, lf, rn, lv, cr, ac, e, i, r, d, l⟩ g n k) (hcr : 0 ≤ cr) (hcr1 : cr ≤ 32767) (hac : 0 ≤ ac) (hac1 : ac ≤ 32767) (hi : i < 536870912) (hd : 0 ≤ d) (hd1 : d ≤ 15) (b : Nat) (hb : b < 2) :
    Calls Tryd.prog 54 #[.pointer (some ⟨P, 0, none⟩), .int .i64 (b : Int)] w fun o w' => (∃ v, o = .returned v) ∧ kP w w' P B ⟨f, lf, rn, lv, ((stepN cr.toNat b : Nat) : Int), ac, e, (2 * i + b) % 536870912, r, d, l⟩ g n k := by
  have HSUM : Hid (∀ W, Calls Tryd.prog 77 #[.int .i64 cr, .int .i64 (b : Int)] W fun o w' => o = .returned (.int .i64 ((stepN cr.toNat b : Nat) : Int)) ∧ W = w') := by
    intro W
    have := crcStep_any cr.toNat b W (by omega)
    rwa [Int.toNat_of_nonneg hcr] at this
  have HK : Hid (kP w w P B ⟨f, lf, rn, lv, cr, ac, e, i, r, d, l⟩ g n k) := h
  have hgP : g ≠ P := by have := (World.ownsRow.lt h.o g rfl).1; omega
  have HG : Hid (g ≠ P) := hgP
  have z0 := h.q.cell 0 _ rfl
  have f0 := h.q.free 0
  have z4 := h.q.cell 4 _ rfl
  have f4 := h.q.free 4
  have z5 := h.q.cell 5 _ rfl
  have f5 := h.q.free 5
  have z6 := h.q.cell 6 _ rfl
  have f6 := h.q.free 6
  have z7 := h.q.cell 7 _ rfl
  have f7 := h.q.free 7
  have z8 := h.q.cell 8 _ rfl
  have f8 := h.q.free 8
  have z9 := h.q.cell 9 _ rfl
  have f9 := h.q.free 9
  have hi2 : (i : Int) < 1000000000 := by omega
  have HI : Hid (i < 536870912) := hi
  clear h hgP hi
  generalize stepN cr.toNat b = s at *
  have HE := id_val i b HI.out hb
  generalize (2 * i + b) % 536870912 = i' at *
  rcases hf with rfl | rfl
  all_goals
    go_enter Tryd.func54, Tryd.ntmps54
    go_wp2_with fail
    refine (HSUM.out _).mono ?_
    rintro o w1 ⟨rfl, rfl⟩
    go_wp2_with fail
    go_end0
    refine ⟨⟨_, rfl⟩, ?_⟩
    exact (HK.out.put (T' := ⟨_, lf, rn, lv, s, ac, e, i, r, d, l⟩) HG.out 4 (.int .i64 (s : Int)) rfl rfl).put HG.out 7 (.int .u32 (i' : Int)) rfl rfl
set_option maxHeartbeats 4000000 in
set_option maxRecDepth 20000 in
theorem keep_rtr (w : World) (P B : Nat) (hPB : P < B) (hB : B ≤ w.heap.size) (f : Int) (hf : f = 3 ∨ f = 6) (lf rn lv cr ac : Int) (e : Bool) (i : Nat) (r : Bool) (d : Int) (l : List Nat) (g n k : Nat) (h : kP w w P B ⟨f, lf, rn, lv, cr, ac, e, i, r, d, l⟩ g n k) (hcr : 0 ≤ cr) (hcr1 : cr ≤ 32767) (hac : 0 ≤ ac) (hac1 : ac ≤ 32767) (hi : i < 536870912) (hd : 0 ≤ d) (hd1 : d ≤ 15) (b : Nat) (hb : b < 2) :
    Calls Tryd.prog 54 #[.pointer (some ⟨P, 0, none⟩), .int .i64 (b : Int)] w fun o w' => (∃ v, o = .returned v) ∧ kP w w' P B ⟨f, lf, rn, lv, ((stepN cr.toNat b : Nat) : Int), ac, e, i, b == 1, d, l⟩ g n k := by
  have HSUM : Hid (∀ W, Calls Tryd.prog 77 #[.int .i64 cr, .int .i64 (b : Int)] W fun o w' => o = .returned (.int .i64 ((stepN cr.toNat b : Nat) : Int)) ∧ W = w') := by
    intro W
    have := crcStep_any cr.toNat b W (by omega)
    rwa [Int.toNat_of_nonneg hcr] at this
  have HK : Hid (kP w w P B ⟨f, lf, rn, lv, cr, ac, e, i, r, d, l⟩ g n k) := h
  have hgP : g ≠ P := by have := (World.ownsRow.lt h.o g rfl).1; omega
  have HG : Hid (g ≠ P) := hgP
  have z0 := h.q.cell 0 _ rfl
  have f0 := h.q.free 0
  have z4 := h.q.cell 4 _ rfl
  have f4 := h.q.free 4
  have z5 := h.q.cell 5 _ rfl
  have f5 := h.q.free 5
  have z6 := h.q.cell 6 _ rfl
  have f6 := h.q.free 6
  have z7 := h.q.cell 7 _ rfl
  have f7 := h.q.free 7
  have z8 := h.q.cell 8 _ rfl
  have f8 := h.q.free 8
  have z9 := h.q.cell 9 _ rfl
  have f9 := h.q.free 9
  have hi2 : (i : Int) < 1000000000 := by omega
  have HI : Hid (i < 536870912) := hi
  clear h hgP hi
  generalize stepN cr.toNat b = s at *
  have hb' : b = 0 ∨ b = 1 := by omega
  rcases hf with rfl | rfl <;> rcases hb' with rfl | rfl
  all_goals
    go_enter Tryd.func54, Tryd.ntmps54
    go_wp2_with fail
    refine (HSUM.out _).mono ?_
    rintro o w1 ⟨rfl, rfl⟩
    go_wp2_with fail
    go_end0
    refine ⟨⟨_, rfl⟩, ?_⟩
    exact (HK.out.put (T' := ⟨_, lf, rn, lv, s, ac, e, i, r, d, l⟩) HG.out 4 (.int .i64 (s : Int)) rfl rfl).put HG.out 8 (.bool _) rfl rfl
set_option maxHeartbeats 4000000 in
set_option maxRecDepth 20000 in
theorem keep_ide0f (w : World) (P B : Nat) (hPB : P < B) (hB : B ≤ w.heap.size) (f : Int) (hf : f = 4) (lf rn lv cr ac : Int) (e : Bool) (i : Nat) (d : Int) (l : List Nat) (g n k : Nat) (h : kP w w P B ⟨f, lf, rn, lv, cr, ac, e, i, false, d, l⟩ g n k) (hcr : 0 ≤ cr) (hcr1 : cr ≤ 32767) (hac : 0 ≤ ac) (hac1 : ac ≤ 32767) (hi : i < 536870912) (hd : 0 ≤ d) (hd1 : d ≤ 15) (b : Nat) (hb : b = 0) :
    Calls Tryd.prog 54 #[.pointer (some ⟨P, 0, none⟩), .int .i64 (b : Int)] w fun o w' => (∃ v, o = .returned v) ∧ kP w w' P B ⟨f, lf, rn, lv, ((stepN cr.toNat 0 : Nat) : Int), ac, false, i, false, d, l⟩ g n k := by
  subst hb
  have HSUM : Hid (∀ W, Calls Tryd.prog 77 #[.int .i64 cr, .int .i64 ((0 : Nat) : Int)] W fun o w' => o = .returned (.int .i64 ((stepN cr.toNat 0 : Nat) : Int)) ∧ W = w') := by
    intro W
    have := crcStep_any cr.toNat 0 W (by omega)
    rwa [Int.toNat_of_nonneg hcr] at this
  have HK : Hid (kP w w P B ⟨f, lf, rn, lv, cr, ac, e, i, false, d, l⟩ g n k) := h
  have hgP : g ≠ P := by have := (World.ownsRow.lt h.o g rfl).1; omega
  have HG : Hid (g ≠ P) := hgP
  have z0 := h.q.cell 0 _ rfl
  have f0 := h.q.free 0
  have z4 := h.q.cell 4 _ rfl
  have f4 := h.q.free 4
  have z5 := h.q.cell 5 _ rfl
  have f5 := h.q.free 5
  have z6 := h.q.cell 6 _ rfl
  have f6 := h.q.free 6
  have z7 := h.q.cell 7 _ rfl
  have f7 := h.q.free 7
  have z8 := h.q.cell 8 _ rfl
  have f8 := h.q.free 8
  have z9 := h.q.cell 9 _ rfl
  have f9 := h.q.free 9
  have hi2 : (i : Int) < 1000000000 := by omega
  have HI : Hid (i < 536870912) := hi
  clear h hgP hi
  generalize stepN cr.toNat 0 = s at *
  subst hf
  go_enter Tryd.func54, Tryd.ntmps54
  go_wp2_with fail
  refine (HSUM.out _).mono ?_
  rintro o w1 ⟨rfl, rfl⟩
  go_wp2_with fail
  go_end0
  refine ⟨⟨_, rfl⟩, ?_⟩
  exact ((HK.out.put (T' := ⟨4, lf, rn, lv, s, ac, e, i, false, d, l⟩) HG.out 4 (.int .i64 (s : Int)) rfl rfl).put (T' := ⟨4, lf, rn, lv, s, ac, false, i, false, d, l⟩) HG.out 6 (.bool false) rfl rfl).put HG.out 8 (.bool false) rfl rfl
set_option maxHeartbeats 4000000 in
set_option maxRecDepth 20000 in
theorem keep_ide1f (w : World) (P B : Nat) (hPB : P < B) (hB : B ≤ w.heap.size) (f : Int) (hf : f = 4) (lf rn lv cr ac : Int) (e : Bool) (i : Nat) (d : Int) (l : List Nat) (g n k : Nat) (h : kP w w P B ⟨f, lf, rn, lv, cr, ac, e, i, false, d, l⟩ g n k) (hcr : 0 ≤ cr) (hcr1 : cr ≤ 32767) (hac : 0 ≤ ac) (hac1 : ac ≤ 32767) (hi : i < 536870912) (hd : 0 ≤ d) (hd1 : d ≤ 15) (b : Nat) (hb : b = 1) :
    Calls Tryd.prog 54 #[.pointer (some ⟨P, 0, none⟩), .int .i64 (b : Int)] w fun o w' => (∃ v, o = .returned v) ∧ kP w w' P B ⟨f, lf, rn, lv, ((stepN cr.toNat 1 : Nat) : Int), ac, true, i, false, d, l⟩ g n k := by
  subst hb
  have HSUM : Hid (∀ W, Calls Tryd.prog 77 #[.int .i64 cr, .int .i64 ((1 : Nat) : Int)] W fun o w' => o = .returned (.int .i64 ((stepN cr.toNat 1 : Nat) : Int)) ∧ W = w') := by
    intro W
    have := crcStep_any cr.toNat 1 W (by omega)
    rwa [Int.toNat_of_nonneg hcr] at this
  have HK : Hid (kP w w P B ⟨f, lf, rn, lv, cr, ac, e, i, false, d, l⟩ g n k) := h
  have hgP : g ≠ P := by have := (World.ownsRow.lt h.o g rfl).1; omega
  have HG : Hid (g ≠ P) := hgP
  have z0 := h.q.cell 0 _ rfl
  have f0 := h.q.free 0
  have z4 := h.q.cell 4 _ rfl
  have f4 := h.q.free 4
  have z5 := h.q.cell 5 _ rfl
  have f5 := h.q.free 5
  have z6 := h.q.cell 6 _ rfl
  have f6 := h.q.free 6
  have z7 := h.q.cell 7 _ rfl
  have f7 := h.q.free 7
  have z8 := h.q.cell 8 _ rfl
  have f8 := h.q.free 8
  have z9 := h.q.cell 9 _ rfl
  have f9 := h.q.free 9
  have hi2 : (i : Int) < 1000000000 := by omega
  have HI : Hid (i < 536870912) := hi
  clear h hgP hi
  generalize stepN cr.toNat 1 = s at *
  subst hf
  go_enter Tryd.func54, Tryd.ntmps54
  go_wp2_with fail
  refine (HSUM.out _).mono ?_
  rintro o w1 ⟨rfl, rfl⟩
  go_wp2_with fail
  go_end0
  refine ⟨⟨_, rfl⟩, ?_⟩
  exact ((HK.out.put (T' := ⟨4, lf, rn, lv, s, ac, e, i, false, d, l⟩) HG.out 4 (.int .i64 (s : Int)) rfl rfl).put (T' := ⟨4, lf, rn, lv, s, ac, true, i, false, d, l⟩) HG.out 6 (.bool true) rfl rfl).put HG.out 8 (.bool false) rfl rfl
set_option maxHeartbeats 4000000 in
set_option maxRecDepth 20000 in
theorem keep_ide0t (w : World) (P B : Nat) (hPB : P < B) (hB : B ≤ w.heap.size) (f : Int) (hf : f = 4) (lf rn lv cr ac : Int) (e : Bool) (i : Nat) (d : Int) (l : List Nat) (g n k : Nat) (h : kP w w P B ⟨f, lf, rn, lv, cr, ac, e, i, true, d, l⟩ g n k) (hcr : 0 ≤ cr) (hcr1 : cr ≤ 32767) (hac : 0 ≤ ac) (hac1 : ac ≤ 32767) (hi : i < 536870912) (hd : 0 ≤ d) (hd1 : d ≤ 15) (b : Nat) (hb : b = 0) :
    Calls Tryd.prog 54 #[.pointer (some ⟨P, 0, none⟩), .int .i64 (b : Int)] w fun o w' => (∃ v, o = .returned v) ∧ kP w w' P B ⟨f, lf, rn, lv, ((stepN cr.toNat 0 : Nat) : Int), ac, false, i, true, d, l⟩ g n k := by
  subst hb
  have HSUM : Hid (∀ W, Calls Tryd.prog 77 #[.int .i64 cr, .int .i64 ((0 : Nat) : Int)] W fun o w' => o = .returned (.int .i64 ((stepN cr.toNat 0 : Nat) : Int)) ∧ W = w') := by
    intro W
    have := crcStep_any cr.toNat 0 W (by omega)
    rwa [Int.toNat_of_nonneg hcr] at this
  have HK : Hid (kP w w P B ⟨f, lf, rn, lv, cr, ac, e, i, true, d, l⟩ g n k) := h
  have hgP : g ≠ P := by have := (World.ownsRow.lt h.o g rfl).1; omega
  have HG : Hid (g ≠ P) := hgP
  have z0 := h.q.cell 0 _ rfl
  have f0 := h.q.free 0
  have z4 := h.q.cell 4 _ rfl
  have f4 := h.q.free 4
  have z5 := h.q.cell 5 _ rfl
  have f5 := h.q.free 5
  have z6 := h.q.cell 6 _ rfl
  have f6 := h.q.free 6
  have z7 := h.q.cell 7 _ rfl
  have f7 := h.q.free 7
  have z8 := h.q.cell 8 _ rfl
  have f8 := h.q.free 8
  have z9 := h.q.cell 9 _ rfl
  have f9 := h.q.free 9
  have hi2 : (i : Int) < 1000000000 := by omega
  have HI : Hid (i < 536870912) := hi
  clear h hgP hi
  generalize stepN cr.toNat 0 = s at *
  subst hf
  go_enter Tryd.func54, Tryd.ntmps54
  go_wp2_with fail
  refine (HSUM.out _).mono ?_
  rintro o w1 ⟨rfl, rfl⟩
  go_wp2_with fail
  go_end0
  refine ⟨⟨_, rfl⟩, ?_⟩
  exact ((HK.out.put (T' := ⟨4, lf, rn, lv, s, ac, e, i, true, d, l⟩) HG.out 4 (.int .i64 (s : Int)) rfl rfl).put (T' := ⟨4, lf, rn, lv, s, ac, false, i, true, d, l⟩) HG.out 6 (.bool false) rfl rfl).put HG.out 8 (.bool true) rfl rfl
set_option maxHeartbeats 4000000 in
set_option maxRecDepth 20000 in
theorem keep_ide1t (w : World) (P B : Nat) (hPB : P < B) (hB : B ≤ w.heap.size) (f : Int) (hf : f = 4) (lf rn lv cr ac : Int) (e : Bool) (i : Nat) (d : Int) (l : List Nat) (g n k : Nat) (h : kP w w P B ⟨f, lf, rn, lv, cr, ac, e, i, true, d, l⟩ g n k) (hcr : 0 ≤ cr) (hcr1 : cr ≤ 32767) (hac : 0 ≤ ac) (hac1 : ac ≤ 32767) (hi : i < 536870912) (hd : 0 ≤ d) (hd1 : d ≤ 15) (b : Nat) (hb : b = 1) :
    Calls Tryd.prog 54 #[.pointer (some ⟨P, 0, none⟩), .int .i64 (b : Int)] w fun o w' => (∃ v, o = .returned v) ∧ kP w w' P B ⟨f, lf, rn, lv, ((stepN cr.toNat 1 : Nat) : Int), ac, true, i, false, d, l⟩ g n k := by
  subst hb
  have HSUM : Hid (∀ W, Calls Tryd.prog 77 #[.int .i64 cr, .int .i64 ((1 : Nat) : Int)] W fun o w' => o = .returned (.int .i64 ((stepN cr.toNat 1 : Nat) : Int)) ∧ W = w') := by
    intro W
    have := crcStep_any cr.toNat 1 W (by omega)
    rwa [Int.toNat_of_nonneg hcr] at this
  have HK : Hid (kP w w P B ⟨f, lf, rn, lv, cr, ac, e, i, true, d, l⟩ g n k) := h
  have hgP : g ≠ P := by have := (World.ownsRow.lt h.o g rfl).1; omega
  have HG : Hid (g ≠ P) := hgP
  have z0 := h.q.cell 0 _ rfl
  have f0 := h.q.free 0
  have z4 := h.q.cell 4 _ rfl
  have f4 := h.q.free 4
  have z5 := h.q.cell 5 _ rfl
  have f5 := h.q.free 5
  have z6 := h.q.cell 6 _ rfl
  have f6 := h.q.free 6
  have z7 := h.q.cell 7 _ rfl
  have f7 := h.q.free 7
  have z8 := h.q.cell 8 _ rfl
  have f8 := h.q.free 8
  have z9 := h.q.cell 9 _ rfl
  have f9 := h.q.free 9
  have hi2 : (i : Int) < 1000000000 := by omega
  have HI : Hid (i < 536870912) := hi
  clear h hgP hi
  generalize stepN cr.toNat 1 = s at *
  subst hf
  go_enter Tryd.func54, Tryd.ntmps54
  go_wp2_with fail
  refine (HSUM.out _).mono ?_
  rintro o w1 ⟨rfl, rfl⟩
  go_wp2_with fail
  go_end0
  refine ⟨⟨_, rfl⟩, ?_⟩
  exact ((HK.out.put (T' := ⟨4, lf, rn, lv, s, ac, e, i, true, d, l⟩) HG.out 4 (.int .i64 (s : Int)) rfl rfl).put (T' := ⟨4, lf, rn, lv, s, ac, true, i, true, d, l⟩) HG.out 6 (.bool true) rfl rfl).put HG.out 8 (.bool false) rfl rfl
set_option maxHeartbeats 4000000 in
set_option maxRecDepth 20000 in
theorem keep_dlc (w : World) (P B : Nat) (hPB : P < B) (hB : B ≤ w.heap.size) (f : Int) (hf : f = 8) (lf rn lv cr ac : Int) (e : Bool) (i : Nat) (r : Bool) (d : Int) (l : List Nat) (g n k : Nat) (h : kP w w P B ⟨f, lf, rn, lv, cr, ac, e, i, r, d, l⟩ g n k) (hcr : 0 ≤ cr) (hcr1 : cr ≤ 32767) (hac : 0 ≤ ac) (hac1 : ac ≤ 32767) (hi : i < 536870912) (hd : 0 ≤ d) (hd1 : d ≤ 15) (b : Nat) (hb : b < 2) :
    Calls Tryd.prog 54 #[.pointer (some ⟨P, 0, none⟩), .int .i64 (b : Int)] w fun o w' => (∃ v, o = .returned v) ∧ kP w w' P B ⟨f, lf, rn, lv, ((stepN cr.toNat b : Nat) : Int), ac, e, i, r, (2 * d + b) % 16, l⟩ g n k := by
  have HSUM : Hid (∀ W, Calls Tryd.prog 77 #[.int .i64 cr, .int .i64 (b : Int)] W fun o w' => o = .returned (.int .i64 ((stepN cr.toNat b : Nat) : Int)) ∧ W = w') := by
    intro W
    have := crcStep_any cr.toNat b W (by omega)
    rwa [Int.toNat_of_nonneg hcr] at this
  have HK : Hid (kP w w P B ⟨f, lf, rn, lv, cr, ac, e, i, r, d, l⟩ g n k) := h
  have hgP : g ≠ P := by have := (World.ownsRow.lt h.o g rfl).1; omega
  have HG : Hid (g ≠ P) := hgP
  have z0 := h.q.cell 0 _ rfl
  have f0 := h.q.free 0
  have z4 := h.q.cell 4 _ rfl
  have f4 := h.q.free 4
  have z5 := h.q.cell 5 _ rfl
  have f5 := h.q.free 5
  have z6 := h.q.cell 6 _ rfl
  have f6 := h.q.free 6
  have z7 := h.q.cell 7 _ rfl
  have f7 := h.q.free 7
  have z8 := h.q.cell 8 _ rfl
  have f8 := h.q.free 8
  have z9 := h.q.cell 9 _ rfl
  have f9 := h.q.free 9
  have hi2 : (i : Int) < 1000000000 := by omega
  have HI : Hid (i < 536870912) := hi
  clear h hgP hi
  generalize stepN cr.toNat b = s at *
  have HE := dlc_val d b hd hd1 hb
  generalize (2 * d + b) % 16 = d' at *
  subst hf
  go_enter Tryd.func54, Tryd.ntmps54
  go_wp2_with fail
  refine (HSUM.out _).mono ?_
  rintro o w1 ⟨rfl, rfl⟩
  go_wp2_with fail
  go_end0
  refine ⟨⟨_, rfl⟩, ?_⟩
  exact (HK.out.put (T' := ⟨_, lf, rn, lv, s, ac, e, i, r, d, l⟩) HG.out 4 (.int .i64 (s : Int)) rfl rfl).put HG.out 9 (.int .i64 d') rfl rfl
set_option maxHeartbeats 4000000 in
set_option maxRecDepth 20000 in
theorem keep_acc (w : World) (P B : Nat) (hPB : P < B) (hB : B ≤ w.heap.size) (f : Int) (hf : f = 10) (lf rn lv cr ac : Int) (e : Bool) (i : Nat) (r : Bool) (d : Int) (l : List Nat) (g n k : Nat) (h : kP w w P B ⟨f, lf, rn, lv, cr, ac, e, i, r, d, l⟩ g n k) (hcr : 0 ≤ cr) (hcr1 : cr ≤ 32767) (hac : 0 ≤ ac) (hac1 : ac ≤ 32767) (hi : i < 536870912) (hd : 0 ≤ d) (hd1 : d ≤ 15) (b : Nat) (hb : b < 2) :
    Calls Tryd.prog 54 #[.pointer (some ⟨P, 0, none⟩), .int .i64 (b : Int)] w fun o w' => (∃ v, o = .returned v) ∧ kP w w' P B ⟨f, lf, rn, lv, cr, (2 * ac + b) % 32768, e, i, r, d, l⟩ g n k := by
  have HSUM : Hid (∀ W, Calls Tryd.prog 77 #[.int .i64 cr, .int .i64 (b : Int)] W fun o w' => o = .returned (.int .i64 ((stepN cr.toNat b : Nat) : Int)) ∧ W = w') := by
    intro W
    have := crcStep_any cr.toNat b W (by omega)
    rwa [Int.toNat_of_nonneg hcr] at this
  have HK : Hid (kP w w P B ⟨f, lf, rn, lv, cr, ac, e, i, r, d, l⟩ g n k) := h
  have hgP : g ≠ P := by have := (World.ownsRow.lt h.o g rfl).1; omega
  have HG : Hid (g ≠ P) := hgP
  have z0 := h.q.cell 0 _ rfl
  have f0 := h.q.free 0
  have z4 := h.q.cell 4 _ rfl
  have f4 := h.q.free 4
  have z5 := h.q.cell 5 _ rfl
  have f5 := h.q.free 5
  have z6 := h.q.cell 6 _ rfl
  have f6 := h.q.free 6
  have z7 := h.q.cell 7 _ rfl
  have f7 := h.q.free 7
  have z8 := h.q.cell 8 _ rfl
  have f8 := h.q.free 8
  have z9 := h.q.cell 9 _ rfl
  have f9 := h.q.free 9
  have hi2 : (i : Int) < 1000000000 := by omega
  have HI : Hid (i < 536870912) := hi
  clear h hgP hi
  generalize stepN cr.toNat b = s at *
  have HE := acc_val ac b hac hac1 hb
  generalize (2 * ac + b) % 32768 = a' at *
  subst hf
  go_enter Tryd.func54, Tryd.ntmps54
  go_wp2_with fail
  go_end0
  refine ⟨⟨_, rfl⟩, ?_⟩
  exact HK.out.put HG.out 5 (.int .i64 a') rfl rfl
set_option maxHeartbeats 4000000 in
set_option maxRecDepth 20000 in
theorem keep_lo (w : World) (P B : Nat) (hPB : P < B) (hB : B ≤ w.heap.size) (f : Int) (hf : f = 1 ∨ f = 7) (lf rn lv cr ac : Int) (e : Bool) (i : Nat) (r : Bool) (d : Int) (l : List Nat) (g n k : Nat) (h : kP w w P B ⟨f, lf, rn, lv, cr, ac, e, i, r, d, l⟩ g n k) (hcr : 0 ≤ cr) (hcr1 : cr ≤ 32767) (hac : 0 ≤ ac) (hac1 : ac ≤ 32767) (hi : i < 536870912) (hd : 0 ≤ d) (hd1 : d ≤ 15) (b : Nat) (hb : b < 2) :
    Calls Tryd.prog 54 #[.pointer (some ⟨P, 0, none⟩), .int .i64 (b : Int)] w fun o w' => (∃ v, o = .returned v) ∧ kP w w' P B ⟨f, lf, rn, lv, ((stepN cr.toNat b : Nat) : Int), ac, e, i, r, d, l⟩ g n k := by
  have HSUM : Hid (∀ W, Calls Tryd.prog 77 #[.int .i64 cr, .int .i64 (b : Int)] W fun o w' => o = .returned (.int .i64 ((stepN cr.toNat b : Nat) : Int)) ∧ W = w') := by
    intro W
    have := crcStep_any cr.toNat b W (by omega)
    rwa [Int.toNat_of_nonneg hcr] at this
  have HK : Hid (kP w w P B ⟨f, lf, rn, lv, cr, ac, e, i, r, d, l⟩ g n k) := h
  have hgP : g ≠ P := by have := (World.ownsRow.lt h.o g rfl).1; omega
  have HG : Hid (g ≠ P) := hgP
  have z0 := h.q.cell 0 _ rfl
  have f0 := h.q.free 0
  have z4 := h.q.cell 4 _ rfl
  have f4 := h.q.free 4
  have z5 := h.q.cell 5 _ rfl
  have f5 := h.q.free 5
  have z6 := h.q.cell 6 _ rfl
  have f6 := h.q.free 6
  have z7 := h.q.cell 7 _ rfl
  have f7 := h.q.free 7
  have z8 := h.q.cell 8 _ rfl
  have f8 := h.q.free 8
  have z9 := h.q.cell 9 _ rfl
  have f9 := h.q.free 9
  have hi2 : (i : Int) < 1000000000 := by omega
  have HI : Hid (i < 536870912) := hi
  clear h hgP hi
  generalize stepN cr.toNat b = s at *
  rcases hf with rfl | rfl
  all_goals
    go_enter Tryd.func54, Tryd.ntmps54
    go_wp2_with fail
    refine (HSUM.out _).mono ?_
    rintro o w1 ⟨rfl, rfl⟩
    go_wp2_with fail
    go_end0
    refine ⟨⟨_, rfl⟩, ?_⟩
    exact (HK.out.put (T' := ⟨_, lf, rn, lv, s, ac, e, i, r, d, l⟩) HG.out 4 (.int .i64 (s : Int)) rfl rfl)
set_option maxHeartbeats 4000000 in
set_option maxRecDepth 20000 in
theorem keep_hi (w : World) (P B : Nat) (hPB : P < B) (hB : B ≤ w.heap.size) (f : Int) (hf : f = 11 ∨ f = 12 ∨ f = 13 ∨ f = 14) (lf rn lv cr ac : Int) (e : Bool) (i : Nat) (r : Bool) (d : Int) (l : List Nat) (g n k : Nat) (h : kP w w P B ⟨f, lf, rn, lv, cr, ac, e, i, r, d, l⟩ g n k) (hcr : 0 ≤ cr) (hcr1 : cr ≤ 32767) (hac : 0 ≤ ac) (hac1 : ac ≤ 32767) (hi : i < 536870912) (hd : 0 ≤ d) (hd1 : d ≤ 15) (b : Nat) (hb : b < 2) :
    Calls Tryd.prog 54 #[.pointer (some ⟨P, 0, none⟩), .int .i64 (b : Int)] w fun o w' => (∃ v, o = .returned v) ∧ kP w w' P B ⟨f, lf, rn, lv, cr, ac, e, i, r, d, l⟩ g n k := by
  have HSUM : Hid (∀ W, Calls Tryd.prog 77 #[.int .i64 cr, .int .i64 (b : Int)] W fun o w' => o = .returned (.int .i64 ((stepN cr.toNat b : Nat) : Int)) ∧ W = w') := by
    intro W
    have := crcStep_any cr.toNat b W (by omega)
    rwa [Int.toNat_of_nonneg hcr] at this
  have HK : Hid (kP w w P B ⟨f, lf, rn, lv, cr, ac, e, i, r, d, l⟩ g n k) := h
  have hgP : g ≠ P := by have := (World.ownsRow.lt h.o g rfl).1; omega
  have HG : Hid (g ≠ P) := hgP
  have z0 := h.q.cell 0 _ rfl
  have f0 := h.q.free 0
  have z4 := h.q.cell 4 _ rfl
  have f4 := h.q.free 4
  have z5 := h.q.cell 5 _ rfl
  have f5 := h.q.free 5
  have z6 := h.q.cell 6 _ rfl
  have f6 := h.q.free 6
  have z7 := h.q.cell 7 _ rfl
  have f7 := h.q.free 7
  have z8 := h.q.cell 8 _ rfl
  have f8 := h.q.free 8
  have z9 := h.q.cell 9 _ rfl
  have f9 := h.q.free 9
  have hi2 : (i : Int) < 1000000000 := by omega
  have HI : Hid (i < 536870912) := hi
  clear h hgP hi
  generalize stepN cr.toNat b = s at *
  rcases hf with rfl | rfl | rfl | rfl
  all_goals
    go_enter Tryd.func54, Tryd.ntmps54
    go_wp2_with fail
    go_end0
    refine ⟨⟨_, rfl⟩, ?_⟩
    exact HK.out
end Go.Proofs.YtjmlalojfghkiaaDoor
