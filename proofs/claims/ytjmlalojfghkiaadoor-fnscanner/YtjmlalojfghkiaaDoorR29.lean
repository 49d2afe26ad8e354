import Derived.Test.YtjmlalojfghkiaaDoorR13
import Derived.Test.YtjmlalojfghkiaaDoorR28
namespace Go.Proofs.YtjmlalojfghkiaaDoor.G
open Go.RowKit
set_option linter.unusedVariables false
theorem kP.put {w w' : World} {P B : Nat} {T T' : Sc} {g : Option Addr} {n k : Nat} (h : kP w w' P B T g n k) (hg : P < B) (o : Nat) (v : Value) (hl : T'.l = T.l) (he : (scL T g n k).set o v = scL T' g n k) : kP w (w'.setCell ⟨P, o, none⟩ v) P B T' g n k :=
  ⟨he ▸ h.q.set o v, by rw [hl]; exact ownsB_set h.o hg _ _, by rw [hl]; exact h.l, h.b.setCell (by exact Nat.le_refl _) _, fun q h1 h2 => (heap_setCell_other _ _ _ _ (by exact h1)).trans (h.r q h1 h2), by simpa using h.z⟩
set_option maxHeartbeats 4000000 in
set_option maxRecDepth 20000 in
theorem keep_id (w : World) (P B : Nat) (hPB : P < B) (hB : B ≤ w.heap.size) (f : Int) (hf : f = 2 ∨ f = 5) (lf rn lv cr ac : Int) (e : Bool) (i : Nat) (r : Bool) (d : Int) (l : List Nat) (g : Option Addr) (n k : Nat) (h : kP w w P B ⟨f, lf, rn, lv, cr, ac, e, i, r, d, l⟩ g n k) (hcr : 0 ≤ cr) (hcr1 : cr ≤ 32767) (hac : 0 ≤ ac) (hac1 : ac ≤ 32767) (hi : i < 536870912) (hd : 0 ≤ d) (hd1 : d ≤ 15) (b : Nat) (hb : b < 2) :
    Calls Tryd.prog 54 #[.pointer (some ⟨P, 0, none⟩), .int .i64 (b : Int)] w fun o w' => (∃ v, o = .returned v) ∧ kP w w' P B ⟨f, lf, rn, lv, ((stepN cr.toNat b : Nat) : Int), ac, e, (2 * i + b) % 536870912, r, d, l⟩ g n k := by
  have HSUM : Hid (∀ W, Calls Tryd.prog 77 #[.int .i64 cr, .int .i64 (b : Int)] W fun o w' => o = .returned (.int .i64 ((stepN cr.toNat b : Nat) : Int)) ∧ W = w') := by
    intro W
    have := crcStep_any cr.toNat b W (by omega)
    rwa [Int.toNat_of_nonneg hcr] at this
  have HK : Hid (kP w w P B ⟨f, lf, rn, lv, cr, ac, e, i, r, d, l⟩ g n k) := h
  have hgP : P < B := hPB
  have HG : Hid (P < B) := hgP
  have z0 := h.q.cell 0 _ rfl
  have f0 := h.q.free 0
  have z4 := h.q.cell 4 _ rfl
  have f4 := h.q.free 4
  have z5 := h.q.cell 5 _ rfl
  have f5 := h.q.free 5
  have z6 := h.q.cell 6 _ rfl
  have f6 := h.q.free 6
  have z7 := h.q.cell 7 _ rfl
  have f7 := h.q.free 7
  have z8 := h.q.cell 8 _ rfl
  have f8 := h.q.free 8
  have z9 := h.q.cell 9 _ rfl
  have f9 := h.q.free 9
  have hi2 : (i : Int) < 1000000000 := by omega
  have HI : Hid (i < 536870912) := hi
  clear h hgP hi
  generalize stepN cr.toNat b = s at *
  have HE := id_val i b HI.out hb
  generalize (2 * i + b) % 536870912 = i' at *
  rcases hf with rfl | rfl
  all_goals
    go_enter Tryd.func54, Tryd.ntmps54
    go_wp2_with fail
    refine (HSUM.out _).mono ?_
    rintro o w1 ⟨rfl, rfl⟩
    go_wp2_with fail
    go_end0
    refine ⟨⟨_, rfl⟩, ?_⟩
    exact (HK.out.put (T' := ⟨_, lf, rn, lv, s, ac, e, i, r, d, l⟩) HG.out 4 (.int .i64 (s : Int)) rfl rfl).put HG.out 7 (.int .u32 (i' : Int)) rfl rfl
set_option maxHeartbeats 4000000 in
set_option maxRecDepth 20000 in
theorem keep_rtr (w : World) (P B : Nat) (hPB : P < B) (hB : B ≤ w.heap.size) (f : Int) (hf : f = 3 ∨ f = 6) (lf rn lv cr ac : Int) (e : Bool) (i : Nat) (r : Bool) (d : Int) (l : List Nat) (g : Option Addr) (n k : Nat) (h : kP w w P B ⟨f, lf, rn, lv, cr, ac, e, i, r, d, l⟩ g n k) (hcr : 0 ≤ cr) (hcr1 : cr ≤ 32767) (hac : 0 ≤ ac) (hac1 : ac ≤ 32767) (hi : i < 536870912) (hd : 0 ≤ d) (hd1 : d ≤ 15) (b : Nat) (hb : b < 2) :
    Calls Tryd.prog 54 #[.pointer (some ⟨P, 0, none⟩), .int .i64 (b : Int)] w fun o w' => (∃ v, o = .returned v) ∧ kP w w' P B ⟨f, lf, rn, lv, ((stepN cr.toNat b : Nat) : Int), ac, e, i, b == 1, d, l⟩ g n k := by
  have HSUM : Hid (∀ W, Calls Tryd.prog 77 #[.int .i64 cr, .int .i64 (b : Int)] W fun o w' => o = .returned (.int .i64 ((stepN cr.toNat b : Nat) : Int)) ∧ W = w') := by
    intro W
    have := crcStep_any cr.toNat b W (by omega)
    rwa [Int.toNat_of_nonneg hcr] at this
  have HK : Hid (kP w w P B ⟨f, lf, rn, lv, cr, ac, e, i, r, d, l⟩ g n k) := h
  have hgP : P < B := hPB
  have HG : Hid (P < B) := hgP
  have z0 := h.q.cell 0 _ rfl
  have f0 := h.q.free 0
  have z4 := h.q.cell 4 _ rfl
  have f4 := h.q.free 4
  have z5 := h.q.cell 5 _ rfl
  have f5 := h.q.free 5
  have z6 := h.q.cell 6 _ rfl
  have f6 := h.q.free 6
  have z7 := h.q.cell 7 _ rfl
  have f7 := h.q.free 7
  have z8 := h.q.cell 8 _ rfl
  have f8 := h.q.free 8
  have z9 := h.q.cell 9 _ rfl
  have f9 := h.q.free 9
  have hi2 : (i : Int) < 1000000000 := by omega
  have HI : Hid (i < 536870912) := hi
  clear h hgP hi
  generalize stepN cr.toNat b = s at *
  have hb' : b = 0 ∨ b = 1 := by omega
  rcases hf with rfl | rfl <;> rcases hb' with rfl | rfl
  all_goals
    go_enter Tryd.func54, Tryd.ntmps54
    go_wp2_with fail
    refine (HSUM.out _).mono ?_
    rintro o w1 ⟨rfl, rfl⟩
    go_wp2_with fail
    go_end0
    refine ⟨⟨_, rfl⟩, ?_⟩
    exact (HK.out.put (T' := ⟨_, lf, rn, lv, s, ac, e, i, r, d, l⟩) HG.out 4 (.int .i64 (s : Int)) rfl rfl).put HG.out 8 (.bool _) rfl rfl
set_option maxHeartbeats 4000000 in
set_option maxRecDepth 20000 in
theorem keep_ide0f (w : World) (P B : Nat) (hPB : P < B) (hB : B ≤ w.heap.size) (f : Int) (hf : f = 4) (lf rn lv cr ac : Int) (e : Bool) (i : Nat) (d : Int) (l : List Nat) (g : Option Addr) (n k : Nat) (h : kP w w P B ⟨f, lf, rn, lv, cr, ac, e, i, false, d, l⟩ g n k) (hcr : 0 ≤ cr) (hcr1 : cr ≤ 32767) (hac : 0 ≤ ac) (hac1 : ac ≤ 32767) (hi : i < 536870912) (hd : 0 ≤ d) (hd1 : d ≤ 15) (b : Nat) (hb : b = 0) :
    Calls Tryd.prog 54 #[.pointer (some ⟨P, 0, none⟩), .int .i64 (b : Int)] w fun o w' => (∃ v, o = .returned v) ∧ kP w w' P B ⟨f, lf, rn, lv, ((stepN cr.toNat 0 : Nat) : Int), ac, false, i, false, d, l⟩ g n k := by
  subst hb
  have HSUM : Hid (∀ W, Calls Tryd.prog 77 #[.int .i64 cr, .int .i64 ((0 : Nat) : Int)] W fun o w' => o = .returned (.int .i64 ((stepN cr.toNat 0 : Nat) : Int)) ∧ W = w') := by
    intro W
    have := crcStep_any cr.toNat 0 W (by omega)
    rwa [Int.toNat_of_nonneg hcr] at this
  have HK : Hid (kP w w P B ⟨f, lf, rn, lv, cr, ac, e, i, false, d, l⟩ g n k) := h
  have hgP : P < B := hPB
  have HG : Hid (P < B) := hgP
  have z0 := h.q.cell 0 _ rfl
  have f0 := h.q.free 0
  have z4 := h.q.cell 4 _ rfl
  have f4 := h.q.free 4
  have z5 := h.q.cell 5 _ rfl
  have f5 := h.q.free 5
  have z6 := h.q.cell 6 _ rfl
  have f6 := h.q.free 6
  have z7 := h.q.cell 7 _ rfl
  have f7 := h.q.free 7
  have z8 := h.q.cell 8 _ rfl
  have f8 := h.q.free 8
  have z9 := h.q.cell 9 _ rfl
  have f9 := h.q.free 9
  have hi2 : (i : Int) < 1000000000 := by omega
  have HI : Hid (i < 536870912) := hi
  clear h hgP hi
  generalize stepN cr.toNat 0 = s at *
  subst hf
  go_enter Tryd.func54, Tryd.ntmps54
  go_wp2_with fail
  refine (HSUM.out _).mono ?_
  rintro o w1 ⟨rfl, rfl⟩
  go_wp2_with fail
  go_end0
  refine ⟨⟨_, rfl⟩, ?_⟩
  exact ((HK.out.put (T' := ⟨4, lf, rn, lv, s, ac, e, i, false, d, l⟩) HG.out 4 (.int .i64 (s : Int)) rfl rfl).put (T' := ⟨4, lf, rn, lv, s, ac, false, i, false, d, l⟩) HG.out 6 (.bool false) rfl rfl).put HG.out 8 (.bool false) rfl rfl
set_option maxHeartbeats 4000000 in
set_option maxRecDepth 20000 in
theorem keep_ide1f (w : World) (P B : Nat) (hPB : P < B) (hB : B ≤ w.heap.size) (f : Int) (hf : f = 4) (lf rn lv cr ac : Int) (e : Bool) (i : Nat) (d : Int) (l : List Nat) (g : Option Addr) (n k : Nat) (h : kP w w P B ⟨f, lf, rn, lv, cr, ac, e, i, false, d, l⟩ g n k) (hcr : 0 ≤ cr) (hcr1 : cr ≤ 32767) (hac : 0 ≤ ac) (hac1 : ac ≤ 32767) (hi : i < 536870912) (hd : 0 ≤ d) (hd1 : d ≤ 15) (b : Nat) (hb : b = 1) :
    Calls Tryd.prog 54 #[.pointer (some ⟨P, 0, none⟩), .int .i64 (b : Int)] w fun o w' => (∃ v, o = .returned v) ∧ kP w w' P B ⟨f, lf, rn, lv, ((stepN cr.toNat 1 : Nat) : Int), ac, true, i, false, d, l⟩ g n k := by
  subst hb
  have HSUM : Hid (∀ W, Calls Tryd.prog 77 #[.int .i64 cr, .int .i64 ((1 : Nat) : Int)] W fun o w' => o = .returned (.int .i64 ((stepN cr.toNat 1 : Nat) : Int)) ∧ W = w') := by
    intro W
    have := crcStep_any cr.toNat 1 W (by omega)
    rwa [Int.toNat_of_nonneg hcr] at this
  have HK : Hid (kP w w P B ⟨f, lf, rn, lv, cr, ac, e, i, false, d, l⟩ g n k) := h
  have hgP : P < B := hPB
  have HG : Hid (P < B) := hgP
  have z0 := h.q.cell 0 _ rfl
  have f0 := h.q.free 0
  have z4 := h.q.cell 4 _ rfl
  have f4 := h.q.free 4
  have z5 := h.q.cell 5 _ rfl
  have f5 := h.q.free 5
  have z6 := h.q.cell 6 _ rfl
  have f6 := h.q.free 6
  have z7 := h.q.cell 7 _ rfl
  have f7 := h.q.free 7
  have z8 := h.q.cell 8 _ rfl
  have f8 := h.q.free 8
  have z9 := h.q.cell 9 _ rfl
  have f9 := h.q.free 9
  have hi2 : (i : Int) < 1000000000 := by omega
  have HI : Hid (i < 536870912) := hi
  clear h hgP hi
  generalize stepN cr.toNat 1 = s at *
  subst hf
  go_enter Tryd.func54, Tryd.ntmps54
  go_wp2_with fail
  refine (HSUM.out _).mono ?_
  rintro o w1 ⟨rfl, rfl⟩
  go_wp2_with fail
  go_end0
  refine ⟨⟨_, rfl⟩, ?_⟩
  exact ((HK.out.put (T' := ⟨4, lf, rn, lv, s, ac, e, i, false, d, l⟩) HG.out 4 (.int .i64 (s : Int)) rfl rfl).put (T' := ⟨4, lf, rn, lv, s, ac, true, i, false, d, l⟩) HG.out 6 (.bool true) rfl rfl).put HG.out 8 (.bool false) rfl rfl
set_option maxHeartbeats 4000000 in
set_option maxRecDepth 20000 in
theorem keep_ide0t (w : World) (P B : Nat) (hPB : P < B) (hB : B ≤ w.heap.size) (f : Int) (hf : f = 4) (lf rn lv cr ac : Int) (e : Bool) (i : Nat) (d : Int) (l : List Nat) (g : Option Addr) (n k : Nat) (h : kP w w P B ⟨f, lf, rn, lv, cr, ac, e, i, true, d, l⟩ g n k) (hcr : 0 ≤ cr) (hcr1 : cr ≤ 32767) (hac : 0 ≤ ac) (hac1 : ac ≤ 32767) (hi : i < 536870912) (hd : 0 ≤ d) (hd1 : d ≤ 15) (b : Nat) (hb : b = 0) :
    Calls Tryd.prog 54 #[.pointer (some ⟨P, 0, none⟩), .int .i64 (b : Int)] w fun o w' => (∃ v, o = .returned v) ∧ kP w w' P B ⟨f, lf, rn, lv, ((stepN cr.toNat 0 : Nat) : Int), ac, false, i, true, d, l⟩ g n k := by
  subst hb
  have HSUM : Hid (∀ W, Calls Tryd.prog 77 #[.int .i64 cr, .int .i64 ((0 : Nat) : Int)] W fun o w' => o = .returned (.int .i64 ((stepN cr.toNat 0 : Nat) : Int)) ∧ W = w') := by
    intro W
    have := crcStep_any cr.toNat 0 W (by omega)
    rwa [Int.toNat_of_nonneg hcr] at this
  have HK : Hid (kP w w P B ⟨f, lf, rn, lv, cr, ac, e, i, true, d, l⟩ g n k) := h
  have hgP : P < B := hPB
  have HG : Hid (P < B) := hgP
  have z0 := h.q.cell 0 _ rfl
  have f0 := h.q.free 0
  have z4 := h.q.cell 4 _ rfl
  have f4 := h.q.free 4
  have z5 := h.q.cell 5 _ rfl
  have f5 := h.q.free 5
  have z6 := h.q.cell 6 _ rfl
  have f6 := h.q.free 6
  have z7 := h.q.cell 7 _ rfl
  have f7 := h.q.free 7
  have z8 := h.q.cell 8 _ rfl
  have f8 := h.q.free 8
  have z9 := h.q.cell 9 _ rfl
  have f9 := h.q.free 9
  have hi2 : (i : Int) < 1000000000 := by omega
  have HI : Hid (i < 536870912) := hi
  clear h hgP hi
  generalize stepN cr.toNat 0 = s at *
  subst hf
  go_enter Tryd.func54, Tryd.ntmps54
  go_wp2_with fail
  refine (HSUM.out _).mono ?_
  rintro o w1 ⟨rfl, rfl⟩
  go_wp2_with fail
  go_end0
  refine ⟨⟨_, rfl⟩, ?_⟩
  exact ((HK.out.put (T' := ⟨4, lf, rn, lv, s, ac, e, i, true, d, l⟩) HG.out 4 (.int .i64 (s : Int)) rfl rfl).put (T' := ⟨4, lf, rn, lv, s, ac, false, i, true, d, l⟩) HG.out 6 (.bool false) rfl rfl).put HG.out 8 (.bool true) rfl rfl
set_option maxHeartbeats 4000000 in
set_option maxRecDepth 20000 in
theorem keep_ide1t (w : World) (P B : Nat) (hPB : P < B) (hB : B ≤ w.heap.size) (f : Int) (hf : f = 4) (lf rn lv cr ac : Int) (e : Bool) (i : Nat) (d : Int) (l : List Nat) (g : Option Addr) (n k : Nat) (h : kP w w P B ⟨f, lf, rn, lv, cr, ac, e, i, true, d, l⟩ g n k) (hcr : 0 ≤ cr) (hcr1 : cr ≤ 32767) (hac : 0 ≤ ac) (hac1 : ac ≤ 32767) (hi : i < 536870912) (hd : 0 ≤ d) (hd1 : d ≤ 15) (b : Nat) (hb : b = 1) :
    Calls Tryd.prog 54 #[.pointer (some ⟨P, 0, none⟩), .int .i64 (b : Int)] w fun o w' => (∃ v, o = .returned v) ∧ kP w w' P B ⟨f, lf, rn, lv, ((stepN cr.toNat 1 : Nat) : Int), ac, true, i, false, d, l⟩ g n k := by
  subst hb
  have HSUM : Hid (∀ W, Calls Tryd.prog 77 #[.int .i64 cr, .int .i64 ((1 : Nat) : Int)] W fun o w' => o = .returned (.int .i64 ((stepN cr.toNat 1 : Nat) : Int)) ∧ W = w') := by
    intro W
    have := crcStep_any cr.toNat 1 W (by omega)
    rwa [Int.toNat_of_nonneg hcr] at this
  have HK : Hid (kP w w P B ⟨f, lf, rn, lv, cr, ac, e, i, true, d, l⟩ g n k) := h
  have hgP : P < B := hPB
  have HG : Hid (P < B) := hgP
  have z0 := h.q.cell 0 _ rfl
  have f0 := h.q.free 0
  have z4 := h.q.cell 4 _ rfl
  have f4 := h.q.free 4
  have z5 := h.q.cell 5 _ rfl
  have f5 := h.q.free 5
  have z6 := h.q.cell 6 _ rfl
  have f6 := h.q.free 6
  have z7 := h.q.cell 7 _ rfl
  have f7 := h.q.free 7
  have z8 := h.q.cell 8 _ rfl
  have f8 := h.q.free 8
  have z9 := h.q.cell 9 _ rfl
  have f9 := h.q.free 9
  have hi2 : (i : Int) < 1000000000 := by omega
  have HI : Hid (i < 536870912) := hi
  clear h hgP hi
  generalize stepN cr.toNat 1 = s at *
  subst hf
  go_enter Tryd.func54, Tryd.ntmps54
  go_wp2_with fail
  refine (HSUM.out _).mono ?_
  rintro o w1 ⟨rfl, rfl⟩
  go_wp2_with fail
  go_end0
  refine ⟨⟨_, rfl⟩, ?_⟩
  exact ((HK.out.put (T' := ⟨4, lf, rn, lv, s, ac, e, i, true, d, l⟩) HG.out 4 (.int .i64 (s : Int)) rfl rfl).put (T' := ⟨4, lf, rn, lv, s, ac, true, i, true, d, l⟩) HG.out 6 (.bool true) rfl rfl).put HG.out 8 (.bool false) rfl rfl
set_option maxHeartbeats 4000000 in
set_option maxRecDepth 20000 in
theorem keep_dlc (w : World) (P B : Nat) (hPB : P < B) (hB : B ≤ w.heap.size) (f : Int) (hf : f = 8) (lf rn lv cr ac : Int) (e : Bool) (i : Nat) (r : Bool) (d : Int) (l : List Nat) (g : Option Addr) (n k : Nat) (h : kP w w P B ⟨f, lf, rn, lv, cr, ac, e, i, r, d, l⟩ g n k) (hcr : 0 ≤ cr) (hcr1 : cr ≤ 32767) (hac : 0 ≤ ac) (hac1 : ac ≤ 32767) (hi : i < 536870912) (hd : 0 ≤ d) (hd1 : d ≤ 15) (b : Nat) (hb : b < 2) :
    Calls Tryd.prog 54 #[.pointer (some ⟨P, 0, none⟩), .int .i64 (b : Int)] w fun o w' => (∃ v, o = .returned v) ∧ kP w w' P B ⟨f, lf, rn, lv, ((stepN cr.toNat b : Nat) : Int), ac, e, i, r, (2 * d + b) % 16, l⟩ g n k := by
  have HSUM : Hid (∀ W, Calls Tryd.prog 77 #[.int .i64 cr, .int .i64 (b : Int)] W fun o w' => o = .returned (.int .i64 ((stepN cr.toNat b : Nat) : Int)) ∧ W = w') := by
    intro W
    have := crcStep_any cr.toNat b W (by omega)
    rwa [Int.toNat_of_nonneg hcr] at this
  have HK : Hid (kP w w P B ⟨f, lf, rn, lv, cr, ac, e, i, r, d, l⟩ g n k) := h
  have hgP : P < B := hPB
  have HG : Hid (P < B) := hgP
  have z0 := h.q.cell 0 _ rfl
  have f0 := h.q.free 0
  have z4 := h.q.cell 4 _ rfl
  have f4 := h.q.free 4
  have z5 := h.q.cell 5 _ rfl
  have f5 := h.q.free 5
  have z6 := h.q.cell 6 _ rfl
  have f6 := h.q.free 6
  have z7 := h.q.cell 7 _ rfl
  have f7 := h.q.free 7
  have z8 := h.q.cell 8 _ rfl
  have f8 := h.q.free 8
  have z9 := h.q.cell 9 _ rfl
  have f9 := h.q.free 9
  have hi2 : (i : Int) < 1000000000 := by omega
  have HI : Hid (i < 536870912) := hi
  clear h hgP hi
  generalize stepN cr.toNat b = s at *
  have HE := dlc_val d b hd hd1 hb
  generalize (2 * d + b) % 16 = d' at *
  subst hf
  go_enter Tryd.func54, Tryd.ntmps54
  go_wp2_with fail
  refine (HSUM.out _).mono ?_
  rintro o w1 ⟨rfl, rfl⟩
  go_wp2_with fail
  go_end0
  refine ⟨⟨_, rfl⟩, ?_⟩
  exact (HK.out.put (T' := ⟨_, lf, rn, lv, s, ac, e, i, r, d, l⟩) HG.out 4 (.int .i64 (s : Int)) rfl rfl).put HG.out 9 (.int .i64 d') rfl rfl
set_option maxHeartbeats 4000000 in
set_option maxRecDepth 20000 in
theorem keep_acc (w : World) (P B : Nat) (hPB : P < B) (hB : B ≤ w.heap.size) (f : Int) (hf : f = 10) (lf rn lv cr ac : Int) (e : Bool) (i : Nat) (r : Bool) (d : Int) (l : List Nat) (g : Option Addr) (n k : Nat) (h : kP w w P B ⟨f, lf, rn, lv, cr, ac, e, i, r, d, l⟩ g n k) (hcr : 0 ≤ cr) (hcr1 : cr ≤ 32767) (hac : 0 ≤ ac) (hac1 : ac ≤ 32767) (hi : i < 536870912) (hd : 0 ≤ d) (hd1 : d ≤ 15) (b : Nat) (hb : b < 2) :
    Calls Tryd.prog 54 #[.pointer (some ⟨P, 0, none⟩), .int .i64 (b : Int)] w fun o w' => (∃ v, o = .returned v) ∧ kP w w' P B ⟨f, lf, rn, lv, cr, (2 * ac + b) % 32768, e, i, r, d, l⟩ g n k := by
  have HSUM : Hid (∀ W, Calls Tryd.prog 77 #[.int .i64 cr, .int .i64 (b : Int)] W fun o w' => o = .returned (.int .i64 ((stepN cr.toNat b : Nat) : Int)) ∧ W = w') := by
    intro W
    have := crcStep_any cr.toNat b W (by omega)
    rwa [Int.toNat_of_nonneg hcr] at this
  have HK : Hid (kP w w P B ⟨f, lf, rn, lv, cr, ac, e, i, r, d, l⟩ g n k) := h
  have hgP : P < B := hPB
  have HG : Hid (P < B) := hgP
  have z0 := h.q.cell 0 _ rfl
  have f0 := h.q.free 0
  have z4 := h.q.cell 4 _ rfl
  have f4 := h.q.free 4
  have z5 := h.q.cell 5 _ rfl
  have f5 := h.q.free 5
  have z6 := h.q.cell 6 _ rfl
  have f6 := h.q.free 6
  have z7 := h.q.cell 7 _ rfl
  have f7 := h.q.free 7
  have z8 := h.q.cell 8 _ rfl
  have f8 := h.q.free 8
  have z9 := h.q.cell 9 _ rfl
  have f9 := h.q.free 9
  have hi2 : (i : Int) < 1000000000 := by omega
  have HI : Hid (i < 536870912) := hi
  clear h hgP hi
  generalize stepN cr.toNat b = s at *
  have HE := acc_val ac b hac hac1 hb
  generalize (2 * ac + b) % 32768 = a' at *
  subst hf
  go_enter Tryd.func54, Tryd.ntmps54
  go_wp2_with fail
  go_end0
  refine ⟨⟨_, rfl⟩, ?_⟩
  exact HK.out.put HG.out 5 (.int .i64 a') rfl rfl
set_option maxHeartbeats 4000000 in
set_option maxRecDepth 20000 in
theorem keep_lo (w : World) (P B : Nat) (hPB : P < B) (hB : B ≤ w.heap.size) (f : Int) (hf : f = 1 ∨ f = 7) (lf rn lv cr ac : Int) (e : Bool) (i : Nat) (r : Bool) (d : Int) (l : List Nat) (g : Option Addr) (n k : Nat) (h : kP w w P B ⟨f, lf, rn, lv, cr, ac, e, i, r, d, l⟩ g n k) (hcr : 0 ≤ cr) (hcr1 : cr ≤ 32767) (hac : 0 ≤ ac) (hac1 : ac ≤ 32767) (hi : i < 536870912) (hd : 0 ≤ d) (hd1 : d ≤ 15) (b : Nat) (hb : b < 2) :
    Calls Tryd.prog 54 #[.pointer (some ⟨P, 0, none⟩), .int .i64 (b : Int)] w fun o w' => (∃ v, o = .returned v) ∧ kP w w' P B ⟨f, lf, rn, lv, ((stepN cr.toNat b : Nat) : Int), ac, e, i, r, d, l⟩ g n k := by
  have HSUM : Hid (∀ W, Calls Tryd.prog 77 #[.int .i64 cr, .int .i64 (b : Int)] W fun o w' => o = .returned (.int .i64 ((stepN cr.toNat b : Nat) : Int)) ∧ W = w') := by
    intro W
    have := crcStep_any cr.toNat b W (by omega)
    rwa [Int.toNat_of_nonneg hcr] at this
  have HK : Hid (kP w w P B ⟨f, lf, rn, lv, cr, ac, e, i, r, d, l⟩ g n k) := h
  have hgP : P < B := hPB
  have HG : Hid (P < B) := hgP
  have z0 := h.q.cell 0 _ rfl
  have f0 := h.q.free 0
  have z4 := h.q.cell 4 _ rfl
  have f4 := h.q.free 4
  have z5 := h.q.cell 5 _ rfl
  have f5 := h.q.free 5
  have z6 := h.q.cell 6 _ rfl
  have f6 := h.q.free 6
  have z7 := h.q.cell 7 _ rfl
  have f7 := h.q.free 7
  have z8 := h.q.cell 8 _ rfl
  have f8 := h.q.free 8
  have z9 := h.q.cell 9 _ rfl
  have f9 := h.q.free 9
  have hi2 : (i : Int) < 1000000000 := by omega
  have HI : Hid (i < 536870912) := hi
  clear h hgP hi
  generalize stepN cr.toNat b = s at *
  rcases hf with rfl | rfl
  all_goals
    go_enter Tryd.func54, Tryd.ntmps54
    go_wp2_with fail
    refine (HSUM.out _).mono ?_
    rintro o w1 ⟨rfl, rfl⟩
    go_wp2_with fail
    go_end0
    refine ⟨⟨_, rfl⟩, ?_⟩
    exact (HK.out.put (T' := ⟨_, lf, rn, lv, s, ac, e, i, r, d, l⟩) HG.out 4 (.int .i64 (s : Int)) rfl rfl)
set_option maxHeartbeats 4000000 in
set_option maxRecDepth 20000 in
theorem keep_hi (w : World) (P B : Nat) (hPB : P < B) (hB : B ≤ w.heap.size) (f : Int) (hf : f = 11 ∨ f = 12 ∨ f = 13 ∨ f = 14) (lf rn lv cr ac : Int) (e : Bool) (i : Nat) (r : Bool) (d : Int) (l : List Nat) (g : Option Addr) (n k : Nat) (h : kP w w P B ⟨f, lf, rn, lv, cr, ac, e, i, r, d, l⟩ g n k) (hcr : 0 ≤ cr) (hcr1 : cr ≤ 32767) (hac : 0 ≤ ac) (hac1 : ac ≤ 32767) (hi : i < 536870912) (hd : 0 ≤ d) (hd1 : d ≤ 15) (b : Nat) (hb : b < 2) :
    Calls Tryd.prog 54 #[.pointer (some ⟨P, 0, none⟩), .int .i64 (b : Int)] w fun o w' => (∃ v, o = .returned v) ∧ kP w w' P B ⟨f, lf, rn, lv, cr, ac, e, i, r, d, l⟩ g n k := by
  have HSUM : Hid (∀ W, Calls Tryd.prog 77 #[.int .i64 cr, .int .i64 (b : Int)] W fun o w' => o = .returned (.int .i64 ((stepN cr.toNat b : Nat) : Int)) ∧ W = w') := by
    intro W
    have := crcStep_any cr.toNat b W (by omega)
    rwa [Int.toNat_of_nonneg hcr] at this
  have HK : Hid (kP w w P B ⟨f, lf, rn, lv, cr, ac, e, i, r, d, l⟩ g n k) := h
  have hgP : P < B := hPB
  have HG : Hid (P < B) := hgP
  have z0 := h.q.cell 0 _ rfl
  have f0 := h.q.free 0
  have z4 := h.q.cell 4 _ rfl
  have f4 := h.q.free 4
  have z5 := h.q.cell 5 _ rfl
  have f5 := h.q.free 5
  have z6 := h.q.cell 6 _ rfl
  have f6 := h.q.free 6
  have z7 := h.q.cell 7 _ rfl
  have f7 := h.q.free 7
  have z8 := h.q.cell 8 _ rfl
  have f8 := h.q.free 8
  have z9 := h.q.cell 9 _ rfl
  have f9 := h.q.free 9
  have hi2 : (i : Int) < 1000000000 := by omega
  have HI : Hid (i < 536870912) := hi
  clear h hgP hi
  generalize stepN cr.toNat b = s at *
  rcases hf with rfl | rfl | rfl | rfl
  all_goals
    go_enter Tryd.func54, Tryd.ntmps54
    go_wp2_with fail
    go_end0
    refine ⟨⟨_, rfl⟩, ?_⟩
    exact HK.out
end Go.Proofs.YtjmlalojfghkiaaDoor.G
