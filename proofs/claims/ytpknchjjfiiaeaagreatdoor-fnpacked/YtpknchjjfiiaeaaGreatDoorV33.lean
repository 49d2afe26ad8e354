import Derived.Test.YtpknchjjfiiaeaaGreatDoorV32
import Derived.Laws.NewBlocks
import Derived.Test.YtpknchjjfiiaeaaGreatDoorV20
namespace Go.Proofs.YtpknchjjfiiaeaaGreatDoor
open Go.RowKit
/-- the table made: done, filled, all other blocks as they were -/
structure madeT (b : Nat) (w w' : World) : Prop where
  done : w'.cell? ⟨b, 0, none⟩ = some (.int .u32 1)
  tab : tabS w' b 256
  bel : Below b w w'
  oth : ∀ k, k ≠ b → w'.heap[k]? = w.heap[k]?
theorem tabS.low {w : World} {b m : Nat} (h : tabS w b m) (j : Nat) (hj : j < 3) (v : Value) : tabS (w.setCell ⟨b, j, none⟩ v) b m := by
  refine ⟨fun i hi => ?_, fun i => by rw [World.frozen?_setCell]; exact h.free i⟩
  rw [World.cell?_setCell_other _ _ _ _ (by intro e; simp at e; try omega)]
  exact h.cell i hi
theorem bload (a : Addr) (d : Int) (w : World) (h : w.cell? a = some (.int .u32 d)) :
    Calls Tryz.prog 74 #[.pointer (some a)] w fun e w' => e = .returned (.bool (d != 0)) ∧ w = w' := by
  have hl := run_call_load (P := Tryz.prog) Tryz.func88 (by kernel_rfl) (by kernel_rfl) (by kernel_rfl) .u32 (by kernel_rfl) h
  go_enter Tryz.func74, Tryz.ntmps74
  go_wp2
  go_ret
  exact ⟨rfl, rfl⟩
set_option maxRecDepth 100000 in
set_option maxHeartbeats 1600000 in
theorem slow_any (b : Nat) (w : World) (h0 : w.cell? ⟨b, 0, none⟩ = some (.int .u32 0)) (h1 : w.cell? ⟨b, 1, none⟩ = some (.int .i32 0)) (ht : tabS w b 1) :
    Calls Tryz.prog 75 #[.pointer (some ⟨b, 0, none⟩), .func (.func 61) #[.pointer (some ⟨b, 0, none⟩)] #[]] w fun e w' => e = .returned (.tuple #[]) ∧ madeT b w w' := by
  have f0 := ht.free 0
  have f1 := ht.free 1
  have hc1 : (w.setCell ⟨b, 1, none⟩ (.int .i32 1)).cell? ⟨b, 0, none⟩ = some (.int .u32 0) := (World.cell?_setCell_other _ ⟨b, 1, none⟩ ⟨b, 0, none⟩ _ (by simp)).trans h0
  have HL : Hid (Calls Tryz.prog 74 #[.pointer (some ⟨b, 0, none⟩)] (w.setCell ⟨b, 1, none⟩ (.int .i32 1)) fun e w' => e = .returned (.bool false) ∧ (w.setCell ⟨b, 1, none⟩ (.int .i32 1)) = w') := bload _ 0 _ hc1
  have hnot : ∀ (x : Bool) (w : World), (Op.unary .not (.bool x)).run Tryz.prog w = .ok (.bool (!x)) w := fun _ _ => rfl
  have HF : Hid (Calls Tryz.prog 61 #[.pointer (some ⟨b, 0, none⟩)] (w.setCell ⟨b, 1, none⟩ (.int .i32 1)) fun o w' => o = .returned (.tuple #[]) ∧ tabS w' b 256 ∧ tabO b (w.setCell ⟨b, 1, none⟩ (.int .i32 1)) w') := fill_any _ b (ht.low 1 (by decide) _)
  have HT : Hid (tabS w b 1) := ht
  clear ht
  go_enter_defers Tryz.func75, Tryz.ntmps75
  go_wp2_with (first | (go_at_call 74; refine HL.out.mono ?_; rintro e w' ⟨rfl, rfl⟩) | (go_at_call 89; refine (lock_free ⟨b, 1, none⟩ _ (by go_simp) (by go_simp)).mono ?_; rintro e w' ⟨rfl, rfl⟩) | (go_at_call 61; refine HF.out.mono ?_; rintro e w2 ⟨rfl, t2, o2⟩))
  have c0 : w2.cell? ⟨b, 0, none⟩ = some (.int .u32 0) := (o2.low 0 (by decide)).trans hc1
  have c1 : w2.cell? ⟨b, 1, none⟩ = some (.int .i32 1) := (o2.low 1 (by decide)).trans (World.cell?_setCell_same w _ _ h1)
  refine leaves_cons (f := 91) (args := #[.pointer (some ⟨b, 0, none⟩), .bool true]) (by simp) (by simp [go_sem]) ?_
  refine (store_deferred ⟨b, 0, none⟩ (.int .u32 0) .returning _ c0 (t2.free 0)).mono ?_
  rintro e u' w3 ⟨rfl, rfl, rfl⟩
  refine leaves_cons (f := 90) (args := #[.pointer (some ⟨b, 1, none⟩)]) (by simp [settle]) (by simp [go_sem]) ?_
  refine (unlock_deferred ⟨b, 1, none⟩ _ _ ?_ (by simp [t2.free 1])).mono ?_
  · refine (World.cell?_setCell_other _ ⟨b, 0, none⟩ ⟨b, 1, none⟩ _ (by simp)).trans ?_
    rw [World.cell?_drew]
    exact c1
  rintro e u' w4 ⟨rfl, rfl, rfl⟩
  have hm : madeT b w ((w2.drew.setCell ⟨b, 0, none⟩ (.int .u32 1)).setCell ⟨b, 1, none⟩ (.int .i32 0)) := by
    refine ⟨?_, (t2.drew.low 0 (by decide) _).low 1 (by decide) _, ?_, fun k hk => ?_⟩
    · rw [World.cell?_setCell_other _ ⟨b, 1, none⟩ ⟨b, 0, none⟩ _ (by simp)]
      exact World.cell?_setCell_same _ _ _ (by rw [World.cell?_drew]; exact c0)
    · exact ((((Below.refl b w).setCell (p := ⟨b, 1, none⟩) (by simp) _).trans o2.bel).drew.setCell (p := ⟨b, 0, none⟩) (by simp) _).setCell (p := ⟨b, 1, none⟩) (by simp) _
    · exact (heap_setCell_other _ ⟨b, 1, none⟩ k _ hk).trans ((heap_setCell_other _ ⟨b, 0, none⟩ k _ hk).trans ((o2.oth k hk).trans (heap_setCell_other w ⟨b, 1, none⟩ k _ hk)))
  simp [Leaves, settle, results, Tryz.results75]
  exact hm
set_option maxRecDepth 100000 in
set_option maxHeartbeats 1600000 in
theorem do_first (b : Nat) (w : World) (h0 : w.cell? ⟨b, 0, none⟩ = some (.int .u32 0)) (h1 : w.cell? ⟨b, 1, none⟩ = some (.int .i32 0)) (ht : tabS w b 1) :
    Calls Tryz.prog 60 #[.pointer (some ⟨b, 0, none⟩), .func (.func 61) #[.pointer (some ⟨b, 0, none⟩)] #[]] w fun e w' => e = .returned (.tuple #[]) ∧ madeT b w w' := by
  have hnot : ∀ (x : Bool) (w : World), (Op.unary .not (.bool x)).run Tryz.prog w = .ok (.bool (!x)) w := fun _ _ => rfl
  have HL : Hid (Calls Tryz.prog 74 #[.pointer (some ⟨b, 0, none⟩)] w fun e w' => e = .returned (.bool false) ∧ w = w') := bload _ 0 _ h0
  have HS := slow_any b w h0 h1 ht
  clear ht
  go_enter Tryz.func60, Tryz.ntmps60
  go_wp2_with (first | (go_at_call 74; refine HL.out.mono ?_; rintro e w' ⟨rfl, rfl⟩) | (go_at_call 75; refine HS.mono ?_; rintro e w' ⟨rfl, hm⟩))
  go_end0
  exact ⟨rfl, hm⟩
theorem do_done (b : Nat) (fv : Value) (w : World) (h0 : w.cell? ⟨b, 0, none⟩ = some (.int .u32 1)) :
    Calls Tryz.prog 60 #[.pointer (some ⟨b, 0, none⟩), fv] w fun e w' => e = .returned (.tuple #[]) ∧ w' = w := by
  have hnot : ∀ (x : Bool) (w : World), (Op.unary .not (.bool x)).run Tryz.prog w = .ok (.bool (!x)) w := fun _ _ => rfl
  have HL : Hid (Calls Tryz.prog 74 #[.pointer (some ⟨b, 0, none⟩)] w fun e w' => e = .returned (.bool true) ∧ w = w') := bload _ 1 _ h0
  go_enter Tryz.func60, Tryz.ntmps60
  go_wp2_with (first | (go_at_call 74; refine HL.out.mono ?_; rintro e w' ⟨rfl, rfl⟩))
  go_end0
  exact ⟨rfl, rfl⟩
/-- the table, made or not yet -/
def tabQ (w : World) (b : Nat) : Prop := (w.cell? ⟨b, 0, none⟩ = some (.int .u32 0) ∧ w.cell? ⟨b, 1, none⟩ = some (.int .i32 0) ∧ tabS w b 1) ∨ (w.cell? ⟨b, 0, none⟩ = some (.int .u32 1) ∧ tabS w b 256)
theorem do_any (b : Nat) (w : World) (h : tabQ w b) :
    Calls Tryz.prog 60 #[.pointer (some ⟨b, 0, none⟩), .func (.func 61) #[.pointer (some ⟨b, 0, none⟩)] #[]] w fun e w' => e = .returned (.tuple #[]) ∧ madeT b w w' := by
  rcases h with ⟨h0, h1, ht⟩ | ⟨h0, ht⟩
  · exact do_first b w h0 h1 ht
  · refine (do_done b _ w h0).mono ?_
    rintro e w' ⟨rfl, rfl⟩
    exact ⟨rfl, h0, ht, Below.refl _ _, fun _ _ => rfl⟩
theorem madeT.q {b : Nat} {w w' : World} (h : madeT b w w') : tabQ w' b := .inr ⟨h.done, h.tab⟩
theorem step_idx (r o : Nat) (hr : r < 32768) (ho : o < 256) : bits BinOp.xor IntKind.i64 ((r : Int) / 128) (o : Int) = ((r / 128 ^^^ o : Nat) : Int) := by
  have : ((r : Int) / 128) = ((r / 128 : Nat) : Int) := by omega
  rw [this, i64_xor_nat _ _ (by omega) (by omega)]
theorem step_lt (r o : Nat) (hr : r < 32768) (ho : o < 256) : r / 128 ^^^ o < 256 := Nat.xor_lt_two_pow (n := 8) (by omega) ho
theorem step_val (r o : Nat) (hr : r < 32768) (ho : o < 256) : bits BinOp.xor IntKind.i64 (bits BinOp.and IntKind.i64 ((r : Int) * 256) 32767) (M.tabN (r / 128 ^^^ o) : Int) = (M.S8 r o : Int) := by
  have hb := M.tab_lt _ (step_lt r o hr ho)
  rw [i64_mask15 _ (by omega) (by omega), M.S8_tab r o hr ho]
  have e : ((r : Int) * 256) % 32768 = ((r * 256 % 32768 : Nat) : Int) := by omega
  rw [e, i64_xor_nat _ _ (by omega) (by omega)]
set_option maxRecDepth 100000 in
set_option maxHeartbeats 1600000 in
theorem step_any (b : Nat) (w : World) (r o : Nat) (h : tabQ w b) (hr : r < 32768) (ho : o < 256) :
    Calls Tryz.prog 36 #[.pointer (some ⟨b, 0, none⟩), .int .i64 (r : Int), .int .i64 (o : Int)] w fun e w' => e = .returned (.int .i64 (M.S8 r o : Int)) ∧ tabQ w' b ∧ Below b w w' ∧ ∀ k, k ≠ b → w'.heap[k]? = w.heap[k]? := by
  have hmf : ∀ (fn : Fn) (first cap : Array Value) (w : World), (Instr.makeFunc fn first cap).run Tryz.prog w = .ok (.func fn first cap) w := fun _ _ _ _ => rfl
  have HD : Hid (Calls Tryz.prog 60 #[.pointer (some ⟨b, 0, none⟩), .func (.func 61) #[.pointer (some ⟨b, 0, none⟩)] #[]] w fun e w' => e = .returned (.tuple #[]) ∧ madeT b w w') := do_any b w h
  have hix := step_idx r o hr ho
  have hlt := step_lt r o hr ho
  have HV : Hid (bits BinOp.xor IntKind.i64 (bits BinOp.and IntKind.i64 ((r : Int) * 256) 32767) (M.tabN (r / 128 ^^^ o) : Int) = (M.S8 r o : Int)) := step_val r o hr ho
  have htl := M.tab_lt _ hlt
  clear h
  generalize hk : r / 128 ^^^ o = k at *
  clear hk
  generalize M.S8 r o = z at *
  go_enter Tryz.func36, Tryz.ntmps36
  go_wp2_with (first | (go_at_call 60; refine HD.out.mono ?_; rintro e w1 ⟨rfl, hm⟩; have hcell := hm.tab.cell k hlt; rw [if_pos hlt] at hcell; generalize M.tabN k = y at *))
  go_ret
  exact ⟨ret_int HV.out, hm.q, hm.bel, hm.oth⟩
/-- the bits of the first k places -/
def LB (l : List Nat) (k : Nat) : List Nat := (List.range k).map (lev l)
def octN (l : List Nat) (i : Nat) : Nat := l.getD (i / 8) 0 / 2 ^ (56 - 8 * (i % 8)) % 256
theorem LB_succ (l : List Nat) (k : Nat) : LB l (k + 1) = LB l k ++ [lev l k] := by simp [LB, List.range_succ]
theorem lev_oct (l : List Nat) (i k : Nat) (hk : k < 8) : lev l (8 * i + k) = octN l i / 2 ^ (7 - k) % 2 := by
  unfold lev octN
  have e1 : (8 * i + k) / 64 = i / 8 := by omega
  have e2 : 63 - (8 * i + k) % 64 = (56 - 8 * (i % 8)) + (7 - k) := by omega
  rw [e1, e2, Nat.pow_add, ← Nat.div_div_eq_div_mul]
  generalize l.getD (i / 8) 0 / 2 ^ (56 - 8 * (i % 8)) = y
  have hk' : k = 0 ∨ k = 1 ∨ k = 2 ∨ k = 3 ∨ k = 4 ∨ k = 5 ∨ k = 6 ∨ k = 7 := by omega
  rcases hk' with rfl | rfl | rfl | rfl | rfl | rfl | rfl | rfl <;> simp only [Nat.reduceSub, Nat.reducePow] <;> omega
theorem LB_oct (l : List Nat) (i : Nat) : LB l (8 * (i + 1)) = LB l (8 * i) ++ M.oct (octN l i) := by
  have h := fun k hk => lev_oct l i k hk
  rw [show 8 * (i + 1) = 8 * i + 1 + 1 + 1 + 1 + 1 + 1 + 1 + 1 by omega]
  simp only [LB_succ, List.append_assoc, List.cons_append, List.nil_append, M.oct]
  have h0 := h 0 (by decide); have h1 := h 1 (by decide); have h2 := h 2 (by decide); have h3 := h 3 (by decide)
  have h4 := h 4 (by decide); have h5 := h 5 (by decide); have h6 := h 6 (by decide); have h7 := h 7 (by decide)
  simp only [Nat.reduceSub, Nat.reducePow, Nat.add_zero, Nat.div_one] at h0 h1 h2 h3 h4 h5 h6 h7
  rw [show 8 * i + 1 + 1 = 8 * i + 2 by omega, show 8 * i + 2 + 1 = 8 * i + 3 by omega, show 8 * i + 3 + 1 = 8 * i + 4 by omega, show 8 * i + 4 + 1 = 8 * i + 5 by omega, show 8 * i + 5 + 1 = 8 * i + 6 by omega, show 8 * i + 6 + 1 = 8 * i + 7 by omega]
  rw [h0, h1, h2, h3, h4, h5, h6, h7]
theorem crc_oct (l : List Nat) (i : Nat) : M.crcN (LB l (8 * (i + 1))) = M.S8 (M.crcN (LB l (8 * i))) (octN l i) := by
  rw [LB_oct]
  unfold M.crcN M.S8
  rw [List.foldl_append]
theorem octN_lt (l : List Nat) (i : Nat) : octN l i < 256 := by unfold octN; omega
theorem oct_val (x d : Nat) (hx : x < 18446744073709551616) : wrap64 (bits BinOp.and IntKind.u64 ((x : Int) / 2 ^ d) 255) = ((x / 2 ^ d % 256 : Nat) : Int) := by
  have e : (x : Int) / 2 ^ d = ((x / 2 ^ d : Nat) : Int) := by push_cast; rfl
  have hy : x / 2 ^ d < 18446744073709551616 := Nat.lt_of_le_of_lt (Nat.div_le_self _ _) hx
  rw [e]
  generalize x / 2 ^ d = y at *
  have := u64_and_nat y 255 hy (by decide)
  rw [show ((255 : Nat) : Int) = 255 from rfl] at this
  rw [this, Nat.and_two_pow_sub_one_eq_mod (n := 8)]
  unfold wrap64
  omega
set_option maxHeartbeats 1000000 in
set_option maxRecDepth 20000 in
theorem octetAt_ok (w : World) (N : Int) (a : Option Addr) (n cap : Nat) (l : List Nat) (h : isWords w a n cap l) (i : Nat) (hi : i < 8 * n) (hn : n ≤ 1048576) :
    Calls Tryz.prog 37 #[pkV N a n cap, .int .i64 (i : Int)] w fun o w' => o = .returned (.int .i64 (octN l i : Int)) ∧ w' = w.alloc (pkC N a n cap 27) := by
  have hl : l ≠ [] := by intro e; subst e; have := h.len; simp at this; omega
  obtain ⟨g, off, rfl, hc⟩ := h.cells hl
  have hgz : g < w.heap.size := World.block_lt_of_cell? w _ (hc 0 (by have := List.length_pos_iff.2 hl; omega))
  have hll : i / 8 < l.length := by have := h.len; omega
  have hcx := hc (i / 8) hll
  have hlt : i / 8 < n := by omega
  have hr : i % 8 < 8 := by omega
  have HL : Hid (l.getD (i / 8) 0 = l[i / 8]'hll) := getD_at l _ hll
  have HX0 := h.small _ (List.getElem_mem (l := l) (n := i / 8) hll)
  have hx : Hid (l[i / 8]'(hll) < 18446744073709551616) := HX0
  clear HX0 h hc
  generalize hxx : l[i / 8]'hll = x at *
  have HV : Hid (octN l i = x / 2 ^ (56 - 8 * (i % 8)) % 256) := by unfold Hid octN; rw [HL.out]
  have e3 : (i : Int).tdiv 8 = ((i / 8 : Nat) : Int) := by rw [Int.tdiv_eq_ediv_of_nonneg (by omega)]; omega
  have e4 : (i : Int).tmod 8 = ((i % 8 : Nat) : Int) := by rw [Int.tmod_eq_emod_of_nonneg (by omega)]; omega
  generalize octN l i = L at *
  clear HL
  clear hxx
  clear hll
  generalize i / 8 = q at *
  generalize i % 8 = r at *
  go_enter Tryz.func37, Tryz.ntmps37
  go_wp2
  go_ret
  exact ⟨ret_int (by rw [HV.out, Nat.mul_comm 8 r]; exact oct_val x _ hx.out), rfl⟩
def tabC : Array Value := (Value.int .u32 0 :: Value.int .i32 0 :: Value.int .u32 0 :: List.replicate 256 (Value.int .u16 0)).toArray
set_option maxRecDepth 100000 in
theorem zero_tab : Tryz.zeroCells79 = tabC := by kernel_rfl
theorem tabC_at (j : Nat) (hj : j < 256) : tabC[3 + j]? = some (.int .u16 0) := by
  unfold tabC
  rw [List.getElem?_toArray, show 3 + j = j + 1 + 1 + 1 by omega]
  simp only [List.getElem?_cons_succ]
  rw [List.getElem?_replicate, if_pos hj]
theorem tabC_0 : tabC[0]? = some (.int .u32 0) := by unfold tabC; rw [List.getElem?_toArray]; exact List.getElem?_cons_zero
theorem tabC_1 : tabC[1]? = some (.int .i32 0) := by unfold tabC; rw [List.getElem?_toArray, show (1 : Nat) = 0 + 1 from rfl, List.getElem?_cons_succ]; exact List.getElem?_cons_zero
theorem new_tab (w : World) : tabQ (w.alloc (.cells Tryz.zeroCells79 79)) w.heap.size := by
  rw [zero_tab]
  have hh : (w.alloc (.cells tabC 79)).heap[w.heap.size]? = some (.cells tabC 79) := heap_alloc_new w _
  refine .inl ⟨?_, ?_, ?_, ?_⟩
  · simp only [World.cell?, hh]
    exact tabC_0
  · simp only [World.cell?, hh]
    exact tabC_1
  · intro j hj
    have e : (if j < 1 then M.tabN j else 0 : Nat) = 0 := by
      split
      · rw [show j = 0 by omega]; exact M.tab_zero
      · rfl
    rw [e]
    simp only [World.cell?, hh]
    exact tabC_at j hj
  · intro j
    simp only [World.frozen?, hh]
    simp
theorem tabQ.other {w w' : World} {b : Nat} (h : tabQ w b) (hb : w'.heap[b]? = w.heap[b]?) : tabQ w' b := by
  have hc : ∀ j, w'.cell? ⟨b, j, none⟩ = w.cell? ⟨b, j, none⟩ := fun j => by simp only [World.cell?, hb]
  have hf : ∀ j, w'.frozen? ⟨b, j, none⟩ = w.frozen? ⟨b, j, none⟩ := fun j => by simp only [World.frozen?, hb]
  rcases h with ⟨h0, h1, ht⟩ | ⟨h0, ht⟩
  · exact .inl ⟨(hc 0).trans h0, (hc 1).trans h1, fun j hj => (hc _).trans (ht.cell j hj), fun j => (hf j).trans (ht.free j)⟩
  · exact .inr ⟨(hc 0).trans h0, fun j hj => (hc _).trans (ht.cell j hj), fun j => (hf j).trans (ht.free j)⟩
/-- what stands in the world of CrcPacked's loops: the table's block b, the argument's block p -/
structure crI (w w1 : World) (b : Nat) (N : Int) (a : Option Addr) (n cap : Nat) (W : World) : Prop where
  tab : tabQ W b
  bel : Below b w1 W
  lt : b < W.heap.size
  fst : Below (w.heap.size + 1) (w.alloc (pkC N a n cap 27)) w1
  le : w.heap.size + 1 ≤ b
theorem crI.inn {w w1 : World} {b : Nat} {N : Int} {a : Option Addr} {n cap : Nat} {W : World} (h : crI w w1 b N a n cap W) :
    W.cell? ⟨w.heap.size, 0, none⟩ = some (.int .i64 N) ∧ W.cell? ⟨w.heap.size, 1, none⟩ = some (.slice a n cap) ∧ Below w.heap.size w W := by
  exact pk_in (h.fst.trans (h.bel.mono h.le))
theorem crI.below {w w1 : World} {b : Nat} {N : Int} {a : Option Addr} {n cap : Nat} {W W' : World} (h : crI w w1 b N a n cap W) (hb : Below W.heap.size W W') : crI w w1 b N a n cap W' :=
  ⟨h.tab.other (hb.block b h.lt), h.bel.trans (hb.mono (Nat.le_of_lt h.lt)), Nat.lt_of_lt_of_le h.lt hb.size, h.fst, h.le⟩
theorem crI.step {w w1 : World} {b : Nat} {N : Int} {a : Option Addr} {n cap : Nat} {W W' : World} (h : crI w w1 b N a n cap W) (ht : tabQ W' b) (hb : Below b W W') : crI w w1 b N a n cap W' :=
  ⟨ht, h.bel.trans hb, Nat.lt_of_lt_of_le h.lt hb.size, h.fst, h.le⟩
set_option maxHeartbeats 4000000 in
set_option maxRecDepth 100000 in
theorem crcPacked_ok (w : World) (N : Nat) (a : Option Addr) (n cap : Nat) (l : List Nat) (h : isWords w a n cap l) (hok : okP (N : Int) l = true) (hN : N ≤ 2000) :
    Calls Tryz.prog 9 #[pkV (N : Int) a n cap] w fun o w' => o = .returned (.int .i64 (M.crcN (LB l N) : Int)) ∧ Below w.heap.size w w' := by
  obtain ⟨-, hNl, hll⟩ := okP_parts hok
  have hnl := h.len
  rw [← hnl] at hNl hll
  clear hnl
  have HO : Hid (okP (N : Int) l = true) := hok
  have HH : Hid (isWords w a n cap l) := h
  clear h hok
  have hgt : decide ((2000 : Int) < (N : Int)) = false := by simp; omega
  have e3 : (N : Int).tdiv 8 = ((N / 8 : Nat) : Int) := by rw [Int.tdiv_eq_ediv_of_nonneg (by omega)]; omega
  go_enter Tryz.func9, Tryz.ntmps9
  go_wp2_with fail
  refine (validPacked_any _ (N : Int) a n cap l (HH.out.below ((Below.refl _ _).alloc (Nat.le_refl _) _)) (by omega)).mono ?_
  rintro o w1 ⟨rfl, hb0⟩
  rw [HO.out]
  have hb1 : Below (w.heap.size + 1) (w.alloc (pkC (N : Int) a n cap 27)) w1 := hb0.mono (by simp)
  have st : crI w w1 w1.heap.size (N : Int) a n cap (w1.alloc (.cells Tryz.zeroCells79 79)) := ⟨new_tab w1, (Below.refl _ _).alloc (Nat.le_refl _) _, by simp, hb1, by have := hb1.size; simpa using this⟩
  clear hb0 hb1
  have hNd : decide ((N : Int) < 0) = false := by simp
  go_wp2_with fail
  obtain ⟨c0, c1, hB⟩ := st.inn
  have ST : Hid (crI w w1 w1.heap.size (N : Int) a n cap (w1.alloc (.cells Tryz.zeroCells79 79))) := st
  clear st
  generalize w1.alloc (.cells Tryz.zeroCells79 79) = w2 at *
  generalize w1.heap.size = b at *
  go_quiet (fail)
  have eq8 : (N : Int) / 8 = ((N / 8 : Nat) : Int) := by omega
  rw [eq8]
  have hq1 : 8 * (N / 8) ≤ N := by omega
  have hq2 : N < 8 * (N / 8) + 8 := by omega
  clear eq8 e3
  generalize N / 8 = q at *
  have st := ST.out.below (below_q w2 nq)
  clear ST c0 c1 hB
  generalize w2.drewN nq = w3 at *
  have ST : Hid (crI w w1 b (N : Int) a n cap w3) := st
  clear st
  go_wp2_with fail
  go_loopw [4, 20] (fun r i W => ∃ k : Nat, k ≤ q ∧ i = .int .i64 (k : Int) ∧ r = .int .i64 (M.crcN (LB l (8 * k)) : Int) ∧ crI w w1 b (N : Int) a n cap W) (fun _ i _ => q - (intOf i).toNat)
  case atStart => exact ⟨0, Nat.zero_le _, rfl, rfl, ST.out⟩
  case round =>
    clear ST
    obtain ⟨k, hk, rfl, rfl, st⟩ := hrel
    obtain ⟨c0, c1, hB⟩ := st.inn
    have hr := M.crcN_lt (LB l (8 * k))
    by_cases hkq : k < q
    · have ho := octN_lt l k
      have HS : Hid (M.crcN (LB l (8 * (k + 1))) = M.S8 (M.crcN (LB l (8 * k))) (octN l k)) := crc_oct l k
      have HA : Hid (Calls Tryz.prog 37 #[pkV (N : Int) a n cap, .int .i64 (k : Int)] wr fun o w' => o = .returned (.int .i64 (octN l k : Int)) ∧ crI w w1 b (N : Int) a n cap w') := by
        refine (octetAt_ok wr (N : Int) a n cap l (HH.out.below hB) k (by omega) (by omega)).mono ?_
        rintro o w' ⟨rfl, rfl⟩
        exact ⟨rfl, st.below ((Below.refl _ _).alloc (Nat.le_refl _) _)⟩
      clear st hB
      generalize hx : M.crcN (LB l (8 * k)) = x at *
      clear hx
      generalize octN l k = y at *
      go_wp2_with (first | (go_at_call 37; refine HA.out.mono ?_; rintro o w4 ⟨rfl, st⟩) | (go_at_call 36; refine (step_any b w4 x y st.tab hr ho).mono ?_; rintro o w5 ⟨rfl, t5, b5, -⟩))
      go_roundw
      case rel => exact ⟨k + 1, by omega, by go_num, by rw [HS.out], st.step t5 b5⟩
      case measure => simp [intOf]; omega
    · have hkk : k = q := by omega
      subst hkk
      have ST : Hid (crI w w1 b (N : Int) a n cap wr) := st
      clear st hB c0 c1
      go_wp2_with fail
      go_loopw [4, 7] (fun r i W => ∃ j : Nat, 8 * k ≤ j ∧ j ≤ N ∧ i = .int .i64 (j : Int) ∧ r = .int .i64 (M.crcN (LB l j) : Int) ∧ crI w w1 b (N : Int) a n cap W) (fun _ i _ => N - (intOf i).toNat)
      case atStart => exact ⟨8 * k, Nat.le_refl _, by omega, by go_num, rfl, ST.out⟩
      case round =>
        clear ST hr
        obtain ⟨j, hj1, hj2, rfl, rfl, st⟩ := hrel
        obtain ⟨c0, c1, hB⟩ := st.inn
        have hr := M.crcN_lt (LB l j)
        by_cases hjN : j < N
        · have HS : Hid (M.crcN (LB l (j + 1)) = M.stepN (M.crcN (LB l j)) (lev l j)) := by rw [LB_succ, M.crcN_snoc]; exact rfl
          have HA : Hid (Calls Tryz.prog 29 #[pkV (N : Int) a n cap, .int .i64 (j : Int)] wr fun o w' => o = .returned (.int .i64 (lev l j : Int)) ∧ crI w w1 b (N : Int) a n cap w') := by
            refine (levelAt_ok wr (N : Int) a n cap l (HH.out.below hB) j (by omega) (by omega)).mono ?_
            rintro o w' ⟨rfl, rfl⟩
            exact ⟨rfl, st.below ((Below.refl _ _).alloc (Nat.le_refl _) _)⟩
          clear st hB
          generalize hx : M.crcN (LB l j) = x at *
          clear hx
          generalize lev l j = y at *
          go_wp2_with (first | (go_at_call 29; refine HA.out.mono ?_; rintro o w4 ⟨rfl, st⟩) | (go_at_call 38; refine (crcStep_any x y _ hr).mono ?_; rintro o w5 ⟨rfl, rfl⟩))
          go_roundw
          case rel => exact ⟨j + 1, by omega, by omega, by go_num, by rw [HS.out], st⟩
          case measure => simp [intOf]; omega
        · have hjj : j = N := by omega
          subst hjj
          clear st
          generalize hx : M.crcN (LB l j) = x at *
          have HX : Hid (x = M.crcN (LB l j)) := hx.symm
          clear hx
          go_wp2
          go_ret
          exact ⟨ret_int (by rw [HX.out]), hB⟩
/-- what CrcPacked answers -/
def cpZ (N : Int) (l : List Nat) : Int := if okP N l = true ∧ N ≤ 2000 then (M.crcN (LB l N.toNat) : Int) else -1
theorem okP_nat {N : Int} {l : List Nat} (hok : okP N l = true) : ∃ M : Nat, N = (M : Int) := ⟨N.toNat, by
  simp only [okP, Bool.and_eq_true, decide_eq_true_eq] at hok
  omega⟩
set_option maxHeartbeats 1000000 in
theorem crcPacked_any (w : World) (N : Int) (a : Option Addr) (n cap : Nat) (l : List Nat) (h : isWords w a n cap l) (hn : n ≤ 1048576) :
    Calls Tryz.prog 9 #[pkV N a n cap] w fun o w' => o = .returned (.int .i64 (cpZ N l)) ∧ Below w.heap.size w w' := by
  by_cases h2 : N ≤ 2000
  · cases hok : okP N l
    · have HZ : Hid (cpZ N l = -1) := by unfold Hid cpZ; rw [if_neg (by simp [hok])]
      have HH : Hid (isWords w a n cap l) := h
      have HO : Hid (okP N l = false) := hok
      have hgt : decide ((2000 : Int) < N) = false := by simp; omega
      clear h hok
      go_enter Tryz.func9, Tryz.ntmps9
      go_wp2_with (first | (go_at_call 28; refine (validPacked_any _ N a n cap l (HH.out.below ((Below.refl _ _).alloc (Nat.le_refl _) _)) hn).mono ?_; rintro o w1 ⟨rfl, hb0⟩; rw [HO.out]))
      go_ret
      exact ⟨ret_int HZ.out.symm, ((Below.refl _ _).alloc (Nat.le_refl _) _).trans (hb0.mono (by simp))⟩
    · obtain ⟨K, rfl⟩ := okP_nat hok
      have e : cpZ (K : Int) l = (M.crcN (LB l K) : Int) := by unfold cpZ; rw [if_pos ⟨hok, h2⟩]; rfl
      rw [e]
      exact crcPacked_ok w K a n cap l h hok (by omega)
  · have HZ : Hid (cpZ N l = -1) := by unfold Hid cpZ; rw [if_neg (by intro h; exact h2 h.2)]
    have hgt : decide ((2000 : Int) < N) = true := by simp; omega
    clear h
    go_enter Tryz.func9, Tryz.ntmps9
    go_wp2
    go_ret
    exact ⟨ret_int HZ.out.symm, (Below.refl _ _).alloc (Nat.le_refl _) _⟩
end Go.Proofs.YtpknchjjfiiaeaaGreatDoor
