import Derived.Test.YtihndnclplkleaaHP
namespace Go.Proofs.Ytihndnclplkleaa
open Go.RowKit
theorem setCells_block (b : Nat) (t : TypeId) : ∀ (vs old pre post : List Value) (w : World), old.length = vs.length → w.heap[b]? = some (.cells (pre ++ old ++ post).toArray t (0, 0)) → (w.setCells b pre.length vs).heap[b]? = some (.cells (pre ++ vs ++ post).toArray t (0, 0)) := by
  intro vs
  induction vs with
  | nil =>
    intro old pre post w hl h
    have : old = [] := List.length_eq_zero_iff.1 hl
    subst this
    exact h
  | cons v vs ih =>
    intro old pre post w hl h
    match old, hl with
    | o :: old', hl =>
      have h1 := heap_setCell_same w b pre.length _ _ v h
      have e : (pre ++ o :: old' ++ post).toArray.setIfInBounds pre.length v = ((pre ++ [v]) ++ old' ++ post).toArray := by simp
      have h2 := ih old' (pre ++ [v]) post (w.setCell ⟨b, pre.length, none⟩ v) (by simpa using hl) (by rw [← e]; exact h1)
      rw [List.length_append, List.length_singleton] at h2
      rw [List.append_assoc pre [v] vs] at h2
      exact h2
theorem range_block {w : World} {b : Nat} {l : List Value} {t : TypeId} {fr : Nat × Nat} (h : w.heap[b]? = some (.cells l.toArray t fr)) : w.rangeAt b 0 l := fun j v hv => by
  simp [World.cell?, h, hv]
theorem there_block {w : World} {b : Nat} {l : List Value} {t : TypeId} (h : w.heap[b]? = some (.cells l.toArray t (0, 0))) (o n : Nat) (ho : o + n ≤ l.length) : w.there b o n := fun j hj => by
  refine ⟨?_, ?_⟩
  · have : o + j < l.length := by omega
    simp [World.cell?, h, this]
  · simp [World.frozen?, h]
theorem setCells_other (b k : Nat) (hk : k ≠ b) (vs : List Value) (w : World) (o : Nat) : (w.setCells b o vs).heap[k]? = w.heap[k]? := by
  rw [setCells_row]; exact setRow_block b k hk vs w o
theorem St.setCells {B : Nat} {w : World} {p : World → Prop} (h : St B w p) (b o : Nat) (hb : b < B) (vs : List Value) : St B (w.setCells b o vs) p := fun W hW => h W fun k h1 h2 => (hW k h1 (by rw [setCells_row, setRow_size]; exact h2)).trans (setCells_other b k (by omega) vs w o)
theorem sz41 : (Try.prog.info? 41).map (·.size) = some 10 := by kernel_rfl
theorem sz61 : (Try.prog.info? 61).map (·.size) = some 21 := by kernel_rfl
theorem one10 (c0 c1 c2 c3 : Int) (b1 : Option Addr) (m1 l1 : Nat) (b2 : Option Addr) (m2 l2 : Nat) (b3 : Option Addr) (m3 l3 : Nat) (b4 : Option Addr) (m4 l4 : Nat) (lo st : Int) : (#[.int .i64 c0, .int .i64 c1, .int .i64 c2, .int .i64 c3, .slice b1 m1 l1, .slice b2 m2 l2, .slice b3 m3 l3, .slice b4 m4 l4, .int .i64 lo, .int .i64 st] : Array Value).all (·.oneCell') = true :=
  all_oneCell_toArray (by simp [Value.oneCell'])
theorem one21 (p ct lv : Int) (wk ov ow tx ak : Bool) (rn te re c0 c1 c2 c3 : Int) (b1 : Option Addr) (m1 l1 : Nat) (b2 : Option Addr) (m2 l2 : Nat) (b3 : Option Addr) (m3 l3 : Nat) (b4 : Option Addr) (m4 l4 : Nat) (lo st : Int) : (#[.int .i64 p, .int .i64 ct, .int .i64 lv, .bool wk, .bool ov, .bool ow, .bool tx, .bool ak, .int .i64 rn, .int .i64 te, .int .i64 re, .int .i64 c0, .int .i64 c1, .int .i64 c2, .int .i64 c3, .slice b1 m1 l1, .slice b2 m2 l2, .slice b3 m3 l3, .slice b4 m4 l4, .int .i64 lo, .int .i64 st] : Array Value).all (·.oneCell') = true :=
  all_oneCell_toArray (by simp [Value.oneCell'])
theorem heap_two (w : World) (C A B : Obj) : (((w.alloc C).alloc A).alloc B).heap[w.heap.size + 1]? = some A := by
  rw [Below.heap_alloc _ _ _ (by simp)]
  have := heap_alloc_new (w.alloc C) A
  simpa using this
theorem heap_three (w : World) (C A B : Obj) : (((w.alloc C).alloc A).alloc B).heap[w.heap.size + 1 + 1]? = some B := by
  have := heap_alloc_new ((w.alloc C).alloc A) B
  simpa using this
theorem core_a {p ct lv : Int} {wk ov ow tx ak : Bool} {rn te re c0 c1 c2 c3 : Int} {b1 : Option Addr} {m1 l1 : Nat} {b2 : Option Addr} {m2 l2 : Nat} {b3 : Option Addr} {m3 l3 : Nat} {b4 : Option Addr} {m4 l4 : Nat} {lo st : Int} {w2 w3 : World} {b : Nat} (h : w2.heap[b]? = some (.cells [.int .i64 p, .int .i64 ct, .int .i64 lv, .bool wk, .bool ov, .bool ow, .bool tx, .bool ak, .int .i64 rn, .int .i64 te, .int .i64 re, .int .i64 0, .int .i64 0, .int .i64 0, .int .i64 0, .slice none 0 0, .slice none 0 0, .slice none 0 0, .slice none 0 0, .int .i64 0, .int .i64 0].toArray 61)) (e : World.setCells w2 b 11 [.int .i64 c0, .int .i64 c1, .int .i64 c2, .int .i64 c3, .slice b1 m1 l1, .slice b2 m2 l2, .slice b3 m3 l3, .slice b4 m4 l4, .int .i64 lo, .int .i64 st] = w3) : w3.heap[b]? = some (.cells [.int .i64 p, .int .i64 ct, .int .i64 lv, .bool wk, .bool ov, .bool ow, .bool tx, .bool ak, .int .i64 rn, .int .i64 te, .int .i64 re, .int .i64 c0, .int .i64 c1, .int .i64 c2, .int .i64 c3, .slice b1 m1 l1, .slice b2 m2 l2, .slice b3 m3 l3, .slice b4 m4 l4, .int .i64 lo, .int .i64 st].toArray 61) := by
  subst e
  exact setCells_block b 61 [.int .i64 c0, .int .i64 c1, .int .i64 c2, .int .i64 c3, .slice b1 m1 l1, .slice b2 m2 l2, .slice b3 m3 l3, .slice b4 m4 l4, .int .i64 lo, .int .i64 st] [.int .i64 0, .int .i64 0, .int .i64 0, .int .i64 0, .slice none 0 0, .slice none 0 0, .slice none 0 0, .slice none 0 0, .int .i64 0, .int .i64 0] [.int .i64 p, .int .i64 ct, .int .i64 lv, .bool wk, .bool ov, .bool ow, .bool tx, .bool ak, .int .i64 rn, .int .i64 te, .int .i64 re] [] w2 rfl h
theorem core_r {w2 w3 : World} {b b' : Nat} {l : Array Value} {vs : List Value} {o : Nat} (h : w2.heap[b]? = some (.cells l 61)) (e : World.setCells w2 b' o vs = w3) (hb : b ≠ b' := by omega) : w3.heap[b]? = some (.cells l 61) := by
  subst e
  exact (setCells_other b' b hb vs w2 o).trans h
theorem core_f {p ct lv : Int} {wk ov ow tx ak : Bool} {rn te re c0 c1 c2 c3 : Int} {b1 : Option Addr} {m1 l1 : Nat} {b2 : Option Addr} {m2 l2 : Nat} {b3 : Option Addr} {m3 l3 : Nat} {b4 : Option Addr} {m4 l4 : Nat} {lo st : Int} {w3 w4 : World} {b : Nat} (h : w3.heap[b]? = some (.cells [.int .i64 0, .int .i64 0, .int .i64 0, .bool false, .bool false, .bool false, .bool false, .bool false, .int .i64 0, .int .i64 0, .int .i64 0, .int .i64 0, .int .i64 0, .int .i64 0, .int .i64 0, .slice none 0 0, .slice none 0 0, .slice none 0 0, .slice none 0 0, .int .i64 0, .int .i64 0].toArray 61)) (e : World.setCells w3 b 0 [.int .i64 p, .int .i64 ct, .int .i64 lv, .bool wk, .bool ov, .bool ow, .bool tx, .bool ak, .int .i64 rn, .int .i64 te, .int .i64 re, .int .i64 c0, .int .i64 c1, .int .i64 c2, .int .i64 c3, .slice b1 m1 l1, .slice b2 m2 l2, .slice b3 m3 l3, .slice b4 m4 l4, .int .i64 lo, .int .i64 st] = w4) : w4.heap[b]? = some (.cells [.int .i64 p, .int .i64 ct, .int .i64 lv, .bool wk, .bool ov, .bool ow, .bool tx, .bool ak, .int .i64 rn, .int .i64 te, .int .i64 re, .int .i64 c0, .int .i64 c1, .int .i64 c2, .int .i64 c3, .slice b1 m1 l1, .slice b2 m2 l2, .slice b3 m3 l3, .slice b4 m4 l4, .int .i64 lo, .int .i64 st].toArray 61) := by
  subst e
  exact setCells_block b 61 [.int .i64 p, .int .i64 ct, .int .i64 lv, .bool wk, .bool ov, .bool ow, .bool tx, .bool ak, .int .i64 rn, .int .i64 te, .int .i64 re, .int .i64 c0, .int .i64 c1, .int .i64 c2, .int .i64 c3, .slice b1 m1 l1, .slice b2 m2 l2, .slice b3 m3 l3, .slice b4 m4 l4, .int .i64 lo, .int .i64 st] [.int .i64 0, .int .i64 0, .int .i64 0, .bool false, .bool false, .bool false, .bool false, .bool false, .int .i64 0, .int .i64 0, .int .i64 0, .int .i64 0, .int .i64 0, .int .i64 0, .int .i64 0, .slice none 0 0, .slice none 0 0, .slice none 0 0, .slice none 0 0, .int .i64 0, .int .i64 0] [] [] w3 rfl h
theorem results_mem23 (tmps : Array Value) (w : World) (b : Nat) (V : Value) (h2 : tmps.getD 2 undef = .pointer (some ⟨b, 0, none⟩)) (hL : (loadVar 61 ⟨b, 0, none⟩).run Try.prog w = .ok V w) : (results Try.f23 tmps).run Try.prog w = .ok V w := by
  simp only [Array.getD_eq_getD_getElem?] at h2
  simp [results, Try.results23, h2, asAddr, hL]
set_option maxHeartbeats 8000000 in
set_option maxRecDepth 40000 in
theorem toCore_any (w : World) (C : Co) (s : Sl) (h : isHo w C.ho s) (hn : C.ho.le 1048576) :
    Calls Try.prog 23 #[coV C s] w fun o w' => ∃ s', o = .returned (coV C s') ∧ St w.heap.size w' (fun W => isHo W C.ho s') ∧ Below w.heap.size w w' := by
  have HC : Hid (∀ X, Below w.heap.size w X → w.heap.size + 3 ≤ X.heap.size → Calls Try.prog 58 #[hoV C.ho s] X fun o w' => ∃ s', o = .returned (hoV C.ho s') ∧ St (w.heap.size + 3) w' (fun W => isHo W C.ho s') ∧ Below w.heap.size w w' ∧ Below X.heap.size X w') := by
    intro X hX hz
    refine (toHost_any X C.ho s (h.below hX) hn).mono ?_
    rintro o w' ⟨s', rfl, h1, h2⟩
    exact ⟨s', rfl, h1.mono hz, hX.trans (h2.mono hX.size), h2⟩
  clear h hn
  obtain ⟨p, ct, lv, wk, ov, ow, tx, ak, rn, te, re, ⟨c0, c1, c2, c3, fs, bx, ff, qu, lo, st⟩⟩ := C
  obtain ⟨a1, n1, k1, a2, n2, k2, a3, n3, k3, a4, n4, k4⟩ := s
  go_enter Try.func23, Try.ntmps23
  go_wp2_with (first | (go_at_call 58; refine (HC.out _ (by (repeat refine Below.setCell ?_ (by simp; try omega) _); exact (((Below.refl _ _).alloc (Nat.le_refl _) _).alloc (by simp) _).alloc (by simp; omega) _) (by simp)).mono ?_; rintro o w2 ⟨⟨b1, m1, l1, b2, m2, l2, b3, m3, l3, b4, m4, l4⟩, rfl, S2, B2, K2⟩; have HO2 : Hid (w2.heap[w.heap.size + 1 + 1]? = some (.cells [.int .i64 p, .int .i64 ct, .int .i64 lv, .bool wk, .bool ov, .bool ow, .bool tx, .bool ak, .int .i64 rn, .int .i64 te, .int .i64 re, .int .i64 0, .int .i64 0, .int .i64 0, .int .i64 0, .slice none 0 0, .slice none 0 0, .slice none 0 0, .slice none 0 0, .int .i64 0, .int .i64 0].toArray 61)) := (K2.block (w.heap.size + 1 + 1) (by simp)).trans (heap_three w _ _ _); have HR2 : Hid (w2.heap[w.heap.size + 1]? = some (.cells [.int .i64 0, .int .i64 0, .int .i64 0, .bool false, .bool false, .bool false, .bool false, .bool false, .int .i64 0, .int .i64 0, .int .i64 0, .int .i64 0, .int .i64 0, .int .i64 0, .int .i64 0, .slice none 0 0, .slice none 0 0, .slice none 0 0, .slice none 0 0, .int .i64 0, .int .i64 0].toArray 61)) := (K2.block (w.heap.size + 1) (by simp)).trans (heap_two w _ _ _); have HS : Hid _ := S2; have HB : Hid _ := B2; clear S2 B2 K2) | (refine wpList_store_mid (P := Try.prog) rfl 41 (.tmp 40) (.tmp 39) rfl (w.heap.size + 1 + 1) 11 #[.int .i64 c0, .int .i64 c1, .int .i64 c2, .int .i64 c3, .slice b1 m1 l1, .slice b2 m2 l2, .slice b3 m3 l3, .slice b4 m4 l4, .int .i64 lo, .int .i64 st] rfl rfl (there_block HO2.out 11 10 (by simp)) sz41 (one10 _ _ _ _ _ _ _ _ _ _ _ _ _ _ _ _ _ _) ?_; generalize hW3 : World.setCells w2 (w.heap.size + 1 + 1) 11 _ = w3; have HW3 : Hid (World.setCells w2 (w.heap.size + 1 + 1) 11 [.int .i64 c0, .int .i64 c1, .int .i64 c2, .int .i64 c3, .slice b1 m1 l1, .slice b2 m2 l2, .slice b3 m3 l3, .slice b4 m4 l4, .int .i64 lo, .int .i64 st] = w3) := hW3; clear hW3) | (refine wpList_load_mid (P := Try.prog) rfl 61 (.tmp 3) rfl (w.heap.size + 1 + 1) 0 rfl [.int .i64 p, .int .i64 ct, .int .i64 lv, .bool wk, .bool ov, .bool ow, .bool tx, .bool ak, .int .i64 rn, .int .i64 te, .int .i64 re, .int .i64 c0, .int .i64 c1, .int .i64 c2, .int .i64 c3, .slice b1 m1 l1, .slice b2 m2 l2, .slice b3 m3 l3, .slice b4 m4 l4, .int .i64 lo, .int .i64 st] _ (range_block (core_a HO2.out HW3.out)) Try.underlying61 rfl sz61 ?_) | (refine wpList_store_mid (P := Try.prog) rfl 61 (.tmp 2) (.tmp 41) rfl (w.heap.size + 1) 0 #[.int .i64 p, .int .i64 ct, .int .i64 lv, .bool wk, .bool ov, .bool ow, .bool tx, .bool ak, .int .i64 rn, .int .i64 te, .int .i64 re, .int .i64 c0, .int .i64 c1, .int .i64 c2, .int .i64 c3, .slice b1 m1 l1, .slice b2 m2 l2, .slice b3 m3 l3, .slice b4 m4 l4, .int .i64 lo, .int .i64 st] rfl rfl (there_block (core_r HR2.out HW3.out) 0 21 (by simp)) sz61 (one21 _ _ _ _ _ _ _ _ _ _ _ _ _ _ _ _ _ _ _ _ _ _ _ _ _ _ _ _ _) ?_; generalize hW4 : World.setCells w3 (w.heap.size + 1) 0 _ = w4; have HW4 : Hid (World.setCells w3 (w.heap.size + 1) 0 [.int .i64 p, .int .i64 ct, .int .i64 lv, .bool wk, .bool ov, .bool ow, .bool tx, .bool ak, .int .i64 rn, .int .i64 te, .int .i64 re, .int .i64 c0, .int .i64 c1, .int .i64 c2, .int .i64 c3, .slice b1 m1 l1, .slice b2 m2 l2, .slice b3 m3 l3, .slice b4 m4 l4, .int .i64 lo, .int .i64 st] = w4) := hW4; clear hW4))
  have hF := core_f (core_r HR2.out HW3.out) HW4.out
  have hL := run_loadVar_mid (P := Try.prog) w4 (w.heap.size + 1) 0 61 [.int .i64 p, .int .i64 ct, .int .i64 lv, .bool wk, .bool ov, .bool ow, .bool tx, .bool ak, .int .i64 rn, .int .i64 te, .int .i64 re, .int .i64 c0, .int .i64 c1, .int .i64 c2, .int .i64 c3, .slice b1 m1 l1, .slice b2 m2 l2, .slice b3 m3 l3, .slice b4 m4 l4, .int .i64 lo, .int .i64 st] _ (range_block hF) Try.underlying61 rfl sz61
  refine bodyPost_ret (v := coV ⟨p, ct, lv, wk, ov, ow, tx, ak, rn, te, re, ⟨c0, c1, c2, c3, fs, bx, ff, qu, lo, st⟩⟩ ⟨b1, m1, l1, b2, m2, l2, b3, m3, l3, b4, m4, l4⟩) (results_mem23 _ w4 (w.heap.size + 1) _ rfl hL) rfl ?_
  have T : St (w.heap.size + 3) w2 (fun W => isHo W ⟨c0, c1, c2, c3, fs, bx, ff, qu, lo, st⟩ ⟨b1, m1, l1, b2, m2, l2, b3, m3, l3, b4, m4, l4⟩) := HS.out
  have e3 := HW3.out
  have e4 := HW4.out
  subst e3
  subst e4
  refine ⟨_, rfl, St.mono ((T.setCells _ 11 (by omega) _).setCells _ 0 (by omega) _) (Nat.le_add_right _ 3), ?_⟩
  rw [setCells_row, setCells_row]
  exact setRow_below _ _ (by omega) w _ _ _ (setRow_below _ _ (by omega) w _ _ _ HB.out)
end Go.Proofs.Ytihndnclplkleaa
