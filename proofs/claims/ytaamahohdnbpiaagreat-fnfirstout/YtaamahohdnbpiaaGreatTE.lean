import Derived.Test.YtaamahohdnbpiaaGreatG37
namespace Go.Proofs.YtaamahohdnbpiaaGreat
open Go.RowKit
set_option linter.unusedVariables false
def wpOut (w : World) (o : Ending) (w' : World) : Prop :=
  ∃ (e1 : Bool) (i1 : Nat) (r1 : Bool) (d1 : Int) (ao1 : Option Addr) (cp1 : Nat) (l1 : List Nat) (e2 : Bool) (i2 : Nat) (r2 : Bool) (d2 : Int) (ao2 : Option Addr) (cp2 : Nat) (l2 : List Nat),
    o = .returned (.tuple #[frV e1 i1 r1 d1 ao1 l1.length cp1, frV e2 i2 r2 d2 ao2 l2.length cp2]) ∧ validB e1 i1 r1 d1 l1.length = true ∧ validB e2 i2 r2 d2 l2.length = true ∧ isBytes w' ao1 l1.length cp1 l1 ∧ isBytes w' ao2 l2.length cp2 l2 ∧ Below w.heap.size w w'
theorem wpOut.mk {w w' : World} (e1 : Bool) (i1 : Nat) (r1 : Bool) (d1 : Int) (ao1 : Option Addr) (cp1 : Nat) (l1 : List Nat) (e2 : Bool) (i2 : Nat) (r2 : Bool) (d2 : Int) (ao2 : Option Addr) (cp2 : Nat) (l2 : List Nat) (h1 : validB e1 i1 r1 d1 l1.length = true) (h2 : validB e2 i2 r2 d2 l2.length = true) (h3 : isBytes w' ao1 l1.length cp1 l1 ∧ isBytes w' ao2 l2.length cp2 l2 ∧ Below w.heap.size w w') :
    wpOut w (.returned (.tuple #[frV e1 i1 r1 d1 ao1 l1.length cp1, frV e2 i2 r2 d2 ao2 l2.length cp2])) w' := ⟨e1, i1, r1, d1, ao1, cp1, l1, e2, i2, r2, d2, ao2, cp2, l2, rfl, h1, h2, h3.1, h3.2.1, h3.2.2⟩
theorem wpI.start {w w1 w2 : World} {e1 : Bool} {i1 : Nat} {r1 : Bool} {d1 : Int} {ao1 : Option Addr} {n1 cp1 : Nat} {l1 : List Nat} {e2 : Bool} {i2 : Nat} {r2 : Bool} {d2 : Int} {ao2 : Option Addr} {n2 cp2 : Nat} {l2 : List Nat}
    (hb1 : Below ((w.alloc (.cells #[.bool false, .int .u32 0, .bool false, .int .i64 0, .slice none 0 0] 25)).alloc (.cells #[.bool false, .int .u32 0, .bool false, .int .i64 0, .slice none 0 0] 25)).heap.size ((w.alloc (.cells #[.bool false, .int .u32 0, .bool false, .int .i64 0, .slice none 0 0] 25)).alloc (.cells #[.bool false, .int .u32 0, .bool false, .int .i64 0, .slice none 0 0] 25)) w1) (hy1 : isBytes w1 ao1 n1 cp1 l1)
    (hb2 : Below (w1.alloc (.cells #[.bool e1, .int .u32 (i1 : Int), .bool r1, .int .i64 d1, .slice ao1 n1 cp1] 25)).heap.size (w1.alloc (.cells #[.bool e1, .int .u32 (i1 : Int), .bool r1, .int .i64 d1, .slice ao1 n1 cp1] 25)) w2) (hy2 : isBytes w2 ao2 n2 cp2 l2) :
    wpI w w1.heap.size w2.heap.size w.heap.size (w.heap.size + 1) e1 i1 r1 d1 ao1 n1 cp1 l1 e2 i2 r2 d2 ao2 n2 cp2 l2 (w2.alloc (.cells #[.bool e2, .int .u32 (i2 : Int), .bool r2, .int .i64 d2, .slice ao2 n2 cp2] 25)) := by
  have z0 : (w.alloc (.cells #[.bool false, .int .u32 0, .bool false, .int .i64 0, .slice none 0 0] 25)).heap.size = w.heap.size + 1 := by simp
  have z00 : ((w.alloc (.cells #[.bool false, .int .u32 0, .bool false, .int .i64 0, .slice none 0 0] 25)).alloc (.cells #[.bool false, .int .u32 0, .bool false, .int .i64 0, .slice none 0 0] 25)).heap.size = w.heap.size + 2 := by simp
  have z1 := hb1.size
  have z2 := hb2.size
  have z3 : (w1.alloc (.cells #[.bool e1, .int .u32 (i1 : Int), .bool r1, .int .i64 d1, .slice ao1 n1 cp1] 25)).heap.size = w1.heap.size + 1 := by simp
  have r10 : frB ((w.alloc (.cells #[.bool false, .int .u32 0, .bool false, .int .i64 0, .slice none 0 0] 25)).alloc (.cells #[.bool false, .int .u32 0, .bool false, .int .i64 0, .slice none 0 0] 25)) w.heap.size false 0 false 0 (.slice none 0 0) := (Below.heap_alloc _ _ _ (by omega)).trans (heap_alloc_new w _)
  have r20 : frB ((w.alloc (.cells #[.bool false, .int .u32 0, .bool false, .int .i64 0, .slice none 0 0] 25)).alloc (.cells #[.bool false, .int .u32 0, .bool false, .int .i64 0, .slice none 0 0] 25)) (w.heap.size + 1) false 0 false 0 (.slice none 0 0) := by
    have := heap_alloc_new (w.alloc (.cells #[.bool false, .int .u32 0, .bool false, .int .i64 0, .slice none 0 0] 25)) (.cells #[.bool false, .int .u32 0, .bool false, .int .i64 0, .slice none 0 0] 25)
    rw [z0] at this
    exact this
  have hA1 : Below w1.heap.size w1 (w1.alloc (.cells #[.bool e1, .int .u32 (i1 : Int), .bool r1, .int .i64 d1, .slice ao1 n1 cp1] 25)) := (Below.refl _ _).alloc (Nat.le_refl _) _
  have hA2 : Below w2.heap.size w2 (w2.alloc (.cells #[.bool e2, .int .u32 (i2 : Int), .bool r2, .int .i64 d2, .slice ao2 n2 cp2] 25)) := (Below.refl _ _).alloc (Nat.le_refl _) _
  have t1 : Below w1.heap.size w1 w2 := hA1.trans (hb2.mono (by omega))
  have t2 : Below w1.heap.size w1 (w2.alloc (.cells #[.bool e2, .int .u32 (i2 : Int), .bool r2, .int .i64 d2, .slice ao2 n2 cp2] 25)) := t1.trans (hA2.mono (by omega))
  have t3 : Below (w.heap.size + 2) ((w.alloc (.cells #[.bool false, .int .u32 0, .bool false, .int .i64 0, .slice none 0 0] 25)).alloc (.cells #[.bool false, .int .u32 0, .bool false, .int .i64 0, .slice none 0 0] 25)) (w2.alloc (.cells #[.bool e2, .int .u32 (i2 : Int), .bool r2, .int .i64 d2, .slice ao2 n2 cp2] 25)) := by
    have := hb1.trans (t2.mono z1)
    rw [z00] at this
    exact this
  have f1 : frB (w1.alloc (.cells #[.bool e1, .int .u32 (i1 : Int), .bool r1, .int .i64 d1, .slice ao1 n1 cp1] 25)) w1.heap.size e1 i1 r1 d1 (.slice ao1 n1 cp1) := heap_alloc_new w1 _
  refine ⟨(hA2.block _ (by omega)).trans ((hb2.block _ (by omega)).trans f1), hy1.below t2, heap_alloc_new w2 _, hy2.below hA2, (t3.block _ (by omega)).trans r10, (t3.block _ (by omega)).trans r20, ?_, ⟨by omega, by omega, by omega, by omega, by omega, by omega, by omega, by omega, by omega, by omega⟩⟩
  exact ((((Below.refl w.heap.size w).alloc (Nat.le_refl _) _).alloc (by simp) _).trans (t3.mono (by omega)))
theorem valid_base (x : Nat) (r : Bool) (h : x < 2048) : validB false x r 0 ([] : List Nat).length = true := by
  unfold validB dl
  cases r <;> simp [h]
theorem valid_ext (x : Nat) (r : Bool) (h : x < 536870912) : validB true x r 0 ([] : List Nat).length = true := by
  unfold validB dl
  cases r <;> simp [h]
theorem valid_id {e : Bool} {i : Nat} {r : Bool} {d : Int} {n : Nat} (h : validB e i r d n = true) : (e = true → i < 536870912) ∧ (e = false → i < 2048) := by
  unfold validB at h
  cases e
  · simp at h; exact ⟨fun e => (by cases e), fun _ => h.1.1.1⟩
  · simp at h; exact ⟨fun _ => h.1.1.1, fun e => (by cases e)⟩
theorem valid_any0 (e : Bool) (x : Nat) (r : Bool) (h1 : e = true → x < 536870912) (h2 : e = false → x < 2048) : validB e x r 0 ([] : List Nat).length = true := by
  cases e
  · exact valid_base x r (h2 rfl)
  · exact valid_ext x r (h1 rfl)
theorem wpI.finD {w0 : World} {F G R1 R2 : Nat} {e1 : Bool} {i1 : Nat} {r1 : Bool} {d1 : Int} {ao1 : Option Addr} {n1 cp1 : Nat} {l1 : List Nat} {e2 : Bool} {i2 : Nat} {r2 : Bool} {d2 : Int} {ao2 : Option Addr} {n2 cp2 : Nat} {l2 : List Nat} {W : World} (h : wpI w0 F G R1 R2 e1 i1 r1 d1 ao1 n1 cp1 l1 e2 i2 r2 d2 ao2 n2 cp2 l2 W) :
    isBytes (setF (setF W R1 e1 i1 r1 d1 (.slice ao1 n1 cp1)) R2 e2 i2 r2 d2 (.slice ao2 n2 cp2)).drew ao1 n1 cp1 l1 ∧ isBytes (setF (setF W R1 e1 i1 r1 d1 (.slice ao1 n1 cp1)) R2 e2 i2 r2 d2 (.slice ao2 n2 cp2)).drew ao2 n2 cp2 l2 ∧ Below w0.heap.size w0 (setF (setF W R1 e1 i1 r1 d1 (.slice ao1 n1 cp1)) R2 e2 i2 r2 d2 (.slice ao2 n2 cp2)).drew :=
  ⟨h.fin.1.below (Below.refl _ _).drew, h.fin.2.1.below (Below.refl _ _).drew, h.fin.2.2.drew⟩
theorem xor_val (fi t : Nat) (hfi : fi < 4294967296) : bits BinOp.xor IntKind.u32 (fi : Int) (IntKind.u32.wrap (2 ^ min (IntKind.u64.wrap ((t : Int).tmod 11)).toNat 32)) = ((fi ^^^ 2 ^ (t % 11) : Nat) : Int) := by
  have h1 : (t : Int).tmod 11 = ((t % 11 : Nat) : Int) := by rw [Int.tmod_eq_emod_of_nonneg (by omega)]; omega
  have h2 : IntKind.u64.wrap ((t % 11 : Nat) : Int) = ((t % 11 : Nat) : Int) := by simp [IntKind.wrap, IntKind.bits, IntKind.signed]; omega
  rw [h1, h2, Int.toNat_natCast, Nat.min_eq_left (by omega)]
  have h3 : t % 11 < 11 := Nat.mod_lt _ (by decide)
  generalize t % 11 = k at *
  have h4 : 2 ^ k ≤ 1024 := Nat.le_trans (Nat.pow_le_pow_right (by decide) (show k ≤ 10 by omega)) (by decide)
  have h5 : ∀ q : Nat, q ≤ 1024 → IntKind.u32.wrap (q : Int) = (q : Int) := by
    intro q hq
    simp [IntKind.wrap, IntKind.bits, IntKind.signed]
    omega
  have e : ((2 : Int) ^ k) = ((2 ^ k : Nat) : Int) := by push_cast; rfl
  rw [e, h5 _ h4, u32_xor_nat fi (2 ^ k) hfi (by omega)]
theorem valid_u32 {e : Bool} {i : Nat} {r : Bool} {d : Int} {n : Nat} (h : validB e i r d n = true) : i < 4294967296 := by
  have h := valid_id h
  cases e
  · have := h.2 rfl; omega
  · have := h.1 rfl; omega
theorem xor_lt (fi t m : Nat) (hfi : fi < 2 ^ m) (hm : 11 ≤ m) : fi ^^^ 2 ^ (t % 11) < 2 ^ m := by
  have h3 : t % 11 < 11 := Nat.mod_lt _ (by decide)
  exact Nat.xor_lt_two_pow hfi (Nat.pow_lt_pow_right (by decide) (by omega))
theorem xor_valid {e : Bool} {i : Nat} {r : Bool} {d : Int} {n : Nat} (h : validB e i r d n = true) (r' : Bool) (t : Nat) : validB e (i ^^^ 2 ^ (t % 11)) r' 0 ([] : List Nat).length = true := by
  have h := valid_id h
  refine valid_any0 e _ r' (fun he => ?_) (fun he => ?_)
  · exact xor_lt i t 29 (h.1 he) (by decide)
  · exact xor_lt i t 11 (h.2 he) (by decide)
theorem wp_S3 {w0 : World} {F G R1 R2 : Nat} {e1 : Bool} {i1 : Nat} {r1 : Bool} {d1 : Int} {ao1 : Option Addr} {n1 cp1 : Nat} {l1 : List Nat} {e2 : Bool} {i2 : Nat} {r2 : Bool} {d2 : Int} {ao2 : Option Addr} {n2 cp2 : Nat} {l2 : List Nat} {W : World} (h : wpI w0 F G R1 R2 e1 i1 r1 d1 ao1 n1 cp1 l1 e2 i2 r2 d2 ao2 n2 cp2 l2 W) :
    W.cell? ⟨F, 0, none⟩ = some (.bool e1) ∧ W.cell? ⟨F, 1, none⟩ = some (.int .u32 (i1 : Int)) ∧ W.cell? ⟨F, 2, none⟩ = some (.bool r1) := ⟨h.f.cells.1, h.f.cells.2.1, h.f.cells.2.2.1⟩
set_option maxHeartbeats 8000000 in
set_option maxRecDepth 20000 in
theorem wPair_any (w : World) (a : Option Addr) (n cap : Nat) (l : List Nat) (b : Option Addr) (m cpm : Nat) (lm : List Nat) (h : isBytes w a n cap l) (hn : n ≤ 1048576) (h' : isBytes w b m cpm lm) (hm : m ≤ 1048576) :
    Calls Tryz.prog 13 #[.slice a n cap, .slice b m cpm] w fun o w' => wpOut w o w' := by
  have hA : Below w.heap.size w ((w.alloc (.cells #[.bool false, .int .u32 0, .bool false, .int .i64 0, .slice none 0 0] 25)).alloc (.cells #[.bool false, .int .u32 0, .bool false, .int .i64 0, .slice none 0 0] 25)) := ((Below.refl w.heap.size w).alloc (Nat.le_refl _) _).alloc (by simp) _
  have H : Hid (isBytes w a n cap l ∧ n ≤ 1048576 ∧ isBytes w b m cpm lm ∧ m ≤ 1048576) := ⟨h, hn, h', hm⟩
  have HA : Hid (isBytes ((w.alloc (.cells #[.bool false, .int .u32 0, .bool false, .int .i64 0, .slice none 0 0] 25)).alloc (.cells #[.bool false, .int .u32 0, .bool false, .int .i64 0, .slice none 0 0] 25)) a n cap l ∧ isBytes ((w.alloc (.cells #[.bool false, .int .u32 0, .bool false, .int .i64 0, .slice none 0 0] 25)).alloc (.cells #[.bool false, .int .u32 0, .bool false, .int .i64 0, .slice none 0 0] 25)) b m cpm lm) := ⟨h.below hA, h'.below hA⟩
  clear h hn h' hm hA
  go_enter Tryz.func13, Tryz.ntmps13
  go_wp2_with fail
  refine (drawArb_any _ a n cap l HA.out.1 H.out.2.1).mono ?_
  rintro o w1 ⟨e1, i1, r1, d1, ao1, cp1, l1, rfl, hi1, hd1, hl1, hy1, hb1⟩
  have HA1 : Hid (isBytes (w1.alloc (.cells #[.bool e1, .int .u32 (i1 : Int), .bool r1, .int .i64 d1, .slice ao1 l1.length cp1] 25)) b m cpm lm) := (HA.out.2.below hb1).below ((Below.refl _ _).alloc (Nat.le_refl _) _)
  have HH1 : Hid (isBytes w1 ao1 l1.length cp1 l1 ∧ Below ((w.alloc (.cells #[.bool false, .int .u32 0, .bool false, .int .i64 0, .slice none 0 0] 25)).alloc (.cells #[.bool false, .int .u32 0, .bool false, .int .i64 0, .slice none 0 0] 25)).heap.size ((w.alloc (.cells #[.bool false, .int .u32 0, .bool false, .int .i64 0, .slice none 0 0] 25)).alloc (.cells #[.bool false, .int .u32 0, .bool false, .int .i64 0, .slice none 0 0] 25)) w1) := ⟨hy1, hb1⟩
  clear hi1 hd1 hl1 hy1 hb1
  go_wp2_with fail
  refine (drawArb_any _ b m cpm lm HA1.out H.out.2.2.2).mono ?_
  rintro o w2 ⟨e2, i2, r2, d2, ao2, cp2, l2, rfl, hi2, hd2, hl2, hy2, hb2⟩
  have st := wpI.start (e2 := e2) (i2 := i2) (r2 := r2) (d2 := d2) HH1.out.2 HH1.out.1 hb2 hy2
  clear hi2 hd2 hl2 hy2 hb2 HH1 HA1 HA
  obtain ⟨p0, p1, p2, p3, p4, p5, p6, p7, p8, p9⟩ := st.f.cells
  obtain ⟨q0, q1, q2, q3, q4, q5, q6, q7, q8, q9⟩ := st.g.cells
  have ST : Hid (wpI w w1.heap.size w2.heap.size w.heap.size (w.heap.size + 1) e1 i1 r1 d1 ao1 l1.length cp1 l1 e2 i2 r2 d2 ao2 l2.length cp2 l2 (w2.alloc (.cells #[.bool e2, .int .u32 (i2 : Int), .bool r2, .int .i64 d2, .slice ao2 l2.length cp2] 25))) := st
  clear st
  go_wp2_with fail
  refine (specValid_any _ e1 i1 r1 d1 ao1 l1.length cp1).mono ?_
  rintro o w3 ⟨rfl, hb3⟩
  have st := ST.out.below hb3
  clear ST hb3 p0 p1 p2 p3 p4 p5 p6 p7 p8 p9 q0 q1 q2 q3 q4 q5 q6 q7 q8 q9
  generalize w1.heap.size = F at *
  generalize w2.heap.size = G at *
  have HW : Hid (w.heap.size = w.heap.size) := rfl
  generalize hR2 : w.heap.size + 1 = R2 at *
  generalize hR1 : w.heap.size = R1 at *
  clear hR2
  have HR1 : Hid (w.heap.size = R1) := hR1
  clear hR1 HW
  obtain ⟨p0, p1, p2, p3, p4, p5, p6, p7, p8, p9⟩ := st.f.cells
  obtain ⟨q0, q1, q2, q3, q4, q5, q6, q7, q8, q9⟩ := st.g.cells
  cases hv1 : validB e1 i1 r1 d1 l1.length
  · have ST : Hid (wpI w F G R1 R2 e1 i1 r1 d1 ao1 l1.length cp1 l1 e2 i2 r2 d2 ao2 l2.length cp2 l2 w3) := st
    clear st
    go_wp2_with fail
    refine (wByte_any _ a n cap l 0 (H.out.1.below ST.out.bel) H.out.2.1 (by decide)).mono ?_
    rintro o w4 ⟨x, rfl, hx, hb4⟩
    have st := ST.out.below hb4
    clear ST hb4 p0 p1 p2 p3 p4 p5 p6 p7 p8 p9 q0 q1 q2 q3 q4 q5 q6 q7 q8 q9
    obtain ⟨p0, p1, p2, p3, p4, p5, p6, p7, p8, p9⟩ := st.f.cells
    obtain ⟨q0, q1, q2, q3, q4, q5, q6, q7, q8, q9⟩ := st.g.cells
    have st2 := st.setf false x false
    have hxw : IntKind.u32.wrap (x : Int) = (x : Int) := by simp [IntKind.wrap, IntKind.bits, IntKind.signed]; omega
    obtain ⟨u0, u1, u2, u3, u4, u5, u6, u7, u8, u9⟩ := st2.f.cells
    obtain ⟨v0, v1, v2, v3, v4, v5, v6, v7, v8, v9⟩ := st2.g.cells
    have ST2 : Hid (wpI w F G R1 R2 false x false 0 none 0 0 [] e2 i2 r2 d2 ao2 l2.length cp2 l2 (setF w4 F false x false 0 (.slice none 0 0))) := st2
    clear st st2
    unfold setF at u0 u1 u2 u3 u4 u5 u6 u7 u8 u9 v0 v1 v2 v3 v4 v5 v6 v7 v8 v9
    go_wp2_with fail
    refine (specValid_any _ e2 i2 r2 d2 ao2 l2.length cp2).mono ?_
    rintro o w5 ⟨rfl, hb5⟩
    have key : ∃ (fe : Bool) (fi : Nat) (fr : Bool) (fd : Int) (fao : Option Addr) (fcp : Nat) (fl : List Nat), wpI w F G R1 R2 fe fi fr fd fao fl.length fcp fl e2 i2 r2 d2 ao2 l2.length cp2 l2 w5 ∧ validB fe fi fr fd fl.length = true := ⟨false, x, false, 0, none, 0, [], ST2.out.below hb5, valid_base x false (by omega)⟩
    clear ST2 hb5 hxw hx p0 p1 p2 p3 p4 p5 p6 p7 p8 p9 q0 q1 q2 q3 q4 q5 q6 q7 q8 q9 u0 u1 u2 u3 u4 u5 u6 u7 u8 u9 v0 v1 v2 v3 v4 v5 v6 v7 v8 v9 hv1
    obtain ⟨fe, fi, fr, fd, fao, fcp, fl, st, hv⟩ := key
    obtain ⟨p0, p1, p2, p3, p4, p5, p6, p7, p8, p9⟩ := st.f.cells
    obtain ⟨q0, q1, q2, q3, q4, q5, q6, q7, q8, q9⟩ := st.g.cells
    have HV : Hid (validB fe fi fr fd fl.length = true) := hv
    clear hv
    cases hv2 : validB e2 i2 r2 d2 l2.length
    · have ST : Hid (wpI w F G R1 R2 fe fi fr fd fao fl.length fcp fl e2 i2 r2 d2 ao2 l2.length cp2 l2 w5) := st
      clear st
      go_wp2_with fail
      refine (wByte_any _ b m cpm lm 0 (H.out.2.2.1.below ST.out.bel) H.out.2.2.2 (by decide)).mono ?_
      rintro o w6 ⟨y, rfl, hy, hb6⟩
      have st := ST.out.below hb6
      clear ST hb6 p0 p1 p2 p3 p4 p5 p6 p7 p8 p9 q0 q1 q2 q3 q4 q5 q6 q7 q8 q9
      obtain ⟨p0, p1, p2, p3, p4, p5, p6, p7, p8, p9⟩ := st.f.cells
      obtain ⟨q0, q1, q2, q3, q4, q5, q6, q7, q8, q9⟩ := st.g.cells
      have st2 := st.setg true y false
      have hyw : IntKind.u32.wrap (y : Int) = (y : Int) := by simp [IntKind.wrap, IntKind.bits, IntKind.signed]; omega
      obtain ⟨u0, u1, u2, u3, u4, u5, u6, u7, u8, u9⟩ := st2.f.cells
      obtain ⟨v0, v1, v2, v3, v4, v5, v6, v7, v8, v9⟩ := st2.g.cells
      have ST2 : Hid (wpI w F G R1 R2 fe fi fr fd fao fl.length fcp fl true y false 0 none 0 0 [] (setF w6 G true y false 0 (.slice none 0 0))) := st2
      clear st st2
      unfold setF at u0 u1 u2 u3 u4 u5 u6 u7 u8 u9 v0 v1 v2 v3 v4 v5 v6 v7 v8 v9
      go_wp2_with fail
      refine (wByte_any _ b m cpm lm 0 (H.out.2.2.1.below ST2.out.bel) H.out.2.2.2 (by decide)).mono ?_
      rintro o w7 ⟨z, rfl, hz, hb7⟩
      have key : ∃ (ge : Bool) (gi : Nat) (gr : Bool) (gd : Int) (gao : Option Addr) (gcp : Nat) (gl : List Nat), wpI w F G R1 R2 fe fi fr fd fao fl.length fcp fl ge gi gr gd gao gl.length gcp gl w7 ∧ validB ge gi gr gd gl.length = true := ⟨true, y, false, 0, none, 0, [], ST2.out.below hb7, valid_ext y false (by omega)⟩
      clear ST2 hb7 hyw hy p0 p1 p2 p3 p4 p5 p6 p7 p8 p9 q0 q1 q2 q3 q4 q5 q6 q7 q8 q9 u0 u1 u2 u3 u4 u5 u6 u7 u8 u9 v0 v1 v2 v3 v4 v5 v6 v7 v8 v9 hv2
      obtain ⟨ge, gi, gr, gd, gao, gcp, gl, st, hvg⟩ := key
      obtain ⟨p0, p1, p2, p3, p4, p5, p6, p7, p8, p9⟩ := st.f.cells
      obtain ⟨q0, q1, q2, q3, q4, q5, q6, q7, q8, q9⟩ := st.g.cells
      have HVG : Hid (validB ge gi gr gd gl.length = true) := hvg
      clear hvg
      rcases (show (z : Int) % 4 = 0 ∨ (z : Int) % 4 = 1 ∨ (z : Int) % 4 = 2 ∨ (z : Int) % 4 = 3 by omega) with h4 | h4 | h4 | h4
      · have st2 := st.setg fe fi (!fr)
        have ST2 : Hid (wpI w F G R1 R2 fe fi fr fd fao fl.length fcp fl fe fi (!fr) 0 none 0 0 [] (setF w7 G fe fi (!fr) 0 (.slice none 0 0))) := st2
        clear st st2
        go_wp2
        refine (show Code.wp Tryz.prog _ _ _ (setF w7 G fe fi (!fr) 0 (.slice none 0 0)) from ?_)
        clear p0 p1 p2 p3 p4 p5 p6 p7 p8 p9 q0 q1 q2 q3 q4 q5 q6 q7 q8 q9
        generalize setF w7 G fe fi (!fr) 0 (.slice none 0 0) = V8 at *
        obtain ⟨x0, x1, x2, x3, x4, x5, x6, x7, x8, x9⟩ := ST2.out.z1.cells
        obtain ⟨y0, y1, y2, y3, y4, y5, y6, y7, y8, y9⟩ := ST2.out.z2.cells
        obtain ⟨u0, u1, u2, u3, u4, u5, u6, u7, u8, u9⟩ := ST2.out.f.cells
        obtain ⟨v0, v1, v2, v3, v4, v5, v6, v7, v8, v9⟩ := ST2.out.g.cells
        obtain ⟨k1, k2, k3, k4, k5, k6, -⟩ := ST2.out.dis
        go_region
        all_goals
          go_wp2
          have he := ST2.out.finD
          unfold setF at he
          refine bodyPost_ret (v := .tuple #[frV fe fi fr fd fao fl.length fcp, frV fe fi (!fr) 0 none 0 0]) (by simp [results, Tryz.results13, go_sem, x0, x1, x2, x3, x4, y0, y1, y2, y3, y4]) rfl (wpOut.mk fe fi fr fd fao fcp fl fe fi (!fr) 0 none 0 [] HV.out (valid_any0 fe fi (!fr) (valid_id HV.out).1 (valid_id HV.out).2) he)
      · cases fe
        · have hfi : fi < 2048 := (valid_id HV.out).2 rfl
          have st2 := st.setg true (fi * 262144) gr
          have ST2 : Hid (wpI w F G R1 R2 false fi fr fd fao fl.length fcp fl true (fi * 262144) gr 0 none 0 0 [] (setF w7 G true (fi * 262144) gr 0 (.slice none 0 0))) := st2
          have HQ : Hid ((fi : Int) * 262144 = (((fi * 262144) : Nat) : Int)) := by unfold Hid; omega
          clear st st2
          go_wp2
          rw [HQ.out]
          refine (show Code.wp Tryz.prog _ _ _ (setF w7 G true (fi * 262144) gr 0 (.slice none 0 0)) from ?_)
          clear p0 p1 p2 p3 p4 p5 p6 p7 p8 p9 q0 q1 q2 q3 q4 q5 q6 q7 q8 q9
          generalize setF w7 G true (fi * 262144) gr 0 (.slice none 0 0) = V8 at *
          obtain ⟨x0, x1, x2, x3, x4, x5, x6, x7, x8, x9⟩ := ST2.out.z1.cells
          obtain ⟨y0, y1, y2, y3, y4, y5, y6, y7, y8, y9⟩ := ST2.out.z2.cells
          obtain ⟨u0, u1, u2, u3, u4, u5, u6, u7, u8, u9⟩ := ST2.out.f.cells
          obtain ⟨v0, v1, v2, v3, v4, v5, v6, v7, v8, v9⟩ := ST2.out.g.cells
          obtain ⟨k1, k2, k3, k4, k5, k6, -⟩ := ST2.out.dis
          go_region
          all_goals
            go_wp2
            have he := ST2.out.finD
            unfold setF at he
            refine bodyPost_ret (v := .tuple #[frV false fi fr fd fao fl.length fcp, frV true (fi * 262144) gr 0 none 0 0]) (by simp [results, Tryz.results13, go_sem, x0, x1, x2, x3, x4, y0, y1, y2, y3, y4]) rfl (wpOut.mk false fi fr fd fao fcp fl true (fi * 262144) gr 0 none 0 [] HV.out (valid_ext (fi * 262144) gr (by have := (valid_id HV.out).2 rfl; omega)) he)
        · have hfi : fi < 536870912 := (valid_id HV.out).1 rfl
          have st2 := st.setg false (fi / 262144) gr
          have ST2 : Hid (wpI w F G R1 R2 true fi fr fd fao fl.length fcp fl false (fi / 262144) gr 0 none 0 0 [] (setF w7 G false (fi / 262144) gr 0 (.slice none 0 0))) := st2
          have HQ : Hid ((fi : Int) / 262144 = (((fi / 262144) : Nat) : Int)) := by unfold Hid; omega
          clear st st2
          go_wp2
          rw [HQ.out]
          refine (show Code.wp Tryz.prog _ _ _ (setF w7 G false (fi / 262144) gr 0 (.slice none 0 0)) from ?_)
          clear p0 p1 p2 p3 p4 p5 p6 p7 p8 p9 q0 q1 q2 q3 q4 q5 q6 q7 q8 q9
          generalize setF w7 G false (fi / 262144) gr 0 (.slice none 0 0) = V8 at *
          obtain ⟨x0, x1, x2, x3, x4, x5, x6, x7, x8, x9⟩ := ST2.out.z1.cells
          obtain ⟨y0, y1, y2, y3, y4, y5, y6, y7, y8, y9⟩ := ST2.out.z2.cells
          obtain ⟨u0, u1, u2, u3, u4, u5, u6, u7, u8, u9⟩ := ST2.out.f.cells
          obtain ⟨v0, v1, v2, v3, v4, v5, v6, v7, v8, v9⟩ := ST2.out.g.cells
          obtain ⟨k1, k2, k3, k4, k5, k6, -⟩ := ST2.out.dis
          go_region
          all_goals
            go_wp2
            have he := ST2.out.finD
            unfold setF at he
            refine bodyPost_ret (v := .tuple #[frV true fi fr fd fao fl.length fcp, frV false (fi / 262144) gr 0 none 0 0]) (by simp [results, Tryz.results13, go_sem, x0, x1, x2, x3, x4, y0, y1, y2, y3, y4]) rfl (wpOut.mk true fi fr fd fao fcp fl false (fi / 262144) gr 0 none 0 [] HV.out (valid_base (fi / 262144) gr (by have := (valid_id HV.out).1 rfl; omega)) he)
      · have STd : Hid (wpI w F G R1 R2 fe fi fr fd fao fl.length fcp fl ge gi gr gd gao gl.length gcp gl w7.drew) := st.below (Below.refl _ _).drew
        have hf32 : Hid (fi < 4294967296) := valid_u32 HV.out
        clear st
        go_wp2_with fail
        go_region_held3 (fun V => V.cell? ⟨F, 0, none⟩ = some (.bool fe) ∧ V.cell? ⟨F, 1, none⟩ = some (.int .u32 (fi : Int)) ∧ V.cell? ⟨F, 2, none⟩ = some (.bool fr)) (first | exact wp_S3 STd.out | exact wp_S3 st8 | exact wp_S3 (st8.setg fe _ fr)) (first | (go_at_call 22; refine (wByte_any _ b m cpm lm 1 (H.out.2.2.1.below STd.out.bel) H.out.2.2.2 (by decide)).mono ?_; rintro o w8 ⟨t, rfl, ht, hb8⟩; have st8 := STd.out.below hb8; obtain ⟨v0, v1, v2, v3, v4, v5, v6, v7, v8, v9⟩ := st8.g.cells; have hX := xor_val fi t hf32.out))
        have st2 := st8.setg fe (fi ^^^ 2 ^ (t % 11)) fr
        have ST2 : Hid (wpI w F G R1 R2 fe fi fr fd fao fl.length fcp fl fe (fi ^^^ 2 ^ (t % 11)) fr 0 none 0 0 [] (setF w8 G fe (fi ^^^ 2 ^ (t % 11)) fr 0 (.slice none 0 0))) := st2
        clear st8 st2
        go_wp2
        refine (show Code.wp Tryz.prog _ _ _ (setF w8 G fe (fi ^^^ 2 ^ (t % 11)) fr 0 (.slice none 0 0)) from ?_)
        clear p0 p1 p2 p3 p4 p5 p6 p7 p8 p9 q0 q1 q2 q3 q4 q5 q6 q7 q8 q9 hX
        generalize setF w8 G fe (fi ^^^ 2 ^ (t % 11)) fr 0 (.slice none 0 0) = V8 at *
        clear v0 v1 v2 v3 v4 v5 v6 v7 v8 v9
        obtain ⟨x0, x1, x2, x3, x4, x5, x6, x7, x8, x9⟩ := ST2.out.z1.cells
        obtain ⟨y0, y1, y2, y3, y4, y5, y6, y7, y8, y9⟩ := ST2.out.z2.cells
        obtain ⟨u0, u1, u2, u3, u4, u5, u6, u7, u8, u9⟩ := ST2.out.f.cells
        obtain ⟨v0, v1, v2, v3, v4, v5, v6, v7, v8, v9⟩ := ST2.out.g.cells
        obtain ⟨k1, k2, k3, k4, k5, k6, -⟩ := ST2.out.dis
        have HXV : Hid (validB fe (fi ^^^ 2 ^ (t % 11)) fr 0 ([] : List Nat).length = true) := xor_valid HV.out fr t
        generalize fi ^^^ 2 ^ (t % 11) = fx at *
        go_region
        all_goals
          go_wp2
          have he := ST2.out.finD
          unfold setF at he
          refine bodyPost_ret (v := .tuple #[frV fe fi fr fd fao fl.length fcp, frV fe fx fr 0 none 0 0]) (by simp [results, Tryz.results13, go_sem, x0, x1, x2, x3, x4, y0, y1, y2, y3, y4]) rfl (wpOut.mk fe fi fr fd fao fcp fl fe fx fr 0 none 0 [] HV.out HXV.out he)
      · have ST2 : Hid (wpI w F G R1 R2 fe fi fr fd fao fl.length fcp fl ge gi gr gd gao gl.length gcp gl w7) := st
        clear st
        go_wp2
        clear p0 p1 p2 p3 p4 p5 p6 p7 p8 p9 q0 q1 q2 q3 q4 q5 q6 q7 q8 q9
        generalize w7 = V8 at *
        obtain ⟨x0, x1, x2, x3, x4, x5, x6, x7, x8, x9⟩ := ST2.out.z1.cells
        obtain ⟨y0, y1, y2, y3, y4, y5, y6, y7, y8, y9⟩ := ST2.out.z2.cells
        obtain ⟨u0, u1, u2, u3, u4, u5, u6, u7, u8, u9⟩ := ST2.out.f.cells
        obtain ⟨v0, v1, v2, v3, v4, v5, v6, v7, v8, v9⟩ := ST2.out.g.cells
        obtain ⟨k1, k2, k3, k4, k5, k6, -⟩ := ST2.out.dis
        go_region
        all_goals
          go_wp2
          have he := ST2.out.finD
          unfold setF at he
          refine bodyPost_ret (v := .tuple #[frV fe fi fr fd fao fl.length fcp, frV ge gi gr gd gao gl.length gcp]) (by simp [results, Tryz.results13, go_sem, x0, x1, x2, x3, x4, y0, y1, y2, y3, y4]) rfl (wpOut.mk fe fi fr fd fao fcp fl ge gi gr gd gao gcp gl HV.out HVG.out he)
    · have ST : Hid (wpI w F G R1 R2 fe fi fr fd fao fl.length fcp fl e2 i2 r2 d2 ao2 l2.length cp2 l2 w5) := st
      clear st
      go_wp2_with fail
      refine (wByte_any _ b m cpm lm 0 (H.out.2.2.1.below ST.out.bel) H.out.2.2.2 (by decide)).mono ?_
      rintro o w7 ⟨z, rfl, hz, hb7⟩
      have key : ∃ (ge : Bool) (gi : Nat) (gr : Bool) (gd : Int) (gao : Option Addr) (gcp : Nat) (gl : List Nat), wpI w F G R1 R2 fe fi fr fd fao fl.length fcp fl ge gi gr gd gao gl.length gcp gl w7 ∧ validB ge gi gr gd gl.length = true := ⟨e2, i2, r2, d2, ao2, cp2, l2, ST.out.below hb7, hv2⟩
      clear ST hb7 p0 p1 p2 p3 p4 p5 p6 p7 p8 p9 q0 q1 q2 q3 q4 q5 q6 q7 q8 q9 hv2
      obtain ⟨ge, gi, gr, gd, gao, gcp, gl, st, hvg⟩ := key
      obtain ⟨p0, p1, p2, p3, p4, p5, p6, p7, p8, p9⟩ := st.f.cells
      obtain ⟨q0, q1, q2, q3, q4, q5, q6, q7, q8, q9⟩ := st.g.cells
      have HVG : Hid (validB ge gi gr gd gl.length = true) := hvg
      clear hvg
      rcases (show (z : Int) % 4 = 0 ∨ (z : Int) % 4 = 1 ∨ (z : Int) % 4 = 2 ∨ (z : Int) % 4 = 3 by omega) with h4 | h4 | h4 | h4
      · have st2 := st.setg fe fi (!fr)
        have ST2 : Hid (wpI w F G R1 R2 fe fi fr fd fao fl.length fcp fl fe fi (!fr) 0 none 0 0 [] (setF w7 G fe fi (!fr) 0 (.slice none 0 0))) := st2
        clear st st2
        go_wp2
        refine (show Code.wp Tryz.prog _ _ _ (setF w7 G fe fi (!fr) 0 (.slice none 0 0)) from ?_)
        clear p0 p1 p2 p3 p4 p5 p6 p7 p8 p9 q0 q1 q2 q3 q4 q5 q6 q7 q8 q9
        generalize setF w7 G fe fi (!fr) 0 (.slice none 0 0) = V8 at *
        obtain ⟨x0, x1, x2, x3, x4, x5, x6, x7, x8, x9⟩ := ST2.out.z1.cells
        obtain ⟨y0, y1, y2, y3, y4, y5, y6, y7, y8, y9⟩ := ST2.out.z2.cells
        obtain ⟨u0, u1, u2, u3, u4, u5, u6, u7, u8, u9⟩ := ST2.out.f.cells
        obtain ⟨v0, v1, v2, v3, v4, v5, v6, v7, v8, v9⟩ := ST2.out.g.cells
        obtain ⟨k1, k2, k3, k4, k5, k6, -⟩ := ST2.out.dis
        go_region
        all_goals
          go_wp2
          have he := ST2.out.finD
          unfold setF at he
          refine bodyPost_ret (v := .tuple #[frV fe fi fr fd fao fl.length fcp, frV fe fi (!fr) 0 none 0 0]) (by simp [results, Tryz.results13, go_sem, x0, x1, x2, x3, x4, y0, y1, y2, y3, y4]) rfl (wpOut.mk fe fi fr fd fao fcp fl fe fi (!fr) 0 none 0 [] HV.out (valid_any0 fe fi (!fr) (valid_id HV.out).1 (valid_id HV.out).2) he)
      · cases fe
        · have hfi : fi < 2048 := (valid_id HV.out).2 rfl
          have st2 := st.setg true (fi * 262144) gr
          have ST2 : Hid (wpI w F G R1 R2 false fi fr fd fao fl.length fcp fl true (fi * 262144) gr 0 none 0 0 [] (setF w7 G true (fi * 262144) gr 0 (.slice none 0 0))) := st2
          have HQ : Hid ((fi : Int) * 262144 = (((fi * 262144) : Nat) : Int)) := by unfold Hid; omega
          clear st st2
          go_wp2
          rw [HQ.out]
          refine (show Code.wp Tryz.prog _ _ _ (setF w7 G true (fi * 262144) gr 0 (.slice none 0 0)) from ?_)
          clear p0 p1 p2 p3 p4 p5 p6 p7 p8 p9 q0 q1 q2 q3 q4 q5 q6 q7 q8 q9
          generalize setF w7 G true (fi * 262144) gr 0 (.slice none 0 0) = V8 at *
          obtain ⟨x0, x1, x2, x3, x4, x5, x6, x7, x8, x9⟩ := ST2.out.z1.cells
          obtain ⟨y0, y1, y2, y3, y4, y5, y6, y7, y8, y9⟩ := ST2.out.z2.cells
          obtain ⟨u0, u1, u2, u3, u4, u5, u6, u7, u8, u9⟩ := ST2.out.f.cells
          obtain ⟨v0, v1, v2, v3, v4, v5, v6, v7, v8, v9⟩ := ST2.out.g.cells
          obtain ⟨k1, k2, k3, k4, k5, k6, -⟩ := ST2.out.dis
          go_region
          all_goals
            go_wp2
            have he := ST2.out.finD
            unfold setF at he
            refine bodyPost_ret (v := .tuple #[frV false fi fr fd fao fl.length fcp, frV true (fi * 262144) gr 0 none 0 0]) (by simp [results, Tryz.results13, go_sem, x0, x1, x2, x3, x4, y0, y1, y2, y3, y4]) rfl (wpOut.mk false fi fr fd fao fcp fl true (fi * 262144) gr 0 none 0 [] HV.out (valid_ext (fi * 262144) gr (by have := (valid_id HV.out).2 rfl; omega)) he)
        · have hfi : fi < 536870912 := (valid_id HV.out).1 rfl
          have st2 := st.setg false (fi / 262144) gr
          have ST2 : Hid (wpI w F G R1 R2 true fi fr fd fao fl.length fcp fl false (fi / 262144) gr 0 none 0 0 [] (setF w7 G false (fi / 262144) gr 0 (.slice none 0 0))) := st2
          have HQ : Hid ((fi : Int) / 262144 = (((fi / 262144) : Nat) : Int)) := by unfold Hid; omega
          clear st st2
          go_wp2
          rw [HQ.out]
          refine (show Code.wp Tryz.prog _ _ _ (setF w7 G false (fi / 262144) gr 0 (.slice none 0 0)) from ?_)
          clear p0 p1 p2 p3 p4 p5 p6 p7 p8 p9 q0 q1 q2 q3 q4 q5 q6 q7 q8 q9
          generalize setF w7 G false (fi / 262144) gr 0 (.slice none 0 0) = V8 at *
          obtain ⟨x0, x1, x2, x3, x4, x5, x6, x7, x8, x9⟩ := ST2.out.z1.cells
          obtain ⟨y0, y1, y2, y3, y4, y5, y6, y7, y8, y9⟩ := ST2.out.z2.cells
          obtain ⟨u0, u1, u2, u3, u4, u5, u6, u7, u8, u9⟩ := ST2.out.f.cells
          obtain ⟨v0, v1, v2, v3, v4, v5, v6, v7, v8, v9⟩ := ST2.out.g.cells
          obtain ⟨k1, k2, k3, k4, k5, k6, -⟩ := ST2.out.dis
          go_region
          all_goals
            go_wp2
            have he := ST2.out.finD
            unfold setF at he
            refine bodyPost_ret (v := .tuple #[frV true fi fr fd fao fl.length fcp, frV false (fi / 262144) gr 0 none 0 0]) (by simp [results, Tryz.results13, go_sem, x0, x1, x2, x3, x4, y0, y1, y2, y3, y4]) rfl (wpOut.mk true fi fr fd fao fcp fl false (fi / 262144) gr 0 none 0 [] HV.out (valid_base (fi / 262144) gr (by have := (valid_id HV.out).1 rfl; omega)) he)
      · have STd : Hid (wpI w F G R1 R2 fe fi fr fd fao fl.length fcp fl ge gi gr gd gao gl.length gcp gl w7.drew) := st.below (Below.refl _ _).drew
        have hf32 : Hid (fi < 4294967296) := valid_u32 HV.out
        clear st
        go_wp2_with fail
        go_region_held3 (fun V => V.cell? ⟨F, 0, none⟩ = some (.bool fe) ∧ V.cell? ⟨F, 1, none⟩ = some (.int .u32 (fi : Int)) ∧ V.cell? ⟨F, 2, none⟩ = some (.bool fr)) (first | exact wp_S3 STd.out | exact wp_S3 st8 | exact wp_S3 (st8.setg fe _ fr)) (first | (go_at_call 22; refine (wByte_any _ b m cpm lm 1 (H.out.2.2.1.below STd.out.bel) H.out.2.2.2 (by decide)).mono ?_; rintro o w8 ⟨t, rfl, ht, hb8⟩; have st8 := STd.out.below hb8; obtain ⟨v0, v1, v2, v3, v4, v5, v6, v7, v8, v9⟩ := st8.g.cells; have hX := xor_val fi t hf32.out))
        have st2 := st8.setg fe (fi ^^^ 2 ^ (t % 11)) fr
        have ST2 : Hid (wpI w F G R1 R2 fe fi fr fd fao fl.length fcp fl fe (fi ^^^ 2 ^ (t % 11)) fr 0 none 0 0 [] (setF w8 G fe (fi ^^^ 2 ^ (t % 11)) fr 0 (.slice none 0 0))) := st2
        clear st8 st2
        go_wp2
        refine (show Code.wp Tryz.prog _ _ _ (setF w8 G fe (fi ^^^ 2 ^ (t % 11)) fr 0 (.slice none 0 0)) from ?_)
        clear p0 p1 p2 p3 p4 p5 p6 p7 p8 p9 q0 q1 q2 q3 q4 q5 q6 q7 q8 q9 hX
        generalize setF w8 G fe (fi ^^^ 2 ^ (t % 11)) fr 0 (.slice none 0 0) = V8 at *
        clear v0 v1 v2 v3 v4 v5 v6 v7 v8 v9
        obtain ⟨x0, x1, x2, x3, x4, x5, x6, x7, x8, x9⟩ := ST2.out.z1.cells
        obtain ⟨y0, y1, y2, y3, y4, y5, y6, y7, y8, y9⟩ := ST2.out.z2.cells
        obtain ⟨u0, u1, u2, u3, u4, u5, u6, u7, u8, u9⟩ := ST2.out.f.cells
        obtain ⟨v0, v1, v2, v3, v4, v5, v6, v7, v8, v9⟩ := ST2.out.g.cells
        obtain ⟨k1, k2, k3, k4, k5, k6, -⟩ := ST2.out.dis
        have HXV : Hid (validB fe (fi ^^^ 2 ^ (t % 11)) fr 0 ([] : List Nat).length = true) := xor_valid HV.out fr t
        generalize fi ^^^ 2 ^ (t % 11) = fx at *
        go_region
        all_goals
          go_wp2
          have he := ST2.out.finD
          unfold setF at he
          refine bodyPost_ret (v := .tuple #[frV fe fi fr fd fao fl.length fcp, frV fe fx fr 0 none 0 0]) (by simp [results, Tryz.results13, go_sem, x0, x1, x2, x3, x4, y0, y1, y2, y3, y4]) rfl (wpOut.mk fe fi fr fd fao fcp fl fe fx fr 0 none 0 [] HV.out HXV.out he)
      · have ST2 : Hid (wpI w F G R1 R2 fe fi fr fd fao fl.length fcp fl ge gi gr gd gao gl.length gcp gl w7) := st
        clear st
        go_wp2
        clear p0 p1 p2 p3 p4 p5 p6 p7 p8 p9 q0 q1 q2 q3 q4 q5 q6 q7 q8 q9
        generalize w7 = V8 at *
        obtain ⟨x0, x1, x2, x3, x4, x5, x6, x7, x8, x9⟩ := ST2.out.z1.cells
        obtain ⟨y0, y1, y2, y3, y4, y5, y6, y7, y8, y9⟩ := ST2.out.z2.cells
        obtain ⟨u0, u1, u2, u3, u4, u5, u6, u7, u8, u9⟩ := ST2.out.f.cells
        obtain ⟨v0, v1, v2, v3, v4, v5, v6, v7, v8, v9⟩ := ST2.out.g.cells
        obtain ⟨k1, k2, k3, k4, k5, k6, -⟩ := ST2.out.dis
        go_region
        all_goals
          go_wp2
          have he := ST2.out.finD
          unfold setF at he
          refine bodyPost_ret (v := .tuple #[frV fe fi fr fd fao fl.length fcp, frV ge gi gr gd gao gl.length gcp]) (by simp [results, Tryz.results13, go_sem, x0, x1, x2, x3, x4, y0, y1, y2, y3, y4]) rfl (wpOut.mk fe fi fr fd fao fcp fl ge gi gr gd gao gcp gl HV.out HVG.out he)
  · have ST : Hid (wpI w F G R1 R2 e1 i1 r1 d1 ao1 l1.length cp1 l1 e2 i2 r2 d2 ao2 l2.length cp2 l2 w3) := st
    clear st
    go_wp2_with fail
    refine (specValid_any _ e2 i2 r2 d2 ao2 l2.length cp2).mono ?_
    rintro o w5 ⟨rfl, hb5⟩
    have key : ∃ (fe : Bool) (fi : Nat) (fr : Bool) (fd : Int) (fao : Option Addr) (fcp : Nat) (fl : List Nat), wpI w F G R1 R2 fe fi fr fd fao fl.length fcp fl e2 i2 r2 d2 ao2 l2.length cp2 l2 w5 ∧ validB fe fi fr fd fl.length = true := ⟨e1, i1, r1, d1, ao1, cp1, l1, ST.out.below hb5, hv1⟩
    clear ST hb5 p0 p1 p2 p3 p4 p5 p6 p7 p8 p9 q0 q1 q2 q3 q4 q5 q6 q7 q8 q9 hv1
    obtain ⟨fe, fi, fr, fd, fao, fcp, fl, st, hv⟩ := key
    obtain ⟨p0, p1, p2, p3, p4, p5, p6, p7, p8, p9⟩ := st.f.cells
    obtain ⟨q0, q1, q2, q3, q4, q5, q6, q7, q8, q9⟩ := st.g.cells
    have HV : Hid (validB fe fi fr fd fl.length = true) := hv
    clear hv
    cases hv2 : validB e2 i2 r2 d2 l2.length
    · have ST : Hid (wpI w F G R1 R2 fe fi fr fd fao fl.length fcp fl e2 i2 r2 d2 ao2 l2.length cp2 l2 w5) := st
      clear st
      go_wp2_with fail
      refine (wByte_any _ b m cpm lm 0 (H.out.2.2.1.below ST.out.bel) H.out.2.2.2 (by decide)).mono ?_
      rintro o w6 ⟨y, rfl, hy, hb6⟩
      have st := ST.out.below hb6
      clear ST hb6 p0 p1 p2 p3 p4 p5 p6 p7 p8 p9 q0 q1 q2 q3 q4 q5 q6 q7 q8 q9
      obtain ⟨p0, p1, p2, p3, p4, p5, p6, p7, p8, p9⟩ := st.f.cells
      obtain ⟨q0, q1, q2, q3, q4, q5, q6, q7, q8, q9⟩ := st.g.cells
      have st2 := st.setg true y false
      have hyw : IntKind.u32.wrap (y : Int) = (y : Int) := by simp [IntKind.wrap, IntKind.bits, IntKind.signed]; omega
      obtain ⟨u0, u1, u2, u3, u4, u5, u6, u7, u8, u9⟩ := st2.f.cells
      obtain ⟨v0, v1, v2, v3, v4, v5, v6, v7, v8, v9⟩ := st2.g.cells
      have ST2 : Hid (wpI w F G R1 R2 fe fi fr fd fao fl.length fcp fl true y false 0 none 0 0 [] (setF w6 G true y false 0 (.slice none 0 0))) := st2
      clear st st2
      unfold setF at u0 u1 u2 u3 u4 u5 u6 u7 u8 u9 v0 v1 v2 v3 v4 v5 v6 v7 v8 v9
      go_wp2_with fail
      refine (wByte_any _ b m cpm lm 0 (H.out.2.2.1.below ST2.out.bel) H.out.2.2.2 (by decide)).mono ?_
      rintro o w7 ⟨z, rfl, hz, hb7⟩
      have key : ∃ (ge : Bool) (gi : Nat) (gr : Bool) (gd : Int) (gao : Option Addr) (gcp : Nat) (gl : List Nat), wpI w F G R1 R2 fe fi fr fd fao fl.length fcp fl ge gi gr gd gao gl.length gcp gl w7 ∧ validB ge gi gr gd gl.length = true := ⟨true, y, false, 0, none, 0, [], ST2.out.below hb7, valid_ext y false (by omega)⟩
      clear ST2 hb7 hyw hy p0 p1 p2 p3 p4 p5 p6 p7 p8 p9 q0 q1 q2 q3 q4 q5 q6 q7 q8 q9 u0 u1 u2 u3 u4 u5 u6 u7 u8 u9 v0 v1 v2 v3 v4 v5 v6 v7 v8 v9 hv2
      obtain ⟨ge, gi, gr, gd, gao, gcp, gl, st, hvg⟩ := key
      obtain ⟨p0, p1, p2, p3, p4, p5, p6, p7, p8, p9⟩ := st.f.cells
      obtain ⟨q0, q1, q2, q3, q4, q5, q6, q7, q8, q9⟩ := st.g.cells
      have HVG : Hid (validB ge gi gr gd gl.length = true) := hvg
      clear hvg
      rcases (show (z : Int) % 4 = 0 ∨ (z : Int) % 4 = 1 ∨ (z : Int) % 4 = 2 ∨ (z : Int) % 4 = 3 by omega) with h4 | h4 | h4 | h4
      · have st2 := st.setg fe fi (!fr)
        have ST2 : Hid (wpI w F G R1 R2 fe fi fr fd fao fl.length fcp fl fe fi (!fr) 0 none 0 0 [] (setF w7 G fe fi (!fr) 0 (.slice none 0 0))) := st2
        clear st st2
        go_wp2
        refine (show Code.wp Tryz.prog _ _ _ (setF w7 G fe fi (!fr) 0 (.slice none 0 0)) from ?_)
        clear p0 p1 p2 p3 p4 p5 p6 p7 p8 p9 q0 q1 q2 q3 q4 q5 q6 q7 q8 q9
        generalize setF w7 G fe fi (!fr) 0 (.slice none 0 0) = V8 at *
        obtain ⟨x0, x1, x2, x3, x4, x5, x6, x7, x8, x9⟩ := ST2.out.z1.cells
        obtain ⟨y0, y1, y2, y3, y4, y5, y6, y7, y8, y9⟩ := ST2.out.z2.cells
        obtain ⟨u0, u1, u2, u3, u4, u5, u6, u7, u8, u9⟩ := ST2.out.f.cells
        obtain ⟨v0, v1, v2, v3, v4, v5, v6, v7, v8, v9⟩ := ST2.out.g.cells
        obtain ⟨k1, k2, k3, k4, k5, k6, -⟩ := ST2.out.dis
        go_region
        all_goals
          go_wp2
          have he := ST2.out.finD
          unfold setF at he
          refine bodyPost_ret (v := .tuple #[frV fe fi fr fd fao fl.length fcp, frV fe fi (!fr) 0 none 0 0]) (by simp [results, Tryz.results13, go_sem, x0, x1, x2, x3, x4, y0, y1, y2, y3, y4]) rfl (wpOut.mk fe fi fr fd fao fcp fl fe fi (!fr) 0 none 0 [] HV.out (valid_any0 fe fi (!fr) (valid_id HV.out).1 (valid_id HV.out).2) he)
      · cases fe
        · have hfi : fi < 2048 := (valid_id HV.out).2 rfl
          have st2 := st.setg true (fi * 262144) gr
          have ST2 : Hid (wpI w F G R1 R2 false fi fr fd fao fl.length fcp fl true (fi * 262144) gr 0 none 0 0 [] (setF w7 G true (fi * 262144) gr 0 (.slice none 0 0))) := st2
          have HQ : Hid ((fi : Int) * 262144 = (((fi * 262144) : Nat) : Int)) := by unfold Hid; omega
          clear st st2
          go_wp2
          rw [HQ.out]
          refine (show Code.wp Tryz.prog _ _ _ (setF w7 G true (fi * 262144) gr 0 (.slice none 0 0)) from ?_)
          clear p0 p1 p2 p3 p4 p5 p6 p7 p8 p9 q0 q1 q2 q3 q4 q5 q6 q7 q8 q9
          generalize setF w7 G true (fi * 262144) gr 0 (.slice none 0 0) = V8 at *
          obtain ⟨x0, x1, x2, x3, x4, x5, x6, x7, x8, x9⟩ := ST2.out.z1.cells
          obtain ⟨y0, y1, y2, y3, y4, y5, y6, y7, y8, y9⟩ := ST2.out.z2.cells
          obtain ⟨u0, u1, u2, u3, u4, u5, u6, u7, u8, u9⟩ := ST2.out.f.cells
          obtain ⟨v0, v1, v2, v3, v4, v5, v6, v7, v8, v9⟩ := ST2.out.g.cells
          obtain ⟨k1, k2, k3, k4, k5, k6, -⟩ := ST2.out.dis
          go_region
          all_goals
            go_wp2
            have he := ST2.out.finD
            unfold setF at he
            refine bodyPost_ret (v := .tuple #[frV false fi fr fd fao fl.length fcp, frV true (fi * 262144) gr 0 none 0 0]) (by simp [results, Tryz.results13, go_sem, x0, x1, x2, x3, x4, y0, y1, y2, y3, y4]) rfl (wpOut.mk false fi fr fd fao fcp fl true (fi * 262144) gr 0 none 0 [] HV.out (valid_ext (fi * 262144) gr (by have := (valid_id HV.out).2 rfl; omega)) he)
        · have hfi : fi < 536870912 := (valid_id HV.out).1 rfl
          have st2 := st.setg false (fi / 262144) gr
          have ST2 : Hid (wpI w F G R1 R2 true fi fr fd fao fl.length fcp fl false (fi / 262144) gr 0 none 0 0 [] (setF w7 G false (fi / 262144) gr 0 (.slice none 0 0))) := st2
          have HQ : Hid ((fi : Int) / 262144 = (((fi / 262144) : Nat) : Int)) := by unfold Hid; omega
          clear st st2
          go_wp2
          rw [HQ.out]
          refine (show Code.wp Tryz.prog _ _ _ (setF w7 G false (fi / 262144) gr 0 (.slice none 0 0)) from ?_)
          clear p0 p1 p2 p3 p4 p5 p6 p7 p8 p9 q0 q1 q2 q3 q4 q5 q6 q7 q8 q9
          generalize setF w7 G false (fi / 262144) gr 0 (.slice none 0 0) = V8 at *
          obtain ⟨x0, x1, x2, x3, x4, x5, x6, x7, x8, x9⟩ := ST2.out.z1.cells
          obtain ⟨y0, y1, y2, y3, y4, y5, y6, y7, y8, y9⟩ := ST2.out.z2.cells
          obtain ⟨u0, u1, u2, u3, u4, u5, u6, u7, u8, u9⟩ := ST2.out.f.cells
          obtain ⟨v0, v1, v2, v3, v4, v5, v6, v7, v8, v9⟩ := ST2.out.g.cells
          obtain ⟨k1, k2, k3, k4, k5, k6, -⟩ := ST2.out.dis
          go_region
          all_goals
            go_wp2
            have he := ST2.out.finD
            unfold setF at he
            refine bodyPost_ret (v := .tuple #[frV true fi fr fd fao fl.length fcp, frV false (fi / 262144) gr 0 none 0 0]) (by simp [results, Tryz.results13, go_sem, x0, x1, x2, x3, x4, y0, y1, y2, y3, y4]) rfl (wpOut.mk true fi fr fd fao fcp fl false (fi / 262144) gr 0 none 0 [] HV.out (valid_base (fi / 262144) gr (by have := (valid_id HV.out).1 rfl; omega)) he)
      · have STd : Hid (wpI w F G R1 R2 fe fi fr fd fao fl.length fcp fl ge gi gr gd gao gl.length gcp gl w7.drew) := st.below (Below.refl _ _).drew
        have hf32 : Hid (fi < 4294967296) := valid_u32 HV.out
        clear st
        go_wp2_with fail
        go_region_held3 (fun V => V.cell? ⟨F, 0, none⟩ = some (.bool fe) ∧ V.cell? ⟨F, 1, none⟩ = some (.int .u32 (fi : Int)) ∧ V.cell? ⟨F, 2, none⟩ = some (.bool fr)) (first | exact wp_S3 STd.out | exact wp_S3 st8 | exact wp_S3 (st8.setg fe _ fr)) (first | (go_at_call 22; refine (wByte_any _ b m cpm lm 1 (H.out.2.2.1.below STd.out.bel) H.out.2.2.2 (by decide)).mono ?_; rintro o w8 ⟨t, rfl, ht, hb8⟩; have st8 := STd.out.below hb8; obtain ⟨v0, v1, v2, v3, v4, v5, v6, v7, v8, v9⟩ := st8.g.cells; have hX := xor_val fi t hf32.out))
        have st2 := st8.setg fe (fi ^^^ 2 ^ (t % 11)) fr
        have ST2 : Hid (wpI w F G R1 R2 fe fi fr fd fao fl.length fcp fl fe (fi ^^^ 2 ^ (t % 11)) fr 0 none 0 0 [] (setF w8 G fe (fi ^^^ 2 ^ (t % 11)) fr 0 (.slice none 0 0))) := st2
        clear st8 st2
        go_wp2
        refine (show Code.wp Tryz.prog _ _ _ (setF w8 G fe (fi ^^^ 2 ^ (t % 11)) fr 0 (.slice none 0 0)) from ?_)
        clear p0 p1 p2 p3 p4 p5 p6 p7 p8 p9 q0 q1 q2 q3 q4 q5 q6 q7 q8 q9 hX
        generalize setF w8 G fe (fi ^^^ 2 ^ (t % 11)) fr 0 (.slice none 0 0) = V8 at *
        clear v0 v1 v2 v3 v4 v5 v6 v7 v8 v9
        obtain ⟨x0, x1, x2, x3, x4, x5, x6, x7, x8, x9⟩ := ST2.out.z1.cells
        obtain ⟨y0, y1, y2, y3, y4, y5, y6, y7, y8, y9⟩ := ST2.out.z2.cells
        obtain ⟨u0, u1, u2, u3, u4, u5, u6, u7, u8, u9⟩ := ST2.out.f.cells
        obtain ⟨v0, v1, v2, v3, v4, v5, v6, v7, v8, v9⟩ := ST2.out.g.cells
        obtain ⟨k1, k2, k3, k4, k5, k6, -⟩ := ST2.out.dis
        have HXV : Hid (validB fe (fi ^^^ 2 ^ (t % 11)) fr 0 ([] : List Nat).length = true) := xor_valid HV.out fr t
        generalize fi ^^^ 2 ^ (t % 11) = fx at *
        go_region
        all_goals
          go_wp2
          have he := ST2.out.finD
          unfold setF at he
          refine bodyPost_ret (v := .tuple #[frV fe fi fr fd fao fl.length fcp, frV fe fx fr 0 none 0 0]) (by simp [results, Tryz.results13, go_sem, x0, x1, x2, x3, x4, y0, y1, y2, y3, y4]) rfl (wpOut.mk fe fi fr fd fao fcp fl fe fx fr 0 none 0 [] HV.out HXV.out he)
      · have ST2 : Hid (wpI w F G R1 R2 fe fi fr fd fao fl.length fcp fl ge gi gr gd gao gl.length gcp gl w7) := st
        clear st
        go_wp2
        clear p0 p1 p2 p3 p4 p5 p6 p7 p8 p9 q0 q1 q2 q3 q4 q5 q6 q7 q8 q9
        generalize w7 = V8 at *
        obtain ⟨x0, x1, x2, x3, x4, x5, x6, x7, x8, x9⟩ := ST2.out.z1.cells
        obtain ⟨y0, y1, y2, y3, y4, y5, y6, y7, y8, y9⟩ := ST2.out.z2.cells
        obtain ⟨u0, u1, u2, u3, u4, u5, u6, u7, u8, u9⟩ := ST2.out.f.cells
        obtain ⟨v0, v1, v2, v3, v4, v5, v6, v7, v8, v9⟩ := ST2.out.g.cells
        obtain ⟨k1, k2, k3, k4, k5, k6, -⟩ := ST2.out.dis
        go_region
        all_goals
          go_wp2
          have he := ST2.out.finD
          unfold setF at he
          refine bodyPost_ret (v := .tuple #[frV fe fi fr fd fao fl.length fcp, frV ge gi gr gd gao gl.length gcp]) (by simp [results, Tryz.results13, go_sem, x0, x1, x2, x3, x4, y0, y1, y2, y3, y4]) rfl (wpOut.mk fe fi fr fd fao fcp fl ge gi gr gd gao gcp gl HV.out HVG.out he)
    · have ST : Hid (wpI w F G R1 R2 fe fi fr fd fao fl.length fcp fl e2 i2 r2 d2 ao2 l2.length cp2 l2 w5) := st
      clear st
      go_wp2_with fail
      refine (wByte_any _ b m cpm lm 0 (H.out.2.2.1.below ST.out.bel) H.out.2.2.2 (by decide)).mono ?_
      rintro o w7 ⟨z, rfl, hz, hb7⟩
      have key : ∃ (ge : Bool) (gi : Nat) (gr : Bool) (gd : Int) (gao : Option Addr) (gcp : Nat) (gl : List Nat), wpI w F G R1 R2 fe fi fr fd fao fl.length fcp fl ge gi gr gd gao gl.length gcp gl w7 ∧ validB ge gi gr gd gl.length = true := ⟨e2, i2, r2, d2, ao2, cp2, l2, ST.out.below hb7, hv2⟩
      clear ST hb7 p0 p1 p2 p3 p4 p5 p6 p7 p8 p9 q0 q1 q2 q3 q4 q5 q6 q7 q8 q9 hv2
      obtain ⟨ge, gi, gr, gd, gao, gcp, gl, st, hvg⟩ := key
      obtain ⟨p0, p1, p2, p3, p4, p5, p6, p7, p8, p9⟩ := st.f.cells
      obtain ⟨q0, q1, q2, q3, q4, q5, q6, q7, q8, q9⟩ := st.g.cells
      have HVG : Hid (validB ge gi gr gd gl.length = true) := hvg
      clear hvg
      rcases (show (z : Int) % 4 = 0 ∨ (z : Int) % 4 = 1 ∨ (z : Int) % 4 = 2 ∨ (z : Int) % 4 = 3 by omega) with h4 | h4 | h4 | h4
      · have st2 := st.setg fe fi (!fr)
        have ST2 : Hid (wpI w F G R1 R2 fe fi fr fd fao fl.length fcp fl fe fi (!fr) 0 none 0 0 [] (setF w7 G fe fi (!fr) 0 (.slice none 0 0))) := st2
        clear st st2
        go_wp2
        refine (show Code.wp Tryz.prog _ _ _ (setF w7 G fe fi (!fr) 0 (.slice none 0 0)) from ?_)
        clear p0 p1 p2 p3 p4 p5 p6 p7 p8 p9 q0 q1 q2 q3 q4 q5 q6 q7 q8 q9
        generalize setF w7 G fe fi (!fr) 0 (.slice none 0 0) = V8 at *
        obtain ⟨x0, x1, x2, x3, x4, x5, x6, x7, x8, x9⟩ := ST2.out.z1.cells
        obtain ⟨y0, y1, y2, y3, y4, y5, y6, y7, y8, y9⟩ := ST2.out.z2.cells
        obtain ⟨u0, u1, u2, u3, u4, u5, u6, u7, u8, u9⟩ := ST2.out.f.cells
        obtain ⟨v0, v1, v2, v3, v4, v5, v6, v7, v8, v9⟩ := ST2.out.g.cells
        obtain ⟨k1, k2, k3, k4, k5, k6, -⟩ := ST2.out.dis
        go_region
        all_goals
          go_wp2
          have he := ST2.out.finD
          unfold setF at he
          refine bodyPost_ret (v := .tuple #[frV fe fi fr fd fao fl.length fcp, frV fe fi (!fr) 0 none 0 0]) (by simp [results, Tryz.results13, go_sem, x0, x1, x2, x3, x4, y0, y1, y2, y3, y4]) rfl (wpOut.mk fe fi fr fd fao fcp fl fe fi (!fr) 0 none 0 [] HV.out (valid_any0 fe fi (!fr) (valid_id HV.out).1 (valid_id HV.out).2) he)
      · cases fe
        · have hfi : fi < 2048 := (valid_id HV.out).2 rfl
          have st2 := st.setg true (fi * 262144) gr
          have ST2 : Hid (wpI w F G R1 R2 false fi fr fd fao fl.length fcp fl true (fi * 262144) gr 0 none 0 0 [] (setF w7 G true (fi * 262144) gr 0 (.slice none 0 0))) := st2
          have HQ : Hid ((fi : Int) * 262144 = (((fi * 262144) : Nat) : Int)) := by unfold Hid; omega
          clear st st2
          go_wp2
          rw [HQ.out]
          refine (show Code.wp Tryz.prog _ _ _ (setF w7 G true (fi * 262144) gr 0 (.slice none 0 0)) from ?_)
          clear p0 p1 p2 p3 p4 p5 p6 p7 p8 p9 q0 q1 q2 q3 q4 q5 q6 q7 q8 q9
          generalize setF w7 G true (fi * 262144) gr 0 (.slice none 0 0) = V8 at *
          obtain ⟨x0, x1, x2, x3, x4, x5, x6, x7, x8, x9⟩ := ST2.out.z1.cells
          obtain ⟨y0, y1, y2, y3, y4, y5, y6, y7, y8, y9⟩ := ST2.out.z2.cells
          obtain ⟨u0, u1, u2, u3, u4, u5, u6, u7, u8, u9⟩ := ST2.out.f.cells
          obtain ⟨v0, v1, v2, v3, v4, v5, v6, v7, v8, v9⟩ := ST2.out.g.cells
          obtain ⟨k1, k2, k3, k4, k5, k6, -⟩ := ST2.out.dis
          go_region
          all_goals
            go_wp2
            have he := ST2.out.finD
            unfold setF at he
            refine bodyPost_ret (v := .tuple #[frV false fi fr fd fao fl.length fcp, frV true (fi * 262144) gr 0 none 0 0]) (by simp [results, Tryz.results13, go_sem, x0, x1, x2, x3, x4, y0, y1, y2, y3, y4]) rfl (wpOut.mk false fi fr fd fao fcp fl true (fi * 262144) gr 0 none 0 [] HV.out (valid_ext (fi * 262144) gr (by have := (valid_id HV.out).2 rfl; omega)) he)
        · have hfi : fi < 536870912 := (valid_id HV.out).1 rfl
          have st2 := st.setg false (fi / 262144) gr
          have ST2 : Hid (wpI w F G R1 R2 true fi fr fd fao fl.length fcp fl false (fi / 262144) gr 0 none 0 0 [] (setF w7 G false (fi / 262144) gr 0 (.slice none 0 0))) := st2
          have HQ : Hid ((fi : Int) / 262144 = (((fi / 262144) : Nat) : Int)) := by unfold Hid; omega
          clear st st2
          go_wp2
          rw [HQ.out]
          refine (show Code.wp Tryz.prog _ _ _ (setF w7 G false (fi / 262144) gr 0 (.slice none 0 0)) from ?_)
          clear p0 p1 p2 p3 p4 p5 p6 p7 p8 p9 q0 q1 q2 q3 q4 q5 q6 q7 q8 q9
          generalize setF w7 G false (fi / 262144) gr 0 (.slice none 0 0) = V8 at *
          obtain ⟨x0, x1, x2, x3, x4, x5, x6, x7, x8, x9⟩ := ST2.out.z1.cells
          obtain ⟨y0, y1, y2, y3, y4, y5, y6, y7, y8, y9⟩ := ST2.out.z2.cells
          obtain ⟨u0, u1, u2, u3, u4, u5, u6, u7, u8, u9⟩ := ST2.out.f.cells
          obtain ⟨v0, v1, v2, v3, v4, v5, v6, v7, v8, v9⟩ := ST2.out.g.cells
          obtain ⟨k1, k2, k3, k4, k5, k6, -⟩ := ST2.out.dis
          go_region
          all_goals
            go_wp2
            have he := ST2.out.finD
            unfold setF at he
            refine bodyPost_ret (v := .tuple #[frV true fi fr fd fao fl.length fcp, frV false (fi / 262144) gr 0 none 0 0]) (by simp [results, Tryz.results13, go_sem, x0, x1, x2, x3, x4, y0, y1, y2, y3, y4]) rfl (wpOut.mk true fi fr fd fao fcp fl false (fi / 262144) gr 0 none 0 [] HV.out (valid_base (fi / 262144) gr (by have := (valid_id HV.out).1 rfl; omega)) he)
      · have STd : Hid (wpI w F G R1 R2 fe fi fr fd fao fl.length fcp fl ge gi gr gd gao gl.length gcp gl w7.drew) := st.below (Below.refl _ _).drew
        have hf32 : Hid (fi < 4294967296) := valid_u32 HV.out
        clear st
        go_wp2_with fail
        go_region_held3 (fun V => V.cell? ⟨F, 0, none⟩ = some (.bool fe) ∧ V.cell? ⟨F, 1, none⟩ = some (.int .u32 (fi : Int)) ∧ V.cell? ⟨F, 2, none⟩ = some (.bool fr)) (first | exact wp_S3 STd.out | exact wp_S3 st8 | exact wp_S3 (st8.setg fe _ fr)) (first | (go_at_call 22; refine (wByte_any _ b m cpm lm 1 (H.out.2.2.1.below STd.out.bel) H.out.2.2.2 (by decide)).mono ?_; rintro o w8 ⟨t, rfl, ht, hb8⟩; have st8 := STd.out.below hb8; obtain ⟨v0, v1, v2, v3, v4, v5, v6, v7, v8, v9⟩ := st8.g.cells; have hX := xor_val fi t hf32.out))
        have st2 := st8.setg fe (fi ^^^ 2 ^ (t % 11)) fr
        have ST2 : Hid (wpI w F G R1 R2 fe fi fr fd fao fl.length fcp fl fe (fi ^^^ 2 ^ (t % 11)) fr 0 none 0 0 [] (setF w8 G fe (fi ^^^ 2 ^ (t % 11)) fr 0 (.slice none 0 0))) := st2
        clear st8 st2
        go_wp2
        refine (show Code.wp Tryz.prog _ _ _ (setF w8 G fe (fi ^^^ 2 ^ (t % 11)) fr 0 (.slice none 0 0)) from ?_)
        clear p0 p1 p2 p3 p4 p5 p6 p7 p8 p9 q0 q1 q2 q3 q4 q5 q6 q7 q8 q9 hX
        generalize setF w8 G fe (fi ^^^ 2 ^ (t % 11)) fr 0 (.slice none 0 0) = V8 at *
        clear v0 v1 v2 v3 v4 v5 v6 v7 v8 v9
        obtain ⟨x0, x1, x2, x3, x4, x5, x6, x7, x8, x9⟩ := ST2.out.z1.cells
        obtain ⟨y0, y1, y2, y3, y4, y5, y6, y7, y8, y9⟩ := ST2.out.z2.cells
        obtain ⟨u0, u1, u2, u3, u4, u5, u6, u7, u8, u9⟩ := ST2.out.f.cells
        obtain ⟨v0, v1, v2, v3, v4, v5, v6, v7, v8, v9⟩ := ST2.out.g.cells
        obtain ⟨k1, k2, k3, k4, k5, k6, -⟩ := ST2.out.dis
        have HXV : Hid (validB fe (fi ^^^ 2 ^ (t % 11)) fr 0 ([] : List Nat).length = true) := xor_valid HV.out fr t
        generalize fi ^^^ 2 ^ (t % 11) = fx at *
        go_region
        all_goals
          go_wp2
          have he := ST2.out.finD
          unfold setF at he
          refine bodyPost_ret (v := .tuple #[frV fe fi fr fd fao fl.length fcp, frV fe fx fr 0 none 0 0]) (by simp [results, Tryz.results13, go_sem, x0, x1, x2, x3, x4, y0, y1, y2, y3, y4]) rfl (wpOut.mk fe fi fr fd fao fcp fl fe fx fr 0 none 0 [] HV.out HXV.out he)
      · have ST2 : Hid (wpI w F G R1 R2 fe fi fr fd fao fl.length fcp fl ge gi gr gd gao gl.length gcp gl w7) := st
        clear st
        go_wp2
        clear p0 p1 p2 p3 p4 p5 p6 p7 p8 p9 q0 q1 q2 q3 q4 q5 q6 q7 q8 q9
        generalize w7 = V8 at *
        obtain ⟨x0, x1, x2, x3, x4, x5, x6, x7, x8, x9⟩ := ST2.out.z1.cells
        obtain ⟨y0, y1, y2, y3, y4, y5, y6, y7, y8, y9⟩ := ST2.out.z2.cells
        obtain ⟨u0, u1, u2, u3, u4, u5, u6, u7, u8, u9⟩ := ST2.out.f.cells
        obtain ⟨v0, v1, v2, v3, v4, v5, v6, v7, v8, v9⟩ := ST2.out.g.cells
        obtain ⟨k1, k2, k3, k4, k5, k6, -⟩ := ST2.out.dis
        go_region
        all_goals
          go_wp2
          have he := ST2.out.finD
          unfold setF at he
          refine bodyPost_ret (v := .tuple #[frV fe fi fr fd fao fl.length fcp, frV ge gi gr gd gao gl.length gcp]) (by simp [results, Tryz.results13, go_sem, x0, x1, x2, x3, x4, y0, y1, y2, y3, y4]) rfl (wpOut.mk fe fi fr fd fao fcp fl ge gi gr gd gao gcp gl HV.out HVG.out he)
end Go.Proofs.YtaamahohdnbpiaaGreat
