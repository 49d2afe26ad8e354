import Derived.Test.YtnefmdjodjpopaaCC
import Derived.Test.YtnefmdjodjpopaaCD
namespace Go.Proofs.Ytnefmdjodjpopaa
open Go.RowKit

/-- the two frames in blocks F and G -/
structure waI (w0 : World) (F G : Nat) (e1 : Bool) (i1 : Nat) (r1 : Bool) (d1 : Int) (ao1 : Option Addr) (n1 cp1 : Nat) (l1 : List Nat) (e2 : Bool) (i2 : Nat) (r2 : Bool) (d2 : Int) (ao2 : Option Addr) (n2 cp2 : Nat) (l2 : List Nat) (W : World) : Prop where
  f : frB W F e1 i1 r1 d1 (.slice ao1 n1 cp1)
  y1 : isBytes W ao1 n1 cp1 l1
  g : frB W G e2 i2 r2 d2 (.slice ao2 n2 cp2)
  y2 : isBytes W ao2 n2 cp2 l2
  bel : Below w0.heap.size w0 W
  le : w0.heap.size ≤ F ∧ w0.heap.size ≤ G
theorem waI.below {w0 : World} {F G : Nat} {e1 : Bool} {i1 : Nat} {r1 : Bool} {d1 : Int} {ao1 : Option Addr} {n1 cp1 : Nat} {l1 : List Nat} {e2 : Bool} {i2 : Nat} {r2 : Bool} {d2 : Int} {ao2 : Option Addr} {n2 cp2 : Nat} {l2 : List Nat} {W W' : World} (h : waI w0 F G e1 i1 r1 d1 ao1 n1 cp1 l1 e2 i2 r2 d2 ao2 n2 cp2 l2 W) (hb : Below W.heap.size W W') : waI w0 F G e1 i1 r1 d1 ao1 n1 cp1 l1 e2 i2 r2 d2 ao2 n2 cp2 l2 W' :=
  ⟨(hb.block _ h.f.lt).trans h.f, h.y1.below hb, (hb.block _ h.g.lt).trans h.g, h.y2.below hb, h.bel.trans (hb.mono (by have := h.f.lt; have := h.le; omega)), h.le⟩
theorem waI.start {w w1 : World} {e1 : Bool} {i1 : Nat} {r1 : Bool} {d1 : Int} {ao1 : Option Addr} {n1 cp1 : Nat} {l1 : List Nat} {e2 : Bool} {i2 : Nat} {r2 : Bool} {d2 : Int} {ao2 : Option Addr} {n2 cp2 : Nat} {l2 : List Nat} (hy1 : isBytes w1 ao1 n1 cp1 l1) (hy2 : isBytes w1 ao2 n2 cp2 l2) (hb : Below w.heap.size w w1) :
    waI w w1.heap.size (w1.heap.size + 1) e1 i1 r1 d1 ao1 n1 cp1 l1 e2 i2 r2 d2 ao2 n2 cp2 l2 ((w1.alloc (.cells #[.bool e1, .int .u32 (i1 : Int), .bool r1, .int .i64 d1, .slice ao1 n1 cp1] 33)).alloc (.cells #[.bool e2, .int .u32 (i2 : Int), .bool r2, .int .i64 d2, .slice ao2 n2 cp2] 33)) := by
  have hz := hb.size
  have z1 : (w1.alloc (.cells #[.bool e1, .int .u32 (i1 : Int), .bool r1, .int .i64 d1, .slice ao1 n1 cp1] 33)).heap.size = w1.heap.size + 1 := by simp
  have hA : Below w1.heap.size w1 ((w1.alloc (.cells #[.bool e1, .int .u32 (i1 : Int), .bool r1, .int .i64 d1, .slice ao1 n1 cp1] 33)).alloc (.cells #[.bool e2, .int .u32 (i2 : Int), .bool r2, .int .i64 d2, .slice ao2 n2 cp2] 33)) := ((Below.refl _ _).alloc (Nat.le_refl _) _).alloc (by simp) _
  refine ⟨(Below.heap_alloc _ _ _ (by omega)).trans (heap_alloc_new w1 _), hy1.below hA, ?_, hy2.below hA, hb.trans (hA.mono hz), hz, by omega⟩
  have := heap_alloc_new (w1.alloc (.cells #[.bool e1, .int .u32 (i1 : Int), .bool r1, .int .i64 d1, .slice ao1 n1 cp1] 33)) (.cells #[.bool e2, .int .u32 (i2 : Int), .bool r2, .int .i64 d2, .slice ao2 n2 cp2] 33)
  rw [z1] at this
  exact this
theorem wa_S {w : World} {F G : Nat} {e1 : Bool} {i1 : Nat} {r1 : Bool} {d1 : Int} {ao1 : Option Addr} {n1 cp1 : Nat} {l1 : List Nat} {e2 : Bool} {i2 : Nat} {r2 : Bool} {d2 : Int} {ao2 : Option Addr} {n2 cp2 : Nat} {l2 : List Nat} {W : World} (h : waI w F G e1 i1 r1 d1 ao1 n1 cp1 l1 e2 i2 r2 d2 ao2 n2 cp2 l2 W) :
    W.cell? ⟨F, 0, none⟩ = some (.bool e1) ∧ W.cell? ⟨F, 1, none⟩ = some (.int .u32 (i1 : Int)) ∧ W.cell? ⟨F, 2, none⟩ = some (.bool r1) ∧ W.cell? ⟨F, 3, none⟩ = some (.int .i64 d1) ∧ W.cell? ⟨F, 4, none⟩ = some (.slice ao1 n1 cp1) ∧ W.cell? ⟨G, 0, none⟩ = some (.bool e2) ∧ W.cell? ⟨G, 1, none⟩ = some (.int .u32 (i2 : Int)) ∧ W.cell? ⟨G, 2, none⟩ = some (.bool r2) ∧ W.cell? ⟨G, 3, none⟩ = some (.int .i64 d2) ∧ W.cell? ⟨G, 4, none⟩ = some (.slice ao2 n2 cp2) ∧ waI w F G e1 i1 r1 d1 ao1 n1 cp1 l1 e2 i2 r2 d2 ao2 n2 cp2 l2 W := by
  obtain ⟨p0, p1, p2, p3, p4, -⟩ := h.f.cells
  obtain ⟨q0, q1, q2, q3, q4, -⟩ := h.g.cells
  exact ⟨p0, p1, p2, p3, p4, q0, q1, q2, q3, q4, h⟩
theorem wa_O {w : World} {F G : Nat} {e1 : Bool} {i1 : Nat} {r1 : Bool} {d1 : Int} {ao1 : Option Addr} {n1 cp1 : Nat} {l1 : List Nat} {e2 : Bool} {i2 : Nat} {r2 : Bool} {d2 : Int} {ao2 : Option Addr} {n2 cp2 : Nat} {l2 : List Nat} {W : World} (h : W.cell? ⟨F, 0, none⟩ = some (.bool e1) ∧ W.cell? ⟨F, 1, none⟩ = some (.int .u32 (i1 : Int)) ∧ W.cell? ⟨F, 2, none⟩ = some (.bool r1) ∧ W.cell? ⟨F, 3, none⟩ = some (.int .i64 d1) ∧ W.cell? ⟨F, 4, none⟩ = some (.slice ao1 n1 cp1) ∧ W.cell? ⟨G, 0, none⟩ = some (.bool e2) ∧ W.cell? ⟨G, 1, none⟩ = some (.int .u32 (i2 : Int)) ∧ W.cell? ⟨G, 2, none⟩ = some (.bool r2) ∧ W.cell? ⟨G, 3, none⟩ = some (.int .i64 d2) ∧ W.cell? ⟨G, 4, none⟩ = some (.slice ao2 n2 cp2) ∧ waI w F G e1 i1 r1 d1 ao1 n1 cp1 l1 e2 i2 r2 d2 ao2 n2 cp2 l2 W) : waI w F G e1 i1 r1 d1 ao1 n1 cp1 l1 e2 i2 r2 d2 ao2 n2 cp2 l2 W := h.2.2.2.2.2.2.2.2.2.2
theorem strN_get2 (L : List Nat) (i : Nat) (hi : i < L.length) (hs : ∀ x ∈ L, x < 256) (h : i < (strN L).size) : ((strN L)[i]'h).toNat = L.getD i 0 := by
  rw [← lt_at (strN L) i h (by rw [lt_strN L hs]; exact hi)]
  simp [lt_strN L hs, hi]
theorem valid_len {e : Bool} {i : Nat} {r : Bool} {d : Int} {n : Nat} (h : validB e i r d n = true) : n ≤ 8 := by
  unfold validB dl at h
  simp only [Bool.and_eq_true, beq_iff_eq] at h
  have h4 := h.2
  split at h4
  · omega
  · split at h4 <;> omega
theorem img256 (e : Bool) (i : Nat) (r : Bool) (d : Nat) (l : List Nat) (hl : l.length ≤ 8) : (∀ x ∈ M.stuffL (plainL e i r d l) ++ List.replicate 10 49, x < 256) ∧ (M.stuffL (plainL e i r d l) ++ List.replicate 10 49).length ≤ 1000 := by
  constructor
  · intro x hx
    rw [List.mem_append] at hx
    rcases hx with hx | hx
    · rcases M.stuff_all _ (plainL_isL e i r d l) x hx with h | h <;> omega
    · have := (List.mem_replicate.1 hx).2; omega
  · have h1 := M.stuff_len (plainL e i r d l)
    have h2 := bodyL_length e i r d l
    have h3 : (plainL e i r d l).length = (bodyL e i r d l).length + 15 := by unfold plainL; rw [List.length_append, M.num_length]
    rw [List.length_append, List.length_replicate]
    cases e <;> simp at h2 <;> omega
theorem less_at (q : List Nat) (c d : Nat) (tx ty : List Nat) {bb : Bool} (h1 : UInt8.ofNat c ≠ UInt8.ofNat d) (h2 : decide (UInt8.ofNat c < UInt8.ofNat d) = bb) : Op.bytesLess ((q ++ c :: tx).map UInt8.ofNat) ((q ++ d :: ty).map UInt8.ofNat) = bb := by
  induction q with
  | nil =>
    show (decide (UInt8.ofNat c < UInt8.ofNat d) || (UInt8.ofNat c == UInt8.ofNat d && _)) = bb
    rw [beq_eq_false_iff_ne.2 h1, Bool.false_and, Bool.or_false]
    exact h2
  | cons x q ih =>
    show (decide (UInt8.ofNat x < UInt8.ofNat x) || (UInt8.ofNat x == UInt8.ofNat x && Op.bytesLess ((q ++ c :: tx).map UInt8.ofNat) ((q ++ d :: ty).map UInt8.ofNat))) = bb
    rw [ih]
    simp
set_option maxHeartbeats 8000000 in
set_option maxRecDepth 20000 in
/-- laws.FnArbitration -/
theorem lawArbitration (a : Option Addr) (n cap : Nat) (l : List Nat) (b : Option Addr) (m cpm : Nat) (lm : List Nat) (w : World) (h : isBytes w a n cap l) (hn : n ≤ 9223372036854775807) (h' : isBytes w b m cpm lm) (hm : m ≤ 9223372036854775807) :
    Calls Try.prog 11 #[.slice a n cap, .slice b m cpm] w fun o w' => o = .returned (.bool true) ∧ Below w.heap.size w w' := by
  by_cases hl : (1048576 : Int) < (n : Int)
  · clear h h'
    go_enter Try.func11, Try.ntmps11
    go_wp2
    go_ret
    exact ⟨rfl, Below.refl _ _⟩
  · by_cases hl2 : (1048576 : Int) < (m : Int)
    · clear h h'
      go_enter Try.func11, Try.ntmps11
      go_wp2
      go_ret
      exact ⟨rfl, Below.refl _ _⟩
    · have HP : Hid (Calls Try.prog 35 #[.slice a n cap, .slice b m cpm] w fun o w' => wpOut w o w') := wPair_any w a n cap l b m cpm lm h (by omega) h' (by omega)
      clear h h' hn hm
      go_enter Try.func11, Try.ntmps11
      go_wp2_with fail
      refine HP.out.mono ?_
      rintro o w1 ⟨e1, i1, r1, d1, ao1, cp1, l1, e2, i2, r2, d2, ao2, cp2, l2, rfl, hv1, hv2, hy1, hy2, hb⟩
      have st := waI.start (e1 := e1) (i1 := i1) (r1 := r1) (d1 := d1) (e2 := e2) (i2 := i2) (r2 := r2) (d2 := d2) hy1 hy2 hb
      clear hy1 hy2 hb
      obtain ⟨p0, p1, p2, p3, p4, p5, p6, p7, p8, p9⟩ := st.f.cells
      obtain ⟨q0, q1, q2, q3, q4, q5, q6, q7, q8, q9⟩ := st.g.cells
      have ST : Hid (waI w w1.heap.size (w1.heap.size + 1) e1 i1 r1 d1 ao1 l1.length cp1 l1 e2 i2 r2 d2 ao2 l2.length cp2 l2 ((w1.alloc (.cells #[.bool e1, .int .u32 (i1 : Int), .bool r1, .int .i64 d1, .slice ao1 l1.length cp1] 33)).alloc (.cells #[.bool e2, .int .u32 (i2 : Int), .bool r2, .int .i64 d2, .slice ao2 l2.length cp2] 33))) := st
      clear st
      have hz1 : arbZ e1 i1 r1 d1 l1.length = strN (arbL e1 i1 r1) := by unfold arbZ; rw [if_pos hv1]
      have he1 : encZ e1 i1 r1 d1 l1.length l1 = strN (M.stuffL (plainL e1 i1 r1 d1.toNat l1) ++ List.replicate 10 49) := by unfold encZ; rw [if_pos hv1]
      have A1 : Hid (∀ W, isBytes W ao1 l1.length cp1 l1 → Calls Try.prog 33 #[frV e1 i1 r1 d1 ao1 l1.length cp1] W fun o w' => o = .returned (.string (strN (arbL e1 i1 r1))) ∧ Below W.heap.size W w') := by
        intro W hW; have := arb_any W e1 i1 r1 d1 ao1 l1.length cp1 l1 hW; rw [hz1] at this; exact this
      have B1 : Hid (∀ W, isBytes W ao1 l1.length cp1 l1 → Calls Try.prog 32 #[frV e1 i1 r1 d1 ao1 l1.length cp1] W fun o w' => o = .returned (.string (strN (arbL e1 i1 r1))) ∧ Below W.heap.size W w') := by
        intro W hW; have := specArb_any W e1 i1 r1 d1 ao1 l1.length cp1 l1 hW; rw [hz1] at this; exact this
      have C1 : Hid (∀ W, isBytes W ao1 l1.length cp1 l1 → Calls Try.prog 36 #[frV e1 i1 r1 d1 ao1 l1.length cp1] W fun o w' => o = .returned (.string (strN (M.stuffL (plainL e1 i1 r1 d1.toNat l1) ++ List.replicate 10 49))) ∧ Below W.heap.size W w') := by
        intro W hW; have := encode_any W e1 i1 r1 d1 ao1 l1.length cp1 l1 hW; rw [he1] at this; exact this
      have hz2 : arbZ e2 i2 r2 d2 l2.length = strN (arbL e2 i2 r2) := by unfold arbZ; rw [if_pos hv2]
      have he2 : encZ e2 i2 r2 d2 l2.length l2 = strN (M.stuffL (plainL e2 i2 r2 d2.toNat l2) ++ List.replicate 10 49) := by unfold encZ; rw [if_pos hv2]
      have A2 : Hid (∀ W, isBytes W ao2 l2.length cp2 l2 → Calls Try.prog 33 #[frV e2 i2 r2 d2 ao2 l2.length cp2] W fun o w' => o = .returned (.string (strN (arbL e2 i2 r2))) ∧ Below W.heap.size W w') := by
        intro W hW; have := arb_any W e2 i2 r2 d2 ao2 l2.length cp2 l2 hW; rw [hz2] at this; exact this
      have B2 : Hid (∀ W, isBytes W ao2 l2.length cp2 l2 → Calls Try.prog 32 #[frV e2 i2 r2 d2 ao2 l2.length cp2] W fun o w' => o = .returned (.string (strN (arbL e2 i2 r2))) ∧ Below W.heap.size W w') := by
        intro W hW; have := specArb_any W e2 i2 r2 d2 ao2 l2.length cp2 l2 hW; rw [hz2] at this; exact this
      have C2 : Hid (∀ W, isBytes W ao2 l2.length cp2 l2 → Calls Try.prog 36 #[frV e2 i2 r2 d2 ao2 l2.length cp2] W fun o w' => o = .returned (.string (strN (M.stuffL (plainL e2 i2 r2 d2.toNat l2) ++ List.replicate 10 49))) ∧ Below W.heap.size W w') := by
        intro W hW; have := encode_any W e2 i2 r2 d2 ao2 l2.length cp2 l2 hW; rw [he2] at this; exact this
      have hX8 : (strN (arbL e1 i1 r1)).size ≤ 32 := by rw [strN_size]; exact arbL_length _ _ _
      have hY8 : (strN (arbL e2 i2 r2)).size ≤ 32 := by rw [strN_size]; exact arbL_length _ _ _
      have HL8 : Hid (l1.length ≤ 8 ∧ l2.length ≤ 8) := ⟨valid_len hv1, valid_len hv2⟩
      clear hz1 hz2 he1 he2 hv1 hv2
      have HXY : Hid (strN (arbL e1 i1 r1) = strN (arbL e2 i2 r2) ↔ arbL e1 i1 r1 = arbL e2 i2 r2) := ⟨fun e => by have := congrArg lt e; rwa [lt_strN _ (fun x hx => by rcases arbL_isL e1 i1 r1 x hx with h | h <;> omega), lt_strN _ (fun x hx => by rcases arbL_isL e2 i2 r2 x hx with h | h <;> omega)] at this, fun e => by rw [e]⟩
      go_wp2_with fail
      refine (A1.out _ ST.out.y1).mono ?_
      rintro o w2 ⟨rfl, hb⟩
      have st := ST.out.below hb
      clear ST hb p0 p1 p2 p3 p4 p5 p6 p7 p8 p9 q0 q1 q2 q3 q4 q5 q6 q7 q8 q9
      have hG : w1.heap.size + 1 = w1.heap.size + 1 := rfl
      generalize w1.heap.size + 1 = G at *
      generalize w1.heap.size = F at *
      clear hG
      obtain ⟨p0, p1, p2, p3, p4, p5, p6, p7, p8, p9⟩ := st.f.cells
      obtain ⟨q0, q1, q2, q3, q4, q5, q6, q7, q8, q9⟩ := st.g.cells
      have ST : Hid (waI w F G e1 i1 r1 d1 ao1 l1.length cp1 l1 e2 i2 r2 d2 ao2 l2.length cp2 l2 w2) := st
      clear st
      go_wp2_with fail
      refine (A2.out _ ST.out.y2).mono ?_
      rintro o w3 ⟨rfl, hb⟩
      have st := ST.out.below hb
      clear ST hb p0 p1 p2 p3 p4 p5 p6 p7 p8 p9 q0 q1 q2 q3 q4 q5 q6 q7 q8 q9
      obtain ⟨p0, p1, p2, p3, p4, p5, p6, p7, p8, p9⟩ := st.f.cells
      obtain ⟨q0, q1, q2, q3, q4, q5, q6, q7, q8, q9⟩ := st.g.cells
      have ST : Hid (waI w F G e1 i1 r1 d1 ao1 l1.length cp1 l1 e2 i2 r2 d2 ao2 l2.length cp2 l2 w3) := st
      clear st
      go_wp2_with fail
      refine (B1.out _ ST.out.y1).mono ?_
      rintro o w4 ⟨rfl, hb⟩
      have st := ST.out.below hb
      clear ST hb p0 p1 p2 p3 p4 p5 p6 p7 p8 p9 q0 q1 q2 q3 q4 q5 q6 q7 q8 q9
      obtain ⟨p0, p1, p2, p3, p4, p5, p6, p7, p8, p9⟩ := st.f.cells
      obtain ⟨q0, q1, q2, q3, q4, q5, q6, q7, q8, q9⟩ := st.g.cells
      have ST : Hid (waI w F G e1 i1 r1 d1 ao1 l1.length cp1 l1 e2 i2 r2 d2 ao2 l2.length cp2 l2 w4) := st
      clear st
      go_wp2_with fail
      refine (B2.out _ ST.out.y2).mono ?_
      rintro o w5 ⟨rfl, hb⟩
      have st := ST.out.below hb
      clear ST hb p0 p1 p2 p3 p4 p5 p6 p7 p8 p9 q0 q1 q2 q3 q4 q5 q6 q7 q8 q9
      obtain ⟨p0, p1, p2, p3, p4, p5, p6, p7, p8, p9⟩ := st.f.cells
      obtain ⟨q0, q1, q2, q3, q4, q5, q6, q7, q8, q9⟩ := st.g.cells
      have ST : Hid (waI w F G e1 i1 r1 d1 ao1 l1.length cp1 l1 e2 i2 r2 d2 ao2 l2.length cp2 l2 w5) := st
      clear st
      by_cases hxy : arbL e1 i1 r1 = arbL e2 i2 r2
      · have heq : strN (arbL e1 i1 r1) = strN (arbL e2 i2 r2) := HXY.out.2 hxy
        have S0 := wa_S (ST.out.below (Below.refl _ _).drew)
        clear p0 p1 p2 p3 p4 p5 p6 p7 p8 p9 q0 q1 q2 q3 q4 q5 q6 q7 q8 q9
        obtain ⟨p0, p1, p2, p3, p4, -⟩ := ST.out.f.cells
        obtain ⟨q0, q1, q2, q3, q4, -⟩ := ST.out.g.cells
        go_wp2_with fail
        go_region_held3 (fun V => V.cell? ⟨F, 0, none⟩ = some (.bool e1) ∧ V.cell? ⟨F, 1, none⟩ = some (.int .u32 (i1 : Int)) ∧ V.cell? ⟨F, 2, none⟩ = some (.bool r1) ∧ V.cell? ⟨F, 3, none⟩ = some (.int .i64 d1) ∧ V.cell? ⟨F, 4, none⟩ = some (.slice ao1 l1.length cp1) ∧ V.cell? ⟨G, 0, none⟩ = some (.bool e2) ∧ V.cell? ⟨G, 1, none⟩ = some (.int .u32 (i2 : Int)) ∧ V.cell? ⟨G, 2, none⟩ = some (.bool r2) ∧ V.cell? ⟨G, 3, none⟩ = some (.int .i64 d2) ∧ V.cell? ⟨G, 4, none⟩ = some (.slice ao2 l2.length cp2) ∧ waI w F G e1 i1 r1 d1 ao1 l1.length cp1 l1 e2 i2 r2 d2 ao2 l2.length cp2 l2 V) (first | exact S7 | exact S6 | exact S0) (first | (go_at_call 32; have _g := S6; refine (B2.out _ st6.y2).mono ?_; rintro o w7 ⟨rfl, hb7⟩; have st7 := st6.below hb7; have S7 := wa_S st7) | (go_at_call 32; refine (B1.out _ (wa_O S0).y1).mono ?_; rintro o w6 ⟨rfl, hb6⟩; have st6 := (wa_O S0).below hb6; have S6 := wa_S st6))
        have HB : Hid (Below w.heap.size w w7) := st7.bel
        clear S0 S6 S7 st6 st7 hb6 hb7 p0 p1 p2 p3 p4 q0 q1 q2 q3 q4
        go_wp2
        go_ret
        exact ⟨rfl, HB.out⟩
      · have hne : ¬ strN (arbL e1 i1 r1) = strN (arbL e2 i2 r2) := fun e => hxy (HXY.out.1 e)
        have hneB : ((strN (arbL e1 i1 r1)).toList == (strN (arbL e2 i2 r2)).toList) = false := by
          rw [beq_eq_false_iff_ne, toList_strN, toList_strN]
          intro e
          exact hxy (strN_inj (fun x hx => by rcases arbL_isL e1 i1 r1 x hx with h | h <;> omega) (fun x hx => by rcases arbL_isL e2 i2 r2 x hx with h | h <;> omega) e)
        obtain ⟨p, c, d, q, tx, ty, ux, uy, a1, a2, a3, a4, a5⟩ := arb_diff e1 i1 r1 d1.toNat l1 e2 i2 r2 d2.toNat l2 hxy (List.replicate 10 49)
        have H1 := img256 e1 i1 r1 d1.toNat l1 HL8.out.1
        have H2 := img256 e2 i2 r2 d2.toNat l2 HL8.out.2
        rw [a3] at C1 H1
        rw [a4] at C2 H2
        have hcd : M.isL c ∧ M.isL d := ⟨arbL_isL e1 i1 r1 c (by rw [a1]; simp), arbL_isL e2 i2 r2 d (by rw [a2]; simp)⟩
        have HA : Hid (∀ k (h : k < (strN (p ++ c :: ux)).size), ((strN (p ++ c :: ux))[k]'h).toNat = (p ++ c :: ux).getD k 0) := fun k h => strN_get2 _ k (by rw [strN_size] at h; exact h) H1.1 h
        have HBb : Hid (∀ k (h : k < (strN (p ++ d :: uy)).size), ((strN (p ++ d :: uy))[k]'h).toNat = (p ++ d :: uy).getD k 0) := fun k h => strN_get2 _ k (by rw [strN_size] at h; exact h) H2.1 h
        have hsA : (strN (p ++ c :: ux)).size = p.length + (ux.length + 1) := by rw [strN_size]; simp
        have hsB : (strN (p ++ d :: uy)).size = p.length + (uy.length + 1) := by rw [strN_size]; simp
        have HLn : Hid (p.length + (ux.length + 1) ≤ 1000 ∧ p.length + (uy.length + 1) ≤ 1000) := ⟨by have := H1.2; simpa using this, by have := H2.2; simpa using this⟩
        have HSm : Hid (M.isL c ∧ M.isL d ∧ c ≠ d) := ⟨hcd.1, hcd.2, a5⟩
        have HA12 : Hid (arbL e1 i1 r1 = q ++ c :: tx ∧ arbL e2 i2 r2 = q ++ d :: ty) := ⟨a1, a2⟩
        clear a1 a2 a3 a4 a5 H1 H2 hcd
        go_wp2_with fail
        refine (C1.out _ ST.out.y1).mono ?_
        rintro o w6 ⟨rfl, hb⟩
        have st := ST.out.below hb
        clear ST hb p0 p1 p2 p3 p4 p5 p6 p7 p8 p9 q0 q1 q2 q3 q4 q5 q6 q7 q8 q9 C1
        obtain ⟨p0, p1, p2, p3, p4, -⟩ := st.f.cells
        obtain ⟨q0, q1, q2, q3, q4, -⟩ := st.g.cells
        have ST : Hid (waI w F G e1 i1 r1 d1 ao1 l1.length cp1 l1 e2 i2 r2 d2 ao2 l2.length cp2 l2 w6) := st
        clear st
        go_wp2_with fail
        refine (C2.out _ ST.out.y2).mono ?_
        rintro o w7 ⟨rfl, hb⟩
        have st := ST.out.below hb
        clear ST hb p0 p1 p2 p3 p4 q0 q1 q2 q3 q4 C2
        generalize hSA : strN (p ++ c :: ux) = sA at *
        generalize hSB : strN (p ++ d :: uy) = sB at *
        generalize hX : strN (arbL e1 i1 r1) = X at *
        generalize hY : strN (arbL e2 i2 r2) = Y at *
        have HXY2 : Hid (strN (q ++ c :: tx) = X ∧ strN (q ++ d :: ty) = Y) := ⟨by rw [← HA12.out.1]; exact hX, by rw [← HA12.out.2]; exact hY⟩
        clear hSA hSB hX hY hxy HXY HA12
        go_wp2_with fail
        go_loopw [11] (fun ii wr => ∃ k : Nat, k ≤ p.length ∧ ii = .int .i64 (k : Int) ∧ waI w F G e1 i1 r1 d1 ao1 l1.length cp1 l1 e2 i2 r2 d2 ao2 l2.length cp2 l2 wr) (fun ii _ => p.length - (intOf ii).toNat)
        case atStart => exact ⟨0, Nat.zero_le _, rfl, st⟩
        case round =>
          clear st
          obtain ⟨k, hk, rfl, st⟩ := hrel
          have hkA : k < sA.size := by omega
          have hkB : k < sB.size := by omega
          have ST : Hid (waI w F G e1 i1 r1 d1 ao1 l1.length cp1 l1 e2 i2 r2 d2 ao2 l2.length cp2 l2 wr) := st
          clear st
          have gA := HA.out k hkA
          have gB := HBb.out k hkB
          by_cases hlt : k < p.length
          · have e1' : (p ++ c :: ux).getD k 0 = p.getD k 0 := by rw [List.getD_eq_getElem?_getD, List.getElem?_append_left hlt, List.getD_eq_getElem?_getD]
            have e2' : (p ++ d :: uy).getD k 0 = p.getD k 0 := by rw [List.getD_eq_getElem?_getD, List.getElem?_append_left hlt, List.getD_eq_getElem?_getD]
            rw [e1'] at gA
            rw [e2'] at gB
            generalize p.getD k 0 = xx at *
            have HLk : Hid (k < p.length) := hlt
            have hk1 : k ≤ 1000 := by have := HLn.out; omega
            clear e1' e2' hlt hk
            have hlA : (k : Int) < ((p.length + (ux.length + 1) : Nat) : Int) := by omega
            have hlB : (k : Int) < ((p.length + (uy.length + 1) : Nat) : Int) := by omega
            generalize p.length + (ux.length + 1) = nA at *
            generalize p.length + (uy.length + 1) = nB at *
            go_wp2
            go_region
            all_goals
              go_wp2
              go_roundw
              case rel => exact ⟨k + 1, HLk.out, by go_num, ST.out.below (Below.refl _ _).drew⟩
              case measure => have := HLk.out; simp [intOf]; omega
          · have hkp : k = p.length := by omega
            have e1' : (p ++ c :: ux).getD k 0 = c := by rw [hkp, List.getD_eq_getElem?_getD, List.getElem?_append_right (Nat.le_refl _), Nat.sub_self]; rfl
            have e2' : (p ++ d :: uy).getD k 0 = d := by rw [hkp, List.getD_eq_getElem?_getD, List.getElem?_append_right (Nat.le_refl _), Nat.sub_self]; rfl
            rw [e1'] at gA
            rw [e2'] at gB
            have hcdB : ((c : Int) == (d : Int)) = false := by have := HSm.out.2.2; simp; omega
            have hlA : (k : Int) < ((p.length + (ux.length + 1) : Nat) : Int) := by omega
            have hlB : (k : Int) < ((p.length + (uy.length + 1) : Nat) : Int) := by omega
            have hkb : k ≤ 1000 := by have := HLn.out; omega
            clear e1' e2' hlt hk hkp
            generalize p.length + (ux.length + 1) = nA at *
            generalize p.length + (uy.length + 1) = nB at *
            go_wp2
            go_region
            all_goals
              have st := ST.out.below (Below.refl _ _).drew
              have S0 := wa_S (st.below (Below.refl _ _).drew)
              obtain ⟨p0, p1, p2, p3, p4, -⟩ := st.f.cells
              obtain ⟨q0, q1, q2, q3, q4, -⟩ := st.g.cells
              clear ST
              generalize wr.drew = V0 at *
              rcases (show (c = 48 ∧ d = 49) ∨ (c = 49 ∧ d = 48) from by have := HSm.out; unfold M.isL at this; omega) with ⟨rfl, rfl⟩ | ⟨rfl, rfl⟩
              · have hless : Op.bytesLess X.toList Y.toList = true := by rw [← HXY2.out.1, ← HXY2.out.2, toList_strN, toList_strN]; exact less_at q 48 49 tx ty (by decide) (by decide)
                go_wp2_with fail
                go_region_held3 (fun V => V.cell? ⟨F, 0, none⟩ = some (.bool e1) ∧ V.cell? ⟨F, 1, none⟩ = some (.int .u32 (i1 : Int)) ∧ V.cell? ⟨F, 2, none⟩ = some (.bool r1) ∧ V.cell? ⟨F, 3, none⟩ = some (.int .i64 d1) ∧ V.cell? ⟨F, 4, none⟩ = some (.slice ao1 l1.length cp1) ∧ V.cell? ⟨G, 0, none⟩ = some (.bool e2) ∧ V.cell? ⟨G, 1, none⟩ = some (.int .u32 (i2 : Int)) ∧ V.cell? ⟨G, 2, none⟩ = some (.bool r2) ∧ V.cell? ⟨G, 3, none⟩ = some (.int .i64 d2) ∧ V.cell? ⟨G, 4, none⟩ = some (.slice ao2 l2.length cp2) ∧ waI w F G e1 i1 r1 d1 ao1 l1.length cp1 l1 e2 i2 r2 d2 ao2 l2.length cp2 l2 V) (first | exact S7 | exact S6 | exact S0) (first | (go_at_call 32; have _g := S6; refine (B2.out _ st6.y2).mono ?_; rintro o w7 ⟨rfl, hb7⟩; have st7 := st6.below hb7; have S7 := wa_S st7) | (go_at_call 32; refine (B1.out _ (wa_O S0).y1).mono ?_; rintro o w6 ⟨rfl, hb6⟩; have st6 := (wa_O S0).below hb6; have S6 := wa_S st6))
                have HB : Hid (Below w.heap.size w w7) := st7.bel
                clear S0 S6 S7 st6 st7 hb6 hb7 p0 p1 p2 p3 p4 q0 q1 q2 q3 q4 st
                go_wp2
                go_ret
                exact ⟨rfl, HB.out⟩
              · have hless : Op.bytesLess X.toList Y.toList = false := by rw [← HXY2.out.1, ← HXY2.out.2, toList_strN, toList_strN]; exact less_at q 49 48 tx ty (by decide) (by decide)
                go_wp2_with fail
                go_region_held3 (fun V => V.cell? ⟨F, 0, none⟩ = some (.bool e1) ∧ V.cell? ⟨F, 1, none⟩ = some (.int .u32 (i1 : Int)) ∧ V.cell? ⟨F, 2, none⟩ = some (.bool r1) ∧ V.cell? ⟨F, 3, none⟩ = some (.int .i64 d1) ∧ V.cell? ⟨F, 4, none⟩ = some (.slice ao1 l1.length cp1) ∧ V.cell? ⟨G, 0, none⟩ = some (.bool e2) ∧ V.cell? ⟨G, 1, none⟩ = some (.int .u32 (i2 : Int)) ∧ V.cell? ⟨G, 2, none⟩ = some (.bool r2) ∧ V.cell? ⟨G, 3, none⟩ = some (.int .i64 d2) ∧ V.cell? ⟨G, 4, none⟩ = some (.slice ao2 l2.length cp2) ∧ waI w F G e1 i1 r1 d1 ao1 l1.length cp1 l1 e2 i2 r2 d2 ao2 l2.length cp2 l2 V) (first | exact S7 | exact S6 | exact S0) (first | (go_at_call 32; have _g := S6; refine (B2.out _ st6.y2).mono ?_; rintro o w7 ⟨rfl, hb7⟩; have st7 := st6.below hb7; have S7 := wa_S st7) | (go_at_call 32; refine (B1.out _ (wa_O S0).y1).mono ?_; rintro o w6 ⟨rfl, hb6⟩; have st6 := (wa_O S0).below hb6; have S6 := wa_S st6))
                have HB : Hid (Below w.heap.size w w7) := st7.bel
                clear S0 S6 S7 st6 st7 hb6 hb7 p0 p1 p2 p3 p4 q0 q1 q2 q3 q4 st
                go_wp2
                go_ret
                exact ⟨rfl, HB.out⟩
end Go.Proofs.Ytnefmdjodjpopaa
