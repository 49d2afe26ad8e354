import Derived.Test.YtpknchjjfiiaeaaDoorT34
import Derived.Test.YtpknchjjfiiaeaaDoorT31
namespace Go.Proofs.YtpknchjjfiiaeaaDoor
open Go.RowKit
set_option linter.unusedVariables false
theorem spZ_len (e : Bool) (i : Nat) (r : Bool) (d : Int) (n : Nat) (l : List Nat) : (spZ e i r d n l).length ≤ 100 := by
  unfold spZ
  split
  · unfold imgS
    rw [List.length_append, spansL_len, spansL_len]
    have h1 : (lay e i r d.toNat l (J.M.crcN ((J.bodyL e i r d.toNat l).map (fun x => x - 48))) 1 11).length ≤ 16 := layF_len _ _ _ _ _
    have h2 : (lay e i r d.toNat l (J.M.crcN ((J.bodyL e i r d.toNat l).map (fun x => x - 48))) 11 15).length ≤ 16 := layF_len _ _ _ _ _
    omega
  · simp
theorem eqS_any (W : World) (B1 B2 : Nat) (v1 v2 : Value) (S : List (Nat × Nat × Nat)) (h1 : ownsS W B1 v1 S) (h2 : ownsS W B2 v2 S) (hn : S.length ≤ 1000) : Calls Tryd.prog 16 #[v1, v2] W fun o w' => o = .returned (.bool true) ∧ Below W.heap.size W w' := by
  by_cases hS : S = []
  · subst hS
    obtain ⟨a, k, rfl⟩ := h1.nil
    obtain ⟨a', k', rfl⟩ := h2.nil
    refine (eqSpanS_nil W a a' k k').mono ?_
    rintro o w' ⟨rfl, rfl⟩
    exact ⟨rfl, Below.refl _ _⟩
  · obtain ⟨g, k, rfl, r1⟩ := h1.row hS
    obtain ⟨g', k', rfl, r2⟩ := h2.row hS
    exact eqSpanS_row W g k g' k' S.length _ r1 r2 hn (World.ownsRow.lt h1 g rfl).2 (World.ownsRow.lt h2 g' rfl).2
theorem markS_any (W : World) (B : Nat) (v : Value) (S : List (Nat × Nat × Nat)) (h : ownsS W B v S) (hn : S.length ≤ 1000) (hB : B ≤ W.heap.size) : Calls Tryd.prog 17 #[v, .int .i64 1] W fun y w' => ∃ m : Nat, y = .returned (.int .i64 (m : Int)) ∧ Below B W w' ∧ ∀ W2, Below w'.heap.size w' W2 → Calls Tryd.prog 18 #[v, .int .i64 1] W2 fun y w2 => y = .returned (.int .i64 (m : Int)) ∧ Below W2.heap.size W2 w2 := by
  by_cases hS : S = []
  · subst hS
    obtain ⟨a, k, rfl⟩ := h.nil
    refine (markSpanS_nil W a k 1).mono ?_
    rintro o w' ⟨rfl, rfl⟩
    refine ⟨1, rfl, Below.refl _ _, fun W2 _ => (heldSpanS_nil W2 a k 1).mono ?_⟩
    rintro o w2 ⟨rfl, rfl⟩
    exact ⟨rfl, Below.refl _ _⟩
  · obtain ⟨g, k, rfl, r1⟩ := h.row hS
    have hg := World.ownsRow.lt h g rfl
    refine (markSpanS_row W g S.length k 1 _ r1 hn (by omega)).mono ?_
    rintro o w' ⟨rfl, q1, q2, q3⟩
    refine ⟨_, rfl, q3.mono hg.1, fun W2 hW2 => (heldSpanS_row W2 g S.length k 1 (q1.up (hW2.block g (Nat.lt_of_lt_of_le hg.2 q3.size))) hn (by omega)).mono ?_⟩
    rintro o w2 ⟨rfl, rfl⟩
    exact ⟨rfl, Below.refl _ _⟩
/-- what stands while the law goes on -/
structure lsI (w : World) (FA FX : List Value) (gx bx B1 : Nat) (v0 v1 : Value) (S : List (Nat × Nat × Nat)) (W : World) : Prop where
  p : Kd.blk W w.heap.size FA 25
  x : Kd.blk W bx FX 31
  o0 : ownsS W (w.heap.size + 1) v0 S
  o1 : ownsS W B1 v1 S
  lt0 : ∀ g, v0.ownBlock = some g → g < gx
  bel : Below w.heap.size w W
  z : w.heap.size < gx ∧ gx < bx ∧ bx < B1 ∧ B1 ≤ W.heap.size
structure lsJ (w : World) (FA : List Value) (v0 : Value) (S : List (Nat × Nat × Nat)) (W : World) : Prop where
  p : Kd.blk W w.heap.size FA 25
  o0 : ownsS W (w.heap.size + 1) v0 S
  bel : Below w.heap.size w W
theorem lsI.below {w : World} {FA FX : List Value} {gx bx B1 : Nat} {v0 v1 : Value} {S : List (Nat × Nat × Nat)} {W W' : World} (h : lsI w FA FX gx bx B1 v0 v1 S W) (hb : Below W.heap.size W W') : lsI w FA FX gx bx B1 v0 v1 S W' :=
  ⟨h.p.below hb, h.x.below hb, h.o0.below hb, h.o1.below hb, h.lt0, h.bel.trans (hb.mono h.bel.size), ⟨h.z.1, h.z.2.1, h.z.2.2.1, Nat.le_trans h.z.2.2.2 hb.size⟩⟩
theorem lsJ.below {w : World} {FA : List Value} {v0 : Value} {S : List (Nat × Nat × Nat)} {W W' : World} (h : lsJ w FA v0 S W) (hb : Below W.heap.size W W') : lsJ w FA v0 S W' := ⟨h.p.below hb, h.o0.below hb, h.bel.trans (hb.mono h.bel.size)⟩
/-- behind the mark of the frame -/
theorem lsI.xmark {w : World} {FA FX : List Value} {gx bx B1 : Nat} {v0 v1 : Value} {S : List (Nat × Nat × Nat)} {W W' : World} {n c : Nat} (h : lsI w FA FX gx bx B1 v0 v1 S W) (hk : Kd.mkd W W' gx n c) : lsI w FA FX gx bx B1 v0 v1 S W' := by
  have hz := h.z
  refine ⟨h.p.kept (hk.oth _ (by omega) h.p.lt), h.x.kept (hk.oth _ (by omega) h.x.lt), h.o0.otherBlock fun g hg => hk.oth g ?_ (World.ownsRow.lt h.o0 g hg).2, h.o1.otherBlock fun g hg => hk.oth g ?_ (World.ownsRow.lt h.o1 g hg).2, h.lt0, h.bel.trans (hk.bel.mono (by omega)), ⟨hz.1, hz.2.1, hz.2.2.1, Nat.le_trans hz.2.2.2 hk.bel.size⟩⟩
  · have := h.lt0 g hg; omega
  · have := (World.ownsRow.lt h.o1 g hg).1; omega
/-- behind the mark of the answer -/
theorem lsI.gmark {w : World} {FA FX : List Value} {gx bx B1 : Nat} {v0 v1 : Value} {S : List (Nat × Nat × Nat)} {W W' : World} (h : lsI w FA FX gx bx B1 v0 v1 S W) (hb : Below B1 W W') : lsJ w FA v0 S W' := by
  have hz := h.z
  exact ⟨h.p.kept (hb.block _ (by omega)), h.o0.otherBlock fun g hg => hb.block g (by have := h.lt0 g hg; omega), h.bel.trans (hb.mono (by omega))⟩
set_option maxHeartbeats 16000000 in
set_option maxRecDepth 40000 in
/-- laws.FnExactSpans -/
theorem lawSpans (e : Bool) (i : Nat) (r : Bool) (d : Int) (a : Option Addr) (n cap : Nat) (l : List Nat) (w : World) (h : J.isBytes w a n cap l) (hn : n ≤ 9223372036854775807) (tab : w.rangeAt 0 0 Kd.tabL) (hz0 : 0 < w.heap.size) :
    Calls Tryd.prog 4 #[.agg [.bool e, .int .u32 (i : Int), .bool r, .int .i64 d, .slice a n cap].toArray] w fun o w' => o = .returned (.bool true) ∧ Below w.heap.size w w' := by
  by_cases hl : (n : Int) ≤ ((1048576 : Nat) : Int)
  · have hN : n ≤ 1048576 := by omega
    have HS : Hid (∀ W, Calls Tryd.prog 5 #[.agg [.bool e, .int .u32 (i : Int), .bool r, .int .i64 d, .slice a n cap].toArray, .int .i64 1048576] W fun o w' => o = .returned (.int .i64 (1048576 - (n : Int))) ∧ Below W.heap.size W w') := by
      intro W
      have := J.szFrame_any W e i r d a n cap 1048576 hn (by omega)
      rw [if_pos hl] at this
      refine this.mono ?_
      rintro o w' ⟨rfl, rfl⟩
      exact ⟨rfl, (Below.refl _ _).alloc (Nat.le_refl _) _⟩
    have HT : Hid (∀ W, Below w.heap.size w W → Calls Tryd.prog 7 #[.agg [.bool e, .int .u32 (i : Int), .bool r, .int .i64 d, .slice a n cap].toArray] W fun o w' => ∃ g, o = .returned (.agg [.bool e, .int .u32 (i : Int), .bool r, .int .i64 d, .slice (some ⟨g, 0, none⟩) n n].toArray) ∧ J.isBytes w' (some ⟨g, 0, none⟩) n n l ∧ Below W.heap.size W w' ∧ W.heap.size ≤ g ∧ g < w'.heap.size ∧ ∃ f, Kd.rowB w' g n f) := by
      intro W hW
      refine (Kd.toFrame_row W e i r d a n cap l (kd_of (h.below hW)) hN).mono ?_
      rintro o w' ⟨g, rfl, q1, q2, q3, q4, q5⟩
      exact ⟨g, rfl, j_of q1, q2, by omega, q4, q5⟩
    have HTB : Hid (∀ W, Below w.heap.size w W → W.rangeAt 0 0 Kd.tabL ∧ 0 < W.heap.size) := fun W hW => ⟨fun j u hj => (hW.cell (p := ⟨0, 0 + j, none⟩) hz0).trans (tab j u hj), Nat.lt_of_lt_of_le hz0 hW.size⟩
    have HE : Hid (∀ W g, J.isBytes W (some ⟨g, 0, none⟩) n n l → Calls Tryd.prog 14 #[.agg [.bool e, .int .u32 (i : Int), .bool r, .int .i64 d, .slice (some ⟨g, 0, none⟩) n n].toArray] W fun y w' => ∃ v, y = .returned v ∧ ownsS w' W.heap.size v (spZ e i r d n l) ∧ Below W.heap.size W w') := fun W g hW => specSpans_any W e i r d _ n n l hW
    have HI : Hid (∀ W g, Below w.heap.size w W → J.isBytes W (some ⟨g, 0, none⟩) n n l → Calls Tryd.prog 15 #[.agg [.bool e, .int .u32 (i : Int), .bool r, .int .i64 d, .slice (some ⟨g, 0, none⟩) n n].toArray] W fun y w' => ∃ v, y = .returned v ∧ ownsS w' W.heap.size v (spZ e i r d n l) ∧ Below W.heap.size W w') := fun W g hB hW => implSpans_any W (HTB.out W hB).1 (HTB.out W hB).2 e i r d _ n n l hW
    have hm : (spZ e i r d n l).length ≤ 100 := spZ_len e i r d n l
    generalize spZ e i r d n l = S at *
    have HQ : Hid (∀ W B1 B2 v1 v2, ownsS W B1 v1 S → ownsS W B2 v2 S → Calls Tryd.prog 16 #[v1, v2] W fun o w' => o = .returned (.bool true) ∧ Below W.heap.size W w') := fun W B1 B2 v1 v2 h1 h2 => eqS_any W B1 B2 v1 v2 S h1 h2 (by omega)
    have HMK := hidYY (fun W B v (h1 : ownsS W B v S) (hB : B ≤ W.heap.size) => markS_any W B v S h1 (by omega) hB)
    have H0 : Hid (Kd.blk (w.alloc (.cells [.bool e, .int .u32 (i : Int), .bool r, .int .i64 d, .slice a n cap].toArray 25)) w.heap.size [.bool e, .int .u32 (i : Int), .bool r, .int .i64 d, .slice a n cap] 25 ∧ Below w.heap.size w (w.alloc (.cells [.bool e, .int .u32 (i : Int), .bool r, .int .i64 d, .slice a n cap].toArray 25))) := ⟨Kd.blk.new w _ 25, (Below.refl _ _).alloc (Nat.le_refl _) _⟩
    clear h tab hz0
    have hpos : ¬ (1048576 - (n : Int)) < 0 := by omega
    go_enter Tryd.func4, Tryd.ntmps4
    go_upto_region 5 with (first
      | (refine wpList_load_mid (P := Tryd.prog) rfl 25 _ rfl w.heap.size 0 rfl [.bool e, .int .u32 (i : Int), .bool r, .int .i64 d, .slice a n cap] _ H0.out.1.load Tryd.underlying25 rfl sz25F ?_)
      | (go_at_call 5; refine (HS.out _).mono ?_; rintro y w1 ⟨rfl, b1⟩; have H1 : Hid (Kd.blk w1 w.heap.size [.bool e, .int .u32 (i : Int), .bool r, .int .i64 d, .slice a n cap] 25 ∧ Below w.heap.size w w1) := ⟨H0.out.1.below b1, H0.out.2.trans (b1.mono H0.out.2.size)⟩; clear b1))
    clear H0 HS
    go_upto_region 6 with (first
      | (refine wpList_load_mid (P := Tryd.prog) rfl 25 _ rfl w.heap.size 0 rfl [.bool e, .int .u32 (i : Int), .bool r, .int .i64 d, .slice a n cap] _ H1.out.1.load Tryd.underlying25 rfl sz25F ?_)
      | (go_at_call 7; refine (HT.out _ H1.out.2).mono ?_; rintro y w2 ⟨g2, rfl, y2, b2, _, _, _⟩; have H2 : Hid (Kd.blk w2 w.heap.size [.bool e, .int .u32 (i : Int), .bool r, .int .i64 d, .slice a n cap] 25 ∧ Below w.heap.size w w2 ∧ J.isBytes w2 (some ⟨g2, 0, none⟩) n n l) := ⟨H1.out.1.below b2, H1.out.2.trans (b2.mono H1.out.2.size), y2⟩; clear b2 y2)
      | (go_at_call 14; refine (HE.out _ g2 H2.out.2.2).mono ?_; rintro y w4 ⟨v0, rfl, o3, b3⟩; have H4 : Hid (Kd.blk w4 w.heap.size [.bool e, .int .u32 (i : Int), .bool r, .int .i64 d, .slice a n cap] 25 ∧ Below w.heap.size w w4 ∧ ownsS w4 (w.heap.size + 1) v0 S ∧ (∀ g, v0.ownBlock = some g → g < w4.heap.size)) := ⟨H2.out.1.below b3, H2.out.2.1.trans (b3.mono H2.out.2.1.size), o3.lower H2.out.1.lt, fun g hg => (World.ownsRow.lt o3 g hg).2⟩; clear b3 o3))
    clear H1 H2 HE
    go_upto_region 7 with (first
      | (refine wpList_load_mid (P := Tryd.prog) rfl 25 _ rfl w.heap.size 0 rfl [.bool e, .int .u32 (i : Int), .bool r, .int .i64 d, .slice a n cap] _ H4.out.1.load Tryd.underlying25 rfl sz25F ?_)
      | (go_at_call 7; refine (HT.out _ H4.out.2.1).mono ?_; rintro y w5 ⟨gx, rfl, y5, b5, z5, z5', r5⟩))
    have H6 : Hid (Kd.blk (w5.alloc (.cells [.bool e, .int .u32 (i : Int), .bool r, .int .i64 d, .slice (some ⟨gx, 0, none⟩) n n].toArray 31)) w.heap.size [.bool e, .int .u32 (i : Int), .bool r, .int .i64 d, .slice a n cap] 25 ∧ Kd.blk (w5.alloc (.cells [.bool e, .int .u32 (i : Int), .bool r, .int .i64 d, .slice (some ⟨gx, 0, none⟩) n n].toArray 31)) w5.heap.size [.bool e, .int .u32 (i : Int), .bool r, .int .i64 d, .slice (some ⟨gx, 0, none⟩) n n] 31 ∧ Below w.heap.size w (w5.alloc (.cells [.bool e, .int .u32 (i : Int), .bool r, .int .i64 d, .slice (some ⟨gx, 0, none⟩) n n].toArray 31)) ∧ ownsS (w5.alloc (.cells [.bool e, .int .u32 (i : Int), .bool r, .int .i64 d, .slice (some ⟨gx, 0, none⟩) n n].toArray 31)) (w.heap.size + 1) v0 S ∧ J.isBytes (w5.alloc (.cells [.bool e, .int .u32 (i : Int), .bool r, .int .i64 d, .slice (some ⟨gx, 0, none⟩) n n].toArray 31)) (some ⟨gx, 0, none⟩) n n l ∧ (∀ g, v0.ownBlock = some g → g < gx) ∧ w.heap.size < gx ∧ gx < w5.heap.size ∧ ∃ f, Kd.rowB (w5.alloc (.cells [.bool e, .int .u32 (i : Int), .bool r, .int .i64 d, .slice (some ⟨gx, 0, none⟩) n n].toArray 31)) gx n f) := by
      have hA : Below w5.heap.size w5 (w5.alloc (.cells [.bool e, .int .u32 (i : Int), .bool r, .int .i64 d, .slice (some ⟨gx, 0, none⟩) n n].toArray 31)) := (Below.refl _ _).alloc (Nat.le_refl _) _
      obtain ⟨f, hf⟩ := r5
      have hw4 := H4.out.1.lt
      exact ⟨(H4.out.1.below b5).below hA, Kd.blk.new w5 _ 31, (H4.out.2.1.trans (b5.mono H4.out.2.1.size)).trans (hA.mono (by have := b5.size; have := H4.out.2.1.size; omega)), (H4.out.2.2.1.below b5).below hA, y5.below hA, fun g hg => Nat.lt_of_lt_of_le (H4.out.2.2.2 g hg) z5, by omega, z5', f, hf.below hA z5'⟩
    clear y5 b5 z5 z5' r5 H4
    change Code.wp _ _ _ _ (w5.alloc (.cells [.bool e, .int .u32 (i : Int), .bool r, .int .i64 d, .slice (some ⟨gx, 0, none⟩) n n].toArray 31))
    generalize w5.heap.size = bx at *
    generalize w5.alloc (.cells [.bool e, .int .u32 (i : Int), .bool r, .int .i64 d, .slice (some ⟨gx, 0, none⟩) n n].toArray 31) = w6 at *
    go_upto_region 8 with (first
      | (refine wpList_load_mid (P := Tryd.prog) rfl 31 _ rfl bx 0 rfl [.bool e, .int .u32 (i : Int), .bool r, .int .i64 d, .slice (some ⟨gx, 0, none⟩) n n] _ H6.out.2.1.load Tryd.underlying31 rfl sz31F ?_)
      | (go_at_call 15; refine (HI.out _ gx H6.out.2.2.1 H6.out.2.2.2.2.1).mono ?_; rintro y w8 ⟨v1, rfl, o7, b7⟩))
    have H8 : Hid (lsI w [.bool e, .int .u32 (i : Int), .bool r, .int .i64 d, .slice a n cap] [.bool e, .int .u32 (i : Int), .bool r, .int .i64 d, .slice (some ⟨gx, 0, none⟩) n n] gx bx w6.heap.size v0 v1 S w8 ∧ J.isBytes w8 (some ⟨gx, 0, none⟩) n n l ∧ ∃ f, Kd.rowB w8 gx n f) := by
      obtain ⟨q1, q3, q4, q5, q6, q7, q8, q9, f, q10⟩ := H6.out
      have hbx := q3.lt
      exact ⟨⟨q1.below b7, q3.below b7, q5.below b7, o7, q7, q4.trans (b7.mono q4.size), ⟨q8, q9, hbx, b7.size⟩⟩, q6.below b7, f, q10.below b7 (by omega)⟩
    clear o7 b7 H6
    generalize w6.heap.size = B1 at *
    go_upto_region 10 with (first
      | (go_at_call 16; refine (HQ.out _ _ _ v1 v0 H8.out.1.o1 H8.out.1.o0).mono ?_; rintro y w9 ⟨rfl, b9⟩))
    have H9 : Hid (lsI w [.bool e, .int .u32 (i : Int), .bool r, .int .i64 d, .slice a n cap] [.bool e, .int .u32 (i : Int), .bool r, .int .i64 d, .slice (some ⟨gx, 0, none⟩) n n] gx bx B1 v0 v1 S w9 ∧ J.isBytes w9 (some ⟨gx, 0, none⟩) n n l ∧ ∃ f, Kd.rowB w9 gx n f) := by
      obtain ⟨q1, q2, f, q3⟩ := H8.out
      exact ⟨q1.below b9, q2.below b9, f, q3.below b9 (by have := q1.z; omega)⟩
    clear H8 b9
    refine wp_region_held (S := fun X => lsI w [.bool e, .int .u32 (i : Int), .bool r, .int .i64 d, .slice a n cap] [.bool e, .int .u32 (i : Int), .bool r, .int .i64 d, .slice (some ⟨gx, 0, none⟩) n n] gx bx B1 v0 v1 S X ∧ J.isBytes X (some ⟨gx, 0, none⟩) n n l ∧ Below w9.heap.size w9 X) (by kernel_rfl) ?_
    have hS : lsI w [.bool e, .int .u32 (i : Int), .bool r, .int .i64 d, .slice a n cap] [.bool e, .int .u32 (i : Int), .bool r, .int .i64 d, .slice (some ⟨gx, 0, none⟩) n n] gx bx B1 v0 v1 S w9.drew ∧ J.isBytes w9.drew (some ⟨gx, 0, none⟩) n n l ∧ Below w9.heap.size w9 w9.drew := ⟨H9.out.1.below (Below.refl _ _).drew, H9.out.2.1.below (Below.refl _ _).drew, (Below.refl _ _).drew⟩
    change wpAnyH Tryd.prog _ _ _ _ _ _ _ w9.drew
    generalize w9.drew = u0 at *
    refine wpAnyH_take (i := 0) (v := .agg [.bool e, .int .u32 (i : Int), .bool r, .int .i64 d, .slice (some ⟨gx, 0, none⟩) n n].toArray) rfl (by kernel_rfl) (by kernel_rfl) (by kernel_rfl) (fun _ _ _ h => h) (yieldsIf_load_mid (by rfl) 31 _ rfl bx 0 rfl [.bool e, .int .u32 (i : Int), .bool r, .int .i64 d, .slice (some ⟨gx, 0, none⟩) n n] _ (fun W h => h.1.x.load) Tryd.underlying31 rfl sz31F) hS ?_
    simp only [Act.put, List.setIfInBounds_toArray, List.set_cons_zero, List.set_cons_succ, List.getElem_toArray, List.getElem_cons_zero]
    refine wpAnyH_take (i := 1) (v := .agg [.bool e, .int .u32 (i : Int), .bool r, .int .i64 d, .slice a n cap].toArray) rfl (by kernel_rfl) (by kernel_rfl) (by kernel_rfl) (fun _ _ _ h => h) (yieldsIf_load_mid (by rfl) 25 _ rfl w.heap.size 0 rfl [.bool e, .int .u32 (i : Int), .bool r, .int .i64 d, .slice a n cap] _ (fun W h => h.1.p.load) Tryd.underlying25 rfl sz25F) hS ?_
    simp only [Act.put, List.setIfInBounds_toArray, List.set_cons_zero, List.set_cons_succ, List.getElem_toArray, List.getElem_cons_zero, List.getElem_cons_succ]
    refine wpAnyH_all (rs := [2]) (by kernel_rfl) (by simp) ?_
    refine AllReadyH.cons rfl (fun K2 hK2 => ?_) AllReadyH.nil
    go_simp
    refine (HT.out _ hS.1.bel).mono ?_
    rintro y u1 ⟨g1, rfl, y1, b1', _, _, _⟩
    have hS1 : lsI w [.bool e, .int .u32 (i : Int), .bool r, .int .i64 d, .slice a n cap] [.bool e, .int .u32 (i : Int), .bool r, .int .i64 d, .slice (some ⟨gx, 0, none⟩) n n] gx bx B1 v0 v1 S u1 ∧ J.isBytes u1 (some ⟨gx, 0, none⟩) n n l ∧ Below w9.heap.size w9 u1 := ⟨hS.1.below b1', hS.2.1.below b1', hS.2.2.trans (b1'.mono hS.2.2.size)⟩
    have HY1 := hidYY y1
    clear b1' y1
    go_wp2_with fail
    refine hK2.out _ _ hS1 (fun _ => ?_)
    clear hS hK2 K2
    have hS := hS1
    clear hS1
    refine wpAnyH_all (rs := [3]) (by kernel_rfl) (by simp) ?_
    refine AllReadyH.cons rfl (fun K2 hK2 => ?_) AllReadyH.nil
    go_simp
    refine (J.eqFrame_same _ e i r d _ n n l hS.2.1 _ n n HY1.out hN).mono ?_
    rintro y u2 ⟨rfl, b2'⟩
    have hS1 : lsI w [.bool e, .int .u32 (i : Int), .bool r, .int .i64 d, .slice a n cap] [.bool e, .int .u32 (i : Int), .bool r, .int .i64 d, .slice (some ⟨gx, 0, none⟩) n n] gx bx B1 v0 v1 S u2 ∧ J.isBytes u2 (some ⟨gx, 0, none⟩) n n l ∧ Below w9.heap.size w9 u2 := ⟨hS.1.below b2', hS.2.1.below b2', hS.2.2.trans (b2'.mono hS.2.2.size)⟩
    clear b2' HY1
    go_wp2_with fail
    refine hK2.out _ _ hS1 (fun _ => ?_)
    clear hS hK2 K2
    have hS := hS1
    clear hS1
    refine wpAnyH_take (i := 4) (v := .bool false) rfl (by kernel_rfl) (by kernel_rfl) (by kernel_rfl) (fun _ _ _ h => h) (Or.inl ⟨by rfl, ?_⟩) hS ?_
    · intro W hSw
      clear hS
      go_simp
    simp only [Act.put, List.setIfInBounds_toArray, List.set_cons_zero, List.set_cons_succ, List.getElem_toArray, List.getElem_cons_zero, List.getElem_cons_succ]
    refine wpAnyH_done (by kernel_rfl) ?_ _
    have H10 : Hid (lsI w [.bool e, .int .u32 (i : Int), .bool r, .int .i64 d, .slice a n cap] [.bool e, .int .u32 (i : Int), .bool r, .int .i64 d, .slice (some ⟨gx, 0, none⟩) n n] gx bx B1 v0 v1 S u2 ∧ ∃ f, Kd.rowB u2 gx n f) := by
      obtain ⟨q1, q2, f, q3⟩ := H9.out
      exact ⟨hS.1, f, q3.below hS.2.2 (by have := q1.z; omega)⟩
    clear hS H9
    obtain ⟨fx, HFX⟩ : ∃ f, Hid (Kd.rowB u2 gx n f) := H10.out.2
    have HMX : Hid (Calls Tryd.prog 11 #[.agg [.bool e, .int .u32 (i : Int), .bool r, .int .i64 d, .slice (some ⟨gx, 0, none⟩) n n].toArray, .int .i64 1] u2 fun o w' => o = .returned (.int .i64 ((1 + n : Nat) : Int)) ∧ Kd.mkd u2 w' gx n 1) := Kd.markFrame_row u2 e i r d gx n n 1 fx HFX.out (by have := H10.out.1.z; have := H10.out.1.x.lt; omega) (Nat.le_refl _) hN (by omega)
    go_upto_region 14 with (first
      | (refine wpList_load_mid (P := Tryd.prog) rfl 31 _ rfl bx 0 rfl [.bool e, .int .u32 (i : Int), .bool r, .int .i64 d, .slice (some ⟨gx, 0, none⟩) n n] _ H10.out.1.x.load Tryd.underlying31 rfl sz31F ?_)
      | (go_at_call 11; refine HMX.out.mono ?_; rintro y w11 ⟨rfl, k11⟩))
    have H11 : Hid (lsI w [.bool e, .int .u32 (i : Int), .bool r, .int .i64 d, .slice a n cap] [.bool e, .int .u32 (i : Int), .bool r, .int .i64 d, .slice (some ⟨gx, 0, none⟩) n n] gx bx B1 v0 v1 S w11) := H10.out.1.xmark k11
    clear H10 HFX HMX k11
    have hk0 : decide (((1 + n : Nat) : Int) < 0) = false := by simp; omega
    go_upto_region 17 with (first
      | (go_at_call 16; refine (HQ.out _ _ _ v1 v0 H11.out.o1 H11.out.o0).mono ?_; rintro y w12 ⟨rfl, b12⟩))
    have H12 : Hid (lsI w [.bool e, .int .u32 (i : Int), .bool r, .int .i64 d, .slice a n cap] [.bool e, .int .u32 (i : Int), .bool r, .int .i64 d, .slice (some ⟨gx, 0, none⟩) n n] gx bx B1 v0 v1 S w12) := H11.out.below b12
    clear H11 b12 hk0
    go_upto_region 19 with (first
      | (go_at_call 17; refine (HMK.out w12 B1 v1 H12.out.o1 (by have := H12.out.z; omega)).mono ?_; rintro y w13 ⟨m, rfl, b13, k13⟩))
    have H13 : Hid (lsJ w [.bool e, .int .u32 (i : Int), .bool r, .int .i64 d, .slice a n cap] v0 S w13) := H12.out.gmark b13
    have HHD := hidYY (k13 w13 (Below.refl _ _))
    clear H12 HMK b13 k13
    go_upto_region 20 with (first
      | (go_at_call 18; refine HHD.out.mono ?_; rintro y w14 ⟨rfl, b14⟩))
    have H14 : Hid (lsJ w [.bool e, .int .u32 (i : Int), .bool r, .int .i64 d, .slice a n cap] v0 S w14) := H13.out.below b14
    clear H13 HHD b14
    have hm0 : ¬ (m : Int) < 0 := by omega
    go_upto_region 24 with fail
    go_upto_region 25 with (first
      | (refine wpList_load_mid (P := Tryd.prog) rfl 25 _ rfl w.heap.size 0 rfl [.bool e, .int .u32 (i : Int), .bool r, .int .i64 d, .slice a n cap] _ H14.out.p.load Tryd.underlying25 rfl sz25F ?_)
      | (go_at_call 7; refine (HT.out _ H14.out.bel).mono ?_; rintro y w15 ⟨g15, rfl, y15, b15, _, _, _⟩; have H15 : Hid (lsJ w [.bool e, .int .u32 (i : Int), .bool r, .int .i64 d, .slice a n cap] v0 S w15 ∧ J.isBytes w15 (some ⟨g15, 0, none⟩) n n l) := ⟨H14.out.below b15, y15⟩; clear b15 y15)
      | (go_at_call 15; refine (HI.out _ g15 H15.out.1.bel H15.out.2).mono ?_; rintro y w16 ⟨v2, rfl, o16, b16⟩))
    have H17 : Hid (lsJ w [.bool e, .int .u32 (i : Int), .bool r, .int .i64 d, .slice a n cap] v0 S w16 ∧ ownsS w16 w15.heap.size v2 S) := ⟨H15.out.1.below b16, o16⟩
    clear o16 b16 H15 H14
    go_wp2_with (first
      | (go_at_call 16; refine (HQ.out _ _ _ v2 v0 H17.out.2 H17.out.1.o0).mono ?_; rintro y w18 ⟨rfl, b18⟩; have H18 : Hid (Below w.heap.size w w18) := (H17.out.1.below b18).bel; clear b18))
    go_ret
    exact ⟨rfl, H18.out⟩
  · have HS : Hid (∀ W, Calls Tryd.prog 5 #[.agg [.bool e, .int .u32 (i : Int), .bool r, .int .i64 d, .slice a n cap].toArray, .int .i64 1048576] W fun o w' => o = .returned (.int .i64 (-1)) ∧ Below W.heap.size W w') := by
      intro W
      have := J.szFrame_any W e i r d a n cap 1048576 hn (by omega)
      rw [if_neg hl] at this
      refine this.mono ?_
      rintro o w' ⟨rfl, rfl⟩
      exact ⟨rfl, (Below.refl _ _).alloc (Nat.le_refl _) _⟩
    have H0 : Hid (Kd.blk (w.alloc (.cells [.bool e, .int .u32 (i : Int), .bool r, .int .i64 d, .slice a n cap].toArray 25)) w.heap.size [.bool e, .int .u32 (i : Int), .bool r, .int .i64 d, .slice a n cap] 25 ∧ Below w.heap.size w (w.alloc (.cells [.bool e, .int .u32 (i : Int), .bool r, .int .i64 d, .slice a n cap].toArray 25))) := ⟨Kd.blk.new w _ 25, (Below.refl _ _).alloc (Nat.le_refl _) _⟩
    clear h tab hz0 hl
    go_enter Tryd.func4, Tryd.ntmps4
    go_wp2_with (first
      | (refine wpList_load_mid (P := Tryd.prog) rfl 25 _ rfl w.heap.size 0 rfl [.bool e, .int .u32 (i : Int), .bool r, .int .i64 d, .slice a n cap] _ H0.out.1.load Tryd.underlying25 rfl sz25F ?_)
      | (go_at_call 5; refine (HS.out _).mono ?_; rintro y w1 ⟨rfl, b1⟩; have H1 : Hid (Below w.heap.size w w1) := H0.out.2.trans (b1.mono H0.out.2.size); clear b1))
    go_ret
    exact ⟨rfl, H1.out⟩
end Go.Proofs.YtpknchjjfiiaeaaDoor
