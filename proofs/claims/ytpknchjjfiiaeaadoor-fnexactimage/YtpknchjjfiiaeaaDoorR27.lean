import Derived.Test.YtpknchjjfiiaeaaDoorR26
import Derived.Test.YtpknchjjfiiaeaaDoorR10
import Derived.Test.YtpknchjjfiiaeaaDoorR07
namespace Go.Proofs.YtpknchjjfiiaeaaDoor
open Go.RowKit
set_option linter.unusedVariables false
theorem sz25F : (Tryd.prog.info? 25).map (·.size) = some 5 := by kernel_rfl
theorem kd_of {w : World} {a : Option Addr} {n cap : Nat} {l : List Nat} (h : J.isBytes w a n cap l) : Kd.isBytes w a n cap l := ⟨h.len, h.cap, h.small, h.cells⟩
theorem j_of {w : World} {a : Option Addr} {n cap : Nat} {l : List Nat} (h : Kd.isBytes w a n cap l) : J.isBytes w a n cap l := ⟨h.len, h.cap, h.small, h.cells⟩
theorem wpList_load_midG {ops : Array Oper} {rest : List Oper} {op : Oper} {a : Act} {w : World} {Q : Exit → Act → World → Prop} (hw : Region.wanted op (yielded ops a.tmps) = true) (ty : TypeId) (x : Operand) (ho : op.op = .load ty x)
    (b o : Nat) (hx : a.eval x = .pointer (some ⟨b, o, none⟩)) (cs : List Value) (d : TypeDesc) (hc : w.rangeAt b o cs)
    (hu : Tryd.prog.underlying ty = some d) (hd : d.isRow = true) (hi : (Tryd.prog.info? ty).map (·.size) = some cs.length)
    (h : wpList Tryd.prog ops Q rest (a.put op.dst (.agg cs.toArray)) w) : wpList Tryd.prog ops Q (op :: rest) a w :=
  Kd.wpList_load_midG hw ty x ho b o hx cs d hc hu hd hi h
/-- what stands while the law goes on -/
structure liI (w : World) (FA FX : List Value) (b0 gx bx B1 b1 : Nat) (N : Int) (m : Nat) (a0 : Option Addr) (c0 : Nat) (a1 : Option Addr) (c1 : Nat) (l0 l1 : List Nat) (W : World) : Prop where
  p : Kd.blk W w.heap.size FA 25
  q0 : Kd.blk W b0 [.int .i64 N, .slice a0 m c0] 29
  x : Kd.blk W bx FX 31
  q1 : Kd.blk W b1 [.int .i64 N, .slice a1 m c1] 29
  o0 : ownsW W (w.heap.size + 1) (.slice a0 m c0) l0
  o1 : ownsW W B1 (.slice a1 m c1) l1
  lt0 : ∀ g, (Value.slice a0 m c0).ownBlock = some g → g < b0
  bel : Below w.heap.size w W
  z : w.heap.size < b0 ∧ b0 < gx ∧ gx < bx ∧ bx < B1 ∧ B1 ≤ b1
theorem liI.below {w : World} {FA FX : List Value} {b0 gx bx B1 b1 : Nat} {N : Int} {m : Nat} {a0 : Option Addr} {c0 : Nat} {a1 : Option Addr} {c1 : Nat} {l0 l1 : List Nat} {W W' : World} (h : liI w FA FX b0 gx bx B1 b1 N m a0 c0 a1 c1 l0 l1 W) (hb : Below W.heap.size W W') : liI w FA FX b0 gx bx B1 b1 N m a0 c0 a1 c1 l0 l1 W' :=
  ⟨h.p.below hb, h.q0.below hb, h.x.below hb, h.q1.below hb, h.o0.below hb, h.o1.below hb, h.lt0, h.bel.trans (hb.mono h.bel.size), h.z⟩
theorem liI.w0 {w : World} {FA FX : List Value} {b0 gx bx B1 b1 : Nat} {N : Int} {m : Nat} {a0 : Option Addr} {c0 : Nat} {a1 : Option Addr} {c1 : Nat} {l0 l1 : List Nat} {W : World} (h : liI w FA FX b0 gx bx B1 b1 N m a0 c0 a1 c1 l0 l1 W) (hm : m = l0.length) (hs : ∀ x ∈ l0, x < 18446744073709551616) : isWords W a0 m c0 l0 := h.o0.words hm hs (h.o0.cap hm)
theorem liI.w1 {w : World} {FA FX : List Value} {b0 gx bx B1 b1 : Nat} {N : Int} {m : Nat} {a0 : Option Addr} {c0 : Nat} {a1 : Option Addr} {c1 : Nat} {l0 l1 : List Nat} {W : World} (h : liI w FA FX b0 gx bx B1 b1 N m a0 c0 a1 c1 l0 l1 W) (hm : m = l1.length) (hs : ∀ x ∈ l1, x < 18446744073709551616) : isWords W a1 m c1 l1 := h.o1.words hm hs (h.o1.cap hm)
/-- behind the mark of the frame -/
theorem liI.xmark {w : World} {FA FX : List Value} {b0 gx bx B1 b1 : Nat} {N : Int} {m : Nat} {a0 : Option Addr} {c0 : Nat} {a1 : Option Addr} {c1 : Nat} {l0 l1 : List Nat} {W W' : World} {n c : Nat} (h : liI w FA FX b0 gx bx B1 b1 N m a0 c0 a1 c1 l0 l1 W) (hk : Kd.mkd W W' gx n c) : liI w FA FX b0 gx bx B1 b1 N m a0 c0 a1 c1 l0 l1 W' := by
  have hz := h.z
  have hb1 := h.q1.lt
  refine ⟨h.p.kept (hk.oth _ (by omega) (by omega)), h.q0.kept (hk.oth _ (by omega) (by omega)), h.x.kept (hk.oth _ (by omega) (by omega)), h.q1.kept (hk.oth _ (by omega) (by omega)), h.o0.otherBlock fun g hg => hk.oth g ?_ (World.ownsRow.lt h.o0 g hg).2, h.o1.otherBlock fun g hg => hk.oth g ?_ (World.ownsRow.lt h.o1 g hg).2, h.lt0, h.bel.trans (hk.bel.mono (by omega)), hz⟩
  · have := h.lt0 g hg; omega
  · have := (World.ownsRow.lt h.o1 g hg).1; omega
/-- behind the mark of the answer -/
theorem liI.gmark {w : World} {FA FX : List Value} {b0 gx bx B1 b1 : Nat} {N : Int} {m : Nat} {a0 : Option Addr} {c0 : Nat} {a1 : Option Addr} {c1 : Nat} {l0 l1 : List Nat} {l2 : List Nat} {W W' : World} (h : liI w FA FX b0 gx bx B1 b1 N m a0 c0 a1 c1 l0 l1 W) (ho : ownsW W' B1 (.slice a1 m c1) l2) (hb : Below B1 W W') (hk : ∀ b, b < W.heap.size → (∀ a, a1 = some a → a.block ≠ b) → W'.heap[b]? = W.heap[b]?) : liI w FA FX b0 gx bx B1 b1 N m a0 c0 a1 c1 l0 l2 W' := by
  have hz := h.z
  refine ⟨h.p.kept (hb.block _ (by omega)), h.q0.kept (hb.block _ (by omega)), h.x.kept (hb.block _ (by omega)), h.q1.kept (hk b1 h.q1.lt ?_), h.o0.otherBlock fun g hg => hb.block g (by have := h.lt0 g hg; omega), ho, h.lt0, h.bel.trans (hb.mono (by omega)), hz⟩
  intro a ea e
  subst ea
  obtain ⟨_, ⟨h2, _⟩ | ⟨g, cap, cur, e2, _, hh, _⟩⟩ := h.o1
  · cases h2
  · cases e2
    have e' : g = b1 := e
    subst e'
    have hq := h.q1
    unfold Kd.blk at hq
    rw [hq] at hh
    cases hh
set_option maxHeartbeats 16000000 in
set_option maxRecDepth 40000 in
/-- laws.FnExactImage -/
theorem lawImage (e : Bool) (i : Nat) (r : Bool) (d : Int) (a : Option Addr) (n cap : Nat) (l : List Nat) (w : World) (h : J.isBytes w a n cap l) (hn : n ≤ 9223372036854775807) (tab : w.rangeAt 0 0 Kd.tabL) (hz0 : 0 < w.heap.size) :
    Calls Tryd.prog 3 #[.agg [.bool e, .int .u32 (i : Int), .bool r, .int .i64 d, .slice a n cap].toArray] w fun o w' => o = .returned (.bool true) ∧ Below w.heap.size w w' := by
  have HLEN := hidYY h.len
  by_cases hl : (n : Int) ≤ ((1048576 : Nat) : Int)
  · have hN : n ≤ 1048576 := by omega
    have HS : Hid (∀ W, Calls Tryd.prog 5 #[.agg [.bool e, .int .u32 (i : Int), .bool r, .int .i64 d, .slice a n cap].toArray, .int .i64 1048576] W fun o w' => o = .returned (.int .i64 (1048576 - (n : Int))) ∧ Below W.heap.size W w') := by
      intro W
      have := J.szFrame_any W e i r d a n cap 1048576 hn (by omega)
      rw [if_pos hl] at this
      refine this.mono ?_
      rintro o w' ⟨rfl, rfl⟩
      exact ⟨rfl, (Below.refl _ _).alloc (Nat.le_refl _) _⟩
    have HT : Hid (∀ W, Below w.heap.size w W → Calls Tryd.prog 7 #[.agg [.bool e, .int .u32 (i : Int), .bool r, .int .i64 d, .slice a n cap].toArray] W fun o w' => ∃ g, o = .returned (.agg [.bool e, .int .u32 (i : Int), .bool r, .int .i64 d, .slice (some ⟨g, 0, none⟩) n n].toArray) ∧ J.isBytes w' (some ⟨g, 0, none⟩) n n l ∧ Below W.heap.size W w' ∧ W.heap.size ≤ g ∧ g < w'.heap.size ∧ ∃ f, Kd.rowB w' g n f) := by
      intro W hW
      refine (Kd.toFrame_row W e i r d a n cap l (kd_of (h.below hW)) hN).mono ?_
      rintro o w' ⟨g, rfl, q1, q2, q3, q4, q5⟩
      exact ⟨g, rfl, j_of q1, q2, by omega, q4, q5⟩
    have HTB : Hid (∀ W, Below w.heap.size w W → W.rangeAt 0 0 Kd.tabL ∧ 0 < W.heap.size) := fun W hW => ⟨fun j u hj => (hW.cell (p := ⟨0, 0 + j, none⟩) hz0).trans (tab j u hj), Nat.lt_of_lt_of_le hz0 hW.size⟩
    have HE : Hid (∀ W g, J.isBytes W (some ⟨g, 0, none⟩) n n l → Calls Tryd.prog 6 #[.agg [.bool e, .int .u32 (i : Int), .bool r, .int .i64 d, .slice (some ⟨g, 0, none⟩) n n].toArray] W fun y w' => ∃ ao cp, y = .returned (pkV ((imZ e i r d n l).length : Int) ao (wl (imZ e i r d n l)).length cp) ∧ ownsW w' W.heap.size (.slice ao (wl (imZ e i r d n l)).length cp) (wl (imZ e i r d n l)) ∧ Below W.heap.size W w') := fun W g hW => specImage_any W e i r d _ n n l hW
    have HI : Hid (∀ W g, Below w.heap.size w W → J.isBytes W (some ⟨g, 0, none⟩) n n l → Calls Tryd.prog 8 #[.agg [.bool e, .int .u32 (i : Int), .bool r, .int .i64 d, .slice (some ⟨g, 0, none⟩) n n].toArray] W fun y w' => ∃ ao cp, y = .returned (pkV ((imZ e i r d n l).length : Int) ao (wl (imZ e i r d n l)).length cp) ∧ ownsW w' W.heap.size (.slice ao (wl (imZ e i r d n l)).length cp) (wl (imZ e i r d n l)) ∧ Below W.heap.size W w') := fun W g hB hW => implImage_any W (HTB.out W hB).1 (HTB.out W hB).2 e i r d _ n n l hW
    have HLW : Hid ((wl (imZ e i r d n l)).length = (wl (imZ e i r d n l)).length ∧ ∀ x ∈ wl (imZ e i r d n l), x < 18446744073709551616) := ⟨rfl, wl_small _⟩
    have hm : (wl (imZ e i r d n l)).length ≤ 100 := by
      have : (imZ e i r d n l).length ≤ 300 := by
        unfold imZ
        split
        · rename_i hv
          exact imgL_len _ _ _ _ _ (valid_facts hv HLEN.out).2.2.2.2
        · simp
      rw [wl_len]; omega
    generalize wl (imZ e i r d n l) = wz at *
    generalize ((imZ e i r d n l).length : Int) = N at *
    have HML : Hid (wz.length = wz.length) := rfl
    generalize hmm : wz.length = m at *
    have HMM : Hid (m = wz.length) := hmm.symm
    clear hmm HML
    have H0 : Hid (Kd.blk (w.alloc (.cells [.bool e, .int .u32 (i : Int), .bool r, .int .i64 d, .slice a n cap].toArray 25)) w.heap.size [.bool e, .int .u32 (i : Int), .bool r, .int .i64 d, .slice a n cap] 25 ∧ Below w.heap.size w (w.alloc (.cells [.bool e, .int .u32 (i : Int), .bool r, .int .i64 d, .slice a n cap].toArray 25))) := ⟨Kd.blk.new w _ 25, (Below.refl _ _).alloc (Nat.le_refl _) _⟩
    clear h tab hz0 HLEN
    have hpos : ¬ (1048576 - (n : Int)) < 0 := by omega
    go_enter Tryd.func3, Tryd.ntmps3
    go_upto_region 5 with (first
      | (refine wpList_load_mid (P := Tryd.prog) rfl 25 _ rfl w.heap.size 0 rfl [.bool e, .int .u32 (i : Int), .bool r, .int .i64 d, .slice a n cap] _ H0.out.1.load Tryd.underlying25 rfl sz25F ?_)
      | (go_at_call 5; refine (HS.out _).mono ?_; rintro y w1 ⟨rfl, b1⟩; have H1 : Hid (Kd.blk w1 w.heap.size [.bool e, .int .u32 (i : Int), .bool r, .int .i64 d, .slice a n cap] 25 ∧ Below w.heap.size w w1) := ⟨H0.out.1.below b1, H0.out.2.trans (b1.mono H0.out.2.size)⟩; clear b1))
    clear H0 HS
    go_upto_region 6 with (first
      | (refine wpList_load_mid (P := Tryd.prog) rfl 25 _ rfl w.heap.size 0 rfl [.bool e, .int .u32 (i : Int), .bool r, .int .i64 d, .slice a n cap] _ H1.out.1.load Tryd.underlying25 rfl sz25F ?_)
      | (go_at_call 7; refine (HT.out _ H1.out.2).mono ?_; rintro y w2 ⟨g2, rfl, y2, b2, _, _, _⟩; have H2 : Hid (Kd.blk w2 w.heap.size [.bool e, .int .u32 (i : Int), .bool r, .int .i64 d, .slice a n cap] 25 ∧ Below w.heap.size w w2 ∧ J.isBytes w2 (some ⟨g2, 0, none⟩) n n l) := ⟨H1.out.1.below b2, H1.out.2.trans (b2.mono H1.out.2.size), y2⟩; clear b2 y2)
      | (go_at_call 6; refine (HE.out _ g2 H2.out.2.2).mono ?_; rintro y w3 ⟨a0, c0, rfl, o3, b3⟩; have H3 : Hid (Kd.blk w3 w.heap.size [.bool e, .int .u32 (i : Int), .bool r, .int .i64 d, .slice a n cap] 25 ∧ Below w.heap.size w w3 ∧ ownsW w3 (w.heap.size + 1) (.slice a0 m c0) wz) := ⟨H2.out.1.below b3, H2.out.2.1.trans (b3.mono H2.out.2.1.size), o3.lower H2.out.1.lt⟩; clear b3 o3))
    have H4 : Hid (Kd.blk (w3.alloc (.cells [.int .i64 N, .slice a0 m c0].toArray 29)) w.heap.size [.bool e, .int .u32 (i : Int), .bool r, .int .i64 d, .slice a n cap] 25 ∧ Kd.blk (w3.alloc (.cells [.int .i64 N, .slice a0 m c0].toArray 29)) w3.heap.size [.int .i64 N, .slice a0 m c0] 29 ∧ Below w.heap.size w (w3.alloc (.cells [.int .i64 N, .slice a0 m c0].toArray 29)) ∧ ownsW (w3.alloc (.cells [.int .i64 N, .slice a0 m c0].toArray 29)) (w.heap.size + 1) (.slice a0 m c0) wz ∧ (∀ g, (Value.slice a0 m c0).ownBlock = some g → g < w3.heap.size) ∧ w.heap.size < w3.heap.size) := ⟨H3.out.1.alloc _, Kd.blk.new w3 _ 29, H3.out.2.1.alloc H3.out.2.1.size _, H3.out.2.2.alloc _, fun g hg => (World.ownsRow.lt H3.out.2.2 g hg).2, H3.out.1.lt⟩
    change Code.wp _ _ _ _ (w3.alloc (.cells [.int .i64 N, .slice a0 m c0].toArray 29))
    generalize w3.heap.size = b0 at *
    generalize w3.alloc (.cells [.int .i64 N, .slice a0 m c0].toArray 29) = w4 at *
    clear H1 H2 H3 HE
    go_upto_region 7 with (first
      | (refine wpList_load_mid (P := Tryd.prog) rfl 25 _ rfl w.heap.size 0 rfl [.bool e, .int .u32 (i : Int), .bool r, .int .i64 d, .slice a n cap] _ H4.out.1.load Tryd.underlying25 rfl sz25F ?_)
      | (go_at_call 7; refine (HT.out _ H4.out.2.2.1).mono ?_; rintro y w5 ⟨gx, rfl, y5, b5, z5, z5', r5⟩))
    have H6 : Hid (Kd.blk (w5.alloc (.cells [.bool e, .int .u32 (i : Int), .bool r, .int .i64 d, .slice (some ⟨gx, 0, none⟩) n n].toArray 31)) w.heap.size [.bool e, .int .u32 (i : Int), .bool r, .int .i64 d, .slice a n cap] 25 ∧ Kd.blk (w5.alloc (.cells [.bool e, .int .u32 (i : Int), .bool r, .int .i64 d, .slice (some ⟨gx, 0, none⟩) n n].toArray 31)) b0 [.int .i64 N, .slice a0 m c0] 29 ∧ Kd.blk (w5.alloc (.cells [.bool e, .int .u32 (i : Int), .bool r, .int .i64 d, .slice (some ⟨gx, 0, none⟩) n n].toArray 31)) w5.heap.size [.bool e, .int .u32 (i : Int), .bool r, .int .i64 d, .slice (some ⟨gx, 0, none⟩) n n] 31 ∧ Below w.heap.size w (w5.alloc (.cells [.bool e, .int .u32 (i : Int), .bool r, .int .i64 d, .slice (some ⟨gx, 0, none⟩) n n].toArray 31)) ∧ ownsW (w5.alloc (.cells [.bool e, .int .u32 (i : Int), .bool r, .int .i64 d, .slice (some ⟨gx, 0, none⟩) n n].toArray 31)) (w.heap.size + 1) (.slice a0 m c0) wz ∧ J.isBytes (w5.alloc (.cells [.bool e, .int .u32 (i : Int), .bool r, .int .i64 d, .slice (some ⟨gx, 0, none⟩) n n].toArray 31)) (some ⟨gx, 0, none⟩) n n l ∧ b0 < gx ∧ gx < w5.heap.size ∧ ∃ f, Kd.rowB (w5.alloc (.cells [.bool e, .int .u32 (i : Int), .bool r, .int .i64 d, .slice (some ⟨gx, 0, none⟩) n n].toArray 31)) gx n f) := by
      have hA : Below w5.heap.size w5 (w5.alloc (.cells [.bool e, .int .u32 (i : Int), .bool r, .int .i64 d, .slice (some ⟨gx, 0, none⟩) n n].toArray 31)) := (Below.refl _ _).alloc (Nat.le_refl _) _
      have hb0 : b0 < w4.heap.size := H4.out.2.1.lt
      obtain ⟨f, hf⟩ := r5
      exact ⟨(H4.out.1.below b5).below hA, (H4.out.2.1.below b5).below hA, Kd.blk.new w5 _ 31, (H4.out.2.2.1.trans (b5.mono H4.out.2.2.1.size)).trans (hA.mono (by have := b5.size; have := H4.out.2.2.1.size; omega)), (H4.out.2.2.2.1.below b5).below hA, y5.below hA, by omega, z5', f, hf.below hA z5'⟩
    have HLT := hidYY (And.intro H4.out.2.2.2.2.1 H4.out.2.2.2.2.2)
    clear y5 b5 z5 z5' r5 H4
    change Code.wp _ _ _ _ (w5.alloc (.cells [.bool e, .int .u32 (i : Int), .bool r, .int .i64 d, .slice (some ⟨gx, 0, none⟩) n n].toArray 31))
    generalize w5.heap.size = bx at *
    generalize w5.alloc (.cells [.bool e, .int .u32 (i : Int), .bool r, .int .i64 d, .slice (some ⟨gx, 0, none⟩) n n].toArray 31) = w6 at *
    go_upto_region 8 with (first
      | (refine wpList_load_mid (P := Tryd.prog) rfl 31 _ rfl bx 0 rfl [.bool e, .int .u32 (i : Int), .bool r, .int .i64 d, .slice (some ⟨gx, 0, none⟩) n n] _ H6.out.2.2.1.load Tryd.underlying31 rfl sz31F ?_)
      | (go_at_call 8; refine (HI.out _ gx H6.out.2.2.2.1 H6.out.2.2.2.2.2.1).mono ?_; rintro y w7 ⟨a1, c1, rfl, o7, b7⟩))
    have H8 : Hid (liI w [.bool e, .int .u32 (i : Int), .bool r, .int .i64 d, .slice a n cap] [.bool e, .int .u32 (i : Int), .bool r, .int .i64 d, .slice (some ⟨gx, 0, none⟩) n n] b0 gx bx w6.heap.size w7.heap.size N m a0 c0 a1 c1 wz wz (w7.alloc (.cells [.int .i64 N, .slice a1 m c1].toArray 29)) ∧ J.isBytes (w7.alloc (.cells [.int .i64 N, .slice a1 m c1].toArray 29)) (some ⟨gx, 0, none⟩) n n l ∧ ∃ f, Kd.rowB (w7.alloc (.cells [.int .i64 N, .slice a1 m c1].toArray 29)) gx n f) := by
      have hA : Below w7.heap.size w7 (w7.alloc (.cells [.int .i64 N, .slice a1 m c1].toArray 29)) := (Below.refl _ _).alloc (Nat.le_refl _) _
      obtain ⟨q1, q2, q3, q4, q5, q6, q7, q8, f, q9⟩ := H6.out
      have hbx := q3.lt
      refine ⟨⟨(q1.below b7).below hA, (q2.below b7).below hA, (q3.below b7).below hA, Kd.blk.new w7 _ 29, (q5.below b7).below hA, (o7.below hA), HLT.out.1, (q4.trans (b7.mono q4.size)).trans (hA.mono (by have := b7.size; have := q4.size; omega)), ⟨HLT.out.2, q7, q8, hbx, b7.size⟩⟩, (q6.below b7).below hA, f, (q9.below b7 (by omega)).below hA (by have := b7.size; omega)⟩
    have HB1 : Hid (w6.heap.size ≤ w7.heap.size) := b7.size
    clear o7 b7 H6 HLT
    change Code.wp _ _ _ _ (w7.alloc (.cells [.int .i64 N, .slice a1 m c1].toArray 29))
    generalize w7.heap.size = b1 at *
    generalize w7.alloc (.cells [.int .i64 N, .slice a1 m c1].toArray 29) = w8 at *
    generalize w6.heap.size = B1 at *
    have HQ : Hid (∀ W aa cc ab cb, isWords W aa m cc wz → isWords W ab m cb wz → Calls Tryd.prog 9 #[pkV N aa m cc, pkV N ab m cb] W fun o w' => o = .returned (.bool true) ∧ Below W.heap.size W w') := fun W aa cc ab cb h1 h2 => eqPacked_same W N aa m cc wz h1 ab m cb h2 (by omega)
    go_upto_region 10 with (first
      | (refine wpList_load_mid (P := Tryd.prog) rfl 29 _ rfl b1 0 rfl [.int .i64 N, .slice a1 m c1] _ H8.out.1.q1.load Tryd.underlying29 rfl sz29P ?_)
      | (refine wpList_load_mid (P := Tryd.prog) rfl 29 _ rfl b0 0 rfl [.int .i64 N, .slice a0 m c0] _ H8.out.1.q0.load Tryd.underlying29 rfl sz29P ?_)
      | (go_at_call 9; refine (HQ.out _ a1 c1 a0 c0 (H8.out.1.w1 HMM.out HLW.out.2) (H8.out.1.w0 HMM.out HLW.out.2)).mono ?_; rintro y w9 ⟨rfl, b9⟩))
    have H9 : Hid (liI w [.bool e, .int .u32 (i : Int), .bool r, .int .i64 d, .slice a n cap] [.bool e, .int .u32 (i : Int), .bool r, .int .i64 d, .slice (some ⟨gx, 0, none⟩) n n] b0 gx bx B1 b1 N m a0 c0 a1 c1 wz wz w9 ∧ J.isBytes w9 (some ⟨gx, 0, none⟩) n n l ∧ ∃ f, Kd.rowB w9 gx n f) := by
      obtain ⟨q1, q2, f, q3⟩ := H8.out
      exact ⟨q1.below b9, q2.below b9, f, q3.below b9 (by have := q1.z; have := q1.q1.lt; omega)⟩
    clear H8 b9
    refine wp_region_held (S := fun X => liI w [.bool e, .int .u32 (i : Int), .bool r, .int .i64 d, .slice a n cap] [.bool e, .int .u32 (i : Int), .bool r, .int .i64 d, .slice (some ⟨gx, 0, none⟩) n n] b0 gx bx B1 b1 N m a0 c0 a1 c1 wz wz X ∧ J.isBytes X (some ⟨gx, 0, none⟩) n n l ∧ Below w9.heap.size w9 X) (by kernel_rfl) ?_
    have hS : liI w [.bool e, .int .u32 (i : Int), .bool r, .int .i64 d, .slice a n cap] [.bool e, .int .u32 (i : Int), .bool r, .int .i64 d, .slice (some ⟨gx, 0, none⟩) n n] b0 gx bx B1 b1 N m a0 c0 a1 c1 wz wz w9.drew ∧ J.isBytes w9.drew (some ⟨gx, 0, none⟩) n n l ∧ Below w9.heap.size w9 w9.drew := ⟨H9.out.1.below (Below.refl _ _).drew, H9.out.2.1.below (Below.refl _ _).drew, (Below.refl _ _).drew⟩
    change wpAnyH Tryd.prog _ _ _ _ _ _ _ w9.drew
    generalize w9.drew = v0 at *
    refine wpAnyH_take (i := 0) (v := .agg [.bool e, .int .u32 (i : Int), .bool r, .int .i64 d, .slice (some ⟨gx, 0, none⟩) n n].toArray) rfl (by kernel_rfl) (by kernel_rfl) (by kernel_rfl) (fun _ _ _ h => h) (yieldsIf_load_mid (by rfl) 31 _ rfl bx 0 rfl [.bool e, .int .u32 (i : Int), .bool r, .int .i64 d, .slice (some ⟨gx, 0, none⟩) n n] _ (fun W h => h.1.x.load) Tryd.underlying31 rfl sz31F) hS ?_
    simp only [Act.put, List.setIfInBounds_toArray, List.set_cons_zero, List.set_cons_succ, List.getElem_toArray, List.getElem_cons_zero]
    refine wpAnyH_take (i := 1) (v := .agg [.bool e, .int .u32 (i : Int), .bool r, .int .i64 d, .slice a n cap].toArray) rfl (by kernel_rfl) (by kernel_rfl) (by kernel_rfl) (fun _ _ _ h => h) (yieldsIf_load_mid (by rfl) 25 _ rfl w.heap.size 0 rfl [.bool e, .int .u32 (i : Int), .bool r, .int .i64 d, .slice a n cap] _ (fun W h => h.1.p.load) Tryd.underlying25 rfl sz25F) hS ?_
    simp only [Act.put, List.setIfInBounds_toArray, List.set_cons_zero, List.set_cons_succ, List.getElem_toArray, List.getElem_cons_zero, List.getElem_cons_succ]
    refine wpAnyH_all (rs := [2]) (by kernel_rfl) (by simp) ?_
    refine AllReadyH.cons rfl (fun K2 hK2 => ?_) AllReadyH.nil
    go_simp
    refine (HT.out _ hS.1.bel).mono ?_
    rintro y v1 ⟨g1, rfl, y1, b1', _, _, _⟩
    have hS1 : liI w [.bool e, .int .u32 (i : Int), .bool r, .int .i64 d, .slice a n cap] [.bool e, .int .u32 (i : Int), .bool r, .int .i64 d, .slice (some ⟨gx, 0, none⟩) n n] b0 gx bx B1 b1 N m a0 c0 a1 c1 wz wz v1 ∧ J.isBytes v1 (some ⟨gx, 0, none⟩) n n l ∧ Below w9.heap.size w9 v1 := ⟨hS.1.below b1', hS.2.1.below b1', hS.2.2.trans (b1'.mono hS.2.2.size)⟩
    have HY1 := hidYY y1
    clear b1' y1
    go_wp2_with fail
    refine hK2.out _ _ hS1 (fun _ => ?_)
    clear hS hK2 K2
    have hS := hS1
    clear hS1
    refine wpAnyH_all (rs := [3]) (by kernel_rfl) (by simp) ?_
    refine AllReadyH.cons rfl (fun K2 hK2 => ?_) AllReadyH.nil
    go_simp
    refine (J.eqFrame_same _ e i r d _ n n l hS.2.1 _ n n HY1.out hN).mono ?_
    rintro y v2 ⟨rfl, b2'⟩
    have hS1 : liI w [.bool e, .int .u32 (i : Int), .bool r, .int .i64 d, .slice a n cap] [.bool e, .int .u32 (i : Int), .bool r, .int .i64 d, .slice (some ⟨gx, 0, none⟩) n n] b0 gx bx B1 b1 N m a0 c0 a1 c1 wz wz v2 ∧ J.isBytes v2 (some ⟨gx, 0, none⟩) n n l ∧ Below w9.heap.size w9 v2 := ⟨hS.1.below b2', hS.2.1.below b2', hS.2.2.trans (b2'.mono hS.2.2.size)⟩
    clear b2' HY1
    go_wp2_with fail
    refine hK2.out _ _ hS1 (fun _ => ?_)
    clear hS hK2 K2
    have hS := hS1
    clear hS1
    refine wpAnyH_take (i := 4) (v := .bool false) rfl (by kernel_rfl) (by kernel_rfl) (by kernel_rfl) (fun _ _ _ h => h) (Or.inl ⟨by rfl, ?_⟩) hS ?_
    · intro W hSw
      clear hS
      go_simp
    simp only [Act.put, List.setIfInBounds_toArray, List.set_cons_zero, List.set_cons_succ, List.getElem_toArray, List.getElem_cons_zero, List.getElem_cons_succ]
    refine wpAnyH_done (by kernel_rfl) ?_ _
    have H10 : Hid (liI w [.bool e, .int .u32 (i : Int), .bool r, .int .i64 d, .slice a n cap] [.bool e, .int .u32 (i : Int), .bool r, .int .i64 d, .slice (some ⟨gx, 0, none⟩) n n] b0 gx bx B1 b1 N m a0 c0 a1 c1 wz wz v2 ∧ ∃ f, Kd.rowB v2 gx n f) := by
      obtain ⟨q1, q2, f, q3⟩ := H9.out
      exact ⟨hS.1, f, q3.below hS.2.2 (by have := q1.z; have := q1.q1.lt; omega)⟩
    clear hS H9
    obtain ⟨fx, HFX⟩ : ∃ f, Hid (Kd.rowB v2 gx n f) := H10.out.2
    have HMX : Hid (Calls Tryd.prog 11 #[.agg [.bool e, .int .u32 (i : Int), .bool r, .int .i64 d, .slice (some ⟨gx, 0, none⟩) n n].toArray, .int .i64 1] v2 fun o w' => o = .returned (.int .i64 ((1 + n : Nat) : Int)) ∧ Kd.mkd v2 w' gx n 1) := Kd.markFrame_row v2 e i r d gx n n 1 fx HFX.out (by have := H10.out.1.z; have := H10.out.1.q1.lt; omega) (Nat.le_refl _) hN (by omega)
    go_upto_region 14 with (first
      | (refine wpList_load_mid (P := Tryd.prog) rfl 31 _ rfl bx 0 rfl [.bool e, .int .u32 (i : Int), .bool r, .int .i64 d, .slice (some ⟨gx, 0, none⟩) n n] _ H10.out.1.x.load Tryd.underlying31 rfl sz31F ?_)
      | (go_at_call 11; refine HMX.out.mono ?_; rintro y w11 ⟨rfl, k11⟩))
    have H11 : Hid (liI w [.bool e, .int .u32 (i : Int), .bool r, .int .i64 d, .slice a n cap] [.bool e, .int .u32 (i : Int), .bool r, .int .i64 d, .slice (some ⟨gx, 0, none⟩) n n] b0 gx bx B1 b1 N m a0 c0 a1 c1 wz wz w11) := H10.out.1.xmark k11
    clear H10 HFX HMX k11
    have hk0 : decide (((1 + n : Nat) : Int) < 0) = false := by simp; omega
    go_upto_region 17 with (first
      | (refine wpList_load_midG (by first | rfl | (simp [Region.wanted, yielded]; done) | (simp [Region.wanted, yielded]; omega)) 29 _ rfl b1 0 rfl [.int .i64 N, .slice a1 m c1] _ H11.out.q1.load Tryd.underlying29 rfl sz29P ?_)
      | (refine wpList_load_midG (by first | rfl | (simp [Region.wanted, yielded]; done) | (simp [Region.wanted, yielded]; omega)) 29 _ rfl b0 0 rfl [.int .i64 N, .slice a0 m c0] _ H11.out.q0.load Tryd.underlying29 rfl sz29P ?_)
      | (go_at_call 9; refine (HQ.out _ a1 c1 a0 c0 (H11.out.w1 HMM.out HLW.out.2) (H11.out.w0 HMM.out HLW.out.2)).mono ?_; rintro y w12 ⟨rfl, b12⟩))
    have H12 : Hid (liI w [.bool e, .int .u32 (i : Int), .bool r, .int .i64 d, .slice a n cap] [.bool e, .int .u32 (i : Int), .bool r, .int .i64 d, .slice (some ⟨gx, 0, none⟩) n n] b0 gx bx B1 b1 N m a0 c0 a1 c1 wz wz w12) := H11.out.below b12
    clear H11 b12 hk0
    have HMK : Hid (Calls Tryd.prog 12 #[pkV N a1 m c1, .int .i64 1] w12 fun y w' => y = .returned (.int .i64 ((1 + m : Nat) : Int)) ∧ ownsW w' B1 (.slice a1 m c1) (mkL 1 m wz) ∧ Below B1 w12 w' ∧ ∀ b, b < w12.heap.size → (∀ a, a1 = some a → a.block ≠ b) → w'.heap[b]? = w12.heap[b]?) := markPacked_any w12 B1 N a1 m c1 1 wz H12.out.o1 HMM.out (by omega) (by have := H12.out.z; have := H12.out.q1.lt; omega)
    go_upto_region 19 with (first
      | (refine wpList_load_mid (P := Tryd.prog) rfl 29 _ rfl b1 0 rfl [.int .i64 N, .slice a1 m c1] _ H12.out.q1.load Tryd.underlying29 rfl sz29P ?_)
      | (go_at_call 12; refine HMK.out.mono ?_; rintro y w13 ⟨rfl, o13, b13, k13⟩))
    have H13 : Hid (liI w [.bool e, .int .u32 (i : Int), .bool r, .int .i64 d, .slice a n cap] [.bool e, .int .u32 (i : Int), .bool r, .int .i64 d, .slice (some ⟨gx, 0, none⟩) n n] b0 gx bx B1 b1 N m a0 c0 a1 c1 wz (mkL 1 m wz) w13) := H12.out.gmark o13 b13 k13
    clear H12 HMK o13 b13 k13
    have HHD : Hid (Calls Tryd.prog 13 #[pkV N a1 m c1, .int .i64 1] w13 fun y w' => y = .returned (.int .i64 ((1 + m : Nat) : Int)) ∧ Below w13.heap.size w13 w') := heldPacked_any w13 B1 N a1 m c1 1 wz H13.out.o1 HMM.out (by omega)
    go_upto_region 20 with (first
      | (refine wpList_load_mid (P := Tryd.prog) rfl 29 _ rfl b1 0 rfl [.int .i64 N, .slice a1 m c1] _ H13.out.q1.load Tryd.underlying29 rfl sz29P ?_)
      | (go_at_call 13; refine HHD.out.mono ?_; rintro y w14 ⟨rfl, b14⟩))
    have H14 : Hid (liI w [.bool e, .int .u32 (i : Int), .bool r, .int .i64 d, .slice a n cap] [.bool e, .int .u32 (i : Int), .bool r, .int .i64 d, .slice (some ⟨gx, 0, none⟩) n n] b0 gx bx B1 b1 N m a0 c0 a1 c1 wz (mkL 1 m wz) w14) := H13.out.below b14
    clear H13 HHD b14
    have hm0 : ¬ ((1 + m : Nat) : Int) < 0 := by omega
    go_upto_region 24 with fail
    go_upto_region 25 with (first
      | (refine wpList_load_mid (P := Tryd.prog) rfl 25 _ rfl w.heap.size 0 rfl [.bool e, .int .u32 (i : Int), .bool r, .int .i64 d, .slice a n cap] _ H14.out.p.load Tryd.underlying25 rfl sz25F ?_)
      | (go_at_call 7; refine (HT.out _ H14.out.bel).mono ?_; rintro y w15 ⟨g15, rfl, y15, b15, _, _, _⟩; have H15 : Hid (liI w [.bool e, .int .u32 (i : Int), .bool r, .int .i64 d, .slice a n cap] [.bool e, .int .u32 (i : Int), .bool r, .int .i64 d, .slice (some ⟨gx, 0, none⟩) n n] b0 gx bx B1 b1 N m a0 c0 a1 c1 wz (mkL 1 m wz) w15 ∧ J.isBytes w15 (some ⟨g15, 0, none⟩) n n l) := ⟨H14.out.below b15, y15⟩; clear b15 y15)
      | (go_at_call 8; refine (HI.out _ g15 H15.out.1.bel H15.out.2).mono ?_; rintro y w16 ⟨a2, c2, rfl, o16, b16⟩))
    have H17 : Hid (liI w [.bool e, .int .u32 (i : Int), .bool r, .int .i64 d, .slice a n cap] [.bool e, .int .u32 (i : Int), .bool r, .int .i64 d, .slice (some ⟨gx, 0, none⟩) n n] b0 gx bx B1 b1 N m a0 c0 a1 c1 wz (mkL 1 m wz) (w16.alloc (.cells [.int .i64 N, .slice a2 m c2].toArray 29)) ∧ Kd.blk (w16.alloc (.cells [.int .i64 N, .slice a2 m c2].toArray 29)) w16.heap.size [.int .i64 N, .slice a2 m c2] 29 ∧ isWords (w16.alloc (.cells [.int .i64 N, .slice a2 m c2].toArray 29)) a2 m c2 wz) := by
      have hA : Below w16.heap.size w16 (w16.alloc (.cells [.int .i64 N, .slice a2 m c2].toArray 29)) := (Below.refl _ _).alloc (Nat.le_refl _) _
      exact ⟨(H15.out.1.below b16).below hA, Kd.blk.new w16 _ 29, (o16.below hA).words HMM.out HLW.out.2 (o16.cap HMM.out)⟩
    clear o16 b16 H15 H14
    change Code.wp _ _ _ _ (w16.alloc (.cells [.int .i64 N, .slice a2 m c2].toArray 29))
    generalize w16.heap.size = b2 at *
    generalize w16.alloc (.cells [.int .i64 N, .slice a2 m c2].toArray 29) = w17 at *
    go_wp2_with (first
      | (refine wpList_load_mid (P := Tryd.prog) rfl 29 _ rfl b2 0 rfl [.int .i64 N, .slice a2 m c2] _ H17.out.2.1.load Tryd.underlying29 rfl sz29P ?_)
      | (refine wpList_load_mid (P := Tryd.prog) rfl 29 _ rfl b0 0 rfl [.int .i64 N, .slice a0 m c0] _ H17.out.1.q0.load Tryd.underlying29 rfl sz29P ?_)
      | (go_at_call 9; refine (HQ.out _ a2 c2 a0 c0 H17.out.2.2 (H17.out.1.w0 HMM.out HLW.out.2)).mono ?_; rintro y w18 ⟨rfl, b18⟩; have H18 : Hid (Below w.heap.size w w18) := (H17.out.1.below b18).bel; clear b18))
    go_ret
    exact ⟨rfl, H18.out⟩
  · have HS : Hid (∀ W, Calls Tryd.prog 5 #[.agg [.bool e, .int .u32 (i : Int), .bool r, .int .i64 d, .slice a n cap].toArray, .int .i64 1048576] W fun o w' => o = .returned (.int .i64 (-1)) ∧ Below W.heap.size W w') := by
      intro W
      have := J.szFrame_any W e i r d a n cap 1048576 hn (by omega)
      rw [if_neg hl] at this
      refine this.mono ?_
      rintro o w' ⟨rfl, rfl⟩
      exact ⟨rfl, (Below.refl _ _).alloc (Nat.le_refl _) _⟩
    have H0 : Hid (Kd.blk (w.alloc (.cells [.bool e, .int .u32 (i : Int), .bool r, .int .i64 d, .slice a n cap].toArray 25)) w.heap.size [.bool e, .int .u32 (i : Int), .bool r, .int .i64 d, .slice a n cap] 25 ∧ Below w.heap.size w (w.alloc (.cells [.bool e, .int .u32 (i : Int), .bool r, .int .i64 d, .slice a n cap].toArray 25))) := ⟨Kd.blk.new w _ 25, (Below.refl _ _).alloc (Nat.le_refl _) _⟩
    clear h tab hz0 HLEN hl
    go_enter Tryd.func3, Tryd.ntmps3
    go_wp2_with (first
      | (refine wpList_load_mid (P := Tryd.prog) rfl 25 _ rfl w.heap.size 0 rfl [.bool e, .int .u32 (i : Int), .bool r, .int .i64 d, .slice a n cap] _ H0.out.1.load Tryd.underlying25 rfl sz25F ?_)
      | (go_at_call 5; refine (HS.out _).mono ?_; rintro y w1 ⟨rfl, b1⟩; have H1 : Hid (Below w.heap.size w w1) := H0.out.2.trans (b1.mono H0.out.2.size); clear b1))
    go_ret
    exact ⟨rfl, H1.out⟩
end Go.Proofs.YtpknchjjfiiaeaaDoor
