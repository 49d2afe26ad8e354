import Derived.Test.YtaamahohdnbpiaaGreatGY
import Derived.Deep.RegionHeld3
namespace Go.Proofs.YtaamahohdnbpiaaGreat
open Go.RowKit
set_option linter.unusedVariables false
/-- the law's variables: the argument, spec's answer -/
structure lwS (w : World) (H : Ho) (s : Sl) (T : Ho) (bw : Nat) (sw : Sl) (W : World) : Prop where
  p : blk W w.heap.size (hoL H s) 61
  q : blk W bw (hoL T sw) 35
  t : isHo W T sw
  h : isHo W H s
  b : Below w.heap.size w W
theorem lwS.below {w : World} {H : Ho} {s : Sl} {T : Ho} {bw : Nat} {sw : Sl} {W W' : World} (h : lwS w H s T bw sw W) (hb : Below W.heap.size W W') : lwS w H s T bw sw W' := ⟨h.p.below hb, h.q.below hb, h.t.below hb, h.h.below hb, h.b.trans (hb.mono h.b.size)⟩
/-- and the copy x0 of the argument, its memory from w4's end on and below T5 -/
structure lwX (w : World) (H : Ho) (s : Sl) (T : Ho) (bw : Nat) (sw : Sl) (w4 : World) (T5 bx : Nat) (sx : Wh) (W : World) : Prop where
  l : lwS w H s T bw sw W
  x : blk W bx (hoL H sx.sl) 35
  xh : isHo W H sx.sl
  xw : whS w4.heap.size T5 W sx
  z : bw < w4.heap.size ∧ w.heap.size < w4.heap.size ∧ w4.heap.size ≤ T5 ∧ T5 ≤ bx
  b4 : Below w4.heap.size w4 W
theorem lwX.below {w : World} {H : Ho} {s : Sl} {T : Ho} {bw : Nat} {sw : Sl} {w4 : World} {T5 bx : Nat} {sx : Wh} {W W' : World} (h : lwX w H s T bw sw w4 T5 bx sx W) (hb : Below W.heap.size W W') : lwX w H s T bw sw w4 T5 bx sx W' := ⟨h.l.below hb, h.x.below hb, h.xh.below hb, h.xw.same (fun x _ hx => hb.block x (by have := h.x.lt; have := h.z; omega)), h.z, h.b4.trans (hb.mono h.b4.size)⟩
/-- and the answer g0, its memory from B6 on and below w7's end -/
structure lwG (w : World) (H : Ho) (s : Sl) (T : Ho) (bw : Nat) (sw : Sl) (w4 : World) (bx B6 : Nat) (w7 : World) (bg : Nat) (sg : Sl) (W : World) : Prop where
  l : lwS w H s T bw sw W
  g : blk W bg (hoL T sg) 35
  k : ∀ x, B6 ≤ x → x < w7.heap.size → W.heap[x]? = w7.heap[x]?
  z : bx < B6 ∧ B6 ≤ w7.heap.size ∧ w7.heap.size ≤ bg
  y : bw < w4.heap.size ∧ w.heap.size < w4.heap.size ∧ w4.heap.size ≤ bx
  b4 : Below w4.heap.size w4 W
theorem lwG.below {w : World} {H : Ho} {s : Sl} {T : Ho} {bw : Nat} {sw : Sl} {w4 : World} {bx B6 : Nat} {w7 : World} {bg : Nat} {sg : Sl} {W W' : World} (h : lwG w H s T bw sw w4 bx B6 w7 bg sg W) (hb : Below W.heap.size W W') : lwG w H s T bw sw w4 bx B6 w7 bg sg W' := ⟨h.l.below hb, h.g.below hb, fun x h1 h2 => (hb.block x (by have := h.g.lt; have := h.z; omega)).trans (h.k x h1 h2), h.z, h.y, h.b4.trans (hb.mono h.b4.size)⟩
/-- behind the mark of x0 -/
theorem lwG.xmark {w : World} {H : Ho} {s : Sl} {T : Ho} {bw : Nat} {sw : Sl} {w4 : World} {bx B6 : Nat} {w7 : World} {bg : Nat} {sg : Sl} {W W' : World} (h : lwG w H s T bw sw w4 bx B6 w7 bg sg W) (h4 : isHo w4 T sw ∧ isHo w4 H s) (hb : Below w4.heap.size W W') (ho : ∀ x, bx ≤ x → x < W.heap.size → W'.heap[x]? = W.heap[x]?) : lwG w H s T bw sw w4 bx B6 w7 bg sg W' := by
  have hb4 := h.b4.trans hb
  refine ⟨⟨h.l.p.kept (hb.block _ h.y.2.1), h.l.q.kept (hb.block _ h.y.1), h4.1.below hb4, h4.2.below hb4, h.l.b.trans (hb.mono (by have := h.y; omega))⟩, h.g.kept (ho _ (by have := h.z; omega) h.g.lt), fun x h1 h2 => (ho x (by have := h.z; omega) (by have := h.g.lt; have := h.z; omega)).trans (h.k x h1 h2), h.z, h.y, hb4⟩
/-- behind the mark of g0: what is left -/
theorem lwG.gmark {w : World} {H : Ho} {s : Sl} {T : Ho} {bw : Nat} {sw : Sl} {w4 : World} {bx B6 : Nat} {w7 : World} {bg : Nat} {sg : Sl} {W W' : World} (h : lwG w H s T bw sw w4 bx B6 w7 bg sg W) (h4 : isHo w4 T sw ∧ isHo w4 H s) (hb : Below B6 W W') : lwS w H s T bw sw W' := by
  have hz := h.z
  have hy := h.y
  have hb4 := h.b4.trans (hb.mono (by omega))
  exact ⟨h.l.p.kept (hb.block _ (by omega)), h.l.q.kept (hb.block _ (by omega)), h4.1.below hb4, h4.2.below hb4, h.l.b.trans (hb.mono (by omega))⟩
/-- a new variable for a host -/
theorem new_hostS {w : World} (l : List Value) (hl : l.length = 10) : blk (World.setCells (w.alloc (.cells [.int .i64 0, .int .i64 0, .int .i64 0, .int .i64 0, .slice none 0 0, .slice none 0 0, .slice none 0 0, .slice none 0 0, .int .i64 0, .int .i64 0].toArray 35)) w.heap.size 0 l) w.heap.size l 35 ∧ Below w.heap.size w (World.setCells (w.alloc (.cells [.int .i64 0, .int .i64 0, .int .i64 0, .int .i64 0, .slice none 0 0, .slice none 0 0, .slice none 0 0, .slice none 0 0, .int .i64 0, .int .i64 0].toArray 35)) w.heap.size 0 l) := by
  refine ⟨?_, setCells_below (Nat.le_refl _) 0 l ((Below.refl _ _).alloc (Nat.le_refl _) _)⟩
  have := blk.put [] [.int .i64 0, .int .i64 0, .int .i64 0, .int .i64 0, .slice none 0 0, .slice none 0 0, .slice none 0 0, .slice none 0 0, .int .i64 0, .int .i64 0] [] l (w := w.alloc (.cells [.int .i64 0, .int .i64 0, .int .i64 0, .int .i64 0, .slice none 0 0, .slice none 0 0, .slice none 0 0, .slice none 0 0, .int .i64 0, .int .i64 0].toArray 35)) (b := w.heap.size) (T := 35) (by simpa using blk.new w _ 35) (by rw [hl]; rfl)
  simpa using this
theorem eqT (X : World) (T : Ho) (s1 s2 : Sl) (h1 : isHo X T s1) (h2 : isHo X T s2) (hm : T.le 1048576) : Calls Tryz.prog 37 #[.agg (hoL T s1).toArray, .agg (hoL T s2).toArray] X fun o w' => o = .returned (.bool true) ∧ Below X.heap.size X w' := eqL X T s1 s2 h1 h2 hm
set_option maxHeartbeats 8000000 in
set_option maxRecDepth 40000 in
/-- laws.FnExactTake -/
theorem lawTake (H : Ho) (s : Sl) (i : Int) (w : World) (h : isHo w H s) (hn : H.le 9223372036854775807) :
    Calls Tryz.prog 7 #[hoV H s, .int .i64 i] w fun o w' => o = .returned (.bool true) ∧ Below w.heap.size w w' := by
  rw [hoV_L]
  obtain ⟨T, hR⟩ := takeRel_ex H i
  have HS : Hid (∀ X, Below w.heap.size w X → Calls Tryz.prog 35 #[.agg (hoL H s).toArray, .int .i64 1048576] X fun o w' => ∃ z : Int, o = .returned (.int .i64 z) ∧ Below X.heap.size X w' ∧ (z = -1 ∨ ∃ m' : Nat, z = (m' : Int) ∧ H.le 1048576)) := fun X hX => szL X H s (h.below hX) hn
  have HT : Hid (H.le 1048576 → ∀ X, isHo X H s → Calls Tryz.prog 36 #[.agg (hoL H s).toArray] X fun o w' => ∃ s' : Wh, o = .returned (.agg (hoL H s'.sl).toArray) ∧ St X.heap.size w' (fun W => isHo W H s'.sl) ∧ whS X.heap.size w'.heap.size w' s' ∧ whD s' ∧ slSome s'.sl ∧ Below X.heap.size X w') := fun hm X hX => toWh X H s hX hm
  have HE : Hid (H.le 1048576 → ∀ X s', isHo X H s' → Calls Tryz.prog 29 #[.agg (hoL H s').toArray, .int .i64 i] X fun o w' => ∃ s2, o = .returned (.agg (hoL T s2).toArray) ∧ isHo w' T s2 ∧ Below X.heap.size X w') := fun hm X s' h' => specTake_any X H s' i T hR h' hm
  have HI : Hid (H.le 1048576 → ∀ X s', isHo X H s' → slSome s' → Calls Tryz.prog 19 #[.agg (hoL H s').toArray, .int .i64 i] X fun o w' => ∃ sg, o = .returned (.agg (hoL T sg).toArray) ∧ St X.heap.size w' (fun W => isHo W T sg) ∧ MKQ X.heap.size T sg w' ∧ Below X.heap.size X w') := fun hm X s' h' hs' => implT X H s' i T hR h' hs' hm
  have HQ : Hid (H.le 1048576 → ∀ X s1 s2, isHo X T s1 → isHo X T s2 → Calls Tryz.prog 37 #[.agg (hoL T s1).toArray, .agg (hoL T s2).toArray] X fun o w' => o = .returned (.bool true) ∧ Below X.heap.size X w') := fun hm X s1 s2 h1 h2 => eqT X _ s1 s2 h1 h2 (takeR_le hR hm)
  have HQH : Hid (H.le 1048576 → ∀ X s1 s2, isHo X H s1 → isHo X H s2 → Calls Tryz.prog 37 #[.agg (hoL H s1).toArray, .agg (hoL H s2).toArray] X fun o w' => o = .returned (.bool true) ∧ Below X.heap.size X w') := fun hm X s1 s2 h1 h2 => eqT X _ s1 s2 h1 h2 hm
  have P0 : blk (w.alloc (.cells (hoL H s).toArray 61)) w.heap.size (hoL H s) 61 := blk.new w _ 61
  have HA : Hid (Below w.heap.size w (w.alloc (.cells (hoL H s).toArray 61))) := (Below.refl _ _).alloc (Nat.le_refl _) _
  have HH : Hid (∀ X, Below w.heap.size w X → isHo X H s) := fun X hX => h.below hX
  have HP0 : Hid (blk (w.alloc (.cells (hoL H s).toArray 61)) w.heap.size (hoL H s) 61) := P0
  clear h hn P0
  clear hR
  go_enter Tryz.func7, Tryz.ntmps7
  go_wp2_with (first | (refine wpList_load_mid (P := Tryz.prog) rfl 61 (.tmp 2) rfl w.heap.size 0 rfl (hoL H s) _ HP0.out.load Tryz.underlying61 rfl (sz61L H s) ?_))
  refine (HS.out _ HA.out).mono ?_
  rintro o w1 ⟨z, rfl, b1, h1⟩
  have HP1 : Hid (blk w1 w.heap.size (hoL H s) 61) := HP0.out.below b1
  have HB1 : Hid (Below w.heap.size w w1) := HA.out.trans (b1.mono (by simp))
  clear b1 HP0 HA HS
  rcases h1 with rfl | ⟨m', rfl, hle⟩
  · go_wp2_with fail
    go_ret
    exact ⟨rfl, HB1.out⟩
  have HLE : Hid (H.le 1048576) := hle
  clear hle
  go_wp2_with (first | (refine wpList_load_mid (P := Tryz.prog) rfl 61 (.tmp 2) rfl w.heap.size 0 rfl (hoL H s) _ HP1.out.load Tryz.underlying61 rfl (sz61L H s) ?_))
  refine (HT.out HLE.out _ (HH.out _ HB1.out)).mono ?_
  rintro o w2 ⟨s2, rfl, S2, _, _, _, b2⟩
  have HO2 : Hid (isHo w2 H s2.sl) := S2.now
  have HP2 : Hid (blk w2 w.heap.size (hoL H s) 61) := HP1.out.below b2
  have HB2 : Hid (Below w.heap.size w w2) := HB1.out.trans (b2.mono HB1.out.size)
  clear S2 b2 HP1 HB1
  go_wp2_with fail
  refine (HE.out HLE.out w2 s2.sl HO2.out).mono ?_
  rintro o w3 ⟨sw, rfl, hT3, b3⟩
  have HP3 : Hid (blk w3 w.heap.size (hoL H s) 61) := HP2.out.below b3
  have HB3 : Hid (Below w.heap.size w w3) := HB2.out.trans (b3.mono HB2.out.size)
  have HT3 : Hid (isHo w3 T sw) := hT3
  clear hT3 b3 HP2 HB2 HO2 HE
  have HNW : Hid (blk (World.setCells (w3.alloc (.cells [.int .i64 0, .int .i64 0, .int .i64 0, .int .i64 0, .slice none 0 0, .slice none 0 0, .slice none 0 0, .slice none 0 0, .int .i64 0, .int .i64 0].toArray 35)) w3.heap.size 0 (hoL T sw)) w3.heap.size (hoL T sw) 35 ∧ Below w3.heap.size w3 (World.setCells (w3.alloc (.cells [.int .i64 0, .int .i64 0, .int .i64 0, .int .i64 0, .slice none 0 0, .slice none 0 0, .slice none 0 0, .slice none 0 0, .int .i64 0, .int .i64 0].toArray 35)) w3.heap.size 0 (hoL T sw))) := new_hostS _ (hoL_len _ _)
  have HN3 : Hid (blk (w3.alloc (.cells [.int .i64 0, .int .i64 0, .int .i64 0, .int .i64 0, .slice none 0 0, .slice none 0 0, .slice none 0 0, .slice none 0 0, .int .i64 0, .int .i64 0].toArray 35)) w3.heap.size [.int .i64 0, .int .i64 0, .int .i64 0, .int .i64 0, .slice none 0 0, .slice none 0 0, .slice none 0 0, .slice none 0 0, .int .i64 0, .int .i64 0] 35) := blk.new w3 _ 35
  go_wp2_with (first | (refine wpList_store_mid (P := Tryz.prog) rfl 35 _ _ rfl w3.heap.size 0 (hoL T sw).toArray rfl rfl (HN3.out.there 0 _ (by rw [List.size_toArray, hoL_len]; decide)) (sz41A T sw) (hoL_one T sw) ?_; generalize hW4 : World.setCells (w3.alloc _) w3.heap.size 0 _ = w4; have HW4 : Hid (lwS w H s T w3.heap.size sw w4) := (by rw [← hW4]; exact ⟨HP3.out.below HNW.out.2, HNW.out.1, HT3.out.below HNW.out.2, HH.out _ (HB3.out.trans (HNW.out.2.mono HB3.out.size)), HB3.out.trans (HNW.out.2.mono HB3.out.size)⟩); clear hW4 HNW HN3) | (refine wpList_load_mid (P := Tryz.prog) rfl 61 (.tmp 2) rfl w.heap.size 0 rfl (hoL H s) _ HW4.out.p.load Tryz.underlying61 rfl (sz61L H s) ?_))
  clear HP3 HB3 HT3
  generalize w3.heap.size = bw at *
  refine (HT.out HLE.out _ HW4.out.h).mono ?_
  rintro o w5 ⟨s5, rfl, S5, S5w, S5d, S5s, b5⟩
  have HX5 : Hid (lwS w H s T bw sw w5 ∧ isHo w5 H s5.sl ∧ whS w4.heap.size w5.heap.size w5 s5) := ⟨HW4.out.below b5, S5.now, S5w⟩
  have HD5 : Hid (whD s5 ∧ slSome s5.sl) := ⟨S5d, S5s⟩
  have HB45 : Hid (Below w4.heap.size w4 w5) := b5
  have HH4 : Hid (isHo w4 T sw ∧ isHo w4 H s) := ⟨HW4.out.t, HW4.out.h⟩
  have HZ5 : Hid (bw < w4.heap.size ∧ w.heap.size < w4.heap.size ∧ w4.heap.size ≤ w5.heap.size) := ⟨HW4.out.q.lt, HW4.out.p.lt, b5.size⟩
  clear S5 S5w S5d S5s b5
  have HN5a : Hid (blk (World.setCells (w5.alloc (.cells [.int .i64 0, .int .i64 0, .int .i64 0, .int .i64 0, .slice none 0 0, .slice none 0 0, .slice none 0 0, .slice none 0 0, .int .i64 0, .int .i64 0].toArray 35)) w5.heap.size 0 (hoL H s5.sl)) w5.heap.size (hoL H s5.sl) 35 ∧ Below w5.heap.size w5 (World.setCells (w5.alloc (.cells [.int .i64 0, .int .i64 0, .int .i64 0, .int .i64 0, .slice none 0 0, .slice none 0 0, .slice none 0 0, .slice none 0 0, .int .i64 0, .int .i64 0].toArray 35)) w5.heap.size 0 (hoL H s5.sl))) := new_hostS _ (hoL_len _ _)
  have HN5b : Hid (blk (w5.alloc (.cells [.int .i64 0, .int .i64 0, .int .i64 0, .int .i64 0, .slice none 0 0, .slice none 0 0, .slice none 0 0, .slice none 0 0, .int .i64 0, .int .i64 0].toArray 35)) w5.heap.size [.int .i64 0, .int .i64 0, .int .i64 0, .int .i64 0, .slice none 0 0, .slice none 0 0, .slice none 0 0, .slice none 0 0, .int .i64 0, .int .i64 0] 35) := blk.new w5 _ 35
  go_wp2_with (first | (refine wpList_store_mid (P := Tryz.prog) rfl 35 _ _ rfl w5.heap.size 0 (hoL H s5.sl).toArray rfl rfl (HN5b.out.there 0 _ (by rw [List.size_toArray, hoL_len]; decide)) (sz41A H s5.sl) (hoL_one H s5.sl) ?_; generalize hW6 : World.setCells (w5.alloc _) w5.heap.size 0 _ = w6; have HX6 : Hid (lwX w H s T bw sw w4 w5.heap.size w5.heap.size s5 w6) := (by rw [← hW6]; exact ⟨HX5.out.1.below HN5a.out.2, HN5a.out.1, HX5.out.2.1.below HN5a.out.2, HX5.out.2.2.same (fun x _ hx => HN5a.out.2.block x hx), ⟨HZ5.out.1, HZ5.out.2.1, HZ5.out.2.2, Nat.le_refl _⟩, HB45.out.trans (HN5a.out.2.mono HB45.out.size)⟩); clear hW6 HN5a HN5b) | (refine wpList_load_mid (P := Tryz.prog) rfl 35 _ rfl w5.heap.size 0 rfl (hoL H s5.sl) _ HX6.out.x.load Tryz.underlying35 rfl (sz41L H s5.sl) ?_))
  clear HX5 HZ5 HW4 HB45
  generalize hT5 : w5.heap.size = bx at *
  clear hT5
  refine (HI.out HLE.out w6 s5.sl HX6.out.xh HD5.out.2).mono ?_
  rintro o w7 ⟨sg, rfl, S7, M7, b7⟩
  have HX7 : Hid (lwX w H s T bw sw w4 bx bx s5 w7) := HX6.out.below b7
  have HG7 : Hid (St w6.heap.size w7 (fun W => isHo W T sg) ∧ MKQ w6.heap.size T sg w7 ∧ w6.heap.size ≤ w7.heap.size ∧ bx < w6.heap.size) := ⟨S7, M7, b7.size, HX6.out.x.lt⟩
  clear S7 M7 b7 HX6
  have HN7a : Hid (blk (World.setCells (w7.alloc (.cells [.int .i64 0, .int .i64 0, .int .i64 0, .int .i64 0, .slice none 0 0, .slice none 0 0, .slice none 0 0, .slice none 0 0, .int .i64 0, .int .i64 0].toArray 35)) w7.heap.size 0 (hoL T sg)) w7.heap.size (hoL T sg) 35 ∧ Below w7.heap.size w7 (World.setCells (w7.alloc (.cells [.int .i64 0, .int .i64 0, .int .i64 0, .int .i64 0, .slice none 0 0, .slice none 0 0, .slice none 0 0, .slice none 0 0, .int .i64 0, .int .i64 0].toArray 35)) w7.heap.size 0 (hoL T sg))) := new_hostS _ (hoL_len _ _)
  have HN7b : Hid (blk (w7.alloc (.cells [.int .i64 0, .int .i64 0, .int .i64 0, .int .i64 0, .slice none 0 0, .slice none 0 0, .slice none 0 0, .slice none 0 0, .int .i64 0, .int .i64 0].toArray 35)) w7.heap.size [.int .i64 0, .int .i64 0, .int .i64 0, .int .i64 0, .slice none 0 0, .slice none 0 0, .slice none 0 0, .slice none 0 0, .int .i64 0, .int .i64 0] 35) := blk.new w7 _ 35
  go_wp2_with (first
    | (refine wpList_store_mid (P := Tryz.prog) rfl 35 _ _ rfl w7.heap.size 0 (hoL T sg).toArray rfl rfl (HN7b.out.there 0 _ (by rw [List.size_toArray, hoL_len]; decide)) (sz41A T sg) (hoL_one T sg) ?_; generalize hW8 : World.setCells (w7.alloc _) w7.heap.size 0 _ = w8; have HX8 : Hid (lwX w H s T bw sw w4 bx bx s5 w8 ∧ blk w8 w7.heap.size (hoL T sg) 35 ∧ Below w7.heap.size w7 w8) := (by rw [← hW8]; exact ⟨HX7.out.below HN7a.out.2, HN7a.out.1, HN7a.out.2⟩); clear hW8 HN7a HN7b)
    | (refine wpList_load_mid (P := Tryz.prog) rfl 35 (.tmp 8) rfl w7.heap.size 0 rfl (hoL T sg) _ HX8.out.2.1.load Tryz.underlying35 rfl (sz41L T sg) ?_)
    | (refine wpList_load_mid (P := Tryz.prog) rfl 35 (.tmp 6) rfl bw 0 rfl (hoL T sw) _ HX8.out.1.l.q.load Tryz.underlying35 rfl (sz41L T sw) ?_))
  have HG8 : Hid (lwG w H s T bw sw w4 bx w6.heap.size w7 w7.heap.size sg w8) := ⟨HX8.out.1.l, HX8.out.2.1, fun x h1 h2 => HX8.out.2.2.block x h2, ⟨HG7.out.2.2.2, HG7.out.2.2.1, Nat.le_refl _⟩, ⟨HX8.out.1.z.1, HX8.out.1.z.2.1, by have := HX8.out.1.z; omega⟩, HX8.out.1.b4⟩
  have HX9 : Hid (lwX w H s T bw sw w4 bx bx s5 w8) := HX8.out.1
  have HSM : Hid (St w6.heap.size w7 (fun W => isHo W T sg) ∧ MKQ w6.heap.size T sg w7) := ⟨HG7.out.1, HG7.out.2.1⟩
  clear HX8 HG7 HX7
  generalize w6.heap.size = B6 at *
  refine (HQ.out HLE.out w8 sg sw (HSM.out.1 w8 HG8.out.k) HG8.out.l.t).mono ?_
  rintro o w9 ⟨rfl, b9⟩
  have HX10 : Hid (lwX w H s T bw sw w4 bx bx s5 w9 ∧ lwG w H s T bw sw w4 bx B6 w7 w7.heap.size sg w9) := ⟨HX9.out.below b9, HG8.out.below b9⟩
  clear b9 HX9 HG8
  generalize hbg : w7.heap.size = bg at *
  have HBG : Hid (w7.heap.size = bg) := hbg
  clear hbg
  go_wp2_with fail
  refine wp_region_held (S := fun W => lwX w H s T bw sw w4 bx bx s5 W ∧ lwG w H s T bw sw w4 bx B6 w7 bg sg W) (by kernel_rfl) ?_
  have hS : lwX w H s T bw sw w4 bx bx s5 w9.drew ∧ lwG w H s T bw sw w4 bx B6 w7 bg sg w9.drew := ⟨HX10.out.1.below (Below.refl _ _).drew, HX10.out.2.below (Below.refl _ _).drew⟩
  clear HX10
  change wpAnyH Tryz.prog _ _ _ _ _ _ _ w9.drew
  generalize w9.drew = w10 at *
  refine wpAnyH_take (i := 0) (v := .agg (hoL H s5.sl).toArray) rfl (by kernel_rfl) (by kernel_rfl) (by kernel_rfl) (fun _ _ _ h => h) (yieldsIf_load_mid (by rfl) 35 (.tmp 7) rfl bx 0 rfl (hoL H s5.sl) _ (fun W h => h.1.x.load) Tryz.underlying35 rfl (sz41L H s5.sl)) hS ?_
  simp only [Act.put, List.setIfInBounds_toArray, List.set_cons_zero, List.set_cons_succ, List.getElem_toArray, List.getElem_cons_zero]
  refine wpAnyH_take (i := 1) (v := .agg (hoL H s).toArray) rfl (by kernel_rfl) (by kernel_rfl) (by kernel_rfl) (fun _ _ _ h => h) (yieldsIf_load_mid (by rfl) 61 (.tmp 2) rfl w.heap.size 0 rfl (hoL H s) _ (fun W h => h.1.l.p.load) Tryz.underlying61 rfl (sz61L H s)) hS ?_
  simp only [Act.put, List.setIfInBounds_toArray, List.set_cons_zero, List.set_cons_succ, List.getElem_toArray, List.getElem_cons_zero, List.getElem_cons_succ]
  refine wpAnyH_all (rs := [2]) (by kernel_rfl) (by simp) ?_
  refine AllReadyH.cons rfl (fun K2 hK2 => ?_) AllReadyH.nil
  go_simp
  refine (HT.out HLE.out _ hS.1.l.h).mono ?_
  rintro o w11 ⟨s11, rfl, S11, _, _, _, b11⟩
  have HO11 : Hid (isHo w11 H s11.sl) := S11.now
  have hS11 : lwX w H s T bw sw w4 bx bx s5 w11 ∧ lwG w H s T bw sw w4 bx B6 w7 bg sg w11 := ⟨hS.1.below b11, hS.2.below b11⟩
  clear S11 b11
  go_wp2_with fail
  refine hK2.out _ _ hS11 (fun hS2 => ?_)
  clear hS hK2 K2 hS11
  have hS := hS2
  clear hS2
  refine wpAnyH_all (rs := [3]) (by kernel_rfl) (by simp) ?_
  refine AllReadyH.cons rfl (fun K2 hK2 => ?_) AllReadyH.nil
  go_simp
  refine (HQH.out HLE.out _ s5.sl s11.sl hS.1.xh HO11.out).mono ?_
  rintro o w12 ⟨rfl, b12⟩
  have hS12 : lwX w H s T bw sw w4 bx bx s5 w12 ∧ lwG w H s T bw sw w4 bx B6 w7 bg sg w12 := ⟨hS.1.below b12, hS.2.below b12⟩
  clear b12 HO11
  go_wp2_with fail
  refine hK2.out _ _ hS12 (fun hS2 => ?_)
  clear hS hK2 K2 hS12
  have hS := hS2
  clear hS2
  refine wpAnyH_take (i := 4) (v := .bool false) rfl (by kernel_rfl) (by kernel_rfl) (by kernel_rfl) (fun _ _ _ h => h) (Or.inl ⟨by rfl, ?_⟩) hS ?_
  · intro W hSw
    clear hS
    go_simp
  simp only [Act.put, List.setIfInBounds_toArray, List.set_cons_zero, List.set_cons_succ, List.getElem_toArray, List.getElem_cons_zero, List.getElem_cons_succ]
  refine wpAnyH_done (by kernel_rfl) ?_ _
  have HX12 : Hid (lwX w H s T bw sw w4 bx bx s5 w12 ∧ lwG w H s T bw sw w4 bx B6 w7 bg sg w12) := hS
  clear hS
  go_wp2_with (first | (refine wpList_load_mid (P := Tryz.prog) rfl 35 (.tmp 7) rfl bx 0 rfl (hoL H s5.sl) _ HX12.out.1.x.load Tryz.underlying35 rfl (sz41L H s5.sl) ?_))
  have HMX : Hid (Calls Tryz.prog 39 #[.agg (hoL H s5.sl).toArray, .int .i64 1] w12 fun o w1 => ∃ k : Nat, o = .returned (.int .i64 (k : Int)) ∧ (∀ x, bx ≤ x → x < w12.heap.size → w1.heap[x]? = w12.heap[x]?) ∧ Below w4.heap.size w12 w1) := xMark2 HX12.out.1.xw HD5.out.1 (Nat.le_of_lt HX12.out.1.x.lt)
  refine (Calls.mono HMX.out) ?_
  rintro o w13 ⟨k, rfl, q1, q2⟩
  have HG13 : Hid (lwG w H s T bw sw w4 bx B6 w7 bg sg w13) := HX12.out.2.xmark HH4.out q2 q1
  clear q1 q2 HX12 HMX
  have hk0 : decide ((k : Int) < 0) = false := by simp
  go_wp2_with (first
    | (refine wpList_load_midG (by first | rfl | (simp [Region.wanted, yielded]; done) | (simp [Region.wanted, yielded]; omega)) 35 (.tmp 8) rfl bg 0 rfl (hoL T sg) _ HG13.out.g.load Tryz.underlying35 rfl (sz41L T sg) ?_)
    | (refine wpList_load_midG (by first | rfl | (simp [Region.wanted, yielded]; done) | (simp [Region.wanted, yielded]; omega)) 35 (.tmp 6) rfl bw 0 rfl (hoL T sw) _ HG13.out.l.q.load Tryz.underlying35 rfl (sz41L T sw) ?_))
  refine (HQ.out HLE.out w13 sg sw (HSM.out.1 w13 HG13.out.k) HG13.out.l.t).mono ?_
  rintro o w14 ⟨rfl, b14⟩
  have HG14 : Hid (lwG w H s T bw sw w4 bx B6 w7 bg sg w14) := HG13.out.below b14
  clear b14 HG13 hk0
  go_wp2_with (first | (refine wpList_load_mid (P := Tryz.prog) rfl 35 (.tmp 8) rfl bg 0 rfl (hoL T sg) _ HG14.out.g.load Tryz.underlying35 rfl (sz41L T sg) ?_))
  have hzz : w7.heap.size ≤ w14.heap.size := by have := HG14.out.g.lt; have := HG14.out.z; omega
  refine (HSM.out.2 w14 HG14.out.k hzz).mono ?_
  rintro o w15 ⟨m, rfl, b15, o15, c15⟩
  have HL15 : Hid (lwS w H s T bw sw w15) := HG14.out.gmark HH4.out b15
  have HV15 : Hid (blk w15 bg (hoL T sg) 35) := HG14.out.g.kept (o15 _ HG14.out.z.2.2 HG14.out.g.lt)
  have HC15 : Hid (Calls Tryz.prog 41 #[.agg (hoL T sg).toArray, .int .i64 1] w15 fun o w2 => o = .returned (.int .i64 (m : Int)) ∧ Below w15.heap.size w15 w2) := c15 w15 (Below.refl _ _)
  clear b15 o15 c15 HG14 HSM hzz HH4
  go_wp2_with (first | (refine wpList_load_mid (P := Tryz.prog) rfl 35 (.tmp 8) rfl bg 0 rfl (hoL T sg) _ HV15.out.load Tryz.underlying35 rfl (sz41L T sg) ?_))
  refine (Calls.mono HC15.out) ?_
  rintro o w16 ⟨rfl, b16⟩
  have HL16 : Hid (lwS w H s T bw sw w16) := HL15.out.below b16
  clear b16 HL15 HV15 HC15
  have hm0 : ¬ (m : Int) < 0 := by omega
  go_wp2_with (first | (refine wpList_load_mid (P := Tryz.prog) rfl 61 (.tmp 2) rfl w.heap.size 0 rfl (hoL H s) _ HL16.out.p.load Tryz.underlying61 rfl (sz61L H s) ?_))
  refine (HT.out HLE.out _ HL16.out.h).mono ?_
  rintro o w17 ⟨s17, rfl, S17, _, _, S17s, b17⟩
  have HL17 : Hid (lwS w H s T bw sw w17 ∧ isHo w17 H s17.sl ∧ slSome s17.sl) := ⟨HL16.out.below b17, S17.now, S17s⟩
  clear S17 S17s b17 HL16
  go_wp2_with fail
  refine (HI.out HLE.out w17 s17.sl HL17.out.2.1 HL17.out.2.2).mono ?_
  rintro o w18 ⟨sh, rfl, S18, _, b18⟩
  have HL18 : Hid (lwS w H s T bw sw w18 ∧ isHo w18 T sh) := ⟨HL17.out.1.below b18, S18.now⟩
  clear S18 b18 HL17
  have HN18a : Hid (blk (World.setCells (w18.alloc (.cells [.int .i64 0, .int .i64 0, .int .i64 0, .int .i64 0, .slice none 0 0, .slice none 0 0, .slice none 0 0, .slice none 0 0, .int .i64 0, .int .i64 0].toArray 35)) w18.heap.size 0 (hoL T sh)) w18.heap.size (hoL T sh) 35 ∧ Below w18.heap.size w18 (World.setCells (w18.alloc (.cells [.int .i64 0, .int .i64 0, .int .i64 0, .int .i64 0, .slice none 0 0, .slice none 0 0, .slice none 0 0, .slice none 0 0, .int .i64 0, .int .i64 0].toArray 35)) w18.heap.size 0 (hoL T sh))) := new_hostS _ (hoL_len _ _)
  have HN18b : Hid (blk (w18.alloc (.cells [.int .i64 0, .int .i64 0, .int .i64 0, .int .i64 0, .slice none 0 0, .slice none 0 0, .slice none 0 0, .slice none 0 0, .int .i64 0, .int .i64 0].toArray 35)) w18.heap.size [.int .i64 0, .int .i64 0, .int .i64 0, .int .i64 0, .slice none 0 0, .slice none 0 0, .slice none 0 0, .slice none 0 0, .int .i64 0, .int .i64 0] 35) := blk.new w18 _ 35
  go_wp2_with (first
    | (refine wpList_store_mid (P := Tryz.prog) rfl 35 _ _ rfl w18.heap.size 0 (hoL T sh).toArray rfl rfl (HN18b.out.there 0 _ (by rw [List.size_toArray, hoL_len]; decide)) (sz41A T sh) (hoL_one T sh) ?_; generalize hW19 : World.setCells (w18.alloc _) w18.heap.size 0 _ = w19; have HL19 : Hid (lwS w H s T bw sw w19 ∧ isHo w19 T sh ∧ blk w19 w18.heap.size (hoL T sh) 35) := (by rw [← hW19]; exact ⟨HL18.out.1.below HN18a.out.2, HL18.out.2.below HN18a.out.2, HN18a.out.1⟩); clear hW19 HN18a HN18b)
    | (refine wpList_load_mid (P := Tryz.prog) rfl 35 (.tmp 6) rfl bw 0 rfl (hoL T sw) _ HL19.out.1.q.load Tryz.underlying35 rfl (sz41L T sw) ?_)
    | (refine wpList_load_mid (P := Tryz.prog) rfl 35 _ rfl w18.heap.size 0 rfl (hoL T sh) _ HL19.out.2.2.load Tryz.underlying35 rfl (sz41L T sh) ?_))
  refine (HQ.out HLE.out w19 sh sw HL19.out.2.1 HL19.out.1.t).mono ?_
  rintro o w20 ⟨rfl, b20⟩
  have HL20 : Hid (Below w.heap.size w w20) := (HL19.out.1.below b20).b
  clear b20 HL19 HL18
  go_wp2_with fail
  go_ret
  exact ⟨rfl, HL20.out⟩
end Go.Proofs.YtaamahohdnbpiaaGreat
