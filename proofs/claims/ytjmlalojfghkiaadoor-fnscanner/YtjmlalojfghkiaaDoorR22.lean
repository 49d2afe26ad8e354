import Derived.Test.YtjmlalojfghkiaaDoorR21
namespace Go.Proofs.YtjmlalojfghkiaaDoor.J
open Go.RowKit
def goesOnB (c : Nat) : Bool := decide (c = 0 ∨ c = 1)
theorem inv_code {k : Wk} (h : k.Inv) (c : Nat) : ({ k with code := c } : Wk).Inv := ⟨h.f1, h.f2, h.tk, h.sm, h.idb, h.dlb, h.crb, h.dan, h.dat, h.dal, h.das⟩
theorem inv_heard {k : Wk} (h : k.Inv) (c : Nat) : (k.heard c).Inv := ⟨h.f1, h.f2, h.tk, h.sm, h.idb, h.dlb, h.crb, h.dan, h.dat, h.dal, h.das⟩
theorem keep_last (k : Wk) (bit : Nat) : (k.keep bit).last = k.last := by
  unfold Wk.keep Wk.keep1
  (repeat' split) <;> rfl
theorem adv_last (k : Wk) : k.adv.last = k.last := by
  unfold Wk.adv
  (repeat' split) <;> rfl
theorem take_inv {k : Wk} (h : k.Inv) (c : Nat) (hc : M.isL c) (hg : goesOnB (k.take c).2 = true) : (k.take c).1.Inv := by
  unfold Wk.take at hg ⊢
  by_cases h1 : k.due = true ∧ c = k.last.1
  · rw [if_pos h1]; exact h
  · rw [if_neg h1] at hg ⊢
    by_cases h2 : k.due = true
    · rw [if_pos h2]; exact inv_heard h c
    · rw [if_neg h2] at hg ⊢
      refine inv_adv (k.heard c) (c - 48) (by rcases hc with rfl | rfl <;> decide) (inv_heard h c) ?_
      simpa [goesOnB] using hg
theorem take_run (k : Wk) (c : Nat) : (k.take c).1.last.2 ≤ k.last.2 + 1 := by
  unfold Wk.take
  split
  · show k.last.2 ≤ _; omega
  · split
    · exact M.hear_le _ _
    · show ((((k.heard c).keep (c - 48)).adv).last.2) ≤ _
      rw [adv_last, keep_last]
      exact M.hear_le _ _
/-- the walk over the letters, from k on -/
def Wk.over : Wk → List Nat → Wk
  | k, [] => k
  | k, c :: cs => if goesOnB (k.take c).2 = true then Wk.over { (k.take c).1 with code := (k.take c).2 } cs
      else if cs = [] then { (k.take c).1 with code := (k.take c).2 } else { (k.take c).1 with code := 7 }
def Wk.init : Wk := ⟨1, 0, (0, 0), 0, 0, false, 0, false, 0, [], 0⟩
theorem inv_init : Wk.init.Inv := by
  constructor <;> simp [Wk.init, Wk.fsize]
/-- the walk as a value -/
def Wk.val (k : Wk) (v : Value) : Value :=
  .agg #[.int .i64 (k.field : Int), .int .i64 (k.taken : Int), .int .i32 (k.last.1 : Int), .int .i64 (k.last.2 : Int), .int .i64 (k.sum : Int), .int .i64 (k.crc : Int), .bool k.ext, .int .u32 (k.id : Int), .bool k.rtr, .int .i64 (k.dlc : Int), v, .int .i64 (k.code : Int)]
theorem lt_drop (s : ByteArray) (k : Nat) (h : k < s.size) : (lt s).drop k = s[k].toNat :: (lt s).drop (k + 1) := by
  rw [List.drop_eq_getElem_cons (by rw [lt_length]; exact h)]
  simp [lt]
  rfl
def Wk.zero : Wk := ⟨0, 0, (0, 0), 0, 0, false, 0, false, 0, [], 0⟩
/-- the two blocks that walkOver lays: its result, its walk -/
theorem wo_start {w w1 : World} (h : Below ((w.alloc (.cells #[.int .i64 0, .int .i64 0, .int .i32 0, .int .i64 0, .int .i64 0, .int .i64 0, .bool false, .int .u32 0, .bool false, .int .i64 0, .slice none 0 0, .int .i64 0] 67)).alloc (.cells #[.int .i64 1, .int .i64 0, .int .i32 0, .int .i64 0, .int .i64 0, .int .i64 0, .bool false, .int .u32 0, .bool false, .int .i64 0, .slice none 0 0, .int .i64 0] 67)).heap.size ((w.alloc (.cells #[.int .i64 0, .int .i64 0, .int .i32 0, .int .i64 0, .int .i64 0, .int .i64 0, .bool false, .int .u32 0, .bool false, .int .i64 0, .slice none 0 0, .int .i64 0] 67)).alloc (.cells #[.int .i64 1, .int .i64 0, .int .i32 0, .int .i64 0, .int .i64 0, .int .i64 0, .bool false, .int .u32 0, .bool false, .int .i64 0, .slice none 0 0, .int .i64 0] 67)) w1) :
    wkAt w1 w.heap.size Wk.zero (.slice none 0 0) ∧ wkAt w1 (w.heap.size + 1) Wk.init (.slice none 0 0) ∧ Below w.heap.size w w1 := by
  refine ⟨wkAt.below (k := Wk.zero) ?_ h, wkAt.below (k := Wk.init) ?_ h, ?_⟩
  · unfold wkAt
    rw [Below.heap_alloc _ _ _ (by simp)]
    exact heap_alloc_new w _
  · unfold wkAt
    have := heap_alloc_new (w.alloc (.cells #[.int .i64 0, .int .i64 0, .int .i32 0, .int .i64 0, .int .i64 0, .int .i64 0, .bool false, .int .u32 0, .bool false, .int .i64 0, .slice none 0 0, .int .i64 0] 67)) (.cells #[.int .i64 1, .int .i64 0, .int .i32 0, .int .i64 0, .int .i64 0, .int .i64 0, .bool false, .int .u32 0, .bool false, .int .i64 0, .slice none 0 0, .int .i64 0] 67)
    have e : ∀ o : Obj, (w.alloc o).heap.size = w.heap.size + 1 := fun o => by simp
    rw [e] at this
    exact this
  · exact (((Below.refl w.heap.size w).alloc (Nat.le_refl _) _).alloc (by simp) _).trans (h.mono (by simp; omega))
/-- what stands behind the stores into the result's block -/
structure endP (w0 : World) (B b : Nat) (v : Value) (l : List Nat) (W : World) : Prop where
  own : ownsB W B v l
  blk : ∃ cs, W.heap[b]? = some (.cells cs 67 (0, 0))
  bel : Below B w0 W
  le : B ≤ b
theorem endP.set {w0 : World} {B b : Nat} {v : Value} {l : List Nat} {W : World} (h : endP w0 B b v l W) (j : Nat) (x : Value) : endP w0 B b v l (W.setCell ⟨b, j, none⟩ x) := by
  obtain ⟨cs, hc⟩ := h.blk
  exact ⟨h.own.setB hc j x, ⟨_, heap_setCell_same W b j _ _ x hc⟩, h.bel.setCell (by exact h.le) x, h.le⟩
theorem endP.set12 {w0 : World} {B b : Nat} {v : Value} {l : List Nat} {W : World} (h : endP w0 B b v l W) (x0 x1 x2 x3 x4 x5 x6 x7 x8 x9 x10 x11 : Value) : endP w0 B b v l ((((((((((((W.setCell ⟨b, 0, none⟩ x0).setCell ⟨b, 1, none⟩ x1).setCell ⟨b, 2, none⟩ x2).setCell ⟨b, 3, none⟩ x3).setCell ⟨b, 4, none⟩ x4).setCell ⟨b, 5, none⟩ x5).setCell ⟨b, 6, none⟩ x6).setCell ⟨b, 7, none⟩ x7).setCell ⟨b, 8, none⟩ x8).setCell ⟨b, 9, none⟩ x9).setCell ⟨b, 10, none⟩ x10).setCell ⟨b, 11, none⟩ x11) :=
  (((((((((((h.set 0 x0).set 1 x1).set 2 x2).set 3 x3).set 4 x4).set 5 x5).set 6 x6).set 7 x7).set 8 x8).set 9 x9).set 10 x10).set 11 x11
theorem own_none (w : World) (B : Nat) : ownsB w B (.slice none 0 0) [] := ⟨rfl, .inl ⟨rfl, rfl⟩⟩
theorem walkOver_bad (s : ByteArray) (w : World) (hk : okT s 4000 = false) :
    Calls Tryd.prog 40 #[.string s] w fun e w' => ∃ v, e = .returned (Wk.val { Wk.init with code := 8 } v) ∧ ownsB w' w.heap.size v [] ∧ Below w.heap.size w w' := by
  go_enter Tryd.func40, Tryd.ntmps40
  go_wp2
  go_step3
  go_wp2_with fail
  refine (isBitText_any _ _ _).mono ?_
  rw [hk]
  rintro e w1 ⟨rfl, hb1⟩
  obtain ⟨hz, hw, hb⟩ := wo_start hb1
  clear hb1
  obtain ⟨c0, c1, c2, c3, c4, c5, c6, c7, c8, c9, c10, c11⟩ := hw.cells
  have f11 := hw.free 11
  obtain ⟨d0, d1, d2, d3, d4, d5, d6, d7, d8, d9, d10, d11⟩ := hz.cells
  have z0 := hz.free 0
  have z1 := hz.free 1
  have z2 := hz.free 2
  have z3 := hz.free 3
  have z4 := hz.free 4
  have z5 := hz.free 5
  have z6 := hz.free 6
  have z7 := hz.free 7
  have z8 := hz.free 8
  have z9 := hz.free 9
  have z10 := hz.free 10
  have z11 := hz.free 11
  have HE : Hid (endP w w.heap.size w.heap.size (.slice none 0 0) [] (w1.setCell ⟨w.heap.size + 1, 11, none⟩ (.int .i64 8))) := ⟨(own_none _ _), ⟨_, (heap_setCell_other w1 ⟨w.heap.size + 1, 11, none⟩ w.heap.size _ (by simp)).trans hz⟩, hb.setCell (by simp) _, Nat.le_refl _⟩
  clear hz hw hb
  dsimp only [Wk.init] at c0 c1 c2 c3 c4 c5 c6 c7 c8 c9 c10 c11
  go_wp2
  rw [Exit.noGoto_ret]
  refine bodyPost_ret (v := Wk.val { Wk.init with code := 8 } (.slice none 0 0)) ?_ rfl ⟨.slice none 0 0, rfl, ?_⟩
  · simp [results, Tryd.results40, go_sem, Wk.val, Wk.init, d0, d1, d2, d3, d4, d5, d6, d7, d8, d9, d10, d11]
  · have := HE.out.set12 (.int .i64 1) (.int .i64 0) (.int .i32 0) (.int .i64 0) (.int .i64 0) (.int .i64 0) (.bool false) (.int .u32 0) (.bool false) (.int .i64 0) (.slice none 0 0) (.int .i64 8)
    exact ⟨this.own, this.bel⟩
/-- what stands in the world of walkOver's loop -/
structure woI (w0 : World) (b2 : Nat) (s : ByteArray) (j : Nat) (k : Wk) (w : World) : Prop where
  wk : wkI w0.heap.size (w0.heap.size + 1) k w
  res : wkAt w w0.heap.size Wk.zero (.slice none 0 0)
  it : w.heap[b2]? = some (.stringIter s j)
  bel : Below w0.heap.size w0 w
  le : w0.heap.size ≤ b2
theorem woI.next {w0 : World} {b2 : Nat} {s : ByteArray} {j : Nat} {k : Wk} {w : World} (h : woI w0 b2 s j k w) (j' : Nat) : woI w0 b2 s j' k (w.iterAt b2 s j') := by
  obtain ⟨⟨⟨v, hw, ho⟩, hB⟩, hr, hi, hb, hl⟩ := h
  have n1 : w0.heap.size + 1 ≠ b2 := by
    intro e; unfold wkAt at hw; rw [e, hi] at hw; cases hw
  have n0 : w0.heap.size ≠ b2 := by
    intro e; unfold wkAt at hr; rw [e, hi] at hr; cases hr
  refine ⟨⟨⟨v, (Lib.iterAt_other w b2 _ s j' n1).trans hw, ho.otherBlock (fun g hg => ?_)⟩, hB⟩, (Lib.iterAt_other w b2 _ s j' n0).trans hr, Lib.iterAt_heap w b2 s j j' hi, Lib.below_iterAt hb hl s j', hl⟩
  obtain ⟨c, fz, hc⟩ := ho.kind g hg
  refine Lib.iterAt_other w b2 g s j' (fun e => ?_)
  rw [e, hi] at hc
  cases hc
theorem woI.step {w0 : World} {b2 : Nat} {s : ByteArray} {j : Nat} {k k' : Wk} {w w' : World} (h : woI w0 b2 s j k w) (hk : wkI w0.heap.size (w0.heap.size + 1) k' w') (ht : kept w0.heap.size (w0.heap.size + 1) w w') : woI w0 b2 s j k' w' := by
  obtain ⟨⟨⟨v, hw, ho⟩, hB⟩, hr, hi, hb, hl⟩ := h
  refine ⟨hk, ht.oth _ _ hr (by simp) (by intro c fz e; cases e), ht.oth _ _ hi (by intro e; cases e; unfold wkAt at hw; rw [hi] at hw; cases hw) (by intro c fz e; cases e), hb.trans ht.bel, hl⟩
theorem woI.code {w0 : World} {b2 : Nat} {s : ByteArray} {j : Nat} {k : Wk} {w : World} (h : woI w0 b2 s j k w) (c : Nat) : woI w0 b2 s j { k with code := c } (w.setCell ⟨w0.heap.size + 1, 11, none⟩ (.int .i64 (c : Int))) := by
  obtain ⟨⟨v, hw, ho⟩, hB⟩ := h.wk
  have h1 := wk_set (k' := { k with code := c }) hw ho hB 11 (.int .i64 (c : Int)) rfl (by simp)
  exact h.step ⟨⟨v, h1.1, h1.2.1⟩, hB⟩ h1.2.2
theorem woI.ends {w0 : World} {b2 : Nat} {s : ByteArray} {j : Nat} {k : Wk} {w : World} (h : woI w0 b2 s j k w) : ∃ v, wkAt w (w0.heap.size + 1) k v ∧ endP w0 w0.heap.size w0.heap.size v k.data w := by
  obtain ⟨⟨⟨v, hw, ho⟩, hB⟩, hr, hi, hb, hl⟩ := h
  exact ⟨v, hw, ho, ⟨_, hr⟩, hb, Nat.le_refl _⟩
set_option maxHeartbeats 1000000 in
theorem walkOver_ok (s : ByteArray) (w : World) (hk : okT s 4000 = true) :
    Calls Tryd.prog 40 #[.string s] w fun e w' => ∃ v, e = .returned (Wk.val (Wk.init.over (lt s)) v) ∧ ownsB w' w.heap.size v (Wk.init.over (lt s)).data ∧ Below w.heap.size w w' := by
  have hsz := okT_size hk
  have HK : Hid (okT s 4000 = true) := hk
  go_enter Tryd.func40, Tryd.ntmps40
  go_wp2
  go_step3
  go_wp2_with fail
  refine (isBitText_any _ _ _).mono ?_
  rw [hk]
  rintro e w1 ⟨rfl, hb1⟩
  obtain ⟨hz, hw, hb⟩ := wo_start hb1
  clear hb1 hk
  go_wp2
  go_step3
  go_wp2
  have st0 : woI w w1.heap.size s 0 Wk.init (w1.iter s 0) := by
    refine ⟨⟨⟨_, (Below.heap_alloc _ _ _ (lt_of_block hw)).trans hw, own_none _ _⟩, by omega⟩, (Below.heap_alloc _ _ _ (lt_of_block hz)).trans hz, World.iter_heap w1 s 0, hb.alloc hb.size _, hb.size⟩
  clear hz hw hb
  generalize w1.heap.size = b2 at *
  go_loopw [4, 5] (fun _ _ wr => ∃ (j : Nat) (k : Wk), j ≤ s.size ∧ k.Inv ∧ k.last.2 ≤ j ∧ Wk.init.over (lt s) = k.over ((lt s).drop j) ∧ woI w b2 s j k wr) (fun _ _ wr => s.size - wr.iterPos b2)
  case atStart => exact ⟨0, Wk.init, Nat.zero_le _, inv_init, Nat.zero_le _, rfl, st0⟩
  case round =>
    clear st0
    obtain ⟨j, k, hj, hin, hr, hov, st⟩ := hrel
    by_cases hlt : j < s.size
    · have hv : M.isL s[j].toNat := okT_at HK.out j hlt
      have hnx := fun ty => Lib.run_next_ascii_at (P := Tryd.prog) wr b2 s j ty st.it hlt (by rcases hv with h | h <;> omega)
      have st1 := st.next (j + 1)
      have HP : Hid (wr.iterPos b2 = j) := iterPos_of st.it
      clear st
      generalize wr.iterAt b2 s (j + 1) = wr1 at *
      rw [lt_drop s j hlt] at hov
      have HI : Hid (k.Inv ∧ k.last.2 ≤ j) := ⟨hin, hr⟩
      have HO : Hid (Wk.init.over (lt s) = k.over (s[j].toNat :: (lt s).drop (j + 1))) := hov
      have HV : Hid (M.isL s[j].toNat) := hv
      clear hin hr hov hv
      generalize hc : s[j].toNat = c at *
      clear hc
      go_wp2_with fail
      refine (take_wk wr1 _ _ k c st1.wk (HI.out.1.ok (by have := HI.out.2; omega)) HV.out).mono ?_
      rintro e w2 ⟨rfl, hi2, hk2⟩
      have st2 := st1.step hi2 hk2
      have st3 := st2.code (k.take c).2
      obtain ⟨⟨v2, hw2, ho2⟩, le⟩ := st2.wk
      have f11 := hw2.free 11
      obtain ⟨-, -, -, -, -, -, -, -, -, -, -, c11⟩ := hw2.cells
      clear st1 hi2 hk2 hw2 ho2 st2
      have HT : Hid (goesOnB (k.take c).2 = true → ({ (k.take c).1 with code := (k.take c).2 } : Wk).Inv) := fun hg => inv_code (take_inv HI.out.1 c HV.out hg) _
      have HR : Hid ((k.take c).1.last.2 ≤ j + 1) := Nat.le_trans (take_run k c) (by have := HI.out.2; omega)
      have HO2 : Hid (Wk.init.over (lt s) = if goesOnB (k.take c).2 = true then Wk.over { (k.take c).1 with code := (k.take c).2 } ((lt s).drop (j + 1)) else if (lt s).drop (j + 1) = [] then { (k.take c).1 with code := (k.take c).2 } else { (k.take c).1 with code := 7 }) := HO.out
      clear HO HI HV le
      generalize k.take c = r at *
      go_wp2_with fail
      have HW : Hid (∃ kc : Wk, kc = { r.1 with code := r.2 } ∧ woI w b2 s (j + 1) kc (w2.setCell ⟨w.heap.size + 1, 11, none⟩ (.int .i64 (r.2 : Int)))) := ⟨_, rfl, st3⟩
      clear st3 c11 f11
      generalize w2.setCell ⟨w.heap.size + 1, 11, none⟩ (.int .i64 (r.2 : Int)) = W at *
      obtain ⟨kc, hkc, st⟩ := HW.out
      have HKC : Hid (kc = { r.1 with code := r.2 }) := hkc
      clear hkc
      clear HW
      have ST : Hid (woI w b2 s (j + 1) kc W) := st
      clear st
      refine (goesOn_any _ _).mono ?_
      by_cases hgo : goesOnB r.2 = true
      · have hgo' := hgo
        unfold goesOnB at hgo'
        rw [hgo']
        rintro e w4 ⟨rfl, rfl⟩
        go_wp2
        go_roundw
        case rel => exact ⟨j + 1, kc, by omega, by rw [HKC.out]; exact HT.out hgo, by rw [HKC.out]; exact HR.out, by rw [HO2.out, if_pos hgo, HKC.out], ST.out⟩
        case measure => rw [iterPos_of ST.out.it, HP.out]; omega
      · have hgo' : goesOnB r.2 = false := by simpa using hgo
        unfold goesOnB at hgo'
        rw [hgo']
        rintro e w4 ⟨rfl, rfl⟩
        obtain ⟨v, hw, he⟩ := ST.out.ends
        obtain ⟨ao, cap, rfl⟩ := he.own.sliced
        obtain ⟨c0, c1, c2, c3, c4, c5, c6, c7, c8, c9, c10, c11⟩ := hw.cells
        have f11 := hw.free 11
        have hz := ST.out.res
        obtain ⟨d0, d1, d2, d3, d4, d5, d6, d7, d8, d9, d10, d11⟩ := hz.cells
        have z0 := hz.free 0
        have z1 := hz.free 1
        have z2 := hz.free 2
        have z3 := hz.free 3
        have z4 := hz.free 4
        have z5 := hz.free 5
        have z6 := hz.free 6
        have z7 := hz.free 7
        have z8 := hz.free 8
        have z9 := hz.free 9
        have z10 := hz.free 10
        have z11 := hz.free 11
        by_cases hl : (j : Int) + 1 < (s.size : Int)
        · have HF : Hid (Wk.init.over (lt s) = { kc with code := 7 }) := by
            unfold Hid
            rw [HO2.out, if_neg hgo, if_neg (by intro e; have := congrArg List.length e; rw [List.length_drop, lt_length] at this; simp at this; omega), HKC.out]
          have HE : Hid (endP w w.heap.size w.heap.size (.slice ao kc.data.length cap) kc.data (W.setCell ⟨w.heap.size + 1, 11, none⟩ (.int .i64 7))) := by
            obtain ⟨⟨v', hw', ho'⟩, hB⟩ := ST.out.wk
            obtain ⟨cs, hcs⟩ := he.blk
            exact ⟨he.own.setB hw 11 _, ⟨_, (heap_setCell_other W ⟨w.heap.size + 1, 11, none⟩ w.heap.size _ (by simp)).trans hcs⟩, he.bel.setCell (by simp) _, Nat.le_refl _⟩
          clear hz hw he hgo hgo' HO2 HT HR ST HP
          go_wp2
          rw [Exit.noGoto_ret]
          refine bodyPost_ret (v := Wk.val { kc with code := 7 } (.slice ao kc.data.length cap)) ?_ rfl ⟨.slice ao kc.data.length cap, by rw [HF.out], ?_⟩
          · simp [results, Tryd.results40, go_sem, Wk.val, d0, d1, d2, d3, d4, d5, d6, d7, d8, d9, d10, d11]
          · have := HE.out.set12 (.int .i64 (kc.field : Int)) (.int .i64 (kc.taken : Int)) (.int .i32 (kc.last.1 : Int)) (.int .i64 (kc.last.2 : Int)) (.int .i64 (kc.sum : Int)) (.int .i64 (kc.crc : Int)) (.bool kc.ext) (.int .u32 (kc.id : Int)) (.bool kc.rtr) (.int .i64 (kc.dlc : Int)) (.slice ao kc.data.length cap) (.int .i64 7)
            rw [HF.out]
            exact ⟨this.own, this.bel⟩
        · have HF : Hid (Wk.init.over (lt s) = kc) := by
            unfold Hid
            rw [HO2.out, if_neg hgo, if_pos (by rw [List.drop_eq_nil_iff, lt_length]; omega), HKC.out]
          have HE : Hid (endP w w.heap.size w.heap.size (.slice ao kc.data.length cap) kc.data W) := he
          clear hz hw he hgo hgo' HO2 HT HR ST HP
          go_wp2
          rw [Exit.noGoto_ret]
          refine bodyPost_ret (v := Wk.val kc (.slice ao kc.data.length cap)) ?_ rfl ⟨.slice ao kc.data.length cap, by rw [HF.out], ?_⟩
          · simp [results, Tryd.results40, go_sem, Wk.val, d0, d1, d2, d3, d4, d5, d6, d7, d8, d9, d10, d11]
          · have := HE.out.set12 (.int .i64 (kc.field : Int)) (.int .i64 (kc.taken : Int)) (.int .i32 (kc.last.1 : Int)) (.int .i64 (kc.last.2 : Int)) (.int .i64 (kc.sum : Int)) (.int .i64 (kc.crc : Int)) (.bool kc.ext) (.int .u32 (kc.id : Int)) (.bool kc.rtr) (.int .i64 (kc.dlc : Int)) (.slice ao kc.data.length cap) (.int .i64 (kc.code : Int))
            rw [HF.out]
            exact ⟨this.own, this.bel⟩
    · have hd : (lt s).drop j = [] := by rw [List.drop_eq_nil_iff, lt_length]; omega
      rw [hd] at hov
      have hnx : ∀ ty, (Instr.next (.pointer (some ⟨b2, 0, none⟩)) true ty).run Tryd.prog wr = _ := fun ty => Lib.run_next_end_at wr b2 s j ty st.it hlt
      have HF : Hid (Wk.init.over (lt s) = k) := hov
      have ST : Hid (woI w b2 s j k wr) := st
      clear hov hd hin hr st
      obtain ⟨v, hw, he⟩ := ST.out.ends
      obtain ⟨ao, cap, rfl⟩ := he.own.sliced
      obtain ⟨c0, c1, c2, c3, c4, c5, c6, c7, c8, c9, c10, c11⟩ := hw.cells
      have f11 := hw.free 11
      have hz := ST.out.res
      obtain ⟨d0, d1, d2, d3, d4, d5, d6, d7, d8, d9, d10, d11⟩ := hz.cells
      have z0 := hz.free 0
      have z1 := hz.free 1
      have z2 := hz.free 2
      have z3 := hz.free 3
      have z4 := hz.free 4
      have z5 := hz.free 5
      have z6 := hz.free 6
      have z7 := hz.free 7
      have z8 := hz.free 8
      have z9 := hz.free 9
      have z10 := hz.free 10
      have z11 := hz.free 11
      have HE : Hid (endP w w.heap.size w.heap.size (.slice ao k.data.length cap) k.data wr) := he
      clear hz hw he ST
      go_wp2
      rw [Exit.noGoto_ret]
      refine bodyPost_ret (v := Wk.val k (.slice ao k.data.length cap)) ?_ rfl ⟨.slice ao k.data.length cap, by rw [HF.out], ?_⟩
      · simp [results, Tryd.results40, go_sem, Wk.val, d0, d1, d2, d3, d4, d5, d6, d7, d8, d9, d10, d11]
      · have := HE.out.set12 (.int .i64 (k.field : Int)) (.int .i64 (k.taken : Int)) (.int .i32 (k.last.1 : Int)) (.int .i64 (k.last.2 : Int)) (.int .i64 (k.sum : Int)) (.int .i64 (k.crc : Int)) (.bool k.ext) (.int .u32 (k.id : Int)) (.bool k.rtr) (.int .i64 (k.dlc : Int)) (.slice ao k.data.length cap) (.int .i64 (k.code : Int))
        rw [HF.out]
        exact ⟨this.own, this.bel⟩
theorem walkOver_any (s : ByteArray) (w : World) :
    Calls Tryd.prog 40 #[.string s] w fun e w' => ∃ v, e = .returned (Wk.val (if okT s 4000 = true then Wk.init.over (lt s) else { Wk.init with code := 8 }) v) ∧ ownsB w' w.heap.size v (if okT s 4000 = true then Wk.init.over (lt s) else { Wk.init with code := 8 }).data ∧ Below w.heap.size w w' := by
  cases hk : okT s 4000
  · exact walkOver_bad s w hk
  · exact walkOver_ok s w hk
/-- the walk over a text -/
def walkZ (s : ByteArray) : Wk := if okT s 4000 = true then Wk.init.over (lt s) else { Wk.init with code := 8 }
theorem walkOver_z (s : ByteArray) (w : World) :
    Calls Tryd.prog 40 #[.string s] w fun e w' => ∃ ao cap, e = .returned (Wk.val (walkZ s) (.slice ao (walkZ s).data.length cap)) ∧ ownsB w' w.heap.size (.slice ao (walkZ s).data.length cap) (walkZ s).data ∧ Below w.heap.size w w' := by
  refine (walkOver_any s w).mono ?_
  rintro e w' ⟨v, he, ho, hb⟩
  obtain ⟨ao, cap, rfl⟩ := ho.sliced
  exact ⟨ao, cap, he, ho, hb⟩
def judgeV (k : Wk) : Value := if goesOnB k.code = true then .agg #[.int .i64 (k.code : Int), .int .i64 (k.field : Int), .bool k.due, .bool k.crcOk] else .agg #[.int .i64 (k.code : Int), .int .i64 0, .bool false, .bool false]
/-- the result's block of impl.Judge -/
theorem ju_res {w w1 : World} (h : Below (w.alloc (.cells #[.int .i64 0, .int .i64 0, .bool false, .bool false] 40)).heap.size (w.alloc (.cells #[.int .i64 0, .int .i64 0, .bool false, .bool false] 40)) w1) :
    w1.heap[w.heap.size]? = some (.cells #[.int .i64 0, .int .i64 0, .bool false, .bool false] 40 (0, 0)) ∧ Below w.heap.size w w1 := by
  refine ⟨(h.block _ (by simp)).trans (heap_alloc_new w _), ?_⟩
  exact ((Below.refl w.heap.size w).alloc (Nat.le_refl _) _).trans (h.mono (by simp))
theorem ju_S0 {B g b : Nat} {k : Wk} {v : Value} {w W V : World} (q : Nat) (he : V = W.drewN q) (hw : wkAt W b k v) (hr : W.heap[g]? = some (.cells #[.int .i64 0, .int .i64 0, .bool false, .bool false] 40 (0, 0))) (hb : Below B w W) (hg : B ≤ g) : V.cell? ⟨b, 0, none⟩ = some (.int .i64 (k.field : Int)) ∧ V.cell? ⟨b, 11, none⟩ = some (.int .i64 (k.code : Int)) ∧ wkAt V b k v ∧ (∃ x0 x1 x2 x3, V.heap[g]? = some (.cells #[x0, x1, x2, x3] 40 (0, 0))) ∧ Below B w V ∧ B ≤ g := by
  have hw' : wkAt V b k v := by rw [he]; exact hw
  have hr' : V.heap[g]? = some (.cells #[.int .i64 0, .int .i64 0, .bool false, .bool false] 40 (0, 0)) := by rw [he]; exact hr
  have hb' : Below B w V := by rw [he]; exact below_drewN hb q
  obtain ⟨c0, -, -, -, -, -, -, -, -, -, -, c11⟩ := hw'.cells
  exact ⟨c0, c11, hw', ⟨_, _, _, _, hr'⟩, hb', hg⟩
theorem ju_S1 {B g b : Nat} {k : Wk} {v : Value} {w V V' : World} (h : V.cell? ⟨b, 0, none⟩ = some (.int .i64 (k.field : Int)) ∧ V.cell? ⟨b, 11, none⟩ = some (.int .i64 (k.code : Int)) ∧ wkAt V b k v ∧ (∃ x0 x1 x2 x3, V.heap[g]? = some (.cells #[x0, x1, x2, x3] 40 (0, 0))) ∧ Below B w V ∧ B ≤ g) (he : ∃ q, V' = V.drewN q) : V'.cell? ⟨b, 0, none⟩ = some (.int .i64 (k.field : Int)) ∧ V'.cell? ⟨b, 11, none⟩ = some (.int .i64 (k.code : Int)) ∧ wkAt V' b k v ∧ (∃ x0 x1 x2 x3, V'.heap[g]? = some (.cells #[x0, x1, x2, x3] 40 (0, 0))) ∧ Below B w V' ∧ B ≤ g := by
  obtain ⟨q, rfl⟩ := he
  obtain ⟨h0, h1, h2, h3, h4, h5⟩ := h
  exact ⟨h0, h1, h2, h3, below_drewN h4 q, h5⟩
theorem ju_S2 {B g b : Nat} {k : Wk} {v : Value} {w V : World} (h : V.cell? ⟨b, 0, none⟩ = some (.int .i64 (k.field : Int)) ∧ V.cell? ⟨b, 11, none⟩ = some (.int .i64 (k.code : Int)) ∧ wkAt V b k v ∧ (∃ x0 x1 x2 x3, V.heap[g]? = some (.cells #[x0, x1, x2, x3] 40 (0, 0))) ∧ Below B w V ∧ B ≤ g) (j : Nat) (x : Value) (hj : j < 4) : (V.setCell ⟨g, j, none⟩ x).cell? ⟨b, 0, none⟩ = some (.int .i64 (k.field : Int)) ∧ (V.setCell ⟨g, j, none⟩ x).cell? ⟨b, 11, none⟩ = some (.int .i64 (k.code : Int)) ∧ wkAt (V.setCell ⟨g, j, none⟩ x) b k v ∧ (∃ x0 x1 x2 x3, (V.setCell ⟨g, j, none⟩ x).heap[g]? = some (.cells #[x0, x1, x2, x3] 40 (0, 0))) ∧ Below B w (V.setCell ⟨g, j, none⟩ x) ∧ B ≤ g := by
  obtain ⟨h0, h1, h2, ⟨x0, x1, x2, x3, h3⟩, h4, h5⟩ := h
  have hne : ¬ b = g := by intro e; unfold wkAt at h2; rw [e, h3] at h2; cases h2
  have h2' : wkAt (V.setCell ⟨g, j, none⟩ x) b k v := (heap_setCell_other V ⟨g, j, none⟩ b x (by exact hne)).trans h2
  have h3' := heap_setCell_same V g j _ _ x h3
  obtain ⟨c0, -, -, -, -, -, -, -, -, -, -, c11⟩ := h2'.cells
  refine ⟨c0, c11, h2', ?_, h4.setCell (by exact h5) x, h5⟩
  rcases (show j = 0 ∨ j = 1 ∨ j = 2 ∨ j = 3 from by omega) with rfl | rfl | rfl | rfl <;> exact ⟨_, _, _, _, h3'⟩
theorem ju_d {g : Nat} {V : World} (h : ∃ x0 x1 x2 x3, V.heap[g]? = some (.cells #[x0, x1, x2, x3] 40 (0, 0))) : ∃ x0 x1 x2 x3, V.cell? ⟨g, 0, none⟩ = some x0 ∧ V.cell? ⟨g, 1, none⟩ = some x1 ∧ V.cell? ⟨g, 2, none⟩ = some x2 ∧ V.cell? ⟨g, 3, none⟩ = some x3 ∧ V.frozen? ⟨g, 0, none⟩ = false ∧ V.frozen? ⟨g, 1, none⟩ = false ∧ V.frozen? ⟨g, 2, none⟩ = false ∧ V.frozen? ⟨g, 3, none⟩ = false := by
  obtain ⟨x0, x1, x2, x3, hr⟩ := h
  refine ⟨x0, x1, x2, x3, ?_, ?_, ?_, ?_, ?_, ?_, ?_, ?_⟩ <;> simp [World.cell?, World.frozen?, hr]
theorem ju_wk {B g b : Nat} {k : Wk} {v : Value} {w V : World} (h : V.cell? ⟨b, 0, none⟩ = some (.int .i64 (k.field : Int)) ∧ V.cell? ⟨b, 11, none⟩ = some (.int .i64 (k.code : Int)) ∧ wkAt V b k v ∧ (∃ x0 x1 x2 x3, V.heap[g]? = some (.cells #[x0, x1, x2, x3] 40 (0, 0))) ∧ Below B w V ∧ B ≤ g) : wkAt V b k v := h.2.2.1
theorem ju_be {B g b : Nat} {k : Wk} {v : Value} {w V : World} (h : V.cell? ⟨b, 0, none⟩ = some (.int .i64 (k.field : Int)) ∧ V.cell? ⟨b, 11, none⟩ = some (.int .i64 (k.code : Int)) ∧ wkAt V b k v ∧ (∃ x0 x1 x2 x3, V.heap[g]? = some (.cells #[x0, x1, x2, x3] 40 (0, 0))) ∧ Below B w V ∧ B ≤ g) : Below B w V := h.2.2.2.2.1
theorem be4 {B g : Nat} {w V : World} (x0 x1 x2 x3 : Value) (h : Below B w V) (hg : B ≤ g) : Below B w ((((V.setCell ⟨g, 0, none⟩ x0).setCell ⟨g, 1, none⟩ x1).setCell ⟨g, 2, none⟩ x2).setCell ⟨g, 3, none⟩ x3) :=
  (((h.setCell (by exact hg) x0).setCell (by exact hg) x1).setCell (by exact hg) x2).setCell (by exact hg) x3
set_option maxHeartbeats 4000000 in
theorem judge_any (s : ByteArray) (w : World) :
    Calls Tryd.prog 13 #[.string s] w fun e w' => e = .returned (judgeV (walkZ s)) ∧ Below w.heap.size w w' := by
  go_enter Tryd.func13, Tryd.ntmps13
  go_wp2_with fail
  refine (walkOver_z s _).mono ?_
  rintro e w1 ⟨ao, cap, rfl, ho, hb1⟩
  obtain ⟨hr, hb⟩ := ju_res hb1
  clear hb1 ho
  generalize hz : walkZ s = k at *
  have HZ : Hid (walkZ s = k) := hz
  clear hz
  unfold Wk.val
  go_wp2_with fail
  have hw : wkAt (w1.alloc (.cells #[.int .i64 (k.field : Int), .int .i64 (k.taken : Int), .int .i32 (k.last.1 : Int), .int .i64 (k.last.2 : Int), .int .i64 (k.sum : Int), .int .i64 (k.crc : Int), .bool k.ext, .int .u32 (k.id : Int), .bool k.rtr, .int .i64 (k.dlc : Int), .slice ao k.data.length cap, .int .i64 (k.code : Int)] 67)) w1.heap.size k (.slice ao k.data.length cap) := heap_alloc_new w1 _
  have hr2 := (Below.heap_alloc w1 (.cells #[.int .i64 (k.field : Int), .int .i64 (k.taken : Int), .int .i32 (k.last.1 : Int), .int .i64 (k.last.2 : Int), .int .i64 (k.sum : Int), .int .i64 (k.crc : Int), .bool k.ext, .int .u32 (k.id : Int), .bool k.rtr, .int .i64 (k.dlc : Int), .slice ao k.data.length cap, .int .i64 (k.code : Int)] 67) w.heap.size (lt_of_block hr)).trans hr
  have hb2 := hb.alloc hb.size (.cells #[.int .i64 (k.field : Int), .int .i64 (k.taken : Int), .int .i32 (k.last.1 : Int), .int .i64 (k.last.2 : Int), .int .i64 (k.sum : Int), .int .i64 (k.crc : Int), .bool k.ext, .int .u32 (k.id : Int), .bool k.rtr, .int .i64 (k.dlc : Int), .slice ao k.data.length cap, .int .i64 (k.code : Int)] 67)
  generalize w1.alloc (.cells #[.int .i64 (k.field : Int), .int .i64 (k.taken : Int), .int .i32 (k.last.1 : Int), .int .i64 (k.last.2 : Int), .int .i64 (k.sum : Int), .int .i64 (k.crc : Int), .bool k.ext, .int .u32 (k.id : Int), .bool k.rtr, .int .i64 (k.dlc : Int), .slice ao k.data.length cap, .int .i64 (k.code : Int)] 67) = W at *
  clear hr hb
  generalize w1.heap.size = b at *
  have HW : Hid (wkAt W b k (.slice ao k.data.length cap) ∧ W.heap[w.heap.size]? = some (.cells #[.int .i64 0, .int .i64 0, .bool false, .bool false] 40 (0, 0)) ∧ Below w.heap.size w W) := ⟨hw, hr2, hb2⟩
  clear hw hr2 hb2
  refine (goesOn_any _ _).mono ?_
  by_cases hg : goesOnB k.code = true
  · have hg' := hg
    unfold goesOnB at hg'
    rw [hg']
    rintro e w2 ⟨rfl, rfl⟩
    have HG : Hid (goesOnB k.code = true) := hg
    clear hg hg'
    go_wp2_with fail
    go_region_held3 (fun V => V.cell? ⟨b, 0, none⟩ = some (.int .i64 (k.field : Int)) ∧ V.cell? ⟨b, 11, none⟩ = some (.int .i64 (k.code : Int)) ∧ wkAt V b k (.slice ao k.data.length cap) ∧ (∃ x0 x1 x2 x3, V.heap[w.heap.size]? = some (.cells #[x0, x1, x2, x3] 40 (0, 0))) ∧ Below w.heap.size w V ∧ w.heap.size ≤ w.heap.size) (first | exact ju_S0 1 rfl HW.out.1 HW.out.2.1 HW.out.2.2 (Nat.le_refl _) | exact ju_S1 (by assumption) (by assumption) | assumption | exact ju_S2 (ju_S2 (ju_S2 (ju_S2 (by assumption) 0 _ (by decide)) 1 _ (by decide)) 2 _ (by decide)) 3 _ (by decide)) (first | (go_at_call 41; refine (due_wk _ b k _ (ju_wk (by assumption))).mono ?_; rintro o w3 ⟨rfl, rfl⟩) | (go_at_call 42; refine (crcOk_wk _ b k _ (ju_wk (by assumption))).mono ?_; rintro o w4 ⟨rfl, hq4⟩; obtain ⟨x0, x1, x2, x3, d0, d1, d2, d3, z0, z1, z2, z3⟩ := ju_d (V := w4) (ju_S1 (by assumption) hq4).2.2.2.1))
    go_wp2
    refine bodyPost_ret (v := judgeV k) ?_ rfl ⟨by rw [HZ.out], ?_⟩
    · simp [results, Tryd.results13, go_sem, judgeV, HG.out, d0, d1, d2, d3]
    · obtain ⟨q, rfl⟩ := hq4
      exact be4 _ _ _ _ (below_drewN HW.out.2.2.drew q) (Nat.le_refl _)
  · have hg' : goesOnB k.code = false := by simpa using hg
    unfold goesOnB at hg'
    rw [hg']
    rintro e w2 ⟨rfl, rfl⟩
    obtain ⟨c0, -, -, -, -, -, -, -, -, -, -, c11⟩ := HW.out.1.cells
    obtain ⟨x0, x1, x2, x3, d0, d1, d2, d3, z0, z1, z2, z3⟩ := ju_d ⟨_, _, _, _, HW.out.2.1⟩
    have HG : Hid (¬ goesOnB k.code = true) := hg
    clear hg hg'
    go_wp2
    refine bodyPost_ret (v := judgeV k) ?_ rfl ⟨by rw [HZ.out], ?_⟩
    · simp [results, Tryd.results13, go_sem, judgeV, HG.out, d0, d1, d2, d3]
    · exact be4 _ _ _ _ HW.out.2.2 (Nat.le_refl _)
end Go.Proofs.YtjmlalojfghkiaaDoor.J
