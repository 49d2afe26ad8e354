import Derived.Test.YtihndnclplkleaaKH
namespace Go.Proofs.Ytihndnclplkleaa
open Go.RowKit
theorem wpList_load_midG {ops : Array Oper} {rest : List Oper} {op : Oper} {a : Act} {w : World} {Q : Exit → Act → World → Prop} (hw : Region.wanted op (yielded ops a.tmps) = true) (ty : TypeId) (x : Operand) (ho : op.op = .load ty x)
    (b o : Nat) (hx : a.eval x = .pointer (some ⟨b, o, none⟩)) (cs : List Value) (d : TypeDesc) (hc : w.rangeAt b o cs)
    (hu : Try.prog.underlying ty = some d) (hd : d.isRow = true) (hi : (Try.prog.info? ty).map (·.size) = some cs.length)
    (h : wpList Try.prog ops Q rest (a.put op.dst (.agg cs.toArray)) w) : wpList Try.prog ops Q (op :: rest) a w :=
  wpList_step fun K hK => by
    simp only [hw, if_true]
    exact wp_load_mid ty x ho b o hx cs d hc hu hd hi (hK _ _ h)
def hoL (H : Ho) (s : Sl) : List Value := [.int .i64 H.c0, .int .i64 H.c1, .int .i64 H.c2, .int .i64 H.c3, .slice s.a1 s.n1 s.k1, .slice s.a2 s.n2 s.k2, .slice s.a3 s.n3 s.k3, .slice s.a4 s.n4 s.k4, .int .i64 H.lo, .int .i64 H.st]
theorem hoV_L (H : Ho) (s : Sl) : hoV H s = .agg (hoL H s).toArray := rfl
theorem hoL_len (H : Ho) (s : Sl) : (hoL H s).length = 10 := rfl
theorem sz41L (H : Ho) (s : Sl) : (Try.prog.info? 41).map (·.size) = some (hoL H s).length := sz41
theorem sz41A (H : Ho) (s : Sl) : (Try.prog.info? 41).map (·.size) = some (hoL H s).toArray.size := sz41
theorem hoL_one (H : Ho) (s : Sl) : (hoL H s).toArray.all (·.oneCell') = true := all_oneCell_toArray (by simp [hoL, Value.oneCell'])
theorem sz32 : (Try.prog.info? 32).map (·.size) = some 4 := by kernel_rfl
abbrev cfL (a b c d : Int) : List Value := [.int .i64 a, .int .i64 b, .int .i64 c, .int .i64 d]
/-- what the law keeps: the config, the model's answer -/
structure lS (w : World) (a b c d : Int) (P6 : Nat) (H : Ho) (sw : Sl) (W : World) : Prop where
  p : blk W w.heap.size (cfL a b c d) 32
  q : blk W P6 (hoL H sw) 41
  o : isHo W H sw
  b : Below w.heap.size w W
theorem lS.below {w W W' : World} {a b c d : Int} {P6 : Nat} {H : Ho} {sw : Sl} (h : lS w a b c d P6 H sw W) (hb : Below W.heap.size W W') : lS w a b c d P6 H sw W' := ⟨h.p.below hb, h.q.below hb, h.o.below hb, h.b.trans (hb.mono h.b.size)⟩
/-- a new variable that holds a host -/
theorem new_host {w : World} {T : TypeId} (l : List Value) (hl : l.length = 10) : blk (World.setCells (w.alloc (.cells z10.toArray T)) w.heap.size 0 l) w.heap.size l T ∧ Below w.heap.size w (World.setCells (w.alloc (.cells z10.toArray T)) w.heap.size 0 l) := by
  refine ⟨?_, setCells_below (Nat.le_refl _) _ _ ((Below.refl _ _).alloc (Nat.le_refl _) _)⟩
  have := blk.put [] z10 [] l (w := w.alloc (.cells z10.toArray T)) (b := w.heap.size) (T := T) (blk.new w z10 T) (by rw [hl]; rfl)
  simpa using this
set_option maxHeartbeats 8000000 in
set_option maxRecDepth 40000 in
/-- laws.FnExactNewHost -/
theorem lawNewHost (a b c d : Int) (ao : Option Addr) (n cap : Nat) (bs : List R3) (w : World) (h : isR3s w ao n cap bs) (hn : n ≤ 9223372036854775807) :
    Calls Try.prog 4 #[cfV a b c d, .slice ao n cap] w fun o w' => o = .returned (.bool true) ∧ Below w.heap.size w w' := by
  have hA : Below w.heap.size w (w.alloc (.cells (cfL a b c d).toArray 32)) := (Below.refl _ _).alloc (Nat.le_refl _) _
  have HA : Hid (Below w.heap.size w (w.alloc (.cells (cfL a b c d).toArray 32)) ∧ blk (w.alloc (.cells (cfL a b c d).toArray 32)) w.heap.size (cfL a b c d) 32) := ⟨hA, blk.new w _ 32⟩
  clear hA
  by_cases hle : n ≤ 1048576
  · obtain ⟨H, z, hNH⟩ := NH_is a b c d n bs hle h.len
    have HNH : Hid (NH a b c d n bs H z) := hNH
    have HR : Hid (isR3s w ao n cap bs) := h
    have HSZ : Hid (∀ X, Calls Try.prog 11 #[.slice ao n cap, .int .i64 1048576] X fun o w' => (∃ m' : Nat, o = .returned (.int .i64 (m' : Int))) ∧ X = w') := fun X => (szFilterS_any X ao n cap 1048576 hn (Nat.le_refl _)).mono (by rintro o w' ⟨rfl, e⟩; rw [if_pos (by omega)]; exact ⟨⟨1048576 - n, by congr 2; omega⟩, e⟩)
    clear hNH h hn
    go_enter Try.func4, Try.ntmps4
    go_wp2_with fail
    refine (HSZ.out _).mono ?_
    rintro o w1 ⟨⟨m', rfl⟩, rfl⟩
    go_wp2_with fail
    refine (toConfig_any _ a b c d).mono ?_
    rintro o w2 ⟨rfl, hb2⟩
    have H2 : Hid (blk w2 w.heap.size (cfL a b c d) 32 ∧ Below w.heap.size w w2) := ⟨HA.out.2.below hb2, HA.out.1.trans (hb2.mono HA.out.1.size)⟩
    clear hb2 HA
    go_wp2_with fail
    refine (toFilterS_row w2 ao n cap bs (HR.out.below H2.out.2) hle).mono ?_
    rintro o w3 ⟨gA, rfl, _, S3, hb3⟩
    have H3 : Hid (blk w3 w.heap.size (cfL a b c d) 32 ∧ Below w.heap.size w w3) := ⟨H2.out.1.below hb3, H2.out.2.trans (hb3.mono H2.out.2.size)⟩
    have HS3 : Hid (isR3s w3 (some ⟨gA, 0, none⟩) n n bs) := S3.now
    clear hb3 H2 S3
    go_wp2_with fail
    refine (HNH.out.sp w3 gA HS3.out).mono ?_
    rintro o w4 ⟨sw, rfl, hs4, hb4⟩
    obtain ⟨hq5, hb5⟩ := new_host (w := w4) (T := 41) (hoL H sw) (hoL_len H sw)
    have HL5 : Hid (lS w a b c d w4.heap.size H sw (World.setCells (w4.alloc (.cells z10.toArray 41)) w4.heap.size 0 (hoL H sw))) := ⟨(H3.out.1.below hb4).below hb5, hq5, hs4.below hb5, (H3.out.2.trans (hb4.mono H3.out.2.size)).trans (hb5.mono (H3.out.2.trans (hb4.mono H3.out.2.size)).size)⟩
    have HT5 : Hid (World.there (w4.alloc (.cells z10.toArray 41)) w4.heap.size 0 10) := (blk.new w4 z10 41).there 0 10 (by simp)
    clear hs4 hb4 H3 HS3 hq5 hb5
    rw [hoV_L]
    go_wp2_with (first
      | (refine wpList_store_mid (P := Try.prog) rfl 41 (.tmp 6) (.tmp 27) rfl w4.heap.size 0 (hoL H sw).toArray rfl rfl HT5.out (sz41A H sw) (hoL_one H sw) ?_; generalize hW5 : World.setCells (World.alloc _ _) w4.heap.size 0 _ = w5; have HL5' : Hid (lS w a b c d w4.heap.size H sw w5) := (hW5 ▸ HL5.out); clear hW5))
    clear HL5 HT5
    refine (toFilterS_row w5 ao n cap bs (HR.out.below HL5'.out.b) hle).mono ?_
    rintro o w6 ⟨gx, rfl, ⟨x1, x2, x3⟩, S6, hb6⟩
    have L6 := HL5'.out.below hb6
    have HX6 : Hid (w5.heap.size ≤ gx ∧ gx < w6.heap.size ∧ rowZ w6 gx (n * 3) ∧ isR3s w6 (some ⟨gx, 0, none⟩) n n bs ∧ Below w5.heap.size w5 w6) := ⟨x1, x2, x3, S6.now, hb6⟩
    have HL6 : Hid (lS w a b c d w4.heap.size H sw w6) := L6
    clear x1 x2 x3 S6 hb6 L6
    go_wp2_with (first
      | (refine wpList_load_mid (P := Try.prog) rfl 32 (.tmp 2) rfl w.heap.size 0 rfl _ _ HL6.out.p.load Try.underlying32 rfl sz32 ?_))
    refine (toConfig_any w6 a b c d).mono ?_
    rintro o w7 ⟨rfl, hb7⟩
    have HL7 : Hid (lS w a b c d w4.heap.size H sw w7) := HL6.out.below hb7
    have HX7 : Hid (w5.heap.size ≤ gx ∧ gx < w7.heap.size ∧ rowZ w7 gx (n * 3) ∧ isR3s w7 (some ⟨gx, 0, none⟩) n n bs ∧ Below w5.heap.size w5 w7) := ⟨HX6.out.1, Nat.lt_of_lt_of_le HX6.out.2.1 hb7.size, HX6.out.2.2.1.below hb7 HX6.out.2.1, HX6.out.2.2.2.1.below hb7, HX6.out.2.2.2.2.trans (hb7.mono HX6.out.2.2.2.2.size)⟩
    clear hb7 HL6 HX6
    go_wp2_with fail
    refine (HNH.out.im w7 gx HX7.out.2.2.2.1).mono ?_
    rintro o w8 ⟨sg, rfl, ⟨hs8, hm8⟩, hb8⟩
    obtain ⟨hq9, hb9⟩ := new_host (w := w8) (T := 41) (hoL H sg) (hoL_len H sg)
    have HT9 : Hid (World.there (w8.alloc (.cells z10.toArray 41)) w8.heap.size 0 10) := (blk.new w8 z10 41).there 0 10 (by simp)
    rw [hoV_L]
    have HI9 : Hid (∀ W, Below w8.heap.size w8 W → lS w a b c d w4.heap.size H sw W ∧ (gx < W.heap.size ∧ rowZ W gx (n * 3) ∧ isR3s W (some ⟨gx, 0, none⟩) n n bs ∧ Below w5.heap.size w5 W)) := by
      intro W hW
      have h1 : Below w7.heap.size w7 W := hb8.trans (hW.mono hb8.size)
      exact ⟨HL7.out.below h1, Nat.lt_of_lt_of_le HX7.out.2.1 h1.size, HX7.out.2.2.1.below h1 HX7.out.2.1, HX7.out.2.2.2.1.below h1, HX7.out.2.2.2.2.trans (h1.mono HX7.out.2.2.2.2.size)⟩
    have HS8 : Hid (St w7.heap.size w8 (fun W => isHo W H sg)) := hs8
    have HM8 : Hid (St w7.heap.size w8 (fun W => w8.heap.size ≤ W.heap.size → MK w7.heap.size w8.heap.size H sg W)) := hm8
    have HB8 : Hid (w7.heap.size ≤ w8.heap.size) := hb8.size
    have HQ9 : Hid (blk (World.setCells (w8.alloc (.cells z10.toArray 41)) w8.heap.size 0 (hoL H sg)) w8.heap.size (hoL H sg) 41 ∧ Below w8.heap.size w8 (World.setCells (w8.alloc (.cells z10.toArray 41)) w8.heap.size 0 (hoL H sg))) := ⟨hq9, hb9⟩
    clear hq9 hb9 hs8 hm8 hb8 HL7
    go_wp2_with (first
      | (refine wpList_store_mid (P := Try.prog) rfl 41 (.tmp 9) (.tmp 36) rfl w8.heap.size 0 (hoL H sg).toArray rfl rfl HT9.out (sz41A H sg) (hoL_one H sg) ?_; generalize hW9 : World.setCells (World.alloc _ _) w8.heap.size 0 _ = w9; have HG9 : Hid (blk w9 w8.heap.size (hoL H sg) 41) := (hW9 ▸ HQ9.out.1); have HW9 : Hid (Below w8.heap.size w8 w9) := (hW9 ▸ HQ9.out.2); clear hW9)
      | (refine wpList_load_mid (P := Try.prog) rfl 41 (.tmp 9) rfl w8.heap.size 0 rfl (hoL H sg) _ HG9.out.load Try.underlying41 rfl (sz41L H sg) ?_)
      | (refine wpList_load_mid (P := Try.prog) rfl 41 (.tmp 6) rfl w4.heap.size 0 rfl (hoL H sw) _ (HI9.out _ HW9.out).1.q.load Try.underlying41 rfl (sz41L H sw) ?_))
    clear HQ9 HT9
    rw [← hoV_L, ← hoV_L]
    refine (eqHost_same w9 H sg sw ((St.below HS8.out HW9.out).now) (HI9.out _ HW9.out).1.o HNH.out.le).mono ?_
    rintro o w10 ⟨rfl, hb10⟩
    have HW10 : Hid (Below w8.heap.size w8 w10) := HW9.out.trans (hb10.mono HW9.out.size)
    have HG10 : Hid (blk w10 w8.heap.size (hoL H sg) 41) := HG9.out.below hb10
    clear hb10 HW9 HG9
    go_wp2_with fail
    refine (toFilterS_row w10 ao n cap bs (HR.out.below (HI9.out _ HW10.out).1.b) hle).mono ?_
    rintro o w11 ⟨gy, rfl, _, S11, hb11⟩
    have HW11 : Hid (Below w8.heap.size w8 w11) := HW10.out.trans (hb11.mono HW10.out.size)
    have HG11 : Hid (blk w11 w8.heap.size (hoL H sg) 41) := HG10.out.below hb11
    have HS11 : Hid (isR3s w11 (some ⟨gy, 0, none⟩) n n bs) := S11.now
    clear hb11 HW10 HG10 S11
    go_wp2_with fail
    refine (eqFilterS_same w11 _ _ n n n n bs (HI9.out _ HW11.out).2.2.2.1 HS11.out hle).mono ?_
    rintro o w12 ⟨rfl, hb12⟩
    have HW12 : Hid (Below w8.heap.size w8 w12) := HW11.out.trans (hb12.mono HW11.out.size)
    have HG12 : Hid (blk w12 w8.heap.size (hoL H sg) 41) := HG11.out.below hb12
    clear hb12 HW11 HG11 HS11
    go_wp2_with fail
    refine (markFilterS_any w12 gx n n 1 (HI9.out _ HW12.out).2.2.1 (Nat.le_refl _) hle (by decide)).mono ?_
    rintro o w13 ⟨rfl, _, _, h13, hz13, hb13⟩
    have hgx7 := HX7.out.2.1
    have hgx5 := HX7.out.1
    have HG13 : Hid (blk w13 w8.heap.size (hoL H sg) 41) := HG12.out.kept (h13 _ (by have := HB8.out; omega))
    have HO13 : Hid (isHo w13 H sg ∧ St w7.heap.size w13 (fun W => isHo W H sg) ∧ St w7.heap.size w13 (fun W => w8.heap.size ≤ W.heap.size → MK w7.heap.size w8.heap.size H sg W)) := by
      have k1 : Kp w7.heap.size w12 w13 := ⟨fun b h1 h2 => h13 b (by omega), by omega⟩
      have k2 := St.kp (St.below HS8.out HW12.out) k1
      exact ⟨k2.now, k2, St.kp (St.below HM8.out HW12.out) k1⟩
    have HL13 : Hid (lS w a b c d w4.heap.size H sw w13) := by
      have h5 := HL5'.out
      have hB : Below w5.heap.size w5 w13 := (HI9.out _ HW12.out).2.2.2.2.trans (hb13.mono hgx5)
      exact h5.below hB
    have HZ13 : Hid (w8.heap.size ≤ w13.heap.size) := by have := HW12.out.size; show _ ≤ _; omega
    have HB13 : Hid (Below w5.heap.size w5 w13) := (HI9.out _ HW12.out).2.2.2.2.trans (hb13.mono hgx5)
    have H57 : Hid (w5.heap.size ≤ w7.heap.size) := HX7.out.2.2.2.2.size
    clear h13 hz13 hb13 HW12 HG12 hgx7 hgx5 HI9 HX7
    go_wp2_with (first
      | (refine wpList_load_midG (by rfl) 41 (.tmp 9) rfl w8.heap.size 0 rfl (hoL H sg) _ HG13.out.load Try.underlying41 rfl (sz41L H sg) ?_)
      | (refine wpList_load_midG (by rfl) 41 (.tmp 6) rfl w4.heap.size 0 rfl (hoL H sw) _ HL13.out.q.load Try.underlying41 rfl (sz41L H sw) ?_))
    rw [← hoV_L, ← hoV_L]
    refine (eqHost_same w13 H sg sw HO13.out.1 HL13.out.o HNH.out.le).mono ?_
    rintro o w14 ⟨rfl, hb14⟩
    have HG14 : Hid (blk w14 w8.heap.size (hoL H sg) 41) := HG13.out.below hb14
    have HL14 : Hid (lS w a b c d w4.heap.size H sw w14) := HL13.out.below hb14
    have HM14 : Hid (MK w7.heap.size w8.heap.size H sg w14) := (St.below HO13.out.2.2 hb14).now (Nat.le_trans HZ13.out hb14.size)
    have HP14 : Hid (w4.heap.size < w7.heap.size ∧ w.heap.size < w7.heap.size ∧ Below w5.heap.size w5 w14 ∧ w5.heap.size ≤ w7.heap.size) := ⟨Nat.lt_of_lt_of_le HL5'.out.q.lt H57.out, Nat.lt_of_lt_of_le HL5'.out.p.lt H57.out, HB13.out.trans (hb14.mono HB13.out.size), H57.out⟩
    clear hb14 HG13 HL13 HO13 HZ13 HB13
    go_wp2_with (first
      | (refine wpList_load_mid (P := Try.prog) rfl 41 (.tmp 9) rfl w8.heap.size 0 rfl (hoL H sg) _ HG14.out.load Try.underlying41 rfl (sz41L H sg) ?_))
    rw [← hoV_L]
    refine HM14.out.mono ?_
    rintro o w15 ⟨q, rfl, hb15, h15, hq15⟩
    have HG15 : Hid (blk w15 w8.heap.size (hoL H sg) 41) := HG14.out.kept (h15 _ (Nat.le_refl _) HG14.out.lt)
    have HB15 : Hid (Below w5.heap.size w5 w15) := HP14.out.2.2.1.trans (hb15.mono HP14.out.2.2.2)
    have HQ15 : Hid (Calls Try.prog 20 #[hoV H sg, .int .i64 1] w15 fun o w'' => o = .returned (.int .i64 (q : Int)) ∧ Below w15.heap.size w15 w'') := hq15
    clear hb15 h15 hq15 HM14 HG14 HL14
    have hq0 : ¬ (q : Int) < 0 := by omega
    go_wp2_with (first
      | (refine wpList_load_mid (P := Try.prog) rfl 41 (.tmp 9) rfl w8.heap.size 0 rfl (hoL H sg) _ HG15.out.load Try.underlying41 rfl (sz41L H sg) ?_))
    rw [← hoV_L]
    refine HQ15.out.mono ?_
    rintro o w16 ⟨rfl, hb16⟩
    have HL16 : Hid (lS w a b c d w4.heap.size H sw w16) := HL5'.out.below (HB15.out.trans (hb16.mono HB15.out.size))
    clear hb16 HB15 HG15 HQ15 HP14
    go_wp2_with (first
      | (refine wpList_load_mid (P := Try.prog) rfl 32 (.tmp 2) rfl w.heap.size 0 rfl _ _ HL16.out.p.load Try.underlying32 rfl sz32 ?_))
    refine (toConfig_any w16 a b c d).mono ?_
    rintro o w17 ⟨rfl, hb17⟩
    have HL17 : Hid (lS w a b c d w4.heap.size H sw w17) := HL16.out.below hb17
    clear hb17 HL16
    go_wp2_with fail
    refine (toFilterS_row w17 ao n cap bs (HR.out.below HL17.out.b) hle).mono ?_
    rintro o w18 ⟨gz, rfl, _, S18, hb18⟩
    have HL18 : Hid (lS w a b c d w4.heap.size H sw w18) := HL17.out.below hb18
    have HS18 : Hid (isR3s w18 (some ⟨gz, 0, none⟩) n n bs) := S18.now
    clear hb18 HL17 S18
    go_wp2_with fail
    refine (HNH.out.im w18 gz HS18.out).mono ?_
    rintro o w19 ⟨sh, rfl, ⟨hs19, _⟩, hb19⟩
    obtain ⟨hq20, hb20⟩ := new_host (w := w19) (T := 41) (hoL H sh) (hoL_len H sh)
    have HT20 : Hid (World.there (w19.alloc (.cells z10.toArray 41)) w19.heap.size 0 10) := (blk.new w19 z10 41).there 0 10 (by simp)
    have HQ20 : Hid (blk (World.setCells (w19.alloc (.cells z10.toArray 41)) w19.heap.size 0 (hoL H sh)) w19.heap.size (hoL H sh) 41 ∧ isHo (World.setCells (w19.alloc (.cells z10.toArray 41)) w19.heap.size 0 (hoL H sh)) H sh ∧ lS w a b c d w4.heap.size H sw (World.setCells (w19.alloc (.cells z10.toArray 41)) w19.heap.size 0 (hoL H sh))) := ⟨hq20, hs19.now.below hb20, (HL18.out.below hb19).below hb20⟩
    rw [hoV_L]
    clear hq20 hb20 hs19 hb19 HL18 HS18
    go_wp2_with (first
      | (refine wpList_store_mid (P := Try.prog) rfl 41 (.tmp 14) (.tmp 85) rfl w19.heap.size 0 (hoL H sh).toArray rfl rfl HT20.out (sz41A H sh) (hoL_one H sh) ?_; generalize hW20 : World.setCells (World.alloc _ _) w19.heap.size 0 _ = w20; have HG20 : Hid (blk w20 w19.heap.size (hoL H sh) 41 ∧ isHo w20 H sh ∧ lS w a b c d w4.heap.size H sw w20) := (hW20 ▸ HQ20.out); clear hW20)
      | (refine wpList_load_mid (P := Try.prog) rfl 41 (.tmp 14) rfl w19.heap.size 0 rfl (hoL H sh) _ HG20.out.1.load Try.underlying41 rfl (sz41L H sh) ?_)
      | (refine wpList_load_mid (P := Try.prog) rfl 41 (.tmp 6) rfl w4.heap.size 0 rfl (hoL H sw) _ HG20.out.2.2.q.load Try.underlying41 rfl (sz41L H sw) ?_))
    rw [← hoV_L, ← hoV_L]
    refine (eqHost_same w20 H sh sw HG20.out.2.1 HG20.out.2.2.o HNH.out.le).mono ?_
    rintro o w21 ⟨rfl, hb21⟩
    have HL21 : Hid (Below w.heap.size w w21) := (HG20.out.2.2.below hb21).b
    clear hb21 HG20 HQ20 HT20
    go_wp2_with fail
    go_ret
    exact ⟨rfl, HL21.out⟩
  · have HSZ : Hid (∀ X, Calls Try.prog 11 #[.slice ao n cap, .int .i64 1048576] X fun o w' => o = .returned (.int .i64 (-1)) ∧ X = w') := fun X => (szFilterS_any X ao n cap 1048576 hn (Nat.le_refl _)).mono (by rintro o w' ⟨rfl, e⟩; rw [if_neg (by omega)]; exact ⟨rfl, e⟩)
    clear h hn hle
    go_enter Try.func4, Try.ntmps4
    go_wp2_with fail
    refine (HSZ.out _).mono ?_
    rintro o w1 ⟨rfl, rfl⟩
    go_wp2_with fail
    go_ret
    exact ⟨rfl, HA.out.1⟩
end Go.Proofs.Ytihndnclplkleaa
