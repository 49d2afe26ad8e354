import Derived.Test.YtaamahohdnbpiaaGreatG34
import Derived.Test.YtaamahohdnbpiaaGreatTE
import Derived.Deep.RegionHeld3
namespace Go.Proofs.YtaamahohdnbpiaaGreat
open Go.RowKit
set_option linter.unusedVariables false
structure foS (w0 : World) (FL GL : List Value) (bf bg bh : Nat) (T : Ho) (s : Sl) (W : World) : Prop where
  f : blk W bf FL 25
  g : blk W bg GL 25
  h : blk W bh (hoL T s) 35
  t : isHo W T s
  ss : slSome s
  b : Below w0.heap.size w0 W
  z : w0.heap.size ≤ bf ∧ w0.heap.size ≤ bg ∧ w0.heap.size ≤ bh
  d : bf ≠ bh ∧ bg ≠ bh
theorem foS.below {w0 : World} {FL GL : List Value} {bf bg bh : Nat} {T : Ho} {s : Sl} {W W' : World} (h : foS w0 FL GL bf bg bh T s W) (hb : Below W.heap.size W W') : foS w0 FL GL bf bg bh T s W' :=
  ⟨h.f.below hb, h.g.below hb, h.h.below hb, h.t.below hb, h.ss, h.b.trans (hb.mono h.b.size), h.z, h.d⟩
theorem foS.put {w0 : World} {FL GL : List Value} {bf bg bh : Nat} {T : Ho} {s : Sl} {W : World} (h : foS w0 FL GL bf bg bh T s W) {X : World} {T' : Ho} {s' : Sl} (hX : bh < X.heap.size) (hst : St X.heap.size W (fun V => isHo V T' s')) (hs : slSome s') : foS w0 FL GL bf bg bh T' s' (W.setCells bh 0 (hoL T' s')) := by
  refine ⟨h.f.other h.d.1 _ _, h.g.other h.d.2 _ _, ?_, hst _ (fun x h1 h2 => setCells_other _ x (by omega) _ _ _), hs, setCells_below h.z.2.2 0 _ h.b, h.z, h.d⟩
  have := blk.put [] (hoL T s) [] (hoL T' s') (w := W) (b := bh) (T := 35) (by simpa using h.h) (by rw [hoL_len, hoL_len])
  rw [List.nil_append, List.append_nil] at this
  exact this
theorem put25 {v : World} {b : Nat} {L L' : List Value} (h : blk v b L 25) (hl : L'.length = L.length) : blk (v.setCells b 0 L') b L' 25 := by
  have := blk.put [] L [] L' (w := v) (b := b) (T := 25) (by simpa using h) hl.symm
  rw [List.nil_append, List.append_nil] at this
  exact this
theorem new1 (w1 : World) : blk ((w1.alloc (.cells [.bool false, .int .u32 0, .bool false, .int .i64 0, .slice none 0 0].toArray 25)).alloc (.cells [.bool false, .int .u32 0, .bool false, .int .i64 0, .slice none 0 0].toArray 25)) w1.heap.size [.bool false, .int .u32 0, .bool false, .int .i64 0, .slice none 0 0] 25 ∧ blk ((w1.alloc (.cells [.bool false, .int .u32 0, .bool false, .int .i64 0, .slice none 0 0].toArray 25)).alloc (.cells [.bool false, .int .u32 0, .bool false, .int .i64 0, .slice none 0 0].toArray 25)) (w1.heap.size + 1) [.bool false, .int .u32 0, .bool false, .int .i64 0, .slice none 0 0] 25 ∧ Below w1.heap.size w1 ((w1.alloc (.cells [.bool false, .int .u32 0, .bool false, .int .i64 0, .slice none 0 0].toArray 25)).alloc (.cells [.bool false, .int .u32 0, .bool false, .int .i64 0, .slice none 0 0].toArray 25)) := by
  refine ⟨(blk.new w1 _ 25).alloc _, ?_, ((Below.refl _ _).alloc (Nat.le_refl _) _).alloc (by simp) _⟩
  have := blk.new (w1.alloc (.cells [.bool false, .int .u32 0, .bool false, .int .i64 0, .slice none 0 0].toArray 25)) [.bool false, .int .u32 0, .bool false, .int .i64 0, .slice none 0 0] 25
  have e : (w1.alloc (.cells [.bool false, .int .u32 0, .bool false, .int .i64 0, .slice none 0 0].toArray 25)).heap.size = w1.heap.size + 1 := by simp
  rw [e] at this
  exact this
set_option maxHeartbeats 8000000 in
set_option maxRecDepth 40000 in
theorem lawFirstOut (w : World) (a : Option Addr) (n cap : Nat) (l : List Nat) (b : Option Addr) (m cpm : Nat) (lm : List Nat) (h : isBytes w a n cap l) (h' : isBytes w b m cpm lm) (hn : n ≤ maxLen) (hm : m ≤ maxLen) :
    Calls Tryz.prog 3 #[.slice a n cap, .slice b m cpm] w fun o w' => o = .returned (.bool true) ∧ Below w.heap.size w w' := by
  have hcn := h.cap
  have hcm := h'.cap
  by_cases hb : n ≤ 1048576 ∧ m ≤ 1048576
  · obtain ⟨hn1, hm1⟩ := hb
    have HWP : Hid (Calls Tryz.prog 13 #[.slice a n cap, .slice b m cpm] w fun o w' => wpOut w o w') := wPair_any w a n cap l b m cpm lm h hn1 h' hm1
    have hd1 : decide ((1048576 : Int) < (n : Int)) = false := decide_eq_false (by omega)
    have hd2 : decide ((1048576 : Int) < (m : Int)) = false := decide_eq_false (by omega)
    clear h h'
    go_enter Tryz.func3, Tryz.ntmps3
    go_wp2_with fail
    refine HWP.out.mono ?_
    rintro o w1 ⟨e1, i1, r1, d1, fa, fc, l1, e2, i2, r2, d2, ga, gc, l2, rfl, v1, v2, db1, db2, bw⟩
    obtain ⟨F, hF⟩ : ∃ F : R5, F = ⟨e1, i1, r1, d1, l1⟩ := ⟨_, rfl⟩
    obtain ⟨G, hG⟩ : ∃ G : R5, G = ⟨e2, i2, r2, d2, l2⟩ := ⟨_, rfl⟩
    have HVF : Hid (validB F.e F.i F.r F.d F.l.length = true ∧ validB G.e G.i G.r G.d G.l.length = true) := by subst hF hG; exact ⟨v1, v2⟩
    have HDF : Hid (isBytes w1 fa F.l.length fc F.l ∧ isBytes w1 ga G.l.length gc G.l) := by subst hF hG; exact ⟨db1, db2⟩
    have HB1 : Hid (Below w.heap.size w w1) := bw
    have eF1 : frV e1 i1 r1 d1 fa l1.length fc = .agg [.bool F.e, .int .u32 (F.i : Int), .bool F.r, .int .i64 F.d, .slice fa F.l.length fc].toArray := by subst hF; rfl
    have eG1 : frV e2 i2 r2 d2 ga l2.length gc = .agg [.bool G.e, .int .u32 (G.i : Int), .bool G.r, .int .i64 G.d, .slice ga G.l.length gc].toArray := by subst hG; rfl
    rw [eF1, eG1]
    clear v1 v2 db1 db2 bw eF1 eG1 hF hG HWP
    have HA1 : Hid (blk ((w1.alloc (.cells [.bool false, .int .u32 0, .bool false, .int .i64 0, .slice none 0 0].toArray 25)).alloc (.cells [.bool false, .int .u32 0, .bool false, .int .i64 0, .slice none 0 0].toArray 25)) w1.heap.size [.bool false, .int .u32 0, .bool false, .int .i64 0, .slice none 0 0] 25 ∧ blk ((w1.alloc (.cells [.bool false, .int .u32 0, .bool false, .int .i64 0, .slice none 0 0].toArray 25)).alloc (.cells [.bool false, .int .u32 0, .bool false, .int .i64 0, .slice none 0 0].toArray 25)) (w1.heap.size + 1) [.bool false, .int .u32 0, .bool false, .int .i64 0, .slice none 0 0] 25 ∧ Below w1.heap.size w1 ((w1.alloc (.cells [.bool false, .int .u32 0, .bool false, .int .i64 0, .slice none 0 0].toArray 25)).alloc (.cells [.bool false, .int .u32 0, .bool false, .int .i64 0, .slice none 0 0].toArray 25))) := new1 w1
    go_wp2_with (first
      | (refine wpList_store_mid (P := Tryz.prog) rfl 25 _ _ rfl w1.heap.size 0 [.bool F.e, .int .u32 (F.i : Int), .bool F.r, .int .i64 F.d, .slice fa F.l.length fc].toArray rfl rfl (HA1.out.1.there 0 5 (by simp)) sz93 (all_oneCell_toArray (by simp [Value.oneCell'])) ?_; generalize hV1 : World.setCells _ w1.heap.size 0 _ = u1; have HU1 : Hid (blk u1 w1.heap.size [.bool F.e, .int .u32 (F.i : Int), .bool F.r, .int .i64 F.d, .slice fa F.l.length fc] 25 ∧ blk u1 (w1.heap.size + 1) [.bool false, .int .u32 0, .bool false, .int .i64 0, .slice none 0 0] 25 ∧ Below w1.heap.size w1 u1) := (by rw [← hV1]; exact ⟨put25 HA1.out.1 rfl, HA1.out.2.1.other (by omega) _ _, setCells_below (Nat.le_refl _) 0 _ HA1.out.2.2⟩); clear hV1 HA1)
      | (refine wpList_store_mid (P := Tryz.prog) rfl 25 _ _ rfl (w1.heap.size + 1) 0 [.bool G.e, .int .u32 (G.i : Int), .bool G.r, .int .i64 G.d, .slice ga G.l.length gc].toArray rfl rfl (HU1.out.2.1.there 0 5 (by simp)) sz93 (all_oneCell_toArray (by simp [Value.oneCell'])) ?_; generalize hW2 : World.setCells _ (w1.heap.size + 1) 0 _ = w2; have HX2 : Hid (blk w2 w1.heap.size [.bool F.e, .int .u32 (F.i : Int), .bool F.r, .int .i64 F.d, .slice fa F.l.length fc] 25 ∧ blk w2 (w1.heap.size + 1) [.bool G.e, .int .u32 (G.i : Int), .bool G.r, .int .i64 G.d, .slice ga G.l.length gc] 25 ∧ Below w1.heap.size w1 w2) := (by rw [← hW2]; exact ⟨HU1.out.1.other (by omega) _ _, put25 HU1.out.2.1 rfl, setCells_below (by omega) 0 _ HU1.out.2.2⟩); clear hW2 HU1))
    have hb3 : Below w2.heap.size w2 (w2.alloc (.cells #[] 85)) := (Below.refl _ _).alloc (Nat.le_refl _) _
    have HX3 : Hid (blk (w2.alloc (.cells #[] 85)) w1.heap.size [.bool F.e, .int .u32 (F.i : Int), .bool F.r, .int .i64 F.d, .slice fa F.l.length fc] 25 ∧ blk (w2.alloc (.cells #[] 85)) (w1.heap.size + 1) [.bool G.e, .int .u32 (G.i : Int), .bool G.r, .int .i64 G.d, .slice ga G.l.length gc] 25 ∧ Below w1.heap.size w1 (w2.alloc (.cells #[] 85))) := ⟨HX2.out.1.below hb3, HX2.out.2.1.below hb3, HX2.out.2.2.trans (hb3.mono HX2.out.2.2.size)⟩
    clear HX2 hb3
    refine (cNew (w2.alloc (.cells #[] 85)) 2 1 0 2 w2.heap.size rfl).mono ?_
    generalize w2.alloc (.cells #[] 85) = w3 at *
    rintro o w4 ⟨s0, rfl, st0, ss0, hb4⟩
    have HX4 : Hid (blk w4 w1.heap.size [.bool F.e, .int .u32 (F.i : Int), .bool F.r, .int .i64 F.d, .slice fa F.l.length fc] 25 ∧ blk w4 (w1.heap.size + 1) [.bool G.e, .int .u32 (G.i : Int), .bool G.r, .int .i64 G.d, .slice ga G.l.length gc] 25 ∧ Below w1.heap.size w1 w4) := ⟨HX3.out.1.below hb4, HX3.out.2.1.below hb4, HX3.out.2.2.trans (hb4.mono HX3.out.2.2.size)⟩
    have HH4 : Hid (isHo w4 (foH bx0 bx0 [] 0) s0 ∧ slSome s0) := ⟨st0.now, ss0⟩
    clear HX3 st0 ss0 hb4
    have HN4a : Hid (blk (World.setCells (w4.alloc (.cells [.int .i64 0, .int .i64 0, .int .i64 0, .int .i64 0, .slice none 0 0, .slice none 0 0, .slice none 0 0, .slice none 0 0, .int .i64 0, .int .i64 0].toArray 35)) w4.heap.size 0 (hoL (foH bx0 bx0 [] 0) s0)) w4.heap.size (hoL (foH bx0 bx0 [] 0) s0) 35 ∧ Below w4.heap.size w4 (World.setCells (w4.alloc (.cells [.int .i64 0, .int .i64 0, .int .i64 0, .int .i64 0, .slice none 0 0, .slice none 0 0, .slice none 0 0, .slice none 0 0, .int .i64 0, .int .i64 0].toArray 35)) w4.heap.size 0 (hoL (foH bx0 bx0 [] 0) s0))) := new_hostS _ (hoL_len _ _)
    have HN4b : Hid (blk (w4.alloc (.cells [.int .i64 0, .int .i64 0, .int .i64 0, .int .i64 0, .slice none 0 0, .slice none 0 0, .slice none 0 0, .slice none 0 0, .int .i64 0, .int .i64 0].toArray 35)) w4.heap.size [.int .i64 0, .int .i64 0, .int .i64 0, .int .i64 0, .slice none 0 0, .slice none 0 0, .slice none 0 0, .slice none 0 0, .int .i64 0, .int .i64 0] 35) := blk.new w4 _ 35
    go_wp2_with (first
      | (refine wpList_store_mid (P := Tryz.prog) rfl 35 _ _ rfl w4.heap.size 0 (hoL (foH bx0 bx0 [] 0) s0).toArray rfl rfl (HN4b.out.there 0 _ (by rw [List.size_toArray, hoL_len]; decide)) (sz41A _ _) (hoL_one _ _) ?_; generalize hW5 : World.setCells (w4.alloc _) w4.heap.size 0 _ = w5; have HX5 : Hid (foS w1 [.bool F.e, .int .u32 (F.i : Int), .bool F.r, .int .i64 F.d, .slice fa F.l.length fc] [.bool G.e, .int .u32 (G.i : Int), .bool G.r, .int .i64 G.d, .slice ga G.l.length gc] w1.heap.size (w1.heap.size + 1) w4.heap.size (foH bx0 bx0 [] 0) s0 w5) := (by rw [← hW5]; exact ⟨HX4.out.1.below HN4a.out.2, HX4.out.2.1.below HN4a.out.2, HN4a.out.1, HH4.out.1.below HN4a.out.2, HH4.out.2, HX4.out.2.2.trans (HN4a.out.2.mono HX4.out.2.2.size), ⟨Nat.le_refl _, by omega, HX4.out.2.2.size⟩, ⟨by have := HX4.out.1.lt; omega, by have := HX4.out.2.1.lt; omega⟩⟩); clear hW5 HN4a HN4b))
    clear HX4 HH4
    generalize w4.heap.size = bh at *
    generalize w1.heap.size = bf at *
    generalize hbg : bf + 1 = bg at *
    have HL : Hid (F.l.length ≤ 1048576 ∧ G.l.length ≤ 1048576) := ⟨by have := valid_len HVF.out.1; omega, by have := valid_len HVF.out.2; omega⟩
    have HO2 : Hid (okHo (foH bx0 bx0 [] 0) ∧ okHo (foH (evF 1 5 0 F) bx0 [] 1) ∧ okHo (foH (evF 1 5 0 F) (evF 1 6 1 G) [] 2)) := by
      have h0 : okHo (foH bx0 bx0 [] 0) := okHo.new (m := 2) (b := 1) (c := 0) (d := 2) rfl
      have h1 := h0.sub 5 F
      rw [fo_sub1 HVF.out.1] at h1
      have h2 := h1.sub 6 G
      rw [fo_sub2 HVF.out.2] at h2
      exact ⟨h0, h1, h2⟩
    have HC1 : Hid (∀ X s, isHo X (foH bx0 bx0 [] 0) s → slSome s → Below w1.heap.size w1 X → Calls Tryz.prog 15 #[.agg (hoL (foH bx0 bx0 [] 0) s).toArray, .int .i64 5, frV F.e F.i F.r F.d fa F.l.length fc] X (hostQ X (foH (evF 1 5 0 F) bx0 [] 1))) := fun X s h1 h2 h3 => by
      have := cSub X _ s 5 F fa F.l.length fc HO2.out.1 h1 h2 (HDF.out.1.below h3) HL.out.1 (wf_small (by omega) (by omega))
      rw [fo_sub1 HVF.out.1] at this
      exact this
    have HC2 : Hid (∀ X s, isHo X (foH (evF 1 5 0 F) bx0 [] 1) s → slSome s → Below w1.heap.size w1 X → Calls Tryz.prog 15 #[.agg (hoL (foH (evF 1 5 0 F) bx0 [] 1) s).toArray, .int .i64 6, frV G.e G.i G.r G.d ga G.l.length gc] X (hostQ X (foH (evF 1 5 0 F) (evF 1 6 1 G) [] 2))) := fun X s h1 h2 h3 => by
      have := cSub X _ s 6 G ga G.l.length gc HO2.out.2.1 h1 h2 (HDF.out.2.below h3) HL.out.2 (wf_small (by omega) (by omega))
      rw [fo_sub2 HVF.out.2] at this
      exact this
    clear hbg hd1 hd2
    refine wp_region_held (S := fun X => blk X bf [.bool F.e, .int .u32 (F.i : Int), .bool F.r, .int .i64 F.d, .slice fa F.l.length fc] 25 ∧ blk X bg [.bool G.e, .int .u32 (G.i : Int), .bool G.r, .int .i64 G.d, .slice ga G.l.length gc] 25) (by kernel_rfl) ?_
    have HX6 : Hid (foS w1 [.bool F.e, .int .u32 (F.i : Int), .bool F.r, .int .i64 F.d, .slice fa F.l.length fc] [.bool G.e, .int .u32 (G.i : Int), .bool G.r, .int .i64 G.d, .slice ga G.l.length gc] bf bg bh (foH bx0 bx0 [] 0) s0 (World.drew w5)) := HX5.out.below (Below.refl _ _).drew
    clear HX5
    change wpAnyH Tryz.prog _ _ _ _ _ _ _ (World.drew w5)
    generalize World.drew w5 = v0 at *
    have hS : blk v0 bf [.bool F.e, .int .u32 (F.i : Int), .bool F.r, .int .i64 F.d, .slice fa F.l.length fc] 25 ∧ blk v0 bg [.bool G.e, .int .u32 (G.i : Int), .bool G.r, .int .i64 G.d, .slice ga G.l.length gc] 25 := ⟨HX6.out.f, HX6.out.g⟩
    refine wpAnyH_take (i := 1) (v := .agg [.bool F.e, .int .u32 (F.i : Int), .bool F.r, .int .i64 F.d, .slice fa F.l.length fc].toArray) rfl (by kernel_rfl) (by kernel_rfl) (by kernel_rfl) (fun _ _ _ h => h) (yieldsIf_load_mid (by rfl) 25 _ rfl bf 0 rfl [.bool F.e, .int .u32 (F.i : Int), .bool F.r, .int .i64 F.d, .slice fa F.l.length fc] _ (fun X h => h.1.load) Tryz.underlying25 rfl sz93) hS ?_
    simp only [Act.put, liA, liB, liC, liD, liE, liF]
    refine wpAnyH_take (i := 3) (v := .agg [.bool G.e, .int .u32 (G.i : Int), .bool G.r, .int .i64 G.d, .slice ga G.l.length gc].toArray) rfl (by kernel_rfl) (by kernel_rfl) (by kernel_rfl) (fun _ _ _ h => h) (yieldsIf_load_mid (by rfl) 25 _ rfl bg 0 rfl [.bool G.e, .int .u32 (G.i : Int), .bool G.r, .int .i64 G.d, .slice ga G.l.length gc] _ (fun X h => h.2.load) Tryz.underlying25 rfl sz93) hS ?_
    simp only [Act.put, liA, liB, liC, liD, liE, liF]
    refine wpAnyH_all (rs := [0]) (by kernel_rfl) (by simp) ?_
    refine AllReadyH.cons rfl (fun K2 hK2 => ?_) AllReadyH.nil
    rw [if_pos (by rfl)]
    refine wp_load_mid 35 _ rfl bh 0 rfl (hoL (foH bx0 bx0 [] 0) s0) _ HX6.out.h.load Tryz.underlying35 rfl (sz41L _ _) ?_
    refine hK2.out _ _ hS (fun hS2 => ?_)
    clear hK2 K2 hS2
    simp only [Act.put, liA, liB, liC, liD, liE]
    refine wpAnyH_all (rs := [2]) (by kernel_rfl) (by simp) ?_
    refine AllReadyH.cons rfl (fun K2 hK2 => ?_) AllReadyH.nil
    go_simp
    refine (HC1.out v0 s0 HX6.out.t HX6.out.ss HX6.out.b).mono ?_
    rintro o v1 ⟨s1, rfl, st1, ss1, hb1⟩
    have hS5 : blk v1 bf [.bool F.e, .int .u32 (F.i : Int), .bool F.r, .int .i64 F.d, .slice fa F.l.length fc] 25 ∧ blk v1 bg [.bool G.e, .int .u32 (G.i : Int), .bool G.r, .int .i64 G.d, .slice ga G.l.length gc] 25 := ⟨hS.1.below hb1, hS.2.below hb1⟩
    have HX7 : Hid (foS w1 [.bool F.e, .int .u32 (F.i : Int), .bool F.r, .int .i64 F.d, .slice fa F.l.length fc] [.bool G.e, .int .u32 (G.i : Int), .bool G.r, .int .i64 G.d, .slice ga G.l.length gc] bf bg bh (foH bx0 bx0 [] 0) s0 v1 ∧ isHo v1 (foH (evF 1 5 0 F) bx0 [] 1) s1 ∧ slSome s1) := ⟨HX6.out.below hb1, st1.now, ss1⟩
    clear st1 ss1 hb1 HX6 HC1
    go_wp2_with fail
    refine hK2.out _ _ hS5 (fun hS2 => ?_)
    clear hK2 K2 hS hS5
    have hS := hS2
    clear hS2
    refine wpAnyH_all (rs := [4]) (by kernel_rfl) (by simp) ?_
    refine AllReadyH.cons rfl (fun K2 hK2 => ?_) AllReadyH.nil
    go_simp
    refine (HC2.out v1 s1 HX7.out.2.1 HX7.out.2.2 HX7.out.1.b).mono ?_
    rintro o v2 ⟨s2, rfl, st2, ss2, hb2⟩
    have hS5 : blk v2 bf [.bool F.e, .int .u32 (F.i : Int), .bool F.r, .int .i64 F.d, .slice fa F.l.length fc] 25 ∧ blk v2 bg [.bool G.e, .int .u32 (G.i : Int), .bool G.r, .int .i64 G.d, .slice ga G.l.length gc] 25 := ⟨hS.1.below hb2, hS.2.below hb2⟩
    have HX8 : Hid (foS w1 [.bool F.e, .int .u32 (F.i : Int), .bool F.r, .int .i64 F.d, .slice fa F.l.length fc] [.bool G.e, .int .u32 (G.i : Int), .bool G.r, .int .i64 G.d, .slice ga G.l.length gc] bf bg bh (foH bx0 bx0 [] 0) s0 v2 ∧ St v1.heap.size v2 (fun V => isHo V (foH (evF 1 5 0 F) (evF 1 6 1 G) [] 2) s2) ∧ slSome s2 ∧ bh < v1.heap.size) := ⟨HX7.out.1.below hb2, st2, ss2, HX7.out.1.h.lt⟩
    clear st2 ss2 hb2 HX7 HC2
    go_wp2_with fail
    refine hK2.out _ _ hS5 (fun hS2 => ?_)
    clear hK2 K2 hS hS5
    have hS := hS2
    clear hS2
    refine wpAnyH_all (rs := [5]) (by kernel_rfl) (by simp) ?_
    refine AllReadyH.cons rfl (fun K2 hK2 => ?_) AllReadyH.nil
    rw [if_pos (by rfl)]
    refine wp_store_mid 35 _ _ rfl bh 0 (hoL (foH (evF 1 5 0 F) (evF 1 6 1 G) [] 2) s2).toArray rfl rfl (HX8.out.1.h.there 0 _ (by rw [List.size_toArray, hoL_len, hoL_len]; decide)) (sz41A _ _) (hoL_one _ _) ?_
    have HX9 : Hid (foS w1 [.bool F.e, .int .u32 (F.i : Int), .bool F.r, .int .i64 F.d, .slice fa F.l.length fc] [.bool G.e, .int .u32 (G.i : Int), .bool G.r, .int .i64 G.d, .slice ga G.l.length gc] bf bg bh (foH (evF 1 5 0 F) (evF 1 6 1 G) [] 2) s2 (v2.setCells bh 0 (hoL (foH (evF 1 5 0 F) (evF 1 6 1 G) [] 2) s2))) := HX8.out.1.put HX8.out.2.2.2 HX8.out.2.1 HX8.out.2.2.1
    refine hK2.out _ _ ⟨HX9.out.f, HX9.out.g⟩ (fun hS2 => ?_)
    clear hK2 K2 hS hS2 HX8
    refine wpAnyH_done (by kernel_rfl) ?_ _
    generalize World.setCells v2 bh 0 (hoL (foH (evF 1 5 0 F) (evF 1 6 1 G) [] 2) s2) = w6 at *
    simp only [Act.put]
    go_wp2_with fail
    have HAG : Hid (∀ X, Below w1.heap.size w1 X → Calls Tryz.prog 16 #[frV G.e G.i G.r G.d ga G.l.length gc] X fun o w' => o = .returned (.string (arbF G)) ∧ Below X.heap.size X w') := fun X hX => specArb_any X _ _ _ _ _ _ _ _ (HDF.out.2.below hX)
    have HAF : Hid (∀ X, Below w1.heap.size w1 X → Calls Tryz.prog 16 #[frV F.e F.i F.r F.d fa F.l.length fc] X fun o w' => o = .returned (.string (arbF F)) ∧ Below X.heap.size X w') := fun X hX => specArb_any X _ _ _ _ _ _ _ _ (HDF.out.1.below hX)
    cases hless : Op.bytesLess (arbF G).toList (arbF F).toList with
    | false =>
      have HK3 : Hid (okHo (foH (evF 2 5 0 F) (evF 1 6 1 G) [] 2) ∧ okHo (foH z8 (evF 1 6 1 G) [evF 1 5 0 F] 2) ∧ okHo (foH z8 (evF 2 6 1 G) [evF 1 5 0 F] 2) ∧ okHo (foH z8 z8 [evF 1 5 0 F, evF 1 6 0 G] 2)) := by
        have h3 := HO2.out.2.2.take 0
        rw [fo_take0 (Or.inr rfl)] at h3
        have h4' := h3.rel true
        rw [fo_rel0 (by decide)] at h4'
        have h4 : okHo (foH z8 (evF 1 6 1 G) [evF 1 5 0 F] 2) := h4'
        have h5 : okHo (foH z8 (evF 2 6 1 G) [evF 1 5 0 F] 2) := by
          have := h4.take 1
          have e : takeHo (foH z8 (evF 1 6 1 G) [evF 1 5 0 F] 2) 1 = (foH z8 (evF 2 6 1 G) [evF 1 5 0 F] 2) := fo_take1 (Or.inl rfl)
          rw [e] at this
          exact this
        have h6 := h5.rel true
        rw [fo_rel1 (Or.inl rfl) (by show (1 : Int) < 2; decide)] at h6
        exact ⟨h3, h4, h5, h6⟩
      have HB2 : Hid (∀ X s, isHo X (foH (evF 1 5 0 F) (evF 1 6 1 G) [] 2) s → slSome s → Calls Tryz.prog 17 #[.agg (hoL (foH (evF 1 5 0 F) (evF 1 6 1 G) [] 2) s).toArray] X fun o w' => o = .returned (.int .i64 0) ∧ Below X.heap.size X w') := fun X s h1 h2 => (cBest X _ s HO2.out.2.2 h1 h2).mono (by rintro o w' ⟨r, rfl, hr, hb⟩; exact ⟨by rw [bestR_one hr (fo_best0 hless)], hb⟩)
      have HB4 : Hid (∀ X s, isHo X (foH z8 (evF 1 6 1 G) [evF 1 5 0 F] 2) s → slSome s → Calls Tryz.prog 17 #[.agg (hoL (foH z8 (evF 1 6 1 G) [evF 1 5 0 F] 2) s).toArray] X fun o w' => o = .returned (.int .i64 1) ∧ Below X.heap.size X w') := fun X s h1 h2 => (cBest X _ s HK3.out.2.1 h1 h2).mono (by rintro o w' ⟨r, rfl, hr, hb⟩; exact ⟨by rw [bestR_one hr fo_bestR], hb⟩)
      have HB6 : Hid (∀ X s, isHo X (foH z8 z8 [evF 1 5 0 F, evF 1 6 0 G] 2) s → slSome s → Calls Tryz.prog 17 #[.agg (hoL (foH z8 z8 [evF 1 5 0 F, evF 1 6 0 G] 2) s).toArray] X fun o w' => o = .returned (.int .i64 (-1)) ∧ Below X.heap.size X w') := fun X s h1 h2 => (cBest X _ s HK3.out.2.2.2 h1 h2).mono (by rintro o w' ⟨r, rfl, hr, hb⟩; exact ⟨by rw [bestR_one hr fo_bestN], hb⟩)
      have HT1 : Hid (∀ X s, isHo X (foH (evF 1 5 0 F) (evF 1 6 1 G) [] 2) s → slSome s → Calls Tryz.prog 19 #[.agg (hoL (foH (evF 1 5 0 F) (evF 1 6 1 G) [] 2) s).toArray, .int .i64 0] X (hostQ X (foH (evF 2 5 0 F) (evF 1 6 1 G) [] 2))) := fun X s h1 h2 => by
        have := cTake X _ s 0 HO2.out.2.2 h1 h2
        rw [fo_take0 (Or.inr rfl)] at this
        exact this
      have HR1 : Hid (∀ X s, isHo X (foH (evF 2 5 0 F) (evF 1 6 1 G) [] 2) s → slSome s → Calls Tryz.prog 18 #[.agg (hoL (foH (evF 2 5 0 F) (evF 1 6 1 G) [] 2) s).toArray, .bool true] X (hostQ X (foH z8 (evF 1 6 1 G) [evF 1 5 0 F] 2))) := fun X s h1 h2 => by
        have := cRel X _ s true HK3.out.1 h1 h2
        rw [fo_rel0 (by decide)] at this
        exact this
      have HT2 : Hid (∀ X s, isHo X (foH z8 (evF 1 6 1 G) [evF 1 5 0 F] 2) s → slSome s → Calls Tryz.prog 19 #[.agg (hoL (foH z8 (evF 1 6 1 G) [evF 1 5 0 F] 2) s).toArray, .int .i64 1] X (hostQ X (foH z8 (evF 2 6 1 G) [evF 1 5 0 F] 2))) := fun X s h1 h2 => by
        have := cTake X _ s 1 HK3.out.2.1 h1 h2
        have e : takeHo (foH z8 (evF 1 6 1 G) [evF 1 5 0 F] 2) 1 = (foH z8 (evF 2 6 1 G) [evF 1 5 0 F] 2) := fo_take1 (Or.inl rfl)
        rw [e] at this
        exact this
      have HR2 : Hid (∀ X s, isHo X (foH z8 (evF 2 6 1 G) [evF 1 5 0 F] 2) s → slSome s → Calls Tryz.prog 18 #[.agg (hoL (foH z8 (evF 2 6 1 G) [evF 1 5 0 F] 2) s).toArray, .bool true] X (hostQ X (foH z8 z8 [evF 1 5 0 F, evF 1 6 0 G] 2))) := fun X s h1 h2 => by
        have := cRel X _ s true HK3.out.2.2.1 h1 h2
        rw [fo_rel1 (Or.inl rfl) (by show (1 : Int) < 2; decide)] at this
        exact this
      refine wp_region_held (S := fun X => foS w1 [.bool F.e, .int .u32 (F.i : Int), .bool F.r, .int .i64 F.d, .slice fa F.l.length fc] [.bool G.e, .int .u32 (G.i : Int), .bool G.r, .int .i64 G.d, .slice ga G.l.length gc] bf bg bh (foH (evF 1 5 0 F) (evF 1 6 1 G) [] 2) s2 X) (by kernel_rfl) ?_
      have hS : foS w1 [.bool F.e, .int .u32 (F.i : Int), .bool F.r, .int .i64 F.d, .slice fa F.l.length fc] [.bool G.e, .int .u32 (G.i : Int), .bool G.r, .int .i64 G.d, .slice ga G.l.length gc] bf bg bh (foH (evF 1 5 0 F) (evF 1 6 1 G) [] 2) s2 (World.drew w6) := HX9.out.below (Below.refl _ _).drew
      clear HX9
      change wpAnyH Tryz.prog _ _ _ _ _ _ _ (World.drew w6)
      generalize World.drew w6 = v3 at *
      refine wpAnyH_take (i := 0) (v := .agg [.bool G.e, .int .u32 (G.i : Int), .bool G.r, .int .i64 G.d, .slice ga G.l.length gc].toArray) rfl (by kernel_rfl) (by kernel_rfl) (by kernel_rfl) (fun _ _ _ h => h) (yieldsIf_load_mid (by rfl) 25 _ rfl bg 0 rfl [.bool G.e, .int .u32 (G.i : Int), .bool G.r, .int .i64 G.d, .slice ga G.l.length gc] _ (fun X h => h.g.load) Tryz.underlying25 rfl sz93) hS ?_
      simp only [Act.put, liA, liB, liC, liD, liE]
      refine wpAnyH_take (i := 2) (v := .agg [.bool F.e, .int .u32 (F.i : Int), .bool F.r, .int .i64 F.d, .slice fa F.l.length fc].toArray) rfl (by kernel_rfl) (by kernel_rfl) (by kernel_rfl) (fun _ _ _ h => h) (yieldsIf_load_mid (by rfl) 25 _ rfl bf 0 rfl [.bool F.e, .int .u32 (F.i : Int), .bool F.r, .int .i64 F.d, .slice fa F.l.length fc] _ (fun X h => h.f.load) Tryz.underlying25 rfl sz93) hS ?_
      simp only [Act.put, liA, liB, liC, liD, liE, liF]
      refine wpAnyH_all (rs := [1]) (by kernel_rfl) (by simp) ?_
      refine AllReadyH.cons rfl (fun K2 hK2 => ?_) AllReadyH.nil
      go_simp
      refine (HAG.out v3 hS.b).mono ?_
      rintro o v4 ⟨rfl, hb⟩
      have hS5 : foS w1 [.bool F.e, .int .u32 (F.i : Int), .bool F.r, .int .i64 F.d, .slice fa F.l.length fc] [.bool G.e, .int .u32 (G.i : Int), .bool G.r, .int .i64 G.d, .slice ga G.l.length gc] bf bg bh (foH (evF 1 5 0 F) (evF 1 6 1 G) [] 2) s2 v4 := hS.below hb
      clear hb
      go_wp2_with fail
      refine hK2.out _ _ hS5 (fun hS2 => ?_)
      clear hK2 K2 hS hS5
      have hS := hS2
      clear hS2
      refine wpAnyH_all (rs := [3]) (by kernel_rfl) (by simp) ?_
      refine AllReadyH.cons rfl (fun K2 hK2 => ?_) AllReadyH.nil
      go_simp
      refine (HAF.out v4 hS.b).mono ?_
      rintro o v5 ⟨rfl, hb⟩
      have hS5 : foS w1 [.bool F.e, .int .u32 (F.i : Int), .bool F.r, .int .i64 F.d, .slice fa F.l.length fc] [.bool G.e, .int .u32 (G.i : Int), .bool G.r, .int .i64 G.d, .slice ga G.l.length gc] bf bg bh (foH (evF 1 5 0 F) (evF 1 6 1 G) [] 2) s2 v5 := hS.below hb
      clear hb
      go_wp2_with fail
      refine hK2.out _ _ hS5 (fun hS2 => ?_)
      clear hK2 K2 hS hS5
      have hS := hS2
      clear hS2
      refine wpAnyH_take (i := 4) (v := .bool false) rfl (by kernel_rfl) (by kernel_rfl) (by kernel_rfl) (fun _ _ _ h => h) (Or.inl ⟨by rfl, ?_⟩) hS ?_
      · intro W hSw
        clear hS
        go_simp
      simp only [Act.put, liA, liB, liC, liD, liE, liF]
      refine wpAnyH_done (by kernel_rfl) ?_ _
      have HX10 : Hid (foS w1 [.bool F.e, .int .u32 (F.i : Int), .bool F.r, .int .i64 F.d, .slice fa F.l.length fc] [.bool G.e, .int .u32 (G.i : Int), .bool G.r, .int .i64 G.d, .slice ga G.l.length gc] bf bg bh (foH (evF 1 5 0 F) (evF 1 6 1 G) [] 2) s2 v5) := hS
      clear hS HAG HAF
      go_wp2_with (first | (refine wpList_load_mid (P := Tryz.prog) rfl 35 _ rfl bh 0 rfl (hoL (foH (evF 1 5 0 F) (evF 1 6 1 G) [] 2) s2) _ HX10.out.h.load Tryz.underlying35 rfl (sz41L _ _) ?_))
      refine (HB2.out v5 s2 HX10.out.t HX10.out.ss).mono ?_
      rintro o w7 ⟨rfl, hb7⟩
      have HX11 : Hid (foS w1 [.bool F.e, .int .u32 (F.i : Int), .bool F.r, .int .i64 F.d, .slice fa F.l.length fc] [.bool G.e, .int .u32 (G.i : Int), .bool G.r, .int .i64 G.d, .slice ga G.l.length gc] bf bg bh (foH (evF 1 5 0 F) (evF 1 6 1 G) [] 2) s2 w7) := HX10.out.below hb7
      clear hb7 HX10 HB2
      go_wp2_with (first | (refine wpList_load_mid (P := Tryz.prog) rfl 35 _ rfl bh 0 rfl (hoL (foH (evF 1 5 0 F) (evF 1 6 1 G) [] 2) s2) _ HX11.out.h.load Tryz.underlying35 rfl (sz41L _ _) ?_))
      refine (HT1.out w7 s2 HX11.out.t HX11.out.ss).mono ?_
      rintro o w8 ⟨s3, rfl, stb, ssb, hbb⟩
      have HY : Hid (foS w1 [.bool F.e, .int .u32 (F.i : Int), .bool F.r, .int .i64 F.d, .slice fa F.l.length fc] [.bool G.e, .int .u32 (G.i : Int), .bool G.r, .int .i64 G.d, .slice ga G.l.length gc] bf bg bh (foH (evF 1 5 0 F) (evF 1 6 1 G) [] 2) s2 w8 ∧ isHo w8 (foH (evF 2 5 0 F) (evF 1 6 1 G) [] 2) s3 ∧ slSome s3) := ⟨HX11.out.below hbb, stb.now, ssb⟩
      clear stb ssb hbb HX11 HT1
      go_wp2_with fail
      refine (HR1.out w8 s3 HY.out.2.1 HY.out.2.2).mono ?_
      rintro o w9 ⟨s4, rfl, stb, ssb, hbb⟩
      have HY2 : Hid (foS w1 [.bool F.e, .int .u32 (F.i : Int), .bool F.r, .int .i64 F.d, .slice fa F.l.length fc] [.bool G.e, .int .u32 (G.i : Int), .bool G.r, .int .i64 G.d, .slice ga G.l.length gc] bf bg bh (foH (evF 1 5 0 F) (evF 1 6 1 G) [] 2) s2 w9 ∧ St w8.heap.size w9 (fun V => isHo V (foH z8 (evF 1 6 1 G) [evF 1 5 0 F] 2) s4) ∧ slSome s4 ∧ bh < w8.heap.size) := ⟨HY.out.1.below hbb, stb, ssb, HY.out.1.h.lt⟩
      clear stb ssb hbb HY HR1
      go_wp2_with (first | (refine wpList_store_mid (P := Tryz.prog) rfl 35 _ _ rfl bh 0 (hoL (foH z8 (evF 1 6 1 G) [evF 1 5 0 F] 2) s4).toArray rfl rfl (HY2.out.1.h.there 0 _ (by rw [List.size_toArray, hoL_len, hoL_len]; decide)) (sz41A _ _) (hoL_one _ _) ?_; generalize hWn : World.setCells _ bh 0 _ = w10; have HX12 : Hid (foS w1 [.bool F.e, .int .u32 (F.i : Int), .bool F.r, .int .i64 F.d, .slice fa F.l.length fc] [.bool G.e, .int .u32 (G.i : Int), .bool G.r, .int .i64 G.d, .slice ga G.l.length gc] bf bg bh (foH z8 (evF 1 6 1 G) [evF 1 5 0 F] 2) s4 w10) := (by rw [← hWn]; exact HY2.out.1.put HY2.out.2.2.2 HY2.out.2.1 HY2.out.2.2.1); clear hWn) | (refine wpList_load_mid (P := Tryz.prog) rfl 35 _ rfl bh 0 rfl (hoL (foH z8 (evF 1 6 1 G) [evF 1 5 0 F] 2) s4) _ HX12.out.h.load Tryz.underlying35 rfl (sz41L _ _) ?_))
      refine (HB4.out w10 s4 HX12.out.t HX12.out.ss).mono ?_
      rintro o w11 ⟨rfl, hb11⟩
      have HX13 : Hid (foS w1 [.bool F.e, .int .u32 (F.i : Int), .bool F.r, .int .i64 F.d, .slice fa F.l.length fc] [.bool G.e, .int .u32 (G.i : Int), .bool G.r, .int .i64 G.d, .slice ga G.l.length gc] bf bg bh (foH z8 (evF 1 6 1 G) [evF 1 5 0 F] 2) s4 w11) := HX12.out.below hb11
      clear hb11 HX12 HB4 HY2
      go_wp2_with (first | (refine wpList_load_mid (P := Tryz.prog) rfl 35 _ rfl bh 0 rfl (hoL (foH z8 (evF 1 6 1 G) [evF 1 5 0 F] 2) s4) _ HX13.out.h.load Tryz.underlying35 rfl (sz41L _ _) ?_))
      refine (HT2.out w11 s4 HX13.out.t HX13.out.ss).mono ?_
      rintro o w12 ⟨s5, rfl, stb, ssb, hbb⟩
      have HY : Hid (foS w1 [.bool F.e, .int .u32 (F.i : Int), .bool F.r, .int .i64 F.d, .slice fa F.l.length fc] [.bool G.e, .int .u32 (G.i : Int), .bool G.r, .int .i64 G.d, .slice ga G.l.length gc] bf bg bh (foH z8 (evF 1 6 1 G) [evF 1 5 0 F] 2) s4 w12 ∧ isHo w12 (foH z8 (evF 2 6 1 G) [evF 1 5 0 F] 2) s5 ∧ slSome s5) := ⟨HX13.out.below hbb, stb.now, ssb⟩
      clear stb ssb hbb HX13 HT2
      go_wp2_with fail
      refine (HR2.out w12 s5 HY.out.2.1 HY.out.2.2).mono ?_
      rintro o w13 ⟨s6, rfl, stb, ssb, hbb⟩
      have HY2 : Hid (foS w1 [.bool F.e, .int .u32 (F.i : Int), .bool F.r, .int .i64 F.d, .slice fa F.l.length fc] [.bool G.e, .int .u32 (G.i : Int), .bool G.r, .int .i64 G.d, .slice ga G.l.length gc] bf bg bh (foH z8 (evF 1 6 1 G) [evF 1 5 0 F] 2) s4 w13 ∧ St w12.heap.size w13 (fun V => isHo V (foH z8 z8 [evF 1 5 0 F, evF 1 6 0 G] 2) s6) ∧ slSome s6 ∧ bh < w12.heap.size) := ⟨HY.out.1.below hbb, stb, ssb, HY.out.1.h.lt⟩
      clear stb ssb hbb HY HR2
      go_wp2_with (first | (refine wpList_store_mid (P := Tryz.prog) rfl 35 _ _ rfl bh 0 (hoL (foH z8 z8 [evF 1 5 0 F, evF 1 6 0 G] 2) s6).toArray rfl rfl (HY2.out.1.h.there 0 _ (by rw [List.size_toArray, hoL_len, hoL_len]; decide)) (sz41A _ _) (hoL_one _ _) ?_; generalize hWn : World.setCells _ bh 0 _ = w14; have HX14 : Hid (foS w1 [.bool F.e, .int .u32 (F.i : Int), .bool F.r, .int .i64 F.d, .slice fa F.l.length fc] [.bool G.e, .int .u32 (G.i : Int), .bool G.r, .int .i64 G.d, .slice ga G.l.length gc] bf bg bh (foH z8 z8 [evF 1 5 0 F, evF 1 6 0 G] 2) s6 w14) := (by rw [← hWn]; exact HY2.out.1.put HY2.out.2.2.2 HY2.out.2.1 HY2.out.2.2.1); clear hWn) | (refine wpList_load_mid (P := Tryz.prog) rfl 35 _ rfl bh 0 rfl (hoL (foH z8 z8 [evF 1 5 0 F, evF 1 6 0 G] 2) s6) _ HX14.out.h.load Tryz.underlying35 rfl (sz41L _ _) ?_))
      clear HY2
      have HDr : Hid (∀ X s, isHo X (foH z8 z8 [evF 1 5 0 F, evF 1 6 0 G] 2) s → slSome s → Calls Tryz.prog 20 #[.agg (hoL (foH z8 z8 [evF 1 5 0 F, evF 1 6 0 G] 2) s).toArray] X fun o w' => ∃ s' gq c, o = .returned (.tuple #[.agg (hoL (qHo (foH z8 z8 [evF 1 5 0 F, evF 1 6 0 G] 2) []) s').toArray, .slice (some ⟨gq, 0, none⟩) 2 c]) ∧ (∃ ao m k, at8 w' gq 0 (evF 1 5 0 F) ao m k) ∧ (∃ ao m k, at8 w' gq 8 (evF 1 6 0 G) ao m k) ∧ Below X.heap.size X w') := fun X s h1 h2 => (cDrain X _ s HK3.out.2.2.2 h1 h2).mono (by
        rintro o w' ⟨s', a, c, rfl, _, _, hq, hb⟩
        obtain ⟨_, g, rfl, hat⟩ := hq (by simp)
        exact ⟨s', g, c, rfl, hat 0 (by show 0 < 2; decide), hat 1 (by show 1 < 2; decide), hb⟩)
      refine (HDr.out w14 s6 HX14.out.t HX14.out.ss).mono ?_
      rintro o w15 ⟨s7, gq, cq, rfl, ⟨aq, mq, kaq, A1⟩, ⟨ar, mr, kar, A2⟩, hb15⟩
      have em : mq = F.l.length := A1.dat.len
      have er : mr = G.l.length := A2.dat.len
      subst em er
      have HX15 : Hid ((foS w1 [.bool F.e, .int .u32 (F.i : Int), .bool F.r, .int .i64 F.d, .slice fa F.l.length fc] [.bool G.e, .int .u32 (G.i : Int), .bool G.r, .int .i64 G.d, .slice ga G.l.length gc] bf bg bh (foH z8 z8 [evF 1 5 0 F, evF 1 6 0 G] 2) s6 w15 ∧ at8 w15 gq 0 (evF 1 5 0 F) aq F.l.length kaq ∧ at8 w15 gq 8 (evF 1 6 0 G) ar G.l.length kar)) := ⟨HX14.out.below hb15, A1, A2⟩
      clear A1 A2 hb15 HX14 HDr
      have HN5a : Hid (blk (World.setCells (w15.alloc (.cells [.int .i64 0, .int .i64 0, .int .i64 0, .int .i64 0, .slice none 0 0, .slice none 0 0, .slice none 0 0, .slice none 0 0, .int .i64 0, .int .i64 0].toArray 35)) w15.heap.size 0 (hoL (qHo (foH z8 z8 [evF 1 5 0 F, evF 1 6 0 G] 2) []) s7)) w15.heap.size (hoL (qHo (foH z8 z8 [evF 1 5 0 F, evF 1 6 0 G] 2) []) s7) 35 ∧ Below w15.heap.size w15 (World.setCells (w15.alloc (.cells [.int .i64 0, .int .i64 0, .int .i64 0, .int .i64 0, .slice none 0 0, .slice none 0 0, .slice none 0 0, .slice none 0 0, .int .i64 0, .int .i64 0].toArray 35)) w15.heap.size 0 (hoL (qHo (foH z8 z8 [evF 1 5 0 F, evF 1 6 0 G] 2) []) s7))) := new_hostS _ (hoL_len _ _)
      have HN5b : Hid (blk (w15.alloc (.cells [.int .i64 0, .int .i64 0, .int .i64 0, .int .i64 0, .slice none 0 0, .slice none 0 0, .slice none 0 0, .slice none 0 0, .int .i64 0, .int .i64 0].toArray 35)) w15.heap.size [.int .i64 0, .int .i64 0, .int .i64 0, .int .i64 0, .slice none 0 0, .slice none 0 0, .slice none 0 0, .slice none 0 0, .int .i64 0, .int .i64 0] 35) := blk.new w15 _ 35
      go_wp2_with (first
        | (refine wpList_store_mid (P := Tryz.prog) rfl 35 _ _ rfl w15.heap.size 0 (hoL (qHo (foH z8 z8 [evF 1 5 0 F, evF 1 6 0 G] 2) []) s7).toArray rfl rfl (HN5b.out.there 0 _ (by rw [List.size_toArray, hoL_len]; decide)) (sz41A _ _) (hoL_one _ _) ?_; generalize hWn : World.setCells _ w15.heap.size 0 _ = w16; have HX16 : Hid ((foS w1 [.bool F.e, .int .u32 (F.i : Int), .bool F.r, .int .i64 F.d, .slice fa F.l.length fc] [.bool G.e, .int .u32 (G.i : Int), .bool G.r, .int .i64 G.d, .slice ga G.l.length gc] bf bg bh (foH z8 z8 [evF 1 5 0 F, evF 1 6 0 G] 2) s6 w16 ∧ at8 w16 gq 0 (evF 1 5 0 F) aq F.l.length kaq ∧ at8 w16 gq 8 (evF 1 6 0 G) ar G.l.length kar)) := (by rw [← hWn]; exact ⟨HX15.out.1.below HN5a.out.2, HX15.out.2.1.below HN5a.out.2, HX15.out.2.2.below HN5a.out.2⟩); clear hWn HN5a HN5b HX15; have y1 : w16.cell? ⟨gq, 1, none⟩ = some (.int .i64 5) := HX16.out.2.1.c1; have y9 : w16.cell? ⟨gq, 9, none⟩ = some (.int .i64 6) := HX16.out.2.2.c1)
        | (refine wpList_load_midG (by first | rfl | (simp [Region.wanted, yielded]; done) | (simp [Region.wanted, yielded]; omega)) 35 _ rfl bh 0 rfl (hoL (foH z8 z8 [evF 1 5 0 F, evF 1 6 0 G] 2) s6) _ HX16.out.1.h.load Tryz.underlying35 rfl (sz41L _ _) ?_))
      refine (HB6.out w16 s6 HX16.out.1.t HX16.out.1.ss).mono ?_
      rintro o w17 ⟨rfl, hb17⟩
      have HX17 : Hid ((foS w1 [.bool F.e, .int .u32 (F.i : Int), .bool F.r, .int .i64 F.d, .slice fa F.l.length fc] [.bool G.e, .int .u32 (G.i : Int), .bool G.r, .int .i64 G.d, .slice ga G.l.length gc] bf bg bh (foH z8 z8 [evF 1 5 0 F, evF 1 6 0 G] 2) s6 w17 ∧ at8 w17 gq 0 (evF 1 5 0 F) aq F.l.length kaq ∧ at8 w17 gq 8 (evF 1 6 0 G) ar G.l.length kar)) := ⟨HX16.out.1.below hb17, HX16.out.2.1.below hb17, HX16.out.2.2.below hb17⟩
      clear hb17 HX16 HB6 y1 y9
      go_wp2_with (first
        | (refine wpList_load_mid (P := Tryz.prog) rfl 25 _ rfl bf 0 rfl [.bool F.e, .int .u32 (F.i : Int), .bool F.r, .int .i64 F.d, .slice fa F.l.length fc] _ HX17.out.1.f.load Tryz.underlying25 rfl sz93 ?_)
        | (refine wpList_store_mid (P := Tryz.prog) rfl 25 _ _ rfl w17.heap.size 0 [.bool F.e, .int .u32 (F.i : Int), .bool F.r, .int .i64 F.d, .slice fa F.l.length fc].toArray rfl rfl ((blk.new w17 [.bool false, .int .u32 0, .bool false, .int .i64 0, .slice none 0 0] 25).there 0 5 (by simp)) sz93 (all_oneCell_toArray (by simp [Value.oneCell'])) ?_; generalize hWn : World.setCells _ w17.heap.size 0 _ = w18; have HX18 : Hid ((foS w1 [.bool F.e, .int .u32 (F.i : Int), .bool F.r, .int .i64 F.d, .slice fa F.l.length fc] [.bool G.e, .int .u32 (G.i : Int), .bool G.r, .int .i64 G.d, .slice ga G.l.length gc] bf bg bh (foH z8 z8 [evF 1 5 0 F, evF 1 6 0 G] 2) s6 w18 ∧ at8 w18 gq 0 (evF 1 5 0 F) aq F.l.length kaq ∧ at8 w18 gq 8 (evF 1 6 0 G) ar G.l.length kar) ∧ blk w18 w17.heap.size [.bool F.e, .int .u32 (F.i : Int), .bool F.r, .int .i64 F.d, .slice fa F.l.length fc] 25) := (by rw [← hWn]; have hbn : Below w17.heap.size w17 (World.setCells (w17.alloc (.cells [.bool false, .int .u32 0, .bool false, .int .i64 0, .slice none 0 0].toArray 25)) w17.heap.size 0 [.bool F.e, .int .u32 (F.i : Int), .bool F.r, .int .i64 F.d, .slice fa F.l.length fc]) := setCells_below (Nat.le_refl _) 0 _ ((Below.refl _ _).alloc (Nat.le_refl _) _); exact ⟨⟨HX17.out.1.below hbn, HX17.out.2.1.below hbn, HX17.out.2.2.below hbn⟩, put25 (blk.new w17 [.bool false, .int .u32 0, .bool false, .int .i64 0, .slice none 0 0] 25) rfl⟩); clear hWn)
        | (refine wpList_load_mid (P := Tryz.prog) rfl 25 _ rfl bg 0 rfl [.bool G.e, .int .u32 (G.i : Int), .bool G.r, .int .i64 G.d, .slice ga G.l.length gc] _ HX18.out.1.1.g.load Tryz.underlying25 rfl sz93 ?_)
        | (refine wpList_store_mid (P := Tryz.prog) rfl 25 _ _ rfl w18.heap.size 0 [.bool G.e, .int .u32 (G.i : Int), .bool G.r, .int .i64 G.d, .slice ga G.l.length gc].toArray rfl rfl ((blk.new w18 [.bool false, .int .u32 0, .bool false, .int .i64 0, .slice none 0 0] 25).there 0 5 (by simp)) sz93 (all_oneCell_toArray (by simp [Value.oneCell'])) ?_; generalize hWn : World.setCells _ w18.heap.size 0 _ = w19; have HX19 : Hid ((foS w1 [.bool F.e, .int .u32 (F.i : Int), .bool F.r, .int .i64 F.d, .slice fa F.l.length fc] [.bool G.e, .int .u32 (G.i : Int), .bool G.r, .int .i64 G.d, .slice ga G.l.length gc] bf bg bh (foH z8 z8 [evF 1 5 0 F, evF 1 6 0 G] 2) s6 w19 ∧ at8 w19 gq 0 (evF 1 5 0 F) aq F.l.length kaq ∧ at8 w19 gq 8 (evF 1 6 0 G) ar G.l.length kar) ∧ blk w19 w17.heap.size [.bool F.e, .int .u32 (F.i : Int), .bool F.r, .int .i64 F.d, .slice fa F.l.length fc] 25 ∧ blk w19 w18.heap.size [.bool G.e, .int .u32 (G.i : Int), .bool G.r, .int .i64 G.d, .slice ga G.l.length gc] 25 ∧ w17.heap.size < w18.heap.size) := (by rw [← hWn]; have hbn : Below w18.heap.size w18 (World.setCells (w18.alloc (.cells [.bool false, .int .u32 0, .bool false, .int .i64 0, .slice none 0 0].toArray 25)) w18.heap.size 0 [.bool G.e, .int .u32 (G.i : Int), .bool G.r, .int .i64 G.d, .slice ga G.l.length gc]) := setCells_below (Nat.le_refl _) 0 _ ((Below.refl _ _).alloc (Nat.le_refl _) _); exact ⟨⟨HX18.out.1.1.below hbn, HX18.out.1.2.1.below hbn, HX18.out.1.2.2.below hbn⟩, HX18.out.2.below hbn, put25 (blk.new w18 [.bool false, .int .u32 0, .bool false, .int .i64 0, .slice none 0 0] 25) rfl, HX18.out.2.lt⟩); clear hWn))
      have HXY : Hid (((foS w1 [.bool F.e, .int .u32 (F.i : Int), .bool F.r, .int .i64 F.d, .slice fa F.l.length fc] [.bool G.e, .int .u32 (G.i : Int), .bool G.r, .int .i64 G.d, .slice ga G.l.length gc] bf bg bh (foH z8 z8 [evF 1 5 0 F, evF 1 6 0 G] 2) s6 w19 ∧ at8 w19 gq 0 (evF 1 5 0 F) aq F.l.length kaq ∧ at8 w19 gq 8 (evF 1 6 0 G) ar G.l.length kar)) ∧ blk w19 w17.heap.size [.bool F.e, .int .u32 (F.i : Int), .bool F.r, .int .i64 F.d, .slice fa F.l.length fc] 25 ∧ blk w19 w18.heap.size [.bool G.e, .int .u32 (G.i : Int), .bool G.r, .int .i64 G.d, .slice ga G.l.length gc] 25) := ⟨HX19.out.1, HX19.out.2.1, HX19.out.2.2.1⟩
      clear HX17 HX18 HX19
      generalize w19 = w21 at *
      generalize w17.heap.size = bx at *
      generalize w18.heap.size = by_ at *
      have HW1 : Hid (∀ W, ((foS w1 [.bool F.e, .int .u32 (F.i : Int), .bool F.r, .int .i64 F.d, .slice fa F.l.length fc] [.bool G.e, .int .u32 (G.i : Int), .bool G.r, .int .i64 G.d, .slice ga G.l.length gc] bf bg bh (foH z8 z8 [evF 1 5 0 F, evF 1 6 0 G] 2) s6 W ∧ at8 W gq 0 (evF 1 5 0 F) aq F.l.length kaq ∧ at8 W gq 8 (evF 1 6 0 G) ar G.l.length kar)) ∧ blk W bx [.bool F.e, .int .u32 (F.i : Int), .bool F.r, .int .i64 F.d, .slice fa F.l.length fc] 25 ∧ blk W by_ [.bool G.e, .int .u32 (G.i : Int), .bool G.r, .int .i64 G.d, .slice ga G.l.length gc] 25 → Calls Tryz.prog 21 #[frV F.e F.i F.r F.d aq F.l.length kaq, frV F.e F.i F.r F.d fa F.l.length fc] W fun o w' => o = .returned (.bool true) ∧ Below W.heap.size W w') := fun W hW => wFrame_same W _ _ _ _ _ _ _ _ hW.1.2.1.dat _ _ (HDF.out.1.below hW.1.1.b) HL.out.1
      have HW2 : Hid (∀ W, ((foS w1 [.bool F.e, .int .u32 (F.i : Int), .bool F.r, .int .i64 F.d, .slice fa F.l.length fc] [.bool G.e, .int .u32 (G.i : Int), .bool G.r, .int .i64 G.d, .slice ga G.l.length gc] bf bg bh (foH z8 z8 [evF 1 5 0 F, evF 1 6 0 G] 2) s6 W ∧ at8 W gq 0 (evF 1 5 0 F) aq F.l.length kaq ∧ at8 W gq 8 (evF 1 6 0 G) ar G.l.length kar)) ∧ blk W bx [.bool F.e, .int .u32 (F.i : Int), .bool F.r, .int .i64 F.d, .slice fa F.l.length fc] 25 ∧ blk W by_ [.bool G.e, .int .u32 (G.i : Int), .bool G.r, .int .i64 G.d, .slice ga G.l.length gc] 25 → Calls Tryz.prog 21 #[frV G.e G.i G.r G.d ar G.l.length kar, frV G.e G.i G.r G.d ga G.l.length gc] W fun o w' => o = .returned (.bool true) ∧ Below W.heap.size W w') := fun W hW => wFrame_same W _ _ _ _ _ _ _ _ hW.1.2.2.dat _ _ (HDF.out.2.below hW.1.1.b) HL.out.2
      refine wp_region_held (S := fun X => ((foS w1 [.bool F.e, .int .u32 (F.i : Int), .bool F.r, .int .i64 F.d, .slice fa F.l.length fc] [.bool G.e, .int .u32 (G.i : Int), .bool G.r, .int .i64 G.d, .slice ga G.l.length gc] bf bg bh (foH z8 z8 [evF 1 5 0 F, evF 1 6 0 G] 2) s6 X ∧ at8 X gq 0 (evF 1 5 0 F) aq F.l.length kaq ∧ at8 X gq 8 (evF 1 6 0 G) ar G.l.length kar)) ∧ blk X bx [.bool F.e, .int .u32 (F.i : Int), .bool F.r, .int .i64 F.d, .slice fa F.l.length fc] 25 ∧ blk X by_ [.bool G.e, .int .u32 (G.i : Int), .bool G.r, .int .i64 G.d, .slice ga G.l.length gc] 25) (by kernel_rfl) ?_
      have hbd : Below w21.heap.size w21 (World.drew w21) := (Below.refl _ _).drew
      have hS : ((foS w1 [.bool F.e, .int .u32 (F.i : Int), .bool F.r, .int .i64 F.d, .slice fa F.l.length fc] [.bool G.e, .int .u32 (G.i : Int), .bool G.r, .int .i64 G.d, .slice ga G.l.length gc] bf bg bh (foH z8 z8 [evF 1 5 0 F, evF 1 6 0 G] 2) s6 (World.drew w21) ∧ at8 (World.drew w21) gq 0 (evF 1 5 0 F) aq F.l.length kaq ∧ at8 (World.drew w21) gq 8 (evF 1 6 0 G) ar G.l.length kar)) ∧ blk (World.drew w21) bx [.bool F.e, .int .u32 (F.i : Int), .bool F.r, .int .i64 F.d, .slice fa F.l.length fc] 25 ∧ blk (World.drew w21) by_ [.bool G.e, .int .u32 (G.i : Int), .bool G.r, .int .i64 G.d, .slice ga G.l.length gc] 25 := ⟨⟨HXY.out.1.1.below hbd, HXY.out.1.2.1.below hbd, HXY.out.1.2.2.below hbd⟩, HXY.out.2.1.below hbd, HXY.out.2.2.below hbd⟩
      clear hbd HXY
      change wpAnyH Tryz.prog _ _ _ _ _ _ _ (World.drew w21)
      generalize World.drew w21 = u0 at *
      refine wpAnyH_take (i := 0) (v := .slice (some ⟨gq, 0, none⟩) 2 cq) rfl (by kernel_rfl) (by kernel_rfl) (by kernel_rfl) (fun _ _ _ h => h) (Or.inl ⟨by rfl, ?_⟩) hS ?_
      · intro W hSw
        clear hS
        go_simp
      simp only [Act.put, liA, liB, liC, liD, liE]
      refine wpAnyH_take (i := 1) (v := .pointer (some ⟨gq, 0, none⟩)) rfl (by kernel_rfl) (by kernel_rfl) (by kernel_rfl) (fun _ _ _ h => h) (Or.inl ⟨by rfl, ?_⟩) hS ?_
      · intro W hSw
        clear hS
        go_simp
      simp only [Act.put, liA, liB, liC, liD, liE, liF]
      refine wpAnyH_take (i := 2) (v := .pointer (some ⟨gq, 0, none⟩)) rfl (by kernel_rfl) (by kernel_rfl) (by kernel_rfl) (fun _ _ _ h => h) (Or.inl ⟨by rfl, ?_⟩) hS ?_
      · intro W hSw
        clear hS
        go_simp
      simp only [Act.put, liA, liB, liC, liD, liE, liF]
      refine wpAnyH_take (i := 3) (v := .int .i64 1) rfl (by kernel_rfl) (by kernel_rfl) (by kernel_rfl) (fun _ _ _ h => h) (Or.inl ⟨by rfl, ?_⟩) hS ?_
      · intro W hSw
        clear hS
        have y0 : W.cell? ⟨gq, 0, none⟩ = some (.int .i64 1) := hSw.1.2.1.c0
        go_simp
      simp only [Act.put, liA, liB, liC, liD, liE, liF]
      refine wpAnyH_take (i := 4) (v := .bool true) rfl (by kernel_rfl) (by kernel_rfl) (by kernel_rfl) (fun _ _ _ h => h) (Or.inl ⟨by rfl, ?_⟩) hS ?_
      · intro W hSw
        clear hS
        go_simp
      simp only [Act.put, liA, liB, liC, liD, liE, liF]
      refine wpAnyH_take (i := 5) (v := .bool true) rfl (by kernel_rfl) (by kernel_rfl) (by kernel_rfl) (fun _ _ _ h => h) (Or.inl ⟨by rfl, ?_⟩) hS ?_
      · intro W hSw
        clear hS
        go_simp
      simp only [Act.put, liA, liB, liC, liD, liE, liF]
      refine wpAnyH_take (i := 6) (v := .slice (some ⟨gq, 0, none⟩) 2 cq) rfl (by kernel_rfl) (by kernel_rfl) (by kernel_rfl) (fun _ _ _ h => h) (Or.inl ⟨by rfl, ?_⟩) hS ?_
      · intro W hSw
        clear hS
        go_simp
      simp only [Act.put, liA, liB, liC, liD, liE, liF]
      refine wpAnyH_take (i := 7) (v := .pointer (some ⟨gq, 8, none⟩)) rfl (by kernel_rfl) (by kernel_rfl) (by kernel_rfl) (fun _ _ _ h => h) (Or.inl ⟨by rfl, ?_⟩) hS ?_
      · intro W hSw
        clear hS
        go_simp
      simp only [Act.put, liA, liB, liC, liD, liE, liF]
      refine wpAnyH_take (i := 8) (v := .pointer (some ⟨gq, 8, none⟩)) rfl (by kernel_rfl) (by kernel_rfl) (by kernel_rfl) (fun _ _ _ h => h) (Or.inl ⟨by rfl, ?_⟩) hS ?_
      · intro W hSw
        clear hS
        go_simp
      simp only [Act.put, liA, liB, liC, liD, liE, liF]
      refine wpAnyH_take (i := 9) (v := .int .i64 1) rfl (by kernel_rfl) (by kernel_rfl) (by kernel_rfl) (fun _ _ _ h => h) (Or.inl ⟨by rfl, ?_⟩) hS ?_
      · intro W hSw
        clear hS
        have y0 : W.cell? ⟨gq, 8, none⟩ = some (.int .i64 1) := hSw.1.2.2.c0
        go_simp
      simp only [Act.put, liA, liB, liC, liD, liE, liF]
      refine wpAnyH_take (i := 10) (v := .bool true) rfl (by kernel_rfl) (by kernel_rfl) (by kernel_rfl) (fun _ _ _ h => h) (Or.inl ⟨by rfl, ?_⟩) hS ?_
      · intro W hSw
        clear hS
        go_simp
      simp only [Act.put, liA, liB, liC, liD, liE, liF]
      refine wpAnyH_take (i := 11) (v := .bool true) rfl (by kernel_rfl) (by kernel_rfl) (by kernel_rfl) (fun _ _ _ h => h) (Or.inl ⟨by rfl, ?_⟩) hS ?_
      · intro W hSw
        clear hS
        go_simp
      simp only [Act.put, liA, liB, liC, liD, liE, liF]
      refine wpAnyH_take (i := 12) (v := .bool true) rfl (by kernel_rfl) (by kernel_rfl) (by kernel_rfl) (fun _ _ _ h => h) (Or.inl ⟨by rfl, ?_⟩) hS ?_
      · intro W hSw
        clear hS
        go_simp
      simp only [Act.put, liA, liB, liC, liD, liE, liF]
      refine wpAnyH_take (i := 13) (v := .slice (some ⟨gq, 0, none⟩) 2 cq) rfl (by kernel_rfl) (by kernel_rfl) (by kernel_rfl) (fun _ _ _ h => h) (Or.inl ⟨by rfl, ?_⟩) hS ?_
      · intro W hSw
        clear hS
        go_simp
      simp only [Act.put, liA, liB, liC, liD, liE, liF]
      refine wpAnyH_take (i := 14) (v := .pointer (some ⟨gq, 0, none⟩)) rfl (by kernel_rfl) (by kernel_rfl) (by kernel_rfl) (fun _ _ _ h => h) (Or.inl ⟨by rfl, ?_⟩) hS ?_
      · intro W hSw
        clear hS
        go_simp
      simp only [Act.put, liA, liB, liC, liD, liE, liF]
      refine wpAnyH_take (i := 15) (v := .pointer (some ⟨gq, 3, none⟩)) rfl (by kernel_rfl) (by kernel_rfl) (by kernel_rfl) (fun _ _ _ h => h) (Or.inl ⟨by rfl, ?_⟩) hS ?_
      · intro W hSw
        clear hS
        go_simp
      simp only [Act.put, liA, liB, liC, liD, liE, liF]
      refine wpAnyH_take (i := 16) (v := .agg [.bool F.e, .int .u32 (F.i : Int), .bool F.r, .int .i64 F.d, .slice aq F.l.length kaq].toArray) rfl (by kernel_rfl) (by kernel_rfl) (by kernel_rfl) (fun _ _ _ h => h) (yieldsIf_load_mid (by rfl) 25 _ rfl gq 3 rfl [.bool F.e, .int .u32 (F.i : Int), .bool F.r, .int .i64 F.d, .slice aq F.l.length kaq] _ (fun X h => h.1.2.1.frame) Tryz.underlying25 rfl sz93) hS ?_
      simp only [Act.put, liA, liB, liC, liD, liE, liF]
      refine wpAnyH_take (i := 17) (v := .agg [.bool F.e, .int .u32 (F.i : Int), .bool F.r, .int .i64 F.d, .slice fa F.l.length fc].toArray) rfl (by kernel_rfl) (by kernel_rfl) (by kernel_rfl) (fun _ _ _ h => h) (yieldsIf_load_mid (by rfl) 25 _ rfl bx 0 rfl [.bool F.e, .int .u32 (F.i : Int), .bool F.r, .int .i64 F.d, .slice fa F.l.length fc] _ (fun X h => h.2.1.load) Tryz.underlying25 rfl sz93) hS ?_
      simp only [Act.put, liA, liB, liC, liD, liE, liF]
      refine wpAnyH_all (rs := [18]) (by kernel_rfl) (by simp) ?_
      refine AllReadyH.cons rfl (fun K2 hK2 => ?_) AllReadyH.nil
      go_simp
      refine (HW1.out u0 hS).mono ?_
      rintro o u1 ⟨rfl, hb⟩
      have hS5 : ((foS w1 [.bool F.e, .int .u32 (F.i : Int), .bool F.r, .int .i64 F.d, .slice fa F.l.length fc] [.bool G.e, .int .u32 (G.i : Int), .bool G.r, .int .i64 G.d, .slice ga G.l.length gc] bf bg bh (foH z8 z8 [evF 1 5 0 F, evF 1 6 0 G] 2) s6 u1 ∧ at8 u1 gq 0 (evF 1 5 0 F) aq F.l.length kaq ∧ at8 u1 gq 8 (evF 1 6 0 G) ar G.l.length kar)) ∧ blk u1 bx [.bool F.e, .int .u32 (F.i : Int), .bool F.r, .int .i64 F.d, .slice fa F.l.length fc] 25 ∧ blk u1 by_ [.bool G.e, .int .u32 (G.i : Int), .bool G.r, .int .i64 G.d, .slice ga G.l.length gc] 25 := ⟨⟨hS.1.1.below hb, hS.1.2.1.below hb, hS.1.2.2.below hb⟩, hS.2.1.below hb, hS.2.2.below hb⟩
      clear hb
      go_wp2_with fail
      refine hK2.out _ _ hS5 (fun hS2 => ?_)
      clear hK2 K2 hS hS5
      have hS := hS2
      clear hS2
      refine wpAnyH_take (i := 19) (v := .bool true) rfl (by kernel_rfl) (by kernel_rfl) (by kernel_rfl) (fun _ _ _ h => h) (Or.inl ⟨by rfl, ?_⟩) hS ?_
      · intro W hSw
        clear hS
        go_simp
      simp only [Act.put, liA, liB, liC, liD, liE, liF]
      refine wpAnyH_take (i := 20) (v := .bool true) rfl (by kernel_rfl) (by kernel_rfl) (by kernel_rfl) (fun _ _ _ h => h) (Or.inl ⟨by rfl, ?_⟩) hS ?_
      · intro W hSw
        clear hS
        go_simp
      simp only [Act.put, liA, liB, liC, liD, liE, liF]
      refine wpAnyH_take (i := 21) (v := .slice (some ⟨gq, 0, none⟩) 2 cq) rfl (by kernel_rfl) (by kernel_rfl) (by kernel_rfl) (fun _ _ _ h => h) (Or.inl ⟨by rfl, ?_⟩) hS ?_
      · intro W hSw
        clear hS
        go_simp
      simp only [Act.put, liA, liB, liC, liD, liE, liF]
      refine wpAnyH_take (i := 22) (v := .pointer (some ⟨gq, 8, none⟩)) rfl (by kernel_rfl) (by kernel_rfl) (by kernel_rfl) (fun _ _ _ h => h) (Or.inl ⟨by rfl, ?_⟩) hS ?_
      · intro W hSw
        clear hS
        go_simp
      simp only [Act.put, liA, liB, liC, liD, liE, liF]
      refine wpAnyH_take (i := 23) (v := .pointer (some ⟨gq, 11, none⟩)) rfl (by kernel_rfl) (by kernel_rfl) (by kernel_rfl) (fun _ _ _ h => h) (Or.inl ⟨by rfl, ?_⟩) hS ?_
      · intro W hSw
        clear hS
        go_simp
      simp only [Act.put, liA, liB, liC, liD, liE, liF]
      refine wpAnyH_take (i := 24) (v := .agg [.bool G.e, .int .u32 (G.i : Int), .bool G.r, .int .i64 G.d, .slice ar G.l.length kar].toArray) rfl (by kernel_rfl) (by kernel_rfl) (by kernel_rfl) (fun _ _ _ h => h) (yieldsIf_load_mid (by rfl) 25 _ rfl gq 11 rfl [.bool G.e, .int .u32 (G.i : Int), .bool G.r, .int .i64 G.d, .slice ar G.l.length kar] _ (fun X h => h.1.2.2.frame) Tryz.underlying25 rfl sz93) hS ?_
      simp only [Act.put, liA, liB, liC, liD, liE, liF]
      refine wpAnyH_take (i := 25) (v := .agg [.bool G.e, .int .u32 (G.i : Int), .bool G.r, .int .i64 G.d, .slice ga G.l.length gc].toArray) rfl (by kernel_rfl) (by kernel_rfl) (by kernel_rfl) (fun _ _ _ h => h) (yieldsIf_load_mid (by rfl) 25 _ rfl by_ 0 rfl [.bool G.e, .int .u32 (G.i : Int), .bool G.r, .int .i64 G.d, .slice ga G.l.length gc] _ (fun X h => h.2.2.load) Tryz.underlying25 rfl sz93) hS ?_
      simp only [Act.put, liA, liB, liC, liD, liE, liF]
      refine wpAnyH_all (rs := [26]) (by kernel_rfl) (by simp) ?_
      refine AllReadyH.cons rfl (fun K2 hK2 => ?_) AllReadyH.nil
      go_simp
      refine (HW2.out u1 hS).mono ?_
      rintro o u2 ⟨rfl, hb⟩
      have hS5 : ((foS w1 [.bool F.e, .int .u32 (F.i : Int), .bool F.r, .int .i64 F.d, .slice fa F.l.length fc] [.bool G.e, .int .u32 (G.i : Int), .bool G.r, .int .i64 G.d, .slice ga G.l.length gc] bf bg bh (foH z8 z8 [evF 1 5 0 F, evF 1 6 0 G] 2) s6 u2 ∧ at8 u2 gq 0 (evF 1 5 0 F) aq F.l.length kaq ∧ at8 u2 gq 8 (evF 1 6 0 G) ar G.l.length kar)) ∧ blk u2 bx [.bool F.e, .int .u32 (F.i : Int), .bool F.r, .int .i64 F.d, .slice fa F.l.length fc] 25 ∧ blk u2 by_ [.bool G.e, .int .u32 (G.i : Int), .bool G.r, .int .i64 G.d, .slice ga G.l.length gc] 25 := ⟨⟨hS.1.1.below hb, hS.1.2.1.below hb, hS.1.2.2.below hb⟩, hS.2.1.below hb, hS.2.2.below hb⟩
      clear hb
      go_wp2_with fail
      refine hK2.out _ _ hS5 (fun hS2 => ?_)
      clear hK2 K2 hS hS5
      have hS := hS2
      clear hS2
      refine wpAnyH_take (i := 27) (v := .bool true) rfl (by kernel_rfl) (by kernel_rfl) (by kernel_rfl) (fun _ _ _ h => h) (Or.inl ⟨by rfl, ?_⟩) hS ?_
      · intro W hSw
        clear hS
        go_simp
      simp only [Act.put, liA, liB, liC, liD, liE, liF]
      refine wpAnyH_all (rs := [28]) (by kernel_rfl) (by simp) ?_
      refine AllReadyH.cons rfl (fun K2 hK2 => ?_) AllReadyH.nil
      go_simp
      refine hK2.out _ _ hS (fun hS2 => ?_)
      clear hK2 K2 hS2
      refine wpAnyH_done (by kernel_rfl) ?_ _
      have HE : Hid (Below w.heap.size w u2) := HB1.out.trans (hS.1.1.b.mono HB1.out.size)
      clear hS
      go_wp2_with fail
      go_ret
      exact ⟨rfl, HE.out⟩
    | true =>
      have HK3 : Hid (okHo (foH (evF 1 5 0 F) (evF 2 6 1 G) [] 2) ∧ okHo (foH (evF 1 5 0 F) z8 [evF 1 6 0 G] 2) ∧ okHo (foH (evF 2 5 0 F) z8 [evF 1 6 0 G] 2) ∧ okHo (foH z8 z8 [evF 1 6 0 G, evF 1 5 0 F] 2)) := by
        have h3 := HO2.out.2.2.take 1
        rw [fo_take1 (Or.inr rfl)] at h3
        have h4' := h3.rel true
        rw [fo_rel1 (Or.inr rfl) (by decide)] at h4'
        have h4 : okHo (foH (evF 1 5 0 F) z8 [evF 1 6 0 G] 2) := h4'
        have h5 : okHo (foH (evF 2 5 0 F) z8 [evF 1 6 0 G] 2) := by
          have := h4.take 0
          have e : takeHo (foH (evF 1 5 0 F) z8 [evF 1 6 0 G] 2) 0 = (foH (evF 2 5 0 F) z8 [evF 1 6 0 G] 2) := fo_take0 (Or.inl rfl)
          rw [e] at this
          exact this
        have h6 := h5.rel true
        rw [fo_rel0 (by show (1 : Int) < 2; decide)] at h6
        exact ⟨h3, h4, h5, h6⟩
      have HB2 : Hid (∀ X s, isHo X (foH (evF 1 5 0 F) (evF 1 6 1 G) [] 2) s → slSome s → Calls Tryz.prog 17 #[.agg (hoL (foH (evF 1 5 0 F) (evF 1 6 1 G) [] 2) s).toArray] X fun o w' => o = .returned (.int .i64 1) ∧ Below X.heap.size X w') := fun X s h1 h2 => (cBest X _ s HO2.out.2.2 h1 h2).mono (by rintro o w' ⟨r, rfl, hr, hb⟩; exact ⟨by rw [bestR_one hr (fo_best1 hless)], hb⟩)
      have HB4 : Hid (∀ X s, isHo X (foH (evF 1 5 0 F) z8 [evF 1 6 0 G] 2) s → slSome s → Calls Tryz.prog 17 #[.agg (hoL (foH (evF 1 5 0 F) z8 [evF 1 6 0 G] 2) s).toArray] X fun o w' => o = .returned (.int .i64 0) ∧ Below X.heap.size X w') := fun X s h1 h2 => (cBest X _ s HK3.out.2.1 h1 h2).mono (by rintro o w' ⟨r, rfl, hr, hb⟩; exact ⟨by rw [bestR_one hr fo_bestL], hb⟩)
      have HB6 : Hid (∀ X s, isHo X (foH z8 z8 [evF 1 6 0 G, evF 1 5 0 F] 2) s → slSome s → Calls Tryz.prog 17 #[.agg (hoL (foH z8 z8 [evF 1 6 0 G, evF 1 5 0 F] 2) s).toArray] X fun o w' => o = .returned (.int .i64 (-1)) ∧ Below X.heap.size X w') := fun X s h1 h2 => (cBest X _ s HK3.out.2.2.2 h1 h2).mono (by rintro o w' ⟨r, rfl, hr, hb⟩; exact ⟨by rw [bestR_one hr fo_bestN], hb⟩)
      have HT1 : Hid (∀ X s, isHo X (foH (evF 1 5 0 F) (evF 1 6 1 G) [] 2) s → slSome s → Calls Tryz.prog 19 #[.agg (hoL (foH (evF 1 5 0 F) (evF 1 6 1 G) [] 2) s).toArray, .int .i64 1] X (hostQ X (foH (evF 1 5 0 F) (evF 2 6 1 G) [] 2))) := fun X s h1 h2 => by
        have := cTake X _ s 1 HO2.out.2.2 h1 h2
        rw [fo_take1 (Or.inr rfl)] at this
        exact this
      have HR1 : Hid (∀ X s, isHo X (foH (evF 1 5 0 F) (evF 2 6 1 G) [] 2) s → slSome s → Calls Tryz.prog 18 #[.agg (hoL (foH (evF 1 5 0 F) (evF 2 6 1 G) [] 2) s).toArray, .bool true] X (hostQ X (foH (evF 1 5 0 F) z8 [evF 1 6 0 G] 2))) := fun X s h1 h2 => by
        have := cRel X _ s true HK3.out.1 h1 h2
        rw [fo_rel1 (Or.inr rfl) (by decide)] at this
        exact this
      have HT2 : Hid (∀ X s, isHo X (foH (evF 1 5 0 F) z8 [evF 1 6 0 G] 2) s → slSome s → Calls Tryz.prog 19 #[.agg (hoL (foH (evF 1 5 0 F) z8 [evF 1 6 0 G] 2) s).toArray, .int .i64 0] X (hostQ X (foH (evF 2 5 0 F) z8 [evF 1 6 0 G] 2))) := fun X s h1 h2 => by
        have := cTake X _ s 0 HK3.out.2.1 h1 h2
        have e : takeHo (foH (evF 1 5 0 F) z8 [evF 1 6 0 G] 2) 0 = (foH (evF 2 5 0 F) z8 [evF 1 6 0 G] 2) := fo_take0 (Or.inl rfl)
        rw [e] at this
        exact this
      have HR2 : Hid (∀ X s, isHo X (foH (evF 2 5 0 F) z8 [evF 1 6 0 G] 2) s → slSome s → Calls Tryz.prog 18 #[.agg (hoL (foH (evF 2 5 0 F) z8 [evF 1 6 0 G] 2) s).toArray, .bool true] X (hostQ X (foH z8 z8 [evF 1 6 0 G, evF 1 5 0 F] 2))) := fun X s h1 h2 => by
        have := cRel X _ s true HK3.out.2.2.1 h1 h2
        rw [fo_rel0 (by show (1 : Int) < 2; decide)] at this
        exact this
      refine wp_region_held (S := fun X => foS w1 [.bool F.e, .int .u32 (F.i : Int), .bool F.r, .int .i64 F.d, .slice fa F.l.length fc] [.bool G.e, .int .u32 (G.i : Int), .bool G.r, .int .i64 G.d, .slice ga G.l.length gc] bf bg bh (foH (evF 1 5 0 F) (evF 1 6 1 G) [] 2) s2 X) (by kernel_rfl) ?_
      have hS : foS w1 [.bool F.e, .int .u32 (F.i : Int), .bool F.r, .int .i64 F.d, .slice fa F.l.length fc] [.bool G.e, .int .u32 (G.i : Int), .bool G.r, .int .i64 G.d, .slice ga G.l.length gc] bf bg bh (foH (evF 1 5 0 F) (evF 1 6 1 G) [] 2) s2 (World.drew w6) := HX9.out.below (Below.refl _ _).drew
      clear HX9
      change wpAnyH Tryz.prog _ _ _ _ _ _ _ (World.drew w6)
      generalize World.drew w6 = v3 at *
      refine wpAnyH_take (i := 0) (v := .agg [.bool G.e, .int .u32 (G.i : Int), .bool G.r, .int .i64 G.d, .slice ga G.l.length gc].toArray) rfl (by kernel_rfl) (by kernel_rfl) (by kernel_rfl) (fun _ _ _ h => h) (yieldsIf_load_mid (by rfl) 25 _ rfl bg 0 rfl [.bool G.e, .int .u32 (G.i : Int), .bool G.r, .int .i64 G.d, .slice ga G.l.length gc] _ (fun X h => h.g.load) Tryz.underlying25 rfl sz93) hS ?_
      simp only [Act.put, liA, liB, liC, liD, liE]
      refine wpAnyH_take (i := 2) (v := .agg [.bool F.e, .int .u32 (F.i : Int), .bool F.r, .int .i64 F.d, .slice fa F.l.length fc].toArray) rfl (by kernel_rfl) (by kernel_rfl) (by kernel_rfl) (fun _ _ _ h => h) (yieldsIf_load_mid (by rfl) 25 _ rfl bf 0 rfl [.bool F.e, .int .u32 (F.i : Int), .bool F.r, .int .i64 F.d, .slice fa F.l.length fc] _ (fun X h => h.f.load) Tryz.underlying25 rfl sz93) hS ?_
      simp only [Act.put, liA, liB, liC, liD, liE, liF]
      refine wpAnyH_all (rs := [1]) (by kernel_rfl) (by simp) ?_
      refine AllReadyH.cons rfl (fun K2 hK2 => ?_) AllReadyH.nil
      go_simp
      refine (HAG.out v3 hS.b).mono ?_
      rintro o v4 ⟨rfl, hb⟩
      have hS5 : foS w1 [.bool F.e, .int .u32 (F.i : Int), .bool F.r, .int .i64 F.d, .slice fa F.l.length fc] [.bool G.e, .int .u32 (G.i : Int), .bool G.r, .int .i64 G.d, .slice ga G.l.length gc] bf bg bh (foH (evF 1 5 0 F) (evF 1 6 1 G) [] 2) s2 v4 := hS.below hb
      clear hb
      go_wp2_with fail
      refine hK2.out _ _ hS5 (fun hS2 => ?_)
      clear hK2 K2 hS hS5
      have hS := hS2
      clear hS2
      refine wpAnyH_all (rs := [3]) (by kernel_rfl) (by simp) ?_
      refine AllReadyH.cons rfl (fun K2 hK2 => ?_) AllReadyH.nil
      go_simp
      refine (HAF.out v4 hS.b).mono ?_
      rintro o v5 ⟨rfl, hb⟩
      have hS5 : foS w1 [.bool F.e, .int .u32 (F.i : Int), .bool F.r, .int .i64 F.d, .slice fa F.l.length fc] [.bool G.e, .int .u32 (G.i : Int), .bool G.r, .int .i64 G.d, .slice ga G.l.length gc] bf bg bh (foH (evF 1 5 0 F) (evF 1 6 1 G) [] 2) s2 v5 := hS.below hb
      clear hb
      go_wp2_with fail
      refine hK2.out _ _ hS5 (fun hS2 => ?_)
      clear hK2 K2 hS hS5
      have hS := hS2
      clear hS2
      refine wpAnyH_take (i := 4) (v := .bool true) rfl (by kernel_rfl) (by kernel_rfl) (by kernel_rfl) (fun _ _ _ h => h) (Or.inl ⟨by rfl, ?_⟩) hS ?_
      · intro W hSw
        clear hS
        go_simp
      simp only [Act.put, liA, liB, liC, liD, liE, liF]
      refine wpAnyH_done (by kernel_rfl) ?_ _
      have HX10 : Hid (foS w1 [.bool F.e, .int .u32 (F.i : Int), .bool F.r, .int .i64 F.d, .slice fa F.l.length fc] [.bool G.e, .int .u32 (G.i : Int), .bool G.r, .int .i64 G.d, .slice ga G.l.length gc] bf bg bh (foH (evF 1 5 0 F) (evF 1 6 1 G) [] 2) s2 v5) := hS
      clear hS HAG HAF
      go_wp2_with (first | (refine wpList_load_mid (P := Tryz.prog) rfl 35 _ rfl bh 0 rfl (hoL (foH (evF 1 5 0 F) (evF 1 6 1 G) [] 2) s2) _ HX10.out.h.load Tryz.underlying35 rfl (sz41L _ _) ?_))
      refine (HB2.out v5 s2 HX10.out.t HX10.out.ss).mono ?_
      rintro o w7 ⟨rfl, hb7⟩
      have HX11 : Hid (foS w1 [.bool F.e, .int .u32 (F.i : Int), .bool F.r, .int .i64 F.d, .slice fa F.l.length fc] [.bool G.e, .int .u32 (G.i : Int), .bool G.r, .int .i64 G.d, .slice ga G.l.length gc] bf bg bh (foH (evF 1 5 0 F) (evF 1 6 1 G) [] 2) s2 w7) := HX10.out.below hb7
      clear hb7 HX10 HB2
      go_wp2_with (first | (refine wpList_load_mid (P := Tryz.prog) rfl 35 _ rfl bh 0 rfl (hoL (foH (evF 1 5 0 F) (evF 1 6 1 G) [] 2) s2) _ HX11.out.h.load Tryz.underlying35 rfl (sz41L _ _) ?_))
      refine (HT1.out w7 s2 HX11.out.t HX11.out.ss).mono ?_
      rintro o w8 ⟨s3, rfl, stb, ssb, hbb⟩
      have HY : Hid (foS w1 [.bool F.e, .int .u32 (F.i : Int), .bool F.r, .int .i64 F.d, .slice fa F.l.length fc] [.bool G.e, .int .u32 (G.i : Int), .bool G.r, .int .i64 G.d, .slice ga G.l.length gc] bf bg bh (foH (evF 1 5 0 F) (evF 1 6 1 G) [] 2) s2 w8 ∧ isHo w8 (foH (evF 1 5 0 F) (evF 2 6 1 G) [] 2) s3 ∧ slSome s3) := ⟨HX11.out.below hbb, stb.now, ssb⟩
      clear stb ssb hbb HX11 HT1
      go_wp2_with fail
      refine (HR1.out w8 s3 HY.out.2.1 HY.out.2.2).mono ?_
      rintro o w9 ⟨s4, rfl, stb, ssb, hbb⟩
      have HY2 : Hid (foS w1 [.bool F.e, .int .u32 (F.i : Int), .bool F.r, .int .i64 F.d, .slice fa F.l.length fc] [.bool G.e, .int .u32 (G.i : Int), .bool G.r, .int .i64 G.d, .slice ga G.l.length gc] bf bg bh (foH (evF 1 5 0 F) (evF 1 6 1 G) [] 2) s2 w9 ∧ St w8.heap.size w9 (fun V => isHo V (foH (evF 1 5 0 F) z8 [evF 1 6 0 G] 2) s4) ∧ slSome s4 ∧ bh < w8.heap.size) := ⟨HY.out.1.below hbb, stb, ssb, HY.out.1.h.lt⟩
      clear stb ssb hbb HY HR1
      go_wp2_with (first | (refine wpList_store_mid (P := Tryz.prog) rfl 35 _ _ rfl bh 0 (hoL (foH (evF 1 5 0 F) z8 [evF 1 6 0 G] 2) s4).toArray rfl rfl (HY2.out.1.h.there 0 _ (by rw [List.size_toArray, hoL_len, hoL_len]; decide)) (sz41A _ _) (hoL_one _ _) ?_; generalize hWn : World.setCells _ bh 0 _ = w10; have HX12 : Hid (foS w1 [.bool F.e, .int .u32 (F.i : Int), .bool F.r, .int .i64 F.d, .slice fa F.l.length fc] [.bool G.e, .int .u32 (G.i : Int), .bool G.r, .int .i64 G.d, .slice ga G.l.length gc] bf bg bh (foH (evF 1 5 0 F) z8 [evF 1 6 0 G] 2) s4 w10) := (by rw [← hWn]; exact HY2.out.1.put HY2.out.2.2.2 HY2.out.2.1 HY2.out.2.2.1); clear hWn) | (refine wpList_load_mid (P := Tryz.prog) rfl 35 _ rfl bh 0 rfl (hoL (foH (evF 1 5 0 F) z8 [evF 1 6 0 G] 2) s4) _ HX12.out.h.load Tryz.underlying35 rfl (sz41L _ _) ?_))
      refine (HB4.out w10 s4 HX12.out.t HX12.out.ss).mono ?_
      rintro o w11 ⟨rfl, hb11⟩
      have HX13 : Hid (foS w1 [.bool F.e, .int .u32 (F.i : Int), .bool F.r, .int .i64 F.d, .slice fa F.l.length fc] [.bool G.e, .int .u32 (G.i : Int), .bool G.r, .int .i64 G.d, .slice ga G.l.length gc] bf bg bh (foH (evF 1 5 0 F) z8 [evF 1 6 0 G] 2) s4 w11) := HX12.out.below hb11
      clear hb11 HX12 HB4 HY2
      go_wp2_with (first | (refine wpList_load_mid (P := Tryz.prog) rfl 35 _ rfl bh 0 rfl (hoL (foH (evF 1 5 0 F) z8 [evF 1 6 0 G] 2) s4) _ HX13.out.h.load Tryz.underlying35 rfl (sz41L _ _) ?_))
      refine (HT2.out w11 s4 HX13.out.t HX13.out.ss).mono ?_
      rintro o w12 ⟨s5, rfl, stb, ssb, hbb⟩
      have HY : Hid (foS w1 [.bool F.e, .int .u32 (F.i : Int), .bool F.r, .int .i64 F.d, .slice fa F.l.length fc] [.bool G.e, .int .u32 (G.i : Int), .bool G.r, .int .i64 G.d, .slice ga G.l.length gc] bf bg bh (foH (evF 1 5 0 F) z8 [evF 1 6 0 G] 2) s4 w12 ∧ isHo w12 (foH (evF 2 5 0 F) z8 [evF 1 6 0 G] 2) s5 ∧ slSome s5) := ⟨HX13.out.below hbb, stb.now, ssb⟩
      clear stb ssb hbb HX13 HT2
      go_wp2_with fail
      refine (HR2.out w12 s5 HY.out.2.1 HY.out.2.2).mono ?_
      rintro o w13 ⟨s6, rfl, stb, ssb, hbb⟩
      have HY2 : Hid (foS w1 [.bool F.e, .int .u32 (F.i : Int), .bool F.r, .int .i64 F.d, .slice fa F.l.length fc] [.bool G.e, .int .u32 (G.i : Int), .bool G.r, .int .i64 G.d, .slice ga G.l.length gc] bf bg bh (foH (evF 1 5 0 F) z8 [evF 1 6 0 G] 2) s4 w13 ∧ St w12.heap.size w13 (fun V => isHo V (foH z8 z8 [evF 1 6 0 G, evF 1 5 0 F] 2) s6) ∧ slSome s6 ∧ bh < w12.heap.size) := ⟨HY.out.1.below hbb, stb, ssb, HY.out.1.h.lt⟩
      clear stb ssb hbb HY HR2
      go_wp2_with (first | (refine wpList_store_mid (P := Tryz.prog) rfl 35 _ _ rfl bh 0 (hoL (foH z8 z8 [evF 1 6 0 G, evF 1 5 0 F] 2) s6).toArray rfl rfl (HY2.out.1.h.there 0 _ (by rw [List.size_toArray, hoL_len, hoL_len]; decide)) (sz41A _ _) (hoL_one _ _) ?_; generalize hWn : World.setCells _ bh 0 _ = w14; have HX14 : Hid (foS w1 [.bool F.e, .int .u32 (F.i : Int), .bool F.r, .int .i64 F.d, .slice fa F.l.length fc] [.bool G.e, .int .u32 (G.i : Int), .bool G.r, .int .i64 G.d, .slice ga G.l.length gc] bf bg bh (foH z8 z8 [evF 1 6 0 G, evF 1 5 0 F] 2) s6 w14) := (by rw [← hWn]; exact HY2.out.1.put HY2.out.2.2.2 HY2.out.2.1 HY2.out.2.2.1); clear hWn) | (refine wpList_load_mid (P := Tryz.prog) rfl 35 _ rfl bh 0 rfl (hoL (foH z8 z8 [evF 1 6 0 G, evF 1 5 0 F] 2) s6) _ HX14.out.h.load Tryz.underlying35 rfl (sz41L _ _) ?_))
      clear HY2
      have HDr : Hid (∀ X s, isHo X (foH z8 z8 [evF 1 6 0 G, evF 1 5 0 F] 2) s → slSome s → Calls Tryz.prog 20 #[.agg (hoL (foH z8 z8 [evF 1 6 0 G, evF 1 5 0 F] 2) s).toArray] X fun o w' => ∃ s' gq c, o = .returned (.tuple #[.agg (hoL (qHo (foH z8 z8 [evF 1 6 0 G, evF 1 5 0 F] 2) []) s').toArray, .slice (some ⟨gq, 0, none⟩) 2 c]) ∧ (∃ ao m k, at8 w' gq 0 (evF 1 6 0 G) ao m k) ∧ (∃ ao m k, at8 w' gq 8 (evF 1 5 0 F) ao m k) ∧ Below X.heap.size X w') := fun X s h1 h2 => (cDrain X _ s HK3.out.2.2.2 h1 h2).mono (by
        rintro o w' ⟨s', a, c, rfl, _, _, hq, hb⟩
        obtain ⟨_, g, rfl, hat⟩ := hq (by simp)
        exact ⟨s', g, c, rfl, hat 0 (by show 0 < 2; decide), hat 1 (by show 1 < 2; decide), hb⟩)
      refine (HDr.out w14 s6 HX14.out.t HX14.out.ss).mono ?_
      rintro o w15 ⟨s7, gq, cq, rfl, ⟨aq, mq, kaq, A1⟩, ⟨ar, mr, kar, A2⟩, hb15⟩
      have em : mq = G.l.length := A1.dat.len
      have er : mr = F.l.length := A2.dat.len
      subst em er
      have HX15 : Hid ((foS w1 [.bool F.e, .int .u32 (F.i : Int), .bool F.r, .int .i64 F.d, .slice fa F.l.length fc] [.bool G.e, .int .u32 (G.i : Int), .bool G.r, .int .i64 G.d, .slice ga G.l.length gc] bf bg bh (foH z8 z8 [evF 1 6 0 G, evF 1 5 0 F] 2) s6 w15 ∧ at8 w15 gq 0 (evF 1 6 0 G) aq G.l.length kaq ∧ at8 w15 gq 8 (evF 1 5 0 F) ar F.l.length kar)) := ⟨HX14.out.below hb15, A1, A2⟩
      clear A1 A2 hb15 HX14 HDr
      have HN5a : Hid (blk (World.setCells (w15.alloc (.cells [.int .i64 0, .int .i64 0, .int .i64 0, .int .i64 0, .slice none 0 0, .slice none 0 0, .slice none 0 0, .slice none 0 0, .int .i64 0, .int .i64 0].toArray 35)) w15.heap.size 0 (hoL (qHo (foH z8 z8 [evF 1 6 0 G, evF 1 5 0 F] 2) []) s7)) w15.heap.size (hoL (qHo (foH z8 z8 [evF 1 6 0 G, evF 1 5 0 F] 2) []) s7) 35 ∧ Below w15.heap.size w15 (World.setCells (w15.alloc (.cells [.int .i64 0, .int .i64 0, .int .i64 0, .int .i64 0, .slice none 0 0, .slice none 0 0, .slice none 0 0, .slice none 0 0, .int .i64 0, .int .i64 0].toArray 35)) w15.heap.size 0 (hoL (qHo (foH z8 z8 [evF 1 6 0 G, evF 1 5 0 F] 2) []) s7))) := new_hostS _ (hoL_len _ _)
      have HN5b : Hid (blk (w15.alloc (.cells [.int .i64 0, .int .i64 0, .int .i64 0, .int .i64 0, .slice none 0 0, .slice none 0 0, .slice none 0 0, .slice none 0 0, .int .i64 0, .int .i64 0].toArray 35)) w15.heap.size [.int .i64 0, .int .i64 0, .int .i64 0, .int .i64 0, .slice none 0 0, .slice none 0 0, .slice none 0 0, .slice none 0 0, .int .i64 0, .int .i64 0] 35) := blk.new w15 _ 35
      go_wp2_with (first
        | (refine wpList_store_mid (P := Tryz.prog) rfl 35 _ _ rfl w15.heap.size 0 (hoL (qHo (foH z8 z8 [evF 1 6 0 G, evF 1 5 0 F] 2) []) s7).toArray rfl rfl (HN5b.out.there 0 _ (by rw [List.size_toArray, hoL_len]; decide)) (sz41A _ _) (hoL_one _ _) ?_; generalize hWn : World.setCells _ w15.heap.size 0 _ = w16; have HX16 : Hid ((foS w1 [.bool F.e, .int .u32 (F.i : Int), .bool F.r, .int .i64 F.d, .slice fa F.l.length fc] [.bool G.e, .int .u32 (G.i : Int), .bool G.r, .int .i64 G.d, .slice ga G.l.length gc] bf bg bh (foH z8 z8 [evF 1 6 0 G, evF 1 5 0 F] 2) s6 w16 ∧ at8 w16 gq 0 (evF 1 6 0 G) aq G.l.length kaq ∧ at8 w16 gq 8 (evF 1 5 0 F) ar F.l.length kar)) := (by rw [← hWn]; exact ⟨HX15.out.1.below HN5a.out.2, HX15.out.2.1.below HN5a.out.2, HX15.out.2.2.below HN5a.out.2⟩); clear hWn HN5a HN5b HX15; have y1 : w16.cell? ⟨gq, 1, none⟩ = some (.int .i64 6) := HX16.out.2.1.c1; have y9 : w16.cell? ⟨gq, 9, none⟩ = some (.int .i64 5) := HX16.out.2.2.c1)
        | (refine wpList_load_midG (by first | rfl | (simp [Region.wanted, yielded]; done) | (simp [Region.wanted, yielded]; omega)) 35 _ rfl bh 0 rfl (hoL (foH z8 z8 [evF 1 6 0 G, evF 1 5 0 F] 2) s6) _ HX16.out.1.h.load Tryz.underlying35 rfl (sz41L _ _) ?_))
      refine (HB6.out w16 s6 HX16.out.1.t HX16.out.1.ss).mono ?_
      rintro o w17 ⟨rfl, hb17⟩
      have HX17 : Hid ((foS w1 [.bool F.e, .int .u32 (F.i : Int), .bool F.r, .int .i64 F.d, .slice fa F.l.length fc] [.bool G.e, .int .u32 (G.i : Int), .bool G.r, .int .i64 G.d, .slice ga G.l.length gc] bf bg bh (foH z8 z8 [evF 1 6 0 G, evF 1 5 0 F] 2) s6 w17 ∧ at8 w17 gq 0 (evF 1 6 0 G) aq G.l.length kaq ∧ at8 w17 gq 8 (evF 1 5 0 F) ar F.l.length kar)) := ⟨HX16.out.1.below hb17, HX16.out.2.1.below hb17, HX16.out.2.2.below hb17⟩
      clear hb17 HX16 HB6 y1 y9
      go_wp2_with (first
        | (refine wpList_load_mid (P := Tryz.prog) rfl 25 _ rfl bf 0 rfl [.bool F.e, .int .u32 (F.i : Int), .bool F.r, .int .i64 F.d, .slice fa F.l.length fc] _ HX17.out.1.f.load Tryz.underlying25 rfl sz93 ?_)
        | (refine wpList_store_mid (P := Tryz.prog) rfl 25 _ _ rfl w17.heap.size 0 [.bool F.e, .int .u32 (F.i : Int), .bool F.r, .int .i64 F.d, .slice fa F.l.length fc].toArray rfl rfl ((blk.new w17 [.bool false, .int .u32 0, .bool false, .int .i64 0, .slice none 0 0] 25).there 0 5 (by simp)) sz93 (all_oneCell_toArray (by simp [Value.oneCell'])) ?_; generalize hWn : World.setCells _ w17.heap.size 0 _ = w18; have HX18 : Hid ((foS w1 [.bool F.e, .int .u32 (F.i : Int), .bool F.r, .int .i64 F.d, .slice fa F.l.length fc] [.bool G.e, .int .u32 (G.i : Int), .bool G.r, .int .i64 G.d, .slice ga G.l.length gc] bf bg bh (foH z8 z8 [evF 1 6 0 G, evF 1 5 0 F] 2) s6 w18 ∧ at8 w18 gq 0 (evF 1 6 0 G) aq G.l.length kaq ∧ at8 w18 gq 8 (evF 1 5 0 F) ar F.l.length kar) ∧ blk w18 w17.heap.size [.bool F.e, .int .u32 (F.i : Int), .bool F.r, .int .i64 F.d, .slice fa F.l.length fc] 25) := (by rw [← hWn]; have hbn : Below w17.heap.size w17 (World.setCells (w17.alloc (.cells [.bool false, .int .u32 0, .bool false, .int .i64 0, .slice none 0 0].toArray 25)) w17.heap.size 0 [.bool F.e, .int .u32 (F.i : Int), .bool F.r, .int .i64 F.d, .slice fa F.l.length fc]) := setCells_below (Nat.le_refl _) 0 _ ((Below.refl _ _).alloc (Nat.le_refl _) _); exact ⟨⟨HX17.out.1.below hbn, HX17.out.2.1.below hbn, HX17.out.2.2.below hbn⟩, put25 (blk.new w17 [.bool false, .int .u32 0, .bool false, .int .i64 0, .slice none 0 0] 25) rfl⟩); have HX18c : Hid (Below w17.heap.size w17 w18) := (by rw [← hWn]; exact setCells_below (Nat.le_refl _) 0 _ ((Below.refl _ _).alloc (Nat.le_refl _) _)); clear hWn)
        | (refine wpList_load_mid (P := Tryz.prog) rfl 25 _ rfl bg 0 rfl [.bool G.e, .int .u32 (G.i : Int), .bool G.r, .int .i64 G.d, .slice ga G.l.length gc] _ HX18.out.1.1.g.load Tryz.underlying25 rfl sz93 ?_)
        | (refine wpList_store_mid (P := Tryz.prog) rfl 25 _ _ rfl w18.heap.size 0 [.bool G.e, .int .u32 (G.i : Int), .bool G.r, .int .i64 G.d, .slice ga G.l.length gc].toArray rfl rfl ((blk.new w18 [.bool false, .int .u32 0, .bool false, .int .i64 0, .slice none 0 0] 25).there 0 5 (by simp)) sz93 (all_oneCell_toArray (by simp [Value.oneCell'])) ?_; generalize hWn : World.setCells _ w18.heap.size 0 _ = w19; have HX19 : Hid ((foS w1 [.bool F.e, .int .u32 (F.i : Int), .bool F.r, .int .i64 F.d, .slice fa F.l.length fc] [.bool G.e, .int .u32 (G.i : Int), .bool G.r, .int .i64 G.d, .slice ga G.l.length gc] bf bg bh (foH z8 z8 [evF 1 6 0 G, evF 1 5 0 F] 2) s6 w19 ∧ at8 w19 gq 0 (evF 1 6 0 G) aq G.l.length kaq ∧ at8 w19 gq 8 (evF 1 5 0 F) ar F.l.length kar) ∧ blk w19 w17.heap.size [.bool F.e, .int .u32 (F.i : Int), .bool F.r, .int .i64 F.d, .slice fa F.l.length fc] 25 ∧ blk w19 w18.heap.size [.bool G.e, .int .u32 (G.i : Int), .bool G.r, .int .i64 G.d, .slice ga G.l.length gc] 25 ∧ w17.heap.size < w18.heap.size) := (by rw [← hWn]; have hbn : Below w18.heap.size w18 (World.setCells (w18.alloc (.cells [.bool false, .int .u32 0, .bool false, .int .i64 0, .slice none 0 0].toArray 25)) w18.heap.size 0 [.bool G.e, .int .u32 (G.i : Int), .bool G.r, .int .i64 G.d, .slice ga G.l.length gc]) := setCells_below (Nat.le_refl _) 0 _ ((Below.refl _ _).alloc (Nat.le_refl _) _); exact ⟨⟨HX18.out.1.1.below hbn, HX18.out.1.2.1.below hbn, HX18.out.1.2.2.below hbn⟩, HX18.out.2.below hbn, put25 (blk.new w18 [.bool false, .int .u32 0, .bool false, .int .i64 0, .slice none 0 0] 25) rfl, HX18.out.2.lt⟩); have HX19c : Hid (Below w17.heap.size w17 w19) := (by rw [← hWn]; exact (HX18c.out.trans ((setCells_below (Nat.le_refl _) 0 _ ((Below.refl _ _).alloc (Nat.le_refl _) _) : Below w18.heap.size w18 (World.setCells (w18.alloc (.cells [.bool false, .int .u32 0, .bool false, .int .i64 0, .slice none 0 0].toArray 25)) w18.heap.size 0 [.bool G.e, .int .u32 (G.i : Int), .bool G.r, .int .i64 G.d, .slice ga G.l.length gc])).mono HX18c.out.size))); have HX19b : Hid ((blk w19 bf [.bool F.e, .int .u32 (F.i : Int), .bool F.r, .int .i64 F.d, .slice fa F.l.length fc] 25 ∧ Below w17.heap.size w17 w19) ∧ blk w19 w17.heap.size [.bool F.e, .int .u32 (F.i : Int), .bool F.r, .int .i64 F.d, .slice fa F.l.length fc] 25 ∧ blk w19 w18.heap.size [.bool G.e, .int .u32 (G.i : Int), .bool G.r, .int .i64 G.d, .slice ga G.l.length gc] 25 ∧ w17.heap.size < w18.heap.size ∧ bf < w17.heap.size) := ⟨⟨HX19.out.1.1.f, HX19c.out⟩, HX19.out.2.1, HX19.out.2.2.1, HX19.out.2.2.2, HX17.out.1.f.lt⟩; clear hWn)
        | (refine wpList_load_mid (P := Tryz.prog) rfl 25 _ rfl bg 0 rfl [.bool G.e, .int .u32 (G.i : Int), .bool G.r, .int .i64 G.d, .slice ga G.l.length gc] _ HX19.out.1.1.g.load Tryz.underlying25 rfl sz93 ?_)
        | (refine wpList_store_mid (P := Tryz.prog) rfl 25 _ _ rfl w17.heap.size 0 [.bool G.e, .int .u32 (G.i : Int), .bool G.r, .int .i64 G.d, .slice ga G.l.length gc].toArray rfl rfl (HX19.out.2.1.there 0 5 (by simp)) sz93 (all_oneCell_toArray (by simp [Value.oneCell'])) ?_; generalize hWn : World.setCells _ w17.heap.size 0 _ = w20; have HX20 : Hid ((blk w20 bf [.bool F.e, .int .u32 (F.i : Int), .bool F.r, .int .i64 F.d, .slice fa F.l.length fc] 25 ∧ Below w17.heap.size w17 w20) ∧ blk w20 w17.heap.size [.bool G.e, .int .u32 (G.i : Int), .bool G.r, .int .i64 G.d, .slice ga G.l.length gc] 25 ∧ blk w20 w18.heap.size [.bool G.e, .int .u32 (G.i : Int), .bool G.r, .int .i64 G.d, .slice ga G.l.length gc] 25 ∧ w17.heap.size < w18.heap.size) := (by rw [← hWn]; exact ⟨⟨HX19b.out.1.1.other (by have := HX19b.out.2.2.2.2; omega) _ _, setCells_below (Nat.le_refl _) 0 _ HX19b.out.1.2⟩, put25 HX19b.out.2.1 rfl, HX19b.out.2.2.1.other (by have := HX19b.out.2.2.2.1; omega) _ _, HX19b.out.2.2.2.1⟩); clear hWn)
        | (refine wpList_load_mid (P := Tryz.prog) rfl 25 _ rfl bf 0 rfl [.bool F.e, .int .u32 (F.i : Int), .bool F.r, .int .i64 F.d, .slice fa F.l.length fc] _ HX20.out.1.1.load Tryz.underlying25 rfl sz93 ?_)
        | (refine wpList_store_mid (P := Tryz.prog) rfl 25 _ _ rfl w18.heap.size 0 [.bool F.e, .int .u32 (F.i : Int), .bool F.r, .int .i64 F.d, .slice fa F.l.length fc].toArray rfl rfl (HX20.out.2.2.1.there 0 5 (by simp)) sz93 (all_oneCell_toArray (by simp [Value.oneCell'])) ?_; generalize hWn : World.setCells _ w18.heap.size 0 _ = w21; have HX21 : Hid (Below w17.heap.size w17 w21 ∧ blk w21 w17.heap.size [.bool G.e, .int .u32 (G.i : Int), .bool G.r, .int .i64 G.d, .slice ga G.l.length gc] 25 ∧ blk w21 w18.heap.size [.bool F.e, .int .u32 (F.i : Int), .bool F.r, .int .i64 F.d, .slice fa F.l.length fc] 25) := (by rw [← hWn]; exact ⟨setCells_below (Nat.le_of_lt HX20.out.2.2.2) 0 _ HX20.out.1.2, HX20.out.2.1.other (by have := HX20.out.2.2.2; omega) _ _, put25 HX20.out.2.2.1 rfl⟩); clear hWn))
      have HXY : Hid (((foS w1 [.bool F.e, .int .u32 (F.i : Int), .bool F.r, .int .i64 F.d, .slice fa F.l.length fc] [.bool G.e, .int .u32 (G.i : Int), .bool G.r, .int .i64 G.d, .slice ga G.l.length gc] bf bg bh (foH z8 z8 [evF 1 6 0 G, evF 1 5 0 F] 2) s6 w21 ∧ at8 w21 gq 0 (evF 1 6 0 G) aq G.l.length kaq ∧ at8 w21 gq 8 (evF 1 5 0 F) ar F.l.length kar)) ∧ blk w21 w17.heap.size [.bool G.e, .int .u32 (G.i : Int), .bool G.r, .int .i64 G.d, .slice ga G.l.length gc] 25 ∧ blk w21 w18.heap.size [.bool F.e, .int .u32 (F.i : Int), .bool F.r, .int .i64 F.d, .slice fa F.l.length fc] 25) := ⟨⟨HX17.out.1.below HX21.out.1, HX17.out.2.1.below HX21.out.1, HX17.out.2.2.below HX21.out.1⟩, HX21.out.2.1, HX21.out.2.2⟩
      clear HX17 HX18 HX19 HX19b HX20 HX21
      generalize w17.heap.size = bx at *
      generalize w18.heap.size = by_ at *
      have HW1 : Hid (∀ W, ((foS w1 [.bool F.e, .int .u32 (F.i : Int), .bool F.r, .int .i64 F.d, .slice fa F.l.length fc] [.bool G.e, .int .u32 (G.i : Int), .bool G.r, .int .i64 G.d, .slice ga G.l.length gc] bf bg bh (foH z8 z8 [evF 1 6 0 G, evF 1 5 0 F] 2) s6 W ∧ at8 W gq 0 (evF 1 6 0 G) aq G.l.length kaq ∧ at8 W gq 8 (evF 1 5 0 F) ar F.l.length kar)) ∧ blk W bx [.bool G.e, .int .u32 (G.i : Int), .bool G.r, .int .i64 G.d, .slice ga G.l.length gc] 25 ∧ blk W by_ [.bool F.e, .int .u32 (F.i : Int), .bool F.r, .int .i64 F.d, .slice fa F.l.length fc] 25 → Calls Tryz.prog 21 #[frV G.e G.i G.r G.d aq G.l.length kaq, frV G.e G.i G.r G.d ga G.l.length gc] W fun o w' => o = .returned (.bool true) ∧ Below W.heap.size W w') := fun W hW => wFrame_same W _ _ _ _ _ _ _ _ hW.1.2.1.dat _ _ (HDF.out.2.below hW.1.1.b) HL.out.2
      have HW2 : Hid (∀ W, ((foS w1 [.bool F.e, .int .u32 (F.i : Int), .bool F.r, .int .i64 F.d, .slice fa F.l.length fc] [.bool G.e, .int .u32 (G.i : Int), .bool G.r, .int .i64 G.d, .slice ga G.l.length gc] bf bg bh (foH z8 z8 [evF 1 6 0 G, evF 1 5 0 F] 2) s6 W ∧ at8 W gq 0 (evF 1 6 0 G) aq G.l.length kaq ∧ at8 W gq 8 (evF 1 5 0 F) ar F.l.length kar)) ∧ blk W bx [.bool G.e, .int .u32 (G.i : Int), .bool G.r, .int .i64 G.d, .slice ga G.l.length gc] 25 ∧ blk W by_ [.bool F.e, .int .u32 (F.i : Int), .bool F.r, .int .i64 F.d, .slice fa F.l.length fc] 25 → Calls Tryz.prog 21 #[frV F.e F.i F.r F.d ar F.l.length kar, frV F.e F.i F.r F.d fa F.l.length fc] W fun o w' => o = .returned (.bool true) ∧ Below W.heap.size W w') := fun W hW => wFrame_same W _ _ _ _ _ _ _ _ hW.1.2.2.dat _ _ (HDF.out.1.below hW.1.1.b) HL.out.1
      refine wp_region_held (S := fun X => ((foS w1 [.bool F.e, .int .u32 (F.i : Int), .bool F.r, .int .i64 F.d, .slice fa F.l.length fc] [.bool G.e, .int .u32 (G.i : Int), .bool G.r, .int .i64 G.d, .slice ga G.l.length gc] bf bg bh (foH z8 z8 [evF 1 6 0 G, evF 1 5 0 F] 2) s6 X ∧ at8 X gq 0 (evF 1 6 0 G) aq G.l.length kaq ∧ at8 X gq 8 (evF 1 5 0 F) ar F.l.length kar)) ∧ blk X bx [.bool G.e, .int .u32 (G.i : Int), .bool G.r, .int .i64 G.d, .slice ga G.l.length gc] 25 ∧ blk X by_ [.bool F.e, .int .u32 (F.i : Int), .bool F.r, .int .i64 F.d, .slice fa F.l.length fc] 25) (by kernel_rfl) ?_
      have hbd : Below w21.heap.size w21 (World.drew w21) := (Below.refl _ _).drew
      have hS : ((foS w1 [.bool F.e, .int .u32 (F.i : Int), .bool F.r, .int .i64 F.d, .slice fa F.l.length fc] [.bool G.e, .int .u32 (G.i : Int), .bool G.r, .int .i64 G.d, .slice ga G.l.length gc] bf bg bh (foH z8 z8 [evF 1 6 0 G, evF 1 5 0 F] 2) s6 (World.drew w21) ∧ at8 (World.drew w21) gq 0 (evF 1 6 0 G) aq G.l.length kaq ∧ at8 (World.drew w21) gq 8 (evF 1 5 0 F) ar F.l.length kar)) ∧ blk (World.drew w21) bx [.bool G.e, .int .u32 (G.i : Int), .bool G.r, .int .i64 G.d, .slice ga G.l.length gc] 25 ∧ blk (World.drew w21) by_ [.bool F.e, .int .u32 (F.i : Int), .bool F.r, .int .i64 F.d, .slice fa F.l.length fc] 25 := ⟨⟨HXY.out.1.1.below hbd, HXY.out.1.2.1.below hbd, HXY.out.1.2.2.below hbd⟩, HXY.out.2.1.below hbd, HXY.out.2.2.below hbd⟩
      clear hbd HXY
      change wpAnyH Tryz.prog _ _ _ _ _ _ _ (World.drew w21)
      generalize World.drew w21 = u0 at *
      refine wpAnyH_take (i := 0) (v := .slice (some ⟨gq, 0, none⟩) 2 cq) rfl (by kernel_rfl) (by kernel_rfl) (by kernel_rfl) (fun _ _ _ h => h) (Or.inl ⟨by rfl, ?_⟩) hS ?_
      · intro W hSw
        clear hS
        go_simp
      simp only [Act.put, liA, liB, liC, liD, liE]
      refine wpAnyH_take (i := 1) (v := .pointer (some ⟨gq, 0, none⟩)) rfl (by kernel_rfl) (by kernel_rfl) (by kernel_rfl) (fun _ _ _ h => h) (Or.inl ⟨by rfl, ?_⟩) hS ?_
      · intro W hSw
        clear hS
        go_simp
      simp only [Act.put, liA, liB, liC, liD, liE, liF]
      refine wpAnyH_take (i := 2) (v := .pointer (some ⟨gq, 0, none⟩)) rfl (by kernel_rfl) (by kernel_rfl) (by kernel_rfl) (fun _ _ _ h => h) (Or.inl ⟨by rfl, ?_⟩) hS ?_
      · intro W hSw
        clear hS
        go_simp
      simp only [Act.put, liA, liB, liC, liD, liE, liF]
      refine wpAnyH_take (i := 3) (v := .int .i64 1) rfl (by kernel_rfl) (by kernel_rfl) (by kernel_rfl) (fun _ _ _ h => h) (Or.inl ⟨by rfl, ?_⟩) hS ?_
      · intro W hSw
        clear hS
        have y0 : W.cell? ⟨gq, 0, none⟩ = some (.int .i64 1) := hSw.1.2.1.c0
        go_simp
      simp only [Act.put, liA, liB, liC, liD, liE, liF]
      refine wpAnyH_take (i := 4) (v := .bool true) rfl (by kernel_rfl) (by kernel_rfl) (by kernel_rfl) (fun _ _ _ h => h) (Or.inl ⟨by rfl, ?_⟩) hS ?_
      · intro W hSw
        clear hS
        go_simp
      simp only [Act.put, liA, liB, liC, liD, liE, liF]
      refine wpAnyH_take (i := 5) (v := .bool true) rfl (by kernel_rfl) (by kernel_rfl) (by kernel_rfl) (fun _ _ _ h => h) (Or.inl ⟨by rfl, ?_⟩) hS ?_
      · intro W hSw
        clear hS
        go_simp
      simp only [Act.put, liA, liB, liC, liD, liE, liF]
      refine wpAnyH_take (i := 6) (v := .slice (some ⟨gq, 0, none⟩) 2 cq) rfl (by kernel_rfl) (by kernel_rfl) (by kernel_rfl) (fun _ _ _ h => h) (Or.inl ⟨by rfl, ?_⟩) hS ?_
      · intro W hSw
        clear hS
        go_simp
      simp only [Act.put, liA, liB, liC, liD, liE, liF]
      refine wpAnyH_take (i := 7) (v := .pointer (some ⟨gq, 8, none⟩)) rfl (by kernel_rfl) (by kernel_rfl) (by kernel_rfl) (fun _ _ _ h => h) (Or.inl ⟨by rfl, ?_⟩) hS ?_
      · intro W hSw
        clear hS
        go_simp
      simp only [Act.put, liA, liB, liC, liD, liE, liF]
      refine wpAnyH_take (i := 8) (v := .pointer (some ⟨gq, 8, none⟩)) rfl (by kernel_rfl) (by kernel_rfl) (by kernel_rfl) (fun _ _ _ h => h) (Or.inl ⟨by rfl, ?_⟩) hS ?_
      · intro W hSw
        clear hS
        go_simp
      simp only [Act.put, liA, liB, liC, liD, liE, liF]
      refine wpAnyH_take (i := 9) (v := .int .i64 1) rfl (by kernel_rfl) (by kernel_rfl) (by kernel_rfl) (fun _ _ _ h => h) (Or.inl ⟨by rfl, ?_⟩) hS ?_
      · intro W hSw
        clear hS
        have y0 : W.cell? ⟨gq, 8, none⟩ = some (.int .i64 1) := hSw.1.2.2.c0
        go_simp
      simp only [Act.put, liA, liB, liC, liD, liE, liF]
      refine wpAnyH_take (i := 10) (v := .bool true) rfl (by kernel_rfl) (by kernel_rfl) (by kernel_rfl) (fun _ _ _ h => h) (Or.inl ⟨by rfl, ?_⟩) hS ?_
      · intro W hSw
        clear hS
        go_simp
      simp only [Act.put, liA, liB, liC, liD, liE, liF]
      refine wpAnyH_take (i := 11) (v := .bool true) rfl (by kernel_rfl) (by kernel_rfl) (by kernel_rfl) (fun _ _ _ h => h) (Or.inl ⟨by rfl, ?_⟩) hS ?_
      · intro W hSw
        clear hS
        go_simp
      simp only [Act.put, liA, liB, liC, liD, liE, liF]
      refine wpAnyH_take (i := 12) (v := .bool true) rfl (by kernel_rfl) (by kernel_rfl) (by kernel_rfl) (fun _ _ _ h => h) (Or.inl ⟨by rfl, ?_⟩) hS ?_
      · intro W hSw
        clear hS
        go_simp
      simp only [Act.put, liA, liB, liC, liD, liE, liF]
      refine wpAnyH_take (i := 13) (v := .slice (some ⟨gq, 0, none⟩) 2 cq) rfl (by kernel_rfl) (by kernel_rfl) (by kernel_rfl) (fun _ _ _ h => h) (Or.inl ⟨by rfl, ?_⟩) hS ?_
      · intro W hSw
        clear hS
        go_simp
      simp only [Act.put, liA, liB, liC, liD, liE, liF]
      refine wpAnyH_take (i := 14) (v := .pointer (some ⟨gq, 0, none⟩)) rfl (by kernel_rfl) (by kernel_rfl) (by kernel_rfl) (fun _ _ _ h => h) (Or.inl ⟨by rfl, ?_⟩) hS ?_
      · intro W hSw
        clear hS
        go_simp
      simp only [Act.put, liA, liB, liC, liD, liE, liF]
      refine wpAnyH_take (i := 15) (v := .pointer (some ⟨gq, 3, none⟩)) rfl (by kernel_rfl) (by kernel_rfl) (by kernel_rfl) (fun _ _ _ h => h) (Or.inl ⟨by rfl, ?_⟩) hS ?_
      · intro W hSw
        clear hS
        go_simp
      simp only [Act.put, liA, liB, liC, liD, liE, liF]
      refine wpAnyH_take (i := 16) (v := .agg [.bool G.e, .int .u32 (G.i : Int), .bool G.r, .int .i64 G.d, .slice aq G.l.length kaq].toArray) rfl (by kernel_rfl) (by kernel_rfl) (by kernel_rfl) (fun _ _ _ h => h) (yieldsIf_load_mid (by rfl) 25 _ rfl gq 3 rfl [.bool G.e, .int .u32 (G.i : Int), .bool G.r, .int .i64 G.d, .slice aq G.l.length kaq] _ (fun X h => h.1.2.1.frame) Tryz.underlying25 rfl sz93) hS ?_
      simp only [Act.put, liA, liB, liC, liD, liE, liF]
      refine wpAnyH_take (i := 17) (v := .agg [.bool G.e, .int .u32 (G.i : Int), .bool G.r, .int .i64 G.d, .slice ga G.l.length gc].toArray) rfl (by kernel_rfl) (by kernel_rfl) (by kernel_rfl) (fun _ _ _ h => h) (yieldsIf_load_mid (by rfl) 25 _ rfl bx 0 rfl [.bool G.e, .int .u32 (G.i : Int), .bool G.r, .int .i64 G.d, .slice ga G.l.length gc] _ (fun X h => h.2.1.load) Tryz.underlying25 rfl sz93) hS ?_
      simp only [Act.put, liA, liB, liC, liD, liE, liF]
      refine wpAnyH_all (rs := [18]) (by kernel_rfl) (by simp) ?_
      refine AllReadyH.cons rfl (fun K2 hK2 => ?_) AllReadyH.nil
      go_simp
      refine (HW1.out u0 hS).mono ?_
      rintro o u1 ⟨rfl, hb⟩
      have hS5 : ((foS w1 [.bool F.e, .int .u32 (F.i : Int), .bool F.r, .int .i64 F.d, .slice fa F.l.length fc] [.bool G.e, .int .u32 (G.i : Int), .bool G.r, .int .i64 G.d, .slice ga G.l.length gc] bf bg bh (foH z8 z8 [evF 1 6 0 G, evF 1 5 0 F] 2) s6 u1 ∧ at8 u1 gq 0 (evF 1 6 0 G) aq G.l.length kaq ∧ at8 u1 gq 8 (evF 1 5 0 F) ar F.l.length kar)) ∧ blk u1 bx [.bool G.e, .int .u32 (G.i : Int), .bool G.r, .int .i64 G.d, .slice ga G.l.length gc] 25 ∧ blk u1 by_ [.bool F.e, .int .u32 (F.i : Int), .bool F.r, .int .i64 F.d, .slice fa F.l.length fc] 25 := ⟨⟨hS.1.1.below hb, hS.1.2.1.below hb, hS.1.2.2.below hb⟩, hS.2.1.below hb, hS.2.2.below hb⟩
      clear hb
      go_wp2_with fail
      refine hK2.out _ _ hS5 (fun hS2 => ?_)
      clear hK2 K2 hS hS5
      have hS := hS2
      clear hS2
      refine wpAnyH_take (i := 19) (v := .bool true) rfl (by kernel_rfl) (by kernel_rfl) (by kernel_rfl) (fun _ _ _ h => h) (Or.inl ⟨by rfl, ?_⟩) hS ?_
      · intro W hSw
        clear hS
        go_simp
      simp only [Act.put, liA, liB, liC, liD, liE, liF]
      refine wpAnyH_take (i := 20) (v := .bool true) rfl (by kernel_rfl) (by kernel_rfl) (by kernel_rfl) (fun _ _ _ h => h) (Or.inl ⟨by rfl, ?_⟩) hS ?_
      · intro W hSw
        clear hS
        go_simp
      simp only [Act.put, liA, liB, liC, liD, liE, liF]
      refine wpAnyH_take (i := 21) (v := .slice (some ⟨gq, 0, none⟩) 2 cq) rfl (by kernel_rfl) (by kernel_rfl) (by kernel_rfl) (fun _ _ _ h => h) (Or.inl ⟨by rfl, ?_⟩) hS ?_
      · intro W hSw
        clear hS
        go_simp
      simp only [Act.put, liA, liB, liC, liD, liE, liF]
      refine wpAnyH_take (i := 22) (v := .pointer (some ⟨gq, 8, none⟩)) rfl (by kernel_rfl) (by kernel_rfl) (by kernel_rfl) (fun _ _ _ h => h) (Or.inl ⟨by rfl, ?_⟩) hS ?_
      · intro W hSw
        clear hS
        go_simp
      simp only [Act.put, liA, liB, liC, liD, liE, liF]
      refine wpAnyH_take (i := 23) (v := .pointer (some ⟨gq, 11, none⟩)) rfl (by kernel_rfl) (by kernel_rfl) (by kernel_rfl) (fun _ _ _ h => h) (Or.inl ⟨by rfl, ?_⟩) hS ?_
      · intro W hSw
        clear hS
        go_simp
      simp only [Act.put, liA, liB, liC, liD, liE, liF]
      refine wpAnyH_take (i := 24) (v := .agg [.bool F.e, .int .u32 (F.i : Int), .bool F.r, .int .i64 F.d, .slice ar F.l.length kar].toArray) rfl (by kernel_rfl) (by kernel_rfl) (by kernel_rfl) (fun _ _ _ h => h) (yieldsIf_load_mid (by rfl) 25 _ rfl gq 11 rfl [.bool F.e, .int .u32 (F.i : Int), .bool F.r, .int .i64 F.d, .slice ar F.l.length kar] _ (fun X h => h.1.2.2.frame) Tryz.underlying25 rfl sz93) hS ?_
      simp only [Act.put, liA, liB, liC, liD, liE, liF]
      refine wpAnyH_take (i := 25) (v := .agg [.bool F.e, .int .u32 (F.i : Int), .bool F.r, .int .i64 F.d, .slice fa F.l.length fc].toArray) rfl (by kernel_rfl) (by kernel_rfl) (by kernel_rfl) (fun _ _ _ h => h) (yieldsIf_load_mid (by rfl) 25 _ rfl by_ 0 rfl [.bool F.e, .int .u32 (F.i : Int), .bool F.r, .int .i64 F.d, .slice fa F.l.length fc] _ (fun X h => h.2.2.load) Tryz.underlying25 rfl sz93) hS ?_
      simp only [Act.put, liA, liB, liC, liD, liE, liF]
      refine wpAnyH_all (rs := [26]) (by kernel_rfl) (by simp) ?_
      refine AllReadyH.cons rfl (fun K2 hK2 => ?_) AllReadyH.nil
      go_simp
      refine (HW2.out u1 hS).mono ?_
      rintro o u2 ⟨rfl, hb⟩
      have hS5 : ((foS w1 [.bool F.e, .int .u32 (F.i : Int), .bool F.r, .int .i64 F.d, .slice fa F.l.length fc] [.bool G.e, .int .u32 (G.i : Int), .bool G.r, .int .i64 G.d, .slice ga G.l.length gc] bf bg bh (foH z8 z8 [evF 1 6 0 G, evF 1 5 0 F] 2) s6 u2 ∧ at8 u2 gq 0 (evF 1 6 0 G) aq G.l.length kaq ∧ at8 u2 gq 8 (evF 1 5 0 F) ar F.l.length kar)) ∧ blk u2 bx [.bool G.e, .int .u32 (G.i : Int), .bool G.r, .int .i64 G.d, .slice ga G.l.length gc] 25 ∧ blk u2 by_ [.bool F.e, .int .u32 (F.i : Int), .bool F.r, .int .i64 F.d, .slice fa F.l.length fc] 25 := ⟨⟨hS.1.1.below hb, hS.1.2.1.below hb, hS.1.2.2.below hb⟩, hS.2.1.below hb, hS.2.2.below hb⟩
      clear hb
      go_wp2_with fail
      refine hK2.out _ _ hS5 (fun hS2 => ?_)
      clear hK2 K2 hS hS5
      have hS := hS2
      clear hS2
      refine wpAnyH_take (i := 27) (v := .bool true) rfl (by kernel_rfl) (by kernel_rfl) (by kernel_rfl) (fun _ _ _ h => h) (Or.inl ⟨by rfl, ?_⟩) hS ?_
      · intro W hSw
        clear hS
        go_simp
      simp only [Act.put, liA, liB, liC, liD, liE, liF]
      refine wpAnyH_all (rs := [28]) (by kernel_rfl) (by simp) ?_
      refine AllReadyH.cons rfl (fun K2 hK2 => ?_) AllReadyH.nil
      go_simp
      refine hK2.out _ _ hS (fun hS2 => ?_)
      clear hK2 K2 hS2
      refine wpAnyH_done (by kernel_rfl) ?_ _
      have HE : Hid (Below w.heap.size w u2) := HB1.out.trans (hS.1.1.b.mono HB1.out.size)
      clear hS
      go_wp2_with fail
      go_ret
      exact ⟨rfl, HE.out⟩
  · by_cases h1 : n ≤ 1048576
    · have h2 : ¬ m ≤ 1048576 := fun e => hb ⟨h1, e⟩
      have hd1 : decide ((1048576 : Int) < (n : Int)) = false := decide_eq_false (by omega)
      have hd2 : decide ((1048576 : Int) < (m : Int)) = true := decide_eq_true (by omega)
      clear h h'
      go_enter Tryz.func3, Tryz.ntmps3
      go_wp2_with fail
      go_ret
      exact ⟨rfl, Below.refl _ _⟩
    · have hd1 : decide ((1048576 : Int) < (n : Int)) = true := decide_eq_true (by omega)
      clear h h'
      go_enter Tryz.func3, Tryz.ntmps3
      go_wp2_with fail
      go_ret
      exact ⟨rfl, Below.refl _ _⟩
end Go.Proofs.YtaamahohdnbpiaaGreat
