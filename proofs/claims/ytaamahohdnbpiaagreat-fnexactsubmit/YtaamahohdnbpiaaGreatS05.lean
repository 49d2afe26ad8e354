import Derived.Test.YtaamahohdnbpiaaGreatS04
namespace Go.Proofs.YtaamahohdnbpiaaGreat
open Go.RowKit
set_option linter.unusedVariables false
set_option maxHeartbeats 8000000 in
set_option maxRecDepth 40000 in
/-- laws.FnExactSubmit -/
theorem lawSubmit (H : Ho) (s : Sl) (t : Int) (F : R5) (fa : Option Addr) (fm fc : Nat) (w : World) (h : isHo w H s) (hn : H.le 9223372036854775807) (hf : isBytes w fa fm fc F.l) (hfm : fm ≤ 9223372036854775807) (hwt : (Lit.int .i64 t).wf = true) :
    Calls Tryz.prog 12 #[hoV H s, .int .i64 t, frV F.e F.i F.r F.d fa fm fc] w fun o w' => o = .returned (.bool true) ∧ Below w.heap.size w w' := by
  rw [hoV_L]
  obtain ⟨T, hR⟩ := okRel_ex H (subHo H t F)
  have HS : Hid (∀ X, isHo X H s → Calls Tryz.prog 35 #[.agg (hoL H s).toArray, .int .i64 1048576] X fun o w' => ∃ z : Int, o = .returned (.int .i64 z) ∧ Below X.heap.size X w' ∧ (z = -1 ∨ ∃ m' : Nat, z = (m' : Int) ∧ m' ≤ 1048576 ∧ H.le 1048576)) := fun X hX => szL2 X H s hX hn
  have HSF : Hid (∀ X m, m ≤ 1048576 → Calls Tryz.prog 45 #[frV F.e F.i F.r F.d fa fm fc, .int .i64 ((m : Nat) : Int)] X fun o w' => ∃ z : Int, o = .returned (.int .i64 z) ∧ Below X.heap.size X w' ∧ (z = -1 ∨ ∃ m' : Nat, z = (m' : Int) ∧ fm ≤ 1048576)) := fun X m hm => szF2 X F fa fm fc m hfm hm
  have HA0 : Hid (lfA w H s F fa fm fc ((w.alloc (.cells (hoL H s).toArray 61)).alloc (.cells [.bool F.e, .int .u32 (F.i : Int), .bool F.r, .int .i64 F.d, .slice fa fm fc].toArray 71))) := lfA.new h hf
  have HH0 : Hid (isHo w H s) := h
  have HF0 : Hid (isBytes w fa fm fc F.l) := hf
  clear h hn hf hfm
  go_enter Tryz.func12, Tryz.ntmps12
  go_wp2_with (first | (refine wpList_load_mid (P := Tryz.prog) rfl 61 _ rfl w.heap.size 0 rfl (hoL H s) _ HA0.out.p.load Tryz.underlying61 rfl (sz61L H s) ?_))
  refine (HS.out _ HA0.out.h).mono ?_
  rintro o w1 ⟨z, rfl, b1, h1⟩
  have HA1 : Hid (lfA w H s F fa fm fc w1) := HA0.out.below b1
  clear b1 HA0 HS
  rcases h1 with rfl | ⟨m1, rfl, hm1, hle⟩
  · go_wp2_with fail
    go_ret
    exact ⟨rfl, HA1.out.b⟩
  go_wp2_with (first | (refine wpList_load_mid (P := Tryz.prog) rfl 71 _ rfl (w.heap.size + 1) 0 rfl [.bool F.e, .int .u32 (F.i : Int), .bool F.r, .int .i64 F.d, .slice fa fm fc] _ HA1.out.f.load Tryz.underlying71 rfl sz71 ?_))
  refine (HSF.out w1 m1 hm1).mono ?_
  rintro o w2 ⟨z, rfl, b2, h2⟩
  have HA2 : Hid (lfA w H s F fa fm fc w2) := HA1.out.below b2
  clear b2 HA1 HSF hm1
  rcases h2 with rfl | ⟨m2, rfl, hfm⟩
  · go_wp2_with fail
    go_ret
    exact ⟨rfl, HA2.out.b⟩
  have HTO : Hid (∀ X, isHo X H s → Calls Tryz.prog 36 #[.agg (hoL H s).toArray] X fun o w' => ∃ s' : Wh, o = .returned (.agg (hoL H s'.sl).toArray) ∧ St X.heap.size w' (fun W => isHo W H s'.sl) ∧ whS X.heap.size w'.heap.size w' s' ∧ whD s' ∧ slSome s'.sl ∧ Below X.heap.size X w') := fun X hX => toWh X H s hX hle
  have HTF : Hid (∀ X, isBytes X fa fm fc F.l → Calls Tryz.prog 47 #[frV F.e F.i F.r F.d fa fm fc] X fun o w' => ∃ g, o = .returned (frV F.e F.i F.r F.d (some ⟨g, 0, none⟩) fm fm) ∧ isBytes w' (some ⟨g, 0, none⟩) fm fm F.l ∧ Below X.heap.size X w' ∧ X.heap.size ≤ g ∧ g < w'.heap.size ∧ rowF w' g fm) := fun X hX => toFrame_any X _ _ _ _ _ _ _ _ hX hfm
  have HSP : Hid (∀ X s' g, isHo X H s' → slSome s' → isBytes X (some ⟨g, 0, none⟩) fm fm F.l → Calls Tryz.prog 24 #[.agg (hoL H s').toArray, .int .i64 t, frV F.e F.i F.r F.d (some ⟨g, 0, none⟩) fm fm] X fun o w' => ∃ s2, o = .returned (.agg (hoL T s2).toArray) ∧ St X.heap.size w' (fun V => isHo V T s2) ∧ Below X.heap.size X w') := fun X s' g h' _ hb => specSubmit_any X H s' t F _ _ _ T hR h' hle hb hfm
  have HIM : Hid (∀ X s' g, isHo X H s' → slSome s' → isBytes X (some ⟨g, 0, none⟩) fm fm F.l → Calls Tryz.prog 15 #[.agg (hoL H s').toArray, .int .i64 t, frV F.e F.i F.r F.d (some ⟨g, 0, none⟩) fm fm] X fun o w' => ∃ sg, o = .returned (.agg (hoL T sg).toArray) ∧ St X.heap.size w' (fun W => isHo W T sg) ∧ MKQ X.heap.size T sg w' ∧ Below X.heap.size X w') := fun X s' g h' hs' hb => implTSubmit X H s' t F _ _ _ T hR h' hs' hle hb hfm hwt
  have HQ : Hid (∀ X s1 s2, isHo X T s1 → isHo X T s2 → Calls Tryz.prog 37 #[.agg (hoL T s1).toArray, .agg (hoL T s2).toArray] X fun o w' => o = .returned (.bool true) ∧ Below X.heap.size X w') := fun X s1 s2 h1 h2 => eqT X _ s1 s2 h1 h2 (subR_le hR hle hfm HF0.out.len)
  have HQH : Hid (∀ X s1 s2, isHo X H s1 → isHo X H s2 → Calls Tryz.prog 37 #[.agg (hoL H s1).toArray, .agg (hoL H s2).toArray] X fun o w' => o = .returned (.bool true) ∧ Below X.heap.size X w') := fun X s1 s2 h1 h2 => eqT X _ s1 s2 h1 h2 hle
  have HQF : Hid (∀ X g1 g2, isBytes X (some ⟨g1, 0, none⟩) fm fm F.l → isBytes X (some ⟨g2, 0, none⟩) fm fm F.l → Calls Tryz.prog 49 #[frV F.e F.i F.r F.d (some ⟨g1, 0, none⟩) fm fm, frV F.e F.i F.r F.d (some ⟨g2, 0, none⟩) fm fm] X fun o w' => o = .returned (.bool true) ∧ Below X.heap.size X w') := fun X g1 g2 h1 h2 => eqFrame_same X _ _ _ _ _ _ _ _ h1 _ _ _ h2 hfm
  have HFM : Hid (fm ≤ 1048576) := hfm
  clear hR hle hfm hwt
  go_wp2_with fail
  refine reg_join (Q1 := fun a a' W' => ∃ (s1 : Wh) (g1 : Nat) (sw : Sl) (bw : Nat), a' = (((((((a.put (some 26) (.agg (hoL H s).toArray)).put (some 27) (.agg (hoL H s1.sl).toArray)).put (some 28) (.int .i64 t)).put (some 29) (.agg [.bool F.e, .int .u32 (F.i : Int), .bool F.r, .int .i64 F.d, .slice fa fm fc].toArray)).put (some 30) (.agg [.bool F.e, .int .u32 (F.i : Int), .bool F.r, .int .i64 F.d, .slice (some ⟨g1, 0, none⟩) fm fm].toArray)).put (some 31) (.agg (hoL T sw).toArray)).put (some 8) (.pointer (some ⟨bw, 0, none⟩))) ∧ lfS w H s F fa fm fc T bw sw W') ?_ ?_
  · refine wp_region_held (S := fun X => lfA w H s F fa fm fc X) (by kernel_rfl) ?_
    have hS : lfA w H s F fa fm fc (World.drew w2) := HA2.out.below (Below.refl _ _).drew
    change wpAnyH Tryz.prog _ _ _ _ _ _ _ (World.drew w2)
    generalize World.drew w2 = v0 at *
    refine wpAnyH_take (i := 0) (v := .agg (hoL H s).toArray) rfl (by kernel_rfl) (by kernel_rfl) (by kernel_rfl) (fun _ _ _ h => nomatch h.1) (yieldsIf_load_mid (by rfl) 61 _ rfl w.heap.size 0 rfl (hoL H s) _ (fun X h => h.p.load) Tryz.underlying61 rfl (sz61L H s)) hS ?_
    simp only [Act.put, List.setIfInBounds_toArray, List.set_cons_zero, List.set_cons_succ, List.getElem_toArray, List.getElem_cons_zero]
    refine wpAnyH_take (i := 2) (v := .int .i64 t) rfl (by kernel_rfl) (by kernel_rfl) (by kernel_rfl) (fun _ _ _ h => nomatch h.1) (Or.inl ⟨by rfl, ?_⟩) hS ?_
    · intro W hSw
      clear hS
      go_simp
    simp only [Act.put, List.setIfInBounds_toArray, List.set_cons_zero, List.set_cons_succ, List.getElem_toArray, List.getElem_cons_zero, List.getElem_cons_succ]
    refine wpAnyH_take (i := 3) (v := .agg [.bool F.e, .int .u32 (F.i : Int), .bool F.r, .int .i64 F.d, .slice fa fm fc].toArray) rfl (by kernel_rfl) (by kernel_rfl) (by kernel_rfl) (fun _ _ _ h => nomatch h.1) (yieldsIf_load_mid (by rfl) 71 _ rfl (w.heap.size + 1) 0 rfl [.bool F.e, .int .u32 (F.i : Int), .bool F.r, .int .i64 F.d, .slice fa fm fc] _ (fun X h => h.f.load) Tryz.underlying71 rfl sz71) hS ?_
    simp only [Act.put, List.setIfInBounds_toArray, List.set_cons_zero, List.set_cons_succ, List.getElem_toArray, List.getElem_cons_zero, List.getElem_cons_succ]
    refine wpAnyH_all (rs := [1, 6]) (by kernel_rfl) (by simp) ?_
    refine AllReadyH.cons rfl (fun K2 hK2 => ?_) (AllReadyH.cons rfl (fun K2 hK2 => ?_) AllReadyH.nil)
    · go_simp
      refine (HTO.out v0 hS.h).mono ?_
      rintro o v1 ⟨s1, rfl, S1, _, _, S1s, b1⟩
      have HXv1 : Hid (isHo v1 H s1.sl ∧ slSome s1.sl) := ⟨S1.now, S1s⟩
      have hS5 : lfA w H s F fa fm fc v1 := hS.below b1
      clear S1 S1s b1
      go_wp2_with fail
      refine hK2.out _ _ hS5 (fun hS2 => ?_)
      clear hK2 K2 hS hS5
      have hS := hS2
      clear hS2
      refine wpAnyH_all (rs := [4, 6]) (by kernel_rfl) (by simp) ?_
      refine AllReadyH.cons rfl (fun K2 hK2 => ?_) (AllReadyH.cons rfl (fun K2 hK2 => ?_) AllReadyH.nil)
      · go_simp
        refine (HTF.out v1 hS.d).mono ?_
        rintro o v2 ⟨g1, rfl, d1, b1, _, _, _⟩
        have HXv2 : Hid (isHo v2 H s1.sl ∧ slSome s1.sl) := ⟨HXv1.out.1.below b1, HXv1.out.2⟩
        have HYv2 : Hid (isBytes v2 (some ⟨g1, 0, none⟩) fm fm F.l) := d1
        have hS5 : lfA w H s F fa fm fc v2 := hS.below b1
        clear d1 b1
        go_wp2_with fail
        refine hK2.out _ _ hS5 (fun hS2 => ?_)
        clear hK2 K2 hS hS5
        have hS := hS2
        clear hS2
        refine wpAnyH_all (rs := [5, 6]) (by kernel_rfl) (by simp) ?_
        refine AllReadyH.cons rfl (fun K2 hK2 => ?_) (AllReadyH.cons rfl (fun K2 hK2 => ?_) AllReadyH.nil)
        · go_simp
          refine (HSP.out v2 s1.sl g1 HXv2.out.1 HXv2.out.2 HYv2.out).mono ?_
          rintro o v3 ⟨sw, rfl, S3, b1⟩
          have HTv3 : Hid (St v2.heap.size v3 (fun V => isHo V T sw)) := S3
          have hS5 : lfA w H s F fa fm fc v3 := hS.below b1
          clear S3 b1
          go_wp2_with fail
          refine hK2.out _ _ hS5 (fun hS2 => ?_)
          clear hK2 K2 hS hS5
          have hS := hS2
          clear hS2
          refine wpAnyH_all (rs := [6]) (by kernel_rfl) (by simp) ?_
          refine AllReadyH.cons rfl (fun K2 hK2 => ?_) AllReadyH.nil
          go_simp
          have bA : Below v3.heap.size v3 (v3.alloc (.cells [.int .i64 0, .int .i64 0, .int .i64 0, .int .i64 0, .slice none 0 0, .slice none 0 0, .slice none 0 0, .slice none 0 0, .int .i64 0, .int .i64 0].toArray 35)) := (Below.refl _ _).alloc (Nat.le_refl _) _
          have hS5 : lfA w H s F fa fm fc (v3.alloc (.cells [.int .i64 0, .int .i64 0, .int .i64 0, .int .i64 0, .slice none 0 0, .slice none 0 0, .slice none 0 0, .slice none 0 0, .int .i64 0, .int .i64 0].toArray 35)) := hS.below bA
          have HBv4 : Hid (blk (v3.alloc (.cells [.int .i64 0, .int .i64 0, .int .i64 0, .int .i64 0, .slice none 0 0, .slice none 0 0, .slice none 0 0, .slice none 0 0, .int .i64 0, .int .i64 0].toArray 35)) v3.heap.size [.int .i64 0, .int .i64 0, .int .i64 0, .int .i64 0, .slice none 0 0, .slice none 0 0, .slice none 0 0, .slice none 0 0, .int .i64 0, .int .i64 0] 35) := blk.new v3 _ 35
          have HGv4 : Hid (w.heap.size + 1 < v3.heap.size) := hS.f.lt
          have HAGv4 : Hid (∀ x, x < v3.heap.size → (v3.alloc (.cells [.int .i64 0, .int .i64 0, .int .i64 0, .int .i64 0, .slice none 0 0, .slice none 0 0, .slice none 0 0, .slice none 0 0, .int .i64 0, .int .i64 0].toArray 35)).heap[x]? = v3.heap[x]?) := fun x hx => bA.block x hx
          refine hK2.out _ _ hS5 (fun hS2 => ?_)
          clear hK2 K2 hS hS5 bA
          have hS := hS2
          clear hS2
          generalize (v3.alloc (.cells [.int .i64 0, .int .i64 0, .int .i64 0, .int .i64 0, .slice none 0 0, .slice none 0 0, .slice none 0 0, .slice none 0 0, .int .i64 0, .int .i64 0].toArray 35)) = v4 at *
          refine wpAnyH_all (rs := [7]) (by kernel_rfl) (by simp) ?_
          refine AllReadyH.cons rfl (fun K2 hK2 => ?_) AllReadyH.nil
          rw [if_pos (by rfl)]
          refine wp_store_mid 35 _ _ rfl (v3.heap.size) 0 (hoL T sw).toArray rfl rfl (HBv4.out.there 0 _ (by rw [List.size_toArray, hoL_len]; decide)) (sz41A _ _) (hoL_one _ _) ?_
          have hbw : w.heap.size + 1 < v3.heap.size := HGv4.out
          have hS5 : lfA w H s F fa fm fc (v4.setCells (v3.heap.size) 0 (hoL T sw)) := hS.put HH0.out HF0.out hbw _
          have hT5 : isHo (v4.setCells (v3.heap.size) 0 (hoL T sw)) T sw := HTv3.out _ (fun x h1 h2 => (setCells_other _ x (by omega) _ _ _).trans (HAGv4.out x h2))
          have hq5 : blk (v4.setCells (v3.heap.size) 0 (hoL T sw)) (v3.heap.size) (hoL T sw) 35 := put_host HBv4.out (hoL_len _ _)
          refine hK2.out _ _ hS5 (fun hS2 => ?_)
          clear hK2 K2 hS hS2
          refine wpAnyH_done (by kernel_rfl) ?_ _
          refine ⟨rfl, s1, g1, sw, v3.heap.size, ?_, ⟨hS5, hq5, hT5⟩⟩
          rfl
        · go_simp
          have bA : Below v2.heap.size v2 (v2.alloc (.cells [.int .i64 0, .int .i64 0, .int .i64 0, .int .i64 0, .slice none 0 0, .slice none 0 0, .slice none 0 0, .slice none 0 0, .int .i64 0, .int .i64 0].toArray 35)) := (Below.refl _ _).alloc (Nat.le_refl _) _
          have hS5 : lfA w H s F fa fm fc (v2.alloc (.cells [.int .i64 0, .int .i64 0, .int .i64 0, .int .i64 0, .slice none 0 0, .slice none 0 0, .slice none 0 0, .slice none 0 0, .int .i64 0, .int .i64 0].toArray 35)) := hS.below bA
          have HBv5 : Hid (blk (v2.alloc (.cells [.int .i64 0, .int .i64 0, .int .i64 0, .int .i64 0, .slice none 0 0, .slice none 0 0, .slice none 0 0, .slice none 0 0, .int .i64 0, .int .i64 0].toArray 35)) v2.heap.size [.int .i64 0, .int .i64 0, .int .i64 0, .int .i64 0, .slice none 0 0, .slice none 0 0, .slice none 0 0, .slice none 0 0, .int .i64 0, .int .i64 0] 35) := blk.new v2 _ 35
          have HGv5 : Hid (w.heap.size + 1 < v2.heap.size) := hS.f.lt
          have HXv5 : Hid (isHo (v2.alloc (.cells [.int .i64 0, .int .i64 0, .int .i64 0, .int .i64 0, .slice none 0 0, .slice none 0 0, .slice none 0 0, .slice none 0 0, .int .i64 0, .int .i64 0].toArray 35)) H s1.sl ∧ slSome s1.sl) := ⟨HXv2.out.1.below bA, HXv2.out.2⟩
          have HYv5 : Hid (isBytes (v2.alloc (.cells [.int .i64 0, .int .i64 0, .int .i64 0, .int .i64 0, .slice none 0 0, .slice none 0 0, .slice none 0 0, .slice none 0 0, .int .i64 0, .int .i64 0].toArray 35)) (some ⟨g1, 0, none⟩) fm fm F.l) := HYv2.out.below bA
          refine hK2.out _ _ hS5 (fun hS2 => ?_)
          clear hK2 K2 hS hS5 bA
          have hS := hS2
          clear hS2
          generalize (v2.alloc (.cells [.int .i64 0, .int .i64 0, .int .i64 0, .int .i64 0, .slice none 0 0, .slice none 0 0, .slice none 0 0, .slice none 0 0, .int .i64 0, .int .i64 0].toArray 35)) = v5 at *
          refine wpAnyH_all (rs := [5]) (by kernel_rfl) (by simp) ?_
          refine AllReadyH.cons rfl (fun K2 hK2 => ?_) AllReadyH.nil
          go_simp
          refine (HSP.out v5 s1.sl g1 HXv5.out.1 HXv5.out.2 HYv5.out).mono ?_
          rintro o v6 ⟨sw, rfl, S3, b1⟩
          have HTv6 : Hid (St v5.heap.size v6 (fun V => isHo V T sw)) := S3
          have HBWv6 : Hid (blk v6 v2.heap.size [.int .i64 0, .int .i64 0, .int .i64 0, .int .i64 0, .slice none 0 0, .slice none 0 0, .slice none 0 0, .slice none 0 0, .int .i64 0, .int .i64 0] 35) := HBv5.out.below b1
          have HLTv6 : Hid (v2.heap.size < v5.heap.size) := HBv5.out.lt
          have hS5 : lfA w H s F fa fm fc v6 := hS.below b1
          clear S3 b1
          go_wp2_with fail
          refine hK2.out _ _ hS5 (fun hS2 => ?_)
          clear hK2 K2 hS hS5
          have hS := hS2
          clear hS2
          refine wpAnyH_all (rs := [7]) (by kernel_rfl) (by simp) ?_
          refine AllReadyH.cons rfl (fun K2 hK2 => ?_) AllReadyH.nil
          rw [if_pos (by rfl)]
          refine wp_store_mid 35 _ _ rfl (v2.heap.size) 0 (hoL T sw).toArray rfl rfl (HBWv6.out.there 0 _ (by rw [List.size_toArray, hoL_len]; decide)) (sz41A _ _) (hoL_one _ _) ?_
          have hbw : w.heap.size + 1 < v2.heap.size := HGv5.out
          have hS5 : lfA w H s F fa fm fc (v6.setCells (v2.heap.size) 0 (hoL T sw)) := hS.put HH0.out HF0.out hbw _
          have hT5 : isHo (v6.setCells (v2.heap.size) 0 (hoL T sw)) T sw := HTv6.out _ (fun x h1 h2 => setCells_other _ x (by have := HLTv6.out; omega) _ _ _)
          have hq5 : blk (v6.setCells (v2.heap.size) 0 (hoL T sw)) (v2.heap.size) (hoL T sw) 35 := put_host HBWv6.out (hoL_len _ _)
          refine hK2.out _ _ hS5 (fun hS2 => ?_)
          clear hK2 K2 hS hS2
          refine wpAnyH_done (by kernel_rfl) ?_ _
          refine ⟨rfl, s1, g1, sw, v2.heap.size, ?_, ⟨hS5, hq5, hT5⟩⟩
          rfl
      · go_simp
        have bA : Below v1.heap.size v1 (v1.alloc (.cells [.int .i64 0, .int .i64 0, .int .i64 0, .int .i64 0, .slice none 0 0, .slice none 0 0, .slice none 0 0, .slice none 0 0, .int .i64 0, .int .i64 0].toArray 35)) := (Below.refl _ _).alloc (Nat.le_refl _) _
        have hS5 : lfA w H s F fa fm fc (v1.alloc (.cells [.int .i64 0, .int .i64 0, .int .i64 0, .int .i64 0, .slice none 0 0, .slice none 0 0, .slice none 0 0, .slice none 0 0, .int .i64 0, .int .i64 0].toArray 35)) := hS.below bA
        have HBv7 : Hid (blk (v1.alloc (.cells [.int .i64 0, .int .i64 0, .int .i64 0, .int .i64 0, .slice none 0 0, .slice none 0 0, .slice none 0 0, .slice none 0 0, .int .i64 0, .int .i64 0].toArray 35)) v1.heap.size [.int .i64 0, .int .i64 0, .int .i64 0, .int .i64 0, .slice none 0 0, .slice none 0 0, .slice none 0 0, .slice none 0 0, .int .i64 0, .int .i64 0] 35) := blk.new v1 _ 35
        have HGv7 : Hid (w.heap.size + 1 < v1.heap.size) := hS.f.lt
        have HXv7 : Hid (isHo (v1.alloc (.cells [.int .i64 0, .int .i64 0, .int .i64 0, .int .i64 0, .slice none 0 0, .slice none 0 0, .slice none 0 0, .slice none 0 0, .int .i64 0, .int .i64 0].toArray 35)) H s1.sl ∧ slSome s1.sl) := ⟨HXv1.out.1.below bA, HXv1.out.2⟩
        refine hK2.out _ _ hS5 (fun hS2 => ?_)
        clear hK2 K2 hS hS5 bA
        have hS := hS2
        clear hS2
        generalize (v1.alloc (.cells [.int .i64 0, .int .i64 0, .int .i64 0, .int .i64 0, .slice none 0 0, .slice none 0 0, .slice none 0 0, .slice none 0 0, .int .i64 0, .int .i64 0].toArray 35)) = v7 at *
        refine wpAnyH_all (rs := [4]) (by kernel_rfl) (by simp) ?_
        refine AllReadyH.cons rfl (fun K2 hK2 => ?_) AllReadyH.nil
        go_simp
        refine (HTF.out v7 hS.d).mono ?_
        rintro o v8 ⟨g1, rfl, d1, b1, _, _, _⟩
        have HXv8 : Hid (isHo v8 H s1.sl ∧ slSome s1.sl) := ⟨HXv7.out.1.below b1, HXv7.out.2⟩
        have HYv8 : Hid (isBytes v8 (some ⟨g1, 0, none⟩) fm fm F.l) := d1
        have HBWv8 : Hid (blk v8 v1.heap.size [.int .i64 0, .int .i64 0, .int .i64 0, .int .i64 0, .slice none 0 0, .slice none 0 0, .slice none 0 0, .slice none 0 0, .int .i64 0, .int .i64 0] 35) := HBv7.out.below b1
        have hS5 : lfA w H s F fa fm fc v8 := hS.below b1
        clear d1 b1
        go_wp2_with fail
        refine hK2.out _ _ hS5 (fun hS2 => ?_)
        clear hK2 K2 hS hS5
        have hS := hS2
        clear hS2
        refine wpAnyH_all (rs := [5]) (by kernel_rfl) (by simp) ?_
        refine AllReadyH.cons rfl (fun K2 hK2 => ?_) AllReadyH.nil
        go_simp
        refine (HSP.out v8 s1.sl g1 HXv8.out.1 HXv8.out.2 HYv8.out).mono ?_
        rintro o v9 ⟨sw, rfl, S3, b1⟩
        have HTv9 : Hid (St v8.heap.size v9 (fun V => isHo V T sw)) := S3
        have HBWv9 : Hid (blk v9 v1.heap.size [.int .i64 0, .int .i64 0, .int .i64 0, .int .i64 0, .slice none 0 0, .slice none 0 0, .slice none 0 0, .slice none 0 0, .int .i64 0, .int .i64 0] 35) := HBWv8.out.below b1
        have HLTv9 : Hid (v1.heap.size < v8.heap.size) := HBWv8.out.lt
        have hS5 : lfA w H s F fa fm fc v9 := hS.below b1
        clear S3 b1
        go_wp2_with fail
        refine hK2.out _ _ hS5 (fun hS2 => ?_)
        clear hK2 K2 hS hS5
        have hS := hS2
        clear hS2
        refine wpAnyH_all (rs := [7]) (by kernel_rfl) (by simp) ?_
        refine AllReadyH.cons rfl (fun K2 hK2 => ?_) AllReadyH.nil
        rw [if_pos (by rfl)]
        refine wp_store_mid 35 _ _ rfl (v1.heap.size) 0 (hoL T sw).toArray rfl rfl (HBWv9.out.there 0 _ (by rw [List.size_toArray, hoL_len]; decide)) (sz41A _ _) (hoL_one _ _) ?_
        have hbw : w.heap.size + 1 < v1.heap.size := HGv7.out
        have hS5 : lfA w H s F fa fm fc (v9.setCells (v1.heap.size) 0 (hoL T sw)) := hS.put HH0.out HF0.out hbw _
        have hT5 : isHo (v9.setCells (v1.heap.size) 0 (hoL T sw)) T sw := HTv9.out _ (fun x h1 h2 => setCells_other _ x (by have := HLTv9.out; omega) _ _ _)
        have hq5 : blk (v9.setCells (v1.heap.size) 0 (hoL T sw)) (v1.heap.size) (hoL T sw) 35 := put_host HBWv9.out (hoL_len _ _)
        refine hK2.out _ _ hS5 (fun hS2 => ?_)
        clear hK2 K2 hS hS2
        refine wpAnyH_done (by kernel_rfl) ?_ _
        refine ⟨rfl, s1, g1, sw, v1.heap.size, ?_, ⟨hS5, hq5, hT5⟩⟩
        rfl
    · go_simp
      have bA : Below v0.heap.size v0 (v0.alloc (.cells [.int .i64 0, .int .i64 0, .int .i64 0, .int .i64 0, .slice none 0 0, .slice none 0 0, .slice none 0 0, .slice none 0 0, .int .i64 0, .int .i64 0].toArray 35)) := (Below.refl _ _).alloc (Nat.le_refl _) _
      have hS5 : lfA w H s F fa fm fc (v0.alloc (.cells [.int .i64 0, .int .i64 0, .int .i64 0, .int .i64 0, .slice none 0 0, .slice none 0 0, .slice none 0 0, .slice none 0 0, .int .i64 0, .int .i64 0].toArray 35)) := hS.below bA
      have HBv10 : Hid (blk (v0.alloc (.cells [.int .i64 0, .int .i64 0, .int .i64 0, .int .i64 0, .slice none 0 0, .slice none 0 0, .slice none 0 0, .slice none 0 0, .int .i64 0, .int .i64 0].toArray 35)) v0.heap.size [.int .i64 0, .int .i64 0, .int .i64 0, .int .i64 0, .slice none 0 0, .slice none 0 0, .slice none 0 0, .slice none 0 0, .int .i64 0, .int .i64 0] 35) := blk.new v0 _ 35
      have HGv10 : Hid (w.heap.size + 1 < v0.heap.size) := hS.f.lt
      refine hK2.out _ _ hS5 (fun hS2 => ?_)
      clear hK2 K2 hS hS5 bA
      have hS := hS2
      clear hS2
      generalize (v0.alloc (.cells [.int .i64 0, .int .i64 0, .int .i64 0, .int .i64 0, .slice none 0 0, .slice none 0 0, .slice none 0 0, .slice none 0 0, .int .i64 0, .int .i64 0].toArray 35)) = v10 at *
      refine wpAnyH_all (rs := [1]) (by kernel_rfl) (by simp) ?_
      refine AllReadyH.cons rfl (fun K2 hK2 => ?_) AllReadyH.nil
      go_simp
      refine (HTO.out v10 hS.h).mono ?_
      rintro o v11 ⟨s1, rfl, S1, _, _, S1s, b1⟩
      have HXv11 : Hid (isHo v11 H s1.sl ∧ slSome s1.sl) := ⟨S1.now, S1s⟩
      have HBWv11 : Hid (blk v11 v0.heap.size [.int .i64 0, .int .i64 0, .int .i64 0, .int .i64 0, .slice none 0 0, .slice none 0 0, .slice none 0 0, .slice none 0 0, .int .i64 0, .int .i64 0] 35) := HBv10.out.below b1
      have hS5 : lfA w H s F fa fm fc v11 := hS.below b1
      clear S1 S1s b1
      go_wp2_with fail
      refine hK2.out _ _ hS5 (fun hS2 => ?_)
      clear hK2 K2 hS hS5
      have hS := hS2
      clear hS2
      refine wpAnyH_all (rs := [4]) (by kernel_rfl) (by simp) ?_
      refine AllReadyH.cons rfl (fun K2 hK2 => ?_) AllReadyH.nil
      go_simp
      refine (HTF.out v11 hS.d).mono ?_
      rintro o v12 ⟨g1, rfl, d1, b1, _, _, _⟩
      have HXv12 : Hid (isHo v12 H s1.sl ∧ slSome s1.sl) := ⟨HXv11.out.1.below b1, HXv11.out.2⟩
      have HYv12 : Hid (isBytes v12 (some ⟨g1, 0, none⟩) fm fm F.l) := d1
      have HBWv12 : Hid (blk v12 v0.heap.size [.int .i64 0, .int .i64 0, .int .i64 0, .int .i64 0, .slice none 0 0, .slice none 0 0, .slice none 0 0, .slice none 0 0, .int .i64 0, .int .i64 0] 35) := HBWv11.out.below b1
      have hS5 : lfA w H s F fa fm fc v12 := hS.below b1
      clear d1 b1
      go_wp2_with fail
      refine hK2.out _ _ hS5 (fun hS2 => ?_)
      clear hK2 K2 hS hS5
      have hS := hS2
      clear hS2
      refine wpAnyH_all (rs := [5]) (by kernel_rfl) (by simp) ?_
      refine AllReadyH.cons rfl (fun K2 hK2 => ?_) AllReadyH.nil
      go_simp
      refine (HSP.out v12 s1.sl g1 HXv12.out.1 HXv12.out.2 HYv12.out).mono ?_
      rintro o v13 ⟨sw, rfl, S3, b1⟩
      have HTv13 : Hid (St v12.heap.size v13 (fun V => isHo V T sw)) := S3
      have HBWv13 : Hid (blk v13 v0.heap.size [.int .i64 0, .int .i64 0, .int .i64 0, .int .i64 0, .slice none 0 0, .slice none 0 0, .slice none 0 0, .slice none 0 0, .int .i64 0, .int .i64 0] 35) := HBWv12.out.below b1
      have HLTv13 : Hid (v0.heap.size < v12.heap.size) := HBWv12.out.lt
      have hS5 : lfA w H s F fa fm fc v13 := hS.below b1
      clear S3 b1
      go_wp2_with fail
      refine hK2.out _ _ hS5 (fun hS2 => ?_)
      clear hK2 K2 hS hS5
      have hS := hS2
      clear hS2
      refine wpAnyH_all (rs := [7]) (by kernel_rfl) (by simp) ?_
      refine AllReadyH.cons rfl (fun K2 hK2 => ?_) AllReadyH.nil
      rw [if_pos (by rfl)]
      refine wp_store_mid 35 _ _ rfl (v0.heap.size) 0 (hoL T sw).toArray rfl rfl (HBWv13.out.there 0 _ (by rw [List.size_toArray, hoL_len]; decide)) (sz41A _ _) (hoL_one _ _) ?_
      have hbw : w.heap.size + 1 < v0.heap.size := HGv10.out
      have hS5 : lfA w H s F fa fm fc (v13.setCells (v0.heap.size) 0 (hoL T sw)) := hS.put HH0.out HF0.out hbw _
      have hT5 : isHo (v13.setCells (v0.heap.size) 0 (hoL T sw)) T sw := HTv13.out _ (fun x h1 h2 => setCells_other _ x (by have := HLTv13.out; omega) _ _ _)
      have hq5 : blk (v13.setCells (v0.heap.size) 0 (hoL T sw)) (v0.heap.size) (hoL T sw) 35 := put_host HBWv13.out (hoL_len _ _)
      refine hK2.out _ _ hS5 (fun hS2 => ?_)
      clear hK2 K2 hS hS2
      refine wpAnyH_done (by kernel_rfl) ?_ _
      refine ⟨rfl, s1, g1, sw, v0.heap.size, ?_, ⟨hS5, hq5, hT5⟩⟩
      rfl
  · rintro a' w4 ⟨s1, g1, sw, bw, rfl, hL4⟩
    have HL4 : Hid (lfS w H s F fa fm fc T bw sw w4) := hL4
    have HH4 : Hid (isHo w4 T sw ∧ isHo w4 H s ∧ isBytes w4 fa fm fc F.l) := ⟨hL4.t, hL4.a.h, hL4.a.d⟩
    clear hL4 HA2 HSP
    simp only [Act.put, List.setIfInBounds_toArray, List.set_cons_zero, List.set_cons_succ]
    go_wp2_with (first | (refine wpList_load_mid (P := Tryz.prog) rfl 61 _ rfl w.heap.size 0 rfl (hoL H s) _ HL4.out.a.p.load Tryz.underlying61 rfl (sz61L H s) ?_))
    refine (HTO.out w4 HL4.out.a.h).mono ?_
    rintro o w5 ⟨s5, rfl, S5, S5w, S5d, S5s, b5⟩
    have HX5 : Hid (lfS w H s F fa fm fc T bw sw w5 ∧ isHo w5 H s5.sl ∧ whS w4.heap.size w5.heap.size w5 s5) := ⟨HL4.out.below b5, S5.now, S5w⟩
    have HD5 : Hid (whD s5 ∧ slSome s5.sl) := ⟨S5d, S5s⟩
    have HB45 : Hid (Below w4.heap.size w4 w5) := b5
    have HZ5 : Hid (bw < w4.heap.size ∧ w.heap.size + 1 < w4.heap.size ∧ w4.heap.size ≤ w5.heap.size) := ⟨HL4.out.q.lt, HL4.out.a.f.lt, b5.size⟩
    clear S5 S5w S5d S5s b5
    have HN5a : Hid (blk (World.setCells (w5.alloc (.cells [.int .i64 0, .int .i64 0, .int .i64 0, .int .i64 0, .slice none 0 0, .slice none 0 0, .slice none 0 0, .slice none 0 0, .int .i64 0, .int .i64 0].toArray 35)) w5.heap.size 0 (hoL H s5.sl)) w5.heap.size (hoL H s5.sl) 35 ∧ Below w5.heap.size w5 (World.setCells (w5.alloc (.cells [.int .i64 0, .int .i64 0, .int .i64 0, .int .i64 0, .slice none 0 0, .slice none 0 0, .slice none 0 0, .slice none 0 0, .int .i64 0, .int .i64 0].toArray 35)) w5.heap.size 0 (hoL H s5.sl))) := new_hostS _ (hoL_len _ _)
    have HN5b : Hid (blk (w5.alloc (.cells [.int .i64 0, .int .i64 0, .int .i64 0, .int .i64 0, .slice none 0 0, .slice none 0 0, .slice none 0 0, .slice none 0 0, .int .i64 0, .int .i64 0].toArray 35)) w5.heap.size [.int .i64 0, .int .i64 0, .int .i64 0, .int .i64 0, .slice none 0 0, .slice none 0 0, .slice none 0 0, .slice none 0 0, .int .i64 0, .int .i64 0] 35) := blk.new w5 _ 35
    go_wp2_with (first
      | (refine wpList_store_mid (P := Tryz.prog) rfl 35 _ _ rfl w5.heap.size 0 (hoL H s5.sl).toArray rfl rfl (HN5b.out.there 0 _ (by rw [List.size_toArray, hoL_len]; decide)) (sz41A _ _) (hoL_one _ _) ?_; generalize hW6 : World.setCells (w5.alloc _) w5.heap.size 0 _ = w6; have HX6 : Hid (lfX w H s F fa fm fc T bw sw w4 w5.heap.size w5.heap.size s5 w6) := (by rw [← hW6]; exact ⟨HX5.out.1.below HN5a.out.2, HN5a.out.1, HX5.out.2.1.below HN5a.out.2, HX5.out.2.2.same (fun x _ hx => HN5a.out.2.block x hx), ⟨HZ5.out.1, HZ5.out.2.1, HZ5.out.2.2, Nat.le_refl _⟩, HB45.out.trans (HN5a.out.2.mono HB45.out.size)⟩); clear hW6 HN5a HN5b)
      | (refine wpList_load_mid (P := Tryz.prog) rfl 71 _ rfl (w.heap.size + 1) 0 rfl [.bool F.e, .int .u32 (F.i : Int), .bool F.r, .int .i64 F.d, .slice fa fm fc] _ HX6.out.l.a.f.load Tryz.underlying71 rfl sz71 ?_))
    clear HX5 HZ5 HL4 HB45
    generalize hT5 : w5.heap.size = bx at *
    clear hT5
    refine (HTF.out w6 HX6.out.l.a.d).mono ?_
    rintro o w6b ⟨gx, rfl, d6, b6, g6a, g6b, r6⟩
    have hbc : Below w6b.heap.size w6b (w6b.alloc (.cells [.bool F.e, .int .u32 (F.i : Int), .bool F.r, .int .i64 F.d, .slice (some ⟨gx, 0, none⟩) fm fm].toArray 25)) := (Below.refl _ _).alloc (Nat.le_refl _) _
    have HY7 : Hid (lfY w H s F fa fm fc T bw sw w4 bx bx s5 gx w6b.heap.size (w6b.alloc (.cells [.bool F.e, .int .u32 (F.i : Int), .bool F.r, .int .i64 F.d, .slice (some ⟨gx, 0, none⟩) fm fm].toArray 25))) := ⟨(HX6.out.below b6).below hbc, blk.new w6b _ 25, d6.below hbc, r6.up (hbc.block _ g6b), ⟨by have := HX6.out.x.lt; omega, g6b⟩⟩
    clear d6 b6 g6a g6b r6 hbc HX6
    generalize hw6c : w6b.alloc (.cells [.bool F.e, .int .u32 (F.i : Int), .bool F.r, .int .i64 F.d, .slice (some ⟨gx, 0, none⟩) fm fm].toArray 25) = w6c at *
    go_wp2_with (first
      | (refine wpList_load_mid (P := Tryz.prog) rfl 35 _ rfl bx 0 rfl (hoL H s5.sl) _ HY7.out.y.x.load Tryz.underlying35 rfl (sz41L H s5.sl) ?_)
      | (refine wpList_load_mid (P := Tryz.prog) rfl 25 _ rfl w6b.heap.size 0 rfl [.bool F.e, .int .u32 (F.i : Int), .bool F.r, .int .i64 F.d, .slice (some ⟨gx, 0, none⟩) fm fm] _ HY7.out.f.load Tryz.underlying25 rfl sz93 ?_))
    clear hw6c
    generalize w6b.heap.size = b2 at *
    refine (HIM.out w6c s5.sl gx HY7.out.y.xh HD5.out.2 HY7.out.d).mono ?_
    rintro o w7 ⟨sg, rfl, S7, M7, b7⟩
    have HY8 : Hid (lfY w H s F fa fm fc T bw sw w4 bx bx s5 gx b2 w7) := HY7.out.below b7
    have HG7 : Hid (St w6c.heap.size w7 (fun W => isHo W T sg) ∧ MKQ w6c.heap.size T sg w7 ∧ w6c.heap.size ≤ w7.heap.size ∧ b2 < w6c.heap.size) := ⟨S7, M7, b7.size, HY7.out.f.lt⟩
    clear S7 M7 b7 HY7
    have HN7a : Hid (blk (World.setCells (w7.alloc (.cells [.int .i64 0, .int .i64 0, .int .i64 0, .int .i64 0, .slice none 0 0, .slice none 0 0, .slice none 0 0, .slice none 0 0, .int .i64 0, .int .i64 0].toArray 35)) w7.heap.size 0 (hoL T sg)) w7.heap.size (hoL T sg) 35 ∧ Below w7.heap.size w7 (World.setCells (w7.alloc (.cells [.int .i64 0, .int .i64 0, .int .i64 0, .int .i64 0, .slice none 0 0, .slice none 0 0, .slice none 0 0, .slice none 0 0, .int .i64 0, .int .i64 0].toArray 35)) w7.heap.size 0 (hoL T sg))) := new_hostS _ (hoL_len _ _)
    have HN7b : Hid (blk (w7.alloc (.cells [.int .i64 0, .int .i64 0, .int .i64 0, .int .i64 0, .slice none 0 0, .slice none 0 0, .slice none 0 0, .slice none 0 0, .int .i64 0, .int .i64 0].toArray 35)) w7.heap.size [.int .i64 0, .int .i64 0, .int .i64 0, .int .i64 0, .slice none 0 0, .slice none 0 0, .slice none 0 0, .slice none 0 0, .int .i64 0, .int .i64 0] 35) := blk.new w7 _ 35
    go_wp2_with (first
      | (refine wpList_store_mid (P := Tryz.prog) rfl 35 _ _ rfl w7.heap.size 0 (hoL T sg).toArray rfl rfl (HN7b.out.there 0 _ (by rw [List.size_toArray, hoL_len]; decide)) (sz41A _ _) (hoL_one _ _) ?_; generalize hW8 : World.setCells (w7.alloc _) w7.heap.size 0 _ = w8; have HX8 : Hid (lfY w H s F fa fm fc T bw sw w4 bx bx s5 gx b2 w8 ∧ blk w8 w7.heap.size (hoL T sg) 35 ∧ Below w7.heap.size w7 w8) := (by rw [← hW8]; exact ⟨HY8.out.below HN7a.out.2, HN7a.out.1, HN7a.out.2⟩); clear hW8 HN7a HN7b)
      | (refine wpList_load_mid (P := Tryz.prog) rfl 35 _ rfl w7.heap.size 0 rfl (hoL T sg) _ HX8.out.2.1.load Tryz.underlying35 rfl (sz41L T sg) ?_)
      | (refine wpList_load_mid (P := Tryz.prog) rfl 35 _ rfl bw 0 rfl (hoL T sw) _ HX8.out.1.y.l.q.load Tryz.underlying35 rfl (sz41L T sw) ?_))
    have HG8 : Hid (lfG w H s F fa fm fc T bw sw w4 b2 w6c.heap.size w7 w7.heap.size sg w8) := ⟨HX8.out.1.y.l, HX8.out.2.1, fun x h1 h2 => HX8.out.2.2.block x h2, ⟨HG7.out.2.2.2, HG7.out.2.2.1, Nat.le_refl _⟩, ⟨HX8.out.1.y.z.1, HX8.out.1.y.z.2.1, by have := HX8.out.1.y.z; have := HX8.out.1.k; omega⟩, HX8.out.1.y.b4⟩
    have HX9 : Hid (lfY w H s F fa fm fc T bw sw w4 bx bx s5 gx b2 w8) := HX8.out.1
    have HSM : Hid (St w6c.heap.size w7 (fun W => isHo W T sg) ∧ MKQ w6c.heap.size T sg w7) := ⟨HG7.out.1, HG7.out.2.1⟩
    clear HX8 HG7 HY8
    generalize w6c.heap.size = B6 at *
    refine (HQ.out w8 sg sw (HSM.out.1 w8 HG8.out.k) HG8.out.l.t).mono ?_
    rintro o w9 ⟨rfl, b9⟩
    have HX10 : Hid (lfY w H s F fa fm fc T bw sw w4 bx bx s5 gx b2 w9 ∧ lfG w H s F fa fm fc T bw sw w4 b2 B6 w7 w7.heap.size sg w9) := ⟨HX9.out.below b9, HG8.out.below b9⟩
    clear b9 HX9 HG8
    generalize hbg : w7.heap.size = bg at *
    have HBG : Hid (w7.heap.size = bg) := hbg
    clear hbg
    go_wp2_with fail
    refine wp_region_held (S := fun W => lfY w H s F fa fm fc T bw sw w4 bx bx s5 gx b2 W ∧ lfG w H s F fa fm fc T bw sw w4 b2 B6 w7 bg sg W) (by kernel_rfl) ?_
    have hS : lfY w H s F fa fm fc T bw sw w4 bx bx s5 gx b2 w9.drew ∧ lfG w H s F fa fm fc T bw sw w4 b2 B6 w7 bg sg w9.drew := ⟨HX10.out.1.below (Below.refl _ _).drew, HX10.out.2.below (Below.refl _ _).drew⟩
    clear HX10
    change wpAnyH Tryz.prog _ _ _ _ _ _ _ w9.drew
    generalize w9.drew = w10 at *
    refine wpAnyH_take (i := 0) (v := .agg (hoL H s5.sl).toArray) rfl (by kernel_rfl) (by kernel_rfl) (by kernel_rfl) (fun _ _ _ h => h) (yieldsIf_load_mid (by rfl) 35 _ rfl bx 0 rfl (hoL H s5.sl) _ (fun W h => h.1.y.x.load) Tryz.underlying35 rfl (sz41L H s5.sl)) hS ?_
    simp only [Act.put, List.setIfInBounds_toArray, List.set_cons_zero, List.set_cons_succ, List.getElem_toArray, List.getElem_cons_zero]
    refine wpAnyH_take (i := 1) (v := .agg (hoL H s).toArray) rfl (by kernel_rfl) (by kernel_rfl) (by kernel_rfl) (fun _ _ _ h => h) (yieldsIf_load_mid (by rfl) 61 _ rfl w.heap.size 0 rfl (hoL H s) _ (fun W h => h.1.y.l.a.p.load) Tryz.underlying61 rfl (sz61L H s)) hS ?_
    simp only [Act.put, List.setIfInBounds_toArray, List.set_cons_zero, List.set_cons_succ, List.getElem_toArray, List.getElem_cons_zero, List.getElem_cons_succ]
    refine wpAnyH_all (rs := [2]) (by kernel_rfl) (by simp) ?_
    refine AllReadyH.cons rfl (fun K2 hK2 => ?_) AllReadyH.nil
    go_simp
    refine (HTO.out _ hS.1.y.l.a.h).mono ?_
    rintro o w11 ⟨s11, rfl, S11, _, _, _, b11⟩
    have HO11 : Hid (isHo w11 H s11.sl) := S11.now
    have hS11 : lfY w H s F fa fm fc T bw sw w4 bx bx s5 gx b2 w11 ∧ lfG w H s F fa fm fc T bw sw w4 b2 B6 w7 bg sg w11 := ⟨hS.1.below b11, hS.2.below b11⟩
    clear S11 b11
    go_wp2_with fail
    refine hK2.out _ _ hS11 (fun hS2 => ?_)
    clear hS hK2 K2 hS11
    have hS := hS2
    clear hS2
    refine wpAnyH_all (rs := [3]) (by kernel_rfl) (by simp) ?_
    refine AllReadyH.cons rfl (fun K2 hK2 => ?_) AllReadyH.nil
    go_simp
    refine (HQH.out w11 s5.sl s11.sl hS.1.y.xh HO11.out).mono ?_
    rintro o w12 ⟨rfl, b12⟩
    have hS12 : lfY w H s F fa fm fc T bw sw w4 bx bx s5 gx b2 w12 ∧ lfG w H s F fa fm fc T bw sw w4 b2 B6 w7 bg sg w12 := ⟨hS.1.below b12, hS.2.below b12⟩
    clear b12 HO11
    go_wp2_with fail
    refine hK2.out _ _ hS12 (fun hS2 => ?_)
    clear hS hK2 K2 hS12
    have hS := hS2
    clear hS2
    refine wpAnyH_take (i := 4) (v := .bool false) rfl (by kernel_rfl) (by kernel_rfl) (by kernel_rfl) (fun _ _ _ h => h) (Or.inl ⟨by rfl, ?_⟩) hS ?_
    · intro W hSw
      clear hS
      go_simp
    simp only [Act.put, List.setIfInBounds_toArray, List.set_cons_zero, List.set_cons_succ, List.getElem_toArray, List.getElem_cons_zero, List.getElem_cons_succ]
    refine wpAnyH_done (by kernel_rfl) ?_ _
    have HX12 : Hid (lfY w H s F fa fm fc T bw sw w4 bx bx s5 gx b2 w12 ∧ lfG w H s F fa fm fc T bw sw w4 b2 B6 w7 bg sg w12) := hS
    clear hS
    go_wp2_with fail
    refine wp_region_held (S := fun W => lfY w H s F fa fm fc T bw sw w4 bx bx s5 gx b2 W ∧ lfG w H s F fa fm fc T bw sw w4 b2 B6 w7 bg sg W) (by kernel_rfl) ?_
    have hS : lfY w H s F fa fm fc T bw sw w4 bx bx s5 gx b2 w12.drew ∧ lfG w H s F fa fm fc T bw sw w4 b2 B6 w7 bg sg w12.drew := ⟨HX12.out.1.below (Below.refl _ _).drew, HX12.out.2.below (Below.refl _ _).drew⟩
    clear HX12
    change wpAnyH Tryz.prog _ _ _ _ _ _ _ w12.drew
    generalize w12.drew = w20 at *
    refine wpAnyH_take (i := 0) (v := .agg [.bool F.e, .int .u32 (F.i : Int), .bool F.r, .int .i64 F.d, .slice (some ⟨gx, 0, none⟩) fm fm].toArray) rfl (by kernel_rfl) (by kernel_rfl) (by kernel_rfl) (fun _ _ _ h => h) (yieldsIf_load_mid (by rfl) 25 _ rfl b2 0 rfl [.bool F.e, .int .u32 (F.i : Int), .bool F.r, .int .i64 F.d, .slice (some ⟨gx, 0, none⟩) fm fm] _ (fun W h => h.1.f.load) Tryz.underlying25 rfl sz93) hS ?_
    simp only [Act.put, List.setIfInBounds_toArray, List.set_cons_zero, List.set_cons_succ, List.getElem_toArray, List.getElem_cons_zero]
    refine wpAnyH_take (i := 1) (v := .agg [.bool F.e, .int .u32 (F.i : Int), .bool F.r, .int .i64 F.d, .slice fa fm fc].toArray) rfl (by kernel_rfl) (by kernel_rfl) (by kernel_rfl) (fun _ _ _ h => h) (yieldsIf_load_mid (by rfl) 71 _ rfl (w.heap.size + 1) 0 rfl [.bool F.e, .int .u32 (F.i : Int), .bool F.r, .int .i64 F.d, .slice fa fm fc] _ (fun W h => h.1.y.l.a.f.load) Tryz.underlying71 rfl sz71) hS ?_
    simp only [Act.put, List.setIfInBounds_toArray, List.set_cons_zero, List.set_cons_succ, List.getElem_toArray, List.getElem_cons_zero, List.getElem_cons_succ]
    refine wpAnyH_all (rs := [2]) (by kernel_rfl) (by simp) ?_
    refine AllReadyH.cons rfl (fun K2 hK2 => ?_) AllReadyH.nil
    go_simp
    refine (HTF.out _ hS.1.y.l.a.d).mono ?_
    rintro o w21 ⟨g21, rfl, d21, b21, _, _, _⟩
    have HO21 : Hid (isBytes w21 (some ⟨g21, 0, none⟩) fm fm F.l) := d21
    have hS21 : lfY w H s F fa fm fc T bw sw w4 bx bx s5 gx b2 w21 ∧ lfG w H s F fa fm fc T bw sw w4 b2 B6 w7 bg sg w21 := ⟨hS.1.below b21, hS.2.below b21⟩
    clear d21 b21
    go_wp2_with fail
    refine hK2.out _ _ hS21 (fun hS2 => ?_)
    clear hS hK2 K2 hS21
    have hS := hS2
    clear hS2
    refine wpAnyH_all (rs := [3]) (by kernel_rfl) (by simp) ?_
    refine AllReadyH.cons rfl (fun K2 hK2 => ?_) AllReadyH.nil
    go_simp
    refine (HQF.out w21 gx g21 hS.1.d HO21.out).mono ?_
    rintro o w22 ⟨rfl, b22⟩
    have hS22 : lfY w H s F fa fm fc T bw sw w4 bx bx s5 gx b2 w22 ∧ lfG w H s F fa fm fc T bw sw w4 b2 B6 w7 bg sg w22 := ⟨hS.1.below b22, hS.2.below b22⟩
    clear b22 HO21
    go_wp2_with fail
    refine hK2.out _ _ hS22 (fun hS2 => ?_)
    clear hS hK2 K2 hS22
    have hS := hS2
    clear hS2
    refine wpAnyH_take (i := 4) (v := .bool false) rfl (by kernel_rfl) (by kernel_rfl) (by kernel_rfl) (fun _ _ _ h => h) (Or.inl ⟨by rfl, ?_⟩) hS ?_
    · intro W hSw
      clear hS
      go_simp
    simp only [Act.put, List.setIfInBounds_toArray, List.set_cons_zero, List.set_cons_succ, List.getElem_toArray, List.getElem_cons_zero, List.getElem_cons_succ]
    refine wpAnyH_done (by kernel_rfl) ?_ _
    have HX22 : Hid (lfY w H s F fa fm fc T bw sw w4 bx bx s5 gx b2 w22 ∧ lfG w H s F fa fm fc T bw sw w4 b2 B6 w7 bg sg w22) := hS
    clear hS
    go_wp2_with (first | (refine wpList_load_mid (P := Tryz.prog) rfl 35 _ rfl bx 0 rfl (hoL H s5.sl) _ HX22.out.1.y.x.load Tryz.underlying35 rfl (sz41L H s5.sl) ?_))
    have HMX : Hid (Calls Tryz.prog 39 #[.agg (hoL H s5.sl).toArray, .int .i64 1] w22 fun o w1 => ∃ k : Nat, o = .returned (.int .i64 (k : Int)) ∧ (∀ x, bx ≤ x → x < w22.heap.size → w1.heap[x]? = w22.heap[x]?) ∧ Below w4.heap.size w22 w1 ∧ k ≤ 10000000000000) := xMark3 HX22.out.1.y.xw HD5.out.1 (Nat.le_of_lt HX22.out.1.y.x.lt)
    refine (Calls.mono HMX.out) ?_
    rintro o w13 ⟨k, rfl, q1, q2, q3⟩
    have HK3 : Hid (k ≤ 10000000000000) := q3
    have HG13 : Hid (lfG w H s F fa fm fc T bw sw w4 b2 B6 w7 bg sg w13) := HX22.out.2.mark HH4.out q2 (fun x h1 h2 => q1 x (by have := HX22.out.2.z; have := HX22.out.1.k; omega) h2)
    have HF13 : Hid (blk w13 b2 [.bool F.e, .int .u32 (F.i : Int), .bool F.r, .int .i64 F.d, .slice (some ⟨gx, 0, none⟩) fm fm] 25 ∧ rowF w13 gx fm ∧ gx < w13.heap.size ∧ b2 < B6 ∧ gx < b2 ∧ w4.heap.size ≤ gx) := ⟨HX22.out.1.f.kept (q1 _ (by have := HX22.out.1.k; omega) HX22.out.1.f.lt), HX22.out.1.r.up (q1 _ (by have := HX22.out.1.k; omega) (by have := HX22.out.1.k; have := HX22.out.1.f.lt; omega)), by have h1 := HX22.out.1.k; have h2 := HX22.out.1.f.lt; have h3 := q2.size; omega, HX22.out.2.z.1, HX22.out.1.k.2, by have h1 := HX22.out.1.k; have h2 := HX22.out.1.y.z; omega⟩
    clear q1 q2 q3 HX22 HMX
    go_wp2_with (first | (refine wpList_load_mid (P := Tryz.prog) rfl 25 _ rfl b2 0 rfl [.bool F.e, .int .u32 (F.i : Int), .bool F.r, .int .i64 F.d, .slice (some ⟨gx, 0, none⟩) fm fm] _ HF13.out.1.load Tryz.underlying25 rfl sz93 ?_))
    refine (markFrame_any w13 F.e F.i F.r F.d gx fm k HF13.out.2.1 HF13.out.2.2.1 HFM.out (by have := HK3.out; omega)).mono ?_
    rintro o w13b ⟨rfl, q1, q2⟩
    have HG14 : Hid (lfG w H s F fa fm fc T bw sw w4 b2 B6 w7 bg sg w13b) := HG13.out.mark HH4.out (q2.mono HF13.out.2.2.2.2.2) (fun x h1 h2 => q1 x (by have := HF13.out; omega) h2)
    clear q1 q2 HG13 HF13
    generalize hkm : k + fm = km at *
    clear hkm HK3
    have hk0 : decide ((km : Int) < 0) = false := by simp
    have hk1 : ¬ (km : Int) < 0 := by omega
    go_wp2_with (first
      | (refine wpList_load_midG (by first | rfl | (simp [Region.wanted, yielded]; done) | (simp [Region.wanted, yielded]; omega)) 35 _ rfl bg 0 rfl (hoL T sg) _ HG14.out.g.load Tryz.underlying35 rfl (sz41L T sg) ?_)
      | (refine wpList_load_midG (by first | rfl | (simp [Region.wanted, yielded]; done) | (simp [Region.wanted, yielded]; omega)) 35 _ rfl bw 0 rfl (hoL T sw) _ HG14.out.l.q.load Tryz.underlying35 rfl (sz41L T sw) ?_))
    refine (HQ.out w13b sg sw (HSM.out.1 w13b HG14.out.k) HG14.out.l.t).mono ?_
    rintro o w14 ⟨rfl, b14⟩
    have HG15 : Hid (lfG w H s F fa fm fc T bw sw w4 b2 B6 w7 bg sg w14) := HG14.out.below b14
    clear b14 HG14 hk0 hk1
    go_wp2_with (first | (refine wpList_load_mid (P := Tryz.prog) rfl 35 _ rfl bg 0 rfl (hoL T sg) _ HG15.out.g.load Tryz.underlying35 rfl (sz41L T sg) ?_))
    have hzz : w7.heap.size ≤ w14.heap.size := by have := HG15.out.g.lt; have := HG15.out.z; omega
    refine (HSM.out.2 w14 HG15.out.k hzz).mono ?_
    rintro o w15 ⟨m, rfl, b15, o15, c15⟩
    have HL15 : Hid (lfS w H s F fa fm fc T bw sw w15) := HG15.out.gmark HH4.out b15
    have HV15 : Hid (blk w15 bg (hoL T sg) 35) := HG15.out.g.kept (o15 _ HG15.out.z.2.2 HG15.out.g.lt)
    have HC15 : Hid (Calls Tryz.prog 41 #[.agg (hoL T sg).toArray, .int .i64 1] w15 fun o w2 => o = .returned (.int .i64 (m : Int)) ∧ Below w15.heap.size w15 w2) := c15 w15 (Below.refl _ _)
    clear b15 o15 c15 HG15 HSM hzz HH4
    go_wp2_with (first | (refine wpList_load_mid (P := Tryz.prog) rfl 35 _ rfl bg 0 rfl (hoL T sg) _ HV15.out.load Tryz.underlying35 rfl (sz41L T sg) ?_))
    refine (Calls.mono HC15.out) ?_
    rintro o w16 ⟨rfl, b16⟩
    have HL16 : Hid (lfS w H s F fa fm fc T bw sw w16) := HL15.out.below b16
    clear b16 HL15 HV15 HC15
    have hm0 : ¬ (m : Int) < 0 := by omega
    have HIM2 : Hid (∀ X s' g, isHo X H s' → slSome s' → isBytes X (some ⟨g, 0, none⟩) fm fm F.l → Calls Tryz.prog 15 #[.agg (hoL H s').toArray, .int .i64 t, frV F.e F.i F.r F.d (some ⟨g, 0, none⟩) fm fm] X fun o w' => ∃ s2, o = .returned (.agg (hoL T s2).toArray) ∧ St X.heap.size w' (fun V => isHo V T s2) ∧ Below X.heap.size X w') := fun X s' g h1 h2 h3 => (HIM.out X s' g h1 h2 h3).mono (by rintro o w' ⟨s2, rfl, q1, _, q2⟩; exact ⟨s2, rfl, q1, q2⟩)
    have HTW : Hid (isHo w16 T sw) := HL16.out.t
    have HW16 : Hid (blk w16 bw (hoL T sw) 35) := HL16.out.q
    clear HIM
    go_wp2_with fail
    obtain ⟨wL, hwL⟩ : ∃ wL, wL = w16 := ⟨_, rfl⟩
    rw [← hwL] at HTW
    have HBL : Hid (Below wL.heap.size wL (World.drew w16)) := by
      rw [hwL]
      exact (Below.refl _ _).drew
    refine reg_join (Q1 := fun a a' W' => ∃ (s1 : Wh) (g1 : Nat) (sh : Sl) (bh : Nat), a' = (((((((a.put (some 79) (.agg (hoL H s).toArray)).put (some 80) (.agg (hoL H s1.sl).toArray)).put (some 81) (.int .i64 t)).put (some 82) (.agg [.bool F.e, .int .u32 (F.i : Int), .bool F.r, .int .i64 F.d, .slice fa fm fc].toArray)).put (some 83) (.agg [.bool F.e, .int .u32 (F.i : Int), .bool F.r, .int .i64 F.d, .slice (some ⟨g1, 0, none⟩) fm fm].toArray)).put (some 84) (.agg (hoL T sh).toArray)).put (some 15) (.pointer (some ⟨bh, 0, none⟩))) ∧ lfS w H s F fa fm fc T bh sh W' ∧ (blk W' bw (hoL T sw) 35 ∧ Below wL.heap.size wL W')) ?_ ?_
    · refine wp_region_held (S := fun X => lfA w H s F fa fm fc X ∧ (blk X bw (hoL T sw) 35 ∧ Below wL.heap.size wL X)) (by kernel_rfl) ?_
      have hS : lfA w H s F fa fm fc (World.drew w16) ∧ (blk (World.drew w16) bw (hoL T sw) 35 ∧ Below wL.heap.size wL (World.drew w16)) := ⟨HL16.out.a.below (Below.refl _ _).drew, HW16.out.below (Below.refl _ _).drew, HBL.out⟩
      change wpAnyH Tryz.prog _ _ _ _ _ _ _ (World.drew w16)
      generalize World.drew w16 = v0 at *
      refine wpAnyH_take (i := 0) (v := .agg (hoL H s).toArray) rfl (by kernel_rfl) (by kernel_rfl) (by kernel_rfl) (fun _ _ _ h => nomatch h.1) (yieldsIf_load_mid (by rfl) 61 _ rfl w.heap.size 0 rfl (hoL H s) _ (fun X h => h.1.p.load) Tryz.underlying61 rfl (sz61L H s)) hS ?_
      simp only [Act.put, List.setIfInBounds_toArray, List.set_cons_zero, List.set_cons_succ, List.getElem_toArray, List.getElem_cons_zero]
      refine wpAnyH_take (i := 2) (v := .int .i64 t) rfl (by kernel_rfl) (by kernel_rfl) (by kernel_rfl) (fun _ _ _ h => nomatch h.1) (Or.inl ⟨by rfl, ?_⟩) hS ?_
      · intro W hSw
        clear hS
        go_simp
      simp only [Act.put, List.setIfInBounds_toArray, List.set_cons_zero, List.set_cons_succ, List.getElem_toArray, List.getElem_cons_zero, List.getElem_cons_succ]
      refine wpAnyH_take (i := 3) (v := .agg [.bool F.e, .int .u32 (F.i : Int), .bool F.r, .int .i64 F.d, .slice fa fm fc].toArray) rfl (by kernel_rfl) (by kernel_rfl) (by kernel_rfl) (fun _ _ _ h => nomatch h.1) (yieldsIf_load_mid (by rfl) 71 _ rfl (w.heap.size + 1) 0 rfl [.bool F.e, .int .u32 (F.i : Int), .bool F.r, .int .i64 F.d, .slice fa fm fc] _ (fun X h => h.1.f.load) Tryz.underlying71 rfl sz71) hS ?_
      simp only [Act.put, List.setIfInBounds_toArray, List.set_cons_zero, List.set_cons_succ, List.getElem_toArray, List.getElem_cons_zero, List.getElem_cons_succ]
      refine wpAnyH_all (rs := [1, 6]) (by kernel_rfl) (by simp) ?_
      refine AllReadyH.cons rfl (fun K2 hK2 => ?_) (AllReadyH.cons rfl (fun K2 hK2 => ?_) AllReadyH.nil)
      · go_simp
        refine (HTO.out v0 hS.1.h).mono ?_
        rintro o v1 ⟨s1, rfl, S1, _, _, S1s, b1⟩
        have HXv1 : Hid (isHo v1 H s1.sl ∧ slSome s1.sl) := ⟨S1.now, S1s⟩
        have hS5 : lfA w H s F fa fm fc v1 ∧ (blk v1 bw (hoL T sw) 35 ∧ Below wL.heap.size wL v1) := ⟨hS.1.below b1, ⟨hS.2.1.below b1, hS.2.2.trans (b1.mono hS.2.2.size)⟩⟩
        clear S1 S1s b1
        go_wp2_with fail
        refine hK2.out _ _ hS5 (fun hS2 => ?_)
        clear hK2 K2 hS hS5
        have hS := hS2
        clear hS2
        refine wpAnyH_all (rs := [4, 6]) (by kernel_rfl) (by simp) ?_
        refine AllReadyH.cons rfl (fun K2 hK2 => ?_) (AllReadyH.cons rfl (fun K2 hK2 => ?_) AllReadyH.nil)
        · go_simp
          refine (HTF.out v1 hS.1.d).mono ?_
          rintro o v2 ⟨g1, rfl, d1, b1, _, _, _⟩
          have HXv2 : Hid (isHo v2 H s1.sl ∧ slSome s1.sl) := ⟨HXv1.out.1.below b1, HXv1.out.2⟩
          have HYv2 : Hid (isBytes v2 (some ⟨g1, 0, none⟩) fm fm F.l) := d1
          have hS5 : lfA w H s F fa fm fc v2 ∧ (blk v2 bw (hoL T sw) 35 ∧ Below wL.heap.size wL v2) := ⟨hS.1.below b1, ⟨hS.2.1.below b1, hS.2.2.trans (b1.mono hS.2.2.size)⟩⟩
          clear d1 b1
          go_wp2_with fail
          refine hK2.out _ _ hS5 (fun hS2 => ?_)
          clear hK2 K2 hS hS5
          have hS := hS2
          clear hS2
          refine wpAnyH_all (rs := [5, 6]) (by kernel_rfl) (by simp) ?_
          refine AllReadyH.cons rfl (fun K2 hK2 => ?_) (AllReadyH.cons rfl (fun K2 hK2 => ?_) AllReadyH.nil)
          · go_simp
            refine (HIM2.out v2 s1.sl g1 HXv2.out.1 HXv2.out.2 HYv2.out).mono ?_
            rintro o v3 ⟨sh, rfl, S3, b1⟩
            have HTv3 : Hid (St v2.heap.size v3 (fun V => isHo V T sh)) := S3
            have hS5 : lfA w H s F fa fm fc v3 ∧ (blk v3 bw (hoL T sw) 35 ∧ Below wL.heap.size wL v3) := ⟨hS.1.below b1, ⟨hS.2.1.below b1, hS.2.2.trans (b1.mono hS.2.2.size)⟩⟩
            clear S3 b1
            go_wp2_with fail
            refine hK2.out _ _ hS5 (fun hS2 => ?_)
            clear hK2 K2 hS hS5
            have hS := hS2
            clear hS2
            refine wpAnyH_all (rs := [6]) (by kernel_rfl) (by simp) ?_
            refine AllReadyH.cons rfl (fun K2 hK2 => ?_) AllReadyH.nil
            go_simp
            have bA : Below v3.heap.size v3 (v3.alloc (.cells [.int .i64 0, .int .i64 0, .int .i64 0, .int .i64 0, .slice none 0 0, .slice none 0 0, .slice none 0 0, .slice none 0 0, .int .i64 0, .int .i64 0].toArray 35)) := (Below.refl _ _).alloc (Nat.le_refl _) _
            have hS5 : lfA w H s F fa fm fc (v3.alloc (.cells [.int .i64 0, .int .i64 0, .int .i64 0, .int .i64 0, .slice none 0 0, .slice none 0 0, .slice none 0 0, .slice none 0 0, .int .i64 0, .int .i64 0].toArray 35)) ∧ (blk (v3.alloc (.cells [.int .i64 0, .int .i64 0, .int .i64 0, .int .i64 0, .slice none 0 0, .slice none 0 0, .slice none 0 0, .slice none 0 0, .int .i64 0, .int .i64 0].toArray 35)) bw (hoL T sw) 35 ∧ Below wL.heap.size wL (v3.alloc (.cells [.int .i64 0, .int .i64 0, .int .i64 0, .int .i64 0, .slice none 0 0, .slice none 0 0, .slice none 0 0, .slice none 0 0, .int .i64 0, .int .i64 0].toArray 35))) := ⟨hS.1.below bA, ⟨hS.2.1.below bA, hS.2.2.trans (bA.mono hS.2.2.size)⟩⟩
            have HBv4 : Hid (blk (v3.alloc (.cells [.int .i64 0, .int .i64 0, .int .i64 0, .int .i64 0, .slice none 0 0, .slice none 0 0, .slice none 0 0, .slice none 0 0, .int .i64 0, .int .i64 0].toArray 35)) v3.heap.size [.int .i64 0, .int .i64 0, .int .i64 0, .int .i64 0, .slice none 0 0, .slice none 0 0, .slice none 0 0, .slice none 0 0, .int .i64 0, .int .i64 0] 35) := blk.new v3 _ 35
            have HGv4 : Hid (w.heap.size + 1 < v3.heap.size) := hS.1.f.lt
            have HUv4 : Hid (wL.heap.size ≤ v3.heap.size ∧ bw < v3.heap.size) := ⟨hS.2.2.size, hS.2.1.lt⟩
            have HAGv4 : Hid (∀ x, x < v3.heap.size → (v3.alloc (.cells [.int .i64 0, .int .i64 0, .int .i64 0, .int .i64 0, .slice none 0 0, .slice none 0 0, .slice none 0 0, .slice none 0 0, .int .i64 0, .int .i64 0].toArray 35)).heap[x]? = v3.heap[x]?) := fun x hx => bA.block x hx
            refine hK2.out _ _ hS5 (fun hS2 => ?_)
            clear hK2 K2 hS hS5 bA
            have hS := hS2
            clear hS2
            generalize (v3.alloc (.cells [.int .i64 0, .int .i64 0, .int .i64 0, .int .i64 0, .slice none 0 0, .slice none 0 0, .slice none 0 0, .slice none 0 0, .int .i64 0, .int .i64 0].toArray 35)) = v4 at *
            refine wpAnyH_all (rs := [7]) (by kernel_rfl) (by simp) ?_
            refine AllReadyH.cons rfl (fun K2 hK2 => ?_) AllReadyH.nil
            rw [if_pos (by rfl)]
            refine wp_store_mid 35 _ _ rfl (v3.heap.size) 0 (hoL T sh).toArray rfl rfl (HBv4.out.there 0 _ (by rw [List.size_toArray, hoL_len]; decide)) (sz41A _ _) (hoL_one _ _) ?_
            have hbw : w.heap.size + 1 < v3.heap.size := HGv4.out
            have hS5 : lfA w H s F fa fm fc (v4.setCells (v3.heap.size) 0 (hoL T sh)) ∧ (blk (v4.setCells (v3.heap.size) 0 (hoL T sh)) bw (hoL T sw) 35 ∧ Below wL.heap.size wL (v4.setCells (v3.heap.size) 0 (hoL T sh))) := ⟨hS.1.put HH0.out HF0.out hbw _, ⟨hS.2.1.other (by have := HUv4.out; omega) _ _, setCells_below HUv4.out.1 0 _ hS.2.2⟩⟩
            have hT5 : isHo (v4.setCells (v3.heap.size) 0 (hoL T sh)) T sh := HTv3.out _ (fun x h1 h2 => (setCells_other _ x (by omega) _ _ _).trans (HAGv4.out x h2))
            have hq5 : blk (v4.setCells (v3.heap.size) 0 (hoL T sh)) (v3.heap.size) (hoL T sh) 35 := put_host HBv4.out (hoL_len _ _)
            refine hK2.out _ _ hS5 (fun hS2 => ?_)
            clear hK2 K2 hS hS2
            refine wpAnyH_done (by kernel_rfl) ?_ _
            refine ⟨rfl, s1, g1, sh, v3.heap.size, ?_, ⟨hS5.1, hq5, hT5⟩, hS5.2⟩
            rfl
          · go_simp
            have bA : Below v2.heap.size v2 (v2.alloc (.cells [.int .i64 0, .int .i64 0, .int .i64 0, .int .i64 0, .slice none 0 0, .slice none 0 0, .slice none 0 0, .slice none 0 0, .int .i64 0, .int .i64 0].toArray 35)) := (Below.refl _ _).alloc (Nat.le_refl _) _
            have hS5 : lfA w H s F fa fm fc (v2.alloc (.cells [.int .i64 0, .int .i64 0, .int .i64 0, .int .i64 0, .slice none 0 0, .slice none 0 0, .slice none 0 0, .slice none 0 0, .int .i64 0, .int .i64 0].toArray 35)) ∧ (blk (v2.alloc (.cells [.int .i64 0, .int .i64 0, .int .i64 0, .int .i64 0, .slice none 0 0, .slice none 0 0, .slice none 0 0, .slice none 0 0, .int .i64 0, .int .i64 0].toArray 35)) bw (hoL T sw) 35 ∧ Below wL.heap.size wL (v2.alloc (.cells [.int .i64 0, .int .i64 0, .int .i64 0, .int .i64 0, .slice none 0 0, .slice none 0 0, .slice none 0 0, .slice none 0 0, .int .i64 0, .int .i64 0].toArray 35))) := ⟨hS.1.below bA, ⟨hS.2.1.below bA, hS.2.2.trans (bA.mono hS.2.2.size)⟩⟩
            have HBv5 : Hid (blk (v2.alloc (.cells [.int .i64 0, .int .i64 0, .int .i64 0, .int .i64 0, .slice none 0 0, .slice none 0 0, .slice none 0 0, .slice none 0 0, .int .i64 0, .int .i64 0].toArray 35)) v2.heap.size [.int .i64 0, .int .i64 0, .int .i64 0, .int .i64 0, .slice none 0 0, .slice none 0 0, .slice none 0 0, .slice none 0 0, .int .i64 0, .int .i64 0] 35) := blk.new v2 _ 35
            have HGv5 : Hid (w.heap.size + 1 < v2.heap.size) := hS.1.f.lt
            have HUv5 : Hid (wL.heap.size ≤ v2.heap.size ∧ bw < v2.heap.size) := ⟨hS.2.2.size, hS.2.1.lt⟩
            have HXv5 : Hid (isHo (v2.alloc (.cells [.int .i64 0, .int .i64 0, .int .i64 0, .int .i64 0, .slice none 0 0, .slice none 0 0, .slice none 0 0, .slice none 0 0, .int .i64 0, .int .i64 0].toArray 35)) H s1.sl ∧ slSome s1.sl) := ⟨HXv2.out.1.below bA, HXv2.out.2⟩
            have HYv5 : Hid (isBytes (v2.alloc (.cells [.int .i64 0, .int .i64 0, .int .i64 0, .int .i64 0, .slice none 0 0, .slice none 0 0, .slice none 0 0, .slice none 0 0, .int .i64 0, .int .i64 0].toArray 35)) (some ⟨g1, 0, none⟩) fm fm F.l) := HYv2.out.below bA
            refine hK2.out _ _ hS5 (fun hS2 => ?_)
            clear hK2 K2 hS hS5 bA
            have hS := hS2
            clear hS2
            generalize (v2.alloc (.cells [.int .i64 0, .int .i64 0, .int .i64 0, .int .i64 0, .slice none 0 0, .slice none 0 0, .slice none 0 0, .slice none 0 0, .int .i64 0, .int .i64 0].toArray 35)) = v5 at *
            refine wpAnyH_all (rs := [5]) (by kernel_rfl) (by simp) ?_
            refine AllReadyH.cons rfl (fun K2 hK2 => ?_) AllReadyH.nil
            go_simp
            refine (HIM2.out v5 s1.sl g1 HXv5.out.1 HXv5.out.2 HYv5.out).mono ?_
            rintro o v6 ⟨sh, rfl, S3, b1⟩
            have HTv6 : Hid (St v5.heap.size v6 (fun V => isHo V T sh)) := S3
            have HBWv6 : Hid (blk v6 v2.heap.size [.int .i64 0, .int .i64 0, .int .i64 0, .int .i64 0, .slice none 0 0, .slice none 0 0, .slice none 0 0, .slice none 0 0, .int .i64 0, .int .i64 0] 35) := HBv5.out.below b1
            have HLTv6 : Hid (v2.heap.size < v5.heap.size) := HBv5.out.lt
            have hS5 : lfA w H s F fa fm fc v6 ∧ (blk v6 bw (hoL T sw) 35 ∧ Below wL.heap.size wL v6) := ⟨hS.1.below b1, ⟨hS.2.1.below b1, hS.2.2.trans (b1.mono hS.2.2.size)⟩⟩
            clear S3 b1
            go_wp2_with fail
            refine hK2.out _ _ hS5 (fun hS2 => ?_)
            clear hK2 K2 hS hS5
            have hS := hS2
            clear hS2
            refine wpAnyH_all (rs := [7]) (by kernel_rfl) (by simp) ?_
            refine AllReadyH.cons rfl (fun K2 hK2 => ?_) AllReadyH.nil
            rw [if_pos (by rfl)]
            refine wp_store_mid 35 _ _ rfl (v2.heap.size) 0 (hoL T sh).toArray rfl rfl (HBWv6.out.there 0 _ (by rw [List.size_toArray, hoL_len]; decide)) (sz41A _ _) (hoL_one _ _) ?_
            have hbw : w.heap.size + 1 < v2.heap.size := HGv5.out
            have hS5 : lfA w H s F fa fm fc (v6.setCells (v2.heap.size) 0 (hoL T sh)) ∧ (blk (v6.setCells (v2.heap.size) 0 (hoL T sh)) bw (hoL T sw) 35 ∧ Below wL.heap.size wL (v6.setCells (v2.heap.size) 0 (hoL T sh))) := ⟨hS.1.put HH0.out HF0.out hbw _, ⟨hS.2.1.other (by have := HUv5.out; omega) _ _, setCells_below HUv5.out.1 0 _ hS.2.2⟩⟩
            have hT5 : isHo (v6.setCells (v2.heap.size) 0 (hoL T sh)) T sh := HTv6.out _ (fun x h1 h2 => setCells_other _ x (by have := HLTv6.out; omega) _ _ _)
            have hq5 : blk (v6.setCells (v2.heap.size) 0 (hoL T sh)) (v2.heap.size) (hoL T sh) 35 := put_host HBWv6.out (hoL_len _ _)
            refine hK2.out _ _ hS5 (fun hS2 => ?_)
            clear hK2 K2 hS hS2
            refine wpAnyH_done (by kernel_rfl) ?_ _
            refine ⟨rfl, s1, g1, sh, v2.heap.size, ?_, ⟨hS5.1, hq5, hT5⟩, hS5.2⟩
            rfl
        · go_simp
          have bA : Below v1.heap.size v1 (v1.alloc (.cells [.int .i64 0, .int .i64 0, .int .i64 0, .int .i64 0, .slice none 0 0, .slice none 0 0, .slice none 0 0, .slice none 0 0, .int .i64 0, .int .i64 0].toArray 35)) := (Below.refl _ _).alloc (Nat.le_refl _) _
          have hS5 : lfA w H s F fa fm fc (v1.alloc (.cells [.int .i64 0, .int .i64 0, .int .i64 0, .int .i64 0, .slice none 0 0, .slice none 0 0, .slice none 0 0, .slice none 0 0, .int .i64 0, .int .i64 0].toArray 35)) ∧ (blk (v1.alloc (.cells [.int .i64 0, .int .i64 0, .int .i64 0, .int .i64 0, .slice none 0 0, .slice none 0 0, .slice none 0 0, .slice none 0 0, .int .i64 0, .int .i64 0].toArray 35)) bw (hoL T sw) 35 ∧ Below wL.heap.size wL (v1.alloc (.cells [.int .i64 0, .int .i64 0, .int .i64 0, .int .i64 0, .slice none 0 0, .slice none 0 0, .slice none 0 0, .slice none 0 0, .int .i64 0, .int .i64 0].toArray 35))) := ⟨hS.1.below bA, ⟨hS.2.1.below bA, hS.2.2.trans (bA.mono hS.2.2.size)⟩⟩
          have HBv7 : Hid (blk (v1.alloc (.cells [.int .i64 0, .int .i64 0, .int .i64 0, .int .i64 0, .slice none 0 0, .slice none 0 0, .slice none 0 0, .slice none 0 0, .int .i64 0, .int .i64 0].toArray 35)) v1.heap.size [.int .i64 0, .int .i64 0, .int .i64 0, .int .i64 0, .slice none 0 0, .slice none 0 0, .slice none 0 0, .slice none 0 0, .int .i64 0, .int .i64 0] 35) := blk.new v1 _ 35
          have HGv7 : Hid (w.heap.size + 1 < v1.heap.size) := hS.1.f.lt
          have HUv7 : Hid (wL.heap.size ≤ v1.heap.size ∧ bw < v1.heap.size) := ⟨hS.2.2.size, hS.2.1.lt⟩
          have HXv7 : Hid (isHo (v1.alloc (.cells [.int .i64 0, .int .i64 0, .int .i64 0, .int .i64 0, .slice none 0 0, .slice none 0 0, .slice none 0 0, .slice none 0 0, .int .i64 0, .int .i64 0].toArray 35)) H s1.sl ∧ slSome s1.sl) := ⟨HXv1.out.1.below bA, HXv1.out.2⟩
          refine hK2.out _ _ hS5 (fun hS2 => ?_)
          clear hK2 K2 hS hS5 bA
          have hS := hS2
          clear hS2
          generalize (v1.alloc (.cells [.int .i64 0, .int .i64 0, .int .i64 0, .int .i64 0, .slice none 0 0, .slice none 0 0, .slice none 0 0, .slice none 0 0, .int .i64 0, .int .i64 0].toArray 35)) = v7 at *
          refine wpAnyH_all (rs := [4]) (by kernel_rfl) (by simp) ?_
          refine AllReadyH.cons rfl (fun K2 hK2 => ?_) AllReadyH.nil
          go_simp
          refine (HTF.out v7 hS.1.d).mono ?_
          rintro o v8 ⟨g1, rfl, d1, b1, _, _, _⟩
          have HXv8 : Hid (isHo v8 H s1.sl ∧ slSome s1.sl) := ⟨HXv7.out.1.below b1, HXv7.out.2⟩
          have HYv8 : Hid (isBytes v8 (some ⟨g1, 0, none⟩) fm fm F.l) := d1
          have HBWv8 : Hid (blk v8 v1.heap.size [.int .i64 0, .int .i64 0, .int .i64 0, .int .i64 0, .slice none 0 0, .slice none 0 0, .slice none 0 0, .slice none 0 0, .int .i64 0, .int .i64 0] 35) := HBv7.out.below b1
          have hS5 : lfA w H s F fa fm fc v8 ∧ (blk v8 bw (hoL T sw) 35 ∧ Below wL.heap.size wL v8) := ⟨hS.1.below b1, ⟨hS.2.1.below b1, hS.2.2.trans (b1.mono hS.2.2.size)⟩⟩
          clear d1 b1
          go_wp2_with fail
          refine hK2.out _ _ hS5 (fun hS2 => ?_)
          clear hK2 K2 hS hS5
          have hS := hS2
          clear hS2
          refine wpAnyH_all (rs := [5]) (by kernel_rfl) (by simp) ?_
          refine AllReadyH.cons rfl (fun K2 hK2 => ?_) AllReadyH.nil
          go_simp
          refine (HIM2.out v8 s1.sl g1 HXv8.out.1 HXv8.out.2 HYv8.out).mono ?_
          rintro o v9 ⟨sh, rfl, S3, b1⟩
          have HTv9 : Hid (St v8.heap.size v9 (fun V => isHo V T sh)) := S3
          have HBWv9 : Hid (blk v9 v1.heap.size [.int .i64 0, .int .i64 0, .int .i64 0, .int .i64 0, .slice none 0 0, .slice none 0 0, .slice none 0 0, .slice none 0 0, .int .i64 0, .int .i64 0] 35) := HBWv8.out.below b1
          have HLTv9 : Hid (v1.heap.size < v8.heap.size) := HBWv8.out.lt
          have hS5 : lfA w H s F fa fm fc v9 ∧ (blk v9 bw (hoL T sw) 35 ∧ Below wL.heap.size wL v9) := ⟨hS.1.below b1, ⟨hS.2.1.below b1, hS.2.2.trans (b1.mono hS.2.2.size)⟩⟩
          clear S3 b1
          go_wp2_with fail
          refine hK2.out _ _ hS5 (fun hS2 => ?_)
          clear hK2 K2 hS hS5
          have hS := hS2
          clear hS2
          refine wpAnyH_all (rs := [7]) (by kernel_rfl) (by simp) ?_
          refine AllReadyH.cons rfl (fun K2 hK2 => ?_) AllReadyH.nil
          rw [if_pos (by rfl)]
          refine wp_store_mid 35 _ _ rfl (v1.heap.size) 0 (hoL T sh).toArray rfl rfl (HBWv9.out.there 0 _ (by rw [List.size_toArray, hoL_len]; decide)) (sz41A _ _) (hoL_one _ _) ?_
          have hbw : w.heap.size + 1 < v1.heap.size := HGv7.out
          have hS5 : lfA w H s F fa fm fc (v9.setCells (v1.heap.size) 0 (hoL T sh)) ∧ (blk (v9.setCells (v1.heap.size) 0 (hoL T sh)) bw (hoL T sw) 35 ∧ Below wL.heap.size wL (v9.setCells (v1.heap.size) 0 (hoL T sh))) := ⟨hS.1.put HH0.out HF0.out hbw _, ⟨hS.2.1.other (by have := HUv7.out; omega) _ _, setCells_below HUv7.out.1 0 _ hS.2.2⟩⟩
          have hT5 : isHo (v9.setCells (v1.heap.size) 0 (hoL T sh)) T sh := HTv9.out _ (fun x h1 h2 => setCells_other _ x (by have := HLTv9.out; omega) _ _ _)
          have hq5 : blk (v9.setCells (v1.heap.size) 0 (hoL T sh)) (v1.heap.size) (hoL T sh) 35 := put_host HBWv9.out (hoL_len _ _)
          refine hK2.out _ _ hS5 (fun hS2 => ?_)
          clear hK2 K2 hS hS2
          refine wpAnyH_done (by kernel_rfl) ?_ _
          refine ⟨rfl, s1, g1, sh, v1.heap.size, ?_, ⟨hS5.1, hq5, hT5⟩, hS5.2⟩
          rfl
      · go_simp
        have bA : Below v0.heap.size v0 (v0.alloc (.cells [.int .i64 0, .int .i64 0, .int .i64 0, .int .i64 0, .slice none 0 0, .slice none 0 0, .slice none 0 0, .slice none 0 0, .int .i64 0, .int .i64 0].toArray 35)) := (Below.refl _ _).alloc (Nat.le_refl _) _
        have hS5 : lfA w H s F fa fm fc (v0.alloc (.cells [.int .i64 0, .int .i64 0, .int .i64 0, .int .i64 0, .slice none 0 0, .slice none 0 0, .slice none 0 0, .slice none 0 0, .int .i64 0, .int .i64 0].toArray 35)) ∧ (blk (v0.alloc (.cells [.int .i64 0, .int .i64 0, .int .i64 0, .int .i64 0, .slice none 0 0, .slice none 0 0, .slice none 0 0, .slice none 0 0, .int .i64 0, .int .i64 0].toArray 35)) bw (hoL T sw) 35 ∧ Below wL.heap.size wL (v0.alloc (.cells [.int .i64 0, .int .i64 0, .int .i64 0, .int .i64 0, .slice none 0 0, .slice none 0 0, .slice none 0 0, .slice none 0 0, .int .i64 0, .int .i64 0].toArray 35))) := ⟨hS.1.below bA, ⟨hS.2.1.below bA, hS.2.2.trans (bA.mono hS.2.2.size)⟩⟩
        have HBv10 : Hid (blk (v0.alloc (.cells [.int .i64 0, .int .i64 0, .int .i64 0, .int .i64 0, .slice none 0 0, .slice none 0 0, .slice none 0 0, .slice none 0 0, .int .i64 0, .int .i64 0].toArray 35)) v0.heap.size [.int .i64 0, .int .i64 0, .int .i64 0, .int .i64 0, .slice none 0 0, .slice none 0 0, .slice none 0 0, .slice none 0 0, .int .i64 0, .int .i64 0] 35) := blk.new v0 _ 35
        have HGv10 : Hid (w.heap.size + 1 < v0.heap.size) := hS.1.f.lt
        have HUv10 : Hid (wL.heap.size ≤ v0.heap.size ∧ bw < v0.heap.size) := ⟨hS.2.2.size, hS.2.1.lt⟩
        refine hK2.out _ _ hS5 (fun hS2 => ?_)
        clear hK2 K2 hS hS5 bA
        have hS := hS2
        clear hS2
        generalize (v0.alloc (.cells [.int .i64 0, .int .i64 0, .int .i64 0, .int .i64 0, .slice none 0 0, .slice none 0 0, .slice none 0 0, .slice none 0 0, .int .i64 0, .int .i64 0].toArray 35)) = v10 at *
        refine wpAnyH_all (rs := [1]) (by kernel_rfl) (by simp) ?_
        refine AllReadyH.cons rfl (fun K2 hK2 => ?_) AllReadyH.nil
        go_simp
        refine (HTO.out v10 hS.1.h).mono ?_
        rintro o v11 ⟨s1, rfl, S1, _, _, S1s, b1⟩
        have HXv11 : Hid (isHo v11 H s1.sl ∧ slSome s1.sl) := ⟨S1.now, S1s⟩
        have HBWv11 : Hid (blk v11 v0.heap.size [.int .i64 0, .int .i64 0, .int .i64 0, .int .i64 0, .slice none 0 0, .slice none 0 0, .slice none 0 0, .slice none 0 0, .int .i64 0, .int .i64 0] 35) := HBv10.out.below b1
        have hS5 : lfA w H s F fa fm fc v11 ∧ (blk v11 bw (hoL T sw) 35 ∧ Below wL.heap.size wL v11) := ⟨hS.1.below b1, ⟨hS.2.1.below b1, hS.2.2.trans (b1.mono hS.2.2.size)⟩⟩
        clear S1 S1s b1
        go_wp2_with fail
        refine hK2.out _ _ hS5 (fun hS2 => ?_)
        clear hK2 K2 hS hS5
        have hS := hS2
        clear hS2
        refine wpAnyH_all (rs := [4]) (by kernel_rfl) (by simp) ?_
        refine AllReadyH.cons rfl (fun K2 hK2 => ?_) AllReadyH.nil
        go_simp
        refine (HTF.out v11 hS.1.d).mono ?_
        rintro o v12 ⟨g1, rfl, d1, b1, _, _, _⟩
        have HXv12 : Hid (isHo v12 H s1.sl ∧ slSome s1.sl) := ⟨HXv11.out.1.below b1, HXv11.out.2⟩
        have HYv12 : Hid (isBytes v12 (some ⟨g1, 0, none⟩) fm fm F.l) := d1
        have HBWv12 : Hid (blk v12 v0.heap.size [.int .i64 0, .int .i64 0, .int .i64 0, .int .i64 0, .slice none 0 0, .slice none 0 0, .slice none 0 0, .slice none 0 0, .int .i64 0, .int .i64 0] 35) := HBWv11.out.below b1
        have hS5 : lfA w H s F fa fm fc v12 ∧ (blk v12 bw (hoL T sw) 35 ∧ Below wL.heap.size wL v12) := ⟨hS.1.below b1, ⟨hS.2.1.below b1, hS.2.2.trans (b1.mono hS.2.2.size)⟩⟩
        clear d1 b1
        go_wp2_with fail
        refine hK2.out _ _ hS5 (fun hS2 => ?_)
        clear hK2 K2 hS hS5
        have hS := hS2
        clear hS2
        refine wpAnyH_all (rs := [5]) (by kernel_rfl) (by simp) ?_
        refine AllReadyH.cons rfl (fun K2 hK2 => ?_) AllReadyH.nil
        go_simp
        refine (HIM2.out v12 s1.sl g1 HXv12.out.1 HXv12.out.2 HYv12.out).mono ?_
        rintro o v13 ⟨sh, rfl, S3, b1⟩
        have HTv13 : Hid (St v12.heap.size v13 (fun V => isHo V T sh)) := S3
        have HBWv13 : Hid (blk v13 v0.heap.size [.int .i64 0, .int .i64 0, .int .i64 0, .int .i64 0, .slice none 0 0, .slice none 0 0, .slice none 0 0, .slice none 0 0, .int .i64 0, .int .i64 0] 35) := HBWv12.out.below b1
        have HLTv13 : Hid (v0.heap.size < v12.heap.size) := HBWv12.out.lt
        have hS5 : lfA w H s F fa fm fc v13 ∧ (blk v13 bw (hoL T sw) 35 ∧ Below wL.heap.size wL v13) := ⟨hS.1.below b1, ⟨hS.2.1.below b1, hS.2.2.trans (b1.mono hS.2.2.size)⟩⟩
        clear S3 b1
        go_wp2_with fail
        refine hK2.out _ _ hS5 (fun hS2 => ?_)
        clear hK2 K2 hS hS5
        have hS := hS2
        clear hS2
        refine wpAnyH_all (rs := [7]) (by kernel_rfl) (by simp) ?_
        refine AllReadyH.cons rfl (fun K2 hK2 => ?_) AllReadyH.nil
        rw [if_pos (by rfl)]
        refine wp_store_mid 35 _ _ rfl (v0.heap.size) 0 (hoL T sh).toArray rfl rfl (HBWv13.out.there 0 _ (by rw [List.size_toArray, hoL_len]; decide)) (sz41A _ _) (hoL_one _ _) ?_
        have hbw : w.heap.size + 1 < v0.heap.size := HGv10.out
        have hS5 : lfA w H s F fa fm fc (v13.setCells (v0.heap.size) 0 (hoL T sh)) ∧ (blk (v13.setCells (v0.heap.size) 0 (hoL T sh)) bw (hoL T sw) 35 ∧ Below wL.heap.size wL (v13.setCells (v0.heap.size) 0 (hoL T sh))) := ⟨hS.1.put HH0.out HF0.out hbw _, ⟨hS.2.1.other (by have := HUv10.out; omega) _ _, setCells_below HUv10.out.1 0 _ hS.2.2⟩⟩
        have hT5 : isHo (v13.setCells (v0.heap.size) 0 (hoL T sh)) T sh := HTv13.out _ (fun x h1 h2 => setCells_other _ x (by have := HLTv13.out; omega) _ _ _)
        have hq5 : blk (v13.setCells (v0.heap.size) 0 (hoL T sh)) (v0.heap.size) (hoL T sh) 35 := put_host HBWv13.out (hoL_len _ _)
        refine hK2.out _ _ hS5 (fun hS2 => ?_)
        clear hK2 K2 hS hS2
        refine wpAnyH_done (by kernel_rfl) ?_ _
        refine ⟨rfl, s1, g1, sh, v0.heap.size, ?_, ⟨hS5.1, hq5, hT5⟩, hS5.2⟩
        rfl
    · rintro a' w18 ⟨s2, g2, sh, bh, rfl, hL18, hW18, hB18⟩
      have HL18 : Hid (lfS w H s F fa fm fc T bh sh w18 ∧ blk w18 bw (hoL T sw) 35 ∧ isHo w18 T sw) := ⟨hL18, hW18, HTW.out.below hB18⟩
      clear hL18 hW18 hB18
      simp only [Act.put, List.setIfInBounds_toArray, List.set_cons_zero, List.set_cons_succ]
      go_wp2_with (first
        | (refine wpList_load_mid (P := Tryz.prog) rfl 35 _ rfl bw 0 rfl (hoL T sw) _ HL18.out.2.1.load Tryz.underlying35 rfl (sz41L T sw) ?_)
        | (refine wpList_load_mid (P := Tryz.prog) rfl 35 _ rfl bh 0 rfl (hoL T sh) _ HL18.out.1.q.load Tryz.underlying35 rfl (sz41L T sh) ?_))
      refine (HQ.out w18 sh sw HL18.out.1.t HL18.out.2.2).mono ?_
      rintro o w20 ⟨rfl, b20⟩
      have HL20 : Hid (Below w.heap.size w w20) := (HL18.out.1.below b20).a.b
      clear b20 HL18
      go_wp2_with fail
      go_ret
      exact ⟨rfl, HL20.out⟩
end Go.Proofs.YtaamahohdnbpiaaGreat
