import Derived.Test.YtpknchjjfiiaeaaGreatDoorV38
import Derived.Test.YtpknchjjfiiaeaaGreatDoorV11
import Derived.Test.YtpknchjjfiiaeaaGreatDoorV15
import Derived.Test.YtpknchjjfiiaeaaGreatDoorV14
import Derived.Test.YtpknchjjfiiaeaaGreatDoorV02
namespace Go.Proofs.YtpknchjjfiiaeaaGreatDoor
open Go.RowKit
set_option linter.unusedVariables false
theorem ownsS.nil {w : World} {B : Nat} {v : Value} (h : ownsS w B v []) : ∃ a k, v = .slice a 0 k := by
  obtain ⟨h1, ⟨h2, h3⟩ | ⟨g, cap, cur, h2, h3, hh, h4⟩⟩ := h
  · exact ⟨none, 0, h2⟩
  · exact ⟨_, cap, h2⟩
/-- the drawn frame in block F, and its bytes -/
structure lpI (w : World) (F : Nat) (FX : List Value) (ao : Option Addr) (m cp : Nat) (l : List Nat) (W : World) : Prop where
  x : Kd.blk W F FX 33
  y : J.isBytes W ao m cp l
  bel : Below w.heap.size w W
  tab : W.rangeAt 0 0 Kd.tabL
  z : 0 < W.heap.size
theorem lpI.below {w : World} {F : Nat} {FX : List Value} {ao : Option Addr} {m cp : Nat} {l : List Nat} {W W' : World} (h : lpI w F FX ao m cp l W) (hb : Below W.heap.size W W') : lpI w F FX ao m cp l W' :=
  ⟨h.x.below hb, h.y.below hb, h.bel.trans (hb.mono h.bel.size), fun j u hj => (hb.cell (p := ⟨0, 0 + j, none⟩) h.z).trans (h.tab j u hj), Nat.lt_of_lt_of_le h.z hb.size⟩
set_option maxHeartbeats 16000000 in
set_option maxRecDepth 40000 in
/-- laws.FnPacked -/
theorem lawPacked (a : Option Addr) (n cap : Nat) (l : List Nat) (w : World) (h : J.isBytes w a n cap l) (hn : n ≤ 9223372036854775807) (tab : w.rangeAt 0 0 Kd.tabL) (hz0 : 0 < w.heap.size) :
    Calls Tryz.prog 3 #[.slice a n cap] w fun o w' => o = .returned (.bool true) ∧ Below w.heap.size w w' := by
  by_cases hl : (1048576 : Int) < (n : Int)
  · clear h
    go_enter Tryz.func3, Tryz.ntmps3
    go_wp2
    go_ret
    exact ⟨rfl, Below.refl _ _⟩
  · have HD : Hid (Calls Tryz.prog 4 #[.slice a n cap] w fun o w' => ∃ t : ByteArray, o = .returned (.string t) ∧ t.size ≤ 3000000 ∧ Below w.heap.size w w') := J.drawPack_any w a n cap l h (by omega)
    have HE : Hid (∀ W, Below w.heap.size w W → Calls Tryz.prog 11 #[.slice a n cap] W fun o w' => J.drOut W o w') := fun W hW => J.drawEncode_any W a n cap l (h.below hW) (by omega)
    have HTB : Hid (∀ W, Below w.heap.size w W → W.rangeAt 0 0 Kd.tabL ∧ 0 < W.heap.size) := fun W hW => ⟨fun j u hj => (hW.cell (p := ⟨0, 0 + j, none⟩) hz0).trans (tab j u hj), Nat.lt_of_lt_of_le hz0 hW.size⟩
    clear h hn tab hz0
    go_enter Tryz.func3, Tryz.ntmps3
    go_wp2_with fail
    refine HD.out.mono ?_
    rintro y w1 ⟨s, rfl, hs, b1⟩
    obtain ⟨L, hL, hn4, e1, e2⟩ := pk_form s
    have HP := hidYY (fun W => pack_call s L e1 e2 W)
    have HQ := hidYY (fun W => spack_call s (by unfold maxLen; omega) L e1 e2 W)
    have HU := hidYY (unpack_call L hL hn4)
    have HV := hidYY (sunpack_call L hL hn4)
    have HC := hidYY (crcp_call L hL hn4)
    have HR := hidYY (J.crc15_any (strN L))
    have HB1 : Hid (Below w.heap.size w w1) := b1
    clear HD b1 hL hn4 e1 e2
    generalize strN L = SL at *
    generalize (L.length : Int) = NL at *
    generalize (wl L).length = ML at *
    generalize wl L = WL at *
    generalize J.crcZ SL = CL at *
    have hCL : (CL != CL) = false := by simp
    go_wp2_with fail
    refine (HP.out _).mono ?_
    rintro y w2 ⟨a2, c2, rfl, i2, b2⟩
    have HB2 := hidYY (HB1.out.trans (b2.mono HB1.out.size))
    have HI2 := hidYY i2
    clear b2 i2 HB1
    go_wp2_with fail
    refine (HU.out _ _ _ HI2.out).mono ?_
    rintro y w3 ⟨rfl, b3⟩
    have HB3 := hidYY (HB2.out.trans (b3.mono HB2.out.size))
    clear b3 HB2 HI2
    go_wp2_with fail
    refine (HQ.out _).mono ?_
    rintro y w4 ⟨a4, c4, rfl, i4, b4⟩
    have HB4 := hidYY (HB3.out.trans (b4.mono HB3.out.size))
    have HI4 := hidYY i4
    clear b4 i4 HB3
    go_wp2_with fail
    refine (HV.out _ _ _ HI4.out).mono ?_
    rintro y w5 ⟨rfl, b5⟩
    have HB5 := hidYY (HB4.out.trans (b5.mono HB4.out.size))
    clear b5 HB4 HI4
    go_wp2_with fail
    refine (HP.out _).mono ?_
    rintro y w6 ⟨a6, c6, rfl, i6, b6⟩
    have HB6 := hidYY (HB5.out.trans (b6.mono HB5.out.size))
    have HI6 := hidYY i6
    clear b6 i6 HB5
    go_wp2_with fail
    refine (HC.out _ _ _ HI6.out).mono ?_
    rintro y w7 ⟨rfl, b7⟩
    have HB7 := hidYY (HB6.out.trans (b7.mono HB6.out.size))
    clear b7 HB6 HI6
    go_wp2_with fail
    refine (HQ.out _).mono ?_
    rintro y w8 ⟨a8, c8, rfl, i8, b8⟩
    have HB8 := hidYY (HB7.out.trans (b8.mono HB7.out.size))
    have HI8 := hidYY i8
    clear b8 i8 HB7
    go_wp2_with fail
    refine (HV.out _ _ _ HI8.out).mono ?_
    rintro y w9 ⟨rfl, b9⟩
    have HB9 := hidYY (HB8.out.trans (b9.mono HB8.out.size))
    clear b9 HB8 HI8
    go_wp2_with fail
    refine (HR.out _).mono ?_
    rintro y w10 ⟨rfl, b10⟩
    have HB10 := hidYY (HB9.out.trans (b10.mono HB9.out.size))
    clear b10 HB9
    clear HP HQ HU HV HC HR hCL
    go_wp2_with fail
    refine (HE.out _ HB10.out).mono ?_
    rintro y w11 ⟨e, i, r, d, ao, cp, dl, rfl, hi, hd, hl9, hy, hb⟩
    have H12 : Hid (lpI w w11.heap.size [.bool e, .int .u32 (i : Int), .bool r, .int .i64 d, .slice ao dl.length cp] ao dl.length cp dl (w11.alloc (.cells [.bool e, .int .u32 (i : Int), .bool r, .int .i64 d, .slice ao dl.length cp].toArray 33))) := by
      have hB : Below w.heap.size w w11 := HB10.out.trans (hb.mono HB10.out.size)
      have hA : Below w11.heap.size w11 (w11.alloc (.cells [.bool e, .int .u32 (i : Int), .bool r, .int .i64 d, .slice ao dl.length cp].toArray 33)) := (Below.refl _ _).alloc (Nat.le_refl _) _
      have hT := HTB.out _ (hB.alloc hB.size (.cells [.bool e, .int .u32 (i : Int), .bool r, .int .i64 d, .slice ao dl.length cp].toArray 33))
      exact ⟨Kd.blk.new w11 _ 33, hy.below hA, hB.alloc hB.size _, hT.1, hT.2⟩
    have HSM := hidYY hy.small
    have HNN := hidYY (And.intro hi hd)
    clear hi hd hy hb HB10 HE HTB
    go_upto_region 7 with fail
    change Code.wp _ _ _ _ (w11.alloc (.cells [.bool e, .int .u32 (i : Int), .bool r, .int .i64 d, .slice ao dl.length cp].toArray 33))
    generalize w11.heap.size = F at *
    generalize w11.alloc (.cells [.bool e, .int .u32 (i : Int), .bool r, .int .i64 d, .slice ao dl.length cp].toArray 33) = w12 at *
    clear w1 w2 w3 w4 w5 w6 w7 w8 w9 w10 w11
    go_upto_region 8 with (first
      | (refine wpList_load_mid (P := Tryz.prog) rfl 33 _ rfl F 0 rfl [.bool e, .int .u32 (i : Int), .bool r, .int .i64 d, .slice ao dl.length cp] _ H12.out.x.load Tryz.underlying33 rfl sz31F ?_)
      | (go_at_call 12; refine (J.encode_any _ e i r d ao _ cp dl H12.out.y).mono ?_; rintro y w13 ⟨rfl, b13⟩))
    have H13 := hidYY (H12.out.below b13)
    clear H12 b13
    go_wp2_with (first
      | (refine wpList_load_mid (P := Tryz.prog) rfl 33 _ rfl F 0 rfl [.bool e, .int .u32 (i : Int), .bool r, .int .i64 d, .slice ao dl.length cp] _ H13.out.x.load Tryz.underlying33 rfl sz31F ?_))
    refine (J.specValid_any _ e i r d ao _ cp).mono ?_
    rintro y w14 ⟨rfl, b14⟩
    have H14 := hidYY (H13.out.below b14)
    clear H13 b14
    cases hv : J.validB e i r d dl.length
    · have henc : J.encZ e i r d dl.length dl = ⟨#[]⟩ := by unfold J.encZ; rw [hv]; rfl
      rw [henc]
      have hspz : spZ e i r d dl.length dl = [] := by unfold spZ; rw [hv]; rfl
      have himz : imZ e i r d dl.length dl = [] := by unfold imZ; rw [hv]; rfl
      have hwl : wl [] = [] := rfl
      have HS : Hid (Calls Tryz.prog 14 #[J.frV e i r d ao dl.length cp] w14 fun y w' => ∃ a1 k1, y = .returned (.slice a1 0 k1) ∧ Below w14.heap.size w14 w') := by
        have := implSpans_any w14 H14.out.tab H14.out.z e i r d ao dl.length cp dl H14.out.y
        rw [hspz] at this
        refine this.mono ?_
        rintro y w' ⟨v, rfl, o1, b1⟩
        obtain ⟨a1, k1, rfl⟩ := ownsS.nil o1
        exact ⟨a1, k1, rfl, b1⟩
      have HM : Hid (∀ W, lpI w F [.bool e, .int .u32 (i : Int), .bool r, .int .i64 d, .slice ao dl.length cp] ao dl.length cp dl W → Calls Tryz.prog 15 #[J.frV e i r d ao dl.length cp] W fun y w' => ∃ a1 m1 k1, y = .returned (.agg #[.int .i64 0, .slice a1 m1 k1]) ∧ Below W.heap.size W w') := by
        intro W hW
        have := implImage_any W hW.tab hW.z e i r d ao dl.length cp dl hW.y
        rw [himz] at this
        refine this.mono ?_
        rintro y w' ⟨a1, k1, rfl, o1, b1⟩
        exact ⟨a1, _, k1, rfl, b1⟩
      clear hspz himz hwl henc hv
      go_wp2_with (first
        | (refine Kd.wpList_load_midG rfl 33 _ rfl F 0 rfl [.bool e, .int .u32 (i : Int), .bool r, .int .i64 d, .slice ao dl.length cp] _ H14.out.x.load Tryz.underlying33 rfl sz31F ?_))
      refine HS.out.mono ?_
      rintro y w15 ⟨a1, k1, rfl, b15⟩
      have H15 := hidYY (H14.out.below b15)
      clear H14 b15 HS
      go_wp2_with (first
        | (refine Kd.wpList_load_midG rfl 33 _ rfl F 0 rfl [.bool e, .int .u32 (i : Int), .bool r, .int .i64 d, .slice ao dl.length cp] _ H15.out.x.load Tryz.underlying33 rfl sz31F ?_))
      refine (HM.out _ H15.out).mono ?_
      rintro y w16 ⟨a2, m2, k2, rfl, b16⟩
      have H16 := hidYY (H15.out.below b16)
      clear H15 b16 HM
      have hfld : ∀ W : World, (Instr.field 27 (.agg #[.int .i64 0, .slice a2 m2 k2]) 0).run Tryz.prog W = .ok (.int .i64 0) W := fun W => by kernel_rfl
      go_wp2
      go_ret
      exact ⟨rfl, H16.out.bel⟩
    · obtain ⟨f1, f2, f3, f4, f5⟩ := valid_facts (l := dl) hv rfl
      obtain ⟨dn, rfl⟩ : ∃ dn : Nat, d = (dn : Int) := ⟨d.toNat, f4⟩
      rw [Int.toNat_natCast] at f2 f3
      have eE : J.encZ e i r (dn : Int) dl.length dl = strN (imgL e i r dn dl) := by unfold J.encZ; rw [if_pos hv]; rfl
      have eI : imZ e i r (dn : Int) dl.length dl = imgL e i r dn dl := by unfold imZ; rw [if_pos hv]; rfl
      have eS : spZ e i r (dn : Int) dl.length dl = imgS e i r dn dl := by unfold spZ; rw [if_pos hv]; rfl
      have hIL := imgL_isL e i r dn dl
      have hI3 := imgL_len e i r dn dl f5
      have hI10 : 10 ≤ (imgL e i r dn dl).length := by unfold imgL; rw [List.length_append, List.length_replicate]; omega
      have hIz : (strN (imgL e i r dn dl)).size = (imgL e i r dn dl).length := by simp [strN, ByteArray.size]
      have HE2 : Hid (∀ W, lpI w F [.bool e, .int .u32 (i : Int), .bool r, .int .i64 (dn : Int), .slice ao dl.length cp] ao dl.length cp dl W → Calls Tryz.prog 16 #[J.frV e i r (dn : Int) ao dl.length cp] W fun y w' => y = .returned (.string (strN (imgL e i r dn dl))) ∧ Below W.heap.size W w') := by
        intro W hW
        have := J.specEncode_any W e i r (dn : Int) ao dl.length cp dl hW.y
        rw [eE] at this
        exact this
      have HM : Hid (∀ W, lpI w F [.bool e, .int .u32 (i : Int), .bool r, .int .i64 (dn : Int), .slice ao dl.length cp] ao dl.length cp dl W → Calls Tryz.prog 15 #[J.frV e i r (dn : Int) ao dl.length cp] W fun y w' => ∃ a1 k1, y = .returned (pkV ((imgL e i r dn dl).length : Int) a1 (wl (imgL e i r dn dl)).length k1) ∧ isWords w' a1 (wl (imgL e i r dn dl)).length k1 (wl (imgL e i r dn dl)) ∧ Below W.heap.size W w') := by
        intro W hW
        have := implImage_any W hW.tab hW.z e i r (dn : Int) ao dl.length cp dl hW.y
        rw [eI] at this
        refine this.mono ?_
        rintro y w' ⟨a1, k1, rfl, o1, b1⟩
        exact ⟨a1, k1, rfl, own_words o1 rfl, b1⟩
      have HU := hidYY (unpack_call (imgL e i r dn dl) hIL (by omega))
      have HS : Hid (∀ W, lpI w F [.bool e, .int .u32 (i : Int), .bool r, .int .i64 (dn : Int), .slice ao dl.length cp] ao dl.length cp dl W → Calls Tryz.prog 14 #[J.frV e i r (dn : Int) ao dl.length cp] W fun y w' => ∃ g k1, y = .returned (.slice (some ⟨g, 0, none⟩) (imgS e i r dn dl).length k1) ∧ (∀ j f fr c : Nat, (imgS e i r dn dl)[j]? = some (f, fr, c) → w'.cell? ⟨g, j * 3, none⟩ = some (.int .i64 (f : Int)) ∧ w'.cell? ⟨g, j * 3 + 1, none⟩ = some (.int .i64 (fr : Int)) ∧ w'.cell? ⟨g, j * 3 + 2, none⟩ = some (.int .i64 (c : Int))) ∧ Below W.heap.size W w') := by
        intro W hW
        have := implSpans_any W hW.tab hW.z e i r (dn : Int) ao dl.length cp dl hW.y
        rw [eS] at this
        refine this.mono ?_
        rintro y w' ⟨v, rfl, o1, b1⟩
        obtain ⟨g, k1, rfl, q⟩ := ownsS.at o1 (imgS_ne e i r dn dl)
        exact ⟨g, k1, rfl, q, b1⟩
      have HK0 := hidYY (spK.zero e i r dn dl f3 HSM.out)
      have hSl : (imgS e i r dn dl).length ≤ 300 := by
        have h1 := imgS_wf e i r dn dl f3 HSM.out
        have := wfS_len _ _ _ h1.1
        rw [h1.2] at this
        omega
      have HBd : Hid (∀ W, lpI w F [.bool e, .int .u32 (i : Int), .bool r, .int .i64 (dn : Int), .slice ao dl.length cp] ao dl.length cp dl W → Calls Tryz.prog 17 #[J.frV e i r (dn : Int) ao dl.length cp] W fun y w' => y = .returned (.string (strN (J.bodyL e i r dn dl))) ∧ Below W.heap.size W w') := fun W hW => J.body_ok W e i r dn ao dl.length cp dl hW.y hv
      have HBs : Hid (∀ W, lpI w F [.bool e, .int .u32 (i : Int), .bool r, .int .i64 (dn : Int), .slice ao dl.length cp] ao dl.length cp dl W → Calls Tryz.prog 21 #[J.frV e i r (dn : Int) ao dl.length cp] W fun y w' => y = .returned (.string (strN (J.bodyL e i r dn dl))) ∧ Below W.heap.size W w') := fun W hW => J.specBody_ok W e i r dn ao dl.length cp dl hW.y hv
      have eC := crcBody e i r dn dl f5
      have HR := hidYY (J.crc15_any (strN (J.bodyL e i r dn dl)))
      obtain ⟨q1, q2, q3, q4⟩ := pkBody e i r dn dl f5
      have HP := hidYY (fun W => pack_call (strN (J.bodyL e i r dn dl)) _ q3 q4 W)
      have HC := hidYY (crcp_call (J.bodyL e i r dn dl) q1 q2)
      rw [eC] at HR HC
      have HW := hidYY (J.wBits_15 (J.M.crcN ((J.bodyL e i r dn dl).map (fun x => x - 48))) (J.M.crcN_lt _))
      have HRn := hidYY (runs_call e i r dn dl hI3)
      have HDr : Hid (∀ W aa nn cc xs, isInts W aa nn cc xs → nn ≤ 1048576 → drZ 0 xs = (strN (J.plainL e i r dn dl), -1) → Calls Tryz.prog 19 #[.int .i64 0, .slice aa nn cc] W fun y w' => y = .returned (.tuple #[.string (strN (J.plainL e i r dn dl)), .int .i64 (-1)]) ∧ Below W.heap.size W w') := by
        intro W aa nn cc xs h1 h2 h3
        have := implRuns_any W 0 aa nn cc xs h1 h2
        rw [h3] at this
        exact this
      have HPL : Hid (strN (J.bodyL e i r dn dl) ++ strN (J.M.num (J.M.crcN ((J.bodyL e i r dn dl).map (fun x => x - 48))) 15) = strN (J.plainL e i r dn dl)) := J.strN_append _ _
      have hbs : (strN (J.bodyL e i r dn dl)).size ≤ 200 := by
        have := J.bodyL_length e i r dn dl
        have e2 : (strN (J.bodyL e i r dn dl)).size = (J.bodyL e i r dn dl).length := by simp [strN, ByteArray.size]
        rw [e2, this]
        cases e <;> simp <;> omega
      have hns : (strN (J.M.num (J.M.crcN ((J.bodyL e i r dn dl).map (fun x => x - 48))) 15)).size = 15 := by
        have e2 : (strN (J.M.num (J.M.crcN ((J.bodyL e i r dn dl).map (fun x => x - 48))) 15)).size = (J.M.num (J.M.crcN ((J.bodyL e i r dn dl).map (fun x => x - 48))) 15).length := by simp [strN, ByteArray.size]
        rw [e2, J.M.num_length]
      rw [eE]
      clear eE eI eS hIL hv f1 f2 f3 f4 f5 eC q1 q2 q3 q4 HSM HNN
      change Hid (∀ (W : World), Calls Tryz.prog 18 #[.int .i64 ((J.M.crcN ((J.bodyL e i r dn dl).map (fun x => x - 48)) : Nat) : Int), .int .i64 15] W fun o w' => o = .returned (.string (strN (J.M.num (J.M.crcN ((J.bodyL e i r dn dl).map (fun x => x - 48))) 15))) ∧ Below W.heap.size W w') at HW
      generalize J.M.crcN ((J.bodyL e i r dn dl).map (fun x => x - 48)) = CN at *
      generalize strN (J.M.num CN 15) = tn at *
      generalize strN (J.bodyL e i r dn dl) = tb at *
      generalize strN (J.plainL e i r dn dl) = tp at *
      generalize (J.bodyL e i r dn dl).length = BN at *
      generalize wl (J.bodyL e i r dn dl) = WB at *
      generalize strN (imgL e i r dn dl) = ti at *
      generalize wl (imgL e i r dn dl) = WI at *
      generalize (imgL e i r dn dl).length = LN at *
      generalize imgS e i r dn dl = SS at *
      go_wp2_with (first
        | (refine Kd.wpList_load_midG rfl 33 _ rfl F 0 rfl [.bool e, .int .u32 (i : Int), .bool r, .int .i64 (dn : Int), .slice ao dl.length cp] _ H14.out.x.load Tryz.underlying33 rfl sz31F ?_))
      refine (HE2.out _ H14.out).mono ?_
      rintro y w15 ⟨rfl, b15⟩
      have H15 := hidYY (H14.out.below b15)
      clear H14 b15 HE2
      go_wp2_with (first
        | (refine Kd.wpList_load_midG rfl 33 _ rfl F 0 rfl [.bool e, .int .u32 (i : Int), .bool r, .int .i64 (dn : Int), .slice ao dl.length cp] _ H15.out.x.load Tryz.underlying33 rfl sz31F ?_))
      refine (HM.out _ H15.out).mono ?_
      rintro y w16 ⟨a1, k1, rfl, i16, b16⟩
      have H16 := hidYY (H15.out.below b16)
      have HI16 := hidYY i16
      clear H15 b16 HM i16
      go_wp2_with fail
      refine (HU.out _ _ _ HI16.out).mono ?_
      rintro y w17 ⟨rfl, b17⟩
      have H17 := hidYY (H16.out.below b17)
      clear H16 b17 HU HI16
      go_wp2_with (first
        | (refine Kd.wpList_load_midG rfl 33 _ rfl F 0 rfl [.bool e, .int .u32 (i : Int), .bool r, .int .i64 (dn : Int), .slice ao dl.length cp] _ H17.out.x.load Tryz.underlying33 rfl sz31F ?_))
      refine (HS.out _ H17.out).mono ?_
      rintro y w18 ⟨g, k2, rfl, c18, b18⟩
      have H18 := hidYY (H17.out.below b18)
      have HC18 := hidYY c18
      clear H17 b18 HS c18
      go_wp2_with fail
      go_loopw [6, 7, 9] (fun at_ la ii wr => ∃ k A p : Nat, wr = w18 ∧ at_ = .int .i64 (A : Int) ∧ la = .int .i64 (p : Int) ∧ ii = .int .i64 (k : Int) ∧ spK SS LN k A p) (fun _ _ ii _ => SS.length - (intOf ii).toNat)
      case atStart => exact ⟨0, 0, 0, rfl, rfl, rfl, rfl, HK0.out⟩
      case round =>
        obtain ⟨k, A, p, rfl, rfl, rfl, rfl, hk⟩ := hrel
        by_cases hlt : k < SS.length
        · obtain ⟨f, c, hx, hc0, hpf, hac, hk1⟩ := hk.next hlt
          obtain ⟨q0, q1, q2⟩ := HC18.out k f A c hx
          have hf14 := hk1.fle
          have HK1 := hidYY hk1
          have hA : ((A : Int) != (A : Int)) = false := by simp
          have hkk : k ≤ 300 := by omega
          clear hx hk hk1 HK0 HC18
          go_wp2
          go_roundw
          case rel => exact ⟨k + 1, A + c, f, by trivial, by go_num, rfl, by go_num, HK1.out⟩
          case measure => simp [intOf]; omega
        · obtain ⟨rfl, rfl⟩ := hk.fin hlt
          clear hk HK0 HC18
          have hA : ((A : Int) != (A : Int)) = false := by simp
          go_wp2_with (first
            | (refine Kd.wpList_load_midG rfl 33 _ rfl F 0 rfl [.bool e, .int .u32 (i : Int), .bool r, .int .i64 (dn : Int), .slice ao dl.length cp] _ H18.out.x.load Tryz.underlying33 rfl sz31F ?_))
          refine (HBd.out _ H18.out).mono ?_
          rintro y w19 ⟨rfl, b19⟩
          have H19 := hidYY (H18.out.below b19)
          clear H18 b19 HBd
          go_wp2_with fail
          refine (HR.out _).mono ?_
          rintro y w20 ⟨rfl, b20⟩
          have H20 := hidYY (H19.out.below b20)
          clear H19 b20 HR
          go_wp2_with fail
          refine (HW.out _).mono ?_
          rintro y w21 ⟨rfl, b21⟩
          have H21 := hidYY (H20.out.below b21)
          clear H20 b21 HW
          have h10 : (A : Int) - 10 = ((A - 10 : Nat) : Int) := by omega
          have h10' : A - 10 ≤ A := by omega
          go_wp2_with fail
          refine (HRn.out _).mono ?_
          rintro y w22 ⟨a3, n3, c3, xs, rfl, i22, n22, d22, b22⟩
          have H22 := hidYY (H21.out.below b22)
          have HI22 := hidYY i22
          have HN22 := hidYY n22
          have HD22 := hidYY d22
          clear H21 b22 HRn i22 n22 d22 h10 h10'
          go_wp2_with fail
          refine (HDr.out _ _ _ _ _ HI22.out HN22.out HD22.out).mono ?_
          rintro y w23 ⟨rfl, b23⟩
          have H23 := hidYY (H22.out.below b23)
          clear H22 b23 HDr HI22 HN22 HD22
          rw [HPL.out]
          go_wp2_with fail
          refine (HP.out _).mono ?_
          rintro y w24 ⟨a4, c4, rfl, i24, b24⟩
          have H24 := hidYY (H23.out.below b24)
          have HI24 := hidYY i24
          clear H23 b24 HP i24
          go_wp2_with fail
          refine (HC.out _ _ _ HI24.out).mono ?_
          rintro y w25 ⟨rfl, b25⟩
          have H25 := hidYY (H24.out.below b25)
          clear H24 b25 HC HI24
          go_wp2_with (first
            | (refine Kd.wpList_load_midG rfl 33 _ rfl F 0 rfl [.bool e, .int .u32 (i : Int), .bool r, .int .i64 (dn : Int), .slice ao dl.length cp] _ H25.out.x.load Tryz.underlying33 rfl sz31F ?_))
          refine (HBs.out _ H25.out).mono ?_
          rintro y w26 ⟨rfl, b26⟩
          have H26 := hidYY (H25.out.below b26)
          clear H25 b26 HBs
          go_wp2
          go_ret
          exact ⟨rfl, H26.out.bel⟩
end Go.Proofs.YtpknchjjfiiaeaaGreatDoor
