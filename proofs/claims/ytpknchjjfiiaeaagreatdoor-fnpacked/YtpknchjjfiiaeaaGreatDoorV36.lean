import Derived.Test.YtpknchjjfiiaeaaGreatDoorV35
namespace Go.Proofs.YtpknchjjfiiaeaaGreatDoor
open Go.RowKit
set_option linter.unusedVariables false
/-- the letters of Image's answer -/
def imZ (e : Bool) (i : Nat) (r : Bool) (d : Int) (n : Nat) (l : List Nat) : List Nat := if J.validB e i r d n = true then imgL e i r d.toNat l else []
theorem imgL_isL (e : Bool) (i : Nat) (r : Bool) (d : Nat) (l : List Nat) : ∀ x ∈ imgL e i r d l, J.M.isL x := by
  intro x hx
  unfold imgL at hx
  rw [List.mem_append] at hx
  rcases hx with hx | hx
  · exact J.M.stuff_all _ (J.plainL_isL e i r d l) x hx
  · rw [List.mem_replicate] at hx; exact .inr hx.2
theorem imgL_len (e : Bool) (i : Nat) (r : Bool) (d : Nat) (l : List Nat) (hl : l.length ≤ 8) : (imgL e i r d l).length ≤ 300 := by
  have h1 := J.M.stuff_len (J.plainL e i r d l)
  have h2 : (J.plainL e i r d l).length ≤ 118 := by rw [J.plainL_length]; split <;> omega
  unfold imgL
  rw [List.length_append, List.length_replicate]
  omega
theorem okT_img (L : List Nat) (h : ∀ x ∈ L, J.M.isL x) (hl : L.length ≤ 4000) : okT (strN L) 4000 = true := J.okT_strN L 4000 h (by omega)
theorem pk_img (L : List Nat) (h : ∀ x ∈ L, J.M.isL x) (hl : L.length ≤ 4000) : pkN (strN L) = L.length ∧ pkZ (strN L) = wl L := by
  have hs : (strN L).size = L.length := by simp [strN, ByteArray.size]
  have e : pkN (strN L) = L.length := by unfold pkN; rw [if_pos (okT_img L h hl), hs]
  refine ⟨e, ?_⟩
  have := wn_end (strN L)
  rw [hs] at this
  unfold pkZ wl
  rw [e, this]
theorem valid_facts {e : Bool} {i : Nat} {r : Bool} {d : Int} {n : Nat} {l : List Nat} (h : J.validB e i r d n = true) (hn : n = l.length) : i < 4294967296 ∧ d.toNat ≤ 15 ∧ l.length = dlN r d.toNat ∧ d = (d.toNat : Int) ∧ l.length ≤ 8 := by
  have h1 := J.validB_true h
  have h2 : (n : Int) = J.dl r d := by
    unfold J.validB at h
    simp only [Bool.and_eq_true, beq_iff_eq] at h
    exact h.2
  refine ⟨by omega, by omega, ?_, by omega, by omega⟩
  unfold dlN
  unfold J.dl at h2
  cases r
  · simp only [Bool.false_eq_true, if_false] at h2 ⊢
    split at h2 <;> omega
  · simp only [if_true] at h2 ⊢
    omega
set_option maxHeartbeats 4000000 in
set_option maxRecDepth 20000 in
/-- impl.Image -/
theorem implImage_any (w : World) (tab : w.rangeAt 0 0 Kd.tabL) (hz0 : 0 < w.heap.size) (e : Bool) (i : Nat) (r : Bool) (d : Int) (a : Option Addr) (n cap : Nat) (l : List Nat) (h : J.isBytes w a n cap l) :
    Calls Tryz.prog 15 #[J.frV e i r d a n cap] w fun y w' => ∃ ao cp, y = .returned (pkV ((imZ e i r d n l).length : Int) ao (wl (imZ e i r d n l)).length cp) ∧ ownsW w' w.heap.size (.slice ao (wl (imZ e i r d n l)).length cp) (wl (imZ e i r d n l)) ∧ Below w.heap.size w w' := by
  have HLEN := hidYY h.len
  have H0 : Hid (Kd.blk ((w.alloc (.cells [.bool e, .int .u32 (i : Int), .bool r, .int .i64 d, .slice a n cap].toArray 33)).alloc (.cells [.int .i64 0, .slice none 0 0].toArray 27)) w.heap.size [.bool e, .int .u32 (i : Int), .bool r, .int .i64 d, .slice a n cap] 33 ∧ Kd.blk ((w.alloc (.cells [.bool e, .int .u32 (i : Int), .bool r, .int .i64 d, .slice a n cap].toArray 33)).alloc (.cells [.int .i64 0, .slice none 0 0].toArray 27)) (w.heap.size + 1) [.int .i64 0, .slice none 0 0] 27 ∧ Below w.heap.size w ((w.alloc (.cells [.bool e, .int .u32 (i : Int), .bool r, .int .i64 d, .slice a n cap].toArray 33)).alloc (.cells [.int .i64 0, .slice none 0 0].toArray 27)) ∧ ((w.alloc (.cells [.bool e, .int .u32 (i : Int), .bool r, .int .i64 d, .slice a n cap].toArray 33)).alloc (.cells [.int .i64 0, .slice none 0 0].toArray 27)).heap.size = w.heap.size + 2) := by
    refine ⟨(Kd.blk.new w _ 33).alloc _, ?_, ((Below.refl _ _).alloc (Nat.le_refl _) _).alloc (by simp) _, by simp⟩
    have := Kd.blk.new (w.alloc (.cells [.bool e, .int .u32 (i : Int), .bool r, .int .i64 d, .slice a n cap].toArray 33)) [.int .i64 0, .slice none 0 0] 27
    simpa using this
  have HV := hidYY (fun W (hW : Below w.heap.size w W) => J.valid_any W e i r d a n cap l (h.below hW))
  obtain ⟨w2, hw2⟩ : ∃ w2, w2 = ((w.alloc (.cells [.bool e, .int .u32 (i : Int), .bool r, .int .i64 d, .slice a n cap].toArray 33)).alloc (.cells [.int .i64 0, .slice none 0 0].toArray 27)) := ⟨_, rfl⟩
  rw [← hw2] at H0
  by_cases hv : J.validB e i r d n = true
  · obtain ⟨f1, f2, f3, f4, f5⟩ := valid_facts hv HLEN.out
    have eZ : imZ e i r d n l = imgL e i r d.toNat l := if_pos hv
    have HLY : Hid (∀ W, Below w.heap.size w W → Calls Tryz.prog 44 #[.agg [.bool e, .int .u32 (i : Int), .bool r, .int .i64 d, .slice a n cap].toArray] W fun y w' => ∃ ao cp sv, y = .returned (.tuple #[pkV ((imgL e i r d.toNat l).length : Int) ao (wl (imgL e i r d.toNat l)).length cp, sv]) ∧ ownsW w' W.heap.size (.slice ao (wl (imgL e i r d.toNat l)).length cp) (wl (imgL e i r d.toNat l)) ∧ ownsS w' W.heap.size sv (imgS e i r d.toNat l) ∧ Below W.heap.size W w') := by
      intro W hW
      have := layOut_any W e i r d.toNat a n cap l (h.below hW) (fun j u hj => (hW.cell (p := ⟨0, 0 + j, none⟩) hz0).trans (tab j u hj)) (Nat.lt_of_lt_of_le hz0 hW.size) f1 f2 f3
      rw [← f4] at this
      exact this
    rw [eZ]
    generalize imgL e i r d.toNat l = IL at *
    have HVV : Hid (∀ W, Below w.heap.size w W → Calls Tryz.prog 40 #[.agg [.bool e, .int .u32 (i : Int), .bool r, .int .i64 d, .slice a n cap].toArray] W fun o w' => o = .returned (.bool true) ∧ Below W.heap.size W w') := fun W hW => by have := HV.out W hW; rw [hv] at this; exact this
    clear HV eZ f1 f2 f3 f4 f5 hv h HLEN tab hz0
    go_enter Tryz.func15, Tryz.ntmps15
    go_upto_region 1 with fail
    change Code.wp _ _ _ _ ((w.alloc (.cells [.bool e, .int .u32 (i : Int), .bool r, .int .i64 d, .slice a n cap].toArray 33)).alloc (.cells [.int .i64 0, .slice none 0 0].toArray 27))
    rw [← hw2]
    clear hw2
    go_wp2_with (first
      | (refine wpList_load_mid (P := Tryz.prog) rfl 33 _ rfl w.heap.size 0 rfl [.bool e, .int .u32 (i : Int), .bool r, .int .i64 d, .slice a n cap] _ H0.out.1.load Tryz.underlying33 rfl sz31F ?_)
      | (go_at_call 40; refine (HVV.out _ H0.out.2.2.1).mono ?_; rintro y w3 ⟨rfl, b3⟩; have H3 : Hid (Kd.blk w3 w.heap.size [.bool e, .int .u32 (i : Int), .bool r, .int .i64 d, .slice a n cap] 33 ∧ Kd.blk w3 (w.heap.size + 1) [.int .i64 0, .slice none 0 0] 27 ∧ Below w.heap.size w w3 ∧ w.heap.size + 2 ≤ w3.heap.size) := ⟨H0.out.1.below b3, H0.out.2.1.below b3, H0.out.2.2.1.trans (b3.mono H0.out.2.2.1.size), by have := b3.size; have := H0.out.2.2.2; omega⟩; clear b3)
      | (refine wpList_load_mid (P := Tryz.prog) rfl 33 _ rfl w.heap.size 0 rfl [.bool e, .int .u32 (i : Int), .bool r, .int .i64 d, .slice a n cap] _ H3.out.1.load Tryz.underlying33 rfl sz31F ?_)
      | (go_at_call 44; refine (HLY.out _ H3.out.2.2.1).mono ?_; rintro y w5 ⟨ao, cp, sv, rfl, o5, _, b5⟩; have H5 : Hid (Kd.blk (w5.alloc (.cells #[.int .i64 (IL.length : Int), .slice ao (wl IL).length cp] 27)) (w.heap.size + 1) [.int .i64 0, .slice none 0 0] 27 ∧ Below w.heap.size w (w5.alloc (.cells #[.int .i64 (IL.length : Int), .slice ao (wl IL).length cp] 27)) ∧ ownsW (w5.alloc (.cells #[.int .i64 (IL.length : Int), .slice ao (wl IL).length cp] 27)) (w.heap.size + 2) (.slice ao (wl IL).length cp) (wl IL)) := ⟨(H3.out.2.1.below b5).alloc _, (H3.out.2.2.1.trans (b5.mono H3.out.2.2.1.size)).alloc (Nat.le_trans H3.out.2.2.1.size b5.size) _, (o5.lower H3.out.2.2.2).alloc _⟩; clear b5 o5)
      | (refine wpList_store_mid (P := Tryz.prog) rfl 27 _ _ rfl (w.heap.size + 1) 0 #[.int .i64 (IL.length : Int), .slice ao (wl IL).length cp] rfl rfl (H5.out.1.there 0 2 (by simp)) sz29P one2 ?_; generalize hW6 : World.setCells (w5.alloc _) (w.heap.size + 1) 0 _ = w6; have HW6 : Hid (_ = w6) := hW6; clear hW6))
    have e6 := HW6.out
    have hF : Kd.blk w6 (w.heap.size + 1) [.int .i64 (IL.length : Int), .slice ao (wl IL).length cp] 27 := by
      rw [← e6]
      exact Kd.blk.put [] [.int .i64 0, .slice none 0 0] [] _ H5.out.1 rfl
    have p0 := hF.cell 0 _ rfl
    have p1 := hF.cell 1 _ rfl
    refine bodyPost_ret (v := pkV (IL.length : Int) ao (wl IL).length cp) (by simp [results, Tryz.results15, go_sem, p0, p1]) rfl ?_
    refine ⟨ao, cp, rfl, ?_, ?_⟩
    · rw [← e6]; exact (H5.out.2.2.setCellsO (w.heap.size + 1) 0 _ (by omega)).lower (by omega)
    · rw [← e6]; exact Kd.setCells_below (by omega) 0 _ H5.out.2.1
  · have hvf : J.validB e i r d n = false := by simpa using hv
    have eZ : imZ e i r d n l = [] := if_neg hv
    have HVV : Hid (∀ W, Below w.heap.size w W → Calls Tryz.prog 40 #[.agg [.bool e, .int .u32 (i : Int), .bool r, .int .i64 d, .slice a n cap].toArray] W fun o w' => o = .returned (.bool false) ∧ Below W.heap.size W w') := fun W hW => by have := HV.out W hW; rw [hvf] at this; exact this
    rw [eZ]
    clear HV hv hvf h HLEN eZ tab hz0
    go_enter Tryz.func15, Tryz.ntmps15
    go_upto_region 1 with fail
    change Code.wp _ _ _ _ ((w.alloc (.cells [.bool e, .int .u32 (i : Int), .bool r, .int .i64 d, .slice a n cap].toArray 33)).alloc (.cells [.int .i64 0, .slice none 0 0].toArray 27))
    rw [← hw2]
    clear hw2
    go_wp2_with (first
      | (refine wpList_load_mid (P := Tryz.prog) rfl 33 _ rfl w.heap.size 0 rfl [.bool e, .int .u32 (i : Int), .bool r, .int .i64 d, .slice a n cap] _ H0.out.1.load Tryz.underlying33 rfl sz31F ?_)
      | (go_at_call 40; refine (HVV.out _ H0.out.2.2.1).mono ?_; rintro y w3 ⟨rfl, b3⟩; have H3 : Hid (Kd.blk w3 (w.heap.size + 1) [.int .i64 0, .slice none 0 0] 27 ∧ Below w.heap.size w w3) := ⟨H0.out.2.1.below b3, H0.out.2.2.1.trans (b3.mono H0.out.2.2.1.size)⟩; clear b3)
      | (refine wpList_store_mid (P := Tryz.prog) rfl 27 _ _ rfl (w.heap.size + 1) 0 #[.int .i64 0, .slice none 0 0] rfl rfl (H3.out.1.there 0 2 (by simp)) sz29P one2 ?_; generalize hW6 : World.setCells w3 (w.heap.size + 1) 0 _ = w6; have HW6 : Hid (_ = w6) := hW6; clear hW6))
    have e6 := HW6.out
    have hF : Kd.blk w6 (w.heap.size + 1) [.int .i64 0, .slice none 0 0] 27 := by
      rw [← e6]
      exact Kd.blk.put [] [.int .i64 0, .slice none 0 0] [] _ H3.out.1 rfl
    have p0 := hF.cell 0 _ rfl
    have p1 := hF.cell 1 _ rfl
    refine bodyPost_ret (v := pkV 0 none 0 0) (by simp [results, Tryz.results15, go_sem, p0, p1]) rfl ?_
    refine ⟨none, 0, rfl, own_none _ _, ?_⟩
    rw [← e6]; exact Kd.setCells_below (by omega) 0 _ H3.out.2
/-- the spans of Spans' answer -/
def spZ (e : Bool) (i : Nat) (r : Bool) (d : Int) (n : Nat) (l : List Nat) : List (Nat × Nat × Nat) := if J.validB e i r d n = true then imgS e i r d.toNat l else []
set_option maxHeartbeats 4000000 in
set_option maxRecDepth 20000 in
/-- impl.Spans -/
theorem implSpans_any (w : World) (tab : w.rangeAt 0 0 Kd.tabL) (hz0 : 0 < w.heap.size) (e : Bool) (i : Nat) (r : Bool) (d : Int) (a : Option Addr) (n cap : Nat) (l : List Nat) (h : J.isBytes w a n cap l) :
    Calls Tryz.prog 14 #[J.frV e i r d a n cap] w fun y w' => ∃ v, y = .returned v ∧ ownsS w' w.heap.size v (spZ e i r d n l) ∧ Below w.heap.size w w' := by
  have HLEN := hidYY h.len
  have H0 : Hid (Kd.blk (w.alloc (.cells [.bool e, .int .u32 (i : Int), .bool r, .int .i64 d, .slice a n cap].toArray 33)) w.heap.size [.bool e, .int .u32 (i : Int), .bool r, .int .i64 d, .slice a n cap] 33 ∧ Below w.heap.size w (w.alloc (.cells [.bool e, .int .u32 (i : Int), .bool r, .int .i64 d, .slice a n cap].toArray 33))) := ⟨Kd.blk.new w _ 33, (Below.refl _ _).alloc (Nat.le_refl _) _⟩
  have HV := hidYY (fun W (hW : Below w.heap.size w W) => J.valid_any W e i r d a n cap l (h.below hW))
  obtain ⟨w2, hw2⟩ : ∃ w2, w2 = (w.alloc (.cells [.bool e, .int .u32 (i : Int), .bool r, .int .i64 d, .slice a n cap].toArray 33)) := ⟨_, rfl⟩
  rw [← hw2] at H0
  by_cases hv : J.validB e i r d n = true
  · obtain ⟨f1, f2, f3, f4, f5⟩ := valid_facts hv HLEN.out
    have eZ : spZ e i r d n l = imgS e i r d.toNat l := if_pos hv
    have HLY : Hid (∀ W, Below w.heap.size w W → Calls Tryz.prog 44 #[.agg [.bool e, .int .u32 (i : Int), .bool r, .int .i64 d, .slice a n cap].toArray] W fun y w' => ∃ ao cp sv, y = .returned (.tuple #[pkV ((imgL e i r d.toNat l).length : Int) ao (wl (imgL e i r d.toNat l)).length cp, sv]) ∧ ownsW w' W.heap.size (.slice ao (wl (imgL e i r d.toNat l)).length cp) (wl (imgL e i r d.toNat l)) ∧ ownsS w' W.heap.size sv (imgS e i r d.toNat l) ∧ Below W.heap.size W w') := by
      intro W hW
      have := layOut_any W e i r d.toNat a n cap l (h.below hW) (fun j u hj => (hW.cell (p := ⟨0, 0 + j, none⟩) hz0).trans (tab j u hj)) (Nat.lt_of_lt_of_le hz0 hW.size) f1 f2 f3
      rw [← f4] at this
      exact this
    rw [eZ]
    generalize imgL e i r d.toNat l = IL at *
    generalize imgS e i r d.toNat l = IS at *
    have HVV : Hid (∀ W, Below w.heap.size w W → Calls Tryz.prog 40 #[.agg [.bool e, .int .u32 (i : Int), .bool r, .int .i64 d, .slice a n cap].toArray] W fun o w' => o = .returned (.bool true) ∧ Below W.heap.size W w') := fun W hW => by have := HV.out W hW; rw [hv] at this; exact this
    clear HV eZ f1 f2 f3 f4 f5 hv h HLEN tab hz0
    go_enter Tryz.func14, Tryz.ntmps14
    go_upto_region 1 with fail
    change Code.wp _ _ _ _ (w.alloc (.cells [.bool e, .int .u32 (i : Int), .bool r, .int .i64 d, .slice a n cap].toArray 33))
    rw [← hw2]
    clear hw2
    go_wp2_with (first
      | (refine wpList_load_mid (P := Tryz.prog) rfl 33 _ rfl w.heap.size 0 rfl [.bool e, .int .u32 (i : Int), .bool r, .int .i64 d, .slice a n cap] _ H0.out.1.load Tryz.underlying33 rfl sz31F ?_)
      | (go_at_call 40; refine (HVV.out _ H0.out.2).mono ?_; rintro y w3 ⟨rfl, b3⟩; have H3 : Hid (Kd.blk w3 w.heap.size [.bool e, .int .u32 (i : Int), .bool r, .int .i64 d, .slice a n cap] 33 ∧ Below w.heap.size w w3) := ⟨H0.out.1.below b3, H0.out.2.trans (b3.mono H0.out.2.size)⟩; clear b3)
      | (refine wpList_load_mid (P := Tryz.prog) rfl 33 _ rfl w.heap.size 0 rfl [.bool e, .int .u32 (i : Int), .bool r, .int .i64 d, .slice a n cap] _ H3.out.1.load Tryz.underlying33 rfl sz31F ?_)
      | (go_at_call 44; refine (HLY.out _ H3.out.2).mono ?_; rintro y w5 ⟨ao, cp, sv, rfl, _, o5, b5⟩; have H5 : Hid (Below w.heap.size w (w5.alloc (.cells #[.int .i64 (IL.length : Int), .slice ao (wl IL).length cp] 27)) ∧ ownsS (w5.alloc (.cells #[.int .i64 (IL.length : Int), .slice ao (wl IL).length cp] 27)) w.heap.size sv IS) := ⟨(H3.out.2.trans (b5.mono H3.out.2.size)).alloc (Nat.le_trans H3.out.2.size b5.size) _, (o5.lower H3.out.2.size).below ((Below.refl _ _).alloc (Nat.le_refl _) _)⟩; clear b5 o5))
    go_ret
    exact ⟨_, rfl, H5.out.2, H5.out.1⟩
  · have hvf : J.validB e i r d n = false := by simpa using hv
    have eZ : spZ e i r d n l = [] := if_neg hv
    have HVV : Hid (∀ W, Below w.heap.size w W → Calls Tryz.prog 40 #[.agg [.bool e, .int .u32 (i : Int), .bool r, .int .i64 d, .slice a n cap].toArray] W fun o w' => o = .returned (.bool false) ∧ Below W.heap.size W w') := fun W hW => by have := HV.out W hW; rw [hvf] at this; exact this
    rw [eZ]
    clear HV hv hvf h HLEN eZ tab hz0
    go_enter Tryz.func14, Tryz.ntmps14
    go_upto_region 1 with fail
    change Code.wp _ _ _ _ (w.alloc (.cells [.bool e, .int .u32 (i : Int), .bool r, .int .i64 d, .slice a n cap].toArray 33))
    rw [← hw2]
    clear hw2
    go_wp2_with (first
      | (refine wpList_load_mid (P := Tryz.prog) rfl 33 _ rfl w.heap.size 0 rfl [.bool e, .int .u32 (i : Int), .bool r, .int .i64 d, .slice a n cap] _ H0.out.1.load Tryz.underlying33 rfl sz31F ?_)
      | (go_at_call 40; refine (HVV.out _ H0.out.2).mono ?_; rintro y w3 ⟨rfl, b3⟩; have H3 : Hid (Below w.heap.size w w3) := H0.out.2.trans (b3.mono H0.out.2.size); clear b3))
    go_ret
    exact ⟨_, rfl, ⟨by simp [spV], .inl ⟨rfl, rfl⟩⟩, H3.out⟩
end Go.Proofs.YtpknchjjfiiaeaaGreatDoor
