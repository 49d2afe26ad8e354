import Derived.Test.YtjmlalojfghkiaaDoorR37
namespace Go.Proofs.YtjmlalojfghkiaaDoor.J
open Go.RowKit
set_option linter.unusedVariables false
theorem hI.setG {w0 w : World} {b : Nat} {a : Option Addr} {n cap : Nat} {l : List Nat} {i F G : Nat} {e : Bool} {id : Nat} {r : Bool} {d : Int} {ao : Option Addr} {cp : Nat} {q : List Nat} {W : World} (h : hI w0 w b a n cap l i F e id r d ao cp q W) (hG : w.heap.size ≤ G) (hF : G ≠ F) (ho : ∀ g, (Value.slice ao q.length cp).ownBlock = some g → g ≠ G) (j : Nat) (v : Value) : hI w0 w b a n cap l i F e id r d ao cp q (W.setCell ⟨G, j, none⟩ v) := by
  have hb : Below w.heap.size W (W.setCell ⟨G, j, none⟩ v) := (Below.refl _ _).setCell (by exact hG) v
  exact ⟨h.src.below hb h.bz, gb_below h.gb hb, h.fr.setOther (Ne.symm hF) _ _, h.own.otherBlock (fun g hg => heap_setCell_other _ _ _ _ (by exact ho g hg)), h.z, h.bz⟩
theorem range_getD (u : List Nat) : (List.range u.length).map (fun k => u.getD k 0) = u := by
  apply List.ext_getElem
  · simp
  · intro k h1 h2
    simp [List.getD, h2]
theorem stuffZ_size (s : ByteArray) : (stuffZ s).size ≤ 2 * s.size := by
  unfold stuffZ
  split
  · rw [strN_size]
    have := M.stuff_len (lt s)
    rw [lt_length] at this
    exact this
  · exact Nat.zero_le _
theorem sub_size (s : ByteArray) (k : Nat) : (s.extract 0 k).size ≤ s.size := by
  rw [ByteArray.size_extract]; omega
set_option maxHeartbeats 8000000 in
set_option maxRecDepth 40000 in
/-- spec.l1genHeard -/
theorem genHeard_any (w0 w : World) (b : Nat) (a : Option Addr) (n cap i : Nat) (l : List Nat) (h : srcI w0 b a n cap l i w) (hi : i ≤ 1000000) :
    Calls Tryd.prog 37 #[.pointer (some ⟨b, 0, none⟩)] w fun o w' => ∃ t : ByteArray, o = .returned (.string t) ∧ t.size ≤ 3000 ∧ ∃ i', i' ≤ i + 1000 ∧ srcI w0 b a n cap l i' w' ∧ w.grownBy w' (some b) := by
  have HI : Hid (i ≤ 1000000) := hi
  have HS : Hid (srcI w0 b a n cap l i w) := h
  have HBZ : Hid (b < w.heap.size) := h.lt
  clear h hi
  go_enter Tryd.func37, Tryd.ntmps37
  go_wp2_with fail
  refine (genFrame_any w0 w b a n cap i l HS.out (by have := HI.out; omega)).mono ?_
  rintro o w1 ⟨e, id, r, d, ao, cp, i1, q, rfl, hv, hd, hq, hqs, hi1, hs1, ho1, hg1⟩
  have hb2 : Below w1.heap.size w1 (World.setCells (w1.alloc (frC false 0 false 0 none 0 0 29)) w1.heap.size 0 [.bool e, .int .u32 (id : Int), .bool r, .int .i64 d, .slice ao q.length cp]) := setCells_below (Nat.le_refl _) _ _ ((Below.refl _ _).alloc (Nat.le_refl _) _)
  have HT2 : Hid (World.there (w1.alloc (frC false 0 false 0 none 0 0 29)) w1.heap.size 0 5) := (blk.new w1 [.bool false, .int .u32 0, .bool false, .int .i64 0, .slice none 0 0] 29).there 0 5 (by simp)
  have HI2 : Hid (hI w0 w b a n cap l i1 w1.heap.size e id r d ao cp q (World.setCells (w1.alloc (frC false 0 false 0 none 0 0 29)) w1.heap.size 0 [.bool e, .int .u32 (id : Int), .bool r, .int .i64 d, .slice ao q.length cp])) := ⟨hs1.below hb2 hs1.lt, gb_below hg1 (hb2.mono hg1.size), blk.put [] [.bool false, .int .u32 0, .bool false, .int .i64 0, .slice none 0 0] [] _ (blk.new w1 _ 29) rfl, ho1.otherBlock (fun g hg => hb2.block g (World.ownsRow.lt ho1 g hg).2), hg1.size, HBZ.out⟩
  obtain ⟨hvb, t, het, htL, ht44, ht300⟩ := img_L e id r d q hv hd hq
  have HV : Hid (validB e id r d q.length = true) := hvb
  have HE : Hid (∀ W, hI w0 w b a n cap l i1 w1.heap.size e id r d ao cp q W → Calls Tryd.prog 60 #[frV e id r d ao q.length cp] W fun o w' => o = .returned (.string (strN t)) ∧ Below W.heap.size W w') := fun W hW => (specEncode_any W e id r d ao q.length cp q (own_b hW.own hqs)).mono (by rintro o w' ⟨rfl, hb⟩; rw [het]; exact ⟨rfl, hb⟩)
  have HL : Hid ((∀ x ∈ t, M.isL x) ∧ 44 ≤ t.length ∧ t.length ≤ 300) := ⟨htL, ht44, ht300⟩
  have HI1 : Hid (i1 ≤ i + 100) := hi1
  have HQS : Hid (∀ x ∈ q, x < 256) := hqs
  clear hs1 ho1 hg1 hb2 hvb het htL ht44 ht300 hv hd hq hqs hi1
  go_wp2_with (first
    | (refine wpList_store_mid (P := Tryd.prog) rfl 29 (.tmp 3) (.tmp 7) rfl w1.heap.size 0 #[.bool e, .int .u32 (id : Int), .bool r, .int .i64 d, .slice ao q.length cp] rfl rfl HT2.out sz29 (one5 _ _ _ _ _ _ _) ?_; generalize hW3 : World.setCells (World.alloc _ _) w1.heap.size 0 _ = w3; have HI3 : Hid (hI w0 w b a n cap l i1 w1.heap.size e id r d ao cp q w3) := (hW3 ▸ HI2.out); clear hW3)
    | (refine wpList_load_mid (P := Tryd.prog) rfl 29 (.tmp 3) rfl w1.heap.size 0 rfl _ _ HI3.out.fr.load Tryd.underlying29 rfl sz29 ?_))
  clear HT2 HI2
  refine (HE.out _ HI3.out).mono ?_
  rintro o w4 ⟨rfl, hb4⟩
  have HI4 : Hid (hI w0 w b a n cap l i1 w1.heap.size e id r d ao cp q w4) := HI3.out.below hb4
  clear hb4 HI3 HE
  generalize w1.heap.size = F at *
  have hsz : (strN t).size = t.length := strN_size t
  have hcb := fun w => run_bytes_of_string (P := Tryd.prog) w 9 23 5 (strN t) Tryd.underlying9 Tryd.underlying23 Tryd.underlying5
  have HR : Hid (∀ cp, rowB (w4.drew.alloc (.cells (bytesRow (strN t) cp) 5 ((bytesRow (strN t) cp).size, (bytesRow (strN t) cp).size + 1))) w4.heap.size t.length (fun k => t.getD k 0)) := by
    intro cp
    have := rowB_bytes w4.drew (strN t) cp
    rw [lt_strN t (isL_lt HL.out.1), hsz] at this
    exact this
  go_upto_region 3 with fail
  have hrA := HR.out (grownCap w4 t.length 0 5)
  clear hcb HR
  generalize grownCap w4 t.length 0 5 = cpb at *
  have hbA : Below w4.heap.size w4 (w4.alloc (.cells (bytesRow (strN t) cpb) 5 ((bytesRow (strN t) cpb).size, (bytesRow (strN t) cpb).size + 1))).drew := ((Below.refl _ _).alloc (Nat.le_refl _) _).drew
  have HIA : Hid (hI w0 w b a n cap l i1 F e id r d ao cp q (w4.alloc (.cells (bytesRow (strN t) cpb) 5 ((bytesRow (strN t) cpb).size, (bytesRow (strN t) cpb).size + 1))).drew) := HI4.out.below hbA
  have HRA : Hid (rowB (w4.alloc (.cells (bytesRow (strN t) cpb) 5 ((bytesRow (strN t) cpb).size, (bytesRow (strN t) cpb).size + 1))).drew w4.heap.size t.length (fun k => t.getD k 0) ∧ w4.heap.size < (w4.alloc (.cells (bytesRow (strN t) cpb) 5 ((bytesRow (strN t) cpb).size, (bytesRow (strN t) cpb).size + 1))).drew.heap.size ∧ w.heap.size ≤ w4.heap.size ∧ w4.heap.size ≠ F) := ⟨⟨fun k hk => hrA.cell k hk, fun k hk => hrA.free k hk⟩, by simp, HI4.out.gb.size, by have := HI4.out.fr.lt; omega⟩
  clear hrA hbA
  generalize (w4.alloc (.cells (bytesRow (strN t) cpb) 5 ((bytesRow (strN t) cpb).size, (bytesRow (strN t) cpb).size + 1))).drew = wA at *
  have OB : Hid (∀ g, (Value.slice ao q.length cp).ownBlock = some g → g ≠ w4.heap.size) := fun g hg => by have := (World.ownsRow.lt HI4.out.own g hg).2; omega
  clear HI4
  generalize w4.heap.size = G at *
  go_wp2_with fail
  refine (n_2 w0 wA b a n cap i1 l HIA.out.src (by have := HI.out; have := HI1.out; omega)).mono ?_
  rintro o w5 ⟨r5, rfl, hr5, hs5, hg5⟩
  have HI5 : Hid (hI w0 w b a n cap l (i1 + 1) F e id r d ao cp q w5) := HIA.out.step hs5 hg5
  have HR5 : Hid (rowB w5 G t.length (fun k => t.getD k 0) ∧ w.heap.size ≤ G ∧ G ≠ F) := ⟨HRA.out.1.gb hg5 HRA.out.2.1 (by have := HRA.out.2.2.1; have := HBZ.out; omega), HRA.out.2.2⟩
  clear hs5 hg5 HIA HRA
  go_upto_if 13 with fail
  go_cut [4] (fun s4 wx => s4 = .slice (some ⟨G, 0, none⟩) t.length cpb ∧ ∃ u : List Nat, u.length = t.length ∧ (∀ x ∈ u, M.isL x) ∧ rowB wx G u.length (fun k => u.getD k 0) ∧ hI w0 w b a n cap l (i1 + 1) F e id r d ao cp q wx)
  case first =>
    by_cases hz : r5 = 0
    · subst hz
      have hl44 : 9 ≤ t.length := by have := HL.out; omega
      have hl9 : (t.length : Int) ≤ 300 := by have := HL.out; omega
      have hfr := HR5.out.1.free (t.length - 9) (by omega)
      have hce := HR5.out.1.cell (t.length - 9) (by omega)
      go_wp2_with fail
      go_meet
      refine ⟨rfl, t.set (t.length - 9) 48, List.length_set, fun x hx => ?_, ?_, HI5.out.setG HR5.out.2.1 HR5.out.2.2 OB.out _ _⟩
      · rcases List.mem_or_eq_of_mem_set hx with q1 | q1
        · exact HL.out.1 x q1
        · exact Or.inl q1
      · rw [List.length_set]
        refine HR5.out.1.set' (t.length - 9) (by omega) 48 ?_ ?_
        · have : t.length - 9 < t.length := by omega
          simp [List.getD, this]
        · intro k hk hne
          simp only [List.getD, List.getElem?_set]
          rw [if_neg (fun q1 => hne q1.symm)]
    · have hz' : ((r5 : Int) == 0) = false := by simp; omega
      clear hz
      go_wp2_with fail
      go_meet
      exact ⟨rfl, t, rfl, HL.out.1, HR5.out.1, HI5.out⟩
  case rest =>
    obtain ⟨rfl, u, hul, huL, hru, hiu⟩ := hcut
    have hcv := conv_row (cap := cpb) hru (fun k hk => by
      rw [getD_at u k hk]
      exact isL_lt huL _ (List.getElem_mem _))
    rw [range_getD, hul] at hcv
    have HU : Hid ((∀ x ∈ u, M.isL x) ∧ 44 ≤ u.length ∧ u.length ≤ 300) := ⟨huL, by have := HL.out; omega, by have := HL.out; omega⟩
    have HIU : Hid (hI w0 w b a n cap l (i1 + 1) F e id r d ao cp q wc) := hiu
    clear hul huL hru hiu HL HI5 HR5 OB hsz
    go_wp2_with fail
    clear hcv
    refine (n_int w0 wc b a n cap (i1 + 1) l 8 8 rfl HIU.out.src (by have := HI.out; have := HI1.out; omega) (by omega) (by omega)).mono ?_
    rintro o w6 ⟨r6, rfl, hr6, hs6, hg6⟩
    have HI6 : Hid (hI w0 w b a n cap l (i1 + 2) F e id r d ao cp q w6) := HIU.out.step hs6 hg6
    clear HIU hs6 hg6
    have hsz : (strN u).size = u.length := strN_size u
    have hu3 : (u.length : Int) ≤ 300 := by have := HU.out; omega
    have hu4 : (44 : Int) ≤ (u.length : Int) := by have := HU.out; omega
    rcases (by omega : r6 = 0 ∨ r6 = 1 ∨ r6 = 2 ∨ r6 = 3 ∨ r6 = 4 ∨ r6 = 5 ∨ r6 = 6 ∨ r6 = 7) with rfl | rfl | rfl | rfl | rfl | rfl | rfl | rfl
    · go_wp2_with fail
      refine (spoil_any w0 w6 b a n cap (i1 + 2) l u HI6.out.src (by have := HI.out; have := HI1.out; omega) HU.out.1 (by have := HU.out; omega)).mono ?_
      rintro o w7 ⟨u7, rfl, hl7, i7, hi7, hs7, hg7⟩
      go_wp2_with fail
      go_ret
      exact ⟨_, rfl, by rw [strN_size, hl7]; omega, i7, by have := HI1.out; omega, hs7, gb_trans HI6.out.gb hg7⟩
    · go_wp2_with fail
      refine (n_int w0 w6 b a n cap (i1 + 2) l (u.length + 1) _ (by omega) HI6.out.src (by have := HI.out; have := HI1.out; omega) (by omega) (by omega)).mono ?_
      rintro o w7 ⟨r7, rfl, hr7, hs7, hg7⟩
      go_wp2_with fail
      go_ret
      exact ⟨_, rfl, by have := sub_size (strN u) r7; omega, i1 + 3, by have := HI1.out; omega, hs7, gb_trans HI6.out.gb hg7⟩
    · go_wp2_with fail
      refine (n_int w0 w6 b a n cap (i1 + 2) l u.length _ (by omega) HI6.out.src (by have := HI.out; have := HI1.out; omega) (by omega) (by omega)).mono ?_
      rintro o w7 ⟨r7, rfl, hr7, hs7, hg7⟩
      go_wp2_with fail
      rw [strN_take u (1 + r7)]
      refine (spoil_any w0 w7 b a n cap (i1 + 3) l (u.take (1 + r7)) hs7 (by have := HI.out; have := HI1.out; omega) (fun x hx => HU.out.1 x (List.mem_of_mem_take hx)) (by simp; omega)).mono ?_
      rintro o w8 ⟨u8, rfl, hl8, i8, hi8, hs8, hg8⟩
      go_wp2_with fail
      go_ret
      exact ⟨_, rfl, by rw [strN_size, hl8]; simp; omega, i8, by have := HI1.out; omega, hs8, gb_trans HI6.out.gb (gb_trans hg7 hg8)⟩
    · go_wp2_with fail
      refine (n_int w0 w6 b a n cap (i1 + 2) l 9 _ (by omega) HI6.out.src (by have := HI.out; have := HI1.out; omega) (by omega) (by omega)).mono ?_
      rintro o w7 ⟨r7, rfl, hr7, hs7, hg7⟩
      go_wp2_with fail
      go_ret
      exact ⟨_, rfl, Nat.le_trans (sub_size (strN u) _) (by omega), i1 + 3, by have := HI1.out; omega, hs7, gb_trans HI6.out.gb hg7⟩
    · go_wp2_with fail
      refine wp_region_held (S := fun _ => True) (by kernel_rfl) ?_
      obtain ⟨wd, hwd⟩ : ∃ wd, wd = w6.drew := ⟨_, rfl⟩
      change wpAnyH _ _ _ _ _ _ _ _ w6.drew
      rw [← hwd]
      have HID : Hid (hI w0 w b a n cap l (i1 + 2) F e id r d ao cp q wd) := hwd ▸ HI6.out.below (Below.refl _ _).drew
      clear hwd HI6
      refine wpAnyH_take (i := 0) (v := .string (strN u)) rfl (by kernel_rfl) (by kernel_rfl) (by kernel_rfl) (fun _ _ _ h => h) (Or.inl ⟨by rfl, ?_⟩) trivial ?_
      · intro W hW
        go_simp
      simp only [Act.put, List.setIfInBounds_toArray, List.set_cons_zero, List.set_cons_succ, List.getElem_toArray, List.getElem_cons_zero]
      refine wpAnyH_take (i := 1) (v := .string (strN u)) rfl (by kernel_rfl) (by kernel_rfl) (by kernel_rfl) (fun _ _ _ h => h) (Or.inl ⟨by rfl, ?_⟩) trivial ?_
      · intro W hW
        go_simp
      simp only [Act.put, List.setIfInBounds_toArray, List.set_cons_zero, List.set_cons_succ, List.getElem_toArray, List.getElem_cons_zero, List.getElem_cons_succ]
      refine wpAnyH_take (i := 2) (v := .int .i64 (u.length : Int)) rfl (by kernel_rfl) (by kernel_rfl) (by kernel_rfl) (fun _ _ _ h => h) (Or.inl ⟨by rfl, ?_⟩) trivial ?_
      · intro W hW
        go_simp
      simp only [Act.put, List.setIfInBounds_toArray, List.set_cons_zero, List.set_cons_succ, List.getElem_toArray, List.getElem_cons_zero, List.getElem_cons_succ]
      refine wpAnyH_take (i := 3) (v := .pointer (some ⟨b, 0, none⟩)) rfl (by kernel_rfl) (by kernel_rfl) (by kernel_rfl) (fun _ _ _ h => h) (Or.inl ⟨by rfl, ?_⟩) trivial ?_
      · intro W hW
        go_simp
      simp only [Act.put, List.setIfInBounds_toArray, List.set_cons_zero, List.set_cons_succ, List.getElem_toArray, List.getElem_cons_zero, List.getElem_cons_succ]
      refine wpAnyH_take (i := 7) (v := .pointer (some ⟨b, 0, none⟩)) rfl (by kernel_rfl) (by kernel_rfl) (by kernel_rfl) (fun _ _ _ h => h) (Or.inl ⟨by rfl, ?_⟩) trivial ?_
      · intro W hW
        go_simp
      simp only [Act.put, List.setIfInBounds_toArray, List.set_cons_zero, List.set_cons_succ, List.getElem_toArray, List.getElem_cons_zero, List.getElem_cons_succ]
      refine wpAnyH_all (rs := [4]) (by kernel_rfl) (by simp) ?_
      refine AllReadyH.cons rfl (fun K hK => ?_) AllReadyH.nil
      go_simp
      refine (n_int w0 wd b a n cap (i1 + 2) l (12) _ (by omega) HID.out.src (by have := HI.out; have := HI1.out; omega) (by omega) (by omega)).mono ?_
      rintro o w7 ⟨r7, rfl, hr7, hs7, hg7⟩
      have HI7 : Hid (hI w0 w b a n cap l (i1 + 3) F e id r d ao cp q w7) := HID.out.step hs7 hg7
      clear hs7 hg7 HID
      go_wp2_with fail
      refine hK.out _ _ trivial (fun hs2 => ?_)
      clear hK K hs2
      refine wpAnyH_take (i := 5) (v := .int .i64 ((u.length : Int) - r7)) rfl (by kernel_rfl) (by kernel_rfl) (by kernel_rfl) (fun _ _ _ h => h) (Or.inl ⟨by rfl, ?_⟩) trivial ?_
      · intro W hW
        go_simp
        rw [IntKind.wrap_i64]; omega
      simp only [Act.put, List.setIfInBounds_toArray, List.set_cons_zero, List.set_cons_succ, List.getElem_toArray, List.getElem_cons_zero, List.getElem_cons_succ]
      refine wpAnyH_take (i := 6) (v := .string ((strN u).extract 0 (u.length - r7))) rfl (by kernel_rfl) (by kernel_rfl) (by kernel_rfl) (fun _ _ _ h => h) (Or.inl ⟨by rfl, ?_⟩) trivial ?_
      · intro W hW
        go_simp
        exact fun hh => absurd (hh (by omega)) (by omega)
      simp only [Act.put, List.setIfInBounds_toArray, List.set_cons_zero, List.set_cons_succ, List.getElem_toArray, List.getElem_cons_zero, List.getElem_cons_succ]
      refine wpAnyH_all (rs := [8]) (by kernel_rfl) (by simp) ?_
      refine AllReadyH.cons rfl (fun K hK => ?_) AllReadyH.nil
      go_simp
      refine (genText_any w0 w7 b a n cap (i1 + 3) l 3 HI7.out.src (by have := HI.out; have := HI1.out; omega) (by omega)).mono ?_
      rintro o w8 ⟨g8, i8, rfl, hl8, hn8, hi8, hs8, hg8⟩
      have HI8 : Hid (hI w0 w b a n cap l i8 F e id r d ao cp q w8 ∧ i8 ≤ i1 + 50 ∧ g8.length ≤ 10) := ⟨HI7.out.step hs8 hg8, by omega, by omega⟩
      clear hl8 hn8 hi8 hs8 hg8 HI7
      go_wp2_with fail
      refine hK.out _ _ trivial (fun hs2 => ?_)
      clear hK K hs2
      refine wpAnyH_take (i := 9) (v := .string (((strN u).extract 0 (u.length - r7)) ++ strN g8)) rfl (by kernel_rfl) (by kernel_rfl) (by kernel_rfl) (fun _ _ _ h => h) (Or.inl ⟨by rfl, ?_⟩) trivial ?_
      · intro W hW
        go_simp
        rw [strN_size]; have := HI8.out.2.2; omega
      simp only [Act.put, List.setIfInBounds_toArray, List.set_cons_zero, List.set_cons_succ, List.getElem_toArray, List.getElem_cons_zero, List.getElem_cons_succ]
      refine wpAnyH_all (rs := [10]) (by kernel_rfl) (by simp) ?_
      refine AllReadyH.cons rfl (fun K hK => ?_) AllReadyH.nil
      go_simp
      refine hK.out _ _ trivial (fun hs2 => ?_)
      clear hK K hs2
      refine wpAnyH_done (by kernel_rfl) ?_ _
      go_wp2_with fail
      go_ret
      exact ⟨_, rfl, by rw [ByteArray.size_append, strN_size]; have := sub_size (strN u) (u.length - r7); have := HI8.out.2.2; omega, i8, by have := HI8.out.2.1; have := HI1.out; omega, HI8.out.1.src, HI8.out.1.gb⟩
    · have HB : Hid (∀ W, hI w0 w b a n cap l (i1 + 2) F e id r d ao cp q W → Calls Tryd.prog 63 #[frV e id r d ao q.length cp] W fun o w' => o = .returned (.string (strN (bodyL e id r d.toNat q))) ∧ Below W.heap.size W w') := fun W hW => (specBody_any W e id r d ao q.length cp q (own_b hW.own HQS.out)).mono (by rintro o w' ⟨rfl, hb⟩; unfold bodyZ; rw [if_pos HV.out]; exact ⟨rfl, hb⟩)
      have HBL : Hid ((bodyL e id r d.toNat q).length ≤ 103) := by
        have h1 := bodyL_length e id r d.toNat q
        have h2 := (validB_true HV.out).2.2.2.2
        show _ ≤ 103
        rw [h1]
        split <;> omega
      go_wp2_with (first
        | (refine wpList_load_mid (P := Tryd.prog) rfl 29 (.tmp 3) rfl F 0 rfl _ _ HI6.out.fr.load Tryd.underlying29 rfl sz29 ?_))
      refine (HB.out _ HI6.out).mono ?_
      rintro o w7 ⟨rfl, hb7⟩
      have HI7 : Hid (hI w0 w b a n cap l (i1 + 2) F e id r d ao cp q w7) := HI6.out.below hb7
      clear hb7 HI6 HB
      go_wp2_with fail
      refine (spoil_any w0 w7 b a n cap (i1 + 2) l (bodyL e id r d.toNat q) HI7.out.src (by have := HI.out; have := HI1.out; omega) (bodyL_isL e id r d.toNat q) (by have := HBL.out; omega)).mono ?_
      rintro o w8 ⟨u8, rfl, hl8, i8, hi8, hs8, hg8⟩
      have HI8 : Hid (hI w0 w b a n cap l i8 F e id r d ao cp q w8 ∧ i8 ≤ i1 + 4 ∧ u8.length ≤ 103) := ⟨HI7.out.step hs8 hg8, by omega, by have := HBL.out; omega⟩
      clear hl8 hi8 hs8 hg8 HI7
      go_wp2_with fail
      refine (n_int w0 w8 b a n cap i8 l 32768 _ (by omega) HI8.out.1.src (by have := HI8.out.2.1; have := HI.out; have := HI1.out; omega) (by omega) (by omega)).mono ?_
      rintro o w9 ⟨r9, rfl, hr9, hs9, hg9⟩
      have HI9 : Hid (hI w0 w b a n cap l (i8 + 1) F e id r d ao cp q w9) := HI8.out.1.step hs9 hg9
      clear hs9 hg9
      go_wp2_with fail
      refine (num_e15 r9 w9 (by omega)).mono ?_
      rintro o w10 ⟨rfl, rfl⟩
      have hk1 : (strN u8).size ≤ 103 := by rw [strN_size]; exact HI8.out.2.2
      have hk2 : (strN (M.num r9 15)).size = 15 := by rw [strN_size, M.num_length]
      go_wp2_with fail
      have hs118 : (strN u8 ++ strN (M.num r9 15)).size ≤ 118 := by rw [ByteArray.size_append, strN_size, strN_size, M.num_length]; have := HI8.out.2.2; omega
      have HST : Hid (∀ W, Calls Tryd.prog 62 #[.string (strN u8 ++ strN (M.num r9 15))] W fun o w' => ∃ z : ByteArray, o = .returned (.string z) ∧ z.size ≤ 300 ∧ Below W.heap.size W w') := fun W => (specStuff_any _ W (by unfold maxLen; omega)).mono (by rintro o w' ⟨rfl, hb⟩; exact ⟨_, rfl, by have := stuffZ_size (strN u8 ++ strN (M.num r9 15)); omega, hb⟩)
      clear hs118
      refine (HST.out _).mono ?_
      rintro o w11 ⟨z, rfl, hz, hb11⟩
      have HI11 : Hid (hI w0 w b a n cap l (i8 + 1) F e id r d ao cp q w11) := HI9.out.below hb11
      clear hb11 HI9 HST
      have hzs : (z ++ ({ data := #[49, 49, 49, 49, 49, 49, 49, 49, 49, 49] } : ByteArray)).size = z.size + 10 := by rw [ByteArray.size_append]; rfl
      go_wp2_with fail
      refine (n_int w0 w11 b a n cap (i8 + 1) l 11 _ (by omega) HI11.out.src (by have := HI8.out.2.1; have := HI.out; have := HI1.out; omega) (by omega) (by omega)).mono ?_
      rintro o w12 ⟨r12, rfl, hr12, hs12, hg12⟩
      go_wp2_with fail
      go_ret
      exact ⟨_, rfl, Nat.le_trans (sub_size _ _) (by rw [hzs]; omega), i8 + 2, by have := HI8.out.2.1; have := HI1.out; omega, hs12, gb_trans HI11.out.gb hg12⟩
    · go_wp2_with fail
      refine wp_region_held (S := fun _ => True) (by kernel_rfl) ?_
      obtain ⟨wd, hwd⟩ : ∃ wd, wd = w6.drew := ⟨_, rfl⟩
      change wpAnyH _ _ _ _ _ _ _ _ w6.drew
      rw [← hwd]
      have HID : Hid (hI w0 w b a n cap l (i1 + 2) F e id r d ao cp q wd) := hwd ▸ HI6.out.below (Below.refl _ _).drew
      clear hwd HI6
      refine wpAnyH_take (i := 0) (v := .string (strN u)) rfl (by kernel_rfl) (by kernel_rfl) (by kernel_rfl) (fun _ _ _ h => h) (Or.inl ⟨by rfl, ?_⟩) trivial ?_
      · intro W hW
        go_simp
      simp only [Act.put, List.setIfInBounds_toArray, List.set_cons_zero, List.set_cons_succ, List.getElem_toArray, List.getElem_cons_zero]
      refine wpAnyH_take (i := 1) (v := .pointer (some ⟨b, 0, none⟩)) rfl (by kernel_rfl) (by kernel_rfl) (by kernel_rfl) (fun _ _ _ h => h) (Or.inl ⟨by rfl, ?_⟩) trivial ?_
      · intro W hW
        go_simp
      simp only [Act.put, List.setIfInBounds_toArray, List.set_cons_zero, List.set_cons_succ, List.getElem_toArray, List.getElem_cons_zero, List.getElem_cons_succ]
      refine wpAnyH_take (i := 2) (v := .string (strN u)) rfl (by kernel_rfl) (by kernel_rfl) (by kernel_rfl) (fun _ _ _ h => h) (Or.inl ⟨by rfl, ?_⟩) trivial ?_
      · intro W hW
        go_simp
      simp only [Act.put, List.setIfInBounds_toArray, List.set_cons_zero, List.set_cons_succ, List.getElem_toArray, List.getElem_cons_zero, List.getElem_cons_succ]
      refine wpAnyH_take (i := 3) (v := .int .i64 (u.length : Int)) rfl (by kernel_rfl) (by kernel_rfl) (by kernel_rfl) (fun _ _ _ h => h) (Or.inl ⟨by rfl, ?_⟩) trivial ?_
      · intro W hW
        go_simp
      simp only [Act.put, List.setIfInBounds_toArray, List.set_cons_zero, List.set_cons_succ, List.getElem_toArray, List.getElem_cons_zero, List.getElem_cons_succ]
      refine wpAnyH_take (i := 4) (v := .int .i64 ((u.length : Int) + 1)) rfl (by kernel_rfl) (by kernel_rfl) (by kernel_rfl) (fun _ _ _ h => h) (Or.inl ⟨by rfl, ?_⟩) trivial ?_
      · intro W hW
        go_simp
        rw [IntKind.wrap_i64]; omega
      simp only [Act.put, List.setIfInBounds_toArray, List.set_cons_zero, List.set_cons_succ, List.getElem_toArray, List.getElem_cons_zero, List.getElem_cons_succ]
      refine wpAnyH_take (i := 7) (v := .pointer (some ⟨b, 0, none⟩)) rfl (by kernel_rfl) (by kernel_rfl) (by kernel_rfl) (fun _ _ _ h => h) (Or.inl ⟨by rfl, ?_⟩) trivial ?_
      · intro W hW
        go_simp
      simp only [Act.put, List.setIfInBounds_toArray, List.set_cons_zero, List.set_cons_succ, List.getElem_toArray, List.getElem_cons_zero, List.getElem_cons_succ]
      refine wpAnyH_all (rs := [5]) (by kernel_rfl) (by simp) ?_
      refine AllReadyH.cons rfl (fun K hK => ?_) AllReadyH.nil
      go_simp
      refine (n_int w0 wd b a n cap (i1 + 2) l (u.length + 1) _ (by omega) HID.out.src (by have := HI.out; have := HI1.out; omega) (by omega) (by omega)).mono ?_
      rintro o w7 ⟨r7, rfl, hr7, hs7, hg7⟩
      have HI7 : Hid (hI w0 w b a n cap l (i1 + 3) F e id r d ao cp q w7) := HID.out.step hs7 hg7
      clear hs7 hg7 HID
      go_wp2_with fail
      refine hK.out _ _ trivial (fun hs2 => ?_)
      clear hK K hs2
      refine wpAnyH_take (i := 6) (v := .string ((strN u).extract 0 r7)) rfl (by kernel_rfl) (by kernel_rfl) (by kernel_rfl) (fun _ _ _ h => h) (Or.inl ⟨by rfl, ?_⟩) trivial ?_
      · intro W hW
        go_simp
        exact fun hh => absurd hh (by omega)
      simp only [Act.put, List.setIfInBounds_toArray, List.set_cons_zero, List.set_cons_succ, List.getElem_toArray, List.getElem_cons_zero, List.getElem_cons_succ]
      refine wpAnyH_all (rs := [8]) (by kernel_rfl) (by simp) ?_
      refine AllReadyH.cons rfl (fun K hK => ?_) AllReadyH.nil
      go_simp
      refine (genText_any w0 w7 b a n cap (i1 + 3) l 6 HI7.out.src (by have := HI.out; have := HI1.out; omega) (by omega)).mono ?_
      rintro o w8 ⟨g8, i8, rfl, hl8, hn8, hi8, hs8, hg8⟩
      have HI8 : Hid (hI w0 w b a n cap l i8 F e id r d ao cp q w8 ∧ i8 ≤ i1 + 50 ∧ g8.length ≤ 10) := ⟨HI7.out.step hs8 hg8, by omega, by omega⟩
      clear hl8 hn8 hi8 hs8 hg8 HI7
      go_wp2_with fail
      refine hK.out _ _ trivial (fun hs2 => ?_)
      clear hK K hs2
      refine wpAnyH_take (i := 9) (v := .string (((strN u).extract 0 r7) ++ strN g8)) rfl (by kernel_rfl) (by kernel_rfl) (by kernel_rfl) (fun _ _ _ h => h) (Or.inl ⟨by rfl, ?_⟩) trivial ?_
      · intro W hW
        go_simp
        rw [strN_size]; have := HI8.out.2.2; omega
      simp only [Act.put, List.setIfInBounds_toArray, List.set_cons_zero, List.set_cons_succ, List.getElem_toArray, List.getElem_cons_zero, List.getElem_cons_succ]
      refine wpAnyH_all (rs := [10]) (by kernel_rfl) (by simp) ?_
      refine AllReadyH.cons rfl (fun K hK => ?_) AllReadyH.nil
      go_simp
      refine hK.out _ _ trivial (fun hs2 => ?_)
      clear hK K hs2
      refine wpAnyH_done (by kernel_rfl) ?_ _
      go_wp2_with fail
      go_ret
      exact ⟨_, rfl, by rw [ByteArray.size_append, strN_size]; have := sub_size (strN u) r7; have := HI8.out.2.2; omega, i8, by have := HI8.out.2.1; have := HI1.out; omega, HI8.out.1.src, HI8.out.1.gb⟩
    · go_wp2_with fail
      go_ret
      exact ⟨_, rfl, by omega, i1 + 2, by have := HI1.out; omega, HI6.out.src, HI6.out.gb⟩
end Go.Proofs.YtjmlalojfghkiaaDoor.J
