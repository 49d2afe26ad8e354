import Derived.Test.YtaamahohdnbpiaaGreatQB
import Derived.Test.YtaamahohdnbpiaaGreatOQ
import Derived.Test.YtaamahohdnbpiaaGreatG29
namespace Go.Proofs.YtaamahohdnbpiaaGreat
open Go.RowKit
set_option linter.unusedVariables false
theorem okHo.dl {H : Ho} (h : okHo H) : H.fs.length ≤ 1000 ∧ H.ff.length ≤ 1000 ∧ H.qu.length ≤ 900 ∧ (1 ≤ H.c1 ∧ H.c1 ≤ 1000 ∧ (H.ff.length : Int) ≤ H.c1) ∧ (H.c2 = 0 ∨ H.c2 = 1) := by
  have h1 := of_decide_eq_true h.cf
  have h2 := h.nq
  have h3 := h.nf
  have h4 := h.fs
  unfold okFs at h4
  rw [Bool.and_eq_true] at h4
  have h5 := of_decide_eq_true h4.1
  omega
theorem Ho.le.ffs {H : Ho} (h : H.le 1048576) {L : List R5} (hl : L.length ≤ 1048576) (hd : ∀ x ∈ L, x.l.length ≤ 1048576) : (fHo H L).le 1048576 :=
  ⟨h.fs, h.bx, hl, h.qu, h.bd, fun j hj => hd _ (List.getElem_mem hj), h.qd⟩
theorem delHo_le {H : Ho} {F : R5} (h : H.le 1048576) (hq : H.qu.length ≤ 900) (hff : H.ff.length ≤ 1000) (hf : F.l.length ≤ 1048576) : (delHo H F).le 1048576 := by
  have hm : ∀ x ∈ H.ff, x.l.length ≤ 1048576 := fun x hx => by
    obtain ⟨j, hj, rfl⟩ := List.getElem_of_mem hx
    exact h.fd j hj
  unfold delHo
  split
  · split
    · split
      · exact Ho.le.post h (by omega) hf
      · obtain ⟨L, hL⟩ : ∃ L, H.ff = L := ⟨_, rfl⟩
        rw [hL] at hm hff ⊢
        cases L with
        | nil => exact h
        | cons f r =>
          have h1 : (postHo H (evF 3 0 0 f)).le 1048576 := Ho.le.post h (by omega) (hm f (by simp))
          have hql : (postHo H (evF 3 0 0 f)).qu.length ≤ 1000 := by
            have := quP_le H.c3 H.qu (evF 3 0 0 f)
            show (quP H.c3 H.qu (evF 3 0 0 f)).length ≤ _
            omega
          refine Ho.le.post (h1.ffs ?_ fun x hx => ?_) hql hf
          · simp at hff ⊢; omega
          · rcases List.mem_append.1 hx with hx | hx
            · exact hm x (by simp [hx])
            · simp at hx; rw [hx]; exact hf
    · refine Ho.le.post (h.ffs ?_ fun x hx => ?_) (by show H.qu.length ≤ _; omega) hf
      · simp; omega
      · rcases List.mem_append.1 hx with hx | hx
        · exact hm x hx
        · simp at hx; rw [hx]; exact hf
  · exact h
theorem delR_le {H T : Ho} {F : R5} {fm : Nat} (hR : okRel H (delHo H F) T) (h : H.le 1048576) (hfm : fm ≤ 1048576) (hl : fm = F.l.length) : T.le 1048576 := okR_le hR fun hok => delHo_le h hok.dl.2.2.1 hok.dl.2.1 (by omega)
theorem copyS5 (W : World) (H : Ho) (s : Sl) (h : isHo W H s) (hn : H.le 1048576) : Calls Tryz.prog 71 #[.agg (hoL H s).toArray] W fun o w' => ∃ s' T0 T1 T2, o = .returned (.agg (hoL H s').toArray) ∧ spS (W.heap.size + 3) T0 T1 T2 H s' w' ∧ (s'.n1 = H.fs.length ∧ s'.n3 = H.ff.length) ∧ s'.n4 = H.qu.length ∧ Below W.heap.size W w' := by
  refine (copyS W H s h hn).mono ?_
  rintro o w' ⟨s', T0, T1, T2, rfl, h1, h2, h3, h4⟩
  exact ⟨s', T0, T1, T2, rfl, h1, ⟨h1.is.fs.len, h1.is.ff.len⟩, h3, h4⟩
set_option maxHeartbeats 4000000 in
set_option maxRecDepth 20000 in
theorem specDeliver_any (w : World) (H : Ho) (s : Sl) (F : R5) (fa : Option Addr) (fm fc : Nat) (T : Ho) (hR : okRel H (delHo H F) T) (h : isHo w H s) (hn : H.le 1048576) (hf : isBytes w fa fm fc F.l) (hfm : fm ≤ 1048576) :
    Calls Tryz.prog 46 #[.agg (hoL H s).toArray, frV F.e F.i F.r F.d fa fm fc] w fun o w' => ∃ s', o = .returned (.agg (hoL T s').toArray) ∧ St w.heap.size w' (fun V => isHo V T s') ∧ Below w.heap.size w w' := by
  have H0 : Hid (sbT w (hoL H s) [.bool F.e, .int .u32 (F.i : Int), .bool F.r, .int .i64 F.d, .slice fa fm fc] (((w.alloc (.cells (hoL H s).toArray 35)).alloc (.cells [.bool F.e, .int .u32 (F.i : Int), .bool F.r, .int .i64 F.d, .slice fa fm fc].toArray 25)).alloc (.cells [.int .i64 0, .int .i64 0, .int .i64 0, .int .i64 0, .slice none 0 0, .slice none 0 0, .slice none 0 0, .slice none 0 0, .int .i64 0, .int .i64 0].toArray 35))) := sbT.new w _ _
  have HR : Hid (okRel H (delHo H F) T) := hR
  clear hR
  by_cases hok : okHo H
  · have HV : Hid (∀ W, Below w.heap.size w W → Calls Tryz.prog 72 #[.agg (hoL H s).toArray] W fun o w' => o = .returned (.bool true) ∧ Below W.heap.size W w') := fun W hW => okL W H s (h.below hW) hn hok
    have HC : Hid (∀ W, Below w.heap.size w W → Calls Tryz.prog 71 #[.agg (hoL H s).toArray] W fun o w' => ∃ s' T0 T1 T2, o = .returned (.agg (hoL H s').toArray) ∧ spS (W.heap.size + 3) T0 T1 T2 H s' w' ∧ (s'.n1 = H.fs.length ∧ s'.n3 = H.ff.length) ∧ s'.n4 = H.qu.length ∧ Below W.heap.size W w') := fun W hW => copyS5 W H s (h.below hW) hn
    have HFB : Hid (isBytes w fa fm fc F.l) := hf
    have HOK : Hid (okHo H) := hok
    have HLE : Hid ((delHo H F).le 1048576) := delHo_le hn hok.dl.2.2.1 hok.dl.2.1 (by have := hf.len; omega)
    have HFD : Hid (∀ j (h : j < H.ff.length), H.ff[j].l.length ≤ 1048576) := hn.fd
    clear h hn hok hf
    go_enter Tryz.func46, Tryz.ntmps46
    go_wp2_with (first
      | (refine wpList_load_mid (P := Tryz.prog) rfl 35 _ rfl w.heap.size 0 rfl _ _ H0.out.s.p.load Tryz.underlying35 rfl (sz41L H s) ?_))
    refine (HV.out _ H0.out.b).mono ?_
    rintro o w1 ⟨rfl, hb1⟩
    have H1 : Hid (sbT w (hoL H s) [.bool F.e, .int .u32 (F.i : Int), .bool F.r, .int .i64 F.d, .slice fa fm fc] w1) := H0.out.below hb1
    clear H0 hb1 HV
    go_wp2_with fail
    refine wp_region_held (S := fun X => blk X w.heap.size (hoL H s) 35 ∧ blk X (w.heap.size + 1) [.bool F.e, .int .u32 (F.i : Int), .bool F.r, .int .i64 F.d, .slice fa fm fc] 25) (by kernel_rfl) ?_
    have H1 : Hid (sbT w (hoL H s) [.bool F.e, .int .u32 (F.i : Int), .bool F.r, .int .i64 F.d, .slice fa fm fc] (World.drew w1)) := H1.out.below (Below.refl _ _).drew
    change wpAnyH Tryz.prog _ _ _ _ _ _ _ (World.drew w1)
    generalize World.drew w1 = v0 at *
    have hS : blk v0 w.heap.size (hoL H s) 35 ∧ blk v0 (w.heap.size + 1) [.bool F.e, .int .u32 (F.i : Int), .bool F.r, .int .i64 F.d, .slice fa fm fc] 25 := ⟨H1.out.s.p, H1.out.s.f⟩
    refine wpAnyH_take (i := 0) (v := .agg (hoL H s).toArray) rfl (by kernel_rfl) (by kernel_rfl) (by kernel_rfl) (fun _ _ _ h => h) (yieldsIf_load_mid (by rfl) 35 _ rfl w.heap.size 0 rfl (hoL H s) _ (fun X h => h.1.load) Tryz.underlying35 rfl (sz41L H s)) hS ?_
    simp only [Act.put, liA, liB, liC, liD, liE]
    refine wpAnyH_take (i := 2) (v := .agg [.bool F.e, .int .u32 (F.i : Int), .bool F.r, .int .i64 F.d, .slice fa fm fc].toArray) rfl (by kernel_rfl) (by kernel_rfl) (by kernel_rfl) (fun _ _ _ h => h) (yieldsIf_load_mid (by rfl) 25 _ rfl (w.heap.size + 1) 0 rfl [.bool F.e, .int .u32 (F.i : Int), .bool F.r, .int .i64 F.d, .slice fa fm fc] _ (fun X h => h.2.load) Tryz.underlying25 rfl sz93) hS ?_
    simp only [Act.put, liA, liB, liC, liD, liE, liF]
    refine wpAnyH_all (rs := [1]) (by kernel_rfl) (by simp) ?_
    refine AllReadyH.cons rfl (fun K2 hK2 => ?_) AllReadyH.nil
    go_simp
    refine (HC.out v0 H1.out.b).mono ?_
    rintro o w2 ⟨s2, T0, T1, T2, rfl, e4, e2, e3, hb2⟩
    have hn1 : s2.n1 ≤ 1000 := by rw [e2.1]; exact HOK.out.dl.1
    have hn3 : s2.n3 ≤ 1000 := by rw [e2.2]; exact HOK.out.dl.2.1
    have hn4 : s2.n4 ≤ 900 := by rw [e3]; exact HOK.out.dl.2.2.1
    have HD : Hid (Calls Tryz.prog 107 #[.agg (hoL H s2).toArray, frV F.e F.i F.r F.d fa fm fc] w2 fun o w' => ∃ s', o = .returned (.agg (hoL (delHo H F) s').toArray) ∧ isHo w' (delHo H F) s' ∧ Below (v0.heap.size + 3) w2 w') := l3doDeliver_any (v0.heap.size + 3) T0 T1 T2 w2 H s2 F fa fm fc e4 hn1 hn3 hn4 ⟨HOK.out.l0, HOK.out.l1⟩ (fun V hV => HFB.out.below ((H1.out.b.trans (hb2.mono H1.out.b.size)).trans (hV.mono (by have := H1.out.b.size; omega)))) hfm HFD.out HOK.out.dl.2.2.2.1 HOK.out.dl.2.2.2.2
    have H2 : Hid (sbT w (hoL H s) [.bool F.e, .int .u32 (F.i : Int), .bool F.r, .int .i64 F.d, .slice fa fm fc] w2) := H1.out.below hb2
    have HZ2 : Hid (w.heap.size + 1 + 1 < v0.heap.size) := H1.out.s.r.lt
    clear e2 e3 e4 hb2 hn1 hn3 hn4 H1 HC
    go_wp2_with fail
    refine hK2.out _ _ ⟨H2.out.s.p, H2.out.s.f⟩ (fun hS2 => ?_)
    clear hK2 K2 hS
    have hS := hS2
    clear hS2
    refine wpAnyH_all (rs := [3]) (by kernel_rfl) (by simp) ?_
    refine AllReadyH.cons rfl (fun K2 hK2 => ?_) AllReadyH.nil
    go_simp
    refine HD.out.mono ?_
    rintro o w3 ⟨s3, rfl, q1, q2⟩
    have hS5 : blk w3 w.heap.size (hoL H s) 35 ∧ blk w3 (w.heap.size + 1) [.bool F.e, .int .u32 (F.i : Int), .bool F.r, .int .i64 F.d, .slice fa fm fc] 25 := ⟨hS.1.kept (q2.block _ (by have := HZ2.out; omega)), hS.2.kept (q2.block _ (by have := HZ2.out; omega))⟩
    have H3 : Hid (blk w3 (w.heap.size + 1 + 1) Z10 35) := H2.out.s.r.kept (q2.block _ (by have := HZ2.out; omega))
    have HB3 : Hid (Below w.heap.size w w3) := H2.out.b.trans (q2.mono (by have := HZ2.out; omega))
    have HC3 : Hid (Calls Tryz.prog 71 #[.agg (hoL (delHo H F) s3).toArray] w3 fun o w' => ∃ s' T0 T1 T2, o = .returned (.agg (hoL (delHo H F) s').toArray) ∧ spS (w3.heap.size + 3) T0 T1 T2 (delHo H F) s' w' ∧ s'.n2 = (delHo H F).bx.length ∧ s'.n4 = (delHo H F).qu.length ∧ Below w3.heap.size w3 w') := copyS w3 (delHo H F) s3 q1 HLE.out
    have HZ3 : Hid (w.heap.size + 1 + 1 < w3.heap.size) := H3.out.lt
    clear q1 q2 H2 HD
    go_wp2_with fail
    refine hK2.out _ _ hS5 (fun hS2 => ?_)
    clear hK2 K2 hS hS5
    have hS := hS2
    clear hS2
    refine wpAnyH_all (rs := [4]) (by kernel_rfl) (by simp) ?_
    refine AllReadyH.cons rfl (fun K2 hK2 => ?_) AllReadyH.nil
    go_simp
    refine HC3.out.mono ?_
    rintro o w4 ⟨s4, U0, U1, U2, rfl, e4, _, _, hb4⟩
    have hS5 : blk w4 w.heap.size (hoL H s) 35 ∧ blk w4 (w.heap.size + 1) [.bool F.e, .int .u32 (F.i : Int), .bool F.r, .int .i64 F.d, .slice fa fm fc] 25 := ⟨hS.1.below hb4, hS.2.below hb4⟩
    have HST : Hid (spS (w3.heap.size + 3) U0 U1 U2 (delHo H F) s4 w4) := e4
    have H4 : Hid (blk w4 (w.heap.size + 1 + 1) Z10 35) := H3.out.below hb4
    have HB4 : Hid (Below w.heap.size w w4) := HB3.out.trans (hb4.mono HB3.out.size)
    clear e4 hb4 H3 HB3 HC3
    go_wp2_with fail
    refine hK2.out _ _ hS5 (fun hS2 => ?_)
    clear hK2 K2 hS hS5
    have hS := hS2
    clear hS2
    refine wpAnyH_all (rs := [5]) (by kernel_rfl) (by simp) ?_
    refine AllReadyH.cons rfl (fun K2 hK2 => ?_) AllReadyH.nil
    rw [if_pos (by rfl)]
    refine wp_store_mid 35 _ _ rfl (w.heap.size + 1 + 1) 0 (hoL (delHo H F) s4).toArray rfl rfl (H4.out.there 0 _ (by rw [List.size_toArray, hoL_len]; decide)) (sz41A _ _) (hoL_one _ _) ?_
    have hS5 : blk (w4.setCells (w.heap.size + 1 + 1) 0 (hoL (delHo H F) s4)) w.heap.size (hoL H s) 35 ∧ blk (w4.setCells (w.heap.size + 1 + 1) 0 (hoL (delHo H F) s4)) (w.heap.size + 1) [.bool F.e, .int .u32 (F.i : Int), .bool F.r, .int .i64 F.d, .slice fa fm fc] 25 := ⟨hS.1.other (by omega) _ _, hS.2.other (by omega) _ _⟩
    refine hK2.out _ _ hS5 (fun hS2 => ?_)
    clear hK2 K2 hS hS5 hS2
    refine wpAnyH_done (by kernel_rfl) ?_ _
    simp only [Act.put]
    generalize hW8 : World.setCells w4 (w.heap.size + 1 + 1) 0 (hoL (delHo H F) s4) = w8
    have HW8 : Hid (World.setCells w4 (w.heap.size + 1 + 1) 0 (hoL (delHo H F) s4) = w8) := hW8
    clear hW8
    go_wp2_with fail
    have e8 := HW8.out
    have hF : blk w8 (w.heap.size + 1 + 1) (hoL (delHo H F) s4) 35 := by
      rw [← e8]
      have := blk.put [] Z10 [] (hoL (delHo H F) s4) (w := w4) (b := w.heap.size + 1 + 1) (T := 35) (by simpa using H4.out) (by rw [hoL_len]; rfl)
      rw [List.nil_append, List.append_nil] at this
      exact this
    have hL := run_loadVar_mid (P := Tryz.prog) w8 (w.heap.size + 1 + 1) 0 35 _ _ hF.load Tryz.underlying35 rfl (sz41L _ _)
    refine bodyPost_ret (v := .agg (hoL (delHo H F) s4).toArray) (results_cell Tryz.results46 _ w8 (w.heap.size + 1 + 1) _ rfl hL) rfl ?_
    have hR := HR.out.yes HOK.out
    subst hR
    refine ⟨s4, rfl, fun V hV => HST.out.isSt V (fun x h1 h2 => ?_), ?_⟩
    · have hz3 := HZ3.out
      rw [hV x (by omega) (by rw [← e8, setCells_size]; exact h2), ← e8]
      exact setCells_other _ x (by omega) _ _ _
    · rw [← e8]
      exact setCells_below (by omega) 0 _ HB4.out
  · have HV : Hid (∀ W, Below w.heap.size w W → Calls Tryz.prog 72 #[.agg (hoL H s).toArray] W fun o w' => o = .returned (.bool false) ∧ Below W.heap.size W w') := fun W hW => badL W H s (h.below hW) hn hok
    have HOK : Hid (¬ okHo H) := hok
    clear h hn hok hf
    go_enter Tryz.func46, Tryz.ntmps46
    go_wp2_with (first
      | (refine wpList_load_mid (P := Tryz.prog) rfl 35 _ rfl w.heap.size 0 rfl _ _ H0.out.s.p.load Tryz.underlying35 rfl (sz41L H s) ?_))
    refine (HV.out _ H0.out.b).mono ?_
    rintro o w1 ⟨rfl, hb1⟩
    have H1 : Hid (sbT w (hoL H s) [.bool F.e, .int .u32 (F.i : Int), .bool F.r, .int .i64 F.d, .slice fa fm fc] w1) := H0.out.below hb1
    clear H0 hb1
    go_wp2_with (first
      | (refine wpList_store_mid (P := Tryz.prog) rfl 35 _ _ rfl (w.heap.size + 1 + 1) 0 [.int .i64 0, .int .i64 0, .int .i64 0, .int .i64 0, .slice none 0 0, .slice none 0 0, .slice none 0 0, .slice none 0 0, .int .i64 0, .int .i64 0].toArray rfl rfl (H1.out.s.r.there 0 10 (by simp [Z10])) sz41 (all_oneCell_toArray (by simp [Value.oneCell'])) ?_; generalize hW8 : World.setCells _ (w.heap.size + 1 + 1) 0 _ = w8; have HW8 : Hid (_ = w8) := hW8; clear hW8))
    have e8 := HW8.out
    have hF : blk w8 (w.heap.size + 1 + 1) [.int .i64 0, .int .i64 0, .int .i64 0, .int .i64 0, .slice none 0 0, .slice none 0 0, .slice none 0 0, .slice none 0 0, .int .i64 0, .int .i64 0] 35 := by
      rw [← e8]
      have := blk.put [] Z10 [] [.int .i64 0, .int .i64 0, .int .i64 0, .int .i64 0, .slice none 0 0, .slice none 0 0, .slice none 0 0, .slice none 0 0, .int .i64 0, .int .i64 0] (w := w1) (b := w.heap.size + 1 + 1) (T := 35) (by simpa using H1.out.s.r) rfl
      simpa using this
    have hL := run_loadVar_mid (P := Tryz.prog) w8 (w.heap.size + 1 + 1) 0 35 _ _ hF.load Tryz.underlying35 rfl sz41
    refine bodyPost_ret (v := .agg [.int .i64 0, .int .i64 0, .int .i64 0, .int .i64 0, .slice none 0 0, .slice none 0 0, .slice none 0 0, .slice none 0 0, .int .i64 0, .int .i64 0].toArray) (results_cell Tryz.results46 _ w8 (w.heap.size + 1 + 1) _ rfl hL) rfl ?_
    have hR := HR.out.no HOK.out
    subst hR
    refine ⟨zSl, by rw [zHo_L], fun V _ => zHo_is V, ?_⟩
    rw [← e8]
    exact setCells_below (by omega) 0 _ H1.out.b
end Go.Proofs.YtaamahohdnbpiaaGreat
namespace Go.Proofs.YtaamahohdnbpiaaGreat
open Go.RowKit
set_option linter.unusedVariables false
set_option maxHeartbeats 8000000 in
set_option maxRecDepth 20000 in
theorem deliver_any {w0 : World} {G : Lg} {H : Ho} {f1 f3 : Nat} {hs : Nat → Hd} {nm : Nat} {D : DataW Unit} {W : World} (h : lh w0 G H f1 f3 hs nm D W) (F : R5) (fa : Option Addr) (fm fc : Nat) (hf : isBytes w0 fa fm fc F.l) (hfm : fm ≤ 1048576) (hc2 : H.c2 = 0 ∨ H.c2 = 1) :
    Calls Tryz.prog 110 #[.pointer (some ⟨G.P, 0, none⟩), frV F.e F.i F.r F.d fa fm fc] W fun o w' => o = .returned (.tuple #[]) ∧ ∃ f1', lh w0 G (delHo H F) f1' f3 hs nm D w' := by
  have HBA : Hid (Below W.heap.size W (W.alloc (.cells [.bool F.e, .int .u32 (F.i : Int), .bool F.r, .int .i64 F.d, .slice fa fm fc].toArray 25))) := (Below.refl _ _).alloc (Nat.le_refl _) _
  have HPA : Hid (blk (W.alloc (.cells [.bool F.e, .int .u32 (F.i : Int), .bool F.r, .int .i64 F.d, .slice fa fm fc].toArray 25)) W.heap.size [.bool F.e, .int .u32 (F.i : Int), .bool F.r, .int .i64 F.d, .slice fa fm fc] 25) := blk.new W _ 25
  have HLA : Hid (lh w0 G H f1 f3 hs nm D (W.alloc (.cells [.bool F.e, .int .u32 (F.i : Int), .bool F.r, .int .i64 F.d, .slice fa fm fc].toArray 25))) := h.below HBA.out
  have HU : Hid (lhU G W.heap.size) := h.lts
  have HFB : Hid (isBytes w0 fa fm fc F.l ∧ F.l.length ≤ 1048576 ∧ fm = F.l.length) := ⟨hf, by have := hf.len; omega, hf.len⟩
  have HVL : Hid (∀ X, lh w0 G H f1 f3 hs nm D X → Calls Tryz.prog 153 #[frV F.e F.i F.r F.d fa fm fc] X fun o w' => o = .returned (.bool (validB F.e F.i F.r F.d fm)) ∧ Below X.heap.size X w') := fun X hX => valid_any X _ _ _ _ _ _ _ _ (hf.below hX.b)
  have HPS : Hid (∀ X, lh w0 G H f1 f3 hs nm D X → Calls Tryz.prog 154 #[.pointer (some ⟨G.P, 0, none⟩), frV F.e F.i F.r F.d fa fm fc] X fun o w' => o = .returned (.bool (passB H.fs F)) ∧ Below X.heap.size X w') := fun X hX => passes_any X G.P G.gf G.n1 G.kf H.fs F fa fm fc (hX.p.cell 4 _ rfl) hX.f hX.bd.m1
  have HFR : Hid (∀ X, lh w0 G H f1 f3 hs nm D X → Calls Tryz.prog 155 #[.pointer (some ⟨G.P, 7, none⟩)] X fun o w' => o = .returned (.int .i64 ((G.r1 - H.ff.length : Nat) : Int)) ∧ Below X.heap.size X w') := fun X hX => free5L X G.P _ G.r1 G.r1 H.ff.length (hX.p.cell 7 _ rfl) (hX.p.cell 9 _ rfl) hX.bd.b1.2.2 (by have := hX.bd.b1; omega)
  clear h hf
  go_enter Tryz.func110, Tryz.ntmps110
  go_wp2_with (first | (refine wpList_load_mid (P := Tryz.prog) rfl 25 _ rfl W.heap.size 0 rfl [.bool F.e, .int .u32 (F.i : Int), .bool F.r, .int .i64 F.d, .slice fa fm fc] _ HPA.out.load Tryz.underlying25 rfl sz93 ?_))
  refine (HVL.out _ HLA.out).mono ?_
  rintro o w1 ⟨rfl, hb1⟩
  have HL1 : Hid (lh w0 G H f1 f3 hs nm D w1) := HLA.out.below hb1
  have HP1 : Hid (blk w1 W.heap.size [.bool F.e, .int .u32 (F.i : Int), .bool F.r, .int .i64 F.d, .slice fa fm fc] 25) := HPA.out.below hb1
  clear hb1 HLA HPA HBA HVL
  by_cases hv : validB F.e F.i F.r F.d fm = true
  · rw [hv]
    go_wp2_with (first | (refine wpList_load_midG (by first | rfl | (simp [Region.wanted, yielded]; done) | (simp [Region.wanted, yielded]; omega)) 25 _ rfl W.heap.size 0 rfl [.bool F.e, .int .u32 (F.i : Int), .bool F.r, .int .i64 F.d, .slice fa fm fc] _ HP1.out.load Tryz.underlying25 rfl sz93 ?_))
    refine (HPS.out _ HL1.out).mono ?_
    rintro o w2 ⟨rfl, hb2⟩
    have HL2 : Hid (lh w0 G H f1 f3 hs nm D w2) := HL1.out.below hb2
    have HP2 : Hid (blk w2 W.heap.size [.bool F.e, .int .u32 (F.i : Int), .bool F.r, .int .i64 F.d, .slice fa fm fc] 25) := HP1.out.below hb2
    clear hb2 HL1 HP1 HPS
    have HV : Hid (validB F.e F.i F.r F.d F.l.length = true) := by show _ = _; rw [← HFB.out.2.2]; exact hv
    by_cases hp : passB H.fs F = true
    · rw [hp]
      have HD0 : Hid (delHo H F = if (H.ff.length : Int) = H.c1 then (if H.c2 = 0 then postHo H (evF 3 0 0 F) else match H.ff with | [] => H | f :: r => postHo (fHo (postHo H (evF 3 0 0 f)) (r ++ [F])) (evF 2 0 0 F)) else postHo (fHo H (H.ff ++ [F])) (evF 2 0 0 F)) := by
        show _ = _
        unfold delHo
        rw [if_pos ⟨HV.out, hp⟩]
        rfl
      go_wp2_with fail
      refine (HFR.out _ HL2.out).mono ?_
      rintro o w3 ⟨rfl, hb3⟩
      have HL3 : Hid (lh w0 G H f1 f3 hs nm D w3) := HL2.out.below hb3
      have HP3 : Hid (blk w3 W.heap.size [.bool F.e, .int .u32 (F.i : Int), .bool F.r, .int .i64 F.d, .slice fa fm fc] 25) := HP2.out.below hb3
      clear hb3 HL2 HP2 HFR
      have hle := HL3.out.bd.b1
      have he1 := HL3.out.bd.e1
      by_cases hfull : H.ff.length = G.r1
      · have hfr : G.r1 - H.ff.length = 0 := by omega
        rw [hfr]
        have hfi : (H.ff.length : Int) = H.c1 := by rw [he1]; omega
        have y2 : w3.cell? ⟨G.P, 2, none⟩ = some (.int .i64 H.c2) := HL3.out.p.cell 2 _ rfl
        rcases hc2 with h0 | h0
        · have HT : Hid (delHo H F = postHo H (evF 3 0 0 F)) := by
            show _ = _
            rw [HD0.out, if_pos hfi, if_pos h0]
          rw [h0] at y2
          have HPO : Hid (Calls Tryz.prog 120 #[.pointer (some ⟨G.P, 0, none⟩), .agg #[.int .i64 3, .int .i64 0, .int .i64 0, .bool F.e, .int .u32 (F.i : Int), .bool F.r, .int .i64 F.d, .slice fa fm fc]] w3 fun o w' => o = .returned (.tuple #[]) ∧ lh w0 G (postHo H (evF 3 0 0 F)) f1 f3 hs nm D w' ∧ (∀ b, b ≠ G.P → b ≠ G.gq → b < w3.heap.size → w'.heap[b]? = w3.heap[b]?) ∧ w3.heap.size ≤ w'.heap.size) := HL3.out.post (evF 3 0 0 F) fa fm fc HFB.out.1 HFB.out.2.1
          go_wp2_with (first | (refine wpList_load_mid (P := Tryz.prog) rfl 25 _ rfl W.heap.size 0 rfl [.bool F.e, .int .u32 (F.i : Int), .bool F.r, .int .i64 F.d, .slice fa fm fc] _ HP3.out.load Tryz.underlying25 rfl sz93 ?_))
          refine HPO.out.mono ?_
          rintro o w7 ⟨rfl, hl7, _, _⟩
          have HL7 : Hid (lh w0 G (postHo H (evF 3 0 0 F)) f1 f3 hs nm D w7) := hl7
          clear hl7 HPO
          go_wp2_with fail
          first | go_end0 | (simp only [Exit.inBlock, Exit.then]; refine bodyPost_ret (results_none rfl _ _ _) rfl ?_) | refine bodyPost_ret (results_none rfl _ _ _) rfl ?_
          exact ⟨rfl, _, by rw [HT.out]; exact HL7.out⟩
        · have hne : ¬ H.c2 = 0 := by omega
          obtain ⟨f, r, hfr2⟩ : ∃ f r, H.ff = f :: r := by
            cases hff : H.ff with
            | nil => rw [hff] at hfull; simp at hfull; omega
            | cons f r => exact ⟨f, r, rfl⟩
          have HT : Hid (delHo H F = postHo (fHo (postHo H (evF 3 0 0 f)) (r ++ [F])) (evF 2 0 0 F)) := by
            show _ = _
            rw [HD0.out, if_pos hfi, if_neg hne, hfr2]
          have hsm := HL3.out.bd.s3 0 (by rw [hfr2]; simp)
          have e0 : H.ff[0]'(by rw [hfr2]; simp) = f := by simp [hfr2]
          rw [e0] at hsm
          have hlr : r.length < G.r1 := by
            have := congrArg List.length hfr2
            simp at this
            omega
          have HLR : Hid (r.length < G.r1) := hlr
          rw [h0] at y2
          have HTK : Hid (Calls Tryz.prog 151 #[.pointer (some ⟨G.P, 7, none⟩), .int .i64 1] w3 fun e w' => ∃ gx kx ao m c, e = .returned (.slice (some ⟨gx, 0, none⟩) 1 kx) ∧ (w3.heap.size ≤ gx ∧ gx < w'.heap.size ∧ 1 ≤ kx ∧ w'.rangeAt gx 0 [.bool f.e, .int .u32 (f.i : Int), .bool f.r, .int .i64 f.d, .slice ao m c] ∧ isBytes w0 ao m c f.l) ∧ lh w0 G { H with ff := r } ((f1 + 1) % G.r1) f3 hs nm D w' ∧ (∀ q, q ≠ G.P → q < w3.heap.size → w'.heap[q]? = w3.heap[q]?) ∧ w3.heap.size ≤ w'.heap.size) := take5_one HL3.out hfr2
          have HSM : Hid (f.l.length ≤ 1048576) := hsm
          clear hsm e0 hfr2 hlr hfi he1 hle hfull hfr
          obtain ⟨gE, gI, gR, gD, gL⟩ := f
          go_wp2_with fail
          refine HTK.out.mono ?_
          rintro o w4 ⟨gx, kx, ao, m, c, rfl, ⟨h1, h2, h3, h4, h5⟩, h6, h7, h8⟩
          have HP4a : Hid (blk w4 W.heap.size [.bool F.e, .int .u32 (F.i : Int), .bool F.r, .int .i64 F.d, .slice fa fm fc] 25) := HP3.out.kept (h7 _ (by have := HU.out.1; omega) HP3.out.lt)
          have HX4 : Hid (w4.rangeAt gx 0 [.bool gE, .int .u32 (gI : Int), .bool gR, .int .i64 gD, .slice ao m c]) := h4
          have hkx : 1 ≤ kx := h3
          have HPO3 : Hid (Calls Tryz.prog 120 #[.pointer (some ⟨G.P, 0, none⟩), .agg #[.int .i64 3, .int .i64 0, .int .i64 0, .bool gE, .int .u32 (gI : Int), .bool gR, .int .i64 gD, .slice ao m c]] w4 fun o w' => o = .returned (.tuple #[]) ∧ lh w0 G (postHo { H with ff := r } (evF 3 0 0 ⟨gE, gI, gR, gD, gL⟩)) ((f1 + 1) % G.r1) f3 hs nm D w' ∧ (∀ b, b ≠ G.P → b ≠ G.gq → b < w4.heap.size → w'.heap[b]? = w4.heap[b]?) ∧ w4.heap.size ≤ w'.heap.size) := h6.post (evF 3 0 0 ⟨gE, gI, gR, gD, gL⟩) ao m c h5 HSM.out
          clear h1 h2 h3 h4 h5 h6 h7 h8 HTK HP3 HL3
          go_wp2_with (first | (refine wpList_load_mid (P := Tryz.prog) rfl 25 _ rfl gx 0 rfl [.bool gE, .int .u32 (gI : Int), .bool gR, .int .i64 gD, .slice ao m c] _ HX4.out Tryz.underlying25 rfl sz93 ?_))
          refine HPO3.out.mono ?_
          rintro o w5 ⟨rfl, hl5, ho5, _⟩
          have HL5 : Hid (lh w0 G (postHo { H with ff := r } (evF 3 0 0 ⟨gE, gI, gR, gD, gL⟩)) ((f1 + 1) % G.r1) f3 hs nm D w5) := hl5
          have HP5 : Hid (blk w5 W.heap.size [.bool F.e, .int .u32 (F.i : Int), .bool F.r, .int .i64 F.d, .slice fa fm fc] 25) := HP4a.out.kept (ho5 _ (by have := HU.out.1; omega) (by have := HU.out.2.2.2.2.2; omega) HP4a.out.lt)
          clear hl5 ho5 HPO3 HP4a HX4
          go_wp2_with fail
          refine wp_region_held (S := fun X => blk X W.heap.size [.bool F.e, .int .u32 (F.i : Int), .bool F.r, .int .i64 F.d, .slice fa fm fc] 25) (by kernel_rfl) ?_
          have hS : blk (World.drew w5) W.heap.size [.bool F.e, .int .u32 (F.i : Int), .bool F.r, .int .i64 F.d, .slice fa fm fc] 25 := HP5.out.below (Below.refl _ _).drew
          have HLv : Hid (lh w0 G (postHo { H with ff := r } (evF 3 0 0 ⟨gE, gI, gR, gD, gL⟩)) ((f1 + 1) % G.r1) f3 hs nm D (World.drew w5)) := HL5.out.below (Below.refl _ _).drew
          change wpAnyH Tryz.prog _ _ _ _ _ _ _ (World.drew w5)
          generalize World.drew w5 = v0 at *
          refine wpAnyH_take (i := 0) (v := .pointer (some ⟨G.P, 0, none⟩)) rfl (by kernel_rfl) (by kernel_rfl) (by kernel_rfl) (fun _ _ _ h => h) (Or.inl ⟨by rfl, ?_⟩) hS ?_
          · intro W hSw
            clear hS
            go_simp
          simp only [Act.put, liA, liB, liC, liD, liE]
          refine wpAnyH_take (i := 1) (v := .pointer (some ⟨G.P, 0, none⟩)) rfl (by kernel_rfl) (by kernel_rfl) (by kernel_rfl) (fun _ _ _ h => h) (Or.inl ⟨by rfl, ?_⟩) hS ?_
          · intro W hSw
            clear hS
            go_simp
          simp only [Act.put, liA, liB, liC, liD, liE, liF]
          refine wpAnyH_take (i := 2) (v := .pointer (some ⟨G.P, 7, none⟩)) rfl (by kernel_rfl) (by kernel_rfl) (by kernel_rfl) (fun _ _ _ h => h) (Or.inl ⟨by rfl, ?_⟩) hS ?_
          · intro W hSw
            clear hS
            go_simp
          simp only [Act.put, liA, liB, liC, liD, liE, liF]
          refine wpAnyH_take (i := 3) (v := .agg [.bool F.e, .int .u32 (F.i : Int), .bool F.r, .int .i64 F.d, .slice fa fm fc].toArray) rfl (by kernel_rfl) (by kernel_rfl) (by kernel_rfl) (fun _ _ _ h => h) (yieldsIf_load_mid (by rfl) 25 _ rfl W.heap.size 0 rfl [.bool F.e, .int .u32 (F.i : Int), .bool F.r, .int .i64 F.d, .slice fa fm fc] _ (fun X h => h.load) Tryz.underlying25 rfl sz93) hS ?_
          simp only [Act.put, liA, liB, liC, liD, liE, liF]
          refine wpAnyH_all (rs := [4]) (by kernel_rfl) (by simp) ?_
          refine AllReadyH.cons rfl (fun K2 hK2 => ?_) AllReadyH.nil
          go_simp
          have bA : Below v0.heap.size v0 (v0.alloc (.cells [.bool F.e, .int .u32 (F.i : Int), .bool F.r, .int .i64 F.d, .slice fa fm fc].toArray 25)) := (Below.refl _ _).alloc (Nat.le_refl _) _
          have hSA : blk (v0.alloc (.cells [.bool F.e, .int .u32 (F.i : Int), .bool F.r, .int .i64 F.d, .slice fa fm fc].toArray 25)) W.heap.size [.bool F.e, .int .u32 (F.i : Int), .bool F.r, .int .i64 F.d, .slice fa fm fc] 25 := hS.below bA
          have HNB : Hid ((v0.alloc (.cells [.bool F.e, .int .u32 (F.i : Int), .bool F.r, .int .i64 F.d, .slice fa fm fc].toArray 25)).heap[v0.heap.size]? = some (.cells [.bool F.e, .int .u32 (F.i : Int), .bool F.r, .int .i64 F.d, .slice fa fm fc].toArray 25)) := heap_alloc_new v0 _
          have HLB : Hid (lh w0 G (postHo { H with ff := r } (evF 3 0 0 ⟨gE, gI, gR, gD, gL⟩)) ((f1 + 1) % G.r1) f3 hs nm D (v0.alloc (.cells [.bool F.e, .int .u32 (F.i : Int), .bool F.r, .int .i64 F.d, .slice fa fm fc].toArray 25))) := HLv.out.below bA
          have HVZ : Hid (lhU G v0.heap.size) := HLv.out.lts
          refine hK2.out _ _ hSA (fun hS2 => ?_)
          clear hK2 K2 hSA hS bA HLv
          have hS := hS2
          clear hS2
          generalize (v0.alloc (.cells [.bool F.e, .int .u32 (F.i : Int), .bool F.r, .int .i64 F.d, .slice fa fm fc].toArray 25)) = v1 at *
          generalize v0.heap.size = ib at *
          refine wpAnyH_all (rs := [5]) (by kernel_rfl) (by simp) ?_
          refine AllReadyH.cons rfl (fun K2 hK2 => ?_) AllReadyH.nil
          go_simp
          refine (HLB.out.putF F fa fm fc HFB.out.1 HFB.out.2.1 (by exact HLR.out) ib HNB.out ⟨by have := HVZ.out.1; omega, by have := HVZ.out.2.2.2.2.1; omega⟩).mono ?_
          rintro o v2 ⟨rfl, hl2, ho2, hz2⟩
          have hS5 : blk v2 W.heap.size [.bool F.e, .int .u32 (F.i : Int), .bool F.r, .int .i64 F.d, .slice fa fm fc] 25 := hS.kept (ho2 _ (by have := HU.out.1; omega) (by have := HU.out.2.2.2.2.1; omega) hS.lt)
          have HL4 : Hid (lh w0 G (fHo (postHo { H with ff := r } (evF 3 0 0 ⟨gE, gI, gR, gD, gL⟩)) ((postHo { H with ff := r } (evF 3 0 0 ⟨gE, gI, gR, gD, gL⟩)).ff ++ [F])) ((f1 + 1) % G.r1) f3 hs nm D v2) := hl2
          clear hl2 ho2 hz2
          go_wp2_with fail
          refine hK2.out _ _ hS5 (fun hS2 => ?_)
          clear hK2 K2 hS5 hS HLB HNB
          have HP4 : Hid (blk v2 W.heap.size [.bool F.e, .int .u32 (F.i : Int), .bool F.r, .int .i64 F.d, .slice fa fm fc] 25) := hS2
          clear hS2
          refine wpAnyH_done (by kernel_rfl) ?_ _
          have HPO : Hid (Calls Tryz.prog 120 #[.pointer (some ⟨G.P, 0, none⟩), .agg #[.int .i64 2, .int .i64 0, .int .i64 0, .bool F.e, .int .u32 (F.i : Int), .bool F.r, .int .i64 F.d, .slice fa fm fc]] v2 fun o w' => o = .returned (.tuple #[]) ∧ lh w0 G (postHo (fHo (postHo { H with ff := r } (evF 3 0 0 ⟨gE, gI, gR, gD, gL⟩)) ((postHo { H with ff := r } (evF 3 0 0 ⟨gE, gI, gR, gD, gL⟩)).ff ++ [F])) (evF 2 0 0 F)) ((f1 + 1) % G.r1) f3 hs nm D w' ∧ (∀ b, b ≠ G.P → b ≠ G.gq → b < v2.heap.size → w'.heap[b]? = v2.heap[b]?) ∧ v2.heap.size ≤ w'.heap.size) := HL4.out.post (evF 2 0 0 F) fa fm fc HFB.out.1 HFB.out.2.1
          go_wp2_with (first | (refine wpList_load_mid (P := Tryz.prog) rfl 25 _ rfl W.heap.size 0 rfl [.bool F.e, .int .u32 (F.i : Int), .bool F.r, .int .i64 F.d, .slice fa fm fc] _ HP4.out.load Tryz.underlying25 rfl sz93 ?_))
          refine HPO.out.mono ?_
          rintro o w7 ⟨rfl, hl7, _, _⟩
          have HL7 : Hid (lh w0 G (postHo (fHo (postHo { H with ff := r } (evF 3 0 0 ⟨gE, gI, gR, gD, gL⟩)) ((postHo { H with ff := r } (evF 3 0 0 ⟨gE, gI, gR, gD, gL⟩)).ff ++ [F])) (evF 2 0 0 F)) ((f1 + 1) % G.r1) f3 hs nm D w7) := hl7
          clear hl7 HPO
          go_wp2_with fail
          first | go_end0 | (simp only [Exit.inBlock, Exit.then]; refine bodyPost_ret (results_none rfl _ _ _) rfl ?_) | refine bodyPost_ret (results_none rfl _ _ _) rfl ?_
          exact ⟨rfl, _, by rw [HT.out]; exact HL7.out⟩
      · obtain ⟨q, hq⟩ : ∃ q : Nat, G.r1 - H.ff.length = q + 1 := ⟨G.r1 - H.ff.length - 1, by omega⟩
        rw [hq]
        have hq0 : (((q + 1 : Nat) : Int) == 0) = false := by simp; omega
        have HT : Hid (delHo H F = postHo (fHo H (H.ff ++ [F])) (evF 2 0 0 F)) := by
          show _ = _
          rw [HD0.out, if_neg (by rw [he1]; omega)]
        go_wp2_with fail
        refine wp_region_held (S := fun X => blk X W.heap.size [.bool F.e, .int .u32 (F.i : Int), .bool F.r, .int .i64 F.d, .slice fa fm fc] 25) (by kernel_rfl) ?_
        have hS : blk (World.drew w3) W.heap.size [.bool F.e, .int .u32 (F.i : Int), .bool F.r, .int .i64 F.d, .slice fa fm fc] 25 := HP3.out.below (Below.refl _ _).drew
        have HLv : Hid (lh w0 G (H) f1 f3 hs nm D (World.drew w3)) := HL3.out.below (Below.refl _ _).drew
        change wpAnyH Tryz.prog _ _ _ _ _ _ _ (World.drew w3)
        generalize World.drew w3 = v0 at *
        refine wpAnyH_take (i := 0) (v := .pointer (some ⟨G.P, 0, none⟩)) rfl (by kernel_rfl) (by kernel_rfl) (by kernel_rfl) (fun _ _ _ h => h) (Or.inl ⟨by rfl, ?_⟩) hS ?_
        · intro W hSw
          clear hS
          go_simp
        simp only [Act.put, liA, liB, liC, liD, liE]
        refine wpAnyH_take (i := 1) (v := .pointer (some ⟨G.P, 0, none⟩)) rfl (by kernel_rfl) (by kernel_rfl) (by kernel_rfl) (fun _ _ _ h => h) (Or.inl ⟨by rfl, ?_⟩) hS ?_
        · intro W hSw
          clear hS
          go_simp
        simp only [Act.put, liA, liB, liC, liD, liE, liF]
        refine wpAnyH_take (i := 2) (v := .pointer (some ⟨G.P, 7, none⟩)) rfl (by kernel_rfl) (by kernel_rfl) (by kernel_rfl) (fun _ _ _ h => h) (Or.inl ⟨by rfl, ?_⟩) hS ?_
        · intro W hSw
          clear hS
          go_simp
        simp only [Act.put, liA, liB, liC, liD, liE, liF]
        refine wpAnyH_take (i := 3) (v := .agg [.bool F.e, .int .u32 (F.i : Int), .bool F.r, .int .i64 F.d, .slice fa fm fc].toArray) rfl (by kernel_rfl) (by kernel_rfl) (by kernel_rfl) (fun _ _ _ h => h) (yieldsIf_load_mid (by rfl) 25 _ rfl W.heap.size 0 rfl [.bool F.e, .int .u32 (F.i : Int), .bool F.r, .int .i64 F.d, .slice fa fm fc] _ (fun X h => h.load) Tryz.underlying25 rfl sz93) hS ?_
        simp only [Act.put, liA, liB, liC, liD, liE, liF]
        refine wpAnyH_all (rs := [4]) (by kernel_rfl) (by simp) ?_
        refine AllReadyH.cons rfl (fun K2 hK2 => ?_) AllReadyH.nil
        go_simp
        have bA : Below v0.heap.size v0 (v0.alloc (.cells [.bool F.e, .int .u32 (F.i : Int), .bool F.r, .int .i64 F.d, .slice fa fm fc].toArray 25)) := (Below.refl _ _).alloc (Nat.le_refl _) _
        have hSA : blk (v0.alloc (.cells [.bool F.e, .int .u32 (F.i : Int), .bool F.r, .int .i64 F.d, .slice fa fm fc].toArray 25)) W.heap.size [.bool F.e, .int .u32 (F.i : Int), .bool F.r, .int .i64 F.d, .slice fa fm fc] 25 := hS.below bA
        have HNB : Hid ((v0.alloc (.cells [.bool F.e, .int .u32 (F.i : Int), .bool F.r, .int .i64 F.d, .slice fa fm fc].toArray 25)).heap[v0.heap.size]? = some (.cells [.bool F.e, .int .u32 (F.i : Int), .bool F.r, .int .i64 F.d, .slice fa fm fc].toArray 25)) := heap_alloc_new v0 _
        have HLB : Hid (lh w0 G (H) f1 f3 hs nm D (v0.alloc (.cells [.bool F.e, .int .u32 (F.i : Int), .bool F.r, .int .i64 F.d, .slice fa fm fc].toArray 25))) := HLv.out.below bA
        have HVZ : Hid (lhU G v0.heap.size) := HLv.out.lts
        refine hK2.out _ _ hSA (fun hS2 => ?_)
        clear hK2 K2 hSA hS bA HLv
        have hS := hS2
        clear hS2
        generalize (v0.alloc (.cells [.bool F.e, .int .u32 (F.i : Int), .bool F.r, .int .i64 F.d, .slice fa fm fc].toArray 25)) = v1 at *
        generalize v0.heap.size = ib at *
        refine wpAnyH_all (rs := [5]) (by kernel_rfl) (by simp) ?_
        refine AllReadyH.cons rfl (fun K2 hK2 => ?_) AllReadyH.nil
        go_simp
        refine (HLB.out.putF F fa fm fc HFB.out.1 HFB.out.2.1 (by omega) ib HNB.out ⟨by have := HVZ.out.1; omega, by have := HVZ.out.2.2.2.2.1; omega⟩).mono ?_
        rintro o v2 ⟨rfl, hl2, ho2, hz2⟩
        have hS5 : blk v2 W.heap.size [.bool F.e, .int .u32 (F.i : Int), .bool F.r, .int .i64 F.d, .slice fa fm fc] 25 := hS.kept (ho2 _ (by have := HU.out.1; omega) (by have := HU.out.2.2.2.2.1; omega) hS.lt)
        have HL4 : Hid (lh w0 G (fHo (H) ((H).ff ++ [F])) f1 f3 hs nm D v2) := hl2
        clear hl2 ho2 hz2
        go_wp2_with fail
        refine hK2.out _ _ hS5 (fun hS2 => ?_)
        clear hK2 K2 hS5 hS HLB HNB
        have HP4 : Hid (blk v2 W.heap.size [.bool F.e, .int .u32 (F.i : Int), .bool F.r, .int .i64 F.d, .slice fa fm fc] 25) := hS2
        clear hS2
        refine wpAnyH_done (by kernel_rfl) ?_ _
        have HPO : Hid (Calls Tryz.prog 120 #[.pointer (some ⟨G.P, 0, none⟩), .agg #[.int .i64 2, .int .i64 0, .int .i64 0, .bool F.e, .int .u32 (F.i : Int), .bool F.r, .int .i64 F.d, .slice fa fm fc]] v2 fun o w' => o = .returned (.tuple #[]) ∧ lh w0 G (postHo (fHo (H) ((H).ff ++ [F])) (evF 2 0 0 F)) f1 f3 hs nm D w' ∧ (∀ b, b ≠ G.P → b ≠ G.gq → b < v2.heap.size → w'.heap[b]? = v2.heap[b]?) ∧ v2.heap.size ≤ w'.heap.size) := HL4.out.post (evF 2 0 0 F) fa fm fc HFB.out.1 HFB.out.2.1
        go_wp2_with (first | (refine wpList_load_mid (P := Tryz.prog) rfl 25 _ rfl W.heap.size 0 rfl [.bool F.e, .int .u32 (F.i : Int), .bool F.r, .int .i64 F.d, .slice fa fm fc] _ HP4.out.load Tryz.underlying25 rfl sz93 ?_))
        refine HPO.out.mono ?_
        rintro o w7 ⟨rfl, hl7, _, _⟩
        have HL7 : Hid (lh w0 G (postHo (fHo (H) ((H).ff ++ [F])) (evF 2 0 0 F)) f1 f3 hs nm D w7) := hl7
        clear hl7 HPO
        go_wp2_with fail
        first | go_end0 | (simp only [Exit.inBlock, Exit.then]; refine bodyPost_ret (results_none rfl _ _ _) rfl ?_) | refine bodyPost_ret (results_none rfl _ _ _) rfl ?_
        exact ⟨rfl, _, by rw [HT.out]; exact HL7.out⟩
    · have hp' : passB H.fs F = false := by simpa using hp
      rw [hp']
      have HT : Hid (delHo H F = H) := by
        show _ = _
        unfold delHo
        rw [if_neg (by intro h; exact hp h.2)]
      go_wp2_with fail
      first | go_end0 | (simp only [Exit.inBlock, Exit.then]; refine bodyPost_ret (results_none rfl _ _ _) rfl ?_) | refine bodyPost_ret (results_none rfl _ _ _) rfl ?_
      exact ⟨rfl, f1, by rw [HT.out]; exact HL2.out⟩
  · have hv' : validB F.e F.i F.r F.d fm = false := by simpa using hv
    rw [hv']
    have HT : Hid (delHo H F = H) := by
      show _ = _
      unfold delHo
      rw [if_neg (by intro h; rw [← HFB.out.2.2] at h; exact hv h.1)]
    go_wp2_with fail
    first | go_end0 | (simp only [Exit.inBlock, Exit.then]; refine bodyPost_ret (results_none rfl _ _ _) rfl ?_) | refine bodyPost_ret (results_none rfl _ _ _) rfl ?_
    exact ⟨rfl, f1, by rw [HT.out]; exact HL1.out⟩
end Go.Proofs.YtaamahohdnbpiaaGreat
namespace Go.Proofs.YtaamahohdnbpiaaGreat
open Go.RowKit
set_option linter.unusedVariables false
set_option maxHeartbeats 1000000 in
theorem lit109 {w0 : World} {G : Lg} {H : Ho} {f1 f3 : Nat} {hs : Nat → Hd} {nm : Nat} {D : DataW Unit} {W : World} (h : lh w0 G H f1 f3 hs nm D W) (Bf : Nat) (F : R5) (fa : Option Addr) (fm fc : Nat) (yf : blk W Bf [.bool F.e, .int .u32 (F.i : Int), .bool F.r, .int .i64 F.d, .slice fa fm fc] 25) (hf : isBytes w0 fa fm fc F.l) (hfm : fm ≤ 1048576) (hc2 : H.c2 = 0 ∨ H.c2 = 1) :
    Calls Tryz.prog 109 #[.pointer (some ⟨G.P, 0, none⟩), .pointer (some ⟨Bf, 0, none⟩)] W fun o w' => o = .returned (.tuple #[]) ∧ ∃ f1', lh w0 G (delHo H F) f1' f3 hs nm D w' := by
  have HS : Hid (Calls Tryz.prog 110 #[.pointer (some ⟨G.P, 0, none⟩), frV F.e F.i F.r F.d fa fm fc] W fun o w' => o = .returned (.tuple #[]) ∧ ∃ f1', lh w0 G (delHo H F) f1' f3 hs nm D w') := deliver_any h F fa fm fc hf hfm hc2
  have HF : Hid (blk W Bf [.bool F.e, .int .u32 (F.i : Int), .bool F.r, .int .i64 F.d, .slice fa fm fc] 25) := yf
  clear h hf hfm hc2 yf
  go_enter Tryz.func109, Tryz.ntmps109
  go_wp2_with (first
    | (refine wpList_load_mid (P := Tryz.prog) rfl 25 _ rfl Bf 0 rfl [.bool F.e, .int .u32 (F.i : Int), .bool F.r, .int .i64 F.d, .slice fa fm fc] _ HF.out.load Tryz.underlying25 rfl sz93 ?_)
    | (go_at_call 110; refine HS.out.mono ?_; rintro o w5 ⟨rfl, f1', hq⟩; have HQ : Hid (lh w0 G (delHo H F) f1' f3 hs nm D w5) := hq; clear hq))
  first | go_end0 | (simp only [Exit.inBlock, Exit.then]; refine bodyPost_ret (results_none rfl _ _ _) rfl ?_) | refine bodyPost_ret (results_none rfl _ _ _) rfl ?_
  exact ⟨rfl, f1', HQ.out⟩
theorem open_deliver (w : World) (H : Ho) (s : Sl) (Bf : Nat) (F : R5) (fa : Option Addr) (fm fc : Nat) (h : isHo w H s) (hs : slSome s) (hok : okHo H) (hm : H.le 1048576) (yf : blk w Bf [.bool F.e, .int .u32 (F.i : Int), .bool F.r, .int .i64 F.d, .slice fa fm fc] 25) (hf : isBytes w fa fm fc F.l) (hfm : fm ≤ 1048576) :
    Calls Tryz.prog 61 #[.agg (hoL H s).toArray] w fun o w' => ∃ P, o = .returned (.pointer (some ⟨P, 0, none⟩)) ∧ Below w.heap.size w w' ∧ Calls Tryz.prog 109 #[.pointer (some ⟨P, 0, none⟩), .pointer (some ⟨Bf, 0, none⟩)] w' fun o w2 => o = .returned (.tuple #[]) ∧ Below w.heap.size w w2 ∧ Calls Tryz.prog 118 #[.pointer (some ⟨P, 0, none⟩)] w2 (toldQ w2 (delHo H F)) := by
  refine (open_lh w H s h hs hok hm).mono ?_
  rintro o w' ⟨G, hd, rfl, hl, hn⟩
  have hcf := of_decide_eq_true hok.cf
  refine ⟨G.P, rfl, hl.b, (lit109 hl Bf F fa fm fc (yf.below hl.b) hf hfm (by omega)).mono ?_⟩
  rintro o w2 ⟨rfl, f1', h2⟩
  exact ⟨rfl, h2.b, h2.told⟩
end Go.Proofs.YtaamahohdnbpiaaGreat
