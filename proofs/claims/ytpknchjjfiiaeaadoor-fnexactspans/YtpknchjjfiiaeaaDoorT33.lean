import Derived.Test.YtpknchjjfiiaeaaDoorT32
namespace Go.Proofs.YtpknchjjfiiaeaaDoor
open Go.RowKit
set_option linter.unusedVariables false
theorem wfS_len : ∀ (S : List (Nat × Nat × Nat)) (s p : Nat), wfS s p S → S.length ≤ (ex S).length
  | [], _, _, _ => by simp
  | (f, fr, c) :: S, s, p, h => by
    have ih := wfS_len S (s + c) f h.2.2.2
    have := h.2.1
    have e : (ex ((f, fr, c) :: S)).length = c + (ex S).length := by simp [ex]
    rw [e, List.length_cons]
    omega
theorem RS.cnt {S : List (Nat × Nat × Nat)} {j : Nat} {A : List (Nat × Nat × Nat)} {f fr c last : Nat} (h : RS S j (A ++ [(f, fr, c)]) last) : c ≤ j := by
  rcases h with ⟨_, h, _⟩ | ⟨A', f', fr', c', T, _, _, _, h, _⟩
  · simp at h
  · have := List.append_inj_right' h rfl
    simp at this
    omega
theorem RS.len {S : List (Nat × Nat × Nat)} {j : Nat} {out : List (Nat × Nat × Nat)} {last : Nat} (hw : wfS 0 0 S) (h : RS S j out last) : out.length ≤ (ex S).length := by
  have h1 := wfS_len S 0 0 hw
  rcases h with ⟨_, rfl, _⟩ | ⟨A, f, fr, c, T, rfl, _, _, rfl, _⟩
  · simp
  · simp at h1 ⊢
    omega
set_option maxHeartbeats 8000000 in
set_option maxRecDepth 20000 in
/-- spec.Spans -/
theorem specSpans_any (w : World) (e : Bool) (i : Nat) (r : Bool) (d : Int) (a : Option Addr) (n cap : Nat) (l : List Nat) (h : J.isBytes w a n cap l) :
    Calls Tryd.prog 14 #[J.frV e i r d a n cap] w fun y w' => ∃ v, y = .returned v ∧ ownsS w' w.heap.size v (spZ e i r d n l) ∧ Below w.heap.size w w' := by
  have HLEN := hidYY h.len
  have HSM := hidYY h.small
  have HE := hidYY (fun W (hW : Below w.heap.size w W) => J.specEncode_any W e i r d a n cap l (h.below hW))
  -- what the model goes by
  obtain ⟨IL, S, nx, du, hIL, hS, hEn, HJ, HF⟩ : ∃ (IL : List Nat) (S : List (Nat × Nat × Nat)) (nx : Nat → Nat) (du : Nat → Bool), IL.length ≤ 300 ∧ S = spZ e i r d n l ∧ J.encZ e i r d n l = strN IL ∧ Hid (∀ j, j < IL.length → ∀ W, Calls Tryd.prog 31 #[.string ((strN IL).extract 0 j)] W fun y w' => ∃ cd ck, y = .returned (.agg #[.int .i64 cd, .int .i64 ((nx j : Nat) : Int), .bool (du j), .bool ck]) ∧ Below W.heap.size W w') ∧ Hid (wfS 0 0 S ∧ (ex S).length = IL.length ∧ ∀ j, j < IL.length → (du j = false → (ex S)[j]? = some (nx j)) ∧ (du j = true → 0 < j ∧ (ex S)[j]? = (ex S)[j - 1]?)) := by
    by_cases hv : J.validB e i r d n = true
    · obtain ⟨f1, f2, f3, f4, f5⟩ := valid_facts hv HLEN.out
      refine ⟨imgL e i r d.toNat l, imgS e i r d.toNat l, fun j => J.fieldL (J.sw (imgL e i r d.toNat l) j).2.1, fun j => (J.sw (imgL e i r d.toNat l) j).2.2, imgL_len _ _ _ _ _ f5, (if_pos hv).symm, ?_, fun j hj W => judge_at e i r d.toNat l f2 f3 HSM.out j hj W, (imgS_wf e i r d.toNat l f3 HSM.out).1, (imgS_wf e i r d.toNat l f3 HSM.out).2, fun j hj => img_fld e i r d.toNat l f2 f3 HSM.out j hj⟩
      unfold J.encZ; rw [if_pos hv]; rfl
    · refine ⟨[], [], fun _ => 0, fun _ => false, by simp, (if_neg hv).symm, ?_, fun j hj => absurd hj (Nat.not_lt_zero _), trivial, rfl, fun j hj => absurd hj (Nat.not_lt_zero _)⟩
      unfold J.encZ; rw [if_neg hv]; rfl
  rw [← hS]
  rw [hEn] at HE
  have hsz : (strN IL).size = IL.length := by simp [strN, ByteArray.size]
  have HSZ := hidYY hsz
  obtain ⟨w2, hw2⟩ : ∃ w2, w2 = (w.alloc (.cells [.bool e, .int .u32 (i : Int), .bool r, .int .i64 d, .slice a n cap].toArray 31)).alloc (.cells #[] 56) := ⟨_, rfl⟩
  have H0 : Hid (Kd.blk w2 w.heap.size [.bool e, .int .u32 (i : Int), .bool r, .int .i64 d, .slice a n cap] 31 ∧ Below w.heap.size w w2 ∧ ownsS w2 (w.heap.size + 1) (.slice (some ⟨w.heap.size + 1, 0, none⟩) 0 0) []) := by
    subst hw2
    refine ⟨(Kd.blk.new w _ 31).alloc _, ((Below.refl _ _).alloc (Nat.le_refl _) _).alloc (by simp) _, ?_⟩
    have := World.ownsRow_made (w.alloc (.cells [.bool e, .int .u32 (i : Int), .bool r, .int .i64 d, .slice a n cap].toArray 31)) #[] 0 (base := w.heap.size + 1) (e := 56) (size := 3) (by simp) (by decide) rfl
    simpa [ownsS, spV] using this
  clear h hEn hS HLEN HSM hsz
  go_enter Tryd.func14, Tryd.ntmps14
  go_upto_region 2 with fail
  change Code.wp _ _ _ _ ((w.alloc (.cells [.bool e, .int .u32 (i : Int), .bool r, .int .i64 d, .slice a n cap].toArray 31)).alloc (.cells #[] 56))
  rw [← hw2]
  clear hw2
  go_wp2_with (first
    | (refine wpList_load_mid (P := Tryd.prog) rfl 31 _ rfl w.heap.size 0 rfl [.bool e, .int .u32 (i : Int), .bool r, .int .i64 d, .slice a n cap] _ H0.out.1.load Tryd.underlying31 rfl sz31F ?_)
    | (go_at_call 22; refine (HE.out _ H0.out.2.1).mono ?_; rintro y w3 ⟨rfl, b3⟩; have H3 : Hid (Below w.heap.size w w3 ∧ ownsS w3 (w.heap.size + 1) (.slice (some ⟨w.heap.size + 1, 0, none⟩) 0 0) [] ∧ w.heap.size + 1 ≤ w3.heap.size) := ⟨H0.out.2.1.trans (b3.mono H0.out.2.1.size), H0.out.2.2.below b3, by have := (H0.out.1.below b3).lt; omega⟩; clear b3))
  clear H0 HE
  go_loopw [3, 5, 6] (fun v la iv wr => ∃ (j : Nat) (out : List (Nat × Nat × Nat)) (last : Nat), iv = .int .i64 (j : Int) ∧ la = .int .i64 (last : Int) ∧ j ≤ IL.length ∧ RS S j out last ∧ ownsS wr (w.heap.size + 1) v out ∧ Below w.heap.size w wr ∧ w.heap.size + 1 ≤ wr.heap.size) (fun _ _ iv _ => ((IL.length : Int) - intOf iv).toNat)
  case atStart => exact ⟨0, [], 0, rfl, rfl, by omega, .inl ⟨rfl, rfl, rfl⟩, H3.out.2.1, H3.out.1, H3.out.2.2⟩
  case round =>
    obtain ⟨j, out, last, rfl, rfl, hj, hR, ho, hb, hz⟩ := hrel
    have HR := hidYY hR
    have HO := hidYY (And.intro ho (And.intro hb hz))
    clear hR ho hb hz H3
    by_cases hjl : j = IL.length
    · have hdone : out = S := by
        have := HR.out
        rw [hjl, ← HF.out.2.1] at this
        exact this.done HF.out.1
      subst hdone
      have hlt : ¬ j < (strN IL).size := by rw [HSZ.out]; omega
      clear hjl hj
      go_wp2_with fail
      go_ret
      exact ⟨_, rfl, HO.out.1.lower (by omega), HO.out.2.1⟩
    · have hjlt : j < IL.length := by omega
      have hlt : j < (strN IL).size := by rw [HSZ.out]; omega
      have hj300 : j ≤ 300 := by omega
      have HJj := hidYY (HJ.out j hjlt)
      obtain ⟨F, hFx⟩ : ∃ F, (ex S)[j]? = some F := ⟨_, List.getElem?_eq_getElem (by rw [HF.out.2.1]; exact hjlt)⟩
      have hst := HR.out.step HF.out.1 hFx
      have hF3 := HF.out.2.2 j hjlt
      have hlast : du j = true → F = last := by
        intro e
        obtain ⟨q1, q2⟩ := hF3.2 e
        have := HR.out.prev HF.out.1 q1
        rw [← q2, hFx] at this
        exact Option.some.inj this
      have hnx : du j = false → nx j = F := by
        intro e
        have := hF3.1 e
        rw [hFx] at this
        exact (Option.some.inj this).symm
      have HST := hidYY (And.intro hst (And.intro hlast hnx))
      have hOl : out.length ≤ 300 := by
        exact Nat.le_trans (RS.len HF.out.1 HR.out) (by rw [HF.out.2.1]; exact hIL)
      have HOL := hidYY hOl
      clear hjl hj hst hF3 hlast hnx hFx HJ HF HSZ HR hOl
      generalize nx j = N at *
      generalize du j = U at *
      go_upto_region 8 with (first | (go_at_call 31; refine (HJj.out _).mono ?_; rintro y w4 ⟨cd, ck, rfl, b4⟩))
      have H5 : Hid (Kd.blk (w4.alloc (.cells [.int .i64 cd, .int .i64 (N : Int), .bool U, .bool ck].toArray 53)) w4.heap.size [.int .i64 cd, .int .i64 (N : Int), .bool U, .bool ck] 53 ∧ ownsS (w4.alloc (.cells [.int .i64 cd, .int .i64 (N : Int), .bool U, .bool ck].toArray 53)) (w.heap.size + 1) u3 out ∧ Below w.heap.size w (w4.alloc (.cells [.int .i64 cd, .int .i64 (N : Int), .bool U, .bool ck].toArray 53)) ∧ w.heap.size + 1 ≤ (w4.alloc (.cells [.int .i64 cd, .int .i64 (N : Int), .bool U, .bool ck].toArray 53)).heap.size) := by
        have hA : Below w4.heap.size w4 (w4.alloc (.cells [.int .i64 cd, .int .i64 (N : Int), .bool U, .bool ck].toArray 53)) := (Below.refl _ _).alloc (Nat.le_refl _) _
        have hz4 := b4.size
        have hz5 := hA.size
        exact ⟨Kd.blk.new w4 _ 53, (HO.out.1.below b4).below hA, (HO.out.2.1.trans (b4.mono HO.out.2.1.size)).trans (hA.mono (Nat.le_trans HO.out.2.1.size b4.size)), by have := HO.out.2.2; omega⟩
      change Code.wp _ _ _ _ (w4.alloc (.cells [.int .i64 cd, .int .i64 (N : Int), .bool U, .bool ck].toArray 53))
      generalize w4.heap.size = bv at *
      generalize w4.alloc (.cells [.int .i64 cd, .int .i64 (N : Int), .bool U, .bool ck].toArray 53) = w5 at *
      clear HO HJj b4
      have v1 := H5.out.1.cell 1 _ rfl
      have v2 := H5.out.1.cell 2 _ rfl
      by_cases hsame : U = true ∨ N = last
      · have hFl : F = last := by
          cases U
          · have := HST.out.2.2 rfl
            rcases hsame with e | e
            · cases e
            · omega
          · exact HST.out.2.1 rfl
        obtain ⟨A, f, fr, c, hout, hRS⟩ := HST.out.1.1 hFl
        subst hout
        have hAl : A.length ≤ 301 := by have := HOL.out; simp at this; omega
        have hcl : c ≤ 1000 := by have := hRS.cnt; omega
        have oX := H5.out.2.1
        have bX := H5.out.2.2.1
        have zX := H5.out.2.2.2
        have hne : ((last : Int) != (last : Int)) = false := by simp
        have hnl : U = false → N = last := fun e => by rcases hsame with e' | e'; (rw [e] at e'; cases e'); exact e'
        have HNL := hidYY hnl
        clear hnl hsame HST H5 HOL hFl
        cases U
        · obtain rfl : N = last := HNL.out rfl
          clear HNL
          go_upto_region 14 with fail
          clear v1 v2
          obtain ⟨g, kk, rfl, _⟩ := oX.open (by simp)
          have hq : (A ++ [(f, fr, c)]).length = A.length + 1 := by simp
          rw [hq] at oX ⊢
          have hA300 : A.length ≤ 301 := hAl
          generalize hAq : A.length = q at *
          obtain ⟨k0, k1, k2⟩ := ownsS.stored hAq.symm oX
          have hgB := (World.ownsRow.lt oX g rfl).1
          have HKK := hidYY (And.intro k2 (And.intro hRS (And.intro bX (And.intro zX hgB))))
          clear oX k2 hRS bX zX hAq hq hAl
          have hc9 : (c : Int) ≤ 100000 := by have := hcl; omega
          clear hcl
          go_wp2_with fail
          go_roundw
          case rel => exact ⟨j + 1, A ++ [(f, fr, c + 1)], N, by go_num, rfl, by omega, HKK.out.2.1, HKK.out.1, HKK.out.2.2.1.setCell (p := ⟨g, q * 3 + 2, none⟩) (by show w.heap.size ≤ g; have := HKK.out.2.2.2.2; omega) _, by have := HKK.out.2.2.2.1; simpa using this⟩
          case measure => simp [intOf]; omega
        · clear HNL
          go_upto_region 14 with fail
          clear v1 v2
          obtain ⟨g, kk, rfl, _⟩ := oX.open (by simp)
          have hq : (A ++ [(f, fr, c)]).length = A.length + 1 := by simp
          rw [hq] at oX ⊢
          have hA300 : A.length ≤ 301 := hAl
          generalize hAq : A.length = q at *
          obtain ⟨k0, k1, k2⟩ := ownsS.stored hAq.symm oX
          have hgB := (World.ownsRow.lt oX g rfl).1
          have HKK := hidYY (And.intro k2 (And.intro hRS (And.intro bX (And.intro zX hgB))))
          clear oX k2 hRS bX zX hAq hq hAl
          have hc9 : (c : Int) ≤ 100000 := by have := hcl; omega
          clear hcl
          go_wp2_with fail
          go_roundw
          case rel => exact ⟨j + 1, A ++ [(f, fr, c + 1)], last, by go_num, rfl, by omega, HKK.out.2.1, HKK.out.1, HKK.out.2.2.1.setCell (p := ⟨g, q * 3 + 2, none⟩) (by show w.heap.size ≤ g; have := HKK.out.2.2.2.2; omega) _, by have := HKK.out.2.2.2.1; simpa using this⟩
          case measure => simp [intOf]; omega
      · have hU : U = false := by cases U; rfl; exact absurd (Or.inl rfl) hsame
        subst hU
        have hNl : N ≠ last := fun e => hsame (.inr e)
        obtain rfl : N = F := HST.out.2.2 rfl
        have hRS := HST.out.1.2 hNl
        have hne : ((N : Int) != (last : Int)) = true := by simp; omega
        have hAl : out.length ≤ 301 := by have := HOL.out; omega
        have hl6 : out.length ≤ 1000000 := by omega
        clear hsame HST HOL hNl
        go_upto_region 14 with (first | (at_builtin; refine app_span w5 w5 rfl (.tmp 30) (.tmp 34) rfl (w.heap.size + 1) _ out (N, j, 0) _ _ _ rfl rfl rfl rfl H5.out.2.1 rfl hl6 H5.out.2.2.2 (Below.refl _ _) ?_; intro v6 w6 q1 q2 q3 q4))
        have bX : Below w.heap.size w w6 := H5.out.2.2.1.trans (q2.mono (by omega))
        have oX := q1
        have zX := q4
        clear q1 q2 q3 q4 v1 v2 H5 hl6
        obtain ⟨g, kk, rfl, _⟩ := oX.open (by simp)
        have hq : (out ++ [(N, j, 0)]).length = out.length + 1 := by simp
        rw [hq] at oX ⊢
        generalize hAq : out.length = q at *
        obtain ⟨k0, k1, k2⟩ := ownsS.stored hAq.symm oX
        have hgB := (World.ownsRow.lt oX g rfl).1
        have k0 : w6.cell? ⟨g, q * 3 + 2, none⟩ = some (.int .i64 0) := k0
        have HKK := hidYY (And.intro k2 (And.intro hRS (And.intro bX (And.intro zX hgB))))
        clear oX k2 hRS bX zX hAq hq
        go_wp2_with fail
        go_roundw
        case rel => exact ⟨j + 1, out ++ [(N, j, 1)], N, by go_num, rfl, by omega, HKK.out.2.1, HKK.out.1, HKK.out.2.2.1.setCell (p := ⟨g, q * 3 + 2, none⟩) (by show w.heap.size ≤ g; have := HKK.out.2.2.2.2; omega) _, by have := HKK.out.2.2.2.1; simpa using this⟩
        case measure => simp [intOf]; omega
end Go.Proofs.YtpknchjjfiiaeaaDoor
