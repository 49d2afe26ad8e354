import Derived.Test.YtpknchjjfiiaeaaGreatDoorV28
import Derived.Deep.CutBlock
namespace Go.Proofs.YtpknchjjfiiaeaaGreatDoor
open Go.RowKit
set_option linter.unusedVariables false
theorem valN_lt {f : Nat} {e : Bool} {i : Nat} {r : Bool} {d : Nat} {l : List Nat} {sum : Nat} (hi : i < 4294967296) (hd : d ≤ 15) (hs : sum < 32768) (hl : l.length ≤ 8) (hb : ∀ x ∈ l, x < 256) : valN f e i r d l sum < 18446744073709551616 := by
  have h9 : dataN l < 18446744073709551616 := Nat.lt_of_lt_of_le (dataN_lt l hb) (Nat.le_trans (Nat.pow_le_pow_right (by decide) hl) (by decide))
  have hq : i / 2 ^ 18 ≤ i := Nat.div_le_self _ _
  have hb1 : ∀ b : Bool, b.toNat < 2 := fun b => by cases b <;> decide
  have := hb1 (r || e)
  have := hb1 e
  have := hb1 r
  unfold valN
  repeat' split
  all_goals omega
theorem sizeN_le {f : Nat} {e r : Bool} {d : Nat} : sizeN f e r d ≤ 64 := by
  unfold sizeN dlN
  repeat' split
  all_goals omega
theorem nextN_le {f t : Nat} {e r : Bool} {d : Nat} (h : f < t) (ht : t = 10 ∨ t = 11 ∨ t = 15) (h1 : 11 ≤ f ∨ f ≤ 10) : f < nextN f e r d ∧ nextN f e r d ≤ t := by
  unfold nextN
  repeat' split
  all_goals omega
/-- what stands in the loop over the fields -/
structure fI (w0 w : World) (b : Nat) (o : List Nat) (st : Bool) (rr : Nat × Nat) (X : Obj) (D : List (Nat × List Nat)) (v : Value) (W : World) : Prop where
  s : bwS w0 b (feedL st o (lets D)) st (runOf st (feedL st o (lets D)) rr) W
  ow : ownsS W (w.heap.size + 1) v (spansL st o D)
  x : W.heap[w.heap.size]? = some X
  k : Lib.OthersKept 64 (some b) w W
  bel : Below b w W
  z : b < w.heap.size
theorem fI.below {w0 w : World} {b : Nat} {o : List Nat} {st : Bool} {rr : Nat × Nat} {X : Obj} {D : List (Nat × List Nat)} {v : Value} {W W' : World} (h : fI w0 w b o st rr X D v W) (hb : Below W.heap.size W W') : fI w0 w b o st rr X D v W' := by
  have hz : w.heap.size < W.heap.size := by have := h.x; rw [Array.getElem?_eq_some_iff] at this; exact this.1
  refine ⟨h.s.below hb, h.ow.below hb, (hb.block _ hz).trans h.x, ?_, h.bel.trans (hb.mono (by have := h.z; omega)), h.z⟩
  intro k ob h1 h2 h3
  have h4 := h.k k ob h1 h2 h3
  have hk : k < W.heap.size := by rw [Array.getElem?_eq_some_iff] at h4; exact h4.1
  exact (hb.block k hk).trans h4
theorem fI.size {w0 w : World} {b : Nat} {o : List Nat} {st : Bool} {rr : Nat × Nat} {X : Obj} {D : List (Nat × List Nat)} {v : Value} {W : World} (h : fI w0 w b o st rr X D v W) : w.heap.size < W.heap.size := by have := h.x; rw [Array.getElem?_eq_some_iff] at this; exact this.1
theorem feedL_ge (st : Bool) (l : List Nat) : ∀ o, o.length ≤ (feedL st o l).length := by
  induction l with
  | nil => intro o; exact Nat.le_refl _
  | cons a l ih =>
    intro o
    refine Nat.le_trans ?_ (ih (feed st o a))
    cases st
    · simp [feed]
    · show o.length ≤ (J.M.stStep o a).length
      unfold J.M.stStep
      split <;> simp
/-- behind the bits of a field, ahead of its span -/
structure gI (w0 w : World) (b : Nat) (o : List Nat) (st : Bool) (rr : Nat × Nat) (X : Obj) (o2 : List Nat) (D : List (Nat × List Nat)) (v : Value) (g : Nat) (R : List Value) (W : World) : Prop where
  s : bwS w0 b o2 st (runOf st o2 rr) W
  ow : ownsS W (w.heap.size + 1) v (spansL st o D)
  x : W.heap[w.heap.size]? = some X
  q : Kd.blk W g R 128
  k : Lib.OthersKept 64 (some b) w W
  bel : Below b w W
  z : b < w.heap.size
theorem sz84 : (Tryz.prog.info? 128).map (·.size) = some 3 := by kernel_rfl
theorem one3 {x y z : Int} : (#[.int .i64 x, .int .i64 y, .int .i64 z] : Array Value).all (·.oneCell') = true := by simp [Value.oneCell']
theorem sz31F : (Tryz.prog.info? 33).map (·.size) = some 5 := by kernel_rfl
theorem fI.box {w0 w : World} {b : Nat} {o : List Nat} {st : Bool} {rr : Nat × Nat} {e : Bool} {i : Nat} {r : Bool} {d : Nat} {a : Option Addr} {n cap : Nat} {D : List (Nat × List Nat)} {v : Value} {W : World} (h : fI w0 w b o st rr (J.frC e i r (d : Int) a n cap 33) D v W) : W.rangeAt w.heap.size 0 [.bool e, .int .u32 (i : Int), .bool r, .int .i64 (d : Int), .slice a n cap] := by
  obtain ⟨c0, c1, c2, c3, c4⟩ := J.frC_cells h.x
  intro j u hj
  match j, hj with
  | 0, hj => simp at hj; subst hj; exact c0
  | 1, hj => simp at hj; subst hj; exact c1
  | 2, hj => simp at hj; subst hj; exact c2
  | 3, hj => simp at hj; subst hj; exact c3
  | 4, hj => simp at hj; subst hj; exact c4
theorem fI.len {w0 w : World} {b : Nat} {o : List Nat} {st : Bool} {rr : Nat × Nat} {X : Obj} {D : List (Nat × List Nat)} {v : Value} {W : World} (h : fI w0 w b o st rr X D v W) : W.cell? ⟨b, 0, none⟩ = some (.int .i64 ((feedL st o (lets D)).length : Int)) := by
  obtain ⟨⟨vw, hbw, _⟩, _⟩ := h.s
  exact (bw5 hbw).1.1
theorem gI.box {w0 w : World} {b : Nat} {o : List Nat} {st : Bool} {rr : Nat × Nat} {e : Bool} {i : Nat} {r : Bool} {d : Nat} {a : Option Addr} {n cap : Nat} {o2 : List Nat} {D : List (Nat × List Nat)} {v : Value} {g : Nat} {R : List Value} {W : World} (h : gI w0 w b o st rr (J.frC e i r (d : Int) a n cap 33) o2 D v g R W) : W.rangeAt w.heap.size 0 [.bool e, .int .u32 (i : Int), .bool r, .int .i64 (d : Int), .slice a n cap] := by
  obtain ⟨c0, c1, c2, c3, c4⟩ := J.frC_cells h.x
  intro j u hj
  match j, hj with
  | 0, hj => simp at hj; subst hj; exact c0
  | 1, hj => simp at hj; subst hj; exact c1
  | 2, hj => simp at hj; subst hj; exact c2
  | 3, hj => simp at hj; subst hj; exact c3
  | 4, hj => simp at hj; subst hj; exact c4
theorem gI.len {w0 w : World} {b : Nat} {o : List Nat} {st : Bool} {rr : Nat × Nat} {X : Obj} {o2 : List Nat} {D : List (Nat × List Nat)} {v : Value} {g : Nat} {R : List Value} {W : World} (h : gI w0 w b o st rr X o2 D v g R W) : W.cell? ⟨b, 0, none⟩ = some (.int .i64 (o2.length : Int)) := by
  obtain ⟨⟨vw, hbw, _⟩, _⟩ := h.s
  exact (bw5 hbw).1.1
theorem layF_len (nx : Nat → Nat) (bt : Nat → List Nat) : ∀ k f t, (layF nx bt k f t).length ≤ k
  | 0, _, _ => Nat.le_refl _
  | k + 1, f, t => by
    unfold layF
    split
    · simp
    · simp only [List.length_cons]; have := layF_len nx bt k (nx f) t; omega
set_option maxHeartbeats 8000000 in
set_option maxRecDepth 20000 in
/-- bitWriter.fields -/
theorem fields_any (w0 w : World) (b : Nat) (o : List Nat) (st : Bool) (rr : Nat × Nat) (h : bwS w0 b o st (runOf st o rr) w) (hg : good st o) (e : Bool) (i : Nat) (r : Bool) (d : Nat) (a : Option Addr) (n cap : Nat) (l : List Nat) (sum fr t : Nat)
    (hB : ∀ W, Below b w W → J.isBytes W a n cap l ∧ W.rangeAt 0 0 Kd.tabL ∧ 0 < W.heap.size) (hi : i < 4294967296) (hd : d ≤ 15) (hn : n ≤ 8) (hs : sum < 32768)
    (h1 : 1 ≤ fr) (hft : fr < t) (ht : t = 10 ∨ t = 11 ∨ t = 15) (hT : o.length + 2 * (lets (lay e i r d l sum fr t)).length ≤ 3000) (hL : ∀ x ∈ lets (lay e i r d l sum fr t), J.M.isL x) :
    Calls Tryz.prog 66 #[.pointer (some ⟨b, 0, none⟩), J.frV e i r (d : Int) a n cap, .int .i64 (sum : Int), .int .i64 (fr : Int), .int .i64 (t : Int)] w fun o' w' => ∃ v, o' = .returned v ∧ bwS w0 b (feedL st o (lets (lay e i r d l sum fr t))) st (runOf st (feedL st o (lets (lay e i r d l sum fr t))) rr) w' ∧ ownsS w' (w.heap.size + 1) v (spansL st o (lay e i r d l sum fr t)) ∧ Lib.OthersKept 64 (some b) w w' ∧ Below b w w' := by
  have hz : b < w.heap.size := by obtain ⟨⟨v, hh, _⟩, _⟩ := h; exact (bw5 hh).2.2
  have hll : l.length ≤ 8 := by have := (hB w (Below.refl _ _)).1.len; omega
  have hsm := (hB w (Below.refl _ _)).1.small
  have HVL : Hid (∀ f, valN f e i r d l sum < 18446744073709551616) := fun f => valN_lt hi hd hs hll hsm
  have H0 : Hid (fI w0 w b o st rr (J.frC e i r (d : Int) a n cap 33) [] (.slice none 0 0) (w.alloc (J.frC e i r (d : Int) a n cap 33))) := by
    refine ⟨?_, ⟨by simp [spansL, spV], .inl ⟨rfl, rfl⟩⟩, by show (w.heap.push _)[w.heap.size]? = _; simp, (Lib.OthersKept.refl _ _ _).alloc _, (Below.refl _ _).alloc (Nat.le_of_lt hz) _, hz⟩
    exact h.below ((Below.refl _ _).alloc (Nat.le_refl _) _)
  have HB := hidYY hB
  have HG := hidYY hg
  have HT := hidYY hT
  have HL := hidYY hL
  have HX : Hid (∀ f : Nat, 1 ≤ f → f ≤ 14 → ∀ X, Below b w X → Calls Tryz.prog 80 #[.int .i64 (f : Int), J.frV e i r (d : Int) a n cap] X fun o w' => o = .returned (.agg #[.int .i64 (f : Int), .int .i64 (sizeN f e r d : Int), .int .i64 (nextN f e r d : Int)]) ∧ Below X.heap.size X w') := fun f h1 h2 X hX => rowN X (hB X hX).2.1 (hB X hX).2.2 f h1 h2 e i r d hd a n cap
  have HV : Hid (∀ f : Nat, 1 ≤ f → f ≤ 14 → ∀ X, Below b w X → Calls Tryz.prog 82 #[.int .i64 (f : Int), J.frV e i r (d : Int) a n cap, .int .i64 (sum : Int)] X fun o w' => o = .returned (.int .u64 (valN f e i r d l sum : Int)) ∧ Below X.heap.size X w') := fun f h1 h2 X hX => fvN X f h1 h2 e i r d a n cap l sum (hB X hX).1 hi hd hn hs
  have HA := hidYY (And.intro h1 (And.intro hft ht))
  clear h hg hB hT hL hll hsm h1 hft ht
  go_enter Tryz.func66, Tryz.ntmps66
  go_wp2_with fail
  go_loopw [11, 12] (fun v fv wr => ∃ (D : List (Nat × List Nat)) (k f : Nat), fv = .int .i64 (f : Int) ∧ (D ++ layF (fun f => nextN f e r d) (bitsN e i r d l sum) k f t = lay e i r d l sum fr t ∧ t ≤ f + k ∧ 1 ≤ f ∧ f ≤ t) ∧ fI w0 w b o st rr (J.frC e i r (d : Int) a n cap 33) D v wr) (fun _ i _ => ((t : Int) - intOf i).toNat)
  case atStart => exact ⟨[], 16, fr, rfl, ⟨rfl, by have := HA.out; omega, HA.out.1, by have := HA.out; omega⟩, H0.out⟩
  case round =>
    obtain ⟨D, k, f, rfl, hD, hF⟩ := hrel
    have HF := hidYY hF
    have HD := hidYY hD
    clear hF hD H0
    by_cases hft : f = t
    · subst hft
      have hDl : D = lay e i r d l sum fr f := by
        have e0 : layF (fun f => nextN f e r d) (bitsN e i r d l sum) k f f = [] := by cases k <;> simp [layF]
        have := HD.out.1
        rw [e0, List.append_nil] at this
        exact this
      subst hDl
      have hb0 : ((f : Int) != (f : Int)) = false := by simp
      go_wp2_with fail
      go_ret
      exact ⟨_, rfl, HF.out.s, HF.out.ow, HF.out.k, HF.out.bel⟩
    · obtain ⟨k, rfl⟩ : ∃ k', k = k' + 1 := ⟨k - 1, by have := HD.out; omega⟩
      have hflt : f < t := by have := HD.out; omega
      have hf1 : 1 ≤ f := HD.out.2.2.1
      have ht15 : t ≤ 15 := by have := HA.out; omega
      have hf14 : f ≤ 14 := by omega
      have hnx := nextN_le (e := e) (r := r) (d := d) hflt HA.out.2.2 (by omega)
      have HE : Hid (D ++ [(f, bitsN e i r d l sum f)] ++ layF (fun f => nextN f e r d) (bitsN e i r d l sum) k (nextN f e r d) t = lay e i r d l sum fr t) := by
        show _ = _
        have := HD.out.1
        rw [layF, if_neg hft] at this
        rw [← this]; simp
      have hbn : ((f : Int) != (t : Int)) = true := by simp; omega
      obtain ⟨c0, c1, c2, c3, c4⟩ := J.frC_cells HF.out.x
      obtain ⟨⟨vw, hbw, _⟩, _⟩ := HF.out.s
      obtain ⟨⟨d0, _⟩, _, hbz⟩ := bw5 hbw
      have hwz := HF.out.size
      clear hbw
      go_upto_region 4 with fail
      go_cut [13, 14] (fun s13 s14 wx => ∃ g, s13 = .pointer (some ⟨g, 0, none⟩) ∧ s14 = .int .i64 ((feedL st o (lets D)).length : Int) ∧ Kd.blk wx g [.int .i64 (f : Int), .int .i64 (sizeN f e r d : Int), .int .i64 (nextN f e r d : Int)] 128 ∧ wr.heap.size ≤ g ∧ Below wr.heap.size wr wx)
      case first =>
        have HXf : Hid (∀ X, Below wr.heap.size wr X → Calls Tryz.prog 80 #[.int .i64 (f : Int), .agg [.bool e, .int .u32 (i : Int), .bool r, .int .i64 (d : Int), .slice a n cap].toArray] X fun y w' => y = .returned (.agg [.int .i64 (f : Int), .int .i64 (sizeN f e r d : Int), .int .i64 (nextN f e r d : Int)].toArray) ∧ Below X.heap.size X w') := fun X hX => HX.out f hf1 hf14 X (HF.out.below hX).bel
        clear HX HV HB HVL HT HL d0 c0 c1 c2 c3 c4
        refine wp_region_held (S := fun X => Below wr.heap.size wr X) (by kernel_rfl) ?_
        have hS : Below wr.heap.size wr wr.drew := (Below.refl _ _).drew
        change wpAnyH Tryz.prog _ _ _ _ _ _ _ wr.drew
        generalize wr.drew = v0 at *
        refine wpAnyH_take (i := 0) (v := .int .i64 (f : Int)) rfl (by kernel_rfl) (by kernel_rfl) (by kernel_rfl) (fun _ _ _ h => h) (Or.inl ⟨by rfl, ?_⟩) hS ?_
        · intro W hSw
          clear hS
          go_simp
        simp only [Act.put, List.setIfInBounds_toArray, List.set_cons_zero, List.set_cons_succ, List.getElem_toArray, List.getElem_cons_zero]
        refine wpAnyH_take (i := 1) (v := .agg [.bool e, .int .u32 (i : Int), .bool r, .int .i64 (d : Int), .slice a n cap].toArray) rfl (by kernel_rfl) (by kernel_rfl) (by kernel_rfl) (fun _ _ _ h => h) (yieldsIf_load_mid (by rfl) 33 _ rfl w.heap.size 0 rfl [.bool e, .int .u32 (i : Int), .bool r, .int .i64 (d : Int), .slice a n cap] _ (fun X h => fI.box (HF.out.below h)) Tryz.underlying33 rfl sz31F) hS ?_
        simp only [Act.put, List.setIfInBounds_toArray, List.set_cons_zero, List.set_cons_succ, List.getElem_toArray, List.getElem_cons_zero, List.getElem_cons_succ]
        refine wpAnyH_take (i := 3) (v := .pointer (some ⟨b, 0, none⟩)) rfl (by kernel_rfl) (by kernel_rfl) (by kernel_rfl) (fun _ _ _ h => h) (Or.inl ⟨by rfl, ?_⟩) hS ?_
        · intro W hSw
          clear hS
          go_simp
        simp only [Act.put, List.setIfInBounds_toArray, List.set_cons_zero, List.set_cons_succ, List.getElem_toArray, List.getElem_cons_zero, List.getElem_cons_succ]
        refine wpAnyH_take (i := 4) (v := .pointer (some ⟨b, 0, none⟩)) rfl (by kernel_rfl) (by kernel_rfl) (by kernel_rfl) (fun _ _ _ h => h) (Or.inl ⟨by rfl, ?_⟩) hS ?_
        · intro W hSw
          clear hS
          go_simp
        simp only [Act.put, List.setIfInBounds_toArray, List.set_cons_zero, List.set_cons_succ, List.getElem_toArray, List.getElem_cons_zero, List.getElem_cons_succ]
        refine wpAnyH_take (i := 5) (v := .pointer (some ⟨b, 0, none⟩)) rfl (by kernel_rfl) (by kernel_rfl) (by kernel_rfl) (fun _ _ _ h => h) (Or.inl ⟨by rfl, ?_⟩) hS ?_
        · intro W hSw
          clear hS
          go_simp
        simp only [Act.put, List.setIfInBounds_toArray, List.set_cons_zero, List.set_cons_succ, List.getElem_toArray, List.getElem_cons_zero, List.getElem_cons_succ]
        refine wpAnyH_take (i := 6) (v := .int .i64 ((feedL st o (lets D)).length : Int)) rfl (by kernel_rfl) (by kernel_rfl) (by kernel_rfl) (fun _ _ _ h => h) (Or.inl ⟨by rfl, ?_⟩) hS ?_
        · intro W hSw
          clear hS
          have q0 := (HF.out.below hSw).len
          clear hSw
          go_simp
        simp only [Act.put, List.setIfInBounds_toArray, List.set_cons_zero, List.set_cons_succ, List.getElem_toArray, List.getElem_cons_zero, List.getElem_cons_succ]
        refine wpAnyH_all (rs := [2, 7]) (by kernel_rfl) (by simp) ?_
        refine AllReadyH.cons rfl (fun K2 hK2 => ?_) (AllReadyH.cons rfl (fun K2 hK2 => ?_) AllReadyH.nil)
        · go_simp
          refine (HXf.out _ hS).mono ?_
          rintro y v1 ⟨rfl, b1⟩
          have hS1 := hS.trans (b1.mono hS.size)
          go_wp2_with fail
          refine hK2.out _ _ hS1 (fun _ => ?_)
          clear hS hK2 K2 b1
          have hS := hS1
          clear hS1
          refine wpAnyH_all (rs := [7]) (by kernel_rfl) (by simp) ?_
          refine AllReadyH.cons rfl (fun K2 hK2 => ?_) AllReadyH.nil
          go_simp
          have hgg := hS.size
          have hq : Kd.blk (v1.alloc (.cells [.int .i64 0, .int .i64 0, .int .i64 0].toArray 128)) v1.heap.size ([] ++ [.int .i64 0, .int .i64 0, .int .i64 0] ++ []) 128 := Kd.blk.new v1 _ 128
          have hS1 := hS.alloc hgg (.cells [.int .i64 0, .int .i64 0, .int .i64 0].toArray 128)
          refine hK2.out _ _ hS1 (fun _ => ?_)
          clear hS hK2 K2
          have hS := hS1
          clear hS1
          refine wpAnyH_all (rs := [8]) (by kernel_rfl) (by simp) ?_
          refine AllReadyH.cons rfl (fun K2 hK2 => ?_) AllReadyH.nil
          rw [if_pos (by rfl)]
          refine wp_store_mid (P := Tryz.prog) 128 (.tmp 13) (.tmp 21) rfl v1.heap.size 0 [.int .i64 (f : Int), .int .i64 (sizeN f e r d : Int), .int .i64 (nextN f e r d : Int)].toArray rfl rfl (hq.there 0 3 (by simp)) sz84 one3 ?_
          have hF6 : Kd.blk (World.setCells _ v1.heap.size 0 [.int .i64 (f : Int), .int .i64 (sizeN f e r d : Int), .int .i64 (nextN f e r d : Int)]) v1.heap.size [.int .i64 (f : Int), .int .i64 (sizeN f e r d : Int), .int .i64 (nextN f e r d : Int)] 128 := Kd.blk.put [] [.int .i64 0, .int .i64 0, .int .i64 0] [] [.int .i64 (f : Int), .int .i64 (sizeN f e r d : Int), .int .i64 (nextN f e r d : Int)] hq rfl
          have hS6 : Below wr.heap.size wr (World.setCells _ v1.heap.size 0 [.int .i64 (f : Int), .int .i64 (sizeN f e r d : Int), .int .i64 (nextN f e r d : Int)]) := Kd.setCells_below hgg 0 _ hS
          refine hK2.out _ _ hS6 (fun _ => ?_)
          clear hK2 K2 hS hq
          generalize World.setCells _ v1.heap.size 0 [.int .i64 (f : Int), .int .i64 (sizeN f e r d : Int), .int .i64 (nextN f e r d : Int)] = X6 at *
          refine wpAnyH_all (rs := [9]) (by kernel_rfl) (by simp) ?_
          refine AllReadyH.cons rfl (fun K2 hK2 => ?_) AllReadyH.nil
          go_simp
          refine hK2.out _ _ hS6 (fun _ => ?_)
          clear hK2 K2
          refine wpAnyH_done (by kernel_rfl) ?_ _
          go_wp2_with fail
          go_meet
          exact ⟨v1.heap.size, rfl, rfl, hF6, hgg, hS6⟩
        · go_simp
          have hgg := hS.size
          have hq0 : Kd.blk (v0.alloc (.cells [.int .i64 0, .int .i64 0, .int .i64 0].toArray 128)) v0.heap.size ([] ++ [.int .i64 0, .int .i64 0, .int .i64 0] ++ []) 128 := Kd.blk.new v0 _ 128
          have hS1 := hS.alloc hgg (.cells [.int .i64 0, .int .i64 0, .int .i64 0].toArray 128)
          refine hK2.out _ _ hS1 (fun _ => ?_)
          clear hS hK2 K2
          have hS := hS1
          clear hS1
          refine wpAnyH_all (rs := [2]) (by kernel_rfl) (by simp) ?_
          refine AllReadyH.cons rfl (fun K2 hK2 => ?_) AllReadyH.nil
          go_simp
          refine (HXf.out _ hS).mono ?_
          rintro y v1 ⟨rfl, b1⟩
          have hS1 := hS.trans (b1.mono hS.size)
          have hq := hq0.below b1
          clear hq0
          go_wp2_with fail
          refine hK2.out _ _ hS1 (fun _ => ?_)
          clear hS hK2 K2 b1
          have hS := hS1
          clear hS1
          refine wpAnyH_all (rs := [8]) (by kernel_rfl) (by simp) ?_
          refine AllReadyH.cons rfl (fun K2 hK2 => ?_) AllReadyH.nil
          rw [if_pos (by rfl)]
          refine wp_store_mid (P := Tryz.prog) 128 (.tmp 13) (.tmp 21) rfl v0.heap.size 0 [.int .i64 (f : Int), .int .i64 (sizeN f e r d : Int), .int .i64 (nextN f e r d : Int)].toArray rfl rfl (hq.there 0 3 (by simp)) sz84 one3 ?_
          have hF6 : Kd.blk (World.setCells _ v0.heap.size 0 [.int .i64 (f : Int), .int .i64 (sizeN f e r d : Int), .int .i64 (nextN f e r d : Int)]) v0.heap.size [.int .i64 (f : Int), .int .i64 (sizeN f e r d : Int), .int .i64 (nextN f e r d : Int)] 128 := Kd.blk.put [] [.int .i64 0, .int .i64 0, .int .i64 0] [] [.int .i64 (f : Int), .int .i64 (sizeN f e r d : Int), .int .i64 (nextN f e r d : Int)] hq rfl
          have hS6 : Below wr.heap.size wr (World.setCells _ v0.heap.size 0 [.int .i64 (f : Int), .int .i64 (sizeN f e r d : Int), .int .i64 (nextN f e r d : Int)]) := Kd.setCells_below hgg 0 _ hS
          refine hK2.out _ _ hS6 (fun _ => ?_)
          clear hK2 K2 hS hq
          generalize World.setCells _ v0.heap.size 0 [.int .i64 (f : Int), .int .i64 (sizeN f e r d : Int), .int .i64 (nextN f e r d : Int)] = X6 at *
          refine wpAnyH_all (rs := [9]) (by kernel_rfl) (by simp) ?_
          refine AllReadyH.cons rfl (fun K2 hK2 => ?_) AllReadyH.nil
          go_simp
          refine hK2.out _ _ hS6 (fun _ => ?_)
          clear hK2 K2
          refine wpAnyH_done (by kernel_rfl) ?_ _
          go_wp2_with fail
          go_meet
          exact ⟨v0.heap.size, rfl, rfl, hF6, hgg, hS6⟩
      case rest =>
        obtain ⟨g, rfl, rfl, hq, hgg, hbx⟩ := hcut
        have hwr : b < wr.heap.size := hbz
        have HQ := hidYY (And.intro hq (And.intro hgg (HF.out.below hbx)))
        clear hq hbx HF d0 c0 c1 c2 c3 c4 HX hbz hwz
        go_upto_region 5 with fail
        go_cut [] (fun wx => gI w0 w b o st rr (J.frC e i r (d : Int) a n cap 33) (feedL st (feedL st o (lets D)) (bitsN e i r d l sum f)) D u11 g [.int .i64 (f : Int), .int .i64 (sizeN f e r d : Int), .int .i64 (nextN f e r d : Int)] wx)
        case first =>
          have HVf : Hid (∀ X, Below wc.heap.size wc X → Calls Tryz.prog 82 #[.int .i64 (f : Int), .agg [.bool e, .int .u32 (i : Int), .bool r, .int .i64 (d : Int), .slice a n cap].toArray, .int .i64 (sum : Int)] X fun y w' => y = .returned (.int .u64 (valN f e i r d l sum : Int)) ∧ Below X.heap.size X w') := fun X hX => HV.out f hf1 hf14 X (HQ.out.2.2.below hX).bel
          have HBT : Hid (∀ X, Below wc.heap.size wc X → Calls Tryz.prog 81 #[.pointer (some ⟨b, 0, none⟩), .int .u64 (valN f e i r d l sum : Int), .int .i64 (sizeN f e r d : Int)] X fun y w' => y = .returned (.tuple #[]) ∧ gI w0 w b o st rr (J.frC e i r (d : Int) a n cap 33) (feedL st (feedL st o (lets D)) (bitsN e i r d l sum f)) D u11 g [.int .i64 (f : Int), .int .i64 (sizeN f e r d : Int), .int .i64 (nextN f e r d : Int)] w') := by
            intro X hX
            have h1 := HQ.out.2.2.below hX
            have hq1 := HQ.out.1.below hX
            have hgl := HG.out.feedL (lets D) (fun x hx => HL.out x (by rw [← HE.out]; simp [lets_append, hx]))
            have hlen : (lets D).length + sizeN f e r d ≤ (lets (lay e i r d l sum fr t)).length := by
              rw [← HE.out, lets_append, lets_append, List.length_append, List.length_append]
              have : (lets [(f, bitsN e i r d l sum f)]).length = sizeN f e r d := by simp [lets, bitsN, J.M.num_length]
              omega
            have hTT := HT.out
            refine (h1.s.since.bits hgl.1 (valN f e i r d l sum) (sizeN f e r d) (HVL.out f) sizeN_le (by omega)).mono ?_
            rintro y w' ⟨rfl, q1, q2⟩
            have hbz : b < w.heap.size := h1.z
            refine ⟨rfl, ⟨q1.row, h1.s.bel.trans q1.bel⟩, h1.ow.writer (by omega) q2, ?_, ?_, okept h1.k q2, h1.bel.trans q1.bel, h1.z⟩
            · exact q2 _ _ h1.x (by simp; omega) (by intro c fz e; cases e)
            · exact q2 _ _ hq1 (by have := HQ.out.2.1; have := hwr; simp; omega) (by intro c fz e; cases e)
          have HS0 : Hid (∀ X, Below wc.heap.size wc X → X.rangeAt w.heap.size 0 [.bool e, .int .u32 (i : Int), .bool r, .int .i64 (d : Int), .slice a n cap] ∧ Kd.blk X g [.int .i64 (f : Int), .int .i64 (sizeN f e r d : Int), .int .i64 (nextN f e r d : Int)] 128) := fun X hX => ⟨fI.box (HQ.out.2.2.below hX), HQ.out.1.below hX⟩
          have HSG : Hid (∀ X, gI w0 w b o st rr (J.frC e i r (d : Int) a n cap 33) (feedL st (feedL st o (lets D)) (bitsN e i r d l sum f)) D u11 g [.int .i64 (f : Int), .int .i64 (sizeN f e r d : Int), .int .i64 (nextN f e r d : Int)] X → X.rangeAt w.heap.size 0 [.bool e, .int .u32 (i : Int), .bool r, .int .i64 (d : Int), .slice a n cap] ∧ Kd.blk X g [.int .i64 (f : Int), .int .i64 (sizeN f e r d : Int), .int .i64 (nextN f e r d : Int)] 128) := fun X hX => ⟨gI.box hX, hX.q⟩
          clear HV HQ HVL HT HL HG HE HD HB
          refine wp_region_held (S := fun X => X.rangeAt w.heap.size 0 [.bool e, .int .u32 (i : Int), .bool r, .int .i64 (d : Int), .slice a n cap] ∧ Kd.blk X g [.int .i64 (f : Int), .int .i64 (sizeN f e r d : Int), .int .i64 (nextN f e r d : Int)] 128) (by kernel_rfl) ?_
          have hB : Below wc.heap.size wc wc.drew := (Below.refl _ _).drew
          change wpAnyH Tryz.prog _ _ _ _ _ _ _ wc.drew
          generalize wc.drew = v0 at *
          have hS := HS0.out _ hB
          refine wpAnyH_take (i := 0) (v := .pointer (some ⟨b, 0, none⟩)) rfl (by kernel_rfl) (by kernel_rfl) (by kernel_rfl) (fun _ _ _ h => h) (Or.inl ⟨by rfl, ?_⟩) hS ?_
          · intro W hSw
            clear hS
            go_simp
          simp only [Act.put, List.setIfInBounds_toArray, List.set_cons_zero, List.set_cons_succ, List.getElem_toArray, List.getElem_cons_zero]
          refine wpAnyH_take (i := 1) (v := .int .i64 (f : Int)) rfl (by kernel_rfl) (by kernel_rfl) (by kernel_rfl) (fun _ _ _ h => h) (Or.inl ⟨by rfl, ?_⟩) hS ?_
          · intro W hSw
            clear hS
            go_simp
          simp only [Act.put, List.setIfInBounds_toArray, List.set_cons_zero, List.set_cons_succ, List.getElem_toArray, List.getElem_cons_zero, List.getElem_cons_succ]
          refine wpAnyH_take (i := 2) (v := .agg [.bool e, .int .u32 (i : Int), .bool r, .int .i64 (d : Int), .slice a n cap].toArray) rfl (by kernel_rfl) (by kernel_rfl) (by kernel_rfl) (fun _ _ _ h => h) (yieldsIf_load_mid (by rfl) 33 _ rfl w.heap.size 0 rfl [.bool e, .int .u32 (i : Int), .bool r, .int .i64 (d : Int), .slice a n cap] _ (fun X h => h.1) Tryz.underlying33 rfl sz31F) hS ?_
          simp only [Act.put, List.setIfInBounds_toArray, List.set_cons_zero, List.set_cons_succ, List.getElem_toArray, List.getElem_cons_zero, List.getElem_cons_succ]
          refine wpAnyH_take (i := 3) (v := .int .i64 (sum : Int)) rfl (by kernel_rfl) (by kernel_rfl) (by kernel_rfl) (fun _ _ _ h => h) (Or.inl ⟨by rfl, ?_⟩) hS ?_
          · intro W hSw
            clear hS
            go_simp
          simp only [Act.put, List.setIfInBounds_toArray, List.set_cons_zero, List.set_cons_succ, List.getElem_toArray, List.getElem_cons_zero, List.getElem_cons_succ]
          refine wpAnyH_take (i := 5) (v := .pointer (some ⟨g, 1, none⟩)) rfl (by kernel_rfl) (by kernel_rfl) (by kernel_rfl) (fun _ _ _ h => h) (Or.inl ⟨by rfl, ?_⟩) hS ?_
          · intro W hSw
            clear hS
            go_simp
          simp only [Act.put, List.setIfInBounds_toArray, List.set_cons_zero, List.set_cons_succ, List.getElem_toArray, List.getElem_cons_zero, List.getElem_cons_succ]
          refine wpAnyH_take (i := 6) (v := .int .i64 (sizeN f e r d : Int)) rfl (by kernel_rfl) (by kernel_rfl) (by kernel_rfl) (fun _ _ _ h => h) (Or.inl ⟨by rfl, ?_⟩) hS ?_
          · intro W hSw
            clear hS
            have q0 := hSw.2.cell 1 (.int .i64 (sizeN f e r d : Int)) rfl
            clear hSw
            go_simp
          simp only [Act.put, List.setIfInBounds_toArray, List.set_cons_zero, List.set_cons_succ, List.getElem_toArray, List.getElem_cons_zero, List.getElem_cons_succ]
          refine wpAnyH_all (rs := [4]) (by kernel_rfl) (by simp) ?_
          refine AllReadyH.cons rfl (fun K2 hK2 => ?_) AllReadyH.nil
          go_simp
          refine (HVf.out _ hB).mono ?_
          rintro y v1 ⟨rfl, b1⟩
          have hB1 := hB.trans (b1.mono hB.size)
          go_wp2_with fail
          refine hK2.out _ _ (HS0.out _ hB1) (fun _ => ?_)
          clear hS hK2 K2 b1 hB
          refine wpAnyH_all (rs := [7]) (by kernel_rfl) (by simp) ?_
          refine AllReadyH.cons rfl (fun K2 hK2 => ?_) AllReadyH.nil
          go_simp
          refine (HBT.out _ hB1).mono ?_
          rintro y v2 ⟨rfl, hG⟩
          go_wp2_with fail
          refine hK2.out _ _ (HSG.out _ hG) (fun _ => ?_)
          clear hK2 K2
          refine wpAnyH_done (by kernel_rfl) ?_ _
          have HGG := hidYY hG
          clear hG hB1
          go_wp2_with fail
          go_meet
          exact HGG.out
        case rest =>
          have HGG := hidYY hcut
          clear hcut HV
          have hlen1 : (feedL st o (lets D)).length ≤ 3000 := by
            have hgl := HG.out.feedL (lets D) (fun x hx => HL.out x (by rw [← HE.out]; simp [lets_append, hx]))
            have hlen : (lets D).length ≤ (lets (lay e i r d l sum fr t)).length := by
              rw [← HE.out, lets_append, lets_append, List.length_append, List.length_append]
              omega
            have := HT.out
            omega
          have hle := feedL_ge st (bitsN e i r d l sum f) (feedL st o (lets D))
          have hlen2 : (feedL st (feedL st o (lets D)) (bitsN e i r d l sum f)).length ≤ 3000 := by
            have e2 : (feedL st (feedL st o (lets D)) (bitsN e i r d l sum f)) = feedL st o (lets (D ++ [(f, bitsN e i r d l sum f)])) := by rw [lets_append, feedL_append]; simp [lets]
            rw [e2]
            have hgl := HG.out.feedL (lets (D ++ [(f, bitsN e i r d l sum f)])) (fun x hx => HL.out x (by rw [← HE.out, lets_append]; simp [hx]))
            have hlen : (lets (D ++ [(f, bitsN e i r d l sum f)])).length ≤ (lets (lay e i r d l sum fr t)).length := by
              rw [← HE.out, lets_append (D ++ _), List.length_append]
              omega
            have := HT.out
            omega
          have d0 := HGG.out.len
          have HSP : Hid (spansL st o (D ++ [(f, bitsN e i r d l sum f)]) = spansL st o D ++ [(f, (feedL st o (lets D)).length, (feedL st (feedL st o (lets D)) (bitsN e i r d l sum f)).length - (feedL st o (lets D)).length)]) := by
            show _ = _
            rw [spansL_snoc, feedL_append]
          have HO2 : Hid (feedL st o (lets (D ++ [(f, bitsN e i r d l sum f)])) = (feedL st (feedL st o (lets D)) (bitsN e i r d l sum f))) := by
            show _ = _
            rw [lets_append, feedL_append]; simp [lets]
          have hDlen : (spansL st o D).length ≤ 1000000 := by
            rw [spansL_len]
            have h16 : (lay e i r d l sum fr t).length ≤ 16 := layF_len _ _ _ _ _
            have := congrArg List.length HE.out
            rw [List.length_append, List.length_append] at this
            omega
          have hwc : w.heap.size + 1 ≤ wc.heap.size := by have := HGG.out.x; rw [Array.getElem?_eq_some_iff] at this; exact this.1
          clear HT HL HG HVL HB
          generalize (feedL st (feedL st o (lets D)) (bitsN e i r d l sum f)) = o2 at *
          generalize (feedL st o (lets D)).length = n1 at *
          go_wp2_with (first | (at_builtin; refine app_span wc wc rfl (.tmp 34) (.tmp 44) rfl (w.heap.size + 1) _ (spansL st o D) (f, n1, o2.length - n1) _ _ _ rfl rfl (by show _ = ((o2.length - n1 : Nat) : Int); omega) rfl HGG.out.ow rfl hDlen hwc (Below.refl _ _) ?_))
          intro v' w' q1 q2 q3 q4
          have HNF : Hid (fI w0 w b o st rr (J.frC e i r (d : Int) a n cap 33) (D ++ [(f, bitsN e i r d l sum f)]) v' w' ∧ Kd.blk w' g [.int .i64 (f : Int), .int .i64 (sizeN f e r d : Int), .int .i64 (nextN f e r d : Int)] 128) := by
            have hG := HGG.out
            have hz := hG.z
            refine ⟨⟨?_, ?_, ?_, ?_, ?_, hz⟩, ?_⟩
            · rw [HO2.out]; exact hG.s.spans q2 (by omega) q3
            · rw [HSP.out]; exact q1
            · exact (q2.block _ (by omega)).trans hG.x
            · intro kk ob a1 a2 a3
              have h4 := hG.k kk ob a1 a2 a3
              have hk : kk < w.heap.size := by rw [Array.getElem?_eq_some_iff] at a1; exact a1.1
              exact (q2.block kk (by omega)).trans h4
            · exact hG.bel.trans (q2.mono (by omega))
            · exact q3 _ _ hG.q (by simp) (by intro c fz e; cases e)
          have e2 := HNF.out.2.cell 2 (.int .i64 (nextN f e r d : Int)) rfl
          clear q1 q2 q3 q4 HGG d0
          go_wp2_with fail
          go_roundw
          case rel => exact ⟨D ++ [(f, bitsN e i r d l sum f)], k, nextN f e r d, by go_num, ⟨HE.out, by have := HD.out; omega, by omega, hnx.2⟩, HNF.out.1⟩
          case measure => simp [intOf]; omega
end Go.Proofs.YtpknchjjfiiaeaaGreatDoor
