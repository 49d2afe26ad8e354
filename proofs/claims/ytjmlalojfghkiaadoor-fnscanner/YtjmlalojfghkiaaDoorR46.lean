import Derived.Test.YtjmlalojfghkiaaDoorR45
import Derived.Test.YtjmlalojfghkiaaDoorR35
namespace Go.Proofs.YtjmlalojfghkiaaDoor.K
open Go.RowKit
set_option linter.unusedVariables false
abbrev S0 : Sc := ⟨1, 1, 0, 0, 0, 0, false, 0, false, 0, []⟩
theorem sz40 : (Tryd.prog.info? 40).map (·.size) = some 4 := by kernel_rfl
theorem one4 (a b : Int) (c d : Bool) : (#[.int .i64 a, .int .i64 b, .bool c, .bool d] : Array Value).all (·.oneCell') = true := all_oneCell_toArray (by simp [Value.oneCell'])
/-- where the law's loop stands: s at block P -/
structure lI (w0 : World) (P : Nat) (t : ByteArray) (i : Nat) (S : Sc) (a : Option Addr) (n k : Nat) (W : World) : Prop where
  q : blk W P (scL S a n k) 31
  o : ansB W (P + 1) S.l a n k
  b : Below w0.heap.size w0 W
  z : w0.heap.size ≤ P
  at_ : At (J.lt t) i S
  bits : ∀ x ∈ (J.lt t).take i, J.M.isL x
theorem Rnd.verdict {t : ByteArray} {i : Nat} {S : Sc} {b : Nat} (h : Rnd t i S b) : ∃ (f' : Int) (d' o' : Bool), J.judgeV (J.walkZ (t.extract 0 (i + 1))) = .agg #[.int .i64 (scn S b).2, .int .i64 f', .bool d', .bool o'] ∧ (((scn S b).2 = 0 ∨ (scn S b).2 = 1) → f' = (scn S b).1.f ∧ d' = decide ((scn S b).1.rn = 5)) := by
  unfold J.judgeV
  rw [h.code]
  by_cases hg : (scn S b).2 = 0 ∨ (scn S b).2 = 1
  · obtain ⟨g1, g2, g3, g4⟩ := h.go hg
    rw [if_pos g1]
    exact ⟨_, _, _, rfl, fun _ => ⟨g2.symm, g3⟩⟩
  · have : ¬ J.goesOnB (J.walkZ (t.extract 0 (i + 1))).code = true := by
      have := h.code
      unfold J.goesOnB
      simp only [decide_eq_true_eq]
      omega
    rw [if_neg this]
    exact ⟨_, _, _, rfl, fun q => absurd q hg⟩
theorem ansB.below {w w' : World} {B : Nat} {l : List Nat} {a : Option Addr} {n k : Nat} (h : ansB w B l a n k) (hb : Below w.heap.size w w') : ansB w' B l a n k := by
  rcases h with ⟨g, h1, h2, h3⟩ | h
  · exact Or.inl ⟨g, h1, h2.below hb, h3⟩
  · exact Or.inr h
theorem ansB.setP {w : World} {P : Nat} {l : List Nat} {a : Option Addr} {n k : Nat} (h : ansB w (P + 1) l a n k) (o : Nat) (vs : List Value) : ansB (w.setCells P o vs) (P + 1) l a n k := by
  rcases h with ⟨g, h1, h2, h3⟩ | h
  · have := World.ownsRow.lt h2 g rfl
    exact Or.inl ⟨g, h1, h2.keep h3 (setCells_other _ _ (by omega) _ _ _), h3⟩
  · exact Or.inr h
theorem ansB.okA {w : World} {B : Nat} {l : List Nat} {a : Option Addr} {n k : Nat} (h : ansB w B l a n k) : G.okA a n k := by
  rcases h with ⟨g, h1, h2, h3⟩ | ⟨h1, h2, h3, h4⟩
  · exact Or.inr ⟨g, h1⟩
  · exact Or.inl ⟨h1, h2, h3⟩
theorem lI.below {w0 : World} {P : Nat} {t : ByteArray} {i : Nat} {S : Sc} {a : Option Addr} {n k : Nat} {W W' : World} (h : lI w0 P t i S a n k W) (hb : Below W.heap.size W W') : lI w0 P t i S a n k W' :=
  ⟨h.q.below hb, ansB.below h.o hb, h.b.trans (hb.mono h.b.size), h.z, h.at_, h.bits⟩
theorem ansB.setQ {w : World} {P Q : Nat} {l : List Nat} {a : Option Addr} {n k : Nat} {x : List Value} (h : ansB w (P + 1) l a n k) (hPQ : P < Q) (hq : blk w Q x 31) (o : Nat) (vs : List Value) : ansB (w.setCells Q o vs) (P + 1) l a n k := by
  rcases h with ⟨g, h1, h2, h3⟩ | h
  · refine Or.inl ⟨g, h1, h2.keep h3 (setCells_other _ _ ?_ _ _ _), h3⟩
    rintro rfl
    rcases h2.2 with ⟨e, _⟩ | ⟨g1, cap, cur, hv', hb1, hg, _⟩
    · cases e
    · cases hv'
      unfold blk at hq
      rw [hg] at hq
      cases hq
  · exact Or.inr h
theorem lI.putQ {w0 : World} {P Q : Nat} {t : ByteArray} {i : Nat} {S : Sc} {a : Option Addr} {n k : Nat} {W : World} {x : List Value} (h : lI w0 P t i S a n k W) (hPQ : P < Q) (hq : blk W Q x 31) (o : Nat) (vs : List Value) : lI w0 P t i S a n k (W.setCells Q o vs) :=
  ⟨h.q.other (by omega) _ _, ansB.setQ h.o hPQ hq _ _, setCells_below (by have := h.z; omega) _ _ h.b, h.z, h.at_, h.bits⟩
/-- behind ScanBit: s2 at block Q -/
structure mI (w0 : World) (P : Nat) (t : ByteArray) (i : Nat) (S : Sc) (a : Option Addr) (n k : Nat) (T : Sc) (Q : Nat) (a2 : Option Addr) (n2 k2 : Nat) (W : World) : Prop where
  l : lI w0 P t i S a n k W
  q : blk W Q (scL T a2 n2 k2) 31
  o : ansB W (P + 1) T.l a2 n2 k2
  z : P < Q
theorem mI.below {w0 : World} {P : Nat} {t : ByteArray} {i : Nat} {S : Sc} {a : Option Addr} {n k : Nat} {T : Sc} {Q : Nat} {a2 : Option Addr} {n2 k2 : Nat} {W W' : World} (h : mI w0 P t i S a n k T Q a2 n2 k2 W) (hb : Below W.heap.size W W') : mI w0 P t i S a n k T Q a2 n2 k2 W' :=
  ⟨h.l.below hb, h.q.below hb, ansB.below h.o hb, h.z⟩
theorem j_bytes {w : World} {a : Option Addr} {n cap : Nat} {l : List Nat} (h : isBytes w a n cap l) : J.isBytes w a n cap l := ⟨h.len, h.cap, h.small, h.cells⟩
theorem mI.turn {w0 : World} {P : Nat} {t : ByteArray} {i : Nat} {S : Sc} {a : Option Addr} {n k : Nat} {T : Sc} {Q : Nat} {a2 : Option Addr} {n2 k2 : Nat} {W : World} (h : mI w0 P t i S a n k T Q a2 n2 k2 W) (hat : At (J.lt t) (i + 1) T) (hb : ∀ x ∈ (J.lt t).take (i + 1), J.M.isL x) : lI w0 P t (i + 1) T a2 n2 k2 (W.setCells P 0 (scL T a2 n2 k2)) :=
  ⟨blk.put [] (scL S a n k) [] _ (by simpa using h.l.q) rfl, ansB.setP h.o _ _, setCells_below h.l.z _ _ h.l.b, h.l.z, hat, hb⟩
set_option maxHeartbeats 8000000 in
set_option maxRecDepth 40000 in
theorem lawScanner (a : Option Addr) (n cap : Nat) (w : World) (hg : w.rangeAt 0 0 tabL) (hz : 0 < w.heap.size) (hn : n ≤ 9223372036854775807)
    (HDJ : n ≤ 1048576 → Calls Tryd.prog 12 #[.slice a n cap] w fun o w' => ∃ t : ByteArray, o = .returned (.string t) ∧ t.size ≤ 1000000 ∧ Below w.heap.size w w') :
    Calls Tryd.prog 4 #[.slice a n cap] w fun o w' => o = .returned (.bool true) ∧ Below w.heap.size w w' := by
  by_cases hle : n ≤ 1048576
  · have HD : Hid (Calls Tryd.prog 12 #[.slice a n cap] w fun o w' => ∃ t : ByteArray, o = .returned (.string t) ∧ t.size ≤ 1000000 ∧ Below w.heap.size w w') := HDJ hle
    have HTB : Hid (∀ W, Below w.heap.size w W → W.rangeAt 0 0 tabL ∧ 0 < W.heap.size) := fun W hW => ⟨tab_keep hg hz hz hW, Nat.lt_of_lt_of_le hz hW.size⟩
    clear HDJ hg hz
    go_enter Tryd.func4, Tryd.ntmps4
    go_wp2_with fail
    refine HD.out.mono ?_
    rintro o w1 ⟨t, rfl, ht, hb1⟩
    obtain ⟨hq2, hb2⟩ := new_scan (w := w1) (T := 31) (scL S0 none 0 0) (scL_len _ _ _ _)
    have HI2 : Hid (lI w w1.heap.size t 0 S0 none 0 0 (World.setCells (w1.alloc (.cells z11.toArray 31)) w1.heap.size 0 (scL S0 none 0 0))) := ⟨hq2, Or.inr ⟨rfl, rfl, rfl, rfl⟩, hb1.trans (hb2.mono hb1.size), hb1.size, At.init _, by simp⟩
    have HT2 : Hid (World.there (w1.alloc (.cells z11.toArray 31)) w1.heap.size 0 11) := (blk.new w1 z11 31).there 0 11 (by simp)
    have HTS : Hid (t.size ≤ 1000000) := ht
    clear hq2 hb2 hb1 ht
    go_wp2_with (first
      | (refine wpList_store_mid (P := Tryd.prog) rfl 31 (.tmp 4) (.tmp 16) rfl w1.heap.size 0 (scL S0 none 0 0).toArray rfl rfl HT2.out sz31 (scL_one _ _ _ _) ?_; generalize hW3 : World.setCells (World.alloc _ _) w1.heap.size 0 _ = w3; have HI3 : Hid (lI w w1.heap.size t 0 S0 none 0 0 w3) := (hW3 ▸ HI2.out); clear hW3))
    clear HI2 HT2
    generalize w1.heap.size = P at *
    go_loopw [5] (fun ii wr => ∃ (i : Nat) (S : Sc) (aS : Option Addr) (nS kS : Nat), i ≤ t.size ∧ ii = .int .i64 (i : Int) ∧ lI w P t i S aS nS kS wr) (fun ii _ => t.size - (intOf ii).toNat)
    case atStart => exact ⟨0, S0, none, 0, 0, Nat.zero_le _, rfl, HI3.out⟩
    case round =>
      clear HI3
      obtain ⟨i, S, aS, nS, kS, hi, rfl, hI⟩ := hrel
      have HI : Hid (lI w P t i S aS nS kS wr) := hI
      clear hI
      by_cases hlt : i < t.size
      · have hlt' : (i : Int) < (t.size : Int) := by omega
        by_cases hbit : t[i].toNat = 48 ∨ t[i].toNat = 49
        · obtain ⟨b, hb, hc⟩ : ∃ b : Nat, b < 2 ∧ t[i].toNat = 48 + b := by
            rcases hbit with e | e
            · exact ⟨0, by omega, e⟩
            · exact ⟨1, by omega, e⟩
          have HR : Hid (Rnd t i S b ∧ ∀ x ∈ (J.lt t).take (i + 1), J.M.isL x) := HI.out.at_.rnd HI.out.bits hlt b hb hc
          go_upto_region 8 with fail
          go_cut [32] (fun s32 wx => s32 = .bool false ∧ wx = wr)
          case first =>
            clear HR
            rcases hbit with e | e
            · have q1 : (((t[i].toNat : Nat) : Int) != 48) = false := by rw [e]; rfl
              go_wp2_with fail
              go_meet
              exact ⟨by simp, rfl⟩
            · have q1 : (((t[i].toNat : Nat) : Int) != 48) = true := by rw [e]; rfl
              have q2 : (((t[i].toNat : Nat) : Int) != 49) = false := by rw [e]; rfl
              go_wp2_with fail
              go_meet
              exact ⟨by simp; omega, rfl⟩
          case rest =>
            obtain ⟨rfl, rfl⟩ := hcut
            go_upto_region 10 with fail
            go_cut [6, 7] (fun s6 s7 wx => ∃ (Q : Nat) (a2 : Option Addr) (n2 k2 : Nat), s6 = .pointer (some ⟨Q, 0, none⟩) ∧ s7 = .int .i64 (scn S b).2 ∧ mI w P t i S aS nS kS (scn S b).1 Q a2 n2 k2 wx)
            case first =>
              have HSC : Hid (∀ W, lI w P t i S aS nS kS W → Calls Tryd.prog 8 #[scV S aS nS kS, .int .i64 (b : Int)] W fun o w' => ∃ a2 n2 k2, o = .returned (.tuple #[scV (scn S b).1 a2 n2 k2, .int .i64 (scn S b).2]) ∧ ansB w' (P + 1) (scn S b).1.l a2 n2 k2 ∧ Below W.heap.size W w') := by
                intro W hW
                have hy : isBytes W aS nS kS S.l := (ansB_bytes hW.o HR.out.1.sm).now
                refine (scan_any S HR.out.1.ok HR.out.1.sm b hb W (HTB.out W hW.b).1 (HTB.out W hW.b).2 aS nS kS (ansB.okA hW.o) hy).mono ?_
                rintro o w' ⟨a2, n2, k2, rfl, h1, h2⟩
                exact ⟨a2, n2, k2, rfl, ansB_mono h1 hW.q.lt, h2⟩
              clear HR
              generalize scn S b = TT at *
              obtain ⟨T, cc⟩ := TT
              simp only [] at HSC ⊢
              refine wp_region_held (S := lI w P t i S aS nS kS) (by kernel_rfl) ?_
              obtain ⟨wd, hwd⟩ : ∃ wd, wd = wc.drew := ⟨_, rfl⟩
              change wpAnyH _ _ _ _ _ _ _ _ wc.drew
              rw [← hwd]
              have hs : lI w P t i S aS nS kS wd := hwd ▸ HI.out.below (Below.refl _ _).drew
              clear hwd HI
              refine wpAnyH_take (i := 0) (v := .agg (scL S aS nS kS).toArray) rfl (by kernel_rfl) (by kernel_rfl) (by kernel_rfl) (fun _ _ _ h => h) (yieldsIf_load_mid (by rfl) 31 (.tmp 4) rfl P 0 rfl (scL S aS nS kS) _ (fun W h => h.q.load) Tryd.underlying31 rfl (sz31L _ _ _ _)) hs ?_
              simp only [Act.put, List.setIfInBounds_toArray, List.set_cons_zero, List.set_cons_succ, List.getElem_toArray, List.getElem_cons_zero]
              refine wpAnyH_take (i := 1) (v := .string t) rfl (by kernel_rfl) (by kernel_rfl) (by kernel_rfl) (fun _ _ _ h => h) (Or.inl ⟨by rfl, ?_⟩) hs ?_
              · intro W hW
                clear hs
                go_simp
              simp only [Act.put, List.setIfInBounds_toArray, List.set_cons_zero, List.set_cons_succ, List.getElem_toArray, List.getElem_cons_zero, List.getElem_cons_succ]
              refine wpAnyH_take (i := 2) (v := .int .i64 (i : Int)) rfl (by kernel_rfl) (by kernel_rfl) (by kernel_rfl) (fun _ _ _ h => h) (Or.inl ⟨by rfl, ?_⟩) hs ?_
              · intro W hW
                clear hs
                go_simp
              simp only [Act.put, List.setIfInBounds_toArray, List.set_cons_zero, List.set_cons_succ, List.getElem_toArray, List.getElem_cons_zero, List.getElem_cons_succ]
              refine wpAnyH_take (i := 3) (v := .int .u8 ((48 + b : Nat) : Int)) rfl (by kernel_rfl) (by kernel_rfl) (by kernel_rfl) (fun _ _ _ h => h) (Or.inl ⟨by rfl, ?_⟩) hs ?_
              · intro W hW
                clear hs
                go_simp
              simp only [Act.put, List.setIfInBounds_toArray, List.set_cons_zero, List.set_cons_succ, List.getElem_toArray, List.getElem_cons_zero, List.getElem_cons_succ]
              refine wpAnyH_take (i := 4) (v := .int .u8 (b : Int)) rfl (by kernel_rfl) (by kernel_rfl) (by kernel_rfl) (fun _ _ _ h => h) (Or.inl ⟨by rfl, ?_⟩) hs ?_
              · intro W hW
                clear hs
                go_simp
                rw [IntKind.wrap_u8]; omega
              simp only [Act.put, List.setIfInBounds_toArray, List.set_cons_zero, List.set_cons_succ, List.getElem_toArray, List.getElem_cons_zero, List.getElem_cons_succ]
              refine wpAnyH_take (i := 5) (v := .int .i64 (b : Int)) rfl (by kernel_rfl) (by kernel_rfl) (by kernel_rfl) (fun _ _ _ h => h) (Or.inl ⟨by rfl, ?_⟩) hs ?_
              · intro W hW
                clear hs
                go_simp
                rw [IntKind.wrap_i64]; omega
              simp only [Act.put, List.setIfInBounds_toArray, List.set_cons_zero, List.set_cons_succ, List.getElem_toArray, List.getElem_cons_zero, List.getElem_cons_succ]
              refine wpAnyH_all (rs := [6, 10]) (by kernel_rfl) (by simp) ?_
              refine AllReadyH.cons rfl (fun K hK => ?_) (AllReadyH.cons rfl (fun K hK => ?_) AllReadyH.nil)
              · go_simp
                refine (HSC.out _ hs).mono ?_
                rintro o wa ⟨a2, n2, k2, rfl, ha0, hba⟩
                have hsa := hs.below hba
                go_wp2_with fail
                refine hK.out _ _ hsa (fun hs2 => ?_)
                clear hK K hs2 hs
                have hs := hsa
                clear hsa
                refine wpAnyH_take (i := 7) (v := .tuple #[scV T a2 n2 k2, .int .i64 cc]) rfl (by kernel_rfl) (by kernel_rfl) (by kernel_rfl) (fun _ _ _ h => h) (Or.inl ⟨by rfl, ?_⟩) hs ?_
                · intro W hW
                  clear hs
                  go_simp
                simp only [Act.put, List.setIfInBounds_toArray, List.set_cons_zero, List.set_cons_succ, List.getElem_toArray, List.getElem_cons_zero, List.getElem_cons_succ]
                refine wpAnyH_take (i := 8) (v := scV T a2 n2 k2) rfl (by kernel_rfl) (by kernel_rfl) (by kernel_rfl) (fun _ _ _ h => h) (Or.inl ⟨by rfl, ?_⟩) hs ?_
                · intro W hW
                  clear hs
                  go_simp
                simp only [Act.put, List.setIfInBounds_toArray, List.set_cons_zero, List.set_cons_succ, List.getElem_toArray, List.getElem_cons_zero, List.getElem_cons_succ]
                refine wpAnyH_take (i := 9) (v := .int .i64 cc) rfl (by kernel_rfl) (by kernel_rfl) (by kernel_rfl) (fun _ _ _ h => h) (Or.inl ⟨by rfl, ?_⟩) hs ?_
                · intro W hW
                  clear hs
                  go_simp
                simp only [Act.put, List.setIfInBounds_toArray, List.set_cons_zero, List.set_cons_succ, List.getElem_toArray, List.getElem_cons_zero, List.getElem_cons_succ]
                refine wpAnyH_all (rs := [10]) (by kernel_rfl) (by simp) ?_
                refine AllReadyH.cons rfl (fun K hK => ?_) AllReadyH.nil
                go_simp
                have hbA : Below wa.heap.size wa (wa.alloc (.cells z11.toArray 31)) := (Below.refl _ _).alloc (Nat.le_refl _) _
                have hsA := hs.below hbA
                have ha := ansB.below ha0 hbA
                have hqA : blk (wa.alloc (.cells z11.toArray 31)) wa.heap.size ([] ++ z11 ++ []) 31 := blk.new wa _ 31
                have hPQ : P < wa.heap.size := hs.q.lt
                refine hK.out _ _ hsA (fun hs2 => ?_)
                clear hK K hs2 hs
                have hs := hsA
                clear hsA hbA
                refine wpAnyH_all (rs := [11]) (by kernel_rfl) (by simp) ?_
                refine AllReadyH.cons rfl (fun K hK => ?_) AllReadyH.nil
                rw [if_pos (by rfl)]
                refine wp_store_mid (P := Tryd.prog) 31 (.tmp 6) (.tmp 41) rfl wa.heap.size 0 (scL T a2 n2 k2).toArray rfl rfl (hqA.there 0 11 (by simp)) (sz31A _ _ _ _) (scL_one _ _ _ _) ?_
                have hqF : blk (World.setCells (wa.alloc (.cells z11.toArray 31)) wa.heap.size 0 (scL T a2 n2 k2)) wa.heap.size (scL T a2 n2 k2) 31 := blk.put [] z11 [] _ hqA rfl
                have hmF : mI w P t i S aS nS kS T wa.heap.size a2 n2 k2 (World.setCells (wa.alloc (.cells z11.toArray 31)) wa.heap.size 0 (scL T a2 n2 k2)) := ⟨hs.putQ hPQ hqA _ _, hqF, ansB.setQ ha hPQ hqA _ _, hPQ⟩
                have HF : Hid (mI w P t i S aS nS kS T wa.heap.size a2 n2 k2 (World.setCells (wa.alloc (.cells z11.toArray 31)) wa.heap.size 0 (scL T a2 n2 k2))) := hmF
                refine hK.out _ _ hmF.l (fun hs2 => ?_)
                clear hK K hs2 hqF hmF hs
                generalize World.setCells (wa.alloc (.cells z11.toArray 31)) wa.heap.size 0 (scL T a2 n2 k2) = wF at *
                have hs := HF.out.l
                refine wpAnyH_all (rs := [12]) (by kernel_rfl) (by simp) ?_
                refine AllReadyH.cons rfl (fun K hK => ?_) AllReadyH.nil
                go_simp
                refine hK.out _ _ hs (fun hs2 => ?_)
                clear hK K hs2
                refine wpAnyH_done (by kernel_rfl) ?_ _
                go_wp2_with fail
                go_meet
                exact ⟨_, a2, n2, k2, rfl, rfl, HF.out⟩
              · go_simp
                have hbA : Below wd.heap.size wd (wd.alloc (.cells z11.toArray 31)) := (Below.refl _ _).alloc (Nat.le_refl _) _
                have hsA := hs.below hbA
                have hqA : blk (wd.alloc (.cells z11.toArray 31)) wd.heap.size ([] ++ z11 ++ []) 31 := blk.new wd _ 31
                have hPQ : P < wd.heap.size := hs.q.lt
                refine hK.out _ _ hsA (fun hs2 => ?_)
                clear hK K hs2 hs
                have hs := hsA
                clear hsA hbA
                refine wpAnyH_all (rs := [6]) (by kernel_rfl) (by simp) ?_
                refine AllReadyH.cons rfl (fun K hK => ?_) AllReadyH.nil
                go_simp
                refine (HSC.out _ hs).mono ?_
                rintro o wa ⟨a2, n2, k2, rfl, ha, hba⟩
                have hsa := hs.below hba
                have hqB := hqA.below hba
                go_wp2_with fail
                refine hK.out _ _ hsa (fun hs2 => ?_)
                clear hK K hs2 hs
                have hs := hsa
                clear hsa hba
                refine wpAnyH_take (i := 7) (v := .tuple #[scV T a2 n2 k2, .int .i64 cc]) rfl (by kernel_rfl) (by kernel_rfl) (by kernel_rfl) (fun _ _ _ h => h) (Or.inl ⟨by rfl, ?_⟩) hs ?_
                · intro W hW
                  clear hs
                  go_simp
                simp only [Act.put, List.setIfInBounds_toArray, List.set_cons_zero, List.set_cons_succ, List.getElem_toArray, List.getElem_cons_zero, List.getElem_cons_succ]
                refine wpAnyH_take (i := 8) (v := scV T a2 n2 k2) rfl (by kernel_rfl) (by kernel_rfl) (by kernel_rfl) (fun _ _ _ h => h) (Or.inl ⟨by rfl, ?_⟩) hs ?_
                · intro W hW
                  clear hs
                  go_simp
                simp only [Act.put, List.setIfInBounds_toArray, List.set_cons_zero, List.set_cons_succ, List.getElem_toArray, List.getElem_cons_zero, List.getElem_cons_succ]
                refine wpAnyH_take (i := 9) (v := .int .i64 cc) rfl (by kernel_rfl) (by kernel_rfl) (by kernel_rfl) (fun _ _ _ h => h) (Or.inl ⟨by rfl, ?_⟩) hs ?_
                · intro W hW
                  clear hs
                  go_simp
                simp only [Act.put, List.setIfInBounds_toArray, List.set_cons_zero, List.set_cons_succ, List.getElem_toArray, List.getElem_cons_zero, List.getElem_cons_succ]
                refine wpAnyH_all (rs := [11]) (by kernel_rfl) (by simp) ?_
                refine AllReadyH.cons rfl (fun K hK => ?_) AllReadyH.nil
                rw [if_pos (by rfl)]
                refine wp_store_mid (P := Tryd.prog) 31 (.tmp 6) (.tmp 41) rfl wd.heap.size 0 (scL T a2 n2 k2).toArray rfl rfl (hqB.there 0 11 (by simp)) (sz31A _ _ _ _) (scL_one _ _ _ _) ?_
                have hqF : blk (World.setCells wa wd.heap.size 0 (scL T a2 n2 k2)) wd.heap.size (scL T a2 n2 k2) 31 := blk.put [] z11 [] _ hqB rfl
                have hmF : mI w P t i S aS nS kS T wd.heap.size a2 n2 k2 (World.setCells wa wd.heap.size 0 (scL T a2 n2 k2)) := ⟨hs.putQ hPQ hqB _ _, hqF, ansB.setQ ha hPQ hqB _ _, hPQ⟩
                have HF : Hid (mI w P t i S aS nS kS T wd.heap.size a2 n2 k2 (World.setCells wa wd.heap.size 0 (scL T a2 n2 k2))) := hmF
                refine hK.out _ _ hmF.l (fun hs2 => ?_)
                clear hK K hs2 hqF hmF hs
                generalize World.setCells wa wd.heap.size 0 (scL T a2 n2 k2) = wF at *
                have hs := HF.out.l
                refine wpAnyH_all (rs := [12]) (by kernel_rfl) (by simp) ?_
                refine AllReadyH.cons rfl (fun K hK => ?_) AllReadyH.nil
                go_simp
                refine hK.out _ _ hs (fun hs2 => ?_)
                clear hK K hs2
                refine wpAnyH_done (by kernel_rfl) ?_ _
                go_wp2_with fail
                go_meet
                exact ⟨_, a2, n2, k2, rfl, rfl, HF.out⟩
            case rest =>
              obtain ⟨Q, a2, n2, k2, rfl, rfl, hm⟩ := hcut
              have HM : Hid (mI w P t i S aS nS kS (scn S b).1 Q a2 n2 k2 wc) := hm
              clear hm
              obtain ⟨f', d', o', HV⟩ := HR.out.1.verdict
              have HB : Hid (∀ x ∈ (J.lt t).take (i + 1), J.M.isL x) := HR.out.2
              have HSTOP : Hid _ := HR.out.1.stop
              have HGO : Hid _ := HR.out.1.go
              have HFR : Hid _ := HR.out.1.fr
              have HCODE : Hid _ := HR.out.1.code
              have HJI : Hid (∀ W, Calls Tryd.prog 13 #[.string (t.extract 0 (i + 1))] W fun o w' => o = .returned (.agg #[.int .i64 (scn S b).2, .int .i64 f', .bool d', .bool o']) ∧ Below W.heap.size W w') := fun W => (J.judge_any _ W).mono (by rintro o w' ⟨rfl, hb⟩; rw [HV.1]; exact ⟨rfl, hb⟩)
              have HJS : Hid (∀ W, Calls Tryd.prog 14 #[.string (t.extract 0 (i + 1))] W fun o w' => o = .returned (.agg #[.int .i64 (scn S b).2, .int .i64 f', .bool d', .bool o']) ∧ Below W.heap.size W w') := fun W => (J.specJudge_any _ W (by have := HTS.out; unfold maxLen; rw [← J.lt_length, lt_take, List.length_take, J.lt_length]; omega)).mono (by rintro o w' ⟨rfl, hb⟩; rw [← J.judge_same, HV.1]; exact ⟨rfl, hb⟩)
              have HVV : Hid _ := HV.2
              have HLT : Hid (i < t.size) := hlt
              clear HV HR HI
              generalize (scn S b).2 = cc at *
              generalize (scn S b).1 = T at *
              have hts : (t.size : Int) ≤ 1000000 := by have := HTS.out; omega
              have hti : ((i : Int) + 1).toNat = i + 1 := by omega
              go_wp2_with fail
              refine (HJI.out _).mono ?_
              rintro o w4 ⟨rfl, hb4⟩
              have HM4 : Hid (mI w P t i S aS nS kS T Q a2 n2 k2 w4) := HM.out.below hb4
              clear HM hb4
              have HT5 : Hid (World.there (w4.alloc (.cells #[.int .i64 0, .int .i64 0, .bool false, .bool false] 40)) w4.heap.size 0 4) := (blk.new w4 [.int .i64 0, .int .i64 0, .bool false, .bool false] 40).there 0 4 (by simp)
              have HM5 : Hid (mI w P t i S aS nS kS T Q a2 n2 k2 (World.setCells (w4.alloc (.cells #[.int .i64 0, .int .i64 0, .bool false, .bool false] 40)) w4.heap.size 0 [.int .i64 cc, .int .i64 f', .bool d', .bool o']) ∧ blk (World.setCells (w4.alloc (.cells #[.int .i64 0, .int .i64 0, .bool false, .bool false] 40)) w4.heap.size 0 [.int .i64 cc, .int .i64 f', .bool d', .bool o']) w4.heap.size [.int .i64 cc, .int .i64 f', .bool d', .bool o'] 40) := ⟨HM4.out.below (setCells_below (Nat.le_refl _) _ _ ((Below.refl _ _).alloc (Nat.le_refl _) _)), blk.put [] [.int .i64 0, .int .i64 0, .bool false, .bool false] [] _ (blk.new w4 _ 40) rfl⟩
              have qcc : (cc != cc) = false := by simp
              go_upto_region 12 with (first | (refine wpList_store_mid (P := Tryd.prog) rfl 40 (.tmp 8) (.tmp 47) rfl w4.heap.size 0 #[.int .i64 cc, .int .i64 f', .bool d', .bool o'] rfl rfl HT5.out sz40 (one4 _ _ _ _) ?_; generalize hW5 : World.setCells (World.alloc _ _) w4.heap.size 0 _ = w5; have HM6 : Hid (mI w P t i S aS nS kS T Q a2 n2 k2 w5 ∧ blk w5 w4.heap.size [.int .i64 cc, .int .i64 f', .bool d', .bool o'] 40) := (hW5 ▸ HM5.out); clear hW5))
              clear HM5 HT5 HM4
              generalize w4.heap.size = V at *
              simp only [Act.put]
              go_cut [61] (fun s61 wx => s61 = .bool false ∧ mI w P t i S aS nS kS T Q a2 n2 k2 wx ∧ blk wx V [.int .i64 cc, .int .i64 f', .bool d', .bool o'] 40)
              case first =>
                have v0 := HM6.out.2.cell 0 _ rfl
                have hfld : ∀ W : World, (Instr.field 40 (.agg #[.int .i64 cc, .int .i64 f', .bool d', .bool o']) 0).run Tryd.prog W = .ok (.int .i64 cc) W := fun W => by kernel_rfl
                go_wp2_with (first | (go_at_call 14; refine (HJS.out _).mono ?_; rintro o w6 ⟨rfl, hb6⟩))
                go_meet
                exact ⟨rfl, HM6.out.1.below hb6, HM6.out.2.below hb6⟩
              case rest =>
                obtain ⟨rfl, hm⟩ := hcut
                clear HM6 HJI HJS
                have HM6 : Hid (mI w P t i S aS nS kS T Q a2 n2 k2 wc ∧ blk wc V [.int .i64 cc, .int .i64 f', .bool d', .bool o'] 40) := hm
                clear hm
                by_cases hgo : cc = 0 ∨ cc = 1
                · have hat := (HGO.out hgo).2.2.2
                  have HATN : Hid (At (J.lt t) (i + 1) T) := hat
                  have HSM : Hid (∀ x ∈ T.l, x < 256) := by show ∀ x ∈ T.l, x < 256; rw [hat.sim.l]; exact hat.sim.inv.das
                  obtain ⟨rfl, hd'⟩ := HVV.out hgo
                  have hd2 : d' = (T.rn == 5) := by rw [hd']; rfl
                  subst hd2
                  have q1 : (T.f != T.f) = false := by simp
                  have q2 : ((T.rn == 5) != (T.rn == 5)) = false := by simp
                  have u0 := HM6.out.1.q.cell 0 _ rfl
                  have u2' := HM6.out.1.q.cell 2 _ rfl
                  have v1 := HM6.out.2.cell 1 _ rfl
                  have v2 := HM6.out.2.cell 2 _ rfl
                  clear hat hd'
                  have HM7 : Hid (mI w P t i S aS nS kS T Q a2 n2 k2 wc) := HM6.out.1
                  clear HSTOP HGO HVV
                  rcases hgo with rfl | rfl
                  · clear HFR HCODE
                    go_wp2_with (first
                      | (refine wpList_load_mid (P := Tryd.prog) rfl 31 (.tmp 6) rfl Q 0 rfl _ _ HM7.out.q.load Tryd.underlying31 rfl (sz31L _ _ _ _) ?_)
                      | (refine wpList_store_mid (P := Tryd.prog) rfl 31 (.tmp 4) (.tmp 104) rfl P 0 (scL T a2 n2 k2).toArray rfl rfl (HM7.out.l.q.there 0 11 (by simp [scL])) (sz31A _ _ _ _) (scL_one _ _ _ _) ?_; generalize hW9 : World.setCells _ P 0 _ = w9; have HI9 : Hid (lI w P t (i + 1) T a2 n2 k2 w9) := (hW9 ▸ HM7.out.turn HATN.out HB.out); clear hW9))
                    go_roundw
                    case rel => exact ⟨i + 1, T, a2, n2, k2, HLT.out, by go_num, HI9.out⟩
                    case measure => have := HLT.out; simp [intOf]; omega
                  · have HDE : Hid (∀ W, mI w P t i S aS nS kS T Q a2 n2 k2 W → Calls Tryd.prog 16 #[.string (t.extract 0 (i + 1))] W fun o w' => ∃ ao cp, o = .returned (.tuple #[frV T.e T.i T.r T.d ao n2 cp, .int .i64 1]) ∧ J.isBytes w' ao n2 cp T.l ∧ Below W.heap.size W w') := by
                      intro W hW
                      refine (J.decode_any (t.extract 0 (i + 1)) W).mono ?_
                      rintro o w' ⟨ao, cp, rfl, ho, hb⟩
                      have hc1 : (J.walkZ (t.extract 0 (i + 1))).code = 1 := by have := HCODE.out; omega
                      have hdk : J.decK (J.walkZ (t.extract 0 (i + 1))) = J.walkZ (t.extract 0 (i + 1)) := by unfold J.decK; rw [if_pos (Or.inl hc1)]
                      obtain ⟨e1, e2, e3, e4, e5⟩ := HFR.out rfl
                      have hl2 : n2 = T.l.length := by rcases hW.o with ⟨g, _, _, h3⟩ | ⟨_, h2, _, h4⟩ <;> simp_all
                      rw [hdk, ← e5, ← hl2] at ho
                      have ha := G.ansO (g := ao) (n := n2) (k := cp) ho hl2
                      refine ⟨ao, cp, ?_, j_bytes (ansB_bytes ha HSM.out).now, hb⟩
                      rw [hdk, ← e1, ← e2, ← e3, ← e4, ← e5, ← hl2, hc1]
                      rfl
                    have HN2 : Hid (n2 = T.l.length ∧ n2 ≤ 1048576) := by
                      have hl2 : n2 = T.l.length := by rcases HM7.out.o with ⟨g, _, _, h3⟩ | ⟨_, h2, _, h4⟩ <;> simp_all
                      exact ⟨hl2, by have := HATN.out.sim.ok.2.2.2.2.2.1; omega⟩
                    clear HFR HCODE
                    go_wp2_with fail
                    refine (HDE.out _ HM7.out).mono ?_
                    rintro o w7 ⟨ao, cp, rfl, hy7, hb7⟩
                    have HT8 : Hid (World.there (w7.alloc (frC false 0 false 0 none 0 0 29)) w7.heap.size 0 5) := (blk.new w7 [.bool false, .int .u32 0, .bool false, .int .i64 0, .slice none 0 0] 29).there 0 5 (by simp)
                    have hb8 : Below w7.heap.size w7 (World.setCells (w7.alloc (frC false 0 false 0 none 0 0 29)) w7.heap.size 0 [.bool T.e, .int .u32 (T.i : Int), .bool T.r, .int .i64 T.d, .slice ao n2 cp]) := setCells_below (Nat.le_refl _) _ _ ((Below.refl _ _).alloc (Nat.le_refl _) _)
                    have HM8 : Hid (mI w P t i S aS nS kS T Q a2 n2 k2 (World.setCells (w7.alloc (frC false 0 false 0 none 0 0 29)) w7.heap.size 0 [.bool T.e, .int .u32 (T.i : Int), .bool T.r, .int .i64 T.d, .slice ao n2 cp]) ∧ J.isBytes (World.setCells (w7.alloc (frC false 0 false 0 none 0 0 29)) w7.heap.size 0 [.bool T.e, .int .u32 (T.i : Int), .bool T.r, .int .i64 T.d, .slice ao n2 cp]) ao n2 cp T.l ∧ blk (World.setCells (w7.alloc (frC false 0 false 0 none 0 0 29)) w7.heap.size 0 [.bool T.e, .int .u32 (T.i : Int), .bool T.r, .int .i64 T.d, .slice ao n2 cp]) w7.heap.size [.bool T.e, .int .u32 (T.i : Int), .bool T.r, .int .i64 T.d, .slice ao n2 cp] 29) := ⟨(HM7.out.below hb7).below hb8, hy7.below hb8, blk.put [] [.bool false, .int .u32 0, .bool false, .int .i64 0, .slice none 0 0] [] _ (blk.new w7 _ 29) rfl⟩
                    clear HM7 HM6 hy7 hb7 hb8 u0 u2' v1 v2
                    go_upto_region 20 with (first
                      | (refine wpList_store_mid (P := Tryd.prog) rfl 29 (.tmp 9) (.tmp 92) rfl w7.heap.size 0 #[.bool T.e, .int .u32 (T.i : Int), .bool T.r, .int .i64 T.d, .slice ao n2 cp] rfl rfl HT8.out sz29 (one5 _ _ _ _ _ _ _) ?_; generalize hW8 : World.setCells (World.alloc _ _) w7.heap.size 0 _ = w8; have HM9 : Hid (mI w P t i S aS nS kS T Q a2 n2 k2 w8 ∧ J.isBytes w8 ao n2 cp T.l ∧ blk w8 w7.heap.size [.bool T.e, .int .u32 (T.i : Int), .bool T.r, .int .i64 T.d, .slice ao n2 cp] 29) := (hW8 ▸ HM8.out); clear hW8))
                    clear HM8 HT8
                    generalize w7.heap.size = FB at *
                    have HWF : Hid (∀ W, J.isBytes W ao n2 cp T.l → J.isBytes W a2 n2 k2 T.l → Calls Tryd.prog 17 #[frV T.e T.i T.r T.d ao n2 cp, frV T.e T.i T.r T.d a2 n2 k2] W fun o w' => o = .returned (.bool true) ∧ Below W.heap.size W w') := fun W h1 h2 => J.wFrame_same W T.e T.i T.r T.d ao n2 cp T.l h1 a2 k2 h2 HN2.out.2
                    go_wp2_with (first
                      | (refine wpList_load_midG (by rfl) 29 (.tmp 9) rfl FB 0 rfl _ _ HM9.out.2.2.load Tryd.underlying29 rfl sz29 ?_)
                      | (refine wpList_load_midG (by rfl) 29 (.tmp 99) rfl Q 6 rfl [.bool T.e, .int .u32 (T.i : Int), .bool T.r, .int .i64 T.d, .slice a2 n2 k2] _ (blk.loadAt [.int .i64 T.f, .int .i64 T.lf, .int .i64 T.rn, .int .i64 T.lv, .int .i64 T.cr, .int .i64 T.ac] [.bool T.e, .int .u32 (T.i : Int), .bool T.r, .int .i64 T.d, .slice a2 n2 k2] [] HM9.out.1.q) Tryd.underlying29 rfl sz29 ?_))
                    refine (HWF.out _ HM9.out.2.1 (j_bytes (ansB_bytes HM9.out.1.o HSM.out).now)).mono ?_
                    rintro o w10 ⟨rfl, hb10⟩
                    have HM7 : Hid (mI w P t i S aS nS kS T Q a2 n2 k2 w10) := HM9.out.1.below hb10
                    clear HM9 hb10 HWF HDE
                    go_wp2_with (first
                      | (refine wpList_load_mid (P := Tryd.prog) rfl 31 (.tmp 6) rfl Q 0 rfl _ _ HM7.out.q.load Tryd.underlying31 rfl (sz31L _ _ _ _) ?_)
                      | (refine wpList_store_mid (P := Tryd.prog) rfl 31 (.tmp 4) (.tmp 104) rfl P 0 (scL T a2 n2 k2).toArray rfl rfl (HM7.out.l.q.there 0 11 (by simp [scL])) (sz31A _ _ _ _) (scL_one _ _ _ _) ?_; generalize hW9 : World.setCells _ P 0 _ = w9; have HI9 : Hid (lI w P t (i + 1) T a2 n2 k2 w9) := (hW9 ▸ HM7.out.turn HATN.out HB.out); clear hW9))
                    go_roundw
                    case rel => exact ⟨i + 1, T, a2, n2, k2, HLT.out, by go_num, HI9.out⟩
                    case measure => have := HLT.out; simp [intOf]; omega
                · have eT := HSTOP.out hgo
                  subst eT
                  have hn2 : n2 = 0 := by rcases HM6.out.1.o with ⟨g, _, _, h3⟩ | ⟨_, h2, _, _⟩ <;> simp_all
                  subst hn2
                  have q1 : (cc != 0) = true := by simp; omega
                  have q2 : (cc != 1) = true := by simp; omega
                  have HWS : Hid (∀ W, Calls Tryd.prog 15 #[scV scZ a2 0 k2, scV scZ none 0 0] W fun o w' => o = .returned (.bool true) ∧ Below W.heap.size W w') := fun W => wScan_end W a2 k2
                  clear hgo HSTOP HGO HFR HVV HCODE
                  go_wp2_with (first
                    | (refine wpList_load_mid (P := Tryd.prog) rfl 31 (.tmp 6) rfl Q 0 rfl _ _ HM6.out.1.q.load Tryd.underlying31 rfl (sz31L _ _ _ _) ?_))
                  refine (HWS.out _).mono ?_
                  rintro o w7 ⟨rfl, hb7⟩
                  go_wp2_with fail
                  go_ret
                  exact ⟨rfl, (HM6.out.1.below hb7).l.b⟩
        · have q1 : (((t[i].toNat : Nat) : Int) != 48) = true := by simp; omega
          have q2 : (((t[i].toNat : Nat) : Int) != 49) = true := by simp; omega
          clear hbit
          go_wp2_with fail
          go_ret
          exact ⟨rfl, HI.out.b⟩
      · have hlt' : ¬ (i : Int) < (t.size : Int) := by omega
        go_wp2_with fail
        go_ret
        exact ⟨rfl, HI.out.b⟩
  · have hle' : (1048576 : Int) < (n : Int) := by omega
    clear HDJ hg hz
    go_enter Tryd.func4, Tryd.ntmps4
    go_wp2_with fail
    go_ret
    exact ⟨rfl, Below.refl _ _⟩
end Go.Proofs.YtjmlalojfghkiaaDoor.K
