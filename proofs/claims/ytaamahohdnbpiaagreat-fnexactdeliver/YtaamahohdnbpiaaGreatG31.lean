import Derived.Test.YtaamahohdnbpiaaGreatG29
import Derived.Test.YtaamahohdnbpiaaGreatOQ
namespace Go.Proofs.YtaamahohdnbpiaaGreat
open Go.RowKit
set_option linter.unusedVariables false
set_option maxHeartbeats 8000000 in
set_option maxRecDepth 20000 in
theorem del_region (B T0 T1 T2 : Nat) (w : World) (H : Ho) (s : Sl) (F : R5) (fa : Option Addr) (fm fc : Nat) (gq off : Nat) (hs : Nat → Hd) (g4 : Nat) (W : World) (hd : dlS B T0 T1 T2 w H s [.bool F.e, .int .u32 (F.i : Int), .bool F.r, .int .i64 F.d, .slice fa fm fc] gq off hs g4 W) (hf : ∀ V, Below B w V → isBytes V fa fm fc F.l) (hfm : fm ≤ 1048576) (hn3 : s.n3 ≤ 1000) (t0 t1 t5 t6 t7 t8 t9 t10 t11 t12 t13 t14 t15 t16 t17 t18 t19 t20 t21 t22 t23 t24 t25 t26 t27 t28 t29 t30 t31 t32 t33 t34 t35 t36 t37 t38 t39 t40 t41 t42 t43 t44 t45 t46 t47 t48 t49 : Value) (Q : Exit → Act → World → Prop)
    (hQ : ∀ gd kd gx x' g' o' k' W', x' = .slice (some ⟨g', o', none⟩) (s.n3 + 1) k' → dlT B T0 T1 T2 w (fHo H (H.ff ++ [F])) (fSl s g' o' (s.n3 + 1) k') [.bool F.e, .int .u32 (F.i : Int), .bool F.r, .int .i64 F.d, .slice fa fm fc] g4 W' → Q .normal ⟨#[t0, t1, .pointer (some ⟨w.heap.size, 0, none⟩), .pointer (some ⟨w.heap.size + 1, 0, none⟩), .pointer (some ⟨w.heap.size + 1 + 1, 0, none⟩), t5, t6, t7, t8, t9, t10, t11, t12, t13, t14, t15, t16, t17, t18, t19, t20, t21, t22, t23, t24, t25, t26, t27, t28, t29, t30, t31, t32, t33, t34, t35, t36, t37, t38, t39, .pointer (some ⟨w.heap.size, 6, none⟩), .slice (some ⟨gq, off, none⟩) s.n3 s.k3, .agg [.bool F.e, .int .u32 (F.i : Int), .bool F.r, .int .i64 F.d, .slice fa fm fc].toArray, frV F.e F.i F.r F.d (some ⟨gd, 0, none⟩) fm kd, .slice (some ⟨gx, 0, none⟩) 1 1, x', .pointer (some ⟨w.heap.size, 6, none⟩), t47, t48, t49], []⟩ W') :
    (Code.region 8 #[{ dst := some 40, op := Op.fieldAddr 35 (Operand.tmp 2) 3, type := 0, pos := "l3_host.go:268", after := #[], guard := none }, { dst := some 41, op := Op.load 32 (Operand.tmp 40), type := 32, pos := "l3_host.go:268", after := #[{ on := 0, ground := Ground.data }], guard := none }, { dst := some 42, op := Op.load 25 (Operand.tmp 3), type := 25, pos := "l3_host.go:268", after := #[], guard := none }, { dst := some 43, op := Op.call { callee := Callee.value (Operand.func 136), args := #[Operand.tmp 42], argTypes := #[25] }, type := 25, pos := "l3_host.go:268", after := #[{ on := 2, ground := Ground.data }], guard := none }, { dst := some 44, op := Op.buildSlice 32 1 #[(0, Operand.tmp 43)], type := 32, pos := "l3_host.go:268", after := #[{ on := 3, ground := Ground.data }], guard := none }, { dst := some 45, op := Op.call { callee := Callee.builtin Builtin.append, args := #[Operand.tmp 41, Operand.tmp 44], argTypes := #[32, 32] }, type := 32, pos := "l3_host.go:268", after := #[{ on := 1, ground := Ground.data }, { on := 4, ground := Ground.data }, { on := 3, ground := Ground.chain }], guard := none }, { dst := some 46, op := Op.fieldAddr 35 (Operand.tmp 2) 3, type := 0, pos := "l3_host.go:268", after := #[{ on := 0, ground := Ground.phase }, { on := 1, ground := Ground.phase }, { on := 2, ground := Ground.phase }, { on := 3, ground := Ground.phase }, { on := 4, ground := Ground.phase }, { on := 5, ground := Ground.phase }], guard := none }, { dst := none, op := Op.store 32 (Operand.tmp 46) (Operand.tmp 45), type := 0, pos := "l3_host.go:268", after := #[{ on := 6, ground := Ground.data }, { on := 5, ground := Ground.data }, { on := 5, ground := Ground.chain }, { on := 0, ground := Ground.phase }, { on := 1, ground := Ground.phase }, { on := 2, ground := Ground.phase }, { on := 3, ground := Ground.phase }, { on := 4, ground := Ground.phase }, { on := 5, ground := Ground.phase }], guard := none }] true).wp Tryz.prog Q ⟨#[t0, t1, .pointer (some ⟨w.heap.size, 0, none⟩), .pointer (some ⟨w.heap.size + 1, 0, none⟩), .pointer (some ⟨w.heap.size + 1 + 1, 0, none⟩), t5, t6, t7, t8, t9, t10, t11, t12, t13, t14, t15, t16, t17, t18, t19, t20, t21, t22, t23, t24, t25, t26, t27, t28, t29, t30, t31, t32, t33, t34, t35, t36, t37, t38, t39, t40, t41, t42, t43, t44, t45, t46, t47, t48, t49], []⟩ W := by
  have HD : Hid (dlS B T0 T1 T2 w H s [.bool F.e, .int .u32 (F.i : Int), .bool F.r, .int .i64 F.d, .slice fa fm fc] gq off hs g4 (World.drew W)) := hd.below (Below.refl _ _).drew
  have HFA : Hid (∀ V, Below B w V → isBytes V fa fm fc F.l) := hf
  have HQ : Hid (∀ gd kd gx x' g' o' k' W', x' = .slice (some ⟨g', o', none⟩) (s.n3 + 1) k' → dlT B T0 T1 T2 w (fHo H (H.ff ++ [F])) (fSl s g' o' (s.n3 + 1) k') [.bool F.e, .int .u32 (F.i : Int), .bool F.r, .int .i64 F.d, .slice fa fm fc] g4 W' → Q .normal ⟨#[t0, t1, .pointer (some ⟨w.heap.size, 0, none⟩), .pointer (some ⟨w.heap.size + 1, 0, none⟩), .pointer (some ⟨w.heap.size + 1 + 1, 0, none⟩), t5, t6, t7, t8, t9, t10, t11, t12, t13, t14, t15, t16, t17, t18, t19, t20, t21, t22, t23, t24, t25, t26, t27, t28, t29, t30, t31, t32, t33, t34, t35, t36, t37, t38, t39, .pointer (some ⟨w.heap.size, 6, none⟩), .slice (some ⟨gq, off, none⟩) s.n3 s.k3, .agg [.bool F.e, .int .u32 (F.i : Int), .bool F.r, .int .i64 F.d, .slice fa fm fc].toArray, frV F.e F.i F.r F.d (some ⟨gd, 0, none⟩) fm kd, .slice (some ⟨gx, 0, none⟩) 1 1, x', .pointer (some ⟨w.heap.size, 6, none⟩), t47, t48, t49], []⟩ W') := hQ
  clear hd hf hQ
  refine reg_join (Q1 := fun a a' W' => ∃ gd kd gx x' g' o' k', x' = .slice (some ⟨g', o', none⟩) (s.n3 + 1) k' ∧ a' = ⟨#[t0, t1, .pointer (some ⟨w.heap.size, 0, none⟩), .pointer (some ⟨w.heap.size + 1, 0, none⟩), .pointer (some ⟨w.heap.size + 1 + 1, 0, none⟩), t5, t6, t7, t8, t9, t10, t11, t12, t13, t14, t15, t16, t17, t18, t19, t20, t21, t22, t23, t24, t25, t26, t27, t28, t29, t30, t31, t32, t33, t34, t35, t36, t37, t38, t39, .pointer (some ⟨w.heap.size, 6, none⟩), .slice (some ⟨gq, off, none⟩) s.n3 s.k3, .agg [.bool F.e, .int .u32 (F.i : Int), .bool F.r, .int .i64 F.d, .slice fa fm fc].toArray, frV F.e F.i F.r F.d (some ⟨gd, 0, none⟩) fm kd, .slice (some ⟨gx, 0, none⟩) 1 1, x', .pointer (some ⟨w.heap.size, 6, none⟩), t47, t48, t49], []⟩ ∧ dlT B T0 T1 T2 w (fHo H (H.ff ++ [F])) (fSl s g' o' (s.n3 + 1) k') [.bool F.e, .int .u32 (F.i : Int), .bool F.r, .int .i64 F.d, .slice fa fm fc] g4 W') ?_ ?_
  rotate_left
  · rintro a' W' ⟨gd, kd, gx, x', g', o', k', h1, rfl, h2⟩
    exact HQ.out gd kd gx x' g' o' k' W' h1 h2
  clear HQ Q
  refine wp_region_held (S := fun X => blk X (w.heap.size + 1) [.bool F.e, .int .u32 (F.i : Int), .bool F.r, .int .i64 F.d, .slice fa fm fc] 25) (by kernel_rfl) ?_
  change wpAnyH Tryz.prog _ _ _ _ _ _ _ (World.drew W)
  generalize World.drew W = v0 at *
  have hS : blk v0 (w.heap.size + 1) [.bool F.e, .int .u32 (F.i : Int), .bool F.r, .int .i64 F.d, .slice fa fm fc] 25 := HD.out.f
  have HX6 : Hid (∀ X, blk X w.heap.size (hoL H s) 35 → X.cell? ⟨w.heap.size, 6, none⟩ = some (.slice (some ⟨gq, off, none⟩) s.n3 s.k3)) := fun X hX => by
    have := hX.cell 6 _ (by unfold hoL; rfl)
    rw [HD.out.e3] at this
    exact this
  refine wpAnyH_take (i := 0) (v := .pointer (some ⟨w.heap.size, 6, none⟩)) rfl (by kernel_rfl) (by kernel_rfl) (by kernel_rfl) (fun _ _ _ h => nomatch h.1) (Or.inl ⟨by rfl, ?_⟩) hS ?_
  · intro W hSw
    clear hS
    go_simp
  simp only [Act.put, liA, liB, liC, liD, liE]
  refine wpAnyH_take (i := 2) (v := .agg [.bool F.e, .int .u32 (F.i : Int), .bool F.r, .int .i64 F.d, .slice fa fm fc].toArray) rfl (by kernel_rfl) (by kernel_rfl) (by kernel_rfl) (fun _ _ _ h => nomatch h.1) (yieldsIf_load_mid (by rfl) 25 _ rfl (w.heap.size + 1) 0 rfl [.bool F.e, .int .u32 (F.i : Int), .bool F.r, .int .i64 F.d, .slice fa fm fc] _ (fun X h => h.load) Tryz.underlying25 rfl sz93) hS ?_
  simp only [Act.put, liA, liB, liC, liD, liE, liF]
  refine wpAnyH_all (rs := [1, 3]) (by kernel_rfl) (by simp) ?_
  refine AllReadyH.cons rfl (fun K2 hK2 => ?_) (AllReadyH.cons rfl (fun K2 hK2 => ?_) AllReadyH.nil)
  · have x6 := HX6.out _ HD.out.p
    go_simp
    refine hK2.out _ _ hS (fun hS2 => ?_)
    clear hK2 K2 hS2 x6
    refine wpAnyH_all (rs := [3]) (by kernel_rfl) (by simp) ?_
    refine AllReadyH.cons rfl (fun K2 hK2 => ?_) AllReadyH.nil
    go_simp
    refine (l1copyFrame_any _ F.e F.i F.r F.d fa fm fc F.l (HFA.out _ HD.out.bl) hfm).mono ?_
    rintro o v1 ⟨gd, kd, rfl, ⟨q1, q2, q3, q4⟩, hb1⟩
    have hS5 : blk v1 (w.heap.size + 1) [.bool F.e, .int .u32 (F.i : Int), .bool F.r, .int .i64 F.d, .slice fa fm fc] 25 := hS.below hb1
    have HD1 : Hid (dlS B T0 T1 T2 w H s [.bool F.e, .int .u32 (F.i : Int), .bool F.r, .int .i64 F.d, .slice fa fm fc] gq off hs g4 v1) := HD.out.below hb1
    have HG : Hid (isBytes v1 (some ⟨gd, 0, none⟩) fm kd F.l ∧ w.heap.size + 1 + 1 < gd ∧ gd < v1.heap.size ∧ gd ≠ g4) := ⟨q3.now, by have := HD.out.r.lt; omega, q2, by have := HD.out.qlo.2; omega⟩
    clear q1 q2 q3 q4 hb1
    go_wp2_with fail
    refine hK2.out _ _ hS5 (fun hS2 => ?_)
    clear hK2 K2 hS5 hS HD
    have hS := hS2
    have HD : Hid (dlS B T0 T1 T2 w H s [.bool F.e, .int .u32 (F.i : Int), .bool F.r, .int .i64 F.d, .slice fa fm fc] gq off hs g4 v1) := HD1.out
    clear hS2 HD1
    refine wpAnyH_all (rs := [4]) (by kernel_rfl) (by simp) ?_
    refine AllReadyH.cons rfl (fun K2 hK2 => ?_) AllReadyH.nil
    go_simp
    have bA : Below v1.heap.size v1 (v1.alloc (.cells [.bool F.e, .int .u32 (F.i : Int), .bool F.r, .int .i64 F.d, .slice (some ⟨gd, 0, none⟩) fm kd].toArray 25)) := (Below.refl _ _).alloc (Nat.le_refl _) _
    have hSA : blk (v1.alloc (.cells [.bool F.e, .int .u32 (F.i : Int), .bool F.r, .int .i64 F.d, .slice (some ⟨gd, 0, none⟩) fm kd].toArray 25)) (w.heap.size + 1) [.bool F.e, .int .u32 (F.i : Int), .bool F.r, .int .i64 F.d, .slice fa fm fc] 25 := hS.below bA
    have HNB : Hid ((v1.alloc (.cells [.bool F.e, .int .u32 (F.i : Int), .bool F.r, .int .i64 F.d, .slice (some ⟨gd, 0, none⟩) fm kd].toArray 25)).heap[v1.heap.size]? = some (.cells [.bool F.e, .int .u32 (F.i : Int), .bool F.r, .int .i64 F.d, .slice (some ⟨gd, 0, none⟩) fm kd].toArray 25)) := heap_alloc_new v1 _
    have HD1 : Hid (dlS B T0 T1 T2 w H s [.bool F.e, .int .u32 (F.i : Int), .bool F.r, .int .i64 F.d, .slice fa fm fc] gq off hs g4 (v1.alloc (.cells [.bool F.e, .int .u32 (F.i : Int), .bool F.r, .int .i64 F.d, .slice (some ⟨gd, 0, none⟩) fm kd].toArray 25))) := HD.out.below bA
    have HG1 : Hid (isBytes (v1.alloc (.cells [.bool F.e, .int .u32 (F.i : Int), .bool F.r, .int .i64 F.d, .slice (some ⟨gd, 0, none⟩) fm kd].toArray 25)) (some ⟨gd, 0, none⟩) fm kd F.l ∧ w.heap.size + 1 + 1 < gd ∧ gd < (v1.alloc (.cells [.bool F.e, .int .u32 (F.i : Int), .bool F.r, .int .i64 F.d, .slice (some ⟨gd, 0, none⟩) fm kd].toArray 25)).heap.size ∧ gd ≠ g4) := ⟨HG.out.1.below bA, HG.out.2.1, by have := HG.out.2.2.1; have := bA.size; omega, HG.out.2.2.2⟩
    refine hK2.out _ _ hSA (fun hS2 => ?_)
    clear hK2 K2 hSA hS bA HD HG
    generalize (v1.alloc (.cells [.bool F.e, .int .u32 (F.i : Int), .bool F.r, .int .i64 F.d, .slice (some ⟨gd, 0, none⟩) fm kd].toArray 25)) = v2 at *
    generalize v1.heap.size = ib at *
    have hS := hS2
    have HD : Hid (dlS B T0 T1 T2 w H s [.bool F.e, .int .u32 (F.i : Int), .bool F.r, .int .i64 F.d, .slice fa fm fc] gq off hs g4 v2) := HD1.out
    have HG : Hid (isBytes v2 (some ⟨gd, 0, none⟩) fm kd F.l ∧ w.heap.size + 1 + 1 < gd ∧ gd < v2.heap.size ∧ gd ≠ g4) := HG1.out
    clear hS2 HD1 HG1
    refine wpAnyH_all (rs := [5]) (by kernel_rfl) (by simp) ?_
    refine AllReadyH.cons rfl (fun K2 hK2 => ?_) AllReadyH.nil
    rw [if_pos (by rfl)]
    have HO : Hid (w.heap.size ≠ gq ∧ w.heap.size + 1 ≠ gq) := by
      have h1 := HD.out.ff.hi
      have h2 := HD.out.o
      exact ⟨by omega, by omega⟩
    refine wp_append5 (.tmp 41) (.tmp 44) rfl gq off s.n3 s.k3 (ffC H.ff hs) rfl (by rw [ffC_len, HD.out.ff.len]) HD.out.ff.olds ib [.bool F.e, .int .u32 (F.i : Int), .bool F.r, .int .i64 F.d, .slice (some ⟨gd, 0, none⟩) fm kd] rfl rfl HNB.out (by simp [Value.oneCell']) (by omega) (fun hr j hj => ?_) (fun hr => ?_) (fun hr v' w' hown hg => ?_)
    · have := HD.out.ff.sp (s.n3 * 5 + j) (by simp at hj; omega)
      rw [← Nat.add_assoc] at this
      exact this
    · have hT := HD.out.room F gd fm kd HG.out.1 HG.out.2 hr
      have HT : Hid (dlT B T0 T1 T2 w (fHo H (H.ff ++ [F])) (fSl s gq off (s.n3 + 1) s.k3) [.bool F.e, .int .u32 (F.i : Int), .bool F.r, .int .i64 F.d, .slice fa fm fc] g4 ((v2.setCells gq (off + s.n3 * 5) [.bool F.e, .int .u32 (F.i : Int), .bool F.r, .int .i64 F.d, .slice (some ⟨gd, 0, none⟩) fm kd]).setCell ⟨w.heap.size, 6, none⟩ (.slice (some ⟨gq, off, none⟩) (s.n3 + 1) s.k3))) := hT
      have hS5 : blk (v2.setCells gq (off + s.n3 * 5) [.bool F.e, .int .u32 (F.i : Int), .bool F.r, .int .i64 F.d, .slice (some ⟨gd, 0, none⟩) fm kd]) (w.heap.size + 1) [.bool F.e, .int .u32 (F.i : Int), .bool F.r, .int .i64 F.d, .slice fa fm fc] 25 := hS.other HO.out.2 _ _
      have HP : Hid (blk (v2.setCells gq (off + s.n3 * 5) [.bool F.e, .int .u32 (F.i : Int), .bool F.r, .int .i64 F.d, .slice (some ⟨gd, 0, none⟩) fm kd]) w.heap.size (hoL H s) 35) := HD.out.p.other HO.out.1 _ _
      clear hT
      refine hK2.out _ _ hS5 (fun hS2 => ?_)
      clear hK2 K2 hS5 hS HD HG HNB
      have hS := hS2
      clear hS2
      generalize v2.setCells gq (off + s.n3 * 5) [.bool F.e, .int .u32 (F.i : Int), .bool F.r, .int .i64 F.d, .slice (some ⟨gd, 0, none⟩) fm kd] = vz at *
      simp only [Act.put, liA, liB, liC, liD, liE, liF]
      refine wpAnyH_take (i := 6) (v := .pointer (some ⟨w.heap.size, 6, none⟩)) rfl (by kernel_rfl) (by kernel_rfl) (by kernel_rfl) (fun _ _ _ h => nomatch h.1) (Or.inl ⟨by rfl, ?_⟩) hS ?_
      · intro W hSw
        clear hS
        go_simp
      simp only [Act.put, liA, liB, liC, liD, liE, liF]
      refine wpAnyH_all (rs := [7]) (by kernel_rfl) (by simp) ?_
      refine AllReadyH.cons rfl (fun K2 hK2 => ?_) AllReadyH.nil
      have x6 := HX6.out _ HP.out
      have z6 := HP.out.free 6
      go_simp
      refine hK2.out _ _ (hS.setOther (by omega) _ _) (fun hS2 => ?_)
      clear hK2 K2 hS2
      refine wpAnyH_done (by kernel_rfl) ?_ _
      exact ⟨rfl, gd, kd, ib, _, gq, off, s.k3, rfl, rfl, HT.out⟩
    · obtain ⟨g', k', rfl, hT⟩ := HD.out.grow F gd fm kd HG.out.1 HG.out.2 v' w' hown hg
      have HT : Hid (dlT B T0 T1 T2 w (fHo H (H.ff ++ [F])) (fSl s g' 0 (s.n3 + 1) k') [.bool F.e, .int .u32 (F.i : Int), .bool F.r, .int .i64 F.d, .slice fa fm fc] g4 (w'.setCell ⟨w.heap.size, 6, none⟩ (.slice (some ⟨g', 0, none⟩) (s.n3 + 1) k'))) := hT
      have hS5 : blk w' (w.heap.size + 1) [.bool F.e, .int .u32 (F.i : Int), .bool F.r, .int .i64 F.d, .slice fa fm fc] 25 := hS.kept (hg.block _ hS.lt (by simp))
      have HP : Hid (blk w' w.heap.size (hoL H s) 35) := HD.out.p.kept (hg.block _ HD.out.p.lt (by simp))
      clear hT
      refine hK2.out _ _ hS5 (fun hS2 => ?_)
      clear hK2 K2 hS5 hS hown hg HD HG HNB
      have hS := hS2
      clear hS2
      simp only [Act.put, liA, liB, liC, liD, liE, liF]
      refine wpAnyH_take (i := 6) (v := .pointer (some ⟨w.heap.size, 6, none⟩)) rfl (by kernel_rfl) (by kernel_rfl) (by kernel_rfl) (fun _ _ _ h => nomatch h.1) (Or.inl ⟨by rfl, ?_⟩) hS ?_
      · intro W hSw
        clear hS
        go_simp
      simp only [Act.put, liA, liB, liC, liD, liE, liF]
      refine wpAnyH_all (rs := [7]) (by kernel_rfl) (by simp) ?_
      refine AllReadyH.cons rfl (fun K2 hK2 => ?_) AllReadyH.nil
      have x6 := HX6.out _ HP.out
      have z6 := HP.out.free 6
      go_simp
      refine hK2.out _ _ (hS.setOther (by omega) _ _) (fun hS2 => ?_)
      clear hK2 K2 hS2
      refine wpAnyH_done (by kernel_rfl) ?_ _
      exact ⟨rfl, gd, kd, ib, _, g', 0, k', rfl, rfl, HT.out⟩
  · go_simp
    refine (l1copyFrame_any _ F.e F.i F.r F.d fa fm fc F.l (HFA.out _ HD.out.bl) hfm).mono ?_
    rintro o v1 ⟨gd, kd, rfl, ⟨q1, q2, q3, q4⟩, hb1⟩
    have hS5 : blk v1 (w.heap.size + 1) [.bool F.e, .int .u32 (F.i : Int), .bool F.r, .int .i64 F.d, .slice fa fm fc] 25 := hS.below hb1
    have HD1 : Hid (dlS B T0 T1 T2 w H s [.bool F.e, .int .u32 (F.i : Int), .bool F.r, .int .i64 F.d, .slice fa fm fc] gq off hs g4 v1) := HD.out.below hb1
    have HG : Hid (isBytes v1 (some ⟨gd, 0, none⟩) fm kd F.l ∧ w.heap.size + 1 + 1 < gd ∧ gd < v1.heap.size ∧ gd ≠ g4) := ⟨q3.now, by have := HD.out.r.lt; omega, q2, by have := HD.out.qlo.2; omega⟩
    clear q1 q2 q3 q4 hb1
    go_wp2_with fail
    refine hK2.out _ _ hS5 (fun hS2 => ?_)
    clear hK2 K2 hS5 hS HD
    have hS := hS2
    have HD : Hid (dlS B T0 T1 T2 w H s [.bool F.e, .int .u32 (F.i : Int), .bool F.r, .int .i64 F.d, .slice fa fm fc] gq off hs g4 v1) := HD1.out
    clear hS2 HD1
    refine wpAnyH_all (rs := [1, 4]) (by kernel_rfl) (by simp) ?_
    refine AllReadyH.cons rfl (fun K2 hK2 => ?_) (AllReadyH.cons rfl (fun K2 hK2 => ?_) AllReadyH.nil)
    · have x6 := HX6.out _ HD.out.p
      go_simp
      refine hK2.out _ _ hS (fun hS2 => ?_)
      clear hK2 K2 hS2 x6
      refine wpAnyH_all (rs := [4]) (by kernel_rfl) (by simp) ?_
      refine AllReadyH.cons rfl (fun K2 hK2 => ?_) AllReadyH.nil
      go_simp
      have bA : Below v1.heap.size v1 (v1.alloc (.cells [.bool F.e, .int .u32 (F.i : Int), .bool F.r, .int .i64 F.d, .slice (some ⟨gd, 0, none⟩) fm kd].toArray 25)) := (Below.refl _ _).alloc (Nat.le_refl _) _
      have hSA : blk (v1.alloc (.cells [.bool F.e, .int .u32 (F.i : Int), .bool F.r, .int .i64 F.d, .slice (some ⟨gd, 0, none⟩) fm kd].toArray 25)) (w.heap.size + 1) [.bool F.e, .int .u32 (F.i : Int), .bool F.r, .int .i64 F.d, .slice fa fm fc] 25 := hS.below bA
      have HNB : Hid ((v1.alloc (.cells [.bool F.e, .int .u32 (F.i : Int), .bool F.r, .int .i64 F.d, .slice (some ⟨gd, 0, none⟩) fm kd].toArray 25)).heap[v1.heap.size]? = some (.cells [.bool F.e, .int .u32 (F.i : Int), .bool F.r, .int .i64 F.d, .slice (some ⟨gd, 0, none⟩) fm kd].toArray 25)) := heap_alloc_new v1 _
      have HD1 : Hid (dlS B T0 T1 T2 w H s [.bool F.e, .int .u32 (F.i : Int), .bool F.r, .int .i64 F.d, .slice fa fm fc] gq off hs g4 (v1.alloc (.cells [.bool F.e, .int .u32 (F.i : Int), .bool F.r, .int .i64 F.d, .slice (some ⟨gd, 0, none⟩) fm kd].toArray 25))) := HD.out.below bA
      have HG1 : Hid (isBytes (v1.alloc (.cells [.bool F.e, .int .u32 (F.i : Int), .bool F.r, .int .i64 F.d, .slice (some ⟨gd, 0, none⟩) fm kd].toArray 25)) (some ⟨gd, 0, none⟩) fm kd F.l ∧ w.heap.size + 1 + 1 < gd ∧ gd < (v1.alloc (.cells [.bool F.e, .int .u32 (F.i : Int), .bool F.r, .int .i64 F.d, .slice (some ⟨gd, 0, none⟩) fm kd].toArray 25)).heap.size ∧ gd ≠ g4) := ⟨HG.out.1.below bA, HG.out.2.1, by have := HG.out.2.2.1; have := bA.size; omega, HG.out.2.2.2⟩
      refine hK2.out _ _ hSA (fun hS2 => ?_)
      clear hK2 K2 hSA hS bA HD HG
      generalize (v1.alloc (.cells [.bool F.e, .int .u32 (F.i : Int), .bool F.r, .int .i64 F.d, .slice (some ⟨gd, 0, none⟩) fm kd].toArray 25)) = v2 at *
      generalize v1.heap.size = ib at *
      have hS := hS2
      have HD : Hid (dlS B T0 T1 T2 w H s [.bool F.e, .int .u32 (F.i : Int), .bool F.r, .int .i64 F.d, .slice fa fm fc] gq off hs g4 v2) := HD1.out
      have HG : Hid (isBytes v2 (some ⟨gd, 0, none⟩) fm kd F.l ∧ w.heap.size + 1 + 1 < gd ∧ gd < v2.heap.size ∧ gd ≠ g4) := HG1.out
      clear hS2 HD1 HG1
      refine wpAnyH_all (rs := [5]) (by kernel_rfl) (by simp) ?_
      refine AllReadyH.cons rfl (fun K2 hK2 => ?_) AllReadyH.nil
      rw [if_pos (by rfl)]
      have HO : Hid (w.heap.size ≠ gq ∧ w.heap.size + 1 ≠ gq) := by
        have h1 := HD.out.ff.hi
        have h2 := HD.out.o
        exact ⟨by omega, by omega⟩
      refine wp_append5 (.tmp 41) (.tmp 44) rfl gq off s.n3 s.k3 (ffC H.ff hs) rfl (by rw [ffC_len, HD.out.ff.len]) HD.out.ff.olds ib [.bool F.e, .int .u32 (F.i : Int), .bool F.r, .int .i64 F.d, .slice (some ⟨gd, 0, none⟩) fm kd] rfl rfl HNB.out (by simp [Value.oneCell']) (by omega) (fun hr j hj => ?_) (fun hr => ?_) (fun hr v' w' hown hg => ?_)
      · have := HD.out.ff.sp (s.n3 * 5 + j) (by simp at hj; omega)
        rw [← Nat.add_assoc] at this
        exact this
      · have hT := HD.out.room F gd fm kd HG.out.1 HG.out.2 hr
        have HT : Hid (dlT B T0 T1 T2 w (fHo H (H.ff ++ [F])) (fSl s gq off (s.n3 + 1) s.k3) [.bool F.e, .int .u32 (F.i : Int), .bool F.r, .int .i64 F.d, .slice fa fm fc] g4 ((v2.setCells gq (off + s.n3 * 5) [.bool F.e, .int .u32 (F.i : Int), .bool F.r, .int .i64 F.d, .slice (some ⟨gd, 0, none⟩) fm kd]).setCell ⟨w.heap.size, 6, none⟩ (.slice (some ⟨gq, off, none⟩) (s.n3 + 1) s.k3))) := hT
        have hS5 : blk (v2.setCells gq (off + s.n3 * 5) [.bool F.e, .int .u32 (F.i : Int), .bool F.r, .int .i64 F.d, .slice (some ⟨gd, 0, none⟩) fm kd]) (w.heap.size + 1) [.bool F.e, .int .u32 (F.i : Int), .bool F.r, .int .i64 F.d, .slice fa fm fc] 25 := hS.other HO.out.2 _ _
        have HP : Hid (blk (v2.setCells gq (off + s.n3 * 5) [.bool F.e, .int .u32 (F.i : Int), .bool F.r, .int .i64 F.d, .slice (some ⟨gd, 0, none⟩) fm kd]) w.heap.size (hoL H s) 35) := HD.out.p.other HO.out.1 _ _
        clear hT
        refine hK2.out _ _ hS5 (fun hS2 => ?_)
        clear hK2 K2 hS5 hS HD HG HNB
        have hS := hS2
        clear hS2
        generalize v2.setCells gq (off + s.n3 * 5) [.bool F.e, .int .u32 (F.i : Int), .bool F.r, .int .i64 F.d, .slice (some ⟨gd, 0, none⟩) fm kd] = vz at *
        simp only [Act.put, liA, liB, liC, liD, liE, liF]
        refine wpAnyH_take (i := 6) (v := .pointer (some ⟨w.heap.size, 6, none⟩)) rfl (by kernel_rfl) (by kernel_rfl) (by kernel_rfl) (fun _ _ _ h => nomatch h.1) (Or.inl ⟨by rfl, ?_⟩) hS ?_
        · intro W hSw
          clear hS
          go_simp
        simp only [Act.put, liA, liB, liC, liD, liE, liF]
        refine wpAnyH_all (rs := [7]) (by kernel_rfl) (by simp) ?_
        refine AllReadyH.cons rfl (fun K2 hK2 => ?_) AllReadyH.nil
        have x6 := HX6.out _ HP.out
        have z6 := HP.out.free 6
        go_simp
        refine hK2.out _ _ (hS.setOther (by omega) _ _) (fun hS2 => ?_)
        clear hK2 K2 hS2
        refine wpAnyH_done (by kernel_rfl) ?_ _
        exact ⟨rfl, gd, kd, ib, _, gq, off, s.k3, rfl, rfl, HT.out⟩
      · obtain ⟨g', k', rfl, hT⟩ := HD.out.grow F gd fm kd HG.out.1 HG.out.2 v' w' hown hg
        have HT : Hid (dlT B T0 T1 T2 w (fHo H (H.ff ++ [F])) (fSl s g' 0 (s.n3 + 1) k') [.bool F.e, .int .u32 (F.i : Int), .bool F.r, .int .i64 F.d, .slice fa fm fc] g4 (w'.setCell ⟨w.heap.size, 6, none⟩ (.slice (some ⟨g', 0, none⟩) (s.n3 + 1) k'))) := hT
        have hS5 : blk w' (w.heap.size + 1) [.bool F.e, .int .u32 (F.i : Int), .bool F.r, .int .i64 F.d, .slice fa fm fc] 25 := hS.kept (hg.block _ hS.lt (by simp))
        have HP : Hid (blk w' w.heap.size (hoL H s) 35) := HD.out.p.kept (hg.block _ HD.out.p.lt (by simp))
        clear hT
        refine hK2.out _ _ hS5 (fun hS2 => ?_)
        clear hK2 K2 hS5 hS hown hg HD HG HNB
        have hS := hS2
        clear hS2
        simp only [Act.put, liA, liB, liC, liD, liE, liF]
        refine wpAnyH_take (i := 6) (v := .pointer (some ⟨w.heap.size, 6, none⟩)) rfl (by kernel_rfl) (by kernel_rfl) (by kernel_rfl) (fun _ _ _ h => nomatch h.1) (Or.inl ⟨by rfl, ?_⟩) hS ?_
        · intro W hSw
          clear hS
          go_simp
        simp only [Act.put, liA, liB, liC, liD, liE, liF]
        refine wpAnyH_all (rs := [7]) (by kernel_rfl) (by simp) ?_
        refine AllReadyH.cons rfl (fun K2 hK2 => ?_) AllReadyH.nil
        have x6 := HX6.out _ HP.out
        have z6 := HP.out.free 6
        go_simp
        refine hK2.out _ _ (hS.setOther (by omega) _ _) (fun hS2 => ?_)
        clear hK2 K2 hS2
        refine wpAnyH_done (by kernel_rfl) ?_ _
        exact ⟨rfl, gd, kd, ib, _, g', 0, k', rfl, rfl, HT.out⟩
    · go_simp
      have bA : Below v1.heap.size v1 (v1.alloc (.cells [.bool F.e, .int .u32 (F.i : Int), .bool F.r, .int .i64 F.d, .slice (some ⟨gd, 0, none⟩) fm kd].toArray 25)) := (Below.refl _ _).alloc (Nat.le_refl _) _
      have hSA : blk (v1.alloc (.cells [.bool F.e, .int .u32 (F.i : Int), .bool F.r, .int .i64 F.d, .slice (some ⟨gd, 0, none⟩) fm kd].toArray 25)) (w.heap.size + 1) [.bool F.e, .int .u32 (F.i : Int), .bool F.r, .int .i64 F.d, .slice fa fm fc] 25 := hS.below bA
      have HNB : Hid ((v1.alloc (.cells [.bool F.e, .int .u32 (F.i : Int), .bool F.r, .int .i64 F.d, .slice (some ⟨gd, 0, none⟩) fm kd].toArray 25)).heap[v1.heap.size]? = some (.cells [.bool F.e, .int .u32 (F.i : Int), .bool F.r, .int .i64 F.d, .slice (some ⟨gd, 0, none⟩) fm kd].toArray 25)) := heap_alloc_new v1 _
      have HD1 : Hid (dlS B T0 T1 T2 w H s [.bool F.e, .int .u32 (F.i : Int), .bool F.r, .int .i64 F.d, .slice fa fm fc] gq off hs g4 (v1.alloc (.cells [.bool F.e, .int .u32 (F.i : Int), .bool F.r, .int .i64 F.d, .slice (some ⟨gd, 0, none⟩) fm kd].toArray 25))) := HD.out.below bA
      have HG1 : Hid (isBytes (v1.alloc (.cells [.bool F.e, .int .u32 (F.i : Int), .bool F.r, .int .i64 F.d, .slice (some ⟨gd, 0, none⟩) fm kd].toArray 25)) (some ⟨gd, 0, none⟩) fm kd F.l ∧ w.heap.size + 1 + 1 < gd ∧ gd < (v1.alloc (.cells [.bool F.e, .int .u32 (F.i : Int), .bool F.r, .int .i64 F.d, .slice (some ⟨gd, 0, none⟩) fm kd].toArray 25)).heap.size ∧ gd ≠ g4) := ⟨HG.out.1.below bA, HG.out.2.1, by have := HG.out.2.2.1; have := bA.size; omega, HG.out.2.2.2⟩
      refine hK2.out _ _ hSA (fun hS2 => ?_)
      clear hK2 K2 hSA hS bA HD HG
      generalize (v1.alloc (.cells [.bool F.e, .int .u32 (F.i : Int), .bool F.r, .int .i64 F.d, .slice (some ⟨gd, 0, none⟩) fm kd].toArray 25)) = v2 at *
      generalize v1.heap.size = ib at *
      have hS := hS2
      have HD : Hid (dlS B T0 T1 T2 w H s [.bool F.e, .int .u32 (F.i : Int), .bool F.r, .int .i64 F.d, .slice fa fm fc] gq off hs g4 v2) := HD1.out
      have HG : Hid (isBytes v2 (some ⟨gd, 0, none⟩) fm kd F.l ∧ w.heap.size + 1 + 1 < gd ∧ gd < v2.heap.size ∧ gd ≠ g4) := HG1.out
      clear hS2 HD1 HG1
      refine wpAnyH_all (rs := [1]) (by kernel_rfl) (by simp) ?_
      refine AllReadyH.cons rfl (fun K2 hK2 => ?_) AllReadyH.nil
      have x6 := HX6.out _ HD.out.p
      go_simp
      refine hK2.out _ _ hS (fun hS2 => ?_)
      clear hK2 K2 hS2 x6
      refine wpAnyH_all (rs := [5]) (by kernel_rfl) (by simp) ?_
      refine AllReadyH.cons rfl (fun K2 hK2 => ?_) AllReadyH.nil
      rw [if_pos (by rfl)]
      have HO : Hid (w.heap.size ≠ gq ∧ w.heap.size + 1 ≠ gq) := by
        have h1 := HD.out.ff.hi
        have h2 := HD.out.o
        exact ⟨by omega, by omega⟩
      refine wp_append5 (.tmp 41) (.tmp 44) rfl gq off s.n3 s.k3 (ffC H.ff hs) rfl (by rw [ffC_len, HD.out.ff.len]) HD.out.ff.olds ib [.bool F.e, .int .u32 (F.i : Int), .bool F.r, .int .i64 F.d, .slice (some ⟨gd, 0, none⟩) fm kd] rfl rfl HNB.out (by simp [Value.oneCell']) (by omega) (fun hr j hj => ?_) (fun hr => ?_) (fun hr v' w' hown hg => ?_)
      · have := HD.out.ff.sp (s.n3 * 5 + j) (by simp at hj; omega)
        rw [← Nat.add_assoc] at this
        exact this
      · have hT := HD.out.room F gd fm kd HG.out.1 HG.out.2 hr
        have HT : Hid (dlT B T0 T1 T2 w (fHo H (H.ff ++ [F])) (fSl s gq off (s.n3 + 1) s.k3) [.bool F.e, .int .u32 (F.i : Int), .bool F.r, .int .i64 F.d, .slice fa fm fc] g4 ((v2.setCells gq (off + s.n3 * 5) [.bool F.e, .int .u32 (F.i : Int), .bool F.r, .int .i64 F.d, .slice (some ⟨gd, 0, none⟩) fm kd]).setCell ⟨w.heap.size, 6, none⟩ (.slice (some ⟨gq, off, none⟩) (s.n3 + 1) s.k3))) := hT
        have hS5 : blk (v2.setCells gq (off + s.n3 * 5) [.bool F.e, .int .u32 (F.i : Int), .bool F.r, .int .i64 F.d, .slice (some ⟨gd, 0, none⟩) fm kd]) (w.heap.size + 1) [.bool F.e, .int .u32 (F.i : Int), .bool F.r, .int .i64 F.d, .slice fa fm fc] 25 := hS.other HO.out.2 _ _
        have HP : Hid (blk (v2.setCells gq (off + s.n3 * 5) [.bool F.e, .int .u32 (F.i : Int), .bool F.r, .int .i64 F.d, .slice (some ⟨gd, 0, none⟩) fm kd]) w.heap.size (hoL H s) 35) := HD.out.p.other HO.out.1 _ _
        clear hT
        refine hK2.out _ _ hS5 (fun hS2 => ?_)
        clear hK2 K2 hS5 hS HD HG HNB
        have hS := hS2
        clear hS2
        generalize v2.setCells gq (off + s.n3 * 5) [.bool F.e, .int .u32 (F.i : Int), .bool F.r, .int .i64 F.d, .slice (some ⟨gd, 0, none⟩) fm kd] = vz at *
        simp only [Act.put, liA, liB, liC, liD, liE, liF]
        refine wpAnyH_take (i := 6) (v := .pointer (some ⟨w.heap.size, 6, none⟩)) rfl (by kernel_rfl) (by kernel_rfl) (by kernel_rfl) (fun _ _ _ h => nomatch h.1) (Or.inl ⟨by rfl, ?_⟩) hS ?_
        · intro W hSw
          clear hS
          go_simp
        simp only [Act.put, liA, liB, liC, liD, liE, liF]
        refine wpAnyH_all (rs := [7]) (by kernel_rfl) (by simp) ?_
        refine AllReadyH.cons rfl (fun K2 hK2 => ?_) AllReadyH.nil
        have x6 := HX6.out _ HP.out
        have z6 := HP.out.free 6
        go_simp
        refine hK2.out _ _ (hS.setOther (by omega) _ _) (fun hS2 => ?_)
        clear hK2 K2 hS2
        refine wpAnyH_done (by kernel_rfl) ?_ _
        exact ⟨rfl, gd, kd, ib, _, gq, off, s.k3, rfl, rfl, HT.out⟩
      · obtain ⟨g', k', rfl, hT⟩ := HD.out.grow F gd fm kd HG.out.1 HG.out.2 v' w' hown hg
        have HT : Hid (dlT B T0 T1 T2 w (fHo H (H.ff ++ [F])) (fSl s g' 0 (s.n3 + 1) k') [.bool F.e, .int .u32 (F.i : Int), .bool F.r, .int .i64 F.d, .slice fa fm fc] g4 (w'.setCell ⟨w.heap.size, 6, none⟩ (.slice (some ⟨g', 0, none⟩) (s.n3 + 1) k'))) := hT
        have hS5 : blk w' (w.heap.size + 1) [.bool F.e, .int .u32 (F.i : Int), .bool F.r, .int .i64 F.d, .slice fa fm fc] 25 := hS.kept (hg.block _ hS.lt (by simp))
        have HP : Hid (blk w' w.heap.size (hoL H s) 35) := HD.out.p.kept (hg.block _ HD.out.p.lt (by simp))
        clear hT
        refine hK2.out _ _ hS5 (fun hS2 => ?_)
        clear hK2 K2 hS5 hS hown hg HD HG HNB
        have hS := hS2
        clear hS2
        simp only [Act.put, liA, liB, liC, liD, liE, liF]
        refine wpAnyH_take (i := 6) (v := .pointer (some ⟨w.heap.size, 6, none⟩)) rfl (by kernel_rfl) (by kernel_rfl) (by kernel_rfl) (fun _ _ _ h => nomatch h.1) (Or.inl ⟨by rfl, ?_⟩) hS ?_
        · intro W hSw
          clear hS
          go_simp
        simp only [Act.put, liA, liB, liC, liD, liE, liF]
        refine wpAnyH_all (rs := [7]) (by kernel_rfl) (by simp) ?_
        refine AllReadyH.cons rfl (fun K2 hK2 => ?_) AllReadyH.nil
        have x6 := HX6.out _ HP.out
        have z6 := HP.out.free 6
        go_simp
        refine hK2.out _ _ (hS.setOther (by omega) _ _) (fun hS2 => ?_)
        clear hK2 K2 hS2
        refine wpAnyH_done (by kernel_rfl) ?_ _
        exact ⟨rfl, gd, kd, ib, _, g', 0, k', rfl, rfl, HT.out⟩
end Go.Proofs.YtaamahohdnbpiaaGreat
namespace Go.Proofs.YtaamahohdnbpiaaGreat
open Go.RowKit
set_option linter.unusedVariables false
theorem dl_new {B T0 T1 T2 : Nat} {w v0 w8 W : World} {H : Ho} {s : Sl} {FL : List Value} {gq off g4 k3 : Nat} {f : R5} {r : List R5} {ev : R8} {g' n' k' : Nat} (hS : spS B T0 T1 T2 H s v0) (hbw : Below w.heap.size w v0) (hB : sbS w (hoL H s) FL v0) (hT2 : T2 ≤ w.heap.size) (hq3 : rowQ5 T1 T2 25 gq s.n3 s.k3 H.ff w) (hff : H.ff = f :: r) (hg4 : g4 < w.heap.size ∧ T2 ≤ g4)
    (hV : ∀ V : World, (∀ x, T2 ≤ x → x < w.heap.size ∨ v0.heap.size ≤ x → x < w8.heap.size → V.heap[x]? = w8.heap[x]?) → w8.heap.size ≤ V.heap.size → rowQ8 T2 V.heap.size 46 g' n' k' (quP H.c3 H.qu ev) V)
    (he : ∀ q, q ≠ g4 → q < v0.heap.size → w8.heap[q]? = v0.heap[q]?) (hb : Below T2 v0 w8) (oth : ∀ x, x ≠ w.heap.size → W.heap[x]? = w8.heap[x]?) (hsz : W.heap.size = w8.heap.size)
    (hp : blk W w.heap.size (hoL (fHo (postHo H ev) r) (fSl (qSl s g' n' k') gq off r.length k3)) 35) (hok : (off = 5 ∧ k3 = s.k3 - 1) ∨ (off = 0 ∧ k3 = 0 ∧ s.k3 = 1)) (hbl : Below B w W) : ∃ hs, dlS B T0 T1 T2 w (fHo (postHo H ev) r) (fSl (qSl s g' n' k') gq off r.length k3) FL gq off hs g' W := by
  obtain ⟨hs, hR, hlo⟩ := hq3.ffR
  have hhi := hR.hi
  have hpl := hB.p.lt
  have keep : ∀ x, x < T2 → W.heap[x]? = w.heap[x]? := fun x hx => by
    rw [oth x (by omega), he x (by omega) (by omega)]
    exact hbw.block x (by omega)
  have hR2 : ffR W gq 0 s.n3 s.k3 s.k3 H.ff hs T2 := hR.keep fun x hx => by
    rcases hx with rfl | ⟨j, hj, e⟩
    · exact keep _ hhi
    · obtain ⟨_, b, e1, _, e3⟩ := hR.dat j hj
      rw [e] at e1
      cases e1
      exact keep _ e3
  have hl3 := hR.len
  rw [hff] at hl3 hR2
  have en : s.n3 - 1 = r.length := by simp only [List.length_cons] at hl3; omega
  have hf' : blk W (w.heap.size + 1) FL 25 := (hB.f.kept (he _ (by omega) hB.f.lt)).kept (oth _ (by omega))
  have hr' : blk W (w.heap.size + 1 + 1) Z10 35 := (hB.r.kept (he _ (by omega) hB.r.lt)).kept (oth _ (by omega))
  rcases hok with ⟨rfl, rfl⟩ | ⟨rfl, rfl, h1⟩
  · have h5 := hR2.tail
    rw [en, Nat.zero_add] at h5
    exact ⟨_, dlS.new hS hT2 hg4.2 hpl hV he hb.size oth hsz hp hf' hr' h5 hlo hbl⟩
  · rw [h1] at hR2
    have h5 := hR2.tail1
    rw [en] at h5
    exact ⟨_, dlS.new hS hT2 hg4.2 hpl hV he hb.size oth hsz hp hf' hr' h5 hlo hbl⟩
theorem loP_in {c3 : Int} {qu : List R8} {lo : Int} (h : 0 ≤ lo ∧ lo ≤ 100000) : 0 ≤ loP c3 qu lo ∧ loP c3 qu lo ≤ 100000 := by
  unfold loP
  split
  · exact h
  · split
    · omega
    · exact h
theorem quP_le (c3 : Int) (qu : List R8) (ev : R8) : (quP c3 qu ev).length ≤ qu.length + 1 := by
  unfold quP
  split <;> simp
end Go.Proofs.YtaamahohdnbpiaaGreat
