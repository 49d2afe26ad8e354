import Derived.Test.YtfbeaekddgpmmaaGreatDoorK26
namespace Go.Proofs.YtfbeaekddgpmmaaGreatDoor
open Go.RowKit Kd
set_option linter.unusedVariables false
/-- a plain order: no frame -/
theorem orderN {B rb gr : Nat} {S : Sc} {ln : Int} {bg : Bool} {us : List (Su × Hd)} {os : List (Od × Hd)} {h1 h2 : Hd} (op node tag fr ct : Nat) (w : World) (hR : rdS B rb gr S ln bg us os h1 h2 w) (hS : S.od.length ≤ 500) :
    Calls Tryz.prog 75 #[.pointer (some ⟨rb, 0, none⟩), .agg #[.int .i64 0, .int .i64 (op : Int), .int .i64 (node : Int), .int .i64 (tag : Int), .bool false, .int .u32 0, .bool false, .int .i64 0, .slice none 0 0, .int .i64 (fr : Int), .int .i64 (ct : Int)]] w fun o w' => o = .returned (.bool (ordB S (odNone S.ticks op node tag fr ct))) ∧ rdE B rb gr { S with od := S.od ++ [odNone S.ticks op node tag fr ct] } ln bg w' ∧ Ky [55, 60, 67, 73] B w w' :=
  order_any 0 (odNone S.ticks op node tag fr ct) noH w hR rfl hS (World.ownsRow_nil _ _ _ _) (by simp [odNone]) (by intro r hr y hy e; cases e)
set_option maxHeartbeats 2000000 in
set_option maxRecDepth 20000 in
theorem takeRestart_any {B rb gr : Nat} {S : Sc} {ln : Int} {bg : Bool} {us : List (Su × Hd)} {os : List (Od × Hd)} {h1 h2 : Hd} (gv cp n : Nat) (w : World) (hR : rdS B rb gr S ln bg us os h1 h2 w) (hS : S.od.length ≤ 500) (c0 : w.cell? ⟨gv, 0, none⟩ = some (.int .i64 (n : Int))) :
    Calls Tryz.prog 54 #[.pointer (some ⟨rb, 0, none⟩), .slice (some ⟨gv, 0, none⟩) 1 cp] w fun o w' => o = .returned (.bool (ordB S (odNone S.ticks 3 n 0 0 0))) ∧ rdE B rb gr { S with od := S.od ++ [odNone S.ticks 3 n 0 0 0] } ln bg w' ∧ Ky [55, 60, 67, 73] B w w' := by
  have HO := hidYY (orderN 3 n 0 0 0 w hR hS)
  clear hR
  go_enter Tryz.func54, Tryz.ntmps54
  go_wp2_with (first | (go_at_call 75; refine HO.out.mono ?_; rintro o w1 ⟨rfl, hE, hK⟩))
  go_ret
  exact ⟨rfl, hE, hK⟩
set_option maxHeartbeats 2000000 in
set_option maxRecDepth 20000 in
theorem takeFetch_any {B rb gr : Nat} {S : Sc} {ln : Int} {bg : Bool} {us : List (Su × Hd)} {os : List (Od × Hd)} {h1 h2 : Hd} (gv cp n : Nat) (w : World) (hR : rdS B rb gr S ln bg us os h1 h2 w) (hS : S.od.length ≤ 500) (c0 : w.cell? ⟨gv, 0, none⟩ = some (.int .i64 (n : Int))) :
    Calls Tryz.prog 55 #[.pointer (some ⟨rb, 0, none⟩), .slice (some ⟨gv, 0, none⟩) 1 cp] w fun o w' => o = .returned (.bool (ordB S (odNone S.ticks 4 n 0 0 0))) ∧ rdE B rb gr { S with od := S.od ++ [odNone S.ticks 4 n 0 0 0] } ln bg w' ∧ Ky [55, 60, 67, 73] B w w' := by
  have HO := hidYY (orderN 4 n 0 0 0 w hR hS)
  clear hR
  go_enter Tryz.func55, Tryz.ntmps55
  go_wp2_with (first | (go_at_call 75; refine HO.out.mono ?_; rintro o w1 ⟨rfl, hE, hK⟩))
  go_ret
  exact ⟨rfl, hE, hK⟩
set_option maxHeartbeats 2000000 in
set_option maxRecDepth 20000 in
theorem takeDrop_any {B rb gr : Nat} {S : Sc} {ln : Int} {bg : Bool} {us : List (Su × Hd)} {os : List (Od × Hd)} {h1 h2 : Hd} (gv cp n m : Nat) (w : World) (hR : rdS B rb gr S ln bg us os h1 h2 w) (hS : S.od.length ≤ 500) (c0 : w.cell? ⟨gv, 0, none⟩ = some (.int .i64 (n : Int))) (c3 : w.cell? ⟨gv, 3, none⟩ = some (.int .i64 (m : Int))) :
    Calls Tryz.prog 53 #[.pointer (some ⟨rb, 0, none⟩), .slice (some ⟨gv, 0, none⟩) 2 cp] w fun o w' => o = .returned (.bool (ordB S (odNone S.ticks 2 n m 0 0))) ∧ rdE B rb gr { S with od := S.od ++ [odNone S.ticks 2 n m 0 0] } ln bg w' ∧ Ky [55, 60, 67, 73] B w w' := by
  have HO := hidYY (orderN 2 n m 0 0 w.drew (hR.below (Below.refl _ _).drew) hS)
  have HK := hidYY (Ky.of (S := [55, 60, 67, 73]) (B := B) ((Below.refl w.heap.size w).drew) (Nat.le_trans hR.lo (Nat.le_of_lt hR.r.lt)))
  clear hR
  go_enter Tryz.func53, Tryz.ntmps53
  go_wp2
  go_region_with (go_at_call 75; refine HO.out.mono ?_; rintro o w1 ⟨rfl, hE, hK⟩)
  all_goals
    go_wp2
    go_ret
    exact ⟨rfl, hE, HK.out.trans hK⟩
set_option maxHeartbeats 2000000 in
/-- isExt -/
theorem isExt_any (n x : Int) (h : Hd) (w : World) : Calls Tryz.prog 73 #[vlV n x (hdV h)] w fun o w' => o = .returned (.bool (n == 1)) ∧ Below w.heap.size w w' := by
  go_enter Tryz.func73, Tryz.ntmps73
  go_wp2
  go_ret
  exact ⟨rfl, (Below.refl _ _).alloc (Nat.le_refl _) _⟩
abbrev z11 (n fr ct : Int) : List Value := [.int .i64 0, .int .i64 5, .int .i64 n, .int .i64 0, .bool false, .int .u32 0, .bool false, .int .i64 0, .slice none 0 0, .int .i64 fr, .int .i64 ct]
set_option maxHeartbeats 4000000 in
set_option maxRecDepth 20000 in
theorem takeFlip_any {B rb gr : Nat} {S : Sc} {ln : Int} {bg : Bool} {us : List (Su × Hd)} {os : List (Od × Hd)} {h1 h2 : Hd} (gv cp n a c : Nat) (w : World) (hR : rdS B rb gr S ln bg us os h1 h2 w) (hS : S.od.length ≤ 500) (ht : S.ticks ≤ 6000) (ha : a < 1000000) (hc : c < 1000000) (c0 : w.cell? ⟨gv, 0, none⟩ = some (.int .i64 (n : Int))) (c3 : w.cell? ⟨gv, 3, none⟩ = some (.int .i64 (a : Int))) (c6 : w.cell? ⟨gv, 6, none⟩ = some (.int .i64 (c : Int))) :
    Calls Tryz.prog 56 #[.pointer (some ⟨rb, 0, none⟩), .slice (some ⟨gv, 0, none⟩) 3 cp] w fun o w' => o = .returned (.bool (ordB S (odNone S.ticks 5 n 0 (S.ticks + a) c) && decide (a ≤ 6000) && decide (c ≤ 6000))) ∧ rdE B rb gr { S with od := S.od ++ [odNone S.ticks 5 n 0 (S.ticks + a) c] } ln bg w' ∧ Ky [55, 60, 67, 73] B w w' := by
  have r4 := hR.r.cell 4 _ rfl
  have hBl : B ≤ w.heap.size := Nat.le_trans hR.lo (Nat.le_of_lt hR.r.lt)
  have HR := hidYY hR
  have hw : IntKind.i64.wrap ((S.ticks : Int) + (a : Int)) = (S.ticks : Int) + (a : Int) := i64_wrap _ (by omega) (by omega)
  have hgl : gv < w.heap.size := World.block_lt_of_cell? w _ c0
  have hrl : rb < w.heap.size := hR.r.lt
  have hrn : rb ≠ w.heap.size := Nat.ne_of_lt hrl
  have hgn : gv ≠ w.heap.size := Nat.ne_of_lt hgl
  have y4 : (w.alloc (.cells (List.toArray [.int .i64 0, .int .i64 0, .int .i64 0, .int .i64 0, .bool false, .int .u32 0, .bool false, .int .i64 0, .slice none 0 0, .int .i64 0, .int .i64 0]) 67)).cell? ⟨rb, 4, none⟩ = some (.int .i64 (S.ticks : Int)) := (World.cell?_alloc_lt _ _ ⟨rb, 4, none⟩ hrl).trans r4
  have y0 : (w.alloc (.cells (List.toArray [.int .i64 0, .int .i64 0, .int .i64 0, .int .i64 0, .bool false, .int .u32 0, .bool false, .int .i64 0, .slice none 0 0, .int .i64 0, .int .i64 0]) 67)).cell? ⟨gv, 0, none⟩ = some (.int .i64 (n : Int)) := (World.cell?_alloc_lt _ _ ⟨gv, 0, none⟩ hgl).trans c0
  clear hR
  go_enter Tryz.func56, Tryz.ntmps56
  go_upto_region 1 with fail
  go_cut [5, 6] (fun x y wx => x = .int .i64 (a : Int) ∧ y = .int .i64 (c : Int) ∧ wx = w.drew)
  case first =>
    go_region
    all_goals
      go_wp2_with fail
      go_meet
      case rel => exact ⟨rfl, rfl, rfl⟩
  case rest =>
  obtain ⟨rfl, rfl, rfl⟩ := hcut
  go_upto_region 2 with fail
  go_cut [7] (fun p wx => p = .pointer (some ⟨w.heap.size, 0, none⟩) ∧ blk wx w.heap.size (z11 n ((S.ticks : Int) + a) c) 67 ∧ Below w.heap.size w wx)
  case first =>
    go_region
    all_goals
      go_wp2_with fail
      go_meet
      case rel => exact ⟨rfl, blk.new w (z11 n ((S.ticks : Int) + a) c) 67, ((Below.refl _ _).alloc (Nat.le_refl _) _).drew.drew⟩
  case rest =>
  obtain ⟨rfl, hF, hB⟩ := hcut
  have HF := hidYY hF
  have HRC := hidYY (HR.out.below hB)
  have HKC := hidYY (Ky.of (S := [55, 60, 67, 73]) (B := B) hB hBl)
  have HO : Hid (Calls Tryz.prog 75 #[.pointer (some ⟨rb, 0, none⟩), .agg (z11 n ((S.ticks : Int) + a) c).toArray] wc fun o w' => o = .returned (.bool (ordB S (odNone S.ticks 5 n 0 (S.ticks + a) c))) ∧ rdE B rb gr { S with od := S.od ++ [odNone S.ticks 5 n 0 (S.ticks + a) c] } ln bg w' ∧ Ky [55, 60, 67, 73] B wc w') := by
    have := orderN 5 n 0 (S.ticks + a) c wc HRC.out hS
    have e : (((S.ticks + a : Nat)) : Int) = (S.ticks : Int) + (a : Int) := by omega
    rw [e] at this
    exact this
  clear c0 c3 c6 r4 hF hB y4 y0
  go_wp2_with (first | (refine wpList_load_mid (P := Tryz.prog) rfl 67 (.tmp 7) rfl w.heap.size 0 rfl (z11 n ((S.ticks : Int) + a) c) _ HF.out.load Tryz.underlying67 rfl sz67 ?_))
  refine HO.out.mono ?_
  rintro o w7 ⟨rfl, hE, hK⟩
  have HE := hidYY hE
  have HK := hidYY (HKC.out.trans hK)
  clear hE hK
  obtain ⟨bb, hbb⟩ : ∃ bb, ordB S (odNone S.ticks 5 n 0 (S.ticks + a) c) = bb := ⟨_, rfl⟩
  have HBB := hidYY hbb
  rw [hbb]
  cases bb
  · go_wp2
    go_ret
    refine ⟨ret_bool ?_, HE.out, HK.out⟩
    rw [HBB.out]
    rfl
  · go_wp2
    all_goals
      go_ret
      refine ⟨ret_bool ?_, HE.out, HK.out⟩
      first
        | (rw [← Bool.decide_and]; apply decide_eq_decide.2; omega)
        | (rw [HBB.out, Bool.true_and, ← Bool.decide_and]; apply decide_eq_decide.2; omega)
end Go.Proofs.YtfbeaekddgpmmaaGreatDoor
