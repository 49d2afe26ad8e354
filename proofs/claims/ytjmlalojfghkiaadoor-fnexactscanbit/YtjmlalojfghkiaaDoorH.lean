import Derived.Test.YtjmlalojfghkiaaDoorG
namespace Go.Proofs.YtjmlalojfghkiaaDoor
open Go.RowKit
theorem ownsB.setCells {w : World} {B b : Nat} {v : Value} {l : List Nat} (h : ownsB w B v l) (hb : b < B) (o : Nat) (vs : List Value) : ownsB (w.setCells b o vs) B v l := by
  refine ⟨h.1, ?_⟩
  rcases h.2 with ⟨e, e2⟩ | ⟨g1, cap, cur, hv', hb1, hg, hcp, hmx, hsz, htk⟩
  · exact .inl ⟨e, e2⟩
  · exact .inr ⟨g1, cap, cur, hv', hb1, (setCells_other _ _ (by omega) _ _ _).trans hg, hcp, hmx, hsz, htk⟩
theorem ownsB.mono {w : World} {B B' : Nat} {v : Value} {l : List Nat} (h : ownsB w B v l) (hb : B' ≤ B) : ownsB w B' v l := by
  refine ⟨h.1, ?_⟩
  rcases h.2 with ⟨e, e2⟩ | ⟨g1, cap, cur, hv', hb1, hg, hcp, hmx, hsz, htk⟩
  · exact .inl ⟨e, e2⟩
  · exact .inr ⟨g1, cap, cur, hv', by omega, hg, hcp, hmx, hsz, htk⟩
theorem ownsB.below {w w' : World} {B : Nat} {v : Value} {l : List Nat} (h : ownsB w B v l) (hb : Below w.heap.size w w') : ownsB w' B v l := by
  refine ⟨h.1, ?_⟩
  rcases h.2 with ⟨e, e2⟩ | ⟨g1, cap, cur, hv', hb1, hg, hcp, hmx, hsz, htk⟩
  · exact .inl ⟨e, e2⟩
  · exact .inr ⟨g1, cap, cur, hv', hb1, (hb.block _ (lt_of_some hg)).trans hg, hcp, hmx, hsz, htk⟩
set_option maxHeartbeats 2000000 in
set_option maxRecDepth 20000 in
/-- spec.l2copy -/
theorem l2copy_own (w : World) (S : Sc) (a : Option Addr) (n cap : Nat) (h : isBytes w a n cap S.l) (hn : n ≤ 1048576) :
    Calls Tryd.prog 20 #[scV S a n cap] w fun o w' => ∃ g k, o = .returned (scV S (some ⟨g, 0, none⟩) n k) ∧ ownsB w' (w.heap.size + 2) (.slice (some ⟨g, 0, none⟩) n k) S.l ∧ Below w.heap.size w w' := by
  have HH : Hid (isBytes w a n cap S.l) := h
  clear h
  obtain ⟨f, lf, rn, lv, cr, ac, e, i, r, d, l⟩ := S
  go_enter Tryd.func20, Tryd.ntmps20
  go_wp2_with fail
  refine (l1copyFrame_own _ e i r d a n cap l (HH.out.below (((Below.refl _ _).alloc (Nat.le_refl _) _).alloc (by simp) _)) hn).mono ?_
  rintro o w1 ⟨g, k, rfl, ho, hb⟩
  have HP : Hid (blk w1 w.heap.size ([.int .i64 f, .int .i64 lf, .int .i64 rn, .int .i64 lv, .int .i64 cr, .int .i64 ac] ++ [.bool e, .int .u32 (i : Int), .bool r, .int .i64 d, .slice a n cap] ++ []) 31) := ((blk.new w _ 31).alloc _).below hb
  have HR : Hid (blk w1 (w.heap.size + 1) ([] ++ z11 ++ []) 31) := by
    have := (blk.new (w.alloc (.cells [.int .i64 f, .int .i64 lf, .int .i64 rn, .int .i64 lv, .int .i64 cr, .int .i64 ac, .bool e, .int .u32 (i : Int), .bool r, .int .i64 d, .slice a n cap].toArray 31)) z11 31).below hb
    simpa [Hid] using this
  have HB : Hid (Below w.heap.size w w1) := (((Below.refl w.heap.size w).alloc (Nat.le_refl _) _).alloc (by simp) _).trans (hb.mono (by simp; omega))
  have HG : Hid (ownsB w1 (w.heap.size + 2) (.slice (some ⟨g, 0, none⟩) n k) l) := ho.mono (by simp)
  clear hb ho
  go_wp2_with (first
    | (refine wpList_store_mid (P := Tryd.prog) rfl 29 (.tmp 6) (.tmp 5) rfl w.heap.size 6 #[.bool e, .int .u32 (i : Int), .bool r, .int .i64 d, .slice (some ⟨g, 0, none⟩) n k] rfl rfl (HP.out.there 6 5 (by simp)) sz29 (one5 _ _ _ _ _ _ _) ?_; generalize hW2 : World.setCells w1 w.heap.size 6 _ = w2; have HW2 : Hid (World.setCells w1 w.heap.size 6 [.bool e, .int .u32 (i : Int), .bool r, .int .i64 d, .slice (some ⟨g, 0, none⟩) n k] = w2) := hW2; have HP2 : Hid (blk w2 w.heap.size (scL ⟨f, lf, rn, lv, cr, ac, e, i, r, d, l⟩ (some ⟨g, 0, none⟩) n k) 31) := (hW2 ▸ blk.put [.int .i64 f, .int .i64 lf, .int .i64 rn, .int .i64 lv, .int .i64 cr, .int .i64 ac] _ [] _ HP.out rfl); have HR2 : Hid (blk w2 (w.heap.size + 1) ([] ++ z11 ++ []) 31) := (hW2 ▸ HR.out.other (by omega) _ _); clear hW2)
    | (refine wpList_load_mid (P := Tryd.prog) rfl 31 (.tmp 1) rfl w.heap.size 0 rfl _ _ HP2.out.load Tryd.underlying31 rfl sz31 ?_)
    | (refine wpList_store_mid (P := Tryd.prog) rfl 31 (.tmp 2) (.tmp 7) rfl (w.heap.size + 1) 0 _ rfl rfl (HR2.out.there 0 11 (by simp)) sz31 (one11 _ _ _ _ _ _ _ _ _ _ _ _ _) ?_; generalize hW3 : World.setCells w2 (w.heap.size + 1) 0 _ = w3; have HW3 : Hid (World.setCells w2 (w.heap.size + 1) 0 (scL ⟨f, lf, rn, lv, cr, ac, e, i, r, d, l⟩ (some ⟨g, 0, none⟩) n k) = w3) := hW3; clear hW3))
  have e2 := HW2.out
  have e3 := HW3.out
  have hF : blk w3 (w.heap.size + 1) (scL ⟨f, lf, rn, lv, cr, ac, e, i, r, d, l⟩ (some ⟨g, 0, none⟩) n k) 31 := e3 ▸ blk.put [] z11 [] _ HR2.out rfl
  have hL := run_loadVar_mid (P := Tryd.prog) w3 (w.heap.size + 1) 0 31 _ _ hF.load Tryd.underlying31 rfl sz31
  refine bodyPost_ret (v := scV ⟨f, lf, rn, lv, cr, ac, e, i, r, d, l⟩ (some ⟨g, 0, none⟩) n k) (results_cell Tryd.results20 _ w3 (w.heap.size + 1) _ rfl hL) rfl ?_
  subst e2
  subst e3
  exact ⟨g, k, rfl, (HG.out.setCells (by omega) _ _).setCells (by omega) _ _, setCells_below (by omega) _ _ (setCells_below (by omega) _ _ HB.out)⟩
end Go.Proofs.YtjmlalojfghkiaaDoor
