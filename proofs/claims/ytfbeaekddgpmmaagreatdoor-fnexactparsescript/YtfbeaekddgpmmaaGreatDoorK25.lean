import Derived.Test.YtfbeaekddgpmmaaGreatDoorK24
import Derived.Deep.RegionLaw
namespace Go.Proofs.YtfbeaekddgpmmaaGreatDoor
open Go.RowKit Kd
set_option linter.unusedVariables false
theorem step_app_row {ops : Array Oper} {E' : Prop} {o : Oper} {a : Act} {K : Act → World → Prop} {Q : Exit → Act → World → Prop} {w : World} (hg : o.guard = none) (s x : Operand) (T E : TypeId) (Z : Value) (sz by_ : Nat) (hi0 : (Tryz.prog.info? E).map (fun i => (i.zero, i.size, i.bytes)) = some (some Z, sz, by_)) (hu : Tryz.prog.underlying T = some (.slice E)) (hZ : Z.cells.size = sz) (hsz : 0 < sz) (hby : by_ ≤ 1000)
    (ho : o.op = .call { callee := .builtin .append, args := #[s, x], argTypes := #[T, T] })
    (B n : Nat) (v : Value) (xs : List Value) (hs : a.eval s = v) (hown : w.ownsRow B E sz v n xs) (b : Nat) (news : List Value) (hx : a.eval x = .slice (some ⟨b, 0, none⟩) 1 1) (hl : news.length = sz) (hb : w.heap[b]? = some (.cells news.toArray E)) (h1 : ∀ u ∈ news, u.oneCell' = true) (hn : n ≤ 1000000) (hB : B ≤ w.heap.size)
    (h : ∀ g' k' w', w'.ownsRow B E sz (.slice (some ⟨g', 0, none⟩) (n + 1) k') (n + 1) (xs ++ news) → w.grownBy w' v.ownBlock → (v.ownBlock = some g' ∨ g' = w.heap.size) → K (a.put o.dst (.slice (some ⟨g', 0, none⟩) (n + 1) k')) w') :
    if Region.wanted o (yielded ops a.tmps) = true then Oper.wp Tryz.prog o a w K Q else E' := by
  have hw : Region.wanted o (yielded ops a.tmps) = true := by simp [Region.wanted, hg]
  rw [if_pos hw]
  exact wp_app_row s x T E Z sz by_ hi0 hu hZ hsz hby ho B n v xs hs hown b news hx hl hb h1 hn hB h
abbrev l6' (k a b c d : Int) : List Value := [.int .i64 k, .int .i64 a, .int .i64 b, .int .i64 c, .int .i64 d, .slice none 0 0]
abbrev l4 (a b c d : Int) : List Value := [.int .i64 a, .int .i64 b, .int .i64 c, .int .i64 d]
/-- the reader at work, wherever its rows lie -/
def rdE (B rb gr : Nat) (S : Sc) (ln : Int) (bg : Bool) (W : World) : Prop := ∃ us os h1 h2, rdS B rb gr S ln bg us os h1 h2 W
theorem rdE.below {B rb gr : Nat} {S : Sc} {ln : Int} {bg : Bool} {W V : World} (h : rdE B rb gr S ln bg W) (hb : Below W.heap.size W V) : rdE B rb gr S ln bg V := by
  obtain ⟨us, os, h1, h2, h⟩ := h
  exact ⟨us, os, h1, h2, h.below hb⟩
/-- the reader behind one setup more -/
theorem rdS.addU {B rb gr : Nat} {S : Sc} {ln : Int} {bg : Bool} {us : List (Su × Hd)} {os : List (Od × Hd)} {h1 h2 : Hd} {W V : World} (h : rdS B rb gr S ln bg us os h1 h2 W) (x : Su) (hd : Hd) (hf : W.ownsRow B 60 3 (hdV hd) x.fs.length (x.fs.flatMap e3)) (hfr : ∀ r ∈ us, ∀ y, r.2.1 = some y → hd.1 ≠ some y) {g' k' : Nat}
    (ho : V.ownsRow B 55 6 (.slice (some ⟨g', 0, none⟩) (us.length + 1) k') (us.length + 1) (us.flatMap (fun r => kS.enc r.1 r.2) ++ kS.enc x hd)) (hg : W.grownBy V (hdV h1).ownBlock) (hB : B ≤ W.heap.size) :
    rdS B rb gr { S with su := S.su ++ [x] } ln bg (us ++ [(x, hd)]) os (some ⟨g', 0, none⟩, us.length + 1, k') h2 (V.setCell ⟨rb, 2, none⟩ (.slice (some ⟨g', 0, none⟩) (us.length + 1) k')) ∧ Ky [55, 60, 67, 73] B W (V.setCell ⟨rb, 2, none⟩ (.slice (some ⟨g', 0, none⟩) (us.length + 1) k')) := by
  have k1 : Ky [55] B W V := h.su.grow (by decide) hg hB
  have hr : blk V rb (rdL h1 h2 (S.ticks : Int) gr ln bg) 73 := k1.blk h.r (by decide)
  have k2 : Ky [73] B V (V.setCell ⟨rb, 2, none⟩ (.slice (some ⟨g', 0, none⟩) (us.length + 1) k')) := (Ky.refl _ _ _).setCell _ _ _ h.lo ⟨_, _, _, hr, by simp⟩
  refine ⟨⟨?_, (h.su.app (by decide) (x, hd) hf hfr ho hg).ky k2 (by decide) (by decide), (h.od.ky k1 (by decide) (by decide)).ky k2 (by decide) (by decide), by rw [List.map_append, h.eu]; rfl, h.eo, k2.blk (k1.blk h.lr (by decide)) (by decide), h.lo⟩, (k1.mono (by simp) (Nat.le_refl _)).trans (k2.mono (by simp) (Nat.le_refl _))⟩
  exact hr.set 2 (.slice (some ⟨g', 0, none⟩) (us.length + 1) k')
set_option maxHeartbeats 4000000 in
set_option maxRecDepth 20000 in
/-- (*reader).takeNode -/
theorem takeNode_any {B rb gr : Nat} {S : Sc} {ln : Int} {bg : Bool} {us : List (Su × Hd)} {os : List (Od × Hd)} {h1 h2 : Hd} (gv cp K a b c d : Nat) (w : World) (hR : rdS B rb gr S ln bg us os h1 h2 w) (hS : S.su.length ≤ 32) (hne : gv ≠ rb) (c0 : w.cell? ⟨gv, 0, none⟩ = some (.int .i64 (K : Int))) (c3 : w.cell? ⟨gv, 3, none⟩ = some (.int .i64 (a : Int))) (c6 : w.cell? ⟨gv, 6, none⟩ = some (.int .i64 (b : Int))) (c9 : w.cell? ⟨gv, 9, none⟩ = some (.int .i64 (c : Int))) (c12 : w.cell? ⟨gv, 12, none⟩ = some (.int .i64 (d : Int))) :
    Calls Tryz.prog 49 #[.pointer (some ⟨rb, 0, none⟩), .slice (some ⟨gv, 0, none⟩) 5 cp] w fun o w' => o = .returned (.bool (decide (S.su.length < 32) && H.okCf a b c d)) ∧ rdE B rb gr { S with su := S.su ++ [⟨K, a, b, c, d, []⟩] } ln bg w' ∧ Ky [55, 60, 67, 73] B w w' := by
  have hgl : gv < w.heap.size := World.block_lt_of_cell? w _ c0
  have HR := hidYY hR
  have hgv : gv ≠ w.heap.size := by omega
  have HC := hidYY (fun (V : World) (hV : Below w.heap.size w V) => (hV.cell (p := ⟨gv, 0, none⟩) hgl).trans c0)
  clear hR
  go_enter Tryz.func49, Tryz.ntmps49
  go_wp2
  go_region
  generalize hX : World.drew _ = w1
  have HN := hidYY (blk.new w.drew (l4 0 0 0 0) 52)
  have H1 : Hid (Below w.heap.size w w1 ∧ blk w1 w.heap.size (l4 a b c d) 52) := by
    show _ ∧ _
    rw [← hX]
    exact ⟨((Below.refl _ _).alloc (Nat.le_refl _) _).drew, (blk.new w (l4 a b c d) 52)⟩
  clear hX HN
  obtain ⟨N, hN⟩ : ∃ N, w.heap.size = N := ⟨_, rfl⟩
  have HNE := hidYY hN
  rw [hN] at H1
  have HR1 := hidYY (HR.out.below (V := w1) (by rw [hN]; exact H1.out.1))
  have d0 := HC.out w1 (by rw [hN]; exact H1.out.1)
  have r2 := HR1.out.r.cell 2 _ rfl
  have fr2 := HR1.out.r.free 2
  have n0 := H1.out.2.cell 0 _ rfl
  have n1 := H1.out.2.cell 1 _ rfl
  have n2 := H1.out.2.cell 2 _ rfl
  have n3 := H1.out.2.cell 3 _ rfl
  have hBl : B ≤ w1.heap.size := Nat.le_trans HR1.out.lo (Nat.le_of_lt HR1.out.r.lt)
  have HUL := hidYY HR1.out.ul
  have HNB := hidYY (heap_alloc_new w1 (.cells (l6' K a b c d).toArray 55))
  have HBA : Hid (Below w1.heap.size w1 (w1.alloc (.cells (l6' K a b c d).toArray 55)).drew) := ((Below.refl _ _).alloc (Nat.le_refl _) _).drew
  have HOW := hidYY (HR1.out.below HBA.out)
  have hrl : rb < w1.heap.size := HR1.out.r.lt
  have y2 : (w1.alloc (.cells (l6' K a b c d).toArray 55)).cell? ⟨rb, 2, none⟩ = some (hdV h1) := (World.cell?_alloc_lt _ _ ⟨rb, 2, none⟩ hrl).trans r2
  have hrn : rb ≠ w1.heap.size := Nat.ne_of_lt HR1.out.r.lt
  have HAF : Hid (∀ g' k' (w5 : World), w5.ownsRow B 55 6 (.slice (some ⟨g', 0, none⟩) (us.length + 1) k') (us.length + 1) (us.flatMap (fun r => kS.enc r.1 r.2) ++ l6' K a b c d) → (w1.alloc (.cells (l6' K a b c d).toArray 55)).drew.grownBy w5 (hdV h1).ownBlock → w5.cell? ⟨rb, 2, none⟩ = some (hdV h1) ∧ w5.frozen? ⟨rb, 2, none⟩ = false) := fun g' k' w5 _ hg => by
    have k1 : Ky [55] B _ w5 := HOW.out.su.grow (by decide) hg (Nat.le_trans hBl HBA.out.size)
    have := k1.blk HOW.out.r (by decide)
    exact ⟨this.cell 2 _ rfl, this.free 2⟩
  clear c0 c3 c6 c9 c12
  go_wp2
  rw [hN]
  go_region_law (refine step_app_row rfl (.tmp 28) (.tmp 35) 22 55 _ 6 64 Tryz.info55 Tryz.underlying22 rfl (by decide) (by decide) rfl B us.length (hdV h1) (us.flatMap fun (r : Su × Hd) => kS.enc r.1 r.2) rfl HOW.out.su.own w1.heap.size (l6' K a b c d) rfl rfl HNB.out (by simp [Value.oneCell']) (by have := HUL.out; omega) (by simp; omega) ?_; intro g' k' w5 hown5 hgr5 hgg5; obtain ⟨q2, qf2⟩ := HAF.out g' k' w5 hown5 hgr5; have HOW5 := hidYY hown5; have HGR5 := hidYY hgr5; clear hown5 hgr5 hgg5)
  all_goals
    have hx := HOW.out.addU ⟨K, a, b, c, d, []⟩ noH (World.ownsRow_nil _ _ _ _) (by intro r hr y hy e; cases e) HOW5.out HGR5.out (Nat.le_trans hBl HBA.out.size)
    generalize World.setCell w5 _ _ = w6 at hx ⊢
    have HX6 := hidYY hx
    have HK6 := hidYY (((Ky.of (S := [55, 60, 67, 73]) (H1.out.1.mono (by rw [← hN]; exact Nat.le_refl _) : Below w.heap.size w w1) (Nat.le_trans HR.out.lo (Nat.le_of_lt HR.out.r.lt))).below HBA.out hBl).trans hx.2)
    have hbc := hx.2.blk (H1.out.2.below HBA.out) (by decide)
    have z0 := hbc.cell 0 _ rfl
    have z1 := hbc.cell 1 _ rfl
    have z2 := hbc.cell 2 _ rfl
    have z3 := hbc.cell 3 _ rfl
    have y2 := hx.1.r.cell 2 _ rfl
    have hul := HUL.out.1
    have hB6 : B ≤ w6.heap.size := Nat.le_trans hx.1.lo (Nat.le_of_lt hx.1.r.lt)
    clear hx hbc q2 qf2 HOW5 HGR5 r2 fr2 n0 n1 n2 n3 d0
    by_cases hlt : S.su.length < 32
    · have hle : (((us.length + 1 : Nat)) : Int) ≤ 32 := by omega
      go_wp2_with (first | (go_at_call 72; refine (H.validConfig_any _ _ _ _ _).mono ?_; rintro o w7 ⟨rfl, b7⟩))
      go_ret
      exact ⟨ret_bool (by simp [hlt]), ⟨_, _, _, _, HX6.out.1.below b7⟩, HK6.out.below b7 hB6⟩
    · have hle : ¬ (((us.length + 1 : Nat)) : Int) ≤ 32 := by omega
      go_wp2
      go_ret
      exact ⟨ret_bool (by simp), ⟨_, _, _, _, HX6.out.1⟩, HK6.out⟩
end Go.Proofs.YtfbeaekddgpmmaaGreatDoor
