import Derived.Test.YtfbeaekddgpmmaaGreatDoorK42
import Derived.Test.YtfbeaekddgpmmaaGreatDoorK28
namespace Go.Proofs.YtfbeaekddgpmmaaGreatDoor
open Go.RowKit Kd
set_option linter.unusedVariables false
theorem len1 {r : List (List UInt8)} (h : r.length = 1) : ∃ a, r = [a] := by
  match r, h with
  | [a], _ => exact ⟨a, rfl⟩
theorem len2 {r : List (List UInt8)} (h : r.length = 2) : ∃ a b, r = [a, b] := by
  match r, h with
  | [a, b], _ => exact ⟨a, b, rfl⟩
theorem len3 {r : List (List UInt8)} (h : r.length = 3) : ∃ a b c, r = [a, b, c] := by
  match r, h with
  | [a, b, c], _ => exact ⟨a, b, c, rfl⟩
theorem len4 {r : List (List UInt8)} (h : r.length = 4) : ∃ a b c d, r = [a, b, c, d] := by
  match r, h with
  | [a, b, c, d], _ => exact ⟨a, b, c, d, rfl⟩
theorem len5 {r : List (List UInt8)} (h : r.length = 5) : ∃ a b c d e, r = [a, b, c, d, e] := by
  match r, h with
  | [a, b, c, d, e], _ => exact ⟨a, b, c, d, e, rfl⟩
theorem go_od {S : Sc} {x a : List UInt8} {rest : List (List UInt8)} (h1 : (x == wRun) = false) (h2 : (x == wNode) = false) (h3 : (x == wAccept) = false) (y : Od) (bb : Bool) (ey : odOf S.ticks (x :: a :: rest) = y) (eb : odOk (x :: a :: rest) = bb) :
    (S.su.length ≤ nv (wk (x :: a :: rest) 1) → goL S (x :: a :: rest) = (6, S)) ∧ (nv (wk (x :: a :: rest) 1) < S.su.length → (¬ (bb = true ∧ S.od.length < 500) → goL S (x :: a :: rest) = (6, S)) ∧ (bb = true → S.od.length < 500 → goL S (x :: a :: rest) = (0, { S with od := S.od ++ [y] }))) := by
  subst ey eb
  have e : wk (x :: a :: rest) 1 = wd a := rfl
  rw [goL_od S x a rest h1 h2 h3, e]
  refine ⟨fun h => if_pos h, fun h => ⟨fun h4 => ?_, fun h4 h5 => ?_⟩⟩
  · rw [if_neg (by omega), if_neg h4]
  · rw [if_neg (by omega), if_pos ⟨h4, h5⟩]
theorem wk0 {x y : List UInt8} {rest : List (List UInt8)} {b : Bool} (h : (x == y) = b) : ((wk (x :: rest) 0).toList == y) = b := by
  rw [wk_zero, wd_toList]; exact h
theorem z110 {s : ByteArray} (h : formI 110 s = true) : s.size ≤ 8 := Nat.le_trans (num_size s 10 6 h) (by decide)
theorem z104 {s : ByteArray} (h : formI 104 s = true) : s.size ≤ 8 := num_size s 16 8 h
theorem v104 {s : ByteArray} (h : formI 104 s = true) : hv s < 4294967296 := num_lt s 16 8 (by decide) h
/-- a data word as the order wants it -/
theorem d100 {s : ByteArray} (h : formI 100 s = true) : s.size ≤ 16 ∧ (s.size % 2 = 0 ∨ (s.toList == wDash) = true) ∧ ∀ k, 2 * k + 2 ≤ s.size → byteAt s k < 256 := by
  have h' : ((s.toList == wDash) || (decide (s.size % 2 = 0) && numB (lt s) 16 16)) = true := h
  cases hd : (s.toList == wDash)
  · rw [hd, Bool.false_or, Bool.and_eq_true, decide_eq_true_eq] at h'
    have hsz := num_size s 16 16 h'.2
    refine ⟨hsz, .inl h'.1, fun k hk => byteAt_lt s k ?_⟩
    cases hc : dgB (lt (s.extract (2 * k) (2 * k + 2))) 16 2
    · have := pairs_bad s k (by omega) hc
      rw [this] at h'
      cases h'.2
    · rfl
  · have e : s.toList = wDash := by simpa using hd
    have e1 : s.size = 1 := by
      obtain ⟨⟨l⟩⟩ := s
      rw [toList_mk] at e
      subst e
      rfl
    exact ⟨by omega, .inr rfl, fun k hk => by omega⟩
theorem ok_send (a b c d e : List UInt8) : odOk [wSend, a, b, c, d, e] = (decide (nv (wd b) ≤ 9999) && J.validB ((wd c).toList == wX) (hv (wd d)) false ((datL (wd e)).length : Int) (datL (wd e)).length) := by
  unfold odOk
  rw [od_send]
  simp
theorem ok_ask (a b c d e : List UInt8) : odOk [wAsk, a, b, c, d, e] = (decide (nv (wd b) ≤ 9999) && J.validB ((wd c).toList == wX) (hv (wd d)) true ((nv (wd e)) : Int) 0) := by
  unfold odOk
  rw [od_ask]
  simp
theorem ok_none (op n t fr ct : Nat) : (decide ((odNone 0 op n t fr ct).tag ≤ 9999) && J.validB (odNone 0 op n t fr ct).e (odNone 0 op n t fr ct).id (odNone 0 op n t fr ct).r ((odNone 0 op n t fr ct).dlc : Int) (odNone 0 op n t fr ct).d.length && decide ((odNone 0 op n t fr ct).fr ≤ 6000) && decide ((odNone 0 op n t fr ct).ct ≤ 6000)) = (decide (t ≤ 9999) && decide (fr ≤ 6000) && decide (ct ≤ 6000)) := by
  show (decide (t ≤ 9999) && J.validB false 0 false ((0 : Nat) : Int) 0 && decide (fr ≤ 6000) && decide (ct ≤ 6000)) = _
  rw [validB_zero, Bool.and_true]
theorem ok_drop (a b : List UInt8) : odOk [wDrop, a, b] = decide (nv (wd b) ≤ 9999) := by
  unfold odOk
  rw [od_drop, ok_none]
  simp
theorem ok_restart (a : List UInt8) : odOk [wRestart, a] = true := by
  unfold odOk
  rw [od_restart, ok_none]
  rfl
theorem ok_fetch (a : List UInt8) : odOk [wFetch, a] = true := by
  unfold odOk
  rw [od_fetch, ok_none]
  rfl
theorem ok_flip (a b c : List UInt8) : odOk [wFlip, a, b, c] = (decide (nv (wd b) ≤ 6000) && decide (nv (wd c) ≤ 6000)) := by
  unfold odOk
  rw [od_flip, ok_none]
  simp
set_option maxRecDepth 20000 in
/-- spec.l6line, whatever the line -/
theorem line_any (B Bt : Nat) (S : Sc) (us : List (Su × Hd)) (os : List (Od × Hd)) (h1 h2 : Hd) (c l : Int) (bg : Bool) (g cp : Nat) (x : List UInt8) (rest : List (List UInt8)) (w : World) (hI : isSc B us os h1 h2 S w) (hB : B ≤ w.heap.size) (hS : okS S) (hok : okWs (x :: rest)) (hl : rest.length ≤ 20000) (ht : w.ownsRow Bt 9 1 (.slice (some ⟨g, 0, none⟩) (rest.length + 1) cp) (rest.length + 1) (sv (x :: rest))) :
    Calls Tryz.prog 13 #[.agg (scL c l h1 h2 (S.ticks : Int)).toArray, .slice (some ⟨g, 0, none⟩) (rest.length + 1) cp, .bool bg] w (lnP B w c l (stepZ S bg (x :: rest))) := by
  rcases lrAt_cases x with ⟨_, hsh⟩ | ⟨i, r, hi, _, rfl, _⟩
  · exact line_bad B Bt S us os h1 h2 c l bg g cp x rest w hI hB hS hok hl ht (.inl hsh)
  have hr : r ∈ lrs := List.mem_of_getElem? hi
  have ro := rows_ok r hr
  have hp := ro.pos
  by_cases hlen : rest.length = r.2.2.1.length
  rotate_left
  · exact line_bad B Bt S us os h1 h2 c l bg g cp r.1 rest w hI hB hS hok hl ht (.inr (.inl (by rw [wk_zero, ro.sz, List.length_cons]; omega)))
  cases hpl : (bg && (((wk (r.1 :: rest) 0).toList == wNode) || ((wk (r.1 :: rest) 0).toList == wAccept)))
  rotate_left
  · exact line_bad B Bt S us os h1 h2 c l bg g cp r.1 rest w hI hB hS hok hl ht (.inr (.inr (.inl hpl)))
  cases hf : formAll (r.1 :: rest)
  · exact line_bad B Bt S us os h1 h2 c l bg g cp r.1 rest w hI hB hS hok hl ht (.inr (.inr (.inr hf)))
  have hz : (shapeZ (wk (r.1 :: rest) 0)).size ≠ 0 := by rw [wk_zero, ro.sz]; omega
  have hle : rest.length = (shapeZ (wk (r.1 :: rest) 0)).size := by rw [wk_zero, ro.sz]; exact hlen
  have hfo : allForm r.2.2.1 rest = true := by rw [← ro.fo rest hlen]; exact hf
  have hp2 : (r.2.1 && bg) = false := by rw [wk_zero, ro.su] at hpl; rw [Bool.and_comm]; exact hpl
  rw [step_go ro hlen hp2 hfo]
  clear ro hp hi hp2
  simp only [lrs, List.mem_cons, List.not_mem_nil, or_false] at hr
  rcases hr with rfl | rfl | rfl | rfl | rfl | rfl | rfl | rfl | rfl
  · obtain ⟨a, b, cc, d, e, rfl⟩ := len5 hlen
    simp only [allForm, List.zipWith_cons_cons, List.zipWith_nil_left, List.all_cons, List.all_nil, Bool.and_true, Bool.and_eq_true, id] at hfo
    obtain ⟨f0, f1, f2, f3, f4⟩ := hfo
    refine line_node B Bt S us os h1 h2 c l bg g cp wNode [a, b, cc, d, e] w hI hB hS hok hl ht hz hle hpl hf (wk0 (by decide)) (wk0 (by decide)) (suOf (wd a) (wd b) (wd cc) (wd d) (wd e)) (H.okCf (nv (wd b)) (nv (wd cc)) (isN (wd d) wNew) (nv (wd e))) (fun W hW => ?_) ⟨fun h => ?_, fun h h' => ?_⟩
    · exact setup_any g cp (wd a) (wd b) (wd cc) (wd d) (wd e) W (hW 1 (by simp)) (hW 2 (by simp)) (hW 3 (by simp)) (hW 4 (by simp)) (hW 5 (by simp)) (z110 f1) (z110 f2) (z110 f4)
    · rw [goL_node, if_neg h]
    · rw [goL_node, if_pos ⟨h, h'⟩]
  · obtain ⟨a, b, cc, d, rfl⟩ := len4 hlen
    simp only [allForm, List.zipWith_cons_cons, List.zipWith_nil_left, List.all_cons, List.all_nil, Bool.and_true, Bool.and_eq_true, id] at hfo
    obtain ⟨f0, f1, f2, f3⟩ := hfo
    refine line_accept B Bt S us os h1 h2 c l bg g cp wAccept [a, b, cc, d] w hI hB hS hok hl ht hz hle hpl hf (wk0 (by decide)) (wk0 (by decide)) (wk0 (by decide)) (flOf (wd b) (wd cc) (wd d)) (z110 f0) (fun W hW => ?_) (goL_accept S a b cc d)
    exact filter_any g cp (wd b) (wd cc) (wd d) W (hW 2 (by simp)) (hW 3 (by simp)) (hW 4 (by simp)) (z104 f2) (z104 f3) (v104 f2) (v104 f3)
  · obtain ⟨a, b, cc, d, e, rfl⟩ := len5 hlen
    simp only [allForm, List.zipWith_cons_cons, List.zipWith_nil_left, List.all_cons, List.all_nil, Bool.and_true, Bool.and_eq_true, id] at hfo
    obtain ⟨f0, f1, f2, f3, f4⟩ := hfo
    refine line_od B Bt S us os h1 h2 c l bg g cp wSend [a, b, cc, d, e] w hI hB hS hok hl ht hz hle hpl hf (wk0 (by decide)) (wk0 (by decide)) (wk0 (by decide)) _ _ (z110 f0) (fun W hW => ?_) (go_od (by decide) (by decide) (by decide) _ _ (od_send _ a b cc d e) (ok_send a b cc d e))
    exact order_send g cp S.ticks (wd wSend) (wd a) (wd b) (wd cc) (wd d) (wd e) W (hW 0 (by simp)) (hW 1 (by simp)) (hW 2 (by simp)) (hW 3 (by simp)) (hW 4 (by simp)) (hW 5 (by simp)) (z110 f0) (z110 f1) (z104 f3) (v104 f3) (d100 f4).1 (d100 f4).2.1 (d100 f4).2.2 (wd_toList _)
  · obtain ⟨a, b, cc, d, e, rfl⟩ := len5 hlen
    simp only [allForm, List.zipWith_cons_cons, List.zipWith_nil_left, List.all_cons, List.all_nil, Bool.and_true, Bool.and_eq_true, id] at hfo
    obtain ⟨f0, f1, f2, f3, f4⟩ := hfo
    refine line_od B Bt S us os h1 h2 c l bg g cp wAsk [a, b, cc, d, e] w hI hB hS hok hl ht hz hle hpl hf (wk0 (by decide)) (wk0 (by decide)) (wk0 (by decide)) _ _ (z110 f0) (fun W hW => ?_) (go_od (by decide) (by decide) (by decide) _ _ (od_ask _ a b cc d e) (ok_ask a b cc d e))
    exact order_ask g cp S.ticks (wd wAsk) (wd a) (wd b) (wd cc) (wd d) (wd e) W (hW 0 (by simp)) (hW 1 (by simp)) (hW 2 (by simp)) (hW 3 (by simp)) (hW 4 (by simp)) (hW 5 (by simp)) (z110 f0) (z110 f1) (z104 f3) (v104 f3) (z110 f4) (wd_toList _)
  · obtain ⟨a, b, rfl⟩ := len2 hlen
    simp only [allForm, List.zipWith_cons_cons, List.zipWith_nil_left, List.all_cons, List.all_nil, Bool.and_true, Bool.and_eq_true, id] at hfo
    obtain ⟨f0, f1⟩ := hfo
    refine line_od B Bt S us os h1 h2 c l bg g cp wDrop [a, b] w hI hB hS hok hl ht hz hle hpl hf (wk0 (by decide)) (wk0 (by decide)) (wk0 (by decide)) _ _ (z110 f0) (fun W hW => ?_) (go_od (by decide) (by decide) (by decide) _ _ (od_drop _ a b) (ok_drop a b))
    exact order_drop g cp S.ticks (wd wDrop) (wd a) (wd b) W (hW 0 (by simp)) (hW 1 (by simp)) (hW 2 (by simp)) (z110 f0) (z110 f1) (wd_toList _)
  · obtain ⟨a, rfl⟩ := len1 hlen
    simp only [allForm, List.zipWith_cons_cons, List.zipWith_nil_left, List.all_cons, List.all_nil, Bool.and_true, id] at hfo
    have f0 := hfo
    refine line_od B Bt S us os h1 h2 c l bg g cp wRestart [a] w hI hB hS hok hl ht hz hle hpl hf (wk0 (by decide)) (wk0 (by decide)) (wk0 (by decide)) _ _ (z110 f0) (fun W hW => ?_) (go_od (by decide) (by decide) (by decide) _ _ (od_restart _ a) (ok_restart a))
    exact order_restart g cp S.ticks (wd wRestart) (wd a) W (hW 0 (by simp)) (hW 1 (by simp)) (z110 f0) (wd_toList _)
  · obtain ⟨a, rfl⟩ := len1 hlen
    simp only [allForm, List.zipWith_cons_cons, List.zipWith_nil_left, List.all_cons, List.all_nil, Bool.and_true, id] at hfo
    have f0 := hfo
    refine line_od B Bt S us os h1 h2 c l bg g cp wFetch [a] w hI hB hS hok hl ht hz hle hpl hf (wk0 (by decide)) (wk0 (by decide)) (wk0 (by decide)) _ _ (z110 f0) (fun W hW => ?_) (go_od (by decide) (by decide) (by decide) _ _ (od_fetch _ a) (ok_fetch a))
    exact order_fetch g cp S.ticks (wd wFetch) (wd a) W (hW 0 (by simp)) (hW 1 (by simp)) (z110 f0) (wd_toList _)
  · obtain ⟨a, b, cc, rfl⟩ := len3 hlen
    simp only [allForm, List.zipWith_cons_cons, List.zipWith_nil_left, List.all_cons, List.all_nil, Bool.and_true, Bool.and_eq_true, id] at hfo
    obtain ⟨f0, f1, f2⟩ := hfo
    refine line_od B Bt S us os h1 h2 c l bg g cp wFlip [a, b, cc] w hI hB hS hok hl ht hz hle hpl hf (wk0 (by decide)) (wk0 (by decide)) (wk0 (by decide)) _ _ (z110 f0) (fun W hW => ?_) (go_od (by decide) (by decide) (by decide) _ _ (od_flip _ a b cc) (ok_flip a b cc))
    exact order_flip g cp S.ticks (wd wFlip) (wd a) (wd b) (wd cc) W (hW 0 (by simp)) (hW 1 (by simp)) (hW 2 (by simp)) (hW 3 (by simp)) (z110 f0) (z110 f1) (z110 f2) (wd_toList _) hS.ti (fm_n f1)
  · obtain ⟨a, rfl⟩ := len1 hlen
    simp only [allForm, List.zipWith_cons_cons, List.zipWith_nil_left, List.all_cons, List.all_nil, Bool.and_true, id] at hfo
    have f0 := hfo
    exact line_run B Bt S us os h1 h2 c l bg g cp wRun [a] w hI hB hS hok hl ht hz hle hpl hf (wk0 (by decide)) (z110 f0) (fm_n f0)
/-- the loop over the lines -/
def spI (w : World) (ls : List (List UInt8)) (sb : Nat) (v : Value) (k : Nat) (bg : Bool) (wr : World) : Prop := ∃ S us os h1 h2, okS S ∧ isSc w.heap.size us os h1 h2 S wr ∧ goS ls 0 false noSc = goS (ls.drop k) k bg S ∧ ownsT wr w.heap.size v ls ∧ blk wr sb (scL 0 0 h1 h2 (S.ticks : Int)) 25 ∧ blk wr w.heap.size (scL 0 0 noH noH 0) 25 ∧ Below w.heap.size w wr
theorem cutA_ne (c : UInt8) : ∀ (l cur : List UInt8), cutA c cur l ≠ []
  | [], cur => by simp [cutA]
  | y :: l, cur => by
    unfold cutA
    split
    · simp
    · exact cutA_ne c l _
/-- the words, from a row -/
theorem text_row {W : World} {B : Nat} {v : Value} {x : List UInt8} {rest : List (List UInt8)} (h : ownsT W B v (x :: rest)) : ∃ g cp, v = .slice (some ⟨g, 0, none⟩) (rest.length + 1) cp ∧ rest.length + 1 ≤ cp := by
  rcases ownsRow_shape h with ⟨_, e⟩ | ⟨g, k, e, _, _, hk⟩
  · cases e
  · exact ⟨g, k, e, hk⟩
theorem text_cell {W : World} {B g n cp : Nat} {ws : List (List UInt8)} (h : ownsT W B (.slice (some ⟨g, 0, none⟩) n cp) ws) (j : Nat) (hj : j < ws.length) : W.cell? ⟨g, j, none⟩ = some (.string (wd ws[j])) := by
  rcases ownsRow_shape h with ⟨e, _⟩ | ⟨g', k, e, _⟩
  · cases e
  · injection e with _ e2 _
    subst e2
    rw [World.ownsRow.cellAt h j (by omega), sv_at ws j hj]
theorem lnP.open {B : Nat} {w : World} {c l : Int} {cc : Nat} {S' : Sc} {o : Ending} {w' : World} (h : lnP B w c l (cc, S') o w') : (∃ h1 h2 t, o = .returned (.tuple #[.agg (scL c l h1 h2 t).toArray, .int .i64 (cc : Int)]) ∧ (cc = 0 → t = (S'.ticks : Int) ∧ ∃ us os, isSc B us os h1 h2 S' w')) ∧ Ky [55, 60, 67] B w w' := h
set_option maxHeartbeats 8000000 in
set_option maxRecDepth 40000 in
/-- spec.ParseScript -/
theorem specParse_any (s : ByteArray) (w : World) : Calls Tryz.prog 4 #[.string s] w (psP w (parseZ s)) := by
  have HT := hidYY (fun W => okText_any s W)
  have HP0 := hidYY (blk.new w (scL 0 0 noH noH 0) 25)
  have HB0 : Hid (Below w.heap.size w (w.alloc (.cells (scL 0 0 noH noH 0).toArray 25))) := (Below.refl _ _).alloc (Nat.le_refl _) _
  cases hok : okTx s
  · have HPZ : Hid (parseZ s = (1, 0, noSc)) := by show parseZ s = _; unfold parseZ; rw [hok]; rfl
    rw [hok] at HT
    go_enter Tryz.func4, Tryz.ntmps4
    go_wp2_with fail
    refine (HT.out _).mono ?_
    rintro o w1 ⟨rfl, rfl⟩
    go_wp2_with fail
    refine (fail_any 1 0 _).mono ?_
    rintro o w8 ⟨q1, q2, rfl, hq1, hq2, hb8⟩
    have HP8 := hidYY (HP0.out.below hb8)
    have HB8 := hidYY (HB0.out.trans (hb8.mono HB0.out.size))
    have HI8 : Hid (isSc w.heap.size [] [] q1 q2 noSc w8) := ⟨hq1.lower HB0.out.size, hq2.lower HB0.out.size, rfl, rfl⟩
    clear hq1 hq2 hb8
    go_wp2_with (first | (refine wpList_store_mid (P := Tryz.prog) rfl 25 (.tmp 2) (.tmp 12) rfl w.heap.size 0 (scL 1 0 q1 q2 0).toArray rfl rfl (HP8.out.there 0 5 (by simp)) sz25 (one25 _ _ _ _ _) ?_; generalize hX : World.setCells _ w.heap.size 0 _ = w9; have HX : Hid (World.setCells w8 w.heap.size 0 (scL 1 0 q1 q2 0) = w9) := hX; clear hX))
    have e2 := HX.out
    have hF : blk w9 w.heap.size (scL 1 0 q1 q2 0) 25 := e2 ▸ blk_all HP8.out rfl
    have hky : Ky [25] w.heap.size w8 w9 := e2 ▸ (Ky.refl _ _ _).setCells _ _ _ (Nat.le_refl _) ⟨_, _, _, HP8.out, by simp⟩
    have hB9 : Below w.heap.size w w9 := HB8.out.trans hky.low
    have hL := run_loadVar_mid (P := Tryz.prog) w9 w.heap.size 0 25 _ _ hF.load Tryz.underlying25 rfl sz25
    refine bodyPost_ret (v := .agg (scL 1 0 q1 q2 0).toArray) (Kd.results_cell Tryz.results4 _ w9 w.heap.size _ rfl hL) rfl ?_
    rw [HPZ.out]
    exact ⟨⟨q1, q2, [], [], rfl, HI8.out.ky25 hky⟩, hB9⟩
  · have hs : s.size ≤ 20000 := by
      unfold okTx at hok
      rw [Bool.and_eq_true, decide_eq_true_eq] at hok
      exact hok.1
    have HPZ : Hid (parseZ s = goS (cutB 10 s) 0 false noSc) := by show parseZ s = _; unfold parseZ; rw [hok]; rfl
    have HLO := hidYY (lines_ok s hok)
    have HLL : Hid ((cutB 10 s).length ≤ 20001) := by
      have := cutA_len 10 s.data.toList []
      have hz : s.data.toList.length = s.size := by simp
      unfold Hid cutB
      omega
    have HNE : Hid (cutB 10 s ≠ []) := cutA_ne _ _ _
    have HCU := hidYY (fun W => cut_any 10 s hs W)
    rw [hok] at HT
    clear hok
    generalize cutB 10 s = ls at *
    go_enter Tryz.func4, Tryz.ntmps4
    go_wp2_with fail
    refine (HT.out _).mono ?_
    rintro o w1 ⟨rfl, rfl⟩
    go_wp2_with fail
    refine (fail_any 0 0 _).mono ?_
    rintro o w1 ⟨q1, q2, rfl, hq1, hq2, hb1⟩
    have HP1 := hidYY (HP0.out.below hb1)
    have HB1 := hidYY (HB0.out.trans (hb1.mono HB0.out.size))
    have HI1 : Hid (isSc w.heap.size [] [] q1 q2 noSc w1) := ⟨hq1.lower HB0.out.size, hq2.lower HB0.out.size, rfl, rfl⟩
    clear hq1 hq2 hb1
    have HZ := hidYY (blk.new w1 (scL 0 0 noH noH 0) 25)
    have HZB : Hid (Below w1.heap.size w1 (w1.alloc (.cells (scL 0 0 noH noH 0).toArray 25))) := (Below.refl _ _).alloc (Nat.le_refl _) _
    go_upto_region 4 with (first | (refine wpList_store_mid (P := Tryz.prog) rfl 25 (.tmp 3) (.tmp 13) rfl w1.heap.size 0 (scL 0 0 q1 q2 0).toArray rfl rfl (HZ.out.there 0 5 (by simp)) sz25 (one25 _ _ _ _ _) ?_; generalize hX : World.setCells _ w1.heap.size 0 _ = w2; have HX : Hid (World.setCells (w1.alloc (.cells (scL 0 0 noH noH 0).toArray 25)) w1.heap.size 0 (scL 0 0 q1 q2 0) = w2) := hX; clear hX))
    have HB12 : Hid (Below w1.heap.size w1 w2) := by show Below _ _ _; rw [← HX.out]; exact setCells_below (Nat.le_refl _) 0 _ HZB.out
    have HR2 : Hid (blk w2 w1.heap.size (scL 0 0 q1 q2 0) 25) := by show blk _ _ _ _; rw [← HX.out]; exact blk_all HZ.out rfl
    have HP2 := hidYY (HP1.out.below HB12.out)
    have HI2 := hidYY (HI1.out.below HB12.out)
    have HB2 := hidYY (HB1.out.trans (HB12.out.mono HB1.out.size))
    have HSB : Hid (w.heap.size ≤ w1.heap.size) := HB1.out.size
    have HNB : Hid (w.heap.size < w1.heap.size) := HP1.out.lt
    generalize w1.heap.size = sb at *
    clear HX HZ HZB HB12 HP1 HB1 HP0 HB0 HI1
    go_wp2_with fail
    refine (HCU.out _).mono ?_
    rintro o w3 ⟨ao, cp, rfl, ho3, hb3⟩
    obtain ⟨gl, rfl⟩ : ∃ gl, ao = some ⟨gl, 0, none⟩ := by
      rcases ownsRow_shape ho3 with ⟨_, e⟩ | ⟨g, k, e, _⟩
      · exact absurd (List.length_eq_zero_iff.1 e) HNE.out
      · exact ⟨g, by injection e⟩
    obtain ⟨N, hN⟩ : ∃ N, ls.length = N := ⟨_, rfl⟩
    have HNN := hidYY hN
    have hN1 : N ≤ 20001 := by rw [← hN]; exact HLL.out
    rw [hN] at ho3 ⊢
    clear hN
    have HI0 : Hid (spI w ls sb (.slice (some ⟨gl, 0, none⟩) N cp) 0 false w3) := ⟨noSc, [], [], q1, q2, okS.zero, HI2.out.below hb3, rfl, ownsRow_lower ho3 HB2.out.size, HR2.out.below hb3, HP2.out.below hb3, HB2.out.trans (hb3.mono HB2.out.size)⟩
    clear ho3 hb3 HR2 HP2 HI2 HB2 HCU HT
    go_wp2
    go_loopw [4, 6] (fun b i wr => ∃ (k : Nat) (bg : Bool), k ≤ N ∧ i = .int .i64 (k : Int) ∧ b = .bool bg ∧ spI w ls sb (.slice (some ⟨gl, 0, none⟩) N cp) k bg wr) (fun _ i _ => N - (intOf i).toNat)
    case atStart => exact ⟨0, false, Nat.zero_le _, rfl, rfl, HI0.out⟩
    case round =>
      clear HI0
      obtain ⟨k, bg, hk, rfl, rfl, S, us, os, h1, h2, hS, hI, hgo, hl, hr, hp, hb⟩ := hrel
      have HIS := hidYY hI
      have HL := hidYY hl
      have HR := hidYY hr
      have HP := hidYY hp
      have HB := hidYY hb
      have HS := hidYY hS
      have HGO := hidYY hgo
      by_cases hlt : k < N
      · have hk' : k < ls.length := by rw [HNN.out]; exact hlt
        have cl : wr.cell? ⟨gl, k, none⟩ = some (.string (wd ls[k])) := text_cell hl k hk'
        have hdr : ls.drop k = ls[k] :: ls.drop (k + 1) := List.drop_eq_getElem_cons hk'
        have hlk := HLO.out ls[k] (List.getElem_mem hk')
        have HWA := hidYY (words_any (wd ls[k]) hlk.1 wr)
        have HWO := hidYY (words_ok ls[k] hlk.1 (fun b hb => (hlk.2 b hb).2))
        have HWL := hidYY (words_len ls[k] hlk.1)
        have hw1 : IntKind.i64.wrap ((k : Int) + 1) = (k : Int) + 1 := i64_wrap _ (by omega) (by omega)
        rw [hdr] at HGO
        clear hI hl hr hp hb hS hgo hdr hlk
        obtain ⟨ws, hws⟩ : ∃ ws, wordsB (wd ls[k]) = ws := ⟨_, rfl⟩
        have HG0 : Hid (ws.length = 0 → goS (ls[k] :: ls.drop (k + 1)) k bg S = goS (ls.drop (k + 1)) (k + 1) bg S) := fun hz => by rw [goS, hws, if_pos hz]
        have HG1 : Hid (ws.length ≠ 0 → (stepZ S bg ws).1 = 0 → goS (ls[k] :: ls.drop (k + 1)) k bg S = goS (ls.drop (k + 1)) (k + 1) (bodyZ bg ws) (stepZ S bg ws).2) := fun hz hc => by rw [goS, hws, if_neg hz, if_pos hc]
        have HG2 : Hid (ws.length ≠ 0 → (stepZ S bg ws).1 ≠ 0 → goS (ls[k] :: ls.drop (k + 1)) k bg S = ((stepZ S bg ws).1, k + 1, noSc)) := fun hz hc => by rw [goS, hws, if_neg hz, if_neg hc]
        rw [hws] at HWA HWO HWL
        clear hws
        generalize wd ls[k] = lk at *
        go_wp2_with fail
        refine HWA.out.mono ?_
        rintro o w5 ⟨ao, c5, rfl, ho5, hb5⟩
        have HL5 := hidYY (HL.out.below hb5)
        have HR5 := hidYY (HR.out.below hb5)
        have HP5 := hidYY (HP.out.below hb5)
        have HI5 := hidYY (HIS.out.below hb5)
        have HB5 := hidYY (HB.out.trans (hb5.mono HB.out.size))
        have HO5 := hidYY ho5
        clear hb5 HL HR HP HIS HB HWA
        cases ws with
        | nil =>
          have HI : Hid (spI w ls sb (.slice (some ⟨gl, 0, none⟩) N cp) (k + 1) bg w5) := ⟨S, us, os, h1, h2, HS.out, HI5.out, HGO.out.trans (HG0.out rfl), HL5.out, HR5.out, HP5.out, HB5.out⟩
          clear ho5
          simp only [List.length_nil]
          go_wp2
          go_roundw
          case rel => exact ⟨k + 1, bg, by omega, by go_num, rfl, HI.out⟩
          case measure => simp [intOf]; omega
        | cons x rest =>
          obtain ⟨g5, c5', e5, hc5⟩ := text_row ho5
          have hao : ao = some ⟨g5, 0, none⟩ := by injection e5
          subst hao
          clear e5
          have hrl : rest.length ≤ 20000 := by have := HWL.out; simp only [List.length_cons] at this; omega
          have d0 : w5.cell? ⟨g5, 0, none⟩ = some (.string (wd x)) := text_cell ho5 0 (by simp)
          have HLN := hidYY (line_any w.heap.size wr.heap.size S us os h1 h2 0 0 bg g5 c5 x rest w5 HI5.out HB5.out.size HS.out HWO.out hrl ho5)
          obtain ⟨n5, hn5⟩ : ∃ n5, rest.length + 1 = n5 := ⟨_, rfl⟩
          have HN5 := hidYY hn5
          have hn50 : ((n5 : Int) == 0) = false := by simp; omega
          have hn51 : (0 : Int) < (n5 : Int) := by omega
          have hn52 : 0 < n5 := by omega
          have hn53 : n5 ≤ 20001 := by omega
          simp only [List.length_cons]
          rw [hn5] at HLN ⊢
          clear hn5 ho5 hrl hc5 c5'
          obtain ⟨⟨cc, S'⟩, hst⟩ : ∃ p, stepZ S bg (x :: rest) = p := ⟨_, rfl⟩
          have HSS : Hid (cc = 0 → okS S') := fun h0 => by have := HS.out.step bg (x :: rest) (by rw [hst]; exact h0); rw [hst] at this; exact this
          have HG1' : Hid (cc = 0 → goS (ls[k] :: ls.drop (k + 1)) k bg S = goS (ls.drop (k + 1)) (k + 1) (bodyZ bg (x :: rest)) S') := fun h0 => by have := HG1.out (by simp) (by rw [hst]; exact h0); rw [hst] at this; exact this
          have HG2' : Hid (cc ≠ 0 → goS (ls[k] :: ls.drop (k + 1)) k bg S = (cc, k + 1, noSc)) := fun h0 => by have := HG2.out (by simp) (by rw [hst]; exact h0); rw [hst] at this; exact this
          rw [hst] at HLN
          clear hst HG0 HG1 HG2 HWO HWL
          go_wp2_with (first | (refine wpList_load_mid (P := Tryz.prog) rfl 25 (.tmp 3) rfl sb 0 rfl (scL 0 0 h1 h2 (S.ticks : Int)) _ HR5.out.load Tryz.underlying25 rfl sz25 ?_))
          refine HLN.out.mono ?_
          intro o w6 h6
          obtain ⟨⟨q3, q4, tt, rfl, hz6⟩, hk6⟩ := h6.open
          clear h6
          have HZ6 := hidYY hz6
          have HR6 := hidYY (hk6.blk HR5.out (by decide))
          have HP6 := hidYY (hk6.blk HP5.out (by decide))
          have HL6 : Hid (ownsT w6 w.heap.size (.slice (some ⟨gl, 0, none⟩) N cp) ls) := hk6.row HL5.out (by decide)
          have HO6 : Hid (ownsT w6 wr.heap.size (.slice (some ⟨g5, 0, none⟩) (rest.length + 1) c5) (x :: rest)) := hk6.row HO5.out (by decide)
          have HB6 := hidYY (HB5.out.trans hk6.low)
          clear hz6 hk6 HR5 HP5 HL5 HO5 HB5 HI5 HLN d0
          go_upto_region 13 with (first | (refine wpList_store_mid (P := Tryz.prog) rfl 25 (.tmp 3) (.tmp 35) rfl sb 0 (scL 0 0 q3 q4 tt).toArray rfl rfl (HR6.out.there 0 5 (by simp)) sz25 (one25 _ _ _ _ _) ?_; generalize hX : World.setCells _ sb 0 _ = w7; have HX : Hid (World.setCells w6 sb 0 (scL 0 0 q3 q4 tt) = w7) := hX; clear hX))
          have HR7 : Hid (blk w7 sb (scL 0 0 q3 q4 tt) 25) := by show blk _ _ _ _; rw [← HX.out]; exact blk_all HR6.out rfl
          have HKY : Hid (Ky [25] w.heap.size w6 w7) := by show Ky _ _ _ _; rw [← HX.out]; exact (Ky.refl _ _ _).setCells _ _ _ HSB.out ⟨_, _, _, HR6.out, by simp⟩
          have HP7 : Hid (blk w7 w.heap.size (scL 0 0 noH noH 0) 25) := by show blk _ _ _ _; rw [← HX.out]; exact HP6.out.other (Nat.ne_of_lt HNB.out) _ _
          have HL7 : Hid (ownsT w7 w.heap.size (.slice (some ⟨gl, 0, none⟩) N cp) ls) := HKY.out.row HL6.out (by decide)
          have HO7 : Hid (ownsT w7 wr.heap.size (.slice (some ⟨g5, 0, none⟩) (rest.length + 1) c5) (x :: rest)) := HKY.out.row HO6.out (by decide)
          have HB7 := hidYY (HB6.out.trans HKY.out.low)
          have d7 : w7.cell? ⟨g5, 0, none⟩ = some (.string (wd x)) := text_cell HO7.out 0 (by simp)
          clear HX HR6 HP6 HL6 HO6 HB6 HO7
          by_cases hcc : cc = 0
          · have hcc' : ((cc : Int) != 0) = false := by simp [hcc]
            obtain ⟨htt, us', os', hi6⟩ := HZ6.out hcc
            have HI : Hid (spI w ls sb (.slice (some ⟨gl, 0, none⟩) N cp) (k + 1) (bodyZ bg (x :: rest)) w7) := ⟨S', us', os', q3, q4, HSS.out hcc, hi6.ky25 HKY.out, HGO.out.trans (HG1'.out hcc), HL7.out, htt ▸ HR7.out, HP7.out, HB7.out⟩
            have HBZ : Hid (bodyZ bg (x :: rest) = (bg || !(((wd x).toList == wNode) || ((wd x).toList == wAccept)))) := rfl
            clear hi6 htt HZ6 HR7 HP7 HL7 HB7 HKY hcc HSS HG1' HG2'
            generalize wd x = xs at *
            cases hn : (xs.toList == wNode)
            · cases ha : (xs.toList == wAccept)
              · rw [hn, ha] at HBZ
                go_wp2
                go_roundw
                case rel => exact ⟨k + 1, _, by omega, by go_num, by rw [HBZ.out]; simp, HI.out⟩
                case measure => simp [intOf]; omega
              · rw [hn, ha] at HBZ
                go_wp2
                go_roundw
                case rel => exact ⟨k + 1, _, by omega, by go_num, by rw [HBZ.out]; simp, HI.out⟩
                case measure => simp [intOf]; omega
            · rw [hn] at HBZ
              go_wp2
              go_roundw
              case rel => exact ⟨k + 1, _, by omega, by go_num, by rw [HBZ.out]; simp, HI.out⟩
              case measure => simp [intOf]; omega
          · have hcc' : ((cc : Int) != 0) = true := by simp [hcc]
            have HPE : Hid (parseZ s = (cc, k + 1, noSc)) := by show parseZ s = _; exact HPZ.out.trans (HGO.out.trans (HG2'.out hcc))
            clear HZ6 HR7 HL7 HKY hcc HSS HG1' HG2' d7
            go_wp2_with fail
            refine (fail_any (cc : Int) ((k : Int) + 1) _).mono ?_
            rintro o w8 ⟨q1, q2, rfl, hq1, hq2, hb8⟩
            have HP8 := hidYY (HP7.out.below hb8)
            have HB8 := hidYY (HB7.out.trans (hb8.mono HB7.out.size))
            have HI8 : Hid (isSc w.heap.size [] [] q1 q2 noSc w8) := ⟨hq1.lower HB7.out.size, hq2.lower HB7.out.size, rfl, rfl⟩
            clear hq1 hq2 hb8
            go_wp2_with (first | (refine wpList_store_mid (P := Tryz.prog) rfl 25 (.tmp 2) (.tmp 42) rfl w.heap.size 0 (scL (cc : Int) ((k : Int) + 1) q1 q2 0).toArray rfl rfl (HP8.out.there 0 5 (by simp)) sz25 (one25 _ _ _ _ _) ?_; generalize hX : World.setCells _ w.heap.size 0 _ = w9; have HX : Hid (World.setCells w8 w.heap.size 0 (scL (cc : Int) ((k : Int) + 1) q1 q2 0) = w9) := hX; clear hX))
            have e2 := HX.out
            have hF : blk w9 w.heap.size (scL (cc : Int) ((k : Int) + 1) q1 q2 0) 25 := e2 ▸ blk_all HP8.out rfl
            have hky : Ky [25] w.heap.size w8 w9 := e2 ▸ (Ky.refl _ _ _).setCells _ _ _ (Nat.le_refl _) ⟨_, _, _, HP8.out, by simp⟩
            have hB9 : Below w.heap.size w w9 := HB8.out.trans hky.low
            have hL := run_loadVar_mid (P := Tryz.prog) w9 w.heap.size 0 25 _ _ hF.load Tryz.underlying25 rfl sz25
            refine bodyPost_ret (v := .agg (scL (cc : Int) ((k : Int) + 1) q1 q2 0).toArray) (Kd.results_cell Tryz.results4 _ w9 w.heap.size _ rfl hL) rfl ?_
            rw [HPE.out]
            exact ⟨⟨q1, q2, [], [], rfl, HI8.out.ky25 hky⟩, hB9⟩
      · have hke : k = N := by omega
        have hnl : ¬ (k : Int) < (N : Int) := by omega
        have hdr : ls.drop k = [] := List.drop_eq_nil_of_le (by rw [HNN.out]; omega)
        rw [hdr] at HGO
        have r2 := hr.cell 2 _ rfl
        have hul : h1.2.1 = S.su.length := by rw [own_len hI.su.own, ← hI.eu, List.length_map]
        obtain ⟨nu, hnu⟩ : ∃ nu, h1.2.1 = nu := ⟨_, rfl⟩
        simp only [hdV] at r2
        rw [hnu] at r2 hul
        clear hI hl hr hp hb hS hgo hdr hke hnu
        by_cases h0 : nu = 0
        · have h0' : ((nu : Int) == 0) = true := by simp [h0]
          have HPE : Hid (parseZ s = (7, 0, noSc)) := by show parseZ s = _; rw [HPZ.out, HGO.out]; unfold goS; rw [if_pos (by omega)]
          clear hul h0
          go_wp2_with fail
          refine (fail_any 7 0 _).mono ?_
          rintro o w8 ⟨q1, q2, rfl, hq1, hq2, hb8⟩
          have HP8 := hidYY (HP.out.below hb8)
          have HB8 := hidYY (HB.out.trans (hb8.mono HB.out.size))
          have HI8 : Hid (isSc w.heap.size [] [] q1 q2 noSc w8) := ⟨hq1.lower HB.out.size, hq2.lower HB.out.size, rfl, rfl⟩
          clear hq1 hq2 hb8
          go_wp2_with (first | (refine wpList_store_mid (P := Tryz.prog) rfl 25 (.tmp 2) (.tmp 57) rfl w.heap.size 0 (scL 7 0 q1 q2 0).toArray rfl rfl (HP8.out.there 0 5 (by simp)) sz25 (one25 _ _ _ _ _) ?_; generalize hX : World.setCells _ w.heap.size 0 _ = w9; have HX : Hid (World.setCells w8 w.heap.size 0 (scL 7 0 q1 q2 0) = w9) := hX; clear hX))
          have e2 := HX.out
          have hF : blk w9 w.heap.size (scL 7 0 q1 q2 0) 25 := e2 ▸ blk_all HP8.out rfl
          have hky : Ky [25] w.heap.size w8 w9 := e2 ▸ (Ky.refl _ _ _).setCells _ _ _ (Nat.le_refl _) ⟨_, _, _, HP8.out, by simp⟩
          have hB9 : Below w.heap.size w w9 := HB8.out.trans hky.low
          have hL := run_loadVar_mid (P := Tryz.prog) w9 w.heap.size 0 25 _ _ hF.load Tryz.underlying25 rfl sz25
          refine bodyPost_ret (v := .agg (scL 7 0 q1 q2 0).toArray) (Kd.results_cell Tryz.results4 _ w9 w.heap.size _ rfl hL) rfl ?_
          rw [HPE.out]
          exact ⟨⟨q1, q2, [], [], rfl, HI8.out.ky25 hky⟩, hB9⟩
        · have h0' : ((nu : Int) == 0) = false := by simp [h0]
          have HPE : Hid (parseZ s = (0, 0, S)) := by show parseZ s = _; rw [HPZ.out, HGO.out]; unfold goS; rw [if_neg (by omega)]
          clear hul h0
          go_wp2_with (first | (refine wpList_load_mid (P := Tryz.prog) rfl 25 (.tmp 3) rfl sb 0 rfl (scL 0 0 h1 h2 (S.ticks : Int)) _ HR.out.load Tryz.underlying25 rfl sz25 ?_) | (refine wpList_store_mid (P := Tryz.prog) rfl 25 (.tmp 2) (.tmp 58) rfl w.heap.size 0 (scL 0 0 h1 h2 (S.ticks : Int)).toArray rfl rfl (HP.out.there 0 5 (by simp)) sz25 (one25 _ _ _ _ _) ?_; generalize hX : World.setCells _ w.heap.size 0 _ = w9; have HX : Hid (World.setCells wr w.heap.size 0 (scL 0 0 h1 h2 (S.ticks : Int)) = w9) := hX; clear hX))
          have e2 := HX.out
          have hF : blk w9 w.heap.size (scL 0 0 h1 h2 (S.ticks : Int)) 25 := e2 ▸ blk_all HP.out rfl
          have hky : Ky [25] w.heap.size wr w9 := e2 ▸ (Ky.refl _ _ _).setCells _ _ _ (Nat.le_refl _) ⟨_, _, _, HP.out, by simp⟩
          have hB9 : Below w.heap.size w w9 := HB.out.trans hky.low
          have hL := run_loadVar_mid (P := Tryz.prog) w9 w.heap.size 0 25 _ _ hF.load Tryz.underlying25 rfl sz25
          refine bodyPost_ret (v := .agg (scL 0 0 h1 h2 (S.ticks : Int)).toArray) (Kd.results_cell Tryz.results4 _ w9 w.heap.size _ rfl hL) rfl ?_
          rw [HPE.out]
          exact ⟨⟨h1, h2, us, os, rfl, HIS.out.ky25 hky⟩, hB9⟩
set_option maxHeartbeats 8000000 in
set_option maxRecDepth 40000 in
/-- laws.FnExactParseScript -/
theorem lawParse (s : ByteArray) (m : Int) (w : World) (hg : glb w m) : Calls Tryz.prog 3 #[.string s] w fun o w' => o = .returned (.bool true) ∧ Below w.heap.size w w' := by
  by_cases hz : s.size ≤ 1048576
  rotate_left
  · have hz' : (1048576 : Int) < (s.size : Int) := by omega
    clear hz hg
    go_enter Tryz.func3, Tryz.ntmps3
    go_wp2
    go_ret
    exact ⟨rfl, Below.refl _ _⟩
  have hz' : ¬ (1048576 : Int) < (s.size : Int) := by omega
  have HG := hidYY hg
  have hf := parseZ_fin s
  have hsp := specParse_any s w
  have him := fun W (h : glb W m) => implParse_any s m W h
  obtain ⟨⟨p1, p2, S⟩, hpz⟩ : ∃ p, parseZ s = p := ⟨_, rfl⟩
  rw [hpz] at hf hsp
  have him' : ∀ W, glb W m → Calls Tryz.prog 5 #[.string s] W (psP W (p1, p2, S)) := fun W h => hpz ▸ him W h
  obtain ⟨c, hc⟩ : ∃ c : Int, (p1 : Int) = c := ⟨_, rfl⟩
  obtain ⟨l, hl⟩ : ∃ l : Int, (p2 : Int) = l := ⟨_, rfl⟩
  obtain ⟨t, ht⟩ : ∃ t : Int, (S.ticks : Int) = t := ⟨_, rfl⟩
  have key : ∀ (W : World) (o : Ending) (W' : World), psP W (p1, p2, S) o W' → (∃ h1 h2 us os, o = .returned (.agg (scL c l h1 h2 t).toArray) ∧ isSc W.heap.size us os h1 h2 S W') ∧ Below W.heap.size W W' := fun W o W' h => by
    subst hc hl ht
    exact h
  have HF : Hid (finS S) := hf
  have HSP : Hid (Calls Tryz.prog 4 #[.string s] w fun o W' => (∃ h1 h2 us os, o = .returned (.agg (scL c l h1 h2 t).toArray) ∧ isSc w.heap.size us os h1 h2 S W') ∧ Below w.heap.size w W') := hsp.mono (key w)
  have HIM : Hid (∀ W, glb W m → Calls Tryz.prog 5 #[.string s] W fun o W' => (∃ h1 h2 us os, o = .returned (.agg (scL c l h1 h2 t).toArray) ∧ isSc W.heap.size us os h1 h2 S W') ∧ Below W.heap.size W W') := fun W h => (him' W h).mono (key W)
  clear hpz hg hz hf hsp him him' key hc hl ht
  go_enter Tryz.func3, Tryz.ntmps3
  go_wp2_with fail
  refine HSP.out.mono ?_
  rintro o w1 ⟨⟨h1, h2, us, os, rfl, hi1⟩, hb1⟩
  have HI1 := hidYY hi1
  have HB1 := hidYY hb1
  clear hi1 hb1 HSP
  have HZ := hidYY (blk.new w1 (scL 0 0 noH noH 0) 25)
  have HZB : Hid (Below w1.heap.size w1 (w1.alloc (.cells (scL 0 0 noH noH 0).toArray 25))) := (Below.refl _ _).alloc (Nat.le_refl _) _
  go_upto_region 4 with (first | (refine wpList_store_mid (P := Tryz.prog) rfl 25 (.tmp 3) (.tmp 12) rfl w1.heap.size 0 (scL c l h1 h2 t).toArray rfl rfl (HZ.out.there 0 5 (by simp)) sz25 (one25 _ _ _ _ _) ?_; generalize hX : World.setCells _ w1.heap.size 0 _ = w2; have HX : Hid (World.setCells (w1.alloc (.cells (scL 0 0 noH noH 0).toArray 25)) w1.heap.size 0 (scL c l h1 h2 t) = w2) := hX; clear hX))
  have HBN : Hid (Below w1.heap.size w1 w2) := by show Below _ _ _; rw [← HX.out]; exact setCells_below (Nat.le_refl _) 0 _ HZB.out
  have HRA : Hid (blk w2 w1.heap.size (scL c l h1 h2 t) 25) := by show blk _ _ _ _; rw [← HX.out]; exact blk_all HZ.out rfl
  have HI2 := hidYY (HI1.out.below HBN.out)
  have HB2 := hidYY (HB1.out.trans (HBN.out.mono HB1.out.size))
  generalize w1.heap.size = b1 at *
  clear HX HZ HZB HBN HI1 HB1
  go_wp2_with fail
  refine (HIM.out w2 (HG.out.below HB2.out)).mono ?_
  rintro o w3 ⟨⟨h3, h4, us', os', rfl, hi3⟩, hb3⟩
  have HI3 := hidYY hi3
  have HB3 := hidYY hb3
  clear hi3 hb3
  have HZ := hidYY (blk.new w3 (scL 0 0 noH noH 0) 25)
  have HZB : Hid (Below w3.heap.size w3 (w3.alloc (.cells (scL 0 0 noH noH 0).toArray 25))) := (Below.refl _ _).alloc (Nat.le_refl _) _
  go_upto_region 5 with (first | (refine wpList_store_mid (P := Tryz.prog) rfl 25 (.tmp 4) (.tmp 14) rfl w3.heap.size 0 (scL c l h3 h4 t).toArray rfl rfl (HZ.out.there 0 5 (by simp)) sz25 (one25 _ _ _ _ _) ?_; generalize hX : World.setCells _ w3.heap.size 0 _ = w4; have HX : Hid (World.setCells (w3.alloc (.cells (scL 0 0 noH noH 0).toArray 25)) w3.heap.size 0 (scL c l h3 h4 t) = w4) := hX; clear hX))
  have HBN : Hid (Below w3.heap.size w3 w4) := by show Below _ _ _; rw [← HX.out]; exact setCells_below (Nat.le_refl _) 0 _ HZB.out
  have HRB : Hid (blk w4 w3.heap.size (scL c l h3 h4 t) 25) := by show blk _ _ _ _; rw [← HX.out]; exact blk_all HZ.out rfl
  have HI4 := hidYY (HI3.out.below HBN.out)
  have HB4 := hidYY (HB3.out.trans (HBN.out.mono HB3.out.size))
  have HA4 := hidYY (HRA.out.below HB4.out)
  have HEQ := hidYY (eqScript_same c l t S HF.out _ _ us' us os' os h3 h4 h1 h2 w4 HI4.out (HI2.out.below HB4.out))
  generalize w3.heap.size = b2 at *
  clear HX HZ HZB HBN HI3 HB3
  go_wp2_with (first | (refine wpList_load_mid (P := Tryz.prog) rfl 25 (.tmp 4) rfl b2 0 rfl (scL c l h3 h4 t) _ HRB.out.load Tryz.underlying25 rfl sz25 ?_) | (refine wpList_load_mid (P := Tryz.prog) rfl 25 (.tmp 3) rfl b1 0 rfl (scL c l h1 h2 t) _ HA4.out.load Tryz.underlying25 rfl sz25 ?_))
  refine HEQ.out.mono ?_
  rintro o w5 ⟨rfl, hb5⟩
  have HI5 := hidYY (HI4.out.below hb5)
  have HB5 := hidYY (HB4.out.trans (hb5.mono HB4.out.size))
  have HB5' := hidYY (HRB.out.below hb5)
  have HMK := hidYY (markScript_any c l t S HF.out w2.heap.size us' os' h3 h4 w5 HI5.out HB5.out.size)
  clear hb5 HEQ HI4 HA4
  go_wp2_with (first | (refine wpList_load_mid (P := Tryz.prog) rfl 25 (.tmp 4) rfl b2 0 rfl (scL c l h3 h4 t) _ HB5'.out.load Tryz.underlying25 rfl sz25 ?_))
  refine HMK.out.mono ?_
  rintro o w6 ⟨mk, rfl, hh6, hb6, hk6⟩
  have HB6 := hidYY (HB5.out.trans hb6)
  have HR6 := hidYY (hk6 _ _ HB5'.out)
  have HHD := hidYY (hh6 w6 (Below.refl _ _))
  have hm0 : ¬ ((mk : Int) < 0) := by omega
  have hm1 : ((mk : Int) != (mk : Int)) = false := by simp
  clear hb6 hh6 hk6 HMK HB5' HI5 HB5 HB4 HRB
  go_wp2_with (first | (refine wpList_load_mid (P := Tryz.prog) rfl 25 (.tmp 4) rfl b2 0 rfl (scL c l h3 h4 t) _ HR6.out.load Tryz.underlying25 rfl sz25 ?_))
  refine HHD.out.mono ?_
  rintro o w7 ⟨rfl, hb7⟩
  have HB7 := hidYY (HB6.out.trans (hb7.mono HB6.out.size))
  have HW7 := hidYY (HB2.out.trans (HB7.out.mono HB2.out.size))
  clear hb7 HHD HB6 HR6
  go_wp2_with fail
  refine (HIM.out w7 (HG.out.below HW7.out)).mono ?_
  rintro o w8 ⟨⟨h5, h6, us2, os2, rfl, hi8⟩, hb8⟩
  have HI8 := hidYY hi8
  have HB8 := hidYY (HB7.out.trans (hb8.mono HB7.out.size))
  clear hi8 hb8 HB7 HW7
  have HZ := hidYY (blk.new w8 (scL 0 0 noH noH 0) 25)
  have HZB : Hid (Below w8.heap.size w8 (w8.alloc (.cells (scL 0 0 noH noH 0).toArray 25))) := (Below.refl _ _).alloc (Nat.le_refl _) _
  go_upto_region 16 with (first | (refine wpList_store_mid (P := Tryz.prog) rfl 25 (.tmp 7) (.tmp 31) rfl w8.heap.size 0 (scL c l h5 h6 t).toArray rfl rfl (HZ.out.there 0 5 (by simp)) sz25 (one25 _ _ _ _ _) ?_; generalize hX : World.setCells _ w8.heap.size 0 _ = w9; have HX : Hid (World.setCells (w8.alloc (.cells (scL 0 0 noH noH 0).toArray 25)) w8.heap.size 0 (scL c l h5 h6 t) = w9) := hX; clear hX))
  have HBN : Hid (Below w8.heap.size w8 w9) := by show Below _ _ _; rw [← HX.out]; exact setCells_below (Nat.le_refl _) 0 _ HZB.out
  have HRC : Hid (blk w9 w8.heap.size (scL c l h5 h6 t) 25) := by show blk _ _ _ _; rw [← HX.out]; exact blk_all HZ.out rfl
  have HI9 := hidYY (HI8.out.below HBN.out)
  have HB9 := hidYY (HB8.out.trans (HBN.out.mono HB8.out.size))
  have HA9 := hidYY (HRA.out.below HB9.out)
  have HEQ := hidYY (eqScript_same c l t S HF.out _ _ us2 us os2 os h5 h6 h1 h2 w9 HI9.out (HI2.out.below HB9.out))
  generalize w8.heap.size = b3 at *
  clear HX HZ HZB HBN HI8 HB8
  go_wp2_with (first | (refine wpList_load_mid (P := Tryz.prog) rfl 25 (.tmp 7) rfl b3 0 rfl (scL c l h5 h6 t) _ HRC.out.load Tryz.underlying25 rfl sz25 ?_) | (refine wpList_load_mid (P := Tryz.prog) rfl 25 (.tmp 3) rfl b1 0 rfl (scL c l h1 h2 t) _ HA9.out.load Tryz.underlying25 rfl sz25 ?_))
  refine HEQ.out.mono ?_
  rintro o w10 ⟨rfl, hb10⟩
  have HB10 := hidYY (HB2.out.trans ((HB9.out.trans (hb10.mono HB9.out.size)).mono HB2.out.size))
  clear hb10 HEQ
  go_wp2_with fail
  go_ret
  exact ⟨rfl, HB10.out⟩
end Go.Proofs.YtfbeaekddgpmmaaGreatDoor
