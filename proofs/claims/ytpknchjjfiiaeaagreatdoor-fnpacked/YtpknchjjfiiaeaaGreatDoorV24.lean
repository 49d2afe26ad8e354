import Derived.Test.YtpknchjjfiiaeaaGreatDoorV22
import Derived.Deep.DeepCutAuto
namespace Go.Proofs.YtpknchjjfiiaeaaGreatDoor
open Go.RowKit
set_option linter.unusedVariables false
theorem hidYY {p : Prop} (h : p) : Hid p := h
set_option maxHeartbeats 4000000 in
set_option maxRecDepth 20000 in
theorem bit_midT (w : World) (b g cap m n q r x : Nat) (L : Nat) (hL : L < 2) (hn : n ≤ 4000)
    (c0 : w.cell? ⟨b, 0, none⟩ = some (.int .i64 (n : Int))) (c1 : w.cell? ⟨b, 1, none⟩ = some (.slice (some ⟨g, 0, none⟩) m cap)) (c2 : w.cell? ⟨b, 2, none⟩ = some (.bool true))
    (f0 : w.frozen? ⟨b, 0, none⟩ = false) (hgb : ¬ b = g)
    (e3 : (n : Int).tdiv 64 = (q : Int)) (e4 : (n : Int).tmod 64 = (r : Int)) (hr : ((r : Int) == 0) = false) (hr2 : r < 64) (hq : q < m) (hq3 : q ≤ 1000) (hc : w.cell? ⟨g, q, none⟩ = some (.int .u64 (x : Int))) (hf : w.frozen? ⟨g, q, none⟩ = false)
    (Q R : World → Prop) (fl : Bool)
    (hhe : ∀ X, X = ((w.setCell ⟨g, q, none⟩ (.int .u64 (bits BinOp.or IntKind.u64 (x : Int) (IntKind.u64.wrap ((L : Int) * 2 ^ (63 - r)))))).setCell ⟨b, 0, none⟩ (.int .i64 ((n : Int) + 1))).drew → Calls Tryz.prog 58 #[.pointer (some ⟨b, 3, none⟩), .int .i32 (48 + (L : Int))] X fun o w' => o = .returned (.tuple #[]) ∧ Q w')
    (hfu : ∀ X, Q X → Calls Tryz.prog 59 #[.pointer (some ⟨b, 3, none⟩)] X fun o w' => o = .returned (.bool fl) ∧ w' = X)
    (hre : fl = true → ∀ X, Q X → Calls Tryz.prog 31 #[.pointer (some ⟨b, 0, none⟩), .int .i64 (1 - (L : Int))] X fun o w' => o = .returned (.tuple #[]) ∧ R w') :
    Calls Tryz.prog 31 #[.pointer (some ⟨b, 0, none⟩), .int .i64 (L : Int)] w fun o w' => o = .returned (.tuple #[]) ∧ (if fl = true then R w' else Q w') := by
  have HHE := hidYY hhe
  have HFU := hidYY hfu
  have HRE := hidYY hre
  clear hhe hfu hre
  go_enter Tryz.func31, Tryz.ntmps31
  go_wp2
  go_region
  go_wp2_with fail
  refine (HHE.out _ rfl).mono ?_
  rintro o w3 ⟨rfl, h3⟩
  have H3 : Hid (Q w3) := h3
  clear h3
  go_wp2_with fail
  refine (HFU.out _ H3.out).mono ?_
  rintro o w4 ⟨rfl, rfl⟩
  cases fl
  · go_wp2_with fail
    go_end0
    exact ⟨rfl, H3.out⟩
  · go_wp2_with fail
    refine (HRE.out (by trivial) _ H3.out).mono ?_
    rintro o w5 ⟨rfl, h5⟩
    have H5 : Hid (R w5) := h5
    clear h5
    go_wp2_with fail
    go_end0
    exact ⟨rfl, H5.out⟩
set_option maxHeartbeats 4000000 in
set_option maxRecDepth 20000 in
theorem bit_newT (w : World) (b n q : Nat) (v : Value) (l : List Nat) (L : Nat) (hL : L < 2) (hn : n ≤ 4000) (hl : l.length = q) (hbz : b < w.heap.size) (own : ownsW w (b + 1) v l)
    (c0 : w.cell? ⟨b, 0, none⟩ = some (.int .i64 (n : Int))) (c1 : w.cell? ⟨b, 1, none⟩ = some v) (c2 : w.cell? ⟨b, 2, none⟩ = some (.bool true))
    (f0 : w.frozen? ⟨b, 0, none⟩ = false) (f1 : w.frozen? ⟨b, 1, none⟩ = false)
    (e3 : (n : Int).tdiv 64 = (q : Int)) (e4 : (n : Int).tmod 64 = 0) (hq3 : q ≤ 1000)
    (Q R : World → Prop) (fl : Bool)
    (hhe : ∀ w1 g cp, ownsW w1 (b + 1) (.slice (some ⟨g, 0, none⟩) (q + 1) cp) (l ++ [0]) → Below (b + 1) w w1 → Lib.OthersKept 64 none w w1 → ∀ X, X = (((w1.setCell ⟨b, 1, none⟩ (.slice (some ⟨g, 0, none⟩) (q + 1) cp)).setCell ⟨g, q, none⟩ (.int .u64 (bits BinOp.or IntKind.u64 0 ((L : Int) * 9223372036854775808)))).setCell ⟨b, 0, none⟩ (.int .i64 ((n : Int) + 1))).drew → Calls Tryz.prog 58 #[.pointer (some ⟨b, 3, none⟩), .int .i32 (48 + (L : Int))] X fun o w' => o = .returned (.tuple #[]) ∧ Q w')
    (hfu : ∀ X, Q X → Calls Tryz.prog 59 #[.pointer (some ⟨b, 3, none⟩)] X fun o w' => o = .returned (.bool fl) ∧ w' = X)
    (hre : fl = true → ∀ X, Q X → Calls Tryz.prog 31 #[.pointer (some ⟨b, 0, none⟩), .int .i64 (1 - (L : Int))] X fun o w' => o = .returned (.tuple #[]) ∧ R w') :
    Calls Tryz.prog 31 #[.pointer (some ⟨b, 0, none⟩), .int .i64 (L : Int)] w fun o w' => o = .returned (.tuple #[]) ∧ (if fl = true then R w' else Q w') := by
  have HO : Hid (ownsW w (b + 1) v l) := own
  have HL : Hid (l.length = q) := hl
  have HHE := hidYY hhe
  have HFU := hidYY hfu
  have HRE := hidYY hre
  clear own hl hhe hfu hre
  go_enter Tryz.func31, Tryz.ntmps31
  go_wp2_with (first | (at_builtin; refine app_word2 w w rfl (.tmp 14) (.tmp 15) rfl (b + 1) _ l 0 _ rfl rfl HO.out rfl (by have := HL.out; omega) (by omega) (Below.refl _ _) ?_))
  intro v1 w1 ho1 hb1 hk1 hz1
  obtain ⟨g, cp, e, hgB, hgz, hcp, hcm, hrow⟩ := ho1.open (by simp)
  have hlen : (l ++ [0]).length = q + 1 := by simp [HL.out]
  rw [hlen] at e hcp hrow
  subst e
  have hc : w1.cell? ⟨g, q, none⟩ = some (.int .u64 0) := by
    rw [hrow.cell q (by omega)]
    have := HL.out
    subst this
    simp [List.getD]
  have hf := hrow.free q (by omega)
  have d0 := (hb1.cell (p := ⟨b, 0, none⟩) (by simp)).trans c0
  have d2 := (hb1.cell (p := ⟨b, 2, none⟩) (by simp)).trans c2
  have d1 := (hb1.cell (p := ⟨b, 1, none⟩) (by simp)).trans c1
  have g0 := (hb1.frozen (p := ⟨b, 0, none⟩) (by simp)).trans f0
  have g1 := (hb1.frozen (p := ⟨b, 1, none⟩) (by simp)).trans f1
  have HR : Hid (ownsW w1 (b + 1) (.slice (some ⟨g, 0, none⟩) (q + 1) cp) (l ++ [0]) ∧ Below (b + 1) w w1 ∧ Lib.OthersKept 64 none w w1) := ⟨ho1, hb1, hk1⟩
  have hgb : ¬ b = g := by omega
  clear ho1 hb1 hk1 hrow hlen c0 c1 c2 f0 f1 hcm
  go_wp2
  go_region
  go_wp2_with fail
  refine (HHE.out w1 g cp HR.out.1 HR.out.2.1 HR.out.2.2 _ rfl).mono ?_
  rintro o w3 ⟨rfl, h3⟩
  have H3 : Hid (Q w3) := h3
  clear h3
  go_wp2_with fail
  refine (HFU.out _ H3.out).mono ?_
  rintro o w4 ⟨rfl, rfl⟩
  cases fl
  · go_wp2_with fail
    go_end0
    exact ⟨rfl, H3.out⟩
  · go_wp2_with fail
    refine (HRE.out (by trivial) _ H3.out).mono ?_
    rintro o w5 ⟨rfl, h5⟩
    have H5 : Hid (R w5) := h5
    clear h5
    go_wp2_with fail
    go_end0
    exact ⟨rfl, H5.out⟩
theorem wl_at (o : List Nat) (q : Nat) (h : q < (wl o).length) : (wl o)[q] = wq (strN o) o.length q := wn_at (strN o) o.length q h
theorem isL48 {L : Nat} (h : L < 2) : J.M.isL (48 + L) := by unfold J.M.isL; omega
theorem isL_snoc {o : List Nat} {c : Nat} (ho : ∀ x ∈ o, J.M.isL x) (hc : J.M.isL c) : ∀ x ∈ o ++ [c], J.M.isL x := by
  intro x hx
  rw [List.mem_append] at hx
  rcases hx with hx | hx
  · exact ho x hx
  · simp at hx; subst hx; exact hc
/-- what the head of bit leaves, where it begins a new word -/
theorem headN {w0 w w1 : World} {b g cp L : Nat} {o : List Nat} {st : Bool} {r : Nat × Nat} (h : bwS w0 b o st r w) (ho : ∀ x ∈ o, J.M.isL x) (hL : L < 2) (hr : o.length % 64 = 0)
    (h1 : ownsW w1 (b + 1) (.slice (some ⟨g, 0, none⟩) (o.length / 64 + 1) cp) (wl o ++ [0])) (hb : Below (b + 1) w w1) (hk : Lib.OthersKept 64 none w w1) {X : World}
    (e : X = (((w1.setCell ⟨b, 1, none⟩ (.slice (some ⟨g, 0, none⟩) (o.length / 64 + 1) cp)).setCell ⟨g, o.length / 64, none⟩ (.int .u64 (bits BinOp.or IntKind.u64 0 ((L : Int) * 9223372036854775808)))).setCell ⟨b, 0, none⟩ (.int .i64 ((o.length : Int) + 1))).drew) :
    bwS w0 b (o ++ [48 + L]) st r X ∧ Lib.OthersKept 64 (some b) w X := by
  subst e
  obtain ⟨⟨v, hh, own⟩, hbel⟩ := h
  have hg := (World.ownsRow.lt h1 g (by simp [Value.ownBlock])).1
  have hkk := kept_new (b := b) (q := o.length / 64) (n := o.length) hk (h1.kind g (by simp [Value.ownBlock])) (by omega) (X := bits BinOp.or IntKind.u64 0 ((L : Int) * 9223372036854775808)) (v := .slice (some ⟨g, 0, none⟩) (o.length / 64 + 1) cp)
  have hl : (wl o ++ [0]).length = o.length / 64 + 1 := by simp [wl_len]; omega
  have hh1 := (hb.block b (by omega)).trans hh
  have e := wl_new o (48 + L) ho (isL48 hL) hr
  rw [show 48 + L - 48 = L by omega] at e
  rw [← hl] at h1
  have := bw_newG (w0 := w0) (q := o.length / 64) (new_or L hL) hh1 h1 (by omega) (hbel.trans (hb.mono (by omega))) (by omega) e
  rw [hl] at this
  refine ⟨⟨⟨_, ?_, this.2.1⟩, this.2.2⟩, hkk⟩
  rw [List.length_append]
  exact this.1
/-- and where the word is begun -/
theorem headM {w0 w : World} {b g cp L : Nat} {o : List Nat} {st : Bool} {r : Nat × Nat} (hh : w.heap[b]? = some (.cells #[.int .i64 (o.length : Int), .slice (some ⟨g, 0, none⟩) (wl o).length cp, .bool st, .int .i32 (r.1 : Int), .int .i64 (r.2 : Int)] 61)) (own : ownsW w (b + 1) (.slice (some ⟨g, 0, none⟩) (wl o).length cp) (wl o)) (hbel : Below b w0 w) (hgB : b + 1 ≤ g) (ho : ∀ x ∈ o, J.M.isL x) (hL : L < 2) (hr : ¬ o.length % 64 = 0) {X : World}
    (eX : X = ((w.setCell ⟨g, o.length / 64, none⟩ (.int .u64 (bits BinOp.or IntKind.u64 (wq (strN o) o.length (o.length / 64) : Int) (IntKind.u64.wrap ((L : Int) * 2 ^ (63 - o.length % 64)))))).setCell ⟨b, 0, none⟩ (.int .i64 ((o.length : Int) + 1))).drew) :
    bwS w0 b (o ++ [48 + L]) st r X ∧ Lib.OthersKept 64 (some b) w X := by
  have hd : wq (strN o) o.length (o.length / 64) % 2 ^ (64 - o.length % 64) = 0 := by
    have := wq_dvd (strN o) (o.length / 64) (o.length % 64) (by omega)
    rw [show 64 * (o.length / 64) + o.length % 64 = o.length by omega] at this
    exact this
  have e := wl_mid o (48 + L) ho (isL48 hL) hr
  rw [show 48 + L - 48 = L by omega] at e
  rw [or_sum _ _ _ hL (by omega) (wq_lt (strN o) o.length (o.length / 64)) hd] at eX
  subst eX
  refine ⟨⟨⟨.slice (some ⟨g, 0, none⟩) (wl o).length cp, ?_, ?_⟩, ?_⟩, ?_⟩
  · show ((w.setCell ⟨g, o.length / 64, none⟩ _).setCell ⟨b, 0, none⟩ _).heap[b]? = _
    have h2 := (heap_setCell_other w ⟨g, o.length / 64, none⟩ b (.int .u64 ((wq (strN o) o.length (o.length / 64) + L * 2 ^ (63 - o.length % 64) : Nat) : Int)) (by show b ≠ g; omega)).trans hh
    rw [heap_setCell_same _ b 0 _ _ (.int .i64 ((o.length : Int) + 1)) h2, List.length_append]
    simp
  · rw [e]
    exact ((own.stored (o.length / 64) (wq (strN o) o.length (o.length / 64) + L * 2 ^ (63 - o.length % 64))).setCellO b 0 (.int .i64 ((o.length : Int) + 1)) (by omega)).otherBlock fun _ _ => rfl
  · exact ((hbel.setCell (p := ⟨g, o.length / 64, none⟩) (by simp; omega) _).setCell (p := ⟨b, 0, none⟩) (by simp) _).drew
  · exact ((kept_cell (Lib.OthersKept.refl 64 (some b) w) (own.kind g (by simp [Value.ownBlock])) _ _).setCell ⟨b, 0, none⟩ rfl _).drew
theorem idx (n : Nat) : (n : Int).tdiv 64 = ((n / 64 : Nat) : Int) ∧ (n : Int).tmod 64 = ((n % 64 : Nat) : Int) := by
  refine ⟨?_, ?_⟩
  · rw [Int.tdiv_eq_ediv_of_nonneg (by omega)]; omega
  · rw [Int.tmod_eq_emod_of_nonneg (by omega)]; omega
/-- a bit without stuffing -/
theorem bwS.bitF {w0 w : World} {b L : Nat} {o : List Nat} {r : Nat × Nat} (h : bwS w0 b o false r w) (ho : ∀ x ∈ o, J.M.isL x) (hL : L < 2) (hn : o.length ≤ 4000) :
    Calls Tryz.prog 31 #[.pointer (some ⟨b, 0, none⟩), .int .i64 (L : Int)] w fun o' w' => o' = .returned (.tuple #[]) ∧ bwS w0 b (o ++ [48 + L]) false r w' ∧ Lib.OthersKept 64 (some b) w w' := by
  have h' := h
  obtain ⟨⟨v, hh, own⟩, hbel⟩ := h'
  obtain ⟨⟨c0, c1, c2, c3, c4⟩, fz, hbz⟩ := bw5 hh
  obtain ⟨e3, e4⟩ := idx o.length
  by_cases hr : o.length % 64 = 0
  · refine (bit_new w b o.length (o.length / 64) v (wl o) L hL hn (by rw [wl_len]; omega) hbz own c0 c1 c2 (fz 0) (fz 1) e3 (by rw [e4, hr]; rfl) (by omega)).mono ?_
    rintro o' w' ⟨w1, g, cp, h1, hb, hk, rfl, e⟩
    exact ⟨rfl, headN h ho hL hr h1 hb hk e⟩
  · have hne : wl o ≠ [] := by intro e; have := wl_len o; rw [e] at this; simp at this; omega
    obtain ⟨g, cp, rfl, hgB, hgz, hcp, hcm, hrow⟩ := own.open hne
    have hlen := wl_len o
    have hq : o.length / 64 < (wl o).length := by omega
    have hc : w.cell? ⟨g, o.length / 64, none⟩ = some (.int .u64 (wq (strN o) o.length (o.length / 64) : Int)) := by
      rw [hrow.cell _ hq, getD_at _ _ hq, wl_at]
    refine (bit_mid w b g cp (wl o).length o.length (o.length / 64) (o.length % 64) (wq (strN o) o.length (o.length / 64)) L hL hn c0 c1 c2 (fz 0) (by omega) e3 e4 (by simp; omega) (by omega) hq (by omega) hc (hrow.free _ hq)).mono ?_
    rintro o' w' ⟨rfl, e⟩
    exact ⟨rfl, headM hh own hbel hgB ho hL hr e⟩
theorem bwS.hear {w0 w X : World} {b c : Nat} {o : List Nat} {r : Nat × Nat} (h : bwS w0 b o true r X) (hk : Lib.OthersKept 64 (some b) w X) (hc : c ≤ 49) (ha : r.1 ≤ 49) (hr : r.2 ≤ 100000) :
    Calls Tryz.prog 58 #[.pointer (some ⟨b, 3, none⟩), .int .i32 (c : Int)] X fun o' w' => o' = .returned (.tuple #[]) ∧ bwS w0 b o true (J.M.hear r c) w' ∧ Lib.OthersKept 64 (some b) w w' := by
  obtain ⟨⟨v, hh, own⟩, hbel⟩ := h
  refine (hear_at X b _ _ _ r.1 r.2 c hc ha hr hh).mono ?_
  rintro o' w' ⟨rfl, h1, h2, h3⟩
  refine ⟨rfl, ⟨⟨v, h1, own.otherBlock fun g hg => h2 g ?_⟩, hbel.trans h3⟩, ?_⟩
  · have := (World.ownsRow.lt own g hg).1
    omega
  · intro k ob hk1 hk2 hk3
    have hkb : k ≠ b := fun e => hk2 (by rw [e])
    rw [h2 k hkb]
    exact hk k ob hk1 hk2 hk3
/-- a bit with stuffing; the stuff bit by hre -/
theorem bwS.bitT {w0 w : World} {b L : Nat} {o : List Nat} {r : Nat × Nat} (h : bwS w0 b o true r w) (ho : ∀ x ∈ o, J.M.isL x) (hL : L < 2) (hn : o.length ≤ 4000) (ha : r.1 ≤ 49) (hr2 : r.2 ≤ 100000) (R : World → Prop)
    (hre : (J.M.hear r (48 + L)).2 = 5 → ∀ X, bwS w0 b (o ++ [48 + L]) true (J.M.hear r (48 + L)) X ∧ Lib.OthersKept 64 (some b) w X → Calls Tryz.prog 31 #[.pointer (some ⟨b, 0, none⟩), .int .i64 (1 - (L : Int))] X fun o w' => o = .returned (.tuple #[]) ∧ R w') :
    Calls Tryz.prog 31 #[.pointer (some ⟨b, 0, none⟩), .int .i64 (L : Int)] w fun o' w' => o' = .returned (.tuple #[]) ∧ (if decide ((J.M.hear r (48 + L)).2 = 5) = true then R w' else bwS w0 b (o ++ [48 + L]) true (J.M.hear r (48 + L)) w' ∧ Lib.OthersKept 64 (some b) w w') := by
  have h' := h
  obtain ⟨⟨v, hh, own⟩, hbel⟩ := h'
  obtain ⟨⟨c0, c1, c2, c3, c4⟩, fz, hbz⟩ := bw5 hh
  obtain ⟨e3, e4⟩ := idx o.length
  have hfu : ∀ X, bwS w0 b (o ++ [48 + L]) true (J.M.hear r (48 + L)) X ∧ Lib.OthersKept 64 (some b) w X → Calls Tryz.prog 59 #[.pointer (some ⟨b, 3, none⟩)] X fun o w' => o = .returned (.bool (decide ((J.M.hear r (48 + L)).2 = 5))) ∧ w' = X := by
    rintro X ⟨⟨⟨v, hh, own⟩, hbel⟩, _⟩
    exact full_at X b _ _ _ _ _ hh
  have hre' : decide ((J.M.hear r (48 + L)).2 = 5) = true → ∀ X, bwS w0 b (o ++ [48 + L]) true (J.M.hear r (48 + L)) X ∧ Lib.OthersKept 64 (some b) w X → Calls Tryz.prog 31 #[.pointer (some ⟨b, 0, none⟩), .int .i64 (1 - (L : Int))] X fun o w' => o = .returned (.tuple #[]) ∧ R w' := fun e => hre (of_decide_eq_true e)
  have e48 : (48 + (L : Int)) = ((48 + L : Nat) : Int) := by omega
  by_cases hr : o.length % 64 = 0
  · refine bit_newT w b o.length (o.length / 64) v (wl o) L hL hn (by rw [wl_len]; omega) hbz own c0 c1 c2 (fz 0) (fz 1) e3 (by rw [e4, hr]; rfl) (by omega) _ R _ (fun w1 g cp h1 hb hk X e => ?_) hfu hre'
    obtain ⟨q1, q2⟩ := headN h ho hL hr h1 hb hk e
    rw [e48]
    exact q1.hear q2 (by omega) ha hr2
  · have hne : wl o ≠ [] := by intro e; have := wl_len o; rw [e] at this; simp at this; omega
    obtain ⟨g, cp, rfl, hgB, hgz, hcp, hcm, hrow⟩ := own.open hne
    have hlen := wl_len o
    have hq : o.length / 64 < (wl o).length := by omega
    have hc : w.cell? ⟨g, o.length / 64, none⟩ = some (.int .u64 (wq (strN o) o.length (o.length / 64) : Int)) := by
      rw [hrow.cell _ hq, getD_at _ _ hq, wl_at]
    refine bit_midT w b g cp (wl o).length o.length (o.length / 64) (o.length % 64) (wq (strN o) o.length (o.length / 64)) L hL hn c0 c1 c2 (fz 0) (by omega) e3 e4 (by simp; omega) (by omega) hq (by omega) hc (hrow.free _ hq) _ R _ (fun X e => ?_) hfu hre'
    obtain ⟨q1, q2⟩ := headM hh own hbel hgB ho hL hr e
    rw [e48]
    exact q1.hear q2 (by omega) ha hr2
/-- what a bit makes of what was written -/
def feed (st : Bool) (o : List Nat) (c : Nat) : List Nat := if st = true then J.M.stStep o c else o ++ [c]
def runOf (st : Bool) (o : List Nat) (r : Nat × Nat) : Nat × Nat := if st = true then J.M.trail o else r
theorem okept {b : Nat} {w w1 w2 : World} (h1 : Lib.OthersKept 64 (some b) w w1) (h2 : Lib.OthersKept 64 (some b) w1 w2) : Lib.OthersKept 64 (some b) w w2 := fun k ob a1 a2 a3 => h2 k ob (h1 k ob a1 a2 a3) a2 a3
theorem trail_le49 (o : List Nat) (ho : ∀ x ∈ o, J.M.isL x) : (J.M.trail o).1 ≤ 49 := by
  by_cases h : o = []
  · subst h; decide
  · obtain ⟨l, a, rfl⟩ := J.M.snoc_cases o h
    rw [J.M.trail_snoc, J.M.hear_fst]
    have := ho a (by simp)
    unfold J.M.isL at this; omega
theorem bwS.bit {w0 w : World} {b L : Nat} {o : List Nat} {st : Bool} {r : Nat × Nat} (h : bwS w0 b o st (runOf st o r) w) (ho : ∀ x ∈ o, J.M.isL x) (hL : L < 2) (hn : o.length ≤ 3998) (h4 : st = true → (J.M.trail o).2 ≤ 4) :
    Calls Tryz.prog 31 #[.pointer (some ⟨b, 0, none⟩), .int .i64 (L : Int)] w fun o' w' => o' = .returned (.tuple #[]) ∧ bwS w0 b (feed st o (48 + L)) st (runOf st (feed st o (48 + L)) r) w' ∧ Lib.OthersKept 64 (some b) w w' := by
  cases st
  · exact h.bitF ho hL (by omega)
  · have h : bwS w0 b o true (J.M.trail o) w := h
    have ha := trail_le49 o ho
    have h4 := h4 rfl
    refine (h.bitT ho hL (by omega) ha (by omega) (fun W => bwS w0 b (o ++ [48 + L] ++ [48 + (1 - L)]) true (J.M.trail (o ++ [48 + L] ++ [48 + (1 - L)])) W ∧ Lib.OthersKept 64 (some b) w W) (fun h5 X hX => ?_)).mono ?_
    · obtain ⟨hX, hk⟩ := hX
      have e1 : (1 - (L : Int)) = ((1 - L : Nat) : Int) := by omega
      have ho1 := isL_snoc ho (isL48 hL)
      have et : J.M.hear (J.M.trail o) (48 + L) = J.M.trail (o ++ [48 + L]) := (J.M.trail_snoc _ _).symm
      have et2 : J.M.hear (J.M.hear (J.M.trail o) (48 + L)) (48 + (1 - L)) = J.M.trail (o ++ [48 + L] ++ [48 + (1 - L)]) := by rw [J.M.trail_snoc, J.M.trail_snoc]
      have hne : (J.M.hear (J.M.hear (J.M.trail o) (48 + L)) (48 + (1 - L))).2 = 1 := by
        have hf := J.M.hear_fst (J.M.trail o) (48 + L)
        generalize J.M.hear (J.M.trail o) (48 + L) = z at *
        obtain ⟨z1, z2⟩ := z
        have hf : z1 = 48 + L := hf
        rw [J.M.hear_other z1 z2 _ (by omega)]
      rw [e1]
      refine (hX.bitT ho1 (by omega) (by simp; omega) (by rw [J.M.hear_fst]; omega) (by omega) (fun _ => False) (fun h6 => by rw [hne] at h6; omega)).mono ?_
      rintro o' w' ⟨rfl, h7⟩
      rw [if_neg (by rw [hne]; decide), et2] at h7
      exact ⟨rfl, h7.1, okept hk h7.2⟩
    · rintro o' w' ⟨rfl, h7⟩
      refine ⟨rfl, ?_⟩
      have et : J.M.hear (J.M.trail o) (48 + L) = J.M.trail (o ++ [48 + L]) := (J.M.trail_snoc _ _).symm
      rw [et] at h7
      unfold feed runOf J.M.stStep
      rw [if_pos rfl, if_pos rfl, show 97 - (48 + L) = 48 + (1 - L) by omega]
      by_cases h5 : (J.M.trail (o ++ [48 + L])).2 = 5
      · rw [if_pos (by simpa using h5)] at h7
        rw [if_pos h5]
        exact h7
      · rw [if_neg (by simpa using h5)] at h7
        rw [if_neg h5]
        exact h7
end Go.Proofs.YtpknchjjfiiaeaaGreatDoor
