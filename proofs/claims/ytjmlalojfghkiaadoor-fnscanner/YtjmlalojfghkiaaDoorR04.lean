import Derived.Test.YtjmlalojfghkiaaDoorR03
namespace Go.Proofs.YtjmlalojfghkiaaDoor
open Go.RowKit
/-- what a mark leaves: the row g with its marks, all other blocks as they were -/
structure mkd (w w' : World) (g n c : Nat) : Prop where
  row : rowB w' g n (fun t => (c + t) % 256)
  oth : ∀ b, b ≠ g → b < w.heap.size → w'.heap[b]? = w.heap[b]?
  bel : Below g w w'
set_option maxHeartbeats 1000000 in
theorem markFrame_row (w : World) (e : Bool) (i : Nat) (r : Bool) (d : Int) (g n cap c : Nat) (f : Nat → Nat) (hr : rowB w g n f) (hg : g < w.heap.size) (hcp : n ≤ cap) (hn : n ≤ 1048576) (hc : c ≤ 1000) :
    Calls Tryd.prog 33 #[frV e i r d (some ⟨g, 0, none⟩) n cap, .int .i64 (c : Int)] w fun o w' => o = .returned (.int .i64 ((c + n : Nat) : Int)) ∧ mkd w w' g n c := by
  have HR : Hid (rowB (w.alloc (.cells #[.bool e, .int .u32 (i : Int), .bool r, .int .i64 d, .slice (some ⟨g, 0, none⟩) n cap] 29)) g n f) := hr.below ((Below.refl _ _).alloc (Nat.le_refl _) _) hg
  clear hr
  go_enter Tryd.func33, Tryd.ntmps33
  go_wp2_with fail
  refine (markByteS_row _ g n cap c f HR.out hcp hn hc).mono ?_
  rintro o w1 ⟨rfl, h1, h2, h3, h4⟩
  have HM : Hid (mkd w w1 g n c) := ⟨h1, fun b hb hl => (h2 b hb).trans (Below.heap_alloc _ _ _ hl), (((Below.refl w.heap.size w).alloc (Nat.le_refl _) _).mono (by omega)).trans h4⟩
  clear h1 h2 h3 h4
  go_wp2_with fail
  go_ret
  exact ⟨rfl, HM.out⟩
set_option maxHeartbeats 1000000 in
theorem markFrame_nil (w : World) (e : Bool) (i : Nat) (r : Bool) (d : Int) (c : Nat) :
    Calls Tryd.prog 33 #[frV e i r d none 0 0, .int .i64 (c : Int)] w fun o w' => o = .returned (.int .i64 (c : Int)) ∧ Below w.heap.size w w' := by
  have HM : Hid (∀ W : World, Calls Tryd.prog 57 #[.slice none 0 0, .int .i64 (c : Int)] W fun o w' => o = .returned (.int .i64 (c : Int)) ∧ w' = W) := by
    intro W
    go_enter Tryd.func57, Tryd.ntmps57
    go_wp2
    go_loopw [1, 5] (fun kk i wr => i = .int .i64 0 ∧ kk = .int .i64 (c : Int) ∧ wr = W) (fun _ _ _ => 0)
    case atStart => exact ⟨rfl, rfl, rfl⟩
    case round =>
      obtain ⟨rfl, rfl, rfl⟩ := hrel
      go_wp2
      go_ret
      exact ⟨rfl, rfl⟩
  go_enter Tryd.func33, Tryd.ntmps33
  go_wp2_with fail
  refine (HM.out _).mono ?_
  rintro o w1 ⟨rfl, rfl⟩
  go_wp2_with fail
  go_ret
  exact ⟨rfl, (Below.refl _ _).alloc (Nat.le_refl _) _⟩
set_option maxHeartbeats 1000000 in
theorem heldFrame_row (w : World) (e : Bool) (i : Nat) (r : Bool) (d : Int) (g n cap c : Nat) (hr : rowB w g n (fun t => (c + t) % 256)) (hg : g < w.heap.size) (hcp : n ≤ cap) (hn : n ≤ 1048576) (hc : c ≤ 1000) :
    Calls Tryd.prog 34 #[frV e i r d (some ⟨g, 0, none⟩) n cap, .int .i64 (c : Int)] w fun o w' => o = .returned (.int .i64 ((c + n : Nat) : Int)) ∧ Below w.heap.size w w' := by
  have HR : Hid (rowB (w.alloc (.cells #[.bool e, .int .u32 (i : Int), .bool r, .int .i64 d, .slice (some ⟨g, 0, none⟩) n cap] 29)) g n (fun t => (c + t) % 256)) := hr.below ((Below.refl _ _).alloc (Nat.le_refl _) _) hg
  clear hr
  go_enter Tryd.func34, Tryd.ntmps34
  go_wp2_with fail
  refine (heldByteS_row _ g n cap c HR.out hcp hn hc).mono ?_
  rintro o w1 ⟨rfl, rfl⟩
  generalize hq : c + n = q at *
  have hz : ¬ (q : Int) < 0 := by omega
  go_wp2_with fail
  go_ret
  exact ⟨by rw [hq]; rfl, (Below.refl _ _).alloc (Nat.le_refl _) _⟩
set_option maxHeartbeats 1000000 in
theorem heldFrame_nil (w : World) (e : Bool) (i : Nat) (r : Bool) (d : Int) (c : Nat) :
    Calls Tryd.prog 34 #[frV e i r d none 0 0, .int .i64 (c : Int)] w fun o w' => o = .returned (.int .i64 (c : Int)) ∧ Below w.heap.size w w' := by
  have HM : Hid (∀ W : World, Calls Tryd.prog 58 #[.slice none 0 0, .int .i64 (c : Int)] W fun o w' => o = .returned (.int .i64 (c : Int)) ∧ w' = W) := by
    intro W
    go_enter Tryd.func58, Tryd.ntmps58
    go_wp2
    go_loopw [1, 5] (fun kk i wr => i = .int .i64 0 ∧ kk = .int .i64 (c : Int) ∧ wr = W) (fun _ _ _ => 0)
    case atStart => exact ⟨rfl, rfl, rfl⟩
    case round =>
      obtain ⟨rfl, rfl, rfl⟩ := hrel
      go_wp2
      go_ret
      exact ⟨rfl, rfl⟩
  go_enter Tryd.func34, Tryd.ntmps34
  go_wp2_with fail
  refine (HM.out _).mono ?_
  rintro o w1 ⟨rfl, rfl⟩
  have hz : ¬ (c : Int) < 0 := by omega
  go_wp2_with fail
  go_ret
  exact ⟨rfl, (Below.refl _ _).alloc (Nat.le_refl _) _⟩
set_option maxHeartbeats 1000000 in
theorem markScan_row (w : World) (S : Sc) (g n cap c : Nat) (f : Nat → Nat) (hr : rowB w g n f) (hg : g < w.heap.size) (hcp : n ≤ cap) (hn : n ≤ 1048576) (hc : c ≤ 1000) :
    Calls Tryd.prog 10 #[scV S (some ⟨g, 0, none⟩) n cap, .int .i64 (c : Int)] w fun o w' => o = .returned (.int .i64 ((c + n : Nat) : Int)) ∧ mkd w w' g n c := by
  obtain ⟨sf, slf, srn, slv, scr, sac, e, i, r, d, l⟩ := S
  have HR : Hid (rowB (w.alloc (.cells #[.int .i64 sf, .int .i64 slf, .int .i64 srn, .int .i64 slv, .int .i64 scr, .int .i64 sac, .bool e, .int .u32 (i : Int), .bool r, .int .i64 d, .slice (some ⟨g, 0, none⟩) n cap] 31)) g n f) := hr.below ((Below.refl _ _).alloc (Nat.le_refl _) _) hg
  clear hr
  go_enter Tryd.func10, Tryd.ntmps10
  go_wp2_with fail
  refine (markFrame_row _ e i r d g n cap c f HR.out (by simp; omega) hcp hn hc).mono ?_
  rintro o w1 ⟨rfl, hm⟩
  have HM : Hid (mkd w w1 g n c) := ⟨hm.row, fun b hb hl => (hm.oth b hb (by simp; omega)).trans (Below.heap_alloc _ _ _ hl), (((Below.refl w.heap.size w).alloc (Nat.le_refl _) _).mono (by omega)).trans hm.bel⟩
  clear hm
  go_wp2_with fail
  go_ret
  exact ⟨rfl, HM.out⟩
set_option maxHeartbeats 1000000 in
theorem markScan_nil (w : World) (S : Sc) (c : Nat) :
    Calls Tryd.prog 10 #[scV S none 0 0, .int .i64 (c : Int)] w fun o w' => o = .returned (.int .i64 (c : Int)) ∧ Below w.heap.size w w' := by
  obtain ⟨sf, slf, srn, slv, scr, sac, e, i, r, d, l⟩ := S
  go_enter Tryd.func10, Tryd.ntmps10
  go_wp2_with fail
  refine (markFrame_nil _ e i r d c).mono ?_
  rintro o w1 ⟨rfl, hb⟩
  have HB : Hid (Below w.heap.size w w1) := ((Below.refl w.heap.size w).alloc (Nat.le_refl _) _).trans (hb.mono (by simp))
  clear hb
  go_wp2_with fail
  go_ret
  exact ⟨rfl, HB.out⟩
set_option maxHeartbeats 1000000 in
theorem heldScan_row (w : World) (S : Sc) (g n cap c : Nat) (hr : rowB w g n (fun t => (c + t) % 256)) (hg : g < w.heap.size) (hcp : n ≤ cap) (hn : n ≤ 1048576) (hc : c ≤ 1000) :
    Calls Tryd.prog 11 #[scV S (some ⟨g, 0, none⟩) n cap, .int .i64 (c : Int)] w fun o w' => o = .returned (.int .i64 ((c + n : Nat) : Int)) ∧ Below w.heap.size w w' := by
  obtain ⟨sf, slf, srn, slv, scr, sac, e, i, r, d, l⟩ := S
  have HR : Hid (rowB (w.alloc (.cells #[.int .i64 sf, .int .i64 slf, .int .i64 srn, .int .i64 slv, .int .i64 scr, .int .i64 sac, .bool e, .int .u32 (i : Int), .bool r, .int .i64 d, .slice (some ⟨g, 0, none⟩) n cap] 31)) g n (fun t => (c + t) % 256)) := hr.below ((Below.refl _ _).alloc (Nat.le_refl _) _) hg
  clear hr
  go_enter Tryd.func11, Tryd.ntmps11
  go_wp2_with fail
  refine (heldFrame_row _ e i r d g n cap c HR.out (by simp; omega) hcp hn hc).mono ?_
  rintro o w1 ⟨rfl, hb⟩
  have HB : Hid (Below w.heap.size w w1) := ((Below.refl w.heap.size w).alloc (Nat.le_refl _) _).trans (hb.mono (by simp))
  clear hb
  generalize hq : c + n = q at *
  have hz : ¬ (q : Int) < 0 := by omega
  go_wp2_with fail
  go_ret
  exact ⟨by rw [hq]; rfl, HB.out⟩
set_option maxHeartbeats 1000000 in
theorem heldScan_nil (w : World) (S : Sc) (c : Nat) :
    Calls Tryd.prog 11 #[scV S none 0 0, .int .i64 (c : Int)] w fun o w' => o = .returned (.int .i64 (c : Int)) ∧ Below w.heap.size w w' := by
  obtain ⟨sf, slf, srn, slv, scr, sac, e, i, r, d, l⟩ := S
  go_enter Tryd.func11, Tryd.ntmps11
  go_wp2_with fail
  refine (heldFrame_nil _ e i r d c).mono ?_
  rintro o w1 ⟨rfl, hb⟩
  have HB : Hid (Below w.heap.size w w1) := ((Below.refl w.heap.size w).alloc (Nat.le_refl _) _).trans (hb.mono (by simp))
  clear hb
  have hz : ¬ (c : Int) < 0 := by omega
  go_wp2_with fail
  go_ret
  exact ⟨rfl, HB.out⟩
def verdZ (f lf cr ac bit : Int) : Int :=
  if f = 1 then (if bit = 1 then 4 else 0)
  else if f = 11 then (if bit = 0 then 4 else 0)
  else if f = 13 then (if bit = 0 then 4 else if ac = cr then 0 else 5)
  else if f = 14 then (if bit = 0 then (if lf > 1 then 4 else 6) else if lf = 2 then 1 else if lf = 1 then 2 else 0)
  else 0
def sizeZ (f : Int) (e : Bool) (d : Int) : Int :=
  if f = 2 then 11 else if f = 5 then 18 else if f = 7 then (if e = true then 2 else 1) else if f = 8 then 4
  else if f = 9 then (if d > 8 then 64 else 8 * d) else if f = 10 then 15 else if f = 14 then 7 else 1
def afterZ (f : Int) (e r : Bool) (d : Int) : Int :=
  if f = 4 ∧ e = false then 7 else if f = 8 ∧ (r = true ∨ d = 0) then 10 else f + 1
set_option maxHeartbeats 4000000 in
set_option maxRecDepth 20000 in
theorem l2verdict_any (w : World) (S : Sc) (a : Option Addr) (n cap : Nat) (bit : Int) :
    Calls Tryd.prog 21 #[scV S a n cap, .int .i64 bit] w fun o w' => o = .returned (.int .i64 (verdZ S.f S.lf S.cr S.ac bit)) ∧ Below w.heap.size w w' := by
  obtain ⟨f, lf, rn, lv, cr, ac, e, i, r, d, l⟩ := S
  go_enter Tryd.func21, Tryd.ntmps21
  go_wp2
  all_goals (go_ret; refine ⟨ret_int ?_, (Below.refl _ _).alloc (Nat.le_refl _) _⟩; unfold verdZ; simp_all)
set_option maxHeartbeats 4000000 in
theorem l2size_any (w : World) (f : Int) (e : Bool) (i : Nat) (r : Bool) (d : Int) (hd : 0 ≤ d) (hd1 : d ≤ 15) (a : Option Addr) (n cap : Nat) :
    Calls Tryd.prog 24 #[.int .i64 f, frV e i r d a n cap] w fun o w' => o = .returned (.int .i64 (sizeZ f e d)) ∧ Below w.heap.size w w' := by
  go_enter Tryd.func24, Tryd.ntmps24
  go_wp2
  all_goals (go_ret; refine ⟨ret_int ?_, (Below.refl _ _).alloc (Nat.le_refl _) _⟩; unfold sizeZ; first | (simp_all; done) | (simp_all; omega))
set_option maxHeartbeats 4000000 in
theorem l2after_any (w : World) (f : Int) (hf : 0 ≤ f) (hf1 : f ≤ 100) (e : Bool) (i : Nat) (r : Bool) (d : Int) (a : Option Addr) (n cap : Nat) :
    Calls Tryd.prog 25 #[.int .i64 f, frV e i r d a n cap] w fun o w' => o = .returned (.int .i64 (afterZ f e r d)) ∧ Below w.heap.size w w' := by
  cases e <;> cases r <;> go_enter Tryd.func25, Tryd.ntmps25
  all_goals go_wp2
  all_goals (go_ret; refine ⟨ret_int ?_, (Below.refl _ _).alloc (Nat.le_refl _) _⟩; unfold afterZ; simp_all)
/-- one bit into the register of fifteen -/
def stepN (r b : Nat) : Nat := if b ≠ r / 16384 then ((2 * r) % 32768) ^^^ 17817 else (2 * r) % 32768
theorem stepN_lt (r b : Nat) : stepN r b < 32768 := by
  unfold stepN
  split
  · exact Nat.xor_lt_two_pow (n := 15) (by omega) (by decide)
  · omega
theorem wraps_i64 (n : Int) (h0 : 0 ≤ n) (h1 : n < 2 ^ 62) : IntKind.i64.wrap n = n := by rw [IntKind.wrap_i64]; omega
theorem i64_mask (m : Nat) (hm : m ≤ 40) (n : Int) (h0 : 0 ≤ n) (h1 : n < 2 ^ 62) : bits .and .i64 n (2 ^ m - 1) = n % 2 ^ m :=
  bits_mask .i64 62 (by decide) wraps_i64 m (by omega) n h0 h1
theorem i64_mask15 (n : Int) (h0 : 0 ≤ n) (h1 : n < 2 ^ 62) : bits .and .i64 n 32767 = n % 32768 :=
  bits_mask .i64 62 (by decide) wraps_i64 15 (by decide) n h0 h1
theorem i64_xor_nat (a b : Nat) (ha : a < 2 ^ 62) (hb : b < 2 ^ 62) : bits .xor .i64 (a : Int) (b : Int) = ((a ^^^ b : Nat) : Int) :=
  by
  have hx : a ^^^ b < 2 ^ 62 := Nat.xor_lt_two_pow ha hb
  show IntKind.i64.wrap ((BitVec.ofInt 64 (a : Int) ^^^ BitVec.ofInt 64 (b : Int)).toNat : Int) = _
  rw [BitVec.toNat_xor, ofInt_u64 a (by omega), ofInt_u64 b (by omega), wraps_i64 _ (by omega) (by omega)]
theorem crcStep_yes (r b : Nat) (h1 : r < 32768) (h : ((b : Int) != (r : Int) / 16384) = true) :
    bits BinOp.xor IntKind.i64 (bits BinOp.and IntKind.i64 ((r : Int) * 2) 32767) 17817 = ((stepN r b : Nat) : Int) := by
  have h' : b ≠ r / 16384 := by
    intro e
    rw [bne_iff_ne] at h
    exact h (by omega)
  rw [i64_mask15 _ (by omega) (by omega)]
  have e : ((r : Int) * 2) % 32768 = ((2 * r % 32768 : Nat) : Int) := by omega
  rw [e, show (17817 : Int) = ((17817 : Nat) : Int) from rfl, i64_xor_nat _ _ (by omega) (by decide)]
  simp [stepN, h']
theorem crcStep_no (r b : Nat) (h1 : r < 32768) (h : ((b : Int) != (r : Int) / 16384) = false) :
    bits BinOp.and IntKind.i64 ((r : Int) * 2) 32767 = ((stepN r b : Nat) : Int) := by
  have h' : ¬ b ≠ r / 16384 := by
    intro e
    rw [bne_eq_false_iff_eq] at h
    exact e (by omega)
  rw [i64_mask15 _ (by omega) (by omega)]
  unfold stepN
  rw [if_neg h']
  omega
set_option maxHeartbeats 400000 in
theorem crcStep_any (r b : Nat) (w : World) (h1 : r < 32768) :
    Calls Tryd.prog 77 #[.int .i64 r, .int .i64 b] w fun e w' => e = .returned (.int .i64 (stepN r b : Nat)) ∧ w = w' := by
  go_enter Tryd.func77, Tryd.ntmps77
  go_wp2
  · have hc : ((b : Int) != (r : Int) / 16384) = true := by assumption
    go_ret
    exact ⟨ret_int (crcStep_yes r b h1 hc), rfl⟩
  · have hc : ((b : Int) != (r : Int) / 16384) = false := by assumption
    go_ret
    exact ⟨ret_int (crcStep_no r b h1 hc), rfl⟩
theorem l2x (r b : Nat) (h1 : r < 32768) (hb : b < 2) : bits BinOp.xor IntKind.i64 ((r : Int) / 16384) (b : Int) = if b ≠ r / 16384 then 1 else 0 := by
  rw [show (r : Int) / 16384 = ((r / 16384 : Nat) : Int) by omega, i64_xor_nat _ _ (by omega) (by omega)]
  have : r / 16384 < 2 := by omega
  generalize r / 16384 = y at *
  have hx : b = 0 ∨ b = 1 := by omega
  have hy : y = 0 ∨ y = 1 := by omega
  rcases hx with rfl | rfl <;> rcases hy with rfl | rfl <;> decide
set_option maxHeartbeats 400000 in
theorem l2crc_any (r b : Nat) (w : World) (h1 : r < 32768) (hb : b < 2) :
    Calls Tryd.prog 22 #[.int .i64 r, .int .i64 b] w fun e w' => e = .returned (.int .i64 (stepN r b : Nat)) ∧ w = w' := by
  have hx := l2x r b h1 hb
  by_cases h : b ≠ r / 16384
  · rw [if_pos h] at hx
    go_enter Tryd.func22, Tryd.ntmps22
    go_wp2
    go_ret
    refine ⟨ret_int ?_, rfl⟩
    have e : ((r : Int) * 2) % 32768 = ((2 * r % 32768 : Nat) : Int) := by omega
    rw [e, show (17817 : Int) = ((17817 : Nat) : Int) from rfl, i64_xor_nat _ _ (by omega) (by decide)]
    simp [stepN, h]
  · rw [if_neg h] at hx
    go_enter Tryd.func22, Tryd.ntmps22
    go_wp2
    go_ret
    refine ⟨ret_int ?_, rfl⟩
    unfold stepN
    rw [if_neg h]
    omega
theorem ownsRow_keep {w w' : World} {B E sz g n k : Nat} {xs : List Value} (h : w.ownsRow B E sz (.slice (some ⟨g, 0, none⟩) n k) n xs) (he : w'.heap[g]? = w.heap[g]?) : w'.ownsRow B E sz (.slice (some ⟨g, 0, none⟩) n k) n xs := by
  refine ⟨h.1, ?_⟩
  rcases h.2 with ⟨e, _⟩ | ⟨g1, cap, cur, hv', hb, hg, hcp, hmx, hsz, htk⟩
  · cases e
  · have e1 : g1 = g := by cases hv'; rfl
    subst e1
    exact .inr ⟨g1, cap, cur, hv', hb, he.trans hg, hcp, hmx, hsz, htk⟩
theorem ownsB.keep {w w' : World} {B g n k : Nat} {l : List Nat} (h : ownsB w B (.slice (some ⟨g, 0, none⟩) n k) l) (hn : n = l.length) (he : w'.heap[g]? = w.heap[g]?) : ownsB w' B (.slice (some ⟨g, 0, none⟩) n k) l := by
  subst hn
  exact ownsRow_keep h he
theorem ownsB_set {w : World} {B b : Nat} {v : Value} {l : List Nat} (h : ownsB w B v l) (hb : b < B) (j : Nat) (x : Value) : ownsB (w.setCell ⟨b, j, none⟩ x) B v l := by
  refine ⟨h.1, ?_⟩
  rcases h.2 with ⟨e, e2⟩ | ⟨g1, cap, cur, hv', hb1, hg, hcp, hmx, hsz, htk⟩
  · exact .inl ⟨e, e2⟩
  · exact .inr ⟨g1, cap, cur, hv', hb1, (heap_setCell_other _ _ _ _ (by show g1 ≠ b; omega)).trans hg, hcp, hmx, hsz, htk⟩
set_option maxHeartbeats 2000000 in
set_option maxRecDepth 20000 in
/-- spec.l1copyFrame -/
theorem l1copyFrame_own (w : World) (e : Bool) (i : Nat) (r : Bool) (d : Int) (a : Option Addr) (n cap : Nat) (l : List Nat) (h : isBytes w a n cap l) (hn : n ≤ 1048576) :
    Calls Tryd.prog 47 #[frV e i r d a n cap] w fun o w' => ∃ g k, o = .returned (frV e i r d (some ⟨g, 0, none⟩) n k) ∧ ownsB w' (w.heap.size + 2) (.slice (some ⟨g, 0, none⟩) n k) l ∧ Below w.heap.size w w' := by
  have HH : Hid (isBytes w a n cap l) := h
  have HL : Hid (n = l.length) := h.len
  have HSm : Hid (∀ x ∈ l, x < 256) := h.small
  have hcp := h.cap
  clear h
  have hB0 : Below w.heap.size w ((w.alloc (.cells #[.bool e, .int .u32 (i : Int), .bool r, .int .i64 d, .slice a n cap] 29)).alloc (.cells #[.bool false, .int .u32 0, .bool false, .int .i64 0, .slice none 0 0] 29)) := ((Below.refl _ _).alloc (Nat.le_refl _) _).alloc (by simp) _
  have HB0 : Hid _ := hB0
  clear hB0
  go_enter Tryd.func47, Tryd.ntmps47
  go_wp2_with fail
  have hown := own_nil ((w.alloc (.cells #[.bool e, .int .u32 (i : Int), .bool r, .int .i64 d, .slice a n cap] 29)).alloc (.cells #[.bool false, .int .u32 0, .bool false, .int .i64 0, .slice none 0 0] 29)) (w.heap.size + 2) (by simp)
  have x0 : ((w.alloc (.cells #[.bool e, .int .u32 (i : Int), .bool r, .int .i64 d, .slice a n cap] 29)).alloc (.cells #[.bool false, .int .u32 0, .bool false, .int .i64 0, .slice none 0 0] 29)).heap[w.heap.size]? = some (.cells [.bool e, .int .u32 (i : Int), .bool r, .int .i64 d, .slice a n cap].toArray 29) := by
    rw [Below.heap_alloc _ _ _ (by simp)]
    exact heap_alloc_new w _
  have x1 : rowZ ((w.alloc (.cells #[.bool e, .int .u32 (i : Int), .bool r, .int .i64 d, .slice a n cap] 29)).alloc (.cells #[.bool false, .int .u32 0, .bool false, .int .i64 0, .slice none 0 0] 29)) (w.heap.size + 1) 5 := by
    have := rowZ_alloc (w.alloc (.cells #[.bool e, .int .u32 (i : Int), .bool r, .int .i64 d, .slice a n cap] 29)) [.bool false, .int .u32 0, .bool false, .int .i64 0, .slice none 0 0] 29
    simpa using this
  have hz2 : ((w.alloc (.cells #[.bool e, .int .u32 (i : Int), .bool r, .int .i64 d, .slice a n cap] 29)).alloc (.cells #[.bool false, .int .u32 0, .bool false, .int .i64 0, .slice none 0 0] 29)).heap.size = w.heap.size + 2 := by simp
  have hs2 : w.heap.size + 1 + 1 = ((w.alloc (.cells #[.bool e, .int .u32 (i : Int), .bool r, .int .i64 d, .slice a n cap] 29)).alloc (.cells #[.bool false, .int .u32 0, .bool false, .int .i64 0, .slice none 0 0] 29)).heap.size := by simp
  simp only [hs2]
  clear hs2
  generalize (w.alloc (.cells #[.bool e, .int .u32 (i : Int), .bool r, .int .i64 d, .slice a n cap] 29)).alloc (.cells #[.bool false, .int .u32 0, .bool false, .int .i64 0, .slice none 0 0] 29) = W2 at *
  rw [← hz2] at hown
  have HX0 : Hid (W2.heap[w.heap.size]? = some (.cells [.bool e, .int .u32 (i : Int), .bool r, .int .i64 d, .slice a n cap].toArray 29)) := x0
  have HX1 : Hid (rowZ W2 (w.heap.size + 1) 5) := x1
  have HZ2 : Hid (W2.heap.size = w.heap.size + 2) := hz2
  clear x0 x1 hz2
  go_loopw [3, 4] (fun v t wr => ∃ k : Nat, k ≤ n ∧ t = .int .i64 k ∧ ownsB wr W2.heap.size v (l.take k) ∧ (k = 0 → v = .slice (some ⟨W2.heap.size, 0, none⟩) 0 0) ∧ Below W2.heap.size W2 wr) (fun _ t _ => n - (intOf t).toNat)
  case atStart => exact ⟨0, Nat.zero_le _, rfl, hown, fun _ => rfl, (Below.refl _ _).alloc (Nat.le_refl _) _⟩
  case round =>
    clear hown
    obtain ⟨k, hk, rfl, ho, hv0, hb⟩ := hrel
    have hrg := range_block ((hb.block _ (by have := HZ2.out; omega)).trans HX0.out)
    have y0 := hrg 0 (.bool e) rfl
    have y1 := hrg 1 (.int .u32 (i : Int)) rfl
    have y2 := hrg 2 (.bool r) rfl
    have y3 := hrg 3 (.int .i64 d) rfl
    have y4 := hrg 4 (.slice a n cap) rfl
    simp only [Nat.zero_add, Nat.add_zero] at y0 y1 y2 y3 y4
    clear hrg
    by_cases hlt : k < n
    · have hkl : k < l.length := by have := HL.out; omega
      obtain ⟨g0, o0, rfl, hc⟩ := HH.out.cells (by intro e; rw [e] at hkl; exact absurd hkl (Nat.not_lt_zero _))
      have hx := hc k hkl
      have hgz : g0 < w.heap.size := World.block_lt_of_cell? w _ hx
      have xk := (hb.cell (p := ⟨g0, o0 + k, none⟩) (by have := HZ2.out; show g0 < _; omega)).trans ((HB0.out.cell (p := ⟨g0, o0 + k, none⟩) (by exact hgz)).trans hx)
      have HO : Hid (ownsB wr W2.heap.size u3 (l.take k)) := ho
      have HB : Hid (Below W2.heap.size W2 wr) := hb
      have HT : Hid (l.take k ++ [l[k]] = l.take (k + 1)) := take_snoc l k hkl
      have HLT : Hid ((l.take k).length ≤ 100000000) := by show _ ≤ _; rw [List.length_take]; omega
      clear ho hb hc hx hv0
      generalize l[k] = ck at *
      go_wp2_with (first | (at_builtin; refine app_byte W2 wr rfl (.tmp 13) (.tmp 19) rfl W2.heap.size u3 (l.take k) ck _ rfl rfl HO.out rfl HLT.out HB.out.size HB.out ?_; intro v' w' ho' hb' _))
      go_roundw
      case rel => exact ⟨k + 1, by omega, by go_num, by rw [← HT.out]; exact ho', fun e => absurd e (by omega), hb'⟩
      case measure => simp [intOf]; omega
    · have hkn : k = n := by omega
      subst hkn
      have htk : l.take k = l := by rw [List.take_of_length_le (by have := HL.out; omega)]
      rw [htk] at ho
      have hnn : u3 ≠ .slice none 0 0 := by
        intro e
        by_cases hk0 : k = 0
        · rw [hv0 hk0] at e; cases e
        · subst e
          rcases ho.2 with ⟨_, h⟩ | ⟨g, _, _, h, _⟩
          · have := HL.out; omega
          · cases h
      obtain ⟨g1, k1, rfl, q1, q2, q3⟩ := ownsB_bytes ho hnn HSm.out
      rw [← HL.out]
      have HQ : Hid (ownsB wr W2.heap.size (.slice (some ⟨g1, 0, none⟩) k k1) l) := by rw [← HL.out] at ho; exact ho
      have HB : Hid (Below w.heap.size w wr) := HB0.out.trans (hb.mono (by have := HZ2.out; omega))
      have hZ := HX1.out.below hb (by have := HZ2.out; omega)
      obtain ⟨u0, z0⟩ := hZ.cell 0 (by omega)
      obtain ⟨u1, z1⟩ := hZ.cell 1 (by omega)
      obtain ⟨u2, z2⟩ := hZ.cell 2 (by omega)
      obtain ⟨u3, z3⟩ := hZ.cell 3 (by omega)
      obtain ⟨u4, z4⟩ := hZ.cell 4 (by omega)
      have f0 := hZ.free 0
      have f1 := hZ.free 1
      have f2 := hZ.free 2
      have f3 := hZ.free 3
      have f4 := hZ.free 4
      clear hZ q1 q2 q3 ho hb hv0 hnn htk
      go_wp2
      refine bodyPost_ret (v := frV e i r d (some ⟨g1, 0, none⟩) k k1) (by simp [results, Tryd.results47, go_sem, z0, z1, z2, z3, z4]) rfl ?_
      have hz := HZ2.out
      refine ⟨g1, k1, rfl, ?_, ?_⟩
      · rw [show w.heap.size + 2 = W2.heap.size from hz.symm]
        (repeat refine ownsB_set ?_ (by omega) _ _)
        exact HQ.out
      · (repeat refine Below.setCell ?_ (by simp) _)
        exact HB.out
theorem ownsB.setCells {w : World} {B b : Nat} {v : Value} {l : List Nat} (h : ownsB w B v l) (hb : b < B) (o : Nat) (vs : List Value) : ownsB (w.setCells b o vs) B v l := by
  refine ⟨h.1, ?_⟩
  rcases h.2 with ⟨e, e2⟩ | ⟨g1, cap, cur, hv', hb1, hg, hcp, hmx, hsz, htk⟩
  · exact .inl ⟨e, e2⟩
  · exact .inr ⟨g1, cap, cur, hv', hb1, (setCells_other _ _ (by omega) _ _ _).trans hg, hcp, hmx, hsz, htk⟩
theorem ownsB.mono {w : World} {B B' : Nat} {v : Value} {l : List Nat} (h : ownsB w B v l) (hb : B' ≤ B) : ownsB w B' v l := by
  refine ⟨h.1, ?_⟩
  rcases h.2 with ⟨e, e2⟩ | ⟨g1, cap, cur, hv', hb1, hg, hcp, hmx, hsz, htk⟩
  · exact .inl ⟨e, e2⟩
  · exact .inr ⟨g1, cap, cur, hv', by omega, hg, hcp, hmx, hsz, htk⟩
theorem ownsB.below {w w' : World} {B : Nat} {v : Value} {l : List Nat} (h : ownsB w B v l) (hb : Below w.heap.size w w') : ownsB w' B v l := by
  refine ⟨h.1, ?_⟩
  rcases h.2 with ⟨e, e2⟩ | ⟨g1, cap, cur, hv', hb1, hg, hcp, hmx, hsz, htk⟩
  · exact .inl ⟨e, e2⟩
  · exact .inr ⟨g1, cap, cur, hv', hb1, (hb.block _ (lt_of_some hg)).trans hg, hcp, hmx, hsz, htk⟩
set_option maxHeartbeats 2000000 in
set_option maxRecDepth 20000 in
/-- spec.l2copy -/
theorem l2copy_own (w : World) (S : Sc) (a : Option Addr) (n cap : Nat) (h : isBytes w a n cap S.l) (hn : n ≤ 1048576) :
    Calls Tryd.prog 20 #[scV S a n cap] w fun o w' => ∃ g k, o = .returned (scV S (some ⟨g, 0, none⟩) n k) ∧ ownsB w' (w.heap.size + 2) (.slice (some ⟨g, 0, none⟩) n k) S.l ∧ Below w.heap.size w w' := by
  have HH : Hid (isBytes w a n cap S.l) := h
  clear h
  obtain ⟨f, lf, rn, lv, cr, ac, e, i, r, d, l⟩ := S
  go_enter Tryd.func20, Tryd.ntmps20
  go_wp2_with fail
  refine (l1copyFrame_own _ e i r d a n cap l (HH.out.below (((Below.refl _ _).alloc (Nat.le_refl _) _).alloc (by simp) _)) hn).mono ?_
  rintro o w1 ⟨g, k, rfl, ho, hb⟩
  have HP : Hid (blk w1 w.heap.size ([.int .i64 f, .int .i64 lf, .int .i64 rn, .int .i64 lv, .int .i64 cr, .int .i64 ac] ++ [.bool e, .int .u32 (i : Int), .bool r, .int .i64 d, .slice a n cap] ++ []) 31) := ((blk.new w _ 31).alloc _).below hb
  have HR : Hid (blk w1 (w.heap.size + 1) ([] ++ z11 ++ []) 31) := by
    have := (blk.new (w.alloc (.cells [.int .i64 f, .int .i64 lf, .int .i64 rn, .int .i64 lv, .int .i64 cr, .int .i64 ac, .bool e, .int .u32 (i : Int), .bool r, .int .i64 d, .slice a n cap].toArray 31)) z11 31).below hb
    simpa [Hid] using this
  have HB : Hid (Below w.heap.size w w1) := (((Below.refl w.heap.size w).alloc (Nat.le_refl _) _).alloc (by simp) _).trans (hb.mono (by simp; omega))
  have HG : Hid (ownsB w1 (w.heap.size + 2) (.slice (some ⟨g, 0, none⟩) n k) l) := ho.mono (by simp)
  clear hb ho
  go_wp2_with (first
    | (refine wpList_store_mid (P := Tryd.prog) rfl 29 (.tmp 6) (.tmp 5) rfl w.heap.size 6 #[.bool e, .int .u32 (i : Int), .bool r, .int .i64 d, .slice (some ⟨g, 0, none⟩) n k] rfl rfl (HP.out.there 6 5 (by simp)) sz29 (one5 _ _ _ _ _ _ _) ?_; generalize hW2 : World.setCells w1 w.heap.size 6 _ = w2; have HW2 : Hid (World.setCells w1 w.heap.size 6 [.bool e, .int .u32 (i : Int), .bool r, .int .i64 d, .slice (some ⟨g, 0, none⟩) n k] = w2) := hW2; have HP2 : Hid (blk w2 w.heap.size (scL ⟨f, lf, rn, lv, cr, ac, e, i, r, d, l⟩ (some ⟨g, 0, none⟩) n k) 31) := (hW2 ▸ blk.put [.int .i64 f, .int .i64 lf, .int .i64 rn, .int .i64 lv, .int .i64 cr, .int .i64 ac] _ [] _ HP.out rfl); have HR2 : Hid (blk w2 (w.heap.size + 1) ([] ++ z11 ++ []) 31) := (hW2 ▸ HR.out.other (by omega) _ _); clear hW2)
    | (refine wpList_load_mid (P := Tryd.prog) rfl 31 (.tmp 1) rfl w.heap.size 0 rfl _ _ HP2.out.load Tryd.underlying31 rfl sz31 ?_)
    | (refine wpList_store_mid (P := Tryd.prog) rfl 31 (.tmp 2) (.tmp 7) rfl (w.heap.size + 1) 0 _ rfl rfl (HR2.out.there 0 11 (by simp)) sz31 (one11 _ _ _ _ _ _ _ _ _ _ _ _ _) ?_; generalize hW3 : World.setCells w2 (w.heap.size + 1) 0 _ = w3; have HW3 : Hid (World.setCells w2 (w.heap.size + 1) 0 (scL ⟨f, lf, rn, lv, cr, ac, e, i, r, d, l⟩ (some ⟨g, 0, none⟩) n k) = w3) := hW3; clear hW3))
  have e2 := HW2.out
  have e3 := HW3.out
  have hF : blk w3 (w.heap.size + 1) (scL ⟨f, lf, rn, lv, cr, ac, e, i, r, d, l⟩ (some ⟨g, 0, none⟩) n k) 31 := e3 ▸ blk.put [] z11 [] _ HR2.out rfl
  have hL := run_loadVar_mid (P := Tryd.prog) w3 (w.heap.size + 1) 0 31 _ _ hF.load Tryd.underlying31 rfl sz31
  refine bodyPost_ret (v := scV ⟨f, lf, rn, lv, cr, ac, e, i, r, d, l⟩ (some ⟨g, 0, none⟩) n k) (results_cell Tryd.results20 _ w3 (w.heap.size + 1) _ rfl hL) rfl ?_
  subst e2
  subst e3
  exact ⟨g, k, rfl, (HG.out.setCells (by omega) _ _).setCells (by omega) _ _, setCells_below (by omega) _ _ (setCells_below (by omega) _ _ HB.out)⟩
end Go.Proofs.YtjmlalojfghkiaaDoor
