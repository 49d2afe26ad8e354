import Derived.Test.YtaamahohdnbpiaaGreatG09
import Derived.Test.YtaamahohdnbpiaaGreatVB
namespace Go.Proofs.YtaamahohdnbpiaaGreat
open Go.RowKit
set_option linter.unusedVariables false
def arbA (b : R8) : ByteArray := arbZ b.e b.i b.r b.d b.l.length
def befS (a b : R8) : Bool := if arbA a = arbA b then decide (a.z < b.z) else Op.bytesLess (arbA a).toList (arbA b).toList
theorem at8.frame {w : World} {g o : Nat} {b : R8} {ao : Option Addr} {m c : Nat} (h : at8 w g o b ao m c) : w.rangeAt g (o + 3) [.bool b.e, .int .u32 (b.i : Int), .bool b.r, .int .i64 b.d, .slice ao m c] := by
  intro j v hv
  match j, hv with
  | 0, hv => cases hv; exact h.c3
  | 1, hv => cases hv; exact h.c4
  | 2, hv => cases hv; exact h.c5
  | 3, hv => cases hv; exact h.c6
  | 4, hv => cases hv; exact h.cs
end Go.Proofs.YtaamahohdnbpiaaGreat
namespace Go.Proofs.YtaamahohdnbpiaaGreat
open Go.RowKit
set_option linter.unusedVariables false
theorem less_lt (x y : List UInt8) : Op.bytesLess x y = decide (x < y) := by
  induction x generalizing y with
  | nil => cases y <;> simp [Op.bytesLess]
  | cons a x ih =>
    cases y with
    | nil => simp [Op.bytesLess]
    | cons b y =>
      rw [Op.bytesLess, ih]
      by_cases e : a = b <;> simp [List.cons_lt_cons_iff, e]
theorem cmpB_lt (x y : List UInt8) : (Lib.compareBytes x y = 0 ↔ x = y) ∧ (Lib.compareBytes x y < 0 ↔ Op.bytesLess x y = true) := by
  induction x generalizing y with
  | nil => cases y <;> simp [Lib.compareBytes, Op.bytesLess]
  | cons a x ih =>
    cases y with
    | nil => simp [Lib.compareBytes, Op.bytesLess]
    | cons b y =>
      have h1 := ih y
      rw [Lib.compareBytes, Op.bytesLess]
      by_cases hab : a < b
      · have hne : a ≠ b := fun h => by subst h; exact absurd hab (UInt8.lt_irrefl a)
        simp [hab, hne]
      · by_cases hba : b < a
        · have hne : a ≠ b := fun h => by subst h; exact absurd hba (UInt8.lt_irrefl a)
          simp [hab, hba, hne]
        · have he : a = b := UInt8.le_antisymm (UInt8.not_lt.1 hba) (UInt8.not_lt.1 hab)
          subst he
          simp [hab, h1.1, h1.2]
theorem cmpI (x y : Int) : (Lib.compareInt x y < 0 ↔ x < y) := by
  unfold Lib.compareInt
  split
  · simp_all
  · split <;> simp_all
theorem befS_asymm {a b : R8} (h : befS a b = true) (h' : befS b a = true) : False := by
  unfold befS at h h'
  by_cases e : arbA a = arbA b
  · rw [if_pos e] at h; rw [if_pos e.symm] at h'; simp at h h'; omega
  · rw [if_neg e, less_lt] at h
    rw [if_neg (fun x => e x.symm), less_lt] at h'
    exact absurd (of_decide_eq_true h') (List.lt_asymm (of_decide_eq_true h))
theorem toList_ext {a b : ByteArray} (h : a.toList = b.toList) : a = b := by
  rw [ByteArray.toList_eq, ByteArray.toList_eq] at h
  exact ByteArray.ext (Array.toList_inj.1 h)
theorem befS_trans {a b c : R8} (h : befS a b = true) (h' : befS b c = true) : befS a c = true := by
  unfold befS at h h' ⊢
  by_cases e : arbA a = arbA b
  · rw [if_pos e] at h
    by_cases e' : arbA b = arbA c
    · rw [if_pos e'] at h'; rw [if_pos (e.trans e')]; simp at h h' ⊢; omega
    · rw [if_neg e'] at h'; rw [e, if_neg e']; exact h'
  · rw [if_neg e, less_lt] at h
    by_cases e' : arbA b = arbA c
    · rw [← e', if_neg e, less_lt]; exact h
    · rw [if_neg e', less_lt] at h'
      have h3 := List.lt_trans (of_decide_eq_true h) (of_decide_eq_true h')
      have hne : arbA a ≠ arbA c := fun x => by rw [x] at h3; exact absurd h3 (List.lt_irrefl _)
      rw [if_neg hne, less_lt]
      exact decide_eq_true h3
theorem befS_total {a b : R8} (hz : a.z ≠ b.z) (h : befS a b = false) : befS b a = true := by
  unfold befS at h ⊢
  by_cases e : arbA a = arbA b
  · rw [if_pos e] at h; rw [if_pos e.symm]; simp at h ⊢; omega
  · rw [if_neg e, less_lt] at h
    rw [if_neg (fun x => e x.symm), less_lt]
    have h1 := of_decide_eq_false h
    by_cases h2 : (arbA b).toList < (arbA a).toList
    · exact decide_eq_true h2
    · exact absurd (toList_ext (List.le_antisymm (List.not_lt.1 h2) (List.not_lt.1 h1))) e
def isBest (bx : List R8) (i : Nat) : Prop := ∃ hi : i < bx.length, bx[i].x = 1 ∧ ∀ j (hj : j < bx.length), j ≠ i → bx[j].x = 1 → befS bx[i] bx[j] = true
def bestR (bx : List R8) (r : Int) : Prop := (r = -1 ∧ ∀ i, ¬ isBest bx i) ∨ ∃ i : Nat, r = i ∧ isBest bx i
theorem isBest_one {bx : List R8} {i j : Nat} (h : isBest bx i) (h' : isBest bx j) : i = j := by
  obtain ⟨hi, h1, h2⟩ := h
  obtain ⟨hj, h3, h4⟩ := h'
  by_cases e : i = j
  · exact e
  · exact absurd (befS_asymm (h2 j hj (fun x => e x.symm) h3) (h4 i hi e h1)) id
theorem bestR_one {bx : List R8} {r r' : Int} (h : bestR bx r) (h' : bestR bx r') : r = r' := by
  rcases h with ⟨rfl, h⟩ | ⟨i, rfl, h⟩
  · rcases h' with ⟨rfl, h'⟩ | ⟨i, rfl, h'⟩
    · rfl
    · exact absurd h' (h i)
  · rcases h' with ⟨rfl, h'⟩ | ⟨j, rfl, h'⟩
    · exact absurd h (h' i)
    · rw [isBest_one h h']
def bestK (bx : List R8) (k : Nat) (r : Int) : Prop := (r = -1 ∧ ∀ j (hj : j < bx.length), j < k → bx[j].x ≠ 1) ∨ ∃ i : Nat, r = i ∧ i < k ∧ ∃ hi : i < bx.length, bx[i].x = 1 ∧ ∀ j (hj : j < bx.length), j < k → j ≠ i → bx[j].x = 1 → befS bx[i] bx[j] = true
theorem bestK_end {bx : List R8} {k : Nat} {r : Int} (h : bestK bx k r) (hk : bx.length ≤ k) : bestR bx r := by
  rcases h with ⟨rfl, h⟩ | ⟨i, rfl, hik, hi, h1, h2⟩
  · exact Or.inl ⟨rfl, fun i hb => by obtain ⟨hi, h1, _⟩ := hb; exact h i hi (by omega) h1⟩
  · exact Or.inr ⟨i, rfl, hi, h1, fun j hj hne hw => h2 j hj (by omega) hne hw⟩
theorem bestK_skip {bx : List R8} {k : Nat} {r : Int} (h : bestK bx k r) (hk : k < bx.length) (hx : bx[k].x ≠ 1) : bestK bx (k + 1) r := by
  rcases h with ⟨rfl, h⟩ | ⟨i, rfl, hik, hi, h1, h2⟩
  · refine Or.inl ⟨rfl, fun j hj hjk => ?_⟩
    by_cases e : j = k
    · subst e; exact hx
    · exact h j hj (by omega)
  · refine Or.inr ⟨i, rfl, by omega, hi, h1, fun j hj hjk hne hw => ?_⟩
    by_cases e : j = k
    · subst e; exact absurd hw hx
    · exact h2 j hj (by omega) hne hw
theorem bestK_first {bx : List R8} {k : Nat} (h : bestK bx k (-1)) (hk : k < bx.length) (hx : bx[k].x = 1) : bestK bx (k + 1) k := by
  rcases h with ⟨_, h⟩ | ⟨i, h0, _⟩
  · refine Or.inr ⟨k, rfl, by omega, hk, hx, fun j hj hjk hne hw => absurd hw (h j hj (by omega))⟩
  · omega
theorem bestK_ahead {bx : List R8} {k i : Nat} (h : bestK bx k (i : Int)) (hk : k < bx.length) (hi : i < bx.length) (hx : bx[k].x = 1) (hb : befS bx[k] bx[i] = true) : bestK bx (k + 1) k := by
  rcases h with ⟨h0, _⟩ | ⟨i', h0, hik, hi', h1, h2⟩
  · omega
  · have : i' = i := by omega
    subst this
    refine Or.inr ⟨k, rfl, by omega, hk, hx, fun j hj hjk hne hw => ?_⟩
    by_cases e : j = i'
    · subst e; exact hb
    · exact befS_trans hb (h2 j hj (by omega) e hw)
theorem bestK_behind {st : Int} {bx : List R8} {k i : Nat} (hok : okBxs st bx) (h : bestK bx k (i : Int)) (hk : k < bx.length) (hi : i < bx.length) (hx : bx[k].x = 1) (hb : befS bx[k] bx[i] = false) : bestK bx (k + 1) i := by
  rcases h with ⟨h0, _⟩ | ⟨i', h0, hik, hi', h1, h2⟩
  · omega
  · have : i' = i := by omega
    subst this
    refine Or.inr ⟨i', rfl, by omega, hi, h1, fun j hj hjk hne hw => ?_⟩
    by_cases e : j = k
    · subst e
      exact befS_total (fun hz => (hok.2.1 i' j hi hj hik (by rw [h1]; decide) (by rw [hx]; decide)).2 hz.symm) hb
    · exact h2 j hj (by omega) hne hw
end Go.Proofs.YtaamahohdnbpiaaGreat
namespace Go.Proofs.YtaamahohdnbpiaaGreat
open Go.RowKit
set_option linter.unusedVariables false
set_option maxHeartbeats 4000000 in
theorem or2_any (w : World) (g : Nat) (a b : Int) (h : w.heap[g]? = some (.cells #[.int .i64 a, .int .i64 b] 3)) :
    Calls Tryz.prog 173 #[.slice (some ⟨g, 0, none⟩) 2 2] w fun o w' => o = .returned (.int .i64 (if a = 0 then b else a)) ∧ w = w' := by
  have c0 : w.cell? ⟨g, 0, none⟩ = some (.int .i64 a) := by simp [World.cell?, h]
  have c1 : w.cell? ⟨g, 1, none⟩ = some (.int .i64 b) := by simp [World.cell?, h]
  clear h
  by_cases ha : a = 0
  · subst ha
    by_cases hb : b = 0
    · subst hb
      go_enter Tryz.func173, Tryz.ntmps173
      go_wp2_with fail
      go_loopw [8] (fun i wr => ∃ k : Nat, k ≤ 2 ∧ i = .int .i64 (k : Int) ∧ wr = w) (fun i _ => 2 - (intOf i).toNat)
      case atStart => exact ⟨0, Nat.zero_le _, rfl, rfl⟩
      case round =>
        obtain ⟨k, hk, rfl, rfl⟩ := hrel
        match k, hk with
        | 0, _ =>
          go_wp2
          go_roundw
          case rel => exact ⟨1, by omega, rfl, trivial⟩
          case measure => simp [intOf]
        | 1, _ =>
          go_wp2
          go_roundw
          case rel => exact ⟨2, by omega, rfl, trivial⟩
          case measure => simp [intOf]
        | 2, _ =>
          go_wp2
          go_ret
          exact ⟨rfl, rfl⟩
    · have hb' : (b == 0) = false := by simpa using hb
      go_enter Tryz.func173, Tryz.ntmps173
      go_wp2_with fail
      go_loopw [8] (fun i wr => ∃ k : Nat, k ≤ 1 ∧ i = .int .i64 (k : Int) ∧ wr = w) (fun i _ => 2 - (intOf i).toNat)
      case atStart => exact ⟨0, Nat.zero_le _, rfl, rfl⟩
      case round =>
        obtain ⟨k, hk, rfl, rfl⟩ := hrel
        match k, hk with
        | 0, _ =>
          go_wp2
          go_roundw
          case rel => exact ⟨1, by omega, rfl, trivial⟩
          case measure => simp [intOf]
        | 1, _ =>
          go_wp2
          go_ret
          exact ⟨rfl, rfl⟩
  · have ha' : (a == 0) = false := by simpa using ha
    rw [if_neg ha]
    go_enter Tryz.func173, Tryz.ntmps173
    go_wp2_with fail
    go_loopw [8] (fun i wr => i = .int .i64 0 ∧ wr = w) (fun i _ => 0)
    case atStart => exact ⟨rfl, rfl⟩
    case round =>
      obtain ⟨rfl, rfl⟩ := hrel
      go_wp2
      go_ret
      exact ⟨rfl, rfl⟩
structure gaS (w : World) (L1 L2 : List Value) (W : World) : Prop where
  p : blk W w.heap.size L1 97
  q : blk W (w.heap.size + 1) L2 97
  b : Below w.heap.size w W
theorem gaS.below {w : World} {L1 L2 : List Value} {W W' : World} (h : gaS w L1 L2 W) (hb : Below W.heap.size W W') : gaS w L1 L2 W' := ⟨h.p.below hb, h.q.below hb, h.b.trans (hb.mono h.b.size)⟩
theorem ahead_val (A B : R8) : decide ((if Lib.compareBytes (arbA A).data.toList (arbA B).data.toList = 0 then Lib.compareInt A.z B.z else Lib.compareBytes (arbA A).data.toList (arbA B).data.toList) < 0) = befS A B := by
  have h := cmpB_lt (arbA A).data.toList (arbA B).data.toList
  unfold befS
  rw [ByteArray.toList_eq, ByteArray.toList_eq]
  by_cases e : arbA A = arbA B
  · rw [if_pos e, if_pos (h.1.2 (by rw [e]))]
    exact decide_eq_decide.2 (cmpI _ _)
  · rw [if_neg e, if_neg (fun x => e (ByteArray.ext (Array.toList_inj.1 (h.1.1 x))))]
    rw [Bool.eq_iff_iff, decide_eq_true_iff]
    exact h.2
set_option maxHeartbeats 4000000 in
set_option maxRecDepth 20000 in
theorem goesAhead_any (w : World) (A B : R8) (ao : Option Addr) (m c : Nat) (ao' : Option Addr) (m' c' : Nat) (h : isBytes w ao m c A.l) (h' : isBytes w ao' m' c' B.l) :
    Calls Tryz.prog 130 #[bxV A.x A.y A.z A.e A.i A.r A.d ao m c, bxV B.x B.y B.z B.e B.i B.r B.d ao' m' c'] w fun o w' => o = .returned (.bool (befS A B)) ∧ Below w.heap.size w w' := by
  have HV := ahead_val A B
  have e1 : arbA A = arbZ A.e A.i A.r A.d m := by unfold arbA; rw [h.len]
  have e2 : arbA B = arbZ B.e B.i B.r B.d m' := by unfold arbA; rw [h'.len]
  have HA1 : Hid (∀ W, Below w.heap.size w W → Calls Tryz.prog 175 #[frV A.e A.i A.r A.d ao m c] W fun o w' => o = .returned (.string (arbA A)) ∧ Below W.heap.size W w') := fun W hW => e1 ▸ arb_any W _ _ _ _ ao m c A.l (h.below hW)
  have HA2 : Hid (∀ W, Below w.heap.size w W → Calls Tryz.prog 175 #[frV B.e B.i B.r B.d ao' m' c'] W fun o w' => o = .returned (.string (arbA B)) ∧ Below W.heap.size W w') := fun W hW => e2 ▸ arb_any W _ _ _ _ ao' m' c' B.l (h'.below hW)
  clear e1 e2 h h'
  rw [← HV]
  clear HV
  generalize arbA A = AA at *
  generalize arbA B = BB at *
  obtain ⟨x, y, z, e, id, r, d, l⟩ := A
  obtain ⟨x', y', z', e', id', r', d', l'⟩ := B
  simp only [] at HA1 HA2 ⊢
  have HC1 : Hid (∀ W, Calls Tryz.prog 174 #[.string AA, .string BB] W fun o w' => o = .returned (.int .i64 (Lib.compareBytes AA.data.toList BB.data.toList)) ∧ w' = W) := Tryz.strings_Compare AA BB
  have HC2 : Hid (∀ W, Calls Tryz.prog 176 #[.int .i64 z, .int .i64 z'] W fun o w' => o = .returned (.int .i64 (Lib.compareInt z z')) ∧ w' = W) := Tryz.cmp_Compare_int z z'
  generalize Lib.compareBytes AA.data.toList BB.data.toList = ca at *
  generalize Lib.compareInt z z' = cb at *
  have HC3 : Hid (∀ W g, W.heap[g]? = some (.cells #[.int .i64 ca, .int .i64 cb] 3) → Calls Tryz.prog 173 #[.slice (some ⟨g, 0, none⟩) 2 2] W fun o w' => o = .returned (.int .i64 (if ca = 0 then cb else ca)) ∧ W = w') := fun W g h => or2_any W g ca cb h
  generalize (if ca = 0 then cb else ca) = cc at *
  have HS0 : Hid (gaS w [.int .i64 x, .int .i64 y, .int .i64 z, .bool e, .int .u32 (id : Int), .bool r, .int .i64 d, .slice ao m c] [.int .i64 x', .int .i64 y', .int .i64 z', .bool e', .int .u32 (id' : Int), .bool r', .int .i64 d', .slice ao' m' c'] ((w.alloc (.cells [.int .i64 x, .int .i64 y, .int .i64 z, .bool e, .int .u32 (id : Int), .bool r, .int .i64 d, .slice ao m c].toArray 97)).alloc (.cells [.int .i64 x', .int .i64 y', .int .i64 z', .bool e', .int .u32 (id' : Int), .bool r', .int .i64 d', .slice ao' m' c'].toArray 97))) := ⟨(blk.new w _ 97).alloc _, by have := blk.new (w.alloc (.cells [.int .i64 x, .int .i64 y, .int .i64 z, .bool e, .int .u32 (id : Int), .bool r, .int .i64 d, .slice ao m c].toArray 97)) [.int .i64 x', .int .i64 y', .int .i64 z', .bool e', .int .u32 (id' : Int), .bool r', .int .i64 d', .slice ao' m' c'] 97; simpa using this, ((Below.refl _ _).alloc (Nat.le_refl _) _).alloc (by simp) _⟩
  go_enter Tryz.func130, Tryz.ntmps130
  go_wp2_with fail
  have hS0 : gaS w [.int .i64 x, .int .i64 y, .int .i64 z, .bool e, .int .u32 (id : Int), .bool r, .int .i64 d, .slice ao m c] [.int .i64 x', .int .i64 y', .int .i64 z', .bool e', .int .u32 (id' : Int), .bool r', .int .i64 d', .slice ao' m' c'] ((w.alloc (.cells #[.int .i64 x, .int .i64 y, .int .i64 z, .bool e, .int .u32 (id : Int), .bool r, .int .i64 d, .slice ao m c] 97)).alloc (.cells #[.int .i64 x', .int .i64 y', .int .i64 z', .bool e', .int .u32 (id' : Int), .bool r', .int .i64 d', .slice ao' m' c'] 97)) := HS0.out
  clear HS0
  generalize ((w.alloc (.cells #[.int .i64 x, .int .i64 y, .int .i64 z, .bool e, .int .u32 (id : Int), .bool r, .int .i64 d, .slice ao m c] 97)).alloc (.cells #[.int .i64 x', .int .i64 y', .int .i64 z', .bool e', .int .u32 (id' : Int), .bool r', .int .i64 d', .slice ao' m' c'] 97)) = w0 at *
  refine wp_region_held (S := gaS w [.int .i64 x, .int .i64 y, .int .i64 z, .bool e, .int .u32 (id : Int), .bool r, .int .i64 d, .slice ao m c] [.int .i64 x', .int .i64 y', .int .i64 z', .bool e', .int .u32 (id' : Int), .bool r', .int .i64 d', .slice ao' m' c']) (by kernel_rfl) ?_
  have hS := hS0.below (W' := w0.drew) (Below.refl _ _).drew
  clear hS0
  refine wpAnyH_take (i := 0) (v := .pointer (some ⟨w.heap.size, 3, none⟩)) rfl (by kernel_rfl) (by kernel_rfl) (by kernel_rfl) (fun _ _ _ h => h) (Or.inl ⟨by rfl, ?_⟩) hS ?_
  · intro W hSw
    clear hS
    go_simp
  simp only [Act.put, liA, liB, liC, liD, liE]
  refine wpAnyH_take (i := 1) (v := .agg [.bool e, .int .u32 (id : Int), .bool r, .int .i64 d, .slice ao m c].toArray) rfl (by kernel_rfl) (by kernel_rfl) (by kernel_rfl) (fun _ _ _ h => h) (yieldsIf_load_mid (by rfl) 25 (.tmp 5) rfl w.heap.size 3 rfl [.bool e, .int .u32 (id : Int), .bool r, .int .i64 d, .slice ao m c] _ (fun W h => blk.loadAt [.int .i64 x, .int .i64 y, .int .i64 z] [.bool e, .int .u32 (id : Int), .bool r, .int .i64 d, .slice ao m c] [] h.p) Tryz.underlying25 rfl sz93) hS ?_
  simp only [Act.put, liA, liB, liC, liD, liE, liF]
  refine wpAnyH_take (i := 3) (v := .pointer (some ⟨w.heap.size + 1, 3, none⟩)) rfl (by kernel_rfl) (by kernel_rfl) (by kernel_rfl) (fun _ _ _ h => h) (Or.inl ⟨by rfl, ?_⟩) hS ?_
  · intro W hSw
    clear hS
    go_simp
  simp only [Act.put, liA, liB, liC, liD, liE, liF]
  refine wpAnyH_take (i := 4) (v := .agg [.bool e', .int .u32 (id' : Int), .bool r', .int .i64 d', .slice ao' m' c'].toArray) rfl (by kernel_rfl) (by kernel_rfl) (by kernel_rfl) (fun _ _ _ h => h) (yieldsIf_load_mid (by rfl) 25 (.tmp 8) rfl (w.heap.size + 1) 3 rfl [.bool e', .int .u32 (id' : Int), .bool r', .int .i64 d', .slice ao' m' c'] _ (fun W h => blk.loadAt [.int .i64 x', .int .i64 y', .int .i64 z'] [.bool e', .int .u32 (id' : Int), .bool r', .int .i64 d', .slice ao' m' c'] [] h.q) Tryz.underlying25 rfl sz93) hS ?_
  simp only [Act.put, liA, liB, liC, liD, liE, liF]
  refine wpAnyH_take (i := 7) (v := .pointer (some ⟨w.heap.size, 2, none⟩)) rfl (by kernel_rfl) (by kernel_rfl) (by kernel_rfl) (fun _ _ _ h => h) (Or.inl ⟨by rfl, ?_⟩) hS ?_
  · intro W hSw
    clear hS
    go_simp
  simp only [Act.put, liA, liB, liC, liD, liE, liF]
  refine wpAnyH_take (i := 8) (v := .int .i64 z) rfl (by kernel_rfl) (by kernel_rfl) (by kernel_rfl) (fun _ _ _ h => h) (Or.inl ⟨by rfl, ?_⟩) hS ?_
  · intro W hSw
    have hc := hSw.p.cell 2 _ rfl
    clear hS
    go_simp
  simp only [Act.put, liA, liB, liC, liD, liE, liF]
  refine wpAnyH_take (i := 9) (v := .pointer (some ⟨w.heap.size + 1, 2, none⟩)) rfl (by kernel_rfl) (by kernel_rfl) (by kernel_rfl) (fun _ _ _ h => h) (Or.inl ⟨by rfl, ?_⟩) hS ?_
  · intro W hSw
    clear hS
    go_simp
  simp only [Act.put, liA, liB, liC, liD, liE, liF]
  refine wpAnyH_take (i := 10) (v := .int .i64 z') rfl (by kernel_rfl) (by kernel_rfl) (by kernel_rfl) (fun _ _ _ h => h) (Or.inl ⟨by rfl, ?_⟩) hS ?_
  · intro W hSw
    have hc := hSw.q.cell 2 _ rfl
    clear hS
    go_simp
  simp only [Act.put, liA, liB, liC, liD, liE, liF]
  refine wpAnyH_all (rs := [2]) (by kernel_rfl) (by simp) ?_
  refine AllReadyH.cons rfl (fun K hK => ?_) AllReadyH.nil
  go_simp
  refine (HA1.out _ hS.b).mono ?_
  rintro o w1 ⟨rfl, hb1⟩
  have hS1 := hS.below hb1
  go_wp2_with fail
  refine hK.out _ _ hS1 (fun hS2 => ?_)
  clear hS hK K
  have hS := hS2
  clear hS2
  clear hS1 hb1
  refine wpAnyH_all (rs := [5]) (by kernel_rfl) (by simp) ?_
  refine AllReadyH.cons rfl (fun K hK => ?_) AllReadyH.nil
  go_simp
  refine (HA2.out _ hS.b).mono ?_
  rintro o w2 ⟨rfl, hb2⟩
  have hS1 := hS.below hb2
  go_wp2_with fail
  refine hK.out _ _ hS1 (fun hS2 => ?_)
  clear hS hK K
  have hS := hS2
  clear hS2
  clear hS1 hb2
  refine wpAnyH_all (rs := [6]) (by kernel_rfl) (by simp) ?_
  refine AllReadyH.cons rfl (fun K hK => ?_) AllReadyH.nil
  go_simp
  refine (HC1.out _).mono ?_
  rintro o w3 ⟨rfl, rfl⟩
  go_wp2_with fail
  refine hK.out _ _ hS (fun hS2 => ?_)
  clear hS hK K
  have hS := hS2
  clear hS2
  refine wpAnyH_all (rs := [11]) (by kernel_rfl) (by simp) ?_
  refine AllReadyH.cons rfl (fun K hK => ?_) AllReadyH.nil
  go_simp
  refine (HC2.out _).mono ?_
  rintro o w4 ⟨rfl, rfl⟩
  go_wp2_with fail
  refine hK.out _ _ hS (fun hS2 => ?_)
  clear hS hK K
  have hS := hS2
  clear hS2
  refine wpAnyH_all (rs := [12]) (by kernel_rfl) (by simp) ?_
  refine AllReadyH.cons rfl (fun K hK => ?_) AllReadyH.nil
  go_simp
  have hg := heap_alloc_new w4 (.cells #[.int .i64 ca, .int .i64 cb] 3)
  have hS1 := hS.below ((Below.refl _ w4).alloc (Nat.le_refl _) (.cells #[.int .i64 ca, .int .i64 cb] 3))
  generalize (w4.alloc (.cells #[.int .i64 ca, .int .i64 cb] 3)) = w5 at *
  refine hK.out _ _ hS1 (fun hS2 => ?_)
  clear hS hK K hS1
  have hS := hS2
  clear hS2
  refine wpAnyH_all (rs := [13]) (by kernel_rfl) (by simp) ?_
  refine AllReadyH.cons rfl (fun K hK => ?_) AllReadyH.nil
  go_simp
  refine (HC3.out _ _ hg).mono ?_
  rintro o w6 ⟨rfl, rfl⟩
  go_wp2_with fail
  refine hK.out _ _ hS (fun hS2 => ?_)
  clear hS hK K
  have hS := hS2
  clear hS2
  refine wpAnyH_take (i := 14) (v := .bool (decide (cc < 0))) rfl (by kernel_rfl) (by kernel_rfl) (by kernel_rfl) (fun _ _ _ h => h) (Or.inl ⟨by rfl, ?_⟩) hS ?_
  · intro W hSw
    clear hS
    go_simp
  simp only [Act.put, liA, liB, liC, liD, liE, liF]
  refine wpAnyH_take (i := 15) (v := .bool (decide (cc < 0))) rfl (by kernel_rfl) (by kernel_rfl) (by kernel_rfl) (fun _ _ _ h => h) (Or.inl ⟨by rfl, ?_⟩) hS ?_
  · intro W hSw
    clear hS
    go_simp
  simp only [Act.put, liA, liB, liC, liD, liE, liF]
  refine wpAnyH_done (by kernel_rfl) ?_ _
  have HBJ : Hid (Below w.heap.size w _) := hS.b
  clear hS
  go_wp2
  go_ret
  exact ⟨rfl, HBJ.out⟩
end Go.Proofs.YtaamahohdnbpiaaGreat
namespace Go.Proofs.YtaamahohdnbpiaaGreat
open Go.RowKit
set_option linter.unusedVariables false
structure beS (w : World) (PB : Nat) (L : List Value) (W : World) : Prop where
  p : blk W PB L 97
  b : Below w.heap.size w W
theorem beS.below {w : World} {PB : Nat} {L : List Value} {W W' : World} (h : beS w PB L W) (hb : Below W.heap.size W W') : beS w PB L W' := ⟨h.p.below hb, h.b.trans (hb.mono h.b.size)⟩
set_option maxHeartbeats 4000000 in
set_option maxRecDepth 20000 in
theorem best_any (w : World) (LB : Nat) (a : Option Addr) (n cap : Nat) (bx : List R8) (st : Int) (hc5 : w.cell? ⟨LB, 5, none⟩ = some (.slice a n cap)) (h : isR8s w a n cap bx) (hn : n ≤ 8) (hok : okBxs st bx) :
    Calls Tryz.prog 62 #[.pointer (some ⟨LB, 0, none⟩)] w fun o w' => ∃ r : Int, o = .returned (.int .i64 r) ∧ bestR bx r ∧ Below w.heap.size w w' := by
  have hcp := h.cap
  have HL : Hid (n = bx.length) := h.len
  have HOK : Hid (okBxs st bx) := hok
  have HC5 : Hid (∀ W, Below w.heap.size w W → W.cell? ⟨LB, 5, none⟩ = some (.slice a n cap)) := fun W hW => (hW.cell (by exact World.block_lt_of_cell? w _ hc5)).trans hc5
  clear hok
  by_cases hl : bx = []
  · subst hl
    have hn0 : n = 0 := HL.out
    subst hn0
    clear h
    go_enter Tryz.func62, Tryz.ntmps62
    go_wp2_with fail
    go_loopw [3, 11] (fun b i wr => b = .int .i64 (-1) ∧ i = .int .i64 0 ∧ w = wr) (fun _ _ _ => 0)
    case atStart => exact ⟨rfl, rfl, rfl⟩
    case round =>
      obtain ⟨rfl, rfl, rfl⟩ := hrel
      go_wp2
      go_ret
      exact ⟨-1, rfl, Or.inl ⟨rfl, fun i hb => by obtain ⟨hi, _⟩ := hb; cases hi⟩, Below.refl _ _⟩
  obtain ⟨g, off, rfl, hc⟩ := h.cells hl
  have HC : Hid (∀ j (h : j < bx.length), ∃ ao m c, at8 w g (off + j * 8) bx[j] ao m c) := hc
  clear hc h hl
  go_enter Tryz.func62, Tryz.ntmps62
  go_wp2_with fail
  clear hc5
  go_loopw [3, 11] (fun b i wr => ∃ (k : Nat) (rr : Int), k ≤ n ∧ i = .int .i64 (k : Int) ∧ b = .int .i64 rr ∧ bestK bx k rr ∧ Below w.heap.size w wr) (fun _ i _ => n - (intOf i).toNat)
  case atStart => exact ⟨0, -1, Nat.zero_le _, rfl, rfl, Or.inl ⟨rfl, fun j hj h => absurd h (Nat.not_lt_zero _)⟩, Below.refl _ _⟩
  case round =>
    obtain ⟨k, rr, hk, rfl, rfl, hbk, hbw⟩ := hrel
    have HBK : Hid (bestK bx k rr) := hbk
    have HBW : Hid (Below w.heap.size w wr) := hbw
    clear hbk hbw
    by_cases hlt : k < n
    · have hkl : k < bx.length := by have := HL.out; omega
      obtain ⟨ao, m, c, hx⟩ := HC.out k hkl
      have HRG := (hx.below HBW.out).range
      have HDK : Hid (isBytes w ao m c bx[k].l) := hx.dat
      have HSK0 : Hid (bx[k].x ≠ 1 → bestK bx (k + 1) rr) := bestK_skip HBK.out hkl
      have HFI0 : Hid (rr = -1 → bx[k].x = 1 → bestK bx (k + 1) k) := fun e hx1 => bestK_first (e ▸ HBK.out) hkl hx1
      have HAH0 : Hid (∀ q : Nat, rr = q → ∀ hq : q < bx.length, bx[k].x = 1 → befS bx[k] bx[q] = true → bestK bx (k + 1) k) := fun q e hq hx1 hb => bestK_ahead (e ▸ HBK.out) hkl hq hx1 hb
      have HBE0 : Hid (∀ q : Nat, rr = q → ∀ hq : q < bx.length, bx[k].x = 1 → befS bx[k] bx[q] = false → bestK bx (k + 1) q) := fun q e hq hx1 hb => bestK_behind HOK.out (e ▸ HBK.out) hkl hq hx1 hb
      obtain ⟨b, hb⟩ : ∃ b, bx[k] = b := ⟨_, rfl⟩
      rw [hb] at HRG HDK HSK0 HFI0 HAH0 HBE0
      obtain ⟨x, y, z, e, i, r, d, l⟩ := b
      have HRG : Hid (wr.rangeAt g (off + k * 8) [.int .i64 x, .int .i64 y, .int .i64 z, .bool e, .int .u32 (i : Int), .bool r, .int .i64 d, .slice ao m c]) := HRG
      simp only [] at HDK HSK0 HFI0 HAH0 HBE0
      clear hx hb
      by_cases hx1 : x = 1
      · subst hx1
        have HRC : Hid (rr = -1 ∨ ∃ q : Nat, rr = q ∧ q < n) := by
          rcases HBK.out with ⟨h, _⟩ | ⟨q, h, hqk, _⟩
          · exact Or.inl h
          · exact Or.inr ⟨q, h, by omega⟩
        clear HSK0
        by_cases hr1 : rr = -1
        · have HFI : Hid (bestK bx (k + 1) (k : Int)) := HFI0.out hr1 rfl
          subst hr1
          clear HFI0 HAH0 HBE0 HBK HRC HDK
          have HS0 : Hid (beS w wr.heap.size [.int .i64 1, .int .i64 y, .int .i64 z, .bool e, .int .u32 (i : Int), .bool r, .int .i64 d, .slice ao m c] (wr.alloc (.cells #[.int .i64 1, .int .i64 y, .int .i64 z, .bool e, .int .u32 (i : Int), .bool r, .int .i64 d, .slice ao m c] 97))) := ⟨blk.new wr _ 97, HBW.out.trans (((Below.refl _ wr).alloc (Nat.le_refl _) _).mono HBW.out.size)⟩
          go_wp2_with (first
            | (refine wpList_load_mid (P := Tryz.prog) rfl 97 _ rfl g (off + k * 8) rfl _ _ HRG.out Tryz.underlying97 rfl sz95 ?_))
          generalize (wr.alloc (.cells #[.int .i64 1, .int .i64 y, .int .i64 z, .bool e, .int .u32 (i : Int), .bool r, .int .i64 d, .slice ao m c] 97)) = w3 at *
          generalize wr.heap.size = PB at *
          refine wp_region_held (S := beS w PB [.int .i64 1, .int .i64 y, .int .i64 z, .bool e, .int .u32 (i : Int), .bool r, .int .i64 d, .slice ao m c]) (by kernel_rfl) ?_
          have hS : beS w PB [.int .i64 1, .int .i64 y, .int .i64 z, .bool e, .int .u32 (i : Int), .bool r, .int .i64 d, .slice ao m c] w3.drew := HS0.out.below (Below.refl _ _).drew
          refine wpAnyH_take (i := 0) (v := .pointer (some ⟨PB, 0, none⟩)) rfl (by kernel_rfl) (by kernel_rfl) (by kernel_rfl) (fun _ _ _ h => h) (Or.inl ⟨by rfl, ?_⟩) hS ?_
          · intro W hSw
            clear hS
            go_simp
          simp only [Act.put, liA, liB, liC, liD, liE]
          refine wpAnyH_take (i := 1) (v := .int .i64 1) rfl (by kernel_rfl) (by kernel_rfl) (by kernel_rfl) (fun _ _ _ h => h) (Or.inl ⟨by rfl, ?_⟩) hS ?_
          · intro W hSw
            have hc := hSw.p.cell 0 _ rfl
            clear hS
            go_simp
          simp only [Act.put, liA, liB, liC, liD, liE, liF]
          refine wpAnyH_take (i := 2) (v := .bool true) rfl (by kernel_rfl) (by kernel_rfl) (by kernel_rfl) (fun _ _ _ h => h) (Or.inl ⟨by rfl, ?_⟩) hS ?_
          · intro W hSw
            clear hS
            go_simp
          simp only [Act.put, liA, liB, liC, liD, liE, liF]
          refine wpAnyH_take (i := 3) (v := .bool true) rfl (by kernel_rfl) (by kernel_rfl) (by kernel_rfl) (fun _ _ _ h => h) (Or.inl ⟨by rfl, ?_⟩) hS ?_
          · intro W hSw
            clear hS
            go_simp
          simp only [Act.put, liA, liB, liC, liD, liE, liF]
          refine wpAnyH_take (i := 4) (v := .int .i64 (-1)) rfl (by kernel_rfl) (by kernel_rfl) (by kernel_rfl) (fun _ _ _ h => h) (Or.inl ⟨by rfl, ?_⟩) hS ?_
          · intro W hSw
            clear hS
            go_simp
          simp only [Act.put, liA, liB, liC, liD, liE, liF]
          refine wpAnyH_take (i := 5) (v := .bool true) rfl (by kernel_rfl) (by kernel_rfl) (by kernel_rfl) (fun _ _ _ h => h) (Or.inl ⟨by rfl, ?_⟩) hS ?_
          · intro W hSw
            clear hS
            go_simp
          simp only [Act.put, liA, liB, liC, liD, liE, liF]
          refine wpAnyH_take (i := 6) (v := .bool true) rfl (by kernel_rfl) (by kernel_rfl) (by kernel_rfl) (fun _ _ _ h => h) (Or.inl ⟨by rfl, ?_⟩) hS ?_
          · intro W hSw
            clear hS
            go_simp
          simp only [Act.put, liA, liB, liC, liD, liE, liF]
          refine wpAnyH_take (i := 7) (v := undef) rfl (by kernel_rfl) (by kernel_rfl) (by kernel_rfl) (fun _ _ _ h => h) (Or.inr ⟨by rfl, rfl⟩) hS ?_
          simp only [Act.put, liA, liB, liC, liD, liE, liF]
          refine wpAnyH_take (i := 8) (v := undef) rfl (by kernel_rfl) (by kernel_rfl) (by kernel_rfl) (fun _ _ _ h => h) (Or.inr ⟨by rfl, rfl⟩) hS ?_
          simp only [Act.put, liA, liB, liC, liD, liE, liF]
          refine wpAnyH_take (i := 9) (v := undef) rfl (by kernel_rfl) (by kernel_rfl) (by kernel_rfl) (fun _ _ _ h => h) (Or.inr ⟨by rfl, rfl⟩) hS ?_
          simp only [Act.put, liA, liB, liC, liD, liE, liF]
          refine wpAnyH_take (i := 10) (v := undef) rfl (by kernel_rfl) (by kernel_rfl) (by kernel_rfl) (fun _ _ _ h => h) (Or.inr ⟨by rfl, rfl⟩) hS ?_
          simp only [Act.put, liA, liB, liC, liD, liE, liF]
          refine wpAnyH_take (i := 11) (v := undef) rfl (by kernel_rfl) (by kernel_rfl) (by kernel_rfl) (fun _ _ _ h => h) (Or.inr ⟨by rfl, rfl⟩) hS ?_
          simp only [Act.put, liA, liB, liC, liD, liE, liF]
          refine wpAnyH_take (i := 12) (v := undef) rfl (by kernel_rfl) (by kernel_rfl) (by kernel_rfl) (fun _ _ _ h => h) (Or.inr ⟨by rfl, rfl⟩) hS ?_
          simp only [Act.put, liA, liB, liC, liD, liE, liF]
          refine wpAnyH_take (i := 13) (v := undef) rfl (by kernel_rfl) (by kernel_rfl) (by kernel_rfl) (fun _ _ _ h => h) (Or.inr ⟨by rfl, rfl⟩) hS ?_
          simp only [Act.put, liA, liB, liC, liD, liE, liF]
          refine wpAnyH_take (i := 14) (v := undef) rfl (by kernel_rfl) (by kernel_rfl) (by kernel_rfl) (fun _ _ _ h => h) (Or.inr ⟨by rfl, rfl⟩) hS ?_
          simp only [Act.put, liA, liB, liC, liD, liE, liF]
          refine wpAnyH_take (i := 15) (v := undef) rfl (by kernel_rfl) (by kernel_rfl) (by kernel_rfl) (fun _ _ _ h => h) (Or.inr ⟨by rfl, rfl⟩) hS ?_
          simp only [Act.put, liA, liB, liC, liD, liE, liF]
          refine wpAnyH_take (i := 16) (v := .bool true) rfl (by kernel_rfl) (by kernel_rfl) (by kernel_rfl) (fun _ _ _ h => h) (Or.inl ⟨by rfl, ?_⟩) hS ?_
          · intro W hSw
            clear hS
            go_simp
          simp only [Act.put, liA, liB, liC, liD, liE, liF]
          refine wpAnyH_take (i := 17) (v := .bool true) rfl (by kernel_rfl) (by kernel_rfl) (by kernel_rfl) (fun _ _ _ h => h) (Or.inl ⟨by rfl, ?_⟩) hS ?_
          · intro W hSw
            clear hS
            go_simp
          simp only [Act.put, liA, liB, liC, liD, liE, liF]
          refine wpAnyH_done (by kernel_rfl) ?_ _
          have HB9 : Hid (Below w.heap.size w _) := hS.b
          clear hS
          go_wp2
          go_roundw
          case rel => exact ⟨k + 1, (k : Int), by omega, by go_num, rfl, HFI.out, HB9.out⟩
          case measure => simp [intOf]; omega
        · obtain ⟨q, hrq, hqn⟩ : ∃ q : Nat, rr = q ∧ q < n := HRC.out.resolve_left hr1
          subst hrq
          have hql : q < bx.length := by have := HL.out; omega
          obtain ⟨ao', m', c', hxq⟩ := HC.out q hql
          have HAH : Hid (befS ⟨1, y, z, e, i, r, d, l⟩ bx[q] = true → bestK bx (k + 1) (k : Int)) := HAH0.out q rfl hql rfl
          have HBE : Hid (befS ⟨1, y, z, e, i, r, d, l⟩ bx[q] = false → bestK bx (k + 1) (q : Int)) := HBE0.out q rfl hql rfl
          have HRQ := fun W (hW : Below w.heap.size w W) => (hxq.below hW).range
          have HGA := fun W (hW : Below w.heap.size w W) => goesAhead_any W ⟨1, y, z, e, i, r, d, l⟩ bx[q] ao m c ao' m' c' (HDK.out.below hW) (hxq.dat.below hW)
          obtain ⟨b', hb'⟩ : ∃ b, bx[q] = b := ⟨_, rfl⟩
          rw [hb'] at HAH HBE HRQ HGA
          obtain ⟨x', y', z', e', i', r', d', l'⟩ := b'
          have HRQ : Hid (∀ W, Below w.heap.size w W → W.rangeAt g (off + q * 8) [.int .i64 x', .int .i64 y', .int .i64 z', .bool e', .int .u32 (i' : Int), .bool r', .int .i64 d', .slice ao' m' c']) := HRQ
          have HGA : Hid (∀ W, Below w.heap.size w W → Calls Tryz.prog 130 #[.agg #[.int .i64 1, .int .i64 y, .int .i64 z, .bool e, .int .u32 (i : Int), .bool r, .int .i64 d, .slice ao m c], .agg #[.int .i64 x', .int .i64 y', .int .i64 z', .bool e', .int .u32 (i' : Int), .bool r', .int .i64 d', .slice ao' m' c']] W fun o w' => o = .returned (.bool (befS ⟨1, y, z, e, i, r, d, l⟩ ⟨x', y', z', e', i', r', d', l'⟩)) ∧ Below W.heap.size W w') := HGA
          have hq0 : decide ((q : Int) < 0) = false := by simp
          clear HFI0 HAH0 HBE0 HBK HRC HDK hxq hb' hr1
          generalize befS ⟨1, y, z, e, i, r, d, l⟩ ⟨x', y', z', e', i', r', d', l'⟩ = bf at *
          cases bf with
          | true =>
            have HAH2 : Hid (bestK bx (k + 1) (k : Int)) := HAH.out rfl
            clear HAH HBE
            have HS0 : Hid (beS w wr.heap.size [.int .i64 1, .int .i64 y, .int .i64 z, .bool e, .int .u32 (i : Int), .bool r, .int .i64 d, .slice ao m c] (wr.alloc (.cells #[.int .i64 1, .int .i64 y, .int .i64 z, .bool e, .int .u32 (i : Int), .bool r, .int .i64 d, .slice ao m c] 97))) := ⟨blk.new wr _ 97, HBW.out.trans (((Below.refl _ wr).alloc (Nat.le_refl _) _).mono HBW.out.size)⟩
            go_wp2_with (first
              | (refine wpList_load_mid (P := Tryz.prog) rfl 97 _ rfl g (off + k * 8) rfl _ _ HRG.out Tryz.underlying97 rfl sz95 ?_))
            generalize (wr.alloc (.cells #[.int .i64 1, .int .i64 y, .int .i64 z, .bool e, .int .u32 (i : Int), .bool r, .int .i64 d, .slice ao m c] 97)) = w3 at *
            generalize wr.heap.size = PB at *
            refine wp_region_held (S := beS w PB [.int .i64 1, .int .i64 y, .int .i64 z, .bool e, .int .u32 (i : Int), .bool r, .int .i64 d, .slice ao m c]) (by kernel_rfl) ?_
            have hS : beS w PB [.int .i64 1, .int .i64 y, .int .i64 z, .bool e, .int .u32 (i : Int), .bool r, .int .i64 d, .slice ao m c] w3.drew := HS0.out.below (Below.refl _ _).drew
            refine wpAnyH_take (i := 0) (v := .pointer (some ⟨PB, 0, none⟩)) rfl (by kernel_rfl) (by kernel_rfl) (by kernel_rfl) (fun _ _ _ h => h) (Or.inl ⟨by rfl, ?_⟩) hS ?_
            · intro W hSw
              clear hS
              go_simp
            simp only [Act.put, liA, liB, liC, liD, liE]
            refine wpAnyH_take (i := 1) (v := .int .i64 1) rfl (by kernel_rfl) (by kernel_rfl) (by kernel_rfl) (fun _ _ _ h => h) (Or.inl ⟨by rfl, ?_⟩) hS ?_
            · intro W hSw
              have hc := hSw.p.cell 0 _ rfl
              clear hS
              go_simp
            simp only [Act.put, liA, liB, liC, liD, liE, liF]
            refine wpAnyH_take (i := 2) (v := .bool true) rfl (by kernel_rfl) (by kernel_rfl) (by kernel_rfl) (fun _ _ _ h => h) (Or.inl ⟨by rfl, ?_⟩) hS ?_
            · intro W hSw
              clear hS
              go_simp
            simp only [Act.put, liA, liB, liC, liD, liE, liF]
            refine wpAnyH_take (i := 3) (v := .bool true) rfl (by kernel_rfl) (by kernel_rfl) (by kernel_rfl) (fun _ _ _ h => h) (Or.inl ⟨by rfl, ?_⟩) hS ?_
            · intro W hSw
              clear hS
              go_simp
            simp only [Act.put, liA, liB, liC, liD, liE, liF]
            refine wpAnyH_take (i := 4) (v := .int .i64 (q : Int)) rfl (by kernel_rfl) (by kernel_rfl) (by kernel_rfl) (fun _ _ _ h => h) (Or.inl ⟨by rfl, ?_⟩) hS ?_
            · intro W hSw
              clear hS
              go_simp
            simp only [Act.put, liA, liB, liC, liD, liE, liF]
            refine wpAnyH_take (i := 5) (v := .bool false) rfl (by kernel_rfl) (by kernel_rfl) (by kernel_rfl) (fun _ _ _ h => h) (Or.inl ⟨by rfl, ?_⟩) hS ?_
            · intro W hSw
              clear hS
              go_simp
            simp only [Act.put, liA, liB, liC, liD, liE, liF]
            refine wpAnyH_take (i := 6) (v := .bool false) rfl (by kernel_rfl) (by kernel_rfl) (by kernel_rfl) (fun _ _ _ h => h) (Or.inl ⟨by rfl, ?_⟩) hS ?_
            · intro W hSw
              clear hS
              go_simp
            simp only [Act.put, liA, liB, liC, liD, liE, liF]
            refine wpAnyH_take (i := 7) (v := .agg [.int .i64 1, .int .i64 y, .int .i64 z, .bool e, .int .u32 (i : Int), .bool r, .int .i64 d, .slice ao m c].toArray) rfl (by kernel_rfl) (by kernel_rfl) (by kernel_rfl) (fun _ _ _ h => h) (yieldsIf_load_mid (by rfl) 97 (.tmp 5) rfl PB 0 rfl [.int .i64 1, .int .i64 y, .int .i64 z, .bool e, .int .u32 (i : Int), .bool r, .int .i64 d, .slice ao m c] _ (fun W h => h.p.load) Tryz.underlying97 rfl sz95) hS ?_
            simp only [Act.put, liA, liB, liC, liD, liE, liF]
            refine wpAnyH_take (i := 8) (v := .pointer (some ⟨LB, 0, none⟩)) rfl (by kernel_rfl) (by kernel_rfl) (by kernel_rfl) (fun _ _ _ h => h) (Or.inl ⟨by rfl, ?_⟩) hS ?_
            · intro W hSw
              clear hS
              go_simp
            simp only [Act.put, liA, liB, liC, liD, liE, liF]
            refine wpAnyH_take (i := 9) (v := .pointer (some ⟨LB, 0, none⟩)) rfl (by kernel_rfl) (by kernel_rfl) (by kernel_rfl) (fun _ _ _ h => h) (Or.inl ⟨by rfl, ?_⟩) hS ?_
            · intro W hSw
              clear hS
              go_simp
            simp only [Act.put, liA, liB, liC, liD, liE, liF]
            refine wpAnyH_take (i := 10) (v := .pointer (some ⟨LB, 5, none⟩)) rfl (by kernel_rfl) (by kernel_rfl) (by kernel_rfl) (fun _ _ _ h => h) (Or.inl ⟨by rfl, ?_⟩) hS ?_
            · intro W hSw
              clear hS
              go_simp
            simp only [Act.put, liA, liB, liC, liD, liE, liF]
            refine wpAnyH_take (i := 11) (v := .slice (some ⟨g, off, none⟩) n cap) rfl (by kernel_rfl) (by kernel_rfl) (by kernel_rfl) (fun _ _ _ h => h) (Or.inl ⟨by rfl, ?_⟩) hS ?_
            · intro W hSw
              have hc := HC5.out W hSw.b
              clear hS
              go_simp
            simp only [Act.put, liA, liB, liC, liD, liE, liF]
            refine wpAnyH_take (i := 12) (v := .int .i64 (q : Int)) rfl (by kernel_rfl) (by kernel_rfl) (by kernel_rfl) (fun _ _ _ h => h) (Or.inl ⟨by rfl, ?_⟩) hS ?_
            · intro W hSw
              clear hS
              go_simp
            simp only [Act.put, liA, liB, liC, liD, liE, liF]
            refine wpAnyH_take (i := 13) (v := .pointer (some ⟨g, off + q * 8, none⟩)) rfl (by kernel_rfl) (by kernel_rfl) (by kernel_rfl) (fun _ _ _ h => h) (Or.inl ⟨by rfl, ?_⟩) hS ?_
            · intro W hSw
              clear hS
              go_simp
            simp only [Act.put, liA, liB, liC, liD, liE, liF]
            refine wpAnyH_take (i := 14) (v := .agg [.int .i64 x', .int .i64 y', .int .i64 z', .bool e', .int .u32 (i' : Int), .bool r', .int .i64 d', .slice ao' m' c'].toArray) rfl (by kernel_rfl) (by kernel_rfl) (by kernel_rfl) (fun _ _ _ h => h) (yieldsIf_load_mid (by rfl) 97 (.tmp 29) rfl g (off + q * 8) rfl [.int .i64 x', .int .i64 y', .int .i64 z', .bool e', .int .u32 (i' : Int), .bool r', .int .i64 d', .slice ao' m' c'] _ (fun W h => HRQ.out W h.b) Tryz.underlying97 rfl sz95) hS ?_
            simp only [Act.put, liA, liB, liC, liD, liE, liF]
            refine wpAnyH_all (rs := [15]) (by kernel_rfl) (by simp) ?_
            refine AllReadyH.cons rfl (fun K hK => ?_) AllReadyH.nil
            go_simp
            refine (HGA.out _ hS.b).mono ?_
            rintro o w6 ⟨rfl, hb6⟩
            have hS1 := hS.below hb6
            go_wp2_with fail
            refine hK.out _ _ hS1 (fun hS2 => ?_)
            clear hS hK K hS1 hb6
            have hS := hS2
            clear hS2
            refine wpAnyH_take (i := 16) (v := .bool true) rfl (by kernel_rfl) (by kernel_rfl) (by kernel_rfl) (fun _ _ _ h => h) (Or.inl ⟨by rfl, ?_⟩) hS ?_
            · intro W hSw
              clear hS
              go_simp
            simp only [Act.put, liA, liB, liC, liD, liE, liF]
            refine wpAnyH_take (i := 17) (v := .bool true) rfl (by kernel_rfl) (by kernel_rfl) (by kernel_rfl) (fun _ _ _ h => h) (Or.inl ⟨by rfl, ?_⟩) hS ?_
            · intro W hSw
              clear hS
              go_simp
            simp only [Act.put, liA, liB, liC, liD, liE, liF]
            refine wpAnyH_done (by kernel_rfl) ?_ _
            have HB9 : Hid (Below w.heap.size w _) := hS.b
            clear hS
            go_wp2
            go_roundw
            case rel => exact ⟨k + 1, (k : Int), by omega, by go_num, rfl, HAH2.out, HB9.out⟩
            case measure => simp [intOf]; omega
          | false =>
            have HBE2 : Hid (bestK bx (k + 1) (q : Int)) := HBE.out rfl
            clear HAH HBE
            have HS0 : Hid (beS w wr.heap.size [.int .i64 1, .int .i64 y, .int .i64 z, .bool e, .int .u32 (i : Int), .bool r, .int .i64 d, .slice ao m c] (wr.alloc (.cells #[.int .i64 1, .int .i64 y, .int .i64 z, .bool e, .int .u32 (i : Int), .bool r, .int .i64 d, .slice ao m c] 97))) := ⟨blk.new wr _ 97, HBW.out.trans (((Below.refl _ wr).alloc (Nat.le_refl _) _).mono HBW.out.size)⟩
            go_wp2_with (first
              | (refine wpList_load_mid (P := Tryz.prog) rfl 97 _ rfl g (off + k * 8) rfl _ _ HRG.out Tryz.underlying97 rfl sz95 ?_))
            generalize (wr.alloc (.cells #[.int .i64 1, .int .i64 y, .int .i64 z, .bool e, .int .u32 (i : Int), .bool r, .int .i64 d, .slice ao m c] 97)) = w3 at *
            generalize wr.heap.size = PB at *
            refine wp_region_held (S := beS w PB [.int .i64 1, .int .i64 y, .int .i64 z, .bool e, .int .u32 (i : Int), .bool r, .int .i64 d, .slice ao m c]) (by kernel_rfl) ?_
            have hS : beS w PB [.int .i64 1, .int .i64 y, .int .i64 z, .bool e, .int .u32 (i : Int), .bool r, .int .i64 d, .slice ao m c] w3.drew := HS0.out.below (Below.refl _ _).drew
            refine wpAnyH_take (i := 0) (v := .pointer (some ⟨PB, 0, none⟩)) rfl (by kernel_rfl) (by kernel_rfl) (by kernel_rfl) (fun _ _ _ h => h) (Or.inl ⟨by rfl, ?_⟩) hS ?_
            · intro W hSw
              clear hS
              go_simp
            simp only [Act.put, liA, liB, liC, liD, liE]
            refine wpAnyH_take (i := 1) (v := .int .i64 1) rfl (by kernel_rfl) (by kernel_rfl) (by kernel_rfl) (fun _ _ _ h => h) (Or.inl ⟨by rfl, ?_⟩) hS ?_
            · intro W hSw
              have hc := hSw.p.cell 0 _ rfl
              clear hS
              go_simp
            simp only [Act.put, liA, liB, liC, liD, liE, liF]
            refine wpAnyH_take (i := 2) (v := .bool true) rfl (by kernel_rfl) (by kernel_rfl) (by kernel_rfl) (fun _ _ _ h => h) (Or.inl ⟨by rfl, ?_⟩) hS ?_
            · intro W hSw
              clear hS
              go_simp
            simp only [Act.put, liA, liB, liC, liD, liE, liF]
            refine wpAnyH_take (i := 3) (v := .bool true) rfl (by kernel_rfl) (by kernel_rfl) (by kernel_rfl) (fun _ _ _ h => h) (Or.inl ⟨by rfl, ?_⟩) hS ?_
            · intro W hSw
              clear hS
              go_simp
            simp only [Act.put, liA, liB, liC, liD, liE, liF]
            refine wpAnyH_take (i := 4) (v := .int .i64 (q : Int)) rfl (by kernel_rfl) (by kernel_rfl) (by kernel_rfl) (fun _ _ _ h => h) (Or.inl ⟨by rfl, ?_⟩) hS ?_
            · intro W hSw
              clear hS
              go_simp
            simp only [Act.put, liA, liB, liC, liD, liE, liF]
            refine wpAnyH_take (i := 5) (v := .bool false) rfl (by kernel_rfl) (by kernel_rfl) (by kernel_rfl) (fun _ _ _ h => h) (Or.inl ⟨by rfl, ?_⟩) hS ?_
            · intro W hSw
              clear hS
              go_simp
            simp only [Act.put, liA, liB, liC, liD, liE, liF]
            refine wpAnyH_take (i := 6) (v := .bool false) rfl (by kernel_rfl) (by kernel_rfl) (by kernel_rfl) (fun _ _ _ h => h) (Or.inl ⟨by rfl, ?_⟩) hS ?_
            · intro W hSw
              clear hS
              go_simp
            simp only [Act.put, liA, liB, liC, liD, liE, liF]
            refine wpAnyH_take (i := 7) (v := .agg [.int .i64 1, .int .i64 y, .int .i64 z, .bool e, .int .u32 (i : Int), .bool r, .int .i64 d, .slice ao m c].toArray) rfl (by kernel_rfl) (by kernel_rfl) (by kernel_rfl) (fun _ _ _ h => h) (yieldsIf_load_mid (by rfl) 97 (.tmp 5) rfl PB 0 rfl [.int .i64 1, .int .i64 y, .int .i64 z, .bool e, .int .u32 (i : Int), .bool r, .int .i64 d, .slice ao m c] _ (fun W h => h.p.load) Tryz.underlying97 rfl sz95) hS ?_
            simp only [Act.put, liA, liB, liC, liD, liE, liF]
            refine wpAnyH_take (i := 8) (v := .pointer (some ⟨LB, 0, none⟩)) rfl (by kernel_rfl) (by kernel_rfl) (by kernel_rfl) (fun _ _ _ h => h) (Or.inl ⟨by rfl, ?_⟩) hS ?_
            · intro W hSw
              clear hS
              go_simp
            simp only [Act.put, liA, liB, liC, liD, liE, liF]
            refine wpAnyH_take (i := 9) (v := .pointer (some ⟨LB, 0, none⟩)) rfl (by kernel_rfl) (by kernel_rfl) (by kernel_rfl) (fun _ _ _ h => h) (Or.inl ⟨by rfl, ?_⟩) hS ?_
            · intro W hSw
              clear hS
              go_simp
            simp only [Act.put, liA, liB, liC, liD, liE, liF]
            refine wpAnyH_take (i := 10) (v := .pointer (some ⟨LB, 5, none⟩)) rfl (by kernel_rfl) (by kernel_rfl) (by kernel_rfl) (fun _ _ _ h => h) (Or.inl ⟨by rfl, ?_⟩) hS ?_
            · intro W hSw
              clear hS
              go_simp
            simp only [Act.put, liA, liB, liC, liD, liE, liF]
            refine wpAnyH_take (i := 11) (v := .slice (some ⟨g, off, none⟩) n cap) rfl (by kernel_rfl) (by kernel_rfl) (by kernel_rfl) (fun _ _ _ h => h) (Or.inl ⟨by rfl, ?_⟩) hS ?_
            · intro W hSw
              have hc := HC5.out W hSw.b
              clear hS
              go_simp
            simp only [Act.put, liA, liB, liC, liD, liE, liF]
            refine wpAnyH_take (i := 12) (v := .int .i64 (q : Int)) rfl (by kernel_rfl) (by kernel_rfl) (by kernel_rfl) (fun _ _ _ h => h) (Or.inl ⟨by rfl, ?_⟩) hS ?_
            · intro W hSw
              clear hS
              go_simp
            simp only [Act.put, liA, liB, liC, liD, liE, liF]
            refine wpAnyH_take (i := 13) (v := .pointer (some ⟨g, off + q * 8, none⟩)) rfl (by kernel_rfl) (by kernel_rfl) (by kernel_rfl) (fun _ _ _ h => h) (Or.inl ⟨by rfl, ?_⟩) hS ?_
            · intro W hSw
              clear hS
              go_simp
            simp only [Act.put, liA, liB, liC, liD, liE, liF]
            refine wpAnyH_take (i := 14) (v := .agg [.int .i64 x', .int .i64 y', .int .i64 z', .bool e', .int .u32 (i' : Int), .bool r', .int .i64 d', .slice ao' m' c'].toArray) rfl (by kernel_rfl) (by kernel_rfl) (by kernel_rfl) (fun _ _ _ h => h) (yieldsIf_load_mid (by rfl) 97 (.tmp 29) rfl g (off + q * 8) rfl [.int .i64 x', .int .i64 y', .int .i64 z', .bool e', .int .u32 (i' : Int), .bool r', .int .i64 d', .slice ao' m' c'] _ (fun W h => HRQ.out W h.b) Tryz.underlying97 rfl sz95) hS ?_
            simp only [Act.put, liA, liB, liC, liD, liE, liF]
            refine wpAnyH_all (rs := [15]) (by kernel_rfl) (by simp) ?_
            refine AllReadyH.cons rfl (fun K hK => ?_) AllReadyH.nil
            go_simp
            refine (HGA.out _ hS.b).mono ?_
            rintro o w6 ⟨rfl, hb6⟩
            have hS1 := hS.below hb6
            go_wp2_with fail
            refine hK.out _ _ hS1 (fun hS2 => ?_)
            clear hS hK K hS1 hb6
            have hS := hS2
            clear hS2
            refine wpAnyH_take (i := 16) (v := .bool false) rfl (by kernel_rfl) (by kernel_rfl) (by kernel_rfl) (fun _ _ _ h => h) (Or.inl ⟨by rfl, ?_⟩) hS ?_
            · intro W hSw
              clear hS
              go_simp
            simp only [Act.put, liA, liB, liC, liD, liE, liF]
            refine wpAnyH_take (i := 17) (v := .bool false) rfl (by kernel_rfl) (by kernel_rfl) (by kernel_rfl) (fun _ _ _ h => h) (Or.inl ⟨by rfl, ?_⟩) hS ?_
            · intro W hSw
              clear hS
              go_simp
            simp only [Act.put, liA, liB, liC, liD, liE, liF]
            refine wpAnyH_done (by kernel_rfl) ?_ _
            have HB9 : Hid (Below w.heap.size w _) := hS.b
            clear hS
            go_wp2
            go_roundw
            case rel => exact ⟨k + 1, (q : Int), by omega, by go_num, rfl, HBE2.out, HB9.out⟩
            case measure => simp [intOf]; omega
      · have HSK : Hid (bestK bx (k + 1) rr) := HSK0.out hx1
        have hx1' : (x == 1) = false := by simpa using hx1
        clear HSK0 HFI0 HAH0 HBE0 HBK HDK hx1
        have HS0 : Hid (beS w wr.heap.size [.int .i64 x, .int .i64 y, .int .i64 z, .bool e, .int .u32 (i : Int), .bool r, .int .i64 d, .slice ao m c] (wr.alloc (.cells #[.int .i64 x, .int .i64 y, .int .i64 z, .bool e, .int .u32 (i : Int), .bool r, .int .i64 d, .slice ao m c] 97))) := ⟨blk.new wr _ 97, HBW.out.trans (((Below.refl _ wr).alloc (Nat.le_refl _) _).mono HBW.out.size)⟩
        go_wp2_with (first
          | (refine wpList_load_mid (P := Tryz.prog) rfl 97 _ rfl g (off + k * 8) rfl _ _ HRG.out Tryz.underlying97 rfl sz95 ?_))
        generalize (wr.alloc (.cells #[.int .i64 x, .int .i64 y, .int .i64 z, .bool e, .int .u32 (i : Int), .bool r, .int .i64 d, .slice ao m c] 97)) = w3 at *
        generalize wr.heap.size = PB at *
        refine wp_region_held (S := beS w PB [.int .i64 x, .int .i64 y, .int .i64 z, .bool e, .int .u32 (i : Int), .bool r, .int .i64 d, .slice ao m c]) (by kernel_rfl) ?_
        have hS : beS w PB [.int .i64 x, .int .i64 y, .int .i64 z, .bool e, .int .u32 (i : Int), .bool r, .int .i64 d, .slice ao m c] w3.drew := HS0.out.below (Below.refl _ _).drew
        refine wpAnyH_take (i := 0) (v := .pointer (some ⟨PB, 0, none⟩)) rfl (by kernel_rfl) (by kernel_rfl) (by kernel_rfl) (fun _ _ _ h => h) (Or.inl ⟨by rfl, ?_⟩) hS ?_
        · intro W hSw
          clear hS
          go_simp
        simp only [Act.put, liA, liB, liC, liD, liE]
        refine wpAnyH_take (i := 1) (v := .int .i64 x) rfl (by kernel_rfl) (by kernel_rfl) (by kernel_rfl) (fun _ _ _ h => h) (Or.inl ⟨by rfl, ?_⟩) hS ?_
        · intro W hSw
          have hc := hSw.p.cell 0 _ rfl
          clear hS
          go_simp
        simp only [Act.put, liA, liB, liC, liD, liE, liF]
        refine wpAnyH_take (i := 2) (v := .bool false) rfl (by kernel_rfl) (by kernel_rfl) (by kernel_rfl) (fun _ _ _ h => h) (Or.inl ⟨by rfl, ?_⟩) hS ?_
        · intro W hSw
          clear hS
          go_simp
        simp only [Act.put, liA, liB, liC, liD, liE, liF]
        refine wpAnyH_take (i := 3) (v := .bool false) rfl (by kernel_rfl) (by kernel_rfl) (by kernel_rfl) (fun _ _ _ h => h) (Or.inl ⟨by rfl, ?_⟩) hS ?_
        · intro W hSw
          clear hS
          go_simp
        simp only [Act.put, liA, liB, liC, liD, liE, liF]
        refine wpAnyH_take (i := 4) (v := undef) rfl (by kernel_rfl) (by kernel_rfl) (by kernel_rfl) (fun _ _ _ h => h) (Or.inr ⟨by rfl, rfl⟩) hS ?_
        simp only [Act.put, liA, liB, liC, liD, liE, liF]
        refine wpAnyH_take (i := 5) (v := undef) rfl (by kernel_rfl) (by kernel_rfl) (by kernel_rfl) (fun _ _ _ h => h) (Or.inr ⟨by rfl, rfl⟩) hS ?_
        simp only [Act.put, liA, liB, liC, liD, liE, liF]
        refine wpAnyH_take (i := 6) (v := undef) rfl (by kernel_rfl) (by kernel_rfl) (by kernel_rfl) (fun _ _ _ h => h) (Or.inr ⟨by rfl, rfl⟩) hS ?_
        simp only [Act.put, liA, liB, liC, liD, liE, liF]
        refine wpAnyH_take (i := 7) (v := undef) rfl (by kernel_rfl) (by kernel_rfl) (by kernel_rfl) (fun _ _ _ h => h) (Or.inr ⟨by rfl, rfl⟩) hS ?_
        simp only [Act.put, liA, liB, liC, liD, liE, liF]
        refine wpAnyH_take (i := 8) (v := undef) rfl (by kernel_rfl) (by kernel_rfl) (by kernel_rfl) (fun _ _ _ h => h) (Or.inr ⟨by rfl, rfl⟩) hS ?_
        simp only [Act.put, liA, liB, liC, liD, liE, liF]
        refine wpAnyH_take (i := 9) (v := undef) rfl (by kernel_rfl) (by kernel_rfl) (by kernel_rfl) (fun _ _ _ h => h) (Or.inr ⟨by rfl, rfl⟩) hS ?_
        simp only [Act.put, liA, liB, liC, liD, liE, liF]
        refine wpAnyH_take (i := 10) (v := undef) rfl (by kernel_rfl) (by kernel_rfl) (by kernel_rfl) (fun _ _ _ h => h) (Or.inr ⟨by rfl, rfl⟩) hS ?_
        simp only [Act.put, liA, liB, liC, liD, liE, liF]
        refine wpAnyH_take (i := 11) (v := undef) rfl (by kernel_rfl) (by kernel_rfl) (by kernel_rfl) (fun _ _ _ h => h) (Or.inr ⟨by rfl, rfl⟩) hS ?_
        simp only [Act.put, liA, liB, liC, liD, liE, liF]
        refine wpAnyH_take (i := 12) (v := undef) rfl (by kernel_rfl) (by kernel_rfl) (by kernel_rfl) (fun _ _ _ h => h) (Or.inr ⟨by rfl, rfl⟩) hS ?_
        simp only [Act.put, liA, liB, liC, liD, liE, liF]
        refine wpAnyH_take (i := 13) (v := undef) rfl (by kernel_rfl) (by kernel_rfl) (by kernel_rfl) (fun _ _ _ h => h) (Or.inr ⟨by rfl, rfl⟩) hS ?_
        simp only [Act.put, liA, liB, liC, liD, liE, liF]
        refine wpAnyH_take (i := 14) (v := undef) rfl (by kernel_rfl) (by kernel_rfl) (by kernel_rfl) (fun _ _ _ h => h) (Or.inr ⟨by rfl, rfl⟩) hS ?_
        simp only [Act.put, liA, liB, liC, liD, liE, liF]
        refine wpAnyH_take (i := 15) (v := undef) rfl (by kernel_rfl) (by kernel_rfl) (by kernel_rfl) (fun _ _ _ h => h) (Or.inr ⟨by rfl, rfl⟩) hS ?_
        simp only [Act.put, liA, liB, liC, liD, liE, liF]
        refine wpAnyH_take (i := 16) (v := undef) rfl (by kernel_rfl) (by kernel_rfl) (by kernel_rfl) (fun _ _ _ h => h) (Or.inr ⟨by rfl, rfl⟩) hS ?_
        simp only [Act.put, liA, liB, liC, liD, liE, liF]
        refine wpAnyH_take (i := 17) (v := .bool false) rfl (by kernel_rfl) (by kernel_rfl) (by kernel_rfl) (fun _ _ _ h => h) (Or.inl ⟨by rfl, ?_⟩) hS ?_
        · intro W hSw
          clear hS
          go_simp
        simp only [Act.put, liA, liB, liC, liD, liE, liF]
        refine wpAnyH_done (by kernel_rfl) ?_ _
        have HB9 : Hid (Below w.heap.size w _) := hS.b
        clear hS
        go_wp2
        go_roundw
        case rel => exact ⟨k + 1, rr, by omega, by go_num, rfl, HSK.out, HB9.out⟩
        case measure => simp [intOf]; omega
    · have HF : Hid (bestR bx rr) := bestK_end HBK.out (by have := HL.out; omega)
      go_wp2
      go_ret
      exact ⟨rr, rfl, HF.out, HBW.out⟩
end Go.Proofs.YtaamahohdnbpiaaGreat
