import Derived.Test.YtnefmdjodjpopaaBJ
namespace Go.Proofs.Ytnefmdjodjpopaa
open Go.RowKit

/-- the first j letters marked, from k on -/
def mkL (k : Nat) : Nat → List Nat → List Nat
  | 0, l => l
  | j + 1, l => (mkL k j l).set j (k + j)
theorem mkL_len (k j : Nat) (l : List Nat) : (mkL k j l).length = l.length := by
  induction j with
  | zero => rfl
  | succ j ih => show ((mkL k j l).set j (k + j)).length = _; rw [List.length_set, ih]
theorem mkL_at (k j : Nat) (l : List Nat) (i : Nat) (hi : i < j) (hj : j ≤ l.length) : (mkL k j l).getD i 0 = k + i := by
  induction j with
  | zero => omega
  | succ j ih =>
    show ((mkL k j l).set j (k + j)).getD i 0 = _
    have hl := mkL_len k j l
    by_cases e : i = j
    · subst e
      have h2 : i < l.length := by omega
      simp [List.getD_eq_getElem?_getD, hl, h2]
    · have := ih (by omega) (by omega)
      rw [List.getD_eq_getElem?_getD] at this ⊢
      rw [List.getElem?_set_ne (by omega)]
      exact this
theorem below_row {w0 w : World} {B g : Nat} (h : Below B w0 w) (hg : B ≤ g) (j : Nat) (x : Value) : Below B w0 (w.setCell ⟨g, j, none⟩ x) := h.setCell (by exact hg) x
set_option maxHeartbeats 1000000 in
theorem markByteS_any (w : World) (B : Nat) (ao : Option Addr) (n cap k : Nat) (l : List Nat) (h : ownsB w B (.slice ao n cap) l) (hn : n = l.length) (hk : k + n ≤ 200) :
    Calls Try.prog 83 #[.slice ao n cap, .int .i64 (k : Int)] w fun e w' => e = .returned (.int .i64 ((k + n : Nat) : Int)) ∧ ownsB w' B (.slice ao n cap) (mkL k n l) ∧ Below B w w' ∧ ∀ b, (∀ a, ao = some a → a.block ≠ b) → w'.heap[b]? = w.heap[b]? := by
  by_cases hl : l = []
  · subst hl
    have hn' : n = 0 := hn
    subst hn'
    have H : Hid (ownsB w B (.slice ao 0 cap) []) := h
    clear h hn
    go_enter Try.func83, Try.ntmps83
    go_wp2
    go_loopw [1, 5] (fun kk i wr => i = .int .i64 0 ∧ kk = .int .i64 (k : Int) ∧ wr = w) (fun _ _ _ => 0)
    case atStart => exact ⟨rfl, rfl, rfl⟩
    case round =>
      obtain ⟨rfl, rfl, rfl⟩ := hrel
      go_wp2
      go_ret
      exact ⟨rfl, H.out, Below.refl _ _, fun _ _ => rfl⟩
  · obtain ⟨g, cap', hv, hgB, hgz, hcap, -, -⟩ := h.open hl
    cases hv
    have H : Hid (ownsB w B (.slice (some ⟨g, 0, none⟩) l.length cap) l) := h
    clear h
    go_enter Try.func83, Try.ntmps83
    go_wp2
    go_loopw [1, 5] (fun kk i wr => ∃ j : Nat, j ≤ l.length ∧ i = .int .i64 (j : Int) ∧ kk = .int .i64 ((k + j : Nat) : Int) ∧ ownsB wr B (.slice (some ⟨g, 0, none⟩) l.length cap) (mkL k j l) ∧ Below B w wr ∧ ∀ b, g ≠ b → wr.heap[b]? = w.heap[b]?) (fun _ i _ => l.length - (intOf i).toNat)
    case atStart => exact ⟨0, Nat.zero_le _, rfl, rfl, H.out, Below.refl _ _, fun _ _ => rfl⟩
    case round =>
      obtain ⟨j, hj, rfl, rfl, ho, hb, hoth⟩ := hrel
      by_cases hlt : j < l.length
      · have hrow : rowB wr g l.length (fun t => (mkL k j l).getD t 0) := by
          have ho' := ho
          rw [← mkL_len k j l] at ho'
          obtain ⟨g', c', e, -, -, -, -, hr⟩ := ho'.open (by intro e; have := mkL_len k j l; rw [e] at this; simp at this; omega)
          cases e
          rw [mkL_len k j l] at hr
          exact hr
        have hc := hrow.cell j hlt
        have hf := hrow.free j hlt
        have st : ownsB (wr.setCell ⟨g, j, none⟩ (.int .u8 ((k + j : Nat) : Int))) B (.slice (some ⟨g, 0, none⟩) l.length cap) (mkL k (j + 1) l) := by
          have ho' := ho
          rw [← mkL_len k j l] at ho'
          have := ho'.stored j (k + j)
          rw [mkL_len k j l] at this
          exact this
        have hb2 := below_row hb hgB j (.int .u8 ((k + j : Nat) : Int))
        have HST : Hid (ownsB (wr.setCell ⟨g, j, none⟩ (.int .u8 ((k + j : Nat) : Int))) B (.slice (some ⟨g, 0, none⟩) l.length cap) (mkL k (j + 1) l) ∧ Below B w (wr.setCell ⟨g, j, none⟩ (.int .u8 ((k + j : Nat) : Int))) ∧ ∀ b, g ≠ b → (wr.setCell ⟨g, j, none⟩ (.int .u8 ((k + j : Nat) : Int))).heap[b]? = w.heap[b]?) := ⟨st, hb2, fun b hb' => (heap_setCell_other wr ⟨g, j, none⟩ b _ (fun e => hb' e.symm)).trans (hoth b hb')⟩
        have hkj : k + j ≤ 200 := by omega
        have hu : IntKind.u8.wrap ((k : Int) + (j : Int)) = (k : Int) + (j : Int) := by simp [IntKind.wrap, IntKind.bits, IntKind.signed]; omega
        clear st hb2 hrow ho hb hoth
        go_wp2
        go_roundw
        case rel => exact ⟨j + 1, by omega, by go_num, by go_num, HST.out.1, HST.out.2.1, HST.out.2.2⟩
        case measure => simp [intOf]; omega
      · have : j = l.length := by omega
        subst this
        have HST : Hid (ownsB wr B (.slice (some ⟨g, 0, none⟩) l.length cap) (mkL k l.length l) ∧ Below B w wr ∧ ∀ b, g ≠ b → wr.heap[b]? = w.heap[b]?) := ⟨ho, hb, hoth⟩
        clear ho hb hoth
        go_wp2
        go_ret
        exact ⟨rfl, HST.out.1, HST.out.2.1, fun b hb' => HST.out.2.2 b (hb' _ rfl)⟩

set_option maxHeartbeats 1000000 in
theorem heldByteS_any (w : World) (B : Nat) (ao : Option Addr) (n cap k : Nat) (l : List Nat) (h : ownsB w B (.slice ao n cap) (mkL k n l)) (hn : n = l.length) (hk : k + n ≤ 200) :
    Calls Try.prog 84 #[.slice ao n cap, .int .i64 (k : Int)] w fun e w' => e = .returned (.int .i64 ((k + n : Nat) : Int)) ∧ ∃ q, w' = w.drewN q := by
  by_cases hl : l = []
  · subst hl
    have hn' : n = 0 := hn
    subst hn'
    clear h hn
    go_enter Try.func84, Try.ntmps84
    go_wp2
    go_loopw [1, 5] (fun kk i wr => i = .int .i64 0 ∧ kk = .int .i64 (k : Int) ∧ wr = w) (fun _ _ _ => 0)
    case atStart => exact ⟨rfl, rfl, rfl⟩
    case round =>
      obtain ⟨rfl, rfl, rfl⟩ := hrel
      go_wp2
      go_ret
      exact ⟨rfl, 0, rfl⟩
  · subst hn
    have hl' : mkL k l.length l ≠ [] := by intro e; have := mkL_len k l.length l; rw [e] at this; simp at this; exact hl (List.eq_nil_of_length_eq_zero this.symm)
    obtain ⟨g, cap', hv, hgB, hgz, hcap, -, hrow⟩ := h.open hl'
    rw [mkL_len] at hv hrow
    cases hv
    have HR : Hid (∀ q j, j < l.length → (w.drewN q).cell? ⟨g, j, none⟩ = some (.int .u8 ((k + j : Nat) : Int))) := by
      intro q j hj
      have := hrow.cell j hj
      rw [mkL_at k l.length l j hj (Nat.le_refl _)] at this
      exact (below_drewN (Below.refl w.heap.size w) q).cell (by exact hgz) |>.trans this
    clear h hrow
    go_enter Try.func84, Try.ntmps84
    go_wp2
    go_loopw [1, 5] (fun kk i wr => ∃ j q : Nat, j ≤ l.length ∧ i = .int .i64 (j : Int) ∧ kk = .int .i64 ((k + j : Nat) : Int) ∧ wr = w.drewN q) (fun _ i _ => l.length - (intOf i).toNat)
    case atStart => exact ⟨0, 0, Nat.zero_le _, rfl, rfl, rfl⟩
    case round =>
      obtain ⟨j, q, hj, rfl, rfl, rfl⟩ := hrel
      by_cases hlt : j < l.length
      · have hc := HR.out q j hlt
        have hkj : k + j ≤ 200 := by omega
        have hu : IntKind.u8.wrap ((k : Int) + (j : Int)) = (k : Int) + (j : Int) := by simp [IntKind.wrap, IntKind.bits, IntKind.signed]; omega
        generalize hW : w.drewN q = W at *
        have HW : Hid (W = w.drewN q) := hW.symm
        clear hW
        go_wp2
        go_roundw
        case rel => exact ⟨j + 1, q, by omega, by go_num, by go_num, HW.out⟩
        case measure => simp [intOf]; omega
      · have : j = l.length := by omega
        subst this
        go_wp2
        go_ret
        exact ⟨rfl, q, rfl⟩
theorem markFrame_any (w : World) (B : Nat) (e : Bool) (i : Nat) (r : Bool) (d : Int) (ao : Option Addr) (n cap k : Nat) (l : List Nat) (h : ownsB w B (.slice ao n cap) l) (hB : B ≤ w.heap.size) (hn : n = l.length) (hk : k + n ≤ 200) :
    Calls Try.prog 39 #[frV e i r d ao n cap, .int .i64 (k : Int)] w fun o w' => o = .returned (.int .i64 ((k + n : Nat) : Int)) ∧ ownsB w' B (.slice ao n cap) (mkL k n l) ∧ Below B w w' ∧ ∀ b, b < w.heap.size → (∀ a, ao = some a → a.block ≠ b) → w'.heap[b]? = w.heap[b]? := by
  have H : Hid (∀ x, Calls Try.prog 83 #[.slice ao n cap, .int .i64 (k : Int)] (w.alloc x) fun e w' => e = .returned (.int .i64 ((k + n : Nat) : Int)) ∧ ownsB w' B (.slice ao n cap) (mkL k n l) ∧ Below B (w.alloc x) w' ∧ ∀ b, (∀ a, ao = some a → a.block ≠ b) → w'.heap[b]? = (w.alloc x).heap[b]?) := fun x => markByteS_any (w.alloc x) B ao n cap k l (World.ownsRow.alloc h x) hn hk
  have HB : Hid (B ≤ w.heap.size) := hB
  clear h hB hn
  go_enter Try.func39, Try.ntmps39
  go_wp2_with (first | (go_at_call 83; refine (H.out _).mono ?_; rintro o w1 ⟨rfl, ho, hb, hoth⟩))
  go_ret
  exact ⟨rfl, ho, ((Below.refl B w).alloc HB.out _).trans hb, fun b hb1 hb2 => (hoth b hb2).trans (Below.heap_alloc w _ b hb1)⟩
theorem heldFrame_any (w : World) (B : Nat) (e : Bool) (i : Nat) (r : Bool) (d : Int) (ao : Option Addr) (n cap k : Nat) (l : List Nat) (h : ownsB w B (.slice ao n cap) (mkL k n l)) (hn : n = l.length) (hk : k + n ≤ 200) :
    Calls Try.prog 40 #[frV e i r d ao n cap, .int .i64 (k : Int)] w fun o w' => o = .returned (.int .i64 ((k + n : Nat) : Int)) ∧ Below w.heap.size w w' := by
  have H : Hid (∀ x, Calls Try.prog 84 #[.slice ao n cap, .int .i64 (k : Int)] (w.alloc x) fun e w' => e = .returned (.int .i64 ((k + n : Nat) : Int)) ∧ ∃ q, w' = (w.alloc x).drewN q) := fun x => heldByteS_any (w.alloc x) B ao n cap k l (World.ownsRow.alloc h x) hn hk
  have hk0 : ¬ ((k : Int) + (n : Int)) < 0 := by omega
  clear h hn
  go_enter Try.func40, Try.ntmps40
  go_wp2_with (first | (go_at_call 84; refine (H.out _).mono ?_; rintro o w1 ⟨rfl, q, rfl⟩))
  go_ret
  exact ⟨rfl, below_drewN ((Below.refl _ _).alloc (Nat.le_refl _) _) q⟩

theorem datL_small (p : List Nat) (H j : Nat) : (datL p H j).length = j ∧ ∀ x ∈ datL p H j, x < 256 := by
  refine ⟨by simp [datL], fun x hx => ?_⟩
  unfold datL at hx
  rw [List.mem_map] at hx
  obtain ⟨t, -, rfl⟩ := hx
  exact valL_lt8 _
theorem dec_len (s : ByteArray) : (decK (walkZ s)).data.length ≤ 8 ∧ ∀ x ∈ (decK (walkZ s)).data, x < 256 := by
  obtain ⟨hcode, hvals⟩ := walk_code s
  by_cases hc : (swZ s).1 = 1 ∨ (swZ s).1 = 2
  · have hv := hvals hc
    have h12 := swZ12 s hc
    obtain ⟨r1, r2⟩ := vals_read hv h12.1 h12.2
    have hk : decK (walkZ s) = walkZ s := by unfold decK; rw [if_pos (by rw [hcode]; exact hc)]
    rw [hk]
    have hN := layN_le (swZ s).2.1
    rcases layH_or (swZ s).2.1 with e | e
    · rw [(r1 e).2.2.2.2]; obtain ⟨a, b⟩ := datL_small (swZ s).2.1 19 (layN (swZ s).2.1); exact ⟨by omega, b⟩
    · rw [(r2 e).2.2.2.2]; obtain ⟨a, b⟩ := datL_small (swZ s).2.1 39 (layN (swZ s).2.1); exact ⟨by omega, b⟩
  · have hk : decK (walkZ s) = Wk.zero := by unfold decK; rw [if_neg (by rw [hcode]; exact hc)]
    rw [hk]
    exact ⟨by decide, by intro x hx; cases hx⟩
/-- a frame's cells in block b -/
def frAt (W : World) (b : Nat) (e : Bool) (i : Nat) (r : Bool) (d : Int) (v : Value) : Prop := W.heap[b]? = some (.cells #[.bool e, .int .u32 (i : Int), .bool r, .int .i64 d, v] 33 (0, 0))
theorem frAt.cells {W : World} {b : Nat} {e : Bool} {i : Nat} {r : Bool} {d : Int} {v : Value} (h : frAt W b e i r d v) :
    W.cell? ⟨b, 0, none⟩ = some (.bool e) ∧ W.cell? ⟨b, 1, none⟩ = some (.int .u32 (i : Int)) ∧ W.cell? ⟨b, 2, none⟩ = some (.bool r) ∧ W.cell? ⟨b, 3, none⟩ = some (.int .i64 d) ∧ W.cell? ⟨b, 4, none⟩ = some v := by
  unfold frAt at h
  refine ⟨?_, ?_, ?_, ?_, ?_⟩ <;> simp [World.cell?, h]
theorem frAt.below {W W' : World} {b B : Nat} {e : Bool} {i : Nat} {r : Bool} {d : Int} {v : Value} (h : frAt W b e i r d v) (hb : Below B W W') (hB : b < B) : frAt W' b e i r d v := (hb.block b hB).trans h
theorem frAt.lt {W : World} {b : Nat} {e : Bool} {i : Nat} {r : Bool} {d : Int} {v : Value} (h : frAt W b e i r d v) : b < W.heap.size := lt_of_block h
theorem isBytes.ofOwn {w : World} {B : Nat} {ao : Option Addr} {n cap : Nat} {l : List Nat} (h : ownsB w B (.slice ao n cap) l) (hl : ∀ x ∈ l, x < 256) (hn : n = l.length) : isBytes w ao n cap l := by
  subst hn
  obtain ⟨ao', cap', e, hb⟩ := h.bytes hl
  cases e
  exact hb
end Go.Proofs.Ytnefmdjodjpopaa
