import Derived.Test.YtaamahohdnbpiaaGreatProg
import Derived.WalkKit
import Derived.WalkSpells
import Derived.WalkLawsBesides
import Derived.Deep.QuietTactic
import Derived.BigQuiet
import Derived.Below
import Derived.Laws.BitsAllLaws
import Derived.Laws.IdiomStrings
import Derived.Deep.RegionWith
import Derived.Deep.MidRow
import Derived.Maps.AppendAt
namespace Go.Proofs.YtaamahohdnbpiaaGreat
open Go.RowKit
theorem ret_int {k : IntKind} {a b : Int} (h : a = b) : Ending.returned (.int k a) = .returned (.int k b) := by rw [h]
theorem ret_bool {a b : Bool} (h : a = b) : Ending.returned (.bool a) = .returned (.bool b) := by rw [h]
theorem getD_at (l : List Nat) (k : Nat) (h : k < l.length) : l.getD k 0 = l[k] := by simp [List.getD, h]
theorem bcell {W w1 : World} (hb : Below W.heap.size W w1) : (∀ b o, b < W.heap.size → w1.cell? ⟨b, o, none⟩ = W.cell? ⟨b, o, none⟩) ∧ (∀ b o, b < W.heap.size → w1.frozen? ⟨b, o, none⟩ = W.frozen? ⟨b, o, none⟩) :=
  ⟨fun b o h => hb.cell (p := ⟨b, o, none⟩) h, fun b o h => hb.frozen (p := ⟨b, o, none⟩) h⟩
theorem Tryz.info5 : (Tryz.prog.info? 5).map (fun i => (i.zero, i.size, i.bytes)) = some (some (.int .u8 0), 1, 1) := by kernel_rfl
def bv (l : List Nat) : List Value := l.map (fun x : Nat => Value.int .u8 (x : Int))
theorem bv_at (l : List Nat) (j : Nat) (h : j < l.length) : (bv l)[j]? = some (Value.int .u8 (l[j] : Int)) := by simp [bv, h]
/-- the slice v is a row of letters that the call itself made, in blocks from B on -/
def ownsB (w : World) (B : Nat) (v : Value) (l : List Nat) : Prop := w.ownsRow B 5 1 v l.length (bv l)
/-- one letter put behind a row of letters that the call itself made -/
theorem app_byte {ops : Array Oper} {rest : List Oper} {o : Oper} {a : Act} {Q : Exit → Act → World → Prop} (w0 wr : World) (hgd : o.guard = none) (s x : Operand)
    (ho : o.op = .call { callee := .builtin .append, args := #[s, x], argTypes := #[22, 22] })
    (B : Nat) (v : Value) (l : List Nat) (c : Nat) (ci : Int) (hci : ci = (c : Int)) (hs : a.eval s = v) (hown : ownsB wr B v l)
    (hx : a.eval x = .slice (some ⟨wr.heap.size, 0, none⟩) 1 1) (hlen : l.length ≤ 100000000) (hB : B ≤ wr.heap.size) (hbel : Below B w0 wr)
    (h : ∀ v' w', ownsB w' B v' (l ++ [c]) → Below B w0 w' → B ≤ w'.heap.size → wpList Tryz.prog ops Q rest (a.put o.dst v') w') :
    wpList Tryz.prog ops Q (o :: rest) a (wr.alloc (.cells #[.int .u8 ci] 5)) := by
  subst hci
  obtain ⟨i0, hi, hz0, hz1, hz2⟩ := info_parts Tryz.info5
  refine wpList_append_own _ hgd s x 22 ho B 5 i0 (.int .u8 0) 1 1 Tryz.underlying22 hi hz0 hz1 hz2 rfl (by decide) v l.length (bv l) hs (World.ownsRow.alloc hown _) ⟨wr.heap.size, 0, none⟩ 1 1 [.int .u8 (c : Int)] hx rfl ?_ ?_ ?_ ?_ ?_ ?_
  · intro j u hj
    match j, hj with
    | 0, hj => simp at hj; subst hj; simp [Addr.add]
  · intro u hu; simp at hu; subst hu; rfl
  · unfold maxLen; omega
  · omega
  · simp; omega
  · intro v' w' ho' hg _
    have hr : ∀ k, v.ownBlock = some k → B ≤ k := fun k hk => (World.ownsRow.lt hown k hk).1
    refine h v' w' ?_ ((hbel.alloc hB _).grown hg (by simp; omega) hr) (Nat.le_trans (by simp; omega) hg.size)
    have e1 : bv (l ++ [c]) = bv l ++ [.int .u8 (c : Int)] := by simp [bv]
    unfold ownsB
    rw [e1, List.length_append]
    exact ho'
theorem own_nil (w : World) (B : Nat) (hB : B ≤ w.heap.size) : ownsB (w.alloc (.cells #[] 5)) B (.slice (some ⟨w.heap.size, 0, none⟩) 0 0) [] :=
  World.ownsRow_made w #[] 0 hB (by decide) rfl
/-- the row of letters, cell by cell -/
structure rowB (w : World) (g n : Nat) (f : Nat → Nat) : Prop where
  cell : ∀ t, t < n → w.cell? ⟨g, t, none⟩ = some (.int .u8 (f t : Int))
  free : ∀ t, t < n → w.frozen? ⟨g, t, none⟩ = false
theorem rowB.of {w : World} {g n : Nat} {f f' : Nat → Nat} (h : rowB w g n f) (he : ∀ t, t < n → f t = f' t) : rowB w g n f' :=
  ⟨fun t ht => by rw [← he t ht]; exact h.cell t ht, h.free⟩
theorem rowB.set {w : World} {g n : Nat} {f f' : Nat → Nat} (h : rowB w g n f) (t0 : Nat) (ht0 : t0 < n) (x : Int) (hx : x = (f' t0 : Int)) (he : ∀ t, t < n → t ≠ t0 → f t = f' t) : rowB (w.setCell ⟨g, t0, none⟩ (.int .u8 x)).drew g n f' := by
  refine ⟨fun t ht => ?_, fun t ht => ?_⟩
  · rw [World.cell?_drew]
    by_cases e : t = t0
    · subst e
      rw [World.cell?_setCell_same _ _ _ (h.cell t ht), hx]
    · rw [World.cell?_setCell_other _ _ _ _ (by intro hh; exact e (by simpa using hh.symm)), h.cell t ht, he t ht e]
  · rw [World.frozen?_drew, World.frozen?_setCell]
    exact h.free t ht
theorem make_zeroB {ops : Array Oper} {rest : List Oper} {o : Oper} {a : Act} {Q : Exit → Act → World → Prop} (w : World)
    (hg : o.guard = none) (l c : Operand) (hop : o.op = Op.makeSlice 22 l c) (C : Int) (n : Nat) (hl : a.eval l = .int .i64 C) (hc : a.eval c = .int .i64 C) (hC : C = (n : Int)) (hn : n ≤ 100000000)
    (hK : ∀ w', rowB w' w.heap.size n (fun _ => 0) → w.grownBy w' none → w.heap.size < w'.heap.size → wpList Tryz.prog ops Q rest (a.put o.dst (.slice (some ⟨w.heap.size, 0, none⟩) n n)) w') :
    wpList Tryz.prog ops Q (o :: rest) a w := by
  obtain ⟨i0, hi, hz0, hz1, hz2⟩ := info_parts Tryz.info5
  refine wpList_make_full w hg l c 22 hop w.heap.size 5 i0 (.int .u8 0) 1 Tryz.underlying22 hi hz0 hz1 .i64 .i64 C C n hl hc hC hC (by rw [hz2]; omega) (by unfold maxLen; omega) (Nat.le_refl _) ?_
  intro w' ho hgr
  refine hK w' ⟨fun t ht => ?_, fun t ht => World.ownsRow.frozenAt ho t⟩ hgr (World.ownsRow.lt ho _ rfl).2
  rw [World.ownsRow.cellAt ho t (by omega)]
  have e : (madeCells (Value.int IntKind.u8 0).cells (n * 1)).toList = List.replicate (n * 1) (.int .u8 0) := toList_madeCells_one _ _
  rw [e, Nat.mul_one, List.getElem?_replicate, if_pos ht]
  rfl
theorem rowB.set' {w : World} {g n : Nat} {f f' : Nat → Nat} (h : rowB w g n f) (t0 : Nat) (ht0 : t0 < n) (x : Int) (hx : x = (f' t0 : Int)) (he : ∀ t, t < n → t ≠ t0 → f t = f' t) : rowB (w.setCell ⟨g, t0, none⟩ (.int .u8 x)) g n f' :=
  ⟨fun t ht => by have := (h.set t0 ht0 x hx he).cell t ht; rwa [World.cell?_drew] at this, fun t ht => by rw [World.frozen?_setCell]; exact h.free t ht⟩
end Go.Proofs.YtaamahohdnbpiaaGreat
namespace Go.Proofs.YtaamahohdnbpiaaGreat
open Go.RowKit
/-- the slice v holds the letters l -/
structure isBytes (w : World) (a : Option Addr) (n cap : Nat) (l : List Nat) : Prop where
  len : n = l.length
  cap : n ≤ cap
  small : ∀ x ∈ l, x < 256
  cells : l ≠ [] → ∃ g off, a = some ⟨g, off, none⟩ ∧ ∀ j (h : j < l.length), w.cell? ⟨g, off + j, none⟩ = some (.int .u8 (l[j] : Int))
theorem isBytes.below {w w' : World} {a : Option Addr} {n cap : Nat} {l : List Nat} (h : isBytes w a n cap l) (hb : Below w.heap.size w w') : isBytes w' a n cap l := by
  refine ⟨h.len, h.cap, h.small, fun hl => ?_⟩
  obtain ⟨g, off, ha, hc⟩ := h.cells hl
  refine ⟨g, off, ha, fun j hj => ?_⟩
  have h1 := hc j hj
  rw [hb.cell (World.block_lt_of_cell? w _ h1)]
  exact h1
/-- m cells from the block's front that may be written -/
def rowF (w : World) (g m : Nat) : Prop := ∀ t, t < m → (∃ v, w.cell? ⟨g, t, none⟩ = some v) ∧ w.frozen? ⟨g, t, none⟩ = false
theorem rowF.up {w W : World} {g m : Nat} (h : rowF w g m) (he : W.heap[g]? = w.heap[g]?) : rowF W g m := fun t ht => by
  have := h t ht
  simp only [World.cell?, World.frozen?, he] at this ⊢
  exact this
theorem rowF.setOther {w : World} {g m : Nat} (h : rowF w g m) (b j : Nat) (v : Value) (hb : b ≠ g) : rowF (w.setCell ⟨b, j, none⟩ v) g m := h.up (heap_setCell_other w ⟨b, j, none⟩ g v (fun e => hb e.symm))
set_option maxHeartbeats 1000000 in
theorem toByteS_any (w : World) (a : Option Addr) (n cap : Nat) (l : List Nat) (h : isBytes w a n cap l) (hn : n ≤ 1048576) :
    Calls Tryz.prog 108 #[.slice a n cap] w fun e w' => ∃ g, e = .returned (.slice (some ⟨g, 0, none⟩) n n) ∧ isBytes w' (some ⟨g, 0, none⟩) n n l ∧ Below w.heap.size w w' ∧ w.heap.size ≤ g ∧ g < w'.heap.size ∧ rowF w' g n := by

  have hlen := h.len
  have hcp := h.cap
  by_cases hl : l = []
  · subst hl
    have hn0 : n = 0 := hlen
    subst hn0
    have HS : Hid (∀ x ∈ ([] : List Nat), x < 256) := h.small
    clear hlen h
    go_enter Tryz.func108, Tryz.ntmps108
    go_wp2_with (first | (at_make; refine make_zeroB _ rfl (.tmp 6) (.tmp 6) rfl _ 0 rfl rfl rfl (by omega) ?_; intro w1 hrow hg1 hz1))
    go_loopw [4] (fun i wr => i = .int .i64 0 ∧ Below w.heap.size w wr ∧ w.heap.size < wr.heap.size) (fun _ _ => 0)
    case atStart => exact ⟨rfl, (Below.refl _ _).grown hg1 (Nat.le_refl _) (by intro k e; cases e), hz1⟩
    case round =>
      obtain ⟨rfl, hb, hz⟩ := hrel
      go_wp2
      go_ret
      exact ⟨_, rfl, ⟨rfl, Nat.le_refl _, HS.out, fun e => absurd rfl e⟩, hb, Nat.le_refl _, hz, fun t ht => absurd ht (Nat.not_lt_zero _)⟩
  · obtain ⟨g, off, rfl, hc⟩ := h.cells hl
    have hgz : g < w.heap.size := World.block_lt_of_cell? w _ (hc 0 (by have := List.length_pos_iff.2 hl; omega))
    have hsm := h.small
    have HL : Hid (n = l.length) := hlen
    have hn1 : n ≤ l.length := by omega
    have hn2 : l.length ≤ n := by omega
    clear h hlen
    go_enter Tryz.func108, Tryz.ntmps108
    go_wp2_with (first | (at_make; refine make_zeroB _ rfl (.tmp 6) (.tmp 6) rfl _ n rfl rfl rfl (by omega) ?_; intro w1 hrow hg1 hz1))
    go_loopw [4] (fun i wr => ∃ k : Nat, k ≤ n ∧ i = .int .i64 k ∧ rowB wr w.heap.size n (fun t => if t < k then l.getD t 0 else 0) ∧ Below w.heap.size w wr ∧ w.heap.size < wr.heap.size) (fun i _ => n - (intOf i).toNat)
    case atStart => exact ⟨0, Nat.zero_le _, rfl, hrow.of (fun t _ => by simp), (Below.refl _ _).grown hg1 (Nat.le_refl _) (by intro k e; cases e), hz1⟩
    case round =>
      clear hrow hz1
      obtain ⟨k, hk, rfl, hrow, hb, hz⟩ := hrel
      by_cases hlt : k < n
      · have hcx : wr.cell? ⟨g, off + k, none⟩ = some (.int .u8 (l[k] : Int)) := (hb.cell (by exact hgz)).trans (hc k (by omega))
        have hcy := hrow.cell k hlt
        have hfy := hrow.free k hlt
        have HG : Hid (l.getD k 0 = l[k]) := getD_at l k (by omega)
        generalize l[k] = x at *
        have hne : ¬ w.heap.size = g := by omega
        go_wp2
        go_roundw
        case rel =>
          refine ⟨k + 1, by omega, by go_num, hrow.set' k hlt _ ?_ ?_, hb.setCell (by exact Nat.le_refl _) _, by simpa using hz⟩
          · rw [if_pos (Nat.lt_succ_self k), HG.out]
          · intro t _ hne'
            by_cases h1 : t < k
            · rw [if_pos h1, if_pos (by omega)]
            · rw [if_neg h1, if_neg (by omega)]
        case measure => simp [intOf]; omega
      · go_wp2
        go_ret
        refine ⟨_, rfl, ⟨HL.out, Nat.le_refl _, hsm, fun _ => ⟨_, 0, rfl, fun j hj => ?_⟩⟩, hb, Nat.le_refl _, hz, fun t ht => ⟨⟨_, hrow.cell t ht⟩, hrow.free t ht⟩⟩
        have := hrow.cell j (by omega)
        rw [Nat.zero_add, this, if_pos (by omega), getD_at l j hj]

abbrev frV (e : Bool) (i : Nat) (r : Bool) (d : Int) (a : Option Addr) (n cap : Nat) : Value := .agg #[.bool e, .int .u32 (i : Int), .bool r, .int .i64 d, .slice a n cap]
abbrev frC (e : Bool) (i : Nat) (r : Bool) (d : Int) (a : Option Addr) (n cap : Nat) (T : TypeId) : Obj := .cells #[.bool e, .int .u32 (i : Int), .bool r, .int .i64 d, .slice a n cap] T

theorem szByteS_any (w : World) (a : Option Addr) (n cap : Nat) (m : Nat) (hn : n ≤ 9223372036854775807) (hm : m ≤ 1048576) :
    Calls Tryz.prog 106 #[.slice a n cap, .int .i64 m] w fun o w' => o = .returned (.int .i64 (if (n : Int) ≤ (m : Int) then (m : Int) - (n : Int) else -1)) ∧ w = w' := by
  by_cases h : (n : Int) ≤ (m : Int)
  · rw [if_pos h]
    go_enter Tryz.func106, Tryz.ntmps106
    go_wp2
    go_ret
    exact ⟨rfl, rfl⟩
  · rw [if_neg h]
    go_enter Tryz.func106, Tryz.ntmps106
    go_wp2
    go_ret
    exact ⟨rfl, rfl⟩
theorem szFrame_any (w : World) (e : Bool) (i : Nat) (r : Bool) (d : Int) (a : Option Addr) (n cap : Nat) (m : Nat) (hn : n ≤ 9223372036854775807) (hm : m ≤ 1048576) :
    Calls Tryz.prog 45 #[frV e i r d a n cap, .int .i64 m] w fun o w' => o = .returned (.int .i64 (if (n : Int) ≤ (m : Int) then (m : Int) - (n : Int) else -1)) ∧ w.alloc (frC e i r d a n cap 71) = w' := by
  by_cases h : (n : Int) ≤ (m : Int)
  · have HC : Hid (∀ W, Calls Tryz.prog 106 #[.slice a n cap, .int .i64 m] W fun o w' => o = .returned (.int .i64 ((m : Int) - (n : Int))) ∧ W = w') := by
      intro W; have := szByteS_any W a n cap m hn hm; rw [if_pos h] at this; exact this
    rw [if_pos h]
    go_enter Tryz.func45, Tryz.ntmps45
    go_wp2_with (first | (go_at_call 106; refine (HC.out _).mono ?_; rintro o w1 ⟨rfl, rfl⟩))
    go_ret
    exact ⟨rfl, rfl⟩
  · have HC : Hid (∀ W, Calls Tryz.prog 106 #[.slice a n cap, .int .i64 m] W fun o w' => o = .returned (.int .i64 (-1)) ∧ W = w') := by
      intro W; have := szByteS_any W a n cap m hn hm; rw [if_neg h] at this; exact this
    rw [if_neg h]
    go_enter Tryz.func45, Tryz.ntmps45
    go_wp2_with (first | (go_at_call 106; refine (HC.out _).mono ?_; rintro o w1 ⟨rfl, rfl⟩))
    go_ret
    exact ⟨rfl, rfl⟩
theorem isBytes.other {w w' : World} {g n cap : Nat} {l : List Nat} (h : isBytes w (some ⟨g, 0, none⟩) n cap l) (hk : w'.heap[g]? = w.heap[g]?) : isBytes w' (some ⟨g, 0, none⟩) n cap l := by
  refine ⟨h.len, h.cap, h.small, fun hl => ?_⟩
  obtain ⟨g', off, ha, hc⟩ := h.cells hl
  cases ha
  refine ⟨g, 0, rfl, fun t ht => ?_⟩
  have := hc t ht
  simp only [World.cell?, hk] at this ⊢
  exact this
theorem isBytes.setOther {w : World} {g n cap : Nat} {l : List Nat} (h : isBytes w (some ⟨g, 0, none⟩) n cap l) (b j : Nat) (v : Value) (hb : b ≠ g) : isBytes (w.setCell ⟨b, j, none⟩ v) (some ⟨g, 0, none⟩) n cap l := by
  refine ⟨h.len, h.cap, h.small, fun hl => ?_⟩
  obtain ⟨g', off, ha, hc⟩ := h.cells hl
  refine ⟨g', off, ha, fun t ht => ?_⟩
  cases ha
  rw [World.cell?_setCell_other _ _ _ _ (by intro hh; exact hb (congrArg Addr.block hh))]
  exact hc t ht
set_option maxHeartbeats 1000000 in
set_option maxRecDepth 20000 in
theorem toFrame_any (w : World) (e : Bool) (i : Nat) (r : Bool) (d : Int) (a : Option Addr) (n cap : Nat) (l : List Nat) (h : isBytes w a n cap l) (hn : n ≤ 1048576) :
    Calls Tryz.prog 47 #[frV e i r d a n cap] w fun o w' => ∃ g, o = .returned (frV e i r d (some ⟨g, 0, none⟩) n n) ∧ isBytes w' (some ⟨g, 0, none⟩) n n l ∧ Below w.heap.size w w' ∧ w.heap.size ≤ g ∧ g < w'.heap.size ∧ rowF w' g n := by
  have HH : Hid (isBytes w a n cap l) := h
  clear h
  go_enter Tryz.func47, Tryz.ntmps47
  go_wp2_with (first | (go_at_call 108; refine (toByteS_any _ a n cap l (HH.out.below ?_) hn).mono ?_))
  · exact (((Below.refl _ _).alloc (Nat.le_refl _) _).alloc (by simp) _).alloc (by simp; omega) _
  · rintro o w1 ⟨g, rfl, hby, hb, hg, hgz, hrf⟩
    have HGZ : Hid (g < w1.heap.size) := hgz
    have HRF : Hid (rowF w1 g n) := hrf
    clear hgz hrf
    obtain ⟨hc, hf⟩ := bcell hb
    have hB : Below w.heap.size w w1 := ((((Below.refl w.heap.size w).alloc (Nat.le_refl _) _).alloc (by simp) _).alloc (by simp; omega) _).trans (hb.mono (by simp; omega))

    have HG : Hid (w.heap.size + 1 + 1 + 1 ≤ g) := by unfold Hid; simpa using hg
    have HY : Hid (isBytes w1 (some ⟨g, 0, none⟩) n n l) := hby
    clear hb hg hby
    go_wp2
    refine bodyPost_ret (v := frV e i r d (some ⟨g, 0, none⟩) n n) (by simp [results, Tryz.results47, go_sem, hc]) rfl ?_
    have hg' := HG.out
    refine ⟨g, rfl, ?_, ?_, by omega, by simpa using HGZ.out, ?_⟩
    · exact (((((HY.out.setOther _ 4 _ (by omega)).setOther _ 0 _ (by omega)).setOther _ 1 _ (by omega)).setOther _ 2 _ (by omega)).setOther _ 3 _ (by omega)).setOther _ 4 _ (by omega)
    · exact (((((hB.setCell (p := ⟨_, 4, none⟩) (by simp; omega) _).setCell (p := ⟨_, 0, none⟩) (by simp) _).setCell (p := ⟨_, 1, none⟩) (by simp) _).setCell (p := ⟨_, 2, none⟩) (by simp) _).setCell (p := ⟨_, 3, none⟩) (by simp) _).setCell (p := ⟨_, 4, none⟩) (by simp) _
    · exact (((((HRF.out.setOther _ 4 _ (by omega)).setOther _ 0 _ (by omega)).setOther _ 1 _ (by omega)).setOther _ 2 _ (by omega)).setOther _ 3 _ (by omega)).setOther _ 4 _ (by omega)

set_option maxHeartbeats 1000000 in
theorem eqByteS_same (w : World) (a1 a2 : Option Addr) (n1 c1 n2 c2 : Nat) (l : List Nat) (h1 : isBytes w a1 n1 c1 l) (h2 : isBytes w a2 n2 c2 l) (hn : n1 ≤ 1048576) :
    Calls Tryz.prog 111 #[.slice a1 n1 c1, .slice a2 n2 c2] w fun o w' => o = .returned (.bool true) ∧ ∃ q, w' = w.drewN q := by
  have e1 := h1.len
  have e2 := h2.len
  by_cases hl : l = []
  · subst hl
    have e1' : n1 = 0 := e1
    have e2' : n2 = 0 := e2
    subst e1' e2'
    clear e1 e2 h1 h2
    go_enter Tryz.func111, Tryz.ntmps111
    go_wp2
    go_loopw [5] (fun i wr => i = .int .i64 0 ∧ wr = w) (fun _ _ => 0)
    case atStart => exact ⟨rfl, rfl⟩
    case round =>
      obtain ⟨rfl, rfl⟩ := hrel
      go_wp2
      go_ret
      exact ⟨rfl, 0, rfl⟩
  · obtain ⟨g1, o1, rfl, k1⟩ := h1.cells hl
    obtain ⟨g2, o2, rfl, k2⟩ := h2.cells hl
    have hnn : n2 = n1 := by omega
    subst hnn
    have hn1 : n2 ≤ l.length := by omega
    clear e1 e2 h1 h2
    go_enter Tryz.func111, Tryz.ntmps111
    go_wp2
    go_loopw [5] (fun i wr => ∃ k : Nat, k ≤ n2 ∧ i = .int .i64 k ∧ ∃ q, wr = w.drewN q) (fun i _ => n2 - (intOf i).toNat)
    case atStart => exact ⟨0, Nat.zero_le _, rfl, 0, rfl⟩
    case round =>
      obtain ⟨k, hk, rfl, q, rfl⟩ := hrel
      by_cases hlt : k < n2
      · have c1 := k1 k (by omega)
        have c2 := k2 k (by omega)
        generalize l[k] = x at *
        go_wp2
        go_quiet (fail)
        go_wp2
        go_roundw
        case rel => exact ⟨k + 1, by omega, by go_num, _, rfl⟩
        case measure => simp [intOf]; omega
      · go_wp2
        go_ret
        exact ⟨rfl, _, rfl⟩
set_option maxHeartbeats 1000000 in
set_option maxRecDepth 20000 in
theorem eqFrame_same (w : World) (e : Bool) (i : Nat) (r : Bool) (d : Int) (a : Option Addr) (n cap : Nat) (l : List Nat) (h : isBytes w a n cap l) (a' : Option Addr) (n' cap' : Nat) (h' : isBytes w a' n' cap' l) (hn : n ≤ 1048576) :
    Calls Tryz.prog 49 #[frV e i r d a n cap, frV e i r d a' n' cap'] w fun o w' => o = .returned (.bool true) ∧ Below w.heap.size w w' := by
  have HH : Hid (isBytes w a n cap l) := h
  have HH' : Hid (isBytes w a' n' cap' l) := h'
  clear h h'
  have hE : (e != e) = false := by simp
  have hR : (r != r) = false := by simp
  have hD : (d != d) = false := by simp
  have hI : ((i : Int) != (i : Int)) = false := by simp
  have hbl : Below w.heap.size w ((w.alloc (frC e i r d a n cap 25)).alloc (frC e i r d a' n' cap' 25)) := ((Below.refl _ _).alloc (Nat.le_refl _) _).alloc (by simp) _
  have HB : Hid (Below w.heap.size w ((w.alloc (frC e i r d a n cap 25)).alloc (frC e i r d a' n' cap' 25))) := hbl
  clear hbl
  go_enter Tryz.func49, Tryz.ntmps49
  go_wp2_with (first | (go_at_call 111; refine (eqByteS_same _ _ _ _ _ _ _ l (HH.out.below HB.out) (HH'.out.below HB.out) hn).mono ?_; rintro o w1 ⟨rfl, q, rfl⟩))
  go_ret
  exact ⟨rfl, below_drewN HB.out q⟩
end Go.Proofs.YtaamahohdnbpiaaGreat
namespace Go.Proofs.YtaamahohdnbpiaaGreat
open Go.RowKit
abbrev flV (e : Bool) (m k : Int) : Value := .agg #[.bool e, .int .u32 m, .int .u32 k]
abbrev cfV (a b c d : Int) : Value := .agg #[.int .i64 a, .int .i64 b, .int .i64 c, .int .i64 d]
abbrev bxV (x y z : Int) (e : Bool) (i : Nat) (r : Bool) (d : Int) (a : Option Addr) (n cap : Nat) : Value := .agg #[.int .i64 x, .int .i64 y, .int .i64 z, .bool e, .int .u32 (i : Int), .bool r, .int .i64 d, .slice a n cap]
set_option maxHeartbeats 1000000 in
theorem toFilter_any (w : World) (e : Bool) (m k : Int) : Calls Tryz.prog 146 #[flV e m k] w fun o w' => o = .returned (flV e m k) ∧ Below w.heap.size w w' := by
  go_enter Tryz.func146, Tryz.ntmps146
  go_wp2
  refine bodyPost_ret (v := flV e m k) (by simp [results, Tryz.results146, go_sem]) rfl ?_
  exact ⟨rfl, (((Below.refl _ _).alloc (Nat.le_refl _) _).alloc (by simp) _).alloc (by simp; omega) _⟩
set_option maxHeartbeats 1000000 in
theorem toConfig_any (w : World) (a b c d : Int) : Calls Tryz.prog 86 #[cfV a b c d] w fun o w' => o = .returned (cfV a b c d) ∧ Below w.heap.size w w' := by
  go_enter Tryz.func86, Tryz.ntmps86
  go_wp2
  refine bodyPost_ret (v := cfV a b c d) (by simp [results, Tryz.results86, go_sem]) rfl ?_
  exact ⟨rfl, (((Below.refl _ _).alloc (Nat.le_refl _) _).alloc (by simp) _).alloc (by simp; omega) _⟩
set_option maxHeartbeats 1000000 in
theorem eqFilter_same (w : World) (e : Bool) (m k : Int) : Calls Tryz.prog 149 #[flV e m k, flV e m k] w fun o w' => o = .returned (.bool true) ∧ Below w.heap.size w w' := by
  have hE : (e != e) = false := by simp
  have hM : (m != m) = false := by simp
  have hK : (k != k) = false := by simp
  go_enter Tryz.func149, Tryz.ntmps149
  go_wp2
  go_ret
  exact ⟨rfl, ((Below.refl _ _).alloc (Nat.le_refl _) _).alloc (by simp) _⟩
set_option maxHeartbeats 1000000 in
theorem eqConfig_same (w : World) (a b c d : Int) : Calls Tryz.prog 91 #[cfV a b c d, cfV a b c d] w fun o w' => o = .returned (.bool true) ∧ Below w.heap.size w w' := by
  have hE : (a != a) = false := by simp
  have hM : (b != b) = false := by simp
  have hK : (c != c) = false := by simp
  have hL : (d != d) = false := by simp
  go_enter Tryz.func91, Tryz.ntmps91
  go_wp2
  go_ret
  exact ⟨rfl, ((Below.refl _ _).alloc (Nat.le_refl _) _).alloc (by simp) _⟩

set_option maxHeartbeats 1000000 in
set_option maxRecDepth 20000 in
theorem toBox_any (w : World) (x y z : Int) (e : Bool) (i : Nat) (r : Bool) (d : Int) (a : Option Addr) (n cap : Nat) (l : List Nat) (h : isBytes w a n cap l) (hn : n ≤ 1048576) :
    Calls Tryz.prog 147 #[bxV x y z e i r d a n cap] w fun o w' => ∃ g, o = .returned (bxV x y z e i r d (some ⟨g, 0, none⟩) n n) ∧ isBytes w' (some ⟨g, 0, none⟩) n n l ∧ Below w.heap.size w w' ∧ w.heap.size ≤ g ∧ g < w'.heap.size ∧ rowF w' g n := by
  have HH : Hid (isBytes w a n cap l) := h
  clear h
  go_enter Tryz.func147, Tryz.ntmps147
  go_wp2_with (first | (go_at_call 47; refine (toFrame_any _ e i r d a n cap l (HH.out.below ?_) hn).mono ?_))
  · exact (((Below.refl _ _).alloc (Nat.le_refl _) _).alloc (by simp) _).alloc (by simp; omega) _
  · rintro o w1 ⟨g, rfl, hby, hb, hg, hgz, hrf⟩
    have HGZ : Hid (g < w1.heap.size) := hgz
    have HRF : Hid (rowF w1 g n) := hrf
    clear hgz hrf
    obtain ⟨hc, hf⟩ := bcell hb
    have hB : Below w.heap.size w w1 := ((((Below.refl w.heap.size w).alloc (Nat.le_refl _) _).alloc (by simp) _).alloc (by simp; omega) _).trans (hb.mono (by simp; omega))
    have HG : Hid (w.heap.size + 1 + 1 + 1 ≤ g) := by unfold Hid; simpa using hg
    have HY : Hid (isBytes w1 (some ⟨g, 0, none⟩) n n l) := hby
    clear hb hg hby
    go_wp2
    refine bodyPost_ret (v := bxV x y z e i r d (some ⟨g, 0, none⟩) n n) (by simp [results, Tryz.results147, go_sem, hc]) rfl ?_
    have hg' := HG.out
    refine ⟨g, rfl, HY.out.other ?_, ?_, by omega, by simpa using HGZ.out, HRF.out.up ?_⟩
    · repeat rw [heap_setCell_other _ _ g _ (by show g ≠ _; simp; omega)]
    · repeat refine Below.setCell ?_ (by simp; try omega) _
      exact hB
    · repeat rw [heap_setCell_other _ _ g _ (by show g ≠ _; simp; omega)]
set_option maxHeartbeats 1000000 in
set_option maxRecDepth 20000 in
theorem eqBox_same (w : World) (x y z : Int) (e : Bool) (i : Nat) (r : Bool) (d : Int) (a : Option Addr) (n cap : Nat) (l : List Nat) (h : isBytes w a n cap l) (a' : Option Addr) (n' cap' : Nat) (h' : isBytes w a' n' cap' l) (hn : n ≤ 1048576) :
    Calls Tryz.prog 150 #[bxV x y z e i r d a n cap, bxV x y z e i r d a' n' cap'] w fun o w' => o = .returned (.bool true) ∧ Below w.heap.size w w' := by
  have HH : Hid (isBytes w a n cap l) := h
  have HH' : Hid (isBytes w a' n' cap' l) := h'
  clear h h'
  have hX : (x != x) = false := by simp
  have hY : (y != y) = false := by simp
  have hZ : (z != z) = false := by simp
  have HC : Hid (∀ W, Below w.heap.size w W → Calls Tryz.prog 49 #[frV e i r d a n cap, frV e i r d a' n' cap'] W fun o w' => o = .returned (.bool true) ∧ Below w.heap.size w w') := by
    intro W hW
    refine (eqFrame_same W e i r d a n cap l (HH.out.below hW) a' n' cap' (HH'.out.below hW) hn).mono ?_
    rintro o w' ⟨rfl, hb⟩
    exact ⟨rfl, hW.trans (hb.mono hW.size)⟩
  go_enter Tryz.func150, Tryz.ntmps150
  go_wp2_with (first | (go_at_call 49; refine (HC.out _ (((Below.refl _ _).alloc (Nat.le_refl _) _).alloc (by simp) _)).mono ?_; rintro o w1 ⟨rfl, hb1⟩))
  go_ret
  exact ⟨rfl, hb1⟩
theorem szBox_any (w : World) (x y z : Int) (e : Bool) (i : Nat) (r : Bool) (d : Int) (a : Option Addr) (n cap : Nat) (m : Nat) (hn : n ≤ 9223372036854775807) (hm : m ≤ 1048576) :
    Calls Tryz.prog 144 #[bxV x y z e i r d a n cap, .int .i64 m] w fun o w' => o = .returned (.int .i64 (if (n : Int) ≤ (m : Int) then (m : Int) - (n : Int) else -1)) ∧ Below w.heap.size w w' := by
  by_cases h : (n : Int) ≤ (m : Int)
  · have HC : Hid (∀ W, Calls Tryz.prog 45 #[frV e i r d a n cap, .int .i64 m] W fun o w' => o = .returned (.int .i64 ((m : Int) - (n : Int))) ∧ W.alloc (frC e i r d a n cap 71) = w') := by
      intro W; have := szFrame_any W e i r d a n cap m hn hm; rw [if_pos h] at this; exact this
    rw [if_pos h]
    go_enter Tryz.func144, Tryz.ntmps144
    go_wp2_with (first | (go_at_call 45; refine (HC.out _).mono ?_; rintro o w1 ⟨rfl, rfl⟩))
    go_ret
    exact ⟨rfl, ((Below.refl _ _).alloc (Nat.le_refl _) _).alloc (by simp) _⟩
  · have HC : Hid (∀ W, Calls Tryz.prog 45 #[frV e i r d a n cap, .int .i64 m] W fun o w' => o = .returned (.int .i64 (-1)) ∧ W.alloc (frC e i r d a n cap 71) = w') := by
      intro W; have := szFrame_any W e i r d a n cap m hn hm; rw [if_neg h] at this; exact this
    rw [if_neg h]
    go_enter Tryz.func144, Tryz.ntmps144
    go_wp2_with (first | (go_at_call 45; refine (HC.out _).mono ?_; rintro o w1 ⟨rfl, rfl⟩))
    go_ret
    exact ⟨rfl, ((Below.refl _ _).alloc (Nat.le_refl _) _).alloc (by simp) _⟩
end Go.Proofs.YtaamahohdnbpiaaGreat
namespace Go.Proofs.YtaamahohdnbpiaaGreat
open Go.RowKit
set_option maxHeartbeats 1000000 in
set_option maxRecDepth 20000 in
theorem toEvent_any (w : World) (x y z : Int) (e : Bool) (i : Nat) (r : Bool) (d : Int) (a : Option Addr) (n cap : Nat) (l : List Nat) (h : isBytes w a n cap l) (hn : n ≤ 1048576) :
    Calls Tryz.prog 148 #[bxV x y z e i r d a n cap] w fun o w' => ∃ g, o = .returned (bxV x y z e i r d (some ⟨g, 0, none⟩) n n) ∧ isBytes w' (some ⟨g, 0, none⟩) n n l ∧ Below w.heap.size w w' ∧ w.heap.size ≤ g ∧ g < w'.heap.size ∧ rowF w' g n := by
  have HH : Hid (isBytes w a n cap l) := h
  clear h
  go_enter Tryz.func148, Tryz.ntmps148
  go_wp2_with (first | (go_at_call 47; refine (toFrame_any _ e i r d a n cap l (HH.out.below ?_) hn).mono ?_))
  · exact (((Below.refl _ _).alloc (Nat.le_refl _) _).alloc (by simp) _).alloc (by simp; omega) _
  · rintro o w1 ⟨g, rfl, hby, hb, hg, hgz, hrf⟩
    have HGZ : Hid (g < w1.heap.size) := hgz
    have HRF : Hid (rowF w1 g n) := hrf
    clear hgz hrf
    obtain ⟨hc, hf⟩ := bcell hb
    have hB : Below w.heap.size w w1 := ((((Below.refl w.heap.size w).alloc (Nat.le_refl _) _).alloc (by simp) _).alloc (by simp; omega) _).trans (hb.mono (by simp; omega))
    have HG : Hid (w.heap.size + 1 + 1 + 1 ≤ g) := by unfold Hid; simpa using hg
    have HY : Hid (isBytes w1 (some ⟨g, 0, none⟩) n n l) := hby
    clear hb hg hby
    go_wp2
    refine bodyPost_ret (v := bxV x y z e i r d (some ⟨g, 0, none⟩) n n) (by simp [results, Tryz.results148, go_sem, hc]) rfl ?_
    have hg' := HG.out
    refine ⟨g, rfl, HY.out.other ?_, ?_, by omega, by simpa using HGZ.out, HRF.out.up ?_⟩
    · repeat rw [heap_setCell_other _ _ g _ (by show g ≠ _; simp; omega)]
    · repeat refine Below.setCell ?_ (by simp; try omega) _
      exact hB
    · repeat rw [heap_setCell_other _ _ g _ (by show g ≠ _; simp; omega)]
set_option maxHeartbeats 1000000 in
set_option maxRecDepth 20000 in
theorem eqEvent_same (w : World) (x y z : Int) (e : Bool) (i : Nat) (r : Bool) (d : Int) (a : Option Addr) (n cap : Nat) (l : List Nat) (h : isBytes w a n cap l) (a' : Option Addr) (n' cap' : Nat) (h' : isBytes w a' n' cap' l) (hn : n ≤ 1048576) :
    Calls Tryz.prog 95 #[bxV x y z e i r d a n cap, bxV x y z e i r d a' n' cap'] w fun o w' => o = .returned (.bool true) ∧ Below w.heap.size w w' := by
  have HH : Hid (isBytes w a n cap l) := h
  have HH' : Hid (isBytes w a' n' cap' l) := h'
  clear h h'
  have hX : (x != x) = false := by simp
  have hY : (y != y) = false := by simp
  have hZ : (z != z) = false := by simp
  have HC : Hid (∀ W, Below w.heap.size w W → Calls Tryz.prog 49 #[frV e i r d a n cap, frV e i r d a' n' cap'] W fun o w' => o = .returned (.bool true) ∧ Below w.heap.size w w') := by
    intro W hW
    refine (eqFrame_same W e i r d a n cap l (HH.out.below hW) a' n' cap' (HH'.out.below hW) hn).mono ?_
    rintro o w' ⟨rfl, hb⟩
    exact ⟨rfl, hW.trans (hb.mono hW.size)⟩
  go_enter Tryz.func95, Tryz.ntmps95
  go_wp2_with (first | (go_at_call 49; refine (HC.out _ (((Below.refl _ _).alloc (Nat.le_refl _) _).alloc (by simp) _)).mono ?_; rintro o w1 ⟨rfl, hb1⟩))
  go_ret
  exact ⟨rfl, hb1⟩
theorem szEvent_any (w : World) (x y z : Int) (e : Bool) (i : Nat) (r : Bool) (d : Int) (a : Option Addr) (n cap : Nat) (m : Nat) (hn : n ≤ 9223372036854775807) (hm : m ≤ 1048576) :
    Calls Tryz.prog 145 #[bxV x y z e i r d a n cap, .int .i64 m] w fun o w' => o = .returned (.int .i64 (if (n : Int) ≤ (m : Int) then (m : Int) - (n : Int) else -1)) ∧ Below w.heap.size w w' := by
  by_cases h : (n : Int) ≤ (m : Int)
  · have HC : Hid (∀ W, Calls Tryz.prog 45 #[frV e i r d a n cap, .int .i64 m] W fun o w' => o = .returned (.int .i64 ((m : Int) - (n : Int))) ∧ W.alloc (frC e i r d a n cap 71) = w') := by
      intro W; have := szFrame_any W e i r d a n cap m hn hm; rw [if_pos h] at this; exact this
    rw [if_pos h]
    go_enter Tryz.func145, Tryz.ntmps145
    go_wp2_with (first | (go_at_call 45; refine (HC.out _).mono ?_; rintro o w1 ⟨rfl, rfl⟩))
    go_ret
    exact ⟨rfl, ((Below.refl _ _).alloc (Nat.le_refl _) _).alloc (by simp) _⟩
  · have HC : Hid (∀ W, Calls Tryz.prog 45 #[frV e i r d a n cap, .int .i64 m] W fun o w' => o = .returned (.int .i64 (-1)) ∧ W.alloc (frC e i r d a n cap 71) = w') := by
      intro W; have := szFrame_any W e i r d a n cap m hn hm; rw [if_neg h] at this; exact this
    rw [if_neg h]
    go_enter Tryz.func145, Tryz.ntmps145
    go_wp2_with (first | (go_at_call 45; refine (HC.out _).mono ?_; rintro o w1 ⟨rfl, rfl⟩))
    go_ret
    exact ⟨rfl, ((Below.refl _ _).alloc (Nat.le_refl _) _).alloc (by simp) _⟩
end Go.Proofs.YtaamahohdnbpiaaGreat
namespace Go.Proofs.YtaamahohdnbpiaaGreat
open Go.RowKit
/-- a filter: Ext, Mask, Match -/
structure R3 where
  e : Bool
  m : Int
  k : Int
structure at3 (w : World) (g o : Nat) (b : R3) : Prop where
  c0 : w.cell? ⟨g, o, none⟩ = some (.bool b.e)
  c1 : w.cell? ⟨g, o + 1, none⟩ = some (.int .u32 b.m)
  c2 : w.cell? ⟨g, o + 2, none⟩ = some (.int .u32 b.k)
/-- the slice holds the filters bs -/
structure isR3s (w : World) (a : Option Addr) (n cap : Nat) (bs : List R3) : Prop where
  len : n = bs.length
  cap : n ≤ cap
  cells : bs ≠ [] → ∃ g off, a = some ⟨g, off, none⟩ ∧ ∀ j (h : j < bs.length), at3 w g (off + j * 3) bs[j]
theorem at3.below {w w' : World} {g o : Nat} {b : R3} (h : at3 w g o b) (hb : Below w.heap.size w w') : at3 w' g o b := by
  have hg := World.block_lt_of_cell? w _ h.c0
  exact ⟨(hb.cell (by exact hg)).trans h.c0, (hb.cell (by exact hg)).trans h.c1, (hb.cell (by exact hg)).trans h.c2⟩
theorem isR3s.below {w w' : World} {a : Option Addr} {n cap : Nat} {bs : List R3} (h : isR3s w a n cap bs) (hb : Below w.heap.size w w') : isR3s w' a n cap bs := by
  refine ⟨h.len, h.cap, fun hl => ?_⟩
  obtain ⟨g, off, ha, hc⟩ := h.cells hl
  exact ⟨g, off, ha, fun j hj => (hc j hj).below hb⟩
theorem Tryz.info85 : (Tryz.prog.info? 85).map (fun i => (i.zero, i.size, i.bytes)) = some (some (.agg #[.bool false, .int .u32 0, .int .u32 0]), 3, 12) := by kernel_rfl
/-- a row of N cells that may be written -/
structure rowZ (w : World) (g N : Nat) : Prop where
  cell : ∀ t, t < N → ∃ v, w.cell? ⟨g, t, none⟩ = some v
  free : ∀ t, w.frozen? ⟨g, t, none⟩ = false
theorem make_Z {ops : Array Oper} {rest : List Oper} {o : Oper} {a : Act} {Q : Exit → Act → World → Prop} (w : World) (T E : TypeId) (Z : Value) (sz by_ : Nat) (hi0 : (Tryz.prog.info? E).map (fun i => (i.zero, i.size, i.bytes)) = some (some Z, sz, by_)) (hu : Tryz.prog.underlying T = some (.slice E)) (hby : by_ ≤ 1000)
    (hg : o.guard = none) (l c : Operand) (hop : o.op = Op.makeSlice T l c) (C : Int) (n : Nat) (hl : a.eval l = .int .i64 C) (hc : a.eval c = .int .i64 C) (hC : C = (n : Int)) (hn : n ≤ 100000000)
    (hK : ∀ w', rowZ w' w.heap.size (n * sz) → w.grownBy w' none → w.heap.size < w'.heap.size → wpList Tryz.prog ops Q rest (a.put o.dst (.slice (some ⟨w.heap.size, 0, none⟩) n n)) w') :
    wpList Tryz.prog ops Q (o :: rest) a w := by
  obtain ⟨i0, hi, hz0, hz1, hz2⟩ := info_parts hi0
  have hmul : by_ * n ≤ 1000 * n := Nat.mul_le_mul_right _ hby
  refine wpList_make_full w hg l c T hop w.heap.size E i0 Z sz hu hi hz0 hz1 .i64 .i64 C C n hl hc hC hC (by rw [hz2]; omega) (by unfold maxLen; omega) (Nat.le_refl _) ?_
  intro w' ho hgr
  refine hK w' ⟨fun t ht => ?_, fun t => World.ownsRow.frozenAt ho t⟩ hgr (World.ownsRow.lt ho _ rfl).2
  rw [World.ownsRow.cellAt ho t (by omega)]
  have hlen : (madeCells Z.cells (n * sz)).toList.length = n * sz := ho.1
  exact ⟨_, List.getElem?_eq_getElem (by omega)⟩
/-- values put into the cells from p on -/
def setRow (W : World) (g : Nat) : Nat → List Value → World
  | _, [] => W
  | p, v :: vs => setRow (W.setCell ⟨g, p, none⟩ v) g (p + 1) vs
theorem setRow_other (g : Nat) : ∀ (vs : List Value) (W : World) (p t : Nat), (t < p ∨ p + vs.length ≤ t) → (setRow W g p vs).cell? ⟨g, t, none⟩ = W.cell? ⟨g, t, none⟩ := by
  intro vs
  induction vs with
  | nil => intro W p t _; rfl
  | cons v vs ih =>
    intro W p t h
    simp only [List.length_cons] at h
    show (setRow (W.setCell ⟨g, p, none⟩ v) g (p + 1) vs).cell? _ = _
    rw [ih _ (p + 1) t (by omega), World.cell?_setCell_other _ _ _ _ (by intro e; simp at e; try omega)]
theorem setRow_block (g : Nat) (b : Nat) (hb : b ≠ g) : ∀ (vs : List Value) (W : World) (p : Nat), (setRow W g p vs).heap[b]? = W.heap[b]? := by
  intro vs
  induction vs with
  | nil => intro W p; rfl
  | cons v vs ih => intro W p; exact (ih _ (p + 1)).trans (heap_setCell_other W ⟨g, p, none⟩ b v hb)
theorem setRow_frozen (g : Nat) (q : Addr) : ∀ (vs : List Value) (W : World) (p : Nat), (setRow W g p vs).frozen? q = W.frozen? q := by
  intro vs
  induction vs with
  | nil => intro W p; rfl
  | cons v vs ih => intro W p; rw [setRow, ih, World.frozen?_setCell]
theorem setRow_below (g B : Nat) (hB : B ≤ g) (w0 : World) : ∀ (vs : List Value) (W : World) (p : Nat), Below B w0 W → Below B w0 (setRow W g p vs) := by
  intro vs
  induction vs with
  | nil => intro W p h; exact h
  | cons v vs ih => intro W p h; exact ih _ _ (h.setCell (p := ⟨g, p, none⟩) (by simpa using hB) v)
theorem setRow_at (g : Nat) : ∀ (vs : List Value) (W : World) (p t : Nat) (ht : t < vs.length), (∃ u, W.cell? ⟨g, p + t, none⟩ = some u) → (setRow W g p vs).cell? ⟨g, p + t, none⟩ = some vs[t] := by
  intro vs
  induction vs with
  | nil => intro W p t ht; cases ht
  | cons v vs ih =>
    intro W p t ht hu
    cases t with
    | zero =>
      obtain ⟨u, hu⟩ := hu
      show (setRow (W.setCell ⟨g, p, none⟩ v) g (p + 1) vs).cell? ⟨g, p, none⟩ = some v
      rw [setRow_other g vs _ (p + 1) p (by omega)]
      exact World.cell?_setCell_same _ _ _ hu
    | succ t =>
      have e : p + (t + 1) = p + 1 + t := by omega
      rw [e] at hu ⊢
      refine ih _ (p + 1) t (by simpa using ht) ?_
      rw [World.cell?_setCell_other _ _ _ _ (by intro e2; simp at e2; try omega)]
      exact hu
theorem setRow_size (g : Nat) : ∀ (vs : List Value) (W : World) (p : Nat), (setRow W g p vs).heap.size = W.heap.size := by
  intro vs
  induction vs with
  | nil => intro W p; rfl
  | cons v vs ih => intro W p; rw [setRow, ih]; simp
theorem rowZ.put {w : World} {g N : Nat} (h : rowZ w g N) (vs : List Value) (p : Nat) (_hp : p + vs.length ≤ N) : rowZ (setRow w g p vs) g N := by
  refine ⟨fun t ht => ?_, fun t => by rw [setRow_frozen]; exact h.free t⟩
  by_cases h1 : t < p ∨ p + vs.length ≤ t
  · rw [setRow_other g vs w p t h1]; exact h.cell t ht
  · have e : t = p + (t - p) := by omega
    have := setRow_at g vs w p (t - p) (by omega) (by rw [← e]; exact h.cell t ht)
    rw [← e] at this
    exact ⟨_, this⟩
theorem rowZ.below {w w' : World} {g N : Nat} (h : rowZ w g N) (hb : Below w.heap.size w w') (hg : g < w.heap.size) : rowZ w' g N :=
  ⟨fun t ht => by obtain ⟨v, hv⟩ := h.cell t ht; exact ⟨v, (hb.cell (by exact hg)).trans hv⟩, fun t => (hb.frozen (by exact hg)).trans (h.free t)⟩
theorem at3.keep {w : World} {g o : Nat} {b : R3} (h : at3 w g o b) (vs : List Value) (p : Nat) (hp : o + 3 ≤ p ∨ p + vs.length ≤ o) : at3 (setRow w g p vs) g o b :=
  ⟨(setRow_other g vs w p o (by omega)).trans h.c0, (setRow_other g vs w p (o + 1) (by omega)).trans h.c1, (setRow_other g vs w p (o + 2) (by omega)).trans h.c2⟩
theorem at3.new {w : World} {g N : Nat} (h : rowZ w g N) (p : Nat) (hp : p + 3 ≤ N) (b : R3) : at3 (setRow w g p [.bool b.e, .int .u32 b.m, .int .u32 b.k]) g p b :=
  ⟨setRow_at g _ w p 0 (by simp) (h.cell p (by omega)), setRow_at g _ w p 1 (by simp) (h.cell (p + 1) (by omega)), setRow_at g _ w p 2 (by simp) (h.cell (p + 2) (by omega))⟩
/-- what holds of the blocks from B on, whatever becomes of those below -/
def St (B : Nat) (w : World) (p : World → Prop) : Prop := ∀ W, (∀ k, B ≤ k → k < w.heap.size → W.heap[k]? = w.heap[k]?) → p W
theorem St.now {B : Nat} {w : World} {p : World → Prop} (h : St B w p) : p w := h w fun _ _ _ => rfl
theorem St.below {B : Nat} {w w' : World} {p : World → Prop} (h : St B w p) (hb : Below w.heap.size w w') : St B w' p := fun W hW => h W fun k h1 h2 => (hW k h1 (Nat.lt_of_lt_of_le h2 hb.size)).trans (hb.block k h2)
theorem St.set {B : Nat} {w : World} {p : World → Prop} (h : St B w p) (b j : Nat) (hb : b < B) (v : Value) : St B (w.setCell ⟨b, j, none⟩ v) p := fun W hW => h W fun k h1 h2 => (hW k h1 (by simpa using h2)).trans (heap_setCell_other w ⟨b, j, none⟩ k v (by show k ≠ b; omega))
theorem St.mono {B B' : Nat} {w : World} {p : World → Prop} (h : St B w p) (hB : B' ≤ B) : St B' w p := fun W hW => h W fun k h1 h2 => hW k (by omega) h2
theorem cell_up {W w : World} {g o : Nat} {v : Value} (h : w.cell? ⟨g, o, none⟩ = some v) (he : W.heap[g]? = w.heap[g]?) : W.cell? ⟨g, o, none⟩ = some v := by
  simp only [World.cell?, he] at h ⊢
  exact h
theorem at3.up {W w : World} {g o : Nat} {b : R3} (h : at3 w g o b) (he : W.heap[g]? = w.heap[g]?) : at3 W g o b := ⟨cell_up h.c0 he, cell_up h.c1 he, cell_up h.c2 he⟩
theorem rowZ.F {w : World} {g N : Nat} (h : rowZ w g N) : rowF w g N := fun t ht => ⟨h.cell t ht, h.free t⟩
set_option maxHeartbeats 1000000 in
theorem toFilterS_any (w : World) (a : Option Addr) (n cap : Nat) (bs : List R3) (h : isR3s w a n cap bs) (hn : n ≤ 1048576) :
    Calls Tryz.prog 87 #[.slice a n cap] w fun e w' => ∃ g, e = .returned (.slice (some ⟨g, 0, none⟩) n n) ∧ St w.heap.size w' (fun W => isR3s W (some ⟨g, 0, none⟩) n n bs ∧ rowF W g (n * 3)) ∧ (w.heap.size ≤ g ∧ g < w'.heap.size) ∧ Below w.heap.size w w' := by
  have hlen := h.len
  have hcp := h.cap
  by_cases hl : bs = []
  · subst hl
    have hn0 : n = 0 := hlen
    subst hn0
    clear hlen h
    go_enter Tryz.func87, Tryz.ntmps87
    go_wp2_with (first | (at_make; refine make_Z _ 30 85 _ 3 12 Tryz.info85 Tryz.underlying30 (by decide) rfl (.tmp 6) (.tmp 6) rfl _ 0 rfl rfl rfl (by omega) ?_; intro w1 hrow hg1 hz1))
    go_loopw [4] (fun i wr => i = .int .i64 0 ∧ Below w.heap.size w wr ∧ w.heap.size < wr.heap.size) (fun _ _ => 0)
    case atStart => exact ⟨rfl, (Below.refl _ _).grown hg1 (Nat.le_refl _) (by intro k e; cases e), hz1⟩
    case round =>
      obtain ⟨rfl, hb, hz⟩ := hrel
      go_wp2
      go_ret
      exact ⟨_, rfl, fun _ _ => ⟨⟨rfl, Nat.le_refl _, fun e => absurd rfl e⟩, fun t ht => absurd ht (by omega)⟩, ⟨Nat.le_refl _, hz⟩, hb⟩
  · obtain ⟨g, off, rfl, hc⟩ := h.cells hl
    have HL : Hid (n = bs.length) := hlen
    have HC : Hid (∀ j (h : j < bs.length), at3 w g (off + j * 3) bs[j]) := hc
    have hgz : g < w.heap.size := World.block_lt_of_cell? w _ (hc 0 (List.length_pos_iff.2 hl)).c0
    clear h hlen hc
    go_enter Tryz.func87, Tryz.ntmps87
    go_wp2_with (first | (at_make; refine make_Z _ 30 85 _ 3 12 Tryz.info85 Tryz.underlying30 (by decide) rfl (.tmp 6) (.tmp 6) rfl _ n rfl rfl rfl (by omega) ?_; intro w1 hrow hg1 hz1))
    go_loopw [4] (fun i wr => ∃ k : Nat, k ≤ n ∧ i = .int .i64 k ∧ rowZ wr w.heap.size (n * 3) ∧ (∀ j (hj : j < k) (h : j < bs.length), at3 wr w.heap.size (j * 3) bs[j]) ∧ Below w.heap.size w wr ∧ w.heap.size < wr.heap.size) (fun i _ => n - (intOf i).toNat)
    case atStart => exact ⟨0, Nat.zero_le _, rfl, hrow, fun j hj => absurd hj (Nat.not_lt_zero _), (Below.refl _ _).grown hg1 (Nat.le_refl _) (by intro k e; cases e), hz1⟩
    case round =>
      clear hrow hz1 hg1
      obtain ⟨k, hk, rfl, hrow, hdone, hb, hz⟩ := hrel
      by_cases hlt : k < n
      · have hkl : k < bs.length := by have := HL.out; omega
        have hx := HC.out k hkl
        have x0 := (hb.cell (by exact hgz)).trans hx.c0
        have x1 := (hb.cell (by exact hgz)).trans hx.c1
        have x2 := (hb.cell (by exact hgz)).trans hx.c2
        have HD : Hid (∀ W, Below wr.heap.size wr W → rowZ W w.heap.size (n * 3) ∧ (∀ j (hj : j < k) (h : j < bs.length), at3 W w.heap.size (j * 3) bs[j]) ∧ Below w.heap.size w W ∧ w.heap.size < W.heap.size) := fun W hW => ⟨hrow.below hW hz, fun j hj hjl => (hdone j hj hjl).below hW, hb.trans (hW.mono (by omega)), Nat.lt_of_lt_of_le hz hW.size⟩
        clear hrow hdone hb hx
        have hkn : k * 3 + 3 ≤ n * 3 := by omega
        have HB : Hid (∀ W, rowZ W w.heap.size (n * 3) → at3 (setRow W w.heap.size (k * 3) [.bool bs[k].e, .int .u32 bs[k].m, .int .u32 bs[k].k]) w.heap.size (k * 3) bs[k]) := fun W hW => at3.new hW (k * 3) hkn bs[k]
        generalize hB0 : bs[k].e = e0 at *
        generalize hB1 : bs[k].m = m0 at *
        generalize hB2 : bs[k].k = k0 at *
        clear hB0 hB1 hB2
        go_wp2_with (first | (go_at_call 146; refine (toFilter_any _ _ _ _).mono ?_; rintro o w5 ⟨rfl, hb5⟩; obtain ⟨v0, z0⟩ := (HD.out w5 hb5).1.cell (k * 3) (by omega); obtain ⟨v1, z1⟩ := (HD.out w5 hb5).1.cell (k * 3 + 1) (by omega); obtain ⟨v2, z2⟩ := (HD.out w5 hb5).1.cell (k * 3 + 2) (by omega); have f0 := (HD.out w5 hb5).1.free (k * 3); have f1 := (HD.out w5 hb5).1.free (k * 3 + 1); have f2 := (HD.out w5 hb5).1.free (k * 3 + 2)))
        go_roundw
        case rel =>
          obtain ⟨r1, r2, r3, r4⟩ := HD.out w5 hb5
          refine ⟨k + 1, by omega, by go_num, r1.put [.bool e0, .int .u32 m0, .int .u32 k0] (k * 3) hkn, fun j hj hjl => ?_, setRow_below _ _ (Nat.le_refl _) w [.bool e0, .int .u32 m0, .int .u32 k0] w5 (k * 3) r3, ?_⟩
          · by_cases e : j = k
            · subst e
              exact HB.out w5 r1
            · exact (r2 j (by omega) hjl).keep [.bool e0, .int .u32 m0, .int .u32 k0] (k * 3) (by simp; omega)
          · simpa using r4
        case measure => simp [intOf]; omega
      · go_wp2
        go_ret
        refine ⟨_, rfl, fun W hW => ⟨⟨HL.out, Nat.le_refl _, fun _ => ⟨_, 0, rfl, fun j hj => ?_⟩⟩, hrow.F.up (hW _ (Nat.le_refl _) hz)⟩, ⟨Nat.le_refl _, hz⟩, hb⟩
        have := hdone j (by have := HL.out; omega) hj
        rw [Nat.zero_add]
        exact this.up (hW _ (Nat.le_refl _) hz)
end Go.Proofs.YtaamahohdnbpiaaGreat
