import Derived.Test.YtjmlalojfghkiaaDoorProg
import Derived.WalkKit
import Derived.WalkSpells
import Derived.WalkLawsBesides
import Derived.Deep.QuietTactic
import Derived.BigQuiet
import Derived.Below
import Derived.Laws.BitsAllLaws
import Derived.Laws.IdiomStrings
import Derived.Deep.RegionWith
import Derived.Deep.MidRow
import Derived.Maps.AppendAt
namespace Go.Proofs.YtjmlalojfghkiaaDoor
open Go.RowKit
theorem ret_int {k : IntKind} {a b : Int} (h : a = b) : Ending.returned (.int k a) = .returned (.int k b) := by rw [h]
theorem ret_bool {a b : Bool} (h : a = b) : Ending.returned (.bool a) = .returned (.bool b) := by rw [h]
theorem getD_at (l : List Nat) (k : Nat) (h : k < l.length) : l.getD k 0 = l[k] := by simp [List.getD, h]
theorem bcell {W w1 : World} (hb : Below W.heap.size W w1) : (∀ b o, b < W.heap.size → w1.cell? ⟨b, o, none⟩ = W.cell? ⟨b, o, none⟩) ∧ (∀ b o, b < W.heap.size → w1.frozen? ⟨b, o, none⟩ = W.frozen? ⟨b, o, none⟩) :=
  ⟨fun b o h => hb.cell (p := ⟨b, o, none⟩) h, fun b o h => hb.frozen (p := ⟨b, o, none⟩) h⟩
theorem Tryd.info5 : (Tryd.prog.info? 5).map (fun i => (i.zero, i.size, i.bytes)) = some (some (.int .u8 0), 1, 1) := by kernel_rfl
def bv (l : List Nat) : List Value := l.map (fun x : Nat => Value.int .u8 (x : Int))
theorem bv_length (l : List Nat) : (bv l).length = l.length := by simp [bv]
theorem bv_append (l m : List Nat) : bv (l ++ m) = bv l ++ bv m := by simp [bv]
theorem bv_at (l : List Nat) (j : Nat) (h : j < l.length) : (bv l)[j]? = some (Value.int .u8 (l[j] : Int)) := by simp [bv, h]
/-- the slice v is a row of letters that the call itself made, in blocks from B on -/
def ownsB (w : World) (B : Nat) (v : Value) (l : List Nat) : Prop := w.ownsRow B 5 1 v l.length (bv l)
/-- one letter put behind a row of letters that the call itself made -/
theorem app_byte {ops : Array Oper} {rest : List Oper} {o : Oper} {a : Act} {Q : Exit → Act → World → Prop} (w0 wr : World) (hgd : o.guard = none) (s x : Operand)
    (ho : o.op = .call { callee := .builtin .append, args := #[s, x], argTypes := #[23, 23] })
    (B : Nat) (v : Value) (l : List Nat) (c : Nat) (ci : Int) (hci : ci = (c : Int)) (hs : a.eval s = v) (hown : ownsB wr B v l)
    (hx : a.eval x = .slice (some ⟨wr.heap.size, 0, none⟩) 1 1) (hlen : l.length ≤ 100000000) (hB : B ≤ wr.heap.size) (hbel : Below B w0 wr)
    (h : ∀ v' w', ownsB w' B v' (l ++ [c]) → Below B w0 w' → B ≤ w'.heap.size → wpList Tryd.prog ops Q rest (a.put o.dst v') w') :
    wpList Tryd.prog ops Q (o :: rest) a (wr.alloc (.cells #[.int .u8 ci] 5)) := by
  subst hci
  obtain ⟨i0, hi, hz0, hz1, hz2⟩ := info_parts Tryd.info5
  refine wpList_append_own _ hgd s x 23 ho B 5 i0 (.int .u8 0) 1 1 Tryd.underlying23 hi hz0 hz1 hz2 rfl (by decide) v l.length (bv l) hs (World.ownsRow.alloc hown _) ⟨wr.heap.size, 0, none⟩ 1 1 [.int .u8 (c : Int)] hx rfl ?_ ?_ ?_ ?_ ?_ ?_
  · intro j u hj
    match j, hj with
    | 0, hj => simp at hj; subst hj; simp [Addr.add]
  · intro u hu; simp at hu; subst hu; rfl
  · unfold maxLen; omega
  · omega
  · simp; omega
  · intro v' w' ho' hg _
    have hr : ∀ k, v.ownBlock = some k → B ≤ k := fun k hk => (World.ownsRow.lt hown k hk).1
    refine h v' w' ?_ ((hbel.alloc hB _).grown hg (by simp; omega) hr) (Nat.le_trans (by simp; omega) hg.size)
    have e1 : bv (l ++ [c]) = bv l ++ [.int .u8 (c : Int)] := by simp [bv]
    unfold ownsB
    rw [e1, List.length_append]
    exact ho'
theorem own_nil (w : World) (B : Nat) (hB : B ≤ w.heap.size) : ownsB (w.alloc (.cells #[] 5)) B (.slice (some ⟨w.heap.size, 0, none⟩) 0 0) [] :=
  World.ownsRow_made w #[] 0 hB (by decide) rfl
/-- the row of letters, cell by cell -/
structure rowB (w : World) (g n : Nat) (f : Nat → Nat) : Prop where
  cell : ∀ t, t < n → w.cell? ⟨g, t, none⟩ = some (.int .u8 (f t : Int))
  free : ∀ t, t < n → w.frozen? ⟨g, t, none⟩ = false
theorem rowB.of {w : World} {g n : Nat} {f f' : Nat → Nat} (h : rowB w g n f) (he : ∀ t, t < n → f t = f' t) : rowB w g n f' :=
  ⟨fun t ht => by rw [← he t ht]; exact h.cell t ht, h.free⟩
theorem rowB.set {w : World} {g n : Nat} {f f' : Nat → Nat} (h : rowB w g n f) (t0 : Nat) (ht0 : t0 < n) (x : Int) (hx : x = (f' t0 : Int)) (he : ∀ t, t < n → t ≠ t0 → f t = f' t) : rowB (w.setCell ⟨g, t0, none⟩ (.int .u8 x)).drew g n f' := by
  refine ⟨fun t ht => ?_, fun t ht => ?_⟩
  · rw [World.cell?_drew]
    by_cases e : t = t0
    · subst e
      rw [World.cell?_setCell_same _ _ _ (h.cell t ht), hx]
    · rw [World.cell?_setCell_other _ _ _ _ (by intro hh; exact e (by simpa using hh.symm)), h.cell t ht, he t ht e]
  · rw [World.frozen?_drew, World.frozen?_setCell]
    exact h.free t ht
theorem make_zeroB {ops : Array Oper} {rest : List Oper} {o : Oper} {a : Act} {Q : Exit → Act → World → Prop} (w : World)
    (hg : o.guard = none) (l c : Operand) (hop : o.op = Op.makeSlice 23 l c) (C : Int) (n : Nat) (hl : a.eval l = .int .i64 C) (hc : a.eval c = .int .i64 C) (hC : C = (n : Int)) (hn : n ≤ 100000000)
    (hK : ∀ w', rowB w' w.heap.size n (fun _ => 0) → w.grownBy w' none → w.heap.size < w'.heap.size → wpList Tryd.prog ops Q rest (a.put o.dst (.slice (some ⟨w.heap.size, 0, none⟩) n n)) w') :
    wpList Tryd.prog ops Q (o :: rest) a w := by
  obtain ⟨i0, hi, hz0, hz1, hz2⟩ := info_parts Tryd.info5
  refine wpList_make_full w hg l c 23 hop w.heap.size 5 i0 (.int .u8 0) 1 Tryd.underlying23 hi hz0 hz1 .i64 .i64 C C n hl hc hC hC (by rw [hz2]; omega) (by unfold maxLen; omega) (Nat.le_refl _) ?_
  intro w' ho hgr
  refine hK w' ⟨fun t ht => ?_, fun t ht => World.ownsRow.frozenAt ho t⟩ hgr (World.ownsRow.lt ho _ rfl).2
  rw [World.ownsRow.cellAt ho t (by omega)]
  have e : (madeCells (Value.int IntKind.u8 0).cells (n * 1)).toList = List.replicate (n * 1) (.int .u8 0) := toList_madeCells_one _ _
  rw [e, Nat.mul_one, List.getElem?_replicate, if_pos ht]
  rfl
theorem rowB.set' {w : World} {g n : Nat} {f f' : Nat → Nat} (h : rowB w g n f) (t0 : Nat) (ht0 : t0 < n) (x : Int) (hx : x = (f' t0 : Int)) (he : ∀ t, t < n → t ≠ t0 → f t = f' t) : rowB (w.setCell ⟨g, t0, none⟩ (.int .u8 x)) g n f' :=
  ⟨fun t ht => by have := (h.set t0 ht0 x hx he).cell t ht; rwa [World.cell?_drew] at this, fun t ht => by rw [World.frozen?_setCell]; exact h.free t ht⟩
/-- the slice v holds the letters l -/
structure isBytes (w : World) (a : Option Addr) (n cap : Nat) (l : List Nat) : Prop where
  len : n = l.length
  cap : n ≤ cap
  small : ∀ x ∈ l, x < 256
  cells : l ≠ [] → ∃ g off, a = some ⟨g, off, none⟩ ∧ ∀ j (h : j < l.length), w.cell? ⟨g, off + j, none⟩ = some (.int .u8 (l[j] : Int))
theorem isBytes.below {w w' : World} {a : Option Addr} {n cap : Nat} {l : List Nat} (h : isBytes w a n cap l) (hb : Below w.heap.size w w') : isBytes w' a n cap l := by
  refine ⟨h.len, h.cap, h.small, fun hl => ?_⟩
  obtain ⟨g, off, ha, hc⟩ := h.cells hl
  refine ⟨g, off, ha, fun j hj => ?_⟩
  have h1 := hc j hj
  rw [hb.cell (World.block_lt_of_cell? w _ h1)]
  exact h1
set_option maxHeartbeats 1000000 in
theorem toByteS_any (w : World) (a : Option Addr) (n cap : Nat) (l : List Nat) (h : isBytes w a n cap l) (hn : n ≤ 1048576) :
    Calls Tryd.prog 48 #[.slice a n cap] w fun e w' => ∃ g, e = .returned (.slice (some ⟨g, 0, none⟩) n n) ∧ isBytes w' (some ⟨g, 0, none⟩) n n l ∧ Below w.heap.size w w' ∧ w.heap.size ≤ g ∧ g < w'.heap.size := by

  have hlen := h.len
  have hcp := h.cap
  by_cases hl : l = []
  · subst hl
    have hn0 : n = 0 := hlen
    subst hn0
    have HS : Hid (∀ x ∈ ([] : List Nat), x < 256) := h.small
    clear hlen h
    go_enter Tryd.func48, Tryd.ntmps48
    go_wp2_with (first | (at_make; refine make_zeroB _ rfl (.tmp 6) (.tmp 6) rfl _ 0 rfl rfl rfl (by omega) ?_; intro w1 hrow hg1 hz1))
    go_loopw [4] (fun i wr => i = .int .i64 0 ∧ Below w.heap.size w wr ∧ w.heap.size < wr.heap.size) (fun _ _ => 0)
    case atStart => exact ⟨rfl, (Below.refl _ _).grown hg1 (Nat.le_refl _) (by intro k e; cases e), hz1⟩
    case round =>
      obtain ⟨rfl, hb, hz⟩ := hrel
      go_wp2
      go_ret
      exact ⟨_, rfl, ⟨rfl, Nat.le_refl _, HS.out, fun e => absurd rfl e⟩, hb, Nat.le_refl _, hz⟩
  · obtain ⟨g, off, rfl, hc⟩ := h.cells hl
    have hgz : g < w.heap.size := World.block_lt_of_cell? w _ (hc 0 (by have := List.length_pos_iff.2 hl; omega))
    have hsm := h.small
    have HL : Hid (n = l.length) := hlen
    have hn1 : n ≤ l.length := by omega
    have hn2 : l.length ≤ n := by omega
    clear h hlen
    go_enter Tryd.func48, Tryd.ntmps48
    go_wp2_with (first | (at_make; refine make_zeroB _ rfl (.tmp 6) (.tmp 6) rfl _ n rfl rfl rfl (by omega) ?_; intro w1 hrow hg1 hz1))
    go_loopw [4] (fun i wr => ∃ k : Nat, k ≤ n ∧ i = .int .i64 k ∧ rowB wr w.heap.size n (fun t => if t < k then l.getD t 0 else 0) ∧ Below w.heap.size w wr ∧ w.heap.size < wr.heap.size) (fun i _ => n - (intOf i).toNat)
    case atStart => exact ⟨0, Nat.zero_le _, rfl, hrow.of (fun t _ => by simp), (Below.refl _ _).grown hg1 (Nat.le_refl _) (by intro k e; cases e), hz1⟩
    case round =>
      clear hrow hz1
      obtain ⟨k, hk, rfl, hrow, hb, hz⟩ := hrel
      by_cases hlt : k < n
      · have hcx : wr.cell? ⟨g, off + k, none⟩ = some (.int .u8 (l[k] : Int)) := (hb.cell (by exact hgz)).trans (hc k (by omega))
        have hcy := hrow.cell k hlt
        have hfy := hrow.free k hlt
        have HG : Hid (l.getD k 0 = l[k]) := getD_at l k (by omega)
        generalize l[k] = x at *
        have hne : ¬ w.heap.size = g := by omega
        go_wp2
        go_roundw
        case rel =>
          refine ⟨k + 1, by omega, by go_num, hrow.set' k hlt _ ?_ ?_, hb.setCell (by exact Nat.le_refl _) _, by simpa using hz⟩
          · rw [if_pos (Nat.lt_succ_self k), HG.out]
          · intro t _ hne'
            by_cases h1 : t < k
            · rw [if_pos h1, if_pos (by omega)]
            · rw [if_neg h1, if_neg (by omega)]
        case measure => simp [intOf]; omega
      · go_wp2
        go_ret
        refine ⟨_, rfl, ⟨HL.out, Nat.le_refl _, hsm, fun _ => ⟨_, 0, rfl, fun j hj => ?_⟩⟩, hb, Nat.le_refl _, hz⟩
        have := hrow.cell j (by omega)
        rw [Nat.zero_add, this, if_pos (by omega), getD_at l j hj]
abbrev frV (e : Bool) (i : Nat) (r : Bool) (d : Int) (a : Option Addr) (n cap : Nat) : Value := .agg #[.bool e, .int .u32 (i : Int), .bool r, .int .i64 d, .slice a n cap]
abbrev frC (e : Bool) (i : Nat) (r : Bool) (d : Int) (a : Option Addr) (n cap : Nat) (T : TypeId) : Obj := .cells #[.bool e, .int .u32 (i : Int), .bool r, .int .i64 d, .slice a n cap] T
theorem szByteS_any (w : World) (a : Option Addr) (n cap : Nat) (m : Nat) (hn : n ≤ 9223372036854775807) (hm : m ≤ 1048576) :
    Calls Tryd.prog 46 #[.slice a n cap, .int .i64 m] w fun o w' => o = .returned (.int .i64 (if (n : Int) ≤ (m : Int) then (m : Int) - (n : Int) else -1)) ∧ w = w' := by
  by_cases h : (n : Int) ≤ (m : Int)
  · rw [if_pos h]
    go_enter Tryd.func46, Tryd.ntmps46
    go_wp2
    go_ret
    exact ⟨rfl, rfl⟩
  · rw [if_neg h]
    go_enter Tryd.func46, Tryd.ntmps46
    go_wp2
    go_ret
    exact ⟨rfl, rfl⟩
theorem szFrame_any (w : World) (e : Bool) (i : Nat) (r : Bool) (d : Int) (a : Option Addr) (n cap : Nat) (m : Nat) (hn : n ≤ 9223372036854775807) (hm : m ≤ 1048576) :
    Calls Tryd.prog 18 #[frV e i r d a n cap, .int .i64 m] w fun o w' => o = .returned (.int .i64 (if (n : Int) ≤ (m : Int) then (m : Int) - (n : Int) else -1)) ∧ w.alloc (frC e i r d a n cap 25) = w' := by
  by_cases h : (n : Int) ≤ (m : Int)
  · have HC : Hid (∀ W, Calls Tryd.prog 46 #[.slice a n cap, .int .i64 m] W fun o w' => o = .returned (.int .i64 ((m : Int) - (n : Int))) ∧ W = w') := by
      intro W; have := szByteS_any W a n cap m hn hm; rw [if_pos h] at this; exact this
    rw [if_pos h]
    go_enter Tryd.func18, Tryd.ntmps18
    go_wp2_with (first | (go_at_call 46; refine (HC.out _).mono ?_; rintro o w1 ⟨rfl, rfl⟩))
    go_ret
    exact ⟨rfl, rfl⟩
  · have HC : Hid (∀ W, Calls Tryd.prog 46 #[.slice a n cap, .int .i64 m] W fun o w' => o = .returned (.int .i64 (-1)) ∧ W = w') := by
      intro W; have := szByteS_any W a n cap m hn hm; rw [if_neg h] at this; exact this
    rw [if_neg h]
    go_enter Tryd.func18, Tryd.ntmps18
    go_wp2_with (first | (go_at_call 46; refine (HC.out _).mono ?_; rintro o w1 ⟨rfl, rfl⟩))
    go_ret
    exact ⟨rfl, rfl⟩
theorem isBytes.other {w w' : World} {g n cap : Nat} {l : List Nat} (h : isBytes w (some ⟨g, 0, none⟩) n cap l) (hk : w'.heap[g]? = w.heap[g]?) : isBytes w' (some ⟨g, 0, none⟩) n cap l := by
  refine ⟨h.len, h.cap, h.small, fun hl => ?_⟩
  obtain ⟨g', off, ha, hc⟩ := h.cells hl
  cases ha
  refine ⟨g, 0, rfl, fun t ht => ?_⟩
  have := hc t ht
  simp only [World.cell?, hk] at this ⊢
  exact this
theorem isBytes.setOther {w : World} {g n cap : Nat} {l : List Nat} (h : isBytes w (some ⟨g, 0, none⟩) n cap l) (b j : Nat) (v : Value) (hb : b ≠ g) : isBytes (w.setCell ⟨b, j, none⟩ v) (some ⟨g, 0, none⟩) n cap l := by
  refine ⟨h.len, h.cap, h.small, fun hl => ?_⟩
  obtain ⟨g', off, ha, hc⟩ := h.cells hl
  refine ⟨g', off, ha, fun t ht => ?_⟩
  cases ha
  rw [World.cell?_setCell_other _ _ _ _ (by intro hh; exact hb (congrArg Addr.block hh))]
  exact hc t ht
set_option maxHeartbeats 1000000 in
set_option maxRecDepth 20000 in
theorem toFrame_any (w : World) (e : Bool) (i : Nat) (r : Bool) (d : Int) (a : Option Addr) (n cap : Nat) (l : List Nat) (h : isBytes w a n cap l) (hn : n ≤ 1048576) :
    Calls Tryd.prog 26 #[frV e i r d a n cap] w fun o w' => ∃ g, o = .returned (frV e i r d (some ⟨g, 0, none⟩) n n) ∧ isBytes w' (some ⟨g, 0, none⟩) n n l ∧ Below w.heap.size w w' ∧ w.heap.size ≤ g ∧ g < w'.heap.size := by
  have HH : Hid (isBytes w a n cap l) := h
  clear h
  go_enter Tryd.func26, Tryd.ntmps26
  go_wp2_with (first | (go_at_call 48; refine (toByteS_any _ a n cap l (HH.out.below ?_) hn).mono ?_))
  · exact (((Below.refl _ _).alloc (Nat.le_refl _) _).alloc (by simp) _).alloc (by simp; omega) _
  · rintro o w1 ⟨g, rfl, hby, hb, hg, hgz⟩
    have HGZ : Hid (g < w1.heap.size) := hgz
    clear hgz
    obtain ⟨hc, hf⟩ := bcell hb
    have hB : Below w.heap.size w w1 := ((((Below.refl w.heap.size w).alloc (Nat.le_refl _) _).alloc (by simp) _).alloc (by simp; omega) _).trans (hb.mono (by simp; omega))

    have HG : Hid (w.heap.size + 1 + 1 + 1 ≤ g) := by unfold Hid; simpa using hg
    have HY : Hid (isBytes w1 (some ⟨g, 0, none⟩) n n l) := hby
    clear hb hg hby
    go_wp2
    refine bodyPost_ret (v := frV e i r d (some ⟨g, 0, none⟩) n n) (by simp [results, Tryd.results26, go_sem, hc]) rfl ?_
    have hg' := HG.out
    refine ⟨g, rfl, ?_, ?_, by omega, by simpa using HGZ.out⟩
    · exact (((((HY.out.setOther _ 4 _ (by omega)).setOther _ 0 _ (by omega)).setOther _ 1 _ (by omega)).setOther _ 2 _ (by omega)).setOther _ 3 _ (by omega)).setOther _ 4 _ (by omega)
    · exact (((((hB.setCell (p := ⟨_, 4, none⟩) (by simp; omega) _).setCell (p := ⟨_, 0, none⟩) (by simp) _).setCell (p := ⟨_, 1, none⟩) (by simp) _).setCell (p := ⟨_, 2, none⟩) (by simp) _).setCell (p := ⟨_, 3, none⟩) (by simp) _).setCell (p := ⟨_, 4, none⟩) (by simp) _
set_option maxHeartbeats 1000000 in
theorem eqByteS_same (w : World) (a1 a2 : Option Addr) (n1 c1 n2 c2 : Nat) (l : List Nat) (h1 : isBytes w a1 n1 c1 l) (h2 : isBytes w a2 n2 c2 l) (hn : n1 ≤ 1048576) :
    Calls Tryd.prog 56 #[.slice a1 n1 c1, .slice a2 n2 c2] w fun o w' => o = .returned (.bool true) ∧ ∃ q, w' = w.drewN q := by
  have e1 := h1.len
  have e2 := h2.len
  by_cases hl : l = []
  · subst hl
    have e1' : n1 = 0 := e1
    have e2' : n2 = 0 := e2
    subst e1' e2'
    clear e1 e2 h1 h2
    go_enter Tryd.func56, Tryd.ntmps56
    go_wp2
    go_loopw [5] (fun i wr => i = .int .i64 0 ∧ wr = w) (fun _ _ => 0)
    case atStart => exact ⟨rfl, rfl⟩
    case round =>
      obtain ⟨rfl, rfl⟩ := hrel
      go_wp2
      go_ret
      exact ⟨rfl, 0, rfl⟩
  · obtain ⟨g1, o1, rfl, k1⟩ := h1.cells hl
    obtain ⟨g2, o2, rfl, k2⟩ := h2.cells hl
    have hnn : n2 = n1 := by omega
    subst hnn
    have hn1 : n2 ≤ l.length := by omega
    clear e1 e2 h1 h2
    go_enter Tryd.func56, Tryd.ntmps56
    go_wp2
    go_loopw [5] (fun i wr => ∃ k : Nat, k ≤ n2 ∧ i = .int .i64 k ∧ ∃ q, wr = w.drewN q) (fun i _ => n2 - (intOf i).toNat)
    case atStart => exact ⟨0, Nat.zero_le _, rfl, 0, rfl⟩
    case round =>
      obtain ⟨k, hk, rfl, q, rfl⟩ := hrel
      by_cases hlt : k < n2
      · have c1 := k1 k (by omega)
        have c2 := k2 k (by omega)
        generalize l[k] = x at *
        go_wp2
        go_quiet (fail)
        go_wp2
        go_roundw
        case rel => exact ⟨k + 1, by omega, by go_num, _, rfl⟩
        case measure => simp [intOf]; omega
      · go_wp2
        go_ret
        exact ⟨rfl, _, rfl⟩
set_option maxHeartbeats 1000000 in
set_option maxRecDepth 20000 in
theorem eqFrame_same (w : World) (e : Bool) (i : Nat) (r : Bool) (d : Int) (a : Option Addr) (n cap : Nat) (l : List Nat) (h : isBytes w a n cap l) (a' : Option Addr) (n' cap' : Nat) (h' : isBytes w a' n' cap' l) (hn : n ≤ 1048576) :
    Calls Tryd.prog 32 #[frV e i r d a n cap, frV e i r d a' n' cap'] w fun o w' => o = .returned (.bool true) ∧ Below w.heap.size w w' := by
  have HH : Hid (isBytes w a n cap l) := h
  have HH' : Hid (isBytes w a' n' cap' l) := h'
  clear h h'
  have hE : (e != e) = false := by simp
  have hR : (r != r) = false := by simp
  have hD : (d != d) = false := by simp
  have hI : ((i : Int) != (i : Int)) = false := by simp
  have hbl : Below w.heap.size w ((w.alloc (frC e i r d a n cap 29)).alloc (frC e i r d a' n' cap' 29)) := ((Below.refl _ _).alloc (Nat.le_refl _) _).alloc (by simp) _
  have HB : Hid (Below w.heap.size w ((w.alloc (frC e i r d a n cap 29)).alloc (frC e i r d a' n' cap' 29))) := hbl
  clear hbl
  go_enter Tryd.func32, Tryd.ntmps32
  go_wp2_with (first | (go_at_call 56; refine (eqByteS_same _ _ _ _ _ _ _ l (HH.out.below HB.out) (HH'.out.below HB.out) hn).mono ?_; rintro o w1 ⟨rfl, q, rfl⟩))
  go_ret
  exact ⟨rfl, below_drewN HB.out q⟩
/-- a row of N cells that may be written -/
structure rowZ (w : World) (g N : Nat) : Prop where
  cell : ∀ t, t < N → ∃ v, w.cell? ⟨g, t, none⟩ = some v
  free : ∀ t, w.frozen? ⟨g, t, none⟩ = false
/-- values put into the cells from p on -/
def setRow (W : World) (g : Nat) : Nat → List Value → World
  | _, [] => W
  | p, v :: vs => setRow (W.setCell ⟨g, p, none⟩ v) g (p + 1) vs
theorem setRow_other (g : Nat) : ∀ (vs : List Value) (W : World) (p t : Nat), (t < p ∨ p + vs.length ≤ t) → (setRow W g p vs).cell? ⟨g, t, none⟩ = W.cell? ⟨g, t, none⟩ := by
  intro vs
  induction vs with
  | nil => intro W p t _; rfl
  | cons v vs ih =>
    intro W p t h
    simp only [List.length_cons] at h
    show (setRow (W.setCell ⟨g, p, none⟩ v) g (p + 1) vs).cell? _ = _
    rw [ih _ (p + 1) t (by omega), World.cell?_setCell_other _ _ _ _ (by intro e; simp at e; try omega)]
theorem setRow_block (g : Nat) (b : Nat) (hb : b ≠ g) : ∀ (vs : List Value) (W : World) (p : Nat), (setRow W g p vs).heap[b]? = W.heap[b]? := by
  intro vs
  induction vs with
  | nil => intro W p; rfl
  | cons v vs ih => intro W p; exact (ih _ (p + 1)).trans (heap_setCell_other W ⟨g, p, none⟩ b v hb)
theorem setRow_frozen (g : Nat) (q : Addr) : ∀ (vs : List Value) (W : World) (p : Nat), (setRow W g p vs).frozen? q = W.frozen? q := by
  intro vs
  induction vs with
  | nil => intro W p; rfl
  | cons v vs ih => intro W p; rw [setRow, ih, World.frozen?_setCell]
theorem setRow_below (g B : Nat) (hB : B ≤ g) (w0 : World) : ∀ (vs : List Value) (W : World) (p : Nat), Below B w0 W → Below B w0 (setRow W g p vs) := by
  intro vs
  induction vs with
  | nil => intro W p h; exact h
  | cons v vs ih => intro W p h; exact ih _ _ (h.setCell (p := ⟨g, p, none⟩) (by simpa using hB) v)
theorem setRow_at (g : Nat) : ∀ (vs : List Value) (W : World) (p t : Nat) (ht : t < vs.length), (∃ u, W.cell? ⟨g, p + t, none⟩ = some u) → (setRow W g p vs).cell? ⟨g, p + t, none⟩ = some vs[t] := by
  intro vs
  induction vs with
  | nil => intro W p t ht; cases ht
  | cons v vs ih =>
    intro W p t ht hu
    cases t with
    | zero =>
      obtain ⟨u, hu⟩ := hu
      show (setRow (W.setCell ⟨g, p, none⟩ v) g (p + 1) vs).cell? ⟨g, p, none⟩ = some v
      rw [setRow_other g vs _ (p + 1) p (by omega)]
      exact World.cell?_setCell_same _ _ _ hu
    | succ t =>
      have e : p + (t + 1) = p + 1 + t := by omega
      rw [e] at hu ⊢
      refine ih _ (p + 1) t (by simpa using ht) ?_
      rw [World.cell?_setCell_other _ _ _ _ (by intro e2; simp at e2; try omega)]
      exact hu
theorem setRow_size (g : Nat) : ∀ (vs : List Value) (W : World) (p : Nat), (setRow W g p vs).heap.size = W.heap.size := by
  intro vs
  induction vs with
  | nil => intro W p; rfl
  | cons v vs ih => intro W p; rw [setRow, ih]; simp
theorem rowZ.put {w : World} {g N : Nat} (h : rowZ w g N) (vs : List Value) (p : Nat) (_hp : p + vs.length ≤ N) : rowZ (setRow w g p vs) g N := by
  refine ⟨fun t ht => ?_, fun t => by rw [setRow_frozen]; exact h.free t⟩
  by_cases h1 : t < p ∨ p + vs.length ≤ t
  · rw [setRow_other g vs w p t h1]; exact h.cell t ht
  · have e : t = p + (t - p) := by omega
    have := setRow_at g vs w p (t - p) (by omega) (by rw [← e]; exact h.cell t ht)
    rw [← e] at this
    exact ⟨_, this⟩
theorem rowZ.below {w w' : World} {g N : Nat} (h : rowZ w g N) (hb : Below w.heap.size w w') (hg : g < w.heap.size) : rowZ w' g N :=
  ⟨fun t ht => by obtain ⟨v, hv⟩ := h.cell t ht; exact ⟨v, (hb.cell (by exact hg)).trans hv⟩, fun t => (hb.frozen (by exact hg)).trans (h.free t)⟩
/-- what holds of the blocks from B on, whatever becomes of those below -/
def St (B : Nat) (w : World) (p : World → Prop) : Prop := ∀ W, (∀ k, B ≤ k → k < w.heap.size → W.heap[k]? = w.heap[k]?) → p W
theorem St.now {B : Nat} {w : World} {p : World → Prop} (h : St B w p) : p w := h w fun _ _ _ => rfl
theorem St.below {B : Nat} {w w' : World} {p : World → Prop} (h : St B w p) (hb : Below w.heap.size w w') : St B w' p := fun W hW => h W fun k h1 h2 => (hW k h1 (Nat.lt_of_lt_of_le h2 hb.size)).trans (hb.block k h2)
theorem St.set {B : Nat} {w : World} {p : World → Prop} (h : St B w p) (b j : Nat) (hb : b < B) (v : Value) : St B (w.setCell ⟨b, j, none⟩ v) p := fun W hW => h W fun k h1 h2 => (hW k h1 (by simpa using h2)).trans (heap_setCell_other w ⟨b, j, none⟩ k v (by show k ≠ b; omega))
theorem St.mono {B B' : Nat} {w : World} {p : World → Prop} (h : St B w p) (hB : B' ≤ B) : St B' w p := fun W hW => h W fun k h1 h2 => hW k (by omega) h2
theorem cell_up {W w : World} {g o : Nat} {v : Value} (h : w.cell? ⟨g, o, none⟩ = some v) (he : W.heap[g]? = w.heap[g]?) : W.cell? ⟨g, o, none⟩ = some v := by
  simp only [World.cell?, he] at h ⊢
  exact h
theorem rowZ.up {W w : World} {g N : Nat} (h : rowZ w g N) (he : W.heap[g]? = w.heap[g]?) : rowZ W g N :=
  ⟨fun t ht => by obtain ⟨v, hv⟩ := h.cell t ht; exact ⟨v, cell_up hv he⟩, fun t => by have := h.free t; simp only [World.frozen?, he] at this ⊢; exact this⟩
theorem cell_same {W w : World} {g : Nat} (he : W.heap[g]? = w.heap[g]?) (o : Nat) : W.cell? ⟨g, o, none⟩ = w.cell? ⟨g, o, none⟩ := by simp only [World.cell?, he]
theorem setCells_row (g : Nat) : ∀ (vs : List Value) (w : World) (p : Nat), w.setCells g p vs = setRow w g p vs := by
  intro vs
  induction vs with
  | nil => intro w p; rfl
  | cons v vs ih => intro w p; exact ih _ (p + 1)
theorem rowZ.there {w : World} {g N : Nat} (h : rowZ w g N) (p n : Nat) (hp : p + n ≤ N) : w.there g p n := fun j hj => by
  obtain ⟨v, hv⟩ := h.cell (p + j) (by omega)
  exact ⟨by rw [hv]; rfl, h.free _⟩
theorem setCells_block (b : Nat) (t : TypeId) : ∀ (vs old pre post : List Value) (w : World), old.length = vs.length → w.heap[b]? = some (.cells (pre ++ old ++ post).toArray t (0, 0)) → (w.setCells b pre.length vs).heap[b]? = some (.cells (pre ++ vs ++ post).toArray t (0, 0)) := by
  intro vs
  induction vs with
  | nil =>
    intro old pre post w hl h
    have : old = [] := List.length_eq_zero_iff.1 hl
    subst this
    exact h
  | cons v vs ih =>
    intro old pre post w hl h
    match old, hl with
    | o :: old', hl =>
      have h1 := heap_setCell_same w b pre.length _ _ v h
      have e : (pre ++ o :: old' ++ post).toArray.setIfInBounds pre.length v = ((pre ++ [v]) ++ old' ++ post).toArray := by simp
      have h2 := ih old' (pre ++ [v]) post (w.setCell ⟨b, pre.length, none⟩ v) (by simpa using hl) (by rw [← e]; exact h1)
      rw [List.length_append, List.length_singleton] at h2
      rw [List.append_assoc pre [v] vs] at h2
      exact h2
theorem range_block {w : World} {b : Nat} {l : List Value} {t : TypeId} {fr : Nat × Nat} (h : w.heap[b]? = some (.cells l.toArray t fr)) : w.rangeAt b 0 l := fun j v hv => by
  simp [World.cell?, h, hv]
theorem there_block {w : World} {b : Nat} {l : List Value} {t : TypeId} (h : w.heap[b]? = some (.cells l.toArray t (0, 0))) (o n : Nat) (ho : o + n ≤ l.length) : w.there b o n := fun j hj => by
  refine ⟨?_, ?_⟩
  · have : o + j < l.length := by omega
    simp [World.cell?, h, this]
  · simp [World.frozen?, h]
theorem setCells_other (b k : Nat) (hk : k ≠ b) (vs : List Value) (w : World) (o : Nat) : (w.setCells b o vs).heap[k]? = w.heap[k]? := by
  rw [setCells_row]; exact setRow_block b k hk vs w o
theorem St.setCells {B : Nat} {w : World} {p : World → Prop} (h : St B w p) (b o : Nat) (hb : b < B) (vs : List Value) : St B (w.setCells b o vs) p := fun W hW => h W fun k h1 h2 => (hW k h1 (by rw [setCells_row, setRow_size]; exact h2)).trans (setCells_other b k (by omega) vs w o)
theorem rowZ_alloc (w : World) (l : List Value) (T : TypeId) : rowZ (w.alloc (.cells l.toArray T)) w.heap.size l.length := by
  have e : (w.alloc (.cells l.toArray T)).heap[w.heap.size]? = some (.cells l.toArray T) := heap_alloc_new w _
  refine ⟨fun t ht => ?_, fun t => ?_⟩
  · have := there_block e 0 l.length (by omega) t ht
    rw [Nat.zero_add] at this
    exact Option.isSome_iff_exists.1 this.1
  · unfold World.frozen?
    rw [e]
    simp
theorem lt_of_some {w : World} {g : Nat} {o : Obj} (hg : w.heap[g]? = some o) : g < w.heap.size := by
  rcases Nat.lt_or_ge g w.heap.size with h | h
  · exact h
  · rw [Array.getElem?_eq_none h] at hg; cases hg
/-- a row that the call made, as a slice of its own -/
theorem own_slice {w : World} {B n E sz : Nat} {v : Value} {xs : List Value} (ho : w.ownsRow B E sz v n xs) (hv : v ≠ .slice none 0 0) :
    ∃ g cap, v = .slice (some ⟨g, 0, none⟩) n cap ∧ B ≤ g ∧ g < w.heap.size ∧ n ≤ cap ∧ ∀ W : World, W.heap[g]? = w.heap[g]? → ∀ t, t < n * sz → W.cell? ⟨g, t, none⟩ = xs[t]? := by
  rcases ho.2 with ⟨e, _⟩ | ⟨g, cap, cur, hv', hb, hg, hcp, hmx, hsz, htk⟩
  · exact absurd e hv
  · refine ⟨g, cap, hv', hb, lt_of_some hg, hcp, fun W hW t ht => ?_⟩
    have hcur : cur[t]? = xs[t]? := by rw [← htk, List.getElem?_take_of_lt ht, Array.getElem?_toList]
    have e : W.heap[g]? = some (.cells cur E (0, 0)) := hW.trans hg
    rw [← hcur]
    simp [World.cell?, e]
theorem ownsB_bytes {w : World} {B : Nat} {v : Value} {l : List Nat} (h : ownsB w B v l) (hv : v ≠ .slice none 0 0) (hl : ∀ x ∈ l, x < 256) :
    ∃ g k, v = .slice (some ⟨g, 0, none⟩) l.length k ∧ B ≤ g ∧ g < w.heap.size ∧ St B w (fun W => isBytes W (some ⟨g, 0, none⟩) l.length k l) := by
  obtain ⟨g, cap, rfl, h1, h2, h3, h4⟩ := own_slice h hv
  refine ⟨g, cap, rfl, h1, h2, fun W hW => ⟨rfl, h3, hl, fun _ => ⟨g, 0, rfl, fun j hj => ?_⟩⟩⟩
  rw [Nat.zero_add, h4 W (hW g h1 h2) j (by omega), bv_at l j hj]
theorem take_snoc (l : List Nat) (k : Nat) (h : k < l.length) : l.take k ++ [l[k]] = l.take (k + 1) := by rw [List.take_succ_eq_append_getElem h]
theorem results_cell {fn : Func} {x : Tmp} {T : TypeId} (h : fn.results = #[.cell x T]) (tmps : Array Value) (w : World) (b : Nat) (V : Value) (h2 : tmps.getD x undef = .pointer (some ⟨b, 0, none⟩)) (hL : (loadVar T ⟨b, 0, none⟩).run Tryd.prog w = .ok V w) : (results fn tmps).run Tryd.prog w = .ok V w := by
  simp only [Array.getD_eq_getD_getElem?] at h2
  simp [results, h, h2, asAddr, hL]
theorem results_cell_tmp {fn : Func} {x y : Tmp} {T : TypeId} (h : fn.results = #[.cell x T, .tmp y]) (tmps : Array Value) (w : World) (b : Nat) (V : Value) (h2 : tmps.getD x undef = .pointer (some ⟨b, 0, none⟩)) (hL : (loadVar T ⟨b, 0, none⟩).run Tryd.prog w = .ok V w) : (results fn tmps).run Tryd.prog w = .ok (.tuple #[V, tmps.getD y undef]) w := by
  simp only [Array.getD_eq_getD_getElem?] at h2
  simp [results, h, h2, asAddr, hL]
/-- block b is a variable that holds the cells l -/
def blk (w : World) (b : Nat) (l : List Value) (T : TypeId) : Prop := w.heap[b]? = some (.cells l.toArray T (0, 0))
theorem blk.new (w : World) (l : List Value) (T : TypeId) : blk (w.alloc (.cells l.toArray T)) w.heap.size l T := heap_alloc_new w _
theorem blk.alloc {w : World} {b : Nat} {l : List Value} {T : TypeId} (h : blk w b l T) (o : Obj) : blk (w.alloc o) b l T := (Below.heap_alloc _ _ _ (lt_of_some h)).trans h
theorem blk.below {w w' : World} {b : Nat} {l : List Value} {T : TypeId} (h : blk w b l T) (hb : Below w.heap.size w w') : blk w' b l T := (hb.block _ (lt_of_some h)).trans h
theorem blk.lt {w : World} {b : Nat} {l : List Value} {T : TypeId} (h : blk w b l T) : b < w.heap.size := lt_of_some h
theorem blk.put {w : World} {b : Nat} {T : TypeId} (pre old post vs : List Value) (h : blk w b (pre ++ old ++ post) T) (hl : old.length = vs.length) : blk (w.setCells b pre.length vs) b (pre ++ vs ++ post) T := setCells_block b T vs old pre post w hl h
theorem blk.other {w : World} {b b' : Nat} {l : List Value} {T : TypeId} (h : blk w b l T) (hb : b ≠ b') (o : Nat) (vs : List Value) : blk (w.setCells b' o vs) b l T := (setCells_other b' b hb vs w o).trans h
theorem blk.load {w : World} {b : Nat} {l : List Value} {T : TypeId} (h : blk w b l T) : w.rangeAt b 0 l := range_block h
theorem blk.there {w : World} {b : Nat} {l : List Value} {T : TypeId} (h : blk w b l T) (o n : Nat) (ho : o + n ≤ l.length) : w.there b o n := there_block h o n ho
theorem blk.cell {w : World} {b : Nat} {l : List Value} {T : TypeId} (h : blk w b l T) (o : Nat) (v : Value) (ho : l[o]? = some v) : w.cell? ⟨b, o, none⟩ = some v := by
  have := range_block h o v ho
  simpa using this
theorem blk.free {w : World} {b : Nat} {l : List Value} {T : TypeId} (h : blk w b l T) (o : Nat) : w.frozen? ⟨b, o, none⟩ = false := by
  unfold World.frozen?
  rw [h]
  simp
theorem blk.kept {w w' : World} {b : Nat} {l : List Value} {T : TypeId} (h : blk w b l T) (he : w'.heap[b]? = w.heap[b]?) : blk w' b l T := he.trans h
theorem setCells_size (w : World) (b o : Nat) (vs : List Value) : (w.setCells b o vs).heap.size = w.heap.size := by rw [setCells_row, setRow_size]
theorem setCells_below {B b : Nat} (hB : B ≤ b) {w0 w : World} (o : Nat) (vs : List Value) (h : Below B w0 w) : Below B w0 (w.setCells b o vs) := by rw [setCells_row]; exact setRow_below b B hB w0 vs w o h
theorem sz29 : (Tryd.prog.info? 29).map (·.size) = some 5 := by kernel_rfl
theorem one5 (e : Bool) (i : Int) (r : Bool) (d : Int) (a : Option Addr) (n c : Nat) : (#[.bool e, .int .u32 i, .bool r, .int .i64 d, .slice a n c] : Array Value).all (·.oneCell') = true :=
  all_oneCell_toArray (by simp [Value.oneCell'])
theorem blk.loadAt {w : World} {b : Nat} (pre mid post : List Value) {T : TypeId} (h : blk w b (pre ++ mid ++ post) T) : w.rangeAt b pre.length mid := by
  intro j v hv
  have hj : j < mid.length := (List.getElem?_eq_some_iff.1 hv).1
  refine h.cell _ _ ?_
  rw [List.append_assoc, List.getElem?_append_right (by omega), Nat.add_sub_cancel_left, List.getElem?_append_left hj]
  exact hv
theorem blk.set {w : World} {b : Nat} {l : List Value} {T : TypeId} (h : blk w b l T) (o : Nat) (v : Value) : blk (w.setCell ⟨b, o, none⟩ v) b (l.set o v) T := by
  have := heap_setCell_same w b o _ _ v h
  simpa [blk] using this
theorem blk.setOther {w : World} {b b' : Nat} {l : List Value} {T : TypeId} (h : blk w b l T) (hb : b ≠ b') (o : Nat) (v : Value) : blk (w.setCell ⟨b', o, none⟩ v) b l T := h.other hb o [v]
/-- the blocks from B on that W has are the same in W' -/
structure Kp (B : Nat) (W W' : World) : Prop where
  same : ∀ b, B ≤ b → b < W.heap.size → W'.heap[b]? = W.heap[b]?
  size : W.heap.size ≤ W'.heap.size
theorem Kp.refl (B : Nat) (W : World) : Kp B W W := ⟨fun _ _ _ => rfl, Nat.le_refl _⟩
theorem Kp.below {B : Nat} {W W' W'' : World} (h : Kp B W W') (hb : Below W'.heap.size W' W'') : Kp B W W'' := ⟨fun b h1 h2 => (hb.block b (Nat.lt_of_lt_of_le h2 h.size)).trans (h.same b h1 h2), Nat.le_trans h.size hb.size⟩
theorem Kp.grown {B : Nat} {W W' W'' : World} {g : Nat} (h : Kp B W W') (hg : W'.grownBy W'' (some g)) (hw : W.heap.size ≤ g) : Kp B W W'' := ⟨fun b h1 h2 => (hg.block b (Nat.lt_of_lt_of_le h2 h.size) (by intro e; cases e; omega)).trans (h.same b h1 h2), Nat.le_trans h.size hg.size⟩
theorem Kp.set {B : Nat} {W W' : World} (h : Kp B W W') (b o : Nat) (hb : b < B) (v : Value) : Kp B W (W'.setCell ⟨b, o, none⟩ v) := ⟨fun k h1 h2 => (heap_setCell_other _ _ _ _ (by show k ≠ b; omega)).trans (h.same k h1 h2), by simpa using h.size⟩
theorem St.kp {B : Nat} {W W' : World} {p : World → Prop} (h : St B W p) (hk : Kp B W W') : St B W' p := fun V hV => h V fun k h1 h2 => (hV k h1 (Nat.lt_of_lt_of_le h2 hk.size)).trans (hk.same k h1 h2)
theorem wpList_load_midG {ops : Array Oper} {rest : List Oper} {op : Oper} {a : Act} {w : World} {Q : Exit → Act → World → Prop} (hw : Region.wanted op (yielded ops a.tmps) = true) (ty : TypeId) (x : Operand) (ho : op.op = .load ty x)
    (b o : Nat) (hx : a.eval x = .pointer (some ⟨b, o, none⟩)) (cs : List Value) (d : TypeDesc) (hc : w.rangeAt b o cs)
    (hu : Tryd.prog.underlying ty = some d) (hd : d.isRow = true) (hi : (Tryd.prog.info? ty).map (·.size) = some cs.length)
    (h : wpList Tryd.prog ops Q rest (a.put op.dst (.agg cs.toArray)) w) : wpList Tryd.prog ops Q (op :: rest) a w :=
  wpList_step fun K hK => by
    simp only [hw, if_true]
    exact wp_load_mid ty x ho b o hx cs d hc hu hd hi (hK _ _ h)
end Go.Proofs.YtjmlalojfghkiaaDoor
