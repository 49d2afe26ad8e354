import Derived.Test.YtjmlalojfghkiaaDoorR15
import Derived.Deep.RegionWith
namespace Go.Proofs.YtjmlalojfghkiaaDoor.J
open Go.RowKit
/-- the slice v holds the letters l -/
structure isBytes (w : World) (a : Option Addr) (n cap : Nat) (l : List Nat) : Prop where
  len : n = l.length
  cap : n ≤ cap
  small : ∀ x ∈ l, x < 256
  cells : l ≠ [] → ∃ g off, a = some ⟨g, off, none⟩ ∧ ∀ j (h : j < l.length), w.cell? ⟨g, off + j, none⟩ = some (.int .u8 (l[j] : Int))
theorem isBytes.below {w w' : World} {a : Option Addr} {n cap : Nat} {l : List Nat} (h : isBytes w a n cap l) (hb : Below w.heap.size w w') : isBytes w' a n cap l := by
  refine ⟨h.len, h.cap, h.small, fun hl => ?_⟩
  obtain ⟨g, off, ha, hc⟩ := h.cells hl
  refine ⟨g, off, ha, fun j hj => ?_⟩
  have h1 := hc j hj
  rw [hb.cell (World.block_lt_of_cell? w _ h1)]
  exact h1
theorem make_zero {ops : Array Oper} {rest : List Oper} {o : Oper} {a : Act} {Q : Exit → Act → World → Prop} (w : World)
    (hg : o.guard = none) (l c : Operand) (hop : o.op = Op.makeSlice 23 l c) (C : Int) (n : Nat) (hl : a.eval l = .int .i64 C) (hc : a.eval c = .int .i64 C) (hC : C = (n : Int)) (hn : n ≤ 100000000)
    (hK : ∀ w', rowB w' w.heap.size n (fun _ => 0) → w.grownBy w' none → w.heap.size < w'.heap.size → wpList Tryd.prog ops Q rest (a.put o.dst (.slice (some ⟨w.heap.size, 0, none⟩) n n)) w') :
    wpList Tryd.prog ops Q (o :: rest) a w := by
  obtain ⟨i0, hi, hz0, hz1, hz2⟩ := info_parts Tryd.info5
  refine wpList_make_full w hg l c 23 hop w.heap.size 5 i0 (.int .u8 0) 1 Tryd.underlying23 hi hz0 hz1 .i64 .i64 C C n hl hc hC hC (by rw [hz2]; omega) (by unfold maxLen; omega) (Nat.le_refl _) ?_
  intro w' ho hgr
  refine hK w' ⟨fun t ht => ?_, fun t ht => World.ownsRow.frozenAt ho t⟩ hgr (World.ownsRow.lt ho _ rfl).2
  rw [World.ownsRow.cellAt ho t (by omega)]
  have e : (madeCells (Value.int IntKind.u8 0).cells (n * 1)).toList = List.replicate (n * 1) (.int .u8 0) := toList_madeCells_one _ _
  rw [e, Nat.mul_one, List.getElem?_replicate, if_pos ht]
  rfl
theorem rowB.set' {w : World} {g n : Nat} {f f' : Nat → Nat} (h : rowB w g n f) (t0 : Nat) (ht0 : t0 < n) (x : Int) (hx : x = (f' t0 : Int)) (he : ∀ t, t < n → t ≠ t0 → f t = f' t) : rowB (w.setCell ⟨g, t0, none⟩ (.int .u8 x)) g n f' :=
  ⟨fun t ht => by have := (h.set t0 ht0 x hx he).cell t ht; rwa [World.cell?_drew] at this, fun t ht => by rw [World.frozen?_setCell]; exact h.free t ht⟩
theorem getD_at (l : List Nat) (k : Nat) (h : k < l.length) : l.getD k 0 = l[k] := by simp [List.getD, h]
set_option maxHeartbeats 1000000 in
theorem toByteS_any (w : World) (a : Option Addr) (n cap : Nat) (l : List Nat) (h : isBytes w a n cap l) (hn : n ≤ 1048576) :
    Calls Tryd.prog 48 #[.slice a n cap] w fun e w' => ∃ g, e = .returned (.slice (some ⟨g, 0, none⟩) n n) ∧ isBytes w' (some ⟨g, 0, none⟩) n n l ∧ Below w.heap.size w w' ∧ w.heap.size ≤ g ∧ g < w'.heap.size := by
  have hlen := h.len
  have hcp := h.cap
  by_cases hl : l = []
  · subst hl
    have hn0 : n = 0 := hlen
    subst hn0
    have HS : Hid (∀ x ∈ ([] : List Nat), x < 256) := h.small
    clear hlen h
    go_enter Tryd.func48, Tryd.ntmps48
    go_wp2_with (first | (at_make; refine make_zero _ rfl (.tmp 6) (.tmp 6) rfl _ 0 rfl rfl rfl (by omega) ?_; intro w1 hrow hg1 hz1))
    go_loopw [4] (fun i wr => i = .int .i64 0 ∧ Below w.heap.size w wr ∧ w.heap.size < wr.heap.size) (fun _ _ => 0)
    case atStart => exact ⟨rfl, (Below.refl _ _).grown hg1 (Nat.le_refl _) (by intro k e; cases e), hz1⟩
    case round =>
      obtain ⟨rfl, hb, hz⟩ := hrel
      go_wp2
      go_ret
      exact ⟨_, rfl, ⟨rfl, Nat.le_refl _, HS.out, fun e => absurd rfl e⟩, hb, Nat.le_refl _, hz⟩
  · obtain ⟨g, off, rfl, hc⟩ := h.cells hl
    have hgz : g < w.heap.size := World.block_lt_of_cell? w _ (hc 0 (by have := List.length_pos_iff.2 hl; omega))
    have hsm := h.small
    have HL : Hid (n = l.length) := hlen
    have hn1 : n ≤ l.length := by omega
    have hn2 : l.length ≤ n := by omega
    clear h hlen
    go_enter Tryd.func48, Tryd.ntmps48
    go_wp2_with (first | (at_make; refine make_zero _ rfl (.tmp 6) (.tmp 6) rfl _ n rfl rfl rfl (by omega) ?_; intro w1 hrow hg1 hz1))
    go_loopw [4] (fun i wr => ∃ k : Nat, k ≤ n ∧ i = .int .i64 k ∧ rowB wr w.heap.size n (fun t => if t < k then l.getD t 0 else 0) ∧ Below w.heap.size w wr ∧ w.heap.size < wr.heap.size) (fun i _ => n - (intOf i).toNat)
    case atStart => exact ⟨0, Nat.zero_le _, rfl, hrow.of (fun t _ => by simp), (Below.refl _ _).grown hg1 (Nat.le_refl _) (by intro k e; cases e), hz1⟩
    case round =>
      clear hrow hz1
      obtain ⟨k, hk, rfl, hrow, hb, hz⟩ := hrel
      by_cases hlt : k < n
      · have hcx : wr.cell? ⟨g, off + k, none⟩ = some (.int .u8 (l[k] : Int)) := (hb.cell (by exact hgz)).trans (hc k (by omega))
        have hcy := hrow.cell k hlt
        have hfy := hrow.free k hlt
        have HG : Hid (l.getD k 0 = l[k]) := getD_at l k (by omega)
        generalize l[k] = x at *
        have hne : ¬ w.heap.size = g := by omega
        go_wp2
        go_roundw
        case rel =>
          refine ⟨k + 1, by omega, by go_num, hrow.set' k hlt _ ?_ ?_, hb.setCell (by exact Nat.le_refl _) _, by simpa using hz⟩
          · rw [if_pos (Nat.lt_succ_self k), HG.out]
          · intro t _ hne'
            by_cases h1 : t < k
            · rw [if_pos h1, if_pos (by omega)]
            · rw [if_neg h1, if_neg (by omega)]
        case measure => simp [intOf]; omega
      · go_wp2
        go_ret
        refine ⟨_, rfl, ⟨HL.out, Nat.le_refl _, hsm, fun _ => ⟨_, 0, rfl, fun j hj => ?_⟩⟩, hb, Nat.le_refl _, hz⟩
        have := hrow.cell j (by omega)
        rw [Nat.zero_add, this, if_pos (by omega), getD_at l j hj]
abbrev frV (e : Bool) (i : Nat) (r : Bool) (d : Int) (a : Option Addr) (n cap : Nat) : Value := .agg #[.bool e, .int .u32 (i : Int), .bool r, .int .i64 d, .slice a n cap]
abbrev frC (e : Bool) (i : Nat) (r : Bool) (d : Int) (a : Option Addr) (n cap : Nat) (T : TypeId) : Obj := .cells #[.bool e, .int .u32 (i : Int), .bool r, .int .i64 d, .slice a n cap] T
def dl (r : Bool) (d : Int) : Int := if r = true then 0 else if 8 < d then 8 else d
theorem specDataLen_any (w : World) (e : Bool) (i : Nat) (r : Bool) (d : Int) (a : Option Addr) (n cap : Nat) :
    Calls Tryd.prog 80 #[frV e i r d a n cap] w fun o w' => o = .returned (.int .i64 (dl r d)) ∧ w.alloc (frC e i r d a n cap 29) = w' := by
  cases r
  · by_cases h8 : 8 < d
    · have HD : Hid (dl false d = 8) := by simp [dl, h8, Hid]
      go_enter Tryd.func80, Tryd.ntmps80
      go_wp2
      go_ret
      exact ⟨ret_int HD.out.symm, rfl⟩
    · have HD : Hid (dl false d = d) := by simp [dl, h8, Hid]
      go_enter Tryd.func80, Tryd.ntmps80
      go_wp2
      go_ret
      exact ⟨ret_int HD.out.symm, rfl⟩
  · go_enter Tryd.func80, Tryd.ntmps80
    go_wp2
    go_ret
    exact ⟨rfl, rfl⟩
theorem dataLen_any (w : World) (e : Bool) (i : Nat) (r : Bool) (d : Int) (a : Option Addr) (n cap : Nat) :
    Calls Tryd.prog 88 #[frV e i r d a n cap] w fun o w' => o = .returned (.int .i64 (dl r d)) ∧ w.alloc (frC e i r d a n cap 29) = w' := by
  cases r
  · by_cases h8 : 8 < d
    · have HD : Hid (dl false d = 8) := by simp [dl, h8, Hid]
      go_enter Tryd.func88, Tryd.ntmps88
      go_wp2
      go_ret
      exact ⟨ret_int HD.out.symm, rfl⟩
    · have HD : Hid (dl false d = d) := by simp [dl, h8, Hid]
      go_enter Tryd.func88, Tryd.ntmps88
      go_wp2
      go_ret
      exact ⟨ret_int HD.out.symm, rfl⟩
  · go_enter Tryd.func88, Tryd.ntmps88
    go_wp2
    go_ret
    exact ⟨rfl, rfl⟩
/-- a frame that the wire can carry -/
def validB (e : Bool) (i : Nat) (r : Bool) (d : Int) (n : Nat) : Bool :=
  (if e = true then decide (i < 536870912) else decide (i < 2048)) && decide (0 ≤ d) && decide (d ≤ 15) && ((n : Int) == dl r d)
theorem validB_id (e : Bool) (i : Nat) (r : Bool) (d : Int) (n : Nat) (h : (if e = true then decide (i < 536870912) else decide (i < 2048)) = false) : validB e i r d n = false := by
  unfold validB; rw [h]; rfl
theorem validB_d (e : Bool) (i : Nat) (r : Bool) (d : Int) (n : Nat) (h : ¬ (0 ≤ d ∧ d ≤ 15)) : validB e i r d n = false := by
  unfold validB
  by_cases h1 : 0 ≤ d
  · have h2 : ¬ d ≤ 15 := by omega
    simp [h2]
  · simp [h1]
theorem validB_n (e : Bool) (i : Nat) (r : Bool) (d : Int) (n : Nat) (h : (if e = true then decide (i < 536870912) else decide (i < 2048)) = true) (h0 : 0 ≤ d) (h1 : d ≤ 15) : validB e i r d n = ((n : Int) == dl r d) := by
  unfold validB; rw [h]; simp [h0, h1]
set_option maxHeartbeats 1000000 in
set_option maxRecDepth 100000 in
theorem specValid_any (w : World) (e : Bool) (i : Nat) (r : Bool) (d : Int) (a : Option Addr) (n cap : Nat) :
    Calls Tryd.prog 82 #[frV e i r d a n cap] w fun o w' => o = .returned (.bool (validB e i r d n)) ∧ Below w.heap.size w w' := by
  by_cases hid : (if e = true then decide (i < 536870912) else decide (i < 2048)) = true
  · by_cases h0 : 0 ≤ d
    · by_cases h1 : d ≤ 15
      · have HV : Hid (validB e i r d n = ((n : Int) == dl r d)) := validB_n e i r d n hid h0 h1
        cases e
        · have hid' : (i : Int) < 2048 := by simp at hid; omega
          clear hid
          go_enter Tryd.func82, Tryd.ntmps82
          go_wp2
          go_region_with (go_at_call 80; refine (specDataLen_any _ _ _ _ _ _ _ _).mono ?_; rintro o w1 ⟨rfl, rfl⟩)
          all_goals
            go_wp2
            go_ret
            exact ⟨ret_bool HV.out.symm, (((Below.refl _ _).alloc (Nat.le_refl _) _).alloc (by simp) _).drew⟩
        · have hid' : decide ((536870912 : Int) ≤ (i : Int)) = false := by simp at hid; simp; omega
          clear hid
          go_enter Tryd.func82, Tryd.ntmps82
          go_wp2
          go_region_with (go_at_call 80; refine (specDataLen_any _ _ _ _ _ _ _ _).mono ?_; rintro o w1 ⟨rfl, rfl⟩)
          all_goals
            go_wp2
            go_ret
            exact ⟨ret_bool HV.out.symm, (((Below.refl _ _).alloc (Nat.le_refl _) _).alloc (by simp) _).drew⟩
      · have HV : Hid (validB e i r d n = false) := validB_d e i r d n (by omega)
        cases e
        · have hid' : (i : Int) < 2048 := by simp at hid; omega
          clear hid
          go_enter Tryd.func82, Tryd.ntmps82
          go_wp2
          go_ret
          exact ⟨ret_bool HV.out.symm, (Below.refl _ _).alloc (Nat.le_refl _) _⟩
        · have hid' : decide ((536870912 : Int) ≤ (i : Int)) = false := by simp at hid; simp; omega
          clear hid
          go_enter Tryd.func82, Tryd.ntmps82
          go_wp2
          go_ret
          exact ⟨ret_bool HV.out.symm, (Below.refl _ _).alloc (Nat.le_refl _) _⟩
    · have HV : Hid (validB e i r d n = false) := validB_d e i r d n (by omega)
      cases e
      · have hid' : (i : Int) < 2048 := by simp at hid; omega
        clear hid
        go_enter Tryd.func82, Tryd.ntmps82
        go_wp2
        go_ret
        exact ⟨ret_bool HV.out.symm, (Below.refl _ _).alloc (Nat.le_refl _) _⟩
      · have hid' : decide ((536870912 : Int) ≤ (i : Int)) = false := by simp at hid; simp; omega
        clear hid
        go_enter Tryd.func82, Tryd.ntmps82
        go_wp2
        go_ret
        exact ⟨ret_bool HV.out.symm, (Below.refl _ _).alloc (Nat.le_refl _) _⟩
  · have HV : Hid (validB e i r d n = false) := validB_id e i r d n (by rw [← Bool.not_eq_true]; exact hid)
    cases e
    · have hid' : (2048 : Int) ≤ (i : Int) := by simp at hid; omega
      clear hid
      go_enter Tryd.func82, Tryd.ntmps82
      go_wp2
      go_ret
      exact ⟨ret_bool HV.out.symm, (Below.refl _ _).alloc (Nat.le_refl _) _⟩
    · have hid' : decide ((536870912 : Int) ≤ (i : Int)) = true := by simp at hid; simp; omega
      clear hid
      go_enter Tryd.func82, Tryd.ntmps82
      go_wp2
      go_ret
      exact ⟨ret_bool HV.out.symm, (Below.refl _ _).alloc (Nat.le_refl _) _⟩
theorem convB {w : World} {a : Option Addr} {n cap : Nat} {l : List Nat} (h : isBytes w a n cap l) : (convert 23 9 (.slice a n cap)).run Tryd.prog w = .ok (.string (strN l)) w := by
  obtain ⟨rfl, hcap, hsm, hc⟩ := h
  by_cases hl : l = []
  · subst hl
    cases a with
    | none =>
      rw [run_convert_bytes_string w 23 9 5 none _ cap Tryd.underlying23 Tryd.underlying5 Tryd.underlying9]
      rfl
    | some a =>
      have := run_convert_bytes_back (P := Tryd.prog) w 23 9 5 a cap [] Tryd.underlying23 Tryd.underlying5 Tryd.underlying9 (by intro j hj; simp at hj)
      exact this
  · obtain ⟨g, off, rfl, hcc⟩ := hc hl
    have := run_convert_bytes_back (P := Tryd.prog) w 23 9 5 ⟨g, off, none⟩ cap (l.map UInt8.ofNat) Tryd.underlying23 Tryd.underlying5 Tryd.underlying9 (by
      intro j hj
      have hj' : j < l.length := by simpa using hj
      have hc := hcc j hj'
      have hx := hsm l[j] (List.getElem_mem hj')
      have e : (UInt8.ofNat l[j]).toNat = l[j] := by simp; omega
      have e2 : (⟨g, off, none⟩ : Addr).add j = ⟨g, off + j, none⟩ := by simp only [Addr.add]; split <;> simp_all
      rw [e2, List.getElem_map, e]
      exact hc)
    rw [List.length_map] at this
    exact this
theorem strN_inj {l m : List Nat} (hl : ∀ x ∈ l, x < 256) (hm : ∀ x ∈ m, x < 256) (h : l.map UInt8.ofNat = m.map UInt8.ofNat) : l = m := by
  have key : ∀ l : List Nat, (∀ x ∈ l, x < 256) → (l.map UInt8.ofNat).map UInt8.toNat = l := by
    intro l hl
    rw [List.map_map]
    conv => rhs; rw [← List.map_id l]
    apply List.map_congr_left
    intro x hx
    have := hl x hx
    simp; omega
  rw [← key l hl, ← key m hm, h]
def zeroRow (k : Nat) : Array Value := madeCells #[.int .u8 0] k
theorem zeroRow_at (k t : Nat) (h : t < k) : (zeroRow k)[t]? = some (.int .u8 0) := by
  have := toList_madeCells_one (.int .u8 0) k
  unfold zeroRow
  rw [← Array.getElem?_toList, this, List.getElem?_replicate, if_pos h]
theorem mkz (w : World) (k : Nat) (hk : k ≤ 100000000) : (Instr.makeSlice 23 (.int .i64 (k : Int)) (.int .i64 (k : Int))).run Tryd.prog w = .ok (.slice (some ⟨w.heap.size, 0, none⟩) k k) (w.alloc (.cells (zeroRow k) 5)) := by
  obtain ⟨i0, hi, hz0, hz1, hz2⟩ := info_parts Tryd.info5
  have hr := run_make (P := Tryd.prog) w 23 5 i0 (.int .u8 0) Tryd.underlying23 hi hz0 .i64 .i64 k k (by omega) (Int.le_refl _) (by rw [hz2]; omega) (by omega)
  simp only [Int.toNat_natCast, hz1, Nat.mul_one] at hr
  exact hr
theorem isBytes_zero (w : World) (k : Nat) : isBytes (w.alloc (.cells (zeroRow k) 5)) (some ⟨w.heap.size, 0, none⟩) k k (List.replicate k 0) := by
  refine ⟨by simp, Nat.le_refl _, fun x hx => by rw [List.mem_replicate] at hx; rw [hx.2]; decide, fun _ => ⟨_, 0, rfl, fun j hj => ?_⟩⟩
  have hj' : j < k := by simpa using hj
  have h1 : (w.alloc (.cells (zeroRow k) 5)).cell? ⟨w.heap.size, 0 + j, none⟩ = (zeroRow k)[0 + j]? := World.cell?_alloc_mark w (zeroRow k) 5 (0, 0) (0 + j)
  rw [h1, Nat.zero_add, zeroRow_at k j hj']
  simp
theorem isBytes_zero' (w : World) (k b : Nat) (hb : w.heap.size = b) : isBytes (w.alloc (.cells (zeroRow k) 5)) (some ⟨b, 0, none⟩) k k (List.replicate k 0) := by
  subst hb; exact isBytes_zero w k
theorem dl_bounds (r : Bool) (d : Int) (h0 : 0 ≤ d) : 0 ≤ dl r d ∧ dl r d ≤ 8 := by
  unfold dl; split
  · omega
  · split <;> omega
end Go.Proofs.YtjmlalojfghkiaaDoor.J
