import Derived.Test.YtpknchjjfiiaeaaGreatDoorV09
import Derived.Deep.RegionHeld3
namespace Go.Proofs.YtpknchjjfiiaeaaGreatDoor.J
open Go.RowKit
def Wk.keep1 (k : Wk) (bit : Nat) : Wk := if k.field ≤ 9 then { k with sum := M.stepN k.sum bit } else k
def Wk.keep (k : Wk) (bit : Nat) : Wk :=
  if k.field = 2 ∨ k.field = 5 then { k.keep1 bit with id := 2 * k.id + bit }
  else if k.field = 3 ∨ k.field = 6 then { k.keep1 bit with rtr := decide (bit = 1) }
  else if k.field = 4 then { k.keep1 bit with ext := decide (bit = 1) }
  else if k.field = 8 then { k.keep1 bit with dlc := 2 * k.dlc + bit }
  else if k.field = 9 then { k.keep1 bit with data := keepD k.data k.taken bit }
  else if k.field = 10 then { k.keep1 bit with crc := 2 * k.crc + bit }
  else k.keep1 bit
def Wk.adv (k : Wk) : Wk := if k.taken + 1 = k.fsize k.field then { k with field := k.fafter k.field, taken := 0 } else { k with taken := k.taken + 1 }
theorem ownsB.below {w w1 : World} {B : Nat} {v : Value} {l : List Nat} (h : ownsB w B v l) (hb : Below w.heap.size w w1) : ownsB w1 B v l :=
  h.otherBlock (fun g hg => hb.block g (World.ownsRow.lt h g hg).2)
/-- the bounds that the walk's own numbers keep -/
structure wkOk (k : Wk) : Prop where
  run : k.last.2 ≤ 50000
  sum : k.sum < 32768
  id : k.id < 1073741824
  dlc : k.dlc ≤ 400
  crc : k.crc < 400000
  taken : k.taken ≤ 1000
  field : k.field ≤ 100
  data : k.field = 9 → k.data.length ≤ 1000 ∧ (¬ k.taken % 8 = 0 → k.data ≠ []) ∧ (∀ x ∈ k.data, x < 256)
def Wk.heard (k : Wk) (c : Nat) : Wk := { k with last := M.hear k.last c }
/-- one letter taken: the walk behind it, the code -/
def Wk.take (k : Wk) (c : Nat) : Wk × Nat :=
  if k.due = true ∧ c = k.last.1 then (k, 3)
  else if k.due = true then (k.heard c, 0)
  else (((k.heard c).keep (c - 48)).adv, (k.heard c).plainCode (c - 48))
/-- what holds of every walk that goes on -/
structure Wk.Inv (k : Wk) : Prop where
  f1 : 1 ≤ k.field
  f2 : k.field ≤ 14
  tk : k.taken < k.fsize k.field
  sm : k.sum < 32768
  idb : k.id < 2 ^ (if k.field = 1 then 0 else if k.field = 2 then k.taken else if k.field ≤ 4 then 11 else if k.field = 5 then 11 + k.taken else 29)
  dlb : k.dlc < 2 ^ (if k.field < 8 then 0 else if k.field = 8 then k.taken else 4)
  crb : k.crc < 2 ^ (if k.field < 10 then 0 else if k.field = 10 then k.taken else 15)
  dan : k.field < 9 → k.data = []
  dat : k.field = 9 → k.data.length = (k.taken + 7) / 8
  dal : k.data.length ≤ 8
  das : ∀ x ∈ k.data, x < 256
theorem dlen_le (k : Wk) : k.dlen ≤ 8 := by unfold Wk.dlen; split <;> omega
theorem fsize_le (k : Wk) (f : Nat) : k.fsize f ≤ 64 := by
  have := dlen_le k
  unfold Wk.fsize
  (repeat' split) <;> omega
theorem pow_le29 (n : Nat) (h : n ≤ 29) : 2 ^ n ≤ 536870912 := Nat.le_trans (Nat.pow_le_pow_right (by decide) h) (by decide)
theorem Wk.Inv.ok {k : Wk} (h : k.Inv) (hr : k.last.2 ≤ 50000) : wkOk k := by
  have ht := fsize_le k k.field
  have ht2 := h.tk
  refine ⟨hr, h.sm, ?_, ?_, ?_, by omega, by have := h.f2; omega, fun h9 => ⟨by have := h.dal; omega, ?_, h.das⟩⟩
  · refine Nat.lt_of_lt_of_le h.idb (Nat.le_trans (pow_le29 _ ?_) (by decide))
    have h3 := h.f2
    split
    · omega
    · split
      · rename_i h2
        rw [h2] at ht2
        have : k.fsize 2 = 11 := rfl
        omega
      · split
        · omega
        · split
          · rename_i h5
            rw [h5] at ht2
            have : k.fsize 5 = 18 := rfl
            omega
          · omega
  · have hb := h.dlb
    refine Nat.le_of_lt_succ (Nat.lt_of_lt_of_le hb ?_)
    split
    · decide
    · split
      · rename_i h8
        rw [h8] at ht2
        have : k.fsize 8 = 4 := rfl
        exact Nat.le_trans (Nat.pow_le_pow_right (by decide) (show k.taken ≤ 4 by omega)) (by decide)
      · decide
  · have hb := h.crb
    refine Nat.lt_of_lt_of_le hb ?_
    split
    · decide
    · split
      · rename_i h10
        rw [h10] at ht2
        have : k.fsize 10 = 15 := rfl
        exact Nat.le_trans (Nat.pow_le_pow_right (by decide) (show k.taken ≤ 15 by omega)) (by decide)
      · decide
  · intro h8 e
    have := h.dat h9
    rw [e] at this
    simp at this
    omega
def goesOnB (c : Nat) : Bool := decide (c = 0 ∨ c = 1)
/-- the walk over the letters, from k on -/
def Wk.over : Wk → List Nat → Wk
  | k, [] => k
  | k, c :: cs => if goesOnB (k.take c).2 = true then Wk.over { (k.take c).1 with code := (k.take c).2 } cs
      else if cs = [] then { (k.take c).1 with code := (k.take c).2 } else { (k.take c).1 with code := 7 }
/-- the walk as a value -/
def Wk.val (k : Wk) (v : Value) : Value :=
  .agg #[.int .i64 (k.field : Int), .int .i64 (k.taken : Int), .int .i32 (k.last.1 : Int), .int .i64 (k.last.2 : Int), .int .i64 (k.sum : Int), .int .i64 (k.crc : Int), .bool k.ext, .int .u32 (k.id : Int), .bool k.rtr, .int .i64 (k.dlc : Int), v, .int .i64 (k.code : Int)]
def Wk.zero : Wk := ⟨0, 0, (0, 0), 0, 0, false, 0, false, 0, [], 0⟩
theorem own_none (w : World) (B : Nat) : ownsB w B (.slice none 0 0) [] := ⟨rfl, .inl ⟨rfl, rfl⟩⟩
/-- the number that letters stand for -/
def valStep (v c : Nat) : Nat := 2 * v + (if c = 49 then 1 else 0)
def valL (l : List Nat) : Nat := l.foldl valStep 0
theorem valL_snoc (l : List Nat) (c : Nat) : valL (l ++ [c]) = valStep (valL l) c := by unfold valL; rw [List.foldl_append]; rfl
/-- where the plain letters' head ends, and where their body ends -/
def layH (l : List Nat) : Nat := if l.getD 13 0 = 49 then 39 else 19
def layR (l : List Nat) : Bool := if l.getD 13 0 = 49 then decide (l.getD 32 0 = 49) else decide (l.getD 12 0 = 49)
def layN (l : List Nat) : Nat := if layR l = true then 0 else min (valL ((l.drop (layH l - 4)).take 4)) 8
def layL (l : List Nat) : Nat × Nat :=
  if l.length < 14 then (0, 0) else if l.length < layH l then (layH l, 0) else (layH l, layH l + 8 * layN l)
theorem isBytes.at {w : World} {g off n cap : Nat} {l : List Nat} (h : isBytes w (some ⟨g, off, none⟩) n cap l) (i : Nat) (hi : i < l.length) : w.cell? ⟨g, off + i, none⟩ = some (.int .u8 (l.getD i 0 : Nat)) := by
  obtain ⟨g', off', e, hcc⟩ := h.cells (by intro e; rw [e] at hi; simp at hi)
  cases e
  have e : l.getD i 0 = l[i] := by simp [hi]
  rw [e]
  exact hcc i hi
/-- the field of the plain letter behind these -/
def fieldL (l : List Nat) : Nat :=
  if l.length = 0 then 1 else if l.length < 12 then 2 else if l.length = 12 then 3 else if l.length = 13 then 4
  else if l.length < (layL l).1 then
    (if (layL l).1 ≤ l.length + 4 then 8 else if (layL l).1 = 19 then 7 else if l.length < 32 then 5 else if l.length = 32 then 6 else 7)
  else if l.length < (layL l).2 then 9 else if l.length < (layL l).2 + 15 then 10 else if l.length < (layL l).2 + 18 then l.length - (layL l).2 - 4
  else if l.length < (layL l).2 + 25 then 14 else 15
/-- the fifteen letters behind place e are the sum of those ahead of it -/
def crcOkL (l : List Nat) : Bool := decide (¬ ((layL l).2 = 0 ∨ l.length < (layL l).2 + 15)) && decide (crcZ (strN (l.take (layL l).2)) = (valL ((l.drop (layL l).2).take 15) : Nat))
/-- the verdict on one more plain letter -/
def lookL (l : List Nat) (c : Nat) : Nat :=
  if fieldL l = 1 then (if c = 49 then 4 else 0) else if fieldL l = 11 then (if c = 48 then 4 else 0)
  else if fieldL l = 13 then (if c = 48 then 4 else if crcOkL l = false then 5 else 0)
  else if fieldL l = 14 then (if l.length < (layL l).2 + 24 then (if c = 48 then 4 else if l.length = (layL l).2 + 23 then 1 else 0)
    else if l.length = (layL l).2 + 24 then (if c = 48 then 6 else 2) else 0)
  else 0
theorem ownsB.lower {w : World} {B B' : Nat} {v : Value} {l : List Nat} (h : ownsB w B v l) (hB : B' ≤ B) : ownsB w B' v l := by
  obtain ⟨h1, h2 | ⟨g, cap, cur, rfl, hb, rest⟩⟩ := h
  · exact ⟨h1, .inl h2⟩
  · exact ⟨h1, .inr ⟨g, cap, cur, rfl, Nat.le_trans hB hb, rest⟩⟩
/-- what stands behind the stores into the result's block -/
structure endF (w0 : World) (B g : Nat) (v : Value) (l : List Nat) (W : World) : Prop where
  own : ownsB W B v l
  blk : ∃ cs, W.heap[g]? = some (.cells cs 33 (0, 0))
  bel : Below B w0 W
  le : B ≤ g
theorem endF.set {w0 : World} {B g : Nat} {v : Value} {l : List Nat} {W : World} (h : endF w0 B g v l W) (j : Nat) (x : Value) : endF w0 B g v l (W.setCell ⟨g, j, none⟩ x) := by
  obtain ⟨cs, hc⟩ := h.blk
  refine ⟨h.own.otherBlock (fun i hi => heap_setCell_other W ⟨g, j, none⟩ i x (fun e => ?_)), ⟨_, heap_setCell_same W g j _ _ x hc⟩, h.bel.setCell (by exact h.le) x, h.le⟩
  obtain ⟨c, fz, hc2⟩ := h.own.kind i hi
  have e' : i = g := e
  rw [e', hc] at hc2
  cases hc2
theorem endF.drew {w0 : World} {B g : Nat} {v : Value} {l : List Nat} {W : World} (h : endF w0 B g v l W) : endF w0 B g v l W.drew := by
  obtain ⟨cs, hc⟩ := h.blk
  exact ⟨h.own.otherBlock (fun _ _ => rfl), ⟨cs, hc⟩, h.bel.drew, h.le⟩
/-- a source of choices in block b: the bytes, how many were taken, the state -/
def srcAt (W : World) (b : Nat) (a : Option Addr) (n cap : Nat) (i s : Nat) : Prop := W.heap[b]? = some (.cells #[.slice a n cap, .int .i64 (i : Int), .int .u64 (s : Int)] 103 (0, 0))
theorem srcAt.cells {W : World} {b : Nat} {a : Option Addr} {n cap i s : Nat} (h : srcAt W b a n cap i s) :
    W.cell? ⟨b, 0, none⟩ = some (.slice a n cap) ∧ W.cell? ⟨b, 1, none⟩ = some (.int .i64 (i : Int)) ∧ W.cell? ⟨b, 2, none⟩ = some (.int .u64 (s : Int)) ∧ W.frozen? ⟨b, 1, none⟩ = false ∧ W.frozen? ⟨b, 2, none⟩ = false := by
  unfold srcAt at h
  refine ⟨?_, ?_, ?_, ?_, ?_⟩ <;> simp [World.cell?, World.frozen?, h]
theorem srcRes (z : Int) (k : Nat) (hk : 1 < k) (hk2 : k ≤ 1000000000) : ∃ r : Nat, wrap64 ((IntKind.u64.wrap z / 8589934592).tmod (k : Int)) = (r : Int) ∧ r < k := by
  obtain ⟨s, hs⟩ : ∃ s : Nat, IntKind.u64.wrap z / 8589934592 = (s : Int) ∧ s < 2147483648 := ⟨(IntKind.u64.wrap z / 8589934592).toNat, by rw [IntKind.wrap_u64]; omega⟩
  refine ⟨s % k, ?_, Nat.mod_lt _ (by omega)⟩
  rw [hs.1]
  have h1 : ((s : Int)).tmod (k : Int) = ((s % k : Nat) : Int) := by
    rw [Int.tmod_eq_emod_of_nonneg (by omega)]; omega
  have h2 : s % k < k := Nat.mod_lt _ (by omega)
  rw [h1]
  generalize s % k = y at *
  unfold wrap64
  omega
theorem u64_toNat (z : Int) : IntKind.u64.wrap z = ((IntKind.u64.wrap z).toNat : Int) := by rw [IntKind.wrap_u64]; omega
theorem src_set {W : World} {b : Nat} {a : Option Addr} {n cap i s s' : Nat} {x y : Int} (q : Nat) (h : srcAt W b a n cap i s) (hx : x = ((i + 1 : Nat) : Int)) (hy : y = (s' : Int)) :
    srcAt (((W.drewN q).setCell ⟨b, 1, none⟩ (.int .i64 x)).setCell ⟨b, 2, none⟩ (.int .u64 y)) b a n cap (i + 1) s' ∧ W.grownBy (((W.drewN q).setCell ⟨b, 1, none⟩ (.int .i64 x)).setCell ⟨b, 2, none⟩ (.int .u64 y)) (some b) := by
  subst hx hy
  have h0 : (W.drewN q).heap[b]? = some (.cells #[.slice a n cap, .int .i64 (i : Int), .int .u64 (s : Int)] 103 (0, 0)) := h
  have h1 := heap_setCell_same _ b 1 _ _ (Value.int IntKind.i64 ((i + 1 : Nat) : Int)) h0
  have h2 := heap_setCell_same _ b 2 _ _ (Value.int IntKind.u64 (s' : Int)) h1
  have hg0 : W.grownBy (W.drewN q) (some b) := ⟨rfl, rfl, rfl, Nat.le_refl _, fun _ _ _ => rfl⟩
  refine ⟨?_, gb_set (gb_set hg0 1 _) 2 _⟩
  unfold srcAt
  rw [h2]
  simp
set_option maxHeartbeats 2000000 in
theorem srcN_any (w : World) (b : Nat) (a : Option Addr) (n cap i s : Nat) (l : List Nat) (k : Nat) (h : srcAt w b a n cap i s) (hy : isBytes w a n cap l) (hi : i ≤ 1000000000000) (hk : k ≤ 1000000000) :
    Calls Tryz.prog 23 #[.pointer (some ⟨b, 0, none⟩), .int .i64 (k : Int)] w fun o w' => ∃ r s' : Nat, o = .returned (.int .i64 (r : Int)) ∧ (k ≤ 1 → r = 0) ∧ (1 < k → r < k) ∧ srcAt w' b a n cap (i + 1) s' ∧ w.grownBy w' (some b) := by
  obtain ⟨c0, c1, c2, f1, f2⟩ := h.cells
  have HS : Hid (srcAt w b a n cap i s) := h
  clear h
  by_cases hin : i < n
  · have hl : l ≠ [] := by intro e; have := hy.len; rw [e] at this; simp at this; omega
    obtain ⟨g, off, rfl, hc⟩ := hy.cells hl
    have hil : i < l.length := by have := hy.len; omega
    have hcx := hc i hil
    have hx := hy.small l[i] (List.getElem_mem _)
    generalize l[i] = x at *
    have hin' : decide ((i : Int) < (n : Int)) = true := by simp; omega
    clear hy hc hl
    by_cases h1 : k ≤ 1
    · have h1' : (k : Int) ≤ 1 := by omega
      go_enter Tryz.func23, Tryz.ntmps23
      go_wp2
      go_quiet (fail)
      go_wp2
      go_quiet (fail)
      go_wp2
      go_ret
      have hp := fun q y s' hy => src_set (x := (i : Int) + 1) (y := y) (s' := s') q HS.out (by omega) hy
      exact ⟨0, _, rfl, fun _ => rfl, fun hh => absurd hh (by omega), (hp _ _ _ (u64_toNat _)).1, (hp _ _ _ (u64_toNat _)).2⟩
    · have h1' : (1 : Int) < (k : Int) := by omega
      go_enter Tryz.func23, Tryz.ntmps23
      go_wp2
      go_quiet (fail)
      go_wp2
      go_quiet (fail)
      go_wp2
      go_ret
      have hp := fun q y s' hy => src_set (x := (i : Int) + 1) (y := y) (s' := s') q HS.out (by omega) hy
      obtain ⟨r, hr, hrk⟩ := srcRes (IntKind.u64.wrap (IntKind.u64.wrap (IntKind.u64.wrap ((s : Int) + (x : Int)) + 1) * 6364136223846793005) + 1442695040888963407) k (by omega) hk
      exact ⟨r, _, ret_int hr, fun hh => absurd hh (by omega), fun _ => hrk, (hp _ _ _ (u64_toNat _)).1, (hp _ _ _ (u64_toNat _)).2⟩
  · have hin' : decide ((i : Int) < (n : Int)) = false := by simp; omega
    by_cases h1 : k ≤ 1
    · have h1' : (k : Int) ≤ 1 := by omega
      go_enter Tryz.func23, Tryz.ntmps23
      go_wp2
      go_quiet (fail)
      go_wp2
      go_ret
      have hp := fun q y s' hy => src_set (x := (i : Int) + 1) (y := y) (s' := s') q HS.out (by omega) hy
      exact ⟨0, _, rfl, fun _ => rfl, fun hh => absurd hh (by omega), (hp _ _ _ (u64_toNat _)).1, (hp _ _ _ (u64_toNat _)).2⟩
    · have h1' : (1 : Int) < (k : Int) := by omega
      go_enter Tryz.func23, Tryz.ntmps23
      go_wp2
      go_quiet (fail)
      go_wp2
      go_ret
      have hp := fun q y s' hy => src_set (x := (i : Int) + 1) (y := y) (s' := s') q HS.out (by omega) hy
      obtain ⟨r, hr, hrk⟩ := srcRes (IntKind.u64.wrap (IntKind.u64.wrap (IntKind.u64.wrap (s : Int) + 1) * 6364136223846793005) + 1442695040888963407) k (by omega) hk
      exact ⟨r, _, ret_int hr, fun hh => absurd hh (by omega), fun _ => hrk, (hp _ _ _ (u64_toNat _)).1, (hp _ _ _ (u64_toNat _)).2⟩
theorem gb_trans {w w1 w2 : World} {b : Option Nat} (h : w.grownBy w1 b) (k : w1.grownBy w2 b) : w.grownBy w2 b :=
  ⟨k.os.trans h.os, k.tape.trans h.tape, k.output.trans h.output, Nat.le_trans h.size k.size, fun i hi hne => (k.block i (Nat.lt_of_lt_of_le hi h.size) hne).trans (h.block i hi hne)⟩
theorem gb_below {w w1 w2 : World} {b : Option Nat} (h : w.grownBy w1 b) (k : Below w.heap.size w1 w2) : w.grownBy w2 b :=
  ⟨k.os.trans h.os, k.tape.trans h.tape, k.output.trans h.output, Nat.le_trans h.size k.size, fun i hi hne => (k.block i hi).trans (h.block i hi hne)⟩
theorem ownsB.gb {w w1 : World} {B : Nat} {v : Value} {l : List Nat} {b : Nat} (h : ownsB w B v l) (hg : w.grownBy w1 (some b)) (hb : b < B) : ownsB w1 B v l :=
  h.otherBlock (fun g hgv => hg.block g ((World.ownsRow.lt h g hgv).2) (fun e => by cases e; have := (World.ownsRow.lt h _ hgv).1; omega))
theorem ownsB.shape {w : World} {B : Nat} {v : Value} {l : List Nat} (h : ownsB w B v l) : ∃ ao cap, v = .slice ao l.length cap := by
  obtain ⟨_, ⟨rfl, h1⟩ | ⟨g, cap, cur, rfl, _⟩⟩ := h
  · exact ⟨none, 0, by rw [h1]⟩
  · exact ⟨_, cap, rfl⟩
theorem srcAt.below {w w1 : World} {B b : Nat} {a : Option Addr} {n cap i s : Nat} (h : srcAt w b a n cap i s) (hb : Below B w w1) (hB : b < B) : srcAt w1 b a n cap i s := (hb.block b hB).trans h
theorem srcAt.lt {w : World} {b : Nat} {a : Option Addr} {n cap i s : Nat} (h : srcAt w b a n cap i s) : b < w.heap.size := lt_of_block h
/-- the length that a slice's value bears -/
def lenOf : Value → Nat | .slice _ n _ => n | _ => 0
/-- the source of choices, and what it reads -/
structure srcI (w0 : World) (b : Nat) (a : Option Addr) (n cap : Nat) (l : List Nat) (i : Nat) (w : World) : Prop where
  at_ : ∃ s, srcAt w b a n cap i s
  bel : Below w0.heap.size w0 w
  by_ : isBytes w0 a n cap l
  hb : w0.heap.size ≤ b
theorem srcI.lt {w0 w : World} {b : Nat} {a : Option Addr} {n cap i : Nat} {l : List Nat} (h : srcI w0 b a n cap l i w) : b < w.heap.size := by
  obtain ⟨s, hs⟩ := h.at_; exact hs.lt
theorem srcI.step {w0 w w1 : World} {b : Nat} {a : Option Addr} {n cap i i' : Nat} {l : List Nat} (h : srcI w0 b a n cap l i w) (hs : ∃ s', srcAt w1 b a n cap i' s') (hg : w.grownBy w1 (some b)) : srcI w0 b a n cap l i' w1 :=
  ⟨hs, h.bel.grown hg h.bel.size (fun k e => by cases e; exact h.hb), h.by_, h.hb⟩
theorem srcI.below {w0 w w1 : World} {B b : Nat} {a : Option Addr} {n cap i : Nat} {l : List Nat} (h : srcI w0 b a n cap l i w) (hb : Below B w w1) (hB : b < B) : srcI w0 b a n cap l i w1 := by
  obtain ⟨s, hs⟩ := h.at_
  exact ⟨⟨s, hs.below hb hB⟩, h.bel.trans (hb.mono (by have := h.hb; omega)), h.by_, h.hb⟩
theorem n_any (w0 w : World) (b : Nat) (a : Option Addr) (n cap i : Nat) (l : List Nat) (k : Nat) (h : srcI w0 b a n cap l i w) (hi : i ≤ 1000000000000) (hk : k ≤ 1000000000) :
    Calls Tryz.prog 23 #[.pointer (some ⟨b, 0, none⟩), .int .i64 (k : Int)] w fun o w' => ∃ r : Nat, o = .returned (.int .i64 (r : Int)) ∧ (k ≤ 1 → r = 0) ∧ (1 < k → r < k) ∧ srcI w0 b a n cap l (i + 1) w' ∧ w.grownBy w' (some b) := by
  obtain ⟨s, hs⟩ := h.at_
  refine (srcN_any w b a n cap i s l k hs (h.by_.below h.bel) hi hk).mono ?_
  rintro o w' ⟨r, s', rfl, h1, h2, h3, h4⟩
  exact ⟨r, rfl, h1, h2, h.step ⟨s', h3⟩ h4, h4⟩
theorem n_2 (w0 w : World) (b : Nat) (a : Option Addr) (n cap i : Nat) (l : List Nat) (h : srcI w0 b a n cap l i w) (hi : i ≤ 1000000000000) :
    Calls Tryz.prog 23 #[.pointer (some ⟨b, 0, none⟩), .int .i64 2] w fun o w' => ∃ r : Nat, o = .returned (.int .i64 (r : Int)) ∧ r < 2 ∧ srcI w0 b a n cap l (i + 1) w' ∧ w.grownBy w' (some b) := by
  refine (n_any w0 w b a n cap i l 2 h hi (by omega)).mono ?_
  rintro o w' ⟨r, rfl, _, h2, h3, h4⟩
  exact ⟨r, rfl, h2 (by omega), h3, h4⟩
theorem n_3 (w0 w : World) (b : Nat) (a : Option Addr) (n cap i : Nat) (l : List Nat) (h : srcI w0 b a n cap l i w) (hi : i ≤ 1000000000000) :
    Calls Tryz.prog 23 #[.pointer (some ⟨b, 0, none⟩), .int .i64 3] w fun o w' => ∃ r : Nat, o = .returned (.int .i64 (r : Int)) ∧ r < 3 ∧ srcI w0 b a n cap l (i + 1) w' ∧ w.grownBy w' (some b) := by
  refine (n_any w0 w b a n cap i l 3 h hi (by omega)).mono ?_
  rintro o w' ⟨r, rfl, _, h2, h3, h4⟩
  exact ⟨r, rfl, h2 (by omega), h3, h4⟩
theorem n_7 (w0 w : World) (b : Nat) (a : Option Addr) (n cap i : Nat) (l : List Nat) (h : srcI w0 b a n cap l i w) (hi : i ≤ 1000000000000) :
    Calls Tryz.prog 23 #[.pointer (some ⟨b, 0, none⟩), .int .i64 7] w fun o w' => ∃ r : Nat, o = .returned (.int .i64 (r : Int)) ∧ r < 7 ∧ srcI w0 b a n cap l (i + 1) w' ∧ w.grownBy w' (some b) := by
  refine (n_any w0 w b a n cap i l 7 h hi (by omega)).mono ?_
  rintro o w' ⟨r, rfl, _, h2, h3, h4⟩
  exact ⟨r, rfl, h2 (by omega), h3, h4⟩
set_option maxHeartbeats 2000000 in
theorem genText_any (w0 w : World) (b : Nat) (a : Option Addr) (n cap i : Nat) (l : List Nat) (most : Nat) (h : srcI w0 b a n cap l i w) (hi : i ≤ 1000000000) (hm : most ≤ 3000000) :
    Calls Tryz.prog 25 #[.pointer (some ⟨b, 0, none⟩), .int .i64 (most : Int)] w fun o w' => ∃ (t : List Nat) (i' : Nat), o = .returned (.string (strN t)) ∧ (∀ x ∈ t, M.isL x) ∧ t.length ≤ most ∧ i' ≤ i + 1 + 3 * most ∧ srcI w0 b a n cap l i' w' ∧ w.grownBy w' (some b) := by
  have hbw := h.lt
  go_enter Tryz.func25, Tryz.ntmps25
  go_wp2_with fail
  refine (n_any w0 w b a n cap i l (most + 1) h (by omega) (by omega)).mono ?_
  rintro o w1 ⟨N, rfl, _, hN, hI1, hg1⟩
  have hN' : N ≤ most := by
    by_cases hm0 : 1 < most + 1
    · have := hN hm0; omega
    · have : most = 0 := by omega
      subst this
      rename_i h0 
      have := h0 (by omega)
      omega
  clear hN h
  have hB1 : w.heap.size ≤ w1.heap.size := hg1.size
  have hown0 := own_nil w1 w1.heap.size (Nat.le_refl _)
  have hb1 : b < w1.heap.size := hI1.lt
  have hI2 : srcI w0 b a n cap l (i + 1) (w1.alloc (.cells #[] 5)) := hI1.below ((Below.refl w1.heap.size w1).alloc (Nat.le_refl _) _) hb1
  have hg2 : w1.grownBy (w1.alloc (.cells #[] 5)) (some b) := World.grownBy_alloc w1 _ (some b)
  go_wp2_with fail
  go_loopw [6, 7, 8, 9] (fun v c _ _ wr => ∃ (t : List Nat) (i' cc : Nat), c = .int .u8 (cc : Int) ∧ M.isL cc ∧ ownsB wr w1.heap.size v t ∧ (∀ x ∈ t, M.isL x) ∧ t.length ≤ N ∧ i' ≤ i + 1 + 3 * t.length ∧ srcI w0 b a n cap l i' wr ∧ w1.grownBy wr (some b)) (fun v _ _ _ _ => N - lenOf v)
  case atStart => exact ⟨[], i + 1, 48, rfl, .inl rfl, hown0, (fun x hx => by cases hx), Nat.zero_le _, Nat.le_refl _, hI2, hg2⟩
  case round =>
    clear hown0 hI2 hg2
    obtain ⟨t, i', cc, rfl, hcc, hown, hall, htN, hi', hI, hg⟩ := hrel
    obtain ⟨ao, cp, rfl⟩ := hown.shape
    by_cases hlt : t.length < N
    · go_wp2_with fail
      refine (n_7 w0 wr b a n cap i' l hI (by omega)).mono ?_
      rintro o w2 ⟨r1, rfl, hr1, hI2, hg2⟩
      have hown2 := hown.gb hg2 hb1
      have hgg2 := gb_trans hg hg2
      clear hown hI hg hg2
      go_wp2_with fail
      refine (n_3 w0 w2 b a n cap _ l hI2 (by omega)).mono ?_
      rintro o w3 ⟨r2, rfl, hr2, hI3, hg3⟩
      have hown3 := hown2.gb hg3 hb1
      have hgg3 := gb_trans hgg2 hg3
      clear hown2 hI2 hgg2 hg3
      by_cases hr0 : r2 = 0
      · subst hr0
        go_wp2_with fail
        have hgoal : True := trivial
        clear hgoal
        go_loopw [6, 9] (fun v j wr => ∃ (t' : List Nat) (jj : Nat), j = .int .i64 (jj : Int) ∧ jj ≤ (1 + r1) ∧ t.length + jj ≤ t'.length ∧ t'.length ≤ t.length + jj ∧ ownsB wr w1.heap.size v t' ∧ (∀ x ∈ t', M.isL x) ∧ t'.length ≤ N ∧ srcI w0 b a n cap l (i' + 1 + 1) wr ∧ w1.grownBy wr (some b)) (fun _ j _ => (1 + r1) - (intOf j).toNat)
        case atStart => exact ⟨t, 0, rfl, Nat.zero_le _, Nat.le_refl _, Nat.le_refl _, hown3, hall, htN, hI3, hgg3⟩
        case round =>
          clear hI3 hown3 hgg3
          obtain ⟨t', jj, rfl, hjk, ht1, ht2, hown, hall', htN', hI, hg⟩ := hrel
          obtain ⟨ao', cp', rfl⟩ := hown.shape
          by_cases hin : jj < (1 + r1) ∧ t'.length < N
          · obtain ⟨hj, hl'⟩ := hin
            have hBw : w1.heap.size ≤ wr.heap.size := hg.size
            go_wp2_with (first | (at_builtin; refine app_byte2 wr wr rfl (.tmp 39) (.tmp 41) rfl w1.heap.size _ t' cc _ rfl rfl hown rfl (by omega) hBw (Below.refl _ _) ?_))
            intro v5 w5 ho5 hb5 _
            have hI5 := hI.below hb5 hb1
            have hg5 := gb_below hg hb5
            have hall5 : ∀ x ∈ t' ++ [cc], M.isL x := by
              intro x hx
              simp at hx
              rcases hx with hx | rfl
              · exact hall' x hx
              · exact hcc
            clear hown hI hg hb5
            go_wp2
            go_roundw
            case rel => exact ⟨t' ++ [cc], jj + 1, by go_num, by omega, by simp; omega, by simp; omega, ho5, hall5, by simp; omega, hI5, hg5⟩
            case measure => simp [intOf]; omega
          · have hpr : t.length < t'.length := by
              by_cases hj : jj < (1 + r1)
              · have : ¬ t'.length < N := fun e => hin ⟨hj, e⟩
                omega
              · omega
            have hopp := M.isL_opp hcc
            by_cases hj : jj < (1 + r1)
            · have hl' : ¬ t'.length < N := fun e => hin ⟨hj, e⟩
              clear hin
              go_wp2_with (first | (go_at_call 57; refine (other_any cc _ hcc).mono ?_; rintro o w6 ⟨rfl, rfl⟩))
              go_roundw
              case rel => exact ⟨t', i' + 1 + 1, 97 - cc, rfl, hopp.1, hown, hall', htN', by omega, hI, hg⟩
              case measure => simp [lenOf]; omega
            · clear hin
              go_wp2_with (first | (go_at_call 57; refine (other_any cc _ hcc).mono ?_; rintro o w6 ⟨rfl, rfl⟩))
              go_roundw
              case rel => exact ⟨t', i' + 1 + 1, 97 - cc, rfl, hopp.1, hown, hall', htN', by omega, hI, hg⟩
              case measure => simp [lenOf]; omega
      · have hr0' : (0 : Int) < (r2 : Int) := by omega
        go_wp2_with fail
        refine (n_2 w0 w3 b a n cap _ l hI3 (by omega)).mono ?_
        rintro o w4 ⟨r3, rfl, hr3, hI4, hg4⟩
        have hown4 := hown3.gb hg4 hb1
        have hgg4 := gb_trans hgg3 hg4
        clear hown3 hI3 hgg3 hg4
        go_wp2_with fail
        have hgoal : True := trivial
        clear hgoal
        go_loopw [6, 9] (fun v j wr => ∃ (t' : List Nat) (jj : Nat), j = .int .i64 (jj : Int) ∧ jj ≤ (1 + r3) ∧ t.length + jj ≤ t'.length ∧ t'.length ≤ t.length + jj ∧ ownsB wr w1.heap.size v t' ∧ (∀ x ∈ t', M.isL x) ∧ t'.length ≤ N ∧ srcI w0 b a n cap l (i' + 1 + 1 + 1) wr ∧ w1.grownBy wr (some b)) (fun _ j _ => (1 + r3) - (intOf j).toNat)
        case atStart => exact ⟨t, 0, rfl, Nat.zero_le _, Nat.le_refl _, Nat.le_refl _, hown4, hall, htN, hI4, hgg4⟩
        case round =>
          clear hI4 hown4 hgg4
          obtain ⟨t', jj, rfl, hjk, ht1, ht2, hown, hall', htN', hI, hg⟩ := hrel
          obtain ⟨ao', cp', rfl⟩ := hown.shape
          by_cases hin : jj < (1 + r3) ∧ t'.length < N
          · obtain ⟨hj, hl'⟩ := hin
            have hBw : w1.heap.size ≤ wr.heap.size := hg.size
            go_wp2_with (first | (at_builtin; refine app_byte2 wr wr rfl (.tmp 39) (.tmp 41) rfl w1.heap.size _ t' cc _ rfl rfl hown rfl (by omega) hBw (Below.refl _ _) ?_))
            intro v5 w5 ho5 hb5 _
            have hI5 := hI.below hb5 hb1
            have hg5 := gb_below hg hb5
            have hall5 : ∀ x ∈ t' ++ [cc], M.isL x := by
              intro x hx
              simp at hx
              rcases hx with hx | rfl
              · exact hall' x hx
              · exact hcc
            clear hown hI hg hb5
            go_wp2
            go_roundw
            case rel => exact ⟨t' ++ [cc], jj + 1, by go_num, by omega, by simp; omega, by simp; omega, ho5, hall5, by simp; omega, hI5, hg5⟩
            case measure => simp [intOf]; omega
          · have hpr : t.length < t'.length := by
              by_cases hj : jj < (1 + r3)
              · have : ¬ t'.length < N := fun e => hin ⟨hj, e⟩
                omega
              · omega
            have hopp := M.isL_opp hcc
            by_cases hj : jj < (1 + r3)
            · have hl' : ¬ t'.length < N := fun e => hin ⟨hj, e⟩
              clear hin
              go_wp2_with (first | (go_at_call 57; refine (other_any cc _ hcc).mono ?_; rintro o w6 ⟨rfl, rfl⟩))
              go_roundw
              case rel => exact ⟨t', i' + 1 + 1 + 1, 97 - cc, rfl, hopp.1, hown, hall', htN', by omega, hI, hg⟩
              case measure => simp [lenOf]; omega
            · clear hin
              go_wp2_with (first | (go_at_call 57; refine (other_any cc _ hcc).mono ?_; rintro o w6 ⟨rfl, rfl⟩))
              go_roundw
              case rel => exact ⟨t', i' + 1 + 1 + 1, 97 - cc, rfl, hopp.1, hown, hall', htN', by omega, hI, hg⟩
              case measure => simp [lenOf]; omega
    · have hcv := conv_own hown (isL_lt hall)
      go_wp2
      go_ret
      exact ⟨t, i', rfl, hall, by omega, by omega, hI, gb_trans hg1 hg⟩
end Go.Proofs.YtpknchjjfiiaeaaGreatDoor.J
