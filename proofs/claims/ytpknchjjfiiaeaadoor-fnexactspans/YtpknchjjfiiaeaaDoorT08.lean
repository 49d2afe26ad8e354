import Derived.Test.YtpknchjjfiiaeaaDoorT07
import Derived.Deep.RegionHeld3
namespace Go.Proofs.YtpknchjjfiiaeaaDoor.J
open Go.RowKit
theorem lt_strN (l : List Nat) (h : ∀ x ∈ l, x < 256) : lt (strN l) = l := by
  unfold lt strN
  simp only [List.map_map]
  conv => rhs; rw [← List.map_id l]
  apply List.map_congr_left
  intro x hx
  have := h x hx
  simp; omega
theorem bl_strN (l : List Nat) (h : ∀ x ∈ l, x < 256) : bl (strN l) = l.map (fun x => x - 48) := by
  have : bl (strN l) = (lt (strN l)).map (fun x => x - 48) := by unfold bl lt; simp
  rw [this, lt_strN l h]
theorem okT_strN (l : List Nat) (m : Int) (h : ∀ x ∈ l, M.isL x) (hm : (l.length : Int) ≤ m) : okT (strN l) m = true := by
  unfold okT
  rw [Bool.and_eq_true, decide_eq_true_iff, strN_size]
  refine ⟨hm, ?_⟩
  rw [List.all_eq_true]
  intro c hc
  unfold strN at hc
  simp at hc
  obtain ⟨x, hx, rfl⟩ := hc
  rcases h x hx with rfl | rfl <;> rfl
theorem stuffZ_strN (l : List Nat) (h : ∀ x ∈ l, M.isL x) (hm : l.length ≤ 2000) : stuffZ (strN l) = strN (M.stuffL l) := by
  unfold stuffZ
  rw [if_pos (okT_strN l 2000 h (by omega)), lt_strN l (isL_lt h)]
theorem crcZ_strN (l : List Nat) (h : ∀ x ∈ l, M.isL x) (hm : l.length ≤ 2000) : crcZ (strN l) = ((M.crcN (l.map (fun x => x - 48)) : Nat) : Int) := by
  unfold crcZ
  rw [if_pos (okT_strN l 2000 h (by omega)), bl_strN l (isL_lt h)]
/-- the plain letters of an image: body and sum -/
def plainL (e : Bool) (i : Nat) (r : Bool) (d : Nat) (l : List Nat) : List Nat :=
  bodyL e i r d l ++ M.num (M.crcN ((bodyL e i r d l).map (fun x => x - 48))) 15
/-- what Encode answers -/
def encZ (e : Bool) (i : Nat) (r : Bool) (d : Int) (n : Nat) (l : List Nat) : ByteArray :=
  if validB e i r d n = true then strN (M.stuffL (plainL e i r d.toNat l) ++ List.replicate 10 49) else ⟨#[]⟩
theorem plainL_isL (e : Bool) (i : Nat) (r : Bool) (d : Nat) (l : List Nat) : ∀ x ∈ plainL e i r d l, M.isL x := by
  intro x hx
  unfold plainL at hx
  rw [List.mem_append] at hx
  rcases hx with hx | hx
  · exact bodyL_isL e i r d l x hx
  · exact M.num_isL _ _ x hx
theorem plainL_length (e : Bool) (i : Nat) (r : Bool) (d : Nat) (l : List Nat) : (plainL e i r d l).length = (if e = true then 54 else 34) + 8 * l.length := by
  unfold plainL
  rw [List.length_append, bodyL_length, M.num_length]
  cases e <;> simp <;> omega
theorem num_e15 (v : Nat) (w : World) (hv : v < 4611686018427387904) : Calls Tryd.prog 37 #[.int .i64 (v : Int), .int .i64 15] w fun o w' => o = .returned (.string (strN (M.num v 15))) ∧ w = w' := num_any 15 v w (by omega) hv
theorem tail_eq (s : ByteArray) : s ++ { data := #[49] } ++ { data := #[49] } ++ { data := #[49] } ++ { data := #[49, 49, 49, 49, 49, 49, 49] } = s ++ strN (List.replicate 10 49) := by
  apply ByteArray.ext
  simp [strN]
set_option maxHeartbeats 1000000 in
set_option maxRecDepth 20000 in
theorem specEncode_any (w : World) (e : Bool) (i : Nat) (r : Bool) (d : Int) (a : Option Addr) (n cap : Nat) (l : List Nat) (h : isBytes w a n cap l) :
    Calls Tryd.prog 22 #[frV e i r d a n cap] w fun o w' => o = .returned (.string (encZ e i r d n l)) ∧ Below w.heap.size w w' := by
  have HH : Hid (isBytes w a n cap l) := h
  have HW : Hid (Below w.heap.size w (w.alloc (frC e i r d a n cap 31)) ∧ (w.alloc (frC e i r d a n cap 31)).heap[w.heap.size]? = some (frC e i r d a n cap 31)) := ⟨(Below.refl _ _).alloc (Nat.le_refl _) _, heap_alloc_new w _⟩
  have hlen := h.len
  clear h
  by_cases hv : validB e i r d n = true
  · have hn8 := (validB_true hv).2.2.2.2
    have HZ : Hid (encZ e i r d n l = strN (M.stuffL (plainL e i r d.toNat l) ++ List.replicate 10 49)) := by simp [encZ, hv, Hid]
    have HBZ : Hid (bodyZ e i r d n l = strN (bodyL e i r d.toNat l)) := by simp [bodyZ, hv, Hid]
    have HV : Hid (validB e i r d n = true) := hv
    have hbl := bodyL_length e i r d.toNat l
    have hbl' : (bodyL e i r d.toNat l).length ≤ 200 := by rw [hbl]; split <;> omega
    have HC : Hid (crcZ (strN (bodyL e i r d.toNat l)) = ((M.crcN ((bodyL e i r d.toNat l).map (fun x => x - 48)) : Nat) : Int)) := crcZ_strN _ (bodyL_isL _ _ _ _ _) (by omega)
    have hc := M.crcN_lt ((bodyL e i r d.toNat l).map (fun x => x - 48))
    have HP : Hid (strN (bodyL e i r d.toNat l) ++ strN (M.num (M.crcN ((bodyL e i r d.toNat l).map (fun x => x - 48))) 15) = strN (plainL e i r d.toNat l)) := by rw [strN_append]; exact rfl
    have hpl := plainL_length e i r d.toNat l
    have hpl' : (plainL e i r d.toNat l).length ≤ 200 := by rw [hpl]; split <;> omega
    have HS : Hid (stuffZ (strN (plainL e i r d.toNat l)) = strN (M.stuffL (plainL e i r d.toNat l))) := stuffZ_strN _ (plainL_isL _ _ _ _ _) (by omega)
    have hst : (strN (M.stuffL (plainL e i r d.toNat l))).size ≤ 400 := by rw [strN_size]; have := M.stuff_len (plainL e i r d.toNat l); omega
    have HT : Hid (strN (M.stuffL (plainL e i r d.toNat l)) ++ strN (List.replicate 10 49) = strN (M.stuffL (plainL e i r d.toNat l) ++ List.replicate 10 49)) := strN_append _ _
    have hbs : (strN (bodyL e i r d.toNat l)).size ≤ 200 := by rw [strN_size]; exact hbl'
    have hps : (strN (plainL e i r d.toNat l)).size ≤ 200 := by rw [strN_size]; exact hpl'
    clear hv hbl hbl' hpl hpl' hlen
    generalize M.crcN ((bodyL e i r d.toNat l).map (fun x => x - 48)) = c at *
    generalize strN (M.stuffL (plainL e i r d.toNat l)) = ss at *
    generalize strN (plainL e i r d.toNat l) = ps at *
    generalize strN (bodyL e i r d.toNat l) = bs at *
    go_enter Tryd.func22, Tryd.ntmps22
    go_wp2_with fail
    refine (specValid_any _ e i r d a n cap).mono ?_
    rw [HV.out]
    rintro o w1 ⟨rfl, hb1⟩
    have hB1 : Below w.heap.size w w1 := HW.out.1.trans (hb1.mono (by simp))
    have hx1 := box_below HW.out.2 hb1 (by simp)
    have hc1 := frC_cells hx1
    clear hb1 hx1
    go_wp2_with fail
    refine (specBody_any _ e i r d a n cap l (HH.out.below hB1)).mono ?_
    rw [HBZ.out]
    rintro o w2 ⟨rfl, hb2⟩
    have hB2 := hB1.trans (hb2.mono hB1.size)
    clear hb2 hB1 hc1
    go_wp2_with fail
    refine (specCrc_any _ _ (by unfold maxLen; omega)).mono ?_
    rw [HC.out]
    rintro o w3 ⟨rfl, hb3⟩
    have hB3 := hB2.trans (hb3.mono hB2.size)
    clear hb3 hB2
    have hs15 : (strN (M.num c 15)).size ≤ 15 := by rw [strN_size, M.num_length]; omega
    go_wp2_with fail
    refine (num_e15 c _ (by omega)).mono ?_
    rintro o w4 ⟨rfl, rfl⟩
    go_wp2_with fail
    rw [HP.out]
    refine (specStuff_any _ _ (by unfold maxLen; omega)).mono ?_
    rw [HS.out]
    rintro o w5 ⟨rfl, hb5⟩
    have hB5 := hB3.trans (hb5.mono hB3.size)
    go_wp2
    go_ret
    exact ⟨ret_str (by rw [HZ.out, ← HT.out, ← tail_eq]), hB5⟩
  · have hv' : validB e i r d n = false := by simpa using hv
    have HZ : Hid (encZ e i r d n l = ⟨#[]⟩) := by simp [encZ, hv', Hid]
    have HV : Hid (validB e i r d n = false) := hv'
    clear hv hv' hlen
    go_enter Tryd.func22, Tryd.ntmps22
    go_wp2_with (first | (go_at_call 20; refine (specValid_any _ e i r d a n cap).mono ?_; rw [HV.out]; rintro o w1 ⟨rfl, hb1⟩))
    go_ret
    exact ⟨ret_str HZ.out.symm, HW.out.1.trans (hb1.mono (by simp))⟩
/-- what is known of a frame behind the bits walked so far -/
structure Wk where
  field : Nat
  taken : Nat
  last : Nat × Nat
  sum : Nat
  crc : Nat
  ext : Bool
  id : Nat
  rtr : Bool
  dlc : Nat
  data : List Nat
  code : Nat
namespace Wk
def due (k : Wk) : Bool := decide (k.field ≤ 11) && decide (k.last.2 = 5)
def crcOk (k : Wk) : Bool := decide (10 < k.field) && decide (k.crc = k.sum)
def form (good : Bool) : Nat := if good = true then 0 else 4
def eofCode (k : Wk) (bit : Nat) : Nat :=
  if k.field = 14 ∧ k.taken = 6 then (if bit = 0 then 6 else 2)
  else if k.field = 14 ∧ k.taken = 5 ∧ bit = 1 then 1 else form (decide (bit = 1))
def plainCode (k : Wk) (bit : Nat) : Nat :=
  if k.field = 1 then form (decide (bit = 0))
  else if k.field = 11 then form (decide (bit = 1))
  else if k.field = 13 then (if bit = 1 ∧ k.crcOk = false then 5 else form (decide (bit = 1)))
  else if k.field = 14 then k.eofCode bit else 0
def dlen (k : Wk) : Nat := if k.rtr = true then 0 else min k.dlc 8
def fsize (k : Wk) (f : Nat) : Nat :=
  if f = 2 then 11 else if f = 5 then 18 else if f = 7 then (if k.ext = true then 2 else 1) else if f = 8 then 4 else if f = 9 then 8 * k.dlen else if f = 10 then 15 else if f = 14 then 7 else 1
def fafter (k : Wk) (f : Nat) : Nat :=
  if f = 4 ∧ k.ext = false then 7 else if f = 8 ∧ k.dlen = 0 then 10 else f + 1
end Wk
/-- what a method of the walk leaves: all below B, and every block that is neither b nor a row of letters -/
structure kept (B b : Nat) (w w' : World) : Prop where
  bel : Below B w w'
  oth : Lib.OthersKept 5 (some b) w w'
theorem kept.refl (B b : Nat) (w : World) : kept B b w w := ⟨Below.refl _ _, Lib.OthersKept.refl _ _ _⟩
theorem kept.trans {B b : Nat} {w w1 w2 : World} (h : kept B b w w1) (k : kept B b w1 w2) : kept B b w w2 := ⟨h.bel.trans k.bel, h.oth.trans k.oth⟩
theorem kept.set {B b : Nat} {w w1 : World} (h : kept B b w w1) (hB : B ≤ b) (j : Nat) (x : Value) : kept B b w (w1.setCell ⟨b, j, none⟩ x) :=
  ⟨h.bel.setCell (by exact hB) x, h.oth.setCell ⟨b, j, none⟩ rfl x⟩
theorem kept.drewN {B b : Nat} {w w1 : World} (h : kept B b w w1) (q : Nat) : kept B b w (w1.drewN q) := ⟨below_drewN h.bel q, h.oth⟩
theorem kept.alloc {B b : Nat} {w w1 : World} (h : kept B b w w1) (hB : B ≤ w1.heap.size) (o : Obj) : kept B b w (w1.alloc o) := ⟨h.bel.alloc hB o, h.oth.alloc o⟩
/-- one bit more of the data -/
def keepD (data : List Nat) (taken bit : Nat) : List Nat :=
  if taken % 8 = 0 then data ++ [bit] else data.set (data.length - 1) (2 * data.getD (data.length - 1) 0 % 256 + bit)
theorem ownsB.stored {w : World} {B g cap : Nat} {l : List Nat} (h : ownsB w B (.slice (some ⟨g, 0, none⟩) l.length cap) l) (j x : Nat) : ownsB (w.setCell ⟨g, j, none⟩ (.int .u8 (x : Int))) B (.slice (some ⟨g, 0, none⟩) l.length cap) (l.set j x) := by
  have := (World.ownsRow.stored h j (.int .u8 (x : Int))).1
  unfold ownsB
  have e : bv (l.set j x) = (bv l).set j (.int .u8 (x : Int)) := by simp [bv, List.map_set]
  rw [e, List.length_set]
  exact this
theorem kept.row {B b g : Nat} {w w1 : World} (h : kept B b w w1) (hB : B ≤ g) (hg : ∃ c fz, w1.heap[g]? = some (.cells c 5 fz)) (j : Nat) (x : Value) : kept B b w (w1.setCell ⟨g, j, none⟩ x) := by
  refine ⟨h.bel.setCell (by exact hB) x, fun i o hi hb ho => ?_⟩
  have h1 := h.oth i o hi hb ho
  rw [heap_setCell_other w1 ⟨g, j, none⟩ i x (fun e => ?_)]
  · exact h1
  · obtain ⟨c, fz, hc⟩ := hg
    have e' : i = g := e
    rw [e', hc] at h1
    exact ho c fz (Option.some.inj h1).symm
def Wk.keep1 (k : Wk) (bit : Nat) : Wk := if k.field ≤ 9 then { k with sum := M.stepN k.sum bit } else k
def Wk.keep (k : Wk) (bit : Nat) : Wk :=
  if k.field = 2 ∨ k.field = 5 then { k.keep1 bit with id := 2 * k.id + bit }
  else if k.field = 3 ∨ k.field = 6 then { k.keep1 bit with rtr := decide (bit = 1) }
  else if k.field = 4 then { k.keep1 bit with ext := decide (bit = 1) }
  else if k.field = 8 then { k.keep1 bit with dlc := 2 * k.dlc + bit }
  else if k.field = 9 then { k.keep1 bit with data := keepD k.data k.taken bit }
  else if k.field = 10 then { k.keep1 bit with crc := 2 * k.crc + bit }
  else k.keep1 bit
def Wk.adv (k : Wk) : Wk := if k.taken + 1 = k.fsize k.field then { k with field := k.fafter k.field, taken := 0 } else { k with taken := k.taken + 1 }
theorem ownsB.below {w w1 : World} {B : Nat} {v : Value} {l : List Nat} (h : ownsB w B v l) (hb : Below w.heap.size w w1) : ownsB w1 B v l :=
  h.otherBlock (fun g hg => hb.block g (World.ownsRow.lt h g hg).2)
/-- the bounds that the walk's own numbers keep -/
structure wkOk (k : Wk) : Prop where
  run : k.last.2 ≤ 50000
  sum : k.sum < 32768
  id : k.id < 1073741824
  dlc : k.dlc ≤ 400
  crc : k.crc < 400000
  taken : k.taken ≤ 1000
  field : k.field ≤ 100
  data : k.field = 9 → k.data.length ≤ 1000 ∧ (¬ k.taken % 8 = 0 → k.data ≠ []) ∧ (∀ x ∈ k.data, x < 256)
def Wk.heard (k : Wk) (c : Nat) : Wk := { k with last := M.hear k.last c }
/-- one letter taken: the walk behind it, the code -/
def Wk.take (k : Wk) (c : Nat) : Wk × Nat :=
  if k.due = true ∧ c = k.last.1 then (k, 3)
  else if k.due = true then (k.heard c, 0)
  else (((k.heard c).keep (c - 48)).adv, (k.heard c).plainCode (c - 48))
/-- what holds of every walk that goes on -/
structure Wk.Inv (k : Wk) : Prop where
  f1 : 1 ≤ k.field
  f2 : k.field ≤ 14
  tk : k.taken < k.fsize k.field
  sm : k.sum < 32768
  idb : k.id < 2 ^ (if k.field = 1 then 0 else if k.field = 2 then k.taken else if k.field ≤ 4 then 11 else if k.field = 5 then 11 + k.taken else 29)
  dlb : k.dlc < 2 ^ (if k.field < 8 then 0 else if k.field = 8 then k.taken else 4)
  crb : k.crc < 2 ^ (if k.field < 10 then 0 else if k.field = 10 then k.taken else 15)
  dan : k.field < 9 → k.data = []
  dat : k.field = 9 → k.data.length = (k.taken + 7) / 8
  dal : k.data.length ≤ 8
  das : ∀ x ∈ k.data, x < 256
theorem dlen_le (k : Wk) : k.dlen ≤ 8 := by unfold Wk.dlen; split <;> omega
theorem fsize_le (k : Wk) (f : Nat) : k.fsize f ≤ 64 := by
  have := dlen_le k
  unfold Wk.fsize
  (repeat' split) <;> omega
theorem pow_le29 (n : Nat) (h : n ≤ 29) : 2 ^ n ≤ 536870912 := Nat.le_trans (Nat.pow_le_pow_right (by decide) h) (by decide)
theorem Wk.Inv.ok {k : Wk} (h : k.Inv) (hr : k.last.2 ≤ 50000) : wkOk k := by
  have ht := fsize_le k k.field
  have ht2 := h.tk
  refine ⟨hr, h.sm, ?_, ?_, ?_, by omega, by have := h.f2; omega, fun h9 => ⟨by have := h.dal; omega, ?_, h.das⟩⟩
  · refine Nat.lt_of_lt_of_le h.idb (Nat.le_trans (pow_le29 _ ?_) (by decide))
    have h3 := h.f2
    split
    · omega
    · split
      · rename_i h2
        rw [h2] at ht2
        have : k.fsize 2 = 11 := rfl
        omega
      · split
        · omega
        · split
          · rename_i h5
            rw [h5] at ht2
            have : k.fsize 5 = 18 := rfl
            omega
          · omega
  · have hb := h.dlb
    refine Nat.le_of_lt_succ (Nat.lt_of_lt_of_le hb ?_)
    split
    · decide
    · split
      · rename_i h8
        rw [h8] at ht2
        have : k.fsize 8 = 4 := rfl
        exact Nat.le_trans (Nat.pow_le_pow_right (by decide) (show k.taken ≤ 4 by omega)) (by decide)
      · decide
  · have hb := h.crb
    refine Nat.lt_of_lt_of_le hb ?_
    split
    · decide
    · split
      · rename_i h10
        rw [h10] at ht2
        have : k.fsize 10 = 15 := rfl
        exact Nat.le_trans (Nat.pow_le_pow_right (by decide) (show k.taken ≤ 15 by omega)) (by decide)
      · decide
  · intro h8 e
    have := h.dat h9
    rw [e] at this
    simp at this
    omega
def goesOnB (c : Nat) : Bool := decide (c = 0 ∨ c = 1)
/-- the walk as a value -/
def Wk.val (k : Wk) (v : Value) : Value :=
  .agg #[.int .i64 (k.field : Int), .int .i64 (k.taken : Int), .int .i32 (k.last.1 : Int), .int .i64 (k.last.2 : Int), .int .i64 (k.sum : Int), .int .i64 (k.crc : Int), .bool k.ext, .int .u32 (k.id : Int), .bool k.rtr, .int .i64 (k.dlc : Int), v, .int .i64 (k.code : Int)]
def Wk.zero : Wk := ⟨0, 0, (0, 0), 0, 0, false, 0, false, 0, [], 0⟩
theorem own_none (w : World) (B : Nat) : ownsB w B (.slice none 0 0) [] := ⟨rfl, .inl ⟨rfl, rfl⟩⟩
/-- the result's block of impl.Judge -/
theorem ju_res {w w1 : World} (h : Below (w.alloc (.cells #[.int .i64 0, .int .i64 0, .bool false, .bool false] 53)).heap.size (w.alloc (.cells #[.int .i64 0, .int .i64 0, .bool false, .bool false] 53)) w1) :
    w1.heap[w.heap.size]? = some (.cells #[.int .i64 0, .int .i64 0, .bool false, .bool false] 53 (0, 0)) ∧ Below w.heap.size w w1 := by
  refine ⟨(h.block _ (by simp)).trans (heap_alloc_new w _), ?_⟩
  exact ((Below.refl w.heap.size w).alloc (Nat.le_refl _) _).trans (h.mono (by simp))
theorem ju_d {g : Nat} {V : World} (h : ∃ x0 x1 x2 x3, V.heap[g]? = some (.cells #[x0, x1, x2, x3] 53 (0, 0))) : ∃ x0 x1 x2 x3, V.cell? ⟨g, 0, none⟩ = some x0 ∧ V.cell? ⟨g, 1, none⟩ = some x1 ∧ V.cell? ⟨g, 2, none⟩ = some x2 ∧ V.cell? ⟨g, 3, none⟩ = some x3 ∧ V.frozen? ⟨g, 0, none⟩ = false ∧ V.frozen? ⟨g, 1, none⟩ = false ∧ V.frozen? ⟨g, 2, none⟩ = false ∧ V.frozen? ⟨g, 3, none⟩ = false := by
  obtain ⟨x0, x1, x2, x3, hr⟩ := h
  refine ⟨x0, x1, x2, x3, ?_, ?_, ?_, ?_, ?_, ?_, ?_, ?_⟩ <;> simp [World.cell?, World.frozen?, hr]
theorem be4 {B g : Nat} {w V : World} (x0 x1 x2 x3 : Value) (h : Below B w V) (hg : B ≤ g) : Below B w ((((V.setCell ⟨g, 0, none⟩ x0).setCell ⟨g, 1, none⟩ x1).setCell ⟨g, 2, none⟩ x2).setCell ⟨g, 3, none⟩ x3) :=
  (((h.setCell (by exact hg) x0).setCell (by exact hg) x1).setCell (by exact hg) x2).setCell (by exact hg) x3
/-- the number that letters stand for -/
def valStep (v c : Nat) : Nat := 2 * v + (if c = 49 then 1 else 0)
def valL (l : List Nat) : Nat := l.foldl valStep 0
theorem valL_snoc (l : List Nat) (c : Nat) : valL (l ++ [c]) = valStep (valL l) c := by unfold valL; rw [List.foldl_append]; rfl
theorem valL_lt (l : List Nat) : valL l < 2 ^ l.length := by
  induction l using M.snoc_ind with
  | h0 => decide
  | h1 l a ih =>
    rw [valL_snoc, List.length_append, List.length_singleton, Nat.pow_succ]
    unfold valStep
    split <;> omega
theorem l1val_any (s : ByteArray) (w : World) (hs : s.size ≤ 40) :
    Calls Tryd.prog 63 #[.string s] w fun e w' => e = .returned (.int .i64 (valL (lt s) : Nat)) ∧ w = w' := by
  have hs' : s.size ≤ maxLen := by unfold maxLen; omega
  go_enter Tryd.func63, Tryd.ntmps63
  go_wp2
  go_loopw [3, 4] (fun v i wr => ∃ k : Nat, k ≤ s.size ∧ i = .int .i64 k ∧ v = .int .i64 (valL ((lt s).take k) : Nat) ∧ wr = w) (fun _ i _ => s.size - (intOf i).toNat)
  case atStart => exact ⟨0, Nat.zero_le _, rfl, rfl, rfl⟩
  case round =>
    obtain ⟨k, hk, rfl, rfl, rfl⟩ := hrel
    by_cases hlt : k < s.size
    · have hb : valL ((lt s).take k) < 1099511627776 := by
        have h1 := valL_lt ((lt s).take k)
        rw [List.length_take, lt_length] at h1
        exact Nat.lt_of_lt_of_le h1 (Nat.le_trans (Nat.pow_le_pow_right (by decide) (show min k s.size ≤ 40 by omega)) (by decide))
      have HS : Hid (valL ((lt s).take (k + 1)) = valStep (valL ((lt s).take k)) s[k].toNat) := by rw [lt_snoc s k hlt, valL_snoc]; exact rfl
      generalize valL ((lt s).take k) = v at *
      by_cases hc : s[k].toNat = 49
      · have HS' : Hid (valL ((lt s).take (k + 1)) = 2 * v + 1) := by rw [HS.out]; unfold valStep; rw [if_pos hc]; exact rfl
        have hc' : ((s[k].toNat : Int) == 49) = true := by simp; omega
        clear HS hc
        go_wp2
        go_roundw
        case rel => exact ⟨k + 1, by omega, by go_num, by rw [HS'.out]; go_num, trivial⟩
        case measure => simp [intOf]; omega
      · have HS' : Hid (valL ((lt s).take (k + 1)) = 2 * v) := by rw [HS.out]; unfold valStep; rw [if_neg hc]; exact rfl
        have hc' : ((s[k].toNat : Int) == 49) = false := by simp; omega
        clear HS hc
        go_wp2
        go_roundw
        case rel => exact ⟨k + 1, by omega, by go_num, by rw [HS'.out]; go_num, trivial⟩
        case measure => simp [intOf]; omega
    · have hke : (lt s).take k = lt s := List.take_of_length_le (by rw [lt_length]; omega)
      rw [hke]
      generalize hv : valL (lt s) = v at *
      have HV : Hid (valL (lt s) = v) := hv
      clear hv hke
      go_wp2
      go_ret
      exact ⟨by rw [HV.out]; rfl, rfl⟩
theorem ownsB.lower {w : World} {B B' : Nat} {v : Value} {l : List Nat} (h : ownsB w B v l) (hB : B' ≤ B) : ownsB w B' v l := by
  obtain ⟨h1, h2 | ⟨g, cap, cur, rfl, hb, rest⟩⟩ := h
  · exact ⟨h1, .inl h2⟩
  · exact ⟨h1, .inr ⟨g, cap, cur, rfl, Nat.le_trans hB hb, rest⟩⟩
/-- what stands behind the stores into the result's block -/
structure endF (w0 : World) (B g : Nat) (v : Value) (l : List Nat) (W : World) : Prop where
  own : ownsB W B v l
  blk : ∃ cs, W.heap[g]? = some (.cells cs 31 (0, 0))
  bel : Below B w0 W
  le : B ≤ g
theorem endF.set {w0 : World} {B g : Nat} {v : Value} {l : List Nat} {W : World} (h : endF w0 B g v l W) (j : Nat) (x : Value) : endF w0 B g v l (W.setCell ⟨g, j, none⟩ x) := by
  obtain ⟨cs, hc⟩ := h.blk
  refine ⟨h.own.otherBlock (fun i hi => heap_setCell_other W ⟨g, j, none⟩ i x (fun e => ?_)), ⟨_, heap_setCell_same W g j _ _ x hc⟩, h.bel.setCell (by exact h.le) x, h.le⟩
  obtain ⟨c, fz, hc2⟩ := h.own.kind i hi
  have e' : i = g := e
  rw [e', hc] at hc2
  cases hc2
theorem endF.drew {w0 : World} {B g : Nat} {v : Value} {l : List Nat} {W : World} (h : endF w0 B g v l W) : endF w0 B g v l W.drew := by
  obtain ⟨cs, hc⟩ := h.blk
  exact ⟨h.own.otherBlock (fun _ _ => rfl), ⟨cs, hc⟩, h.bel.drew, h.le⟩
end Go.Proofs.YtpknchjjfiiaeaaDoor.J
