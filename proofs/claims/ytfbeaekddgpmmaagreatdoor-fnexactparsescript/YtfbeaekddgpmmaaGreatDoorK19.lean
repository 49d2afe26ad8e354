import Derived.Test.YtfbeaekddgpmmaaGreatDoorK18
import Derived.Lib.Bytealg
import Derived.Lib.Strings
import Derived.BigCall
namespace Go.Proofs.YtfbeaekddgpmmaaGreatDoor
open Go.RowKit
set_option linter.unusedVariables false
set_option maxHeartbeats 1000000 in
set_option maxRecDepth 100000 in
theorem ib101 (s : ByteArray) (c : Int) (w : World) :
    Calls Tryz.prog 101 #[.string s, .int .u8 c] w fun e w' => e = .returned (.int .i64 (Lib.indexByte s.data.toList c.toNat.toUInt8)) ∧ w = w' := by
  go_enter Tryz.func101, Tryz.ntmps101
  go_wp2
  rw [run_callFunc_extern Tryz.func109 (by kernel_rfl) (by kernel_rfl) (by kernel_rfl) (e := Extern.BytealgIndexByte.indexByte) (by kernel_rfl), Lib.run_indexByteString]
  simp only [Result.andThen]
  rw [Oper.upon_value]
  go_wp2
  go_ret
  exact ⟨rfl, rfl⟩
theorem ib111 (s : ByteArray) (c : Int) (w : World) :
    Calls Tryz.prog 111 #[.string s, .int .u8 c] w fun e w' => e = .returned (.int .i64 (Lib.indexByte s.data.toList c.toNat.toUInt8)) ∧ w = w' := by
  go_enter Tryz.func111, Tryz.ntmps111
  go_wp2_with (first | (go_at_call 101; refine (ib101 _ _ _).mono ?_; rintro e w1 ⟨rfl, rfl⟩))
  go_ret
  exact ⟨rfl, rfl⟩
set_option maxHeartbeats 1000000 in
set_option maxRecDepth 100000 in
/-- strings.IndexRune of a letter below 128 -/
theorem ir105 (s : ByteArray) (c : Nat) (hc : c < 128) (w : World) :
    Calls Tryz.prog 105 #[.string s, .int .i32 (c : Int)] w fun e w' => e = .returned (.int .i64 (Lib.indexByte s.data.toList c.toUInt8)) ∧ w = w' := by
  have HX : Hid (∀ w, Calls Tryz.prog 111 #[.string s, .int .u8 (c : Int)] w fun e w' => e = .returned (.int .i64 (Lib.indexByte s.data.toList c.toUInt8)) ∧ w = w') := fun w => ib111 s (c : Int) w
  have h0 : (0 : Int) ≤ (c : Int) := by omega
  have h1 : (c : Int) < 128 := by omega
  go_enter Tryz.func105, Tryz.ntmps105
  go_wp2_with (first | (go_at_call 111; refine (HX.out _).mono ?_; rintro e w1 ⟨rfl, rfl⟩))
  go_ret
  exact ⟨rfl, rfl⟩
abbrev digs : ByteArray := ⟨#[48, 49, 50, 51, 52, 53, 54, 55, 56, 57, 97, 98, 99, 100, 101, 102]⟩
set_option maxRecDepth 100000 in
theorem dig10 : ∀ c, c < 128 → Lib.indexByte (digs.extract 0 10).data.toList c.toUInt8 = if hexN c < 10 then (hexN c : Int) else -1 := by decide +kernel
set_option maxRecDepth 100000 in
theorem dig16 : ∀ c, c < 128 → Lib.indexByte (digs.extract 0 16).data.toList c.toUInt8 = if hexN c < 16 then (hexN c : Int) else -1 := by decide +kernel
theorem digAt (base : Nat) (hb : base = 10 ∨ base = 16) (c : Nat) (hc : c < 128) (w : World) :
    Calls Tryz.prog 105 #[.string (digs.extract 0 base), .int .i32 (c : Int)] w fun e w' => e = .returned (.int .i64 (if hexN c < base then (hexN c : Int) else -1)) ∧ w = w' := by
  have := ir105 (digs.extract 0 base) c hc w
  rcases hb with rfl | rfl
  · rw [dig10 c hc] at this; exact this
  · rw [dig16 c hc] at this; exact this
def dgB (l : List Nat) (base most : Nat) : Bool := decide (l.length ≤ most) && l.all fun c => decide (hexN c < base)
def dgN (l : List Nat) (base most : Nat) : Nat := if dgB l base most = true then valN l base else 0
theorem dg_bad {s : ByteArray} {base most k : Nat} (hk : k < s.size) (h : ¬ hexN s[k].toNat < base) : dgB (lt s) base most = false := by
  have : ((lt s).all fun c => decide (hexN c < base)) = false := by
    rw [List.all_eq_false]
    exact ⟨s[k].toNat, by rw [← lt_at s k hk (by rw [lt_length]; exact hk)]; exact List.getElem_mem _, by simpa using h⟩
  simp [dgB, this]
theorem dg_all {s : ByteArray} {base most k : Nat} (h2 : s.size ≤ most) (hk : s.size ≤ k) (ha : (((lt s).take k).all fun c => decide (hexN c < base)) = true) : dgB (lt s) base most = true := by
  rw [List.take_of_length_le (by rw [lt_length]; exact hk)] at ha
  unfold dgB
  rw [lt_length, ha]
  simp [h2]
theorem ret_dg {s : ByteArray} {base most : Nat} {b : Bool} {v : Int} (h : dgB (lt s) base most = b) (hv : v = if b = true then (valN (lt s) base : Int) else 0) : Ending.returned (.tuple #[.int .u32 v, .bool b]) = Ending.returned (.tuple #[.int .u32 (dgN (lt s) base most : Int), .bool (dgB (lt s) base most)]) := by
  subst hv
  unfold dgN
  rw [h]
  cases b <;> simp
theorem pow_le8 (base k : Nat) (hb : base = 10 ∨ base = 16) (hk : k ≤ 8) : base ^ k ≤ 4294967296 := by
  have h1 : base ^ k ≤ 16 ^ k := Nat.pow_le_pow_left (by omega) k
  have h2 : (16 : Nat) ^ k ≤ 16 ^ 8 := Nat.pow_le_pow_right (by decide) hk
  have : (16 : Nat) ^ 8 = 4294967296 := by decide
  omega
theorem u32_wrap (x : Int) (h0 : 0 ≤ x) (h1 : x < 4294967296) : IntKind.u32.wrap x = x := by
  simp only [IntKind.wrap, IntKind.bits, IntKind.signed]
  have e : (2 : Int) ^ 32 = 4294967296 := by decide
  first
    | (rw [e]; exact Int.emod_eq_of_lt h0 h1)
    | (simp; omega)
set_option maxHeartbeats 4000000 in
set_option maxRecDepth 100000 in
/-- impl.digitsValue -/
theorem digits_any (base : Nat) (hb : base = 10 ∨ base = 16) (most : Nat) (hm : most ≤ 8) (s : ByteArray) (hA : ∀ k (h : k < s.size), s[k].toNat < 128) (w : World) :
    Calls Tryz.prog 91 #[.string s, .int .u32 (base : Int), .int .i64 (most : Int)] w fun o w' => o = .returned (.tuple #[.int .u32 (dgN (lt s) base most : Int), .bool (dgB (lt s) base most)]) ∧ Below w.heap.size w w' := by
  by_cases hl : (most : Int) < (s.size : Int)
  · have HE : Hid (dgB (lt s) base most = false) := by
      have : ¬ (lt s).length ≤ most := by rw [lt_length]; omega
      unfold Hid dgB; simp [this]
    go_enter Tryz.func91, Tryz.ntmps91
    go_wp2
    go_ret2
    exact ⟨ret_dg HE.out rfl, Below.refl _ _⟩
  · have HI := hidYY (fun c hc => digAt base hb c hc)
    have HB := hidYY (iter_below w s)
    have HA := hidYY hA
    have hb1 : (base : Int) ≤ 16 := by omega
    have hb2 : (0 : Int) ≤ (base : Int) := by omega
    have hb3 : base ≤ 16 := by omega
    have HPW := hidYY (fun k hk => pow_le8 base k hb hk)
    clear hA hb
    go_enter Tryz.func91, Tryz.ntmps91
    go_wp2
    go_loopw [8] (fun v w' => ∃ k : Nat, k ≤ s.size ∧ w' = w.iter s k ∧ v = .int .u32 (valN ((lt s).take k) base : Int) ∧ (((lt s).take k).all fun c => decide (hexN c < base)) = true) (fun _ w' => s.size - w'.iterPos w.heap.size)
    case atStart => exact ⟨0, Nat.zero_le _, rfl, rfl, by simp⟩
    case round =>
      obtain ⟨k, hk, rfl, rfl, ha⟩ := hrel
      have HAL := hidYY ha
      clear ha
      by_cases hlt : k < s.size
      · have hc := HA.out k hlt
        have hnx : ∀ ty, (Instr.next (.pointer (some ⟨w.heap.size, 0, none⟩)) true ty).run Tryz.prog (w.iter s k) = _ := fun ty => run_next_ascii w s k ty hlt hc
        have HX := hidYY (HI.out s[k].toNat hc)
        by_cases hx : hexN s[k].toNat < base
        · rw [if_pos hx] at HX
          have HN := hidYY (num_snoc hlt HAL.out hx)
          have HV : Hid (valN ((lt s).take (k + 1)) base = valN ((lt s).take k) base * base + hexN s[k].toNat) := by
            unfold Hid
            rw [take_at _ k (by rw [lt_length]; exact hlt), valN_snoc, lt_at s k hlt]
          have hlt2 : valN ((lt s).take (k + 1)) base < 4294967296 := by
            have h1 := valN_lt ((lt s).take (k + 1)) base (fun c hc => by have := List.all_eq_true.1 HN.out c hc; simpa using this)
            have h2 := HPW.out ((lt s).take (k + 1)).length (by rw [List.length_take, lt_length]; omega)
            omega
          rw [HV.out] at hlt2
          have hv1 : (valN ((lt s).take k) base : Int) * (base : Int) + (hexN s[k].toNat : Int) < 4294967296 := by
            have : ((valN ((lt s).take k) base * base + hexN s[k].toNat : Nat) : Int) < 4294967296 := by omega
            simpa using this
          have hv0 : 0 ≤ (valN ((lt s).take k) base : Int) * (base : Int) := Int.mul_nonneg (by omega) (by omega)
          have hX0 := hexN_le s[k].toNat
          have hw1 : IntKind.u32.wrap ((valN ((lt s).take k) base : Int) * (base : Int)) = (valN ((lt s).take k) base : Int) * (base : Int) := u32_wrap _ hv0 (by omega)
          have hw2 : IntKind.u32.wrap ((valN ((lt s).take k) base : Int) * (base : Int) + (hexN s[k].toNat : Int)) = (valN ((lt s).take k) base : Int) * (base : Int) + (hexN s[k].toNat : Int) := u32_wrap _ (by omega) hv1
          have hw3 : IntKind.u32.wrap (hexN s[k].toNat : Int) = (hexN s[k].toNat : Int) := u32_wrap _ (by omega) (by omega)
          clear hlt2 hv0 hv1
          generalize valN ((lt s).take k) base = V at *
          generalize hexN s[k].toNat = X at *
          generalize hM : (V : Int) * (base : Int) = MM at *
          go_wp2_with (first | (go_at_call 105; refine (HX.out _).mono ?_; rintro o w1 ⟨rfl, rfl⟩))
          go_roundw
          case rel => exact ⟨k + 1, by omega, rfl, by rw [HV.out]; simp [hM], HN.out⟩
          case measure => simp; omega
        · rw [if_neg hx] at HX
          have HE := hidYY (dg_bad (most := most) hlt hx)
          go_wp2_with (first | (go_at_call 105; refine (HX.out _).mono ?_; rintro o w1 ⟨rfl, rfl⟩))
          go_ret2
          exact ⟨ret_dg HE.out rfl, HB.out _⟩
      · have hnx : ∀ ty, (Instr.next (.pointer (some ⟨w.heap.size, 0, none⟩)) true ty).run Tryz.prog (w.iter s k) = _ := fun ty => run_next_end w s k ty hlt
        have HE := hidYY (dg_all (most := most) (by omega) (by omega : s.size ≤ k) HAL.out)
        have HT : Hid ((lt s).take k = lt s) := List.take_of_length_le (by rw [lt_length]; omega)
        go_wp2
        go_ret2
        exact ⟨ret_dg HE.out (by rw [HT.out]; rfl), HB.out _⟩
theorem Tryz.info5 : (Tryz.prog.info? 5).map (fun i => (i.zero, i.size, i.bytes)) = some (some (.int .u8 0), 1, 1) := by kernel_rfl
def bv (l : List Nat) : List Value := l.map fun x : Nat => Value.int .u8 (x : Int)
theorem bv_at (l : List Nat) (j : Nat) (h : j < l.length) : (bv l)[j]? = some (Value.int .u8 (l[j] : Int)) := by simp [bv, h]
/-- a row of bytes of its own -/
def ownsB (w : World) (B : Nat) (v : Value) (l : List Nat) : Prop := w.ownsRow B 5 1 v l.length (bv l)
theorem ownB_none (w : World) (B : Nat) : ownsB w B (.slice none 0 0) [] := ⟨rfl, .inl ⟨rfl, rfl⟩⟩
theorem app_byte {ops : Array Oper} {rest : List Oper} {o : Oper} {a : Act} {Q : Exit → Act → World → Prop} (w0 wr : World) (hgd : o.guard = none) (s x : Operand)
    (ho : o.op = .call { callee := .builtin .append, args := #[s, x], argTypes := #[63, 63] })
    (B : Nat) (v : Value) (l : List Nat) (c : Nat) (ci : Int) (hci : ci = (c : Int)) (hs : a.eval s = v) (hown : ownsB wr B v l)
    (hx : a.eval x = .slice (some ⟨wr.heap.size, 0, none⟩) 1 1) (hlen : l.length ≤ 1000000) (hB : B ≤ wr.heap.size) (hbel : Below B w0 wr)
    (h : ∀ v' w', ownsB w' B v' (l ++ [c]) → Below B w0 w' → B ≤ w'.heap.size → wpList Tryz.prog ops Q rest (a.put o.dst v') w') :
    wpList Tryz.prog ops Q (o :: rest) a (wr.alloc (.cells #[.int .u8 ci] 5)) := by
  subst hci
  obtain ⟨i0, hi, hz0, hz1, hz2⟩ := info_parts Tryz.info5
  refine wpList_append_own _ hgd s x 63 ho B 5 i0 (.int .u8 0) 1 1 Tryz.underlying63 hi hz0 hz1 hz2 rfl (by decide) v l.length (bv l) hs (World.ownsRow.alloc hown _) ⟨wr.heap.size, 0, none⟩ 1 1 [.int .u8 (c : Int)] hx rfl ?_ ?_ ?_ ?_ ?_ ?_
  · intro j u hj
    match j, hj with
    | 0, hj => simp at hj; subst hj; simp [Addr.add]
  · intro u hu; simp at hu; subst hu; rfl
  · unfold maxLen; omega
  · omega
  · simp; omega
  · intro v' w' ho' hg _
    have hr : ∀ k, v.ownBlock = some k → B ≤ k := fun k hk => (World.ownsRow.lt hown k hk).1
    refine h v' w' ?_ ((hbel.alloc hB _).grown hg (by simp; omega) hr) (Nat.le_trans (by simp; omega) hg.size)
    have e1 : bv (l ++ [c]) = bv l ++ [.int .u8 (c : Int)] := by simp [bv]
    unfold ownsB
    rw [e1, List.length_append]
    exact ho'
theorem ownsB.otherBlock {w w' : World} {B : Nat} {v : Value} {l : List Nat} (h : ownsB w B v l) (hk : ∀ g, v.ownBlock = some g → w'.heap[g]? = w.heap[g]?) : ownsB w' B v l := by
  obtain ⟨h1, h2 | ⟨g, cap, cur, rfl, hb, hh, rest⟩⟩ := h
  · exact ⟨h1, .inl h2⟩
  · exact ⟨h1, .inr ⟨g, cap, cur, rfl, hb, (hk g (by simp [Value.ownBlock])).trans hh, rest⟩⟩
theorem ownsB.below {w w' : World} {B : Nat} {v : Value} {l : List Nat} (h : ownsB w B v l) (hb : Below w.heap.size w w') : ownsB w' B v l :=
  h.otherBlock fun g hg => hb.block g (World.ownsRow.lt h g hg).2
/-- the k-th pair of letters, as a byte -/
def byteAt (s : ByteArray) (k : Nat) : Nat := valN (lt (s.extract (2 * k) (2 * k + 2))) 16
def dtK (s : ByteArray) (k : Nat) : List Nat := (List.range k).map (byteAt s)
theorem dtK_len (s : ByteArray) (k : Nat) : (dtK s k).length = k := by simp [dtK]
theorem dtK_succ (s : ByteArray) (k : Nat) : dtK s (k + 1) = dtK s k ++ [byteAt s k] := by simp [dtK, List.range_succ]
def datL (s : ByteArray) : List Nat := if (s.toList == wDash) = true then [] else dtK s (s.size / 2)
theorem lt_extract (s : ByteArray) (a b : Nat) : lt (s.extract a b) = ((lt s).drop a).take (b - a) := by
  unfold lt
  rw [piece_extract]
  simp [piece, List.map_drop, List.map_take]
theorem pair_lt (s : ByteArray) (k : Nat) (h : 2 * k + 2 ≤ s.size) : ∃ (h1 : 2 * k < s.size) (h2 : 2 * k + 1 < s.size), lt (s.extract (2 * k) (2 * k + 2)) = [s[2 * k].toNat, s[2 * k + 1].toNat] := by
  have h1 : 2 * k < s.size := by omega
  have h2 : 2 * k + 1 < s.size := by omega
  have hl := lt_length s
  refine ⟨h1, h2, ?_⟩
  rw [lt_extract, show 2 * k + 2 - 2 * k = 2 by omega, List.drop_eq_getElem_cons (by omega), List.drop_eq_getElem_cons (by omega)]
  simp only [List.take_succ_cons, List.take_zero]
  rw [lt_at s (2 * k) h1, lt_at s (2 * k + 1) h2]
theorem byteAt_lt (s : ByteArray) (k : Nat) (h : dgB (lt (s.extract (2 * k) (2 * k + 2))) 16 2 = true) : byteAt s k < 256 := by
  unfold dgB at h
  rw [Bool.and_eq_true, decide_eq_true_eq] at h
  have h1 := valN_lt (lt (s.extract (2 * k) (2 * k + 2))) 16 (fun c hc => by have := List.all_eq_true.1 h.2 c hc; simpa using this)
  have h2 : (16 : Nat) ^ (lt (s.extract (2 * k) (2 * k + 2))).length ≤ 16 ^ 2 := Nat.pow_le_pow_right (by decide) h.1
  unfold byteAt
  omega
/-- the pairs before k are digits -/
theorem pairs_all (s : ByteArray) (he : s.size % 2 = 0) (hs : 1 ≤ s.size) (hm : s.size ≤ 16) (h : ∀ k, 2 * k < s.size → dgB (lt (s.extract (2 * k) (2 * k + 2))) 16 2 = true) : numB (lt s) 16 16 = true := by
  refine numB_all hs hm (Nat.le_refl _) ?_
  rw [List.take_of_length_le (by rw [lt_length]; exact Nat.le_refl _), List.all_eq_true]
  intro x hx
  obtain ⟨j, hj, rfl⟩ := List.getElem_of_mem hx
  have hj' : j < s.size := by rw [← lt_length s]; exact hj
  have hp := h (j / 2) (by omega)
  obtain ⟨h1, h2, e⟩ := pair_lt s (j / 2) (by omega)
  rw [e] at hp
  unfold dgB at hp
  simp only [List.all_cons, List.all_nil, Bool.and_true, Bool.and_eq_true, decide_eq_true_eq] at hp
  rw [lt_at s j hj']
  simp only [decide_eq_true_eq]
  rcases Nat.mod_two_eq_zero_or_one j with h0 | h0
  · have : j = 2 * (j / 2) := by omega
    have e2 : s[j] = s[2 * (j / 2)] := by congr 1
    rw [e2]; exact hp.2.1
  · have : j = 2 * (j / 2) + 1 := by omega
    have e2 : s[j] = s[2 * (j / 2) + 1] := by congr 1
    rw [e2]; exact hp.2.2
theorem pairs_bad (s : ByteArray) (k : Nat) (hk : 2 * k + 2 ≤ s.size) (h : dgB (lt (s.extract (2 * k) (2 * k + 2))) 16 2 = false) : numB (lt s) 16 16 = false := by
  obtain ⟨h1, h2, e⟩ := pair_lt s k hk
  rw [e] at h
  by_cases a1 : hexN s[2 * k].toNat < 16
  · by_cases a2 : hexN s[2 * k + 1].toNat < 16
    · simp [dgB, a1, a2] at h
    · exact numB_bad h2 a2
  · exact numB_bad h1 a1
theorem ownsB.slice {w : World} {B : Nat} {v : Value} {l : List Nat} (h : ownsB w B v l) : ∃ ao cp, v = .slice ao l.length cp := by
  obtain ⟨_, ⟨h2, h3⟩ | ⟨g, cap, cur, h2, hb, hh, hc, rest⟩⟩ := h
  · exact ⟨none, 0, by rw [h2, h3]⟩
  · exact ⟨_, cap, h2⟩
theorem form_d (s : ByteArray) : formB 100 s = ((s.toList == wDash) || (decide (s.size % 2 = 0) && numB (lt s) 16 16)) := by
  unfold formB
  rw [if_neg (by decide), if_neg (by decide), if_neg (by decide), if_neg (by decide), if_neg (by decide)]
theorem ret_pb {v : Value} {x y : Bool} (h : x = y) : Ending.returned (.tuple #[v, .bool x]) = Ending.returned (.tuple #[v, .bool y]) := by rw [h]
theorem numB_long {s : ByteArray} {base most : Nat} (h : ¬ s.size ≤ most) : numB (lt s) base most = false := by
  have : ¬ (lt s).length ≤ most := by rw [lt_length]; exact h
  unfold numB; simp [this]
set_option maxHeartbeats 4000000 in
set_option maxRecDepth 20000 in
/-- impl.dataOf -/
theorem dataOf_any (s : ByteArray) (hs1 : 1 ≤ s.size) (hs : s.size ≤ 20000) (hA : ∀ k (h : k < s.size), s[k].toNat < 128) (w : World) :
    Calls Tryz.prog 92 #[.string s] w fun o w' => ∃ ao n cp, o = .returned (.tuple #[.slice ao n cp, .bool (formB 100 s)]) ∧ (formB 100 s = true → ownsB w' w.heap.size (.slice ao n cp) (datL s)) ∧ Below w.heap.size w w' := by
  have eF := form_d s
  cases hd : (s.toList == wDash)
  · rw [hd, Bool.false_or] at eF
    have eD : datL s = dtK s (s.size / 2) := by unfold datL; rw [hd]; rfl
    by_cases he : s.size % 2 = 0
    · have hm : (s.size : Int).tmod 2 = 0 := by have e : (s.size : Int).tmod 2 = ((s.size % 2 : Nat) : Int) := rfl; omega
      by_cases hl : (16 : Int) < (s.size : Int)
      · have HF : Hid (false = formB 100 s) := by unfold Hid; rw [eF, numB_long (by omega)]; simp
        clear eF eD
        go_enter Tryz.func92, Tryz.ntmps92
        go_wp2
        go_ret2
        exact ⟨_, _, _, ret_pb HF.out, fun h => absurd (HF.out.trans h) (by decide), Below.refl _ _⟩
      · have HX : Hid (∀ k, 2 * k + 2 ≤ s.size → ∀ w, Calls Tryz.prog 91 #[.string (s.extract (2 * k) (2 * k + 2)), .int .u32 16, .int .i64 2] w fun o w' => o = .returned (.tuple #[.int .u32 (dgN (lt (s.extract (2 * k) (2 * k + 2))) 16 2 : Int), .bool (dgB (lt (s.extract (2 * k) (2 * k + 2))) 16 2)]) ∧ Below w.heap.size w w') := by
          intro k hk w
          obtain ⟨h1, h2, e⟩ := pair_lt s k hk
          refine digits_any 16 (.inr rfl) 2 (by decide) _ (fun j hj => ?_) w
          have hj2 : j < (lt (s.extract (2 * k) (2 * k + 2))).length := by rw [lt_length]; exact hj
          rw [← lt_at _ j hj hj2]
          have hm := List.getElem_mem hj2
          generalize (lt (s.extract (2 * k) (2 * k + 2)))[j] = c at *
          rw [e] at hm
          simp only [List.mem_cons, List.not_mem_nil, or_false] at hm
          rcases hm with rfl | rfl
          · exact hA _ _
          · exact hA _ _
        have HF : Hid (∀ b, numB (lt s) 16 16 = b → b = formB 100 s) := by intro b hb; rw [eF, hb]; simp [he]
        have HD := hidYY eD
        have HE := hidYY he
        clear eF eD hA
        go_enter Tryz.func92, Tryz.ntmps92
        go_wp2
        go_loopw [4, 5] (fun v i wr => ∃ k K : Nat, Hid (K = 2 * k) ∧ K ≤ s.size ∧ i = .int .i64 (K : Int) ∧ ownsB wr w.heap.size v (dtK s k) ∧ Below w.heap.size w wr ∧ ∀ j, j < k → dgB (lt (s.extract (2 * j) (2 * j + 2))) 16 2 = true) (fun _ i _ => s.size - (intOf i).toNat)
        case atStart => exact ⟨0, 0, rfl, Nat.zero_le _, rfl, ownB_none _ _, Below.refl _ _, fun j hj => by omega⟩
        case round =>
          obtain ⟨k, K, HKK, hk, rfl, own, bel, hal⟩ := hrel
          have HO := hidYY own
          have HB := hidYY bel
          have HAL := hidYY hal
          clear own bel hal
          by_cases hlt : K < s.size
          · have hk2 : 2 * k + 2 ≤ s.size := by have := HKK.out; have := HE.out; omega
            have hK2 : K + 2 ≤ s.size := by have := HKK.out; omega
            have HXk := hidYY (HX.out k hk2)
            have HLK : Hid ((dtK s k).length ≤ 1000000) := by unfold Hid; rw [dtK_len]; omega
            cases hg : dgB (lt (s.extract (2 * k) (2 * k + 2))) 16 2
            · rw [hg] at HXk
              have HZ := hidYY (HF.out false (pairs_bad s k hk2 hg))
              rw [← HKK.out] at HXk
              clear hk2 hg
              go_wp2_with (first | (go_at_call 91; refine (HXk.out _).mono ?_; rintro o w1 ⟨rfl, b1⟩; have HB1 := hidYY (HB.out.trans (b1.mono HB.out.size)); clear b1))
              go_ret2
              exact ⟨_, _, _, ret_pb HZ.out, fun h => absurd (HZ.out.trans h) (by decide), HB1.out⟩
            · rw [hg] at HXk
              have eN : dgN (lt (s.extract (2 * k) (2 * k + 2))) 16 2 = byteAt s k := by unfold dgN byteAt; rw [if_pos hg]
              have hby := byteAt_lt s k hg
              rw [eN] at HXk
              have HS := hidYY (dtK_succ s k)
              have HAL2 : Hid (∀ j, j < k + 1 → dgB (lt (s.extract (2 * j) (2 * j + 2))) 16 2 = true) := by
                intro j hj
                by_cases e : j = k
                · subst e; exact hg
                · exact HAL.out j (by omega)
              rw [← HKK.out] at HXk
              clear eN hg hk2
              generalize byteAt s k = by_ at *
              have hw : IntKind.u8.wrap (by_ : Int) = (by_ : Int) := by
                simp only [IntKind.wrap, IntKind.bits, IntKind.signed]
                simp
                omega
              go_wp2_with (first
                | (go_at_call 91; refine (HXk.out _).mono ?_; rintro o w1 ⟨rfl, b1⟩; have HB1 := hidYY (HB.out.trans (b1.mono HB.out.size)); have HO1 := hidYY (HO.out.below b1); clear b1)
                | (at_builtin; refine app_byte w w1 rfl (.tmp 36) (.tmp 39) rfl w.heap.size _ (dtK s k) by_ _ rfl rfl HO1.out rfl HLK.out HB1.out.size HB1.out ?_))
              intro v1 w2 ho2 hb2 hz2
              go_wp2
              go_roundw
              case rel => exact ⟨k + 1, K + 2, by have := HKK.out; unfold Hid; omega, by omega, by go_num, by rw [HS.out]; exact ho2, hb2, HAL2.out⟩
              case measure => simp [intOf]; omega
          · have HZ := hidYY (HF.out true (pairs_all s HE.out hs1 (by omega) (fun j hj => HAL.out j (by have := HKK.out; omega))))
            have HK : Hid (dtK s k = datL s) := by unfold Hid; rw [HD.out]; congr 1; have := HKK.out; omega
            obtain ⟨ao, cp, rfl⟩ := HO.out.slice
            go_wp2
            go_ret2
            exact ⟨_, _, _, ret_pb HZ.out, fun _ => by rw [← HK.out]; exact HO.out, HB.out⟩
    · have hm : (s.size : Int).tmod 2 = 1 := by have e : (s.size : Int).tmod 2 = ((s.size % 2 : Nat) : Int) := rfl; omega
      have HF : Hid (false = formB 100 s) := by unfold Hid; rw [eF]; simp [he]
      clear eF eD
      go_enter Tryz.func92, Tryz.ntmps92
      go_wp2
      go_ret2
      exact ⟨_, _, _, ret_pb HF.out, fun h => absurd (HF.out.trans h) (by decide), Below.refl _ _⟩
  · have HF : Hid (true = formB 100 s) := by unfold Hid; rw [eF, hd]; rfl
    have HD : Hid (datL s = []) := by unfold Hid datL; rw [hd]; rfl
    clear eF
    go_enter Tryz.func92, Tryz.ntmps92
    go_wp2
    go_ret2
    exact ⟨_, _, _, ret_pb HF.out, fun _ => by rw [HD.out]; exact ownB_none _ _, Below.refl _ _⟩
end Go.Proofs.YtfbeaekddgpmmaaGreatDoor
