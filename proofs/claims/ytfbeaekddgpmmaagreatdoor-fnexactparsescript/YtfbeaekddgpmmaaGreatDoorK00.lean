import Derived.Test.YtfbeaekddgpmmaaGreatDoorProg
import Derived.WalkKit
import Derived.WalkSpells
import Derived.WalkLawsBesides
import Derived.Deep.QuietTactic
import Derived.BigQuiet
import Derived.Below
namespace Go.Proofs.YtfbeaekddgpmmaaGreatDoor
open Go.RowKit
theorem hidYY {p : Prop} (h : p) : Hid p := h
theorem ret_bool {x y : Bool} (h : x = y) : Ending.returned (.bool x) = Ending.returned (.bool y) := by rw [h]
theorem ret_int {x y : Int} (h : x = y) : Ending.returned (.int .i64 x) = Ending.returned (.int .i64 y) := by rw [h]
/-- the letters of a text -/
def lt (s : ByteArray) : List Nat := s.data.toList.map UInt8.toNat
def strN (l : List Nat) : ByteArray := ⟨(l.map UInt8.ofNat).toArray⟩
theorem lt_length (s : ByteArray) : (lt s).length = s.size := by simp [lt]
theorem lt_at (s : ByteArray) (k : Nat) (h : k < s.size) (h' : k < (lt s).length) : (lt s)[k] = s[k].toNat := by simp only [lt, List.getElem_map]; rfl
theorem take_at (l : List Nat) (k : Nat) (h : k < l.length) : l.take (k + 1) = l.take k ++ [l[k]] := List.take_succ_eq_append_getElem h
/-- a letter that a script may hold -/
def okC (c : Nat) : Bool := c == 10 || (decide (32 ≤ c) && decide (c ≤ 126))
def okTx (s : ByteArray) : Bool := decide (s.size ≤ 20000) && (lt s).all okC
theorem okTx_long {s : ByteArray} (h : ¬ s.size ≤ 20000) : okTx s = false := by simp [okTx, h]
theorem okTx_bad {s : ByteArray} {k : Nat} (hk : k < s.size) (h : okC s[k].toNat = false) : okTx s = false := by
  have : (lt s).all okC = false := by
    rw [List.all_eq_false]
    exact ⟨s[k].toNat, by rw [← lt_at s k hk (by rw [lt_length]; exact hk)]; exact List.getElem_mem _, by simp [h]⟩
  simp [okTx, this]
theorem okTx_all {s : ByteArray} (h : s.size ≤ 20000) (k : Nat) (hk : s.size ≤ k) (ha : ((lt s).take k).all okC = true) : okTx s = true := by
  rw [List.take_of_length_le (by rw [lt_length]; exact hk)] at ha
  simp [okTx, h, ha]
theorem all_snoc {s : ByteArray} {k : Nat} (hk : k < s.size) (ha : ((lt s).take k).all okC = true) (h : okC s[k].toNat = true) : ((lt s).take (k + 1)).all okC = true := by
  rw [take_at _ k (by rw [lt_length]; exact hk), lt_at s k hk, List.all_append, ha]
  simp [h]
set_option maxHeartbeats 1000000 in
/-- spec.l6okText -/
theorem okText_any (s : ByteArray) (w : World) :
    Calls Tryz.prog 9 #[.string s] w fun o w' => o = .returned (.bool (okTx s)) ∧ w = w' := by
  by_cases hl : (20000 : Int) < (s.size : Int)
  · have e : okTx s = false := okTx_long (by omega)
    rw [e]
    go_enter Tryz.func9, Tryz.ntmps9
    go_wp2
    go_ret
    exact ⟨rfl, rfl⟩
  · go_enter Tryz.func9, Tryz.ntmps9
    go_wp2
    go_loop [3] (fun i => ∃ k : Nat, k ≤ s.size ∧ i = .int .i64 (k : Int) ∧ ((lt s).take k).all okC = true) (fun i => s.size - (intOf i).toNat)
    case atStart => exact ⟨0, Nat.zero_le _, rfl, by simp⟩
    case round =>
      obtain ⟨k, hk, rfl, ha⟩ := hrel
      by_cases hlt : k < s.size
      · have HA := hidYY ha
        cases hc : okC s[k].toNat
        · have e : okTx s = false := okTx_bad hlt hc
          have HE := hidYY e
          simp only [okC, Bool.or_eq_false_iff, Bool.and_eq_false_iff, beq_eq_false_iff_ne, decide_eq_false_iff_not] at hc
          obtain ⟨c0, c1⟩ := hc
          have d0 : ((s[k].toNat : Int) != 10) = true := by simp only [bne_iff_ne]; omega
          clear ha e
          by_cases hlo : (s[k].toNat : Int) < 32
          · go_wp2
            go_ret
            exact ⟨ret_bool HE.out.symm, rfl⟩
          · have hhi : (126 : Int) < (s[k].toNat : Int) := by omega
            go_wp2
            go_ret
            exact ⟨ret_bool HE.out.symm, rfl⟩
        · have HN := hidYY (all_snoc hlt ha hc)
          simp only [okC, Bool.or_eq_true, Bool.and_eq_true, beq_iff_eq, decide_eq_true_eq] at hc
          clear ha
          by_cases h10 : s[k].toNat = 10
          · have d0 : ((s[k].toNat : Int) != 10) = false := by rw [h10]; rfl
            go_wp2
            go_round
            case rel => exact ⟨k + 1, by omega, by go_num, HN.out⟩
            case measure => simp [intOf]; omega
          · have d0 : ((s[k].toNat : Int) != 10) = true := by simp only [bne_iff_ne]; omega
            have hlo : ¬ (s[k].toNat : Int) < 32 := by omega
            have hhi : ¬ (126 : Int) < (s[k].toNat : Int) := by omega
            go_wp2
            go_round
            case rel => exact ⟨k + 1, by omega, by go_num, HN.out⟩
            case measure => simp [intOf]; omega
      · have HE := hidYY (okTx_all (by omega) k (by omega) ha)
        clear ha
        go_wp2
        go_ret
        exact ⟨ret_bool HE.out.symm, rfl⟩
/-- the value of a hexadecimal letter, or 99 -/
def hexN (c : Nat) : Nat := if 48 ≤ c ∧ c ≤ 57 then c - 48 else if 97 ≤ c ∧ c ≤ 102 then c - 97 + 10 else 99
theorem hexN_le (c : Nat) : hexN c ≤ 99 := by
  unfold hexN
  split
  · omega
  · split <;> omega
theorem hex_any (c : Nat) (hc : c < 256) (w : World) : Calls Tryz.prog 45 #[.int .u8 (c : Int)] w fun o w' => o = .returned (.int .i64 (hexN c : Int)) ∧ w = w' := by
  by_cases h1 : 48 ≤ c
  · have g1 : (48 : Int) ≤ (c : Int) := by omega
    by_cases h2 : c ≤ 57
    · have g2 : (c : Int) ≤ 57 := by omega
      have e : hexN c = c - 48 := by unfold hexN; rw [if_pos ⟨h1, h2⟩]
      have HE : Hid ((c : Int) - 48 = (hexN c : Int)) := by unfold Hid; omega
      clear e
      go_enter Tryz.func45, Tryz.ntmps45
      go_wp2
      go_ret
      exact ⟨ret_int HE.out, rfl⟩
    · have g2 : ¬ (c : Int) ≤ 57 := by omega
      by_cases h3 : 97 ≤ c ∧ c ≤ 102
      · have e : hexN c = c - 97 + 10 := by unfold hexN; rw [if_neg (by omega), if_pos h3]
        have HE : Hid ((c : Int) - 97 + 10 = (hexN c : Int)) := by unfold Hid; omega
        have g3 : (97 : Int) ≤ (c : Int) := by omega
        have g4 : (c : Int) ≤ 102 := by omega
        clear e
        go_enter Tryz.func45, Tryz.ntmps45
        go_wp2
        go_ret
        exact ⟨ret_int HE.out, rfl⟩
      · have e : hexN c = 99 := by unfold hexN; rw [if_neg (by omega), if_neg h3]
        have HE : Hid ((99 : Int) = (hexN c : Int)) := by unfold Hid; omega
        clear e
        by_cases g3 : (97 : Int) ≤ (c : Int)
        · have g4 : ¬ (c : Int) ≤ 102 := by omega
          clear h3
          go_enter Tryz.func45, Tryz.ntmps45
          go_wp2
          go_ret
          exact ⟨ret_int HE.out, rfl⟩
        · clear h3
          go_enter Tryz.func45, Tryz.ntmps45
          go_wp2
          go_ret
          exact ⟨ret_int HE.out, rfl⟩
  · have g1 : ¬ (48 : Int) ≤ (c : Int) := by omega
    have g3 : ¬ (97 : Int) ≤ (c : Int) := by omega
    have e : hexN c = 99 := by unfold hexN; rw [if_neg (by omega), if_neg (by omega)]
    have HE : Hid ((99 : Int) = (hexN c : Int)) := by unfold Hid; omega
    clear e
    go_enter Tryz.func45, Tryz.ntmps45
    go_wp2
    go_ret
    exact ⟨ret_int HE.out, rfl⟩
/-- all letters are digits of the base, and there are 1 to most of them -/
def numB (l : List Nat) (base most : Nat) : Bool := decide (1 ≤ l.length) && decide (l.length ≤ most) && l.all fun c => decide (hexN c < base)
def valN (l : List Nat) (base : Nat) : Nat := l.foldl (fun v c => v * base + hexN c) 0
theorem valN_snoc (l : List Nat) (c base : Nat) : valN (l ++ [c]) base = valN l base * base + hexN c := by simp [valN]
theorem valN_lt (l : List Nat) (base : Nat) (h : ∀ c ∈ l, hexN c < base) : valN l base < base ^ l.length := by
  have key : ∀ (l : List Nat) (v k : Nat), (∀ c ∈ l, hexN c < base) → v < base ^ k → l.foldl (fun v c => v * base + hexN c) v < base ^ (k + l.length) := by
    intro l
    induction l with
    | nil => intro v k _ hv; simpa using hv
    | cons c l ih =>
      intro v k hl hv
      have hc := hl c (by simp)
      rw [List.foldl_cons, List.length_cons, show k + (l.length + 1) = (k + 1) + l.length by omega]
      refine ih _ _ (fun x hx => hl x (by simp [hx])) ?_
      rw [Nat.pow_succ]
      have : (v + 1) * base ≤ base ^ k * base := Nat.mul_le_mul_right _ hv
      rw [Nat.add_mul] at this
      omega
  have := key l 0 0 h (by simp)
  simpa [valN] using this
theorem valN_take_le (l : List Nat) (base k : Nat) (hb2 : base ≤ 16) (hl : l.length ≤ 8) : valN (l.take k) base ≤ 99 * 17 ^ 8 := by
  have key : ∀ (l : List Nat), valN l base + 99 ≤ 99 * 17 ^ l.length := by
    intro l
    suffices h : ∀ (l : List Nat) (v k : Nat), v + 99 ≤ 99 * 17 ^ k → l.foldl (fun v c => v * base + hexN c) v + 99 ≤ 99 * 17 ^ (k + l.length) by
      have := h l 0 0 (by simp)
      simpa [valN] using this
    intro l
    induction l with
    | nil => intro v k hv; simpa using hv
    | cons c l ih =>
      intro v k hv
      rw [List.foldl_cons, List.length_cons, show k + (l.length + 1) = (k + 1) + l.length by omega]
      refine ih _ _ ?_
      have h1 : v * base ≤ v * 16 := Nat.mul_le_mul_left _ hb2
      have h2 := hexN_le c
      rw [Nat.pow_succ]
      omega
  have h1 := key (l.take k)
  have h2 : (17 : Nat) ^ (l.take k).length ≤ 17 ^ 8 := Nat.pow_le_pow_right (by decide) (by rw [List.length_take]; omega)
  have h3 : 99 * (17 : Nat) ^ (l.take k).length ≤ 99 * 17 ^ 8 := Nat.mul_le_mul_left _ h2
  omega
theorem numB_bad {s : ByteArray} {base most k : Nat} (hk : k < s.size) (h : ¬ hexN s[k].toNat < base) : numB (lt s) base most = false := by
  have : ((lt s).all fun c => decide (hexN c < base)) = false := by
    rw [List.all_eq_false]
    exact ⟨s[k].toNat, by rw [← lt_at s k hk (by rw [lt_length]; exact hk)]; exact List.getElem_mem _, by simpa using h⟩
  simp [numB, this]
theorem numB_all {s : ByteArray} {base most k : Nat} (h1 : 1 ≤ s.size) (h2 : s.size ≤ most) (hk : s.size ≤ k) (ha : (((lt s).take k).all fun c => decide (hexN c < base)) = true) : numB (lt s) base most = true := by
  rw [List.take_of_length_le (by rw [lt_length]; exact hk)] at ha
  unfold numB
  rw [lt_length, ha]
  simp [h1, h2]
theorem num_snoc {s : ByteArray} {base k : Nat} (hk : k < s.size) (ha : (((lt s).take k).all fun c => decide (hexN c < base)) = true) (h : hexN s[k].toNat < base) : (((lt s).take (k + 1)).all fun c => decide (hexN c < base)) = true := by
  rw [take_at _ k (by rw [lt_length]; exact hk), lt_at s k hk, List.all_append, ha]
  simpa using h
set_option maxHeartbeats 1000000 in
/-- spec.l6isNum -/
theorem isNum_any (s : ByteArray) (base most : Nat) (hm : most ≤ 100) (w : World) :
    Calls Tryz.prog 44 #[.string s, .int .i64 (base : Int), .int .i64 (most : Int)] w fun o w' => o = .returned (.bool (numB (lt s) base most)) ∧ w = w' := by
  by_cases h1 : (s.size : Int) < 1
  · have HE : Hid (false = numB (lt s) base most) := by
      have : ¬ 1 ≤ (lt s).length := by rw [lt_length]; omega
      unfold Hid numB; simp [this]
    go_enter Tryz.func44, Tryz.ntmps44
    go_wp2
    go_ret
    exact ⟨ret_bool HE.out, rfl⟩
  · by_cases h2 : (most : Int) < (s.size : Int)
    · have HE : Hid (false = numB (lt s) base most) := by
        have : ¬ (lt s).length ≤ most := by rw [lt_length]; omega
        unfold Hid numB; simp [this]
      go_enter Tryz.func44, Tryz.ntmps44
      go_wp2
      go_ret
      exact ⟨ret_bool HE.out, rfl⟩
    · go_enter Tryz.func44, Tryz.ntmps44
      go_wp2
      go_loop [7] (fun i => ∃ k : Nat, k ≤ s.size ∧ i = .int .i64 (k : Int) ∧ (((lt s).take k).all fun c => decide (hexN c < base)) = true) (fun i => s.size - (intOf i).toNat)
      case atStart => exact ⟨0, Nat.zero_le _, rfl, by simp⟩
      case round =>
        obtain ⟨k, hk, rfl, ha⟩ := hrel
        by_cases hlt : k < s.size
        · have HX : Hid (∀ w, Calls Tryz.prog 45 #[.int .u8 (s[k].toNat : Int)] w fun o w' => o = .returned (.int .i64 (hexN s[k].toNat : Int)) ∧ w = w') := fun w => hex_any _ (s[k].toNat_lt) w
          by_cases hb : hexN s[k].toNat < base
          · have HN := hidYY (num_snoc hlt ha hb)
            have hb' : ¬ (base : Int) ≤ (hexN s[k].toNat : Int) := by omega
            clear ha
            go_wp2_with (first | (go_at_call 45; refine (HX.out _).mono ?_; rintro o w1 ⟨rfl, rfl⟩))
            go_round
            case rel => exact ⟨k + 1, by omega, by go_num, HN.out⟩
            case measure => simp [intOf]; omega
          · have HE := hidYY (numB_bad (most := most) hlt hb)
            have hb' : (base : Int) ≤ (hexN s[k].toNat : Int) := by omega
            clear ha
            go_wp2_with (first | (go_at_call 45; refine (HX.out _).mono ?_; rintro o w1 ⟨rfl, rfl⟩))
            go_ret
            exact ⟨ret_bool HE.out.symm, rfl⟩
        · have HE := hidYY (numB_all (most := most) (by omega) (by omega) (by omega : s.size ≤ k) ha)
          clear ha
          go_wp2
          go_ret
          exact ⟨ret_bool HE.out.symm, rfl⟩
set_option maxHeartbeats 1000000 in
/-- spec.l6value -/
theorem value_any (s : ByteArray) (base : Nat) (hb : base ≤ 16) (hs : s.size ≤ 8) (w : World) :
    Calls Tryz.prog 24 #[.string s, .int .i64 (base : Int)] w fun o w' => o = .returned (.int .i64 (valN (lt s) base : Int)) ∧ w = w' := by
  go_enter Tryz.func24, Tryz.ntmps24
  go_wp2
  go_loop [5, 6] (fun v i => ∃ k : Nat, k ≤ s.size ∧ i = .int .i64 (k : Int) ∧ v = .int .i64 (valN ((lt s).take k) base : Int)) (fun _ i => s.size - (intOf i).toNat)
  case atStart => exact ⟨0, Nat.zero_le _, rfl, rfl⟩
  case round =>
    obtain ⟨k, hk, rfl, rfl⟩ := hrel
    by_cases hlt : k < s.size
    · have HX : Hid (∀ w, Calls Tryz.prog 45 #[.int .u8 (s[k].toNat : Int)] w fun o w' => o = .returned (.int .i64 (hexN s[k].toNat : Int)) ∧ w = w') := fun w => hex_any _ (s[k].toNat_lt) w
      have hv := valN_take_le (lt s) base k hb (by rw [lt_length]; exact hs)
      have hx := hexN_le s[k].toNat
      have HN : Hid (valN ((lt s).take (k + 1)) base = valN ((lt s).take k) base * base + hexN s[k].toNat) := by
        unfold Hid
        rw [take_at _ k (by rw [lt_length]; exact hlt), valN_snoc, lt_at s k hlt]
      have hm : valN ((lt s).take k) base * base ≤ 99 * 17 ^ 8 * 16 := Nat.mul_le_mul hv hb
      have hv' : (valN ((lt s).take k) base : Int) * (base : Int) ≤ 100000000000000 := by
        have : ((valN ((lt s).take k) base * base : Nat) : Int) ≤ 100000000000000 := by omega
        simpa using this
      have hv0 : 0 ≤ (valN ((lt s).take k) base : Int) * (base : Int) := Int.mul_nonneg (by omega) (by omega)
      generalize valN ((lt s).take k) base = V at *
      generalize hexN s[k].toNat = X at *
      clear hm
      go_wp2_with (first | (go_at_call 45; refine (HX.out _).mono ?_; rintro o w1 ⟨rfl, rfl⟩))
      go_round
      case rel => exact ⟨k + 1, by omega, by go_num, by rw [HN.out]; simp⟩
      case measure => simp [intOf]; omega
    · have e : (lt s).take k = lt s := List.take_of_length_le (by rw [lt_length]; omega)
      have HE : Hid ((valN ((lt s).take k) base : Int) = (valN (lt s) base : Int)) := by unfold Hid; rw [e]
      clear e
      go_wp2
      go_ret
      exact ⟨ret_int HE.out, rfl⟩
abbrev wNode : List UInt8 := [110, 111, 100, 101]
abbrev wAccept : List UInt8 := [97, 99, 99, 101, 112, 116]
abbrev wSend : List UInt8 := [115, 101, 110, 100]
abbrev wAsk : List UInt8 := [97, 115, 107]
abbrev wDrop : List UInt8 := [100, 114, 111, 112]
abbrev wRestart : List UInt8 := [114, 101, 115, 116, 97, 114, 116]
abbrev wFetch : List UInt8 := [102, 101, 116, 99, 104]
abbrev wFlip : List UInt8 := [102, 108, 105, 112]
abbrev wRun : List UInt8 := [114, 117, 110]
/-- what the words of a line must be -/
def shapeZ (s : ByteArray) : ByteArray :=
  if (s.toList == wNode) = true then ⟨#[107, 110, 110, 112, 110]⟩ else if (s.toList == wAccept) = true then ⟨#[110, 120, 104, 104]⟩ else if (s.toList == wSend) = true then ⟨#[110, 110, 120, 104, 100]⟩
  else if (s.toList == wAsk) = true then ⟨#[110, 110, 120, 104, 110]⟩ else if (s.toList == wDrop) = true then ⟨#[110, 110]⟩ else if (s.toList == wRestart) = true then ⟨#[110]⟩ else if (s.toList == wFetch) = true then ⟨#[110]⟩
  else if (s.toList == wFlip) = true then ⟨#[110, 110, 110]⟩ else if (s.toList == wRun) = true then ⟨#[110]⟩ else ⟨#[]⟩
theorem ret_str {x y : ByteArray} (h : x = y) : Ending.returned (.string x) = Ending.returned (.string y) := by rw [h]
set_option maxHeartbeats 1000000 in
/-- spec.l6shape -/
theorem shape_any (s : ByteArray) (w : World) : Calls Tryz.prog 22 #[.string s] w fun o w' => o = .returned (.string (shapeZ s)) ∧ w = w' := by
  cases h1 : (s.toList == wNode)
  · cases h2 : (s.toList == wAccept)
    · cases h3 : (s.toList == wSend)
      · cases h4 : (s.toList == wAsk)
        · cases h5 : (s.toList == wDrop)
          · cases h6 : (s.toList == wRestart)
            · cases h7 : (s.toList == wFetch)
              · cases h8 : (s.toList == wFlip)
                · cases h9 : (s.toList == wRun)
                  · have HZ : Hid (shapeZ s = ⟨#[]⟩) := by unfold Hid shapeZ; simp only [h1, h2, h3, h4, h5, h6, h7, h8, h9, Bool.false_eq_true, if_false]
                    go_enter Tryz.func22, Tryz.ntmps22
                    go_wp2
                    go_ret
                    exact ⟨ret_str HZ.out.symm, rfl⟩
                  · have HZ : Hid (shapeZ s = ⟨#[110]⟩) := by unfold Hid shapeZ; simp only [h1, h2, h3, h4, h5, h6, h7, h8, h9, Bool.false_eq_true, if_false, if_true]
                    go_enter Tryz.func22, Tryz.ntmps22
                    go_wp2
                    go_ret
                    exact ⟨ret_str HZ.out.symm, rfl⟩
                · have HZ : Hid (shapeZ s = ⟨#[110, 110, 110]⟩) := by unfold Hid shapeZ; simp only [h1, h2, h3, h4, h5, h6, h7, h8, Bool.false_eq_true, if_false, if_true]
                  go_enter Tryz.func22, Tryz.ntmps22
                  go_wp2
                  go_ret
                  exact ⟨ret_str HZ.out.symm, rfl⟩
              · have HZ : Hid (shapeZ s = ⟨#[110]⟩) := by unfold Hid shapeZ; simp only [h1, h2, h3, h4, h5, h6, h7, Bool.false_eq_true, if_false, if_true]
                go_enter Tryz.func22, Tryz.ntmps22
                go_wp2
                go_ret
                exact ⟨ret_str HZ.out.symm, rfl⟩
            · have HZ : Hid (shapeZ s = ⟨#[110]⟩) := by unfold Hid shapeZ; simp only [h1, h2, h3, h4, h5, h6, Bool.false_eq_true, if_false, if_true]
              go_enter Tryz.func22, Tryz.ntmps22
              go_wp2
              go_ret
              exact ⟨ret_str HZ.out.symm, rfl⟩
          · have HZ : Hid (shapeZ s = ⟨#[110, 110]⟩) := by unfold Hid shapeZ; simp only [h1, h2, h3, h4, h5, Bool.false_eq_true, if_false, if_true]
            go_enter Tryz.func22, Tryz.ntmps22
            go_wp2
            go_ret
            exact ⟨ret_str HZ.out.symm, rfl⟩
        · have HZ : Hid (shapeZ s = ⟨#[110, 110, 120, 104, 110]⟩) := by unfold Hid shapeZ; simp only [h1, h2, h3, h4, Bool.false_eq_true, if_false, if_true]
          go_enter Tryz.func22, Tryz.ntmps22
          go_wp2
          go_ret
          exact ⟨ret_str HZ.out.symm, rfl⟩
      · have HZ : Hid (shapeZ s = ⟨#[110, 110, 120, 104, 100]⟩) := by unfold Hid shapeZ; simp only [h1, h2, h3, Bool.false_eq_true, if_false, if_true]
        go_enter Tryz.func22, Tryz.ntmps22
        go_wp2
        go_ret
        exact ⟨ret_str HZ.out.symm, rfl⟩
    · have HZ : Hid (shapeZ s = ⟨#[110, 120, 104, 104]⟩) := by unfold Hid shapeZ; simp only [h1, h2, Bool.false_eq_true, if_false, if_true]
      go_enter Tryz.func22, Tryz.ntmps22
      go_wp2
      go_ret
      exact ⟨ret_str HZ.out.symm, rfl⟩
  · have HZ : Hid (shapeZ s = ⟨#[107, 110, 110, 112, 110]⟩) := by unfold Hid shapeZ; simp only [h1, if_true]
    go_enter Tryz.func22, Tryz.ntmps22
    go_wp2
    go_ret
    exact ⟨ret_str HZ.out.symm, rfl⟩
set_option linter.unusedVariables false
abbrev wRef : List UInt8 := [114, 101, 102]
abbrev wOpt : List UInt8 := [111, 112, 116]
abbrev wOld : List UInt8 := [111, 108, 100]
abbrev wNew : List UInt8 := [110, 101, 119]
abbrev wB : List UInt8 := [98]
abbrev wX : List UInt8 := [120]
abbrev wDash : List UInt8 := [45]
/-- a word has the form that its kind asks for -/
def formB (c : Nat) (s : ByteArray) : Bool :=
  if c = 110 then numB (lt s) 10 6 else if c = 104 then numB (lt s) 16 8 else if c = 107 then (s.toList == wRef) || (s.toList == wOpt)
  else if c = 112 then (s.toList == wOld) || (s.toList == wNew) else if c = 120 then (s.toList == wB) || (s.toList == wX)
  else (s.toList == wDash) || (decide (s.size % 2 = 0) && numB (lt s) 16 16)
set_option maxHeartbeats 1000000 in
/-- spec.l6form -/
theorem form_any (c : Nat) (s : ByteArray) (hs : s.size ≤ 20000) (w : World) : Calls Tryz.prog 23 #[.int .u8 (c : Int), .string s] w fun o w' => o = .returned (.bool (formB c s)) ∧ w = w' := by
  by_cases h1 : c = 110
  · subst h1
    have HX : Hid (∀ w, Calls Tryz.prog 44 #[.string s, .int .i64 10, .int .i64 6] w fun o w' => o = .returned (.bool (formB 110 s)) ∧ w = w') := fun w => isNum_any s 10 6 (by decide) w
    go_enter Tryz.func23, Tryz.ntmps23
    go_wp2_with (first | (go_at_call 44; refine (HX.out _).mono ?_; rintro o w1 ⟨rfl, rfl⟩))
    go_ret
    exact ⟨rfl, rfl⟩
  have b1 : ((c : Int) == 110) = false := by simp; omega
  by_cases h2 : c = 104
  · subst h2
    have HX : Hid (∀ w, Calls Tryz.prog 44 #[.string s, .int .i64 16, .int .i64 8] w fun o w' => o = .returned (.bool (formB 104 s)) ∧ w = w') := fun w => isNum_any s 16 8 (by decide) w
    go_enter Tryz.func23, Tryz.ntmps23
    go_wp2_with (first | (go_at_call 44; refine (HX.out _).mono ?_; rintro o w1 ⟨rfl, rfl⟩))
    go_ret
    exact ⟨rfl, rfl⟩
  have b2 : ((c : Int) == 104) = false := by simp; omega
  by_cases h3 : c = 107
  · subst h3
    have HE : Hid (((s.toList == wRef) || (s.toList == wOpt)) = formB 107 s) := rfl
    clear h1 h2 b1 b2
    cases hr : (s.toList == wRef) <;> cases ho : (s.toList == wOpt) <;> rw [hr, ho] at HE
    all_goals
      go_enter Tryz.func23, Tryz.ntmps23
      go_wp2
      go_ret
      exact ⟨ret_bool HE.out, rfl⟩
  have b3 : ((c : Int) == 107) = false := by simp; omega
  by_cases h4 : c = 112
  · subst h4
    have HE : Hid (((s.toList == wOld) || (s.toList == wNew)) = formB 112 s) := rfl
    clear h1 h2 b1 b2 h3 b3
    cases hr : (s.toList == wOld) <;> cases ho : (s.toList == wNew) <;> rw [hr, ho] at HE
    all_goals
      go_enter Tryz.func23, Tryz.ntmps23
      go_wp2
      go_ret
      exact ⟨ret_bool HE.out, rfl⟩
  have b4 : ((c : Int) == 112) = false := by simp; omega
  by_cases h5 : c = 120
  · subst h5
    have HE : Hid (((s.toList == wB) || (s.toList == wX)) = formB 120 s) := rfl
    clear h1 h2 b1 b2 h3 b3 h4 b4
    cases hr : (s.toList == wB) <;> cases ho : (s.toList == wX) <;> rw [hr, ho] at HE
    all_goals
      go_enter Tryz.func23, Tryz.ntmps23
      go_wp2
      go_ret
      exact ⟨ret_bool HE.out, rfl⟩
  have b5 : ((c : Int) == 120) = false := by simp; omega
  have HE : Hid (((s.toList == wDash) || (decide (s.size % 2 = 0) && numB (lt s) 16 16)) = formB c s) := by
    unfold Hid formB; rw [if_neg h1, if_neg h2, if_neg h3, if_neg h4, if_neg h5]
  clear h1 h2 h3 h4 h5
  cases hr : (s.toList == wDash)
  · by_cases h2 : s.size % 2 = 0
    · have HX : Hid (∀ w, Calls Tryz.prog 44 #[.string s, .int .i64 16, .int .i64 16] w fun o w' => o = .returned (.bool (formB c s)) ∧ w = w') := fun w => by
        have := isNum_any s 16 16 (by decide) w
        rw [← HE.out, hr]
        simpa [h2] using this
      have hm : (s.size : Int).tmod 2 = 0 := by have e : (s.size : Int).tmod 2 = ((s.size % 2 : Nat) : Int) := rfl; omega
      clear h2
      go_enter Tryz.func23, Tryz.ntmps23
      go_wp2_with (first | (go_at_call 44; refine (HX.out _).mono ?_; rintro o w1 ⟨rfl, rfl⟩))
      go_ret
      exact ⟨rfl, rfl⟩
    · have HZ : Hid (false = formB c s) := by unfold Hid; rw [← HE.out, hr]; simp [h2]
      have hm : (s.size : Int).tmod 2 = 1 := by have e : (s.size : Int).tmod 2 = ((s.size % 2 : Nat) : Int) := rfl; omega
      clear h2 HE
      go_enter Tryz.func23, Tryz.ntmps23
      go_wp2
      go_ret
      exact ⟨ret_bool HZ.out, rfl⟩
  · have HZ : Hid (true = formB c s) := by unfold Hid; rw [← HE.out, hr]; rfl
    clear HE
    go_enter Tryz.func23, Tryz.ntmps23
    go_wp2
    go_ret
    exact ⟨ret_bool HZ.out, rfl⟩
end Go.Proofs.YtfbeaekddgpmmaaGreatDoor
