import Derived.Test.YtpknchjjfiiaeaaDoorProg
import Derived.WalkKit
import Derived.WalkSpells
import Derived.WalkLawsBesides
import Derived.Deep.QuietTactic
import Derived.BigQuiet
import Derived.Test.YtpknchjjfiiaeaaDoorR00
namespace Go.Proofs.YtpknchjjfiiaeaaDoor
open Go.RowKit
theorem ret_int {k : IntKind} {a b : Int} (h : a = b) : Ending.returned (.int k a) = .returned (.int k b) := by rw [h]
theorem ret_bool {a b : Bool} (h : a = b) : Ending.returned (.bool a) = .returned (.bool b) := by rw [h]
theorem Tryd.info60 : (Tryd.prog.info? 60).map (fun i => (i.zero, i.size, i.bytes)) = some (some (.int .u64 0), 1, 8) := by kernel_rfl
/-- the row of letters, cell by cell -/
structure rowW (w : World) (g n : Nat) (f : Nat → Nat) : Prop where
  cell : ∀ t, t < n → w.cell? ⟨g, t, none⟩ = some (.int .u64 (f t : Int))
  free : ∀ t, t < n → w.frozen? ⟨g, t, none⟩ = false
theorem rowW.of {w : World} {g n : Nat} {f f' : Nat → Nat} (h : rowW w g n f) (he : ∀ t, t < n → f t = f' t) : rowW w g n f' :=
  ⟨fun t ht => by rw [← he t ht]; exact h.cell t ht, h.free⟩
theorem rowW.set {w : World} {g n : Nat} {f f' : Nat → Nat} (h : rowW w g n f) (t0 : Nat) (ht0 : t0 < n) (x : Int) (hx : x = (f' t0 : Int)) (he : ∀ t, t < n → t ≠ t0 → f t = f' t) : rowW (w.setCell ⟨g, t0, none⟩ (.int .u64 x)).drew g n f' := by
  refine ⟨fun t ht => ?_, fun t ht => ?_⟩
  · rw [World.cell?_drew]
    by_cases e : t = t0
    · subst e
      rw [World.cell?_setCell_same _ _ _ (h.cell t ht), hx]
    · rw [World.cell?_setCell_other _ _ _ _ (by intro hh; exact e (by simpa using hh.symm)), h.cell t ht, he t ht e]
  · rw [World.frozen?_drew, World.frozen?_setCell]
    exact h.free t ht
/-- the slice v holds the letters l -/
structure isWords (w : World) (a : Option Addr) (n cap : Nat) (l : List Nat) : Prop where
  len : n = l.length
  cap : n ≤ cap
  small : ∀ x ∈ l, x < 18446744073709551616
  cells : l ≠ [] → ∃ g off, a = some ⟨g, off, none⟩ ∧ ∀ j (h : j < l.length), w.cell? ⟨g, off + j, none⟩ = some (.int .u64 (l[j] : Int))
theorem isWords.below {w w' : World} {a : Option Addr} {n cap : Nat} {l : List Nat} (h : isWords w a n cap l) (hb : Below w.heap.size w w') : isWords w' a n cap l := by
  refine ⟨h.len, h.cap, h.small, fun hl => ?_⟩
  obtain ⟨g, off, ha, hc⟩ := h.cells hl
  refine ⟨g, off, ha, fun j hj => ?_⟩
  have h1 := hc j hj
  rw [hb.cell (World.block_lt_of_cell? w _ h1)]
  exact h1
theorem rowW.set' {w : World} {g n : Nat} {f f' : Nat → Nat} (h : rowW w g n f) (t0 : Nat) (ht0 : t0 < n) (x : Int) (hx : x = (f' t0 : Int)) (he : ∀ t, t < n → t ≠ t0 → f t = f' t) : rowW (w.setCell ⟨g, t0, none⟩ (.int .u64 x)) g n f' :=
  ⟨fun t ht => by have := (h.set t0 ht0 x hx he).cell t ht; rwa [World.cell?_drew] at this, fun t ht => by rw [World.frozen?_setCell]; exact h.free t ht⟩
theorem getD_at (l : List Nat) (k : Nat) (h : k < l.length) : l.getD k 0 = l[k] := by simp [List.getD, h]
theorem bcell {W w1 : World} (hb : Below W.heap.size W w1) : (∀ b o, b < W.heap.size → w1.cell? ⟨b, o, none⟩ = W.cell? ⟨b, o, none⟩) ∧ (∀ b o, b < W.heap.size → w1.frozen? ⟨b, o, none⟩ = W.frozen? ⟨b, o, none⟩) :=
  ⟨fun b o h => hb.cell (p := ⟨b, o, none⟩) h, fun b o h => hb.frozen (p := ⟨b, o, none⟩) h⟩
theorem isWords.setOther {w : World} {g n cap : Nat} {l : List Nat} (h : isWords w (some ⟨g, 0, none⟩) n cap l) (b j : Nat) (v : Value) (hb : b ≠ g) : isWords (w.setCell ⟨b, j, none⟩ v) (some ⟨g, 0, none⟩) n cap l := by
  refine ⟨h.len, h.cap, h.small, fun hl => ?_⟩
  obtain ⟨g', off, ha, hc⟩ := h.cells hl
  refine ⟨g', off, ha, fun t ht => ?_⟩
  cases ha
  rw [World.cell?_setCell_other _ _ _ _ (by intro hh; exact hb (congrArg Addr.block hh))]
  exact hc t ht
set_option maxHeartbeats 1000000 in
theorem eqWordS_same (w : World) (a1 a2 : Option Addr) (n1 c1 n2 c2 : Nat) (l : List Nat) (h1 : isWords w a1 n1 c1 l) (h2 : isWords w a2 n2 c2 l) (hn : n1 ≤ 1048576) :
    Calls Tryd.prog 26 #[.slice a1 n1 c1, .slice a2 n2 c2] w fun o w' => o = .returned (.bool true) ∧ ∃ q, w' = w.drewN q := by
  have e1 := h1.len
  have e2 := h2.len
  by_cases hl : l = []
  · subst hl
    have e1' : n1 = 0 := e1
    have e2' : n2 = 0 := e2
    subst e1' e2'
    clear e1 e2 h1 h2
    go_enter Tryd.func26, Tryd.ntmps26
    go_wp2
    go_loopw [5] (fun i wr => i = .int .i64 0 ∧ wr = w) (fun _ _ => 0)
    case atStart => exact ⟨rfl, rfl⟩
    case round =>
      obtain ⟨rfl, rfl⟩ := hrel
      go_wp2
      go_ret
      exact ⟨rfl, 0, rfl⟩
  · obtain ⟨g1, o1, rfl, k1⟩ := h1.cells hl
    obtain ⟨g2, o2, rfl, k2⟩ := h2.cells hl
    have hnn : n2 = n1 := by omega
    subst hnn
    have hn1 : n2 ≤ l.length := by omega
    clear e1 e2 h1 h2
    go_enter Tryd.func26, Tryd.ntmps26
    go_wp2
    go_loopw [5] (fun i wr => ∃ k : Nat, k ≤ n2 ∧ i = .int .i64 k ∧ ∃ q, wr = w.drewN q) (fun i _ => n2 - (intOf i).toNat)
    case atStart => exact ⟨0, Nat.zero_le _, rfl, 0, rfl⟩
    case round =>
      obtain ⟨k, hk, rfl, q, rfl⟩ := hrel
      by_cases hlt : k < n2
      · have c1 := k1 k (by omega)
        have c2 := k2 k (by omega)
        generalize l[k] = x at *
        go_wp2
        go_quiet (fail)
        go_wp2
        go_roundw
        case rel => exact ⟨k + 1, by omega, by go_num, _, rfl⟩
        case measure => simp [intOf]; omega
      · go_wp2
        go_ret
        exact ⟨rfl, _, rfl⟩
theorem below_q {B : Nat} (w : World) (q : Nat) : Below B w (w.drewN q) := below_drewN (Below.refl _ _) q
abbrev pkV (N : Int) (a : Option Addr) (n cap : Nat) : Value := .agg #[.int .i64 N, .slice a n cap]
abbrev pkC (N : Int) (a : Option Addr) (n cap : Nat) (T : TypeId) : Obj := .cells #[.int .i64 N, .slice a n cap] T
set_option maxHeartbeats 1000000 in
set_option maxRecDepth 20000 in
theorem eqPacked_same (w : World) (N : Int) (a : Option Addr) (n cap : Nat) (l : List Nat) (h : isWords w a n cap l) (a' : Option Addr) (n' cap' : Nat) (h' : isWords w a' n' cap' l) (hn : n ≤ 1048576) :
    Calls Tryd.prog 9 #[pkV N a n cap, pkV N a' n' cap'] w fun o w' => o = .returned (.bool true) ∧ Below w.heap.size w w' := by
  have HH : Hid (isWords w a n cap l) := h
  have HH' : Hid (isWords w a' n' cap' l) := h'
  clear h h'
  have hD : (N != N) = false := by simp
  have hbl : Below w.heap.size w ((w.alloc (pkC N a n cap 29)).alloc (pkC N a' n' cap' 29)) := ((Below.refl _ _).alloc (Nat.le_refl _) _).alloc (by simp) _
  have HB : Hid (Below w.heap.size w ((w.alloc (pkC N a n cap 29)).alloc (pkC N a' n' cap' 29))) := hbl
  clear hbl
  go_enter Tryd.func9, Tryd.ntmps9
  go_wp2_with (first | (go_at_call 26; refine (eqWordS_same _ _ _ _ _ _ _ l (HH.out.below HB.out) (HH'.out.below HB.out) hn).mono ?_; rintro o w1 ⟨rfl, q, rfl⟩))
  go_ret
  exact ⟨rfl, below_drewN HB.out q⟩
end Go.Proofs.YtpknchjjfiiaeaaDoor
namespace Go.Proofs.YtpknchjjfiiaeaaDoor.J
open Go.RowKit
theorem ret_int {k : IntKind} {a b : Int} (h : a = b) : Ending.returned (.int k a) = .returned (.int k b) := by rw [h]
theorem ret_bool {a b : Bool} (h : a = b) : Ending.returned (.bool a) = .returned (.bool b) := by rw [h]
/-- one letter of a bit text -/
def okC (c : UInt8) : Bool := c == 48 || c == 49
/-- a bit text of at most m letters -/
def okT (s : ByteArray) (m : Int) : Bool := decide ((s.size : Int) ≤ m) && s.data.toList.all okC
theorem take_snoc (s : ByteArray) (k : Nat) (h : k < s.size) : s.data.toList.take (k + 1) = s.data.toList.take k ++ [s[k]] := by
  rw [List.take_succ_eq_append_getElem (by simpa using h)]; rfl
theorem okT_long {s : ByteArray} {m : Int} (h : ¬ (s.size : Int) ≤ m) : okT s m = false := by simp [okT, h]
theorem okT_all {s : ByteArray} {m : Int} (h : (s.size : Int) ≤ m) (k : Nat) (hk : s.size ≤ k) (ha : (s.data.toList.take k).all okC = true) : okT s m = true := by
  rw [List.take_of_length_le (by simpa using hk)] at ha
  simp [okT, h, ha]
theorem okT_bad {s : ByteArray} {m : Int} (k : Nat) (hk : k < s.size) (hb : okC s[k] = false) : okT s m = false := by
  have : s.data.toList.all okC = false := by
    rw [List.all_eq_false]
    exact ⟨s[k], by rw [Array.mem_toList_iff]; exact Array.getElem_mem (xs := s.data) (i := k) hk, by simpa using hb⟩
  simp [okT, this]
theorem ok_snoc {s : ByteArray} {k : Nat} (hk : k < s.size) (ha : (s.data.toList.take k).all okC = true) (hc : okC s[k] = true) : (s.data.toList.take (k + 1)).all okC = true := by
  rw [take_snoc s k hk, List.all_append, ha]; simp [hc]
theorem okC_of (c : UInt8) (h : (c.toNat : Int) = 48 ∨ (c.toNat : Int) = 49) : okC c = true := by
  unfold okC
  rcases h with h | h
  · have : c = 48 := UInt8.toNat_inj.1 (by simpa using (by omega : c.toNat = 48))
    simp [this]
  · have : c = 49 := UInt8.toNat_inj.1 (by simpa using (by omega : c.toNat = 49))
    simp [this]
theorem okC_not (c : UInt8) (h : ¬ (c.toNat : Int) = 48) (h' : ¬ (c.toNat : Int) = 49) : okC c = false := by
  unfold okC
  have a : (c == 48) = false := by
    rw [beq_eq_false_iff_ne]; intro e; subst e; exact h rfl
  have b : (c == 49) = false := by
    rw [beq_eq_false_iff_ne]; intro e; subst e; exact h' rfl
  simp [a, b]
theorem okC_val {c : UInt8} (h : okC c = true) : c.toNat = 48 ∨ c.toNat = 49 := by
  unfold okC at h
  simp at h
  rcases h with h | h <;> subst h
  · exact .inl rfl
  · exact .inr rfl
set_option maxHeartbeats 400000 in
theorem okBits_any (s : ByteArray) (m : Int) (w : World) (hs : s.size ≤ maxLen) :
    Calls Tryd.prog 34 #[.string s, .int .i64 m] w fun e w' => e = .returned (.bool (okT s m)) ∧ w = w' := by
  unfold maxLen at hs
  by_cases hm : (s.size : Int) ≤ m
  · go_enter Tryd.func34, Tryd.ntmps34
    go_wp2
    go_loop [5] (fun i => ∃ k : Nat, k ≤ s.size ∧ i = .int .i64 k ∧ (s.data.toList.take k).all okC = true) (fun i => s.size - (intOf i).toNat)
    case atStart => exact ⟨0, Nat.zero_le _, rfl, rfl⟩
    case round =>
      obtain ⟨k, hk, rfl, ha⟩ := hrel
      have HA : Hid ((s.data.toList.take k).all okC = true) := ha
      clear ha
      by_cases hlt : k < s.size
      · by_cases h0 : (s[k].toNat : Int) = 48
        · go_wp2
          go_round
          case rel => exact ⟨k + 1, by omega, by go_num, ok_snoc hlt HA.out (okC_of _ (.inl h0))⟩
          case measure => simp [intOf]; omega
        · by_cases h1 : (s[k].toNat : Int) = 49
          · go_wp2
            go_round
            case rel => exact ⟨k + 1, by omega, by go_num, ok_snoc hlt HA.out (okC_of _ (.inr h1))⟩
            case measure => simp [intOf]; omega
          · have hb := okT_bad (m := m) k hlt (okC_not _ h0 h1)
            have b0 : ((s[k].toNat : Int) != 48) = true := by simpa using h0
            have b1 : ((s[k].toNat : Int) != 49) = true := by simpa using h1
            have HB : Hid (okT s m = false) := hb
            clear hb h0 h1
            go_wp2
            go_ret
            exact ⟨ret_bool HB.out.symm, rfl⟩
      · go_wp2
        go_ret
        exact ⟨ret_bool (okT_all hm k (by omega) HA.out).symm, rfl⟩
  · go_enter Tryd.func34, Tryd.ntmps34
    go_wp2
    go_ret
    exact ⟨ret_bool (okT_long (by omega)).symm, rfl⟩
theorem wraps_i64 (n : Int) (h0 : 0 ≤ n) (h1 : n < 2 ^ 62) : IntKind.i64.wrap n = n := by rw [IntKind.wrap_i64]; omega
theorem i64_mask15 (n : Int) (h0 : 0 ≤ n) (h1 : n < 2 ^ 62) : bits .and .i64 n 32767 = n % 32768 :=
  bits_mask .i64 62 (by decide) wraps_i64 15 (by decide) n h0 h1
theorem i64_xor_nat (a b : Nat) (ha : a < 2 ^ 62) (hb : b < 2 ^ 62) : bits .xor .i64 (a : Int) (b : Int) = ((a ^^^ b : Nat) : Int) :=
  by
  have hx : a ^^^ b < 2 ^ 62 := Nat.xor_lt_two_pow ha hb
  show IntKind.i64.wrap ((BitVec.ofInt 64 (a : Int) ^^^ BitVec.ofInt 64 (b : Int)).toNat : Int) = _
  rw [BitVec.toNat_xor, ofInt_u64 a (by omega), ofInt_u64 b (by omega), wraps_i64 _ (by omega) (by omega)]
theorem crcStep_yes (r b : Nat) (h1 : r < 32768) (h : ((b : Int) != (r : Int) / 16384) = true) :
    bits BinOp.xor IntKind.i64 (bits BinOp.and IntKind.i64 ((r : Int) * 2) 32767) 17817 = ((M.stepN r b : Nat) : Int) := by
  have h' : b ≠ r / 16384 := by
    intro e
    rw [bne_iff_ne] at h
    exact h (by omega)
  rw [i64_mask15 _ (by omega) (by omega)]
  have e : ((r : Int) * 2) % 32768 = ((2 * r % 32768 : Nat) : Int) := by omega
  rw [e, show (17817 : Int) = ((17817 : Nat) : Int) from rfl, i64_xor_nat _ _ (by omega) (by decide)]
  simp [M.stepN, h']
theorem crcStep_no (r b : Nat) (h1 : r < 32768) (h : ((b : Int) != (r : Int) / 16384) = false) :
    bits BinOp.and IntKind.i64 ((r : Int) * 2) 32767 = ((M.stepN r b : Nat) : Int) := by
  have h' : ¬ b ≠ r / 16384 := by
    intro e
    rw [bne_eq_false_iff_eq] at h
    exact e (by omega)
  rw [i64_mask15 _ (by omega) (by omega)]
  unfold M.stepN
  rw [if_neg h']
  omega
set_option maxHeartbeats 400000 in
theorem crcStep_any (r b : Nat) (w : World) (h1 : r < 32768) :
    Calls Tryd.prog 59 #[.int .i64 r, .int .i64 b] w fun e w' => e = .returned (.int .i64 (M.stepN r b : Nat)) ∧ w = w' := by
  go_enter Tryd.func59, Tryd.ntmps59
  go_wp2
  · have hc : ((b : Int) != (r : Int) / 16384) = true := by assumption
    go_ret
    exact ⟨ret_int (crcStep_yes r b h1 hc), rfl⟩
  · have hc : ((b : Int) != (r : Int) / 16384) = false := by assumption
    go_ret
    exact ⟨ret_int (crcStep_no r b h1 hc), rfl⟩
/-- the bits of a bit text -/
def bl (s : ByteArray) : List Nat := s.data.toList.map (fun c => c.toNat - 48)
theorem bl_length (s : ByteArray) : (bl s).length = s.size := by simp [bl]
theorem bl_snoc (s : ByteArray) (k : Nat) (h : k < s.size) : (bl s).take (k + 1) = (bl s).take k ++ [s[k].toNat - 48] := by
  unfold bl; rw [← List.map_take, take_snoc s k h]; simp [List.map_take]
theorem okT_size {s : ByteArray} {m : Int} (h : okT s m = true) : (s.size : Int) ≤ m := by
  unfold okT at h; rw [Bool.and_eq_true, decide_eq_true_iff] at h; exact h.1
theorem okT_at {s : ByteArray} {m : Int} (h : okT s m = true) (k : Nat) (hk : k < s.size) : s[k].toNat = 48 ∨ s[k].toNat = 49 := by
  unfold okT at h; rw [Bool.and_eq_true] at h
  exact okC_val (List.all_eq_true.1 h.2 _ (by rw [Array.mem_toList_iff]; exact Array.getElem_mem (xs := s.data) (i := k) hk))
theorem bl_bits {s : ByteArray} {m : Int} (h : okT s m = true) : ∀ x ∈ bl s, x < 2 := by
  intro x hx
  unfold okT at h; rw [Bool.and_eq_true] at h
  unfold bl at hx
  rw [List.mem_map] at hx
  obtain ⟨c, hc, rfl⟩ := hx
  have := okC_val (List.all_eq_true.1 h.2 c hc)
  omega
/-- what Crc15 answers -/
def crcZ (s : ByteArray) : Int := if okT s 2000 = true then (M.crcN (bl s) : Nat) else -1
end Go.Proofs.YtpknchjjfiiaeaaDoor.J
