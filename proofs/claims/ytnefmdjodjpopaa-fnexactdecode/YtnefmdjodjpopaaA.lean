import Derived.Test.YtnefmdjodjpopaaProg
import Derived.WalkKit
import Derived.WalkSpells
import Derived.WalkLawsBesides
import Derived.Deep.QuietTactic
import Derived.BigQuiet
namespace Go.Proofs.Ytnefmdjodjpopaa
open Go.RowKit

theorem ret_int {k : IntKind} {a b : Int} (h : a = b) : Ending.returned (.int k a) = .returned (.int k b) := by rw [h]
theorem ret_bool {a b : Bool} (h : a = b) : Ending.returned (.bool a) = .returned (.bool b) := by rw [h]

/-- one letter of a bit text -/
def okC (c : UInt8) : Bool := c == 48 || c == 49
/-- a bit text of at most m letters -/
def okT (s : ByteArray) (m : Int) : Bool := decide ((s.size : Int) ≤ m) && s.data.toList.all okC

theorem take_snoc (s : ByteArray) (k : Nat) (h : k < s.size) : s.data.toList.take (k + 1) = s.data.toList.take k ++ [s[k]] := by
  rw [List.take_succ_eq_append_getElem (by simpa using h)]; rfl
theorem okT_long {s : ByteArray} {m : Int} (h : ¬ (s.size : Int) ≤ m) : okT s m = false := by simp [okT, h]
theorem okT_all {s : ByteArray} {m : Int} (h : (s.size : Int) ≤ m) (k : Nat) (hk : s.size ≤ k) (ha : (s.data.toList.take k).all okC = true) : okT s m = true := by
  rw [List.take_of_length_le (by simpa using hk)] at ha
  simp [okT, h, ha]
theorem okT_bad {s : ByteArray} {m : Int} (k : Nat) (hk : k < s.size) (hb : okC s[k] = false) : okT s m = false := by
  have : s.data.toList.all okC = false := by
    rw [List.all_eq_false]
    exact ⟨s[k], by rw [Array.mem_toList_iff]; exact Array.getElem_mem (xs := s.data) (i := k) hk, by simpa using hb⟩
  simp [okT, this]
theorem ok_snoc {s : ByteArray} {k : Nat} (hk : k < s.size) (ha : (s.data.toList.take k).all okC = true) (hc : okC s[k] = true) : (s.data.toList.take (k + 1)).all okC = true := by
  rw [take_snoc s k hk, List.all_append, ha]; simp [hc]
theorem okC_of (c : UInt8) (h : (c.toNat : Int) = 48 ∨ (c.toNat : Int) = 49) : okC c = true := by
  unfold okC
  rcases h with h | h
  · have : c = 48 := UInt8.toNat_inj.1 (by simpa using (by omega : c.toNat = 48))
    simp [this]
  · have : c = 49 := UInt8.toNat_inj.1 (by simpa using (by omega : c.toNat = 49))
    simp [this]
theorem okC_not (c : UInt8) (h : ¬ (c.toNat : Int) = 48) (h' : ¬ (c.toNat : Int) = 49) : okC c = false := by
  unfold okC
  have a : (c == 48) = false := by
    rw [beq_eq_false_iff_ne]; intro e; subst e; exact h rfl
  have b : (c == 49) = false := by
    rw [beq_eq_false_iff_ne]; intro e; subst e; exact h' rfl
  simp [a, b]
theorem okC_val {c : UInt8} (h : okC c = true) : c.toNat = 48 ∨ c.toNat = 49 := by
  unfold okC at h
  simp at h
  rcases h with h | h <;> subst h
  · exact .inl rfl
  · exact .inr rfl

set_option maxHeartbeats 400000 in
theorem okBits_any (s : ByteArray) (m : Int) (w : World) (hs : s.size ≤ maxLen) :
    Calls Try.prog 48 #[.string s, .int .i64 m] w fun e w' => e = .returned (.bool (okT s m)) ∧ w = w' := by
  unfold maxLen at hs
  by_cases hm : (s.size : Int) ≤ m
  · go_enter Try.func48, Try.ntmps48
    go_wp2
    go_loop [5] (fun i => ∃ k : Nat, k ≤ s.size ∧ i = .int .i64 k ∧ (s.data.toList.take k).all okC = true) (fun i => s.size - (intOf i).toNat)
    case atStart => exact ⟨0, Nat.zero_le _, rfl, rfl⟩
    case round =>
      obtain ⟨k, hk, rfl, ha⟩ := hrel
      have HA : Hid ((s.data.toList.take k).all okC = true) := ha
      clear ha
      by_cases hlt : k < s.size
      · by_cases h0 : (s[k].toNat : Int) = 48
        · go_wp2
          go_round
          case rel => exact ⟨k + 1, by omega, by go_num, ok_snoc hlt HA.out (okC_of _ (.inl h0))⟩
          case measure => simp [intOf]; omega
        · by_cases h1 : (s[k].toNat : Int) = 49
          · go_wp2
            go_round
            case rel => exact ⟨k + 1, by omega, by go_num, ok_snoc hlt HA.out (okC_of _ (.inr h1))⟩
            case measure => simp [intOf]; omega
          · have hb := okT_bad (m := m) k hlt (okC_not _ h0 h1)
            have b0 : ((s[k].toNat : Int) != 48) = true := by simpa using h0
            have b1 : ((s[k].toNat : Int) != 49) = true := by simpa using h1
            have HB : Hid (okT s m = false) := hb
            clear hb h0 h1
            go_wp2
            go_ret
            exact ⟨ret_bool HB.out.symm, rfl⟩
      · go_wp2
        go_ret
        exact ⟨ret_bool (okT_all hm k (by omega) HA.out).symm, rfl⟩
  · go_enter Try.func48, Try.ntmps48
    go_wp2
    go_ret
    exact ⟨ret_bool (okT_long (by omega)).symm, rfl⟩

set_option maxHeartbeats 400000 in
theorem isBitText_any (s : ByteArray) (m : Int) (w : World) :
    Calls Try.prog 49 #[.string s, .int .i64 m] w fun e w' => e = .returned (.bool (okT s m)) ∧ Below w.heap.size w w' := by
  by_cases hm : (s.size : Int) ≤ m
  · go_enter Try.func49, Try.ntmps49
    go_wp2
    go_loopw [6] (fun _ w' => ∃ k : Nat, k ≤ s.size ∧ w' = w.iter s k ∧ (s.data.toList.take k).all okC = true) (fun _ w' => s.size - w'.iterPos w.heap.size)
    case atStart => exact ⟨0, Nat.zero_le _, rfl, rfl⟩
    case round =>
      obtain ⟨k, hk, rfl, ha⟩ := hrel
      have HA : Hid ((s.data.toList.take k).all okC = true) := ha
      clear ha
      by_cases hlt : k < s.size
      · by_cases hc : okC s[k] = true
        · have hv := okC_val hc
          have hnx := fun ty => run_next_ascii (P := Try.prog) w s k ty hlt (by omega)
          have HC : Hid (okC s[k] = true) := hc
          clear hc
          rcases hv with hv | hv
          · rw [hv] at hnx
            clear hv
            go_wp2
            go_roundw
            case rel => exact ⟨k + 1, by omega, rfl, ok_snoc hlt HA.out HC.out⟩
            case measure => simp; omega
          · rw [hv] at hnx
            clear hv
            go_wp2
            go_roundw
            case rel => exact ⟨k + 1, by omega, rfl, ok_snoc hlt HA.out HC.out⟩
            case measure => simp; omega
        · have hb := okT_bad (m := m) k hlt (by simpa using hc)
          have hd : (((Utf8.decode s k).1 : Int) != 48) = true ∧ (((Utf8.decode s k).1 : Int) != 49) = true := by
            by_cases hx : (s[k]'hlt).toNat < 128
            · rw [decode_ascii s k hlt hx]
              simp only [bne_iff_ne]
              refine ⟨fun e => hc (okC_of _ (.inl (by exact_mod_cast e))), fun e => hc (okC_of _ (.inr (by exact_mod_cast e)))⟩
            · have := (decode_high s k hlt (by omega)).1
              simp only [bne_iff_ne]
              constructor <;> omega
          obtain ⟨b0, b1⟩ := hd
          have hnx : ∀ ty, (Instr.next (.pointer (some ⟨w.heap.size, 0, none⟩)) true ty).run Try.prog (w.iter s k) = _ := fun ty => run_next_any w s k ty hlt
          have HB : Hid (okT s m = false) := hb
          clear hb hc
          go_wp2
          go_ret
          exact ⟨ret_bool HB.out.symm, (Below.refl _ _).alloc (Nat.le_refl _) _⟩
      · have hnx : ∀ ty, (Instr.next (.pointer (some ⟨w.heap.size, 0, none⟩)) true ty).run Try.prog (w.iter s k) = _ := fun ty => run_next_end w s k ty hlt
        go_wp2
        go_ret
        exact ⟨ret_bool (okT_all hm k (by omega) HA.out).symm, (Below.refl _ _).alloc (Nat.le_refl _) _⟩
  · go_enter Try.func49, Try.ntmps49
    go_wp2
    go_ret
    exact ⟨ret_bool (okT_long (by omega)).symm, Below.refl _ _⟩
end Go.Proofs.Ytnefmdjodjpopaa
