import Derived.Test.YtcenoecjihcjjaaJ
import Derived.Test.YtcenoecjihcjjaaK
namespace Go.Proofs.Ytcenoecjihcjjaa
open Go.RowKit

/-- the bit at i, 0 behind the end -/
def fb (s : ByteArray) (i : Nat) : Nat := if h : i < s.size then (if s[i].toNat = 49 then 1 else 0) else 0
/-- the first j bits of word q -/
def PV (s : ByteArray) (q : Nat) : Nat → Nat
  | 0 => 0
  | j + 1 => 2 * PV s q j + fb s (64 * q + j)
theorem fb_lt (s : ByteArray) (i : Nat) : fb s i < 2 := by
  unfold fb
  split
  · split <;> decide
  · decide
theorem PV_lt (s : ByteArray) (q j : Nat) : PV s q j < 2 ^ j := by
  induction j with
  | zero => simp [PV]
  | succ j ih =>
    have := fb_lt s (64 * q + j)
    simp only [PV, Nat.pow_succ]
    omega
def pkL (s : ByteArray) (m : Nat) : List Nat := (List.range m).map fun q => PV s q 64
theorem pkL_succ (s : ByteArray) (m : Nat) : pkL s (m + 1) = pkL s m ++ [PV s m 64] := by simp [pkL, List.range_succ]
theorem pkL_len (s : ByteArray) (m : Nat) : (pkL s m).length = m := by simp [pkL]
theorem pkL_small (s : ByteArray) (m : Nat) : ∀ x ∈ pkL s m, x < 18446744073709551616 := by
  intro x hx
  simp only [pkL, List.mem_map] at hx
  obtain ⟨q, _, rfl⟩ := hx
  exact PV_lt s q 64
theorem ownsW.words {w : World} {B : Nat} {ao : Option Addr} {n cap : Nat} {l : List Nat} (h : ownsW w B (.slice ao n cap) l) (hn : n = l.length) (hs : ∀ x ∈ l, x < 18446744073709551616) (hc : n ≤ cap) : isWords w ao n cap l := by
  refine ⟨hn, hc, hs, fun hl => ?_⟩
  obtain ⟨g, cap', e, _, _, _, _, hr⟩ := h.open hl
  cases e
  refine ⟨g, 0, rfl, fun j hj => ?_⟩
  rw [Nat.zero_add, hr.cell j hj, getD_at l j hj]
theorem app_wordb {ops : Array Oper} {rest : List Oper} {o : Oper} {a : Act} {Q : Exit → Act → World → Prop} (w0 wr : World) (hgd : o.guard = none) (s x : Operand)
    (ho : o.op = .call { callee := .builtin .append, args := #[s, x], argTypes := #[28, 28] })
    (B : Nat) (v : Value) (l : List Nat) (c : Nat) (ci : Int) (hci : ci = (c : Int)) (hs : a.eval s = v) (hown : ownsW wr B v l)
    (hx : a.eval x = .slice (some ⟨wr.heap.size, 0, none⟩) 1 1) (hlen : l.length ≤ 1000000) (hB : B ≤ wr.heap.size) (hbel : Below B w0 wr)
    (h : ∀ v' w', ownsW w' B v' (l ++ [c]) → Below B w0 w' → B ≤ w'.heap.size → wpList Try.prog ops Q rest (a.put o.dst v') w') :
    wpList Try.prog ops Q (o :: rest) a (wr.alloc (.cells #[.int .u64 ci] 54)) :=
  app_word w0 wr hgd s x ho B v l c ci hci hs hown hx hlen hB hbel h
theorem ownsW.otherBlock {w w' : World} {B : Nat} {v : Value} {l : List Nat} (h : ownsW w B v l) (hk : ∀ g, v.ownBlock = some g → w'.heap[g]? = w.heap[g]?) : ownsW w' B v l := by
  obtain ⟨h1, h2 | ⟨g, cap, cur, rfl, hb, hh, rest⟩⟩ := h
  · exact ⟨h1, .inl h2⟩
  · exact ⟨h1, .inr ⟨g, cap, cur, rfl, hb, (hk g (by simp [Value.ownBlock])).trans hh, rest⟩⟩
theorem ownsW.setCellO {w : World} {B : Nat} {v : Value} {l : List Nat} (h : ownsW w B v l) (b j : Nat) (x : Value) (hb : b < B) : ownsW (w.setCell ⟨b, j, none⟩ x) B v l :=
  h.otherBlock fun g hg => heap_setCell_other w ⟨b, j, none⟩ g x (by have := (World.ownsRow.lt h g hg).1; show g ≠ b; omega)
theorem PV_half (s : ByteArray) (q j : Nat) (h : j < 64) : PV s q j < 9223372036854775808 :=
  Nat.lt_of_lt_of_le (PV_lt s q j) (Nat.pow_le_pow_right (by decide) (by omega : j ≤ 63))
theorem fb_one {s : ByteArray} {i : Nat} (h : i < s.size) (hh : (s[i].toNat : Int) = 49) : fb s i = 1 := by
  unfold fb; rw [dif_pos h, if_pos (by omega)]
theorem fb_zero {s : ByteArray} {i : Nat} (h : i < s.size) (hh : ¬ (s[i].toNat : Int) = 49) : fb s i = 0 := by
  unfold fb; rw [dif_pos h, if_neg (by omega)]
theorem fb_end {s : ByteArray} {i : Nat} (h : ¬ i < s.size) : fb s i = 0 := by
  unfold fb; rw [dif_neg h]
theorem pk0_in {w wr : World} (hb : Below (w.heap.size + 1) (w.alloc (pkC 0 none 0 0 30)) wr) :
    wr.cell? ⟨w.heap.size, 0, none⟩ = some (.int .i64 0) ∧ wr.cell? ⟨w.heap.size, 1, none⟩ = some (.slice none 0 0) ∧ wr.frozen? ⟨w.heap.size, 0, none⟩ = false ∧ wr.frozen? ⟨w.heap.size, 1, none⟩ = false ∧ Below w.heap.size w wr := by
  refine ⟨(hb.cell (p := ⟨w.heap.size, 0, none⟩) (by simp)).trans (by simp), (hb.cell (p := ⟨w.heap.size, 1, none⟩) (by simp)).trans (by simp), (hb.frozen (p := ⟨w.heap.size, 0, none⟩) (by simp)).trans (by simp), (hb.frozen (p := ⟨w.heap.size, 1, none⟩) (by simp)).trans (by simp), ?_⟩
  exact ((Below.refl _ _).alloc (Nat.le_refl _) _).trans (hb.mono (by omega))
set_option maxHeartbeats 2000000 in
set_option maxRecDepth 20000 in
theorem specPack_ok (s : ByteArray) (w : World) (hs : okT s 4000 = true) (hz : s.size ≤ 4000) :
    Calls Try.prog 10 #[.string s] w fun o w' => ∃ ao cap, o = .returned (pkV (s.size : Int) ao ((s.size + 63) / 64) cap) ∧ ownsW w' (w.heap.size + 1) (.slice ao ((s.size + 63) / 64) cap) (pkL s ((s.size + 63) / 64)) ∧ Below w.heap.size w w' := by
  have HS : Hid (okT s 4000 = true) := hs
  clear hs
  go_enter Try.func10, Try.ntmps10
  go_wp2_with (first | (go_at_call 25; refine (okBits_any _ _ _ (by unfold maxLen; omega)).mono ?_; rw [HS.out]; rintro o w1 ⟨rfl, rfl⟩))
  have hown : ownsW ((w.alloc (pkC 0 none 0 0 30)).alloc (.cells #[] 54)) (w.heap.size + 1) (.slice (some ⟨w.heap.size + 1, 0, none⟩) 0 0) (pkL s 0) := by
    have := own_nilW (w.alloc (pkC 0 none 0 0 30)) (w.heap.size + 1) (by simp)
    simpa [pkL] using this
  have hb0 : Below (w.heap.size + 1) (w.alloc (pkC 0 none 0 0 30)) ((w.alloc (pkC 0 none 0 0 30)).alloc (.cells #[] 54)) := (Below.refl _ _).alloc (by simp) _
  go_loopw [3, 4] (fun v i wr => ∃ (k : Nat) (ao : Option Addr) (cp : Nat), v = .slice ao k cp ∧ k ≤ (s.size + 63) / 64 ∧ i = .int .i64 (k : Int) ∧ ownsW wr (w.heap.size + 1) v (pkL s k) ∧ Below (w.heap.size + 1) (w.alloc (pkC 0 none 0 0 30)) wr ∧ w.heap.size + 1 ≤ wr.heap.size) (fun _ i _ => (s.size + 63) / 64 - (intOf i).toNat)
  case atStart => exact ⟨0, _, _, rfl, Nat.zero_le _, rfl, hown, hb0, by simp⟩
  case round =>
    clear hown hb0
    obtain ⟨k, ao, cp, rfl, hk, rfl, hown, hb, hzz⟩ := hrel
    have HZ : Hid (Below (w.heap.size + 1) (w.alloc (pkC 0 none 0 0 30)) wr ∧ ownsW wr (w.heap.size + 1) (.slice ao k cp) (pkL s k)) := ⟨hb, hown⟩
    clear hb hown
    by_cases hlt : 64 * k < s.size
    · have hd : decide (64 * (k : Int) < (s.size : Int)) = true := by simp; omega
      go_wp2
      go_loopw [5, 6] (fun v i V => ∃ j : Nat, j ≤ 64 ∧ i = .int .i64 (j : Int) ∧ v = .int .u64 (PV s k j : Int) ∧ V = wr) (fun _ i _ => 64 - (intOf i).toNat)
      case atStart => exact ⟨0, by decide, rfl, rfl, rfl⟩
      case round =>
        obtain ⟨j, hj, rfl, rfl, rfl⟩ := hrel
        by_cases hj2 : j < 64
        · have hx := PV_half s k j hj2
          have HP : Hid (PV s k (j + 1) = 2 * PV s k j + fb s (64 * k + j)) := rfl
          generalize PV s k j = x at *
          by_cases hi : 64 * k + j < s.size
          · by_cases h1 : (s[64 * k + j].toNat : Int) = 49
            · have HF : Hid (fb s (64 * k + j) = 1) := fb_one hi h1
              go_wp2
              go_roundw
              case rel => exact ⟨j + 1, by omega, by go_num, by rw [HP.out, HF.out]; go_num, trivial⟩
              case measure => simp [intOf]; omega
            · have HF : Hid (fb s (64 * k + j) = 0) := fb_zero hi h1
              have h1' : ((s[64 * k + j].toNat : Int) == 49) = false := by simpa using h1
              clear h1
              go_wp2
              go_roundw
              case rel => exact ⟨j + 1, by omega, by go_num, by rw [HP.out, HF.out]; go_num, trivial⟩
              case measure => simp [intOf]; omega
          · have HF : Hid (fb s (64 * k + j) = 0) := fb_end hi
            go_wp2
            go_roundw
            case rel => exact ⟨j + 1, by omega, by go_num, by rw [HP.out, HF.out]; go_num, trivial⟩
            case measure => simp [intOf]; omega
        · have hj3 : j = 64 := by omega
          subst hj3
          have HL : Hid (pkL s (k + 1) = pkL s k ++ [PV s k 64] ∧ (pkL s k).length = k) := ⟨pkL_succ s k, pkL_len s k⟩
          generalize PV s k 64 = x at *
          go_wp2_with (first | (at_builtin; refine app_wordb (w.alloc (pkC 0 none 0 0 30)) wr rfl (.tmp 43) (.tmp 45) rfl (w.heap.size + 1) _ (pkL s k) x _ rfl rfl HZ.out.2 rfl (by have := HL.out.2; omega) hzz HZ.out.1 ?_))
          intro v2 w2 ho2 hb2 hz2
          have ho3 : ownsW w2 (w.heap.size + 1) v2 (pkL s (k + 1)) := by rw [HL.out.1]; exact ho2
          obtain ⟨g5, cp5, e5, -, -, -, -, -⟩ := ho3.open (by intro e; have := pkL_len s (k + 1); rw [e] at this; simp at this)
          rw [pkL_len] at e5
          subst e5
          go_wp2
          go_roundw
          case rel => exact ⟨k + 1, _, _, rfl, by omega, by go_num, ho3, hb2, hz2⟩
          case measure => simp [intOf]; omega
    · have hkk : k = (s.size + 63) / 64 := by omega
      subst hkk
      obtain ⟨c0, c1, f0, f1, hB⟩ := pk0_in HZ.out.1
      go_wp2
      refine bodyPost_ret (v := pkV (s.size : Int) ao ((s.size + 63) / 64) cp) (by simp [results, Try.results10, go_sem, c0, c1]) rfl ?_
      have H2 := (HZ.out.2.setCellO w.heap.size 0 (.int .i64 (s.size : Int)) (by omega)).setCellO w.heap.size 1 (.slice ao ((s.size + 63) / 64) cp) (by omega)
      exact ⟨ao, cp, rfl, H2, (hB.setCell (p := ⟨_, 0, none⟩) (by simp) _).setCell (p := ⟨_, 1, none⟩) (by simp) _⟩
end Go.Proofs.Ytcenoecjihcjjaa
