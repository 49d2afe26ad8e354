import Derived.Test.YtcenoecjihcjjaaDR
namespace Go.Proofs.Ytcenoecjihcjjaa
open Go.RowKit
theorem isLevel_any (w : World) (f : Int) : Calls Try.prog 20 #[.int .i64 f] w fun o w' => o = .returned (.bool (decide (f = 0 ∨ f = 1))) ∧ w = w' := by
  by_cases h0 : f = 0
  · subst h0
    go_enter Try.func20, Try.ntmps20
    go_wp2
    go_ret
    exact ⟨rfl, rfl⟩
  · by_cases h1 : f = 1
    · subst h1
      go_enter Try.func20, Try.ntmps20
      go_wp2
      go_ret
      exact ⟨rfl, rfl⟩
    · have e0 : (f == 0) = false := by simpa using h0
      have e1 : (f == 1) = false := by simpa using h1
      have HD : Hid (decide (f = 0 ∨ f = 1) = false) := by simp [Hid, h0, h1]
      clear h0 h1
      go_enter Try.func20, Try.ntmps20
      go_wp2
      go_ret
      exact ⟨ret_bool HD.out.symm, rfl⟩
set_option maxHeartbeats 1000000 in
theorem fitLine_any (w : World) (a : Option Addr) (n cap : Nat) (l : List Int) (h : isInts w a n cap l) (hn : n ≤ 1048576) :
    Calls Try.prog 21 #[.slice a n cap] w fun o w' => o = .returned (.bool (fitGo l 4000)) ∧ ∃ q, w' = w.drewN q := by
  have hlen := h.len
  have hcp := h.cap
  by_cases hl : l = []
  · subst hl
    have hn0 : n = 0 := hlen
    subst hn0
    clear hlen h
    go_enter Try.func21, Try.ntmps21
    go_wp2
    go_loopw [3, 8] (fun r i wr => i = .int .i64 0 ∧ wr = w) (fun _ _ _ => 0)
    case atStart => exact ⟨rfl, rfl⟩
    case round =>
      obtain ⟨rfl, rfl⟩ := hrel
      go_wp2
      go_ret
      exact ⟨rfl, 0, rfl⟩
  · obtain ⟨g, off, rfl, hc⟩ := h.cells hl
    have hsm := h.small
    have HL : Hid (n = l.length) := hlen
    have HC : Hid (∀ j (h : j < l.length), w.cell? ⟨g, off + j, none⟩ = some (.int .i64 l[j])) := hc
    have HM : Hid (∀ x ∈ l, -9223372036854775808 ≤ x ∧ x ≤ 9223372036854775807) := hsm
    clear h hlen hc hsm
    go_enter Try.func21, Try.ntmps21
    go_wp2
    go_loopw [3, 8] (fun r i wr => ∃ (k : Nat) (s : Int), k ≤ n ∧ i = .int .i64 (k : Int) ∧ r = .int .i64 (4000 - s) ∧ ftAt l k s ∧ wr = w) (fun _ i _ => n - (intOf i).toNat)
    case atStart => exact ⟨0, 0, Nat.zero_le _, rfl, rfl, ftAt.zero l, rfl⟩
    case round =>
      obtain ⟨k, s, hk, rfl, rfl, hat, rfl⟩ := hrel
      have hlo := hat.lo
      have hhi := hat.hi
      by_cases hlt : k < n
      · have hkl : k < l.length := by have := HL.out; omega
        have hcx := HC.out k hkl
        have hx := HM.out l[k] (List.getElem_mem hkl)
        by_cases hb1 : l[k] < 1
        · have HF : Hid (fitGo l 4000 = false) := hat.bad hkl (.inl hb1)
          clear hat
          generalize l[k] = x at *
          have hd : decide (x < 1) = true := by simpa using hb1
          go_wp2
          go_ret
          exact ⟨ret_bool HF.out.symm, 0, rfl⟩
        · by_cases hb2 : 4000 - s < l[k]
          · have HF : Hid (fitGo l 4000 = false) := hat.bad hkl (.inr hb2)
            clear hat
            generalize l[k] = x at *
            have hd : decide (x < 1) = false := by simpa using hb1
            have hd2 : decide (4000 - s < x) = true := by simpa using hb2
            go_wp2
            go_ret
            exact ⟨ret_bool HF.out.symm, 0, rfl⟩
          · have hat2 := hat.next hkl (by omega) (by omega)
            have HN : Hid (ftAt l (k + 1) (s + l[k])) := hat2
            clear hat hat2
            generalize l[k] = x at *
            have hd : decide (x < 1) = false := by simpa using hb1
            have hd2 : decide (4000 - s < x) = false := by simpa using hb2
            go_wp2
            go_roundw
            case rel => exact ⟨k + 1, s + x, by omega, by go_num, by go_num, HN.out, trivial⟩
            case measure => simp [intOf]; omega
      · have HF : Hid (fitGo l 4000 = true) := hat.fin (by have := HL.out; omega)
        clear hat
        go_wp2
        go_ret
        exact ⟨ret_bool HF.out.symm, 0, rfl⟩
end Go.Proofs.Ytcenoecjihcjjaa
