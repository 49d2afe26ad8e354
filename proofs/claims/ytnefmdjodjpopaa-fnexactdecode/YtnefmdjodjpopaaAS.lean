import Derived.Test.YtnefmdjodjpopaaAR
namespace Go.Proofs.Ytnefmdjodjpopaa
set_option linter.unusedSimpArgs false

theorem keepD_len (data : List Nat) (taken bit : Nat) (h : data.length = (taken + 7) / 8) : (keepD data taken bit).length = (taken + 1 + 7) / 8 := by
  unfold keepD
  split
  · rw [List.length_append, List.length_singleton]; omega
  · rw [List.length_set]; omega
theorem keepD_small (data : List Nat) (taken bit : Nat) (hb : bit < 2) (h : ∀ x ∈ data, x < 256) : ∀ x ∈ keepD data taken bit, x < 256 := by
  unfold keepD
  intro x hx
  split at hx
  · rw [List.mem_append, List.mem_singleton] at hx
    rcases hx with hx | rfl
    · exact h x hx
    · omega
  · rcases List.mem_or_eq_of_mem_set hx with hx | rfl
    · exact h x hx
    · omega
theorem pow_step (x bit n : Nat) (h : x < 2 ^ n) (hb : bit < 2) : 2 * x + bit < 2 ^ (n + 1) := by
  rw [Nat.pow_succ]; omega

set_option maxHeartbeats 1000000 in
theorem inv_adv (k : Wk) (bit : Nat) (hb : bit < 2) (h : k.Inv) (hg : k.plainCode bit = 0 ∨ k.plainCode bit = 1) : ((k.keep bit).adv).Inv := by
  obtain ⟨f1, f2, tk, sm, idb, dlb, crb, dan, dat, dal, das⟩ := h
  obtain ⟨field, taken, ⟨la, lb⟩, sum, crc, ext, id, rtr, dlc, data, code⟩ := k
  simp only at f1 f2 tk sm idb dlb crb dan dat dal das
  have hst := M.stepN_lt sum bit
  rcases (show field = 1 ∨ field = 2 ∨ field = 3 ∨ field = 4 ∨ field = 5 ∨ field = 6 ∨ field = 7 ∨ field = 8 ∨ field = 9 ∨ field = 10 ∨ field = 11 ∨ field = 12 ∨ field = 13 ∨ field = 14 from by omega) with rfl | rfl | rfl | rfl | rfl | rfl | rfl | rfl | rfl | rfl | rfl | rfl | rfl | rfl
  · -- Sof
    have t0 : taken = 0 := by simp [Wk.fsize] at tk; omega
    subst t0
    simp at idb dlb crb dan
    subst idb dlb crb dan
    simp [Wk.keep, Wk.keep1, Wk.adv, Wk.fsize, Wk.fafter]
    constructor <;> (try dsimp only) <;> (try simp [Wk.fsize]) <;> (try omega)
  · -- IdA
    simp [Wk.fsize] at tk
    simp at idb dlb crb dan
    subst dlb crb dan
    have hid := pow_step id bit taken idb hb
    by_cases hT : taken + 1 = 11
    · have t10 : taken = 10 := by omega
      subst t10
      simp [Wk.keep, Wk.keep1, Wk.adv, Wk.fsize, Wk.fafter]
      constructor <;> (try dsimp only) <;> (try simp [Wk.fsize]) <;> (try omega)
    · simp [Wk.keep, Wk.keep1, Wk.adv, Wk.fsize, Wk.fafter, hT]
      constructor <;> (try dsimp only) <;> (try simp [Wk.fsize]) <;> (try omega)
  · -- Rtr
    have t0 : taken = 0 := by simp [Wk.fsize] at tk; omega
    subst t0
    simp at idb dlb crb dan
    subst dlb crb dan
    simp [Wk.keep, Wk.keep1, Wk.adv, Wk.fsize, Wk.fafter]
    constructor <;> (try dsimp only) <;> (try simp [Wk.fsize]) <;> (try omega)
  · -- Ide
    have t0 : taken = 0 := by simp [Wk.fsize] at tk; omega
    subst t0
    simp at idb dlb crb dan
    subst dlb crb dan
    rcases (show bit = 0 ∨ bit = 1 from by omega) with rfl | rfl
    · simp [Wk.keep, Wk.keep1, Wk.adv, Wk.fsize, Wk.fafter]
      constructor <;> (try dsimp only) <;> (try simp [Wk.fsize]) <;> (try omega)
    · simp [Wk.keep, Wk.keep1, Wk.adv, Wk.fsize, Wk.fafter]
      constructor <;> (try dsimp only) <;> (try simp [Wk.fsize]) <;> (try omega)
  · -- IdB
    simp [Wk.fsize] at tk
    simp at idb dlb crb dan
    subst dlb crb dan
    have hid := pow_step id bit (11 + taken) idb hb
    by_cases hT : taken + 1 = 18
    · have t10 : taken = 17 := by omega
      subst t10
      simp [Wk.keep, Wk.keep1, Wk.adv, Wk.fsize, Wk.fafter]
      constructor <;> (try dsimp only) <;> (try simp [Wk.fsize]) <;> (try omega)
    · simp [Wk.keep, Wk.keep1, Wk.adv, Wk.fsize, Wk.fafter, hT]
      constructor <;> (try dsimp only) <;> (try simp [Wk.fsize]) <;> (try omega)
  · -- RtrX
    have t0 : taken = 0 := by simp [Wk.fsize] at tk; omega
    subst t0
    simp at idb dlb crb dan
    subst dlb crb dan
    simp [Wk.keep, Wk.keep1, Wk.adv, Wk.fsize, Wk.fafter]
    constructor <;> (try dsimp only) <;> (try simp [Wk.fsize]) <;> (try omega)
    cases ext <;> simp
  · -- Res
    simp at idb dlb crb dan
    subst dlb crb dan
    cases ext
    · have t0 : taken = 0 := by simp [Wk.fsize] at tk; omega
      subst t0
      simp [Wk.keep, Wk.keep1, Wk.adv, Wk.fsize, Wk.fafter]
      constructor <;> (try dsimp only) <;> (try simp [Wk.fsize]) <;> (try omega)
    · have t0 : taken = 0 ∨ taken = 1 := by simp [Wk.fsize] at tk; omega
      rcases t0 with rfl | rfl
      · simp [Wk.keep, Wk.keep1, Wk.adv, Wk.fsize, Wk.fafter]
        constructor <;> (try dsimp only) <;> (try simp [Wk.fsize]) <;> (try omega)
      · simp [Wk.keep, Wk.keep1, Wk.adv, Wk.fsize, Wk.fafter]
        constructor <;> (try dsimp only) <;> (try simp [Wk.fsize]) <;> (try omega)
  · -- Dlc
    simp [Wk.fsize] at tk
    simp at idb dlb crb dan
    subst crb dan
    have hid := pow_step dlc bit taken dlb hb
    by_cases hT : taken + 1 = 4
    · have t10 : taken = 3 := by omega
      subst t10
      by_cases hz : (Wk.dlen ⟨8, 3, (la, lb), M.stepN sum bit, 0, ext, id, rtr, 2 * dlc + bit, [], code⟩) = 0
      · have e : (Wk.keep ⟨8, 3, (la, lb), sum, 0, ext, id, rtr, dlc, [], code⟩ bit).adv = ⟨10, 0, (la, lb), M.stepN sum bit, 0, ext, id, rtr, 2 * dlc + bit, [], code⟩ := by
          simp [Wk.keep, Wk.keep1, Wk.adv, Wk.fsize, Wk.fafter, hz]
        rw [e]
        constructor <;> (try dsimp only) <;> (try simp [Wk.fsize]) <;> (try omega)
      · have e : (Wk.keep ⟨8, 3, (la, lb), sum, 0, ext, id, rtr, dlc, [], code⟩ bit).adv = ⟨9, 0, (la, lb), M.stepN sum bit, 0, ext, id, rtr, 2 * dlc + bit, [], code⟩ := by
          simp [Wk.keep, Wk.keep1, Wk.adv, Wk.fsize, Wk.fafter, hz]
        rw [e]
        have hz' : 0 < Wk.dlen ⟨9, 0, (la, lb), M.stepN sum bit, 0, ext, id, rtr, 2 * dlc + bit, [], code⟩ := Nat.pos_of_ne_zero hz
        constructor <;> (try dsimp only) <;> (try simp [Wk.fsize]) <;> (try omega)
    · simp [Wk.keep, Wk.keep1, Wk.adv, Wk.fsize, Wk.fafter, hT]
      constructor <;> (try dsimp only) <;> (try simp [Wk.fsize]) <;> (try omega)
  · -- Data
    simp at idb dlb crb dat
    subst crb
    have hd8 := dlen_le ⟨9, taken, (la, lb), M.stepN sum bit, 0, ext, id, rtr, dlc, keepD data taken bit, code⟩
    have tk' : taken < 8 * Wk.dlen ⟨9, taken, (la, lb), M.stepN sum bit, 0, ext, id, rtr, dlc, keepD data taken bit, code⟩ := by simpa [Wk.fsize, Wk.dlen] using tk
    have hkl := keepD_len data taken bit dat
    have hks := keepD_small data taken bit hb das
    by_cases hT : taken + 1 = 8 * Wk.dlen ⟨9, taken, (la, lb), M.stepN sum bit, 0, ext, id, rtr, dlc, keepD data taken bit, code⟩
    · have e : (Wk.keep ⟨9, taken, (la, lb), sum, 0, ext, id, rtr, dlc, data, code⟩ bit).adv = ⟨10, 0, (la, lb), M.stepN sum bit, 0, ext, id, rtr, dlc, keepD data taken bit, code⟩ := by
        simp [Wk.keep, Wk.keep1, Wk.adv, Wk.fsize, Wk.fafter, hT]
      rw [e]
      constructor <;> (try dsimp only) <;> (try simp [Wk.fsize]) <;> (try omega)
    · have e : (Wk.keep ⟨9, taken, (la, lb), sum, 0, ext, id, rtr, dlc, data, code⟩ bit).adv = ⟨9, taken + 1, (la, lb), M.stepN sum bit, 0, ext, id, rtr, dlc, keepD data taken bit, code⟩ := by
        simp [Wk.keep, Wk.keep1, Wk.adv, Wk.fsize, Wk.fafter, hT]
      rw [e]
      have hd' : Wk.dlen ⟨9, taken + 1, (la, lb), M.stepN sum bit, 0, ext, id, rtr, dlc, keepD data taken bit, code⟩ = Wk.dlen ⟨9, taken, (la, lb), M.stepN sum bit, 0, ext, id, rtr, dlc, keepD data taken bit, code⟩ := rfl
      constructor <;> (try dsimp only) <;> (try simp [Wk.fsize]) <;> (try omega)
  · -- Crc
    simp [Wk.fsize] at tk
    simp at idb dlb crb
    have hid := pow_step crc bit taken crb hb
    by_cases hT : taken + 1 = 15
    · have t10 : taken = 14 := by omega
      subst t10
      simp [Wk.keep, Wk.keep1, Wk.adv, Wk.fsize, Wk.fafter]
      constructor <;> (try dsimp only) <;> (try simp [Wk.fsize]) <;> (try omega)
    · simp [Wk.keep, Wk.keep1, Wk.adv, Wk.fsize, Wk.fafter, hT]
      constructor <;> (try dsimp only) <;> (try simp [Wk.fsize]) <;> (try omega)
  · -- CrcDel
    have t0 : taken = 0 := by simp [Wk.fsize] at tk; omega
    subst t0
    simp at idb dlb crb
    simp [Wk.keep, Wk.keep1, Wk.adv, Wk.fsize, Wk.fafter]
    constructor <;> (try dsimp only) <;> (try simp [Wk.fsize]) <;> (try omega)
  · -- Ack
    have t0 : taken = 0 := by simp [Wk.fsize] at tk; omega
    subst t0
    simp at idb dlb crb
    simp [Wk.keep, Wk.keep1, Wk.adv, Wk.fsize, Wk.fafter]
    constructor <;> (try dsimp only) <;> (try simp [Wk.fsize]) <;> (try omega)
  · -- AckDel
    have t0 : taken = 0 := by simp [Wk.fsize] at tk; omega
    subst t0
    simp at idb dlb crb
    simp [Wk.keep, Wk.keep1, Wk.adv, Wk.fsize, Wk.fafter]
    constructor <;> (try dsimp only) <;> (try simp [Wk.fsize]) <;> (try omega)
  · -- Eof
    simp [Wk.fsize] at tk
    simp at idb dlb crb
    have hT : ¬ taken = 6 := by
      intro e
      subst e
      rcases (show bit = 0 ∨ bit = 1 from by omega) with rfl | rfl <;> simp [Wk.plainCode, Wk.eofCode] at hg
    have hT' : ¬ taken + 1 = 7 := by omega
    simp [Wk.keep, Wk.keep1, Wk.adv, Wk.fsize, Wk.fafter, hT]
    constructor <;> (try dsimp only) <;> (try simp [Wk.fsize]) <;> (try omega)
end Go.Proofs.Ytnefmdjodjpopaa
