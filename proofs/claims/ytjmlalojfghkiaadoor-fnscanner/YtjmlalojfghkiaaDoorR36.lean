import Derived.Test.YtjmlalojfghkiaaDoorR22
import Derived.Test.YtjmlalojfghkiaaDoorR35
namespace Go.Proofs.YtjmlalojfghkiaaDoor.K
open Go.Proofs.YtjmlalojfghkiaaDoor
set_option linter.unusedVariables false
/-- the scan S stands where the walk k stands -/
structure Sim (k : J.Wk) (S : Sc) : Prop where
  inv : k.Inv
  f : S.f = k.field
  lf : S.lf = (k.fsize k.field : Int) - k.taken
  run : 2 ≤ k.field → k.field ≤ 11 → S.rn = k.last.2 ∧ S.lv + 48 = k.last.1 ∧ (S.lv = 0 ∨ S.lv = 1) ∧ 1 ≤ k.last.2 ∧ k.last.2 ≤ 5
  run0 : k.field = 1 ∨ 12 ≤ k.field → S.rn = 0 ∧ S.lv = 0
  one : k.field = 1 → k.last = (0, 0)
  cr : S.cr = k.sum
  ac : S.ac = k.crc
  e : S.e = k.ext
  i : S.i = k.id
  r : k.field ≠ 5 → k.field ≠ 6 → S.r = k.rtr
  d : S.d = k.dlc
  l : S.l = k.data
theorem Sim.init : Sim J.Wk.init ⟨1, 1, 0, 0, 0, 0, false, 0, false, 0, []⟩ := by
  refine ⟨J.inv_init, rfl, ?_, ?_, fun _ => ⟨rfl, rfl⟩, fun _ => rfl, rfl, rfl, rfl, rfl, fun _ _ => rfl, rfl, rfl⟩
  · simp [J.Wk.init, J.Wk.fsize]
  · simp [J.Wk.init]
theorem Sim.code {k : J.Wk} {S : Sc} (h : Sim k S) (c : Nat) : Sim { k with code := c } S :=
  ⟨J.inv_code h.inv c, h.f, h.lf, h.run, h.run0, h.one, h.cr, h.ac, h.e, h.i, h.r, h.d, h.l⟩
theorem size_eq (k : J.Wk) (f : Nat) (h9 : f = 9 → k.rtr = false) : (k.fsize f : Int) = sizeZ f k.ext k.dlc := by
  unfold J.Wk.fsize sizeZ J.Wk.dlen
  by_cases q : f = 9
  · subst q
    rw [h9 rfl]
    simp
    split <;> omega
  · simp [q]
    have h1 : ((f : Int) = 2) ↔ f = 2 := by omega
    have h2 : ((f : Int) = 5) ↔ f = 5 := by omega
    have h3 : ((f : Int) = 7) ↔ f = 7 := by omega
    have h4 : ((f : Int) = 8) ↔ f = 8 := by omega
    have h5 : ((f : Int) = 10) ↔ f = 10 := by omega
    have h6 : ((f : Int) = 14) ↔ f = 14 := by omega
    have h7 : ((f : Int) = 9) ↔ f = 9 := by omega
    simp only [h1, h2, h3, h4, h5, h6, h7, if_neg q]
    repeat' split
    all_goals first | rfl | omega
theorem after_eq (k : J.Wk) (f : Nat) : (k.fafter f : Int) = afterZ f k.ext k.rtr k.dlc := by
  unfold J.Wk.fafter afterZ J.Wk.dlen
  have h1 : ((f : Int) = 4) ↔ f = 4 := by omega
  have h2 : ((f : Int) = 8) ↔ f = 8 := by omega
  simp only [h1, h2]
  by_cases c4 : f = 4 ∧ k.ext = false
  · rw [if_pos c4, if_pos c4]; rfl
  · rw [if_neg c4, if_neg c4]
    by_cases c8 : f = 8
    · cases hr : k.rtr <;> simp [c8] <;> split <;> rfl
    · simp [c8]
theorem rtr9 {k : J.Wk} (h : k.Inv) (h9 : k.field = 9) : k.rtr = false ∧ k.dlc ≠ 0 := by
  have ht := h.tk
  rw [h9] at ht
  unfold J.Wk.fsize J.Wk.dlen at ht
  simp at ht
  cases hr : k.rtr
  · rw [hr] at ht
    simp at ht
    exact ⟨rfl, by omega⟩
  · rw [hr] at ht; simp at ht
theorem Inv.id29 {k : J.Wk} (h : k.Inv) : k.id < 536870912 := by
  refine Nat.lt_of_lt_of_le h.idb (J.pow_le29 _ ?_)
  have := h.tk
  have := J.fsize_le k k.field
  repeat' split
  all_goals try omega
  all_goals (rename_i h5; rw [h5] at this; unfold J.Wk.fsize at *; simp_all; try omega)
theorem Inv.dlc15 {k : J.Wk} (h : k.Inv) : k.dlc ≤ 15 := by
  have hb := h.dlb
  have ht := h.tk
  have : 2 ^ (if k.field < 8 then 0 else if k.field = 8 then k.taken else 4) ≤ 2 ^ 4 := by
    refine Nat.pow_le_pow_right (by decide) ?_
    repeat' split
    · omega
    · rename_i h8; rw [h8] at ht; unfold J.Wk.fsize at ht; simp at ht; omega
    · omega
  omega
theorem Inv.crc15 {k : J.Wk} (h : k.Inv) : k.crc ≤ 32767 := by
  have hb := h.crb
  have ht := h.tk
  have : 2 ^ (if k.field < 10 then 0 else if k.field = 10 then k.taken else 15) ≤ 2 ^ 15 := by
    refine Nat.pow_le_pow_right (by decide) ?_
    repeat' split
    · omega
    · rename_i h8; rw [h8] at ht; unfold J.Wk.fsize at ht; simp at ht; omega
    · omega
  omega
theorem Sim.due {k : J.Wk} {S : Sc} (h : Sim k S) : k.due = decide (S.rn = 5) := by
  have f1 := h.inv.f1
  have f2 := h.inv.f2
  unfold J.Wk.due
  by_cases h12 : 12 ≤ k.field
  · have := (h.run0 (Or.inr h12)).1
    rw [this]
    have : ¬ k.field ≤ 11 := by omega
    simp [this]
  · by_cases h1 : k.field = 1
    · have := (h.run0 (Or.inl h1)).1
      rw [this, h.one h1]
      simp
    · have hr := (h.run (by omega) (by omega)).1
      have hf : k.field ≤ 11 := by omega
      rw [hr]
      simp [hf]
      omega
theorem Sim.ok {k : J.Wk} {S : Sc} (h : Sim k S) : okS S := by
  have f1 := h.inv.f1
  have f2 := h.inv.f2
  have ht := h.inv.tk
  have hsz : S.lf ≤ sizeZ S.f S.e S.d := by
    rw [h.lf, h.f, h.e, h.d, ← size_eq k k.field (fun h9 => (rtr9 h.inv h9).1)]
    omega
  have hid := Inv.id29 h.inv
  have hdl := Inv.dlc15 h.inv
  have hcr := Inv.crc15 h.inv
  have hrun : 0 ≤ S.rn ∧ S.rn ≤ 5 ∧ 0 ≤ S.lv ∧ S.lv ≤ 1 ∧ ¬ (S.rn = 0 ∧ S.lv = 1) ∧ ((S.f = 1 ∨ 11 < S.f) ↔ S.rn = 0) := by
    rw [h.f]
    by_cases h12 : k.field = 1 ∨ 12 ≤ k.field
    · obtain ⟨e1, e2⟩ := h.run0 h12
      rw [e1, e2]
      refine ⟨by omega, by omega, by omega, by omega, by omega, ?_⟩
      constructor
      · intro; rfl
      · intro; omega
    · obtain ⟨e1, e2, e3, e4, e5⟩ := h.run (by omega) (by omega)
      rw [e1]
      refine ⟨by omega, by omega, by omega, by omega, by omega, ?_⟩
      constructor
      · intro; omega
      · intro; omega
  obtain ⟨r1, r2, r3, r4, r5, r6⟩ := hrun
  have hsm := h.inv.sm
  refine ⟨by rw [h.f]; omega, by rw [h.f]; omega, by rw [h.i]; exact hid, by rw [h.d]; omega, by rw [h.d]; omega, by rw [h.l]; exact h.inv.dal, by rw [h.lf]; omega, hsz, r1, r2, r3, r4, r5, r6, by rw [h.cr]; omega, by rw [h.cr]; omega, by rw [h.ac]; omega, by rw [h.ac]; omega, fun h9 => ?_⟩
  have h9' : k.field = 9 := by have := h.f; omega
  obtain ⟨q1, q2⟩ := rtr9 h.inv h9'
  refine ⟨by rw [h.r (by omega) (by omega)]; exact q1, by rw [h.d]; omega, ?_⟩
  rw [h.lf, h.f, h.e, h.d, ← size_eq k k.field (fun _ => q1), h.l, h.inv.dat h9']
  omega
theorem Sim.verd {k : J.Wk} {S : Sc} (h : Sim k S) (b : Nat) (hb : b < 2) : (k.plainCode b : Int) = verdZ S.f S.lf S.cr S.ac b := by
  have f1 := h.inv.f1
  have f2 := h.inv.f2
  have ht := h.inv.tk
  rw [h.f, h.lf, h.cr, h.ac]
  unfold J.Wk.plainCode verdZ J.Wk.form J.Wk.crcOk J.Wk.eofCode J.Wk.form
  have hb' : b = 0 ∨ b = 1 := by omega
  by_cases h14 : k.field = 14
  · have e7 : k.fsize k.field = 7 := by rw [h14]; rfl
    rw [e7] at ht ⊢
    rw [h14]
    rcases hb' with rfl | rfl
    · simp
      split <;> split <;> omega
    · simp
      repeat' split
      all_goals omega
  · have h14' : ¬ ((k.field : Int) = 14) := by omega
    by_cases h13 : k.field = 13
    · rw [h13]
      rcases hb' with rfl | rfl
      · simp
      · simp
        split <;> split <;> simp_all <;> omega
    · by_cases h11 : k.field = 11
      · rw [h11]
        rcases hb' with rfl | rfl <;> simp
      · by_cases h1 : k.field = 1
        · rw [h1]
          rcases hb' with rfl | rfl <;> simp
        · have q1 : ¬ ((k.field : Int) = 1) := by omega
          have q2 : ¬ ((k.field : Int) = 11) := by omega
          have q3 : ¬ ((k.field : Int) = 13) := by omega
          simp [h1, h11, h13, h14, q1, q2, q3, h14']
theorem stepN_eq (r b : Nat) : J.M.stepN r b = stepN r b := rfl
/-- the bit is kept, the place not yet moved -/
structure Pre (k : J.Wk) (S : Sc) : Prop where
  f : S.f = k.field
  lf : S.lf = (k.fsize k.field : Int) - k.taken
  cr : S.cr = k.sum
  ac : S.ac = k.crc
  e : S.e = k.ext
  i : S.i = k.id
  r : k.field ≠ 5 → (k.field = 4 → k.ext = false) → S.r = k.rtr
  d : S.d = k.dlc
  l : S.l = k.data
theorem data_eq (da : List Nat) (tk : Nat) (lf : Int) (b : Nat) (hb : b < 2) (h8 : lf % 8 = 0 ↔ tk % 8 = 0) : dataZ da lf b = J.keepD da tk b := by
  unfold dataZ J.keepD
  by_cases h : tk % 8 = 0
  · rw [if_pos h, if_pos (h8.2 h)]
  · rw [if_neg h, if_neg (fun q => h (h8.1 q))]
    congr 1
    omega
set_option maxHeartbeats 2000000 in
theorem Sim.pre {k : J.Wk} {S : Sc} (h : Sim k S) (b : Nat) (hb : b < 2) : Pre ((k.heard (48 + b)).keep b) (feedZ (accT (sumT (hearT S b) b) b) b) := by
  have f1 := h.inv.f1
  have f2 := h.inv.f2
  have ht := h.inv.tk
  have hid := h.inv.idb
  have hdl := h.inv.dlb
  have hcr := h.inv.crb
  have h9 := fun q => (rtr9 h.inv q)
  obtain ⟨_, h1, h2, _, _, _, h3, h4, h5, h6, h7, h8, h10⟩ := h
  obtain ⟨fd, tk, la, su, cc, ex, id, rt, dc, da, co⟩ := k
  obtain ⟨f, lf, rn, lv, cr, ac, e, i, r, d, l⟩ := S
  simp only [] at *
  subst h1 h2 h3 h4 h5 h6 h8 h10
  have hb' : b = 0 ∨ b = 1 := by omega
  have hf : fd = 1 ∨ fd = 2 ∨ fd = 3 ∨ fd = 4 ∨ fd = 5 ∨ fd = 6 ∨ fd = 7 ∨ fd = 8 ∨ fd = 9 ∨ fd = 10 ∨ fd = 11 ∨ fd = 12 ∨ fd = 13 ∨ fd = 14 := by omega
  rcases hf with rfl | rfl | rfl | rfl | rfl | rfl | rfl | rfl | rfl | rfl | rfl | rfl | rfl | rfl
  · constructor <;> simp_all [J.Wk.heard, J.Wk.keep, J.Wk.keep1, hearT, sumT, accT, feedZ, stepN_eq, J.Wk.fsize]
  · have q : 2 * i + b < 536870912 := by
      simp [J.Wk.fsize] at ht hid
      have : 2 ^ tk ≤ 2 ^ 10 := Nat.pow_le_pow_right (by decide) (by omega)
      omega
    have q2 : (2 * i + b) % 536870912 = 2 * i + b := Nat.mod_eq_of_lt q
    clear hid
    constructor <;> simp_all [J.Wk.heard, J.Wk.keep, J.Wk.keep1, hearT, sumT, accT, feedZ, stepN_eq, J.Wk.fsize]
  · constructor <;> rcases hb' with rfl | rfl <;> simp_all [J.Wk.heard, J.Wk.keep, J.Wk.keep1, hearT, sumT, accT, feedZ, stepN_eq, J.Wk.fsize]
  · constructor <;> rcases hb' with rfl | rfl <;> simp_all [J.Wk.heard, J.Wk.keep, J.Wk.keep1, hearT, sumT, accT, feedZ, stepN_eq, J.Wk.fsize]
  · have q : 2 * i + b < 536870912 := by
      simp [J.Wk.fsize] at ht hid
      have : 2 ^ (11 + tk) ≤ 2 ^ 28 := Nat.pow_le_pow_right (by decide) (by omega)
      omega
    have q2 : (2 * i + b) % 536870912 = 2 * i + b := Nat.mod_eq_of_lt q
    clear hid
    constructor <;> simp_all [J.Wk.heard, J.Wk.keep, J.Wk.keep1, hearT, sumT, accT, feedZ, stepN_eq, J.Wk.fsize]
  · constructor <;> rcases hb' with rfl | rfl <;> simp_all [J.Wk.heard, J.Wk.keep, J.Wk.keep1, hearT, sumT, accT, feedZ, stepN_eq, J.Wk.fsize]
  · constructor <;> simp_all [J.Wk.heard, J.Wk.keep, J.Wk.keep1, hearT, sumT, accT, feedZ, stepN_eq, J.Wk.fsize]
  · have q : 2 * dc + b < 16 := by
      simp [J.Wk.fsize] at ht hdl
      have : 2 ^ tk ≤ 2 ^ 3 := Nat.pow_le_pow_right (by decide) (by omega)
      omega
    have q2 : (2 * (dc : Int) + b) % 16 = 2 * dc + b := by omega
    clear hdl
    constructor <;> simp_all [J.Wk.heard, J.Wk.keep, J.Wk.keep1, hearT, sumT, accT, feedZ, stepN_eq, J.Wk.fsize]
  · have hr := (h9 rfl).1
    subst hr
    have q := data_eq l tk (((J.Wk.mk 9 tk la su cc e i false dc l co).fsize 9 : Nat) - tk) b hb (by simp [J.Wk.fsize]; omega)
    constructor <;> simp_all [J.Wk.heard, J.Wk.keep, J.Wk.keep1, hearT, sumT, accT, feedZ, stepN_eq, J.Wk.fsize, J.Wk.dlen]
  · have q : 2 * cc + b < 32768 := by
      simp [J.Wk.fsize] at ht hcr
      have : 2 ^ tk ≤ 2 ^ 14 := Nat.pow_le_pow_right (by decide) (by omega)
      omega
    have q2 : (2 * (cc : Int) + b) % 32768 = 2 * cc + b := by omega
    clear hcr
    constructor <;> simp_all [J.Wk.heard, J.Wk.keep, J.Wk.keep1, hearT, sumT, accT, feedZ, J.Wk.fsize]
  all_goals constructor <;> simp_all [J.Wk.heard, J.Wk.keep, J.Wk.keep1, hearT, sumT, accT, feedZ, J.Wk.fsize]
theorem feed_run (S : Sc) (b : Nat) : (feedZ (accT (sumT (hearT S b) b) b) b).rn = (hearT S b).rn ∧ (feedZ (accT (sumT (hearT S b) b) b) b).lv = (hearT S b).lv := by
  unfold feedZ accT sumT
  repeat' split
  all_goals exact ⟨rfl, rfl⟩
theorem next_run (T : Sc) : (nextT T).rn = T.rn ∧ (nextT T).lv = T.lv := by
  unfold nextT
  split <;> exact ⟨rfl, rfl⟩
/-- the run behind one more plain bit -/
theorem Sim.hear {k : J.Wk} {S : Sc} (h : Sim k S) (b : Nat) (hb : b < 2) (hnd : S.rn ≠ 5) (h10 : k.field ≤ 10) :
    (hearT S b).rn = (J.M.hear k.last (48 + b)).2 ∧ (hearT S b).lv + 48 = (J.M.hear k.last (48 + b)).1 ∧ ((hearT S b).lv = 0 ∨ (hearT S b).lv = 1) ∧ 1 ≤ (J.M.hear k.last (48 + b)).2 ∧ (J.M.hear k.last (48 + b)).2 ≤ 5 := by
  have f1 := h.inv.f1
  have hf := h.f
  have e : hearT S b = { S with rn := if 0 < S.rn ∧ (b : Int) = S.lv then S.rn + 1 else 1, lv := b } := by
    unfold hearT
    rw [if_neg (by omega)]
  rw [e]
  simp only []
  by_cases h1 : k.field = 1
  · obtain ⟨e1, e2⟩ := h.run0 (Or.inl h1)
    have e3 := h.one h1
    rw [e1, e2, e3]
    unfold J.M.hear
    simp
    omega
  · obtain ⟨e1, e2, e3, e4, e5⟩ := h.run (by omega) (by omega)
    unfold J.M.hear
    by_cases hc : (b : Int) = S.lv
    · have q1 : 48 + b = k.last.1 := by omega
      rw [if_pos ⟨by omega, hc⟩, if_pos q1]
      refine ⟨?_, ?_, by omega, ?_, ?_⟩ <;> simp only [] <;> omega
    · have q1 : ¬ 48 + b = k.last.1 := by omega
      rw [if_neg (by intro q; exact hc q.2), if_neg q1]
      refine ⟨?_, ?_, by omega, ?_, ?_⟩ <;> simp only [] <;> omega
theorem keep_last' (k : J.Wk) (b : Nat) : (k.keep b).last = k.last := J.keep_last k b
set_option maxHeartbeats 1000000 in
theorem Sim.step {k : J.Wk} {S : Sc} (h : Sim k S) (b : Nat) (hb : b < 2) (hnd : S.rn ≠ 5) (hg : k.plainCode b = 0 ∨ k.plainCode b = 1) : Sim (((k.heard (48 + b)).keep b).adv) (stepT S b) := by
  have hinv : (((k.heard (48 + b)).keep b).adv).Inv := J.inv_adv (k.heard (48 + b)) b hb (J.inv_heard h.inv _) hg
  have hp := h.pre b hb
  have f1 := h.inv.f1
  have f2 := h.inv.f2
  have ht := h.inv.tk
  have hkf : ((k.heard (48 + b)).keep b).field = k.field := J.keep_field _ _
  have hkt : ((k.heard (48 + b)).keep b).taken = k.taken := J.keep_taken _ _
  have hkl : ((k.heard (48 + b)).keep b).last = J.M.hear k.last (48 + b) := J.keep_last _ _
  have hdan : k.field < 9 → ((k.heard (48 + b)).keep b).data = [] := by
    intro q
    have := h.inv.dan q
    unfold J.Wk.keep J.Wk.keep1 J.Wk.heard
    repeat' split
    all_goals first | exact this | (exfalso; simp_all; done) | (exfalso; simp_all; omega)
  have hrun := fun q => h.hear b hb hnd q
  obtain ⟨r1, r2⟩ := feed_run S b
  have hst : stepT S b = nextT (feedZ (accT (sumT (hearT S b) b) b) b) := rfl
  obtain ⟨n1, n2⟩ := next_run (feedZ (accT (sumT (hearT S b) b) b) b)
  have h14 : k.field = 14 → k.taken < 6 := by
    intro q
    have e7 : k.fsize k.field = 7 := by rw [q]; rfl
    rcases Nat.lt_or_ge k.taken 6 with q6 | q6
    · exact q6
    · have e6 : k.taken = 6 := by omega
      exfalso
      unfold J.Wk.plainCode J.Wk.eofCode at hg
      rw [q, e6] at hg
      rcases (by omega : b = 0 ∨ b = 1) with rfl | rfl <;> simp at hg
  have hhi : 11 ≤ k.field → (hearT S b).rn = 0 ∧ (hearT S b).lv = 0 := by
    intro q
    have := h.f
    unfold hearT
    rw [if_pos (by omega)]
    exact ⟨rfl, rfl⟩
  rw [hst]
  generalize feedZ (accT (sumT (hearT S b) b) b) b = T at *
  generalize (k.heard (48 + b)).keep b = k' at *
  obtain ⟨pf, plf, pcr, pac, pe, pi, pr, pd, pl⟩ := hp
  rw [r1] at n1
  rw [r2] at n2
  have hsz : k'.fsize k'.field = k'.taken + 1 ∨ k'.taken + 1 < k'.fsize k'.field := by
    have := hinv.tk
    unfold J.Wk.adv at this
    by_cases q : k'.taken + 1 = k'.fsize k'.field
    · exact Or.inl q.symm
    · rw [if_neg q] at this
      right
      exact this
  rcases hsz with hs | hs
  · have hl1 : T.lf = 1 := by rw [plf, hs]; omega
    have e1 : k'.adv = { k' with field := k'.fafter k'.field, taken := 0 } := by unfold J.Wk.adv; rw [if_pos hs.symm]
    have e2 : nextT T = { T with f := afterZ T.f T.e T.r T.d, lf := sizeZ (afterZ T.f T.e T.r T.d) T.e T.d, l := if afterZ T.f T.e T.r T.d = 9 then [] else T.l } := by unfold nextT; rw [if_pos hl1]
    have hfld : k'.field ≠ 14 := by
      intro q
      have e7 : k'.fsize k'.field = 7 := by rw [q]; rfl
      have := h14 (by omega)
      omega
    have haf : (k'.fafter k'.field : Int) = afterZ T.f T.e T.r T.d := by
      rw [after_eq, pf, pe, pd]
      by_cases q8 : k'.field = 8
      · rw [pr (by omega) (by omega)]
      · unfold afterZ
        have : ¬ ((k'.field : Int) = 8) := by omega
        simp [this]
    have hafb : k'.field < k'.fafter k'.field ∧ k'.fafter k'.field ≤ 14 := by
      unfold J.Wk.fafter
      repeat' split
      all_goals omega
    have h9 : k'.fafter k'.field = 9 → k'.field = 8 ∧ k'.rtr = false := by
      unfold J.Wk.fafter
      intro q
      by_cases c4 : k'.field = 4 ∧ k'.ext = false
      · rw [if_pos c4] at q; omega
      rw [if_neg c4] at q
      by_cases c8 : k'.field = 8 ∧ k'.dlen = 0
      · rw [if_pos c8] at q; omega
      rw [if_neg c8] at q
      refine ⟨by omega, ?_⟩
      cases hr : k'.rtr
      · rfl
      · exact absurd ⟨by omega, by unfold J.Wk.dlen; rw [hr]; simp⟩ c8
    rw [e1] at hinv ⊢
    rw [e2] at n1 n2 ⊢
    simp only [] at n1 n2
    refine ⟨hinv, haf.symm, ?_, ?_, ?_, ?_, pcr, pac, pe, pi, ?_, pd, ?_⟩
    · simp only []
      rw [← haf, pe, pd]
      have := size_eq k' (k'.fafter k'.field) (fun q => (h9 q).2)
      have e3 : ({ k' with field := k'.fafter k'.field, taken := 0 } : J.Wk).fsize (k'.fafter k'.field) = k'.fsize (k'.fafter k'.field) := rfl
      rw [e3, this]
      simp
    · simp only []
      intro q1 q2
      have h10 : k.field ≤ 10 := by
        rcases Nat.lt_or_ge 10 k.field with q | q
        · omega
        · exact q
      rw [n1, n2, hkl]
      exact hrun h10
    · simp only []
      intro q
      have h11 : 11 ≤ k.field := by
        rcases q with q | q
        · omega
        · rcases Nat.lt_or_ge k.field 11 with q3 | q3
          · exfalso
            have : k'.fafter k'.field ≤ 11 := by
              unfold J.Wk.fafter
              repeat' split
              all_goals omega
            omega
          · exact q3
      rw [n1, n2]
      exact hhi h11
    · simp only []
      intro q
      omega
    · simp only []
      intro q1 q2
      refine pr ?_ ?_
      · intro q5
        apply q2
        unfold J.Wk.fafter
        simp [q5]
      · intro q4
        cases he : k'.ext
        · rfl
        · exfalso
          apply q1
          unfold J.Wk.fafter
          simp [q4, he]
    · simp only []
      rw [← haf]
      by_cases q : k'.fafter k'.field = 9
      · have : ((k'.fafter k'.field : Nat) : Int) = 9 := by omega
        rw [if_pos this, hdan (by have := (h9 q).1; omega)]
      · have : ¬ ((k'.fafter k'.field : Nat) : Int) = 9 := by omega
        rw [if_neg this]
        exact pl
  · have hl1 : T.lf ≠ 1 := by rw [plf]; omega
    have e1 : k'.adv = { k' with taken := k'.taken + 1 } := by unfold J.Wk.adv; rw [if_neg (by omega)]
    have e2 : nextT T = { T with lf := T.lf - 1 } := by unfold nextT; rw [if_neg hl1]
    rw [e1] at hinv ⊢
    rw [e2] at n1 n2 ⊢
    simp only [] at n1 n2
    have hsz2 : 2 ≤ k'.fsize k'.field := by omega
    have hmid : k'.field ≠ 1 ∧ k'.field ≠ 4 ∧ k'.field ≠ 6 ∧ k'.field ≠ 11 ∧ k'.field ≠ 12 ∧ k'.field ≠ 13 := by
      refine ⟨?_, ?_, ?_, ?_, ?_, ?_⟩ <;> (intro q; rw [q] at hsz2; simp [J.Wk.fsize] at hsz2)
    refine ⟨hinv, pf, ?_, ?_, ?_, ?_, pcr, pac, pe, pi, ?_, pd, pl⟩
    · simp only []
      have e3 : ({ k' with taken := k'.taken + 1 } : J.Wk).fsize k'.field = k'.fsize k'.field := rfl
      rw [e3, plf]
      omega
    · simp only []
      intro q1 q2
      rw [n1, n2, hkl]
      exact hrun (by omega)
    · simp only []
      intro q
      rw [n1, n2]
      exact hhi (by omega)
    · simp only []
      intro q
      omega
    · simp only []
      intro q1 q2
      exact pr q1 (fun q4 => absurd q4 hmid.2.1)
/-- the due stuff bit -/
theorem Sim.stuffed {k : J.Wk} {S : Sc} (h : Sim k S) (b : Nat) (hb : b < 2) (h5 : S.rn = 5) (hv : (b : Int) ≠ S.lv) : Sim (k.heard (48 + b)) { S with rn := 1, lv := b } := by
  have f1 := h.inv.f1
  have hf : 2 ≤ k.field ∧ k.field ≤ 11 := by
    rcases (by omega : (k.field = 1 ∨ 12 ≤ k.field) ∨ (2 ≤ k.field ∧ k.field ≤ 11)) with q | q
    · have := (h.run0 q).1; omega
    · exact q
  obtain ⟨e1, e2, e3, e4, e5⟩ := h.run hf.1 hf.2
  have q1 : ¬ 48 + b = k.last.1 := by omega
  refine ⟨J.inv_heard h.inv _, h.f, h.lf, ?_, ?_, ?_, h.cr, h.ac, h.e, h.i, h.r, h.d, h.l⟩
  · intro _ _
    unfold J.Wk.heard J.M.hear
    simp only []
    rw [if_neg q1]
    simp only []
    omega
  · intro q
    have : k.field = 1 ∨ 12 ≤ k.field := q
    omega
  · intro q
    have : k.field = 1 := q
    omega
end Go.Proofs.YtjmlalojfghkiaaDoor.K
