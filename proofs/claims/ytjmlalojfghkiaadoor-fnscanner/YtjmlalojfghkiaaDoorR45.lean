import Derived.Test.YtjmlalojfghkiaaDoorR36
import Derived.Test.YtjmlalojfghkiaaDoorR44
import Derived.Test.YtjmlalojfghkiaaDoorR23
namespace Go.Proofs.YtjmlalojfghkiaaDoor.K
open Go.Proofs.YtjmlalojfghkiaaDoor
set_option linter.unusedVariables false
/-- one more letter, and its code -/
def nx (k : J.Wk) (c : Nat) : J.Wk := { (k.take c).1 with code := (k.take c).2 }
/-- every letter of l goes on -/
def On (k : J.Wk) : List Nat → Prop
  | [] => True
  | c :: cs => J.goesOnB (k.take c).2 = true ∧ On (nx k c) cs
theorem on_snoc (l : List Nat) (c : Nat) : ∀ k : J.Wk, On k l → J.goesOnB ((k.over l).take c).2 = true → On k (l ++ [c]) := by
  induction l with
  | nil => intro k _ h; exact ⟨h, trivial⟩
  | cons x l ih =>
    intro k h1 h2
    refine ⟨h1.1, ih _ h1.2 ?_⟩
    have e : k.over (x :: l) = (nx k x).over l := by
      show (if J.goesOnB (k.take x).2 = true then _ else _) = _
      rw [if_pos h1.1]
      rfl
    rw [← e]
    exact h2
theorem over_snoc (l : List Nat) (c : Nat) : ∀ k : J.Wk, On k l → k.over (l ++ [c]) = nx (k.over l) c := by
  induction l with
  | nil =>
    intro k _
    show (if J.goesOnB (k.take c).2 = true then J.Wk.over _ [] else if ([] : List Nat) = [] then _ else _) = _
    split
    · rfl
    · rfl
  | cons x l ih =>
    intro k h
    have e : ∀ m, k.over (x :: m) = (nx k x).over m := by
      intro m
      show (if J.goesOnB (k.take x).2 = true then _ else _) = _
      rw [if_pos h.1]
      rfl
    rw [List.cons_append, e, e]
    exact ih _ h.2
/-- how many plain bits lie behind the walk, at most -/
def off (f : Nat) : Nat :=
  if f ≤ 1 then 0 else if f = 2 then 1 else if f = 3 then 12 else if f = 4 then 13 else if f = 5 then 14 else if f = 6 then 32 else if f = 7 then 33 else if f = 8 then 35 else if f = 9 then 39 else if f = 10 then 103 else if f = 11 then 118 else if f = 12 then 119 else if f = 13 then 120 else 121
def pos (k : J.Wk) : Nat := off k.field + k.taken
theorem pos_le {k : J.Wk} (h : k.Inv) : pos k ≤ 127 := by
  have f1 := h.f1
  have f2 := h.f2
  have ht := h.tk
  have hd := J.dlen_le k
  have hf : k.field = 1 ∨ k.field = 2 ∨ k.field = 3 ∨ k.field = 4 ∨ k.field = 5 ∨ k.field = 6 ∨ k.field = 7 ∨ k.field = 8 ∨ k.field = 9 ∨ k.field = 10 ∨ k.field = 11 ∨ k.field = 12 ∨ k.field = 13 ∨ k.field = 14 := by omega
  unfold pos off
  rcases hf with e | e | e | e | e | e | e | e | e | e | e | e | e | e <;> rw [e] at ht ⊢ <;> simp [J.Wk.fsize] at ht ⊢ <;> first | omega | (split at ht <;> omega)
theorem pos_adv (k : J.Wk) (f1 : 1 ≤ k.field) (f2 : k.field ≤ 14) (h : k.adv.Inv) : pos k + 1 ≤ pos k.adv := by
  have hd := J.dlen_le k
  have hf : k.field = 1 ∨ k.field = 2 ∨ k.field = 3 ∨ k.field = 4 ∨ k.field = 5 ∨ k.field = 6 ∨ k.field = 7 ∨ k.field = 8 ∨ k.field = 9 ∨ k.field = 10 ∨ k.field = 11 ∨ k.field = 12 ∨ k.field = 13 ∨ k.field = 14 := by omega
  have h2 := h.f2
  unfold J.Wk.adv at h2 ⊢
  by_cases q : k.taken + 1 = k.fsize k.field
  · rw [if_pos q] at h2 ⊢
    have h3 : k.fafter k.field ≤ 14 := h2
    show off k.field + k.taken + 1 ≤ off (k.fafter k.field) + 0
    cases hx : k.ext <;> by_cases hdl : k.dlen = 0 <;> rcases hf with e | e | e | e | e | e | e | e | e | e | e | e | e | e <;> rw [e] at q h3 ⊢ <;> simp [J.Wk.fsize, J.Wk.fafter, off, hx, hdl] at q h3 ⊢ <;> omega
  · rw [if_neg q]
    show off k.field + k.taken + 1 ≤ off k.field + (k.taken + 1)
    omega
/-- where the law's loop stands behind i letters -/
structure At (L : List Nat) (i : Nat) (S : Sc) : Prop where
  on : On J.Wk.init (L.take i)
  sim : Sim (J.Wk.init.over (L.take i)) S
  go : J.goesOnB (J.Wk.init.over (L.take i)).code = true
  few : i + (if S.rn = 5 then 1 else 0) ≤ 2 * pos (J.Wk.init.over (L.take i))
theorem At.init (L : List Nat) : At L 0 ⟨1, 1, 0, 0, 0, 0, false, 0, false, 0, []⟩ :=
  ⟨trivial, Sim.init, rfl, by simp⟩
theorem At.le {L : List Nat} {i : Nat} {S : Sc} (h : At L i S) : i ≤ 254 := by
  have h1 := pos_le h.sim.inv
  have h2 := h.few
  split at h2 <;> omega
/-- the scan behind one more bit -/
def scn (S : Sc) (b : Nat) : Sc × Int :=
  if S.rn = 5 then (if (b : Int) = S.lv then (scZ, 3) else ({ S with rn := 1, lv := b }, 0))
  else if verdZ S.f S.lf S.cr S.ac b = 0 ∨ verdZ S.f S.lf S.cr S.ac b = 1 then (stepT S b, verdZ S.f S.lf S.cr S.ac b) else (scZ, verdZ S.f S.lf S.cr S.ac b)
theorem plain_heard (k : J.Wk) (c b : Nat) : (k.heard c).plainCode b = k.plainCode b := rfl
theorem Sim.due_lv {k : J.Wk} {S : Sc} (h : Sim k S) (b : Nat) (hb : b < 2) (h5 : S.rn = 5) : (48 + b = k.last.1 ↔ (b : Int) = S.lv) := by
  have f1 := h.inv.f1
  have hf : 2 ≤ k.field ∧ k.field ≤ 11 := by
    rcases (by omega : (k.field = 1 ∨ 12 ≤ k.field) ∨ (2 ≤ k.field ∧ k.field ≤ 11)) with q | q
    · have := (h.run0 q).1; omega
    · exact q
  obtain ⟨e1, e2, e3, e4, e5⟩ := h.run hf.1 hf.2
  omega
theorem Sim.take {k : J.Wk} {S : Sc} (h : Sim k S) (b : Nat) (hb : b < 2) : ((k.take (48 + b)).2 : Int) = (scn S b).2 := by
  have hd := h.due
  unfold J.Wk.take scn
  by_cases h5 : S.rn = 5
  · have e : k.due = true := by rw [hd]; simpa using h5
    have hv := h.due_lv b hb h5
    by_cases q : (b : Int) = S.lv
    · rw [if_pos ⟨e, hv.2 q⟩, if_pos h5, if_pos q]; rfl
    · rw [if_neg (fun z => q (hv.1 z.2)), if_pos e, if_pos h5, if_neg q]; rfl
  · have e : ¬ k.due = true := by rw [hd]; simpa using h5
    rw [if_neg (fun z => e z.1), if_neg e, if_neg h5]
    simp only [Nat.add_sub_cancel_left, plain_heard]
    rw [h.verd b hb]
    split <;> rfl
theorem goes_iff {k : J.Wk} {S : Sc} (h : Sim k S) (b : Nat) (hb : b < 2) : J.goesOnB (k.take (48 + b)).2 = true ↔ ((scn S b).2 = 0 ∨ (scn S b).2 = 1) := by
  rw [← h.take b hb]
  unfold J.goesOnB
  simp
  omega
theorem Sim.goes {k : J.Wk} {S : Sc} (h : Sim k S) (b : Nat) (hb : b < 2) (hg : J.goesOnB (k.take (48 + b)).2 = true) : Sim (nx k (48 + b)) (scn S b).1 ∧ ∀ i : Nat, i + (if S.rn = 5 then 1 else 0) ≤ 2 * pos k → i + 1 + (if (scn S b).1.rn = 5 then 1 else 0) ≤ 2 * pos (nx k (48 + b)) := by
  have hd := h.due
  have ht := h.take b hb
  have hgi := (goes_iff h b hb).1 hg
  unfold nx
  unfold scn at hgi ⊢
  by_cases h5 : S.rn = 5
  · rw [if_pos h5] at hgi ⊢
    have e : k.due = true := by rw [hd]; simpa using h5
    have hv := h.due_lv b hb h5
    by_cases q : (b : Int) = S.lv
    · rw [if_pos q] at hgi
      rcases hgi with z | z <;> exact absurd z (by decide)
    · rw [if_neg q]
      have et : k.take (48 + b) = (k.heard (48 + b), 0) := by unfold J.Wk.take; rw [if_neg (fun z => q (hv.1 z.2)), if_pos e]
      rw [et]
      refine ⟨(h.stuffed b hb h5 q).code 0, fun i hi => ?_⟩
      rw [if_pos h5] at hi
      have e2 : pos ({ k.heard (48 + b) with code := 0 } : J.Wk) = pos k := rfl
      rw [e2]
      simp
      omega
  · rw [if_neg h5] at hgi ⊢
    have e : ¬ k.due = true := by rw [hd]; simpa using h5
    have hvd := h.verd b hb
    have et : k.take (48 + b) = (((k.heard (48 + b)).keep b).adv, k.plainCode b) := by
      unfold J.Wk.take
      rw [if_neg (fun z => e z.1), if_neg e]
      simp only [Nat.add_sub_cancel_left, plain_heard]
    rw [et]
    by_cases q : verdZ S.f S.lf S.cr S.ac b = 0 ∨ verdZ S.f S.lf S.cr S.ac b = 1
    · rw [if_pos q]
      have hs := h.step b hb h5 (by omega)
      refine ⟨hs.code _, fun i hi => ?_⟩
      have e2 : pos ({ ((k.heard (48 + b)).keep b).adv with code := k.plainCode b } : J.Wk) = pos ((k.heard (48 + b)).keep b).adv := rfl
      rw [e2]
      have hkf : ((k.heard (48 + b)).keep b).field = k.field := J.keep_field _ _
      have hkt : ((k.heard (48 + b)).keep b).taken = k.taken := J.keep_taken _ _
      have hp := pos_adv ((k.heard (48 + b)).keep b) (by rw [hkf]; exact h.inv.f1) (by rw [hkf]; exact h.inv.f2) hs.inv
      have e3 : pos ((k.heard (48 + b)).keep b) = pos k := by unfold pos; rw [hkf, hkt]
      rw [e3] at hp
      split at hi <;> split <;> omega
    · rw [if_neg q] at hgi
      exact absurd hgi q
theorem At.next {L : List Nat} {i : Nat} {S : Sc} (h : At L i S) (hi : i < L.length) (b : Nat) (hb : b < 2) (hl : L[i] = 48 + b) (hg : (scn S b).2 = 0 ∨ (scn S b).2 = 1) : At L (i + 1) (scn S b).1 := by
  have hg' := (goes_iff h.sim b hb).2 hg
  have e : L.take (i + 1) = L.take i ++ [48 + b] := by rw [List.take_succ_eq_append_getElem hi, hl]
  have eo : J.Wk.init.over (L.take (i + 1)) = nx (J.Wk.init.over (L.take i)) (48 + b) := by rw [e]; exact over_snoc _ _ _ h.on
  obtain ⟨g1, g2⟩ := h.sim.goes b hb hg'
  refine ⟨by rw [e]; exact on_snoc _ _ _ h.on hg', by rw [eo]; exact g1, by rw [eo]; exact hg', by rw [eo]; exact g2 i h.few⟩
/-- the walk over the letters so far and one more -/
theorem At.over {L : List Nat} {i : Nat} {S : Sc} (h : At L i S) (hi : i < L.length) (b : Nat) (hb : b < 2) (hl : L[i] = 48 + b) : ((J.Wk.init.over (L.take (i + 1))).code : Int) = (scn S b).2 := by
  have e : L.take (i + 1) = L.take i ++ [48 + b] := by rw [List.take_succ_eq_append_getElem hi, hl]
  have eo : J.Wk.init.over (L.take (i + 1)) = nx (J.Wk.init.over (L.take i)) (48 + b) := by rw [e]; exact over_snoc _ _ _ h.on
  rw [eo]
  exact h.sim.take b hb
open Go.RowKit
theorem ansB_mono {w : World} {B B' : Nat} {l : List Nat} {a : Option Addr} {n k : Nat} (h : ansB w B l a n k) (hb : B' ≤ B) : ansB w B' l a n k := by
  rcases h with ⟨g, h1, h2, h3⟩ | h
  · exact Or.inl ⟨g, h1, h2.mono hb, h3⟩
  · exact Or.inr h
theorem bd_of (S : Sc) (hS : okS S) (hs : ∀ x ∈ S.l, x < 256) : bd S := by
  obtain ⟨h1, h2, h3, h4, h5, h6, h7, h8, h9, h10, h11, h12, h13, h14, h15, h16, h17, h18, h19⟩ := hS
  have hsz := sizeZ_le S.f S.e S.d h4 h5
  refine ⟨h1, h2, h3, h4, h5, h6, h7, by omega, h15, h16, h17, h18, hs, fun h9' h8' => ?_⟩
  obtain ⟨q1, q2, q3⟩ := h19 h9'
  have hm : sizeZ S.f S.e S.d % 8 = 0 := by rw [h9']; unfold sizeZ; simp; split <;> omega
  omega
/-- impl.ScanBit of a sound scan -/
theorem scan_any (S : Sc) (hS : okS S) (hs : ∀ x ∈ S.l, x < 256) (b : Nat) (hb : b < 2) (w : World) (hg : w.rangeAt 0 0 tabL) (hz : 0 < w.heap.size) (g : Option Addr) (n cap : Nat) (ha : G.okA g n cap) (h : isBytes w g n cap S.l) :
    Calls Tryd.prog 8 #[scV S g n cap, .int .i64 (b : Int)] w fun o w' => ∃ a n' k', o = .returned (.tuple #[scV (scn S b).1 a n' k', .int .i64 (scn S b).2]) ∧ ansB w' w.heap.size (scn S b).1.l a n' k' ∧ Below w.heap.size w w' := by
  have hlf : 1 ≤ S.lf := hS.2.2.2.2.2.2.1
  unfold scn
  by_cases h5 : S.rn = 5
  · rw [if_pos h5]
    by_cases hv : (b : Int) = S.lv
    · rw [if_pos hv]
      refine (G.implScan_no w hg hz S hS g n cap ha h b hb 3 (by decide) (fun W g' k' hW => (take_stuff W _ S _ n k' hW b h5 hv).mono (by rintro o w' ⟨rfl, rfl⟩; exact ⟨rfl, Below.refl _ _⟩))).mono ?_
      rintro o w' ⟨rfl, hb⟩
      exact ⟨none, 0, 0, rfl, Or.inr ⟨rfl, rfl, rfl, rfl⟩, hb⟩
    · rw [if_neg hv]
      refine (G.implScan_yes w hg hz S hS g n cap ha h b hb 0 (by decide) { S with rn := 1, lv := b } (fun W g' k' hW hB hk => (G.take_due W _ _ (by omega) S g' n k' hk b h5 hv).mono ?_)).mono ?_
      · rintro o w' ⟨rfl, hk'⟩
        exact ⟨rfl, Or.inl ⟨_, _, _, hk'⟩⟩
      · rintro o w' ⟨a, n', k', rfl, h1, h2⟩
        exact ⟨a, n', k', rfl, ansB_mono h1 (by omega), h2⟩
  · rw [if_neg h5]
    by_cases hc : verdZ S.f S.lf S.cr S.ac b = 0 ∨ verdZ S.f S.lf S.cr S.ac b = 1
    · rw [if_pos hc]
      have h13 : S.lf = 1 → S.f ≤ 13 := by
        intro e
        rcases Int.lt_or_le 13 S.f with h | h
        · have hf : S.f = 14 := by have := hS.2.1; omega
          rw [hf, e] at hc
          rcases (by omega : b = 0 ∨ b = 1) with rfl | rfl
          · exact absurd hc (by simp [verdZ])
          · exact absurd hc (by simp [verdZ])
        · exact h
      refine (G.implScan_yes w hg hz S hS g n cap ha h b hb _ hc (stepT S b) (fun W g' k' hW hB hk => G.take_on W _ _ hz (by omega) hB hW S (bd_of S hS hs) hS.2.2.2.2.2.2.2.2.1 hS.2.2.2.2.2.2.2.2.2.1 g' n k' hk b hb h5 hc h13)).mono ?_
      rintro o w' ⟨a, n', k', rfl, h1, h2⟩
      exact ⟨a, n', k', rfl, ansB_mono h1 (by omega), h2⟩
    · rw [if_neg hc]
      have hc' : verdZ S.f S.lf S.cr S.ac b ≠ 0 ∧ verdZ S.f S.lf S.cr S.ac b ≠ 1 := ⟨fun e => hc (Or.inl e), fun e => hc (Or.inr e)⟩
      refine (G.implScan_no w hg hz S hS g n cap ha h b hb _ hc' (fun W g' k' hW => take_end W _ S _ n k' hW hlf b hb h5 hc')).mono ?_
      rintro o w' ⟨rfl, hb⟩
      exact ⟨none, 0, 0, rfl, Or.inr ⟨rfl, rfl, rfl, rfl⟩, hb⟩
end Go.Proofs.YtjmlalojfghkiaaDoor.K
namespace Go.Proofs.YtjmlalojfghkiaaDoor.J
open Go.RowKit
set_option maxHeartbeats 4000000 in
set_option maxRecDepth 20000 in
theorem wFrame_same (w : World) (e : Bool) (i : Nat) (r : Bool) (d : Int) (a : Option Addr) (n cap : Nat) (l : List Nat) (h : isBytes w a n cap l) (a' : Option Addr) (cap' : Nat) (h' : isBytes w a' n cap' l) (hn : n ≤ 1048576) :
    Calls Tryd.prog 17 #[frV e i r d a n cap, frV e i r d a' n cap'] w fun o w' => o = .returned (.bool true) ∧ Below w.heap.size w w' := by
  have hE : (e != e) = false := by simp
  have hR : (r != r) = false := by simp
  have hD : (d != d) = false := by simp
  have hI : ((i : Int) != (i : Int)) = false := by simp
  have hbl : Below w.heap.size w ((w.alloc (frC e i r d a n cap 29)).alloc (frC e i r d a' n cap' 29)) := ((Below.refl _ _).alloc (Nat.le_refl _) _).alloc (by simp) _
  have HB : Hid (Below w.heap.size w ((w.alloc (frC e i r d a n cap 29)).alloc (frC e i r d a' n cap' 29))) := hbl
  have HY : Hid (isBytes ((w.alloc (frC e i r d a n cap 29)).alloc (frC e i r d a' n cap' 29)) a n cap l) := h.below hbl
  have HY' : Hid (isBytes ((w.alloc (frC e i r d a n cap 29)).alloc (frC e i r d a' n cap' 29)) a' n cap' l) := h'.below hbl
  clear hbl h h'
  go_enter Tryd.func17, Tryd.ntmps17
  go_wp2
  go_loopw [5] (fun ii wr => ∃ k : Nat, k ≤ n ∧ ii = .int .i64 (k : Int) ∧ ∃ q, wr = ((w.alloc (frC e i r d a n cap 29)).alloc (frC e i r d a' n cap' 29)).drewN q) (fun ii _ => n - (intOf ii).toNat)
  case atStart => exact ⟨0, Nat.zero_le _, rfl, 0, rfl⟩
  case round =>
    obtain ⟨k, hk, rfl, q, rfl⟩ := hrel
    by_cases hlt : k < n
    · have hl : l ≠ [] := by intro e; have := HY.out.len; rw [e] at this; simp at this; omega
      obtain ⟨g1, o1, rfl, k1⟩ := HY.out.cells hl
      obtain ⟨g2, o2, rfl, k2⟩ := HY'.out.cells hl
      have hkl : k < l.length := by have := HY.out.len; omega
      have c1 := k1 k hkl
      have c2 := k2 k hkl
      have hx : (((l[k] : Nat) : Int) != ((l[k] : Nat) : Int)) = false := by simp
      have b0 : ((w.alloc (frC e i r d (some ⟨g1, o1, none⟩) n cap 29)).alloc (frC e i r d (some ⟨g2, o2, none⟩) n cap' 29)).cell? ⟨w.heap.size, 4, none⟩ = some (.slice (some ⟨g1, o1, none⟩) n cap) := by go_simp
      have b1 : ((w.alloc (frC e i r d (some ⟨g1, o1, none⟩) n cap 29)).alloc (frC e i r d (some ⟨g2, o2, none⟩) n cap' 29)).cell? ⟨w.heap.size + 1, 4, none⟩ = some (.slice (some ⟨g2, o2, none⟩) n cap') := by go_simp
      generalize l[k] = x at *
      clear k1 k2 hkl hl
      generalize (w.alloc (frC e i r d (some ⟨g1, o1, none⟩) n cap 29)).alloc (frC e i r d (some ⟨g2, o2, none⟩) n cap' 29) = W at *
      go_wp2
      go_quiet (fail)
      go_wp2
      go_roundw
      case rel => exact ⟨k + 1, by omega, by go_num, _, rfl⟩
      case measure => simp [intOf]; omega
    · go_wp2
      go_ret
      exact ⟨rfl, below_drewN HB.out q⟩
end Go.Proofs.YtjmlalojfghkiaaDoor.J
namespace Go.Proofs.YtjmlalojfghkiaaDoor.K
open Go.RowKit
theorem nil_bytes (w : World) : J.isBytes w none 0 0 [] := ⟨rfl, Nat.le_refl _, by simp, fun h => absurd rfl h⟩
set_option maxHeartbeats 4000000 in
set_option maxRecDepth 20000 in
theorem wScan_end (w : World) (a2 : Option Addr) (k2 : Nat) : Calls Tryd.prog 15 #[scV scZ a2 0 k2, scV scZ none 0 0] w fun o w' => o = .returned (.bool true) ∧ Below w.heap.size w w' := by
  have HC : Hid (∀ W, Below w.heap.size w W → Calls Tryd.prog 17 #[frV false 0 false 0 a2 0 k2, frV false 0 false 0 none 0 0] W fun o w' => o = .returned (.bool true) ∧ Below w.heap.size w w') := by
    intro W hW
    refine (J.wFrame_same W false 0 false 0 a2 0 k2 [] ⟨rfl, Nat.zero_le _, by simp, fun h => absurd rfl h⟩ none 0 (nil_bytes W) (by omega)).mono ?_
    rintro o w' ⟨rfl, hb⟩
    exact ⟨rfl, hW.trans (hb.mono hW.size)⟩
  go_enter Tryd.func15, Tryd.ntmps15
  go_wp2_with (first | (go_at_call 17; refine (HC.out _ (((Below.refl _ _).alloc (Nat.le_refl _) _).alloc (by simp) _)).mono ?_; rintro o w1 ⟨rfl, hb1⟩))
  go_ret
  exact ⟨rfl, hb1⟩
set_option linter.unusedVariables false
theorem lt_take (t : ByteArray) (k : Nat) : J.lt (t.extract 0 k) = (J.lt t).take k := by
  unfold J.lt
  rw [← List.map_take]
  congr 1
  rw [ByteArray.data_extract]
  simp
theorem okT_of (s : ByteArray) (h : s.size ≤ 4000) (hl : ∀ x ∈ J.lt s, J.M.isL x) : J.okT s 4000 = true := by
  unfold J.okT
  simp only [Bool.and_eq_true, decide_eq_true_eq, List.all_eq_true]
  refine ⟨by omega, fun c hc => J.okC_of c ?_⟩
  have := hl c.toNat (by unfold J.lt; exact List.mem_map.2 ⟨c, hc, rfl⟩)
  rcases this with e | e <;> rw [e] <;> simp
theorem valid_f (S : Sc) (b : Nat) (h : (scn S b).2 = 1) : (scn S b).1.f = 14 := by
  obtain ⟨f, lf, rn, lv, cr, ac, e, i, r, d, l⟩ := S
  unfold scn at h ⊢
  simp only [] at h ⊢
  by_cases h5 : rn = 5
  · rw [if_pos h5] at h
    split at h <;> exact absurd h (by simp)
  · rw [if_neg h5] at h ⊢
    by_cases hc : verdZ f lf cr ac b = 0 ∨ verdZ f lf cr ac b = 1
    · rw [if_pos hc] at h ⊢
      have hv : verdZ f lf cr ac b = 1 := h
      have : f = 14 ∧ lf = 2 := by
        unfold verdZ at hv
        repeat' split at hv
        all_goals first | omega | exact ⟨by assumption, by assumption⟩
      obtain ⟨rfl, rfl⟩ := this
      simp [stepT, hearT, sumT, accT, feedZ, nextT]
    · rw [if_neg hc] at h
      exact absurd (Or.inr h) hc
/-- what one round of the law's loop knows -/
structure Rnd (t : ByteArray) (i : Nat) (S : Sc) (b : Nat) : Prop where
  ok : okS S
  sm : ∀ x ∈ S.l, x < 256
  code : ((J.walkZ (t.extract 0 (i + 1))).code : Int) = (scn S b).2
  go : ((scn S b).2 = 0 ∨ (scn S b).2 = 1) → J.goesOnB (J.walkZ (t.extract 0 (i + 1))).code = true ∧ (scn S b).1.f = (J.walkZ (t.extract 0 (i + 1))).field ∧ (J.walkZ (t.extract 0 (i + 1))).due = decide ((scn S b).1.rn = 5) ∧ At (J.lt t) (i + 1) (scn S b).1
  stop : ¬ ((scn S b).2 = 0 ∨ (scn S b).2 = 1) → (scn S b).1 = scZ
  fr : (scn S b).2 = 1 → (scn S b).1.e = (J.walkZ (t.extract 0 (i + 1))).ext ∧ (scn S b).1.i = (J.walkZ (t.extract 0 (i + 1))).id ∧ (scn S b).1.r = (J.walkZ (t.extract 0 (i + 1))).rtr ∧ (scn S b).1.d = (J.walkZ (t.extract 0 (i + 1))).dlc ∧ (scn S b).1.l = (J.walkZ (t.extract 0 (i + 1))).data
theorem At.rnd {t : ByteArray} {i : Nat} {S : Sc} (h : At (J.lt t) i S) (hbit : ∀ x ∈ (J.lt t).take i, J.M.isL x) (hi : i < t.size) (b : Nat) (hb : b < 2) (hl : t[i].toNat = 48 + b) : Rnd t i S b ∧ ∀ x ∈ (J.lt t).take (i + 1), J.M.isL x := by
  have hlen : i < (J.lt t).length := by rw [J.lt_length]; exact hi
  have hat : (J.lt t)[i] = 48 + b := by
    rw [← hl]
    simp [J.lt]
    rfl
  have hbit' : ∀ x ∈ (J.lt t).take (i + 1), J.M.isL x := by
    intro x hx
    rw [List.take_succ_eq_append_getElem hlen, hat] at hx
    rcases List.mem_append.1 hx with q | q
    · exact hbit x q
    · simp at q
      rcases (by omega : b = 0 ∨ b = 1) with rfl | rfl
      · exact Or.inl q
      · exact Or.inr q
  have h254 := h.le
  have hw : J.walkZ (t.extract 0 (i + 1)) = J.Wk.init.over ((J.lt t).take (i + 1)) := by
    unfold J.walkZ
    have hk : J.okT (t.extract 0 (i + 1)) 4000 = true := by
      refine okT_of _ ?_ ?_
      · rw [← J.lt_length, lt_take, List.length_take]; omega
      · rw [lt_take]; exact hbit'
    rw [if_pos hk, lt_take]
  have hc := h.over hlen b hb hat
  refine ⟨⟨h.sim.ok, by rw [h.sim.l]; exact h.sim.inv.das, by rw [hw]; exact hc, ?_, ?_, ?_⟩, hbit'⟩
  · intro hg
    have hn := h.next hlen b hb hat hg
    rw [hw]
    exact ⟨hn.go, hn.sim.f, hn.sim.due, hn⟩
  · intro hg
    unfold scn at hg ⊢
    split
    · rename_i h5
      rw [if_pos h5] at hg
      split
      · rfl
      · rename_i hv
        rw [if_neg hv] at hg
        exact absurd (Or.inl rfl) hg
    · rename_i h5
      rw [if_neg h5] at hg
      split
      · rename_i hv
        rw [if_pos hv] at hg
        exact absurd hv hg
      · rfl
  · intro h1
    have hn := h.next hlen b hb hat (Or.inr h1)
    have hf := valid_f S b h1
    have hs := hn.sim
    have h14 : (J.Wk.init.over ((J.lt t).take (i + 1))).field = 14 := by have := hs.f; omega
    rw [hw]
    exact ⟨hs.e, hs.i, hs.r (by omega) (by omega), hs.d, hs.l⟩
end Go.Proofs.YtjmlalojfghkiaaDoor.K
