import Derived.Shelf.Small.Bits
import Derived.Shelf.Small.Strs
import Derived.Shelf.Small.Wraps
import Derived.Shelf.Strconv.Itoa0
import Derived.Shelf.Sort.Plain
import Derived.Ground.Names2Prog
import Derived.Shelf.Slices.CompactI
import Derived.Shelf.Slices.SearchI
import Derived.Shelf.Slices.Cells
import Derived.Shelf.Slices.In.SortNone
import Derived.Ground.SlbCloneProg
import Derived.Shelf.Bytes.SlClone
import Derived.Test.YtaamahohdnbpiaaGreatProg
import Derived.Test.YtaamahohdnbpiaaGreatG09
namespace Go.Proofs
open Go.Shelf
def Tryz.lays189_ren : Go.Shelf.Ren := ⟨fun | 189 => 183 | 125 => 192 | 257 => 191 | 128 => 204 | 129 => 205 | 294 => 195 | 295 => 196 | 296 => 197 | 297 => 198 | 298 => 199 | 299 => 200 | 216 => 201 | 300 => 202 | 301 => 203 | 328 => 206 | 329 => 207 | 330 => 208 | 331 => 209 | 332 => 210 | 215 => 187 | 343 => 211 | n => n, fun | 28 => 50 | 3 => 3 | 46 => 80 | 0 => 0 | 51 => 23 | 53 => 168 | 4 => 4 | 183 => 201 | 182 => 200 | 131 => 150 | 5 => 5 | 9 => 9 | 218 => 209 | 222 => 213 | 228 => 215 | 229 => 216 | n => n, fun | n => n⟩
theorem Tryz.lays189 : Go.Proofs.Lays.n189 Tryz.prog Tryz.lays189_ren := {
  mixed := by kernel_rfl
  f125 := Tryz.func192.trans (congrArg some (by kernel_rfl))
  f128 := Tryz.func204.trans (congrArg some (by kernel_rfl))
  f129 := Tryz.func205.trans (congrArg some (by kernel_rfl))
  f189 := Tryz.func183.trans (congrArg some (by kernel_rfl))
  f215 := Tryz.func187.trans (congrArg some (by kernel_rfl))
  f216 := Tryz.func201.trans (congrArg some (by kernel_rfl))
  f257 := Tryz.func191.trans (congrArg some (by kernel_rfl))
  f294 := Tryz.func195.trans (congrArg some (by kernel_rfl))
  f295 := Tryz.func196.trans (congrArg some (by kernel_rfl))
  f296 := Tryz.func197.trans (congrArg some (by kernel_rfl))
  f297 := Tryz.func198.trans (congrArg some (by kernel_rfl))
  f298 := Tryz.func199.trans (congrArg some (by kernel_rfl))
  f299 := Tryz.func200.trans (congrArg some (by kernel_rfl))
  f300 := Tryz.func202.trans (congrArg some (by kernel_rfl))
  f301 := Tryz.func203.trans (congrArg some (by kernel_rfl))
  f328 := Tryz.func206.trans (congrArg some (by kernel_rfl))
  f329 := Tryz.func207.trans (congrArg some (by kernel_rfl))
  f330 := Tryz.func208.trans (congrArg some (by kernel_rfl))
  f331 := Tryz.func209.trans (congrArg some (by kernel_rfl))
  f332 := Tryz.func210.trans (congrArg some (by kernel_rfl))
  f343 := Tryz.func211.trans (congrArg some (by kernel_rfl))
  t0 := Tryz.underlying0
  a0 := Tryz.isAgg0
  z0 := Tryz.sizeOf0
  v0 := Tryz.zeroValue0
  t3 := Tryz.underlying3
  a3 := Tryz.isAgg3
  z3 := Tryz.sizeOf3
  v3 := Tryz.zeroValue3
  t4 := Tryz.underlying4
  a4 := Tryz.isAgg4
  z4 := Tryz.sizeOf4
  v4 := Tryz.zeroValue4
  t5 := Tryz.underlying5
  a5 := Tryz.isAgg5
  z5 := Tryz.sizeOf5
  v5 := Tryz.zeroValue5
  t9 := Tryz.underlying9
  a9 := Tryz.isAgg9
  z9 := Tryz.sizeOf9
  v9 := Tryz.zeroValue9
  t28 := Tryz.underlying50
  a28 := Tryz.isAgg50
  z28 := Tryz.sizeOf50
  v28 := Tryz.zeroValue50
  t46 := Tryz.underlying80
  a46 := Tryz.isAgg80
  z46 := Tryz.sizeOf80
  v46 := Tryz.zeroValue80
  t51 := Tryz.underlying23
  a51 := Tryz.isAgg23
  z51 := Tryz.sizeOf23
  v51 := Tryz.zeroValue23
  t53 := Tryz.underlying168
  a53 := Tryz.isAgg168
  z53 := Tryz.sizeOf168
  v53 := Tryz.zeroValue168
  t131 := Tryz.underlying150
  a131 := Tryz.isAgg150
  z131 := Tryz.sizeOf150
  v131 := Tryz.zeroValue150
  t182 := Tryz.underlying200
  a182 := Tryz.isAgg200
  z182 := Tryz.sizeOf200
  v182 := Tryz.zeroValue200
  t183 := Tryz.underlying201
  a183 := Tryz.isAgg201
  z183 := Tryz.sizeOf201
  v183 := Tryz.zeroValue201
  t218 := Tryz.underlying209
  a218 := Tryz.isAgg209
  z218 := Tryz.sizeOf209
  v218 := Tryz.zeroValue209
  t222 := Tryz.underlying213
  a222 := Tryz.isAgg213
  z222 := Tryz.sizeOf213
  v222 := Tryz.zeroValue213
  t228 := Tryz.underlying215
  a228 := Tryz.isAgg215
  z228 := Tryz.sizeOf215
  v228 := Tryz.zeroValue215
  t229 := Tryz.underlying216
  a229 := Tryz.isAgg216
  z229 := Tryz.sizeOf216
  v229 := Tryz.zeroValue216 }
open Go.Sort Go.RowKit in
theorem Tryz.slices_Sort_int (blk off cap : Nat) (zs : List Int) (w : World) (hH : Holds (Value.int .i64) w blk off zs.toArray) (hblk : blk < w.heap.size) (hsz : zs.length < 4611686018427387904) :
    Calls Tryz.prog 183 #[.slice (some ⟨blk, off, none⟩) zs.length cap] w fun e w' =>
      e = .returned (.tuple #[]) ∧ ∃ n os, w' = grow (putRow (Value.int .i64) (Sort.ahead w n) blk off (zs.mergeSort fun x y => decide (x ≤ y)).toArray) os := Any.slices_Sort_int Tryz.lays189 blk off cap zs w hH hblk hsz
def Tryz.laysNm220_ren : Go.Shelf.Ren := ⟨fun | 20 => 184 | n => n, fun | 22 => 50 | 3 => 3 | 4 => 4 | 0 => 0 | n => n, fun | n => n⟩
theorem Tryz.laysNm220 : Go.Proofs.Lays2.n20 Tryz.prog Tryz.laysNm220_ren := {
  mixed := by kernel_rfl
  f20 := Tryz.func184.trans (congrArg some (by kernel_rfl))
  t0 := Tryz.underlying0
  a0 := Tryz.isAgg0
  z0 := Tryz.sizeOf0
  v0 := Tryz.zeroValue0
  t3 := Tryz.underlying3
  a3 := Tryz.isAgg3
  z3 := Tryz.sizeOf3
  v3 := Tryz.zeroValue3
  t4 := Tryz.underlying4
  a4 := Tryz.isAgg4
  z4 := Tryz.sizeOf4
  v4 := Tryz.zeroValue4
  t22 := Tryz.underlying50
  a22 := Tryz.isAgg50
  z22 := Tryz.sizeOf50
  v22 := Tryz.zeroValue50
  i3 := by kernel_rfl }
open Go.RowKit Go.Lib Go.Sort in
theorem Tryz.slices_Compact_int (blk off cap : Nat) (zs : List Int) (w : World) (hH : Holds (Value.int .i64) w blk off zs.toArray) (hsz : zs.length ≤ 9223372036854775807) (hcap : zs.length ≤ cap) :
    Calls Tryz.prog 184 #[.slice (some ⟨blk, off, none⟩) zs.length cap] w fun e w' => e = .returned (.slice (some ⟨blk, off, none⟩) (Lib.compact zs).length cap) ∧ ∃ q, w' = putRow (Value.int .i64) (Sort.ahead w q) blk off (Lib.compact zs ++ List.replicate (zs.length - (Lib.compact zs).length) 0).toArray := Any.slices_Compact_int Tryz.laysNm220 blk off cap zs w hH hsz hcap
open Go.RowKit Go.Lib Go.Sort in
theorem Tryz.slices_Compact_int_empty (a : Option Addr) (cap : Nat) (w : World) :
    Calls Tryz.prog 184 #[.slice a 0 cap] w fun e w' => e = .returned (.slice a 0 cap) ∧ w' = w := Any.slices_Compact_int_empty Tryz.laysNm220 a cap w
open Go.RowKit Go.Sort in
theorem Tryz.slices_Sort_int_none (p : Option Addr) (cap : Nat) (w : World) :
    Calls Tryz.prog 183 #[.slice p 0 cap] w fun e w' => e = .returned (.tuple #[]) ∧ w' = w := Any.slices_Sort_int_none Tryz.lays189 p cap w
def Tryz.laysSlK4_ren : Go.Shelf.Ren := ⟨fun | 4 => 177 | n => n, fun | 22 => 22 | 4 => 4 | 5 => 5 | n => n, fun | n => n⟩
theorem Tryz.laysSlK4 : Go.Proofs.SlLaysK.n4 Tryz.prog Tryz.laysSlK4_ren := {
  mixed := by kernel_rfl
  f4 := Tryz.func177.trans (congrArg some (by kernel_rfl))
  t4 := Tryz.underlying4
  a4 := Tryz.isAgg4
  z4 := Tryz.sizeOf4
  v4 := Tryz.zeroValue4
  t22 := Tryz.underlying22
  a22 := Tryz.isAgg22
  z22 := Tryz.sizeOf22
  v22 := Tryz.zeroValue22
  t5 := Tryz.underlying5
  i5 := by kernel_rfl }
open Go.RowKit Go.Lib in
theorem Tryz.bytes_Clone_at (a : Addr) (n c : Nat) (xs : List Int) (w : World) (hx : xs.length = n) (hbig : n ≤ 140737488355328) (hc : ∀ i, i < n → w.cell? (a.add i) = some (.int .u8 (xs.getD i 0))) :
    Calls Tryz.prog 177 #[.slice (some a) n c] w fun e w' => ∃ v', e = .returned v' ∧ w'.ownsRow w.heap.size 5 1 v' n (xs.map (Value.int .u8)) ∧ v' ≠ .slice none 0 0 ∧ Below w.heap.size w w' := Any.bytes_Clone_at Tryz.laysSlK4 a n c xs w hx hbig hc
open Go.RowKit Go.Lib in
theorem Tryz.bytes_Clone_nil (n c : Nat) (w : World) :
    Calls Tryz.prog 177 #[.slice none n c] w fun e w' => e = .returned (.slice none 0 0) ∧ w' = w := Any.bytes_Clone_nil Tryz.laysSlK4 n c w
end Go.Proofs
namespace Go.Proofs.YtaamahohdnbpiaaGreat
open Go.RowKit
set_option linter.unusedVariables false
open Go.Sort in
theorem sorted_world {w w' : World} {g off : Nat} {d : Array Int} {n : Nat} {os : Array Obj} (hg : g < w.heap.size) (h : w' = grow (putRow (Value.int .i64) (Sort.ahead w n) g off d) os) :
    (∀ b, b ≠ g → b < w.heap.size → w'.heap[b]? = w.heap[b]?) ∧ Below g w w' := by
  subst h
  have key : ∀ b, b ≠ g → b < w.heap.size → (grow (putRow (Value.int .i64) (Sort.ahead w n) g off d) os).heap[b]? = w.heap[b]? := by
    intro b hb hl
    show ((w.heap.modify g _) ++ os)[b]? = _
    rw [Array.getElem?_append_left (by simpa using hl), Array.getElem?_modify, if_neg (fun e => hb e.symm)]
  refine ⟨key, rfl, rfl, rfl, ?_, fun k hk => key k (by omega) (by omega)⟩
  show w.heap.size ≤ ((w.heap.modify g _) ++ os).size
  simp
theorem strict_of_adj (s : List Int) (hs : ∀ i j (hi : i < s.length) (hj : j < s.length), i < j → s[i] ≤ s[j]) (ha : ∀ j (hj : j < s.length), 0 < j → s[j]'hj ≠ s[j - 1]'(by omega)) :
    ∀ j (hj : j < s.length) i (hi : i < s.length), i < j → s[i] < s[j] := by
  intro j
  induction j with
  | zero => intro hj i hi h; exact absurd h (Nat.not_lt_zero _)
  | succ j ih =>
    intro hj i hi h
    have h1 : s[j]'(by omega) ≤ s[j + 1] := hs j (j + 1) (by omega) hj (by omega)
    have h2 := ha (j + 1) hj (by omega)
    have e : s[j + 1 - 1]'(by omega) = s[j]'(by omega) := rfl
    rw [e] at h2
    have h3 : s[j]'(by omega) < s[j + 1] := by omega
    by_cases hij : i = j
    · subst hij; exact h3
    · have := ih (by omega) i hi (by omega)
      omega
theorem compact_nodup (zs : List Int) : ((Lib.compact (zs.mergeSort fun x y => decide (x ≤ y))).length = zs.length) ↔ zs.Nodup := by
  have hp : (zs.mergeSort fun x y => decide (x ≤ y)).Perm zs := List.mergeSort_perm _ _
  have hpw := List.pairwise_mergeSort (le := fun x y : Int => decide (x ≤ y)) (fun a b c h1 h2 => by simp at *; omega) (fun a b => by simp; omega) zs
  generalize (zs.mergeSort fun x y => decide (x ≤ y)) = s at *
  rw [← hp.nodup_iff, ← hp.length_eq]
  have hs : ∀ i j (hi : i < s.length) (hj : j < s.length), i < j → s[i] ≤ s[j] := by
    intro i j hi hj hij
    have := List.pairwise_iff_getElem.1 hpw i j hi hj hij
    simpa using this
  have hget : ∀ j (hj : j < s.length), s.toArray[j]! = s[j] := by
    intro j hj
    rw [getElem!_pos s.toArray j (by simpa using hj)]
    simp
  have hlen : (Lib.compact s).length = ((List.range s.length).filter (Lib.keeps s.toArray)).length := by
    unfold Lib.compact Lib.compactUpTo
    rw [List.length_map]
  rw [hlen]
  have hr : s.length = (List.range s.length).length := by simp
  conv => lhs; rhs; rw [hr]
  rw [List.length_filter_eq_length_iff]
  constructor
  · intro h
    have ha : ∀ j (hj : j < s.length), 0 < j → s[j]'hj ≠ s[j - 1]'(by omega) := by
      intro j hj h0
      have := h j (by simpa using hj)
      unfold Lib.keeps at this
      rw [decide_eq_true_iff] at this
      rcases this with e | e
      · omega
      · rw [hget j hj, hget (j - 1) (by omega)] at e
        exact e
    have hst := strict_of_adj s hs ha
    rw [List.nodup_iff_pairwise_ne, List.pairwise_iff_getElem]
    intro i j hi hj hij
    have := hst j hj i hi hij
    omega
  · intro h j hj
    have hj' : j < s.length := by simpa using hj
    unfold Lib.keeps
    rw [decide_eq_true_iff]
    by_cases h0 : j = 0
    · exact Or.inl h0
    · refine Or.inr ?_
      rw [hget j hj', hget (j - 1) (by omega)]
      intro e
      rw [List.nodup_iff_pairwise_ne, List.pairwise_iff_getElem] at h
      exact h (j - 1) j (by omega) hj' (by omega) e.symm
open Go.Sort in
set_option maxHeartbeats 2000000 in
theorem allDiffer_any (w : World) (g cap : Nat) (zs : List Int) (hH : Holds (Value.int .i64) w g 0 zs.toArray) (hg : g < w.heap.size) (hcap : zs.length ≤ cap) (hn : zs.length ≤ 100) :
    Calls Tryz.prog 168 #[.slice (some ⟨g, 0, none⟩) zs.length cap] w fun o w' => retB o zs.Nodup ∧ (∀ b, b ≠ g → b < w.heap.size → w'.heap[b]? = w.heap[b]?) ∧ Below g w w' := by
  have HS : Hid (Calls Tryz.prog 183 #[.slice (some ⟨g, 0, none⟩) zs.length cap] w fun e w' => e = .returned (.tuple #[]) ∧ Holds (Value.int .i64) w' g 0 (zs.mergeSort fun x y => decide (x ≤ y)).toArray ∧ (∀ b, b ≠ g → b < w.heap.size → w'.heap[b]? = w.heap[b]?) ∧ Below g w w') := by
    refine (Go.Proofs.Tryz.slices_Sort_int g 0 cap zs w hH hg (by omega)).mono ?_
    rintro e w' ⟨rfl, n, os, e1⟩
    have hsw := sorted_world hg e1
    refine ⟨rfl, ?_, hsw.1, hsw.2⟩
    subst e1
    have h1 := holds_putRow (Value.int .i64) (Sort.ahead w n) g 0 zs.toArray (zs.mergeSort fun x y => decide (x ≤ y)).toArray (holds_ahead _ _ _ _ _ _ hH) (by simp)
    intro j hj
    have h2 := h1 j hj
    rw [cell?_grow _ _ _ (by simpa using hg), frozen?_grow _ _ _ (by simpa using hg)]
    exact h2
  have HC : Hid (∀ W, Holds (Value.int .i64) W g 0 (zs.mergeSort fun x y => decide (x ≤ y)).toArray → g < W.heap.size → Calls Tryz.prog 184 #[.slice (some ⟨g, 0, none⟩) zs.length cap] W fun e w' => (∃ m : Nat, e = .returned (.slice (some ⟨g, 0, none⟩) m cap) ∧ (m = zs.length ↔ zs.Nodup)) ∧ (∀ b, b ≠ g → b < W.heap.size → w'.heap[b]? = W.heap[b]?) ∧ Below g W w') := by
    intro W hW hgW
    have hl : (zs.mergeSort fun x y => decide (x ≤ y)).length = zs.length := List.length_mergeSort _
    have h1 := Go.Proofs.Tryz.slices_Compact_int g 0 cap (zs.mergeSort fun x y => decide (x ≤ y)) W hW (by omega) (by omega)
    rw [hl] at h1
    refine h1.mono ?_
    rintro e w' ⟨rfl, q, e1⟩
    have e1' : w' = grow (putRow (Value.int .i64) (Sort.ahead W q) g 0 (Lib.compact (zs.mergeSort fun x y => decide (x ≤ y)) ++ List.replicate (zs.length - (Lib.compact (zs.mergeSort fun x y => decide (x ≤ y))).length) 0).toArray) #[] := by rw [grow_empty]; exact e1
    have hsw := sorted_world hgW e1'
    exact ⟨⟨_, rfl, compact_nodup zs⟩, hsw.1, hsw.2⟩
  have HN : Hid (zs.length ≤ 100) := hn
  have HG : Hid (g < w.heap.size) := hg
  clear hH hcap hn hg
  generalize zs.length = n at *
  go_enter Tryz.func168, Tryz.ntmps168
  go_wp2_with fail
  refine HS.out.mono ?_
  rintro o w1 ⟨rfl, h1, h2, h3⟩
  have H1 : Hid (Holds (Value.int .i64) w1 g 0 (zs.mergeSort fun x y => decide (x ≤ y)).toArray ∧ (∀ b, b ≠ g → b < w.heap.size → w1.heap[b]? = w.heap[b]?) ∧ Below g w w1) := ⟨h1, h2, h3⟩
  clear h1 h2 h3
  go_wp2_with fail
  refine (HC.out w1 H1.out.1 (Nat.lt_of_lt_of_le HG.out H1.out.2.2.size)).mono ?_
  rintro o w2 ⟨⟨m, rfl, hm⟩, h2, h3⟩
  have H2 : Hid ((m = n ↔ zs.Nodup) ∧ (∀ b, b ≠ g → b < w.heap.size → w2.heap[b]? = w.heap[b]?) ∧ Below g w w2) := ⟨hm, fun b hb hl => (h2 b hb (Nat.lt_of_lt_of_le hl H1.out.2.2.size)).trans (H1.out.2.1 b hb hl), H1.out.2.2.trans h3⟩
  clear h2 h3 hm
  go_wp2_with fail
  go_ret
  refine ⟨⟨_, rfl, ?_⟩, H2.out.2⟩
  rw [← H2.out.1]
  simp
  try omega
theorem allDiffer_nil (w : World) : Calls Tryz.prog 168 #[.slice none 0 0] w fun o w' => o = .returned (.bool true) ∧ w' = w := by
  have HS : Hid (∀ W, Calls Tryz.prog 183 #[.slice none 0 0] W fun e w' => e = .returned (.tuple #[]) ∧ w' = W) := fun W => Go.Proofs.Tryz.slices_Sort_int_none none 0 W
  have HC : Hid (∀ W, Calls Tryz.prog 184 #[.slice none 0 0] W fun e w' => e = .returned (.slice none 0 0) ∧ w' = W) := fun W => Go.Proofs.Tryz.slices_Compact_int_empty none 0 W
  go_enter Tryz.func168, Tryz.ntmps168
  go_wp2_with (first
    | (go_at_call 183; refine (HS.out _).mono ?_; rintro o w1 ⟨rfl, rfl⟩)
    | (go_at_call 184; refine (HC.out _).mono ?_; rintro o w1 ⟨rfl, rfl⟩))
  go_ret
  exact ⟨rfl, rfl⟩
end Go.Proofs.YtaamahohdnbpiaaGreat
