import Derived.Test.YtfbeaekddgpmmaaGreatDoorK22
import Derived.Lib.OthersKept
namespace Go.Proofs.YtfbeaekddgpmmaaGreatDoor
open Go.RowKit Kd
set_option linter.unusedVariables false
theorem Tryz.info132 : (Tryz.prog.info? 132).map (fun i => (i.zero, i.size, i.bytes)) = some (some (.agg #[.int .i64 0, .int .u32 0, .slice none 0 0]), 3, 40) := by kernel_rfl
theorem sz132 : (Tryz.prog.info? 132).map (·.size) = some 3 := by kernel_rfl
theorem one132 (n x : Int) (h : Hd) : (#[.int .i64 n, .int .u32 x, hdV h] : Array Value).all (·.oneCell') = true := all_oneCell_toArray (by simp [Value.oneCell'])
/-- a word as a text -/
abbrev wd (x : List UInt8) : ByteArray := ⟨x.toArray⟩
/-- every word of a line has its form, from word j on -/
def allForm (kd : List UInt8) (ws : List (List UInt8)) : Bool := (List.zipWith (fun (c : UInt8) x => formI c.toNat (wd x)) kd ws).all id
def vals (kd : List UInt8) (ws : List (List UInt8)) : List Vl := List.zipWith (fun (c : UInt8) x => vlOf c.toNat (wd x)) kd ws
theorem Ky.iter {S : List Nat} {B : Nat} {W V : World} (h : Ky S B W V) (k : Nat) (s s' : ByteArray) (p p' : Nat) (hk : V.heap[k]? = some (.stringIter s p)) (hB : B ≤ k) : Ky S B W (V.iterAt k s' p') :=
  h.trans ⟨Lib.below_iterAt (Below.refl _ _) hB s' p', fun g c T f hg _ => Lib.iterAt_other V k g s' p' (fun e => by subst e; rw [hk] at hg; cases hg)⟩
theorem iter_below2 {V U : World} {k : Nat} {s : ByteArray} {p : Nat} (hk : V.heap[k]? = some (.stringIter s p)) (hb : Below V.heap.size V U) : U.heap[k]? = some (.stringIter s p) := (hb.block k (lt_of_some hk)).trans hk
/-- the words stand in block g from cell 1 on -/
def wordsAt (w : World) (g : Nat) (ws : List (List UInt8)) : Prop := ∀ j (h : j < ws.length), w.cell? ⟨g, 1 + j, none⟩ = some (.string ⟨ws[j].toArray⟩)
/-- words as a line has them -/
def okWs (ws : List (List UInt8)) : Prop := ∀ x ∈ ws, 1 ≤ x.length ∧ x.length ≤ 20000 ∧ ∀ b ∈ x, b.toNat < 128
/-- where the reading of the words stands -/
structure vlS (kd : List UInt8) (ws : List (List UInt8)) (w : World) (k : Nat) (v : Value) (rs : List (Vl × Hd)) (wr : World) : Prop where
  it : wr.heap[w.heap.size]? = some (.stringIter ⟨kd.toArray⟩ k)
  rc : rcR kV w.heap.size v rs wr
  rl : rs.length = k
  el : rs.map (·.1) = (vals kd ws).take k
  fo : ((List.zipWith (fun (c : UInt8) x => formI c.toNat (wd x)) kd ws).take k).all id = true
  lo : Below w.heap.size w wr
  sz : w.heap.size < wr.heap.size
theorem vlS.zero (kd : List UInt8) (ws : List (List UInt8)) (w : World) : vlS kd ws w 0 (.slice none 0 0) [] (w.iter ⟨kd.toArray⟩ 0) :=
  ⟨World.iter_heap _ _ _, rcR.e0 _ _, rfl, by simp, by simp, iter_below _ _ _, by simp [World.iter]⟩
theorem vlS.next {kd : List UInt8} {ws : List (List UInt8)} {w : World} {k : Nat} {v : Value} {rs : List (Vl × Hd)} {wr : World} (h : vlS kd ws w k v rs wr) : rcR kV w.heap.size v rs (wr.iterAt w.heap.size ⟨kd.toArray⟩ (k + 1)) ∧ (wr.iterAt w.heap.size ⟨kd.toArray⟩ (k + 1)).heap[w.heap.size]? = some (.stringIter ⟨kd.toArray⟩ (k + 1)) ∧ Below w.heap.size w (wr.iterAt w.heap.size ⟨kd.toArray⟩ (k + 1)) ∧ w.heap.size < (wr.iterAt w.heap.size ⟨kd.toArray⟩ (k + 1)).heap.size :=
  ⟨h.rc.ky (S := []) ((Ky.refl [] w.heap.size wr).iter _ _ _ _ _ h.it (Nat.le_refl _)) (by simp) (by simp), Lib.iterAt_heap _ _ _ _ _ h.it, Lib.below_iterAt h.lo (Nat.le_refl _) _ _, by rw [Lib.iterAt_size]; exact h.sz⟩
theorem vals_snoc (kd : List UInt8) (ws : List (List UInt8)) (k : Nat) (h1 : k < kd.length) (h2 : k < ws.length) : (vals kd ws).take (k + 1) = (vals kd ws).take k ++ [vlOf kd[k].toNat (wd ws[k])] := by
  have hl : k < (vals kd ws).length := by simp [vals]; omega
  rw [List.take_succ_eq_append_getElem hl]
  simp [vals]
theorem form_snoc (kd : List UInt8) (ws : List (List UInt8)) (k : Nat) (h1 : k < kd.length) (h2 : k < ws.length) : ((List.zipWith (fun (c : UInt8) x => formI c.toNat (wd x)) kd ws).take (k + 1)) = ((List.zipWith (fun (c : UInt8) x => formI c.toNat (wd x)) kd ws).take k) ++ [formI kd[k].toNat (wd ws[k])] := by
  have hl : k < (List.zipWith (fun (c : UInt8) x => formI c.toNat (wd x)) kd ws).length := by simp; omega
  rw [List.take_succ_eq_append_getElem hl]
  simp
theorem form_bad (kd : List UInt8) (ws : List (List UInt8)) (k : Nat) (h1 : k < kd.length) (h2 : k < ws.length) (h : formI kd[k].toNat (wd ws[k]) = false) : allForm kd ws = false := by
  unfold allForm
  rw [List.all_eq_false]
  refine ⟨_, List.getElem_mem (n := k) (by simp; omega), ?_⟩
  simp [h]
end Go.Proofs.YtfbeaekddgpmmaaGreatDoor
