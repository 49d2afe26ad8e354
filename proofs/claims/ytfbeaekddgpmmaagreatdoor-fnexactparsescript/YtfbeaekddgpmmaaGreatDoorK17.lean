import Derived.Test.YtfbeaekddgpmmaaGreatDoorK09
import Derived.Deep.AppendLies
namespace Go.Proofs.YtfbeaekddgpmmaaGreatDoor
open Go.RowKit
set_option linter.unusedVariables false
/-- the words of a line -/
def fil (l : List (List UInt8)) : List (List UInt8) := l.filter fun x => decide (x ≠ [])
theorem fil_snoc_no (l : List (List UInt8)) (k : Nat) (hk : k < l.length) (h : l[k] = []) : fil (l.take (k + 1)) = fil (l.take k) := by
  rw [List.take_succ_eq_append_getElem hk]
  simp [fil, h]
theorem fil_snoc_yes (l : List (List UInt8)) (k : Nat) (hk : k < l.length) (h : l[k] ≠ []) : fil (l.take (k + 1)) = fil (l.take k) ++ [l[k]] := by
  rw [List.take_succ_eq_append_getElem hk]
  unfold fil
  rw [List.filter_append]
  congr 1
  simp [h]
theorem list_appT {ci : ByteArray} {ops : Array Oper} {rest : List Oper} {o : Oper} {a : Act} {Q : Exit → Act → World → Prop} (wr W : World) (hW : W = wr.alloc (.cells #[.string ci] 9)) (hgd : o.guard = none) (s x : Operand)
    (ho : o.op = .call { callee := .builtin .append, args := #[s, x], argTypes := #[31, 31] })
    (B : Nat) (v : Value) (l : List (List UInt8)) (c : List UInt8) (hci : ci = ⟨c.toArray⟩) (hs : a.eval s = v) (hown : ownsT wr B v l)
    (hx : a.eval x = .slice (some ⟨wr.heap.size, 0, none⟩) 1 1) (hlen : l.length ≤ 1000000) (hB : B ≤ wr.heap.size)
    (h : ∀ ao cap' w', ownsT w' B (.slice ao (l.length + 1) cap') (l ++ [c]) → (wr.alloc (.cells #[.string ⟨c.toArray⟩] 9)).grownBy w' v.ownBlock → (∀ g, g < wr.heap.size → v.ownBlock ≠ some g → (Value.slice ao (l.length + 1) cap').ownBlock ≠ some g) → wpList Tryz.prog ops Q rest (a.put o.dst (.slice ao (l.length + 1) cap')) w') :
    wpList Tryz.prog ops Q (o :: rest) a W := by
  subst hci hW
  obtain ⟨i0, hi, hz0, hz1, hz2⟩ := info_parts Tryz.info9
  refine wpList_append_lies _ hgd s x 31 ho B 9 i0 (.string ByteArray.empty) 1 16 Tryz.underlying31 hi hz0 hz1 hz2 rfl (by decide) v l.length (sv l) hs (World.ownsRow.alloc hown _) ⟨wr.heap.size, 0, none⟩ 1 1 [.string ⟨c.toArray⟩] hx rfl ?_ ?_ (by decide) ?_ ?_ ?_ (wr.heap.size + 1) (by simp) ?_
  · intro j u hj
    match j, hj with
    | 0, hj => simp at hj; subst hj; simp [Addr.add]
  · intro u hu; simp at hu; subst hu; rfl
  · unfold maxLen; omega
  · omega
  · simp; omega
  · intro gg cap w' ho' hg hat hlt
    have e1 : sv (l ++ [c]) = sv l ++ [.string ⟨c.toArray⟩] := by simp [sv]
    refine h (some ⟨gg, 0, none⟩) cap w' ?_ hg (fun g hgl hne => ?_)
    · unfold ownsT
      rw [e1, List.length_append]
      exact ho'
    · intro e
      simp [Value.ownBlock] at e
      rcases hat with hat | hat
      · exact hne (e ▸ hat)
      · omega
/-- words at work: parts lie in block g -/
structure wdS (w w1 : World) (g : Nat) (v : Value) (out : List (List UInt8)) (W : World) : Prop where
  own : ownsT W w.heap.size v out
  bel : Below w.heap.size w W
  ne : v.ownBlock ≠ some g
  same : W.heap[g]? = w1.heap[g]?
  lt : g < w1.heap.size
  le : w1.heap.size ≤ W.heap.size
theorem wdS.app {w w1 : World} {g : Nat} {v v' : Value} {out out' : List (List UInt8)} {W W' : World} {o : Obj} (h : wdS w w1 g v out W) (ho : ownsT W' w.heap.size v' out') (hg : (W.alloc o).grownBy W' v.ownBlock) (hk : ∀ g, g < W.heap.size → v.ownBlock ≠ some g → v'.ownBlock ≠ some g) : wdS w w1 g v' out' W' := by
  have hz := h.bel.size
  have hgl : g < W.heap.size := Nat.lt_of_lt_of_le h.lt h.le
  refine ⟨ho, (h.bel.alloc hz _).grown hg (by simp; omega) (fun k e => (World.ownsRow.lt h.own k e).1), hk g hgl h.ne, ((hg.block g (by simp; omega) (fun e => h.ne e.symm)).trans (Below.heap_alloc W _ g hgl)).trans h.same, h.lt, ?_⟩
  have := hg.size
  simp at this
  have := h.le
  omega
def wordsB (s : ByteArray) : List (List UInt8) := fil (cutB 32 s)
theorem fil_len (l : List (List UInt8)) : (fil l).length ≤ l.length := List.length_filter_le _ _
set_option maxHeartbeats 4000000 in
set_option maxRecDepth 20000 in
/-- spec.l6words -/
theorem words_any (s : ByteArray) (hs : s.size ≤ 20000) (w : World) :
    Calls Tryz.prog 12 #[.string s] w fun o w' => ∃ ao cp, o = .returned (.slice ao (wordsB s).length cp) ∧ ownsT w' w.heap.size (.slice ao (wordsB s).length cp) (wordsB s) ∧ Below w.heap.size w w' := by
  have H0 : Hid (ownsT (w.alloc (.cells #[] 9)) w.heap.size (.slice (some ⟨w.heap.size, 0, none⟩) 0 0) [] ∧ Below w.heap.size w (w.alloc (.cells #[] 9)) ∧ (w.alloc (.cells #[] 9)).heap.size = w.heap.size + 1) := ⟨ownT_nil w _ (Nat.le_refl _), (Below.refl _ _).alloc (Nat.le_refl _) _, by simp⟩
  have HC := hidYY (fun W => cut_any 32 s hs W)
  have HL : Hid ((cutB 32 s).length ≤ 20001) := by
    have := cutA_len 32 s.data.toList []
    have e : s.data.toList.length = s.size := by simp
    unfold Hid cutB; omega
  have HNE : Hid (cutB 32 s ≠ []) := by
    unfold Hid cutB
    cases h : s.data.toList with
    | nil => simp [cutA]
    | cons x l =>
      have : ∀ (l cur : List UInt8), cutA 32 cur l ≠ [] := by
        intro l
        induction l with
        | nil => intro cur; simp [cutA]
        | cons y l ih => intro cur; unfold cutA; split <;> simp [ih]
      exact this _ _
  have HW : Hid (wordsB s = fil (cutB 32 s)) := rfl
  generalize wordsB s = ws at *
  go_enter Tryz.func12, Tryz.ntmps12
  go_wp2_with fail
  refine (HC.out _).mono ?_
  rintro o w1 ⟨ap, cpp, rfl, op, bp⟩
  generalize cutB 32 s = P at *
  obtain ⟨g, cap, eS, hgB, hgz, hcap, hcell⟩ := op.open HNE.out
  have e1 : ap = some ⟨g, 0, none⟩ := by injection eS
  have e2 : cpp = cap := by injection eS
  subst e1 e2
  have H1 : Hid (wdS w w1 g (.slice (some ⟨w.heap.size, 0, none⟩) 0 0) [] w1) := by
    have hz := H0.out.2.2
    exact ⟨H0.out.1.below bp, H0.out.2.1.trans (bp.mono (by omega)), by simp [Value.ownBlock]; omega, rfl, hgz, Nat.le_refl _⟩
  have hP := HL.out
  have HCell := hidYY hcell
  clear H0 op bp eS hcap hcell HC hgB hgz
  go_wp2_with fail
  go_loopw [3, 5] (fun v i wr => ∃ (k : Nat) (ao : Option Addr) (cp : Nat), k ≤ P.length ∧ i = .int .i64 (k : Int) ∧ v = .slice ao (fil (P.take k)).length cp ∧ wdS w w1 g v (fil (P.take k)) wr) (fun _ i _ => P.length - (intOf i).toNat)
  case atStart => exact ⟨0, _, 0, Nat.zero_le _, rfl, rfl, H1.out⟩
  case round =>
    clear H1
    obtain ⟨k, ao, cp, hk, rfl, rfl, st⟩ := hrel
    have ST := hidYY st
    by_cases hlt : k < P.length
    · have hc : wr.cell? ⟨g, k, none⟩ = some (.string ⟨P[k].toArray⟩) := (World.cell?_of_block (a := ⟨g, k, none⟩) st.same).trans (HCell.out k hlt)
      have HLL : Hid ((fil (P.take k)).length ≤ 1000000) := by
        have := fil_len (P.take k)
        rw [List.length_take] at this
        unfold Hid; omega
      clear st
      by_cases hn : P[k] = []
      · have HE := hidYY (fil_snoc_no P k hlt hn)
        rw [hn] at hc
        generalize P[k] = pk at *
        go_wp2
        go_roundw
        case rel => exact ⟨k + 1, ao, cp, by omega, by go_num, by rw [HE.out], by rw [HE.out]; exact ST.out⟩
        case measure => simp [intOf]; omega
      · have HE := hidYY (fil_snoc_yes P k hlt hn)
        generalize P[k] = pk at *
        have hne : pk.isEmpty = false := by simpa using hn
        go_wp2_with (first | (at_builtin; refine list_appT wr _ rfl rfl (.tmp 20) (.tmp 25) rfl w.heap.size _ _ pk rfl rfl ST.out.own rfl HLL.out ST.out.bel.size ?_))
        intro ao1 cp1 w2 ho2 hg2 hk2
        have ST2 := hidYY (ST.out.app ho2 hg2 hk2)
        go_wp2
        go_roundw
        case rel => exact ⟨k + 1, ao1, cp1, by omega, by go_num, by rw [HE.out]; simp, by rw [HE.out]; simpa using ST2.out⟩
        case measure => simp [intOf]; omega
    · have hkk : k = P.length := by omega
      have e : fil (P.take k) = fil P := by rw [hkk, List.take_length]
      have HR : Hid (fil (P.take k) = ws) := by unfold Hid; rw [e, HW.out]
      clear st e
      generalize fil (P.take k) = q at *
      have := HR.out
      subst this
      go_wp2
      go_ret
      exact ⟨ao, cp, rfl, ST.out.own, ST.out.bel⟩
end Go.Proofs.YtfbeaekddgpmmaaGreatDoor
