import Derived.Test.YtfbeaekddgpmmaaGreatDoorK00
import Derived.Laws.IdiomStrings
namespace Go.Proofs.YtfbeaekddgpmmaaGreatDoor
open Go.RowKit
set_option linter.unusedVariables false
theorem Tryz.info9 : (Tryz.prog.info? 9).map (fun i => (i.zero, i.size, i.bytes)) = some (some (.string ByteArray.empty), 1, 16) := by kernel_rfl
/-- texts as values -/
def sv (l : List (List UInt8)) : List Value := l.map fun x => Value.string ⟨x.toArray⟩
theorem sv_at (l : List (List UInt8)) (j : Nat) (h : j < l.length) : (sv l)[j]? = some (Value.string ⟨l[j].toArray⟩) := by simp [sv, h]
/-- a row of texts of its own -/
def ownsT (w : World) (B : Nat) (v : Value) (l : List (List UInt8)) : Prop := w.ownsRow B 9 1 v l.length (sv l)
theorem ownT_nil (w : World) (B : Nat) (hB : B ≤ w.heap.size) : ownsT (w.alloc (.cells #[] 9)) B (.slice (some ⟨w.heap.size, 0, none⟩) 0 0) [] :=
  World.ownsRow_made w #[] 0 hB (by decide) rfl
theorem app_text {ops : Array Oper} {rest : List Oper} {o : Oper} {a : Act} {Q : Exit → Act → World → Prop} (w0 wr : World) (hgd : o.guard = none) (s x : Operand)
    (ho : o.op = .call { callee := .builtin .append, args := #[s, x], argTypes := #[31, 31] })
    (B : Nat) (v : Value) (l : List (List UInt8)) (c : List UInt8) (ci : ByteArray) (hci : ci = ⟨c.toArray⟩) (hs : a.eval s = v) (hown : ownsT wr B v l)
    (hx : a.eval x = .slice (some ⟨wr.heap.size, 0, none⟩) 1 1) (hlen : l.length ≤ 1000000) (hB : B ≤ wr.heap.size) (hbel : Below B w0 wr)
    (h : ∀ v' w', ownsT w' B v' (l ++ [c]) → Below B w0 w' → B ≤ w'.heap.size → wpList Tryz.prog ops Q rest (a.put o.dst v') w') :
    wpList Tryz.prog ops Q (o :: rest) a (wr.alloc (.cells #[.string ci] 9)) := by
  subst hci
  obtain ⟨i0, hi, hz0, hz1, hz2⟩ := info_parts Tryz.info9
  refine wpList_append_own _ hgd s x 31 ho B 9 i0 (.string ByteArray.empty) 1 16 Tryz.underlying31 hi hz0 hz1 hz2 rfl (by decide) v l.length (sv l) hs (World.ownsRow.alloc hown _) ⟨wr.heap.size, 0, none⟩ 1 1 [.string ⟨c.toArray⟩] hx rfl ?_ ?_ ?_ ?_ ?_ ?_
  · intro j u hj
    match j, hj with
    | 0, hj => simp at hj; subst hj; simp [Addr.add]
  · intro u hu; simp at hu; subst hu; rfl
  · unfold maxLen; omega
  · omega
  · simp; omega
  · intro v' w' ho' hg _
    have hr : ∀ k, v.ownBlock = some k → B ≤ k := fun k hk => (World.ownsRow.lt hown k hk).1
    refine h v' w' ?_ ((hbel.alloc hB _).grown hg (by simp; omega) hr) (Nat.le_trans (by simp; omega) hg.size)
    have e1 : sv (l ++ [c]) = sv l ++ [.string ⟨c.toArray⟩] := by simp [sv]
    unfold ownsT
    rw [e1, List.length_append]
    exact ho'
theorem ownsT.slice {w : World} {B : Nat} {v : Value} {l : List (List UInt8)} (h : ownsT w B v l) : ∃ ao cp, v = .slice ao l.length cp ∧ l.length ≤ cp := by
  obtain ⟨_, ⟨h2, h3⟩ | ⟨g, cap, cur, h2, hb, hh, hc, rest⟩⟩ := h
  · exact ⟨none, 0, by rw [h2, h3], by omega⟩
  · exact ⟨_, cap, h2, hc⟩
theorem ownsT.open {w : World} {B : Nat} {v : Value} {l : List (List UInt8)} (h : ownsT w B v l) (hl : l ≠ []) :
    ∃ g cap, v = .slice (some ⟨g, 0, none⟩) l.length cap ∧ B ≤ g ∧ g < w.heap.size ∧ l.length ≤ cap ∧ ∀ j (hj : j < l.length), w.cell? ⟨g, j, none⟩ = some (.string ⟨l[j].toArray⟩) := by
  have h' := h
  obtain ⟨_, h1 | ⟨g, cap, cur, rfl, hb, hh, hc, hm, hsz, htk⟩⟩ := h
  · exact absurd (List.length_eq_zero_iff.1 h1.2) hl
  · refine ⟨g, cap, rfl, hb, (World.ownsRow.lt h' g rfl).2, hc, fun t ht => ?_⟩
    rw [World.ownsRow.cellAt h' t (by omega), sv_at l t ht]
theorem ownsT.otherBlock {w w' : World} {B : Nat} {v : Value} {l : List (List UInt8)} (h : ownsT w B v l) (hk : ∀ g, v.ownBlock = some g → w'.heap[g]? = w.heap[g]?) : ownsT w' B v l := by
  obtain ⟨h1, h2 | ⟨g, cap, cur, rfl, hb, hh, rest⟩⟩ := h
  · exact ⟨h1, .inl h2⟩
  · exact ⟨h1, .inr ⟨g, cap, cur, rfl, hb, (hk g (by simp [Value.ownBlock])).trans hh, rest⟩⟩
theorem ownsT.below {w w' : World} {B : Nat} {v : Value} {l : List (List UInt8)} (h : ownsT w B v l) (hb : Below w.heap.size w w') : ownsT w' B v l :=
  h.otherBlock fun g hg => hb.block g (World.ownsRow.lt h g hg).2
/-- a text cut at each c -/
def cutA (c : UInt8) : List UInt8 → List UInt8 → List (List UInt8)
  | cur, [] => [cur]
  | cur, x :: l => if x = c then cur :: cutA c [] l else cutA c (cur ++ [x]) l
def cutB (c : UInt8) (s : ByteArray) : List (List UInt8) := cutA c [] s.data.toList
theorem cutA_len (c : UInt8) : ∀ (l cur : List UInt8), (cutA c cur l).length ≤ l.length + 1
  | [], cur => by simp [cutA]
  | x :: l, cur => by
    unfold cutA
    split
    · have := cutA_len c l []; simp only [List.length_cons]; omega
    · have := cutA_len c l (cur ++ [x]); simp only [List.length_cons]; omega
/-- the bytes from f up to k -/
def piece (s : ByteArray) (f k : Nat) : List UInt8 := (s.data.toList.drop f).take (k - f)
theorem piece_extract (s : ByteArray) (f k : Nat) : s.extract f k = ⟨(piece s f k).toArray⟩ := by
  apply ByteArray.ext
  simp [piece, ByteArray.data_extract, ← Array.toList_inj]
theorem piece_nil (s : ByteArray) (k : Nat) : piece s k k = [] := by simp [piece]
theorem piece_snoc (s : ByteArray) (f k : Nat) (h : f ≤ k) (hk : k < s.size) : piece s f (k + 1) = piece s f k ++ [s[k]] := by
  unfold piece
  have hl : k - f < (s.data.toList.drop f).length := by
    have : s.data.toList.length = s.size := by simp
    rw [List.length_drop]; omega
  rw [show k + 1 - f = (k - f) + 1 by omega, List.take_succ_eq_append_getElem hl]
  congr 2
  rw [List.getElem_drop]
  have : f + (k - f) = k := by omega
  simp only [this]
  rfl
/-- what has been cut of the first k bytes -/
structure cutS (c : UInt8) (s : ByteArray) (k f : Nat) (out : List (List UInt8)) : Prop where
  le : f ≤ k
  on : k ≤ s.size → cutB c s = out ++ cutA c (piece s f k) (s.data.toList.drop k)
  fin : s.size < k → out = cutB c s
  len : out.length ≤ k
theorem cutS.zero (c : UInt8) (s : ByteArray) : cutS c s 0 0 [] := ⟨Nat.le_refl _, fun _ => by simp [cutB, piece], fun h => by omega, Nat.le_refl _⟩
theorem drop_at (s : ByteArray) (k : Nat) (h : k < s.size) : s.data.toList.drop k = s[k] :: s.data.toList.drop (k + 1) := List.drop_eq_getElem_cons (by simpa using h)
theorem cutS.hit {c : UInt8} {s : ByteArray} {k f : Nat} {out : List (List UInt8)} (h : cutS c s k f out) (hk : k < s.size) (hc : s[k] = c) : cutS c s (k + 1) (k + 1) (out ++ [piece s f k]) := by
  refine ⟨Nat.le_refl _, fun _ => ?_, fun h => by omega, by have := h.len; simp; omega⟩
  rw [h.on (by omega), drop_at s k hk, piece_nil]
  simp only [cutA, hc, if_true, List.append_assoc, List.singleton_append]
theorem cutS.miss {c : UInt8} {s : ByteArray} {k f : Nat} {out : List (List UInt8)} (h : cutS c s k f out) (hk : k < s.size) (hc : ¬ s[k] = c) : cutS c s (k + 1) f out := by
  refine ⟨by have := h.le; omega, fun _ => ?_, fun h => by omega, by have := h.len; omega⟩
  rw [h.on (by omega), drop_at s k hk, piece_snoc s f k h.le hk]
  simp only [cutA, hc, if_false]
theorem cutS.last {c : UInt8} {s : ByteArray} {f : Nat} {out : List (List UInt8)} (h : cutS c s s.size f out) : cutS c s (s.size + 1) (s.size + 1) (out ++ [piece s f s.size]) := by
  refine ⟨Nat.le_refl _, fun h => by omega, fun _ => ?_, by have := h.len; simp; omega⟩
  have e : s.data.toList.drop s.size = [] := List.drop_eq_nil_of_le (by simp)
  rw [h.on (Nat.le_refl _), e]
  rfl
set_option maxHeartbeats 4000000 in
set_option maxRecDepth 20000 in
/-- spec.l6cut -/
theorem cut_any (c : UInt8) (s : ByteArray) (hs : s.size ≤ 20000) (w : World) :
    Calls Tryz.prog 11 #[.string s, .int .u8 (c.toNat : Int)] w fun o w' => ∃ ao cp, o = .returned (.slice ao (cutB c s).length cp) ∧ ownsT w' w.heap.size (.slice ao (cutB c s).length cp) (cutB c s) ∧ Below w.heap.size w w' := by
  have H0 : Hid (ownsT (w.alloc (.cells #[] 9)) w.heap.size (.slice (some ⟨w.heap.size, 0, none⟩) 0 0) [] ∧ Below w.heap.size w (w.alloc (.cells #[] 9)) ∧ w.heap.size ≤ (w.alloc (.cells #[] 9)).heap.size) := ⟨ownT_nil w _ (Nat.le_refl _), (Below.refl _ _).alloc (Nat.le_refl _) _, by simp⟩
  have HS := hidYY hs
  go_enter Tryz.func11, Tryz.ntmps11
  go_wp2
  go_loopw [5, 6, 7] (fun v fr i wr => ∃ (k f : Nat) (out : List (List UInt8)), k ≤ s.size + 1 ∧ fr = .int .i64 (f : Int) ∧ i = .int .i64 (k : Int) ∧ cutS c s k f out ∧ ownsT wr w.heap.size v out ∧ Below w.heap.size w wr ∧ w.heap.size ≤ wr.heap.size) (fun _ _ i _ => s.size + 1 - (intOf i).toNat)
  case atStart => exact ⟨0, 0, [], by omega, rfl, rfl, cutS.zero c s, H0.out.1, H0.out.2.1, H0.out.2.2⟩
  case round =>
    clear H0
    obtain ⟨k, f, out, hk, rfl, rfl, st, own, bel, hz⟩ := hrel
    have HO := hidYY own
    have HB := hidYY (And.intro bel hz)
    have HT := hidYY st
    have hf := st.le
    have hol : Hid (out.length ≤ 1000000) := by have := st.len; unfold Hid; omega
    clear own bel hz st
    by_cases hlt : k < s.size
    · have e0 : ((k : Int) == (s.size : Int)) = false := by simp; omega
      by_cases hc : s[k] = c
      · have hcc : ((s[k].toNat : Int) == (c.toNat : Int)) = true := by rw [hc]; simp
        have hpe := hidYY (piece_extract s f k)
        have HN := hidYY (HT.out.hit hlt hc)
        clear hc
        generalize piece s f k = pc at *
        go_wp2_with (first | (at_builtin; refine app_text w wr rfl (.tmp 26) (.tmp 31) rfl w.heap.size _ out pc _ hpe.out rfl HO.out rfl hol.out HB.out.2 HB.out.1 ?_))
        intro v1 w1 ho1 hb1 hz1
        go_wp2
        go_roundw
        case rel => exact ⟨k + 1, k + 1, _, by omega, by go_num, by go_num, HN.out, ho1, hb1, hz1⟩
        case measure => simp [intOf]; omega
      · have hcc : ((s[k].toNat : Int) == (c.toNat : Int)) = false := by
          simp only [beq_eq_false_iff_ne, ne_eq]
          intro h
          exact hc (UInt8.toNat_inj.1 (by omega))
        have HN := hidYY (HT.out.miss hlt hc)
        clear hc
        go_wp2
        go_roundw
        case rel => exact ⟨k + 1, f, out, by omega, rfl, by go_num, HN.out, HO.out, HB.out.1, HB.out.2⟩
        case measure => simp [intOf]; omega
    · by_cases hke : k = s.size
      · subst hke
        have hpe := hidYY (piece_extract s f s.size)
        have HN := hidYY HT.out.last
        generalize piece s f s.size = pc at *
        go_wp2_with (first | (at_builtin; refine app_text w wr rfl (.tmp 26) (.tmp 31) rfl w.heap.size _ out pc _ hpe.out rfl HO.out rfl hol.out HB.out.2 HB.out.1 ?_))
        intro v1 w1 ho1 hb1 hz1
        go_wp2
        go_roundw
        case rel => exact ⟨s.size + 1, s.size + 1, _, by omega, by go_num, by go_num, HN.out, ho1, hb1, hz1⟩
        case measure => first | (simp [intOf]; done) | (simp [intOf]; omega)
      · have hle : ¬ (k : Int) ≤ (s.size : Int) := by omega
        have e := HT.out.fin (by omega)
        obtain ⟨ao, cp, rfl, hcp⟩ := HO.out.slice
        subst e
        go_wp2
        go_ret
        exact ⟨ao, cp, rfl, HO.out, HB.out.1⟩
end Go.Proofs.YtfbeaekddgpmmaaGreatDoor
