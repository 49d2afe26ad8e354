import Derived.Test.YtcenoecjihcjjaaDV
import Derived.Test.YtcenoecjihcjjaaDW
namespace Go.Proofs.Ytcenoecjihcjjaa
open Go.RowKit
/-- where the way back from runs stands behind k of them -/
structure drAt (xs : List Nat) (c0 k c i st : Nat) (out : List Nat) : Prop where
  eq : M.drGo (xs.drop k) c i st out = M.drGo xs c0 0 0 []
  c2 : c < 2
  s1 : st ≤ 1
  le : out.length ≤ i
  sum : i = (xs.take k).sum
  hi : i ≤ 4000
theorem sum_le_of {l : List Int} (h : runsOk l) (k : Nat) (hk : k ≤ l.length) : ((l.map Int.toNat).take k).sum ≤ 4000 := by
  cases k with
  | zero => simp
  | succ k =>
    obtain ⟨X, h1, _, h3, h4⟩ := h k (by omega)
    have e := h3 0
    rw [M.rt_len] at e
    rw [List.take_succ_eq_append_getElem (by simp; omega), List.sum_append]
    simp [h1]
    omega
theorem drop_run {l : List Int} {k X : Nat} (hk : k < l.length) (hX : l[k] = (X : Int)) : (l.map Int.toNat).drop k = X :: (l.map Int.toNat).drop (k + 1) ∧ (l.map Int.toNat).take (k + 1) = (l.map Int.toNat).take k ++ [X] := by
  have hk' : k < (l.map Int.toNat).length := by simpa using hk
  have e : (l.map Int.toNat)[k] = X := by simp [hX]
  exact ⟨by rw [List.drop_eq_getElem_cons hk', e], by rw [List.take_succ_eq_append_getElem hk', e]⟩
theorem drAt.over {xs : List Nat} {c0 k c i st X : Nat} {out : List Nat} (h : drAt xs c0 k c i st out) (hd : xs.drop k = X :: xs.drop (k + 1)) (h5 : 5 < X) : M.drGo xs c0 0 0 [] = (out ++ List.replicate (5 - st) (48 + c), ((i + 5 : Nat) : Int)) := by
  rw [← h.eq, hd, M.drGo, if_pos h5]
theorem drAt.next {xs : List Nat} {c0 k c i st X : Nat} {out : List Nat} (h : drAt xs c0 k c i st out) (hd : xs.drop k = X :: xs.drop (k + 1)) (ht : xs.take (k + 1) = xs.take k ++ [X]) (h5 : ¬ 5 < X) (hs : (xs.take (k + 1)).sum ≤ 4000) : drAt xs c0 (k + 1) (1 - c) (i + X) (X / 5) (out ++ List.replicate (X - st) (48 + c)) := by
  have hle := h.le
  have hsum : i + X = (xs.take (k + 1)).sum := by rw [ht, List.sum_append, h.sum]; simp
  refine ⟨?_, by omega, by omega, by simp; omega, hsum, by omega⟩
  rw [← h.eq, hd, M.drGo, if_neg h5]
theorem drAt.fin {xs : List Nat} {c0 k c i st : Nat} {out : List Nat} (h : drAt xs c0 k c i st out) (hk : xs.length ≤ k) : M.drGo xs c0 0 0 [] = (out, -1) := by
  rw [← h.eq, List.drop_eq_nil_of_le hk]; rfl
def bN (l : List Nat) : List UInt8 := l.map UInt8.ofNat
theorem bN_rep (L : List Nat) (k c : Nat) : Lib.byteCells (bN L) ++ Lib.strCells ⟨(Lib.repeatL (ByteArray.mk #[UInt8.ofNat c]).data.toList k).toArray⟩ = Lib.byteCells (bN (L ++ List.replicate k c)) := by
  rw [Lib.strCells_eq]
  have e : Lib.repeatL (ByteArray.mk #[UInt8.ofNat c]).data.toList k = List.replicate k (UInt8.ofNat c) := by
    have := Lib.repeatL_replicate (UInt8.ofNat c) 1 k
    rw [Nat.mul_one] at this
    exact this
  rw [e]
  simp [Lib.byteCells, bN]
theorem bN_len (L : List Nat) : (Lib.byteCells (bN L)).length = L.length := by simp [Lib.byteCells, bN]
theorem rep_size (k c : Nat) : (ByteArray.mk (Lib.repeatL (ByteArray.mk #[UInt8.ofNat c]).data.toList k).toArray).size = k := by
  have := Lib.repeatL_length (ByteArray.mk #[UInt8.ofNat c]).data.toList k
  simp [ByteArray.size] at this ⊢
  exact this
/-- what stands in the loop: the builder and its letters -/
structure dxI (w : World) (b : Nat) (out : List Nat) (W : World) : Prop where
  bld : Lib.IsBuilderF 46 5 b b (Lib.byteCells (bN out)) W
  bel : Below b w W
  le : b ≤ W.heap.size
theorem dxI.new (w : World) (q : Nat) : dxI w w.heap.size [] ((w.drewN q).alloc (.cells #[.pointer none, .slice none 0 0] 46)) := by
  have := Lib.fresh_isBuilder 46 5 (w.drewN q)
  refine ⟨?_, (below_q w q).alloc (by simp) _, by simp⟩
  rcases this with h | h
  · have := Lib.BuilderAtF.of h
    simp at this
    exact .inl this
  · have := Lib.BuilderAtF.of h
    simp at this
    exact .inr this
/-- what fits is as the walk wants it -/
theorem fit_at {l : List Int} (h : fitGo l 4000 = true) : ∀ k, k ≤ l.length → ∃ z, ftAt l k z := by
  intro k
  induction k with
  | zero => intro _; exact ⟨0, ftAt.zero l⟩
  | succ k ih =>
    intro hk
    obtain ⟨z, hz⟩ := ih (by omega)
    by_cases hb : l[k] < 1 ∨ 4000 - z < l[k]
    · have := hz.bad (by omega) hb
      rw [h] at this
      cases this
    · exact ⟨_, hz.next (by omega) (by omega) (by omega)⟩
theorem fit_runs {l : List Int} (h : fitGo l 4000 = true) : runsOk l := by
  obtain ⟨z, hz⟩ := fit_at h l.length (Nat.le_refl _)
  exact runs_fit hz rfl
theorem bld_below {T e : TypeId} {B b : Nat} {bs : List Value} {W W' : World} (h : Lib.IsBuilderF T e B b bs W) (hb : Below W.heap.size W W') : Lib.IsBuilderF T e B b bs W' := by
  have key : ∀ p, Lib.BuilderAtF T e B b p bs W → Lib.BuilderAtF T e B b p bs W' := by
    rintro p ⟨hB, v, h1, h2, h3⟩
    refine ⟨hB, v, (hb.block b (lt_of_block h1)).trans h1, ?_, h3⟩
    obtain ⟨k1, k2 | ⟨g, cap, cur, fz, k2, k3, k4, k5⟩⟩ := h2
    · exact ⟨k1, .inl k2⟩
    · exact ⟨k1, .inr ⟨g, cap, cur, fz, k2, k3, (hb.block g (lt_of_block k4)).trans k4, k5⟩⟩
  rcases h with h | h
  · exact .inl (key _ h)
  · exact .inr (key _ h)
theorem dxI.below {w : World} {b : Nat} {out : List Nat} {W W' : World} (h : dxI w b out W) (hb : Below W.heap.size W W') : dxI w b out W' :=
  ⟨bld_below h.bld hb, h.bel.trans (hb.mono h.le), Nat.le_trans h.le hb.size⟩
theorem write_any {w : World} {b : Nat} {out : List Nat} {W : World} (h : dxI w b out W) (k c : Nat) (hl : out.length + k ≤ 100000) :
    Calls Try.prog 22 #[.pointer (some ⟨b, 0, none⟩), .string ⟨(Lib.repeatL (ByteArray.mk #[UInt8.ofNat c]).data.toList k).toArray⟩] W fun e w' => e = .returned (.tuple #[.int .i64 (k : Int), .nilIface]) ∧ dxI w b (out ++ List.replicate k c) w' := by
  refine (writeString_k b b _ _ W h.bld (by rw [bN_len, rep_size]; omega) h.le).mono ?_
  rintro e w' ⟨rfl, h1, h2, _⟩
  rw [rep_size]
  rw [bN_rep] at h1
  exact ⟨rfl, .inr h1, h.bel.trans h2, Nat.le_trans h.le h2.size⟩
theorem rep_any (W : World) (c k : Nat) (S : ByteArray) (hS : S = ⟨#[UInt8.ofNat c]⟩) (p : Int) (hp : p = (k : Int)) (hk : k ≤ 100) :
    Calls Try.prog 23 #[.string S, .int .i64 p] W fun e w' => e = .returned (.string ⟨(Lib.repeatL (ByteArray.mk #[UInt8.ofNat c]).data.toList k).toArray⟩) ∧ Below W.heap.size W w' := by
  subst hS hp
  exact repeat_any _ k W (by omega) (by simp [ByteArray.size]; omega)
theorem fin_any {w : World} {b : Nat} {out : List Nat} {W : World} (h : dxI w b out W) :
    Calls Try.prog 24 #[.pointer (some ⟨b, 0, none⟩)] W fun e w' => e = .returned (.string (strN out)) ∧ Below b w w' := by
  refine (string_k b b (bN out) W h.bld h.le).mono ?_
  rintro e w' ⟨rfl, _, hb, _⟩
  exact ⟨rfl, h.bel.trans hb⟩
set_option maxHeartbeats 4000000 in
set_option maxRecDepth 20000 in
theorem implRuns_ok (w : World) (c : Nat) (hc2 : c < 2) (g off n cap : Nat) (l : List Int) (h : isInts w (some ⟨g, off, none⟩) n cap l) (hl : l ≠ []) (hn4 : n ≤ 1048576) (hfit : fitGo l 4000 = true) (hok : runsOk l) :
    Calls Try.prog 8 #[.int .i64 (c : Int), .slice (some ⟨g, off, none⟩) n cap] w fun o w' => o = .returned (.tuple #[.string (drZ (c : Int) l).1, .int .i64 (drZ (c : Int) l).2]) ∧ Below w.heap.size w w' := by
  have HC : Hid (∀ j (h : j < l.length), w.cell? ⟨g, off + j, none⟩ = some (.int .i64 l[j])) := h.hid hl
  have HL : Hid (n = l.length) := h.len
  have hgz : g < w.heap.size := World.block_lt_of_cell? w _ (HC.out 0 (List.length_pos_iff.2 hl))
  have hcp := h.cap
  have HA : Hid (∀ w, Calls Try.prog 20 #[.int .i64 (c : Int)] w fun o w' => o = .returned (.bool true) ∧ w = w') := by
    intro w
    have := isLevel_any w (c : Int)
    rw [show decide ((c : Int) = 0 ∨ (c : Int) = 1) = true from decide_eq_true (by omega)] at this
    exact this
  have HB : Hid (Calls Try.prog 21 #[.slice (some ⟨g, off, none⟩) n cap] w fun o w' => o = .returned (.bool true) ∧ ∃ q, w' = w.drewN q) := by
    have := fitLine_any w _ n cap l h hn4
    rw [hfit] at this
    exact this
  have HK : Hid (runsOk l) := hok
  have HZ0 : Hid (drZ (c : Int) l = (strN (M.drGo (l.map Int.toNat) c 0 0 []).1, (M.drGo (l.map Int.toNat) c 0 0 []).2)) := by unfold Hid drZ; rw [if_pos ⟨by omega, hfit⟩]; rfl
  clear h hl hfit hok
  go_enter Try.func8, Try.ntmps8
  go_wp2_with (first | (go_at_call 20; refine (HA.out _).mono ?_; rintro o w1 ⟨rfl, rfl⟩) | (go_at_call 21; refine HB.out.mono ?_; rintro o w1 ⟨rfl, q, rfl⟩))
  have st0 : dxI w w.heap.size [] ((w.drewN q).alloc (.cells #[.pointer none, .slice none 0 0] 46)) := dxI.new w q
  have HZ : Hid (drZ (c : Int) l = (strN (M.drGo (l.map Int.toNat) c 0 0 []).1, (M.drGo (l.map Int.toNat) c 0 0 []).2)) := HZ0.out
  have HI : Hid (drAt (l.map Int.toNat) c 0 c 0 0 []) := ⟨rfl, hc2, by omega, by simp, by simp, by omega⟩
  generalize (w.drewN q).alloc (.cells #[.pointer none, .slice none 0 0] 46) = w2 at *
  generalize hb : w.heap.size = b at *
  go_loopw [7, 8, 9, 24] (fun at_ lv sf i W => ∃ (k c' i' s' : Nat) (out : List Nat), k ≤ n ∧ i = .int .i64 (k : Int) ∧ at_ = .int .i64 (i' : Int) ∧ lv = .int .i64 (c' : Int) ∧ sf = .int .i64 (s' : Int) ∧ drAt (l.map Int.toNat) c k c' i' s' out ∧ dxI w b out W) (fun _ _ _ i _ => n - (intOf i).toNat)
  case atStart => exact ⟨0, c, 0, 0, [], Nat.zero_le _, rfl, rfl, rfl, rfl, HI.out, st0⟩
  case round =>
    clear st0 HI
    obtain ⟨k, c', i', s', out, hk, rfl, rfl, rfl, rfl, hat, hst⟩ := hrel
    have hc'2 := hat.c2
    have hs'1 := hat.s1
    have hle := hat.le
    have hi4 := hat.hi
    by_cases hlt : k < n
    · have hkl : k < l.length := by have := HL.out; omega
      obtain ⟨X, hX1, hX2, hX3, -⟩ := HK.out k hkl
      have hcx : wr.cell? ⟨g, off + k, none⟩ = some (.int .i64 (X : Int)) := by rw [← hX1]; exact (hst.bel.cell (by exact (by omega : g < b))).trans (HC.out k hkl)
      obtain ⟨hd, ht⟩ := drop_run hkl hX1
      by_cases h5 : 5 < X
      · have HE : Hid (M.drGo (l.map Int.toNat) c 0 0 [] = (out ++ List.replicate (5 - s') (48 + c'), ((i' + 5 : Nat) : Int))) := hat.over hd h5
        clear hd ht hat hX1 hX3
        have hcc : c' = 0 ∨ c' = 1 := by omega
        rcases hcc with rfl | rfl
        · have HS : Hid (Utf8.encode 48 = ⟨#[UInt8.ofNat 48]⟩) := by unfold Hid; rfl
          have HM : Hid ((min (X : Int) 5 - (s' : Int)) = ((5 - s' : Nat) : Int)) := by unfold Hid; omega
          have HW : Hid (∀ W, dxI w b out W → Calls Try.prog 22 #[.pointer (some ⟨b, 0, none⟩), .string ⟨(Lib.repeatL (ByteArray.mk #[UInt8.ofNat 48]).data.toList (5 - s')).toArray⟩] W fun e w' => e = .returned (.tuple #[.int .i64 ((5 - s' : Nat) : Int), .nilIface]) ∧ dxI w b (out ++ List.replicate (5 - s') 48) w') := fun W h => write_any h _ _ (by omega)
          have hd5 : decide ((5 : Int) < (X : Int)) = true := by simp; omega
          go_wp2_with (first | (go_at_call 23; refine (rep_any _ 48 (5 - s') _ HS.out _ HM.out (by omega)).mono ?_; rintro o w3 ⟨rfl, hb3⟩) | (go_at_call 22; refine (HW.out _ (hst.below hb3)).mono ?_; rintro o w4 ⟨rfl, hst4⟩) | (go_at_call 24; refine (fin_any hst4).mono ?_; rintro o w5 ⟨rfl, hb5⟩))
          go_ret2
          exact ⟨ret_tup (by rw [HZ.out, HE.out]; rfl), by rw [hb]; exact hb5⟩
        · have HS : Hid (Utf8.encode 49 = ⟨#[UInt8.ofNat 49]⟩) := by unfold Hid; rfl
          have HM : Hid ((min (X : Int) 5 - (s' : Int)) = ((5 - s' : Nat) : Int)) := by unfold Hid; omega
          have HW : Hid (∀ W, dxI w b out W → Calls Try.prog 22 #[.pointer (some ⟨b, 0, none⟩), .string ⟨(Lib.repeatL (ByteArray.mk #[UInt8.ofNat 49]).data.toList (5 - s')).toArray⟩] W fun e w' => e = .returned (.tuple #[.int .i64 ((5 - s' : Nat) : Int), .nilIface]) ∧ dxI w b (out ++ List.replicate (5 - s') 49) w') := fun W h => write_any h _ _ (by omega)
          have hd5 : decide ((5 : Int) < (X : Int)) = true := by simp; omega
          go_wp2_with (first | (go_at_call 23; refine (rep_any _ 49 (5 - s') _ HS.out _ HM.out (by omega)).mono ?_; rintro o w3 ⟨rfl, hb3⟩) | (go_at_call 22; refine (HW.out _ (hst.below hb3)).mono ?_; rintro o w4 ⟨rfl, hst4⟩) | (go_at_call 24; refine (fin_any hst4).mono ?_; rintro o w5 ⟨rfl, hb5⟩))
          go_ret2
          exact ⟨ret_tup (by rw [HZ.out, HE.out]; rfl), by rw [hb]; exact hb5⟩
      · have HN : Hid (drAt (l.map Int.toNat) c (k + 1) (1 - c') (i' + X) (X / 5) (out ++ List.replicate (X - s') (48 + c'))) := hat.next hd ht h5 (sum_le_of HK.out (k + 1) (by omega))
        clear hd ht hat hX1 hX3
        have e5 : (X : Int).tdiv 5 = ((X / 5 : Nat) : Int) := by rw [Int.tdiv_eq_ediv_of_nonneg (by omega)]; omega
        have hcc : c' = 0 ∨ c' = 1 := by omega
        rcases hcc with rfl | rfl
        · have HS : Hid (Utf8.encode 48 = ⟨#[UInt8.ofNat 48]⟩) := by unfold Hid; rfl
          have HM : Hid ((min (X : Int) 5 - (s' : Int)) = ((X - s' : Nat) : Int)) := by unfold Hid; omega
          have HW : Hid (∀ W, dxI w b out W → Calls Try.prog 22 #[.pointer (some ⟨b, 0, none⟩), .string ⟨(Lib.repeatL (ByteArray.mk #[UInt8.ofNat 48]).data.toList (X - s')).toArray⟩] W fun e w' => e = .returned (.tuple #[.int .i64 ((X - s' : Nat) : Int), .nilIface]) ∧ dxI w b (out ++ List.replicate (X - s') 48) w') := fun W h => write_any h _ _ (by omega)
          have hd5 : decide ((5 : Int) < (X : Int)) = false := by simp; omega
          go_wp2_with (first | (go_at_call 23; refine (rep_any _ 48 (X - s') _ HS.out _ HM.out (by omega)).mono ?_; rintro o w3 ⟨rfl, hb3⟩) | (go_at_call 22; refine (HW.out _ (hst.below hb3)).mono ?_; rintro o w4 ⟨rfl, hst4⟩))
          go_roundw
          case rel => exact ⟨k + 1, 1 - 0, i' + X, X / 5, _, by omega, by go_num, by go_num, by go_num, by go_num, HN.out, hst4⟩
          case measure => simp [intOf]; omega
        · have HS : Hid (Utf8.encode 49 = ⟨#[UInt8.ofNat 49]⟩) := by unfold Hid; rfl
          have HM : Hid ((min (X : Int) 5 - (s' : Int)) = ((X - s' : Nat) : Int)) := by unfold Hid; omega
          have HW : Hid (∀ W, dxI w b out W → Calls Try.prog 22 #[.pointer (some ⟨b, 0, none⟩), .string ⟨(Lib.repeatL (ByteArray.mk #[UInt8.ofNat 49]).data.toList (X - s')).toArray⟩] W fun e w' => e = .returned (.tuple #[.int .i64 ((X - s' : Nat) : Int), .nilIface]) ∧ dxI w b (out ++ List.replicate (X - s') 49) w') := fun W h => write_any h _ _ (by omega)
          have hd5 : decide ((5 : Int) < (X : Int)) = false := by simp; omega
          go_wp2_with (first | (go_at_call 23; refine (rep_any _ 49 (X - s') _ HS.out _ HM.out (by omega)).mono ?_; rintro o w3 ⟨rfl, hb3⟩) | (go_at_call 22; refine (HW.out _ (hst.below hb3)).mono ?_; rintro o w4 ⟨rfl, hst4⟩))
          go_roundw
          case rel => exact ⟨k + 1, 1 - 1, i' + X, X / 5, _, by omega, by go_num, by go_num, by go_num, by go_num, HN.out, hst4⟩
          case measure => simp [intOf]; omega
    · have HE : Hid (M.drGo (l.map Int.toNat) c 0 0 [] = (out, -1)) := hat.fin (by have := HL.out; simp; omega)
      clear hat
      go_wp2_with (first | (go_at_call 24; refine (fin_any hst).mono ?_; rintro o w5 ⟨rfl, hb5⟩))
      go_ret2
      exact ⟨ret_tup (by rw [HZ.out, HE.out]), by rw [hb]; exact hb5⟩
end Go.Proofs.Ytcenoecjihcjjaa
