import Derived.Test.YtpknchjjfiiaeaaGreatDoorV21
namespace Go.Proofs.YtpknchjjfiiaeaaGreatDoor
open Go.RowKit
theorem strN_get (L : List Nat) (i : Nat) (hi : i < L.length) (hs : ∀ x ∈ L, x < 256) (h : i < (strN L).size) : ((strN L)[i]'h).toNat = L[i] := by
  rw [← lt_at (strN L) i h (by rw [lt_strN L hs]; exact hi)]
  simp [lt_strN L hs]
theorem Hid.mk' {p : Prop} (h : p) : Hid p := h
theorem mem_sum : ∀ (l : List Nat) (x : Nat), x ∈ l → x ≤ l.sum
  | y :: l, x, h => by
    rw [List.mem_cons] at h
    rw [List.sum_cons]
    rcases h with rfl | h
    · omega
    · have := mem_sum l x h; omega
/-- wRuns at work -/
structure wrS (w : World) (t : List Nat) (k : Nat) (xs : List Nat) (ao : Option Addr) (cp : Nat) (W : World) : Prop where
  own : ownsI W w.heap.size (.slice ao xs.length cp) xs
  rn : rnAt t k xs
  cap : xs.length ≤ cp
  bel : Below w.heap.size w W
theorem ownsI.sameHeap {w w' : World} {B : Nat} {v : Value} {l : List Nat} (h : ownsI w B v l) (hh : w'.heap = w.heap) : ownsI w' B v l := by
  obtain ⟨h1, h2 | ⟨g, cap, cur, rfl, hb, hg, rest⟩⟩ := h
  · exact ⟨h1, .inl h2⟩
  · exact ⟨h1, .inr ⟨g, cap, cur, rfl, hb, (by rw [hh]; exact hg), rest⟩⟩
theorem wrS.drewN {w : World} {t : List Nat} {k : Nat} {xs : List Nat} {ao : Option Addr} {cp : Nat} {W : World} (h : wrS w t k xs ao cp W) (n : Nat) : wrS w t k xs ao cp (W.drewN n) :=
  ⟨h.own.sameHeap (World.heap_drewN W n), h.rn, h.cap, below_drewN h.bel n⟩
set_option maxHeartbeats 4000000 in
set_option maxRecDepth 20000 in
theorem wRuns_any (w : World) (t : List Nat) (hL : ∀ x ∈ t, M.isL x) (h48 : ∀ h : 0 < t.length, t[0] = 48) (ht : t.length ≤ 4000) :
    Calls Tryz.prog 20 #[.string (strN t)] w fun o w' => ∃ (ao : Option Addr) (cp : Nat) (xs : List Nat), o = .returned (.slice ao xs.length cp) ∧ wrS w t t.length xs ao cp w' := by
  have hsz : (strN t).size = t.length := by simp [strN, ByteArray.size]
  have h256 : ∀ x ∈ t, x < 256 := fun x hx => by have := hL x hx; unfold M.isL at this; omega
  have HL : Hid ((∀ x ∈ t, M.isL x) ∧ (∀ h : 0 < t.length, t[0] = 48)) := ⟨hL, h48⟩
  have HT : Hid (t.length ≤ 4000) := ht
  have hb0 : wrS w t 0 [] (some ⟨w.heap.size, 0, none⟩) 0 (w.alloc (.cells #[] 3)) := ⟨ownI_nil w _ (Nat.le_refl _), rnAt.zero t, Nat.le_refl _, (Below.refl _ _).alloc (Nat.le_refl _) _⟩
  clear hL h48
  go_enter Tryz.func20, Tryz.ntmps20
  go_wp2
  go_loopw [3, 4] (fun v i wr => ∃ (k : Nat) (xs : List Nat) (ao : Option Addr) (cp : Nat), k ≤ t.length ∧ i = .int .i64 (k : Int) ∧ v = .slice ao xs.length cp ∧ wrS w t k xs ao cp wr) (fun _ i _ => t.length - (intOf i).toNat)
  case atStart => exact ⟨0, [], _, 0, Nat.zero_le _, rfl, rfl, hb0⟩
  case round =>
    clear hb0
    obtain ⟨k, xs, ao, cp, hk, rfl, rfl, st⟩ := hrel
    have ST : Hid (wrS w t k xs ao cp wr) := st
    clear st
    by_cases hlt : k < t.length
    · have hat : ∀ j (h : j < t.length), (((strN t)[j]'(by omega)).toNat : Int) = (t[j] : Int) := fun j h => by rw [strN_get t j h h256 (by omega)]
      by_cases hnew : (k = 0) ∨ ∃ j, ∃ hj : j + 1 = k, t[k] ≠ t[j]
      · have HN : Hid (rnAt t (k + 1) (xs ++ [1])) := by
          refine ST.out.rn.new hlt HL.out.1 (fun e => ?_) (fun j hj => ?_)
          · subst e; exact HL.out.2 hlt
          · rcases hnew with e | ⟨j', hj', h⟩
            · omega
            · have : j = j' := by omega
              subst this; exact h
        have HX : Hid (xs.length ≤ 1000000) := by have := ST.out.rn.len hk; have := HT.out; unfold Hid; omega
        have hxz : (xs.length : Int) ≤ 4000 := by have := ST.out.rn.len hk; have := HT.out; omega
        have hcond : ((k : Int) == 0) = true ∨ (((k : Int) == 0) = false ∧ ∃ j, ∃ hj : j + 1 = k, ((k : Int) - 1 = (j : Int)) ∧ (((((strN t)[k]'(by omega)).toNat : Int)) != (((strN t)[j]'(by omega)).toNat : Int)) = true) := by
          rcases hnew with e | ⟨j, hj, h⟩
          · exact .inl (by simp [e])
          · refine .inr ⟨by simp; omega, j, hj, by omega, ?_⟩
            rw [hat k hlt, hat j (by omega)]
            simp only [bne_iff_ne, ne_eq]
            omega
        clear hnew
        have fin : ∀ (v1 : Value) (w1 : World), ownsI w1 w.heap.size v1 (xs ++ [0]) → Below w.heap.size w w1 → ∃ g cap, v1 = .slice (some ⟨g, 0, none⟩) (xs.length + 1) cap ∧ w1.cell? ⟨g, xs.length, none⟩ = some (.int .i64 0) ∧ w1.frozen? ⟨g, xs.length, none⟩ = false ∧ wrS w t (k + 1) (xs ++ [1]) (some ⟨g, 0, none⟩) cap (w1.setCell ⟨g, xs.length, none⟩ (.int .i64 1)) := by
          intro v1 w1 ho1 hb1
          obtain ⟨g, cap, e, hgB, hgz, hcp, hcm, hrow⟩ := ho1.open (by simp)
          have hlen : (xs ++ [0]).length = xs.length + 1 := by simp
          have hc := hrow.cell xs.length (by omega)
          have hf := hrow.free xs.length (by omega)
          subst e
          have hst := ho1.stored xs.length 1
          rw [set_snoc] at hst
          rw [hlen] at hcp
          refine ⟨g, cap, by rw [hlen], by rw [hc]; simp [List.getD], hf, ?_, HN.out, by simpa using hcp, hb1.setCell (by exact hgB) _⟩
          rw [List.length_append] at hst ⊢
          exact hst
        have HF := Hid.mk' fin
        clear fin hat h256
        rcases hcond with hc0 | ⟨hc0, j, hj, hj1, hne⟩
        · go_wp2
          go_quiet (fail)
          go_wp2_with (first | (at_builtin; refine app_int w (wr.drewN nq) rfl (.tmp 24) (.tmp 25) rfl w.heap.size _ xs 0 _ rfl rfl (ST.out.drewN nq).own rfl HX.out (ST.out.drewN nq).bel.size (ST.out.drewN nq).bel ?_))
          intro v1 w1 ho1 hb1 _
          obtain ⟨g, cap, rfl, hc, hf, st1⟩ := HF.out v1 w1 ho1 hb1
          have ST1 := Hid.mk' st1
          clear st1 ho1 hb1
          go_wp2
          go_roundw
          case rel => exact ⟨k + 1, xs ++ [1], _, cap, by omega, by go_num, by simp, ST1.out⟩
          case measure => simp [intOf]; omega
        · have hjt : j < t.length := by omega
          have hkz : k < (strN t).size := by omega
          have hjz : j < (strN t).size := by omega
          go_wp2
          go_quiet (fail)
          go_wp2_with (first | (at_builtin; refine app_int w (wr.drewN nq) rfl (.tmp 24) (.tmp 25) rfl w.heap.size _ xs 0 _ rfl rfl (ST.out.drewN nq).own rfl HX.out (ST.out.drewN nq).bel.size (ST.out.drewN nq).bel ?_))
          intro v1 w1 ho1 hb1 _
          obtain ⟨g, cap, rfl, hc, hf, st1⟩ := HF.out v1 w1 ho1 hb1
          have ST1 := Hid.mk' st1
          clear st1 ho1 hb1
          go_wp2
          go_roundw
          case rel => exact ⟨k + 1, xs ++ [1], _, cap, by omega, by go_num, by simp, ST1.out⟩
          case measure => simp [intOf]; omega
      · obtain ⟨j, hj⟩ : ∃ j, j + 1 = k := ⟨k - 1, by omega⟩
        have hjt : j < t.length := by omega
        have he : t[k] = t[j] := Classical.byContradiction fun h => hnew (.inr ⟨j, hj, h⟩)
        have hc0 : ((k : Int) == 0) = false := by simp; omega
        have hj1 : (k : Int) - 1 = (j : Int) := by omega
        have hkz : k < (strN t).size := by omega
        have hjz : j < (strN t).size := by omega
        have hne : ((((strN t)[k]'(by omega)).toNat : Int) != (((strN t)[j]'(by omega)).toNat : Int)) = false := by
          rw [hat k hlt, hat j (by omega), he]
          simp
        have HRN : Hid (rnAt t (k + 1) (xs.set (xs.length - 1) (xs.getD (xs.length - 1) 0 + 1))) := by
          subst hj
          exact ST.out.rn.same hlt he
        have hxn := ST.out.rn.ne hk (by omega)
        have hxp : 0 < xs.length := List.length_pos_iff.2 hxn
        obtain ⟨g, cap, e, hgB, hgz, hcp, hcm, hrow⟩ := ST.out.own.open hxn
        have e1 : ao = some ⟨g, 0, none⟩ := by injection e
        have e2 : cp = cap := by injection e
        subst e1 e2
        have hc := hrow.cell (xs.length - 1) (by omega)
        have hf := hrow.free (xs.length - 1) (by omega)
        have HS : Hid (∀ q, wrS w t (k + 1) (xs.set (xs.length - 1) (xs.getD (xs.length - 1) 0 + 1)) (some ⟨g, 0, none⟩) cp ((wr.drewN q).setCell ⟨g, xs.length - 1, none⟩ (.int .i64 ((xs.getD (xs.length - 1) 0 + 1 : Nat) : Int)))) := by
          intro q
          have st := ST.out.drewN q
          refine ⟨?_, HRN.out, by simpa using hcp, st.bel.setCell (by exact hgB) _⟩
          have := st.own.stored (xs.length - 1) (xs.getD (xs.length - 1) 0 + 1)
          rw [List.length_set]
          exact this
        have hxz : (xs.length : Int) ≤ 4000 := by have := ST.out.rn.len hk; have := HT.out; omega
        have hv : xs.getD (xs.length - 1) 0 ≤ 4000 := by
          have hs := ST.out.rn.sum hk
          have := mem_sum xs (xs.getD (xs.length - 1) 0) (by rw [List.getD_eq_getElem?_getD, List.getElem?_eq_getElem (by omega)]; simp)
          have := HT.out
          omega
        have hl1 : (xs.length : Int) - 1 = ((xs.length - 1 : Nat) : Int) := by omega
        have hl2 : xs.length - 1 < xs.length := by omega
        have HLN : Hid ((xs.set (xs.length - 1) (xs.getD (xs.length - 1) 0 + 1)).length = xs.length) := by unfold Hid; simp
        clear hnew hat h256 he hrow hgz hcm hcp hxn
        generalize hX : xs.getD (xs.length - 1) 0 = X at *
        generalize hP : xs.length - 1 = P at *
        go_wp2
        go_quiet (fail)
        go_wp2
        go_roundw
        case rel => exact ⟨k + 1, _, _, cp, by omega, by go_num, by rw [HLN.out], HS.out nq⟩
        case measure => simp [intOf]; omega
    · have hkk : k = t.length := by omega
      go_wp2
      go_ret
      exact ⟨ao, cp, xs, rfl, hkk ▸ ST.out⟩
theorem isLevel_any (w : World) (f : Int) : Calls Tryz.prog 51 #[.int .i64 f] w fun o w' => o = .returned (.bool (decide (f = 0 ∨ f = 1))) ∧ w = w' := by
  by_cases h0 : f = 0
  · subst h0
    go_enter Tryz.func51, Tryz.ntmps51
    go_wp2
    go_ret
    exact ⟨rfl, rfl⟩
  · by_cases h1 : f = 1
    · subst h1
      go_enter Tryz.func51, Tryz.ntmps51
      go_wp2
      go_ret
      exact ⟨rfl, rfl⟩
    · have e0 : (f == 0) = false := by simpa using h0
      have e1 : (f == 1) = false := by simpa using h1
      have HD : Hid (decide (f = 0 ∨ f = 1) = false) := by simp [Hid, h0, h1]
      clear h0 h1
      go_enter Tryz.func51, Tryz.ntmps51
      go_wp2
      go_ret
      exact ⟨ret_bool HD.out.symm, rfl⟩
set_option maxHeartbeats 1000000 in
theorem fitLine_any (w : World) (a : Option Addr) (n cap : Nat) (l : List Int) (h : isInts w a n cap l) (hn : n ≤ 1048576) :
    Calls Tryz.prog 52 #[.slice a n cap] w fun o w' => o = .returned (.bool (fitGo l 4000)) ∧ ∃ q, w' = w.drewN q := by
  have hlen := h.len
  have hcp := h.cap
  by_cases hl : l = []
  · subst hl
    have hn0 : n = 0 := hlen
    subst hn0
    clear hlen h
    go_enter Tryz.func52, Tryz.ntmps52
    go_wp2
    go_loopw [3, 8] (fun r i wr => i = .int .i64 0 ∧ wr = w) (fun _ _ _ => 0)
    case atStart => exact ⟨rfl, rfl⟩
    case round =>
      obtain ⟨rfl, rfl⟩ := hrel
      go_wp2
      go_ret
      exact ⟨rfl, 0, rfl⟩
  · obtain ⟨g, off, rfl, hc⟩ := h.cells hl
    have hsm := h.small
    have HL : Hid (n = l.length) := hlen
    have HC : Hid (∀ j (h : j < l.length), w.cell? ⟨g, off + j, none⟩ = some (.int .i64 l[j])) := hc
    have HM : Hid (∀ x ∈ l, -9223372036854775808 ≤ x ∧ x ≤ 9223372036854775807) := hsm
    clear h hlen hc hsm
    go_enter Tryz.func52, Tryz.ntmps52
    go_wp2
    go_loopw [3, 8] (fun r i wr => ∃ (k : Nat) (s : Int), k ≤ n ∧ i = .int .i64 (k : Int) ∧ r = .int .i64 (4000 - s) ∧ ftAt l k s ∧ wr = w) (fun _ i _ => n - (intOf i).toNat)
    case atStart => exact ⟨0, 0, Nat.zero_le _, rfl, rfl, ftAt.zero l, rfl⟩
    case round =>
      obtain ⟨k, s, hk, rfl, rfl, hat, rfl⟩ := hrel
      have hlo := hat.lo
      have hhi := hat.hi
      by_cases hlt : k < n
      · have hkl : k < l.length := by have := HL.out; omega
        have hcx := HC.out k hkl
        have hx := HM.out l[k] (List.getElem_mem hkl)
        by_cases hb1 : l[k] < 1
        · have HF : Hid (fitGo l 4000 = false) := hat.bad hkl (.inl hb1)
          clear hat
          generalize l[k] = x at *
          have hd : decide (x < 1) = true := by simpa using hb1
          go_wp2
          go_ret
          exact ⟨ret_bool HF.out.symm, 0, rfl⟩
        · by_cases hb2 : 4000 - s < l[k]
          · have HF : Hid (fitGo l 4000 = false) := hat.bad hkl (.inr hb2)
            clear hat
            generalize l[k] = x at *
            have hd : decide (x < 1) = false := by simpa using hb1
            have hd2 : decide (4000 - s < x) = true := by simpa using hb2
            go_wp2
            go_ret
            exact ⟨ret_bool HF.out.symm, 0, rfl⟩
          · have hat2 := hat.next hkl (by omega) (by omega)
            have HN : Hid (ftAt l (k + 1) (s + l[k])) := hat2
            clear hat hat2
            generalize l[k] = x at *
            have hd : decide (x < 1) = false := by simpa using hb1
            have hd2 : decide (4000 - s < x) = false := by simpa using hb2
            go_wp2
            go_roundw
            case rel => exact ⟨k + 1, s + x, by omega, by go_num, by go_num, HN.out, trivial⟩
            case measure => simp [intOf]; omega
      · have HF : Hid (fitGo l 4000 = true) := hat.fin (by have := HL.out; omega)
        clear hat
        go_wp2
        go_ret
        exact ⟨ret_bool HF.out.symm, 0, rfl⟩
theorem drZ_bad {f : Int} {l : List Int} (h : ¬ ((f = 0 ∨ f = 1) ∧ fitGo l 4000 = true)) : drZ f l = (⟨#[]⟩, -2) := if_neg h
theorem isInts.hid {w : World} {g off n cap : Nat} {l : List Int} (h : isInts w (some ⟨g, off, none⟩) n cap l) (hl : l ≠ []) : ∀ j (h : j < l.length), w.cell? ⟨g, off + j, none⟩ = some (.int .i64 l[j]) := by
  obtain ⟨g', off', e, hc⟩ := h.cells hl
  cases e
  exact hc
/-- the runs, one by one: each a number, all of them within the room -/
def runsOk (l : List Int) : Prop := ∀ j (hj : j < l.length), ∃ X : Nat, l[j] = (X : Int) ∧ (1 ≤ X ∧ X ≤ 4000) ∧ (∀ c, (M.rtGo c ((l.map Int.toNat).take j)).length + X ≤ 4000) ∧ ∀ c, c < 2 → M.rtGo c ((l.map Int.toNat).take (j + 1)) = M.rtGo c ((l.map Int.toNat).take j) ++ List.replicate X (48 + (c + j) % 2)
theorem sum_take_le (l : List Nat) : ∀ j, (l.take j).sum ≤ l.sum := by
  induction l with
  | nil => intro j; simp
  | cons x xs ih =>
    intro j
    cases j with
    | zero => simp
    | succ j => simp [ih j]
theorem runs_fit {l : List Int} {k : Nat} {z : Int} (h : ftAt l k z) (hk : k = l.length) : runsOk l := by
  intro j hj
  have htk : l.take k = l := List.take_of_length_le (by omega)
  have hp := h.pos l[j] (by rw [htk]; exact List.getElem_mem hj)
  have hs := h.sum
  rw [htk] at hs
  have hhi := h.hi
  have hjm : j < (l.map Int.toNat).length := by simpa using hj
  have e1 : (l.map Int.toNat).take (j + 1) = (l.map Int.toNat).take j ++ [(l[j]).toNat] := by
    rw [List.take_succ_eq_append_getElem hjm]; simp
  have hle := sum_take_le (l.map Int.toNat) (j + 1)
  rw [e1, List.sum_append] at hle
  simp at hle
  refine ⟨(l[j]).toNat, by omega, ⟨by omega, by omega⟩, fun c => ?_, fun c hc => ?_⟩
  · rw [M.rt_len]
    rw [← List.map_take] at *
    omega
  · rw [e1, rt_snoc _ _ c hc, List.length_take, Nat.min_eq_left (by omega)]
theorem strN_size (l : List Nat) : (strN l).size = l.length := by simp [strN, ByteArray.size]
end Go.Proofs.YtpknchjjfiiaeaaGreatDoor
