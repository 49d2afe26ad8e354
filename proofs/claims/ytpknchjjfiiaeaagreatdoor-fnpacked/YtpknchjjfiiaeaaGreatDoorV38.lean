import Derived.Test.YtpknchjjfiiaeaaGreatDoorV23
import Derived.Test.YtpknchjjfiiaeaaGreatDoorV25
import Derived.Test.YtpknchjjfiiaeaaGreatDoorV37
import Derived.Test.YtpknchjjfiiaeaaGreatDoorV11
import Derived.Test.YtpknchjjfiiaeaaGreatDoorV14
namespace Go.Proofs.YtpknchjjfiiaeaaGreatDoor
open Go.RowKit
theorem un_wl (L : List Nat) (hL : ∀ x ∈ L, J.M.isL x) (hn : L.length ≤ 4000) : unZ (L.length : Int) (wl L) = strN L := by
  unfold unZ
  rw [if_pos (okP_wl L hL hn), Int.toNat_natCast]
  congr 1
  apply List.ext_getElem
  · simp [unL]
  · intro i h1 h2
    simp only [unL, List.getElem_map, List.getElem_range]
    rw [lev_wl L hL i (by have := wl_len L; omega), dif_pos h2]
    have := hL L[i] (List.getElem_mem _)
    unfold J.M.isL at this
    omega
theorem isL_256 {L : List Nat} (hL : ∀ x ∈ L, J.M.isL x) : ∀ x ∈ L, x < 256 := fun x hx => by have := hL x hx; unfold J.M.isL at this; omega
theorem cp_wl (L : List Nat) (hL : ∀ x ∈ L, J.M.isL x) (hn : L.length ≤ 4000) : cpZ (L.length : Int) (wl L) = J.crcZ (strN L) := by
  have hz : (strN L).size = L.length := by simp [strN, ByteArray.size]
  by_cases h2 : L.length ≤ 2000
  · rw [cpZ_wl L hL h2]
    unfold J.crcZ
    have e : J.okT (strN L) 2000 = true := J.okT_strN L 2000 hL (by omega)
    rw [if_pos e]
    rw [show J.bl (strN L) = L.map (fun x => x - 48) from J.bl_strN L (isL_256 hL)]
  · have : J.okT (strN L) 2000 = false := J.okT_long (by rw [hz]; omega)
    unfold cpZ J.crcZ
    rw [if_neg (by omega), this]
    rfl
/-- what Pack answers, as words of letters -/
theorem pk_form (s : ByteArray) : ∃ L : List Nat, (∀ x ∈ L, J.M.isL x) ∧ L.length ≤ 4000 ∧ pkN s = L.length ∧ pkZ s = wl L := by
  cases h : okT s 4000
  · refine ⟨[], by simp, by simp, by simp [pkN, h], ?_⟩
    have : pkN s = 0 := by simp [pkN, h]
    unfold pkZ
    rw [this]
    rfl
  · have hs : strN (lt s) = s := J.strN_lt s
    have hz := okT_size4 h
    have hl : (lt s).length = s.size := lt_length s
    have hL : ∀ x ∈ lt s, J.M.isL x := by
      intro x hx
      obtain ⟨k, hk, rfl⟩ := List.getElem_of_mem hx
      rw [lt_at s k (by omega) hk]
      exact okT_at h k (by omega)
    have := pk_img (lt s) hL (by omega)
    rw [hs] at this
    exact ⟨lt s, hL, by omega, this.1, this.2⟩
/-- a packed row, ready to be read -/
theorem own_words {w : World} {B : Nat} {ao : Option Addr} {n cap : Nat} {L : List Nat} (h : ownsW w B (.slice ao n cap) (wl L)) (hn : n = (wl L).length) : isWords w ao n cap (wl L) := h.words hn (wl_small L) (h.cap hn)
theorem pack_call (s : ByteArray) (L : List Nat) (h1 : pkN s = L.length) (h2 : pkZ s = wl L) (W : World) :
    Calls Tryz.prog 6 #[.string s] W fun o w' => ∃ ao cap, o = .returned (pkV (L.length : Int) ao (wl L).length cap) ∧ isWords w' ao (wl L).length cap (wl L) ∧ Below W.heap.size W w' := by
  refine (implPack_any s W).mono ?_
  rintro o w' ⟨ao, cap, rfl, ho, hb⟩
  rw [h2, h1, ← wl_len] at ho
  refine ⟨ao, cap, ?_, own_words ho rfl, hb⟩
  rw [h1, ← wl_len]
theorem spack_call (s : ByteArray) (hs : s.size ≤ maxLen) (L : List Nat) (h1 : pkN s = L.length) (h2 : pkZ s = wl L) (W : World) :
    Calls Tryz.prog 8 #[.string s] W fun o w' => ∃ ao cap, o = .returned (pkV (L.length : Int) ao (wl L).length cap) ∧ isWords w' ao (wl L).length cap (wl L) ∧ Below W.heap.size W w' := by
  refine (specPack_any s W hs).mono ?_
  rintro o w' ⟨ao, cap, rfl, ho, hb⟩
  rw [h2, h1, ← wl_len] at ho
  refine ⟨ao, cap, ?_, own_words ho rfl, hb⟩
  rw [h1, ← wl_len]
theorem wl_le (L : List Nat) (hn : L.length ≤ 4000) : (wl L).length ≤ 1048576 := by rw [wl_len]; omega
theorem unpack_call (L : List Nat) (hL : ∀ x ∈ L, J.M.isL x) (hn : L.length ≤ 4000) (W : World) (ao : Option Addr) (cap : Nat) (h : isWords W ao (wl L).length cap (wl L)) :
    Calls Tryz.prog 5 #[pkV (L.length : Int) ao (wl L).length cap] W fun o w' => o = .returned (.string (strN L)) ∧ Below W.heap.size W w' := by
  have := unpack_any W (L.length : Int) ao _ cap (wl L) h (wl_le L hn)
  rw [un_wl L hL hn] at this
  exact this
theorem sunpack_call (L : List Nat) (hL : ∀ x ∈ L, J.M.isL x) (hn : L.length ≤ 4000) (W : World) (ao : Option Addr) (cap : Nat) (h : isWords W ao (wl L).length cap (wl L)) :
    Calls Tryz.prog 7 #[pkV (L.length : Int) ao (wl L).length cap] W fun o w' => o = .returned (.string (strN L)) ∧ Below W.heap.size W w' := by
  have := specUnpack_any W (L.length : Int) ao _ cap (wl L) h
  rw [un_wl L hL hn] at this
  exact this
theorem crcp_call (L : List Nat) (hL : ∀ x ∈ L, J.M.isL x) (hn : L.length ≤ 4000) (W : World) (ao : Option Addr) (cap : Nat) (h : isWords W ao (wl L).length cap (wl L)) :
    Calls Tryz.prog 9 #[pkV (L.length : Int) ao (wl L).length cap] W fun o w' => o = .returned (.int .i64 (J.crcZ (strN L))) ∧ Below W.heap.size W w' := by
  have := crcPacked_any W (L.length : Int) ao _ cap (wl L) h (wl_le L hn)
  rw [cp_wl L hL hn] at this
  exact this
theorem ds_same : ∀ (l : List Nat) (i : Nat) (out : List Nat) (r : Nat × Nat), M.dsGo l i out r = J.M.dsGo l i out r
  | [], i, out, r => by simp [M.dsGo, J.M.dsGo]
  | c :: l, i, out, r => by
    have h : ∀ x, M.hear r x = J.M.hear r x := fun x => rfl
    unfold M.dsGo J.M.dsGo
    simp only [ds_same l, h]
/-- the runs of a stuffed text, destuffed -/
theorem drZ_runs (P t : List Nat) (hP : ∀ x ∈ P, J.M.isL x) (ht : t = J.M.stuffL P) (hl : t.length ≤ 4000) (xs : List Nat) (h : rnAt t t.length xs) : drZ 0 (xs.map fun x : Nat => (x : Int)) = (strN P, -1) := by
  have h1 : M.rtGo 0 xs = t := by have := h.1; rwa [List.take_length] at this
  have hs : xs.sum = t.length := h.sum (Nat.le_refl _)
  have hd := dest_runs 0 (by decide) xs h.2 (by omega)
  rw [h1] at hd
  have hL : ∀ x ∈ t, J.M.isL x := by rw [ht]; exact J.M.stuff_all P hP
  have hde : destZ (strN t) = (strN P, -1) := by
    unfold destZ
    have e1 : okT (strN t) 4000 = true := okT_img t hL hl
    have e2 : M.dsGo (lt (strN t)) 0 [] (0, 0) = (P, -1) := by
      rw [lt_strN t (isL_256 hL), ht, ds_same]
      exact J.M.ds_stuff_all P hP
    rw [if_pos e1, e2]
  have hm : (xs.map fun x : Nat => (x : Int)).map Int.toNat = xs := by
    rw [List.map_map]
    conv => rhs; rw [← List.map_id xs]
    apply List.map_congr_left
    intro x _
    simp
  have hfit : ∀ (ys : List Nat) (room : Nat), (∀ x ∈ ys, 1 ≤ x) → ys.sum ≤ room → fitGo (ys.map fun x : Nat => (x : Int)) (room : Int) = true := by
    intro ys
    induction ys with
    | nil => intro room _ _; simp [fitGo]
    | cons y ys ih =>
      intro room h1 h2
      rw [List.sum_cons] at h2
      rw [List.map_cons, fit_cons]
      have := h1 y (by simp)
      refine ⟨by omega, by omega, ?_⟩
      have := ih (room - y) (fun x hx => h1 x (by simp [hx])) (by omega)
      rw [show (room : Int) - (y : Int) = ((room - y : Nat) : Int) by omega]
      exact this
  unfold drZ
  rw [if_pos ⟨.inl rfl, hfit xs 4000 h.2 (by omega)⟩, hm]
  rw [hde] at hd
  exact hd.symm
theorem st_head : ∀ (l o : List Nat), o ≠ [] → (l.foldl J.M.stStep o)[0]? = o[0]?
  | [], o, _ => rfl
  | c :: l, o, h => by
    have hx : J.M.stStep o c ≠ [] ∧ (J.M.stStep o c)[0]? = o[0]? := by
      obtain ⟨x, o', rfl⟩ := List.exists_cons_of_ne_nil h
      unfold J.M.stStep
      split <;> simp
    rw [List.foldl_cons, st_head l _ hx.1, hx.2]
theorem stuff_head (x : Nat) (l : List Nat) (hx : x = 48) : (J.M.stuffL (x :: l))[0]? = some x := by
  subst hx
  have e : J.M.stStep [] 48 = [48] := by decide
  unfold J.M.stuffL
  rw [List.foldl_cons, e, st_head l [48] (by simp)]
  rfl
theorem plain_head (e : Bool) (i : Nat) (r : Bool) (d : Nat) (l : List Nat) : ∃ t, J.plainL e i r d l = 48 :: t := by
  unfold J.plainL J.bodyL
  cases e <;> simp
theorem img_48 (e : Bool) (i : Nat) (r : Bool) (d : Nat) (l : List Nat) (h : 0 < (J.M.stuffL (J.plainL e i r d l)).length) : (J.M.stuffL (J.plainL e i r d l))[0] = 48 := by
  obtain ⟨t, ht⟩ := plain_head e i r d l
  have := stuff_head 48 t rfl
  rw [← ht, List.getElem?_eq_getElem h] at this
  exact Option.some.inj this
theorem img_take (e : Bool) (i : Nat) (r : Bool) (d : Nat) (l : List Nat) : (strN (imgL e i r d l)).extract 0 ((imgL e i r d l).length - 10) = strN (J.M.stuffL (J.plainL e i r d l)) := by
  have := J.strN_take (imgL e i r d l) ((imgL e i r d l).length - 10)
  refine this.trans ?_
  congr 1
  unfold imgL
  rw [List.length_append, List.length_replicate, Nat.add_sub_cancel]
  exact List.take_left' rfl
/-- the runs of an image, and what DestuffRuns says of them -/
theorem runs_call (e : Bool) (i : Nat) (r : Bool) (d : Nat) (l : List Nat) (hl : (imgL e i r d l).length ≤ 300) (W : World) :
    Calls Tryz.prog 20 #[.string ((strN (imgL e i r d l)).extract 0 ((imgL e i r d l).length - 10))] W fun o w' => ∃ ao n cp xs, o = .returned (.slice ao n cp) ∧ isInts w' ao n cp xs ∧ n ≤ 1048576 ∧ drZ 0 xs = (strN (J.plainL e i r d l), -1) ∧ Below W.heap.size W w' := by
  rw [img_take]
  have hP := J.plainL_isL e i r d l
  have hL := J.M.stuff_all _ hP
  have hll : (J.M.stuffL (J.plainL e i r d l)).length ≤ 300 := by
    unfold imgL at hl
    rw [List.length_append] at hl
    omega
  refine (wRuns_any W (J.M.stuffL (J.plainL e i r d l)) hL (img_48 e i r d l) (by omega)).mono ?_
  rintro o w' ⟨ao, cp, xs, rfl, st⟩
  have hlen := st.rn.len (Nat.le_refl _)
  refine ⟨ao, _, cp, xs.map fun x : Nat => (x : Int), rfl, st.own.ints rfl st.cap ?_, by omega, drZ_runs _ _ hP rfl (by omega) xs st.rn, st.bel⟩
  intro x hx
  have := mem_sum xs x hx
  rw [st.rn.sum (Nat.le_refl _)] at this
  omega
theorem crcBody (e : Bool) (i : Nat) (r : Bool) (d : Nat) (l : List Nat) (hl : l.length ≤ 8) : J.crcZ (strN (J.bodyL e i r d l)) = ((J.M.crcN ((J.bodyL e i r d l).map (fun x => x - 48)) : Nat) : Int) := by
  have hb := J.bodyL_length e i r d l
  have hB := J.bodyL_isL e i r d l
  have e1 : J.okT (strN (J.bodyL e i r d l)) 2000 = true := J.okT_strN _ 2000 hB (by rw [hb]; cases e <;> simp <;> omega)
  unfold J.crcZ
  rw [if_pos e1]
  rw [show J.bl (strN (J.bodyL e i r d l)) = (J.bodyL e i r d l).map (fun x => x - 48) from J.bl_strN _ (isL_256 hB)]
theorem pkBody (e : Bool) (i : Nat) (r : Bool) (d : Nat) (l : List Nat) (hl : l.length ≤ 8) : (∀ x ∈ J.bodyL e i r d l, J.M.isL x) ∧ (J.bodyL e i r d l).length ≤ 4000 ∧ pkN (strN (J.bodyL e i r d l)) = (J.bodyL e i r d l).length ∧ pkZ (strN (J.bodyL e i r d l)) = wl (J.bodyL e i r d l) := by
  have hb := J.bodyL_length e i r d l
  have hB := J.bodyL_isL e i r d l
  have hn : (J.bodyL e i r d l).length ≤ 4000 := by rw [hb]; cases e <;> simp <;> omega
  exact ⟨hB, hn, (pk_img _ hB hn).1, (pk_img _ hB hn).2⟩
end Go.Proofs.YtpknchjjfiiaeaaGreatDoor
