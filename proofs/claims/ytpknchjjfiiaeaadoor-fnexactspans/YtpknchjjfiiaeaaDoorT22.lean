import Derived.Test.YtpknchjjfiiaeaaDoorT21
import Derived.Deep.AppendLies
import Derived.Deep.RegionLaw
import Derived.Test.YtpknchjjfiiaeaaDoorT08
namespace Go.Proofs.YtpknchjjfiiaeaaDoor.J
open Go.RowKit
theorem isBytes.block {w w' : World} {g off n cap : Nat} {l : List Nat} (h : isBytes w (some ⟨g, off, none⟩) n cap l) (hb : w'.heap[g]? = w.heap[g]?) : isBytes w' (some ⟨g, off, none⟩) n cap l := by
  refine ⟨h.len, h.cap, h.small, fun hl => ?_⟩
  obtain ⟨g', off', e, hc⟩ := h.cells hl
  cases e
  refine ⟨g, off, rfl, fun j hj => ?_⟩
  have := hc j hj
  simp only [World.cell?] at this ⊢
  rw [hb]
  exact this
/-- the model's Decode at work: the frame so far in block F, the plain letters in block g, the result's block R -/
structure sdI (w0 : World) (B R F g off cap : Nat) (p : List Nat) (e : Bool) (i : Nat) (r : Bool) (d : Nat) (v : Value) (l : List Nat) (W : World) : Prop where
  fr : W.heap[F]? = some (.cells #[.bool e, .int .u32 (i : Int), .bool r, .int .i64 (d : Int), v] 31 (0, 0))
  own : ownsB W B v l
  row : isBytes W (some ⟨g, off, none⟩) p.length cap p
  res : W.heap[R]? = some (.cells #[.bool false, .int .u32 0, .bool false, .int .i64 0, .slice none 0 0] 31 (0, 0))
  bel : Below B w0 W
  ne : v.ownBlock ≠ some g ∧ v.ownBlock ≠ some F ∧ v.ownBlock ≠ some R
  dis : g ≠ F ∧ F ≠ R ∧ g ≠ R ∧ B ≤ F ∧ B ≤ R ∧ B ≤ W.heap.size ∧ g < W.heap.size
theorem sdI.cells {w0 : World} {B R F g off cap : Nat} {p : List Nat} {e : Bool} {i : Nat} {r : Bool} {d : Nat} {v : Value} {l : List Nat} {W : World} (h : sdI w0 B R F g off cap p e i r d v l W) :
    W.cell? ⟨F, 0, none⟩ = some (.bool e) ∧ W.cell? ⟨F, 1, none⟩ = some (.int .u32 (i : Int)) ∧ W.cell? ⟨F, 2, none⟩ = some (.bool r) ∧ W.cell? ⟨F, 3, none⟩ = some (.int .i64 (d : Int)) ∧ W.cell? ⟨F, 4, none⟩ = some v ∧
    W.frozen? ⟨F, 0, none⟩ = false ∧ W.frozen? ⟨F, 1, none⟩ = false ∧ W.frozen? ⟨F, 2, none⟩ = false ∧ W.frozen? ⟨F, 3, none⟩ = false ∧ W.frozen? ⟨F, 4, none⟩ = false := by
  have hr := h.fr
  refine ⟨?_, ?_, ?_, ?_, ?_, ?_, ?_, ?_, ?_, ?_⟩ <;> simp [World.cell?, World.frozen?, hr]
theorem sd_own {W : World} {B F : Nat} {v : Value} {l : List Nat} (j : Nat) (x : Value) (h : ownsB W B v l) (hne : v.ownBlock ≠ some F) : ownsB (W.setCell ⟨F, j, none⟩ x) B v l := by
  refine h.otherBlock (fun i hi => heap_setCell_other W ⟨F, j, none⟩ i x (fun e => ?_))
  have e' : i = F := e
  exact hne (e' ▸ hi)
theorem sdI.set {w0 : World} {B R F g off cap : Nat} {p : List Nat} {e : Bool} {i : Nat} {r : Bool} {d : Nat} {v : Value} {l : List Nat} {W : World} (h : sdI w0 B R F g off cap p e i r d v l W) (i' : Nat) :
    sdI w0 B R F g off cap p e i' r d v l (W.setCell ⟨F, 1, none⟩ (.int .u32 (i' : Int))) := by
  obtain ⟨d1, d2, d3, d4, d5, d6, d7⟩ := h.dis
  refine ⟨?_, sd_own _ _ h.own h.ne.2.1, h.row.block (heap_setCell_other W ⟨F, 1, none⟩ g _ (fun e => d1 e)), (heap_setCell_other W ⟨F, 1, none⟩ R _ (fun e => d2 e.symm)).trans h.res, h.bel.setCell (by exact d4) _, h.ne, d1, d2, d3, d4, d5, by simpa using d6, by simpa using d7⟩
  rw [heap_setCell_same W F 1 _ _ _ h.fr]; simp
theorem sdI.app {w0 : World} {B R F g off cap : Nat} {p : List Nat} {e : Bool} {i : Nat} {r : Bool} {d : Nat} {v v' : Value} {l l' : List Nat} {W W' : World} (h : sdI w0 B R F g off cap p e i r d v l W)
    (ho : ownsB W' B v' l') (hb : Below B w0 W') (hk : ∀ g, g < W.heap.size → v.ownBlock ≠ some g → W'.heap[g]? = W.heap[g]? ∧ v'.ownBlock ≠ some g) (hz : W.heap.size ≤ W'.heap.size) :
    sdI w0 B R F g off cap p e i r d v' l' (W'.setCell ⟨F, 4, none⟩ v') := by
  obtain ⟨d1, d2, d3, d4, d5, d6, d7⟩ := h.dis
  have kF := hk F (lt_of_block h.fr) h.ne.2.1
  have kR := hk R (lt_of_block h.res) h.ne.2.2
  have kg := hk g d7 h.ne.1
  refine ⟨?_, sd_own _ _ ho kF.2, (h.row.block kg.1).block (heap_setCell_other W' ⟨F, 4, none⟩ g _ (fun e => d1 e)), (heap_setCell_other W' ⟨F, 4, none⟩ R _ (fun e => d2 e.symm)).trans (kR.1.trans h.res), hb.setCell (by exact d4) _, ⟨kg.2, kF.2, kR.2⟩, d1, d2, d3, d4, d5, by simpa using (by omega : B ≤ W'.heap.size), by simpa using (by omega : g < W'.heap.size)⟩
  rw [heap_setCell_same W' F 4 _ _ _ (kF.1.trans h.fr)]; simp
theorem sdI.drew {w0 : World} {B R F g off cap : Nat} {p : List Nat} {e : Bool} {i : Nat} {r : Bool} {d : Nat} {v : Value} {l : List Nat} {W : World} (h : sdI w0 B R F g off cap p e i r d v l W) : sdI w0 B R F g off cap p e i r d v l W.drew :=
  ⟨h.fr, World.ownsRow.drew h.own, h.row.below (Below.refl _ _).drew, h.res, h.bel.drew, h.ne, h.dis⟩
theorem valL_num (n : Nat) : ∀ v, valL (M.num v n) = v % 2 ^ n := by
  induction n with
  | zero => intro v; show 0 = v % 1; omega
  | succ n ih =>
    intro v
    show valL (M.num (v / 2) n ++ [48 + v % 2]) = _
    rw [valL_snoc, ih]
    unfold valStep
    rw [Nat.pow_succ, Nat.mul_comm (2 ^ n) 2, Nat.mod_mul]
    have : v % 2 = 0 ∨ v % 2 = 1 := by omega
    rcases this with h | h <;> rw [h] <;> simp <;> omega
theorem stuff_pre (a b : List Nat) : ∃ t, M.stuffL (a ++ b) = M.stuffL a ++ t := by
  induction b using M.snoc_ind with
  | h0 => exact ⟨[], by simp⟩
  | h1 b c ih =>
    obtain ⟨t, ht⟩ := ih
    rw [← List.append_assoc, M.stuffL_snoc, ht]
    unfold M.stStep
    split
    · exact ⟨t ++ [c] ++ [97 - c], by simp⟩
    · exact ⟨t ++ [c], by simp⟩
/-- the walk over a stretch that is stuffed: what it asks of the plain letters -/
structure Lay (x : List Nat) : Prop where
  isl : ∀ y ∈ x, M.isL y
  look : ∀ m, m < x.length → lookL (x.take m) (x.getD m 0) = 0
  fld : ∀ m, m ≤ x.length → fieldL (x.take m) ≤ 11
theorem take_get (x : List Nat) (m : Nat) (h : m < x.length) : x.take (m + 1) = x.take m ++ [x.getD m 0] := take_snocN x m h
theorem getD_of_take {L S : List Nat} {j : Nat} (h : L.take j = S) (i : Nat) (hi : i < S.length) : L.getD i 0 = S.getD i 0 := by
  subst h
  have : i < L.length ∧ i < j := by rw [List.length_take] at hi; omega
  rw [List.getD_eq_getElem?_getD, List.getD_eq_getElem?_getD, List.getElem?_take_of_lt this.2]
theorem walk_stuff (x L : List Nat) (hx : Lay x) (hL : ∀ y ∈ L, M.isL y) (hS : L.take (M.stuffL x).length = M.stuffL x) : ∀ m, m ≤ x.length →
    (∀ i, i ≤ (M.stuffL (x.take m)).length → (sw L i).1 = 0) ∧ sw L (M.stuffL (x.take m)).length = (0, x.take m, false)
  | 0, _ => by
    refine ⟨fun i hi => ?_, rfl⟩
    have : i = 0 := by simpa [M.stuffL] using hi
    subst this; rfl
  | m + 1, hm => by
    obtain ⟨h1, h2⟩ := walk_stuff x L hx hL hS m (by omega)
    have hlt : m < x.length := by omega
    have hc : M.isL (x.getD m 0) := over_isL hx.isl m hlt
    have htk := take_get x m hlt
    have hsn : M.stuffL (x.take (m + 1)) = M.stStep (M.stuffL (x.take m)) (x.getD m 0) := by rw [htk, M.stuffL_snoc]
    have hfl := hx.fld (m + 1) hm
    have hlk := hx.look m hlt
    have hrun := M.stuff_run (x.take m) (fun y hy => hx.isl y (List.mem_of_mem_take hy))
    have hpre : ∃ t, M.stuffL x = M.stStep (M.stuffL (x.take m)) (x.getD m 0) ++ t := by
      have := stuff_pre (x.take (m + 1)) (x.drop (m + 1))
      rw [List.take_append_drop, hsn] at this
      exact this
    obtain ⟨t, ht⟩ := hpre
    rw [hsn]
    rw [htk] at hfl ⊢
    generalize x.take m = q at *
    generalize x.getD m 0 = c at *
    generalize M.stuffL q = out at *
    have hlen : (M.stuffL x).length ≤ L.length := by rw [← hS, List.length_take]; omega
    have hget := fun i hi => getD_of_take hS i hi
    rw [ht] at hlen hget
    -- the plain letter
    have hLi : L.getD out.length 0 = c := by
      rw [hget out.length (by unfold M.stStep; split <;> simp <;> omega)]
      unfold M.stStep
      split <;> simp
    have hil : out.length < L.length := by
      have : (M.stStep out c ++ t).length ≥ out.length + 1 := by unfold M.stStep; split <;> simp <;> omega
      omega
    have hout : L.take out.length = out := by
      have h3 : (L.take (M.stuffL x).length).take out.length = (M.stuffL x).take out.length := by rw [hS]
      rw [List.take_take, ht] at h3
      have e1 : (M.stStep out c ++ t).take out.length = out := by
        unfold M.stStep; split <;> simp [List.append_assoc]
      have e2 : out.length ≤ (M.stStep out c ++ t).length := by unfold M.stStep; split <;> simp <;> omega
      rw [e1, Nat.min_eq_left e2] at h3
      exact h3
    have htake : L.take (out.length + 1) = out ++ [c] := by rw [take_snocN L out.length hil, hout, hLi]
    have hs1 : sw L (out.length + 1) = (0, q ++ [c], decide ((M.trail (out ++ [c])).2 = 5)) := by
      show swStep L out.length (sw L out.length) = _
      rw [h2]
      unfold swStep
      simp only [Bool.false_eq_true, if_false, hLi, hlk]
      have hd := due_trailN L hL (out.length + 1) hil
      rw [htake] at hd
      have hle := M.hear_le (M.trail out) c
      rw [← M.trail_snoc] at hle
      congr 2
      rw [Bool.eq_iff_iff]
      simp only [Bool.and_eq_true, Bool.or_eq_true, decide_eq_true_eq]
      rw [hd]
      constructor
      · rintro ⟨a, b⟩; omega
      · intro a; exact ⟨by omega, by omega⟩
    by_cases h5 : (M.trail (out ++ [c])).2 = 5
    · have est : M.stStep out c = out ++ [c] ++ [97 - c] := by unfold M.stStep; rw [if_pos h5]
      rw [est] at ht hlen hget ⊢
      have hil2 : out.length + 1 < L.length := by simp at hlen; omega
      have hLi2 : L.getD (out.length + 1) 0 = 97 - c := by
        rw [hget (out.length + 1) (by simp)]
        simp [List.getD_eq_getElem?_getD]
      have htake2 : L.take (out.length + 2) = out ++ [c] ++ [97 - c] := by rw [take_snocN L (out.length + 1) hil2, htake, hLi2]
      have hs2 : sw L (out.length + 2) = (0, q ++ [c], false) := by
        show swStep L (out.length + 1) (sw L (out.length + 1)) = _
        rw [hs1]
        unfold swStep
        simp only [h5, decide_true, if_true, hLi2, Nat.add_sub_cancel, hLi]
        rw [if_neg (M.isL_opp hc).2]
        have hd := due_trailN L hL (out.length + 1 + 1) hil2
        rw [htake2, M.trail_snoc] at hd
        have hf1 : (M.trail (out ++ [c])).1 = c := by rw [M.trail_snoc, M.hear_fst]
        have hh : (M.hear (M.trail (out ++ [c])) (97 - c)).2 = 1 := by
          unfold M.hear
          rw [hf1, if_neg (M.isL_opp hc).2]
        rw [hh] at hd
        have : dueF (fun t => L.getD t 0) (out.length + 1 + 1) = false := by
          cases hq : dueF (fun t => L.getD t 0) (out.length + 1 + 1)
          · rfl
          · have := hd.1 hq; omega
        rw [this]
        rfl
      have hl2 : (out ++ [c] ++ [97 - c]).length = out.length + 2 := by simp
      rw [hl2]
      refine ⟨fun i hi => ?_, hs2⟩
      by_cases a : i ≤ out.length
      · exact h1 i a
      · rcases (show i = out.length + 1 ∨ i = out.length + 2 by omega) with rfl | rfl
        · rw [hs1]
        · rw [hs2]
    · have est : M.stStep out c = out ++ [c] := by unfold M.stStep; rw [if_neg h5]
      rw [est]
      have hl2 : (out ++ [c]).length = out.length + 1 := by simp
      rw [hl2]
      have hs2 : sw L (out.length + 1) = (0, q ++ [c], false) := by rw [hs1, decide_eq_false h5]
      refine ⟨fun i hi => ?_, hs2⟩
      by_cases a : i ≤ out.length
      · exact h1 i a
      · have : i = out.length + 1 := by omega
        subst this; rw [hs2]
theorem lay_pre (q t : List Nat) (h : layH q ≤ q.length) : layH (q ++ t) = layH q ∧ layN (q ++ t) = layN q ∧ endL (q ++ t) = endL q := by
  induction t using M.snoc_ind with
  | h0 => simp
  | h1 t c ih =>
    have hH := layH_or q
    obtain ⟨a, b, c'⟩ := ih
    have hl : layH (q ++ t) ≤ (q ++ t).length := by rw [a, List.length_append]; omega
    rw [← List.append_assoc, layH_snoc _ _ (by rw [List.length_append]; omega), layN_snoc _ _ hl, endL_snoc _ _ hl]
    exact ⟨a, b, c'⟩
theorem body0 (i : Nat) (r : Bool) (d : Nat) (l t : List Nat) : (bodyL false i r d l ++ t).getD 13 0 = 48 ∧ (bodyL false i r d l ++ t).getD 12 0 = 48 + r.toNat ∧ ((bodyL false i r d l ++ t).drop 15).take 4 = M.num d 4 ∧ ((bodyL false i r d l ++ t).drop 1).take 11 = M.num i 11 ∧ (bodyL false i r d l ++ t).drop 19 = l.flatMap (fun x => M.num x 8) ++ t := by
  have n11 := M.num_length 11 i
  have n4 := M.num_length 4 d
  have e : bodyL false i r d l ++ t = [48] ++ (M.num i 11 ++ ([48 + r.toNat, 48, 48] ++ (M.num d 4 ++ (l.flatMap (fun x => M.num x 8) ++ t)))) := by
    unfold bodyL arbL
    rw [if_neg (by decide)]
    show _ ++ M.num 0 1 ++ _ ++ _ ++ _ = _
    rw [num01]
    simp
  rw [e]
  refine ⟨?_, ?_, ?_, ?_, ?_⟩
  · simp [List.getD_eq_getElem?_getD, List.getElem?_append, n11]
  · simp [List.getD_eq_getElem?_getD, n11]
  · simp [List.drop_append, n11, List.drop_eq_nil_of_le, n4]
  · simp [n11]
  · simp [List.drop_append, n11, List.drop_eq_nil_of_le, n4]
theorem body1 (i : Nat) (r : Bool) (d : Nat) (l t : List Nat) : (bodyL true i r d l ++ t).getD 13 0 = 49 ∧ (bodyL true i r d l ++ t).getD 32 0 = 48 + r.toNat ∧ ((bodyL true i r d l ++ t).drop 35).take 4 = M.num d 4 ∧ ((bodyL true i r d l ++ t).drop 1).take 11 = M.num (i / 2 ^ 18) 11 ∧ ((bodyL true i r d l ++ t).drop 14).take 18 = M.num i 18 ∧ (bodyL true i r d l ++ t).drop 39 = l.flatMap (fun x => M.num x 8) ++ t := by
  have n11 := M.num_length 11 (i / 2 ^ 18)
  have n18 := M.num_length 18 i
  have n4 := M.num_length 4 d
  have e : bodyL true i r d l ++ t = [48] ++ (M.num (i / 2 ^ 18) 11 ++ ([49, 49] ++ (M.num i 18 ++ ([48 + r.toNat, 48, 48] ++ (M.num d 4 ++ (l.flatMap (fun x => M.num x 8) ++ t)))))) := by
    unfold bodyL arbL
    rw [if_pos rfl]
    show _ ++ M.num 0 2 ++ _ ++ _ ++ _ = _
    rw [num02]
    simp
  rw [e]
  generalize M.num (i / 2 ^ 18) 11 = A at *
  generalize M.num i 18 = B at *
  refine ⟨?_, ?_, ?_, ?_, ?_, ?_⟩
  · simp [List.getD_eq_getElem?_getD, List.getElem?_append, n11]
  · simp [List.getD_eq_getElem?_getD, List.getElem?_append, n11, n18]
  · simp [List.drop_append, n11, n18, List.drop_eq_nil_of_le, n4]
  · simp [n11]
  · simp [List.drop_append, n11, n18, List.drop_eq_nil_of_le]
  · simp [List.drop_append, n11, n18, List.drop_eq_nil_of_le, n4]
set_option linter.unusedVariables false
def bodyH (e : Bool) : Nat := if e = true then 39 else 19
/-- a frame whose data are as long as its code says -/
structure fits (r : Bool) (d : Nat) (l : List Nat) : Prop where
  d15 : d ≤ 15
  len : l.length = if r = true then 0 else min d 8
  small : ∀ x ∈ l, x < 256
theorem body_lay (e : Bool) (i : Nat) (r : Bool) (d : Nat) (l t : List Nat) (h : fits r d l) :
    layH (bodyL e i r d l ++ t) = bodyH e ∧ layN (bodyL e i r d l ++ t) = l.length ∧ endL (bodyL e i r d l ++ t) = (bodyL e i r d l).length ∧ bodyH e ≤ (bodyL e i r d l).length := by
  have hl := bodyL_length e i r d l
  have hd : valL (M.num d 4) = d := by rw [valL_num]; have := h.d15; omega
  have hlen := h.len
  cases e with
  | false =>
    obtain ⟨a13, a12, a15, -, -⟩ := body0 i r d l t
    have h1 : layH (bodyL false i r d l ++ t) = 19 := by unfold layH; rw [a13]; rfl
    have h2 : layN (bodyL false i r d l ++ t) = l.length := by
      have hR : layR (bodyL false i r d l ++ t) = r := by
        unfold layR
        rw [if_neg (by rw [a13]; decide), a12]
        cases r <;> rfl
      unfold layN
      rw [hR, h1, a15, hd, hlen]
    refine ⟨h1, h2, ?_, ?_⟩
    · unfold endL; rw [h1, h2, hl]; rfl
    · rw [hl]; exact Nat.le_add_right _ _
  | true =>
    obtain ⟨a13, a32, a35, -, -, -⟩ := body1 i r d l t
    have h1 : layH (bodyL true i r d l ++ t) = 39 := by unfold layH; rw [a13]; rfl
    have h2 : layN (bodyL true i r d l ++ t) = l.length := by
      have hR : layR (bodyL true i r d l ++ t) = r := by
        unfold layR
        rw [if_pos a13, a32]
        cases r <;> rfl
      unfold layN
      rw [hR, h1, a35, hd, hlen]
    refine ⟨h1, h2, ?_, ?_⟩
    · unfold endL; rw [h1, h2, hl]; rfl
    · rw [hl]; exact Nat.le_add_right _ _
theorem fN_lt (n H E : Nat) (h : H = 19 ∨ H = 39) (hn : n < H) : fieldN n H E ≤ 8 ∧ (fieldN n H E = 1 → n = 0) := by unfold fieldN; grind (splits := 16)
theorem fN_mid (n H E : Nat) (h : H = 19 ∨ H = 39) (hE : H ≤ E) (hn : H ≤ n) (h2 : n < E + 15) : fieldN n H E ≤ 10 ∧ 9 ≤ fieldN n H E := by unfold fieldN; grind (splits := 16)
theorem fN_end (n H E : Nat) (h : H = 19 ∨ H = 39) (hE : H ≤ E) (hn : n = E + 15) : fieldN n H E = 11 := by unfold fieldN; grind (splits := 16)
theorem look0 {q : List Nat} {c : Nat} (h : fieldL q ≤ 10) (h1 : fieldL q = 1 → c = 48) : lookL q c = 0 := by
  unfold lookL
  by_cases f1 : fieldL q = 1
  · rw [if_pos f1, h1 f1]; rfl
  · rw [if_neg f1, if_neg (by omega), if_neg (by omega), if_neg (by omega)]
theorem lay_plain (e : Bool) (i : Nat) (r : Bool) (d : Nat) (l c : List Nat) (h : fits r d l) (hc : c.length = 15) (hcl : ∀ x ∈ c, M.isL x) : Lay (bodyL e i r d l ++ c) := by
  obtain ⟨b1, b2, b3, b4⟩ := body_lay e i r d l c h
  have hx0 : (bodyL e i r d l ++ c).getD 0 0 = 48 := by unfold bodyL; simp
  have hlen : (bodyL e i r d l ++ c).length = (bodyL e i r d l).length + 15 := by rw [List.length_append, hc]
  have key : ∀ m, m ≤ (bodyL e i r d l ++ c).length → m < layH ((bodyL e i r d l ++ c).take m) ∨ (layH ((bodyL e i r d l ++ c).take m) ≤ m ∧ endL ((bodyL e i r d l ++ c).take m) = (bodyL e i r d l).length) := by
    intro m hm
    by_cases a : m < layH ((bodyL e i r d l ++ c).take m)
    · exact .inl a
    · right
      have hlt : ((bodyL e i r d l ++ c).take m).length = m := by rw [List.length_take]; omega
      have := (lay_pre ((bodyL e i r d l ++ c).take m) ((bodyL e i r d l ++ c).drop m) (by omega)).2.2
      rw [List.take_append_drop, b3] at this
      exact ⟨by omega, this.symm⟩
  refine ⟨?_, ?_, ?_⟩
  · intro y hy
    rw [List.mem_append] at hy
    rcases hy with hy | hy
    · exact bodyL_isL e i r d l y hy
    · exact hcl y hy
  · intro m hm
    have hlt : ((bodyL e i r d l ++ c).take m).length = m := by rw [List.length_take]; omega
    have hH := layH_or ((bodyL e i r d l ++ c).take m)
    have hE := layH_le ((bodyL e i r d l ++ c).take m)
    have hf := fieldL_eq ((bodyL e i r d l ++ c).take m)
    rw [hlt] at hf
    rcases key m (by omega) with a | ⟨a1, a2⟩
    · have := fN_lt m _ (endL ((bodyL e i r d l ++ c).take m)) hH a
      refine look0 (by omega) (fun f1 => ?_)
      have : m = 0 := this.2 (by omega)
      subst this
      exact hx0
    · have := fN_mid m _ _ hH hE a1 (by omega)
      exact look0 (by omega) (fun f1 => by omega)
  · intro m hm
    have hlt : ((bodyL e i r d l ++ c).take m).length = m := by rw [List.length_take]; omega
    have hH := layH_or ((bodyL e i r d l ++ c).take m)
    have hE := layH_le ((bodyL e i r d l ++ c).take m)
    have hf := fieldL_eq ((bodyL e i r d l ++ c).take m)
    rw [hlt] at hf
    rcases key m hm with a | ⟨a1, a2⟩
    · have := fN_lt m _ (endL ((bodyL e i r d l ++ c).take m)) hH a
      omega
    · by_cases a3 : m < endL ((bodyL e i r d l ++ c).take m) + 15
      · have := fN_mid m _ _ hH hE a1 a3
        omega
      · have := fN_end m _ _ hH hE (by omega)
        omega
/-- the letters behind the stuffed part -/
def tailT (a : Nat) : List Nat := [49, a, 49, 49, 49, 49, 49, 49, 49, 49]
theorem fN_tail (k H E : Nat) (h : H = 19 ∨ H = 39) (hE : H ≤ E) (hk : k < 10) : fieldN (E + 15 + k) H E = if k = 0 then 11 else if k = 1 then 12 else if k = 2 then 13 else 14 := by unfold fieldN; grind (splits := 20)
theorem fN_tail10 (H E : Nat) (h : H = 19 ∨ H = 39) (hE : H ≤ E) : fieldN (E + 15 + 10) H E = 15 := by unfold fieldN; grind (splits := 20)
/-- the judge's look at one letter of the tail -/
theorem look_tail (p : List Nat) (E k c : Nat) (hH : layH p ≤ p.length) (hE : endL p = E) (hp : p.length = E + 15 + k) (hk : k < 10) (hc : k ≠ 1 → c = 49) (hok : k = 2 → crcOkL p = true) : lookL p c = if k = 9 then 2 else if k = 8 then 1 else 0 := by
  have hf := fieldL_eq p
  rw [hp, hE, fN_tail k _ _ (layH_or p) (hE ▸ layH_le p) hk] at hf
  have h2 := layL2 hH
  unfold lookL
  rw [hf, h2, hE, hp]
  rcases (show k = 0 ∨ k = 1 ∨ k = 2 ∨ (3 ≤ k ∧ k < 8) ∨ k = 8 ∨ k = 9 by omega) with rfl | rfl | rfl | h | rfl | rfl
  · rw [hc (by decide)]; rfl
  · rfl
  · rw [hc (by decide), hok rfl]; rfl
  · rw [hc (by omega)]
    have : ¬ k = 0 ∧ ¬ k = 1 ∧ ¬ k = 2 ∧ ¬ k = 9 ∧ ¬ k = 8 := by omega
    simp [this]
    rw [if_pos (by omega), if_neg (by omega)]
  · rw [hc (by decide)]; simp
  · rw [hc (by decide)]; simp
theorem plainL_len (e : Bool) (i : Nat) (r : Bool) (d : Nat) (l : List Nat) : (plainL e i r d l).length = (bodyL e i r d l).length + 15 := by
  unfold plainL; rw [List.length_append, M.num_length]
theorem lay_plainL (e : Bool) (i : Nat) (r : Bool) (d : Nat) (l : List Nat) (h : fits r d l) : Lay (plainL e i r d l) :=
  lay_plain e i r d l _ h (M.num_length _ _) (M.num_isL _ _)
theorem tailT_len (a : Nat) : (tailT a).length = 10 := rfl
theorem tailT_at (a k : Nat) (hk : k < 10) (h : k ≠ 1) : (tailT a).getD k 0 = 49 := by
  rcases (show k = 0 ∨ k = 2 ∨ k = 3 ∨ k = 4 ∨ k = 5 ∨ k = 6 ∨ k = 7 ∨ k = 8 ∨ k = 9 by omega) with rfl | rfl | rfl | rfl | rfl | rfl | rfl | rfl | rfl <;> rfl
theorem tailT_isL (a : Nat) (ha : M.isL a) : ∀ y ∈ tailT a, M.isL y := by
  intro y hy
  unfold tailT at hy
  simp only [List.mem_cons, List.not_mem_nil, or_false] at hy
  rcases hy with h | h | h | h | h | h | h | h | h | h <;> first | (rw [h]; exact .inr rfl) | (rw [h]; exact ha)
theorem plain_lay (e : Bool) (i : Nat) (r : Bool) (d : Nat) (l t : List Nat) (h : fits r d l) :
    layH (plainL e i r d l ++ t) ≤ (plainL e i r d l ++ t).length ∧ endL (plainL e i r d l ++ t) = (bodyL e i r d l).length := by
  obtain ⟨b1, b2, b3, b4⟩ := body_lay e i r d l (M.num (M.crcN ((bodyL e i r d l).map (fun x => x - 48))) 15 ++ t) h
  unfold plainL
  rw [List.append_assoc, b1, b3]
  exact ⟨by rw [List.length_append]; omega, rfl⟩
theorem plain_crc (e : Bool) (i : Nat) (r : Bool) (d : Nat) (l t : List Nat) (h : fits r d l) (ht : ∀ y ∈ t, M.isL y) : crcOkL (plainL e i r d l ++ t) = true := by
  obtain ⟨h1, h2⟩ := plain_lay e i r d l t h
  rw [crcOkL_M _ (fun y hy => by
    rw [List.mem_append] at hy
    rcases hy with hy | hy
    · exact plainL_isL e i r d l y hy
    · exact ht y hy)]
  unfold crcOkM
  rw [layL2 h1, h2]
  have hH := layH_or (plainL e i r d l ++ t)
  have hle := layH_le (plainL e i r d l ++ t)
  have hlen : (plainL e i r d l ++ t).length = (bodyL e i r d l).length + 15 + t.length := by rw [List.length_append, plainL_len]
  have e1 : (plainL e i r d l ++ t).take (bodyL e i r d l).length = bodyL e i r d l := by
    unfold plainL; rw [List.append_assoc, List.take_left' rfl]
  have e2 : ((plainL e i r d l ++ t).drop (bodyL e i r d l).length).take 15 = M.num (M.crcN ((bodyL e i r d l).map (fun x => x - 48))) 15 := by
    unfold plainL; rw [List.append_assoc, List.drop_left' rfl, List.take_left' (M.num_length _ _)]
  rw [e1, e2, valL_num, Nat.mod_eq_of_lt (M.crcN_lt _)]
  rw [Bool.and_eq_true]
  refine ⟨decide_eq_true ?_, decide_eq_true rfl⟩
  omega
theorem sw_next (L : List Nat) (j : Nat) (c0 : Nat) (p : List Nat) (h : sw L j = (c0, p, false)) (hf : 11 < fieldL (p ++ [L.getD j 0])) : sw L (j + 1) = (lookL p (L.getD j 0), p ++ [L.getD j 0], false) := by
  show swStep L j (sw L j) = _
  rw [h]
  unfold swStep
  simp only [Bool.false_eq_true, if_false]
  have : (decide (fieldL (p ++ [L.getD j 0]) ≤ 10) || decide (fieldL (p ++ [L.getD j 0]) = 11)) = false := by rw [Bool.or_eq_false_iff]; exact ⟨decide_eq_false (by omega), decide_eq_false (by omega)⟩
  rw [this, Bool.and_false]
theorem tail_walk (e : Bool) (i : Nat) (r : Bool) (d : Nat) (l : List Nat) (a : Nat) (h : fits r d l) (ha : M.isL a) : ∀ k, k ≤ 10 →
    sw (M.stuffL (plainL e i r d l) ++ tailT a) ((M.stuffL (plainL e i r d l)).length + k) = (if k = 10 then 2 else if k = 9 then 1 else 0, plainL e i r d l ++ (tailT a).take k, false)
  | 0, _ => by
    have hx := lay_plainL e i r d l h
    have hL : ∀ y ∈ M.stuffL (plainL e i r d l) ++ tailT a, M.isL y := by
      intro y hy
      rw [List.mem_append] at hy
      rcases hy with hy | hy
      · exact M.stuff_all _ hx.isl y hy
      · exact tailT_isL a ha y hy
    have := (walk_stuff (plainL e i r d l) _ hx hL (List.take_left' rfl) (plainL e i r d l).length (Nat.le_refl _)).2
    rw [List.take_length] at this
    simpa using this
  | k + 1, hk => by
    have ih := tail_walk e i r d l a h ha k (by omega)
    have hget : (M.stuffL (plainL e i r d l) ++ tailT a).getD ((M.stuffL (plainL e i r d l)).length + k) 0 = (tailT a).getD k 0 := by
      rw [List.getD_eq_getElem?_getD, List.getElem?_append_right (by omega), Nat.add_sub_cancel_left, List.getD_eq_getElem?_getD]
    have htk : (tailT a).take (k + 1) = (tailT a).take k ++ [(tailT a).getD k 0] := take_snocN _ k (by rw [tailT_len]; omega)
    have hl : (plainL e i r d l ++ (tailT a).take k).length = (bodyL e i r d l).length + 15 + k := by rw [List.length_append, plainL_len, List.length_take, tailT_len]; omega
    obtain ⟨p1, p2⟩ := plain_lay e i r d l ((tailT a).take k) h
    obtain ⟨q1, q2⟩ := plain_lay e i r d l ((tailT a).take (k + 1)) h
    have hfl : 11 < fieldL (plainL e i r d l ++ (tailT a).take (k + 1)) := by
      rw [fieldL_eq, q2]
      have hl' : (plainL e i r d l ++ (tailT a).take (k + 1)).length = (bodyL e i r d l).length + 15 + (k + 1) := by rw [List.length_append, plainL_len, List.length_take, tailT_len]; omega
      have hle := layH_le (plainL e i r d l ++ (tailT a).take (k + 1))
      rw [q2] at hle
      rw [hl']
      by_cases h10 : k + 1 = 10
      · have := fN_tail10 _ _ (layH_or _) hle
        rw [show (bodyL e i r d l).length + 15 + (k + 1) = (bodyL e i r d l).length + 15 + 10 by omega, this]; decide
      · rw [fN_tail (k + 1) _ _ (layH_or _) hle (by omega), if_neg (by omega)]
        split <;> (try split) <;> decide
    rw [htk, ← List.append_assoc] at hfl ⊢
    rw [← hget] at hfl ⊢
    rw [← Nat.add_assoc, sw_next _ _ _ _ ih hfl]
    congr 1
    rw [hget, look_tail _ _ k _ p1 p2 hl (by omega) (fun hk1 => tailT_at a k (by omega) hk1) (fun hk2 => by
      subst hk2
      exact plain_crc e i r d l _ h (fun y hy => tailT_isL a ha y (List.mem_of_mem_take hy)))]
    rcases (show k = 9 ∨ k = 8 ∨ k < 8 by omega) with rfl | rfl | h8
    · rfl
    · rfl
    · rw [if_neg (by omega), if_neg (by omega), if_neg (by omega), if_neg (by omega)]
/-- the codes along an image -/
theorem img_codes (e : Bool) (i : Nat) (r : Bool) (d : Nat) (l : List Nat) (a : Nat) (h : fits r d l) (ha : M.isL a) (j : Nat) (hj : j ≤ (M.stuffL (plainL e i r d l)).length + 10) :
    (sw (M.stuffL (plainL e i r d l) ++ tailT a) j).1 = if j = (M.stuffL (plainL e i r d l)).length + 10 then 2 else if j = (M.stuffL (plainL e i r d l)).length + 9 then 1 else 0 := by
  by_cases hs : j ≤ (M.stuffL (plainL e i r d l)).length
  · have hx := lay_plainL e i r d l h
    have hL : ∀ y ∈ M.stuffL (plainL e i r d l) ++ tailT a, M.isL y := by
      intro y hy
      rw [List.mem_append] at hy
      rcases hy with hy | hy
      · exact M.stuff_all _ hx.isl y hy
      · exact tailT_isL a ha y hy
    have := (walk_stuff (plainL e i r d l) _ hx hL (List.take_left' rfl) (plainL e i r d l).length (Nat.le_refl _)).1
    rw [List.take_length] at this
    rw [this j hs, if_neg (by omega), if_neg (by omega)]
  · obtain ⟨k, rfl⟩ : ∃ k, j = (M.stuffL (plainL e i r d l)).length + k := ⟨j - (M.stuffL (plainL e i r d l)).length, by omega⟩
    rw [tail_walk e i r d l a h ha k (by omega)]
    show (if k = 10 then 2 else if k = 9 then 1 else 0) = _
    rcases (show k = 10 ∨ k = 9 ∨ k < 9 by omega) with rfl | rfl | h9
    · rw [if_pos rfl, if_pos rfl]
    · rw [if_neg (by decide), if_pos rfl, if_neg (by omega), if_pos rfl]
    · rw [if_neg (by omega), if_neg (by omega), if_neg (by omega), if_neg (by omega)]
theorem swF_on (L : List Nat) : ∀ f i, (∀ j, i ≤ j → j < i + f → goesOnB (sw L j).1 = true) → swF L f i = sw L (i + f)
  | 0, i, _ => rfl
  | f + 1, i, h => by
    rw [swF_succ, if_pos (h i (Nat.le_refl _) (by omega)), swF_on L f (i + 1) (fun j a b => h j (by omega) (by omega))]
    congr 1
    omega
theorem sw_pre (L : List Nat) (n : Nat) (hn : n ≤ L.length) : ∀ j, j ≤ n → sw (L.take n) j = sw L j
  | 0, _ => rfl
  | j + 1, h => by
    show swStep (L.take n) j (sw (L.take n) j) = swStep L j (sw L j)
    rw [sw_pre L n hn j (by omega)]
    have hg : ∀ t, t < n → (L.take n).getD t 0 = L.getD t 0 := fun t ht => by
      rw [List.getD_eq_getElem?_getD, List.getD_eq_getElem?_getD, List.getElem?_take_of_lt ht]
    have hd : dueF (fun t => (L.take n).getD t 0) (j + 1) = dueF (fun t => L.getD t 0) (j + 1) := by
      unfold dueF
      dsimp only
      by_cases h5 : 5 ≤ j + 1
      · rw [hg _ (by omega), hg _ (by omega), hg _ (by omega), hg _ (by omega), hg _ (by omega)]
      · simp [h5]
    unfold swStep
    rw [hg j (by omega), hg (j - 1) (by omega), hd]
def imgL (e : Bool) (i : Nat) (r : Bool) (d : Nat) (l : List Nat) (a : Nat) : List Nat := M.stuffL (plainL e i r d l) ++ tailT a
theorem imgL_len (e : Bool) (i : Nat) (r : Bool) (d : Nat) (l : List Nat) (a : Nat) : (imgL e i r d l a).length = (M.stuffL (plainL e i r d l)).length + 10 := by unfold imgL; rw [List.length_append, tailT_len]
theorem imgL_le (e : Bool) (i : Nat) (r : Bool) (d : Nat) (l : List Nat) (a : Nat) (h : fits r d l) : (imgL e i r d l a).length ≤ 300 := by
  have h1 := M.stuff_len (plainL e i r d l)
  have h2 := bodyL_length e i r d l
  have h3 := h.len
  have h4 : l.length ≤ 8 := by rw [h3]; split <;> omega
  rw [imgL_len]
  rw [plainL_len, h2] at h1
  cases e <;> simp at h1 <;> omega
theorem imgL_isL (e : Bool) (i : Nat) (r : Bool) (d : Nat) (l : List Nat) (a : Nat) (ha : M.isL a) : ∀ y ∈ imgL e i r d l a, M.isL y := by
  intro y hy
  unfold imgL at hy
  rw [List.mem_append] at hy
  rcases hy with hy | hy
  · exact M.stuff_all _ (plainL_isL e i r d l) y hy
  · exact tailT_isL a ha y hy
theorem isL_256 {l : List Nat} (h : ∀ y ∈ l, M.isL y) : ∀ y ∈ l, y < 256 := fun y hy => by rcases h y hy with h | h <;> omega
/-- the walk over the beginning of an image -/
theorem img_swZ (e : Bool) (i : Nat) (r : Bool) (d : Nat) (l : List Nat) (a : Nat) (h : fits r d l) (ha : M.isL a) (j : Nat) (hj : j ≤ (imgL e i r d l a).length) :
    swZ (strN ((imgL e i r d l a).take j)) = sw (imgL e i r d l a) j := by
  have hle := imgL_le e i r d l a h
  have hil : ∀ y ∈ (imgL e i r d l a).take j, M.isL y := fun y hy => imgL_isL e i r d l a ha y (List.mem_of_mem_take hy)
  have hlen : ((imgL e i r d l a).take j).length = j := by rw [List.length_take]; omega
  unfold swZ
  rw [if_pos (okT_strN _ 4000 hil (by rw [hlen]; omega)), lt_strN _ (isL_256 hil), hlen, swF_on]
  · rw [Nat.zero_add, sw_pre _ j hj j (Nat.le_refl _)]
  · intro m _ hm
    rw [sw_pre _ j hj m (by omega)]
    have := img_codes e i r d l a h ha m (by rw [imgL_len] at hj; omega)
    unfold imgL
    rw [this, if_neg (by rw [imgL_len] at hj; omega)]
    split <;> rfl
end Go.Proofs.YtpknchjjfiiaeaaDoor.J
