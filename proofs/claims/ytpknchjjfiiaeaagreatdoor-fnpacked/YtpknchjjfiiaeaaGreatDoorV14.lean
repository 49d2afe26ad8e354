import Derived.Test.YtpknchjjfiiaeaaGreatDoorV13
import Derived.Deep.AppendLies
import Derived.Deep.RegionLaw
import Derived.Test.YtpknchjjfiiaeaaGreatDoorV10
namespace Go.Proofs.YtpknchjjfiiaeaaGreatDoor.J
open Go.RowKit
theorem isBytes.block {w w' : World} {g off n cap : Nat} {l : List Nat} (h : isBytes w (some ⟨g, off, none⟩) n cap l) (hb : w'.heap[g]? = w.heap[g]?) : isBytes w' (some ⟨g, off, none⟩) n cap l := by
  refine ⟨h.len, h.cap, h.small, fun hl => ?_⟩
  obtain ⟨g', off', e, hc⟩ := h.cells hl
  cases e
  refine ⟨g, off, rfl, fun j hj => ?_⟩
  have := hc j hj
  simp only [World.cell?] at this ⊢
  rw [hb]
  exact this
/-- the model's Decode at work: the frame so far in block F, the plain letters in block g, the result's block R -/
structure sdI (w0 : World) (B R F g off cap : Nat) (p : List Nat) (e : Bool) (i : Nat) (r : Bool) (d : Nat) (v : Value) (l : List Nat) (W : World) : Prop where
  fr : W.heap[F]? = some (.cells #[.bool e, .int .u32 (i : Int), .bool r, .int .i64 (d : Int), v] 33 (0, 0))
  own : ownsB W B v l
  row : isBytes W (some ⟨g, off, none⟩) p.length cap p
  res : W.heap[R]? = some (.cells #[.bool false, .int .u32 0, .bool false, .int .i64 0, .slice none 0 0] 33 (0, 0))
  bel : Below B w0 W
  ne : v.ownBlock ≠ some g ∧ v.ownBlock ≠ some F ∧ v.ownBlock ≠ some R
  dis : g ≠ F ∧ F ≠ R ∧ g ≠ R ∧ B ≤ F ∧ B ≤ R ∧ B ≤ W.heap.size ∧ g < W.heap.size
theorem sdI.cells {w0 : World} {B R F g off cap : Nat} {p : List Nat} {e : Bool} {i : Nat} {r : Bool} {d : Nat} {v : Value} {l : List Nat} {W : World} (h : sdI w0 B R F g off cap p e i r d v l W) :
    W.cell? ⟨F, 0, none⟩ = some (.bool e) ∧ W.cell? ⟨F, 1, none⟩ = some (.int .u32 (i : Int)) ∧ W.cell? ⟨F, 2, none⟩ = some (.bool r) ∧ W.cell? ⟨F, 3, none⟩ = some (.int .i64 (d : Int)) ∧ W.cell? ⟨F, 4, none⟩ = some v ∧
    W.frozen? ⟨F, 0, none⟩ = false ∧ W.frozen? ⟨F, 1, none⟩ = false ∧ W.frozen? ⟨F, 2, none⟩ = false ∧ W.frozen? ⟨F, 3, none⟩ = false ∧ W.frozen? ⟨F, 4, none⟩ = false := by
  have hr := h.fr
  refine ⟨?_, ?_, ?_, ?_, ?_, ?_, ?_, ?_, ?_, ?_⟩ <;> simp [World.cell?, World.frozen?, hr]
theorem sdI.cellsR {w0 : World} {B R F g off cap : Nat} {p : List Nat} {e : Bool} {i : Nat} {r : Bool} {d : Nat} {v : Value} {l : List Nat} {W : World} (h : sdI w0 B R F g off cap p e i r d v l W) :
    W.cell? ⟨R, 0, none⟩ = some (.bool false) ∧ W.cell? ⟨R, 1, none⟩ = some (.int .u32 0) ∧ W.cell? ⟨R, 2, none⟩ = some (.bool false) ∧ W.cell? ⟨R, 3, none⟩ = some (.int .i64 0) ∧ W.cell? ⟨R, 4, none⟩ = some (.slice none 0 0) ∧
    W.frozen? ⟨R, 0, none⟩ = false ∧ W.frozen? ⟨R, 1, none⟩ = false ∧ W.frozen? ⟨R, 2, none⟩ = false ∧ W.frozen? ⟨R, 3, none⟩ = false ∧ W.frozen? ⟨R, 4, none⟩ = false := by
  have hr := h.res
  refine ⟨?_, ?_, ?_, ?_, ?_, ?_, ?_, ?_, ?_, ?_⟩ <;> simp [World.cell?, World.frozen?, hr]
theorem sd_own {W : World} {B F : Nat} {v : Value} {l : List Nat} (j : Nat) (x : Value) (h : ownsB W B v l) (hne : v.ownBlock ≠ some F) : ownsB (W.setCell ⟨F, j, none⟩ x) B v l := by
  refine h.otherBlock (fun i hi => heap_setCell_other W ⟨F, j, none⟩ i x (fun e => ?_))
  have e' : i = F := e
  exact hne (e' ▸ hi)
theorem sdI.set {w0 : World} {B R F g off cap : Nat} {p : List Nat} {e : Bool} {i : Nat} {r : Bool} {d : Nat} {v : Value} {l : List Nat} {W : World} (h : sdI w0 B R F g off cap p e i r d v l W) (i' : Nat) :
    sdI w0 B R F g off cap p e i' r d v l (W.setCell ⟨F, 1, none⟩ (.int .u32 (i' : Int))) := by
  obtain ⟨d1, d2, d3, d4, d5, d6, d7⟩ := h.dis
  refine ⟨?_, sd_own _ _ h.own h.ne.2.1, h.row.block (heap_setCell_other W ⟨F, 1, none⟩ g _ (fun e => d1 e)), (heap_setCell_other W ⟨F, 1, none⟩ R _ (fun e => d2 e.symm)).trans h.res, h.bel.setCell (by exact d4) _, h.ne, d1, d2, d3, d4, d5, by simpa using d6, by simpa using d7⟩
  rw [heap_setCell_same W F 1 _ _ _ h.fr]; simp
theorem sdI.app {w0 : World} {B R F g off cap : Nat} {p : List Nat} {e : Bool} {i : Nat} {r : Bool} {d : Nat} {v v' : Value} {l l' : List Nat} {W W' : World} (h : sdI w0 B R F g off cap p e i r d v l W)
    (ho : ownsB W' B v' l') (hb : Below B w0 W') (hk : ∀ g, g < W.heap.size → v.ownBlock ≠ some g → W'.heap[g]? = W.heap[g]? ∧ v'.ownBlock ≠ some g) (hz : W.heap.size ≤ W'.heap.size) :
    sdI w0 B R F g off cap p e i r d v' l' (W'.setCell ⟨F, 4, none⟩ v') := by
  obtain ⟨d1, d2, d3, d4, d5, d6, d7⟩ := h.dis
  have kF := hk F (lt_of_block h.fr) h.ne.2.1
  have kR := hk R (lt_of_block h.res) h.ne.2.2
  have kg := hk g d7 h.ne.1
  refine ⟨?_, sd_own _ _ ho kF.2, (h.row.block kg.1).block (heap_setCell_other W' ⟨F, 4, none⟩ g _ (fun e => d1 e)), (heap_setCell_other W' ⟨F, 4, none⟩ R _ (fun e => d2 e.symm)).trans (kR.1.trans h.res), hb.setCell (by exact d4) _, ⟨kg.2, kF.2, kR.2⟩, d1, d2, d3, d4, d5, by simpa using (by omega : B ≤ W'.heap.size), by simpa using (by omega : g < W'.heap.size)⟩
  rw [heap_setCell_same W' F 4 _ _ _ (kF.1.trans h.fr)]; simp
/-- laid out -/
theorem sdI.start {w w1 : World} {g cap : Nat} {p : List Nat} (d : Nat) (hr : w1.heap[w.heap.size]? = some (.cells #[.bool false, .int .u32 0, .bool false, .int .i64 0, .slice none 0 0] 33 (0, 0))) (hb : Below w.heap.size w w1) (hp : isBytes w1 (some ⟨g, 0, none⟩) p.length cap p) (hg : w.heap.size < g) (hg2 : g < w1.heap.size) (e : Bool) :
    sdI w w.heap.size w.heap.size (w1.heap.size + 1) g 0 cap p e 0 false d (.slice (some ⟨w1.heap.size, 0, none⟩) 0 0) [] ((w1.alloc (.cells #[] 5)).alloc (.cells #[.bool e, .int .u32 0, .bool false, .int .i64 (d : Int), .slice (some ⟨w1.heap.size, 0, none⟩) 0 0] 33)) := by
  have hz := hb.size
  have hB : Below w1.heap.size w1 ((w1.alloc (.cells #[] 5)).alloc (.cells #[.bool e, .int .u32 0, .bool false, .int .i64 (d : Int), .slice (some ⟨w1.heap.size, 0, none⟩) 0 0] 33)) := ((Below.refl _ _).alloc (Nat.le_refl _) _).alloc (by simp) _
  have e1 : (w1.alloc (.cells #[] 5)).heap.size = w1.heap.size + 1 := by simp
  refine ⟨?_, World.ownsRow.alloc (own_nil w1 w.heap.size hz) _, hp.below hB, (hB.block _ (by omega)).trans hr, hb.trans (hB.mono hz), ⟨?_, ?_, ?_⟩, by omega, by omega, by omega, by omega, Nat.le_refl _, by simp; omega, by simp; omega⟩
  · have := heap_alloc_new (w1.alloc (.cells #[] 5)) (.cells #[.bool e, .int .u32 0, .bool false, .int .i64 (d : Int), .slice (some ⟨w1.heap.size, 0, none⟩) 0 0] 33)
    rw [e1] at this
    exact this
  · simp [Value.ownBlock]; omega
  · simp [Value.ownBlock]
  · simp [Value.ownBlock]; omega
theorem sdI.drew {w0 : World} {B R F g off cap : Nat} {p : List Nat} {e : Bool} {i : Nat} {r : Bool} {d : Nat} {v : Value} {l : List Nat} {W : World} (h : sdI w0 B R F g off cap p e i r d v l W) : sdI w0 B R F g off cap p e i r d v l W.drew :=
  ⟨h.fr, World.ownsRow.drew h.own, h.row.below (Below.refl _ _).drew, h.res, h.bel.drew, h.ne, h.dis⟩
theorem valL_num (n : Nat) : ∀ v, valL (M.num v n) = v % 2 ^ n := by
  induction n with
  | zero => intro v; show 0 = v % 1; omega
  | succ n ih =>
    intro v
    show valL (M.num (v / 2) n ++ [48 + v % 2]) = _
    rw [valL_snoc, ih]
    unfold valStep
    rw [Nat.pow_succ, Nat.mul_comm (2 ^ n) 2, Nat.mod_mul]
    have : v % 2 = 0 ∨ v % 2 = 1 := by omega
    rcases this with h | h <;> rw [h] <;> simp <;> omega
/-- the walk over a stretch that is stuffed: what it asks of the plain letters -/
structure Lay (x : List Nat) : Prop where
  isl : ∀ y ∈ x, M.isL y
  look : ∀ m, m < x.length → lookL (x.take m) (x.getD m 0) = 0
  fld : ∀ m, m ≤ x.length → fieldL (x.take m) ≤ 11
theorem lay_pre (q t : List Nat) (h : layH q ≤ q.length) : layH (q ++ t) = layH q ∧ layN (q ++ t) = layN q ∧ endL (q ++ t) = endL q := by
  induction t using M.snoc_ind with
  | h0 => simp
  | h1 t c ih =>
    have hH := layH_or q
    obtain ⟨a, b, c'⟩ := ih
    have hl : layH (q ++ t) ≤ (q ++ t).length := by rw [a, List.length_append]; omega
    rw [← List.append_assoc, layH_snoc _ _ (by rw [List.length_append]; omega), layN_snoc _ _ hl, endL_snoc _ _ hl]
    exact ⟨a, b, c'⟩
theorem body0 (i : Nat) (r : Bool) (d : Nat) (l t : List Nat) : (bodyL false i r d l ++ t).getD 13 0 = 48 ∧ (bodyL false i r d l ++ t).getD 12 0 = 48 + r.toNat ∧ ((bodyL false i r d l ++ t).drop 15).take 4 = M.num d 4 ∧ ((bodyL false i r d l ++ t).drop 1).take 11 = M.num i 11 ∧ (bodyL false i r d l ++ t).drop 19 = l.flatMap (fun x => M.num x 8) ++ t := by
  have n11 := M.num_length 11 i
  have n4 := M.num_length 4 d
  have e : bodyL false i r d l ++ t = [48] ++ (M.num i 11 ++ ([48 + r.toNat, 48, 48] ++ (M.num d 4 ++ (l.flatMap (fun x => M.num x 8) ++ t)))) := by
    unfold bodyL arbL
    rw [if_neg (by decide)]
    show _ ++ M.num 0 1 ++ _ ++ _ ++ _ = _
    rw [num01]
    simp
  rw [e]
  refine ⟨?_, ?_, ?_, ?_, ?_⟩
  · simp [List.getD_eq_getElem?_getD, List.getElem?_append, n11]
  · simp [List.getD_eq_getElem?_getD, n11]
  · simp [List.drop_append, n11, List.drop_eq_nil_of_le, n4]
  · simp [n11]
  · simp [List.drop_append, n11, List.drop_eq_nil_of_le, n4]
theorem body1 (i : Nat) (r : Bool) (d : Nat) (l t : List Nat) : (bodyL true i r d l ++ t).getD 13 0 = 49 ∧ (bodyL true i r d l ++ t).getD 32 0 = 48 + r.toNat ∧ ((bodyL true i r d l ++ t).drop 35).take 4 = M.num d 4 ∧ ((bodyL true i r d l ++ t).drop 1).take 11 = M.num (i / 2 ^ 18) 11 ∧ ((bodyL true i r d l ++ t).drop 14).take 18 = M.num i 18 ∧ (bodyL true i r d l ++ t).drop 39 = l.flatMap (fun x => M.num x 8) ++ t := by
  have n11 := M.num_length 11 (i / 2 ^ 18)
  have n18 := M.num_length 18 i
  have n4 := M.num_length 4 d
  have e : bodyL true i r d l ++ t = [48] ++ (M.num (i / 2 ^ 18) 11 ++ ([49, 49] ++ (M.num i 18 ++ ([48 + r.toNat, 48, 48] ++ (M.num d 4 ++ (l.flatMap (fun x => M.num x 8) ++ t)))))) := by
    unfold bodyL arbL
    rw [if_pos rfl]
    show _ ++ M.num 0 2 ++ _ ++ _ ++ _ = _
    rw [num02]
    simp
  rw [e]
  generalize M.num (i / 2 ^ 18) 11 = A at *
  generalize M.num i 18 = B at *
  refine ⟨?_, ?_, ?_, ?_, ?_, ?_⟩
  · simp [List.getD_eq_getElem?_getD, List.getElem?_append, n11]
  · simp [List.getD_eq_getElem?_getD, List.getElem?_append, n11, n18]
  · simp [List.drop_append, n11, n18, List.drop_eq_nil_of_le, n4]
  · simp [n11]
  · simp [List.drop_append, n11, n18, List.drop_eq_nil_of_le]
  · simp [List.drop_append, n11, n18, List.drop_eq_nil_of_le, n4]
set_option linter.unusedVariables false
def bodyH (e : Bool) : Nat := if e = true then 39 else 19
/-- a frame whose data are as long as its code says -/
structure fits (r : Bool) (d : Nat) (l : List Nat) : Prop where
  d15 : d ≤ 15
  len : l.length = if r = true then 0 else min d 8
  small : ∀ x ∈ l, x < 256
theorem body_lay (e : Bool) (i : Nat) (r : Bool) (d : Nat) (l t : List Nat) (h : fits r d l) :
    layH (bodyL e i r d l ++ t) = bodyH e ∧ layN (bodyL e i r d l ++ t) = l.length ∧ endL (bodyL e i r d l ++ t) = (bodyL e i r d l).length ∧ bodyH e ≤ (bodyL e i r d l).length := by
  have hl := bodyL_length e i r d l
  have hd : valL (M.num d 4) = d := by rw [valL_num]; have := h.d15; omega
  have hlen := h.len
  cases e with
  | false =>
    obtain ⟨a13, a12, a15, -, -⟩ := body0 i r d l t
    have h1 : layH (bodyL false i r d l ++ t) = 19 := by unfold layH; rw [a13]; rfl
    have h2 : layN (bodyL false i r d l ++ t) = l.length := by
      have hR : layR (bodyL false i r d l ++ t) = r := by
        unfold layR
        rw [if_neg (by rw [a13]; decide), a12]
        cases r <;> rfl
      unfold layN
      rw [hR, h1, a15, hd, hlen]
    refine ⟨h1, h2, ?_, ?_⟩
    · unfold endL; rw [h1, h2, hl]; rfl
    · rw [hl]; exact Nat.le_add_right _ _
  | true =>
    obtain ⟨a13, a32, a35, -, -, -⟩ := body1 i r d l t
    have h1 : layH (bodyL true i r d l ++ t) = 39 := by unfold layH; rw [a13]; rfl
    have h2 : layN (bodyL true i r d l ++ t) = l.length := by
      have hR : layR (bodyL true i r d l ++ t) = r := by
        unfold layR
        rw [if_pos a13, a32]
        cases r <;> rfl
      unfold layN
      rw [hR, h1, a35, hd, hlen]
    refine ⟨h1, h2, ?_, ?_⟩
    · unfold endL; rw [h1, h2, hl]; rfl
    · rw [hl]; exact Nat.le_add_right _ _
theorem fN_lt (n H E : Nat) (h : H = 19 ∨ H = 39) (hn : n < H) : fieldN n H E ≤ 8 ∧ (fieldN n H E = 1 → n = 0) := by unfold fieldN; grind (splits := 16)
theorem fN_mid (n H E : Nat) (h : H = 19 ∨ H = 39) (hE : H ≤ E) (hn : H ≤ n) (h2 : n < E + 15) : fieldN n H E ≤ 10 ∧ 9 ≤ fieldN n H E := by unfold fieldN; grind (splits := 16)
theorem fN_end (n H E : Nat) (h : H = 19 ∨ H = 39) (hE : H ≤ E) (hn : n = E + 15) : fieldN n H E = 11 := by unfold fieldN; grind (splits := 16)
theorem look0 {q : List Nat} {c : Nat} (h : fieldL q ≤ 10) (h1 : fieldL q = 1 → c = 48) : lookL q c = 0 := by
  unfold lookL
  by_cases f1 : fieldL q = 1
  · rw [if_pos f1, h1 f1]; rfl
  · rw [if_neg f1, if_neg (by omega), if_neg (by omega), if_neg (by omega)]
theorem lay_plain (e : Bool) (i : Nat) (r : Bool) (d : Nat) (l c : List Nat) (h : fits r d l) (hc : c.length = 15) (hcl : ∀ x ∈ c, M.isL x) : Lay (bodyL e i r d l ++ c) := by
  obtain ⟨b1, b2, b3, b4⟩ := body_lay e i r d l c h
  have hx0 : (bodyL e i r d l ++ c).getD 0 0 = 48 := by unfold bodyL; simp
  have hlen : (bodyL e i r d l ++ c).length = (bodyL e i r d l).length + 15 := by rw [List.length_append, hc]
  have key : ∀ m, m ≤ (bodyL e i r d l ++ c).length → m < layH ((bodyL e i r d l ++ c).take m) ∨ (layH ((bodyL e i r d l ++ c).take m) ≤ m ∧ endL ((bodyL e i r d l ++ c).take m) = (bodyL e i r d l).length) := by
    intro m hm
    by_cases a : m < layH ((bodyL e i r d l ++ c).take m)
    · exact .inl a
    · right
      have hlt : ((bodyL e i r d l ++ c).take m).length = m := by rw [List.length_take]; omega
      have := (lay_pre ((bodyL e i r d l ++ c).take m) ((bodyL e i r d l ++ c).drop m) (by omega)).2.2
      rw [List.take_append_drop, b3] at this
      exact ⟨by omega, this.symm⟩
  refine ⟨?_, ?_, ?_⟩
  · intro y hy
    rw [List.mem_append] at hy
    rcases hy with hy | hy
    · exact bodyL_isL e i r d l y hy
    · exact hcl y hy
  · intro m hm
    have hlt : ((bodyL e i r d l ++ c).take m).length = m := by rw [List.length_take]; omega
    have hH := layH_or ((bodyL e i r d l ++ c).take m)
    have hE := layH_le ((bodyL e i r d l ++ c).take m)
    have hf := fieldL_eq ((bodyL e i r d l ++ c).take m)
    rw [hlt] at hf
    rcases key m (by omega) with a | ⟨a1, a2⟩
    · have := fN_lt m _ (endL ((bodyL e i r d l ++ c).take m)) hH a
      refine look0 (by omega) (fun f1 => ?_)
      have : m = 0 := this.2 (by omega)
      subst this
      exact hx0
    · have := fN_mid m _ _ hH hE a1 (by omega)
      exact look0 (by omega) (fun f1 => by omega)
  · intro m hm
    have hlt : ((bodyL e i r d l ++ c).take m).length = m := by rw [List.length_take]; omega
    have hH := layH_or ((bodyL e i r d l ++ c).take m)
    have hE := layH_le ((bodyL e i r d l ++ c).take m)
    have hf := fieldL_eq ((bodyL e i r d l ++ c).take m)
    rw [hlt] at hf
    rcases key m hm with a | ⟨a1, a2⟩
    · have := fN_lt m _ (endL ((bodyL e i r d l ++ c).take m)) hH a
      omega
    · by_cases a3 : m < endL ((bodyL e i r d l ++ c).take m) + 15
      · have := fN_mid m _ _ hH hE a1 a3
        omega
      · have := fN_end m _ _ hH hE (by omega)
        omega
/-- the letters behind the stuffed part -/
def tailT (a : Nat) : List Nat := [49, a, 49, 49, 49, 49, 49, 49, 49, 49]
theorem tailT_len (a : Nat) : (tailT a).length = 10 := rfl
theorem tailT_isL (a : Nat) (ha : M.isL a) : ∀ y ∈ tailT a, M.isL y := by
  intro y hy
  unfold tailT at hy
  simp only [List.mem_cons, List.not_mem_nil, or_false] at hy
  rcases hy with h | h | h | h | h | h | h | h | h | h <;> first | (rw [h]; exact .inr rfl) | (rw [h]; exact ha)
def imgL (e : Bool) (i : Nat) (r : Bool) (d : Nat) (l : List Nat) (a : Nat) : List Nat := M.stuffL (plainL e i r d l) ++ tailT a
theorem imgL_len (e : Bool) (i : Nat) (r : Bool) (d : Nat) (l : List Nat) (a : Nat) : (imgL e i r d l a).length = (M.stuffL (plainL e i r d l)).length + 10 := by unfold imgL; rw [List.length_append, tailT_len]
theorem imgL_isL (e : Bool) (i : Nat) (r : Bool) (d : Nat) (l : List Nat) (a : Nat) (ha : M.isL a) : ∀ y ∈ imgL e i r d l a, M.isL y := by
  intro y hy
  unfold imgL at hy
  rw [List.mem_append] at hy
  rcases hy with hy | hy
  · exact M.stuff_all _ (plainL_isL e i r d l) y hy
  · exact tailT_isL a ha y hy
theorem isL_256 {l : List Nat} (h : ∀ y ∈ l, M.isL y) : ∀ y ∈ l, y < 256 := fun y hy => by rcases h y hy with h | h <;> omega
set_option maxHeartbeats 1000000 in
theorem wDec_bit (b : Nat) (hb : b < 2) (w : World) :
    Calls Tryz.prog 50 #[.int .i64 (b : Int)] w fun o w' => o = .returned (.string (strN [48 + b])) ∧ Below w.heap.size w w' := by
  rcases (show b = 0 ∨ b = 1 by omega) with rfl | rfl
  · have hcv : (convert 22 9 (.slice (some ⟨w.heap.size, 0, none⟩) 1 1)).run Tryz.prog (w.alloc (.cells #[.int .u8 48] 5)) = .ok (.string (strN [48])) (w.alloc (.cells #[.int .u8 48] 5)) := by
      refine convB ⟨rfl, Nat.le_refl _, by simp, fun _ => ⟨w.heap.size, 0, rfl, fun j hj => ?_⟩⟩
      have : j = 0 := by simpa using hj
      subst this
      simp
    go_enter Tryz.func50, Tryz.ntmps50
    go_wp2
    go_ret
    exact ⟨rfl, (Below.refl _ _).alloc (Nat.le_refl _) _⟩
  · have hcv : (convert 22 9 (.slice (some ⟨w.heap.size, 0, none⟩) 1 1)).run Tryz.prog (w.alloc (.cells #[.int .u8 49] 5)) = .ok (.string (strN [49])) (w.alloc (.cells #[.int .u8 49] 5)) := by
      refine convB ⟨rfl, Nat.le_refl _, by simp, fun _ => ⟨w.heap.size, 0, rfl, fun j hj => ?_⟩⟩
      have : j = 0 := by simpa using hj
      subst this
      simp
    go_enter Tryz.func50, Tryz.ntmps50
    go_wp2
    go_ret
    exact ⟨rfl, (Below.refl _ _).alloc (Nat.le_refl _) _⟩
theorem and_bit (v m : Nat) (hv : v < 32768) : bits BinOp.and IntKind.i64 ((v : Int) / 2 ^ m) 1 = ((v / 2 ^ m % 2 : Nat) : Int) := by
  have hle : v / 2 ^ m ≤ v := Nat.div_le_self _ _
  have e : (v : Int) / 2 ^ m = ((v / 2 ^ m : Nat) : Int) := by push_cast; rfl
  rw [e]
  have := (bits_nat .i64 62 (by decide) wraps_i64 (v / 2 ^ m) 1 (by omega) (by omega)).1
  rw [show ((1 : Nat) : Int) = 1 from rfl] at this
  rw [this, Nat.and_one_is_mod]
set_option maxHeartbeats 2000000 in
theorem wBits_15 (v : Nat) (hv : v < 32768) (w : World) :
    Calls Tryz.prog 18 #[.int .i64 (v : Int), .int .i64 15] w fun o w' => o = .returned (.string (strN (M.num v 15))) ∧ Below w.heap.size w w' := by
  go_enter Tryz.func18, Tryz.ntmps18
  go_wp2
  go_loopw [5, 6] (fun t i wr => ∃ m : Nat, m ≤ 15 ∧ i = .int .i64 ((m : Int) - 1) ∧ t = .string (strN (M.num (v / 2 ^ m) (15 - m))) ∧ Below w.heap.size w wr) (fun _ i _ => (intOf i + 1).toNat)
  case atStart => exact ⟨15, Nat.le_refl _, rfl, rfl, Below.refl _ _⟩
  case round =>
    obtain ⟨m, hm, rfl, rfl, hb⟩ := hrel
    cases m with
    | zero =>
      have HB : Hid (Below w.heap.size w wr) := hb
      clear hb
      go_wp2
      go_ret
      exact ⟨by simp, HB.out⟩
    | succ m =>
      have HB : Hid (Below w.heap.size w wr) := hb
      have HM : Hid (m < 15) := by unfold Hid; omega
      have HT : Hid (M.num (v / 2 ^ m) (15 - m) = M.num (v / 2 ^ (m + 1)) (15 - (m + 1)) ++ [48 + v / 2 ^ m % 2]) := num_step v 15 m (by omega)
      have hi : ((m + 1 : Nat) : Int) - 1 = (m : Int) := by omega
      have hsz : (strN (M.num (v / 2 ^ (m + 1)) (15 - (m + 1)))).size ≤ 15 := by rw [strN_size, M.num_length]; omega
      clear hb
      rw [hi]
      generalize ht0 : strN (M.num (v / 2 ^ (m + 1)) (15 - (m + 1))) = t0 at *
      have HT0 : Hid (strN (M.num (v / 2 ^ (m + 1)) (15 - (m + 1))) = t0) := ht0
      clear ht0 hi
      go_wp2_with fail
      rw [and_bit v m hv]
      refine (wDec_bit (v / 2 ^ m % 2) (Nat.mod_lt _ (by decide)) wr).mono ?_
      rintro o w2 ⟨rfl, hb2⟩
      have HB2 : Hid (Below w.heap.size w w2) := HB.out.trans (hb2.mono HB.out.size)
      have hs1 : (strN [48 + v / 2 ^ m % 2]).size = 1 := by rw [strN_size]; rfl
      have HE : Hid (t0 ++ strN [48 + v / 2 ^ m % 2] = strN (M.num (v / 2 ^ m) (15 - m))) := by unfold Hid; rw [← HT0.out, strN_append, ← HT.out]
      clear hb2
      generalize strN [48 + v / 2 ^ m % 2] = t1 at *
      go_wp2
      go_roundw
      case rel => exact ⟨m, by have := HM.out; omega, by go_num, by rw [HE.out], HB2.out⟩
      case measure => simp [intOf]
theorem strN_get (L : List Nat) (i : Nat) (hi : i < L.length) (hs : ∀ x ∈ L, x < 256) (h : i < (strN L).size) : ((strN L)[i]'h).toNat = L.getD i 0 := by
  rw [← lt_at (strN L) i h (by rw [lt_strN L hs]; exact hi)]
  simp [lt_strN L hs, hi]
end Go.Proofs.YtpknchjjfiiaeaaGreatDoor.J
