import Derived.Test.YtfbeaekddgpmmaaGreatDoorK24
import Derived.StillTailTactics
import Derived.Test.YtfbeaekddgpmmaaGreatDoorK21
namespace Go.Proofs.YtfbeaekddgpmmaaGreatDoor
open Go.RowKit Kd
set_option linter.unusedVariables false
theorem flat_at {α : Type} (f : α → List Value) (sz : Nat) (hf : ∀ p, (f p).length = sz) : ∀ (rs : List α) (j : Nat) (h : j < rs.length) (t : Nat), t < sz → (rs.flatMap f)[j * sz + t]? = (f rs[j])[t]? := by
  intro rs
  induction rs with
  | nil => intro j h; exact absurd h (Nat.not_lt_zero _)
  | cons p rs ih =>
    intro j h t ht
    rw [List.flatMap_cons]
    cases j with
    | zero => rw [Nat.zero_mul, Nat.zero_add, List.getElem?_append_left (by rw [hf]; exact ht)]; rfl
    | succ j =>
      rw [List.getElem?_append_right (by rw [hf, Nat.succ_mul]; omega), hf, show (j + 1) * sz + t - sz = j * sz + t by rw [Nat.succ_mul]; omega, ih j (by simpa using h) t ht]
      rfl
theorem wpStill_load_mid {ops : Array Oper} {rest : List Oper} {op : Oper} {a : Act} {w : World} {Q : Act → Prop} (hw : Region.wanted op (yielded ops a.tmps) = true) (ty : TypeId) (x : Operand) (ho : op.op = .load ty x)
    (b o : Nat) (hx : a.eval x = .pointer (some ⟨b, o, none⟩)) (cs : List Value) (d : TypeDesc) (hc : w.rangeAt b o cs)
    (hu : Tryz.prog.underlying ty = some d) (hd : d.isRow = true) (hi : (Tryz.prog.info? ty).map (·.size) = some cs.length)
    (h : wpStill Tryz.prog ops w Q rest (a.put op.dst (.agg cs.toArray))) : wpStill Tryz.prog ops w Q (op :: rest) a :=
  wpStill_step fun K hK => by
    simp only [hw, if_true]
    unfold Oper.still execOp
    simp only [ho, hx, Instr.loadAt, Instr.sureAddr, Sem.run_bind, Sem.run_pure, Result.andThen_ok, run_loadVar_mid w b o ty cs d hc hu hd hi]
    exact ⟨rfl, hK _ h⟩
theorem rcR.rng {α : Type} {K : Kn α} {B g n k : Nat} {rs : List (α × Hd)} {W : World} (h : rcR K B (.slice (some ⟨g, 0, none⟩) n k) rs W) (he : ∀ a d, (K.enc a d).length = K.k) (j : Nat) (hj : j < rs.length) : W.rangeAt g (j * K.k) (K.enc rs[j].1 rs[j].2) := by
  intro t u hu
  have ht : t < K.k := by have := (List.getElem?_eq_some_iff.mp hu).1; rwa [he] at this
  have hown := h.own
  obtain ⟨h1, ⟨e, _⟩ | ⟨g', cap, cur, e, rest⟩⟩ := hown
  · cases e
  · injection e with e1 e2 e3
    have hn : n = rs.length := e2
    have hlt : j * K.k + t < rs.length * K.k := by
      have : (j + 1) * K.k ≤ rs.length * K.k := Nat.mul_le_mul_right _ hj
      rw [Nat.succ_mul] at this
      omega
    have ho := h.own
    subst hn
    rw [World.ownsRow.cellAt ho (j * K.k + t) hlt, flat_at (fun r : α × Hd => K.enc r.1 r.2) K.k (fun r => he r.1 r.2) rs j hj t ht]
    exact hu
theorem rcR.len {α : Type} {K : Kn α} {B : Nat} {v : Value} {rs : List (α × Hd)} {W : World} (h : rcR K B v rs W) : (v = .slice none 0 0 ∧ rs = []) ∨ ∃ g k, v = .slice (some ⟨g, 0, none⟩) rs.length k ∧ rs.length ≤ k := by
  rcases ownsRow_shape h.own with ⟨e, e2⟩ | ⟨g, k, e, _, _, hk⟩
  · exact .inl ⟨e, List.length_eq_zero_iff.1 e2⟩
  · exact .inr ⟨g, k, e, hk⟩
theorem own_bytesK {w : World} {B : Nat} {h : Hd} {l : List Nat} (ho : w.ownsRow B 5 1 (hdV h) l.length (bv l)) (hl : ∀ x ∈ l, x < 256) : Kd.isBytes w h.1 h.2.1 h.2.2 l := by
  have ho' := ho
  obtain ⟨e1, ⟨e2, e3⟩ | ⟨g, cap, cur, e2, hb, hg, hc, rest⟩⟩ := ho
  · injection e2 with a b c
    rw [a, b, c]
    have : l = [] := List.length_eq_zero_iff.1 e3
    subst this
    exact ⟨rfl, Nat.le_refl _, hl, fun h => absurd rfl h⟩
  · have e2' := e2
    injection e2 with a b c
    rw [a, b, c]
    refine ⟨rfl, hc, hl, fun _ => ⟨g, 0, rfl, fun j hj => ?_⟩⟩
    rw [e2'] at ho'
    rw [Nat.zero_add, World.ownsRow.cellAt ho' j (by omega)]
    simp [bv, hj]
theorem own_isR3s {w : World} {B : Nat} {h : Hd} {l : List H.R3} (ho : w.ownsRow B 60 3 (hdV h) l.length (l.flatMap e3)) : H.isR3s w h.1 h.2.1 h.2.2 l := by
  have ho' := ho
  obtain ⟨e1, ⟨e2, e3'⟩ | ⟨g, cap, cur, e2, hb, hg, hc, rest⟩⟩ := ho
  · injection e2 with a b c
    rw [a, b, c]
    have : l = [] := List.length_eq_zero_iff.1 e3'
    subst this
    exact ⟨rfl, Nat.le_refl _, fun h => absurd rfl h⟩
  · have e2' := e2
    injection e2 with a b c
    rw [a, b, c]
    rw [e2'] at ho'
    have key : ∀ j (hj : j < l.length) t (ht : t < 3), w.cell? ⟨g, 0 + j * 3 + t, none⟩ = (e3 l[j])[t]? := fun j hj t ht => by
      rw [Nat.zero_add, World.ownsRow.cellAt ho' (j * 3 + t) (by omega), flat_at e3 3 (fun _ => rfl) l j hj t ht]
    refine ⟨rfl, hc, fun _ => ⟨g, 0, rfl, fun j hj => ⟨key j hj 0 (by omega), key j hj 1 (by omega), key j hj 2 (by omega)⟩⟩⟩
set_option maxHeartbeats 8000000 in
set_option maxRecDepth 20000 in
theorem eqOrder_same (w : World) (x : Od) (h1 h2 : Hd) (g1 : Kd.isBytes w h1.1 h1.2.1 h1.2.2 x.d) (g2 : Kd.isBytes w h2.1 h2.2.1 h2.2.2 x.d) (hm : h1.2.1 ≤ 1048576) :
    Calls Tryz.prog 39 #[.agg [.int .i64 (x.tick : Int), .int .i64 (x.op : Int), .int .i64 (x.node : Int), .int .i64 (x.tag : Int), .bool x.e, .int .u32 (x.id : Int), .bool x.r, .int .i64 (x.dlc : Int), hdV h1, .int .i64 (x.fr : Int), .int .i64 (x.ct : Int)].toArray, .agg [.int .i64 (x.tick : Int), .int .i64 (x.op : Int), .int .i64 (x.node : Int), .int .i64 (x.tag : Int), .bool x.e, .int .u32 (x.id : Int), .bool x.r, .int .i64 (x.dlc : Int), hdV h2, .int .i64 (x.fr : Int), .int .i64 (x.ct : Int)].toArray] w fun o w' => o = .returned (.bool true) ∧ Below w.heap.size w w' := by
  have hb0 : Below w.heap.size w ((w.alloc (.cells [.int .i64 (x.tick : Int), .int .i64 (x.op : Int), .int .i64 (x.node : Int), .int .i64 (x.tag : Int), .bool x.e, .int .u32 (x.id : Int), .bool x.r, .int .i64 (x.dlc : Int), hdV h1, .int .i64 (x.fr : Int), .int .i64 (x.ct : Int)].toArray 67)).alloc (.cells [.int .i64 (x.tick : Int), .int .i64 (x.op : Int), .int .i64 (x.node : Int), .int .i64 (x.tag : Int), .bool x.e, .int .u32 (x.id : Int), .bool x.r, .int .i64 (x.dlc : Int), hdV h2, .int .i64 (x.fr : Int), .int .i64 (x.ct : Int)].toArray 67)) := ((Below.refl _ _).alloc (Nat.le_refl _) _).alloc (by simp) _
  have HP1 := hidYY ((blk.new w [.int .i64 (x.tick : Int), .int .i64 (x.op : Int), .int .i64 (x.node : Int), .int .i64 (x.tag : Int), .bool x.e, .int .u32 (x.id : Int), .bool x.r, .int .i64 (x.dlc : Int), hdV h1, .int .i64 (x.fr : Int), .int .i64 (x.ct : Int)] 67).alloc (.cells [.int .i64 (x.tick : Int), .int .i64 (x.op : Int), .int .i64 (x.node : Int), .int .i64 (x.tag : Int), .bool x.e, .int .u32 (x.id : Int), .bool x.r, .int .i64 (x.dlc : Int), hdV h2, .int .i64 (x.fr : Int), .int .i64 (x.ct : Int)].toArray 67))
  have HP2 : Hid (blk ((w.alloc (.cells [.int .i64 (x.tick : Int), .int .i64 (x.op : Int), .int .i64 (x.node : Int), .int .i64 (x.tag : Int), .bool x.e, .int .u32 (x.id : Int), .bool x.r, .int .i64 (x.dlc : Int), hdV h1, .int .i64 (x.fr : Int), .int .i64 (x.ct : Int)].toArray 67)).alloc (.cells [.int .i64 (x.tick : Int), .int .i64 (x.op : Int), .int .i64 (x.node : Int), .int .i64 (x.tag : Int), .bool x.e, .int .u32 (x.id : Int), .bool x.r, .int .i64 (x.dlc : Int), hdV h2, .int .i64 (x.fr : Int), .int .i64 (x.ct : Int)].toArray 67)) (w.heap.size + 1) [.int .i64 (x.tick : Int), .int .i64 (x.op : Int), .int .i64 (x.node : Int), .int .i64 (x.tag : Int), .bool x.e, .int .u32 (x.id : Int), .bool x.r, .int .i64 (x.dlc : Int), hdV h2, .int .i64 (x.fr : Int), .int .i64 (x.ct : Int)] 67) := by
    have := blk.new (w.alloc (.cells [.int .i64 (x.tick : Int), .int .i64 (x.op : Int), .int .i64 (x.node : Int), .int .i64 (x.tag : Int), .bool x.e, .int .u32 (x.id : Int), .bool x.r, .int .i64 (x.dlc : Int), hdV h1, .int .i64 (x.fr : Int), .int .i64 (x.ct : Int)].toArray 67)) [.int .i64 (x.tick : Int), .int .i64 (x.op : Int), .int .i64 (x.node : Int), .int .i64 (x.tag : Int), .bool x.e, .int .u32 (x.id : Int), .bool x.r, .int .i64 (x.dlc : Int), hdV h2, .int .i64 (x.fr : Int), .int .i64 (x.ct : Int)] 67
    have e1 : (w.alloc (.cells [.int .i64 (x.tick : Int), .int .i64 (x.op : Int), .int .i64 (x.node : Int), .int .i64 (x.tag : Int), .bool x.e, .int .u32 (x.id : Int), .bool x.r, .int .i64 (x.dlc : Int), hdV h1, .int .i64 (x.fr : Int), .int .i64 (x.ct : Int)].toArray 67)).heap.size = w.heap.size + 1 := by simp
    rw [e1] at this
    exact this
  have HE := hidYY (fun V hV => Kd.eqFrame_same V x.e x.id x.r (x.dlc : Int) h1.1 h1.2.1 h1.2.2 x.d (g1.below hV) h2.1 h2.2.1 h2.2.2 (g2.below hV) hm)
  have HB0 := hidYY hb0
  generalize hV : ((w.alloc (.cells [.int .i64 (x.tick : Int), .int .i64 (x.op : Int), .int .i64 (x.node : Int), .int .i64 (x.tag : Int), .bool x.e, .int .u32 (x.id : Int), .bool x.r, .int .i64 (x.dlc : Int), hdV h1, .int .i64 (x.fr : Int), .int .i64 (x.ct : Int)].toArray 67)).alloc (.cells [.int .i64 (x.tick : Int), .int .i64 (x.op : Int), .int .i64 (x.node : Int), .int .i64 (x.tag : Int), .bool x.e, .int .u32 (x.id : Int), .bool x.r, .int .i64 (x.dlc : Int), hdV h2, .int .i64 (x.fr : Int), .int .i64 (x.ct : Int)].toArray 67)) = V at *
  have x0 := HP1.out.cell 0 _ rfl
  have y0 := HP2.out.cell 0 _ rfl
  have x1 := HP1.out.cell 1 _ rfl
  have y1 := HP2.out.cell 1 _ rfl
  have x2 := HP1.out.cell 2 _ rfl
  have y2 := HP2.out.cell 2 _ rfl
  have x3 := HP1.out.cell 3 _ rfl
  have y3 := HP2.out.cell 3 _ rfl
  have x9 := HP1.out.cell 9 _ rfl
  have y9 := HP2.out.cell 9 _ rfl
  have x10 := HP1.out.cell 10 _ rfl
  have y10 := HP2.out.cell 10 _ rfl
  have hii : ∀ z : Int, (z != z) = false := fun z => by simp
  clear hb0 g1 g2
  go_enter Tryz.func39, Tryz.ntmps39
  try rw [hV]
  go_wp2_with (first | (refine wpList_load_mid (P := Tryz.prog) rfl 65 (.tmp 25) rfl w.heap.size 4 rfl [.bool x.e, .int .u32 (x.id : Int), .bool x.r, .int .i64 (x.dlc : Int), hdV h1] _ (blk.loadAt [.int .i64 (x.tick : Int), .int .i64 (x.op : Int), .int .i64 (x.node : Int), .int .i64 (x.tag : Int)] [.bool x.e, .int .u32 (x.id : Int), .bool x.r, .int .i64 (x.dlc : Int), hdV h1] [.int .i64 (x.fr : Int), .int .i64 (x.ct : Int)] HP1.out) Tryz.underlying65 rfl sz29 ?_) | (refine wpList_load_mid (P := Tryz.prog) rfl 65 (.tmp 27) rfl (w.heap.size + 1) 4 rfl [.bool x.e, .int .u32 (x.id : Int), .bool x.r, .int .i64 (x.dlc : Int), hdV h2] _ (blk.loadAt [.int .i64 (x.tick : Int), .int .i64 (x.op : Int), .int .i64 (x.node : Int), .int .i64 (x.tag : Int)] [.bool x.e, .int .u32 (x.id : Int), .bool x.r, .int .i64 (x.dlc : Int), hdV h2] [.int .i64 (x.fr : Int), .int .i64 (x.ct : Int)] HP2.out) Tryz.underlying65 rfl sz29 ?_))
  refine (HE.out V HB0.out).mono ?_
  rintro o w1 ⟨rfl, hb1⟩
  have x9 := (HP1.out.below hb1).cell 9 _ rfl
  have x10 := (HP1.out.below hb1).cell 10 _ rfl
  have y9 := (HP2.out.below hb1).cell 9 _ rfl
  have y10 := (HP2.out.below hb1).cell 10 _ rfl
  have HB1 := hidYY (HB0.out.trans (hb1.mono HB0.out.size))
  clear hb1
  go_wp2_with fail
  go_ret
  exact ⟨rfl, HB1.out⟩
set_option maxHeartbeats 8000000 in
set_option maxRecDepth 20000 in
theorem eqSetup_same (w : World) (x : Su) (h1 h2 : Hd) (g1 : H.isR3s w h1.1 h1.2.1 h1.2.2 x.fs) (g2 : H.isR3s w h2.1 h2.2.1 h2.2.2 x.fs) (hm : h1.2.1 ≤ 1048576) :
    Calls Tryz.prog 38 #[.agg [.int .i64 (x.kind : Int), .int .i64 (x.bx : Int), .int .i64 (x.fi : Int), .int .i64 (x.po : Int), .int .i64 (x.ev : Int), hdV h1].toArray, .agg [.int .i64 (x.kind : Int), .int .i64 (x.bx : Int), .int .i64 (x.fi : Int), .int .i64 (x.po : Int), .int .i64 (x.ev : Int), hdV h2].toArray] w fun o w' => o = .returned (.bool true) ∧ Below w.heap.size w w' := by
  have hb0 : Below w.heap.size w ((w.alloc (.cells [.int .i64 (x.kind : Int), .int .i64 (x.bx : Int), .int .i64 (x.fi : Int), .int .i64 (x.po : Int), .int .i64 (x.ev : Int), hdV h1].toArray 55)).alloc (.cells [.int .i64 (x.kind : Int), .int .i64 (x.bx : Int), .int .i64 (x.fi : Int), .int .i64 (x.po : Int), .int .i64 (x.ev : Int), hdV h2].toArray 55)) := ((Below.refl _ _).alloc (Nat.le_refl _) _).alloc (by simp) _
  have HP1 := hidYY ((blk.new w [.int .i64 (x.kind : Int), .int .i64 (x.bx : Int), .int .i64 (x.fi : Int), .int .i64 (x.po : Int), .int .i64 (x.ev : Int), hdV h1] 55).alloc (.cells [.int .i64 (x.kind : Int), .int .i64 (x.bx : Int), .int .i64 (x.fi : Int), .int .i64 (x.po : Int), .int .i64 (x.ev : Int), hdV h2].toArray 55))
  have HP2 : Hid (blk ((w.alloc (.cells [.int .i64 (x.kind : Int), .int .i64 (x.bx : Int), .int .i64 (x.fi : Int), .int .i64 (x.po : Int), .int .i64 (x.ev : Int), hdV h1].toArray 55)).alloc (.cells [.int .i64 (x.kind : Int), .int .i64 (x.bx : Int), .int .i64 (x.fi : Int), .int .i64 (x.po : Int), .int .i64 (x.ev : Int), hdV h2].toArray 55)) (w.heap.size + 1) [.int .i64 (x.kind : Int), .int .i64 (x.bx : Int), .int .i64 (x.fi : Int), .int .i64 (x.po : Int), .int .i64 (x.ev : Int), hdV h2] 55) := by
    have := blk.new (w.alloc (.cells [.int .i64 (x.kind : Int), .int .i64 (x.bx : Int), .int .i64 (x.fi : Int), .int .i64 (x.po : Int), .int .i64 (x.ev : Int), hdV h1].toArray 55)) [.int .i64 (x.kind : Int), .int .i64 (x.bx : Int), .int .i64 (x.fi : Int), .int .i64 (x.po : Int), .int .i64 (x.ev : Int), hdV h2] 55
    have e1 : (w.alloc (.cells [.int .i64 (x.kind : Int), .int .i64 (x.bx : Int), .int .i64 (x.fi : Int), .int .i64 (x.po : Int), .int .i64 (x.ev : Int), hdV h1].toArray 55)).heap.size = w.heap.size + 1 := by simp
    rw [e1] at this
    exact this
  have HE := hidYY (fun V hV => H.eqFilterS_same V h1.1 h2.1 h1.2.1 h1.2.2 h2.2.1 h2.2.2 x.fs (g1.below hV) (g2.below hV) hm)
  have HC := hidYY (fun V => H.eqConfig_same V (x.bx : Int) (x.fi : Int) (x.po : Int) (x.ev : Int))
  have HB0 := hidYY hb0
  generalize hV : ((w.alloc (.cells [.int .i64 (x.kind : Int), .int .i64 (x.bx : Int), .int .i64 (x.fi : Int), .int .i64 (x.po : Int), .int .i64 (x.ev : Int), hdV h1].toArray 55)).alloc (.cells [.int .i64 (x.kind : Int), .int .i64 (x.bx : Int), .int .i64 (x.fi : Int), .int .i64 (x.po : Int), .int .i64 (x.ev : Int), hdV h2].toArray 55)) = V at *
  have x0 := HP1.out.cell 0 _ rfl
  have y0 := HP2.out.cell 0 _ rfl
  have x1 := HP1.out.cell 1 _ rfl
  have y1 := HP2.out.cell 1 _ rfl
  have x2 := HP1.out.cell 2 _ rfl
  have y2 := HP2.out.cell 2 _ rfl
  have x3 := HP1.out.cell 3 _ rfl
  have y3 := HP2.out.cell 3 _ rfl
  have x4 := HP1.out.cell 4 _ rfl
  have y4 := HP2.out.cell 4 _ rfl
  have x5 := HP1.out.cell 5 _ rfl
  have y5 := HP2.out.cell 5 _ rfl
  have hii : ∀ z : Int, (z != z) = false := fun z => by simp
  clear hb0 g1 g2
  go_enter Tryz.func38, Tryz.ntmps38
  try rw [hV]
  go_wp2_with fail
  refine (HC.out V).mono ?_
  rintro o w1 ⟨rfl, hb1⟩
  have u5 := (HP1.out.below hb1).cell 5 _ rfl
  have t5 := (HP2.out.below hb1).cell 5 _ rfl
  have HB1 := hidYY (HB0.out.trans (hb1.mono HB0.out.size))
  clear hb1
  go_wp2_with fail
  refine (HE.out w1 HB1.out).mono ?_
  rintro o w2 ⟨rfl, hb2⟩
  have HB2 := hidYY (HB1.out.trans (hb2.mono HB1.out.size))
  clear hb2
  go_wp2_with fail
  go_ret
  exact ⟨rfl, HB2.out⟩
set_option maxHeartbeats 8000000 in
set_option maxRecDepth 20000 in
theorem eqOrderS_same (w : World) (B1 B2 : Nat) (v1 v2 : Value) (r1 r2 : List (Od × Hd)) (h1 : rcR kO B1 v1 r1 w) (h2 : rcR kO B2 v2 r2 w) (he : r1.map (·.1) = r2.map (·.1)) (hs : ∀ x ∈ r1.map (·.1), (∀ y ∈ x.d, y < 256) ∧ x.d.length ≤ 8) (hn : r1.length ≤ 100000) :
    Calls Tryz.prog 17 #[v1, v2] w fun o w' => o = .returned (.bool true) ∧ Below w.heap.size w w' := by
  have hl : r1.length = r2.length := by have := congrArg List.length he; simpa using this
  rcases h1.len with ⟨rfl, rfl⟩ | ⟨g1, k1, rfl, hk1⟩
  · have h20 : r2 = [] := by
      cases r2 with
      | nil => rfl
      | cons a l => simp at hl
    subst h20
    obtain ⟨n2, k2, a2, e2⟩ : ∃ (n2 k2 : Nat) (a2 : Option Addr), v2 = .slice a2 n2 k2 ∧ n2 = 0 := by
      rcases h2.len with ⟨rfl, _⟩ | ⟨g, k, rfl, _⟩
      · exact ⟨0, 0, _, rfl, rfl⟩
      · exact ⟨_, k, _, rfl, rfl⟩
    obtain ⟨rfl, rfl⟩ := e2
    clear h1 h2 he hs hl
    go_enter Tryz.func17, Tryz.ntmps17
    go_wp2
    go_loopw [5] (fun i wr => i = .int .i64 0 ∧ wr = w) (fun _ _ => 0)
    case atStart => exact ⟨rfl, rfl⟩
    case round =>
      obtain ⟨rfl, rfl⟩ := hrel
      go_wp2
      go_ret
      exact ⟨rfl, Below.refl _ _⟩
  · obtain ⟨n2, k2, a2, e2, hz2⟩ : ∃ (n2 k2 : Nat) (a2 : Option Addr), v2 = .slice a2 n2 k2 ∧ n2 = r1.length := by
      rcases h2.len with ⟨rfl, rfl⟩ | ⟨g, k, rfl, _⟩
      · exact ⟨0, 0, _, rfl, by simpa using hl.symm⟩
      · exact ⟨_, k, _, rfl, hl.symm⟩
    obtain ⟨n1, en1⟩ : ∃ n1, r1.length = n1 := ⟨_, rfl⟩
    have HH1 := hidYY h1
    have HH2 := hidYY h2
    have HHE := hidYY he
    have HHS := hidYY hs
    have HHN := hidYY en1
    have HHL := hidYY hl
    subst e2
    rw [en1] at hz2 hk1 hn
    subst hz2
    rw [en1]
    clear h1 h2 he hs hl en1
    go_enter Tryz.func17, Tryz.ntmps17
    go_wp2
    go_loopw [5] (fun i wr => ∃ k : Nat, k ≤ n2 ∧ i = .int .i64 (k : Int) ∧ Hid (Below w.heap.size w wr)) (fun i _ => n2 - (intOf i).toNat)
    case atStart => exact ⟨0, Nat.zero_le _, rfl, Below.refl _ _⟩
    case round =>
      obtain ⟨k, hk, rfl, HB⟩ := hrel
      by_cases hlt : k < n2
      · have hk1' : k < r1.length := by rw [HHN.out]; exact hlt
        have hk2' : k < r2.length := by rw [← HHL.out]; exact hk1'
        obtain ⟨g2, rfl⟩ : ∃ g2, a2 = some ⟨g2, 0, none⟩ := by
          rcases HH2.out.len with ⟨_, e⟩ | ⟨g, k', e, _⟩
          · rw [e] at hk2'; cases hk2'
          · injection e with e1 _ _; exact ⟨g, e1⟩
        have q1 := HH1.out.rng (fun _ _ => rfl) k hk1'
        have q2 := HH2.out.rng (fun _ _ => rfl) k hk2'
        have hx : r1[k].1 = r2[k].1 := by
          have e := congrArg (fun l => l[k]?) HHE.out
          simp only [List.getElem?_map, List.getElem?_eq_getElem hk1', List.getElem?_eq_getElem hk2', Option.map_some] at e
          exact Option.some.inj e
        have hmem : r1[k].1 ∈ r1.map (·.1) := List.mem_map_of_mem (List.getElem_mem hk1')
        have hb1 := HH1.out.dat r1[k] (List.getElem_mem hk1')
        have hb2 := HH2.out.dat r2[k] (List.getElem_mem hk2')
        have hss := HHS.out _ hmem
        generalize r1[k] = x1 at *
        generalize r2[k] = x2 at *
        obtain ⟨x, d1⟩ := x1
        obtain ⟨x', d2⟩ := x2
        have exx : x = x' := hx
        subst exx
        have hb1' := own_bytesK hb1 hss.1
        have hb2' := own_bytesK hb2 hss.1
        have up : ∀ {g o : Nat} {cs : List Value}, w.rangeAt g o cs → (World.drew wr).rangeAt g o cs := fun h t u hu => (HB.out.drew.cell (by exact World.block_lt_of_cell? w _ (h t u hu))).trans (h t u hu)
        have HQ1 : Hid ((World.drew wr).rangeAt g1 (k * 11) [.int .i64 (x.tick : Int), .int .i64 (x.op : Int), .int .i64 (x.node : Int), .int .i64 (x.tag : Int), .bool x.e, .int .u32 (x.id : Int), .bool x.r, .int .i64 (x.dlc : Int), hdV d1, .int .i64 (x.fr : Int), .int .i64 (x.ct : Int)]) := up q1
        have HQ2 : Hid ((World.drew wr).rangeAt g2 (k * 11) [.int .i64 (x.tick : Int), .int .i64 (x.op : Int), .int .i64 (x.node : Int), .int .i64 (x.tag : Int), .bool x.e, .int .u32 (x.id : Int), .bool x.r, .int .i64 (x.dlc : Int), hdV d2, .int .i64 (x.fr : Int), .int .i64 (x.ct : Int)]) := up q2
        have HE := hidYY (eqOrder_same (World.drew wr) x d1 d2 (hb1'.below HB.out.drew) (hb2'.below HB.out.drew) (by have := hb1'.len; simp only at this hss; omega))
        have HBD : Hid (Below w.heap.size w (World.drew wr)) := HB.out.drew
        clear q1 q2 hx hmem hb1 hb2 hb1' hb2' hss up hk1' hk2' HH1 HH2
        go_wp2_with fail
        refine wp_region_still_tail 8 (by kernel_rfl) (by kernel_rfl) ?_
        change wpStill Tryz.prog _ (World.drew wr) (fun a' => wpList Tryz.prog _ _ _ a' (World.drew wr)) _ _
        generalize World.drew wr = v0 at *
        simp only [List.take_succ_cons, List.take_zero, List.drop_succ_cons, List.drop_zero]
        still_step
        still_step
        still_step
        refine wpStill_load_mid (by rfl) 67 _ rfl g1 (k * 11) (by rfl) [.int .i64 (x.tick : Int), .int .i64 (x.op : Int), .int .i64 (x.node : Int), .int .i64 (x.tag : Int), .bool x.e, .int .u32 (x.id : Int), .bool x.r, .int .i64 (x.dlc : Int), hdV d1, .int .i64 (x.fr : Int), .int .i64 (x.ct : Int)] _ HQ1.out Tryz.underlying67 rfl sz67 ?_
        still_step
        still_step
        still_step
        refine wpStill_load_mid (by rfl) 67 _ rfl g2 (k * 11) (by rfl) [.int .i64 (x.tick : Int), .int .i64 (x.op : Int), .int .i64 (x.node : Int), .int .i64 (x.tag : Int), .bool x.e, .int .u32 (x.id : Int), .bool x.r, .int .i64 (x.dlc : Int), hdV d2, .int .i64 (x.fr : Int), .int .i64 (x.ct : Int)] _ HQ2.out Tryz.underlying67 rfl sz67 ?_
        refine wpStill_nil ?_
        go_wp2_with fail
        refine HE.out.mono ?_
        rintro o w5 ⟨rfl, hb5⟩
        have HB5 := hidYY (HBD.out.trans (hb5.mono HBD.out.size))
        clear hb5
        go_wp2_with fail
        go_roundw
        case rel => exact ⟨k + 1, by omega, by go_num, HB5.out⟩
        case measure => simp [intOf]; omega
      · have hkn : n2 = k := by omega
        subst hkn
        go_wp2
        go_ret
        exact ⟨rfl, HB.out⟩
set_option maxHeartbeats 8000000 in
set_option maxRecDepth 20000 in
theorem eqSetupS_same (w : World) (B1 B2 : Nat) (v1 v2 : Value) (r1 r2 : List (Su × Hd)) (h1 : rcR kS B1 v1 r1 w) (h2 : rcR kS B2 v2 r2 w) (he : r1.map (·.1) = r2.map (·.1)) (hs : ∀ x ∈ r1.map (·.1), x.fs.length ≤ 16) (hn : r1.length ≤ 100000) :
    Calls Tryz.prog 16 #[v1, v2] w fun o w' => o = .returned (.bool true) ∧ Below w.heap.size w w' := by
  have hl : r1.length = r2.length := by have := congrArg List.length he; simpa using this
  rcases h1.len with ⟨rfl, rfl⟩ | ⟨g1, k1, rfl, hk1⟩
  · have h20 : r2 = [] := by
      cases r2 with
      | nil => rfl
      | cons a l => simp at hl
    subst h20
    obtain ⟨n2, k2, a2, e2⟩ : ∃ (n2 k2 : Nat) (a2 : Option Addr), v2 = .slice a2 n2 k2 ∧ n2 = 0 := by
      rcases h2.len with ⟨rfl, _⟩ | ⟨g, k, rfl, _⟩
      · exact ⟨0, 0, _, rfl, rfl⟩
      · exact ⟨_, k, _, rfl, rfl⟩
    obtain ⟨rfl, rfl⟩ := e2
    clear h1 h2 he hs hl
    go_enter Tryz.func16, Tryz.ntmps16
    go_wp2
    go_loopw [5] (fun i wr => i = .int .i64 0 ∧ wr = w) (fun _ _ => 0)
    case atStart => exact ⟨rfl, rfl⟩
    case round =>
      obtain ⟨rfl, rfl⟩ := hrel
      go_wp2
      go_ret
      exact ⟨rfl, Below.refl _ _⟩
  · obtain ⟨n2, k2, a2, e2, hz2⟩ : ∃ (n2 k2 : Nat) (a2 : Option Addr), v2 = .slice a2 n2 k2 ∧ n2 = r1.length := by
      rcases h2.len with ⟨rfl, rfl⟩ | ⟨g, k, rfl, _⟩
      · exact ⟨0, 0, _, rfl, by simpa using hl.symm⟩
      · exact ⟨_, k, _, rfl, hl.symm⟩
    obtain ⟨n1, en1⟩ : ∃ n1, r1.length = n1 := ⟨_, rfl⟩
    have HH1 := hidYY h1
    have HH2 := hidYY h2
    have HHE := hidYY he
    have HHS := hidYY hs
    have HHN := hidYY en1
    have HHL := hidYY hl
    subst e2
    rw [en1] at hz2 hk1 hn
    subst hz2
    rw [en1]
    clear h1 h2 he hs hl en1
    go_enter Tryz.func16, Tryz.ntmps16
    go_wp2
    go_loopw [5] (fun i wr => ∃ k : Nat, k ≤ n2 ∧ i = .int .i64 (k : Int) ∧ Hid (Below w.heap.size w wr)) (fun i _ => n2 - (intOf i).toNat)
    case atStart => exact ⟨0, Nat.zero_le _, rfl, Below.refl _ _⟩
    case round =>
      obtain ⟨k, hk, rfl, HB⟩ := hrel
      by_cases hlt : k < n2
      · have hk1' : k < r1.length := by rw [HHN.out]; exact hlt
        have hk2' : k < r2.length := by rw [← HHL.out]; exact hk1'
        obtain ⟨g2, rfl⟩ : ∃ g2, a2 = some ⟨g2, 0, none⟩ := by
          rcases HH2.out.len with ⟨_, e⟩ | ⟨g, k', e, _⟩
          · rw [e] at hk2'; cases hk2'
          · injection e with e1 _ _; exact ⟨g, e1⟩
        have q1 := HH1.out.rng (fun _ _ => rfl) k hk1'
        have q2 := HH2.out.rng (fun _ _ => rfl) k hk2'
        have hx : r1[k].1 = r2[k].1 := by
          have e := congrArg (fun l => l[k]?) HHE.out
          simp only [List.getElem?_map, List.getElem?_eq_getElem hk1', List.getElem?_eq_getElem hk2', Option.map_some] at e
          exact Option.some.inj e
        have hmem : r1[k].1 ∈ r1.map (·.1) := List.mem_map_of_mem (List.getElem_mem hk1')
        have hb1 := HH1.out.dat r1[k] (List.getElem_mem hk1')
        have hb2 := HH2.out.dat r2[k] (List.getElem_mem hk2')
        have hss := HHS.out _ hmem
        generalize r1[k] = x1 at *
        generalize r2[k] = x2 at *
        obtain ⟨x, d1⟩ := x1
        obtain ⟨x', d2⟩ := x2
        have exx : x = x' := hx
        subst exx
        have hb1' := own_isR3s hb1
        have hb2' := own_isR3s hb2
        have up : ∀ {g o : Nat} {cs : List Value}, w.rangeAt g o cs → (World.drew wr).rangeAt g o cs := fun h t u hu => (HB.out.drew.cell (by exact World.block_lt_of_cell? w _ (h t u hu))).trans (h t u hu)
        have HQ1 : Hid ((World.drew wr).rangeAt g1 (k * 6) [.int .i64 (x.kind : Int), .int .i64 (x.bx : Int), .int .i64 (x.fi : Int), .int .i64 (x.po : Int), .int .i64 (x.ev : Int), hdV d1]) := up q1
        have HQ2 : Hid ((World.drew wr).rangeAt g2 (k * 6) [.int .i64 (x.kind : Int), .int .i64 (x.bx : Int), .int .i64 (x.fi : Int), .int .i64 (x.po : Int), .int .i64 (x.ev : Int), hdV d2]) := up q2
        have HE := hidYY (eqSetup_same (World.drew wr) x d1 d2 (hb1'.below HB.out.drew) (hb2'.below HB.out.drew) (by have := hb1'.len; simp only at this hss; omega))
        have HBD : Hid (Below w.heap.size w (World.drew wr)) := HB.out.drew
        clear q1 q2 hx hmem hb1 hb2 hb1' hb2' hss up hk1' hk2' HH1 HH2
        go_wp2_with fail
        refine wp_region_still_tail 8 (by kernel_rfl) (by kernel_rfl) ?_
        change wpStill Tryz.prog _ (World.drew wr) (fun a' => wpList Tryz.prog _ _ _ a' (World.drew wr)) _ _
        generalize World.drew wr = v0 at *
        simp only [List.take_succ_cons, List.take_zero, List.drop_succ_cons, List.drop_zero]
        still_step
        still_step
        still_step
        refine wpStill_load_mid (by rfl) 55 _ rfl g1 (k * 6) (by rfl) [.int .i64 (x.kind : Int), .int .i64 (x.bx : Int), .int .i64 (x.fi : Int), .int .i64 (x.po : Int), .int .i64 (x.ev : Int), hdV d1] _ HQ1.out Tryz.underlying55 rfl sz55 ?_
        still_step
        still_step
        still_step
        refine wpStill_load_mid (by rfl) 55 _ rfl g2 (k * 6) (by rfl) [.int .i64 (x.kind : Int), .int .i64 (x.bx : Int), .int .i64 (x.fi : Int), .int .i64 (x.po : Int), .int .i64 (x.ev : Int), hdV d2] _ HQ2.out Tryz.underlying55 rfl sz55 ?_
        refine wpStill_nil ?_
        go_wp2_with fail
        refine HE.out.mono ?_
        rintro o w5 ⟨rfl, hb5⟩
        have HB5 := hidYY (HBD.out.trans (hb5.mono HBD.out.size))
        clear hb5
        go_wp2_with fail
        go_roundw
        case rel => exact ⟨k + 1, by omega, by go_num, HB5.out⟩
        case measure => simp [intOf]; omega
      · have hkn : n2 = k := by omega
        subst hkn
        go_wp2
        go_ret
        exact ⟨rfl, HB.out⟩
theorem ownsRow_set {w : World} {B E sz g n k : Nat} {xs : List Value} (h : w.ownsRow B E sz (.slice (some ⟨g, 0, none⟩) n k) n xs) (i : Nat) (v : Value) : (w.setCell ⟨g, i, none⟩ v).ownsRow B E sz (.slice (some ⟨g, 0, none⟩) n k) n (xs.set i v) := by
  obtain ⟨h1, ⟨e, _⟩ | ⟨g', cap, cur, e, hb, hg, hc, hm, hs, ht⟩⟩ := h
  · cases e
  · cases e
    have hbl : blk w g cur.toList E := by unfold blk; simpa using hg
    have := hbl.set i v
    refine ⟨by rw [List.length_set]; exact h1, .inr ⟨g, k, (cur.toList.set i v).toArray, rfl, hb, this, hc, hm, by simpa using hs, ?_⟩⟩
    rw [← ht]
    simp [List.take_set]
theorem flat_set {α : Type} (f : α → List Value) (sz : Nat) (hf : ∀ p, (f p).length = sz) : ∀ (rs : List α) (n : Nat) (hn : n < rs.length) (r' : α) (o : Nat) (v : Value), o < sz → f r' = (f rs[n]).set o v → (rs.set n r').flatMap f = (rs.flatMap f).set (n * sz + o) v := by
  intro rs
  induction rs with
  | nil => intro n h; exact absurd h (Nat.not_lt_zero _)
  | cons p rs ih =>
    intro n hn r' o v ho he
    cases n with
    | zero =>
      have he' : f r' = (f p).set o v := he
      rw [List.set_cons_zero, List.flatMap_cons, List.flatMap_cons, Nat.zero_mul, Nat.zero_add, List.set_append_left _ _ (by rw [hf]; exact ho), he']
    | succ n =>
      have hn' : n < rs.length := by simpa using hn
      rw [List.set_cons_succ, List.flatMap_cons, List.flatMap_cons, ih n hn' r' o v ho he, List.set_append_right _ _ (by rw [hf, Nat.succ_mul]; omega), hf]
      congr 2
      rw [Nat.succ_mul]
      omega
/-- one record's row grown, and its header put back -/
theorem rcR.upd {α : Type} {K : Kn α} {B g k : Nat} {rs : List (α × Hd)} {W V : World} (h : rcR K B (.slice (some ⟨g, 0, none⟩) rs.length k) rs W) (hne : K.TD ≠ K.T) (hlen : ∀ a d, (K.enc a d).length = K.k) (n : Nat) (hn : n < rs.length) (r' : α × Hd) (o : Nat) (v : Value) (ho : o < K.k) (he : K.enc r'.1 r'.2 = (K.enc rs[n].1 rs[n].2).set o v)
    (hr : V.ownsRow B K.TD K.kD (hdV r'.2) (K.dn r'.1) (K.dv r'.1)) (hg : W.grownBy V (hdV rs[n].2).ownBlock) (hb : r'.2.1 = rs[n].2.1 ∨ ∃ b, r'.2.1 = some ⟨b, 0, none⟩ ∧ W.heap.size ≤ b) :
    rcR K B (.slice (some ⟨g, 0, none⟩) rs.length k) (rs.set n r') (V.setCell ⟨g, n * K.k + o, none⟩ v) := by
  obtain ⟨cg, hcg⟩ := ownsRow_kind h.own rfl
  have hdn := h.dat rs[n] (List.getElem_mem hn)
  have hgn : (hdV rs[n].2).ownBlock ≠ some g := fun e => by
    rcases ownsRow_shape hdn with ⟨e2, _⟩ | ⟨b, c, e2, _⟩
    · rw [e2] at e; cases e
    · obtain ⟨c2, hc2⟩ := ownsRow_kind hdn e2
      rw [e2] at e
      cases e
      rw [hcg] at hc2
      injection hc2 with hc2
      injection hc2 with _ hc2 _
      exact hne hc2.symm
  have hVg : V.heap[g]? = W.heap[g]? := hg.block g (lt_of_some hcg) (fun e => hgn e.symm)
  have hset : ∀ {m : Nat} {x : Value} {xs : List Value}, V.ownsRow B K.TD K.kD x m xs → (V.setCell ⟨g, n * K.k + o, none⟩ v).ownsRow B K.TD K.kD x m xs := fun hh => ownsRow_at hh fun b c e => by
    obtain ⟨c2, hc2⟩ := ownsRow_kind hh e
    refine heap_setCell_other _ _ _ _ ?_
    show b ≠ g
    intro e3
    subst e3
    rw [hVg, hcg] at hc2
    injection hc2 with hc2
    injection hc2 with _ hc2 _
    exact hne hc2.symm
  have hdis := List.pairwise_iff_getElem.1 h.dis
  have hother : ∀ j (hj : j < rs.length), j ≠ n → V.ownsRow B K.TD K.kD (hdV rs[j].2) (K.dn rs[j].1) (K.dv rs[j].1) := fun j hj hjn => ownsRow_at (h.dat rs[j] (List.getElem_mem hj)) fun b c e => by
    obtain ⟨c2, hc2⟩ := ownsRow_kind (h.dat rs[j] (List.getElem_mem hj)) e
    refine hg.block b (lt_of_some hc2) fun e3 => ?_
    have ej : rs[j].2.1 = some ⟨b, 0, none⟩ := by injection e
    have en : rs[n].2.1 = some ⟨b, 0, none⟩ := by
      rcases ownsRow_shape hdn with ⟨e2, _⟩ | ⟨b', c', e2, _⟩
      · rw [e2] at e3; cases e3
      · have e2' := e2
        injection e2' with e4 _ _
        rw [e2] at e3
        cases e3
        exact e4
    rcases Nat.lt_or_gt_of_ne hjn with hl | hl
    · exact hdis j n hj hn hl _ ej en
    · exact hdis n j hn hj hl _ en ej
  refine ⟨?_, fun r hr' => ?_, ?_⟩
  · have h1 : V.ownsRow B K.T K.k (.slice (some ⟨g, 0, none⟩) rs.length k) rs.length (rs.flatMap fun r => K.enc r.1 r.2) := ownsRow_at h.own fun b c e => by cases e; exact hVg
    have h2 := ownsRow_set h1 (n * K.k + o) v
    rw [← flat_set (fun r : α × Hd => K.enc r.1 r.2) K.k (fun r => hlen r.1 r.2) rs n hn r' o v ho he] at h2
    rw [List.length_set]
    exact h2
  · obtain ⟨j, hj, rfl⟩ := List.getElem_of_mem hr'
    have hj' : j < rs.length := by simpa using hj
    by_cases e : j = n
    · subst e
      rw [List.getElem_set_self]
      exact hset hr
    · rw [List.getElem_set_ne (fun h => e h.symm)]
      exact hset (hother j hj' e)
  · refine List.pairwise_iff_getElem.2 fun i j hi hj hij x hx hx2 => ?_
    have hi' : i < rs.length := by simpa using hi
    have hj' : j < rs.length := by simpa using hj
    have hlt : ∀ m (hm : m < rs.length) b, rs[m].2.1 = some ⟨b, 0, none⟩ → b < W.heap.size := fun m hm b hb => by
      have e : hdV rs[m].2 = .slice (some ⟨b, 0, none⟩) rs[m].2.2.1 rs[m].2.2.2 := by simp only [hdV, hb]
      exact (ownsRow_lt (h.dat rs[m] (List.getElem_mem hm)) e).1
    by_cases e1 : i = n
    · subst e1
      rw [List.getElem_set_self] at hx
      rw [List.getElem_set_ne (by omega)] at hx2
      rcases hb with hb | ⟨b, hb, hbs⟩
      · rw [hb] at hx
        exact hdis i j hi' hj' hij x hx hx2
      · rw [hb] at hx
        cases hx
        have := hlt j hj' b hx2
        omega
    · by_cases e2 : j = n
      · subst e2
        rw [List.getElem_set_self] at hx2
        rw [List.getElem_set_ne (fun h => e1 h.symm)] at hx
        rcases hb with hb | ⟨b, hb, hbs⟩
        · rw [hb] at hx2
          exact hdis i j hi' hj' hij x hx hx2
        · rw [hb] at hx2
          cases hx2
          have := hlt i hi' b hx
          omega
      · rw [List.getElem_set_ne (fun h => e1 h.symm)] at hx
        rw [List.getElem_set_ne (fun h => e2 h.symm)] at hx2
        exact hdis i j hi' hj' hij x hx hx2
/-- the script S as a value of its own memory -/
structure isSc (B : Nat) (us : List (Su × Hd)) (os : List (Od × Hd)) (h1 h2 : Hd) (S : Sc) (W : World) : Prop where
  su : rcR kS B (hdV h1) us W
  od : rcR kO B (hdV h2) os W
  eu : us.map (·.1) = S.su
  eo : os.map (·.1) = S.od
/-- what a script's numbers keep to -/
structure finS (S : Sc) : Prop where
  su : S.su.length ≤ 32
  od : S.od.length ≤ 500
  fl : ∀ x ∈ S.su, x.fs.length ≤ 16
  da : ∀ x ∈ S.od, (∀ y ∈ x.d, y < 256) ∧ x.d.length ≤ 8
theorem isSc.below {B : Nat} {us : List (Su × Hd)} {os : List (Od × Hd)} {h1 h2 : Hd} {S : Sc} {W V : World} (h : isSc B us os h1 h2 S W) (hb : Below W.heap.size W V) : isSc B us os h1 h2 S V := ⟨h.su.below hb, h.od.below hb, h.eu, h.eo⟩
set_option maxHeartbeats 4000000 in
set_option maxRecDepth 20000 in
/-- laws.eqScript -/
theorem eqScript_same (c l t : Int) (S : Sc) (hf : finS S) (B1 B2 : Nat) (us us' : List (Su × Hd)) (os os' : List (Od × Hd)) (h1 h2 h1' h2' : Hd) (w : World) (g1 : isSc B1 us os h1 h2 S w) (g2 : isSc B2 us' os' h1' h2' S w) :
    Calls Tryz.prog 6 #[scV c l h1 h2 t, scV c l h1' h2' t] w fun o w' => o = .returned (.bool true) ∧ Below w.heap.size w w' := by
  have ecc : (c != c) = false := by simp
  have ell : (l != l) = false := by simp
  have ett : (t != t) = false := by simp
  have hb0 : Below w.heap.size w ((w.alloc (.cells (scL c l h1 h2 t).toArray 25)).alloc (.cells (scL c l h1' h2' t).toArray 25)) := ((Below.refl _ _).alloc (Nat.le_refl _) _).alloc (by simp) _
  have HP1 := hidYY ((blk.new w (scL c l h1 h2 t) 25).alloc (.cells (scL c l h1' h2' t).toArray 25))
  have HP2 : Hid (blk ((w.alloc (.cells (scL c l h1 h2 t).toArray 25)).alloc (.cells (scL c l h1' h2' t).toArray 25)) (w.heap.size + 1) (scL c l h1' h2' t) 25) := by
    have := blk.new (w.alloc (.cells (scL c l h1 h2 t).toArray 25)) (scL c l h1' h2' t) 25
    have e1 : (w.alloc (.cells (scL c l h1 h2 t).toArray 25)).heap.size = w.heap.size + 1 := by simp
    rw [e1] at this
    exact this
  have HES := hidYY (fun V (hV : Below w.heap.size w V) => eqSetupS_same V B1 B2 (hdV h1) (hdV h1') us us' (g1.su.below hV) (g2.su.below hV) (g1.eu.trans g2.eu.symm) (by rw [g1.eu]; exact hf.fl) (by have e := congrArg List.length g1.eu; rw [List.length_map] at e; have := hf.su; omega))
  have HEO := hidYY (fun V (hV : Below w.heap.size w V) => eqOrderS_same V B1 B2 (hdV h2) (hdV h2') os os' (g1.od.below hV) (g2.od.below hV) (g1.eo.trans g2.eo.symm) (by rw [g1.eo]; exact hf.da) (by have e := congrArg List.length g1.eo; rw [List.length_map] at e; have := hf.od; omega))
  have HB0 := hidYY hb0
  generalize hV : ((w.alloc (.cells (scL c l h1 h2 t).toArray 25)).alloc (.cells (scL c l h1' h2' t).toArray 25)) = V at *
  have x0 := HP1.out.cell 0 _ rfl
  have y0 := HP2.out.cell 0 _ rfl
  have x1 := HP1.out.cell 1 _ rfl
  have y1 := HP2.out.cell 1 _ rfl
  have x2 := HP1.out.cell 2 _ rfl
  have y2 := HP2.out.cell 2 _ rfl
  clear hb0 g1 g2
  go_enter Tryz.func6, Tryz.ntmps6
  try rw [hV]
  go_wp2_with fail
  refine (HES.out V HB0.out).mono ?_
  rintro o w1 ⟨rfl, hb1⟩
  have x3 := (HP1.out.below hb1).cell 3 _ rfl
  have y3 := (HP2.out.below hb1).cell 3 _ rfl
  have HB1 := hidYY (HB0.out.trans (hb1.mono HB0.out.size))
  have HQ1 := hidYY (HP1.out.below hb1)
  have HQ2 := hidYY (HP2.out.below hb1)
  clear hb1
  go_wp2_with fail
  refine (HEO.out w1 HB1.out).mono ?_
  rintro o w2 ⟨rfl, hb2⟩
  have x4 := (HQ1.out.below hb2).cell 4 _ rfl
  have y4 := (HQ2.out.below hb2).cell 4 _ rfl
  have HB2 := hidYY (HB1.out.trans (hb2.mono HB1.out.size))
  clear hb2
  go_wp2_with fail
  go_ret
  exact ⟨rfl, HB2.out⟩
end Go.Proofs.YtfbeaekddgpmmaaGreatDoor
namespace Go.Proofs.YtfbeaekddgpmmaaGreatDoor
open Go.RowKit Kd H
set_option linter.unusedVariables false
/-- the blocks of a row and of what hangs on it -/
def bkR {α : Type} (h : Hd) (rs : List (α × Hd)) (x : Nat) : Prop := h.1 = some ⟨x, 0, none⟩ ∨ ∃ r ∈ rs, r.2.1 = some ⟨x, 0, none⟩
theorem rcR.kinds {α : Type} {K : Kn α} {B : Nat} {h : Hd} {rs : List (α × Hd)} {W : World} (H : rcR K B (hdV h) rs W) {x : Nat} (hx : bkR h rs x) : B ≤ x ∧ ∃ c T, W.heap[x]? = some (Obj.cells c T (0, 0)) ∧ (T = K.T ∨ T = K.TD) := by
  rcases hx with hx | ⟨r, hr, hx⟩
  · have e : hdV h = .slice (some ⟨x, 0, none⟩) h.2.1 h.2.2 := by simp only [hdV, hx]
    obtain ⟨c, hc⟩ := ownsRow_kind H.own e
    exact ⟨(ownsRow_lt H.own e).2, c, _, hc, .inl rfl⟩
  · have e : hdV r.2 = .slice (some ⟨x, 0, none⟩) r.2.2.1 r.2.2.2 := by simp only [hdV, hx]
    obtain ⟨c, hc⟩ := ownsRow_kind (H.dat r hr) e
    exact ⟨(ownsRow_lt (H.dat r hr) e).2, c, _, hc, .inr rfl⟩
theorem rcR.same {α : Type} {K : Kn α} {B : Nat} {h : Hd} {rs : List (α × Hd)} {W V : World} (H : rcR K B (hdV h) rs W) (hs : ∀ x, bkR h rs x → V.heap[x]? = W.heap[x]?) : rcR K B (hdV h) rs V :=
  ⟨ownsRow_at H.own fun g k e => hs g (.inl (by injection e with e _ _)), fun r hr => ownsRow_at (H.dat r hr) fun g k e => hs g (.inr ⟨r, hr, by injection e with e _ _⟩), H.dis⟩
/-- the headers of a row's records -/
def hsOf {α : Type} (rs : List (α × Hd)) (j : Nat) : Hd := (rs.map (·.2)).getD j (none, 0, 0)
theorem hsOf_at {α : Type} (rs : List (α × Hd)) (j : Nat) (hj : j < rs.length) : hsOf rs j = rs[j].2 := by simp [hsOf, List.getD, hj]
theorem rcR.dst {α : Type} {K : Kn α} {B : Nat} {v : Value} {rs : List (α × Hd)} {W : World} (H : rcR K B v rs W) : Go.Proofs.YtfbeaekddgpmmaaGreatDoor.dst (hsOf rs) rs.length := by
  intro i j hij hj b hb
  rw [hsOf_at rs i (by omega)] at hb
  rw [hsOf_at rs j hj]
  exact List.pairwise_iff_getElem.1 H.dis i j (by omega) hj hij _ hb
theorem rcR.abv {α : Type} {K : Kn α} {B : Nat} {h : Hd} {rs : List (α × Hd)} {W : World} (H : rcR K B (hdV h) rs W) : Go.Proofs.YtfbeaekddgpmmaaGreatDoor.abv B (hsOf rs) rs.length := by
  intro j hj b hb
  rw [hsOf_at rs j hj] at hb
  exact (H.kinds (.inr ⟨_, List.getElem_mem hj, hb⟩)).1
theorem rcR.rowF {α : Type} {K : Kn α} {B g k : Nat} {rs : List (α × Hd)} {W : World} (H : rcR K B (.slice (some ⟨g, 0, none⟩) rs.length k) rs W) : Go.Proofs.YtfbeaekddgpmmaaGreatDoor.rowF W g (rs.length * K.k) := fun t ht => by
  refine ⟨?_, World.ownsRow.frozenAt H.own t⟩
  have hl := H.own.1
  rw [World.ownsRow.cellAt H.own t ht]
  exact ⟨_, List.getElem?_eq_getElem (by omega)⟩
theorem rcR.hdat {α : Type} {K : Kn α} {B g k : Nat} {rs : List (α × Hd)} {W : World} (H : rcR K B (.slice (some ⟨g, 0, none⟩) rs.length k) rs W) (hne : K.TD ≠ K.T) (j : Nat) (hj : j < rs.length) : (hsOf rs j).2.1 = K.dn rs[j].1 ∧ (hsOf rs j).2.1 ≤ (hsOf rs j).2.2 ∧ (((hsOf rs j).1 = none ∧ (hsOf rs j).2.1 = 0) ∨ ∃ b, (hsOf rs j).1 = some ⟨b, 0, none⟩ ∧ b ≠ g ∧ Go.Proofs.YtfbeaekddgpmmaaGreatDoor.Kd.rowZ W b ((hsOf rs j).2.1 * K.kD)) := by
  rw [hsOf_at rs j hj]
  have hd := H.dat rs[j] (List.getElem_mem hj)
  rcases ownsRow_shape hd with ⟨e, e2⟩ | ⟨b, c, e, hb, hlt, hle⟩
  · injection e with e1 e3 e4
    exact ⟨by omega, by omega, .inl ⟨e1, e3⟩⟩
  · have e' := e
    injection e with e1 e3 e4
    refine ⟨e3, by omega, .inr ⟨b, e1, fun hbg => ?_, ?_⟩⟩
    · subst hbg
      obtain ⟨c1, hc1⟩ := ownsRow_kind hd e'
      obtain ⟨c2, hc2⟩ := ownsRow_kind H.own rfl
      rw [hc1] at hc2
      injection hc2 with hc2
      injection hc2 with _ hc2 _
      exact hne hc2
    · rw [e'] at hd
      rw [e3]
      refine ⟨fun t ht => ?_, fun t => World.ownsRow.frozenAt hd t⟩
      rw [World.ownsRow.cellAt hd t ht]
      have hl := hd.1
      exact ⟨_, List.getElem?_eq_getElem (by omega)⟩
theorem markSetup_zero (a : Option Addr) (cap : Nat) (c : Int) (w : World) : Calls Tryz.prog 18 #[.slice a 0 cap, .int .i64 c] w fun o w' => o = .returned (.int .i64 c) ∧ w' = w := by
  go_enter Tryz.func18, Tryz.ntmps18
  go_wp2
  go_loopw [1, 5] (fun kk i wr => i = .int .i64 0 ∧ kk = .int .i64 c ∧ wr = w) (fun _ _ _ => 0)
  case atStart => exact ⟨rfl, rfl, rfl⟩
  case round =>
    obtain ⟨rfl, rfl, rfl⟩ := hrel
    go_wp2
    go_ret
    exact ⟨rfl, rfl⟩
theorem heldSetup_zero (a : Option Addr) (cap : Nat) (c : Int) (w : World) : Calls Tryz.prog 20 #[.slice a 0 cap, .int .i64 c] w fun o w' => o = .returned (.int .i64 c) ∧ w' = w := by
  go_enter Tryz.func20, Tryz.ntmps20
  go_wp2
  go_loopw [1, 5] (fun kk i wr => i = .int .i64 0 ∧ kk = .int .i64 c ∧ wr = w) (fun _ _ _ => 0)
  case atStart => exact ⟨rfl, rfl, rfl⟩
  case round =>
    obtain ⟨rfl, rfl, rfl⟩ := hrel
    go_wp2
    go_ret
    exact ⟨rfl, rfl⟩
theorem markOrder_zero (a : Option Addr) (cap : Nat) (c : Int) (w : World) : Calls Tryz.prog 19 #[.slice a 0 cap, .int .i64 c] w fun o w' => o = .returned (.int .i64 c) ∧ w' = w := by
  go_enter Tryz.func19, Tryz.ntmps19
  go_wp2
  go_loopw [1, 5] (fun kk i wr => i = .int .i64 0 ∧ kk = .int .i64 c ∧ wr = w) (fun _ _ _ => 0)
  case atStart => exact ⟨rfl, rfl, rfl⟩
  case round =>
    obtain ⟨rfl, rfl, rfl⟩ := hrel
    go_wp2
    go_ret
    exact ⟨rfl, rfl⟩
theorem heldOrder_zero (a : Option Addr) (cap : Nat) (c : Int) (w : World) : Calls Tryz.prog 21 #[.slice a 0 cap, .int .i64 c] w fun o w' => o = .returned (.int .i64 c) ∧ w' = w := by
  go_enter Tryz.func21, Tryz.ntmps21
  go_wp2
  go_loopw [1, 5] (fun kk i wr => i = .int .i64 0 ∧ kk = .int .i64 c ∧ wr = w) (fun _ _ _ => 0)
  case atStart => exact ⟨rfl, rfl, rfl⟩
  case round =>
    obtain ⟨rfl, rfl, rfl⟩ := hrel
    go_wp2
    go_ret
    exact ⟨rfl, rfl⟩
/-- the setups marked, and held by whoever leaves their blocks alone -/
theorem markU (B : Nat) (h : Hd) (us : List (Su × Hd)) (w : World) (H : rcR kS B (hdV h) us w) (hn : us.length ≤ 32) (hf : ∀ x ∈ us.map (·.1), x.fs.length ≤ 16) :
    Calls Tryz.prog 18 #[hdV h, .int .i64 ((1 : Nat) : Int)] w fun o w' => ∃ m : Nat, o = .returned (.int .i64 (m : Int)) ∧ m ≤ 100000 ∧ (∀ V, (∀ x, bkR h us x → V.heap[x]? = w'.heap[x]?) → Calls Tryz.prog 20 #[hdV h, .int .i64 ((1 : Nat) : Int)] V fun o V' => o = .returned (.int .i64 (m : Int)) ∧ Below V.heap.size V V') ∧ (∀ x, ¬ bkR h us x → w'.heap[x]? = w.heap[x]?) ∧ w'.heap.size = w.heap.size ∧ Below B w w' := by
  by_cases h0 : us.length = 0
  · obtain ⟨a, n, k⟩ := h
    have hn0 : n = 0 := by
      rcases ownsRow_shape H.own with ⟨e, _⟩ | ⟨g, c, e, _⟩
      · injection e
      · injection e with _ e _; simp only at e; omega
    subst hn0
    refine (markSetup_zero a k _ w).mono ?_
    rintro o w' ⟨rfl, rfl⟩
    refine ⟨1, rfl, by omega, fun V hV => (heldSetup_zero a k _ V).mono ?_, fun _ _ => rfl, rfl, Below.refl _ _⟩
    rintro o V' ⟨rfl, rfl⟩
    exact ⟨rfl, Below.refl _ _⟩
  · rcases ownsRow_shape H.own with ⟨_, e⟩ | ⟨g, c, e, hg, hgl, hc⟩
    · exact absurd e h0
    · have e' := e
      have hga : h.1 = some ⟨g, 0, none⟩ := by injection e
      have H' := H
      rw [e] at H'
      have hsh : sh6 w g us.length (hsOf us) := ⟨H'.rowF, fun j hj => ⟨by
        have := H'.rng (fun _ _ => rfl) j hj 5 (hdV us[j].2) rfl
        rw [hsOf_at us j hj]
        exact this, by
        obtain ⟨a1, a2, a3⟩ := H'.hdat (by decide) j hj
        refine ⟨?_, a2, a3⟩
        rw [a1]
        have := hf us[j].1 (List.mem_map_of_mem (List.getElem_mem hj))
        show us[j].1.fs.length ≤ 1000
        omega⟩⟩
      rw [e]
      refine (markSetupS_gen B w g us.length c 1 (hsOf us) hsh hc hn (Nat.le_refl _) hg H.abv H.dst).mono ?_
      rintro o w' ⟨rfl, q1, q2, q3, q4, q5⟩
      have hle := cn6_le 1 us.length (hsOf us) (fun j hj => (hsh.dat j hj).2.1) us.length (Nat.le_refl _)
      have hbk : ∀ x, bkR h us x ↔ x = g ∨ ∃ j, j < us.length ∧ (hsOf us j).1 = some ⟨x, 0, none⟩ := fun x => by
        constructor
        · rintro (hx | ⟨r, hr, hx⟩)
          · rw [hga] at hx
            left
            injection hx with hx
            injection hx with hx
            exact hx.symm
          · obtain ⟨j, hj, rfl⟩ := List.getElem_of_mem hr
            exact .inr ⟨j, hj, by rw [hsOf_at us j hj]; exact hx⟩
        · rintro (rfl | ⟨j, hj, hx⟩)
          · exact .inl hga
          · rw [hsOf_at us j hj] at hx
            exact .inr ⟨_, List.getElem_mem hj, hx⟩
      refine ⟨_, rfl, by omega, fun V hV => ?_, fun x hx => q3 x (fun e => hx ((hbk x).2 (.inl e))) (fun j hj e => hx ((hbk x).2 (.inr ⟨j, hj, e⟩))), q4, q5⟩
      have hVg := hV g ((hbk g).2 (.inl rfl))
      have hVj : ∀ j, j < us.length → ∀ b, (hsOf us j).1 = some ⟨b, 0, none⟩ → V.heap[b]? = w'.heap[b]? := fun j hj b hb => hV b ((hbk b).2 (.inr ⟨j, hj, hb⟩))
      have hgV : g < V.heap.size := by
        have h1 : g < w'.heap.size := by omega
        have : V.heap[g]? = some w'.heap[g] := hVg.trans (Array.getElem?_eq_getElem h1)
        exact (Array.getElem?_eq_some_iff.1 this).1
      exact heldSetupS_gen V g us.length c 1 (hsOf us) (q2.up hVg hVj) (fun j hj => (q1 j hj).up hVg (hVj j hj)) hc hn (Nat.le_refl _) hgV
/-- the orders marked, and held by whoever leaves their blocks alone -/
theorem markO (B : Nat) (h : Hd) (os : List (Od × Hd)) (m0 : Nat) (w : World) (H : rcR kO B (hdV h) os w) (hn : os.length ≤ 500) (hf : ∀ x ∈ os.map (·.1), x.d.length ≤ 8) (hm0 : m0 ≤ 100000) :
    Calls Tryz.prog 19 #[hdV h, .int .i64 (m0 : Int)] w fun o w' => ∃ m : Nat, o = .returned (.int .i64 (m : Int)) ∧ (∀ V, (∀ x, bkR h os x → V.heap[x]? = w'.heap[x]?) → Calls Tryz.prog 21 #[hdV h, .int .i64 (m0 : Int)] V fun o V' => o = .returned (.int .i64 (m : Int)) ∧ V' = V) ∧ (∀ x, ¬ bkR h os x → w'.heap[x]? = w.heap[x]?) ∧ w'.heap.size = w.heap.size ∧ Below B w w' := by
  by_cases h0 : os.length = 0
  · obtain ⟨a, n, k⟩ := h
    have hn0 : n = 0 := by
      rcases ownsRow_shape H.own with ⟨e, _⟩ | ⟨g, c, e, _⟩
      · injection e
      · injection e with _ e _; simp only at e; omega
    subst hn0
    refine (markOrder_zero a k _ w).mono ?_
    rintro o w' ⟨rfl, rfl⟩
    exact ⟨m0, rfl, fun V hV => heldOrder_zero a k _ V, fun _ _ => rfl, rfl, Below.refl _ _⟩
  · rcases ownsRow_shape H.own with ⟨_, e⟩ | ⟨g, c, e, hg, hgl, hc⟩
    · exact absurd e h0
    · have hga : h.1 = some ⟨g, 0, none⟩ := by injection e
      have H' := H
      rw [e] at H'
      have hsh : sh11 w g os.length (hsOf os) := ⟨H'.rowF, fun j hj => ⟨by
        have := H'.rng (fun _ _ => rfl) j hj 8 (hdV os[j].2) rfl
        rw [hsOf_at os j hj]
        exact this, by
        obtain ⟨a1, a2, a3⟩ := H'.hdat (by decide) j hj
        refine ⟨?_, a2, ?_⟩
        · rw [a1]
          have := hf os[j].1 (List.mem_map_of_mem (List.getElem_mem hj))
          show os[j].1.d.length ≤ 1048576
          omega
        · rcases a3 with a3 | ⟨b, e1, e2, e3⟩
          · exact .inl a3
          · exact .inr ⟨b, e1, e2, fun t ht => ⟨e3.cell t (by show t < _ * 1; omega), e3.free t⟩⟩⟩⟩
      rw [e]
      refine (markOrderS_gen B w g os.length c m0 (hsOf os) hsh hc (by omega) (by omega) hg H.abv).mono ?_
      rintro o w' ⟨rfl, q1, q2, q2', q3, q4, q5⟩
      have q1 := q1 H.dst
      have hbk : ∀ x, bkR h os x ↔ x = g ∨ ∃ j, j < os.length ∧ (hsOf os j).1 = some ⟨x, 0, none⟩ := fun x => by
        constructor
        · rintro (hx | ⟨r, hr, hx⟩)
          · rw [hga] at hx
            left
            injection hx with hx
            injection hx with hx
            exact hx.symm
          · obtain ⟨j, hj, rfl⟩ := List.getElem_of_mem hr
            exact .inr ⟨j, hj, by rw [hsOf_at os j hj]; exact hx⟩
        · rintro (rfl | ⟨j, hj, hx⟩)
          · exact .inl hga
          · rw [hsOf_at os j hj] at hx
            exact .inr ⟨_, List.getElem_mem hj, hx⟩
      refine ⟨_, rfl, fun V hV => ?_, fun x hx => q3 x (fun e => hx ((hbk x).2 (.inl e))) (fun j hj e => hx ((hbk x).2 (.inr ⟨j, hj, e⟩))), q4, q5⟩
      have hVg := hV g ((hbk g).2 (.inl rfl))
      have hVj : ∀ j, j < os.length → ∀ b, (hsOf os j).1 = some ⟨b, 0, none⟩ → V.heap[b]? = w'.heap[b]? := fun j hj b hb => hV b ((hbk b).2 (.inr ⟨j, hj, hb⟩))
      refine heldOrderS_gen V g os.length c m0 (hsOf os) ⟨q2.row.up hVg, fun j hj => ⟨cell_up (q2.dat j hj).1 hVg, ?_⟩⟩ (fun j hj => (q1 j hj).up hVg (hVj j hj)) hc (by omega) (by omega)
      obtain ⟨b1, b2, b3⟩ := (q2.dat j hj).2
      refine ⟨b1, b2, ?_⟩
      rcases b3 with b3 | ⟨b, e1, e2, e3⟩
      · exact .inl b3
      · exact .inr ⟨b, e1, e2, e3.up (hVj j hj b e1)⟩
end Go.Proofs.YtfbeaekddgpmmaaGreatDoor
namespace Go.Proofs.YtfbeaekddgpmmaaGreatDoor
open Go.RowKit Kd
set_option linter.unusedVariables false
theorem isSc.apart {B : Nat} {us : List (Su × Hd)} {os : List (Od × Hd)} {h1 h2 : Hd} {S : Sc} {W : World} (h : isSc B us os h1 h2 S W) {x : Nat} (hx : bkR h1 us x) (hy : bkR h2 os x) : False := by
  obtain ⟨_, c, T, e, hT⟩ := h.su.kinds hx
  obtain ⟨_, c', T', e', hT'⟩ := h.od.kinds hy
  rw [e] at e'
  injection e' with e'
  injection e' with _ e' _
  subst e'
  revert hT hT'
  simp only [kS, kO]
  rintro (rfl | rfl) (h | h) <;> cases h
/-- held: what heldScript answers wherever the script's blocks lie as they do here -/
def hldS (c l t : Int) (h1 h2 : Hd) (m : Nat) (w' : World) : Prop := ∀ V, Below w'.heap.size w' V → Calls Tryz.prog 8 #[scV c l h1 h2 t, .int .i64 1] V fun o V' => o = .returned (.int .i64 (m : Int)) ∧ Below V.heap.size V V'
set_option maxHeartbeats 4000000 in
set_option maxRecDepth 20000 in
/-- laws.heldScript -/
theorem heldScript_any (c l t : Int) (h1 h2 : Hd) (m1 m2 : Nat) (w : World) (hU : ∀ V, Below w.heap.size w V → Calls Tryz.prog 20 #[hdV h1, .int .i64 1] V fun o V' => o = .returned (.int .i64 (m1 : Int)) ∧ Below V.heap.size V V') (hO : ∀ V, Below w.heap.size w V → Calls Tryz.prog 21 #[hdV h2, .int .i64 (m1 : Int)] V fun o V' => o = .returned (.int .i64 (m2 : Int)) ∧ V' = V) :
    Calls Tryz.prog 8 #[scV c l h1 h2 t, .int .i64 1] w fun o w' => o = .returned (.int .i64 (m2 : Int)) ∧ Below w.heap.size w w' := by
  have hb0 : Below w.heap.size w (w.alloc (.cells (scL c l h1 h2 t).toArray 25)) := (Below.refl _ _).alloc (Nat.le_refl _) _
  have HP := hidYY (blk.new w (scL c l h1 h2 t) 25)
  have HB0 := hidYY hb0
  have HU := hidYY hU
  have HO := hidYY hO
  clear hU hO hb0
  generalize hV : w.alloc (.cells (scL c l h1 h2 t).toArray 25) = V at *
  have x2 := HP.out.cell 2 _ rfl
  have z1 : ¬ (m1 : Int) < 0 := by omega
  have z2 : ¬ (m2 : Int) < 0 := by omega
  go_enter Tryz.func8, Tryz.ntmps8
  try rw [hV]
  go_wp2_with fail
  refine (HU.out V HB0.out).mono ?_
  rintro o w1 ⟨rfl, hb1⟩
  have x3 := (HP.out.below hb1).cell 3 _ rfl
  have HB1 := hidYY (HB0.out.trans (hb1.mono HB0.out.size))
  clear hb1
  go_wp2_with fail
  refine (HO.out w1 HB1.out).mono ?_
  rintro o w2 ⟨rfl, rfl⟩
  go_wp2_with fail
  go_ret
  exact ⟨rfl, HB1.out⟩
set_option maxHeartbeats 4000000 in
set_option maxRecDepth 20000 in
/-- laws.markScript, and heldScript behind it -/
theorem markScript_any (c l t : Int) (S : Sc) (hf : finS S) (B : Nat) (us : List (Su × Hd)) (os : List (Od × Hd)) (h1 h2 : Hd) (w : World) (g : isSc B us os h1 h2 S w) (hB : B ≤ w.heap.size) :
    Calls Tryz.prog 7 #[scV c l h1 h2 t, .int .i64 1] w fun o w' => ∃ m : Nat, o = .returned (.int .i64 (m : Int)) ∧ hldS c l t h1 h2 m w' ∧ Below B w w' ∧ ∀ b L, blk w b L 25 → blk w' b L 25 := by
  have hul : us.length ≤ 32 := by have e := congrArg List.length g.eu; rw [List.length_map] at e; have := hf.su; omega
  have hol : os.length ≤ 500 := by have e := congrArg List.length g.eo; rw [List.length_map] at e; have := hf.od; omega
  have hb0 : Below w.heap.size w (w.alloc (.cells (scL c l h1 h2 t).toArray 25)) := (Below.refl _ _).alloc (Nat.le_refl _) _
  have HP := hidYY (blk.new w (scL c l h1 h2 t) 25)
  have HB0 := hidYY hb0
  have HG := hidYY (g.below hb0)
  have HK0 : Hid (∀ b L, blk w b L 25 → blk (w.alloc (.cells (scL c l h1 h2 t).toArray 25)) b L 25) := fun b L hb => hb.alloc _
  have HU := hidYY (markU B h1 us _ (g.su.below hb0) hul (by rw [g.eu]; exact hf.fl))
  have hfo : ∀ x ∈ os.map (·.1), x.d.length ≤ 8 := by rw [g.eo]; exact fun x hx => (hf.da x hx).2
  have HFO := hidYY hfo
  clear g hfo
  generalize hV : w.alloc (.cells (scL c l h1 h2 t).toArray 25) = V at *
  have x2 := HP.out.cell 2 _ rfl
  go_enter Tryz.func7, Tryz.ntmps7
  try rw [hV]
  go_wp2_with fail
  refine HU.out.mono ?_
  rintro o w1 ⟨m1, rfl, hm1, q1, q2, q3, q4⟩
  have HK1 : Hid (∀ b L, blk V b L 25 → blk w1 b L 25) := fun b L hb => hb.kept (q2 _ fun hx => by
    obtain ⟨_, c', T', e', hT'⟩ := HG.out.su.kinds hx
    rw [hb] at e'
    injection e' with e'
    injection e' with _ e' _
    subst e'
    revert hT'
    simp only [kS]
    rintro (h | h) <;> cases h)
  have hP1 : blk w1 w.heap.size (scL c l h1 h2 t) 25 := HK1.out _ _ HP.out
  have hO1 : rcR kO B (hdV h2) os w1 := HG.out.od.same fun x hx => q2 x fun hy => HG.out.apart hy hx
  have HO1 := hidYY hO1
  have HO := hidYY (markO B h2 os m1 w1 hO1 hol HFO.out hm1)
  have HQ1 := hidYY q1
  have HSZ := hidYY q3
  have HB1 := hidYY ((HB0.out.mono hB).trans q4)
  have x3 := hP1.cell 3 _ rfl
  clear q1 q2 q3 q4 hP1 hO1
  go_wp2_with fail
  refine HO.out.mono ?_
  rintro o w2 ⟨m2, rfl, p1, p2, p3, p4⟩
  have hh : hldS c l t h1 h2 m2 w2 := by
    intro V2 hV2
    have hlt : ∀ x, bkR h1 us x ∨ bkR h2 os x → x < w2.heap.size := fun x hx => by
      have hs : w2.heap.size = V.heap.size := p3.trans HSZ.out
      rw [hs]
      rcases hx with hx | hx
      · obtain ⟨_, c', T', e', _⟩ := HG.out.su.kinds hx
        exact lt_of_some e'
      · obtain ⟨_, c', T', e', _⟩ := HG.out.od.kinds hx
        exact lt_of_some e'
    refine heldScript_any c l t h1 h2 m1 m2 V2 (fun U hU => HQ1.out U fun x hx => ?_) (fun U hU => p1 U fun x hx => ?_)
    · have e1 := hU.block x (Nat.lt_of_lt_of_le (hlt x (.inl hx)) hV2.size)
      exact (e1.trans (hV2.block x (hlt x (.inl hx)))).trans (p2 x fun hy => HG.out.apart hx hy)
    · have e1 := hU.block x (Nat.lt_of_lt_of_le (hlt x (.inr hx)) hV2.size)
      exact e1.trans (hV2.block x (hlt x (.inr hx)))
  have HH := hidYY hh
  have HK2 : Hid (∀ b L, blk w1 b L 25 → blk w2 b L 25) := fun b L hb => hb.kept (p2 _ fun hx => by
    obtain ⟨_, c', T', e', hT'⟩ := HO1.out.kinds hx
    rw [hb] at e'
    injection e' with e'
    injection e' with _ e' _
    subst e'
    revert hT'
    simp only [kO]
    rintro (h | h) <;> cases h)
  have HB2 := hidYY (HB1.out.trans p4)
  clear p1 p2 p3 p4 hh
  go_wp2_with fail
  go_ret
  exact ⟨m2, rfl, HH.out, HB2.out, fun b L hb => HK2.out b L (HK1.out b L (HK0.out b L hb))⟩
end Go.Proofs.YtfbeaekddgpmmaaGreatDoor
