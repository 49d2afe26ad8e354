import Derived.Test.YtiaddabmiponoaaS25
import Derived.StillTailTactics
namespace Go.Proofs.Ytiaddabmiponoaa
open Go.RowKit
set_option linter.unusedVariables false
theorem flat_at {α : Type} (f : α → List Value) (sz : Nat) (hf : ∀ p, (f p).length = sz) : ∀ (rs : List α) (j : Nat) (h : j < rs.length) (t : Nat), t < sz → (rs.flatMap f)[j * sz + t]? = (f rs[j])[t]? := by
  intro rs
  induction rs with
  | nil => intro j h; exact absurd h (Nat.not_lt_zero _)
  | cons p rs ih =>
    intro j h t ht
    rw [List.flatMap_cons]
    cases j with
    | zero => rw [Nat.zero_mul, Nat.zero_add, List.getElem?_append_left (by rw [hf]; exact ht)]; rfl
    | succ j =>
      rw [List.getElem?_append_right (by rw [hf, Nat.succ_mul]; omega), hf, show (j + 1) * sz + t - sz = j * sz + t by rw [Nat.succ_mul]; omega, ih j (by simpa using h) t ht]
      rfl
theorem wpStill_load_mid {ops : Array Oper} {rest : List Oper} {op : Oper} {a : Act} {w : World} {Q : Act → Prop} (hw : Region.wanted op (yielded ops a.tmps) = true) (ty : TypeId) (x : Operand) (ho : op.op = .load ty x)
    (b o : Nat) (hx : a.eval x = .pointer (some ⟨b, o, none⟩)) (cs : List Value) (d : TypeDesc) (hc : w.rangeAt b o cs)
    (hu : Try.prog.underlying ty = some d) (hd : d.isRow = true) (hi : (Try.prog.info? ty).map (·.size) = some cs.length)
    (h : wpStill Try.prog ops w Q rest (a.put op.dst (.agg cs.toArray))) : wpStill Try.prog ops w Q (op :: rest) a :=
  wpStill_step fun K hK => by
    simp only [hw, if_true]
    unfold Oper.still execOp
    simp only [ho, hx, Instr.loadAt, Instr.sureAddr, Sem.run_bind, Sem.run_pure, Result.andThen_ok, run_loadVar_mid w b o ty cs d hc hu hd hi]
    exact ⟨rfl, hK _ h⟩
theorem blk.loadAt {w : World} {b : Nat} (pre mid post : List Value) {T : TypeId} (h : blk w b (pre ++ mid ++ post) T) : w.rangeAt b pre.length mid := by
  intro j v hv
  have hj : j < mid.length := (List.getElem?_eq_some_iff.1 hv).1
  refine h.cell _ _ ?_
  rw [List.append_assoc, List.getElem?_append_right (by omega), Nat.add_sub_cancel_left, List.getElem?_append_left hj]
  exact hv
theorem slR.rng {s : ByteArray} {B g n k : Nat} {rs : List Sx} {W : World} (h : slR s B (.slice (some ⟨g, 0, none⟩) n k) rs W) (j : Nat) (hj : j < rs.length) : W.rangeAt g (j * 7) (enc7 s rs[j]) := by
  obtain ⟨g', cap, e, _, _, _, hc⟩ := own_slice h.own (by intro e; cases e)
  cases e
  intro t u hu
  have ht : t < 7 := by have := (List.getElem?_eq_some_iff.mp hu).1; simpa [enc7] using this
  rw [hc W rfl (j * 7 + t) (by omega), flat_at (enc7 s) 7 (fun _ => rfl) rs j hj t ht]
  exact hu
theorem slR.len {s : ByteArray} {B : Nat} {v : Value} {rs : List Sx} {W : World} (h : slR s B v rs W) : (v = .slice none 0 0 ∧ rs = []) ∨ ∃ g k, v = .slice (some ⟨g, 0, none⟩) rs.length k ∧ rs.length ≤ k := by
  rcases Classical.em (v = .slice none 0 0) with e | e
  · left
    refine ⟨e, ?_⟩
    have ho := h.own
    subst e
    obtain ⟨h1, ⟨_, h2⟩ | ⟨g, cap, cur, hv', _⟩⟩ := ho
    · cases rs with
      | nil => rfl
      | cons a l => simp at h2
    · cases hv'
  · right
    obtain ⟨g, cap, rfl, _, _, hc, _⟩ := own_slice h.own e
    exact ⟨g, cap, rfl, hc⟩
set_option maxHeartbeats 8000000 in
set_option maxRecDepth 20000 in
/-- laws.eqSlot -/
theorem eqSlot_same (w : World) (i n : Nat) (F : Wk) (a1 : Option Addr) (m1 c1 : Nat) (a2 : Option Addr) (m2 c2 : Nat) (h1 : isBytes w a1 m1 c1 F.data) (h2 : isBytes w a2 m2 c2 F.data) (hm : m1 ≤ 1048576) :
    Calls Try.prog 15 #[.agg [.int .i64 (i : Int), .int .i64 (n : Int), .bool F.ext, .int .u32 (F.id : Int), .bool F.rtr, .int .i64 (F.dlc : Int), .slice a1 m1 c1].toArray, .agg [.int .i64 (i : Int), .int .i64 (n : Int), .bool F.ext, .int .u32 (F.id : Int), .bool F.rtr, .int .i64 (F.dlc : Int), .slice a2 m2 c2].toArray] w fun o w' => o = .returned (.bool true) ∧ Below w.heap.size w w' := by
  have hb0 : Below w.heap.size w ((w.alloc (.cells [.int .i64 (i : Int), .int .i64 (n : Int), .bool F.ext, .int .u32 (F.id : Int), .bool F.rtr, .int .i64 (F.dlc : Int), .slice a1 m1 c1].toArray 38)).alloc (.cells [.int .i64 (i : Int), .int .i64 (n : Int), .bool F.ext, .int .u32 (F.id : Int), .bool F.rtr, .int .i64 (F.dlc : Int), .slice a2 m2 c2].toArray 38)) := ((Below.refl _ _).alloc (Nat.le_refl _) _).alloc (by simp) _
  have HP1 : Hid (blk ((w.alloc (.cells [.int .i64 (i : Int), .int .i64 (n : Int), .bool F.ext, .int .u32 (F.id : Int), .bool F.rtr, .int .i64 (F.dlc : Int), .slice a1 m1 c1].toArray 38)).alloc (.cells [.int .i64 (i : Int), .int .i64 (n : Int), .bool F.ext, .int .u32 (F.id : Int), .bool F.rtr, .int .i64 (F.dlc : Int), .slice a2 m2 c2].toArray 38)) w.heap.size [.int .i64 (i : Int), .int .i64 (n : Int), .bool F.ext, .int .u32 (F.id : Int), .bool F.rtr, .int .i64 (F.dlc : Int), .slice a1 m1 c1] 38) := (blk.new w _ 38).alloc _
  have HP2 : Hid (blk ((w.alloc (.cells [.int .i64 (i : Int), .int .i64 (n : Int), .bool F.ext, .int .u32 (F.id : Int), .bool F.rtr, .int .i64 (F.dlc : Int), .slice a1 m1 c1].toArray 38)).alloc (.cells [.int .i64 (i : Int), .int .i64 (n : Int), .bool F.ext, .int .u32 (F.id : Int), .bool F.rtr, .int .i64 (F.dlc : Int), .slice a2 m2 c2].toArray 38)) (w.heap.size + 1) [.int .i64 (i : Int), .int .i64 (n : Int), .bool F.ext, .int .u32 (F.id : Int), .bool F.rtr, .int .i64 (F.dlc : Int), .slice a2 m2 c2] 38) := by
    have := blk.new (w.alloc (.cells [.int .i64 (i : Int), .int .i64 (n : Int), .bool F.ext, .int .u32 (F.id : Int), .bool F.rtr, .int .i64 (F.dlc : Int), .slice a1 m1 c1].toArray 38)) [.int .i64 (i : Int), .int .i64 (n : Int), .bool F.ext, .int .u32 (F.id : Int), .bool F.rtr, .int .i64 (F.dlc : Int), .slice a2 m2 c2] 38
    have e1 : (w.alloc (.cells [.int .i64 (i : Int), .int .i64 (n : Int), .bool F.ext, .int .u32 (F.id : Int), .bool F.rtr, .int .i64 (F.dlc : Int), .slice a1 m1 c1].toArray 38)).heap.size = w.heap.size + 1 := by simp
    rw [e1] at this
    exact this
  have HE := hidB (eqFrame_same ((w.alloc (.cells [.int .i64 (i : Int), .int .i64 (n : Int), .bool F.ext, .int .u32 (F.id : Int), .bool F.rtr, .int .i64 (F.dlc : Int), .slice a1 m1 c1].toArray 38)).alloc (.cells [.int .i64 (i : Int), .int .i64 (n : Int), .bool F.ext, .int .u32 (F.id : Int), .bool F.rtr, .int .i64 (F.dlc : Int), .slice a2 m2 c2].toArray 38)) F.ext F.id F.rtr (F.dlc : Int) a1 m1 c1 F.data (h1.below hb0) a2 m2 c2 (h2.below hb0) hm)
  have HB0 := hidB hb0
  generalize hV : ((w.alloc (.cells [.int .i64 (i : Int), .int .i64 (n : Int), .bool F.ext, .int .u32 (F.id : Int), .bool F.rtr, .int .i64 (F.dlc : Int), .slice a1 m1 c1].toArray 38)).alloc (.cells [.int .i64 (i : Int), .int .i64 (n : Int), .bool F.ext, .int .u32 (F.id : Int), .bool F.rtr, .int .i64 (F.dlc : Int), .slice a2 m2 c2].toArray 38)) = V at *
  have x0 := HP1.out.cell 0 (.int .i64 (i : Int)) rfl
  have x1 := HP1.out.cell 1 (.int .i64 (n : Int)) rfl
  have y0 := HP2.out.cell 0 (.int .i64 (i : Int)) rfl
  have y1 := HP2.out.cell 1 (.int .i64 (n : Int)) rfl
  have hii : ∀ z : Int, (z != z) = false := fun z => by simp
  clear hb0 h1 h2
  go_enter Try.func15, Try.ntmps15
  try rw [hV]
  go_wp2_with (first | (refine wpList_load_mid (P := Try.prog) rfl 34 (.tmp 15) rfl w.heap.size 2 rfl [.bool F.ext, .int .u32 (F.id : Int), .bool F.rtr, .int .i64 (F.dlc : Int), .slice a1 m1 c1] _ (blk.loadAt [.int .i64 (i : Int), .int .i64 (n : Int)] [.bool F.ext, .int .u32 (F.id : Int), .bool F.rtr, .int .i64 (F.dlc : Int), .slice a1 m1 c1] [] HP1.out) Try.underlying34 rfl sz34 ?_) | (refine wpList_load_mid (P := Try.prog) rfl 34 (.tmp 17) rfl (w.heap.size + 1) 2 rfl [.bool F.ext, .int .u32 (F.id : Int), .bool F.rtr, .int .i64 (F.dlc : Int), .slice a2 m2 c2] _ (blk.loadAt [.int .i64 (i : Int), .int .i64 (n : Int)] [.bool F.ext, .int .u32 (F.id : Int), .bool F.rtr, .int .i64 (F.dlc : Int), .slice a2 m2 c2] [] HP2.out) Try.underlying34 rfl sz34 ?_))
  refine HE.out.mono ?_
  rintro o w1 ⟨rfl, hb1⟩
  have HB1 := hidB (HB0.out.trans (hb1.mono HB0.out.size))
  clear hb1
  go_wp2_with fail
  go_ret
  exact ⟨rfl, HB1.out⟩
/-- the bytes of a slot -/
theorem slR.byt {s : ByteArray} {B : Nat} {v : Value} {rs : List Sx} {W : World} (h : slR s B v rs W) (hs : ∀ r ∈ rs, ∀ x ∈ (fk s r.1.1 r.1.2).data, x < 256) (r : Sx) (hr : r ∈ rs) : isBytes W r.2.1 r.2.2.1 r.2.2.2 (fk s r.1.1 r.1.2).data := by
  obtain ⟨ao, cap, e, hb⟩ := (h.dat r hr).bytes (hs r hr)
  injection e with e1 e2 e3
  rw [e1, e2, e3]
  exact hb
set_option maxHeartbeats 8000000 in
set_option maxRecDepth 20000 in
/-- laws.eqSlotS -/
theorem eqSlotS_same (s : ByteArray) (w : World) (B1 B2 : Nat) (v1 v2 : Value) (r1 r2 : List Sx) (h1 : slR s B1 v1 r1 w) (h2 : slR s B2 v2 r2 w) (he : r1.map (·.1) = r2.map (·.1)) (hs : ∀ x ∈ r1.map (·.1), ∀ y ∈ (fk s x.1 x.2).data, y < 256) (hm : ∀ x ∈ r1.map (·.1), (fk s x.1 x.2).data.length ≤ 1048576) (hn : r1.length ≤ 100000) :
    Calls Try.prog 6 #[v1, v2] w fun o w' => o = .returned (.bool true) ∧ Below w.heap.size w w' := by
  have hl : r1.length = r2.length := by have := congrArg List.length he; simpa using this
  rcases h1.len with ⟨rfl, rfl⟩ | ⟨g1, k1, rfl, hk1⟩
  · have h20 : r2 = [] := by
      cases r2 with
      | nil => rfl
      | cons a l => simp at hl
    subst h20
    obtain ⟨n2, k2, a2, e2⟩ : ∃ (n2 k2 : Nat) (a2 : Option Addr), v2 = .slice a2 n2 k2 ∧ n2 = 0 := by
      rcases h2.len with ⟨rfl, _⟩ | ⟨g, k, rfl, _⟩
      · exact ⟨0, 0, _, rfl, rfl⟩
      · exact ⟨_, k, _, rfl, rfl⟩
    obtain ⟨rfl, rfl⟩ := e2
    clear h1 h2 he hs hm hl
    go_enter Try.func6, Try.ntmps6
    go_wp2
    go_loopw [5] (fun i wr => i = .int .i64 0 ∧ wr = w) (fun _ _ => 0)
    case atStart => exact ⟨rfl, rfl⟩
    case round =>
      obtain ⟨rfl, rfl⟩ := hrel
      go_wp2
      go_ret
      exact ⟨rfl, Below.refl _ _⟩
  · obtain ⟨n2, k2, a2, e2, hz2⟩ : ∃ (n2 k2 : Nat) (a2 : Option Addr), v2 = .slice a2 n2 k2 ∧ n2 = r1.length := by
      rcases h2.len with ⟨rfl, rfl⟩ | ⟨g, k, rfl, _⟩
      · exact ⟨0, 0, _, rfl, by simpa using hl.symm⟩
      · exact ⟨_, k, _, rfl, hl.symm⟩
    obtain ⟨n1, en1⟩ : ∃ n1, r1.length = n1 := ⟨_, rfl⟩
    have HH1 := hidB h1
    have HH2 := hidB h2
    have HHE := hidB he
    have HHS := hidB hs
    have HHM := hidB hm
    have HHN := hidB en1
    have HHL := hidB hl
    subst e2
    rw [en1] at hz2 hk1 hn
    subst hz2
    rw [en1]
    clear h1 h2 he hs hm hl en1
    go_enter Try.func6, Try.ntmps6
    go_wp2
    go_loopw [5] (fun i wr => ∃ k : Nat, k ≤ n2 ∧ i = .int .i64 (k : Int) ∧ Hid (Below w.heap.size w wr)) (fun i _ => n2 - (intOf i).toNat)
    case atStart => exact ⟨0, Nat.zero_le _, rfl, Below.refl _ _⟩
    case round =>
      obtain ⟨k, hk, rfl, HB⟩ := hrel
      by_cases hlt : k < n2
      · have hk1' : k < r1.length := by rw [HHN.out]; exact hlt
        have hk2' : k < r2.length := by rw [← HHL.out]; exact hk1'
        obtain ⟨g2, rfl⟩ : ∃ g2, a2 = some ⟨g2, 0, none⟩ := by
          rcases HH2.out.len with ⟨_, e⟩ | ⟨g, k', e, _⟩
          · rw [e] at hk2'; cases hk2'
          · injection e with e1 _ _; exact ⟨g, e1⟩
        have q1 := HH1.out.rng k hk1'
        have q2 := HH2.out.rng k hk2'
        have hx : r1[k].1 = r2[k].1 := by
          have e := congrArg (fun l => l[k]?) HHE.out
          simp only [List.getElem?_map, List.getElem?_eq_getElem hk1', List.getElem?_eq_getElem hk2', Option.map_some] at e
          exact Option.some.inj e
        have hmem : r1[k].1 ∈ r1.map (·.1) := List.mem_map_of_mem (List.getElem_mem hk1')
        have hb1 := HH1.out.byt (fun r hr => HHS.out r.1 (List.mem_map_of_mem hr)) r1[k] (List.getElem_mem hk1')
        have hb2 := HH2.out.byt (fun r hr => HHS.out r.1 (by rw [HHE.out]; exact List.mem_map_of_mem hr)) r2[k] (List.getElem_mem hk2')
        have hml := HHM.out _ hmem
        generalize r1[k] = x1 at *
        generalize r2[k] = x2 at *
        obtain ⟨⟨i, n⟩, a1, m1, c1⟩ := x1
        obtain ⟨⟨i', n'⟩, a3, m3, c3⟩ := x2
        obtain ⟨rfl, rfl⟩ : i = i' ∧ n = n' := by simpa using hx
        have up : ∀ {g o : Nat} {cs : List Value}, w.rangeAt g o cs → (World.drew wr).rangeAt g o cs := fun h t u hu => (HB.out.drew.cell (by exact World.block_lt_of_cell? w _ (h t u hu))).trans (h t u hu)
        have HQ1 : Hid ((World.drew wr).rangeAt g1 (k * 7) [.int .i64 (i : Int), .int .i64 (n : Int), .bool (fk s i n).ext, .int .u32 ((fk s i n).id : Int), .bool (fk s i n).rtr, .int .i64 ((fk s i n).dlc : Int), .slice a1 m1 c1]) := up q1
        have HQ2 : Hid ((World.drew wr).rangeAt g2 (k * 7) [.int .i64 (i : Int), .int .i64 (n : Int), .bool (fk s i n).ext, .int .u32 ((fk s i n).id : Int), .bool (fk s i n).rtr, .int .i64 ((fk s i n).dlc : Int), .slice a3 m3 c3]) := up q2
        have HE := hidB (eqSlot_same (World.drew wr) i n (fk s i n) a1 m1 c1 a3 m3 c3 (hb1.below HB.out.drew) (hb2.below HB.out.drew) (by have := hb1.len; simp only at this hml; omega))
        have HBD : Hid (Below w.heap.size w (World.drew wr)) := HB.out.drew
        clear q1 q2 hx hmem hb1 hb2 hml up hk1' hk2' HH1 HH2
        go_wp2_with fail
        refine wp_region_still_tail 8 (by kernel_rfl) (by kernel_rfl) ?_
        change wpStill Try.prog _ (World.drew wr) (fun a' => wpList Try.prog _ _ _ a' (World.drew wr)) _ _
        generalize World.drew wr = v0 at *
        simp only [List.take_succ_cons, List.take_zero, List.drop_succ_cons, List.drop_zero]
        still_step
        still_step
        still_step
        refine wpStill_load_mid (by rfl) 38 _ rfl g1 (k * 7) (by rfl) [.int .i64 (i : Int), .int .i64 (n : Int), .bool (fk s i n).ext, .int .u32 ((fk s i n).id : Int), .bool (fk s i n).rtr, .int .i64 ((fk s i n).dlc : Int), .slice a1 m1 c1] _ HQ1.out Try.underlying38 rfl sz38 ?_
        still_step
        still_step
        still_step
        refine wpStill_load_mid (by rfl) 38 _ rfl g2 (k * 7) (by rfl) [.int .i64 (i : Int), .int .i64 (n : Int), .bool (fk s i n).ext, .int .u32 ((fk s i n).id : Int), .bool (fk s i n).rtr, .int .i64 ((fk s i n).dlc : Int), .slice a3 m3 c3] _ HQ2.out Try.underlying38 rfl sz38 ?_
        refine wpStill_nil ?_
        go_wp2_with fail
        refine HE.out.mono ?_
        rintro o w5 ⟨rfl, hb5⟩
        have HB5 := hidB (HBD.out.trans (hb5.mono HBD.out.size))
        clear hb5
        go_wp2_with fail
        go_roundw
        case rel => exact ⟨k + 1, by omega, by go_num, HB5.out⟩
        case measure => simp [intOf]; omega
      · have hkn : n2 = k := by omega
        subst hkn
        go_wp2
        go_ret
        exact ⟨rfl, HB.out⟩
abbrev Hd := Option Addr × Nat × Nat
/-- the bytes of a record: none, or in a block other than g -/
def hd (W : World) (g : Nat) (h : Hd) : Prop := h.2.1 ≤ 1048576 ∧ h.2.1 ≤ h.2.2 ∧ ((h.1 = none ∧ h.2.1 = 0) ∨ ∃ b, h.1 = some ⟨b, 0, none⟩ ∧ b ≠ g ∧ rowF W b h.2.1)
theorem hd.up {W W' : World} {g : Nat} {h : Hd} (H : hd W g h) (hr : ∀ x N, rowF W x N → rowF W' x N) : hd W' g h := by
  obtain ⟨h1, h2, h3⟩ := H
  refine ⟨h1, h2, ?_⟩
  rcases h3 with h3 | ⟨b, e, hn, hf⟩
  · exact Or.inl h3
  · exact Or.inr ⟨b, e, hn, hr _ _ hf⟩
/-- no two of the rows of bytes are one -/
def dst (hs : Nat → Hd) (n : Nat) : Prop := ∀ i j, i < j → j < n → ∀ b, (hs i).1 = some ⟨b, 0, none⟩ → (hs j).1 ≠ some ⟨b, 0, none⟩
/-- no row of bytes lies below B -/
def abv (B : Nat) (hs : Nat → Hd) (n : Nat) : Prop := ∀ j, j < n → ∀ b, (hs j).1 = some ⟨b, 0, none⟩ → B ≤ b
theorem markHd (B : Nat) (W : World) (g : Nat) (a : Option Addr) (m cc C : Nat) (H : hd W g (a, m, cc)) (hB : ∀ b, a = some ⟨b, 0, none⟩ → B ≤ b) (hC : C ≤ 10000000000000000) :
    Calls Try.prog 16 #[.slice a m cc, .int .i64 (C : Int)] W fun o w' => o = .returned (.int .i64 ((C + m : Nat) : Int)) ∧ (∀ b, a = some ⟨b, 0, none⟩ → mkB w' b m C) ∧ (∀ x N, rowF W x N → rowF w' x N) ∧ (∀ x, a ≠ some ⟨x, 0, none⟩ → w'.heap[x]? = W.heap[x]?) ∧ w'.heap.size = W.heap.size ∧ Below B W w' := by
  obtain ⟨h1, h2, ⟨e, hm⟩ | ⟨b, e, hn, hf⟩⟩ := H
  · simp only at e hm
    subst e
    subst hm
    refine (markByte_none W cc C).mono ?_
    rintro o w' ⟨rfl, rfl⟩
    exact ⟨rfl, fun b hb => absurd hb (by simp), fun _ _ h => h, fun _ _ => rfl, rfl, Below.refl _ _⟩
  · simp only at e hf h1 h2
    subst e
    refine (markByteS_any W b m cc C hf h2 h1 hC).mono ?_
    rintro o w' ⟨rfl, q1, q2, q3, q4, q5⟩
    exact ⟨rfl, fun b' hb => by cases hb; exact q1, q2, fun x hx => q3 x (fun e => hx (by rw [e])), q4, q5.mono (hB b rfl)⟩
theorem heldHd (W : World) (g : Nat) (a : Option Addr) (m cc C : Nat) (H : hd W g (a, m, cc)) (hk : ∀ b, a = some ⟨b, 0, none⟩ → mkB W b m C) (hC : C ≤ 10000000000000000) :
    Calls Try.prog 17 #[.slice a m cc, .int .i64 (C : Int)] W fun o w' => o = .returned (.int .i64 ((C + m : Nat) : Int)) ∧ w' = W := by
  obtain ⟨h1, h2, ⟨e, hm⟩ | ⟨b, e, hn, hf⟩⟩ := H
  · simp only at e hm
    subst e
    subst hm
    exact (heldByte_none W cc C)
  · simp only at e hf h1 h2
    subst e
    exact heldByteS_any W b m cc C (hk b rfl) h2 h1 hC
/-- n records of 7 cells at g, their bytes as hs tells -/
structure sh7 (W : World) (g n : Nat) (hs : Nat → Hd) : Prop where
  row : rowF W g (n * 7)
  dat : ∀ j, j < n → W.cell? ⟨g, j * 7 + 6, none⟩ = some (.slice (hs j).1 (hs j).2.1 (hs j).2.2) ∧ hd W g (hs j)
/-- the number of marks behind j records -/
def cn7 (c : Nat) (hs : Nat → Hd) : Nat → Nat
  | 0 => c
  | j + 1 => cn7 c hs j + 6 + (hs j).2.1
theorem cn7_le (c n : Nat) (hs : Nat → Hd) (h : ∀ j, j < n → (hs j).2.1 ≤ 1048576) : ∀ j, j ≤ n → cn7 c hs j ≤ c + j * 1048583 := by
  intro j
  induction j with
  | zero => intro _; exact Nat.le_refl _
  | succ j ih =>
    intro hj
    have h1 := ih (by omega)
    have h2 := h j (by omega)
    simp only [cn7]
    omega
/-- the cells that the marks from C on make -/
def m7w (C : Nat) : List Value := [Value.int .i64 (C : Int), Value.int .i64 ((C : Int) + 1), Value.bool (((C : Int) + 2) % 3 == 0), Value.int .u32 (((C : Int) + 1 + 1 + 1) % 4294967296), Value.bool (((C : Int) + 4) % 3 == 0), Value.int .i64 ((C : Int) + 1 + 1 + 1 + 1 + 1)]
/-- a record marked from C on -/
structure mk7 (W : World) (g o C : Nat) (h : Hd) : Prop where
  row : ∀ t (ht : t < 6), W.cell? ⟨g, o + t, none⟩ = some ((m7w C)[t]'(by simpa [m7w] using ht))
  dat : ∀ b, h.1 = some ⟨b, 0, none⟩ → mkB W b h.2.1 (C + 6)
theorem mk7.up {W W' : World} {g o C : Nat} {h : Hd} (H : mk7 W g o C h) (hg : W'.heap[g]? = W.heap[g]?) (hb : ∀ b, h.1 = some ⟨b, 0, none⟩ → W'.heap[b]? = W.heap[b]?) : mk7 W' g o C h :=
  ⟨fun t ht => cell_up (H.row t ht) hg, fun b e t ht => cell_up (H.dat b e t ht) (hb b e)⟩
theorem sh7.up {W W' : World} {g n : Nat} {hs : Nat → Hd} (H : sh7 W g n hs) (hg : W'.heap[g]? = W.heap[g]?) (hr : ∀ x N, rowF W x N → rowF W' x N) : sh7 W' g n hs :=
  ⟨H.row.up hg, fun j hj => ⟨cell_up (H.dat j hj).1 hg, (H.dat j hj).2.up hr⟩⟩
set_option maxHeartbeats 8000000 in
set_option maxRecDepth 20000 in
theorem markSlotS_gen (B : Nat) (w : World) (g n cap c : Nat) (hs : Nat → Hd) (h : sh7 w g n hs) (hcp : n ≤ cap) (hn : n ≤ 1048576) (hc : c ≤ 20000000000000) (hB : B ≤ g) (hB2 : abv B hs n) :
    Calls Try.prog 7 #[.slice (some ⟨g, 0, none⟩) n cap, .int .i64 (c : Int)] w fun o w' => o = .returned (.int .i64 (cn7 c hs n : Int)) ∧ (dst hs n → ∀ j, j < n → mk7 w' g (j * 7) (cn7 c hs j) (hs j)) ∧ sh7 w' g n hs ∧ (∀ x N, rowF w x N → rowF w' x N) ∧ (∀ x, x ≠ g → (∀ j, j < n → (hs j).1 ≠ some ⟨x, 0, none⟩) → w'.heap[x]? = w.heap[x]?) ∧ w'.heap.size = w.heap.size ∧ Below B w w' := by
  have HSH : Hid (sh7 w g n hs) := h
  have HB2 : Hid (abv B hs n) := hB2
  have HLE : Hid (∀ j, j ≤ n → cn7 c hs j ≤ c + j * 1048583) := cn7_le c n hs (fun j hj => (h.dat j hj).2.1)
  clear h hB2
  go_enter Try.func7, Try.ntmps7
  go_wp2
  go_loopw [1, 5] (fun kk i wr => ∃ k : Nat, k ≤ n ∧ i = .int .i64 (k : Int) ∧ kk = .int .i64 (cn7 c hs k : Int) ∧ (dst hs n → ∀ j, j < k → mk7 wr g (j * 7) (cn7 c hs j) (hs j)) ∧ sh7 wr g n hs ∧ (∀ x N, rowF w x N → rowF wr x N) ∧ (∀ x, x ≠ g → (∀ j, j < n → (hs j).1 ≠ some ⟨x, 0, none⟩) → wr.heap[x]? = w.heap[x]?) ∧ wr.heap.size = w.heap.size ∧ Below B w wr) (fun _ i _ => n - (intOf i).toNat)
  case atStart => exact ⟨0, Nat.zero_le _, rfl, rfl, fun _ j hj => absurd hj (Nat.not_lt_zero _), HSH.out, fun _ _ h => h, fun _ _ _ => rfl, rfl, Below.refl _ _⟩
  case round =>
    obtain ⟨k, hk, rfl, rfl, hdone, hsh, hrow, hoth, hsz, hb⟩ := hrel
    by_cases hlt : k < n
    · have hkn : k * 7 + 7 ≤ n * 7 := by omega
      obtain ⟨⟨v0, z0⟩, f0⟩ := hsh.row (k * 7) (by omega)
      obtain ⟨⟨v1, z1⟩, f1⟩ := hsh.row (k * 7 + 1) (by omega)
      obtain ⟨⟨v2, z2⟩, f2⟩ := hsh.row (k * 7 + 2) (by omega)
      obtain ⟨⟨v3, z3⟩, f3⟩ := hsh.row (k * 7 + 3) (by omega)
      obtain ⟨⟨v4, z4⟩, f4⟩ := hsh.row (k * 7 + 4) (by omega)
      obtain ⟨⟨v5, z5⟩, f5⟩ := hsh.row (k * 7 + 5) (by omega)
      obtain ⟨zd, hh⟩ := hsh.dat k hlt
      have HD : Hid ((dst hs n → ∀ j, j < k → mk7 wr g (j * 7) (cn7 c hs j) (hs j)) ∧ sh7 wr g n hs ∧ (∀ x N, rowF w x N → rowF wr x N) ∧ (∀ x, x ≠ g → (∀ j, j < n → (hs j).1 ≠ some ⟨x, 0, none⟩) → wr.heap[x]? = w.heap[x]?) ∧ wr.heap.size = w.heap.size ∧ Below B w wr) := ⟨hdone, hsh, hrow, hoth, hsz, hb⟩
      clear hdone hsh hrow hoth hsz hb
      have HCN : Hid (cn7 c hs (k + 1) = cn7 c hs k + 6 + (hs k).2.1) := rfl
      have hC1 : cn7 c hs k ≤ 30000000000000 := by have := HLE.out k hk; omega
      generalize hC : cn7 c hs k = C at *
      have HC : Hid (cn7 c hs k = C) := hC
      clear hC
      have HAB : Hid (∀ b, (hs k).1 = some ⟨b, 0, none⟩ → B ≤ b) := HB2.out k hlt
      obtain ⟨t, ht⟩ : ∃ t, hs k = t := ⟨_, rfl⟩
      have HT : Hid (hs k = t) := ht
      rw [ht] at zd hh HCN HAB
      clear ht
      obtain ⟨a, m, cc⟩ := t
      simp only at zd
      have hm : m ≤ 1048576 := hh.1
      have e2 : ((C : Int) + 1 + 1).tmod 3 = (((C + 2) % 3 : Nat) : Int) := by rw [Int.tmod_eq_emod_of_nonneg (by omega)]; omega
      have e4 : ((C : Int) + 1 + 1 + 1 + 1).tmod 3 = (((C + 4) % 3 : Nat) : Int) := by rw [Int.tmod_eq_emod_of_nonneg (by omega)]; omega
      have HBY : Hid (∀ W, (∀ x N, rowF wr x N → rowF W x N) → Calls Try.prog 16 #[.slice a m cc, .int .i64 ((C : Int) + 1 + 1 + 1 + 1 + 1 + 1)] W fun o w' => o = .returned (.int .i64 ((C + 6 + m : Nat) : Int)) ∧ (∀ b, a = some ⟨b, 0, none⟩ → mkB w' b m (C + 6)) ∧ (∀ x N, rowF W x N → rowF w' x N) ∧ (∀ x, a ≠ some ⟨x, 0, none⟩ → w'.heap[x]? = W.heap[x]?) ∧ w'.heap.size = W.heap.size ∧ Below B W w') := fun W hW => by
        have := markHd B W g a m cc (C + 6) (hh.up hW) HAB.out (by omega)
        have e : (((C + 6 : Nat)) : Int) = (C : Int) + 1 + 1 + 1 + 1 + 1 + 1 := by omega
        rw [e] at this
        exact this
      have HH : Hid (hd wr g (a, m, cc)) := hh
      clear hh
      go_wp2_with (first | (go_at_call 16; refine (HBY.out _ (fun x N h => h.setRow g (m7w C) wr (k * 7))).mono ?_; rintro o w5 ⟨rfl, q1, q2, q3, q4, q5⟩; have HQ : Hid ((∀ b, a = some ⟨b, 0, none⟩ → mkB w5 b m (C + 6)) ∧ (∀ x N, rowF (setRow wr g (k * 7) (m7w C)) x N → rowF w5 x N) ∧ (∀ x, a ≠ some ⟨x, 0, none⟩ → w5.heap[x]? = (setRow wr g (k * 7) (m7w C)).heap[x]?) ∧ w5.heap.size = (setRow wr g (k * 7) (m7w C)).heap.size ∧ Below B (setRow wr g (k * 7) (m7w C)) w5) := ⟨q1, q2, q3, q4, q5⟩; clear q1 q2 q3 q4 q5))
      obtain ⟨q1, q2, q3, q4, q5⟩ := HQ.out
      obtain ⟨r1, r0, r2, r3, r4, r5⟩ := HD.out
      have hT := HT.out
      have hC := HC.out
      have hl : (m7w C).length = 6 := rfl
      have hag : a ≠ some ⟨g, 0, none⟩ := by
        rcases HH.out.2.2 with ⟨e, _⟩ | ⟨b, e, hne, _⟩
        · intro h; rw [h] at e; cases e
        · intro h; rw [h] at e; cases e; exact hne rfl
      have hgb := q3 g hag
      have hrf : ∀ x N, rowF wr x N → rowF w5 x N := fun x N h => q2 x N (h.setRow g (m7w C) wr (k * 7))
      refine ⟨⟨k + 1, by omega, by go_num, by rw [HCN.out]; congr 1, fun hd j hj => ?_, ⟨hrf _ _ r0.row, fun j hj => ⟨cell_up ((setRow_other g (m7w C) wr (k * 7) (j * 7 + 6) (by omega)).trans (r0.dat j hj).1) hgb, (r0.dat j hj).2.up hrf⟩⟩, fun x N h => hrf x N (r2 x N h), fun x hx hj => (q3 x (by have := hj k hlt; rw [hT] at this; exact this)).trans ((setRow_block g x hx (m7w C) wr (k * 7)).trans (r3 x hx hj)), by rw [q4, setRow_size]; exact r4, (setRow_below g B hB w (m7w C) wr (k * 7) r5).trans q5⟩, by simp [intOf]; omega⟩
      by_cases e : j = k
      · subst e
        rw [hT, hC]
        exact ⟨fun t ht => cell_up (setRow_at g (m7w C) wr (j * 7) t (by omega) (r0.row (j * 7 + t) (by omega)).1) hgb, fun b hb => q1 b hb⟩
      · have hj' : j < k := by omega
        have H0 := r1 hd j hj'
        refine ⟨fun t ht => cell_up ((setRow_other g (m7w C) wr (k * 7) (j * 7 + t) (by omega)).trans (H0.row t ht)) hgb, fun b hb t ht => cell_up (H0.dat b hb t ht) ?_⟩
        have hbg : b ≠ g := by
          rcases (r0.dat j (by omega)).2.2.2 with ⟨e, _⟩ | ⟨b', e, hne, _⟩
          · rw [hb] at e; cases e
          · rw [hb] at e; cases e; exact hne
        have hba : a ≠ some ⟨b, 0, none⟩ := by
          have := hd j k hj' hlt b hb
          rw [hT] at this
          exact this
        exact (q3 b hba).trans (setRow_block g b hbg (m7w C) wr (k * 7))
    · have hkn : k = n := by omega
      subst hkn
      go_wp2
      go_ret
      exact ⟨rfl, hdone, hsh, hrow, hoth, hsz, hb⟩
set_option maxHeartbeats 8000000 in
set_option maxRecDepth 20000 in
theorem heldSlotS_gen (w : World) (g n cap c : Nat) (hs : Nat → Hd) (h : sh7 w g n hs) (hm : ∀ j, j < n → mk7 w g (j * 7) (cn7 c hs j) (hs j)) (hcp : n ≤ cap) (hn : n ≤ 1048576) (hc : c ≤ 20000000000000) :
    Calls Try.prog 8 #[.slice (some ⟨g, 0, none⟩) n cap, .int .i64 (c : Int)] w fun o w' => o = .returned (.int .i64 (cn7 c hs n : Int)) ∧ w' = w := by
  have HSH : Hid (sh7 w g n hs) := h
  have HM : Hid (∀ j, j < n → mk7 w g (j * 7) (cn7 c hs j) (hs j)) := hm
  have HLE : Hid (∀ j, j ≤ n → cn7 c hs j ≤ c + j * 1048583) := cn7_le c n hs (fun j hj => (h.dat j hj).2.1)
  clear h hm
  go_enter Try.func8, Try.ntmps8
  go_wp2
  go_loopw [1, 5] (fun kk i wr => ∃ k : Nat, k ≤ n ∧ i = .int .i64 (k : Int) ∧ kk = .int .i64 (cn7 c hs k : Int) ∧ wr = w) (fun _ i _ => n - (intOf i).toNat)
  case atStart => exact ⟨0, Nat.zero_le _, rfl, rfl, rfl⟩
  case round =>
    obtain ⟨k, hk, rfl, rfl, rfl⟩ := hrel
    by_cases hlt : k < n
    · have hx := HM.out k hlt
      obtain ⟨zd, hh⟩ := HSH.out.dat k hlt
      have HCN : Hid (cn7 c hs (k + 1) = cn7 c hs k + 6 + (hs k).2.1) := rfl
      have hC1 : cn7 c hs k ≤ 30000000000000 := by have := HLE.out k hk; omega
      generalize hC : cn7 c hs k = C at *
      have HC : Hid (cn7 c hs k = C) := hC
      clear hC
      obtain ⟨t, ht⟩ : ∃ t, hs k = t := ⟨_, rfl⟩
      rw [ht] at zd hh HCN hx
      clear ht
      obtain ⟨a, m, cc⟩ := t
      simp only at zd
      have hm : m ≤ 1048576 := hh.1
      have x0 : wr.cell? ⟨g, k * 7, none⟩ = some (.int .i64 (C : Int)) := hx.row 0 (by omega)
      have x1 : wr.cell? ⟨g, k * 7 + 1, none⟩ = some (.int .i64 ((C : Int) + 1)) := hx.row 1 (by omega)
      have x2 : wr.cell? ⟨g, k * 7 + 2, none⟩ = some (.bool (((C : Int) + 2) % 3 == 0)) := hx.row 2 (by omega)
      have x3 : wr.cell? ⟨g, k * 7 + 3, none⟩ = some (.int .u32 (((C : Int) + 1 + 1 + 1) % 4294967296)) := hx.row 3 (by omega)
      have x4 : wr.cell? ⟨g, k * 7 + 4, none⟩ = some (.bool (((C : Int) + 4) % 3 == 0)) := hx.row 4 (by omega)
      have x5 : wr.cell? ⟨g, k * 7 + 5, none⟩ = some (.int .i64 ((C : Int) + 1 + 1 + 1 + 1 + 1)) := hx.row 5 (by omega)
      have hdat := hx.dat
      have e2 : ((C : Int) + 1 + 1).tmod 3 = (((C + 2) % 3 : Nat) : Int) := by rw [Int.tmod_eq_emod_of_nonneg (by omega)]; omega
      have e4 : ((C : Int) + 1 + 1 + 1 + 1).tmod 3 = (((C + 4) % 3 : Nat) : Int) := by rw [Int.tmod_eq_emod_of_nonneg (by omega)]; omega
      have HB : Hid (Calls Try.prog 17 #[.slice a m cc, .int .i64 ((C : Int) + 1 + 1 + 1 + 1 + 1 + 1)] wr fun o w' => o = .returned (.int .i64 ((C : Int) + 6 + (m : Int))) ∧ w' = wr) := by
        have := heldHd wr g a m cc (C + 6) hh hdat (by omega)
        have e : (((C + 6 : Nat)) : Int) = (C : Int) + 1 + 1 + 1 + 1 + 1 + 1 := by omega
        have e2 : (((C + 6 + m : Nat)) : Int) = (C : Int) + 6 + (m : Int) := by omega
        rw [e, e2] at this
        exact this
      clear hx hh hdat
      have hnz : ¬ (C : Int) + 6 + (m : Int) < 0 := by omega
      go_wp2_with (first | (go_at_call 17; refine HB.out.mono ?_; rintro o w5 ⟨rfl, rfl⟩))
      refine ⟨⟨k + 1, by omega, by go_num, by rw [HCN.out]; congr 1, trivial⟩, by simp [intOf]; omega⟩
    · have hkn : k = n := by omega
      subst hkn
      go_wp2
      go_ret
      exact ⟨rfl, rfl⟩
end Go.Proofs.Ytiaddabmiponoaa
