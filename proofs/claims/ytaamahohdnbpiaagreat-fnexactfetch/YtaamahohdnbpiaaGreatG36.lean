import Derived.Test.YtaamahohdnbpiaaGreatG26
import Derived.StillTailTactics
import Derived.Test.YtaamahohdnbpiaaGreatG31
namespace Go.Proofs.YtaamahohdnbpiaaGreat
open Go.RowKit
set_option linter.unusedVariables false
theorem rowQ5.ghi {B T E g n k : Nat} {bs : List R5} {W : World} (h : rowQ5 B T E g n k bs W) : g < T := by
  obtain ⟨rs, _, _, _, h4, _⟩ := h
  exact h4
theorem wpStill_load_mid {ops : Array Oper} {rest : List Oper} {op : Oper} {a : Act} {w : World} {Q : Act → Prop} (hw : Region.wanted op (yielded ops a.tmps) = true) (ty : TypeId) (x : Operand) (ho : op.op = .load ty x)
    (b o : Nat) (hx : a.eval x = .pointer (some ⟨b, o, none⟩)) (cs : List Value) (d : TypeDesc) (hc : w.rangeAt b o cs)
    (hu : Tryz.prog.underlying ty = some d) (hd : d.isRow = true) (hi : (Tryz.prog.info? ty).map (·.size) = some cs.length)
    (h : wpStill Tryz.prog ops w Q rest (a.put op.dst (.agg cs.toArray))) : wpStill Tryz.prog ops w Q (op :: rest) a :=
  wpStill_step fun K hK => by
    simp only [hw, if_true]
    unfold Oper.still execOp
    simp only [ho, hx, Instr.loadAt, Instr.sureAddr, Sem.run_bind, Sem.run_pure, Result.andThen_ok, run_loadVar_mid w b o ty cs d hc hu hd hi]
    exact ⟨rfl, hK _ h⟩
/-- the event of a frame -/
abbrev evF (x y z : Int) (f : R5) : R8 := ⟨x, y, z, f.e, f.i, f.r, f.d, f.l⟩
/-- what Fetch makes of a host -/
def fetHo (H : Ho) : Ho := match H.ff with
  | [] => postHo H (ev3 12 0 0)
  | f :: r => { postHo H (evF 12 1 0 f) with ff := r }
theorem isR5s.tail {W : World} {g n k : Nat} {f : R5} {r : List R5} (h : isR5s W (some ⟨g, 0, none⟩) n k (f :: r)) : isR5s W (some ⟨g, 5, none⟩) (n - 1) (k - 1) r := by
  have hl := h.len
  have hc := h.cap
  simp only [List.length_cons] at hl
  refine ⟨by omega, by omega, fun _ => ⟨g, 5, rfl, fun j hj => ?_⟩⟩
  obtain ⟨g', off, e, hx⟩ := h.cells (by simp)
  cases e
  obtain ⟨ao, m, c, q⟩ := hx (j + 1) (by simpa using hj)
  refine ⟨ao, m, c, ?_⟩
  have e2 : 0 + (j + 1) * 5 = 5 + j * 5 := by omega
  rw [e2] at q
  simpa using q
theorem isR5s.tail1 {W W' : World} {g n k : Nat} {f : R5} {r : List R5} (h : isR5s W (some ⟨g, 0, none⟩) n k (f :: r)) (hk : k = 1) : isR5s W' (some ⟨g, 0, none⟩) r.length 0 r := by
  have hl := h.len
  have hc := h.cap
  simp only [List.length_cons] at hl
  have e : r = [] := List.length_eq_zero_iff.1 (by omega)
  subst e
  exact ⟨rfl, Nat.le_refl _, fun e => absurd rfl e⟩
/-- behind a post: blocks in the hole may be written -/
theorem sp_end2 {B T0 T1 T2 g4 : Nat} {w w7 w8 V : World} {H : Ho} {s : Sl} {ev : R8} {g' n' k' : Nat} (hS : spS B T0 T1 T2 H s w7) (hT2 : T2 ≤ w.heap.size) (hg4 : T2 ≤ g4) (hz : w.heap.size + 1 < w7.heap.size)
    (hV : ∀ V : World, (∀ x, T2 ≤ x → x < w.heap.size ∨ w7.heap.size ≤ x → x < w8.heap.size → V.heap[x]? = w8.heap[x]?) → w8.heap.size ≤ V.heap.size → rowQ8 T2 V.heap.size 46 g' n' k' (quP H.c3 H.qu ev) V)
    (he : ∀ q, q ≠ g4 → q < w7.heap.size → w8.heap[q]? = w7.heap[q]?) (hb : w7.heap.size ≤ w8.heap.size) (oth : ∀ x, x ≠ w.heap.size → x ≠ w.heap.size + 1 → V.heap[x]? = w8.heap[x]?) (hsz : V.heap.size = w8.heap.size) : spS B T0 T1 T2 (postHo H ev) (qSl s g' n' k') V := by
  have ho := hS.o
  refine hS.post (hV _ (fun x h1 h2 h3 => oth x (by omega) (by omega)) (by omega)) (fun q h1 h2 => ?_) (by omega)
  rw [oth q (by omega) (by omega)]
  exact he q (by omega) (by omega)
abbrev fSl (s : Sl) (gq o n k : Nat) : Sl := { s with a3 := some ⟨gq, o, none⟩, n3 := n, k3 := k }
abbrev fHo (H : Ho) (r : List R5) : Ho := { H with ff := r }
set_option maxHeartbeats 8000000 in
set_option maxRecDepth 20000 in
/-- spec.l3doFetch -/
theorem l3doFetch_any (B T0 T1 T2 : Nat) (w : World) (H : Ho) (s : Sl) (h : spS B T0 T1 T2 H s w) (hn3 : s.n3 ≤ 1000) (hn4 : s.n4 ≤ 1000) (hlo : 0 ≤ H.lo ∧ H.lo ≤ 100000) (hsm : ∀ j (h : j < H.ff.length), H.ff[j].l.length ≤ 1048576) :
    Calls Tryz.prog 104 #[.agg (hoL H s).toArray] w fun o w' => ∃ s', o = .returned (.agg (hoL (fetHo H) s').toArray) ∧ isHo w' (fetHo H) s' ∧ Below B w w' := by
  have H0 : Hid (reS w (hoL H s) ((w.alloc (.cells (hoL H s).toArray 35)).alloc (.cells [.int .i64 0, .int .i64 0, .int .i64 0, .int .i64 0, .slice none 0 0, .slice none 0 0, .slice none 0 0, .slice none 0 0, .int .i64 0, .int .i64 0].toArray 35))) := reS.new w _
  have HB0 : Hid (Below w.heap.size w ((w.alloc (.cells (hoL H s).toArray 35)).alloc (.cells [.int .i64 0, .int .i64 0, .int .i64 0, .int .i64 0, .slice none 0 0, .slice none 0 0, .slice none 0 0, .slice none 0 0, .int .i64 0, .int .i64 0].toArray 35))) := ((Below.refl _ _).alloc (Nat.le_refl _) _).alloc (by simp) _
  have HS0 : Hid (spS B T0 T1 T2 H s w) := h
  have HZ0 : Hid (B ≤ w.heap.size) := by have := h.o; show _ ≤ _; omega
  have HS5 : Hid (spS B T0 T1 T2 H s ((w.alloc (.cells (hoL H s).toArray 35)).alloc (.cells [.int .i64 0, .int .i64 0, .int .i64 0, .int .i64 0, .slice none 0 0, .slice none 0 0, .slice none 0 0, .slice none 0 0, .int .i64 0, .int .i64 0].toArray 35))) := h.below HB0.out
  have HPL : Hid (w.heap.size < ((w.alloc (.cells (hoL H s).toArray 35)).alloc (.cells [.int .i64 0, .int .i64 0, .int .i64 0, .int .i64 0, .slice none 0 0, .slice none 0 0, .slice none 0 0, .slice none 0 0, .int .i64 0, .int .i64 0].toArray 35)).heap.size ∧ w.heap.size + 1 < ((w.alloc (.cells (hoL H s).toArray 35)).alloc (.cells [.int .i64 0, .int .i64 0, .int .i64 0, .int .i64 0, .slice none 0 0, .slice none 0 0, .slice none 0 0, .slice none 0 0, .int .i64 0, .int .i64 0].toArray 35)).heap.size) := ⟨H0.out.p.lt, H0.out.r.lt⟩
  obtain ⟨g4, e4, hq4⟩ := h.q
  obtain ⟨gq, e3, hq3⟩ := h.r
  have HE4 : Hid (s.a4 = some ⟨g4, 0, none⟩ ∧ g4 < w.heap.size ∧ T2 ≤ g4) := ⟨e4, hq4.ghi, hq4.glt⟩
  have HQ5 : Hid (rowQ8 T2 w.heap.size 46 g4 s.n4 s.k4 H.qu ((w.alloc (.cells (hoL H s).toArray 35)).alloc (.cells [.int .i64 0, .int .i64 0, .int .i64 0, .int .i64 0, .slice none 0 0, .slice none 0 0, .slice none 0 0, .slice none 0 0, .int .i64 0, .int .i64 0].toArray 35))) := hq4.keep fun x _ h2 => HB0.out.block x h2
  have HE3 : Hid (s.a3 = some ⟨gq, 0, none⟩ ∧ gq < T2) := ⟨e3, hq3.ghi⟩
  have HR0 : Hid (isR5s w (some ⟨gq, 0, none⟩) s.n3 s.k3 H.ff) := hq3.is
  have x6 : ((w.alloc (.cells (hoL H s).toArray 35)).alloc (.cells [.int .i64 0, .int .i64 0, .int .i64 0, .int .i64 0, .slice none 0 0, .slice none 0 0, .slice none 0 0, .slice none 0 0, .int .i64 0, .int .i64 0].toArray 35)).cell? ⟨w.heap.size, 6, none⟩ = some (.slice (some ⟨gq, 0, none⟩) s.n3 s.k3) := by
    rw [← e3]
    exact H0.out.p.cell 6 _ (by unfold hoL; rfl)
  have hl3 := hq3.is.len
  have hc3 := hq3.is.cap
  clear h e4 hq4 e3 hq3
  have HSM : Hid (∀ j (h : j < H.ff.length), H.ff[j].l.length ≤ 1048576) := hsm
  clear hsm
  obtain ⟨L, hL⟩ : ∃ L, H.ff = L := ⟨_, rfl⟩
  have HFL : Hid (H.ff = L) := hL
  rw [hL] at hl3
  clear hL
  cases L with
  | nil =>
    have HRL : Hid (fetHo H = postHo H (ev3 12 0 0)) := by
      show fetHo H = _
      unfold fetHo
      rw [HFL.out]
    have hz3 : s.n3 = 0 := hl3
    rw [hz3] at x6
    go_enter Tryz.func104, Tryz.ntmps104
    go_wp2_with (first
      | (refine wpList_load_mid (P := Tryz.prog) rfl 35 _ rfl w.heap.size 0 rfl (hoL H s) _ H0.out.p.load Tryz.underlying35 rfl (sz41L H s) ?_))
    refine (l3say_q ((w.alloc (.cells (hoL H s).toArray 35)).alloc (.cells [.int .i64 0, .int .i64 0, .int .i64 0, .int .i64 0, .slice none 0 0, .slice none 0 0, .slice none 0 0, .slice none 0 0, .int .i64 0, .int .i64 0].toArray 35)) H s T2 w.heap.size g4 12 0 0 HE4.out.1 HQ5.out (by have := HS5.out.o; omega) hn4 hlo).mono ?_
    rintro o w8 ⟨g', n', k', rfl, hV, ho8, hb8⟩
    have HR8 : Hid (blk w8 (w.heap.size + 1) Z10 35) := H0.out.r.kept (ho8 _ (by have := HE4.out.2; omega) HPL.out.2)
    have HE8 : Hid (∀ L : List Value, spS B T0 T1 T2 (postHo H (ev3 12 0 0)) (qSl s g' n' k') (w8.setCells (w.heap.size + 1) 0 L)) := fun L => sp_end HS5.out HS0.out.o.2.2.2 HE4.out.2.2 HPL.out.2 hV ho8 hb8.size L
    have HB8 : Hid (Below B w w8) := (HB0.out.mono HZ0.out).trans (hb8.mono (by have := HS0.out.o; omega))
    clear hV ho8 hb8
    go_wp2_with (first
      | (refine wpList_store_mid (P := Tryz.prog) rfl 35 _ _ rfl (w.heap.size + 1) 0 (hoL (postHo H (ev3 12 0 0)) (qSl s g' n' k')).toArray rfl rfl (HR8.out.there 0 _ (by rw [List.size_toArray, hoL_len]; decide)) (sz41A _ _) (hoL_one _ _) ?_; generalize hW9 : World.setCells _ (w.heap.size + 1) 0 _ = w9; have HW9 : Hid (_ = w9) := hW9; clear hW9))
    have e9 := HW9.out
    have hF : blk w9 (w.heap.size + 1) (hoL (postHo H (ev3 12 0 0)) (qSl s g' n' k')) 35 := by
      rw [← e9]
      have := blk.put [] Z10 [] (hoL (postHo H (ev3 12 0 0)) (qSl s g' n' k')) (w := w8) (b := w.heap.size + 1) (T := 35) (by simpa using HR8.out) (by rw [hoL_len]; rfl)
      simpa using this
    have hL := run_loadVar_mid (P := Tryz.prog) w9 (w.heap.size + 1) 0 35 _ _ hF.load Tryz.underlying35 rfl (sz41L _ _)
    refine bodyPost_ret (v := .agg (hoL (postHo H (ev3 12 0 0)) (qSl s g' n' k')).toArray) (results_cell Tryz.results104 _ w9 (w.heap.size + 1) _ rfl hL) rfl ?_
    rw [HRL.out]
    refine ⟨_, rfl, ?_, ?_⟩
    · rw [← e9]; exact (HE8.out _).is
    · rw [← e9]; exact setCells_below (by have := HZ0.out; omega) 0 _ HB8.out
  | cons f r =>
    have HRL : Hid (fetHo H = { postHo H (evF 12 1 0 f) with ff := r }) := by
      show fetHo H = _
      unfold fetHo
      rw [HFL.out]
    obtain ⟨ao, m, c, hat⟩ : ∃ ao m c, at5 w gq 0 f ao m c := by
      have h5 := HR0.out
      rw [HFL.out] at h5
      obtain ⟨g', off, e, hx⟩ := h5.cells (by simp)
      cases e
      obtain ⟨ao, m, c, q⟩ := hx 0 (by simp)
      exact ⟨ao, m, c, by simpa using q⟩
    have hat5 := hat.below HB0.out
    have HM : Hid (m ≤ 1048576) := by
      have h1 := HSM.out 0 (by rw [HFL.out]; simp)
      have h2 := hat.dat.len
      have e : H.ff[0]'(by rw [HFL.out]; simp) = f := by simp [HFL.out]
      rw [e] at h1
      show m ≤ _
      omega
    have hn0 : 0 < s.n3 := by simp only [List.length_cons] at hl3; omega
    obtain ⟨fE, fI, fR, fD, fL⟩ := f
    have HRG : Hid (((w.alloc (.cells (hoL H s).toArray 35)).alloc (.cells [.int .i64 0, .int .i64 0, .int .i64 0, .int .i64 0, .slice none 0 0, .slice none 0 0, .slice none 0 0, .slice none 0 0, .int .i64 0, .int .i64 0].toArray 35)).rangeAt gq 0 [.bool fE, .int .u32 (fI : Int), .bool fR, .int .i64 fD, .slice ao m c]) := hat5.range
    have HDT : Hid (isBytes ((w.alloc (.cells (hoL H s).toArray 35)).alloc (.cells [.int .i64 0, .int .i64 0, .int .i64 0, .int .i64 0, .slice none 0 0, .slice none 0 0, .slice none 0 0, .slice none 0 0, .int .i64 0, .int .i64 0].toArray 35)) ao m c fL) := hat5.dat
    clear hat hat5
    go_enter Tryz.func104, Tryz.ntmps104
    go_wp2_with fail
    refine wp_region_still_tail 5 (by kernel_rfl) (by kernel_rfl) ?_
    change wpStill Tryz.prog _ (World.drew ((w.alloc (.cells (hoL H s).toArray 35)).alloc (.cells [.int .i64 0, .int .i64 0, .int .i64 0, .int .i64 0, .slice none 0 0, .slice none 0 0, .slice none 0 0, .slice none 0 0, .int .i64 0, .int .i64 0].toArray 35))) (fun a' => wpList Tryz.prog _ _ _ a' (World.drew ((w.alloc (.cells (hoL H s).toArray 35)).alloc (.cells [.int .i64 0, .int .i64 0, .int .i64 0, .int .i64 0, .slice none 0 0, .slice none 0 0, .slice none 0 0, .slice none 0 0, .int .i64 0, .int .i64 0].toArray 35)))) _ _
    have HBd : Hid (Below ((w.alloc (.cells (hoL H s).toArray 35)).alloc (.cells [.int .i64 0, .int .i64 0, .int .i64 0, .int .i64 0, .slice none 0 0, .slice none 0 0, .slice none 0 0, .slice none 0 0, .int .i64 0, .int .i64 0].toArray 35)).heap.size ((w.alloc (.cells (hoL H s).toArray 35)).alloc (.cells [.int .i64 0, .int .i64 0, .int .i64 0, .int .i64 0, .slice none 0 0, .slice none 0 0, .slice none 0 0, .slice none 0 0, .int .i64 0, .int .i64 0].toArray 35)) (World.drew ((w.alloc (.cells (hoL H s).toArray 35)).alloc (.cells [.int .i64 0, .int .i64 0, .int .i64 0, .int .i64 0, .slice none 0 0, .slice none 0 0, .slice none 0 0, .slice none 0 0, .int .i64 0, .int .i64 0].toArray 35)))) := (Below.refl _ _).drew
    have HB0 : Hid (Below w.heap.size w (World.drew ((w.alloc (.cells (hoL H s).toArray 35)).alloc (.cells [.int .i64 0, .int .i64 0, .int .i64 0, .int .i64 0, .slice none 0 0, .slice none 0 0, .slice none 0 0, .slice none 0 0, .int .i64 0, .int .i64 0].toArray 35)))) := HB0.out.drew
    have H0 : Hid (reS w (hoL H s) (World.drew ((w.alloc (.cells (hoL H s).toArray 35)).alloc (.cells [.int .i64 0, .int .i64 0, .int .i64 0, .int .i64 0, .slice none 0 0, .slice none 0 0, .slice none 0 0, .slice none 0 0, .int .i64 0, .int .i64 0].toArray 35)))) := H0.out.below HBd.out
    have HS5 : Hid (spS B T0 T1 T2 H s (World.drew ((w.alloc (.cells (hoL H s).toArray 35)).alloc (.cells [.int .i64 0, .int .i64 0, .int .i64 0, .int .i64 0, .slice none 0 0, .slice none 0 0, .slice none 0 0, .slice none 0 0, .int .i64 0, .int .i64 0].toArray 35)))) := HS5.out.below HBd.out
    have HQ5 : Hid (rowQ8 T2 w.heap.size 46 g4 s.n4 s.k4 H.qu (World.drew ((w.alloc (.cells (hoL H s).toArray 35)).alloc (.cells [.int .i64 0, .int .i64 0, .int .i64 0, .int .i64 0, .slice none 0 0, .slice none 0 0, .slice none 0 0, .slice none 0 0, .int .i64 0, .int .i64 0].toArray 35)))) := HQ5.out.keep (fun _ _ _ => rfl)
    have HRG : Hid ((World.drew ((w.alloc (.cells (hoL H s).toArray 35)).alloc (.cells [.int .i64 0, .int .i64 0, .int .i64 0, .int .i64 0, .slice none 0 0, .slice none 0 0, .slice none 0 0, .slice none 0 0, .int .i64 0, .int .i64 0].toArray 35))).rangeAt gq 0 [.bool fE, .int .u32 (fI : Int), .bool fR, .int .i64 fD, .slice ao m c]) := HRG.out
    have HDT : Hid (isBytes (World.drew ((w.alloc (.cells (hoL H s).toArray 35)).alloc (.cells [.int .i64 0, .int .i64 0, .int .i64 0, .int .i64 0, .slice none 0 0, .slice none 0 0, .slice none 0 0, .slice none 0 0, .int .i64 0, .int .i64 0].toArray 35))) ao m c fL) := HDT.out.below HBd.out
    have HPL : Hid (w.heap.size < (World.drew ((w.alloc (.cells (hoL H s).toArray 35)).alloc (.cells [.int .i64 0, .int .i64 0, .int .i64 0, .int .i64 0, .slice none 0 0, .slice none 0 0, .slice none 0 0, .slice none 0 0, .int .i64 0, .int .i64 0].toArray 35))).heap.size ∧ w.heap.size + 1 < (World.drew ((w.alloc (.cells (hoL H s).toArray 35)).alloc (.cells [.int .i64 0, .int .i64 0, .int .i64 0, .int .i64 0, .slice none 0 0, .slice none 0 0, .slice none 0 0, .slice none 0 0, .int .i64 0, .int .i64 0].toArray 35))).heap.size) := HPL.out
    have x6 : (World.drew ((w.alloc (.cells (hoL H s).toArray 35)).alloc (.cells [.int .i64 0, .int .i64 0, .int .i64 0, .int .i64 0, .slice none 0 0, .slice none 0 0, .slice none 0 0, .slice none 0 0, .int .i64 0, .int .i64 0].toArray 35))).cell? ⟨w.heap.size, 6, none⟩ = some (.slice (some ⟨gq, 0, none⟩) s.n3 s.k3) := x6
    clear HBd
    generalize World.drew ((w.alloc (.cells (hoL H s).toArray 35)).alloc (.cells [.int .i64 0, .int .i64 0, .int .i64 0, .int .i64 0, .slice none 0 0, .slice none 0 0, .slice none 0 0, .slice none 0 0, .int .i64 0, .int .i64 0].toArray 35)) = v0 at *
    simp only [List.take_succ_cons, List.take_zero, List.drop_succ_cons, List.drop_zero]
    refine wpStill_load_mid (by rfl) 35 _ rfl w.heap.size 0 rfl (hoL H s) _ H0.out.p.load Tryz.underlying35 rfl (sz41L H s) ?_
    still_step
    still_step
    still_step
    refine wpStill_load_mid (by rfl) 25 _ rfl gq 0 rfl [.bool fE, .int .u32 (fI : Int), .bool fR, .int .i64 fD, .slice ao m c] _ HRG.out Tryz.underlying25 rfl sz93 ?_
    refine wpStill_nil ?_
    go_wp2_with fail
    refine (l3post_q v0 H s T2 w.heap.size g4 ⟨12, 1, 0, fE, fI, fR, fD, fL⟩ ao m c HE4.out.1 HQ5.out (by have := HS5.out.o; omega) hn4 hlo HDT.out HM.out).mono ?_
    rintro o w8 ⟨g', n', k', rfl, hV, ho8, hb8⟩
    have HP8 : Hid (blk w8 w.heap.size (hoL H s) 35 ∧ blk w8 (w.heap.size + 1) Z10 35) := ⟨H0.out.p.kept (ho8 _ (by have := HE4.out.2; omega) HPL.out.1), H0.out.r.kept (ho8 _ (by have := HE4.out.2; omega) HPL.out.2)⟩
    have HE8 : Hid (∀ V : World, (∀ x, x ≠ w.heap.size → x ≠ w.heap.size + 1 → V.heap[x]? = w8.heap[x]?) → V.heap.size = w8.heap.size → spS B T0 T1 T2 (postHo H ⟨12, 1, 0, fE, fI, fR, fD, fL⟩) (qSl s g' n' k') V) := fun V h1 h2 => sp_end2 HS5.out HS0.out.o.2.2.2 HE4.out.2.2 HPL.out.2 hV ho8 hb8.size h1 h2
    have HB8 : Hid (Below B w w8) := (HB0.out.mono HZ0.out).trans (hb8.mono (by have := HS0.out.o; omega))
    clear hV ho8 hb8
    have HK9 : Hid (∀ w9, World.setCells w8 w.heap.size 0 (hoL (postHo H ⟨12, 1, 0, fE, fI, fR, fD, fL⟩) (qSl s g' n' k')) = w9 → blk w9 w.heap.size (hoL (postHo H ⟨12, 1, 0, fE, fI, fR, fD, fL⟩) (qSl s g' n' k')) 35 ∧ w9.cell? ⟨w.heap.size, 6, none⟩ = some (.slice (some ⟨gq, 0, none⟩) (r.length + 1) s.k3)) := fun w9 e9 => by
      have h9 := blk.put [] (hoL H s) [] (hoL (postHo H ⟨12, 1, 0, fE, fI, fR, fD, fL⟩) (qSl s g' n' k')) (w := w8) (b := w.heap.size) (T := 35) (by simpa using HP8.out.1) (by rw [hoL_len, hoL_len])
      rw [List.nil_append, List.append_nil, List.length_nil, e9] at h9
      refine ⟨h9, ?_⟩
      have hc := h9.cell 6 _ (by unfold hoL; rfl)
      have e1 : ((qSl s g' n' k')).a3 = some ⟨gq, 0, none⟩ := HE3.out.1
      have e2 : ((qSl s g' n' k')).n3 = r.length + 1 := hl3
      rw [e1, e2] at hc
      exact hc
    have HK11 : Hid (∀ w9, World.setCells w8 w.heap.size 0 (hoL (postHo H ⟨12, 1, 0, fE, fI, fR, fD, fL⟩) (qSl s g' n' k')) = w9 → ∀ v, blk (w9.setCell ⟨w.heap.size, 6, none⟩ v) (w.heap.size + 1) Z10 35) := fun w9 e9 v => by
      rw [← e9]
      exact (HP8.out.2.other (by omega) _ _).setOther (by omega) _ _
    by_cases hk1 : s.k3 = 1
    · have hk3 := hk1
      have HK10 : Hid (∀ w9, blk w9 w.heap.size (hoL (postHo H ⟨12, 1, 0, fE, fI, fR, fD, fL⟩) (qSl s g' n' k')) 35 → blk (w9.setCell ⟨w.heap.size, 6, none⟩ (.slice (some ⟨gq, 0, none⟩) r.length 0)) w.heap.size (hoL (fHo (postHo H ⟨12, 1, 0, fE, fI, fR, fD, fL⟩) r) (fSl (qSl s g' n' k') gq 0 r.length 0)) 35) := fun w9 h9 => h9.set 6 _
      go_wp2_with (first
        | (refine wpList_store_mid (P := Tryz.prog) rfl 35 _ _ rfl w.heap.size 0 (hoL (postHo H ⟨12, 1, 0, fE, fI, fR, fD, fL⟩) (qSl s g' n' k')).toArray rfl rfl (HP8.out.1.there 0 _ (by rw [List.size_toArray, hoL_len, hoL_len]; decide)) (sz41A _ _) (hoL_one _ _) ?_; generalize hW9 : World.setCells w8 w.heap.size 0 _ = w9; have HW9 : Hid (World.setCells w8 w.heap.size 0 (hoL (postHo H ⟨12, 1, 0, fE, fI, fR, fD, fL⟩) (qSl s g' n' k')) = w9) := hW9; clear hW9; have HQ9 : Hid (blk w9 w.heap.size (hoL (postHo H ⟨12, 1, 0, fE, fI, fR, fD, fL⟩) (qSl s g' n' k')) 35) := (HK9.out _ HW9.out).1; have x9 := (HK9.out _ HW9.out).2; have f9 := HQ9.out.free 6; have HR9 : Hid (blk (w9.setCell ⟨w.heap.size, 6, none⟩ (.slice (some ⟨gq, 0, none⟩) r.length 0)) (w.heap.size + 1) Z10 35) := HK11.out _ HW9.out _; have HQ10 : Hid (blk (w9.setCell ⟨w.heap.size, 6, none⟩ (.slice (some ⟨gq, 0, none⟩) r.length 0)) w.heap.size (hoL (fHo (postHo H ⟨12, 1, 0, fE, fI, fR, fD, fL⟩) r) (fSl (qSl s g' n' k') gq 0 r.length 0)) 35) := HK10.out _ HQ9.out)
        | (refine wpList_load_mid (P := Tryz.prog) rfl 35 _ rfl w.heap.size 0 rfl (hoL (fHo (postHo H ⟨12, 1, 0, fE, fI, fR, fD, fL⟩) r) (fSl (qSl s g' n' k') gq 0 r.length 0)) _ HQ10.out.load Tryz.underlying35 rfl (sz41L _ _) ?_)
        | (refine wpList_store_mid (P := Tryz.prog) rfl 35 _ _ rfl (w.heap.size + 1) 0 (hoL (fHo (postHo H ⟨12, 1, 0, fE, fI, fR, fD, fL⟩) r) (fSl (qSl s g' n' k') gq 0 r.length 0)).toArray rfl rfl (HR9.out.there 0 _ (by rw [List.size_toArray, hoL_len]; decide)) (sz41A _ _) (hoL_one _ _) ?_; generalize hWa : World.setCells _ (w.heap.size + 1) 0 _ = wa; have HWa : Hid (_ = wa) := hWa; clear hWa))
      have ea := HWa.out
      have hF : blk wa (w.heap.size + 1) (hoL (fHo (postHo H ⟨12, 1, 0, fE, fI, fR, fD, fL⟩) r) (fSl (qSl s g' n' k') gq 0 r.length 0)) 35 := by
        rw [← ea]
        have := blk.put [] Z10 [] (hoL (fHo (postHo H ⟨12, 1, 0, fE, fI, fR, fD, fL⟩) r) (fSl (qSl s g' n' k') gq 0 r.length 0)) (b := w.heap.size + 1) (T := 35) (by simpa using HR9.out) (by rw [hoL_len]; rfl)
        rw [List.nil_append, List.append_nil] at this
        exact this
      have hL := run_loadVar_mid (P := Tryz.prog) wa (w.heap.size + 1) 0 35 _ _ hF.load Tryz.underlying35 rfl (sz41L _ _)
      refine bodyPost_ret (v := .agg (hoL (fHo (postHo H ⟨12, 1, 0, fE, fI, fR, fD, fL⟩) r) (fSl (qSl s g' n' k') gq 0 r.length 0)).toArray) (results_cell Tryz.results104 _ wa (w.heap.size + 1) _ rfl hL) rfl ?_
      have hoth : ∀ x, x ≠ w.heap.size → x ≠ w.heap.size + 1 → wa.heap[x]? = w8.heap[x]? := fun x h1 h2 => by
        rw [← ea, setCells_other _ x h2, heap_setCell_other _ _ _ _ (by exact h1), ← HW9.out]
        exact setCells_other _ x h1 _ _ _
      have hsz : wa.heap.size = w8.heap.size := by
        rw [← ea, setCells_size, ← HW9.out]
        simp [setCells_size]
      have hsp := HE8.out wa hoth hsz
      obtain ⟨gq', e3', hq3'⟩ := hsp.r
      have eg : gq = gq' := by
        have e := HE3.out.1
        have e3'' : s.a3 = some ⟨gq', 0, none⟩ := e3'
        rw [e] at e3''
        cases e3''
        rfl
      have hq3 := hq3'.is
      rw [← eg] at hq3
      have effr : (postHo H ⟨12, 1, 0, fE, fI, fR, fD, fL⟩).ff = ⟨fE, fI, fR, fD, fL⟩ :: r := HFL.out
      rw [effr] at hq3
      rw [HRL.out]
      refine ⟨(fSl (qSl s g' n' k') gq 0 r.length 0), rfl, ⟨hsp.is.fs, hsp.is.bx, hq3.tail1 hk1, hsp.is.qu⟩, ?_⟩
      rw [← ea]
      refine setCells_below (by have := HZ0.out; omega) 0 _ ((Below.setCell ?_ (by exact HZ0.out) _))
      rw [← HW9.out]
      exact setCells_below HZ0.out 0 _ HB8.out
    · have hk3 := hk1
      have HK10 : Hid (∀ w9, blk w9 w.heap.size (hoL (postHo H ⟨12, 1, 0, fE, fI, fR, fD, fL⟩) (qSl s g' n' k')) 35 → blk (w9.setCell ⟨w.heap.size, 6, none⟩ (.slice (some ⟨gq, 5, none⟩) r.length (s.k3 - 1))) w.heap.size (hoL (fHo (postHo H ⟨12, 1, 0, fE, fI, fR, fD, fL⟩) r) (fSl (qSl s g' n' k') gq 5 r.length (s.k3 - 1))) 35) := fun w9 h9 => h9.set 6 _
      go_wp2_with (first
        | (refine wpList_store_mid (P := Tryz.prog) rfl 35 _ _ rfl w.heap.size 0 (hoL (postHo H ⟨12, 1, 0, fE, fI, fR, fD, fL⟩) (qSl s g' n' k')).toArray rfl rfl (HP8.out.1.there 0 _ (by rw [List.size_toArray, hoL_len, hoL_len]; decide)) (sz41A _ _) (hoL_one _ _) ?_; generalize hW9 : World.setCells w8 w.heap.size 0 _ = w9; have HW9 : Hid (World.setCells w8 w.heap.size 0 (hoL (postHo H ⟨12, 1, 0, fE, fI, fR, fD, fL⟩) (qSl s g' n' k')) = w9) := hW9; clear hW9; have HQ9 : Hid (blk w9 w.heap.size (hoL (postHo H ⟨12, 1, 0, fE, fI, fR, fD, fL⟩) (qSl s g' n' k')) 35) := (HK9.out _ HW9.out).1; have x9 := (HK9.out _ HW9.out).2; have f9 := HQ9.out.free 6; have HR9 : Hid (blk (w9.setCell ⟨w.heap.size, 6, none⟩ (.slice (some ⟨gq, 5, none⟩) r.length (s.k3 - 1))) (w.heap.size + 1) Z10 35) := HK11.out _ HW9.out _; have HQ10 : Hid (blk (w9.setCell ⟨w.heap.size, 6, none⟩ (.slice (some ⟨gq, 5, none⟩) r.length (s.k3 - 1))) w.heap.size (hoL (fHo (postHo H ⟨12, 1, 0, fE, fI, fR, fD, fL⟩) r) (fSl (qSl s g' n' k') gq 5 r.length (s.k3 - 1))) 35) := HK10.out _ HQ9.out)
        | (refine wpList_load_mid (P := Tryz.prog) rfl 35 _ rfl w.heap.size 0 rfl (hoL (fHo (postHo H ⟨12, 1, 0, fE, fI, fR, fD, fL⟩) r) (fSl (qSl s g' n' k') gq 5 r.length (s.k3 - 1))) _ HQ10.out.load Tryz.underlying35 rfl (sz41L _ _) ?_)
        | (refine wpList_store_mid (P := Tryz.prog) rfl 35 _ _ rfl (w.heap.size + 1) 0 (hoL (fHo (postHo H ⟨12, 1, 0, fE, fI, fR, fD, fL⟩) r) (fSl (qSl s g' n' k') gq 5 r.length (s.k3 - 1))).toArray rfl rfl (HR9.out.there 0 _ (by rw [List.size_toArray, hoL_len]; decide)) (sz41A _ _) (hoL_one _ _) ?_; generalize hWa : World.setCells _ (w.heap.size + 1) 0 _ = wa; have HWa : Hid (_ = wa) := hWa; clear hWa))
      have ea := HWa.out
      have hF : blk wa (w.heap.size + 1) (hoL (fHo (postHo H ⟨12, 1, 0, fE, fI, fR, fD, fL⟩) r) (fSl (qSl s g' n' k') gq 5 r.length (s.k3 - 1))) 35 := by
        rw [← ea]
        have := blk.put [] Z10 [] (hoL (fHo (postHo H ⟨12, 1, 0, fE, fI, fR, fD, fL⟩) r) (fSl (qSl s g' n' k') gq 5 r.length (s.k3 - 1))) (b := w.heap.size + 1) (T := 35) (by simpa using HR9.out) (by rw [hoL_len]; rfl)
        rw [List.nil_append, List.append_nil] at this
        exact this
      have hL := run_loadVar_mid (P := Tryz.prog) wa (w.heap.size + 1) 0 35 _ _ hF.load Tryz.underlying35 rfl (sz41L _ _)
      refine bodyPost_ret (v := .agg (hoL (fHo (postHo H ⟨12, 1, 0, fE, fI, fR, fD, fL⟩) r) (fSl (qSl s g' n' k') gq 5 r.length (s.k3 - 1))).toArray) (results_cell Tryz.results104 _ wa (w.heap.size + 1) _ rfl hL) rfl ?_
      have hoth : ∀ x, x ≠ w.heap.size → x ≠ w.heap.size + 1 → wa.heap[x]? = w8.heap[x]? := fun x h1 h2 => by
        rw [← ea, setCells_other _ x h2, heap_setCell_other _ _ _ _ (by exact h1), ← HW9.out]
        exact setCells_other _ x h1 _ _ _
      have hsz : wa.heap.size = w8.heap.size := by
        rw [← ea, setCells_size, ← HW9.out]
        simp [setCells_size]
      have hsp := HE8.out wa hoth hsz
      obtain ⟨gq', e3', hq3'⟩ := hsp.r
      have eg : gq = gq' := by
        have e := HE3.out.1
        have e3'' : s.a3 = some ⟨gq', 0, none⟩ := e3'
        rw [e] at e3''
        cases e3''
        rfl
      have hq3 := hq3'.is
      rw [← eg] at hq3
      have effr : (postHo H ⟨12, 1, 0, fE, fI, fR, fD, fL⟩).ff = ⟨fE, fI, fR, fD, fL⟩ :: r := HFL.out
      rw [effr] at hq3
      rw [HRL.out]
      refine ⟨(fSl (qSl s g' n' k') gq 5 r.length (s.k3 - 1)), rfl, ⟨hsp.is.fs, hsp.is.bx, (by have := hq3.tail; have e : (qSl s g' n' k').n3 - 1 = r.length := (by show s.n3 - 1 = _; rw [hl3]; rfl); rw [e] at this; exact this), hsp.is.qu⟩, ?_⟩
      rw [← ea]
      refine setCells_below (by have := HZ0.out; omega) 0 _ ((Below.setCell ?_ (by exact HZ0.out) _))
      rw [← HW9.out]
      exact setCells_below HZ0.out 0 _ HB8.out
end Go.Proofs.YtaamahohdnbpiaaGreat
namespace Go.Proofs.YtaamahohdnbpiaaGreat
open Go.RowKit
set_option linter.unusedVariables false
theorem okHo.n3 {H : Ho} (h : okHo H) : H.ff.length ≤ 1000 := by
  have h1 := of_decide_eq_true h.cf
  have h2 := h.nf
  omega
theorem fetHo_le {H : Ho} (h : H.le 1048576) (hq : H.qu.length ≤ 1000) : (fetHo H).le 1048576 := by
  obtain ⟨L, hL⟩ : ∃ L, H.ff = L := ⟨_, rfl⟩
  unfold fetHo
  rw [hL]
  cases L with
  | nil => exact Ho.le.post h hq (Nat.zero_le _)
  | cons f r =>
    have hf := h.fd 0 (by rw [hL]; simp)
    have e0 : H.ff[0]'(by rw [hL]; simp) = f := by simp [hL]
    rw [e0] at hf
    have h2 : (postHo H (evF 12 1 0 f)).le 1048576 := Ho.le.post h hq hf
    have hl := h.ff
    rw [hL, List.length_cons] at hl
    refine ⟨h2.fs, h2.bx, by show r.length ≤ _; omega, h2.qu, h2.bd, fun j hj => ?_, h2.qd⟩
    have hj' : j + 1 < H.ff.length := by rw [hL]; have : j < r.length := hj; simp; omega
    have e : r[j]'(hj) = H.ff[j + 1] := by simp [hL]
    show (r[j]'(hj)).l.length ≤ _
    rw [e]
    exact h.fd (j + 1) hj'
theorem fetR_le {H T : Ho} (hR : okRel H (fetHo H) T) (h : H.le 1048576) : T.le 1048576 := okR_le hR fun hok => fetHo_le h hok.n4
theorem copyS3 (W : World) (H : Ho) (s : Sl) (h : isHo W H s) (hn : H.le 1048576) : Calls Tryz.prog 71 #[.agg (hoL H s).toArray] W fun o w' => ∃ s' T0 T1 T2, o = .returned (.agg (hoL H s').toArray) ∧ spS (W.heap.size + 3) T0 T1 T2 H s' w' ∧ s'.n3 = H.ff.length ∧ s'.n4 = H.qu.length ∧ Below W.heap.size W w' := by
  refine (copyS W H s h hn).mono ?_
  rintro o w' ⟨s', T0, T1, T2, rfl, h1, h2, h3, h4⟩
  exact ⟨s', T0, T1, T2, rfl, h1, h1.is.ff.len, h3, h4⟩
set_option maxHeartbeats 4000000 in
set_option maxRecDepth 20000 in
/-- spec.Fetch -/
theorem specFetch_any (w : World) (H : Ho) (s : Sl) (T : Ho) (hR : okRel H (fetHo H) T) (h : isHo w H s) (hn : H.le 1048576) :
    Calls Tryz.prog 43 #[.agg (hoL H s).toArray] w fun o w' => ∃ s', o = .returned (.agg (hoL T s').toArray) ∧ isHo w' T s' ∧ Below w.heap.size w w' := by
  have H0 : Hid (dtS w H s ((w.alloc (.cells (hoL H s).toArray 35)).alloc (.cells [.int .i64 0, .int .i64 0, .int .i64 0, .int .i64 0, .slice none 0 0, .slice none 0 0, .slice none 0 0, .slice none 0 0, .int .i64 0, .int .i64 0].toArray 35))) := dtS.new w H s
  have HR : Hid (okRel H (fetHo H) T) := hR
  clear hR
  by_cases hok : okHo H
  · have HV : Hid (∀ W, Below w.heap.size w W → Calls Tryz.prog 72 #[.agg (hoL H s).toArray] W fun o w' => o = .returned (.bool true) ∧ Below W.heap.size W w') := fun W hW => okL W H s (h.below hW) hn hok
    have HC : Hid (∀ W, Below w.heap.size w W → Calls Tryz.prog 71 #[.agg (hoL H s).toArray] W fun o w' => ∃ s' T0 T1 T2, o = .returned (.agg (hoL H s').toArray) ∧ spS (W.heap.size + 3) T0 T1 T2 H s' w' ∧ s'.n3 = H.ff.length ∧ s'.n4 = H.qu.length ∧ Below W.heap.size W w') := fun W hW => copyS3 W H s (h.below hW) hn
    have HSM : Hid (∀ j (h : j < H.ff.length), H.ff[j].l.length ≤ 1048576) := hn.fd
    have HFL : Hid ((fetHo H).le 1048576) := fetHo_le hn hok.n4
    have HOK : Hid (okHo H) := hok
    clear h hn hok
    go_enter Tryz.func43, Tryz.ntmps43
    go_wp2_with (first
      | (refine wpList_load_mid (P := Tryz.prog) rfl 35 _ rfl w.heap.size 0 rfl _ _ H0.out.p.load Tryz.underlying35 rfl (sz41L H s) ?_))
    refine (HV.out _ H0.out.b).mono ?_
    rintro o w1 ⟨rfl, hb1⟩
    have H1 : Hid (dtS w H s w1) := H0.out.below hb1
    clear H0 hb1
    go_wp2_with (first
      | (refine wpList_load_mid (P := Tryz.prog) rfl 35 _ rfl w.heap.size 0 rfl _ _ H1.out.p.load Tryz.underlying35 rfl (sz41L H s) ?_))
    refine (HC.out _ H1.out.b).mono ?_
    rintro o w2 ⟨s2, T0, T1, T2, rfl, e4, e2, e3, hb2⟩
    have hn2 : s2.n3 ≤ 1000 := by rw [e2]; exact HOK.out.n3
    have hn4 : s2.n4 ≤ 1000 := by rw [e3]; exact HOK.out.n4
    have HD : Hid (Calls Tryz.prog 104 #[.agg (hoL H s2).toArray] w2 fun o w' => ∃ s', o = .returned (.agg (hoL (fetHo H) s').toArray) ∧ isHo w' (fetHo H) s' ∧ Below (w1.heap.size + 3) w2 w') := l3doFetch_any (w1.heap.size + 3) T0 T1 T2 w2 H s2 e4 hn2 hn4 ⟨HOK.out.l0, HOK.out.l1⟩ HSM.out
    have H2 : Hid (dtS w H s w2) := H1.out.below hb2
    have HZ2 : Hid (w.heap.size + 1 < w1.heap.size) := H1.out.r.lt
    have HZB : Hid (w1.heap.size ≤ w2.heap.size) := hb2.size
    clear e2 e3 e4 hb2 hn2 hn4 H1 HC HV
    go_wp2_with fail
    refine HD.out.mono ?_
    rintro o w3 ⟨s3, rfl, q1, q2⟩
    have H3 : Hid (dtP w H s w3) := ⟨H2.out.p.kept (q2.block _ (by have := HZ2.out; omega)), H2.out.r.kept (q2.block _ (by have := HZ2.out; omega))⟩
    have HB3 : Hid (Below w.heap.size w w3) := H2.out.b.trans (q2.mono (by have := HZ2.out; omega))
    have HC3 : Hid (Calls Tryz.prog 71 #[.agg (hoL (fetHo H) s3).toArray] w3 fun o w' => ∃ s' T0 T1 T2, o = .returned (.agg (hoL (fetHo H) s').toArray) ∧ spS (w3.heap.size + 3) T0 T1 T2 (fetHo H) s' w' ∧ s'.n2 = (fetHo H).bx.length ∧ s'.n4 = (fetHo H).qu.length ∧ Below w3.heap.size w3 w') := copyS w3 (fetHo H) s3 q1 HFL.out
    have HZ3 : Hid (w.heap.size + 1 < w3.heap.size) := Nat.lt_of_lt_of_le (Nat.lt_of_lt_of_le HZ2.out HZB.out) q2.size
    clear q1 q2 H2 HD
    go_wp2_with fail
    refine HC3.out.mono ?_
    rintro o w4 ⟨s4, U0, U1, U2, rfl, e4, _, _, hb4⟩
    have HST : Hid (spS (w3.heap.size + 3) U0 U1 U2 (fetHo H) s4 w4) := e4
    have H4 : Hid (dtP w H s w4) := ⟨H3.out.p.below hb4, H3.out.r.below hb4⟩
    have HB4 : Hid (Below w.heap.size w w4) := HB3.out.trans (hb4.mono HB3.out.size)
    clear e4 hb4 H3 HB3 HC3
    go_wp2_with (first
      | (refine wpList_store_mid (P := Tryz.prog) rfl 35 _ _ rfl (w.heap.size + 1) 0 (hoL (fetHo H) s4).toArray rfl rfl (H4.out.r.there 0 _ (by rw [List.size_toArray, hoL_len]; decide)) (sz41A (fetHo H) s4) (hoL_one (fetHo H) s4) ?_; generalize hW8 : World.setCells _ (w.heap.size + 1) 0 _ = w8; have HW8 : Hid (_ = w8) := hW8; clear hW8))
    have e8 := HW8.out
    have hF : blk w8 (w.heap.size + 1) (hoL (fetHo H) s4) 35 := by
      rw [← e8]
      have := blk.put [] Z10 [] (hoL (fetHo H) s4) (w := w4) (b := w.heap.size + 1) (T := 35) (by simpa using H4.out.r) (by rw [hoL_len]; rfl)
      simpa using this
    have hL := run_loadVar_mid (P := Tryz.prog) w8 (w.heap.size + 1) 0 35 _ _ hF.load Tryz.underlying35 rfl (sz41L (fetHo H) s4)
    refine bodyPost_ret (v := .agg (hoL (fetHo H) s4).toArray) (results_cell Tryz.results43 _ w8 (w.heap.size + 1) _ rfl hL) rfl ?_
    have hR := HR.out.yes HOK.out
    subst hR
    refine ⟨s4, rfl, (HST.out.st (fun x h1 h2 => ?_) ?_).is, ?_⟩
    · rw [← e8]
      exact setCells_other _ x (by have := HZ3.out; omega) _ _ _
    · rw [← e8, setCells_size]
      exact Nat.le_refl _
    · rw [← e8]
      exact setCells_below (by omega) 0 _ HB4.out
  · have HV : Hid (∀ W, Below w.heap.size w W → Calls Tryz.prog 72 #[.agg (hoL H s).toArray] W fun o w' => o = .returned (.bool false) ∧ Below W.heap.size W w') := fun W hW => badL W H s (h.below hW) hn hok
    have HOK : Hid (¬ okHo H) := hok
    clear h hn hok
    go_enter Tryz.func43, Tryz.ntmps43
    go_wp2_with (first
      | (refine wpList_load_mid (P := Tryz.prog) rfl 35 _ rfl w.heap.size 0 rfl _ _ H0.out.p.load Tryz.underlying35 rfl (sz41L H s) ?_))
    refine (HV.out _ H0.out.b).mono ?_
    rintro o w1 ⟨rfl, hb1⟩
    have H1 : Hid (dtS w H s w1) := H0.out.below hb1
    clear H0 hb1
    go_wp2_with (first
      | (refine wpList_store_mid (P := Tryz.prog) rfl 35 _ _ rfl (w.heap.size + 1) 0 [.int .i64 0, .int .i64 0, .int .i64 0, .int .i64 0, .slice none 0 0, .slice none 0 0, .slice none 0 0, .slice none 0 0, .int .i64 0, .int .i64 0].toArray rfl rfl (H1.out.r.there 0 10 (by simp [Z10])) sz41 (all_oneCell_toArray (by simp [Value.oneCell'])) ?_; generalize hW8 : World.setCells _ (w.heap.size + 1) 0 _ = w8; have HW8 : Hid (_ = w8) := hW8; clear hW8))
    have e8 := HW8.out
    have hF : blk w8 (w.heap.size + 1) [.int .i64 0, .int .i64 0, .int .i64 0, .int .i64 0, .slice none 0 0, .slice none 0 0, .slice none 0 0, .slice none 0 0, .int .i64 0, .int .i64 0] 35 := by
      rw [← e8]
      have := blk.put [] Z10 [] [.int .i64 0, .int .i64 0, .int .i64 0, .int .i64 0, .slice none 0 0, .slice none 0 0, .slice none 0 0, .slice none 0 0, .int .i64 0, .int .i64 0] (w := w1) (b := w.heap.size + 1) (T := 35) (by simpa using H1.out.r) rfl
      simpa using this
    have hL := run_loadVar_mid (P := Tryz.prog) w8 (w.heap.size + 1) 0 35 _ _ hF.load Tryz.underlying35 rfl sz41
    refine bodyPost_ret (v := .agg [.int .i64 0, .int .i64 0, .int .i64 0, .int .i64 0, .slice none 0 0, .slice none 0 0, .slice none 0 0, .slice none 0 0, .int .i64 0, .int .i64 0].toArray) (results_cell Tryz.results43 _ w8 (w.heap.size + 1) _ rfl hL) rfl ?_
    have hR := HR.out.no HOK.out
    subst hR
    refine ⟨zSl, by rw [zHo_L], zHo_is _, ?_⟩
    rw [← e8]
    exact setCells_below (by omega) 0 _ H1.out.b
end Go.Proofs.YtaamahohdnbpiaaGreat
