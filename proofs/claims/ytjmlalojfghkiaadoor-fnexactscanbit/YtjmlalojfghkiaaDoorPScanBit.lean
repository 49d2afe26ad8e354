import Derived.Test.YtjmlalojfghkiaaDoorAI
import Derived.Test.YtjmlalojfghkiaaDoorRows
import Derived.Test.YtjmlalojfghkiaaDoorCards
import Derived.Test.YtjmlalojfghkiaaDoorTie
import Derived.WalkKit
import Derived.ProofKit
import Derived.OpenShut
import Derived.Carry
import Derived.ChangeVars
import Derived.ChangeOld
import Derived.Below
import Derived.Deep.DeepHandedRow
import Derived.Lib.LaidTab
namespace Go.Proofs.YtjmlalojfghkiaaDoor
open Go.ChangeShapes Go.WideShapes Go.ChangeAt Go.RowKit
set_option linter.unusedVariables false
theorem fnExactScanBit_own : ownKnob Tryd.prog.godebug = none := by kernel_rfl
theorem fnExactScanBit_laidOut : laidOutB Tryd.prog = true := by kernel_rfl
theorem gTab : Tryd.prog.globalNamed "loop.example/s01647/impl.fieldRows" = some 0 := by kernel_rfl
theorem gTabType : (Tryd.prog.globals[0]?).map (·.type) = some 108 := by kernel_rfl
theorem Tryd.underlying108' : Tryd.prog.underlying 108 = some (.array 14 97) := by kernel_rfl
set_option maxRecDepth 40000 in
/-- the table, as the row lists it -/
theorem tab_cells {H : Type} {enc : TypeId × Value → H} {W : World} {sp : Nat → Bool} {held : Bool} {fuel : Nat} {cs : List Value} {p : List MemPlace}
    (h : DataW.trod enc Tryd.prog W 0 sp held fuel 108 cs = some (Rows.laid_loop_example_s01647_impl_fieldRows, p)) : cs = tabL := by
  obtain ⟨xs, m, _, hx, hcl, hlen, hel⟩ := DataW.trod_array Tryd.underlying108' h
  rw [Tryd.cells108] at hcl
  rw [Tryd.cells97] at hel
  match xs, hlen with
  | [y0, y1, y2, y3, y4, y5, y6, y7, y8, y9, y10, y11, y12, y13], _ =>
    have hd := congrArg Prod.fst hx
    simp only [Rows.laid_loop_example_s01647_impl_fieldRows, List.map_cons, List.map_nil, DataW.agg.injEq, List.cons.injEq, and_true] at hd
    obtain ⟨d0, d1, d2, d3, d4, d5, d6, d7, d8, d9, d10, d11, d12, d13⟩ := hd
    have key : ∀ (i : Nat) (y : DataW H × List MemPlace) (a b c : Int), i < 14 → [y0, y1, y2, y3, y4, y5, y6, y7, y8, y9, y10, y11, y12, y13][i]? = some y → DataW.agg [.lit (.int .i64 a), .lit (.int .i64 b), .lit (.int .i64 c)] = y.1 → List.take 3 (List.drop (i * 3) cs) = [.int .i64 a, .int .i64 b, .int .i64 c] := by
      intro i y a b c hi hy hd
      have h1 := hel i hi
      rw [hy] at h1
      obtain ⟨yd, yp⟩ := y
      simp only at hd
      subst hd
      exact row_cells h1
    have k0 := key 0 y0 _ _ _ (by decide) rfl d0
    have k1 := key 1 y1 _ _ _ (by decide) rfl d1
    have k2 := key 2 y2 _ _ _ (by decide) rfl d2
    have k3 := key 3 y3 _ _ _ (by decide) rfl d3
    have k4 := key 4 y4 _ _ _ (by decide) rfl d4
    have k5 := key 5 y5 _ _ _ (by decide) rfl d5
    have k6 := key 6 y6 _ _ _ (by decide) rfl d6
    have k7 := key 7 y7 _ _ _ (by decide) rfl d7
    have k8 := key 8 y8 _ _ _ (by decide) rfl d8
    have k9 := key 9 y9 _ _ _ (by decide) rfl d9
    have k10 := key 10 y10 _ _ _ (by decide) rfl d10
    have k11 := key 11 y11 _ _ _ (by decide) rfl d11
    have k12 := key 12 y12 _ _ _ (by decide) rfl d12
    have k13 := key 13 y13 _ _ _ (by decide) rfl d13
    have split3 : ∀ (i : Nat), cs.drop (i * 3) = (cs.drop (i * 3)).take 3 ++ cs.drop ((i + 1) * 3) := by
      intro i
      have : cs.drop ((i + 1) * 3) = (cs.drop (i * 3)).drop 3 := by rw [List.drop_drop]; congr 1; omega
      rw [this, List.take_append_drop]
    have e0 := split3 0
    simp only [Nat.zero_mul, List.drop_zero] at e0
    rw [e0, split3 (0 + 1), split3 (0 + 1 + 1), split3 3, split3 4, split3 5, split3 6, split3 7, split3 8, split3 9, split3 10, split3 11, split3 12, split3 13]
    have k0' : List.take 3 cs = [.int .i64 1, .int .i64 1, .int .i64 2] := by simpa using k0
    rw [k0', k1, k2, k3, k4, k5, k6, k7, k8, k9, k10, k11, k12, k13]
    have : cs.drop ((13 + 1) * 3) = [] := List.drop_eq_nil_of_le (by omega)
    rw [this]
    rfl
theorem tab_of {W : World} (h : laidMetH Tryd.prog Rows.fnExactScanBitRow.laid W) : W.rangeAt 0 0 tabL := by
  rw [MakeChecks.laidMetH_plain _ _ _ (by kernel_rfl)] at h
  obtain ⟨ps, ⟨g0, t0, cs0, f0, p0, q0, hg0, ht0, hv0, hd0, _⟩, _, _⟩ := h
  obtain rfl := Option.some.inj (gTab.symm.trans hg0)
  obtain rfl := Option.some.inj (gTabType.symm.trans ht0)
  have e := tab_cells hd0
  intro j v hv
  have := World.var?_cell hg0 hv0 j
  rw [Nat.zero_add, this]
  rw [← e] at hv
  simpa using hv
set_option maxRecDepth 100000 in
/-- what the walk gives, for every argument and every world that holds the table -/
theorem fnExactScanBit_contract (H : Type) (enc : TypeId × Value → H) (W : World) (base : Nat) (args : Array Value) (ds gs : List (DataW H)) (before : List MemPlace)
    (hval : ∀ (j : Nat) t v, Tryd.f3.params[j]? = some t → args[j]? = some v → Value.okWide Tryd.prog W .any base t v)
    (hW : DataW.Whole enc Tryd.prog Tryd.f3.params.toList Rows.fnExactScanBitSpec.vars false W args.toList ds gs before) (hL : laidMetH Tryd.prog Rows.fnExactScanBitRow.laid W) :
    Calls Tryd.prog 3 args W fun e W' => ∃ v, e = .returned v ∧ Rows.fnExactScanBitSpec.post enc Tryd.prog Tryd.f3 false true false false W args v W' := by
  have hW' := hW
  obtain ⟨p, q, hA0, hV, rfl, hfz, hnd⟩ := hW
  have hA : DataW.TrodAll enc Tryd.prog W 0 (fun _ => true) true Tryd.f3.params.toList args.toList ds p := hA0
  rw [Tryd.params3] at hA hval
  obtain ⟨v0, vs0, d0, ds0, p0, q0, hargs, rfl, rfl, h0, r0⟩ := trodAll_cons hA
  obtain ⟨v1, vs1, d1, ds1, p1, q1, rfl, rfl, rfl, h1, r1⟩ := trodAll_cons r0
  obtain ⟨rfl, rfl, rfl⟩ := trodAll_nil r1
  obtain rfl : args = #[v0, v1] := by cases args; simp_all
  obtain ⟨g, t, cs, fuel, dg, pg, rfl, hg, ht, hvar, htr, rfl⟩ := trodVars_one hV
  obtain rfl := Option.some.inj (gTab.symm.trans hg)
  obtain rfl := Option.some.inj (gTabType.symm.trans ht)
  have k0 := h0
  have lt0 : ∀ x ∈ p0, x.block < W.heap.size := by obtain ⟨m, hm⟩ := k0; exact DataW.trod_lt m _ _ _ hm
  have ltg : ∀ x ∈ pg, x.block < W.heap.size := DataW.trod_lt fuel _ _ _ htr
  obtain ⟨S, a, n, cap, rfl, w0, m0⟩ := scan_open (hval 0 27 v0 rfl rfl) h0
  obtain ⟨z1, rfl, rfl, rfl, w1⟩ := open_int Tryd.underlying3 (hval 1 3 v1 rfl rfl) h1
  clear hA0
  have hz : 0 < W.heap.size := by
    have := World.var?_cell hg hvar 0
    rcases Nat.eq_zero_or_pos W.heap.size with e | e
    · exfalso
      have ht0 : W.rangeAt 0 0 tabL := tab_of hL
      have hc : W.cell? ⟨0, 0, none⟩ = some (.int .i64 1) := ht0 0 _ rfl
      have := World.block_lt_of_cell? W _ hc
      simp only at this
      omega
    · exact e
  refine (lawScanBit S a n cap z1 W (tab_of hL) hz w0 m0).mono fun e W' ⟨he, bel⟩ => ?_
  subst he
  have hvar' : W'.var? Tryd.prog "loop.example/s01647/impl.fieldRows" = some cs := by
    simp only [World.var?, hg, Option.bind_some] at hvar ⊢
    rw [bel.block 0 hz]
    exact hvar
  have kg : DataW.Trod enc Tryd.prog W 0 (fun _ => true) true 108 (.agg cs) dg pg := ⟨fuel, htr⟩
  obtain ⟨fuel', htr'⟩ := Below.trod fnExactScanBit_laidOut (by kernel_rfl) (of_decide_eq_true (by kernel_rfl)) kg bel ltg
  exact ⟨_, rfl, _, _, _, [], _, _, hW', trodAll_mk1 (shut_bool Tryd.underlying4 _), trodAll_cons_mk (Below.trod fnExactScanBit_laidOut (by kernel_rfl) (of_decide_eq_true (by kernel_rfl)) k0 bel lt0) (trodAll_cons_mk (shut_int Tryd.underlying3 w1) trodAll_mk0), trodVars_mk1 hg ht hvar' htr', bel.frame _, fun h => by cases h⟩
abbrev zArgs : Array Value := #[.agg #[.int .i64 0, .int .i64 0, .int .i64 0, .int .i64 0, .int .i64 0, .int .i64 0, .bool false, .int .u32 0, .bool false, .int .i64 0, .slice none 0 0], .int .i64 0]
theorem laid_met (os : Os) : laidMet Tryd.prog Rows.fnExactScanBitRow.laid (({ World.holding Tryd.prog os ⟨#[], #[], []⟩ with heap := (World.holding Tryd.prog os ⟨#[], #[], []⟩).heap.modify 0 fun | .cells _ t frozen => .cells tabL.toArray t frozen | o => o } : World).forCall (fun _ _ => 0) ⟨#[], zArgs, []⟩).memory :=
  laidMet_of_run' 8 (by kernel_rfl) (by kernel_rfl)
theorem reads (os : Os) {H : Type} (enc : TypeId × Value → H) : ∃ ds gs places, DataW.whole enc Tryd.prog (({ World.holding Tryd.prog os ⟨#[], #[], []⟩ with heap := (World.holding Tryd.prog os ⟨#[], #[], []⟩).heap.modify 0 fun | .cells _ t frozen => .cells tabL.toArray t frozen | o => o } : World).forCall (fun _ _ => 0) ⟨#[], zArgs, []⟩).memory Tryd.f3.params.toList Rows.fnExactScanBitSpec.vars false zArgs.toList 8 = some (ds, gs, places) := by
  have h : (DataW.whole enc Tryd.prog (({ World.holding Tryd.prog os ⟨#[], #[], []⟩ with heap := (World.holding Tryd.prog os ⟨#[], #[], []⟩).heap.modify 0 fun | .cells _ t frozen => .cells tabL.toArray t frozen | o => o } : World).forCall (fun _ _ => 0) ⟨#[], zArgs, []⟩).memory Tryd.f3.params.toList Rows.fnExactScanBitSpec.vars false zArgs.toList 8).isSome = true := by kernel_rfl
  obtain ⟨⟨ds, gs, pl⟩, hx⟩ := Option.isSome_iff_exists.1 h
  exact ⟨ds, gs, pl, hx⟩
set_option maxRecDepth 100000 in
theorem fnExactScanBit_lifted (os : Os) (started : os.Started) (H : Type) (enc : TypeId × Value → H) (F : Stop.Interp) :
    ReturnsInHanded {} Tryd.checked os 3 .any ((OpenSpec.ofChange Rows.fnExactScanBitSpec).preRow enc Tryd.prog Tryd.f3 Rows.fnExactScanBitRow.domain false Rows.fnExactScanBitRow.laid) (((OpenSpec.ofChange Rows.fnExactScanBitSpec).at F).post enc Tryd.prog Tryd.f3 false true false false) := by
  obtain ⟨_, _, places, hx⟩ := reads os enc
  refine returnsInHanded_of_row (C := Tryd.checked) (s := OpenSpec.ofChange Rows.fnExactScanBitSpec) fnExactScanBit_own started (by kernel_rfl) Tryd.func3
    (witness_row_at (enc := enc) (C := Tryd.checked) false ({ World.holding Tryd.prog os ⟨#[], #[], []⟩ with heap := (World.holding Tryd.prog os ⟨#[], #[], []⟩).heap.modify 0 fun | .cells _ t frozen => .cells tabL.toArray t frozen | o => o } : World) zArgs rfl (by kernel_rfl) (by kernel_rfl) (by kernel_rfl)
      (OpenSpec.preRow_of_cond 8 hx (by kernel_rfl) (fun k hk => by cases hk) (by kernel_rfl) (laid_met os))) ?_
  intro W base args ds gs before hval hW _ _ _ hL _ _
  exact fnExactScanBit_contract H enc W base args ds gs before hval hW hL
theorem fnExactScanBit_said : Rows.FnExactScanBitSaid :=
  OpenClaim.holds_of_cond 3 Tryd.f3 rfl rfl rfl rfl rfl rfl rfl ⟨rfl, rfl, rfl, rfl, rfl⟩ rfl rfl rfl rfl rfl (by kernel_rfl) Tryd.func3 (by kernel_rfl)
    (of_decide_eq_true (by kernel_rfl)) (by unfold Func.isWrapper; first | (rw [if_pos (by decide +kernel)]; kernel_rfl) | (rw [if_neg (by decide +kernel)]; exact ⟨rfl, rfl⟩))
    (fun os started H enc _ F => by rw [OpenClaim.pre_eq_preRow]; exact fnExactScanBit_lifted os started H enc F)
theorem fnExactScanBit_plain (f : FuncId) (fn : Func) (hf : Tryd.pinned.checked.prog.funcNamed "loop.example/s01647/laws.FnExactScanBit" = some f) (hfn : Tryd.pinned.checked.prog.funcs[f]? = some fn) :
    false = Tryd.pinned.checked.prog.looks [] ∧ ∀ (j : Nat) t, fn.params[j]? = some t → Tryd.pinned.checked.prog.wantsStandIn t = false := by
  obtain rfl : f = 3 := Option.some.inj ((show Tryd.prog.funcNamed "loop.example/s01647/laws.FnExactScanBit" = some 3 by kernel_rfl).symm.trans hf) |>.symm
  obtain rfl : fn = Tryd.f3 := (Option.some.inj (Tryd.func3.symm.trans hfn)).symm
  refine ⟨by kernel_rfl, fun j t ht => ?_⟩
  rw [Tryd.params3] at ht
  have hm : t ∈ [27, 3] := by simpa using Array.mem_of_getElem? ht
  have hall : ([27, 3].all fun u => !Tryd.prog.wantsStandIn u) = true := by kernel_rfl
  exact (show Tryd.prog.wantsStandIn t = false by simpa using List.all_eq_true.1 hall t hm)
theorem fnExactScanBit_card : Rows.FnExactScanBitCardSaid :=
  Claim7.holds_tied_plain_at .later [] _ _ _ _ fnExactScanBit_said (fun _ h => by cases h) (by kernel_rfl) (fun _ h => by cases h) fnExactScanBit_row_tie rfl ⟨rfl, rfl⟩ (by kernel_rfl) rfl fnExactScanBit_plain (by kernel_rfl)
end Go.Proofs.YtjmlalojfghkiaaDoor
