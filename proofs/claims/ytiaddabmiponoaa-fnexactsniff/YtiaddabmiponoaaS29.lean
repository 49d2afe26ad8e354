import Derived.Test.YtiaddabmiponoaaS28
namespace Go.Proofs.Ytiaddabmiponoaa
open Go.RowKit Go.Shelf
set_option linter.unusedVariables false
attribute [local go_sem] Oper.semAt_some
/-- impl.slotsOf: the text lies in a block of its own -/
theorem slotsOf_any (s : ByteArray) (w : World) : Calls Try.prog 14 #[.string s] w fun e w' => e = .returned (.func (.func 22) #[] #[.pointer (some ⟨w.heap.size, 0, none⟩)]) ∧ w' = w.alloc (.cells #[.string s] 9) := by
  go_enter Try.func14, Try.ntmps14
  go_wp2
  go_ret
  exact ⟨rfl, rfl⟩
/-- the loop's record -/
def rcd (fn : FuncId) (a : Act) (ps : Array Tmp) (assign body : Code) (d : Nat) (st : LoopState) : Loop := { state := st, pending := none, fn := fn, tmps := a.tmps, params := ps, assign := assign, body := body, defers := d }
/-- a loop over a function whose rounds all go on -/
theorem range_on {n : Nat} {P : Program} {g : Operand} {ps : Array Tmp} {assign body : Code} {Q : Exit → Act → World → Prop} {a : Act} {w : World} {gf : Nat} {lb : Array Value} (h1 : 1 ≤ n) (hg : a.eval g = .func (.func gf) #[] lb) (eg : ∀ args w, (callFunc gf args).run P w = .ok (.enter gf args) w)
    (h : ∀ fn, CallsIn Fence.wide (n - 1) P gf (#[.func (.yield (w.heap.size + 1)) #[] #[]] ++ lb) ((w.alloc (.deferred (some []))).alloc (.loop (rcd fn a ps assign body w.heap.size .ready))) fun e W => (∃ v, e = .returned v) ∧ W.heap[w.heap.size + 1]? = some (.loop (rcd fn a ps assign body w.heap.size .ready)) ∧ Q .normal { a with defers := { target := .collected w.heap.size, args := #[] } :: a.defers } (W.putObj (w.heap.size + 1) (.loop (rcd fn a ps assign body w.heap.size .exhausted)))) :
    (Code.rangeFunc g ps assign body).wpIn Fence.wide n P Q a w := by
  refine wpIn_rangeFunc ?_
  intro fn _
  refine ⟨w.heap.size + 1, [{ target := .collected w.heap.size, args := #[] }], (w.alloc (.deferred (some []))).alloc (.loop (rcd fn a ps assign body w.heap.size .ready)), { target := .fn (.func gf) lb, args := #[.func (.yield (w.heap.size + 1)) #[] #[]] }, (w.alloc (.deferred (some []))).alloc (.loop (rcd fn a ps assign body w.heap.size .ready)), gf, #[.func (.yield (w.heap.size + 1)) #[] #[]] ++ lb, (w.alloc (.deferred (some []))).alloc (.loop (rcd fn a ps assign body w.heap.size .ready)), ?_, ?_, ?_, ?_, ?_, ?_⟩
  · exact run_enterLoop_outer fn a.tmps ps assign body
  · simp only [resolve, hg]
    simp [go_sem]
  · intro f' _
    trivial
  · simp [invoke, go_sem, eg]
  · intro _
    exact h1
  · refine (h fn).mono ?_
    rintro e W ⟨⟨v, rfl⟩, hl, hq⟩
    exact ⟨none, _, run_endLoop hl (by simp [rcd]), hq⟩
/-- a round that goes on -/
theorem yield_on {n : Nat} {P : Program} {l : Nat} {args : Array Value} {W : World} {R : Ending → World → Prop} {fn : FuncId} {a : Act} {ps : Array Tmp} {assign body : Code} {d : Nat} (hl : W.heap[l]? = some (.loop (rcd fn a ps assign body d .ready))) (hs : args.size = ps.size) (a1 : Act) (w1 : World) (Phi : World → Prop)
    (hA : ∀ K : Act → World → Prop, K a1 w1 → assign.wpIn (Fence.wide.inRound l) n P (Exit.then K (fun _ _ _ => False)) { tmps := (ps.zip args).foldl (fun t (p, v) => t.setIfInBounds p v) a.tmps, defers := [] } W)
    (hl1 : w1.heap[l]? = some (.loop (rcd fn a ps assign body d .ready)))
    (hB : ∀ K : Act → World → Prop, (∀ a3 W3, Phi W3 → K a3 W3) → body.wpIn (Fence.wide.inRound l) n P (Exit.then K (fun _ _ _ => False)) a1 (w1.putObj l (.loop (rcd fn a ps assign body d .busy))))
    (hP : ∀ W3, Phi W3 → W3.heap[l]? = some (.loop (rcd fn a ps assign body d .busy)) ∧ R (.returned (.bool true)) (W3.putObj l (.loop (rcd fn a ps assign body d .ready)))) :
    YieldAt Fence.wide n P l args W R := by
  refine ⟨_, _, _, _, run_yield hl hs, roundIn_of_wpIn trivial (hA _ ?_)⟩
  refine ⟨_, run_beginRound hl1 rfl, wpIn_mono (hB (fun _ W3 => Phi W3) (fun _ _ h => h)) ?_⟩
  intro e a3 W3 hp
  cases e with
  | normal => exact ⟨_, _, run_endRound none (hP W3 hp).1, (hP W3 hp).2⟩
  | _ => exact hp.elim
theorem wpListIn_load_row {F : Fence} {n : Nat} {P : Program} {ops : Array Oper} {rest : List Oper} {op : Oper} {a : Act} {w : World} {Q : Exit → Act → World → Prop} (hgd : op.guard = none) (ty : TypeId) (x : Operand) (ho : op.op = .load ty x) (b o : Nat) (hx : a.eval x = .pointer (some ⟨b, o, none⟩)) (cs : List Value) (d : TypeDesc) (hc : w.rangeAt b o cs)
    (hu : P.underlying ty = some d) (hd : d.isRow = true) (hi : (P.info? ty).map (·.size) = some cs.length)
    (h : wpListIn F n P ops Q rest (a.put op.dst (.agg cs.toArray)) w) : wpListIn F n P ops Q (op :: rest) a w := by
  refine wpListIn_plain hgd fun K hK => ?_
  unfold Oper.wpIn
  refine ⟨?_, ?_⟩
  · simp [Oper.about, ho]
  · rw [Oper.semAt_plain F _ _ (by rw [ho]; intro c hc'; cases hc')]
    unfold execOp
    simp only [ho, hx, Instr.loadAt, Instr.sureAddr, Sem.run_bind, Sem.run_pure, Result.andThen_ok, run_loadVar_mid w b o ty cs d hc hu hd hi]
    exact hK _ _ h
theorem slR.putObj {s : ByteArray} {B : Nat} {v : Value} {rs : List Sx} {W : World} (h : slR s B v rs W) {l : Nat} {o : Obj} (o' : Obj) (hl : W.heap[l]? = some o) (ho : o.isCells = false) : slR s B v rs (W.putObj l o') := by
  refine h.keep (fun g k e => ?_) (fun g c f e => ?_)
  · obtain ⟨c, f, hg⟩ := ownsRow_kind h.own e
    refine World.putObj_heap_other ?_
    rintro rfl
    rw [hg] at hl
    cases hl
    cases ho
  · refine World.putObj_heap_other ?_
    rintro rfl
    rw [e] at hl
    cases hl
    cases ho
theorem slR.lower {s : ByteArray} {B B' : Nat} {v : Value} {rs : List Sx} {W : World} (h : slR s B v rs W) (hB : B' ≤ B) : slR s B' v rs W := by
  refine ⟨?_, fun r hr => ownsB.lower (h.dat r hr) hB, h.dis⟩
  obtain ⟨h1, h2 | ⟨g, cap, cur, hv', hb, rest⟩⟩ := h.own
  · exact ⟨h1, .inl h2⟩
  · exact ⟨h1, .inr ⟨g, cap, cur, hv', Nat.le_trans hB hb, rest⟩⟩
theorem slR.own_cells {s : ByteArray} {B : Nat} {v : Value} {rs : List Sx} {W : World} (h : slR s B v rs W) {g : Nat} (e : v.ownBlock = some g) : ∃ c f, W.heap[g]? = some (Obj.cells c 38 f) := by
  rcases h.len with ⟨rfl, _⟩ | ⟨g', k, rfl, _⟩
  · cases e
  · have : g' = g := by simpa [Value.ownBlock] using e
    subst this
    exact ownsRow_kind h.own rfl
theorem slR.app1 {s : ByteArray} {B : Nat} {v : Value} {rs : List Sx} {W : World} (h : slR s B v rs W) (r0 : Sx) (hd : ownsB W B (.slice r0.2.1 r0.2.2.1 r0.2.2.2) (fk s r0.1.1 r0.1.2).data) (hf : ∀ r ∈ rs, ∀ x, r.2.1 = some x → r0.2.1 ≠ some x) {V : World} {v' : Value} (ho : V.ownsRow B 38 7 v' (rs.length + 1) (rs.flatMap (enc7 s) ++ enc7 s r0)) (hg : W.grownBy V v.ownBlock) : slR s B v' (rs ++ [r0]) V := by
  rcases h.len with ⟨rfl, rfl⟩ | ⟨g, k, rfl, _⟩
  · refine ⟨by simpa using ho, fun r hr => ?_, by simp⟩
    have : r = r0 := by simpa using hr
    subst this
    exact ownsRow_at hd (fun b k e => hg.block b (ownsRow_lt hd e).1 (by intro e; cases e))
  · exact h.app r0 hd hf ho hg
set_option maxHeartbeats 8000000 in
set_option maxRecDepth 20000 in
/-- impl.Sniff -/
theorem sniff_any (s : ByteArray) (L : List (Nat × Nat)) (X : World) (m : Int) (hs : s.size ≤ maxLen) (hL : (okT s 6000 = true ∧ SN s 0 L) ∨ (okT s 6000 = false ∧ L = [])) (hm : X.cell? ⟨0, 0, none⟩ = some (.int .i64 m)) :
    Calls Try.prog 5 #[.string s] X fun o w' => ∃ v rs, o = .returned v ∧ slR s X.heap.size v rs w' ∧ rs.map (·.1) = L ∧ Below X.heap.size X w' := by
  refine (callsIn_wide (n := 3)).1 ?_
  refine callsIn_of_wp_marks Try.func5 rfl trivial ?_
  simp only [Try.ntmps5, List.size_toArray, List.length_cons, List.length_nil, Nat.reduceAdd, Nat.reduceSub, Array.replicate_succ, Array.replicate_zero, List.push_toArray, List.append_toArray, List.nil_append, List.cons_append]
  rcases hL with ⟨hk, hsn⟩ | ⟨hk, rfl⟩
  · have HSN := hidB hsn
    have HK := hidB hk
    clear hsn
    have HC : Hid (Calls Try.prog 13 #[.string s, .int .i64 6000] X fun e w' => e = .returned (.bool true) ∧ Below X.heap.size X w') := by
      have := isBitText_any s 6000 X
      rw [hk] at this
      exact this
    gi_wp2
    refine ⟨trivial, (callsIn_wide.2 HC.out).mono ?_⟩
    rintro o w1 ⟨rfl, hb1⟩
    have HB1 := hidB hb1
    clear hb1 hk HC
    gi_wp2
    refine ⟨trivial, (callsIn_wide.2 (slotsOf_any s _)).mono ?_⟩
    rintro o w2 ⟨rfl, rfl⟩
    gi_wp2
    obtain ⟨ov, eo⟩ : ∃ ov, w1.heap.size = ov := ⟨_, rfl⟩
    obtain ⟨w2, e2⟩ : ∃ w2, (w1.alloc (.cells #[.slice none 0 0] 22)).alloc (.cells #[.string s] 9) = w2 := ⟨_, rfl⟩
    have hz2 : w2.heap.size = ov + 2 := by rw [← e2, ← eo]; simp
    have hX1 : Below X.heap.size X w2 := by rw [← e2]; exact ((HB1.out.alloc HB1.out.size _).alloc (by have := HB1.out.size; simp; omega) _)
    have hov : blk w2 ov [.slice none 0 0] 22 := by rw [← e2, ← eo]; exact (blk.new w1 [.slice none 0 0] 22).alloc _
    have hbus : w2.cell? ⟨ov + 1, 0, none⟩ = some (.string s) := by
      have := (blk.new (w1.alloc (.cells #[.slice none 0 0] 22)) [.string s] 9).cell 0 _ rfl
      rw [World.size_alloc, eo] at this
      rw [← e2]
      exact this
    have hm2 : w2.cell? ⟨0, 0, none⟩ = some (.int .i64 m) := (hX1.cell (by exact World.block_lt_of_cell? X _ hm)).trans hm
    have hXo : X.heap.size ≤ ov := by rw [← eo]; exact HB1.out.size
    have h0X : 0 < X.heap.size := World.block_lt_of_cell? X _ hm
    rw [e2, eo]
    have HB2 := hidB hX1
    have HV2 := hidB hov
    have HC2 := hidB (And.intro hbus hm2)
    clear hX1 hov hbus hm2 HB1 e2 eo hm
    refine range_on (gf := 22) (lb := #[.pointer (some ⟨ov + 1, 0, none⟩)]) (by decide) rfl (enters_of Try.func22 (by kernel_rfl) rfl) ?_
    intro fn
    generalize hRC : rcd fn _ _ _ _ w2.heap.size = RC
    have HRC := hidB hRC
    clear hRC
    have hs6 := (okT_letters HK.out).1
    have HOK : Hid (∀ k (h : k < s.size), okC s[k] = true) := (okT_letters HK.out).2
    have hLn : L.length ≤ s.size := by have := HSN.out.bd; omega
    refine (slots_in 2 (by decide) (w2.heap.size + 1) (ov + 1) ov w2.heap.size s m L (fun pre W => (∃ v, blk W ov [v] 22 ∧ slR s w2.heap.size v pre W) ∧ W.heap[w2.heap.size + 1]? = some (.loop (RC .ready)) ∧ W.heap[w2.heap.size]? = some (.deferred (some [])) ∧ Below X.heap.size X W) ?_ ?_ (by omega) HOK.out HSN.out (by omega) (by omega) (by omega) (by omega) _ ?_ ?_ ?_ ?_).mono ?_
    · rintro pre W W' ⟨⟨v, hv, hr⟩, hl, hd, hb⟩ hbW
      exact ⟨⟨v, hv.below hbW, hr.below hbW⟩, (hbW.block _ (lt_of_some hl)).trans hl, (hbW.block _ (lt_of_some hd)).trans hd, hb.trans (hbW.mono hb.size)⟩
    · rintro pre x W0 W ⟨⟨v, hv, hr⟩, hl, hd, hb⟩ hlen hz0 hbW hgd
      have hl' := (hbW.block _ (lt_of_some hl)).trans hl
      have hlA := (Below.heap_alloc W (.cells (enc7 s x).toArray 38) _ (lt_of_some hl')).trans hl'
      rw [← HRC.out] at hl' hlA
      refine yield_on hl' rfl { tmps := #[.string s, undef, .slice none 0 0, .pointer (some ⟨ov, 0, none⟩), .pointer (some ⟨W.heap.size, 0, none⟩), .string s, .bool true, .bool false, .string s, .func (.func 22) #[] #[.pointer (some ⟨ov + 1, 0, none⟩)], .agg (enc7 s x).toArray, undef, undef, undef, undef, undef], defers := [] } (W.alloc (.cells (enc7 s x).toArray 38)) (fun W3 => (∃ v, blk W3 ov [v] 22 ∧ slR s w2.heap.size v (pre ++ [x]) W3) ∧ W3.heap[w2.heap.size + 1]? = some (.loop (RC .busy)) ∧ W3.heap[w2.heap.size]? = some (.deferred (some [])) ∧ Below X.heap.size X W3 ∧ W.heap.size ≤ W3.heap.size ∧ ∀ g, g ≠ ov → (g < w2.heap.size ∨ W0.heap.size ≤ g) → g < W.heap.size → W3.heap[g]? = W.heap[g]?) ?_ hlA ?_ ?_
      · intro K hK
        clear hl hd hb hlA hl' hv hr hbW HC2 HV2 HB2 HRC
        dsimp only [enc7] at hK ⊢
        gi_wp2
        exact hK
      · rw [HRC.out]
        intro K hK
        have HKK := hidB hK
        have hlA' : (W.alloc (.cells (enc7 s x).toArray 38)).heap[w2.heap.size + 1]? = some (.loop (RC .ready)) := by rw [← HRC.out]; exact hlA
        have hlW := lt_of_some hl
        have hz1 := hbW.size
        have hvA : blk ((W.alloc (.cells (enc7 s x).toArray 38)).putObj (w2.heap.size + 1) (.loop (RC .busy))) ov [v] 22 := ((hv.below hbW).alloc _).kept (World.putObj_heap_other (by omega))
        have hsA : blk ((W.alloc (.cells (enc7 s x).toArray 38)).putObj (w2.heap.size + 1) (.loop (RC .busy))) W.heap.size (enc7 s x) 38 := (blk.new W (enc7 s x) 38).kept (World.putObj_heap_other (by omega))
        have hbA : Below W.heap.size W (W.alloc (.cells (enc7 s x).toArray 38)) := (Below.refl _ _).alloc (Nat.le_refl _) _
        have hrA := ((hr.below hbW).below hbA).putObj (.loop (RC .busy)) hlA' rfl
        have hgA : ownsB ((W.alloc (.cells (enc7 s x).toArray 38)).putObj (w2.heap.size + 1) (.loop (RC .busy))) W0.heap.size (.slice x.2.1 x.2.2.1 x.2.2.2) (fk s x.1.1 x.1.2).data := ownsRow_at (ownsB.below hgd hbA) (fun g k e => World.putObj_heap_other (by have := (ownsRow_lt (ownsB.below hgd hbA) e).2; omega))
        have hlB : ((W.alloc (.cells (enc7 s x).toArray 38)).putObj (w2.heap.size + 1) (.loop (RC .busy))).heap[w2.heap.size + 1]? = some (.loop (RC .busy)) := World.putObj_heap_same (lt_of_some hlA')
        have hdB : ((W.alloc (.cells (enc7 s x).toArray 38)).putObj (w2.heap.size + 1) (.loop (RC .busy))).heap[w2.heap.size]? = some (.deferred (some [])) := (World.putObj_heap_other (by omega)).trans ((hbA.block _ (by have := lt_of_some hd; omega)).trans ((hbW.block _ (lt_of_some hd)).trans hd))
        have hbB : Below X.heap.size X ((W.alloc (.cells (enc7 s x).toArray 38)).putObj (w2.heap.size + 1) (.loop (RC .busy))) := (hb.trans ((hbW.mono hb.size).trans (hbA.mono (by have := hb.size; omega)))).trans ⟨rfl, rfl, rfl, by simp, fun k hk => World.putObj_heap_other (by omega)⟩
        have hkB : ∀ g, (g < w2.heap.size ∨ W0.heap.size ≤ g) → g < W.heap.size → ((W.alloc (.cells (enc7 s x).toArray 38)).putObj (w2.heap.size + 1) (.loop (RC .busy))).heap[g]? = W.heap[g]? := fun g h1 h2 => (World.putObj_heap_other (by omega)).trans (Below.heap_alloc _ _ _ h2)
        have hzB : ((W.alloc (.cells (enc7 s x).toArray 38)).putObj (w2.heap.size + 1) (.loop (RC .busy))).heap.size = W.heap.size + 1 := by simp
        have hfr := hr.fresh (Nat.le_refl _) hgd
        have hrow := hr.own
        have hown0 : ∀ g, v.ownBlock = some g → w2.heap.size ≤ g ∧ g < W0.heap.size := fun g e => by
          have := World.ownsRow.lt hr.own g e
          omega
        generalize ((W.alloc (.cells (enc7 s x).toArray 38)).putObj (w2.heap.size + 1) (.loop (RC .busy))) = Wb at *
        obtain ⟨ao, nn, kk, rfl⟩ : ∃ ao nn kk, v = .slice ao nn kk := by
          rcases hr.len with ⟨rfl, _⟩ | ⟨g, k, rfl, _⟩
          · exact ⟨_, _, _, rfl⟩
          · exact ⟨_, _, _, rfl⟩
        have HH := hidB (And.intro hvA (And.intro hsA (And.intro hrA (And.intro hgA (And.intro hlB (And.intro hdB (And.intro hbB (And.intro hkB (And.intro hfr hown0)))))))))
        have y0 := hvA.cell 0 _ rfl
        have f0 := hvA.free 0
        have c0 := hsA.cell 0 _ rfl
        have c1 := hsA.cell 1 _ rfl
        have c2 := hsA.cell 2 _ rfl
        have c3 := hsA.cell 3 _ rfl
        have c4 := hsA.cell 4 _ rfl
        have c5 := hsA.cell 5 _ rfl
        have c6 := hsA.cell 6 _ rfl
        clear hK hlA' hlA hl' hv hr hbW HC2 HV2 HB2 HRC hvA hsA hrA hgA hlB hdB hbB hkB hfr hown0 hl hd hb hrow hbA hgd HSN HOK HK
        obtain ⟨i0, hi, hz0', hz1', hz2'⟩ := info_parts Try.info38
        have hbC : Below Wb.heap.size Wb (Wb.alloc (.cells (enc7 s x).toArray 38)) := (Below.refl _ _).alloc (Nat.le_refl _) _
        have HNC : Hid (blk (Wb.alloc (.cells (enc7 s x).toArray 38)) (W.heap.size + 1) (enc7 s x) 38) := by
          have := blk.new Wb (enc7 s x) 38
          rwa [hzB] at this
        have HRW : Hid ((Wb.alloc (.cells (enc7 s x).toArray 38)).ownsRow w2.heap.size 38 7 (.slice ao nn kk) pre.length (pre.flatMap (enc7 s))) := (HH.out.2.2.1.below hbC).own
        have HBC := hidB hbC
        have HI := hidB (And.intro hi (And.intro hz0' (And.intro hz1' hz2')))
        have hzC : (Wb.alloc (.cells (enc7 s x).toArray 38)).heap.size = W.heap.size + 2 := by simp; omega
        clear hbC hi hz0' hz1' hz2'
        gi_wp2_with (gi_at_builtin; refine wpListIn_append_own _ rfl _ _ 22 rfl w2.heap.size 38 i0 _ 7 64 Try.underlying22 HI.out.1 HI.out.2.1 HI.out.2.2.1 HI.out.2.2.2 rfl (by decide) _ pre.length (pre.flatMap (enc7 s)) rfl HRW.out ⟨W.heap.size + 1, 0, none⟩ 1 1 (enc7 s x) rfl rfl (fun j u hj => by rw [Addr.add_lit]; exact HNC.out.load j u hj) (by simp [enc7, Value.oneCell']) (by unfold maxLen; omega) (by omega) (by rw [show (Wb.alloc (.cells #[.int .i64 (x.1.1 : Int), .int .i64 (x.1.2 : Int), .bool (fk s x.1.1 x.1.2).ext, .int .u32 ((fk s x.1.1 x.1.2).id : Int), .bool (fk s x.1.1 x.1.2).rtr, .int .i64 ((fk s x.1.1 x.1.2).dlc : Int), .slice x.2.1 x.2.2.1 x.2.2.2] 38)).heap.size = W.heap.size + 2 from hzC]; omega) ?_; intro v' w3 hown' hgrow _; obtain ⟨g', cap', rfl⟩ := ownsRow_succ hown'; have hgr : (Wb.alloc (.cells (enc7 s x).toArray 38)).grownBy w3 (Value.slice ao nn kk).ownBlock := hgrow; have HG := hidB hgr; have HO : Hid (w3.ownsRow w2.heap.size 38 7 (.slice (some ⟨g', 0, none⟩) (pre.length + 1) cap') (pre.length + 1) (pre.flatMap (enc7 s) ++ enc7 s x)) := hown'; clear hgrow hgr hown'; have hv3 : blk w3 ov [.slice ao nn kk] 22 := (HH.out.1.below HBC.out).kept (HG.out.block ov (by omega) (fun e => by have := HH.out.2.2.2.2.2.2.2.2.2 ov e.symm; omega)); have HV3 := hidB hv3; have y3 := hv3.cell 0 _ rfl; have f3 := hv3.free 0; clear hv3 y0 f0 c0 c1 c2 c3 c4 c5 c6)
        refine HKK.out _ _ ?_
        have hz3 := HG.out.size
        have hne : ∀ g, g ≠ ov → (World.setCell w3 ⟨ov, 0, none⟩ (.slice (some ⟨g', 0, none⟩) (pre.length + 1) cap')).heap[g]? = w3.heap[g]? := fun g h => heap_setCell_other w3 ⟨ov, 0, none⟩ g _ h
        have hr3 := (HH.out.2.2.1.below HBC.out).app1 x ((ownsB.below HH.out.2.2.2.1 HBC.out).lower (by omega)) HH.out.2.2.2.2.2.2.2.2.1 HO.out HG.out
        have hk3 : ∀ g, (g < w2.heap.size ∨ W0.heap.size ≤ g) → g < W.heap.size + 2 → w3.heap[g]? = (Wb.alloc (.cells (enc7 s x).toArray 38)).heap[g]? := fun g h1 h2 => HG.out.block g (by omega) (fun e => by have := HH.out.2.2.2.2.2.2.2.2.2 g e.symm; omega)
        have hl3 : w3.heap[w2.heap.size + 1]? = some (.loop (RC .busy)) := (HG.out.block _ (by omega) (fun e => by
          obtain ⟨c, f, h⟩ := HH.out.2.2.1.own_cells e.symm
          rw [HH.out.2.2.2.2.1] at h
          cases h)).trans ((HBC.out.block _ (by omega)).trans HH.out.2.2.2.2.1)
        have hd3 : w3.heap[w2.heap.size]? = some (.deferred (some [])) := (HG.out.block _ (by omega) (fun e => by
          obtain ⟨c, f, h⟩ := HH.out.2.2.1.own_cells e.symm
          rw [HH.out.2.2.2.2.2.1] at h
          cases h)).trans ((HBC.out.block _ (by omega)).trans HH.out.2.2.2.2.2.1)
        refine ⟨⟨_, HV3.out.set 0 _, hr3.keep (fun g k e => hne g ?_) (fun g c f e => hne g ?_)⟩, (hne _ (by omega)).trans hl3, (hne _ (by omega)).trans hd3, ?_, ?_, fun g h1 h2 h3 => (hne g h1).trans ((hk3 g h2 (by omega)).trans ((HBC.out.block g (by omega)).trans (HH.out.2.2.2.2.2.2.2.1 g h2 h3)))⟩
        · have := (ownsRow_lt hr3.own e).2
          omega
        · rintro rfl
          have h := HV3.out
          unfold blk at h
          rw [e] at h
          injection h with h
          injection h with _ h _
          exact absurd h (by decide)
        · have h1 : Below X.heap.size X w3 := (HH.out.2.2.2.2.2.2.1.trans (HBC.out.mono (by omega))).grown HG.out (by omega) (fun k e => by have := HH.out.2.2.2.2.2.2.2.2.2 k e; omega)
          exact h1.setCell (by show X.heap.size ≤ ov; omega) _
        · show _ ≤ (World.setCell _ _ _).heap.size
          simp [World.setCell]
          omega
      · rw [HRC.out]
        rintro W3 ⟨⟨v3, hv3, hr3⟩, hl3, hd3, hb3, hz3, hk3⟩
        have hz0' := lt_of_some hl
        have hz1' := lt_of_some hd
        have hzW := hbW.size
        refine ⟨hl3, rfl, ⟨⟨v3, hv3.kept (World.putObj_heap_other (by omega)), hr3.putObj _ hl3 rfl⟩, World.putObj_heap_same (lt_of_some hl3), (World.putObj_heap_other (by omega)).trans hd3, hb3.trans ⟨rfl, rfl, rfl, by simp, fun k hk => World.putObj_heap_other (by omega)⟩⟩, by simpa using hz3, fun g h1 h2 h3 => (World.putObj_heap_other (by omega)).trans (hk3 g h1 h2 h3)⟩
    · simp; omega
    · exact ((((Below.refl _ w2).alloc (Nat.le_refl _) _).alloc (by simp) _).cell (by show ov + 1 < _; omega)).trans HC2.out.1
    · exact ((((Below.refl _ w2).alloc (Nat.le_refl _) _).alloc (by simp) _).cell (by show 0 < _; omega)).trans HC2.out.2
    · refine ⟨⟨_, (HV2.out.alloc _).alloc _, slR.e0 _⟩, ?_, ?_, (HB2.out.alloc HB2.out.size _).alloc (by have := HB2.out.size; simp; omega) _⟩
      · have := World.alloc_heap_new (w2.alloc (.deferred (some []))) (.loop (RC .ready))
        rwa [World.size_alloc] at this
      · exact (Below.heap_alloc _ _ _ (by simp)).trans (World.alloc_heap_new w2 _)
    · rintro e W3 ⟨⟨v0, rfl⟩, xs, hxs, ⟨v, hv, hr⟩, hl, hd, hb⟩
      refine ⟨⟨v0, rfl⟩, hl, ?_⟩
      have hv4 : blk (W3.putObj (w2.heap.size + 1) (.loop (RC .exhausted))) ov [v] 22 := hv.kept (World.putObj_heap_other (by omega))
      have hr4 := hr.putObj (.loop (RC .exhausted)) hl rfl
      have hd4 : (W3.putObj (w2.heap.size + 1) (.loop (RC .exhausted))).heap[w2.heap.size]? = some (.deferred (some [])) := (World.putObj_heap_other (by omega)).trans hd
      have hb4 : Below X.heap.size X (W3.putObj (w2.heap.size + 1) (.loop (RC .exhausted))) := hb.trans ⟨rfl, rfl, rfl, by simp, fun k hk => World.putObj_heap_other (by omega)⟩
      generalize (W3.putObj (w2.heap.size + 1) (.loop (RC .exhausted))) = W4 at *
      obtain ⟨ao, nn, kk, rfl⟩ : ∃ ao nn kk, v = .slice ao nn kk := by
        rcases hr.len with ⟨rfl, _⟩ | ⟨g, k, rfl, _⟩
        · exact ⟨_, _, _, rfl⟩
        · exact ⟨_, _, _, rfl⟩
      have y0 := hv4.cell 0 _ rfl
      have HR4 := hidB hr4
      have HD4 := hidB hd4
      have HB4 := hidB hb4
      have HXS := hidB hxs
      clear hr4 hb4 hd4 hv4 hv hr hl hd hb HRC HC2 HV2 HB2 HOK HSN hxs
      gi_wp2
      refine ⟨by simp, .inl ⟨_, _, rfl, run_takeDeferred HD4.out, ?_⟩⟩
      exact ⟨_, results_tmp rfl _ _ _, _, xs, rfl, (HR4.out.putObj _ HD4.out rfl).lower (by omega), HXS.out, HB4.out.trans ⟨rfl, rfl, rfl, by simp, fun k hk => World.putObj_heap_other (by omega)⟩⟩
  · have HC : Hid (Calls Try.prog 13 #[.string s, .int .i64 6000] X fun e w' => e = .returned (.bool false) ∧ Below X.heap.size X w') := by
      have := isBitText_any s 6000 X
      rw [hk] at this
      exact this
    gi_wp2
    refine ⟨trivial, (callsIn_wide.2 HC.out).mono ?_⟩
    rintro o w1 ⟨rfl, hb1⟩
    have HB1 := hidB hb1
    clear hb1 hk HC
    gi_wp2
    exact ⟨_, results_tmp rfl _ _ _, _, [], rfl, slR.e0 w1, rfl, HB1.out⟩
end Go.Proofs.Ytiaddabmiponoaa
