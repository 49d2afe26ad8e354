import Derived.Test.YtfbeaekddgpmmaaGreatDoorK00
import Derived.LaidEql
import Derived.Stop.Asserts
import Derived.RowKitTokens
namespace Go.Proofs.YtfbeaekddgpmmaaGreatDoor
open Go.RowKit Go.Extern.Stop Go.Stop Go.Extern
/-- errors.As(nil, target) -/
theorem as_nil (t : Value) (w : World) : Calls Tryz.prog 15 #[.nilIface, t] w fun e w' => e = .returned (.bool false) ∧ w' = w := by
  go_enter Tryz.func15, Tryz.ntmps15
  go_wp2
  go_ret
  exact ⟨rfl, rfl⟩
theorem valueOf43 (t : Addr) (w : World) : (ReflectliteValue.unpack (.iface 43 (.pointer (some t)))).run Tryz.prog w
    = .ok (.agg #[.pointer (some ⟨7, 43, none⟩), .pointer (some ⟨w.heap.size, 0, none⟩), .int .u64 150]) (w.alloc (.cells #[.pointer (some t)] 43)) := by kernel_rfl
theorem type43 (a : Addr) (w : World) : (ReflectliteValue.methodAny (ReflectliteValue.valueError "reflectlite.Value.Type" 0) (fun t _ _ _ => ReflectliteType.toType t) #[.agg #[.pointer (some ⟨7, 43, none⟩), .pointer (some a), .int .u64 150]]).run Tryz.prog w
    = .ok (.iface 114 (.agg #[.pointer (some ⟨7, 43, none⟩)])) w := by kernel_rfl
theorem methodKind (h : Value) (w : World) : (Go.method 316 114 (.agg #[h]) "Kind").run Tryz.prog w = .ok (127, h) w := by kernel_rfl
theorem methodElem (h : Value) (w : World) : (Go.method 316 114 (.agg #[h]) "Elem").run Tryz.prog w = .ok (137, .agg #[h]) w := by kernel_rfl
theorem methodImplements (h : Value) (w : World) : (Go.method 316 114 (.agg #[h]) "Implements").run Tryz.prog w = .ok (138, .agg #[h]) w := by kernel_rfl
theorem methodAssignableTo (h : Value) (w : World) : (Go.method 316 114 (.agg #[h]) "AssignableTo").run Tryz.prog w = .ok (135, .agg #[h]) w := by kernel_rfl
theorem kind43 (w : World) : ((ReflectliteType.abiMethod fun t => (fun a : Nat => Value.int IntKind.u8 (a : Int)) <$> Rtype.kind t) #[.pointer (some ⟨7, 43, none⟩)]).run Tryz.prog w = .ok (.int .u8 22) w := by kernel_rfl
theorem kind41 (w : World) : ((ReflectliteType.abiMethod fun t => (fun a : Nat => Value.int IntKind.u8 (a : Int)) <$> Rtype.kind t) #[.pointer (some ⟨7, 41, none⟩)]).run Tryz.prog w = .ok (.int .u8 25) w := by kernel_rfl
theorem elem43 (w : World) : (ReflectliteType.method ReflectliteType.elem #[.agg #[.pointer (some ⟨7, 43, none⟩)]]).run Tryz.prog w = .ok (.iface 114 (.agg #[.pointer (some ⟨7, 41, none⟩)])) w := by kernel_rfl
theorem implements41 (w : World) : (ReflectliteType.relation "Implements" ReflectliteType.implements_ #[.agg #[.pointer (some ⟨7, 41, none⟩)], .iface 114 (.agg #[.pointer (some ⟨7, 37, none⟩)])]).run Tryz.prog w = .ok (.bool true) w := by kernel_rfl
theorem typeOf41 (v : Value) (w : World) : (ReflectliteType.typeOf #[.iface 41 v]).run Tryz.prog w = .ok (.iface 114 (.agg #[.pointer (some ⟨7, 41, none⟩)])) w := by kernel_rfl
theorem typeOf141 (v : Value) (w : World) : (ReflectliteType.typeOf #[.iface 141 v]).run Tryz.prog w = .ok (.iface 114 (.agg #[.pointer (some ⟨7, 141, none⟩)])) w := by kernel_rfl
theorem assignable41 (w : World) : (ReflectliteType.relation "AssignableTo" ReflectliteType.assignableTo #[.agg #[.pointer (some ⟨7, 41, none⟩)], .iface 114 (.agg #[.pointer (some ⟨7, 41, none⟩)])]).run Tryz.prog w = .ok (.bool true) w := by kernel_rfl
theorem assignable141 (w : World) : (ReflectliteType.relation "AssignableTo" ReflectliteType.assignableTo #[.agg #[.pointer (some ⟨7, 141, none⟩)], .iface 114 (.agg #[.pointer (some ⟨7, 41, none⟩)])]).run Tryz.prog w = .ok (.bool false) w := by kernel_rfl
theorem valueOf41 (x y : Int) (w : World) : (ReflectliteValue.unpack (.iface 41 (.agg #[.int .i64 x, .int .i64 y]))).run Tryz.prog w
    = .ok (.agg #[.pointer (some ⟨7, 41, none⟩), .pointer (some ⟨w.heap.size, 0, none⟩), .int .u64 153]) (w.alloc (.cells #[.int .i64 x, .int .i64 y] 41)) := by kernel_rfl
open Go.RowKit
set_option linter.unusedVariables false
/-- (*reader).fault -/
theorem fault_any (b : Nat) (ln code : Int) (w : World) (h : w.cell? ⟨b, 6, none⟩ = some (.int .i64 ln)) :
    Calls Tryz.prog 61 #[.pointer (some ⟨b, 0, none⟩), .int .i64 code] w fun o w' => o = .returned (.iface 41 (.agg #[.int .i64 code, .int .i64 ln])) ∧ w = w' := by
  go_enter Tryz.func61, Tryz.ntmps61
  go_wp2
  go_ret
  exact ⟨rfl, rfl⟩
/-- the lines that a script may hold: name, whether it sets up, the kinds of its words, what takes it -/
def lrs : List (List UInt8 × Bool × List UInt8 × Nat) :=
  [(wNode, true, [107, 110, 110, 112, 110], 49), (wAccept, true, [110, 119, 104, 104], 50), (wSend, false, [110, 110, 119, 104, 100], 51), (wAsk, false, [110, 110, 119, 104, 110], 52),
   (wDrop, false, [110, 110], 53), (wRestart, false, [110], 54), (wFetch, false, [110], 55), (wFlip, false, [110, 110, 110], 56), (wRun, false, [110], 57)]
def lrV (x : List UInt8 × Bool × List UInt8 × Nat) : List Value := [.string ⟨x.1.toArray⟩, .bool x.2.1, .string ⟨x.2.2.1.toArray⟩, .func (Fn.func x.2.2.2) #[] #[]]
def lrC : List Value := lrs.flatMap lrV
set_option maxHeartbeats 4000000 in
set_option maxRecDepth 40000 in
/-- impl.lineRows -/
theorem lineRows_any (w : World) : Calls Tryz.prog 30 #[] w fun o w' => o = .returned (.slice (some ⟨w.heap.size, 0, none⟩) 9 9) ∧ w' = w.alloc (.cells lrC.toArray 102) := by
  go_enter Tryz.func30, Tryz.ntmps30
  go_wp2
  go_ret
  exact ⟨rfl, rfl⟩
set_option maxHeartbeats 1000000 in
set_option maxRecDepth 20000 in
/-- read's own function: is it the row of the line's first word -/
theorem pred_any (b g k n cp : Nat) (nm kd w0 : List UInt8) (su : Bool) (w : World) (h0 : w.cell? ⟨b, 0, none⟩ = some (.slice (some ⟨g, 0, none⟩) n cp)) (hn : 0 < n) (h1 : w.cell? ⟨g, 0, none⟩ = some (.string ⟨w0.toArray⟩)) :
    Calls Tryz.prog 60 #[.agg #[.string ⟨nm.toArray⟩, .bool su, .string ⟨kd.toArray⟩, .func (Fn.func k) #[] #[]], .pointer (some ⟨b, 0, none⟩)] w fun o w' => o = .returned (.bool (nm == w0)) ∧ Below w.heap.size w w' := by
  have hbl : b < w.heap.size := World.block_lt_of_cell? w _ h0
  have hgl : g < w.heap.size := World.block_lt_of_cell? w _ h1
  have h0' : (w.alloc (.cells #[.string ⟨nm.toArray⟩, .bool su, .string ⟨kd.toArray⟩, .func (Fn.func k) #[] #[]] 102)).cell? ⟨b, 0, none⟩ = some (.slice (some ⟨g, 0, none⟩) n cp) := by rw [World.cell?_alloc_lt _ _ ⟨b, 0, none⟩ hbl]; exact h0
  have h1' : (w.alloc (.cells #[.string ⟨nm.toArray⟩, .bool su, .string ⟨kd.toArray⟩, .func (Fn.func k) #[] #[]] 102)).cell? ⟨g, 0, none⟩ = some (.string ⟨w0.toArray⟩) := by rw [World.cell?_alloc_lt _ _ ⟨g, 0, none⟩ hgl]; exact h1
  have HB : Hid (Below w.heap.size w (w.alloc (.cells #[.string ⟨nm.toArray⟩, .bool su, .string ⟨kd.toArray⟩, .func (Fn.func k) #[] #[]] 102))) := (Below.refl _ _).alloc (Nat.le_refl _) _
  have hc0 : (w.alloc (.cells #[.string ⟨nm.toArray⟩, .bool su, .string ⟨kd.toArray⟩, .func (Fn.func k) #[] #[]] 102)).cell? ⟨w.heap.size, 0, none⟩ = some (.string ⟨nm.toArray⟩) := by rw [World.cell?_alloc_at _ _ _ _ rfl]; rfl
  clear h0 h1
  go_enter Tryz.func60, Tryz.ntmps60
  go_wp2
  go_quiet (fail)
  go_wp2
  go_ret
  exact ⟨rfl, below_drewN HB.out _⟩
theorem rlm (z : Sem Value) (f : TypeId → Addr → Nat → Nat → Sem Value) (v : Value) :
    ReflectliteValue.method z f #[v] = (do match ← ReflectliteValue.parts v with | none => z | some (t, a, fl) => f t a fl (fl % 32)) := rfl
theorem parts43 (a : Addr) (w : World) : (ReflectliteValue.parts (.agg #[.pointer (some ⟨7, 43, none⟩), .pointer (some a), .int .u64 150])).run Tryz.prog w = .ok (some (43, a, 150)) w := by kernel_rfl
theorem isNil43 (a p : Addr) (W : World) (ha : W.cell? a = some (.pointer (some p))) :
    (ReflectliteValue.method (ReflectliteValue.valueError "reflectlite.Value.IsNil" 0) ReflectliteValue.isNil #[.agg #[.pointer (some ⟨7, 43, none⟩), .pointer (some a), .int .u64 150]]).run Tryz.prog W = .ok (.bool false) W := by
  rw [rlm]
  simp only [Sem.run_bind, parts43, Result.andThen]
  simp [ReflectliteValue.isNil, loadVar, isAgg, underlying, Tryz.underlying43, ha, Result.andThen]
theorem elemOf43 (w : World) : (Rtype.elem? 43).run Tryz.prog w = .ok (some 41) w := by kernel_rfl
theorem mk41 (p : Addr) (w : World) : (ReflectliteValue.mk 41 p ReflectliteValue.flagAddr).run Tryz.prog w = .ok (.agg #[.pointer (some ⟨7, 41, none⟩), .pointer (some p), .int .u64 409]) w := by kernel_rfl
theorem elemV43 (a p : Addr) (W : World) (ha : W.cell? a = some (.pointer (some p))) :
    (ReflectliteValue.method (ReflectliteValue.valueError "reflectlite.Value.Elem" 0) ReflectliteValue.elem #[.agg #[.pointer (some ⟨7, 43, none⟩), .pointer (some a), .int .u64 150]]).run Tryz.prog W
      = .ok (.agg #[.pointer (some ⟨7, 41, none⟩), .pointer (some p), .int .u64 409]) W := by
  rw [rlm]
  simp only [Sem.run_bind, parts43, Result.andThen]
  simp [ReflectliteValue.elem, loadVar, isAgg, underlying, Tryz.underlying43, ha, Result.andThen, elemOf43, mk41]
theorem rls (v x : Value) : ReflectliteValue.set #[v, x] = (do
    let (some (dst, a, fl), some (src, b, _)) := (← ReflectliteValue.parts v, ← ReflectliteValue.parts x)
      | unsupported (.noEntry "extern/(internal/reflectlite.Value).Set.zeroValue")
    if fl / ReflectliteValue.flagAddr % 2 == 0 then unsupported (.noEntry "extern/(internal/reflectlite.Value).Set.unaddressable")
    let val ← loadVar src b
    if ← Rtype.directlyAssignable dst src then storeVar dst a val
    else if ← Rtype.implements dst src then
      if (← Rtype.kind src) == 20 then
        match val with
        | .nilIface => unsupported (.noEntry "extern/reflectlite: a nil value of one interface type handed on as a value of another")
        | _ => storeVar dst a val
      else storeVar dst a (.iface src val)
    else panicString ("reflectlite.Set: value of type " ++ (← Rtype.spelt src) ++ " is not assignable to type " ++ (← Rtype.spelt dst))
    pure (.tuple #[])) := rfl
theorem parts41a (a : Addr) (w : World) : (ReflectliteValue.parts (.agg #[.pointer (some ⟨7, 41, none⟩), .pointer (some a), .int .u64 409])).run Tryz.prog w = .ok (some (41, a, 409)) w := by kernel_rfl
theorem parts41 (a : Addr) (w : World) : (ReflectliteValue.parts (.agg #[.pointer (some ⟨7, 41, none⟩), .pointer (some a), .int .u64 153])).run Tryz.prog w = .ok (some (41, a, 153)) w := by kernel_rfl
theorem direct41 (w : World) : (Rtype.directlyAssignable 41 41).run Tryz.prog w = .ok true w := by kernel_rfl
/-- (Value).Set: the variable at 'tb' gets what the Value's own variable holds -/
theorem set41 (tb b : Nat) (x y o0 o1 : Value) (hx : x.oneCell' = true) (hy : y.oneCell' = true) (W : World) (hb0 : W.cell? ⟨b, 0, none⟩ = some x) (hb1 : W.cell? ⟨b, 1, none⟩ = some y) (ht0 : W.cell? ⟨tb, 0, none⟩ = some o0) (ht1 : W.cell? ⟨tb, 1, none⟩ = some o1) (hf0 : W.frozen? ⟨tb, 0, none⟩ = false) (hf1 : W.frozen? ⟨tb, 1, none⟩ = false) :
    (ReflectliteValue.set #[.agg #[.pointer (some ⟨7, 41, none⟩), .pointer (some ⟨tb, 0, none⟩), .int .u64 409], .agg #[.pointer (some ⟨7, 41, none⟩), .pointer (some ⟨b, 0, none⟩), .int .u64 153]]).run Tryz.prog W
      = .ok (.tuple #[]) ((W.setCell ⟨tb, 0, none⟩ x).setCell ⟨tb, 1, none⟩ y) := by
  rw [rls]
  simp only [Sem.run_bind, parts41a, parts41, Result.andThen]
  simp [ReflectliteValue.flagAddr, loadVar, isAgg, underlying, Tryz.underlying41, Result.andThen, direct41, storeVar, Value.cells]
  have hl : (loadCells ⟨b, 0, none⟩ 2).run Tryz.prog W = .ok #[x, y] W := run_loadCells_list (P := Tryz.prog) W ⟨b, 0, none⟩ [x, y] (by
    intro j v hj
    match j, hj with
    | 0, hj => simp at hj; subst hj; simpa [Addr.add] using hb0
    | 1, hj => simp at hj; subst hj; simpa [Addr.add] using hb1)
  have hne1 : (W.setCell ⟨tb, 0, none⟩ x).cell? ⟨tb, 1, none⟩ = some o1 := by rw [World.cell?_setCell_other _ _ _ _ (by simp)]; exact ht1
  have hs0 : (store ⟨tb, 0, none⟩ x).run Tryz.prog W = .ok () (W.setCell ⟨tb, 0, none⟩ x) := by
    rw [run_store Tryz.prog W ⟨tb, 0, none⟩ _ _ hx]
    simp [ht0, hf0]
  have hs1 : (store ⟨tb, 1, none⟩ y).run Tryz.prog (W.setCell ⟨tb, 0, none⟩ x) = .ok () ((W.setCell ⟨tb, 0, none⟩ x).setCell ⟨tb, 1, none⟩ y) := by
    rw [run_store Tryz.prog _ ⟨tb, 1, none⟩ _ _ hy]
    simp [hne1, hf1]
  rw [hl]
  simp [storeCells, Addr.add, hs0, hs1, Result.andThen]
set_option maxHeartbeats 4000000 in
set_option maxRecDepth 20000 in
/-- errors.as of a scriptFault -/
theorem as37_hit (x y : Int) (tb a : Nat) (tv : Value) (o0 o1 : Value) (w : World) (ha : w.cell? ⟨a, 0, none⟩ = some (.pointer (some ⟨tb, 0, none⟩))) (ht0 : w.cell? ⟨tb, 0, none⟩ = some o0) (ht1 : w.cell? ⟨tb, 1, none⟩ = some o1) (hf0 : w.frozen? ⟨tb, 0, none⟩ = false) (hf1 : w.frozen? ⟨tb, 1, none⟩ = false) :
    Calls Tryz.prog 37 #[.iface 41 (.agg #[.int .i64 x, .int .i64 y]), tv, .agg #[.pointer (some ⟨7, 43, none⟩), .pointer (some ⟨a, 0, none⟩), .int .u64 150], .iface 114 (.agg #[.pointer (some ⟨7, 41, none⟩)])] w fun ev w' => ev = .returned (.bool true) ∧ Below w.heap.size ((w.setCell ⟨tb, 0, none⟩ (.int .i64 x)).setCell ⟨tb, 1, none⟩ (.int .i64 y)) w' := by
  have hal : a < w.heap.size := World.block_lt_of_cell? w _ ha
  have htl : tb < w.heap.size := World.block_lt_of_cell? w _ ht0
  have el := elemV43 ⟨a, 0, none⟩ ⟨tb, 0, none⟩ (w.alloc (.cells #[.pointer (some ⟨7, 43, none⟩), .pointer (some ⟨a, 0, none⟩), .int .u64 150] 79)) (by rw [World.cell?_alloc_lt _ _ ⟨a, 0, none⟩ hal]; exact ha)
  have st := set41 tb (w.heap.size + 1) (.int .i64 x) (.int .i64 y) o0 o1 rfl rfl ((w.alloc (.cells #[.pointer (some ⟨7, 43, none⟩), .pointer (some ⟨a, 0, none⟩), .int .u64 150] 79)).alloc (.cells #[.int .i64 x, .int .i64 y] 41)) (by simp) (by simp)
    (by rw [World.cell?_alloc_lt _ _ ⟨tb, 0, none⟩ (by simp; omega), World.cell?_alloc_lt _ _ ⟨tb, 0, none⟩ htl]; exact ht0)
    (by rw [World.cell?_alloc_lt _ _ ⟨tb, 1, none⟩ (by simp; omega), World.cell?_alloc_lt _ _ ⟨tb, 1, none⟩ htl]; exact ht1)
    (by rw [World.frozen?_alloc_old _ _ ⟨tb, 0, none⟩ (by simp; omega), World.frozen?_alloc_old _ _ ⟨tb, 0, none⟩ (Nat.ne_of_lt htl)]; exact hf0)
    (by rw [World.frozen?_alloc_old _ _ ⟨tb, 1, none⟩ (by simp; omega), World.frozen?_alloc_old _ _ ⟨tb, 1, none⟩ (Nat.ne_of_lt htl)]; exact hf1)
  have h65 := @run_callFunc_extern Tryz.prog 65 _ ReflectliteType.typeOf Tryz.func65 (by kernel_rfl) (by kernel_rfl) (by kernel_rfl) (by kernel_rfl)
  have h135 := @run_callFunc_extern Tryz.prog 135 _ (ReflectliteType.relation "AssignableTo" ReflectliteType.assignableTo) Tryz.func135 (by kernel_rfl) (by kernel_rfl) (by kernel_rfl) (by kernel_rfl)
  have h66 := @run_callFunc_extern Tryz.prog 66 _ (ReflectliteValue.method (ReflectliteValue.valueError "reflectlite.Value.Elem" 0) ReflectliteValue.elem) Tryz.func66 (by kernel_rfl) (by kernel_rfl) (by kernel_rfl) (by kernel_rfl)
  have h67 := @run_callFunc_extern Tryz.prog 67 _ ReflectliteValue.set Tryz.func67 (by kernel_rfl) (by kernel_rfl) (by kernel_rfl) (by kernel_rfl)
  have h34 := @run_callFunc_extern Tryz.prog 34 _ (fun args => ReflectliteValue.unpack (args.getD 0 (.tuple #[]))) Tryz.func34 (by kernel_rfl) (by kernel_rfl) (by kernel_rfl) (by kernel_rfl)
  have tO := typeOf41
  have mA := methodAssignableTo
  have a41 := assignable41
  have v41 := valueOf41
  clear ha ht0 ht1 hf0 hf1
  go_enter Tryz.func37, Tryz.ntmps37
  go_wp2
  refine wp_loop_rounds 1 ?_
  rw [rounds_succ]
  go_wp2
  go_ret
  exact ⟨rfl, ((Below.refl _ _).alloc (by simp) _).alloc (by simp) _⟩
theorem noAs141 (v : Value) (w : World) : (Instr.typeAssert (.iface 141 v) 37 119 true).run Tryz.prog w = .ok (.tuple #[.nilIface, .bool false]) w := run_typeAssert_lacksB Tryz.underlying119 (by kernel_rfl) (by kernel_rfl) v 37 w
theorem isUn141 (v : Value) (w : World) : (Instr.typeAssert (.iface 141 v) 37 122 true).run Tryz.prog w = .ok (.tuple #[.iface 141 v, .bool true]) w := run_typeAssert_hasB Tryz.underlying122 (by kernel_rfl) v 37 w
theorem methodUnwrap (v : Value) (w : World) : (Go.method 316 141 v "Unwrap").run Tryz.prog w = .ok (146, v) w := by kernel_rfl
theorem unwrap_any (s : ByteArray) (e : Value) (he : e.oneCell' = true) (w : World) : Calls Tryz.prog 146 #[.agg #[.string s, e]] w fun o w' => o = .returned e ∧ w' = w.alloc (.cells #[.string s, e] 141) := by
  go_enter Tryz.func146, Tryz.ntmps146
  go_wp2
  go_ret
  exact ⟨rfl, rfl⟩
set_option maxHeartbeats 4000000 in
set_option maxRecDepth 20000 in
/-- errors.as of a wordFault that wraps a scriptFault -/
theorem as37_word (s : ByteArray) (x y : Int) (tb a : Nat) (tv : Value) (o0 o1 : Value) (w : World) (ha : w.cell? ⟨a, 0, none⟩ = some (.pointer (some ⟨tb, 0, none⟩))) (ht0 : w.cell? ⟨tb, 0, none⟩ = some o0) (ht1 : w.cell? ⟨tb, 1, none⟩ = some o1) (hf0 : w.frozen? ⟨tb, 0, none⟩ = false) (hf1 : w.frozen? ⟨tb, 1, none⟩ = false) :
    Calls Tryz.prog 37 #[.iface 141 (.agg #[.string s, .iface 41 (.agg #[.int .i64 x, .int .i64 y])]), tv, .agg #[.pointer (some ⟨7, 43, none⟩), .pointer (some ⟨a, 0, none⟩), .int .u64 150], .iface 114 (.agg #[.pointer (some ⟨7, 41, none⟩)])] w fun ev w' => ev = .returned (.bool true) ∧ Below w.heap.size ((w.setCell ⟨tb, 0, none⟩ (.int .i64 x)).setCell ⟨tb, 1, none⟩ (.int .i64 y)) w' := by
  have hal : a < w.heap.size := World.block_lt_of_cell? w _ ha
  have htl : tb < w.heap.size := World.block_lt_of_cell? w _ ht0
  have el := elemV43 ⟨a, 0, none⟩ ⟨tb, 0, none⟩ ((w.alloc (.cells #[.pointer (some ⟨7, 43, none⟩), .pointer (some ⟨a, 0, none⟩), .int .u64 150] 79)).alloc (.cells #[.string s, .iface 41 (.agg #[.int .i64 x, .int .i64 y])] 141)) (by rw [World.cell?_alloc_lt _ _ ⟨a, 0, none⟩ (by simp; omega), World.cell?_alloc_lt _ _ ⟨a, 0, none⟩ hal]; exact ha)
  have st := set41 tb (w.heap.size + 1 + 1) (.int .i64 x) (.int .i64 y) o0 o1 rfl rfl (((w.alloc (.cells #[.pointer (some ⟨7, 43, none⟩), .pointer (some ⟨a, 0, none⟩), .int .u64 150] 79)).alloc (.cells #[.string s, .iface 41 (.agg #[.int .i64 x, .int .i64 y])] 141)).alloc (.cells #[.int .i64 x, .int .i64 y] 41)) (by rw [World.cell?_alloc_at _ _ _ _ (by simp)]; rfl) (by rw [World.cell?_alloc_at _ _ _ _ (by simp)]; rfl)
    (by rw [World.cell?_alloc_lt _ _ ⟨tb, 0, none⟩ (by simp; omega), World.cell?_alloc_lt _ _ ⟨tb, 0, none⟩ (by simp; omega), World.cell?_alloc_lt _ _ ⟨tb, 0, none⟩ (by first | exact htl | exact Nat.ne_of_lt htl)]; exact ht0)
    (by rw [World.cell?_alloc_lt _ _ ⟨tb, 1, none⟩ (by simp; omega), World.cell?_alloc_lt _ _ ⟨tb, 1, none⟩ (by simp; omega), World.cell?_alloc_lt _ _ ⟨tb, 1, none⟩ (by first | exact htl | exact Nat.ne_of_lt htl)]; exact ht1)
    (by rw [World.frozen?_alloc_old _ _ ⟨tb, 0, none⟩ (by simp; omega), World.frozen?_alloc_old _ _ ⟨tb, 0, none⟩ (by simp; omega), World.frozen?_alloc_old _ _ ⟨tb, 0, none⟩ (by first | exact htl | exact Nat.ne_of_lt htl)]; exact hf0)
    (by rw [World.frozen?_alloc_old _ _ ⟨tb, 1, none⟩ (by simp; omega), World.frozen?_alloc_old _ _ ⟨tb, 1, none⟩ (by simp; omega), World.frozen?_alloc_old _ _ ⟨tb, 1, none⟩ (by first | exact htl | exact Nat.ne_of_lt htl)]; exact hf1)
  have h65 := @run_callFunc_extern Tryz.prog 65 _ ReflectliteType.typeOf Tryz.func65 (by kernel_rfl) (by kernel_rfl) (by kernel_rfl) (by kernel_rfl)
  have h135 := @run_callFunc_extern Tryz.prog 135 _ (ReflectliteType.relation "AssignableTo" ReflectliteType.assignableTo) Tryz.func135 (by kernel_rfl) (by kernel_rfl) (by kernel_rfl) (by kernel_rfl)
  have h66 := @run_callFunc_extern Tryz.prog 66 _ (ReflectliteValue.method (ReflectliteValue.valueError "reflectlite.Value.Elem" 0) ReflectliteValue.elem) Tryz.func66 (by kernel_rfl) (by kernel_rfl) (by kernel_rfl) (by kernel_rfl)
  have h67 := @run_callFunc_extern Tryz.prog 67 _ ReflectliteValue.set Tryz.func67 (by kernel_rfl) (by kernel_rfl) (by kernel_rfl) (by kernel_rfl)
  have h34 := @run_callFunc_extern Tryz.prog 34 _ (fun args => ReflectliteValue.unpack (args.getD 0 (.tuple #[]))) Tryz.func34 (by kernel_rfl) (by kernel_rfl) (by kernel_rfl) (by kernel_rfl)
  have tO := typeOf41
  have tO2 := typeOf141
  have mA := methodAssignableTo
  have a41 := assignable41
  have a141 := assignable141
  have v41 := valueOf41
  have n1 := noAs141
  have n2 := isUn141
  have mU := methodUnwrap
  clear ha ht0 ht1 hf0 hf1
  go_enter Tryz.func37, Tryz.ntmps37
  go_wp2
  refine wp_loop_rounds 2 ?_
  rw [rounds_succ]
  go_wp2_with (first | (go_at_call 146; refine (unwrap_any s _ rfl _).mono ?_; rintro o w1 ⟨rfl, rfl⟩))
  rw [rounds_succ]
  go_wp2
  go_ret
  have e3 : ∀ (W : World) (o1 o2 o3 : Obj) (i : Nat) (v : Value), tb < W.heap.size → (((W.alloc o1).alloc o2).alloc o3).setCell ⟨tb, i, none⟩ v = (((W.setCell ⟨tb, i, none⟩ v).alloc o1).alloc o2).alloc o3 := by
    intro W o1 o2 o3 i v hW
    rw [World.setCell_alloc_past _ _ _ _ (by simp; omega), World.setCell_alloc_past _ _ _ _ (by simp; omega), World.setCell_alloc_past _ _ _ _ hW]
  rw [e3 _ _ _ _ _ _ htl, e3 _ _ _ _ _ _ (by simpa using htl)]
  refine ⟨rfl, (((Below.refl _ _).alloc ?_ _).alloc ?_ _).alloc ?_ _⟩ <;> first | (simp; done) | (simp; omega)
end Go.Proofs.YtfbeaekddgpmmaaGreatDoor
