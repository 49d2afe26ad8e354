import Derived.Test.YtjmlalojfghkiaaDoorAF
namespace Go.Proofs.YtjmlalojfghkiaaDoor
open Go.RowKit
set_option linter.unusedVariables false
theorem sz27 : (Tryd.prog.info? 27).map (·.size) = some 11 := by kernel_rfl
theorem sz31L (S : Sc) (a : Option Addr) (n k : Nat) : (Tryd.prog.info? 31).map (·.size) = some (scL S a n k).length := sz31
theorem sz31A (S : Sc) (a : Option Addr) (n k : Nat) : (Tryd.prog.info? 31).map (·.size) = some (scL S a n k).toArray.size := sz31
theorem sz27L (S : Sc) (a : Option Addr) (n k : Nat) : (Tryd.prog.info? 27).map (·.size) = some (scL S a n k).length := sz27
theorem scL_one (S : Sc) (a : Option Addr) (n k : Nat) : (scL S a n k).toArray.all (·.oneCell') = true := all_oneCell_toArray (by simp [scL, Value.oneCell'])
theorem scL_len (S : Sc) (a : Option Addr) (n k : Nat) : (scL S a n k).length = 11 := rfl
/-- what the law keeps: the argument, the model's answer, the table -/
structure lS (w : World) (S : Sc) (a : Option Addr) (n cap : Nat) (P : Nat) (T : Sc) (aw : Option Addr) (nw kw : Nat) (W : World) : Prop where
  p : blk W w.heap.size (scL S a n cap) 27
  q : blk W P (scL T aw nw kw) 31
  o : isBytes W aw nw kw T.l
  b : Below w.heap.size w W
theorem lS.below {w : World} {S : Sc} {a : Option Addr} {n cap P : Nat} {T : Sc} {aw : Option Addr} {nw kw : Nat} {W W' : World} (h : lS w S a n cap P T aw nw kw W) (hb : Below W.heap.size W W') : lS w S a n cap P T aw nw kw W' := ⟨h.p.below hb, h.q.below hb, h.o.below hb, h.b.trans (hb.mono h.b.size)⟩
/-- a new variable that holds a scan -/
theorem new_scan {w : World} {T : TypeId} (l : List Value) (hl : l.length = 11) : blk (World.setCells (w.alloc (.cells z11.toArray T)) w.heap.size 0 l) w.heap.size l T ∧ Below w.heap.size w (World.setCells (w.alloc (.cells z11.toArray T)) w.heap.size 0 l) := by
  refine ⟨?_, setCells_below (Nat.le_refl _) _ _ ((Below.refl _ _).alloc (Nat.le_refl _) _)⟩
  have := blk.put [] z11 [] l (w := w.alloc (.cells z11.toArray T)) (b := w.heap.size) (T := T) (blk.new w z11 T) (by rw [hl]; rfl)
  simpa using this
/-- what lies behind B holds through a world that keeps those blocks -/
theorem ansB_bytes {w : World} {B : Nat} {l : List Nat} {a : Option Addr} {n k : Nat} (h : ansB w B l a n k) (hs : ∀ x ∈ l, x < 256) : St B w (fun W => isBytes W a n k l) := by
  rcases h with ⟨g, rfl, ho, hn⟩ | ⟨rfl, rfl, rfl, rfl⟩
  · obtain ⟨g', k', e, h1, h2, h3⟩ := ownsB_bytes ho (by intro e; cases e) hs
    cases e
    exact h3
  · exact fun W _ => scZ_bytes W
theorem ownsB_row {w : World} {B g n k : Nat} {l : List Nat} (h : ownsB w B (.slice (some ⟨g, 0, none⟩) n k) l) (hn : n = l.length) : B ≤ g ∧ g < w.heap.size ∧ n ≤ k ∧ St B w (fun W => ∃ f, rowB W g n f) := by
  have h' := h
  obtain ⟨g', cap, e, h1, h2, h3, h4⟩ := own_slice h (by intro e; cases e)
  cases e
  refine ⟨h1, h2, by omega, fun W hW => ⟨fun t => l.getD t 0, fun t ht => ?_, fun t ht => ?_⟩⟩
  · rw [h4 W (hW g h1 h2) t (by omega), bv_at l t (by omega)]
    simp [List.getD_eq_getElem?_getD, List.getElem?_eq_getElem (show t < l.length by omega)]
  · have := World.ownsRow.frozenAt h' t
    unfold World.frozen? at this ⊢
    rw [hW g h1 h2]
    exact this
/-- mark and held of an answer -/
theorem ansB_mark {w : World} {B : Nat} {T : Sc} {a : Option Addr} {n k : Nat} (h : ansB w B T.l a n k) (hB : B ≤ w.heap.size) (hn : T.l.length ≤ 9) :
    St B w (fun W => w.heap.size ≤ W.heap.size → Calls Tryd.prog 10 #[scV T a n k, .int .i64 1] W fun o W' => (∃ q : Nat, o = .returned (.int .i64 (q : Int)) ∧ (∀ b, b < B → W'.heap[b]? = W.heap[b]?) ∧ W.heap.size ≤ W'.heap.size ∧ (∀ b, w.heap.size ≤ b → b < W.heap.size → W'.heap[b]? = W.heap[b]?) ∧ Below B W W' ∧
      Calls Tryd.prog 11 #[scV T a n k, .int .i64 1] W' fun o W'' => o = .returned (.int .i64 (q : Int)) ∧ Below W'.heap.size W' W'')) := by
  rcases h with ⟨g, rfl, ho, hl⟩ | ⟨rfl, rfl, rfl, hl⟩
  · obtain ⟨h1, h2, h3, h4⟩ := ownsB_row ho hl
    intro W hW hsz
    obtain ⟨f, hf⟩ := h4 W hW
    have hgW : g < W.heap.size := Nat.lt_of_lt_of_le h2 hsz
    refine (markScan_row W T g n k 1 f hf hgW h3 (by omega) (by decide)).mono ?_
    rintro o W' ⟨rfl, hm⟩
    have hs := hm.bel.size
    refine ⟨1 + n, rfl, fun b hb => hm.oth b (by omega) (by omega), hs, fun b hb hb2 => hm.oth b (by omega) hb2, hm.bel.mono h1, ?_⟩
    exact (heldScan_row W' T g n k 1 hm.row (by omega) h3 (by omega) (by decide))
  · intro W hW hsz
    refine (markScan_nil W T 1).mono ?_
    rintro o W' ⟨rfl, hb⟩
    refine ⟨1, rfl, fun b hb' => hb.block b (by omega), hb.size, fun b _ h => hb.block b h, hb.mono (by omega), heldScan_nil W' T 1⟩
end Go.Proofs.YtjmlalojfghkiaaDoor
