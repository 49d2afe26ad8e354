import Derived.Test.YtihndnclplkleaaHP
import Derived.ProofKit
import Derived.OpenShut
import Derived.Lib.SmallJoins
namespace Go.Proofs.Ytihndnclplkleaa
open Go.ChangeShapes Go.WideShapes Go.ChangeAt Go.RowKit
theorem Try.cells3 : Try.prog.cellsOf 3 = 1 := by kernel_rfl
theorem Try.cells4 : Try.prog.cellsOf 4 = 1 := by kernel_rfl
theorem Try.cells5 : Try.prog.cellsOf 5 = 1 := by kernel_rfl
theorem Try.cells73 : Try.prog.cellsOf 73 = 1 := by kernel_rfl
theorem Try.cells91 : Try.prog.cellsOf 91 = 1 := by kernel_rfl
theorem Try.cells100 : Try.prog.cellsOf 100 = 3 := by kernel_rfl
theorem Try.cells142 : Try.prog.cellsOf 142 = 5 := by kernel_rfl
theorem Try.cells144 : Try.prog.cellsOf 144 = 8 := by kernel_rfl
theorem Try.cells148 : Try.prog.cellsOf 148 = 8 := by kernel_rfl
theorem bytes_open {H : Type} {enc : TypeId × Value → H} {W : World} {fuel : Nat} {v : Value} {y : DataW H × List MemPlace}
    (h : DataW.trod enc Try.prog W 0 (fun _ => true) true fuel 91 [v] = some y) : ∃ a n cap l, v = .slice a n cap ∧ isBytes W a n cap l ∧ n ≤ maxLen := by
  rcases open_ints Try.underlying91 Try.underlying5 Try.cells5 h with ⟨hcs, _⟩ | ⟨x, n, c, zs, hcs, _, hl, hm, hz, _, hcell, hwz⟩
  · simp at hcs
    exact ⟨none, 0, 0, [], hcs, ⟨rfl, Nat.le_refl _, (fun x hx => by cases hx), fun e => absurd rfl e⟩, by unfold maxLen; omega⟩
  · simp at hcs
    have hz' : zs.length = c := by simpa using hz
    have hb : ∀ z ∈ zs, 0 ≤ z ∧ z < 256 := by
      intro z hzz
      have := bounds_u8 (hwz z hzz)
      omega
    have hlen : (zs.take n).length = n := by rw [List.length_take]; omega
    refine ⟨some x, n, c, (zs.take n).map Int.toNat, hcs, ⟨by rw [List.length_map, hlen], hl, ?_, ?_⟩, by omega⟩
    · intro u hu
      rw [List.mem_map] at hu
      obtain ⟨z, hz1, rfl⟩ := hu
      have := hb z (List.mem_of_mem_take hz1)
      omega
    · intro hne
      have hn0 : 0 < n := by
        rcases Nat.eq_zero_or_pos n with e | e
        · subst e; simp at hne
        · exact e
      obtain ⟨b, off, spot⟩ := x
      have hc0 := hcell 0 (by omega)
      have hspot : spot = none := by simpa [Addr.add] using World.cell?_spot hc0
      subst hspot
      refine ⟨b, off, rfl, fun j hj => ?_⟩
      have hj' : j < n := by rw [List.length_map, hlen] at hj; exact hj
      have hcj := hcell j (by omega)
      have e2 : (⟨b, off, none⟩ : Addr).add j = ⟨b, off + j, none⟩ := by simp only [Addr.add]; split <;> simp_all
      rw [e2] at hcj
      rw [hcj]
      have hzj : zs.getD j 0 = zs[j]'(by omega) := by simp [List.getD, show j < zs.length by omega]
      have hbj := hb (zs[j]'(by omega)) (List.getElem_mem _)
      rw [hzj, List.getElem_map, List.getElem_take]
      congr 2
      omega
set_option maxRecDepth 20000 in
theorem rec3_open {H : Type} {enc : TypeId × Value → H} {W : World} {fuel : Nat} {cs : List Value} {y : DataW H × List MemPlace}
    (h : DataW.trod enc Try.prog W 0 (fun _ => true) true fuel 100 cs = some y) : ∃ b : R3, cs = [.bool b.e, .int .u32 b.m, .int .u32 b.k] := by
  obtain ⟨xs, n, _, _, hcl, hlen, hfs⟩ := DataW.trod_struct Try.underlying100 h
  rw [Try.cells100] at hcl
  match cs, hcl with
  | [c0, c1, c2], _ =>
    match xs, hlen with
    | [y0, y1, y2], _ =>
      have h0 : DataW.trod enc Try.prog W 0 (fun _ => true) true n 4 (List.take (Try.prog.cellsOf 4) [c0, c1, c2]) = some y0 := hfs 0 _ rfl
      have h1 : DataW.trod enc Try.prog W 0 (fun _ => true) true n 73 (List.take (Try.prog.cellsOf 73) [c1, c2]) = some y1 := hfs 1 _ rfl
      have h2 : DataW.trod enc Try.prog W 0 (fun _ => true) true n 73 (List.take (Try.prog.cellsOf 73) [c2]) = some y2 := hfs 2 _ rfl
      rw [Try.cells4] at h0
      rw [Try.cells73] at h1 h2
      obtain ⟨e, e0, _⟩ := DataW.trod_bool Try.underlying4 h0
      obtain ⟨x1, e1, _, _⟩ := DataW.trod_int Try.underlying73 h1
      obtain ⟨x2, e2, _, _⟩ := DataW.trod_int Try.underlying73 h2
      refine ⟨⟨e, x1, x2⟩, ?_⟩
      simp at e0 e1 e2
      rw [e0, e1, e2]
set_option maxRecDepth 20000 in
theorem rec5_open {H : Type} {enc : TypeId × Value → H} {W : World} {fuel : Nat} {cs : List Value} {y : DataW H × List MemPlace}
    (h : DataW.trod enc Try.prog W 0 (fun _ => true) true fuel 142 cs = some y) : ∃ (b : R5) (a : Option Addr) (n cap : Nat), cs = [.bool b.e, .int .u32 (b.i : Int), .bool b.r, .int .i64 b.d, .slice a n cap] ∧ isBytes W a n cap b.l ∧ n ≤ maxLen := by
  obtain ⟨xs, n, _, _, hcl, hlen, hfs⟩ := DataW.trod_struct Try.underlying142 h
  rw [Try.cells142] at hcl
  match cs, hcl with
  | [c0, c1, c2, c3, c4], _ =>
    match xs, hlen with
    | [y0, y1, y2, y3, y4], _ =>
      have h0 : DataW.trod enc Try.prog W 0 (fun _ => true) true n 4 (List.take (Try.prog.cellsOf 4) [c0, c1, c2, c3, c4]) = some y0 := hfs 0 _ rfl
      have h1 : DataW.trod enc Try.prog W 0 (fun _ => true) true n 73 (List.take (Try.prog.cellsOf 73) [c1, c2, c3, c4]) = some y1 := hfs 1 _ rfl
      have h2 : DataW.trod enc Try.prog W 0 (fun _ => true) true n 4 (List.take (Try.prog.cellsOf 4) [c2, c3, c4]) = some y2 := hfs 2 _ rfl
      have h3 : DataW.trod enc Try.prog W 0 (fun _ => true) true n 3 (List.take (Try.prog.cellsOf 3) [c3, c4]) = some y3 := hfs 3 _ rfl
      have h4 : DataW.trod enc Try.prog W 0 (fun _ => true) true n 91 (List.take (Try.prog.cellsOf 91) [c4]) = some y4 := hfs 4 _ rfl
      rw [Try.cells4] at h0 h2
      rw [Try.cells73] at h1
      rw [Try.cells3] at h3
      rw [Try.cells91] at h4
      obtain ⟨e, e0, _⟩ := DataW.trod_bool Try.underlying4 h0
      obtain ⟨i, e1, _, wi⟩ := DataW.trod_int Try.underlying73 h1
      obtain ⟨rr, e2, _⟩ := DataW.trod_bool Try.underlying4 h2
      obtain ⟨dd, e3, _, _⟩ := DataW.trod_int Try.underlying3 h3
      obtain ⟨a, m, cap, l, e4, hy, hm⟩ := bytes_open h4
      have hi := bounds_u32 wi
      refine ⟨⟨e, i.toNat, rr, dd, l⟩, a, m, cap, ?_, hy, hm⟩
      have e1' : ((i.toNat : Nat) : Int) = i := by omega
      simp only [e1']
      simp at e0 e1 e2 e3
      rw [e0, e1, e2, e3, e4]
set_option maxRecDepth 20000 in
theorem box_open {H : Type} {enc : TypeId × Value → H} {W : World} {fuel : Nat} {cs : List Value} {y : DataW H × List MemPlace}
    (h : DataW.trod enc Try.prog W 0 (fun _ => true) true fuel 144 cs = some y) : ∃ (b : R8) (a : Option Addr) (n cap : Nat), cs = [.int .i64 b.x, .int .i64 b.y, .int .i64 b.z, .bool b.e, .int .u32 (b.i : Int), .bool b.r, .int .i64 b.d, .slice a n cap] ∧ isBytes W a n cap b.l ∧ n ≤ maxLen := by
  obtain ⟨xs, n, _, _, hcl, hlen, hfs⟩ := DataW.trod_struct Try.underlying144 h
  rw [Try.cells144] at hcl
  match cs, hcl with
  | [c0, c1, c2, c3, c4, c5, c6, c7], _ =>
    match xs, hlen with
    | [y0, y1, y2, y3], _ =>
      have h0 : DataW.trod enc Try.prog W 0 (fun _ => true) true n 3 (List.take (Try.prog.cellsOf 3) [c0, c1, c2, c3, c4, c5, c6, c7]) = some y0 := hfs 0 _ rfl
      have h1 : DataW.trod enc Try.prog W 0 (fun _ => true) true n 3 (List.take (Try.prog.cellsOf 3) [c1, c2, c3, c4, c5, c6, c7]) = some y1 := hfs 1 _ rfl
      have h2 : DataW.trod enc Try.prog W 0 (fun _ => true) true n 3 (List.take (Try.prog.cellsOf 3) [c2, c3, c4, c5, c6, c7]) = some y2 := hfs 2 _ rfl
      have h3 : DataW.trod enc Try.prog W 0 (fun _ => true) true n 142 (List.take (Try.prog.cellsOf 142) [c3, c4, c5, c6, c7]) = some y3 := hfs 3 _ rfl
      rw [Try.cells3] at h0 h1 h2
      rw [Try.cells142] at h3
      obtain ⟨x0, e0, _, _⟩ := DataW.trod_int Try.underlying3 h0
      obtain ⟨x1, e1, _, _⟩ := DataW.trod_int Try.underlying3 h1
      obtain ⟨x2, e2, _, _⟩ := DataW.trod_int Try.underlying3 h2
      obtain ⟨f, a, m, cap, e3, hy, hm⟩ := rec5_open h3
      refine ⟨⟨x0, x1, x2, f.e, f.i, f.r, f.d, f.l⟩, a, m, cap, ?_, hy, hm⟩
      simp at e0 e1 e2 e3
      obtain ⟨q3, q4, q5, q6, q7⟩ := e3
      rw [e0, e1, e2, q3, q4, q5, q6, q7]
set_option maxRecDepth 20000 in
theorem event_open {H : Type} {enc : TypeId × Value → H} {W : World} {fuel : Nat} {cs : List Value} {y : DataW H × List MemPlace}
    (h : DataW.trod enc Try.prog W 0 (fun _ => true) true fuel 148 cs = some y) : ∃ (b : R8) (a : Option Addr) (n cap : Nat), cs = [.int .i64 b.x, .int .i64 b.y, .int .i64 b.z, .bool b.e, .int .u32 (b.i : Int), .bool b.r, .int .i64 b.d, .slice a n cap] ∧ isBytes W a n cap b.l ∧ n ≤ maxLen := by
  obtain ⟨xs, n, _, _, hcl, hlen, hfs⟩ := DataW.trod_struct Try.underlying148 h
  rw [Try.cells148] at hcl
  match cs, hcl with
  | [c0, c1, c2, c3, c4, c5, c6, c7], _ =>
    match xs, hlen with
    | [y0, y1, y2, y3], _ =>
      have h0 : DataW.trod enc Try.prog W 0 (fun _ => true) true n 3 (List.take (Try.prog.cellsOf 3) [c0, c1, c2, c3, c4, c5, c6, c7]) = some y0 := hfs 0 _ rfl
      have h1 : DataW.trod enc Try.prog W 0 (fun _ => true) true n 3 (List.take (Try.prog.cellsOf 3) [c1, c2, c3, c4, c5, c6, c7]) = some y1 := hfs 1 _ rfl
      have h2 : DataW.trod enc Try.prog W 0 (fun _ => true) true n 3 (List.take (Try.prog.cellsOf 3) [c2, c3, c4, c5, c6, c7]) = some y2 := hfs 2 _ rfl
      have h3 : DataW.trod enc Try.prog W 0 (fun _ => true) true n 142 (List.take (Try.prog.cellsOf 142) [c3, c4, c5, c6, c7]) = some y3 := hfs 3 _ rfl
      rw [Try.cells3] at h0 h1 h2
      rw [Try.cells142] at h3
      obtain ⟨x0, e0, _, _⟩ := DataW.trod_int Try.underlying3 h0
      obtain ⟨x1, e1, _, _⟩ := DataW.trod_int Try.underlying3 h1
      obtain ⟨x2, e2, _, _⟩ := DataW.trod_int Try.underlying3 h2
      obtain ⟨f, a, m, cap, e3, hy, hm⟩ := rec5_open h3
      refine ⟨⟨x0, x1, x2, f.e, f.i, f.r, f.d, f.l⟩, a, m, cap, ?_, hy, hm⟩
      simp at e0 e1 e2 e3
      obtain ⟨q3, q4, q5, q6, q7⟩ := e3
      rw [e0, e1, e2, q3, q4, q5, q6, q7]
/-- a slice of records, element by element -/
theorem rows_open {H : Type} {enc : TypeId × Value → H} {W : World} {fuel : Nat} {v : Value} {y : DataW H × List MemPlace} {t e : TypeId} (ht : Try.prog.underlying t = some (.slice e)) (sz : Nat) (hsz : Try.prog.cellsOf e = sz) (hs0 : 0 < sz)
    (h : DataW.trod enc Try.prog W 0 (fun _ => true) true fuel t [v] = some y) : ∃ (a : Option Addr) (n cap : Nat), v = .slice a n cap ∧ n ≤ cap ∧ n ≤ maxLen ∧ (n ≠ 0 → ∃ g off, a = some ⟨g, off, none⟩ ∧ ∀ i, i < n → ∃ (cs : List Value) (m : Nat) (z : DataW H × List MemPlace), DataW.trod enc Try.prog W 0 (fun _ => true) true m e cs = some z ∧ ∀ j, j < sz → W.cell? ⟨g, off + i * sz + j, none⟩ = cs[j]?) := by
  rcases DataW.trod_slice ht h with ⟨hcs, _⟩ | ⟨x, len, cap, elems, rest, n, _, hcs, _, _, hl, hm, hel, hall, _, _⟩
  · simp at hcs
    exact ⟨none, 0, 0, hcs, Nat.le_refl _, by unfold maxLen; omega, fun h => absurd rfl h⟩
  · simp at hcs
    refine ⟨some x, len, cap, hcs, hl, by omega, fun hn0 => ?_⟩
    rw [hsz] at hall
    have get : ∀ i, i < len → ∃ cs, W.cells? 0 (x.add (i * sz)) sz = some cs ∧ ∃ z, DataW.trod enc Try.prog W 0 (fun _ => true) true n e cs = some z := by
      intro i hi
      have h1 := hall i hi
      rw [List.getElem?_eq_getElem (by omega)] at h1
      cases h2 : W.cells? 0 (x.add (i * sz)) sz with
      | none => rw [h2] at h1; simp at h1
      | some cs => rw [h2] at h1; exact ⟨cs, rfl, _, h1⟩
    obtain ⟨b, off, spot⟩ := x
    obtain ⟨cs0, hc0, _⟩ := get 0 (by omega)
    have hspot : spot = none := by
      have hl0 := (World.cells?_some hc0).2.1
      have h3 := (World.cells?_some hc0).2.2 0 hs0
      rw [List.getElem?_eq_getElem (by omega)] at h3
      simpa [Addr.add] using World.cell?_spot h3
    subst hspot
    refine ⟨b, off, rfl, fun i hi => ?_⟩
    obtain ⟨cs, hc, z, hz⟩ := get i hi
    refine ⟨cs, n, z, hz, fun j hj => ?_⟩
    have := (World.cells?_some hc).2.2 j hj
    rw [Addr.add_mid, Addr.add_mid] at this
    exact this
theorem pick_list {α : Type} {n : Nat} {p : Nat → α → Prop} (h : ∀ i, i < n → ∃ b, p i b) : ∃ bs : List α, bs.length = n ∧ ∀ j (hj : j < bs.length), p j bs[j] := by
  refine ⟨List.ofFn (n := n) fun i => Classical.choose (h i.1 i.2), by simp, fun j hj => ?_⟩
  rw [List.getElem_ofFn]
  exact Classical.choose_spec (h j (by simpa using hj))
theorem boxS_rows {H : Type} {enc : TypeId × Value → H} {W : World} {fuel : Nat} {v : Value} {y : DataW H × List MemPlace} (h : DataW.trod enc Try.prog W 0 (fun _ => true) true fuel 51 [v] = some y) :
    ∃ (a : Option Addr) (n cap : Nat) (bs : List R8), v = .slice a n cap ∧ isR8s W a n cap bs ∧ bs.length ≤ 9223372036854775807 ∧ ∀ j (h : j < bs.length), bs[j].l.length ≤ 9223372036854775807 := by
  obtain ⟨a, n, cap, rfl, hc, hm, hall⟩ := rows_open Try.underlying51 8 Try.cells144 (by decide) h
  have hm' : n ≤ 9223372036854775807 := by unfold maxLen at hm; omega
  by_cases h0 : n = 0
  · subst h0
    exact ⟨a, 0, cap, [], rfl, ⟨rfl, hc, fun e => absurd rfl e⟩, by simp, fun j hj => by cases hj⟩
  · obtain ⟨g, off, rfl, hx⟩ := hall h0
    obtain ⟨bs, hl, hb⟩ := pick_list (p := fun i (b : R8) => (∃ ao m c, at8 W g (off + i * 8) b ao m c) ∧ b.l.length ≤ 9223372036854775807) (fun i hi => by
      obtain ⟨cs, m, z, hz, hj⟩ := hx i hi
      obtain ⟨b, ao, k, c, rfl, hy, hk⟩ := box_open hz
      exact ⟨b, ⟨ao, k, c, hj 0 (by decide), hj 1 (by decide), hj 2 (by decide), hj 3 (by decide), hj 4 (by decide), hj 5 (by decide), hj 6 (by decide), hj 7 (by decide), hy⟩, by rw [← hy.len]; unfold maxLen at hk; omega⟩)
    exact ⟨_, n, cap, bs, rfl, ⟨hl.symm, hc, fun _ => ⟨g, off, rfl, fun j hj => (hb j hj).1⟩⟩, by omega, fun j hj => (hb j hj).2⟩
theorem frameS_rows {H : Type} {enc : TypeId × Value → H} {W : World} {fuel : Nat} {v : Value} {y : DataW H × List MemPlace} (h : DataW.trod enc Try.prog W 0 (fun _ => true) true fuel 52 [v] = some y) :
    ∃ (a : Option Addr) (n cap : Nat) (bs : List R5), v = .slice a n cap ∧ isR5s W a n cap bs ∧ bs.length ≤ 9223372036854775807 ∧ ∀ j (h : j < bs.length), bs[j].l.length ≤ 9223372036854775807 := by
  obtain ⟨a, n, cap, rfl, hc, hm, hall⟩ := rows_open Try.underlying52 5 Try.cells142 (by decide) h
  have hm' : n ≤ 9223372036854775807 := by unfold maxLen at hm; omega
  by_cases h0 : n = 0
  · subst h0
    exact ⟨a, 0, cap, [], rfl, ⟨rfl, hc, fun e => absurd rfl e⟩, by simp, fun j hj => by cases hj⟩
  · obtain ⟨g, off, rfl, hx⟩ := hall h0
    obtain ⟨bs, hl, hb⟩ := pick_list (p := fun i (b : R5) => (∃ ao m c, at5 W g (off + i * 5) b ao m c) ∧ b.l.length ≤ 9223372036854775807) (fun i hi => by
      obtain ⟨cs, m, z, hz, hj⟩ := hx i hi
      obtain ⟨b, ao, k, c, rfl, hy, hk⟩ := rec5_open hz
      exact ⟨b, ⟨ao, k, c, hj 0 (by decide), hj 1 (by decide), hj 2 (by decide), hj 3 (by decide), hj 4 (by decide), hy⟩, by rw [← hy.len]; unfold maxLen at hk; omega⟩)
    exact ⟨_, n, cap, bs, rfl, ⟨hl.symm, hc, fun _ => ⟨g, off, rfl, fun j hj => (hb j hj).1⟩⟩, by omega, fun j hj => (hb j hj).2⟩
theorem eventS_rows {H : Type} {enc : TypeId × Value → H} {W : World} {fuel : Nat} {v : Value} {y : DataW H × List MemPlace} (h : DataW.trod enc Try.prog W 0 (fun _ => true) true fuel 53 [v] = some y) :
    ∃ (a : Option Addr) (n cap : Nat) (bs : List R8), v = .slice a n cap ∧ isR8s W a n cap bs ∧ bs.length ≤ 9223372036854775807 ∧ ∀ j (h : j < bs.length), bs[j].l.length ≤ 9223372036854775807 := by
  obtain ⟨a, n, cap, rfl, hc, hm, hall⟩ := rows_open Try.underlying53 8 Try.cells148 (by decide) h
  have hm' : n ≤ 9223372036854775807 := by unfold maxLen at hm; omega
  by_cases h0 : n = 0
  · subst h0
    exact ⟨a, 0, cap, [], rfl, ⟨rfl, hc, fun e => absurd rfl e⟩, by simp, fun j hj => by cases hj⟩
  · obtain ⟨g, off, rfl, hx⟩ := hall h0
    obtain ⟨bs, hl, hb⟩ := pick_list (p := fun i (b : R8) => (∃ ao m c, at8 W g (off + i * 8) b ao m c) ∧ b.l.length ≤ 9223372036854775807) (fun i hi => by
      obtain ⟨cs, m, z, hz, hj⟩ := hx i hi
      obtain ⟨b, ao, k, c, rfl, hy, hk⟩ := event_open hz
      exact ⟨b, ⟨ao, k, c, hj 0 (by decide), hj 1 (by decide), hj 2 (by decide), hj 3 (by decide), hj 4 (by decide), hj 5 (by decide), hj 6 (by decide), hj 7 (by decide), hy⟩, by rw [← hy.len]; unfold maxLen at hk; omega⟩)
    exact ⟨_, n, cap, bs, rfl, ⟨hl.symm, hc, fun _ => ⟨g, off, rfl, fun j hj => (hb j hj).1⟩⟩, by omega, fun j hj => (hb j hj).2⟩
theorem filterS_rows {H : Type} {enc : TypeId × Value → H} {W : World} {fuel : Nat} {v : Value} {y : DataW H × List MemPlace} (h : DataW.trod enc Try.prog W 0 (fun _ => true) true fuel 33 [v] = some y) :
    ∃ (a : Option Addr) (n cap : Nat) (bs : List R3), v = .slice a n cap ∧ isR3s W a n cap bs ∧ bs.length ≤ 9223372036854775807 := by
  obtain ⟨a, n, cap, rfl, hc, hm, hall⟩ := rows_open Try.underlying33 3 Try.cells100 (by decide) h
  have hm' : n ≤ 9223372036854775807 := by unfold maxLen at hm; omega
  by_cases h0 : n = 0
  · subst h0
    exact ⟨a, 0, cap, [], rfl, ⟨rfl, hc, fun e => absurd rfl e⟩, by simp⟩
  · obtain ⟨g, off, rfl, hx⟩ := hall h0
    obtain ⟨bs, hl, hb⟩ := pick_list (p := fun i (b : R3) => at3 W g (off + i * 3) b) (fun i hi => by
      obtain ⟨cs, m, z, hz, hj⟩ := hx i hi
      obtain ⟨b, rfl⟩ := rec3_open hz
      exact ⟨b, hj 0 (by decide), hj 1 (by decide), hj 2 (by decide)⟩)
    exact ⟨_, n, cap, bs, rfl, ⟨hl.symm, hc, fun _ => ⟨g, off, rfl, fun j hj => hb j hj⟩⟩, by omega⟩
end Go.Proofs.Ytihndnclplkleaa
