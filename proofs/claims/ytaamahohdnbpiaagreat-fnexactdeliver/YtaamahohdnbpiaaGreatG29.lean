import Derived.Test.YtaamahohdnbpiaaGreatG28
import Derived.Test.YtaamahohdnbpiaaGreatG26
import Derived.ArgAppend
namespace Go.Proofs.YtaamahohdnbpiaaGreat
open Go.RowKit
set_option linter.unusedVariables false
def delHo (H : Ho) (F : R5) : Ho :=
  if validB F.e F.i F.r F.d F.l.length = true ∧ passB H.fs F = true then
    (if (H.ff.length : Int) = H.c1 then
      (if H.c2 = 0 then postHo H (evF 3 0 0 F)
       else match H.ff with
        | [] => H
        | f :: r => postHo (fHo (postHo H (evF 3 0 0 f)) (r ++ [F])) (evF 2 0 0 F))
     else postHo (fHo H (H.ff ++ [F])) (evF 2 0 0 F))
  else H
theorem lh.putF {w0 : World} {G : Lg} {H : Ho} {f1 f3 : Nat} {hs : Nat → Hd} {nm : Nat} {D : DataW Unit} {W : World} (h : lh w0 G H f1 f3 hs nm D W) (F : R5) (ao : Option Addr) (m c : Nat) (hby : isBytes w0 ao m c F.l) (hl : F.l.length ≤ 1048576) (hroom : H.ff.length < G.r1) (ib : Nat) (hib : W.heap[ib]? = some (.cells #[.bool F.e, .int .u32 (F.i : Int), .bool F.r, .int .i64 F.d, .slice ao m c] 25)) (hne : ib ≠ G.P ∧ ib ≠ G.gr) :
    Calls Tryz.prog 156 #[.pointer (some ⟨G.P, 7, none⟩), .slice (some ⟨ib, 0, none⟩) 1 1] W fun o w' => o = .returned (.int .i64 1) ∧ lh w0 G (fHo H (H.ff ++ [F])) f1 f3 hs nm D w' ∧ (∀ b, b ≠ G.P → b ≠ G.gr → b < W.heap.size → w'.heap[b]? = W.heap[b]?) ∧ W.heap.size ≤ w'.heap.size := by
  have dp := h.d.p
  have dm := h.d.m
  have dg := h.d.g
  have dl := h.d.lo
  have hb1 := h.bd.b1
  refine (put5L_any H.c0 H.c2 G.r3 G.gf G.n1 G.kf G.gb G.n2 G.kb G.mb G.gq f3 H.qu.length H.lo H.st w0 W G.P G.gr G.r1 f1 H.ff [F] (some ⟨ib, 0, none⟩) 1 1 h.p (by omega) h.rz h.hi.2.1 h.r hb1.1 hb1.2.2 hb1.2.1 ⟨rfl, Nat.le_refl _, fun _ => ⟨ib, 0, rfl, hne.1, hne.2, lt_of_some hib, fun j hj => ⟨ao, m, c, by
      have hj0 : j = 0 := by simp at hj; omega
      subst hj0
      exact ⟨range_block hib, hby⟩⟩⟩⟩ (by omega) 1 (by omega)).mono ?_
  rintro o w' ⟨rfl, hq⟩
  have hb' : Below w0.heap.size w0 w' := by
    refine ⟨hq.o.1.trans h.b.os, hq.o.2.1.trans h.b.tape, hq.o.2.2.trans h.b.output, Nat.le_trans h.b.size hq.s, fun b hb => ?_⟩
    rw [hq.k b (by omega) (by omega) (Nat.lt_of_lt_of_le hb h.b.size)]
    exact h.b.block b hb
  have he : ∀ q, q ≠ G.P → q ≠ G.gr → q < W.heap.size → w'.heap[q]? = W.heap[q]? := hq.k
  have hz := hq.s
  have hi := h.hi
  have hr1 := hq.r
  have hp1 := hq.p
  refine ⟨rfl, ⟨?_, h.f.same (he _ (by omega) (by omega) hi.1), h.x.at0 (he _ (by omega) (by omega) h.x.hi) hb', hr1, hq.z, h.q.keep (he _ (by omega) (by omega) hi.2.2), h.qz.up (he _ (by omega) (by omega) hi.2.2), ?_, hb', ⟨by omega, by omega, by omega⟩, h.d, ⟨h.bd.e1, h.bd.e3, h.bd.m1, h.bd.m2, h.bd.nk, ⟨hb1.1, hb1.2.1, ?_⟩, h.bd.b3, h.bd.lo, ?_, h.bd.s4⟩⟩, he, hz⟩
  · have e2 : (fHo H (H.ff ++ [F])).ff.length = H.ff.length + 1 := by simp
    unfold lhL
    rw [e2]
    exact hp1
  · obtain ⟨es, clock, q1, q2⟩ := h.m
    exact ⟨es, clock, (he _ (by omega) (by omega) h.m.lt).trans q1, q2⟩
  · show (H.ff ++ [F]).length ≤ _
    simp
    omega
  · intro j hj
    have hj' : j < H.ff.length + 1 := by simpa using hj
    show ((H.ff ++ [F])[j]'(by simpa using hj')).l.length ≤ _
    by_cases e : j < H.ff.length
    · rw [List.getElem_append_left e]
      exact h.bd.s3 j e
    · rw [List.getElem_append_right (by omega)]
      simpa using hl
end Go.Proofs.YtaamahohdnbpiaaGreat
namespace Go.Proofs.YtaamahohdnbpiaaGreat
open Go.RowKit
set_option linter.unusedVariables false
structure ffR (W : World) (g off n k ks : Nat) (L : List R5) (hs : Nat → Hd) (T : Nat) : Prop where
  len : n = L.length
  cap : n ≤ k
  rng : ∀ j (h : j < L.length), W.rangeAt g (off + j * 5) (x5 (L[j], hs j))
  sp : ∀ t, t < ks * 5 → (W.cell? ⟨g, off + t, none⟩).isSome = true ∧ W.frozen? ⟨g, off + t, none⟩ = false
  dat : ∀ j (h : j < L.length), isBytes W (hs j).1 (hs j).2.1 (hs j).2.2 L[j].l ∧ ∃ b, (hs j).1 = some ⟨b, 0, none⟩ ∧ b ≠ g ∧ b < T
  hi : g < T
theorem x5_at5 {W : World} {g o : Nat} {b : R5} {h : Hd} (hr : W.rangeAt g o (x5 (b, h))) (hd : isBytes W h.1 h.2.1 h.2.2 b.l) : at5 W g o b h.1 h.2.1 h.2.2 :=
  ⟨hr 0 _ rfl, hr 1 _ rfl, hr 2 _ rfl, hr 3 _ rfl, hr 4 _ rfl, hd⟩
theorem ffR.is {W : World} {g off n k ks : Nat} {L : List R5} {hs : Nat → Hd} {T : Nat} (h : ffR W g off n k ks L hs T) : isR5s W (some ⟨g, off, none⟩) n k L :=
  ⟨h.len, h.cap, fun _ => ⟨g, off, rfl, fun j hj => ⟨_, _, _, x5_at5 (h.rng j hj) (h.dat j hj).1⟩⟩⟩
theorem ffR.keep {W W' : World} {g off n k ks : Nat} {L : List R5} {hs : Nat → Hd} {T : Nat} (h : ffR W g off n k ks L hs T) (he : ∀ x, x = g ∨ (∃ j, j < L.length ∧ (hs j).1 = some ⟨x, 0, none⟩) → W'.heap[x]? = W.heap[x]?) : ffR W' g off n k ks L hs T := by
  refine ⟨h.len, h.cap, fun j hj => rangeAt.up (h.rng j hj) (he g (Or.inl rfl)), fun t ht => ?_, fun j hj => ?_, h.hi⟩
  · obtain ⟨h1, h2⟩ := h.sp t ht
    have e1 : W'.cell? ⟨g, off + t, none⟩ = W.cell? ⟨g, off + t, none⟩ := by
      unfold World.cell?
      rw [he g (Or.inl rfl)]
    rw [e1, World.frozen?_of_block (he g (Or.inl rfl))]
    exact ⟨h1, h2⟩
  · obtain ⟨h1, b, e1, e2, e3⟩ := h.dat j hj
    refine ⟨?_, b, e1, e2, e3⟩
    have := he b (Or.inr ⟨j, hj, e1⟩)
    rw [e1] at h1 ⊢
    exact h1.other this
theorem ffR.tail {W : World} {g off n k ks : Nat} {f : R5} {r : List R5} {hs : Nat → Hd} {T : Nat} (h : ffR W g off n k ks (f :: r) hs T) : ffR W g (off + 5) (n - 1) (k - 1) (ks - 1) r (fun j => hs (j + 1)) T := by
  have hl := h.len
  have hc := h.cap
  simp only [List.length_cons] at hl
  refine ⟨by omega, by omega, fun j hj => ?_, fun t ht => ?_, fun j hj => ?_, h.hi⟩
  · have := h.rng (j + 1) (by simpa using hj)
    have e : off + (j + 1) * 5 = off + 5 + j * 5 := by omega
    rw [e] at this
    simpa using this
  · have := h.sp (5 + t) (by omega)
    rw [← Nat.add_assoc] at this
    exact this
  · have := h.dat (j + 1) (by simpa using hj)
    simpa using this
theorem ffR.tail1 {W : World} {g off n ks : Nat} {f : R5} {r : List R5} {hs : Nat → Hd} {T : Nat} (h : ffR W g off n 1 ks (f :: r) hs T) : ffR W g off (n - 1) 0 0 r (fun j => hs (j + 1)) T := by
  have hl := h.len
  have hc := h.cap
  simp only [List.length_cons] at hl
  have e : r = [] := List.length_eq_zero_iff.1 (by omega)
  subst e
  exact ⟨by omega, by omega, fun j hj => (by cases hj), fun t ht => absurd ht (by omega), fun j hj => (by cases hj), h.hi⟩
theorem wp_append5 {o : Oper} {a : Act} {K : Act → World → Prop} {Q : Exit → Act → World → Prop} {w : World} (s x : Operand)
    (ho : o.op = .call { callee := .builtin .append, args := #[s, x], argTypes := #[32, 32] })
    (b off n cap : Nat) (olds : List Value) (hs : a.eval s = .slice (some ⟨b, off, none⟩) n cap) (hlo : olds.length = n * 5) (holds : ∀ j u, olds[j]? = some u → w.cell? ⟨b, off + j, none⟩ = some u)
    (ib : Nat) (news : List Value) (hx : a.eval x = .slice (some ⟨ib, 0, none⟩) 1 1) (hl : news.length = 5) (hb : w.heap[ib]? = some (.cells news.toArray 25)) (h1 : ∀ u ∈ news, u.oneCell' = true) (hn : n ≤ 100000)
    (hspare : n + 1 ≤ cap → ∀ j, j < news.length → (w.cell? ⟨b, off + n * 5 + j, none⟩).isSome = true ∧ w.frozen? ⟨b, off + n * 5 + j, none⟩ = false)
    (hroom : n + 1 ≤ cap → K (a.put o.dst (.slice (some ⟨b, off, none⟩) (n + 1) cap)) (w.setCells b (off + n * 5) news))
    (hgrow : cap < n + 1 → ∀ v' w', w'.ownsRow w.heap.size 25 5 v' (n + 1) (olds ++ news) → w.grownBy w' none → K (a.put o.dst v') w') :
    o.wp Tryz.prog a w K Q := by
  obtain ⟨i0, hi, hz0, hz1, hz2⟩ := info_parts Tryz.info25
  have hc : ∀ j u, news[j]? = some u → w.cell? ((⟨ib, 0, none⟩ : Addr).add j) = some u := by
    intro j u hj
    have := range_block hb j u hj
    rw [Addr.add_lit]
    exact this
  by_cases hr : n + 1 ≤ cap
  · have hrun := run_append_room_cells (P := Tryz.prog) w 32 o.type 25 i0 Tryz.underlying32 hi b off n cap ⟨ib, 0, none⟩ 1 1 news (by rw [hl, hz1]) hc h1 hr (fun j hj => by rw [hz1]; exact (hspare hr j hj).1) (fun j hj => by rw [hz1]; exact (hspare hr j hj).2)
    rw [hz1] at hrun
    unfold Oper.wp execOp
    simp only [ho, resolve, invoke, builtin, Sem.run_bind, Sem.run_pure, Result.andThen_ok, List.map_toArray, List.map_cons, List.map_nil, hs, hx, hrun]
    exact hroom hr
  · obtain ⟨v', w', hrun, r1, r2⟩ := run_append_arg_grows (P := Tryz.prog) w 32 o.type 25 i0 _ 5 48 Tryz.underlying32 hi hz0 hz1 hz2 rfl (by decide) ⟨b, off, none⟩ n cap olds hlo (fun j u hj => by rw [Addr.add_lit]; exact holds j u hj) ⟨ib, 0, none⟩ 1 1 news (by rw [hl]) hc (by omega) (by unfold maxLen; omega) (by omega)
    unfold Oper.wp execOp
    simp only [ho, resolve, invoke, builtin, Sem.run_bind, Sem.run_pure, Result.andThen_ok, List.map_toArray, List.map_cons, List.map_nil, hs, hx, hrun]
    exact hgrow (by omega) v' w' r1 r2
theorem ffR.room {W : World} {g off n k ks : Nat} {L : List R5} {hs : Nat → Hd} {T : Nat} (h : ffR W g off n k ks L hs T) (hk : ks = k) (hr : n + 1 ≤ k) (F : R5) (hd : Hd) (hb : isBytes W hd.1 hd.2.1 hd.2.2 F.l) (T' : Nat) (hT : T ≤ T') (hbe : ∃ b, hd.1 = some ⟨b, 0, none⟩ ∧ b ≠ g ∧ b < T') : ffR (W.setCells g (off + n * 5) (x5 (F, hd))) g off (n + 1) k 0 (L ++ [F]) (fun j => if j < L.length then hs j else hd) T' := by
  have hln := h.len
  subst hk
  rw [setCells_row]
  have oth : ∀ x, x ≠ g → (setRow W g (off + n * 5) (x5 (F, hd))).heap[x]? = W.heap[x]? := fun x hx => setRow_block g x hx _ _ _
  refine ⟨by simp; omega, hr, fun j hj => ?_, fun t ht => absurd ht (by omega), fun j hj => ?_, by have := h.hi; omega⟩
  · have hj' : j < L.length + 1 := by simpa using hj
    by_cases e : j < L.length
    · rw [List.getElem_append_left e, if_pos e]
      intro t u hu
      have ht : t < 5 := by have := (List.getElem?_eq_some_iff.mp hu).1; simpa [x5, f5] using this
      rw [setRow_other g _ _ _ _ (by simp [x5, f5]; omega)]
      exact h.rng j e t u hu
    · have ej : j = L.length := by omega
      subst ej
      rw [List.getElem_append_right (Nat.le_refl _), if_neg e]
      simp only [Nat.sub_self, liE]
      intro t u hu
      have ht : t < (x5 (F, hd)).length := (List.getElem?_eq_some_iff.mp hu).1
      have ht5 : t < 5 := by simpa [x5, f5] using ht
      have hc := (h.sp (n * 5 + t) (by omega)).1
      rw [← Nat.add_assoc] at hc
      obtain ⟨v, hv⟩ := Option.isSome_iff_exists.1 hc
      rw [← hln, setRow_at g _ _ _ t ht ⟨v, hv⟩]
      rw [List.getElem?_eq_getElem ht] at hu
      exact hu
  · have hj' : j < L.length + 1 := by simpa using hj
    by_cases e : j < L.length
    · rw [List.getElem_append_left e, if_pos e]
      obtain ⟨h1, b, e1, e2, e3⟩ := h.dat j e
      refine ⟨?_, b, e1, e2, by omega⟩
      rw [e1] at h1 ⊢
      exact h1.other (oth b e2)
    · have ej : j = L.length := by omega
      subst ej
      rw [List.getElem_append_right (Nat.le_refl _), if_neg e]
      simp only [Nat.sub_self, liE]
      obtain ⟨b, e1, e2, e3⟩ := hbe
      refine ⟨?_, b, e1, e2, e3⟩
      rw [e1] at hb ⊢
      exact hb.other (oth b e2)
def ffC (L : List R5) (hs : Nat → Hd) : List Value := (List.ofFn fun i : Fin L.length => ((L[i], hs i) : X5)).flatMap x5
theorem ffC_len (L : List R5) (hs : Nat → Hd) : (ffC L hs).length = L.length * 5 := by
  unfold ffC
  rw [flat_len x5 5 (fun _ => rfl), List.length_ofFn]
theorem ffC_at (L : List R5) (hs : Nat → Hd) (j : Nat) (hj : j < L.length) (t : Nat) (ht : t < 5) : (ffC L hs)[j * 5 + t]? = (x5 (L[j], hs j))[t]? := by
  unfold ffC
  rw [flat_at x5 5 (fun _ => rfl) _ j (by simpa using hj) t ht]
  simp
theorem ffR.olds {W : World} {g off n k ks : Nat} {L : List R5} {hs : Nat → Hd} {T : Nat} (h : ffR W g off n k ks L hs T) : ∀ j u, (ffC L hs)[j]? = some u → W.cell? ⟨g, off + j, none⟩ = some u := by
  intro j u hu
  have hj := (List.getElem?_eq_some_iff.mp hu).1
  rw [ffC_len] at hj
  have e : j = j / 5 * 5 + j % 5 := by omega
  have h1 : j / 5 < L.length := by omega
  have h2 : j % 5 < 5 := Nat.mod_lt _ (by omega)
  rw [e, ffC_at L hs _ h1 _ h2] at hu
  have := h.rng (j / 5) h1 (j % 5) u hu
  rw [e, ← Nat.add_assoc]
  have e2 : (j / 5 * 5 + j % 5) / 5 = j / 5 := by omega
  exact this
theorem ffR.grow {W w' : World} {g off n k ks : Nat} {L : List R5} {hs : Nat → Hd} {T : Nat} (h : ffR W g off n k ks L hs T) (F : R5) (hd : Hd) (hb : isBytes W hd.1 hd.2.1 hd.2.2 F.l) (hT : T ≤ W.heap.size) (hbe : ∃ b, hd.1 = some ⟨b, 0, none⟩ ∧ b < W.heap.size) (v' : Value) (ho : w'.ownsRow W.heap.size 25 5 v' (n + 1) (ffC L hs ++ x5 (F, hd))) (hg : W.grownBy w' none) : ∃ g' k', v' = .slice (some ⟨g', 0, none⟩) (n + 1) k' ∧ W.heap.size ≤ g' ∧ ffR w' g' 0 (n + 1) k' 0 (L ++ [F]) (fun j => if j < L.length then hs j else hd) w'.heap.size := by
  have hln := h.len
  rcases ownsRow_split ho with ⟨_, e⟩ | ⟨g', k', rfl, q1, q2, q3, q4, q5⟩
  · omega
  refine ⟨g', k', rfl, q1, ⟨by simp; omega, q3, fun j hj => ?_, fun t ht => absurd ht (by omega), fun j hj => ?_, q2⟩⟩
  · have hj' : j < L.length + 1 := by simpa using hj
    by_cases e : j < L.length
    · rw [List.getElem_append_left e, if_pos e]
      intro t u hu
      have ht : t < 5 := by have := (List.getElem?_eq_some_iff.mp hu).1; simpa [x5, f5] using this
      rw [← ffC_at L hs j e t ht] at hu
      have hl := (List.getElem?_eq_some_iff.mp hu).1
      have := q5 (j * 5 + t) u (by rw [List.getElem?_append_left hl]; exact hu)
      rw [← Nat.add_assoc] at this
      exact this
    · have ej : j = L.length := by omega
      subst ej
      rw [List.getElem_append_right (Nat.le_refl _), if_neg e]
      simp only [Nat.sub_self, liE]
      intro t u hu
      have := q5 (L.length * 5 + t) u (by rw [List.getElem?_append_right (by rw [ffC_len]; omega), ffC_len, Nat.add_sub_cancel_left]; exact hu)
      rw [← Nat.add_assoc] at this
      exact this
  · have hj' : j < L.length + 1 := by simpa using hj
    have hz := hg.size
    by_cases e : j < L.length
    · rw [List.getElem_append_left e, if_pos e]
      obtain ⟨h1, b, e1, e2, e3⟩ := h.dat j e
      refine ⟨?_, b, e1, by omega, by omega⟩
      rw [e1] at h1 ⊢
      exact h1.other (hg.block b (by omega) (by simp))
    · have ej : j = L.length := by omega
      subst ej
      rw [List.getElem_append_right (Nat.le_refl _), if_neg e]
      simp only [Nat.sub_self, liE]
      obtain ⟨b, e1, e3⟩ := hbe
      refine ⟨?_, b, e1, by omega, by omega⟩
      rw [e1] at hb ⊢
      exact hb.other (hg.block b e3 (by simp))
end Go.Proofs.YtaamahohdnbpiaaGreat
namespace Go.Proofs.YtaamahohdnbpiaaGreat
open Go.RowKit
set_option linter.unusedVariables false
def hd5 (rs : List (R5 × Nat × Nat)) (j : Nat) : Hd := match rs[j]? with
  | some p => (some ⟨p.2.1, 0, none⟩, p.1.l.length, p.2.2)
  | none => (none, 0, 0)
theorem rowQ5.ffR {B T g n k : Nat} {bs : List R5} {W : World} (h : rowQ5 B T 25 g n k bs W) : ∃ hs, ffR W g 0 n k k bs hs T ∧ B ≤ g := by
  obtain ⟨rs, ho, hm, hn, hg, hall⟩ := h
  have hown := ho.own
  subst hm
  refine ⟨hd5 rs, ?_, ho.lt.1⟩
  rcases hown.2 with ⟨e, _⟩ | ⟨g1, cap, cur, hv', hb, hgg, hcp, hmx, hsz, htk⟩
  · cases e
  cases hv'
  have hl := hown.1
  have hcur : ∀ t, t < rs.length * 5 → cur[t]? = (rs.flatMap rc5.enc)[t]? := by
    intro t ht
    rw [← htk, List.getElem?_take_of_lt ht, Array.getElem?_toList]
  refine ⟨by simp; omega, by omega, fun j hj => ?_, fun t ht => ⟨?_, ?_⟩, fun j hj => ?_, hg⟩
  · have hj' : j < rs.length := by simpa using hj
    intro t u hu
    have ht : t < 5 := by have := (List.getElem?_eq_some_iff.mp hu).1; simpa [x5, f5] using this
    have e1 : (x5 ((rs.map (·.1))[j], hd5 rs j)) = rc5.enc rs[j] := by
      unfold hd5
      rw [List.getElem?_eq_getElem hj', List.getElem_map]
      rfl
    rw [e1, ← flat_at rc5.enc 5 (fun _ => rfl) rs j hj' t ht, ← hcur _ (by omega)] at hu
    rw [Nat.zero_add]
    simp [World.cell?, hgg, hu]
  · have : t < cur.size := by omega
    simp [World.cell?, hgg, this]
  · rw [Nat.zero_add]
    exact World.ownsRow.frozenAt hown t
  · have hj' : j < rs.length := by simpa using hj
    obtain ⟨d1, d2, d3, d4⟩ := ho.dat rs[j] (List.getElem_mem hj')
    have e1 : hd5 rs j = (some ⟨rs[j].2.1, 0, none⟩, rs[j].1.l.length, rs[j].2.2) := by
      unfold hd5
      rw [List.getElem?_eq_getElem hj']
    rw [e1, List.getElem_map]
    exact ⟨d1, rs[j].2.1, rfl, d3, hall rs[j] (List.getElem_mem hj')⟩
theorem rowQ8.ne {B T g n k : Nat} {bs : List R8} {W : World} (h : rowQ8 B T 46 g n k bs W) {x : Nat} {L : List Value} {ty : TypeId} (hx : blk W x L ty) (ht : ty ≠ 46) : g ≠ x := by
  obtain ⟨rs, ho, _⟩ := h
  rcases ho.own.2 with ⟨e, _⟩ | ⟨g1, cap, cur, hv', hb, hgg, _⟩
  · cases e
  cases hv'
  rintro rfl
  unfold blk at hx
  rw [hgg] at hx
  injection hx with hx
  injection hx with _ hx _
  exact ht hx.symm
theorem isBytes.far {W V : World} {a : Option Addr} {n cap : Nat} {l : List Nat} (h : isBytes W a n cap l) {x : Nat} (hx : blk W x Z10 35) (hV : ∀ q, q ≠ x → q < W.heap.size → V.heap[q]? = W.heap[q]?) : isBytes V a n cap l := by
  refine ⟨h.len, h.cap, h.small, fun hne => ?_⟩
  obtain ⟨g, off, e, hc⟩ := h.cells hne
  refine ⟨g, off, e, fun j hj => ?_⟩
  have hcj := hc j hj
  have hg : g ≠ x := by
    rintro rfl
    have hm : (Value.int .u8 (l[j] : Int)) ∈ Z10 := by
      unfold blk at hx
      unfold World.cell? at hcj
      rw [hx] at hcj
      simp at hcj
      exact List.mem_of_getElem? hcj
    simp [Z10] at hm
  have hlt : g < W.heap.size := by
    unfold World.cell? at hcj
    by_cases hlt : g < W.heap.size
    · exact hlt
    · rw [Array.getElem?_eq_none (by show _ ≤ g; omega)] at hcj
      cases hcj
  unfold World.cell? at hcj ⊢
  rw [hV g hg hlt]
  exact hcj
theorem rowQ8.far {B T g n k : Nat} {bs : List R8} {W V : World} (h : rowQ8 B T 46 g n k bs W) {x : Nat} (hx : blk W x Z10 35) (hV : ∀ q, q ≠ x → q < W.heap.size → V.heap[q]? = W.heap[q]?) : isR8s V (some ⟨g, 0, none⟩) n k bs := by
  have hg := h.ne hx (by decide)
  obtain ⟨rs, ho, hm, hn, hgT, hall⟩ := h
  subst hm
  have hown := ho.own
  rcases ownsRow_split hown with ⟨e, _⟩ | ⟨g', k', e, q1, q2, q3, q4, q5⟩
  · cases e
  cases e
  refine ⟨by simp; omega, by omega, fun _ => ⟨g, 0, rfl, fun j hj => ?_⟩⟩
  have hj' : j < rs.length := by simpa using hj
  obtain ⟨d1, d2, d3, d4⟩ := ho.dat rs[j] (List.getElem_mem hj')
  refine ⟨some ⟨rs[j].2.1, 0, none⟩, rs[j].1.l.length, rs[j].2.2, ?_⟩
  rw [List.getElem_map]
  have hr : W.rangeAt g (0 + j * 8) (x8 (rs[j].1, (some ⟨rs[j].2.1, 0, none⟩, rs[j].1.l.length, rs[j].2.2))) := by
    intro t u hu
    have ht : t < 8 := by have := (List.getElem?_eq_some_iff.mp hu).1; simpa [x8] using this
    have e1 : (x8 (rs[j].1, (some ⟨rs[j].2.1, 0, none⟩, rs[j].1.l.length, rs[j].2.2))) = rc8.enc rs[j] := rfl
    rw [e1, ← flat_at rc8.enc 8 (fun _ => rfl) rs j hj' t ht] at hu
    have := q5 (j * 8 + t) u hu
    rw [← Nat.add_assoc] at this
    exact this
  have hb : isBytes V (some ⟨rs[j].2.1, 0, none⟩) rs[j].1.l.length rs[j].2.2 rs[j].1.l := d1.far hx hV
  exact x8_at8 (rangeAt.up hr (hV g hg q2)) hb
end Go.Proofs.YtaamahohdnbpiaaGreat
namespace Go.Proofs.YtaamahohdnbpiaaGreat
open Go.RowKit
set_option linter.unusedVariables false
structure dlS (B T0 T1 T2 : Nat) (w : World) (H : Ho) (s : Sl) (FL : List Value) (gq off : Nat) (hs : Nat → Hd) (g4 : Nat) (W : World) : Prop where
  p : blk W w.heap.size (hoL H s) 35
  f : blk W (w.heap.size + 1) FL 25
  r : blk W (w.heap.size + 1 + 1) Z10 35
  o : B ≤ T0 ∧ T0 ≤ T1 ∧ T1 ≤ T2 ∧ T2 ≤ w.heap.size
  e3 : s.a3 = some ⟨gq, off, none⟩
  ff : ffR W gq off s.n3 s.k3 s.k3 H.ff hs T2
  lo : T1 ≤ gq
  st : ∀ V : World, (∀ x, B ≤ x → x < T1 → V.heap[x]? = W.heap[x]?) → isR3s V s.a1 s.n1 s.k1 H.fs ∧ isR8s V s.a2 s.n2 s.k2 H.bx
  e4 : s.a4 = some ⟨g4, 0, none⟩
  q : ∀ V : World, (∀ x, T2 ≤ x → x ≠ w.heap.size → x < W.heap.size → V.heap[x]? = W.heap[x]?) → W.heap.size ≤ V.heap.size → rowQ8 T2 V.heap.size 46 g4 s.n4 s.k4 H.qu V
  bl : Below B w W
structure dlT (B T0 T1 T2 : Nat) (w : World) (H : Ho) (s : Sl) (FL : List Value) (g4 : Nat) (W : World) : Prop where
  p : blk W w.heap.size (hoL H s) 35
  f : blk W (w.heap.size + 1) FL 25
  r : blk W (w.heap.size + 1 + 1) Z10 35
  o : B ≤ T0 ∧ T0 ≤ T1 ∧ T1 ≤ T2 ∧ T2 ≤ w.heap.size
  st : ∀ V : World, (∀ x, B ≤ x → x < T1 → V.heap[x]? = W.heap[x]?) → isR3s V s.a1 s.n1 s.k1 H.fs ∧ isR8s V s.a2 s.n2 s.k2 H.bx
  e4 : s.a4 = some ⟨g4, 0, none⟩
  q : rowQ8 T2 W.heap.size 46 g4 s.n4 s.k4 H.qu W
  ff : ∀ V : World, (∀ x, x ≠ w.heap.size + 1 + 1 → x ≠ g4 → x < W.heap.size → V.heap[x]? = W.heap[x]?) → isR5s V s.a3 s.n3 s.k3 H.ff
  bl : Below B w W
section
variable {B T0 T1 T2 : Nat} {w : World} {H : Ho} {s : Sl} {FL : List Value} {gq off : Nat} {hs : Nat → Hd} {g4 : Nat} {W : World}
theorem dlS.below (h : dlS B T0 T1 T2 w H s FL gq off hs g4 W) {W' : World} (hb : Below W.heap.size W W') : dlS B T0 T1 T2 w H s FL gq off hs g4 W' := by
  have ho := h.o
  have hpl := h.p.lt
  have hz := hb.size
  have hfh := h.ff.hi
  refine ⟨h.p.below hb, h.f.below hb, h.r.below hb, ho, h.e3, h.ff.keep (fun x hx => hb.block x ?_), h.lo, fun V hV => h.st V (fun x h1 h2 => (hV x h1 h2).trans (hb.block x (by omega))), h.e4, fun V hV hVz => h.q V (fun x h1 h2 h3 => (hV x h1 h2 (by omega)).trans (hb.block x h3)) (by omega), h.bl.trans (hb.mono h.bl.size |>.mono (by have := h.bl.size; omega))⟩
  rcases hx with rfl | ⟨j, hj, e⟩
  · omega
  · obtain ⟨_, b, e1, _, e3⟩ := h.ff.dat j hj
    rw [e] at e1
    cases e1
    omega
theorem dlS.qlo (h : dlS B T0 T1 T2 w H s FL gq off hs g4 W) : T2 ≤ g4 ∧ g4 < W.heap.size := by
  have := h.q W (fun _ _ _ _ => rfl) (Nat.le_refl _)
  exact ⟨this.glt, this.ghi⟩
theorem ffB {n k ks T : Nat} {L : List R5} (h : ffR W gq off n k ks L hs T) {gd x m c : Nat} {F : R5} (hx : ∃ j, j < (L ++ [F]).length ∧ (if j < L.length then hs j else (some ⟨gd, 0, none⟩, m, c)).1 = some ⟨x, 0, none⟩) : x < T ∨ x = gd := by
  obtain ⟨j, hj, e⟩ := hx
  by_cases hl : j < L.length
  · rw [if_pos hl] at e
    obtain ⟨_, b, e1, _, e3⟩ := h.dat j hl
    rw [e] at e1
    cases e1
    exact Or.inl e3
  · rw [if_neg hl] at e
    cases e
    exact Or.inr rfl
theorem dlS.room (h : dlS B T0 T1 T2 w H s FL gq off hs g4 W) (F : R5) (gd fm kd : Nat) (hb : isBytes W (some ⟨gd, 0, none⟩) fm kd F.l) (hgd : w.heap.size + 1 + 1 < gd ∧ gd < W.heap.size ∧ gd ≠ g4) (hr : s.n3 + 1 ≤ s.k3) :
    dlT B T0 T1 T2 w (fHo H (H.ff ++ [F])) (fSl s gq off (s.n3 + 1) s.k3) FL g4 ((W.setCells gq (off + s.n3 * 5) (x5 (F, (some ⟨gd, 0, none⟩, fm, kd)))).setCell ⟨w.heap.size, 6, none⟩ (.slice (some ⟨gq, off, none⟩) (s.n3 + 1) s.k3)) := by
  have ho := h.o
  have hlo := h.lo
  have hhi := h.ff.hi
  have hg4 := h.qlo
  have hpl := h.p.lt
  have oth : ∀ x, x ≠ gq → x ≠ w.heap.size → ((W.setCells gq (off + s.n3 * 5) (x5 (F, (some ⟨gd, 0, none⟩, fm, kd)))).setCell ⟨w.heap.size, 6, none⟩ (.slice (some ⟨gq, off, none⟩) (s.n3 + 1) s.k3)).heap[x]? = W.heap[x]? := fun x h1 h2 => by
    rw [heap_setCell_other _ _ _ _ (by exact h2)]
    exact setCells_other _ x h1 _ _ _
  have hz : ((W.setCells gq (off + s.n3 * 5) (x5 (F, (some ⟨gd, 0, none⟩, fm, kd)))).setCell ⟨w.heap.size, 6, none⟩ (.slice (some ⟨gq, off, none⟩) (s.n3 + 1) s.k3)).heap.size = W.heap.size := by simp [setCells_size]
  have hR := h.ff.room rfl hr F (some ⟨gd, 0, none⟩, fm, kd) hb W.heap.size (by omega) ⟨gd, rfl, by omega, hgd.2.1⟩
  refine ⟨?_, (h.f.other (by omega) _ _).setOther (by omega) _ _, (h.r.other (by omega) _ _).setOther (by omega) _ _, ho, fun V hV => h.st V (fun x h1 h2 => (hV x h1 h2).trans (oth x (by omega) (by omega))), h.e4, ?_, fun V hV => ?_, Below.setCell (setCells_below (by omega) _ _ h.bl) (by show B ≤ w.heap.size; omega) _⟩
  · exact (h.p.other (by omega) _ _).set 6 _
  · exact h.q _ (fun x h1 h2 h3 => oth x (by omega) h2) (by omega)
  · refine (hR.keep (W' := V) fun x hx => ?_).is
    have hx' : x < T2 ∨ x = gd := by
      rcases hx with rfl | hx
      · exact Or.inl hhi
      · exact ffB h.ff hx
    rw [hV x (by omega) (by omega) (by omega)]
    exact heap_setCell_other _ _ _ _ (by show x ≠ w.heap.size; omega)
theorem dlS.grow (h : dlS B T0 T1 T2 w H s FL gq off hs g4 W) (F : R5) (gd fm kd : Nat) (hb : isBytes W (some ⟨gd, 0, none⟩) fm kd F.l) (hgd : w.heap.size + 1 + 1 < gd ∧ gd < W.heap.size ∧ gd ≠ g4) (v' : Value) (w' : World) (hown : w'.ownsRow W.heap.size 25 5 v' (s.n3 + 1) (ffC H.ff hs ++ x5 (F, (some ⟨gd, 0, none⟩, fm, kd)))) (hg : W.grownBy w' none) :
    ∃ g' k', v' = .slice (some ⟨g', 0, none⟩) (s.n3 + 1) k' ∧ dlT B T0 T1 T2 w (fHo H (H.ff ++ [F])) (fSl s g' 0 (s.n3 + 1) k') FL g4 (w'.setCell ⟨w.heap.size, 6, none⟩ (.slice (some ⟨g', 0, none⟩) (s.n3 + 1) k')) := by
  have ho := h.o
  have hhi := h.ff.hi
  have hg4 := h.qlo
  have hpl := h.p.lt
  have hfl := h.f.lt
  have hrl := h.r.lt
  have hgz := hg.size
  obtain ⟨g', k', rfl, hg', hR⟩ := h.ff.grow F (some ⟨gd, 0, none⟩, fm, kd) hb (by omega) ⟨gd, rfl, hgd.2.1⟩ v' hown hg
  refine ⟨g', k', rfl, ?_⟩
  have old : ∀ x, x < W.heap.size → w'.heap[x]? = W.heap[x]? := fun x hx => hg.block x hx (by simp)
  have oth : ∀ x, x < W.heap.size → x ≠ w.heap.size → (w'.setCell ⟨w.heap.size, 6, none⟩ (.slice (some ⟨g', 0, none⟩) (s.n3 + 1) k')).heap[x]? = W.heap[x]? := fun x h1 h2 => by
    rw [heap_setCell_other _ _ _ _ (by exact h2)]
    exact old x h1
  have hz : (w'.setCell ⟨w.heap.size, 6, none⟩ (.slice (some ⟨g', 0, none⟩) (s.n3 + 1) k')).heap.size = w'.heap.size := by simp
  refine ⟨?_, (h.f.kept (old _ hfl)).setOther (by omega) _ _, (h.r.kept (old _ hrl)).setOther (by omega) _ _, ho, fun V hV => h.st V (fun x h1 h2 => (hV x h1 h2).trans (oth x (by omega) (by omega))), h.e4, ?_, fun V hV => ?_, Below.setCell (h.bl.grown hg (by omega) (by simp)) (by show B ≤ w.heap.size; omega) _⟩
  · exact (h.p.kept (old _ hpl)).set 6 _
  · exact h.q _ (fun x h1 h2 h3 => oth x h3 h2) (by omega)
  · refine (hR.keep (W' := V) fun x hx => ?_).is
    have hx' : x < T2 ∨ x = gd ∨ x = g' := by
      rcases hx with rfl | hx
      · exact Or.inr (Or.inr rfl)
      · rcases ffB h.ff hx with h | h
        · exact Or.inl h
        · exact Or.inr (Or.inl h)
    have hgl := hR.hi
    rw [hV x (by omega) (by omega) (by omega)]
    exact heap_setCell_other _ _ _ _ (by show x ≠ w.heap.size; omega)
theorem dlS.first (hB : sbS w (hoL H s) FL W) (hS : spS B T0 T1 T2 H s w) (hb : Below w.heap.size w W) (e3 : s.a3 = some ⟨gq, 0, none⟩) (hq3 : rowQ5 T1 T2 25 gq s.n3 s.k3 H.ff w) (e4 : s.a4 = some ⟨g4, 0, none⟩) (hq4 : rowQ8 T2 w.heap.size 46 g4 s.n4 s.k4 H.qu w) : ∃ hs, dlS B T0 T1 T2 w H s FL gq 0 hs g4 W := by
  obtain ⟨hs, hff, hlo⟩ := hq3.ffR
  obtain ⟨o1, o2, o3, o4⟩ := hS.o
  have hhi := hff.hi
  refine ⟨hs, hB.p, hB.f, hB.r, hS.o, e3, hff.keep (fun x hx => hb.block x ?_), hlo, fun V hV => ?_, e4, fun V hV hz => ?_, hb.mono (by omega)⟩
  · rcases hx with rfl | ⟨j, hj, e⟩
    · omega
    · obtain ⟨_, b, e1, _, e3⟩ := hff.dat j hj
      rw [e] at e1
      cases e1
      omega
  · have hV' : ∀ x, B ≤ x → x < T1 → V.heap[x]? = w.heap[x]? := fun x h1 h2 => (hV x h1 h2).trans (hb.block x (by omega))
    obtain ⟨gf, e1, h1a, h1b, h1⟩ := hS.f
    obtain ⟨gb, hs2, e2, h2⟩ := hS.x
    refine ⟨?_, ?_⟩
    · rw [e1]; exact h1.same (hV' gf h1a (by omega))
    · rw [e2]; exact (h2.st fun x h1 h2 => hV' x (by omega) h2).is
  · have hbz := hb.size
    exact (hq4.keep fun x h1 h2 => (hV x h1 (by omega) (by omega)).trans (hb.block x h2)).mono (by omega)
theorem dlS.new {w7 w8 : World} {ev : R8} {g' n' k' : Nat} {r : List R5} {k3 : Nat} (hS : spS B T0 T1 T2 H s w7) (hT2 : T2 ≤ w.heap.size) (hg4 : T2 ≤ g4) (hz7 : w.heap.size < w7.heap.size)
    (hV : ∀ V : World, (∀ x, T2 ≤ x → x < w.heap.size ∨ w7.heap.size ≤ x → x < w8.heap.size → V.heap[x]? = w8.heap[x]?) → w8.heap.size ≤ V.heap.size → rowQ8 T2 V.heap.size 46 g' n' k' (quP H.c3 H.qu ev) V)
    (he : ∀ q, q ≠ g4 → q < w7.heap.size → w8.heap[q]? = w7.heap[q]?) (hb : w7.heap.size ≤ w8.heap.size) (oth : ∀ x, x ≠ w.heap.size → W.heap[x]? = w8.heap[x]?) (hsz : W.heap.size = w8.heap.size)
    (hp : blk W w.heap.size (hoL (fHo (postHo H ev) r) (fSl (qSl s g' n' k') gq off r.length k3)) 35) (hf : blk W (w.heap.size + 1) FL 25) (hr : blk W (w.heap.size + 1 + 1) Z10 35) (hff : ffR W gq off r.length k3 k3 r hs T2) (hlo : T1 ≤ gq) (hbl : Below B w W) : dlS B T0 T1 T2 w (fHo (postHo H ev) r) (fSl (qSl s g' n' k') gq off r.length k3) FL gq off hs g' W := by
  obtain ⟨o1, o2, o3, o4⟩ := hS.o
  refine ⟨hp, hf, hr, ⟨o1, o2, o3, hT2⟩, rfl, hff, hlo, fun V hVV => ?_, rfl, fun V hVV hz => hV V (fun x h1 h2 h3 => (hVV x h1 (by omega) (by omega)).trans (oth x (by omega))) (by omega), hbl⟩
  have hV' : ∀ x, B ≤ x → x < T1 → V.heap[x]? = w7.heap[x]? := fun x h1 h2 => ((hVV x h1 h2).trans (oth x (by omega))).trans (he x (by omega) (by omega))
  obtain ⟨gf, e1, h1a, h1b, h1⟩ := hS.f
  obtain ⟨gb, hs2, e2, h2⟩ := hS.x
  refine ⟨?_, ?_⟩
  · show isR3s V s.a1 s.n1 s.k1 H.fs
    rw [e1]; exact h1.same (hV' gf h1a (by omega))
  · show isR8s V s.a2 s.n2 s.k2 H.bx
    rw [e2]; exact (h2.st fun x h1 h2 => hV' x (by omega) h2).is
theorem dlT.end (h : dlT B T0 T1 T2 w H s FL g4 W) {w8 V : World} {ev : R8} {g' n' k' : Nat}
    (hV : ∀ V : World, (∀ x, T2 ≤ x → x < W.heap.size ∨ W.heap.size ≤ x → x < w8.heap.size → V.heap[x]? = w8.heap[x]?) → w8.heap.size ≤ V.heap.size → rowQ8 T2 V.heap.size 46 g' n' k' (quP H.c3 H.qu ev) V)
    (he : ∀ q, q ≠ g4 → q < W.heap.size → w8.heap[q]? = W.heap[q]?) (hb : W.heap.size ≤ w8.heap.size) (oth : ∀ x, x ≠ w.heap.size + 1 + 1 → V.heap[x]? = w8.heap[x]?) (hr : blk w8 (w.heap.size + 1 + 1) Z10 35) : isHo V (postHo H ev) (qSl s g' n' k') := by
  obtain ⟨o1, o2, o3, o4⟩ := h.o
  have hlo := h.q.glt
  have hrl := h.r.lt
  have hst := h.st V (fun x h1 h2 => (oth x (by omega)).trans (he x (by omega) (by omega)))
  have hq := hV w8 (fun _ _ _ _ => rfl) (Nat.le_refl _)
  refine ⟨hst.1, hst.2, h.ff V (fun x h1 h2 h3 => (oth x h1).trans (he x h2 h3)), ?_⟩
  exact hq.far hr (fun q h1 _ => oth q h1)
end
end Go.Proofs.YtaamahohdnbpiaaGreat
namespace Go.Proofs.YtaamahohdnbpiaaGreat
open Go.RowKit
set_option linter.unusedVariables false
structure itM (w : World) (L : List Value) (t : Int) (FL : List Value) (W : World) : Prop where
  p : blk W w.heap.size L 35
  x : blk W (w.heap.size + 1) [.int .i64 t] 3
  f : blk W (w.heap.size + 1 + 1) FL 25
  r : blk W (w.heap.size + 1 + 1 + 1) Z10 35
  b : Below w.heap.size w W
theorem itM.below {w : World} {L : List Value} {t : Int} {FL : List Value} {W W' : World} (h : itM w L t FL W) (hb : Below W.heap.size W W') : itM w L t FL W' := ⟨h.p.below hb, h.x.below hb, h.f.below hb, h.r.below hb, h.b.trans (hb.mono h.b.size)⟩
theorem itM.new (w : World) (L : List Value) (t : Int) (FL : List Value) : itM w L t FL ((((w.alloc (.cells L.toArray 35)).alloc (.cells #[.int .i64 t] 3)).alloc (.cells FL.toArray 25)).alloc (.cells Z10.toArray 35)) := by
  refine ⟨(((blk.new w _ 35).alloc _).alloc _).alloc _, ?_, ?_, ?_, ((((Below.refl _ _).alloc (Nat.le_refl _) _).alloc (by simp) _).alloc (by simp; omega) _).alloc (by simp; omega) _⟩
  · have := ((blk.new (w.alloc (.cells L.toArray 35)) [.int .i64 t] 3).alloc (.cells FL.toArray 25)).alloc (.cells Z10.toArray 35)
    simpa using this
  · have := (blk.new ((w.alloc (.cells L.toArray 35)).alloc (.cells #[.int .i64 t] 3)) FL 25).alloc (.cells Z10.toArray 35)
    have e : ((w.alloc (.cells L.toArray 35)).alloc (.cells #[.int .i64 t] 3)).heap.size = w.heap.size + 1 + 1 := by simp
    rw [e] at this
    exact this
  · have := blk.new (((w.alloc (.cells L.toArray 35)).alloc (.cells #[.int .i64 t] 3)).alloc (.cells FL.toArray 25)) Z10 35
    have e : (((w.alloc (.cells L.toArray 35)).alloc (.cells #[.int .i64 t] 3)).alloc (.cells FL.toArray 25)).heap.size = w.heap.size + 1 + 1 + 1 := by simp
    rw [e] at this
    exact this
end Go.Proofs.YtaamahohdnbpiaaGreat
