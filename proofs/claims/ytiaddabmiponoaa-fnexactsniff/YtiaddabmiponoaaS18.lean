import Derived.Test.YtiaddabmiponoaaS17
import Derived.Test.YtiaddabmiponoaaS00
import Derived.Lib.IndexLaws
namespace Go.Proofs.Ytiaddabmiponoaa
open Go.RowKit
set_option linter.unusedVariables false
/-- behind eleven levels 1, or behind the text's end -/
def qx (s : ByteArray) (f x : Nat) : Prop := qt s f x ∨ (noq s f ∧ s.size ≤ x)
theorem qt_or (s : ByteArray) (f : Nat) : (∃ e, qt s f e) ∨ noq s f := by
  rcases Classical.em (noq s f) with h | h
  · exact Or.inr h
  · left
    have h' : ∃ p, f ≤ p ∧ qs s p := by
      rcases Classical.em (∃ p, f ≤ p ∧ qs s p) with x | x
      · exact x
      · exact absurd (fun p h1 h2 => x ⟨p, h1, h2⟩) h
    obtain ⟨p, h1, h2⟩ := h'
    induction p using Nat.strongRecOn with
    | ind p ih =>
      rcases Classical.em (∃ p', f ≤ p' ∧ p' < p ∧ qs s p') with ⟨p', a, b, c⟩ | x
      · exact ih p' b a c
      · exact ⟨p + 11, p, h1, h2, fun p' a b c => x ⟨p', a, b, c⟩, rfl⟩
theorem qx.gt {s : ByteArray} {f x : Nat} (h : qx s f x) (hf : f ≤ s.size) : f ≤ x := by
  rcases h with ⟨p, h1, _, _, rfl⟩ | ⟨_, h⟩ <;> omega
theorem qx.one {s : ByteArray} {f x y : Nat} (h : qx s f x) (h' : qx s f y) : x = y ∨ (s.size ≤ x ∧ s.size ≤ y) := by
  rcases h with h | ⟨h, hx⟩
  · rcases h' with h' | ⟨h', _⟩
    · exact Or.inl (h.one h')
    · exact absurd h' h.noq
  · rcases h' with h' | ⟨_, hy⟩
    · exact absurd h h'.noq
    · exact Or.inr ⟨hx, hy⟩
/-- a zero at place k -/
def z0 (s : ByteArray) (k : Nat) : Prop := ∃ h : k < s.size, (s[k].toNat : Int) = 48
/-- where the listener is free behind a whole frame that ends ahead of e -/
def gp (s : ByteArray) (e x : Nat) : Prop := (∃ b, b < 3 ∧ z0 s (e + b) ∧ (∀ b', b' < b → ¬ z0 s (e + b')) ∧ qx s (e + b + 1) x) ∨ ((∀ b, b < 3 → ¬ z0 s (e + b)) ∧ x = min (e + 3) s.size)
theorem gp.ge {s : ByteArray} {e x : Nat} (h : gp s e x) (he : e ≤ s.size) : e ≤ x := by
  rcases h with ⟨b, _, ⟨hb, _⟩, _, h⟩ | ⟨_, rfl⟩
  · have := h.gt (by omega); omega
  · omega
theorem gp.one {s : ByteArray} {e x y : Nat} (h : gp s e x) (h' : gp s e y) : x = y ∨ (s.size ≤ x ∧ s.size ≤ y) := by
  rcases h with ⟨b, h1, h2, h3, h4⟩ | ⟨h1, rfl⟩
  · rcases h' with ⟨c, k1, k2, k3, k4⟩ | ⟨k1, _⟩
    · have e : b = c := by
        by_cases x : b < c
        · exact absurd h2 (k3 b x)
        · by_cases y : c < b
          · exact absurd k2 (h3 c y)
          · omega
      subst e
      exact h4.one k4
    · exact absurd h2 (k1 b h1)
  · rcases h' with ⟨c, k1, k2, _, _⟩ | ⟨_, rfl⟩
    · exact absurd k2 (h1 c k1)
    · exact Or.inl rfl
theorem gp_ex (s : ByteArray) (e : Nat) : ∃ x, gp s e x := by
  have hq : ∀ f, ∃ x, qx s f x := fun f => by
    rcases qt_or s f with ⟨x, h⟩ | h
    · exact ⟨x, Or.inl h⟩
    · exact ⟨s.size, Or.inr ⟨h, Nat.le_refl _⟩⟩
  by_cases h0 : z0 s (e + 0)
  · obtain ⟨x, hx⟩ := hq (e + 0 + 1)
    exact ⟨x, Or.inl ⟨0, by omega, h0, fun b' h => absurd h (by omega), hx⟩⟩
  · by_cases h1 : z0 s (e + 1)
    · obtain ⟨x, hx⟩ := hq (e + 1 + 1)
      exact ⟨x, Or.inl ⟨1, by omega, h1, fun b' h => (by have e0 : b' = 0 := (by omega); rw [e0]; exact h0), hx⟩⟩
    · by_cases h2 : z0 s (e + 2)
      · obtain ⟨x, hx⟩ := hq (e + 2 + 1)
        refine ⟨x, Or.inl ⟨2, by omega, h2, fun b' h => ?_, hx⟩⟩
        have : b' = 0 ∨ b' = 1 := by omega
        rcases this with rfl | rfl
        · exact h0
        · exact h1
      · refine ⟨_, Or.inr ⟨fun b h => ?_, rfl⟩⟩
        have : b = 0 ∨ b = 1 ∨ b = 2 := by omega
        rcases this with rfl | rfl | rfl
        · exact h0
        · exact h1
        · exact h2
/-- what the listener hears from place i on -/
inductive SN (s : ByteArray) : Nat → List (Nat × Nat) → Prop
  | done {i : Nat} : s.size ≤ i → SN s i []
  | one {i : Nat} {L : List (Nat × Nat)} (h : i < s.size) : (s[i].toNat : Int) = 49 → SN s (i + 1) L → SN s i L
  | nil {i : Nat} (h : i < s.size) : ¬ (s[i].toNat : Int) = 49 → nof s i → SN s i []
  | bad {i n x : Nat} {L : List (Nat × Nat)} (h : i < s.size) : ¬ (s[i].toNat : Int) = 49 → fnd s i n → ¬ cd s i n = 2 → qx s (i + n) x → SN s x L → SN s i L
  | whole {i n x : Nat} {L : List (Nat × Nat)} (h : i < s.size) : ¬ (s[i].toNat : Int) = 49 → fnd s i n → cd s i n = 2 → gp s (i + n) x → SN s x L → SN s i ((i, n) :: L)
theorem SN.end_ {s : ByteArray} {i : Nat} {L : List (Nat × Nat)} (h : SN s i L) (hi : s.size ≤ i) : L = [] := by
  cases h with
  | done _ => rfl
  | one h _ _ => omega
  | nil h _ _ => rfl
  | bad h _ _ _ _ _ => omega
  | whole h _ _ _ _ _ => omega
theorem SN.i1 {s : ByteArray} {i : Nat} {L : List (Nat × Nat)} (h : SN s i L) (hi : i < s.size) (h1 : (s[i].toNat : Int) = 49) : SN s (i + 1) L := by
  cases h with
  | done h => omega
  | one _ _ h => exact h
  | nil _ h _ => exact absurd h1 h
  | bad _ h _ _ _ _ => exact absurd h1 h
  | whole _ h _ _ _ _ => exact absurd h1 h
theorem SN.i0 {s : ByteArray} {i : Nat} {L : List (Nat × Nat)} (h : SN s i L) (hi : i < s.size) (h1 : ¬ (s[i].toNat : Int) = 49) (hn : nof s i) : L = [] := by
  cases h with
  | done h => rfl
  | one _ h _ => exact absurd h h1
  | nil _ _ _ => rfl
  | bad _ _ h _ _ _ => exact absurd hn h.nof
  | whole _ _ h _ _ _ => exact absurd hn h.nof
theorem SN.i2 {s : ByteArray} {i n x : Nat} {L : List (Nat × Nat)} (h : SN s i L) (hi : i < s.size) (h1 : ¬ (s[i].toNat : Int) = 49) (hf : fnd s i n) (hc : ¬ cd s i n = 2) (hx : qx s (i + n) x) : SN s x L := by
  cases h with
  | done h => omega
  | one _ h _ => exact absurd h h1
  | nil _ _ h => exact absurd h hf.nof
  | bad _ _ h2 _ h4 h5 =>
    have e := h2.one hf
    subst e
    rcases h4.one hx with e | ⟨a, b⟩
    · rw [← e]; exact h5
    · rw [h5.end_ a]; exact SN.done b
  | whole _ _ h2 h3 _ _ =>
    have e := h2.one hf
    subst e
    exact absurd h3 hc
theorem SN.i3 {s : ByteArray} {i n x : Nat} {L : List (Nat × Nat)} (h : SN s i L) (hi : i < s.size) (h1 : ¬ (s[i].toNat : Int) = 49) (hf : fnd s i n) (hc : cd s i n = 2) (hx : gp s (i + n) x) : ∃ L', L = (i, n) :: L' ∧ SN s x L' := by
  cases h with
  | done h => omega
  | one _ h _ => exact absurd h h1
  | nil _ _ h => exact absurd h hf.nof
  | bad _ _ h2 h3 _ _ =>
    have e := h2.one hf
    subst e
    exact absurd hc h3
  | whole _ _ h2 h3 h4 h5 =>
    have e := h2.one hf
    subst e
    refine ⟨_, rfl, ?_⟩
    rcases h4.one hx with e | ⟨a, b⟩
    · rw [← e]; exact h5
    · rw [h5.end_ a]; exact SN.done b
theorem fnd_or (s : ByteArray) (i : Nat) : (∃ n, fnd s i n) ∨ nof s i := by
  rcases Classical.em (nof s i) with h | h
  · exact Or.inr h
  · left
    have h' : ∃ m, 1 ≤ m ∧ i + m ≤ s.size ∧ ¬ goes (cd s i m) := by
      rcases Classical.em (∃ m, 1 ≤ m ∧ i + m ≤ s.size ∧ ¬ goes (cd s i m)) with x | x
      · exact x
      · exact absurd (fun m h1 h2 => Classical.byContradiction fun h3 => x ⟨m, h1, h2, h3⟩) h
    obtain ⟨m, h1, h2, h3⟩ := h'
    induction m using Nat.strongRecOn with
    | ind m ih =>
      rcases Classical.em (∃ m', 1 ≤ m' ∧ m' < m ∧ ¬ goes (cd s i m')) with ⟨m', a, b, c⟩ | x
      · exact ih m' b a (by omega) c
      · exact ⟨m, h1, h2, h3, fun m' a b => Classical.byContradiction fun c => x ⟨m', a, b, c⟩⟩
theorem SN_ex (s : ByteArray) : ∀ (k i : Nat), s.size ≤ i + k → ∃ L, SN s i L := by
  intro k
  induction k using Nat.strongRecOn with
  | ind k ih =>
    intro i hk
    by_cases hi : i < s.size
    · by_cases h1 : (s[i].toNat : Int) = 49
      · obtain ⟨L, h⟩ := ih (k - 1) (by omega) (i + 1) (by omega)
        exact ⟨L, SN.one hi h1 h⟩
      · rcases fnd_or s i with ⟨n, hf⟩ | hn
        · have hlo := hf.lo
          have hhi := hf.hi
          by_cases hc : cd s i n = 2
          · obtain ⟨x, hx⟩ := gp_ex s (i + n)
            have := hx.ge hhi
            obtain ⟨L, h⟩ := ih (k - (x - i)) (by omega) x (by omega)
            exact ⟨_, SN.whole hi h1 hf hc hx h⟩
          · obtain ⟨x, hx⟩ : ∃ x, qx s (i + n) x := by
              rcases qt_or s (i + n) with ⟨x, h⟩ | h
              · exact ⟨x, Or.inl h⟩
              · exact ⟨s.size, Or.inr ⟨h, Nat.le_refl _⟩⟩
            have := hx.gt hhi
            obtain ⟨L, h⟩ := ih (k - (x - i)) (by omega) x (by omega)
            exact ⟨L, SN.bad hi h1 hf hc hx h⟩
        · exact ⟨[], SN.nil hi h1 hn⟩
    · exact ⟨[], SN.done (by omega)⟩
/-- eleven levels 1 -/
def q11 : ByteArray := ⟨#[49, 49, 49, 49, 49, 49, 49, 49, 49, 49, 49]⟩
theorem ext_list (s : ByteArray) (a b : Nat) : (s.extract a b).data.toList = (s.data.toList.take b).drop a := by
  rw [ByteArray.data_extract]
  simp [List.drop_take]
theorem at_list (s : ByteArray) (k : Nat) (h : k < s.size) : s.data.toList[k]? = some s[k] := by
  have h' : k < s.data.toList.length := by simpa using h
  rw [List.getElem?_eq_getElem h']
  rfl
theorem byte49 {c : UInt8} (h : okC c = true) : (¬ (c.toNat : Int) = 48) ↔ c = 49 := by
  rcases okC_val h with e | e
  · constructor
    · intro x; exact absurd (by omega) x
    · rintro rfl; decide
  · constructor
    · intro _
      exact UInt8.toNat.inj (by rw [e]; rfl)
    · intro _; omega
theorem occ_qs {s : ByteArray} (hok : ∀ k (h : k < s.size), okC s[k] = true) (f j : Nat) : Lib.occAt (s.data.toList.drop f) q11.data.toList j = true ↔ qs s (f + j) := by
  unfold Lib.occAt
  rw [List.isPrefixOf_iff_prefix, List.drop_drop, List.prefix_iff_eq_take]
  have hl : q11.data.toList.length = 11 := rfl
  rw [hl]
  constructor
  · intro h
    have hlen : f + j + 11 ≤ s.size := by
      have := congrArg List.length h
      simp [hl] at this
      have e : s.data.size = s.size := rfl
      omega
    refine ⟨hlen, fun k hk h1 h2 => (byte49 (hok k hk)).2 ?_⟩
    have e := congrArg (fun l => l[k - (f + j)]?) h
    simp only [List.getElem?_take, List.getElem?_drop] at e
    rw [if_pos (by omega), show f + j + (k - (f + j)) = k by omega, at_list s k hk] at e
    have hq : q11.data.toList[k - (f + j)]? = some 49 := by
      have : k - (f + j) < 11 := by omega
      generalize k - (f + j) = t at *
      match t, this with
      | 0, _ | 1, _ | 2, _ | 3, _ | 4, _ | 5, _ | 6, _ | 7, _ | 8, _ | 9, _ | 10, _ => rfl
    rw [hq] at e
    exact (Option.some.inj e).symm
  · rintro ⟨h1, h2⟩
    apply List.ext_getElem?
    intro t
    rw [List.getElem?_take]
    by_cases ht : t < 11
    · rw [if_pos ht, List.getElem?_drop, at_list s (f + j + t) (by omega), (byte49 (hok _ (by omega))).1 (h2 _ (by omega) (by omega) (by omega))]
      match t, ht with
      | 0, _ | 1, _ | 2, _ | 3, _ | 4, _ | 5, _ | 6, _ | 7, _ | 8, _ | 9, _ | 10, _ => rfl
    · rw [if_neg ht]
      exact List.getElem?_eq_none (by rw [hl]; omega)
theorem index_qt {s : ByteArray} (hok : ∀ k (h : k < s.size), okC s[k] = true) (f e : Nat) (h : qt s f e) : Lib.index (s.data.toList.drop f) q11.data.toList = ((e - 11 - f : Nat) : Int) := by
  obtain ⟨p, h1, h2, h3, rfl⟩ := h
  refine Lib.index_first ?_ ?_ fun j hj => ?_
  · simp
    have e : s.data.size = s.size := rfl
    have := h2.1
    omega
  · rw [occ_qs hok, show f + (p + 11 - 11 - f) = p by omega]
    exact h2
  · rw [← Bool.not_eq_true, occ_qs hok]
    exact h3 _ (by omega) (by omega)
theorem index_noq {s : ByteArray} (hok : ∀ k (h : k < s.size), okC s[k] = true) (f : Nat) (h : noq s f) : Lib.index (s.data.toList.drop f) q11.data.toList = -1 := by
  refine Lib.index_none fun j _ => ?_
  rw [← Bool.not_eq_true, occ_qs hok]
  exact h _ (by omega)
set_option maxHeartbeats 4000000 in
set_option maxRecDepth 20000 in
/-- impl.behindQuiet -/
theorem behindQuiet_any (s : ByteArray) (f : Nat) (w : World) (m : Int) (hs : s.size ≤ 6000) (hf : f ≤ s.size) (hok : ∀ k (h : k < s.size), okC s[k] = true) (hm : w.cell? ⟨0, 0, none⟩ = some (.int .i64 m)) :
    Calls Try.prog 32 #[.string s, .int .i64 (f : Int)] w fun o w' => (∃ x, qx s f x ∧ x ≤ s.size ∧ o = .returned (.int .i64 (x : Int))) ∧ w = w' := by
  have el : (s.extract f s.size).data.toList = s.data.toList.drop f := by
    rw [ext_list, List.take_of_length_le (by simp)]
  have HI : Hid (Calls Try.prog 37 #[.string (s.extract f s.size), .string ⟨#[49, 49, 49, 49, 49, 49, 49, 49, 49, 49, 49]⟩] w fun e w' => e = .returned (.int .i64 (Lib.index (s.data.toList.drop f) q11.data.toList)) ∧ w' = w) := by
    have := Try.strings_Index (s.extract f s.size) q11 m w (by simp; omega) hm
    rw [el] at this
    exact this
  rcases qt_or s f with ⟨x, h⟩ | h
  · have hx : f + 11 ≤ x ∧ x ≤ s.size := by
      obtain ⟨p, a, b, _, rfl⟩ := h
      have := b.1
      omega
    have ei := index_qt hok f x h
    rw [ei] at HI
    have HQ : Hid (qx s f x) := Or.inl h
    obtain ⟨d, ed⟩ : ∃ d, x - 11 - f = d := ⟨_, rfl⟩
    rw [ed] at HI
    have hd : x = f + d + 11 := by omega
    clear ei h hok hm el ed
    go_enter Try.func32, Try.ntmps32
    go_wp2_with fail
    refine HI.out.mono ?_
    rintro o w1 ⟨rfl, rfl⟩
    clear HI
    go_wp2
    go_ret
    exact ⟨⟨x, HQ.out, by omega, ret_int (by omega)⟩, rfl⟩
  · have ei := index_noq hok f h
    rw [ei] at HI
    have HQ : Hid (qx s f s.size) := Or.inr ⟨h, Nat.le_refl _⟩
    clear ei h hok hm el
    go_enter Try.func32, Try.ntmps32
    go_wp2_with fail
    refine HI.out.mono ?_
    rintro o w1 ⟨rfl, rfl⟩
    clear HI
    go_wp2
    go_ret
    exact ⟨⟨s.size, HQ.out, Nat.le_refl _, rfl⟩, rfl⟩
theorem hidB {P : Prop} (h : P) : Hid P := h
theorem indexByte_z0 {s : ByteArray} {a b k : Nat} (h : Lib.indexByte (s.extract a b).data.toList 48 = (k : Int)) : z0 s (a + k) ∧ a + k < b ∧ ∀ k', k' < k → ¬ z0 s (a + k') := by
  obtain ⟨h1, h2⟩ := Lib.indexByte_some h
  rw [ext_list] at h1 h2
  have e1 : ∀ t, ((s.data.toList.take b).drop a)[t]? = if a + t < b then s.data.toList[a + t]? else none := fun t => by
    rw [List.getElem?_drop, List.getElem?_take]
  rw [e1] at h1
  split at h1
  · rename_i hlt
    have hs : a + k < s.size := by
      have := (List.getElem?_eq_some_iff.mp h1).1
      simpa using this
    rw [at_list s _ hs] at h1
    have h1 := Option.some.inj h1
    refine ⟨⟨hs, by rw [h1]; rfl⟩, hlt, fun k' hk hz => h2 k' hk ?_⟩
    obtain ⟨hl, hv⟩ := hz
    rw [e1, if_pos (by omega), at_list s _ hl]
    congr 1
    exact UInt8.toNat.inj (by have : s[a + k'].toNat = 48 := by omega
                              rw [this]; rfl)
  · cases h1
theorem indexByte_no {s : ByteArray} {a b : Nat} (h : Lib.indexByte (s.extract a b).data.toList 48 = -1) : ∀ k, a + k < b → ¬ z0 s (a + k) := by
  intro k hk hz
  obtain ⟨hl, hv⟩ := hz
  refine Lib.indexByte_none h k ?_
  rw [ext_list, List.getElem?_drop, List.getElem?_take, if_pos hk, at_list s _ hl]
  congr 1
  exact UInt8.toNat.inj (by have : s[a + k].toNat = 48 := by omega
                            rw [this]; rfl)
set_option maxHeartbeats 4000000 in
set_option maxRecDepth 20000 in
/-- impl.freeBehind -/
theorem freeBehind_any (s : ByteArray) (e c : Nat) (w : World) (m : Int) (hs : s.size ≤ 6000) (he : e ≤ s.size) (hok : ∀ k (h : k < s.size), okC s[k] = true) (hm : w.cell? ⟨0, 0, none⟩ = some (.int .i64 m)) :
    Calls Try.prog 24 #[.string s, .int .i64 (e : Int), .int .i64 (c : Int)] w fun o w' => (∃ x, (¬ c = 2 → qx s e x) ∧ (c = 2 → gp s e x) ∧ x ≤ s.size ∧ o = .returned (.int .i64 (x : Int))) ∧ w = w' := by
  have HBQ : Hid (∀ f, f ≤ s.size → Calls Try.prog 32 #[.string s, .int .i64 (f : Int)] w fun o w' => (∃ x, qx s f x ∧ x ≤ s.size ∧ o = .returned (.int .i64 (x : Int))) ∧ w = w') := fun f hf => behindQuiet_any s f w m hs hf hok hm
  clear hok hm
  by_cases hc : c = 2
  · subst hc
    obtain ⟨g, eg⟩ : ∃ g, min (e + 3) s.size = g := ⟨_, rfl⟩
    have HIB : Hid (Calls Try.prog 33 #[.string (s.extract e g), .int .u8 48] w fun o w' => o = .returned (.int .i64 (Lib.indexByte (s.extract e g).data.toList 48)) ∧ w' = w) := Try.strings_IndexByte (s.extract e g) 48 w
    have hge : e ≤ g ∧ g ≤ s.size ∧ g ≤ e + 3 := by omega
    have emin : min ((e : Int) + 3) (s.size : Int) = (g : Int) := by omega
    have hib := Lib.indexByte_ge (s.extract e g).data.toList 48
    rcases Classical.em (Lib.indexByte (s.extract e g).data.toList 48 = -1) with h1 | h1
    · have HG : Hid (gp s e g) := Or.inr ⟨fun b hb hz => by
        obtain ⟨hl, _⟩ := hz
        exact indexByte_no h1 b (by omega) ⟨hl, by assumption⟩, eg.symm⟩
      rw [h1] at HIB
      clear h1 hib
      go_enter Try.func24, Try.ntmps24
      go_wp2_with fail
      refine HIB.out.mono ?_
      rintro o w1 ⟨rfl, rfl⟩
      go_wp2
      go_ret
      exact ⟨⟨g, fun x => absurd trivial x, fun _ => HG.out, by omega, rfl⟩, rfl⟩
    · obtain ⟨k, ek⟩ : ∃ k : Nat, Lib.indexByte (s.extract e g).data.toList 48 = (k : Int) := ⟨(Lib.indexByte (s.extract e g).data.toList 48).toNat, by omega⟩
      obtain ⟨a1, a2, a3⟩ := indexByte_z0 ek
      have HG : Hid (∀ x, qx s (e + k + 1) x → gp s e x) := fun x hx => Or.inl ⟨k, by omega, a1, a3, hx⟩
      rw [ek] at HIB
      have hbq := HBQ.out (e + k + 1) (by omega)
      rw [show ((e + k + 1 : Nat) : Int) = (e : Int) + (k : Int) + 1 by omega] at hbq
      have HB := hidB hbq
      clear hbq
      clear ek h1 hib a1 a3 HBQ
      go_enter Try.func24, Try.ntmps24
      go_wp2_with fail
      refine HIB.out.mono ?_
      rintro o w1 ⟨rfl, rfl⟩
      go_wp2_with fail
      refine HB.out.mono ?_
      rintro o w1 ⟨⟨x, h1, h2, rfl⟩, rfl⟩
      go_wp2
      go_ret
      exact ⟨⟨x, fun h => absurd trivial h, fun _ => HG.out x h1, h2, rfl⟩, rfl⟩
  · have b2 : ((c : Int) != 2) = true := by simp; omega
    have HB := HBQ.out e he
    go_enter Try.func24, Try.ntmps24
    go_wp2_with fail
    refine HB.mono ?_
    rintro o w1 ⟨⟨x, h1, h2, rfl⟩, rfl⟩
    go_wp2
    go_ret
    exact ⟨⟨x, fun _ => h1, fun h => absurd h hc, h2, rfl⟩, rfl⟩
end Go.Proofs.Ytiaddabmiponoaa
