/- Plain facts on the document's answer for lists of ranges: the ends of all ranges, rising, and the right list that is laid from one end to the next. No conditions but those that are named. -/
import Derived.Test.YtfdmbgaincmefaaRngMath
namespace Go.Proofs.Ytfdmbgaincmefaa

/-! ### A number into a rising list -/
def putStep (n : Int) (s : List Int × Bool) (x : Int) : List Int × Bool := if n < x ∧ s.2 = false then (s.1 ++ [n] ++ [x], true) else (s.1 ++ [x], s.2)
def putTo (n : Int) (l : List Int) : List Int × Bool := l.foldl (putStep n) ([], false)
def putL (l : List Int) (n : Int) : List Int := if n < 0 ∨ n ∈ l then l else if (putTo n l).2 then (putTo n l).1 else (putTo n l).1 ++ [n]

theorem putTo_snoc (n : Int) (l : List Int) (x : Int) : putTo n (l ++ [x]) = putStep n (putTo n l) x := by simp [putTo, List.foldl_append]
theorem snoc_induct {α : Type} {P : List α → Prop} (h0 : P []) (h : ∀ l x, P l → P (l ++ [x])) (l : List α) : P l := by
  have : ∀ r : List α, P r.reverse := by
    intro r
    induction r with
    | nil => exact h0
    | cons x r ih => rw [List.reverse_cons]; exact h _ _ ih
  have h1 := this l.reverse
  rwa [List.reverse_reverse] at h1
/-- Rising. -/
def Rising (l : List Int) : Prop := l.Pairwise (· < ·)
theorem rising_snoc {l : List Int} {x : Int} : Rising (l ++ [x]) ↔ Rising l ∧ ∀ y ∈ l, y < x := by
  unfold Rising
  rw [List.pairwise_append]
  simp
theorem putTo_spec (n : Int) (l : List Int) : Rising l → n ∉ l →
    Rising (putTo n l).1 ∧ (∀ y, y ∈ (putTo n l).1 ↔ y ∈ l ∨ ((putTo n l).2 = true ∧ y = n)) ∧ ((putTo n l).2 = false → ∀ y ∈ l, y < n) ∧ ((putTo n l).2 = true → ∃ y ∈ l, n < y) := by
  refine snoc_induct (P := fun l => Rising l → n ∉ l → Rising (putTo n l).1 ∧ (∀ y, y ∈ (putTo n l).1 ↔ y ∈ l ∨ ((putTo n l).2 = true ∧ y = n)) ∧ ((putTo n l).2 = false → ∀ y ∈ l, y < n) ∧ ((putTo n l).2 = true → ∃ y ∈ l, n < y)) ?_ ?_ l
  · intro _ _
    simp [putTo, Rising]
  · intro l x ih hr hn
    obtain ⟨hr1, hr2⟩ := rising_snoc.1 hr
    have hnl : n ∉ l := fun h => hn (by simp [h])
    have hnx : n ≠ x := fun h => hn (by simp [h])
    obtain ⟨i1, i2, i3, i4⟩ := ih hr1 hnl
    rw [putTo_snoc]
    unfold putStep
    by_cases hc : n < x ∧ (putTo n l).2 = false
    · rw [if_pos hc]
      have hall := i3 hc.2
      refine ⟨?_, ?_, fun h => (by simp at h), fun _ => ⟨x, by simp, hc.1⟩⟩
      · rw [rising_snoc, rising_snoc]
        refine ⟨⟨i1, fun y hy => ?_⟩, fun y hy => ?_⟩
        · rcases (i2 y).1 hy with h | h
          · exact hall y h
          · rw [hc.2] at h; simp at h
        · rcases List.mem_append.1 hy with h | h
          · rcases (i2 y).1 h with h | h
            · exact hr2 y h
            · rw [hc.2] at h; simp at h
          · simp at h; omega
      · intro y
        simp only [List.mem_append, List.mem_singleton, i2 y, hc.2]
        simp
        constructor
        · rintro ((h | h) | h)
          · exact .inl (.inl h)
          · exact .inr h
          · exact .inl (.inr h)
        · rintro ((h | h) | h)
          · exact .inl (.inl h)
          · exact .inr h
          · exact .inl (.inr h)
    · rw [if_neg hc]
      refine ⟨?_, ?_, ?_, ?_⟩
      · rw [rising_snoc]
        refine ⟨i1, fun y hy => ?_⟩
        rcases (i2 y).1 hy with h | ⟨h1, h2⟩
        · exact hr2 y h
        · subst h2
          obtain ⟨z, hz, hz2⟩ := i4 h1
          have := hr2 z hz
          omega
      · intro y
        simp only [List.mem_append, List.mem_singleton, i2 y]
        constructor
        · rintro ((h | h) | h)
          · exact .inl (.inl h)
          · exact .inr h
          · exact .inl (.inr h)
        · rintro ((h | h) | h)
          · exact .inl (.inl h)
          · exact .inr h
          · exact .inl (.inr h)
      · intro h y hy
        rcases List.mem_append.1 hy with hy | hy
        · exact i3 h y hy
        · simp at hy
          subst hy
          have : ¬ n < y := fun hh => hc ⟨hh, h⟩
          omega
      · intro h
        obtain ⟨z, hz, hz2⟩ := i4 h
        exact ⟨z, by simp [hz], hz2⟩
theorem putL_spec {l : List Int} (n : Int) (hr : Rising l) : Rising (putL l n) ∧ ∀ y, y ∈ putL l n ↔ y ∈ l ∨ (0 ≤ n ∧ y = n) := by
  unfold putL
  by_cases hc : n < 0 ∨ n ∈ l
  · rw [if_pos hc]
    refine ⟨hr, fun y => ⟨.inl, ?_⟩⟩
    rintro (h | ⟨h1, h2⟩)
    · exact h
    · subst h2
      rcases hc with h | h
      · omega
      · exact h
  · rw [if_neg hc]
    have hnl : n ∉ l := fun h => hc (.inr h)
    have hn0 : 0 ≤ n := by
      rcases Int.lt_or_le n 0 with h | h
      · exact absurd (.inl h) hc
      · exact h
    obtain ⟨i1, i2, i3, i4⟩ := putTo_spec n l hr hnl
    split
    · rename_i hd
      refine ⟨i1, fun y => ?_⟩
      rw [i2 y]
      simp [hd, hn0]
    · rename_i hd
      rw [Bool.not_eq_true] at hd
      refine ⟨rising_snoc.2 ⟨i1, fun y hy => ?_⟩, fun y => ?_⟩
      · rcases (i2 y).1 hy with h | ⟨h, _⟩
        · exact i3 hd y h
        · rw [hd] at h; cases h
      · simp [i2 y, hd, hn0]

/-! ### All ends -/
def marksOf (m : List Int) (l : List Rg) : List Int := l.foldl (fun m r => putL (putL m r.1) r.2) m
theorem marksOf_snoc (m : List Int) (l : List Rg) (r : Rg) : marksOf m (l ++ [r]) = putL (putL (marksOf m l) r.1) r.2 := by simp [marksOf, List.foldl_append]
theorem marksOf_spec {m : List Int} (hm : Rising m) (l : List Rg) : Rising (marksOf m l) ∧ ∀ y, y ∈ marksOf m l ↔ y ∈ m ∨ ∃ r ∈ l, (0 ≤ r.1 ∧ y = r.1) ∨ (0 ≤ r.2 ∧ y = r.2) := by
  refine snoc_induct (P := fun l => Rising (marksOf m l) ∧ ∀ y, y ∈ marksOf m l ↔ y ∈ m ∨ ∃ r ∈ l, (0 ≤ r.1 ∧ y = r.1) ∨ (0 ≤ r.2 ∧ y = r.2)) ?_ ?_ l
  · exact ⟨hm, fun y => by simp [marksOf]⟩
  · intro l r ⟨i1, i2⟩
    rw [marksOf_snoc]
    obtain ⟨j1, j2⟩ := putL_spec r.1 i1
    obtain ⟨k1, k2⟩ := putL_spec r.2 j1
    refine ⟨k1, fun y => ?_⟩
    rw [k2, j2, i2]
    simp only [List.mem_append, List.mem_singleton]
    constructor
    · rintro (((h | ⟨q, hq, h⟩) | h) | h)
      · exact .inl h
      · exact .inr ⟨q, .inl hq, h⟩
      · exact .inr ⟨r, .inr rfl, .inl h⟩
      · exact .inr ⟨r, .inr rfl, .inr h⟩
    · rintro (h | ⟨q, hq | hq, h⟩)
      · exact .inl (.inl (.inl h))
      · exact .inl (.inl (.inr ⟨q, hq, h⟩))
      · subst hq
        rcases h with h | h
        · exact .inl (.inr h)
        · exact .inr h
/-- All ends of two lists, from 0 on. -/
def ends (a b : List Rg) : List Int := marksOf (marksOf [0] a) b
theorem ends_spec (a b : List Rg) : Rising (ends a b) ∧ 0 ∈ ends a b ∧ (∀ y ∈ ends a b, 0 ≤ y) ∧ (∀ r ∈ a ++ b, (0 ≤ r.1 → r.1 ∈ ends a b) ∧ (0 ≤ r.2 → r.2 ∈ ends a b)) := by
  have h0 : Rising [0] := by simp [Rising]
  obtain ⟨i1, i2⟩ := marksOf_spec h0 a
  obtain ⟨j1, j2⟩ := marksOf_spec i1 b
  refine ⟨j1, (j2 0).2 (.inl ((i2 0).2 (.inl (by simp)))), fun y hy => ?_, fun r hr => ⟨fun h => ?_, fun h => ?_⟩⟩
  · rcases (j2 y).1 hy with hy | ⟨r, _, h⟩
    · rcases (i2 y).1 hy with hy | ⟨r, _, h⟩
      · simp at hy; omega
      · rcases h with h | h <;> omega
    · rcases h with h | h <;> omega
  · rcases List.mem_append.1 hr with hr | hr
    · exact (j2 _).2 (.inl ((i2 _).2 (.inr ⟨r, hr, .inl ⟨h, rfl⟩⟩)))
    · exact (j2 _).2 (.inr ⟨r, hr, .inl ⟨h, rfl⟩⟩)
  · rcases List.mem_append.1 hr with hr | hr
    · exact (j2 _).2 (.inl ((i2 _).2 (.inr ⟨r, hr, .inr ⟨h, rfl⟩⟩)))
    · exact (j2 _).2 (.inr ⟨r, hr, .inr ⟨h, rfl⟩⟩)

/-! ### From one end to the next -/
/-- What has been laid up to b: the right list of the numbers below b. -/
def LaidTo (p : Int → Prop) (out : List Rg) (b : Int) : Prop := rightR out ∧ (∀ r ∈ out, r.2 ≤ b) ∧ ∀ n, memR out n ↔ p n ∧ n < b

theorem laid_start (p : Int → Prop) (h : ∀ n, p n → 0 ≤ n) : LaidTo p [] 0 :=
  ⟨trivial, fun r hr => (by cases hr), fun n => ⟨fun x => absurd x (memR_nil n), fun ⟨x, y⟩ => by have := h n x; omega⟩⟩
theorem laid_skip {p : Int → Prop} {out : List Rg} {b q : Int} (h : LaidTo p out b) (hbq : b < q) (he : ∀ n, b ≤ n → n < q → (p n ↔ p b)) (hp : ¬ p b) : LaidTo p out q :=
  ⟨h.1, fun r hr => by have := h.2.1 r hr; omega, fun n => (h.2.2 n).trans ⟨fun ⟨x, y⟩ => ⟨x, by omega⟩, fun ⟨x, y⟩ => ⟨x, by
    rcases Int.lt_or_le n b with h1 | h1
    · exact h1
    · exact absurd ((he n h1 y).1 x) hp⟩⟩⟩
theorem right_snoc {b : Int} {l : List Rg} {r : Rg} (h : rightFrom b l) (hb : b < r.1) (hl : ∀ q ∈ l, q.2 < r.1) (hr : r.1 < r.2) : rightFrom b (l ++ [r]) := by
  induction l generalizing b with
  | nil => exact ⟨hb, hr, trivial⟩
  | cons a l ih => exact ⟨h.1, h.2.1, ih h.2.2 (hl a (by simp)) fun q hq => hl q (by simp [hq])⟩
theorem right_longer {b : Int} {l : List Rg} {x y z : Int} (h : rightFrom b (l ++ [(x, y)])) (hz : y ≤ z) : rightFrom b (l ++ [(x, z)]) := by
  induction l generalizing b with
  | nil => exact ⟨h.1, by have := h.2.1; simp only at this ⊢; omega, trivial⟩
  | cons a l ih => exact ⟨h.1, h.2.1, ih h.2.2⟩
theorem memR_one (x y n : Int) : memR [(x, y)] n ↔ 0 ≤ n ∧ x ≤ n ∧ n < y := by
  constructor
  · rintro ⟨h0, r, hr, h1, h2⟩
    simp at hr
    subst hr
    exact ⟨h0, h1, h2⟩
  · rintro ⟨h0, h1, h2⟩
    exact ⟨h0, (x, y), by simp, h1, h2⟩
theorem laid_new {p : Int → Prop} {out : List Rg} {b q : Int} (h : LaidTo p out b) (hb : 0 ≤ b) (hbq : b < q) (he : ∀ n, b ≤ n → n < q → (p n ↔ p b)) (hp : p b) (hl : ∀ r ∈ out, r.2 ≠ b) : LaidTo p (out ++ [(b, q)]) q :=
  ⟨right_snoc h.1 (by show (-1 : Int) < b; omega) (fun r hr => by have h1 := h.2.1 r hr; have h2 := hl r hr; show r.2 < b; omega) hbq,
   fun r hr => by
    rcases List.mem_append.1 hr with hr | hr
    · have := h.2.1 r hr; omega
    · simp at hr; subst hr; exact Int.le_refl _,
   fun n => by
    rw [memR_append, h.2.2, memR_one]
    constructor
    · rintro (⟨x, y⟩ | ⟨x, y, z⟩)
      · exact ⟨x, by omega⟩
      · exact ⟨(he n y z).2 hp, z⟩
    · rintro ⟨x, y⟩
      rcases Int.lt_or_le n b with h1 | h1
      · exact .inl ⟨x, h1⟩
      · exact .inr ⟨by omega, h1, y⟩⟩
theorem laid_more {p : Int → Prop} {out : List Rg} {x b q : Int} (h : LaidTo p (out ++ [(x, b)]) b) (hbq : b < q) (he : ∀ n, b ≤ n → n < q → (p n ↔ p b)) (hp : p b) : LaidTo p (out ++ [(x, q)]) q :=
  ⟨right_longer h.1 (by omega),
   fun r hr => by
    rcases List.mem_append.1 hr with hr | hr
    · have := h.2.1 r (by simp [hr]); omega
    · simp at hr; subst hr; exact Int.le_refl _,
   fun n => by
    have hxb := right_pos h.1 (x, b) (by simp)
    simp only at hxb
    have hn := h.2.2 n
    rw [memR_append, memR_one] at hn ⊢
    constructor
    · rintro (y | ⟨y, z, u⟩)
      · have := hn.1 (.inl y)
        exact ⟨this.1, by omega⟩
      · rcases Int.lt_or_le n b with h1 | h1
        · exact ⟨(hn.1 (.inr ⟨y, z, h1⟩)).1, u⟩
        · exact ⟨(he n h1 u).2 hp, u⟩
    · rintro ⟨y, z⟩
      rcases Int.lt_or_le n b with h1 | h1
      · rcases hn.2 ⟨y, h1⟩ with u | ⟨u, v, _⟩
        · exact .inl u
        · exact .inr ⟨u, v, z⟩
      · exact .inr ⟨by omega, by omega, z⟩⟩
theorem laid_end {p : Int → Prop} {out : List Rg} {b : Int} (h : LaidTo p out b) (hp : ∀ n, p n → n < b) : Canon out p :=
  ⟨h.1, fun n => (h.2.2 n).trans ⟨fun x => x.1, fun x => ⟨x, hp n x⟩⟩⟩

/-- Between two ends that stand side by side all numbers are alike. -/
theorem alike {m : List Int} (l : List Rg) (h : ∀ r ∈ l, (0 ≤ r.1 → r.1 ∈ m) ∧ (0 ≤ r.2 → r.2 ∈ m)) {x y : Int} (hx : 0 ≤ x) (hadj : ∀ z ∈ m, z ≤ x ∨ y ≤ z) {n : Int} (h1 : x ≤ n) (h2 : n < y) : memR l n ↔ memR l x := by
  constructor
  · rintro ⟨h0, r, hr, a, b⟩
    refine ⟨hx, r, hr, ?_, by omega⟩
    rcases Int.lt_or_le x r.1 with hlt | hle
    · rcases hadj _ ((h r hr).1 (by omega)) with hz | hz <;> omega
    · exact hle
  · rintro ⟨h0, r, hr, a, b⟩
    refine ⟨by omega, r, hr, by omega, ?_⟩
    rcases Int.lt_or_le n r.2 with hlt | hle
    · exact hlt
    · rcases hadj _ ((h r hr).2 (by omega)) with hz | hz <;> omega
/-- Behind all ends there are none. -/
theorem none_behind {m : List Int} (l : List Rg) (h : ∀ r ∈ l, (0 ≤ r.1 → r.1 ∈ m) ∧ (0 ≤ r.2 → r.2 ∈ m)) {b : Int} (hb : ∀ z ∈ m, z ≤ b) {n : Int} (hn : memR l n) : n < b := by
  obtain ⟨h0, r, hr, a, c⟩ := hn
  have := hb _ ((h r hr).2 (by omega))
  omega
theorem rising_adj {m : List Int} (h : Rising m) (i : Nat) (hi : i + 1 < m.length) : ∀ z ∈ m, z ≤ m[i] ∨ m[i + 1] ≤ z := by
  intro z hz
  obtain ⟨j, hj, rfl⟩ := List.getElem_of_mem hz
  have hp := List.pairwise_iff_getElem.1 h
  rcases Nat.lt_trichotomy j i with h1 | h1 | h1
  · left; have := hp j i hj (by omega) h1; omega
  · left; subst h1; exact Int.le_refl _
  · right
    rcases Nat.eq_or_lt_of_le (show i + 1 ≤ j by omega) with h2 | h2
    · subst h2; exact Int.le_refl _
    · have := hp (i + 1) j hi hj h2; omega
theorem rising_step {m : List Int} (h : Rising m) (i : Nat) (hi : i + 1 < m.length) : m[i] < m[i + 1] := List.pairwise_iff_getElem.1 h i (i + 1) (by omega) hi (by omega)
theorem rising_last {m : List Int} (h : Rising m) (i : Nat) (hi : i + 1 = m.length) : ∀ z ∈ m, z ≤ m[i]'(by omega) := by
  intro z hz
  obtain ⟨j, hj, rfl⟩ := List.getElem_of_mem hz
  rcases Nat.lt_or_ge j i with h1 | h1
  · have := List.pairwise_iff_getElem.1 h j i hj (by omega) h1; omega
  · have : j = i := by omega
    subst this
    exact Int.le_refl _
theorem rising_first {m : List Int} (h : Rising m) (h0 : (0 : Int) ∈ m) (hpos : ∀ y ∈ m, 0 ≤ y) (hl : 0 < m.length) : m[0] = 0 := by
  obtain ⟨j, hj, he⟩ := List.getElem_of_mem h0
  have h1 := hpos _ (List.getElem_mem hl)
  rcases Nat.eq_zero_or_pos j with h2 | h2
  · subst h2; exact he
  · have := List.pairwise_iff_getElem.1 h 0 j hl hj h2; omega
/-- Which numbers a way says. -/
def wayP (a b : List Rg) (way : Int) (n : Int) : Prop := 0 ≤ n ∧ ¬ (way = 0 ∧ ¬ memR a n ∧ ¬ memR b n ∨ way = 1 ∧ ¬ (memR a n ∧ memR b n) ∨ way = 2 ∧ ¬ (memR a n ∧ ¬ memR b n))
theorem way0 (a b : List Rg) (n : Int) : wayP a b 0 n ↔ memR a n ∨ memR b n := by
  unfold wayP
  by_cases ha : memR a n <;> by_cases hb : memR b n <;> simp [ha, hb]
  · exact ha.1
  · exact ha.1
  · exact hb.1
theorem way1 (a b : List Rg) (n : Int) : wayP a b 1 n ↔ memR a n ∧ memR b n := by
  unfold wayP
  by_cases ha : memR a n <;> by_cases hb : memR b n <;> simp [ha, hb]
  exact ha.1
theorem way2 (a b : List Rg) (n : Int) : wayP a b 2 n ↔ memR a n ∧ ¬ memR b n := by
  unfold wayP
  by_cases ha : memR a n <;> by_cases hb : memR b n <;> simp [ha, hb]
  exact ha.1
end Go.Proofs.Ytfdmbgaincmefaa
