/- More plain facts on right lists: their ends are ends of the lists that they come from, how long they are, how far they go. No conditions but those that are named. -/
import Derived.Test.YtfdmbgaincmefaaRngMix
namespace Go.Proofs.Ytfdmbgaincmefaa

theorem below_first {b : Int} {l : List Rg} (h : rightFrom b l) {r : Rg} (hr : r ∈ l) : ¬ memR l (r.1 - 1) := by
  induction l generalizing b with
  | nil => cases hr
  | cons a l ih =>
    rw [memR_cons]
    have h1 := h.1
    have h2 := h.2.1
    rcases List.mem_cons.1 hr with rfl | hr
    · rintro (h3 | h3)
      · omega
      · exact notmem_low h.2.2 (by omega) h3
    · have h4 := (rightFrom_mem h.2.2 r hr).1
      rintro (h3 | h3)
      · omega
      · exact ih h.2.2 hr h3
/-- At a number that is no end, the one ahead is alike. -/
theorem alike_before {l : List Rg} {n : Int} (h0 : 0 < n) (h : ∀ r ∈ l, r.1 ≠ n ∧ r.2 ≠ n) : memR l n ↔ memR l (n - 1) := by
  constructor
  · rintro ⟨_, r, hr, h1, h2⟩
    have := h r hr
    exact ⟨by omega, r, hr, by omega, by omega⟩
  · rintro ⟨_, r, hr, h1, h2⟩
    have := h r hr
    exact ⟨by omega, r, hr, by omega, by omega⟩
theorem first_in_ends {a b L : List Rg} {way : Int} (h : Canon L (wayP a b way)) : ∀ r ∈ L, r.1 ∈ ends a b := by
  intro r hr
  obtain ⟨_, h0m, _, hends⟩ := ends_spec a b
  have hp := right_pos h.1 r hr
  rcases Int.lt_or_eq_of_le hp.1 with hlt | heq
  · by_cases hin : ∃ q ∈ a ++ b, q.1 = r.1 ∨ q.2 = r.1
    · obtain ⟨q, hq, e | e⟩ := hin
      · exact e ▸ (hends q hq).1 (by omega)
      · exact e ▸ (hends q hq).2 (by omega)
    · exfalso
      have hno : ∀ q ∈ a ++ b, q.1 ≠ r.1 ∧ q.2 ≠ r.1 := fun q hq => ⟨fun e => hin ⟨q, hq, .inl e⟩, fun e => hin ⟨q, hq, .inr e⟩⟩
      have ea := alike_before (l := a) hlt (fun q hq => hno q (by simp [hq]))
      have eb := alike_before (l := b) hlt (fun q hq => hno q (by simp [hq]))
      have h1 : wayP a b way r.1 := (h.2 r.1).1 ⟨hp.1, r, hr, Int.le_refl _, hp.2⟩
      have h2 : wayP a b way (r.1 - 1) := by
        unfold wayP at h1 ⊢
        rw [ea, eb] at h1
        exact ⟨by omega, h1.2⟩
      exact below_first h.1 hr ((h.2 _).2 h2)
  · rw [← heq]; exact h0m
theorem rising_le : ∀ (m l : List Int), Rising l → Rising m → (∀ x ∈ l, x ∈ m) → l.length ≤ m.length := by
  intro m
  induction m with
  | nil =>
    intro l _ _ h
    cases l with
    | nil => exact Nat.le_refl _
    | cons x l => exact absurd (h x (by simp)) (by simp)
  | cons y m ih =>
    intro l hl hm h
    cases l with
    | nil => simp
    | cons x l =>
      have hl' := List.pairwise_cons.1 hl
      have hm' := List.pairwise_cons.1 hm
      have hyx : y ≤ x := by
        rcases List.mem_cons.1 (h x (by simp)) with e | e
        · omega
        · have := hm'.1 x e; omega
      have := ih l hl'.2 hm'.2 (fun z hz => by
        have hz1 := hl'.1 z hz
        rcases List.mem_cons.1 (h z (by simp [hz])) with e | e
        · omega
        · exact e)
      simp only [List.length_cons]
      omega
theorem rising_firsts {b : Int} {l : List Rg} (h : rightFrom b l) : Rising (l.map (·.1)) ∧ ∀ x ∈ l.map (·.1), b < x := by
  induction l generalizing b with
  | nil => simp [Rising]
  | cons r l ih =>
    have i := ih h.2.2
    have h1 := h.1
    have h2 := h.2.1
    refine ⟨List.pairwise_cons.2 ⟨fun x hx => by have := i.2 x hx; show r.1 < x; omega, i.1⟩, fun x hx => ?_⟩
    rcases List.mem_cons.1 hx with rfl | hx
    · exact h1
    · have := i.2 x hx; omega
theorem ends_length (a b : List Rg) : (ends a b).length ≤ 1 + 2 * a.length + 2 * b.length := by
  have key : ∀ (l : List Rg) (m : List Int), (marksOf m l).length ≤ m.length + 2 * l.length := by
    intro l m
    refine snoc_induct (P := fun l => (marksOf m l).length ≤ m.length + 2 * l.length) (by simp [marksOf]) (fun l r ih => ?_) l
    have hput : ∀ (l : List Int) (n : Int), (putL l n).length ≤ l.length + 1 := by
      intro l n
      have hs : ∀ l : List Int, (putTo n l).1.length ≤ l.length + 1 ∧ ((putTo n l).2 = false → (putTo n l).1.length = l.length) := by
        intro l
        refine snoc_induct (P := fun l => (putTo n l).1.length ≤ l.length + 1 ∧ ((putTo n l).2 = false → (putTo n l).1.length = l.length)) ⟨by simp [putTo], fun _ => rfl⟩ (fun l x ⟨i1, i2⟩ => ?_) l
        rw [putTo_snoc]
        unfold putStep
        split
        · rename_i hh
          have := i2 hh.2
          exact ⟨by simp only [List.length_append, List.length_cons, List.length_nil]; omega, fun h => by simp at h⟩
        · exact ⟨by simp only [List.length_append, List.length_cons, List.length_nil]; omega, fun h => by have := i2 h; simp only [List.length_append, List.length_cons, List.length_nil]; omega⟩
      have h := hs l
      unfold putL
      split
      · omega
      · split
        · exact h.1
        · rename_i hd
          have := h.2 (by simpa using hd)
          simp only [List.length_append, List.length_cons, List.length_nil]
          omega
    rw [marksOf_snoc]
    have h1 := hput (putL (marksOf m l) r.1) r.2
    have h2 := hput (marksOf m l) r.1
    simp only [List.length_append, List.length_cons, List.length_nil]
    omega
  have h1 := key a [0]
  have h2 := key b (marksOf [0] a)
  unfold ends
  simp only [List.length_cons, List.length_nil] at h1
  omega
/-- How long a mix is at most. -/
theorem canon_length {a b L : List Rg} {way : Int} (h : Canon L (wayP a b way)) : L.length ≤ 1 + 2 * a.length + 2 * b.length := by
  have hf := rising_firsts h.1
  have hs := ends_spec a b
  have := rising_le (ends a b) (L.map (·.1)) hf.1 hs.1 (fun x hx => by
    obtain ⟨r, hr, rfl⟩ := List.mem_map.1 hx
    exact first_in_ends h r hr)
  rw [List.length_map] at this
  have := ends_length a b
  omega
/-- All numbers fit. -/
def Fits64 (l : List Rg) : Prop := ∀ r ∈ l, -9223372036854775808 ≤ r.1 ∧ r.1 ≤ 9223372036854775807 ∧ -9223372036854775808 ≤ r.2 ∧ r.2 ≤ 9223372036854775807
theorem mem_lt {l : List Rg} (h : Fits64 l) {n : Int} (hn : memR l n) : n < 9223372036854775807 := by
  obtain ⟨_, r, hr, _, h2⟩ := hn
  have := h r hr
  omega
theorem canon_fits {L : List Rg} {p : Int → Prop} (h : Canon L p) (hp : ∀ n, p n → n < 9223372036854775807) : Fits64 L := by
  intro r hr
  have h1 := right_pos h.1 r hr
  have h2 : p (r.2 - 1) := (h.2 _).1 ⟨by omega, r, hr, by omega, by omega⟩
  have := hp _ h2
  omega
theorem way_lt {a b : List Rg} {way : Int} (hway : way = 0 ∨ way = 1 ∨ way = 2) (ha : Fits64 a) (hb : Fits64 b) {n : Int} (hn : wayP a b way n) : n < 9223372036854775807 := by
  rcases hway with rfl | rfl | rfl
  · exact ((way0 a b n).1 hn).elim (mem_lt ha) (mem_lt hb)
  · exact mem_lt ha ((way1 a b n).1 hn).1
  · exact mem_lt ha ((way2 a b n).1 hn).1

/-- Right, as a Bool. -/
def rightB : Int → List Rg → Bool
  | _, [] => true
  | b, r :: l => decide (b < r.1) && decide (r.1 < r.2) && rightB r.2 l
theorem rightB_iff (b : Int) (l : List Rg) : rightB b l = true ↔ rightFrom b l := by
  induction l generalizing b with
  | nil => simp [rightB, rightFrom]
  | cons r l ih => simp [rightB, rightFrom, ih, and_assoc]
def isRight (l : List Rg) : Bool := rightB (-1) l
theorem isRight_iff (l : List Rg) : isRight l = true ↔ rightR l := rightB_iff _ _
/-- How many numbers a list has. -/
noncomputable def totN (l : List Rg) : Nat := cnt (memR l) 9223372036854775807
theorem cnt_le (p : Int → Prop) (N : Nat) : cnt p N ≤ N := by
  induction N with
  | zero => exact Nat.le_refl _
  | succ N ih =>
    rw [cnt]
    split <;> omega
theorem totN_le (l : List Rg) : totN l ≤ 9223372036854775807 := cnt_le _ _
theorem totN_canon {l L : List Rg} (h : Canon L (memR l)) (hf : Fits64 l) : (totN l : Int) = totR L :=
  tot_canon h _ fun r hr => (canon_fits h (fun _ hn => mem_lt hf hn) r hr).2.2.2
/-- So many numbers, one behind the other. -/
def FitsAt (l : List Rg) (n m : Int) : Prop := ∀ k, m ≤ k → k < m + n → memR l k
/-- What Fit answers. -/
def FitAns (l : List Rg) (n at' : Int) (ok : Bool) : Prop :=
  (ok = true ∧ 1 ≤ n ∧ FitsAt l n at' ∧ ∀ m, m < at' → ¬ FitsAt l n m) ∨ (ok = false ∧ at' = 0 ∧ (n < 1 ∨ ∀ m, ¬ FitsAt l n m))
theorem FitAns.unique {l : List Rg} {n a b : Int} {x y : Bool} (h : FitAns l n a x) (k : FitAns l n b y) : a = b ∧ x = y := by
  rcases h with ⟨h1, h2, h3, h4⟩ | ⟨h1, h2, h3⟩ <;> rcases k with ⟨k1, k2, k3, k4⟩ | ⟨k1, k2, k3⟩
  · refine ⟨?_, by rw [h1, k1]⟩
    rcases Int.lt_trichotomy a b with hlt | he | hgt
    · exact absurd h3 (k4 a hlt)
    · exact he
    · exact absurd k3 (h4 b hgt)
  · exfalso
    rcases k3 with k3 | k3
    · omega
    · exact k3 a h3
  · exfalso
    rcases h3 with h3 | h3
    · omega
    · exact h3 b k3
  · exact ⟨by rw [h2, k2], by rw [h1, k1]⟩
/-- In a right list so many fit just within one range. -/
theorem fits_range {b : Int} {L : List Rg} (h : rightFrom b L) (hb : -1 ≤ b) {n m : Int} (hn : 1 ≤ n) (hf : ∀ k, m ≤ k → k < m + n → memR L k) : ∃ r ∈ L, r.1 ≤ m ∧ m + n ≤ r.2 := by
  induction L generalizing b with
  | nil => exact absurd (hf m (Int.le_refl _) (by omega)) (memR_nil m)
  | cons r L ih =>
    have h1 := h.1
    have h2 := h.2.1
    rcases (memR_cons r L m).1 (hf m (Int.le_refl _) (by omega)) with h3 | h3
    · refine ⟨r, by simp, h3.2.1, ?_⟩
      rcases Int.lt_or_le r.2 (m + n) with h4 | h4
      · exfalso
        rcases (memR_cons r L r.2).1 (hf r.2 (by omega) h4) with h5 | h5
        · omega
        · exact notmem_low h.2.2 (Int.le_refl _) h5
      · exact h4
    · have hm : r.2 < m := by
        rcases Int.lt_or_le r.2 m with h4 | h4
        · exact h4
        · exact absurd h3 (notmem_low h.2.2 h4)
      obtain ⟨q, hq, h4, h5⟩ := ih h.2.2 (by omega) (fun k hk1 hk2 => by
        rcases (memR_cons r L k).1 (hf k hk1 hk2) with h5 | h5
        · omega
        · exact h5)
      exact ⟨q, by simp [hq], h4, h5⟩

/-- The first range in which n numbers fit. -/
def fitOf (n : Int) : List Rg → Int × Bool
  | [] => (0, false)
  | r :: l => if 1 ≤ n ∧ n ≤ r.2 - r.1 then (r.1, true) else fitOf n l
theorem fitOf_snoc (n : Int) (l : List Rg) (r : Rg) : fitOf n (l ++ [r]) = if (fitOf n l).2 then fitOf n l else if 1 ≤ n ∧ n ≤ r.2 - r.1 then (r.1, true) else (0, false) := by
  induction l with
  | nil => simp [fitOf]
  | cons a l ih =>
    rw [List.cons_append, fitOf, fitOf]
    by_cases h : 1 ≤ n ∧ n ≤ a.2 - a.1
    · rw [if_pos h, if_pos h]; simp
    · rw [if_neg h, if_neg h, ih]
theorem fitOf_none (n : Int) (l : List Rg) (h : (fitOf n l).2 = false) : (fitOf n l).1 = 0 ∧ ∀ r ∈ l, ¬ (1 ≤ n ∧ n ≤ r.2 - r.1) := by
  induction l with
  | nil => exact ⟨rfl, fun r hr => by cases hr⟩
  | cons a l ih =>
    rw [fitOf] at h ⊢
    by_cases hc : 1 ≤ n ∧ n ≤ a.2 - a.1
    · rw [if_pos hc] at h; cases h
    · rw [if_neg hc] at h ⊢
      obtain ⟨h1, h2⟩ := ih h
      refine ⟨h1, fun r hr => ?_⟩
      rcases List.mem_cons.1 hr with rfl | hr
      · exact hc
      · exact h2 r hr
theorem fitOf_some {b n : Int} {l : List Rg} (hr : rightFrom b l) (h : (fitOf n l).2 = true) : 1 ≤ n ∧ (∃ r ∈ l, (fitOf n l).1 = r.1 ∧ n ≤ r.2 - r.1) ∧ ∀ q ∈ l, n ≤ q.2 - q.1 → (fitOf n l).1 ≤ q.1 := by
  induction l generalizing b with
  | nil => cases h
  | cons a l ih =>
    rw [fitOf] at h ⊢
    by_cases hc : 1 ≤ n ∧ n ≤ a.2 - a.1
    · rw [if_pos hc]
      refine ⟨hc.1, ⟨a, by simp, rfl, hc.2⟩, fun q hq _ => ?_⟩
      rcases List.mem_cons.1 hq with rfl | hq
      · exact Int.le_refl _
      · have h1 := (rightFrom_mem hr.2.2 q hq).1
        have h2 := hr.2.1
        show a.1 ≤ q.1
        omega
    · rw [if_neg hc] at h ⊢
      obtain ⟨h1, ⟨r, hr1, hr2⟩, h3⟩ := ih hr.2.2 h
      refine ⟨h1, ⟨r, by simp [hr1], hr2⟩, fun q hq hqn => ?_⟩
      rcases List.mem_cons.1 hq with rfl | hq
      · exact absurd ⟨h1, hqn⟩ hc
      · exact h3 q hq hqn
theorem fitOf_ans {l L : List Rg} (n : Int) (h : Canon L (memR l)) : FitAns l n (fitOf n L).1 (fitOf n L).2 := by
  have tr : ∀ m, FitsAt l n m → ∀ k, m ≤ k → k < m + n → memR L k := fun m hm k h1 h2 => (h.2 k).2 (hm k h1 h2)
  rcases hf : (fitOf n L).2 with _ | _
  · obtain ⟨h1, h2⟩ := fitOf_none n L hf
    refine .inr ⟨rfl, h1, ?_⟩
    by_cases hn : n < 1
    · exact .inl hn
    · refine .inr fun m hm => ?_
      obtain ⟨r, hr, h3, h4⟩ := fits_range h.1 (Int.le_refl _) (by omega) (tr m hm)
      exact h2 r hr ⟨by omega, by omega⟩
  · obtain ⟨h1, ⟨r, hr, h2, h3⟩, h4⟩ := fitOf_some h.1 hf
    have hp := right_pos h.1 r hr
    refine .inl ⟨rfl, h1, fun k hk1 hk2 => (h.2 k).1 ⟨by omega, r, hr, by omega, by omega⟩, fun m hm hm2 => ?_⟩
    obtain ⟨q, hq, h5, h6⟩ := fits_range h.1 (Int.le_refl _) h1 (tr m hm2)
    have := h4 q hq (by omega)
    omega
theorem totR_take (l : List Rg) (k : Nat) (h : k < l.length) : totR (l.take (k + 1)) = totR (l.take k) + (l[k].2 - l[k].1) := by
  rw [List.take_succ_eq_append_getElem h]
  unfold totR
  rw [List.map_append, List.sum_append]
  simp only [List.map_cons, List.map_nil, List.sum_cons, List.sum_nil, Int.add_zero]
theorem totR_bounds {b : Int} {l : List Rg} (h : rightFrom b l) : ∀ k, 0 ≤ totR (l.take k) ∧ totR (l.take k) ≤ totR l := by
  induction l generalizing b with
  | nil => intro k; simp [totR]
  | cons r l ih =>
    intro k
    have h2 := h.2.1
    have i0 := ih h.2.2 l.length
    rw [List.take_length] at i0
    cases k with
    | zero =>
      simp only [List.take_zero, totR, List.map_cons, List.sum_cons, List.map_nil, List.sum_nil] at i0 ⊢
      omega
    | succ k =>
      have i := ih h.2.2 k
      simp only [List.take_succ_cons, totR, List.map_cons, List.sum_cons] at i ⊢
      omega
end Go.Proofs.Ytfdmbgaincmefaa
