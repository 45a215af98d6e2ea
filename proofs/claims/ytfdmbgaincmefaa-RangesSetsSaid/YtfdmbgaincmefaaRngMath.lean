/- Plain facts on lists of ranges as sets of numbers: a right list is the only one for its set; how many numbers it has. No conditions but those that are named. -/
import Derived.OrdersHeld
namespace Go.Proofs.Ytfdmbgaincmefaa

/-- A range, as two numbers. -/
abbrev Rg := Int × Int
/-- Is the number one of the list's? -/
def memR (l : List Rg) (n : Int) : Prop := 0 ≤ n ∧ ∃ r ∈ l, r.1 ≤ n ∧ n < r.2
/-- Right, all above a number. -/
def rightFrom : Int → List Rg → Prop
  | _, [] => True
  | b, r :: l => b < r.1 ∧ r.1 < r.2 ∧ rightFrom r.2 l
def rightR (l : List Rg) : Prop := rightFrom (-1) l

theorem rightFrom_weaken {b b' : Int} {l : List Rg} (h : rightFrom b l) (hb : b' ≤ b) : rightFrom b' l := by
  cases l with
  | nil => trivial
  | cons r l => exact ⟨by have := h.1; omega, h.2⟩
theorem rightFrom_mem {b : Int} {l : List Rg} (h : rightFrom b l) : ∀ r ∈ l, b < r.1 ∧ r.1 < r.2 := by
  induction l generalizing b with
  | nil => intro r hr; cases hr
  | cons a l ih =>
    intro r hr
    rcases List.mem_cons.1 hr with rfl | hr
    · exact ⟨h.1, h.2.1⟩
    · have := ih h.2.2 r hr
      have h1 := h.1
      have h2 := h.2.1
      exact ⟨by omega, this.2⟩
theorem right_pos {l : List Rg} (h : rightR l) : ∀ r ∈ l, 0 ≤ r.1 ∧ r.1 < r.2 := fun r hr => by
  have := rightFrom_mem h r hr
  exact ⟨by omega, this.2⟩
/-- Of a list that is right above b: no number up to b. -/
theorem notmem_low {b : Int} {l : List Rg} (h : rightFrom b l) {n : Int} (hn : n ≤ b) : ¬ memR l n := by
  rintro ⟨_, r, hr, h1, _⟩
  have := (rightFrom_mem h r hr).1
  omega
theorem memR_cons (r : Rg) (l : List Rg) (n : Int) : memR (r :: l) n ↔ (0 ≤ n ∧ r.1 ≤ n ∧ n < r.2) ∨ memR l n := by
  constructor
  · rintro ⟨h0, q, hq, h1, h2⟩
    rcases List.mem_cons.1 hq with rfl | hq
    · exact .inl ⟨h0, h1, h2⟩
    · exact .inr ⟨h0, q, hq, h1, h2⟩
  · rintro (⟨h0, h1, h2⟩ | ⟨h0, q, hq, h1, h2⟩)
    · exact ⟨h0, r, by simp, h1, h2⟩
    · exact ⟨h0, q, by simp [hq], h1, h2⟩
theorem memR_nil (n : Int) : ¬ memR [] n := by rintro ⟨_, r, hr, _⟩; cases hr
theorem memR_append (l m : List Rg) (n : Int) : memR (l ++ m) n ↔ memR l n ∨ memR m n := by
  constructor
  · rintro ⟨h0, q, hq, h1⟩
    rcases List.mem_append.1 hq with hq | hq
    · exact .inl ⟨h0, q, hq, h1⟩
    · exact .inr ⟨h0, q, hq, h1⟩
  · rintro (⟨h0, q, hq, h1⟩ | ⟨h0, q, hq, h1⟩)
    · exact ⟨h0, q, by simp [hq], h1⟩
    · exact ⟨h0, q, by simp [hq], h1⟩

/-- For each set there is at most one right list. -/
theorem right_unique_from {b : Int} (hb : -1 ≤ b) : ∀ (l m : List Rg), rightFrom b l → rightFrom b m → (∀ n, memR l n ↔ memR m n) → l = m := by
  intro l
  induction l generalizing b with
  | nil =>
    intro m _ hm h
    cases m with
    | nil => rfl
    | cons r m =>
      exfalso
      have h1 := hm.1
      have h2 := hm.2.1
      exact memR_nil r.1 ((h r.1).2 ⟨by omega, r, by simp, by omega, h2⟩)
  | cons r l ih =>
    intro m hl hm h
    cases m with
    | nil =>
      exfalso
      have h1 := hl.1
      have h2 := hl.2.1
      exact memR_nil r.1 ((h r.1).1 ⟨by omega, r, by simp, by omega, h2⟩)
    | cons q m =>
      have a1 := hl.1
      have a2 := hl.2.1
      have a3 := hl.2.2
      have b1 := hm.1
      have b2 := hm.2.1
      have b3 := hm.2.2
      -- the first numbers are one
      have e1 : r.1 = q.1 := by
        have x1 := (memR_cons q m r.1).1 ((h r.1).1 ⟨by omega, r, by simp, by omega, a2⟩)
        have x2 := (memR_cons r l q.1).1 ((h q.1).2 ⟨by omega, q, by simp, by omega, b2⟩)
        rcases x1 with x1 | x1 <;> rcases x2 with x2 | x2
        · omega
        · have : ¬ q.1 ≤ r.2 := fun hh => notmem_low a3 hh x2
          omega
        · have : ¬ r.1 ≤ q.2 := fun hh => notmem_low b3 hh x1
          omega
        · have : ¬ q.1 ≤ r.2 := fun hh => notmem_low a3 hh x2
          have : ¬ r.1 ≤ q.2 := fun hh => notmem_low b3 hh x1
          omega
      -- and the last ones
      have e2 : r.2 = q.2 := by
        rcases Int.lt_trichotomy r.2 q.2 with hlt | he | hgt
        · exfalso
          have x := (memR_cons r l r.2).1 ((h r.2).2 ((memR_cons q m r.2).2 (.inl ⟨by omega, by omega, hlt⟩)))
          rcases x with x | x
          · omega
          · exact notmem_low a3 (Int.le_refl _) x
        · exact he
        · exfalso
          have x := (memR_cons q m q.2).1 ((h q.2).1 ((memR_cons r l q.2).2 (.inl ⟨by omega, by omega, hgt⟩)))
          rcases x with x | x
          · omega
          · exact notmem_low b3 (Int.le_refl _) x
      have e : r = q := Prod.ext e1 e2
      subst e
      congr 1
      refine ih (by omega) m a3 b3 fun n => ?_
      by_cases hn : n ≤ r.2
      · exact ⟨fun x => absurd x (notmem_low a3 hn), fun x => absurd x (notmem_low b3 hn)⟩
      · constructor
        · intro x
          rcases (memR_cons r m n).1 ((h n).1 ((memR_cons r l n).2 (.inr x))) with y | y
          · omega
          · exact y
        · intro x
          rcases (memR_cons r l n).1 ((h n).2 ((memR_cons r m n).2 (.inr x))) with y | y
          · omega
          · exact y
theorem right_unique {l m : List Rg} (hl : rightR l) (hm : rightR m) (h : ∀ n, memR l n ↔ memR m n) : l = m := right_unique_from (Int.le_refl _) l m hl hm h

/-- The right list of a set. -/
def Canon (l : List Rg) (p : Int → Prop) : Prop := rightR l ∧ ∀ n, memR l n ↔ p n
theorem Canon.unique {l m : List Rg} {p q : Int → Prop} (h : Canon l p) (k : Canon m q) (e : ∀ n, p n ↔ q n) : l = m :=
  right_unique h.1 k.1 fun n => (h.2 n).trans ((e n).trans (k.2 n).symm)
theorem Canon.mem {l : List Rg} (h : rightR l) : Canon l (memR l) := ⟨h, fun _ => Iff.rfl⟩
theorem Canon.congr {l : List Rg} {p q : Int → Prop} (h : Canon l p) (e : ∀ n, p n ↔ q n) : Canon l q := ⟨h.1, fun n => (h.2 n).trans (e n)⟩

/-! ### How many numbers -/
/-- How many numbers below N a set has. -/
noncomputable def cnt (p : Int → Prop) : Nat → Nat
  | 0 => 0
  | n + 1 => cnt p n + (@ite Nat (p n) (Classical.propDecidable _) 1 0)
/-- The lengths, added up. -/
def totR (l : List Rg) : Int := (l.map fun r => r.2 - r.1).sum

theorem cnt_congr {p q : Int → Prop} (h : ∀ n, p n ↔ q n) (N : Nat) : cnt p N = cnt q N := by
  have : p = q := funext fun n => propext (h n)
  rw [this]
theorem cnt_none {p : Int → Prop} (N : Nat) (h : ∀ n : Nat, n < N → ¬ p n) : cnt p N = 0 := by
  induction N with
  | zero => rfl
  | succ N ih => rw [cnt, ih fun n hn => h n (by omega), if_neg (h N (by omega))]
theorem cnt_split (p q : Int → Prop) (N : Nat) : cnt (fun n => p n ∨ q n) N + cnt (fun n => p n ∧ q n) N = cnt p N + cnt q N := by
  induction N with
  | zero => rfl
  | succ N ih =>
    simp only [cnt]
    by_cases hp : p N <;> by_cases hq : q N <;> simp [hp, hq] <;> omega
theorem cnt_less (p q : Int → Prop) (N : Nat) : cnt (fun n => p n ∧ ¬ q n) N + cnt (fun n => p n ∧ q n) N = cnt p N := by
  induction N with
  | zero => rfl
  | succ N ih =>
    simp only [cnt]
    by_cases hp : p N <;> by_cases hq : q N <;> simp [hp, hq] <;> omega
theorem cnt_range (a b : Int) (h0 : 0 ≤ a) (hab : a ≤ b) (N : Nat) (hN : b ≤ N) : (cnt (fun n => a ≤ n ∧ n < b) N : Int) = b - a := by
  have key : ∀ N : Nat, (cnt (fun n => a ≤ n ∧ n < b) N : Int) = if (N : Int) ≤ a then 0 else if (N : Int) ≤ b then N - a else b - a := by
    intro N
    induction N with
    | zero => rw [if_pos (by omega)]; rfl
    | succ N ih =>
      rw [cnt]
      by_cases h : a ≤ (N : Int) ∧ (N : Int) < b
      · rw [if_pos h]
        simp only [Int.natCast_add, ih]
        split <;> split <;> (try split) <;> omega
      · rw [if_neg h]
        simp only [Int.natCast_add, ih]
        split <;> split <;> (try split) <;> (try split) <;> omega
  rw [key]
  split
  · omega
  · split <;> omega
theorem cnt_right {b : Int} (hb : -1 ≤ b) {l : List Rg} (h : rightFrom b l) (N : Nat) (hN : ∀ r ∈ l, r.2 ≤ N) : (cnt (memR l) N : Int) = totR l := by
  induction l generalizing b with
  | nil => rw [cnt_none N fun n _ => memR_nil _]; rfl
  | cons r l ih =>
    have h1 := h.1
    have h2 := h.2.1
    have i1 := ih (b := r.2) (by omega) h.2.2 fun q hq => hN q (by simp [hq])
    have i2 := cnt_range r.1 r.2 (by omega) (by omega) N (hN r (by simp))
    have i3 := cnt_split (fun n => r.1 ≤ n ∧ n < r.2) (memR l) N
    have i4 : cnt (fun n => (r.1 ≤ n ∧ n < r.2) ∧ memR l n) N = 0 := cnt_none N fun n _ ⟨hx, hy⟩ => notmem_low h.2.2 (by omega) hy
    have i5 : cnt (memR (r :: l)) N = cnt (fun n => (r.1 ≤ n ∧ n < r.2) ∨ memR l n) N := cnt_congr (fun n => by
      rw [memR_cons]
      constructor
      · rintro (⟨_, x⟩ | x)
        · exact .inl x
        · exact .inr x
      · rintro (x | x)
        · exact .inl ⟨by omega, x⟩
        · exact .inr x) N
    have i6 : totR (r :: l) = r.2 - r.1 + totR l := by simp [totR]
    rw [i5, i6]
    omega
theorem tot_canon {l : List Rg} {p : Int → Prop} (h : Canon l p) (N : Nat) (hN : ∀ r ∈ l, r.2 ≤ N) : (cnt p N : Int) = totR l := by
  rw [← cnt_right (Int.le_refl _) h.1 N hN]
  rw [cnt_congr (fun n => (h.2 n).symm)]
end Go.Proofs.Ytfdmbgaincmefaa
