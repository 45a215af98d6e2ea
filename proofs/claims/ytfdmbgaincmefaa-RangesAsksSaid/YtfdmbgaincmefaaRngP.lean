/- Plain facts on parting the ranges of a right list by those of another one, and on the two rows that are laid meanwhile. No conditions but those that are named. -/
import Derived.Test.YtfdmbgaincmefaaRngN
namespace Go.Proofs.Ytfdmbgaincmefaa
open Go.RowKit

/-- What is parted up to f: the numbers of a below f, those in b and those that aren't; nx ranges of b are passed, all below f. -/
structure PartTo (a b L M : List Rg) (nx : Nat) (f : Int) : Prop where
  rl : rightR L
  rm : rightR M
  ml : ∀ n, memR L n ↔ (memR a n ∧ memR b n) ∧ n < f
  mm : ∀ n, memR M n ↔ (memR a n ∧ ¬ memR b n) ∧ n < f
  el : ∀ q ∈ L, q.2 ≤ f
  em : ∀ q ∈ M, q.2 ≤ f
  ps : ∀ (j : Nat) (h : j < b.length), j < nx → b[j].2 ≤ f
  nb : nx ≤ b.length
theorem part_start (a b : List Rg) : PartTo a b [] [] 0 (-1) where
  rl := trivial
  rm := trivial
  ml n := ⟨fun h => absurd h (memR_nil n), fun ⟨h, h2⟩ => by have := h.1.1; omega⟩
  mm n := ⟨fun h => absurd h (memR_nil n), fun ⟨h, h2⟩ => by have := h.1.1; omega⟩
  el q hq := by cases hq
  em q hq := by cases hq
  ps j h hj := by omega
  nb := Nat.zero_le _

theorem right_get {b0 : Int} {l : List Rg} (h : rightFrom b0 l) (i j : Nat) (hij : i < j) (hj : j < l.length) : (l[i]'(by omega)).2 < l[j].1 := by
  induction l generalizing b0 i j with
  | nil => simp at hj
  | cons r l ih =>
    cases j with
    | zero => omega
    | succ j =>
      cases i with
      | zero =>
        simp only [List.getElem_cons_zero, List.getElem_cons_succ]
        exact (rightFrom_mem h.2.2 _ (List.getElem_mem _)).1
      | succ i =>
        simp only [List.getElem_cons_succ]
        exact ih h.2.2 i j (by omega) (by simpa using hj)
/-- The numbers of a right list between two of its ranges. -/
theorem mem_at {l : List Rg} (h : rightR l) (n : Int) : memR l n ↔ (∃ j, ∃ hj : j < l.length, l[j].1 ≤ n ∧ n < l[j].2) := by
  constructor
  · rintro ⟨_, r, hr, h1, h2⟩
    obtain ⟨j, hj, rfl⟩ := List.getElem_of_mem hr
    exact ⟨j, hj, h1, h2⟩
  · rintro ⟨j, hj, h1, h2⟩
    have := right_pos h _ (List.getElem_mem hj)
    exact ⟨by omega, _, List.getElem_mem hj, h1, h2⟩

/-- Within a round: the range of a at i is parted up to f. -/
structure PartIn (a b L M : List Rg) (i nx : Nat) (f t : Int) : Prop extends PartTo a b L M nx f where
  ha : ∃ h : i < a.length, a[i].1 ≤ f ∧ f < t ∧ t = a[i].2
  sm : ∀ q ∈ M, q.2 < f
  sl : ∀ q ∈ L, q.2 < f ∨ ∀ h : nx < b.length, q.2 < b[nx].1
/-- .. where the next range of b has f. -/
structure PartAt (a b L M : List Rg) (i nx : Nat) (f t : Int) : Prop extends PartTo a b L M nx f where
  ha : ∃ h : i < a.length, a[i].1 ≤ f ∧ f < t ∧ t = a[i].2
  hb : ∃ h : nx < b.length, b[nx].1 ≤ f ∧ f < b[nx].2
  sl : ∀ q ∈ L, q.2 < f
/-- Between two rounds. -/
def PartBy (a b L M : List Rg) (i nx : Nat) (f : Int) : Prop := PartTo a b L M nx f ∧ ∀ (j : Nat) (h : j < a.length), (j < i → a[j].2 ≤ f) ∧ (i ≤ j → f < a[j].1)

section
variable {a b L M : List Rg} {i nx : Nat} {f t : Int}
/-- f to f': the same where a has nothing between. -/
theorem PartTo.skip (h : PartTo a b L M nx f) {f' : Int} (hf : f ≤ f') (hn : ∀ n, memR a n → f ≤ n → f' ≤ n) : PartTo a b L M nx f' where
  rl := h.rl
  rm := h.rm
  ml n := (h.ml n).trans ⟨fun ⟨x, y⟩ => ⟨x, by omega⟩, fun ⟨x, y⟩ => ⟨x, by
    rcases Int.lt_or_le n f with h1 | h1
    · exact h1
    · have := hn n x.1 h1; omega⟩⟩
  mm n := (h.mm n).trans ⟨fun ⟨x, y⟩ => ⟨x, by omega⟩, fun ⟨x, y⟩ => ⟨x, by
    rcases Int.lt_or_le n f with h1 | h1
    · exact h1
    · have := hn n x.1 h1; omega⟩⟩
  el q hq := by have := h.el q hq; omega
  em q hq := by have := h.em q hq; omega
  ps j hj hjn := by have := h.ps j hj hjn; omega
  nb := h.nb
theorem part_begin (hr : rightR a) (h : PartBy a b L M i nx f) (hi : i < a.length) : PartIn a b L M i nx a[i].1 a[i].2 where
  toPartTo := h.1.skip (by have := (h.2 i hi).2 (Nat.le_refl _); omega) (fun n hn hfn => by
    obtain ⟨j, hj, h1, h2⟩ := (mem_at hr n).1 hn
    rcases Nat.lt_or_ge j i with hji | hji
    · have := (h.2 j hj).1 hji; omega
    · rcases Nat.eq_or_lt_of_le hji with rfl | hlt
      · exact h1
      · have h3 := right_get hr i j hlt hj
        have h4 := (right_pos hr _ (List.getElem_mem hi)).2
        omega)
  ha := ⟨hi, Int.le_refl _, (right_pos hr _ (List.getElem_mem hi)).2, rfl⟩
  sm q hq := by have h1 := h.1.em q hq; have h2 := (h.2 i hi).2 (Nat.le_refl _); omega
  sl q hq := .inl (by have h1 := h.1.el q hq; have h2 := (h.2 i hi).2 (Nat.le_refl _); omega)
/-- A range of b that ends up to f is passed. -/
theorem part_pass (hrb : rightR b) (h : PartIn a b L M i nx f t) (hb : nx < b.length) (he : b[nx].2 ≤ f) : PartIn a b L M i (nx + 1) f t where
  rl := h.rl
  rm := h.rm
  ml := h.ml
  mm := h.mm
  el := h.el
  em := h.em
  ps j hj hjn := by
    rcases Nat.lt_or_eq_of_le (Nat.le_of_lt_succ hjn) with h1 | rfl
    · exact h.ps j hj h1
    · exact he
  nb := hb
  ha := h.ha
  sm := h.sm
  sl q hq := by
    rcases h.sl q hq with h1 | h1
    · exact .inl h1
    · refine .inr fun h2 => ?_
      have h3 := h1 hb
      have h4 := right_get hrb nx (nx + 1) (by omega) h2
      have h5 := (right_pos hrb _ (List.getElem_mem hb)).2
      omega
/-- The numbers of a from f up to g, g within its range. -/
theorem in_range (hi : i < a.length) (h1 : a[i].1 ≤ f) (h2 : t = a[i].2) (h0 : 0 ≤ f) {g n : Int} (hg : g ≤ t) (hn1 : f ≤ n) (hn2 : n < g) : memR a n :=
  ⟨by omega, _, List.getElem_mem hi, by omega, by omega⟩
theorem not_in_b (hrb : rightR b) (ps : ∀ (j : Nat) (h : j < b.length), j < nx → b[j].2 ≤ f) {g : Int} (hg : ∀ h : nx < b.length, g ≤ b[nx].1) {n : Int} (hn1 : f ≤ n) (hn2 : n < g) : ¬ memR b n := by
  rintro ⟨_, r, hr, h1, h2⟩
  obtain ⟨j, hj, rfl⟩ := List.getElem_of_mem hr
  rcases Nat.lt_or_ge j nx with hjn | hjn
  · have := ps j hj hjn; omega
  · have h3 := hg (by omega)
    rcases Nat.eq_or_lt_of_le hjn with rfl | hlt
    · omega
    · have h4 := right_get hrb nx j hlt hj
      have h5 := (right_pos hrb b[nx] (List.getElem_mem _)).2
      omega
theorem ml_more {p : Int → Prop} {L : List Rg} (h : ∀ n, memR L n ↔ p n ∧ n < f) (h0 : 0 ≤ f) {g : Int} (hfg : f ≤ g) (hp : ∀ n, f ≤ n → n < g → p n) : ∀ n, memR (L ++ [(f, g)]) n ↔ p n ∧ n < g := fun n => by
  rw [memR_append, h, memR_one]
  constructor
  · rintro (⟨x, y⟩ | ⟨x, y, z⟩)
    · exact ⟨x, by omega⟩
    · exact ⟨hp n y z, z⟩
  · rintro ⟨x, y⟩
    rcases Int.lt_or_le n f with h1 | h1
    · exact .inl ⟨x, h1⟩
    · exact .inr ⟨by omega, h1, y⟩
theorem ml_less {p : Int → Prop} {L : List Rg} (h : ∀ n, memR L n ↔ p n ∧ n < f) {g : Int} (hfg : f ≤ g) (hp : ∀ n, f ≤ n → n < g → ¬ p n) : ∀ n, memR L n ↔ p n ∧ n < g := fun n => by
  rw [h]
  constructor
  · rintro ⟨x, y⟩
    exact ⟨x, by omega⟩
  · rintro ⟨x, y⟩
    rcases Int.lt_or_le n f with h1 | h1
    · exact ⟨x, h1⟩
    · exact absurd x (hp n h1 y)
theorem PartIn.pos (hr : rightR a) (h : PartIn a b L M i nx f t) : 0 ≤ f := by
  obtain ⟨hi, h1, _⟩ := h.ha
  have := (right_pos hr _ (List.getElem_mem hi)).1
  omega
theorem PartAt.pos (hr : rightR a) (h : PartAt a b L M i nx f t) : 0 ≤ f := by
  obtain ⟨hi, h1, _⟩ := h.ha
  have := (right_pos hr _ (List.getElem_mem hi)).1
  omega
/-- What lies ahead of the next range of b isn't in b. -/
theorem part_out (hr : rightR a) (hrb : rightR b) (h : PartIn a b L M i nx f t) (hb : nx < b.length) (hf : f < b[nx].1) (ht : b[nx].1 < t) : PartAt a b L (M ++ [(f, b[nx].1)]) i nx b[nx].1 t where
  rl := h.rl
  rm := right_snoc h.rm (by have := h.pos hr; show (-1 : Int) < f; omega) h.sm hf
  ml := ml_less h.ml (by omega) fun n h1 h2 ⟨_, h3⟩ => not_in_b hrb h.ps (fun _ => Int.le_refl _) h1 h2 h3
  mm := by
    obtain ⟨hi, h1, h2, h3⟩ := h.ha
    exact ml_more h.mm (h.pos hr) (by omega) fun n h4 h5 => ⟨in_range hi h1 h3 (h.pos hr) (g := b[nx].1) (by omega) h4 h5, not_in_b hrb h.ps (fun _ => Int.le_refl _) h4 h5⟩
  el q hq := by have := h.el q hq; omega
  em q hq := by
    rcases List.mem_append.1 hq with hq | hq
    · have := h.em q hq; omega
    · simp at hq; subst hq; exact Int.le_refl _
  ps j hj hjn := by have := h.ps j hj hjn; omega
  nb := h.nb
  ha := by
    obtain ⟨hi, h1, h2, h3⟩ := h.ha
    exact ⟨hi, by omega, ht, h3⟩
  hb := ⟨hb, Int.le_refl _, (right_pos hrb _ (List.getElem_mem hb)).2⟩
  sl q hq := by
    rcases h.sl q hq with h1 | h1
    · omega
    · exact h1 hb
theorem part_here (h : PartIn a b L M i nx f t) (hb : nx < b.length) (hf : b[nx].1 ≤ f) (he : f < b[nx].2) : PartAt a b L M i nx f t where
  toPartTo := h.toPartTo
  ha := h.ha
  hb := ⟨hb, hf, he⟩
  sl q hq := by
    rcases h.sl q hq with h1 | h1
    · exact h1
    · have := h1 hb; omega
theorem right_one (hr : rightR a) (hi : i < a.length) (j : Nat) (hj : j < a.length) : (j < i + 1 → a[j].2 ≤ a[i].2) ∧ (i + 1 ≤ j → a[i].2 < a[j].1) := by
  refine ⟨fun h => ?_, fun h => right_get hr i j h hj⟩
  rcases Nat.lt_or_eq_of_le (Nat.le_of_lt_succ h) with h1 | rfl
  · have h2 := right_get hr j i h1 hi
    have h3 := (right_pos hr _ (List.getElem_mem hi)).2
    omega
  · exact Int.le_refl _
/-- The range of a ends within the range of b. -/
theorem part_last (hr : rightR a) (h : PartAt a b L M i nx f t) (hb : nx < b.length) (ht : t ≤ b[nx].2) : PartBy a b (L ++ [(f, t)]) M (i + 1) nx t := by
  obtain ⟨hi, h1, h2, h3⟩ := h.ha
  obtain ⟨_, h4, h5⟩ := h.hb
  have h0 := h.pos hr
  have hin : ∀ n, f ≤ n → n < t → memR a n ∧ memR b n := fun n h6 h7 => ⟨in_range hi h1 h3 h0 (Int.le_refl _) h6 h7, by omega, _, List.getElem_mem hb, by omega, by omega⟩
  refine ⟨⟨right_snoc h.rl (by show (-1 : Int) < f; omega) h.sl h2, h.rm, ml_more h.ml h0 (by omega) hin, ml_less h.mm (by omega) fun n h6 h7 h8 => h8.2 (hin n h6 h7).2, fun q hq => ?_, fun q hq => by have := h.em q hq; omega, fun j hj hjn => by have := h.ps j hj hjn; omega, h.nb⟩, fun j hj => ?_⟩
  · rcases List.mem_append.1 hq with hq | hq
    · have := h.el q hq; omega
    · simp at hq; subst hq; exact Int.le_refl _
  · rw [h3]; exact right_one hr hi j hj
/-- The range of b ends within the range of a. -/
theorem part_next (hr : rightR a) (hrb : rightR b) (h : PartAt a b L M i nx f t) (hb : nx < b.length) (ht : b[nx].2 < t) : PartIn a b (L ++ [(f, b[nx].2)]) M i (nx + 1) b[nx].2 t := by
  obtain ⟨hi, h1, h2, h3⟩ := h.ha
  obtain ⟨_, h4, h5⟩ := h.hb
  have h0 := h.pos hr
  have hin : ∀ n, f ≤ n → n < b[nx].2 → memR a n ∧ memR b n := fun n h6 h7 => ⟨in_range hi h1 h3 h0 (g := b[nx].2) (by omega) h6 h7, by omega, _, List.getElem_mem hb, by omega, h7⟩
  refine { rl := right_snoc h.rl (by show (-1 : Int) < f; omega) h.sl h5, rm := h.rm, ml := ml_more h.ml h0 (by omega) hin, mm := ml_less h.mm (by omega) fun n h6 h7 h8 => h8.2 (hin n h6 h7).2, el := fun q hq => ?_, em := fun q hq => by have := h.em q hq; omega, ps := fun j hj hjn => ?_, nb := hb, ha := ⟨hi, by omega, ht, h3⟩, sm := fun q hq => by have := h.em q hq; omega, sl := fun q hq => ?_ }
  · rcases List.mem_append.1 hq with hq | hq
    · have := h.el q hq; omega
    · simp at hq; subst hq; exact Int.le_refl _
  · rcases Nat.lt_or_eq_of_le (Nat.le_of_lt_succ hjn) with h6 | rfl
    · have := h.ps j hj h6; omega
    · exact Int.le_refl _
  · rcases List.mem_append.1 hq with hq | hq
    · have := h.sl q hq; exact .inl (by omega)
    · simp at hq; subst hq
      exact .inr fun h6 => right_get hrb nx (nx + 1) (by omega) h6
/-- No range of b begins within what is left of the range of a. -/
theorem part_end (hr : rightR a) (hrb : rightR b) (h : PartIn a b L M i nx f t) (hb : ∀ h : nx < b.length, t ≤ b[nx].1) : PartBy a b L (M ++ [(f, t)]) (i + 1) nx t := by
  obtain ⟨hi, h1, h2, h3⟩ := h.ha
  have h0 := h.pos hr
  have hno : ∀ n, f ≤ n → n < t → ¬ memR b n := fun n h6 h7 => not_in_b hrb h.ps hb h6 h7
  refine ⟨⟨h.rl, right_snoc h.rm (by show (-1 : Int) < f; omega) h.sm h2, ml_less h.ml (by omega) fun n h6 h7 h8 => hno n h6 h7 h8.2, ml_more h.mm h0 (by omega) fun n h6 h7 => ⟨in_range hi h1 h3 h0 (Int.le_refl _) h6 h7, hno n h6 h7⟩, fun q hq => by have := h.el q hq; omega, fun q hq => ?_, fun j hj hjn => by have := h.ps j hj hjn; omega, h.nb⟩, fun j hj => ?_⟩
  · rcases List.mem_append.1 hq with hq | hq
    · have := h.em q hq; omega
    · simp at hq; subst hq; exact Int.le_refl _
  · rw [h3]; exact right_one hr hi j hj
theorem part_done (h : PartBy a b L M i nx f) (hi : i = a.length) : Canon L (fun n => memR a n ∧ memR b n) ∧ Canon M (fun n => memR a n ∧ ¬ memR b n) := by
  have hf : ∀ n, memR a n → n < f := by
    rintro n ⟨_, r, hr, h1, h2⟩
    obtain ⟨j, hj, rfl⟩ := List.getElem_of_mem hr
    have := (h.2 j hj).1 (by omega)
    omega
  exact ⟨⟨h.1.rl, fun n => (h.1.ml n).trans ⟨fun x => x.1, fun x => ⟨x, hf n x.1⟩⟩⟩, ⟨h.1.rm, fun n => (h.1.mm n).trans ⟨fun x => x.1, fun x => ⟨x, hf n x.1⟩⟩⟩⟩
end

/-! ### The two rows -/
/-- The one isn't laid where the other is. -/
def Apart (u v : Value) : Prop := ∀ k, u.ownBlock = some k → v.ownBlock ≠ some k
theorem Apart.symm {u v : Value} (h : Apart u v) : Apart v u := fun k h1 h2 => h k h2 h1
/-- Two rows of the call's own. -/
structure Rows2 (w0 w : World) (base : Nat) (u : Value) (L : List Rg) (v : Value) (M : List Rg) : Prop where
  ou : w.ownsRow base 30 2 u L.length (rgv L)
  ov : w.ownsRow base 30 2 v M.length (rgv M)
  ap : Apart u v
  be : Below base w0 w
  bs : base ≤ w.heap.size
/-- .. and a range in a block of its own. -/
structure Rows2B (w0 w : World) (base : Nat) (u : Value) (L : List Rg) (v : Value) (M : List Rg) (g : Nat) (f t : Int) : Prop extends Rows2 w0 w base u L v M where
  bk : Blk w g 30 #[.int .i64 f, .int .i64 t]
  gu : u.ownBlock ≠ some g
  gv : v.ownBlock ≠ some g
  gb : base ≤ g

section
variable {w0 w w' : World} {base g : Nat} {u v u' : Value} {L M : List Rg} {f t : Int}
theorem rows2_nil (w : World) : Rows2 w w w.heap.size (.slice none 0 0) [] (.slice none 0 0) [] := ⟨own_nil _ _ _ _, own_nil _ _ _ _, fun k h => by simp [Value.ownBlock] at h, Below.refl _ _, Nat.le_refl _⟩
theorem Rows2.alloc (h : Rows2 w0 w base u L v M) (o : Obj) : Rows2 w0 (w.alloc o) base u L v M := ⟨h.ou.alloc o, h.ov.alloc o, h.ap, h.be.alloc h.bs o, by have := h.bs; simp; omega⟩
theorem Rows2.drewN (h : Rows2 w0 w base u L v M) (n : Nat) : Rows2 w0 (w.drewN n) base u L v M := ⟨h.ou, h.ov, h.ap, below_drewN h.be n, h.bs⟩
theorem Rows2B.alloc (h : Rows2B w0 w base u L v M g f t) (o : Obj) : Rows2B w0 (w.alloc o) base u L v M g f t := ⟨h.toRows2.alloc o, h.bk.alloc o, h.gu, h.gv, h.gb⟩
theorem Rows2B.drewN (h : Rows2B w0 w base u L v M g f t) (n : Nat) : Rows2B w0 (w.drewN n) base u L v M g f t := ⟨h.toRows2.drewN n, h.bk, h.gu, h.gv, h.gb⟩
theorem own_lt {n : Nat} {xs : List Value} {e : TypeId} {size k : Nat} (h : w.ownsRow base e size v n xs) (hk : v.ownBlock = some k) : k < w.heap.size := (h.lt k hk).2
theorem own_keep {n : Nat} {xs : List Value} {e : TypeId} {size : Nat} (h : w.ownsRow base e size v n xs) (hg : w.grownBy w' u.ownBlock) (ha : Apart u v) : w'.ownsRow base e size v n xs :=
  h.kept hg (by
    rcases hv : v.ownBlock with _ | k
    · exact .inl rfl
    · refine .inr fun e => ?_
      exact ha k e.symm hv)
theorem Rows2.first (h : Rows2 w0 w base u L v M) (r : Rg) (ho : w'.ownsRow base 30 2 u' (L.length + 1) (rgv L ++ [.int .i64 r.1, .int .i64 r.2])) (hg : w.grownBy w' u.ownBlock) (hat : u'.ownBlock = u.ownBlock ∨ u'.ownBlock = some w.heap.size) :
    Rows2 w0 w' base u' (L ++ [r]) v M where
  ou := by rw [rgv_append, List.length_append]; exact ho
  ov := own_keep h.ov hg h.ap
  ap k h1 h2 := by
    rcases hat with e | e
    · exact h.ap k (e ▸ h1) h2
    · rw [h1] at e
      injection e with e
      have := own_lt h.ov h2
      omega
  be := h.be.grown hg h.bs (own_ge h.ou)
  bs := Nat.le_trans h.bs hg.size
theorem Rows2.swap (h : Rows2 w0 w base u L v M) : Rows2 w0 w base v M u L := ⟨h.ov, h.ou, h.ap.symm, h.be, h.bs⟩
theorem Rows2.second {v' : Value} (h : Rows2 w0 w base u L v M) (r : Rg) (ho : w'.ownsRow base 30 2 v' (M.length + 1) (rgv M ++ [.int .i64 r.1, .int .i64 r.2])) (hg : w.grownBy w' v.ownBlock) (hat : v'.ownBlock = v.ownBlock ∨ v'.ownBlock = some w.heap.size) :
    Rows2 w0 w' base u L v' (M ++ [r]) := (h.swap.first r ho hg hat).swap
theorem Rows2B.first (h : Rows2B w0 w base u L v M g f t) (r : Rg) (ho : w'.ownsRow base 30 2 u' (L.length + 1) (rgv L ++ [.int .i64 r.1, .int .i64 r.2])) (hg : w.grownBy w' u.ownBlock) (hat : u'.ownBlock = u.ownBlock ∨ u'.ownBlock = some w.heap.size) :
    Rows2B w0 w' base u' (L ++ [r]) v M g f t where
  toRows2 := h.toRows2.first r ho hg hat
  bk := h.bk.grown hg (fun e => h.gu e.symm)
  gu e := by
    have hl := h.bk.lt
    rcases hat with e1 | e1
    · exact h.gu (e1 ▸ e)
    · rw [e] at e1
      injection e1 with e1
      omega
  gv := h.gv
  gb := h.gb
theorem Rows2B.second {v' : Value} (h : Rows2B w0 w base u L v M g f t) (r : Rg) (ho : w'.ownsRow base 30 2 v' (M.length + 1) (rgv M ++ [.int .i64 r.1, .int .i64 r.2])) (hg : w.grownBy w' v.ownBlock) (hat : v'.ownBlock = v.ownBlock ∨ v'.ownBlock = some w.heap.size) :
    Rows2B w0 w' base u L v' (M ++ [r]) g f t :=
  have hs : Rows2B w0 w base v M u L g f t := ⟨h.toRows2.swap, h.bk, h.gv, h.gu, h.gb⟩
  have hr := hs.first r ho hg hat
  ⟨hr.toRows2.swap, hr.bk, hr.gv, hr.gu, hr.gb⟩
theorem Rows2.block (h : Rows2 w0 w base u L v M) (f t : Int) : Rows2B w0 (w.alloc (.cells #[.int .i64 f, .int .i64 t] 30)) base u L v M w.heap.size f t :=
  ⟨h.alloc _, Blk.new w _ _, fun e => by have := own_lt h.ou e; omega, fun e => by have := own_lt h.ov e; omega, h.bs⟩
theorem own_set {n : Nat} {xs : List Value} {e : TypeId} {size : Nat} (h : w.ownsRow base e size v n xs) (hg : v.ownBlock ≠ some g) (i : Nat) (y : Value) : (w.setCell ⟨g, i, none⟩ y).ownsRow base e size v n xs :=
  h.kept (only_setCell (World.grownBy.refl w (some g)) (p := ⟨g, i, none⟩) (.inl rfl) y) (.inr hg)
theorem Rows2B.setF (h : Rows2B w0 w base u L v M g f t) (f' : Int) : Rows2B w0 (w.setCell ⟨g, 0, none⟩ (.int .i64 f')) base u L v M g f' t where
  ou := own_set h.ou h.gu 0 _
  ov := own_set h.ov h.gv 0 _
  ap := h.ap
  be := h.be.setCell h.gb _
  bs := by have := h.bs; simpa [World.setCell] using this
  bk := by simpa using h.bk.set_ 0 (.int .i64 f')
  gu := h.gu
  gv := h.gv
  gb := h.gb
theorem Rows2B.c0 (h : Rows2B w0 w base u L v M g f t) : w.cell? ⟨g, 0, none⟩ = some (.int .i64 f) := by rw [h.bk.cell]; rfl
theorem Rows2B.c1 (h : Rows2B w0 w base u L v M g f t) : w.cell? ⟨g, 1, none⟩ = some (.int .i64 t) := by rw [h.bk.cell]; rfl
end
end Go.Proofs.Ytfdmbgaincmefaa
