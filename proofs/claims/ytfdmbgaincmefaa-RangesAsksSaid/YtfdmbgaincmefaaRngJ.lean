/- Plain facts on joining ranges that rise, and on a row of cells in which the right list is laid over the ranges that were read. No conditions but those that are named. -/
import Derived.Test.YtfdmbgaincmefaaRngN
import Derived.Shelf.SlSortCmp.WholeK
namespace Go.Proofs.Ytfdmbgaincmefaa
open Go.RowKit Go.Sort

/-- One range more. -/
def joinStep (R : List Rg) (r : Rg) : List Rg :=
  match R.getLast? with
  | some q => if r.1 ≤ q.2 then R.dropLast ++ [(q.1, max q.2 r.2)] else R ++ [r]
  | none => [r]
theorem joinStep_nil (r : Rg) : joinStep [] r = [r] := rfl
theorem joinStep_on (o : List Rg) (x y : Int) (r : Rg) (h : r.1 ≤ y) : joinStep (o ++ [(x, y)]) r = o ++ [(x, max y r.2)] := by
  simp [joinStep, h]
theorem joinStep_new (o : List Rg) (x y : Int) (r : Rg) (h : y < r.1) : joinStep (o ++ [(x, y)]) r = o ++ [(x, y)] ++ [r] := by
  have : ¬ r.1 ≤ y := by omega
  simp [joinStep, this]

/-- What has been joined of the ranges up to b. -/
def JoinedTo (R done : List Rg) (b : Int) : Prop := rightR R ∧ (∀ n, memR R n ↔ memR done n) ∧ ∀ q ∈ R, q.1 ≤ b
theorem joined_none (b : Int) : JoinedTo [] [] b := ⟨trivial, fun _ => Iff.rfl, fun q hq => by cases hq⟩
theorem JoinedTo.more {R done : List Rg} {b b' : Int} (h : JoinedTo R done b) (hb : b ≤ b') : JoinedTo R done b' := ⟨h.1, h.2.1, fun q hq => by have := h.2.2 q hq; omega⟩
theorem joined_first {b : Int} (r : Rg) (h0 : 0 ≤ r.1) (hr : r.1 < r.2) (hb : r.1 ≤ b) : JoinedTo [r] [r] b :=
  ⟨⟨by omega, hr, trivial⟩, fun _ => Iff.rfl, fun q hq => by simp at hq; subst hq; exact hb⟩
theorem joined_new {R done : List Rg} {r : Rg} (h : JoinedTo R done r.1) (h0 : 0 ≤ r.1) (hr : r.1 < r.2) (hl : ∀ q ∈ R, q.2 < r.1) : JoinedTo (R ++ [r]) (done ++ [r]) r.1 :=
  ⟨right_snoc h.1 (by omega) hl hr, fun n => by rw [memR_append, memR_append, h.2.1 n], fun q hq => by
    rcases List.mem_append.1 hq with hq | hq
    · exact h.2.2 q hq
    · simp at hq; subst hq; exact Int.le_refl _⟩
theorem last_greatest {o : List Rg} {x y : Int} (h : rightR (o ++ [(x, y)])) : ∀ q ∈ o ++ [(x, y)], q.2 ≤ y := by
  intro q hq
  have hp := (right_pos h (x, y) (by simp)).2
  rcases List.mem_append.1 hq with hq | hq
  · have := right_before h q hq
    simp only at this hp
    omega
  · simp at hq; subst hq; exact Int.le_refl _
theorem joined_on {o done : List Rg} {x y : Int} {r : Rg} (h : JoinedTo (o ++ [(x, y)]) done r.1) (hy : r.1 ≤ y) : JoinedTo (o ++ [(x, max y r.2)]) (done ++ [r]) r.1 := by
  have hx : x ≤ r.1 := h.2.2 (x, y) (by simp)
  have hxp := right_pos h.1 (x, y) (by simp)
  simp only at hxp
  refine ⟨right_longer h.1 (by omega), fun n => ?_, fun q hq => ?_⟩
  · rw [memR_append done, ← h.2.1 n, memR_append, memR_append, memR_one, memR_one]
    have e : memR [r] n ↔ 0 ≤ n ∧ r.1 ≤ n ∧ n < r.2 := memR_one r.1 r.2 n
    rw [e]
    constructor
    · rintro (h1 | ⟨h1, h2, h3⟩)
      · exact .inl (.inl h1)
      · rcases Int.lt_or_le n y with h4 | h4
        · exact .inl (.inr ⟨h1, h2, h4⟩)
        · exact .inr ⟨h1, by omega, by omega⟩
    · rintro ((h1 | ⟨h1, h2, h3⟩) | ⟨h1, h2, h3⟩)
      · exact .inl h1
      · exact .inr ⟨h1, h2, by omega⟩
      · exact .inr ⟨h1, by omega, by omega⟩
  · rcases List.mem_append.1 hq with hq | hq
    · exact h.2.2 q (by simp [hq])
    · simp at hq; subst hq; exact hx

/-! ### The row -/
/-- Place j holds this range. -/
def RowHas (cs : Array Value) (j : Nat) (r : Rg) : Prop := cs[j * 2]? = some (.int .i64 r.1) ∧ cs[j * 2 + 1]? = some (.int .i64 r.2)
/-- R is laid from the beginning on; from place k on the row still holds S. -/
def RowJ (cs : Array Value) (R S : List Rg) (k : Nat) : Prop := (∀ j (h : j < R.length), RowHas cs j R[j]) ∧ ∀ j (h : j < S.length), k ≤ j → RowHas cs j S[j]

theorem rowHas_set {cs : Array Value} {j : Nat} {r : Rg} (h : RowHas cs j r) {i : Nat} (u : Value) (h0 : i ≠ j * 2) (h1 : i ≠ j * 2 + 1) : RowHas (cs.setIfInBounds i u) j r :=
  ⟨by rw [Array.getElem?_setIfInBounds_ne h0]; exact h.1, by rw [Array.getElem?_setIfInBounds_ne h1]; exact h.2⟩
theorem rowJ_new {cs : Array Value} {R S : List Rg} {k : Nat} (h : RowJ cs R S k) (hk : R.length ≤ k) (hs : R.length * 2 + 2 ≤ cs.size) (r : Rg) :
    RowJ ((cs.setIfInBounds (R.length * 2) (.int .i64 r.1)).setIfInBounds (R.length * 2 + 1) (.int .i64 r.2)) (R ++ [r]) S (k + 1) := by
  refine ⟨fun j hj => ?_, fun j hj hkj => rowHas_set (rowHas_set (h.2 j hj (by omega)) _ (by omega) (by omega)) _ (by omega) (by omega)⟩
  by_cases hjl : j < R.length
  · rw [List.getElem_append_left hjl]
    exact rowHas_set (rowHas_set (h.1 j hjl) _ (by omega) (by omega)) _ (by omega) (by omega)
  · have hj' : j = R.length := by simp at hj; omega
    subst hj'
    rw [List.getElem_append_right (Nat.le_refl _)]
    simp only [Nat.sub_self, List.getElem_cons_zero]
    refine ⟨?_, ?_⟩
    · rw [Array.getElem?_setIfInBounds_ne (by omega), Array.getElem?_setIfInBounds_self_of_lt (by omega)]
    · rw [Array.getElem?_setIfInBounds_self_of_lt (by simp; omega)]
theorem rowJ_on {cs : Array Value} {o S : List Rg} {x y : Int} {k : Nat} (h : RowJ cs (o ++ [(x, y)]) S k) (hk : o.length + 1 ≤ k) (hs : o.length * 2 + 2 ≤ cs.size) (z : Int) :
    RowJ (cs.setIfInBounds (o.length * 2 + 1) (.int .i64 z)) (o ++ [(x, z)]) S (k + 1) := by
  refine ⟨fun j hj => ?_, fun j hj hkj => rowHas_set (h.2 j hj (by omega)) _ (by omega) (by omega)⟩
  have hj1 : j < (o ++ [(x, y)]).length := by simpa using hj
  have h1 := h.1 j hj1
  by_cases hjl : j < o.length
  · rw [List.getElem_append_left hjl] at h1 ⊢
    exact rowHas_set h1 _ (by omega) (by omega)
  · have hj' : j = o.length := by simp at hj; omega
    subst hj'
    rw [List.getElem_append_right (Nat.le_refl _)] at h1 ⊢
    simp only [Nat.sub_self, List.getElem_cons_zero] at h1 ⊢
    refine ⟨?_, ?_⟩
    · rw [Array.getElem?_setIfInBounds_ne (by omega)]; exact h1.1
    · rw [Array.getElem?_setIfInBounds_self_of_lt (by omega)]
theorem rowJ_take {cs : Array Value} {R S : List Rg} {k : Nat} (h : RowJ cs R S k) : cs.toList.take (R.length * 2) = rgv R := by
  apply List.ext_getElem?
  intro j
  by_cases hj : j < R.length * 2
  · rw [List.getElem?_take_of_lt hj, Array.getElem?_toList]
    obtain ⟨i, rfl | rfl⟩ : ∃ i, j = i * 2 ∨ j = i * 2 + 1 := ⟨j / 2, by omega⟩
    · rw [(h.1 i (by omega)).1, Nat.mul_comm, rgv_from R i (by omega)]
    · rw [(h.1 i (by omega)).2, Nat.mul_comm, rgv_to R i (by omega)]
  · rw [List.getElem?_take_eq_none (by omega), List.getElem?_eq_none (by rw [rgv_length]; omega)]
theorem rowJ_own {w : World} {g base cap : Nat} {t : TypeId} {cs : Array Value} {R S : List Rg} {k : Nat} (hb : Blk w g t cs) (hg : base ≤ g) (hc : R.length ≤ cap) (hm : cap ≤ maxLen) (hs : cs.size = cap * 2) (h : RowJ cs R S k) :
    w.ownsRow base t 2 (.slice (some ⟨g, 0, none⟩) R.length cap) R.length (rgv R) :=
  ⟨rgv_length R, .inr ⟨g, cap, cs, rfl, hg, hb, hc, hm, hs, rowJ_take h⟩⟩

/-! ### The sort -/
/-- The two cells of a range. -/
def encR (x : Rg) : List Value := [.int .i64 x.1, .int .i64 x.2]
theorem flat_get (d : Array Rg) (j : Nat) (hj : j < d.size) : (flatK encR 2 d)[j * 2]! = .int .i64 d[j]!.1 ∧ (flatK encR 2 d)[j * 2 + 1]! = .int .i64 d[j]!.2 := by
  rw [get_flatK _ _ _ _ (by omega), get_flatK _ _ _ _ (by omega)]
  have e1 : j * 2 / 2 = j := by omega
  have e2 : (j * 2 + 1) / 2 = j := by omega
  have e3 : j * 2 % 2 = 0 := by omega
  have e4 : (j * 2 + 1) % 2 = 1 := by omega
  rw [e1, e2, e3, e4]
  exact ⟨rfl, rfl⟩
theorem get_bang (l : List Rg) (j : Nat) (h : j < l.length) : l.toArray[j]! = l[j] := by simp [h]
theorem holdsK_of_block {w : World} {g : Nat} {t : TypeId} {cs : Array Value} {l : List Rg} (hb : Blk w g t cs) (ht : cs.toList.take (l.length * 2) = rgv l) : HoldsK encR 2 w g 0 l.toArray := by
  intro j hj
  rw [size_flatK] at hj
  have hj' : j < l.length * 2 := by simpa using hj
  refine ⟨?_, hb.frozen _⟩
  have h1 : cs[j]? = (rgv l)[j]? := by
    rw [← ht, List.getElem?_take_of_lt hj', Array.getElem?_toList]
  rw [Nat.zero_add, hb.cell j, h1]
  obtain ⟨i, rfl | rfl⟩ : ∃ i, j = i * 2 ∨ j = i * 2 + 1 := ⟨j / 2, by omega⟩
  · rw [(flat_get l.toArray i (by simp; omega)).1, Nat.mul_comm, rgv_from l i (by omega), get_bang l i (by omega)]; rfl
  · rw [(flat_get l.toArray i (by simp; omega)).2, Nat.mul_comm, rgv_to l i (by omega), get_bang l i (by omega)]; rfl
theorem blk_sorted {w : World} {g n : Nat} {t : TypeId} {cs : Array Value} (hb : Blk w g t cs) (d : Array Rg) (os : Array Obj) : Blk (sortWorldK encR 2 w g 0 n d os) g t (putCells id 0 (flatK encR 2 d) cs) := by
  have hg := hb.lt
  unfold Blk at hb ⊢
  unfold sortWorldK putRowK
  rw [heap_grow_old _ _ (by simpa using hg)]
  simp [putRow, mapBlock, Sort.ahead, Array.getElem?_modify, hb, onCells]
theorem grown_sorted {w : World} {g n : Nat} (d : Array Rg) (os : Array Obj) : w.grownBy (sortWorldK encR 2 w g 0 n d os) (some g) := by
  unfold sortWorldK putRowK
  refine ⟨rfl, rfl, rfl, by simp, fun k hk hne => ?_⟩
  rw [heap_grow_old _ _ (by simpa using hk)]
  have : g ≠ k := fun e => hne (by rw [e])
  simp [putRow, mapBlock, Sort.ahead, Array.getElem?_modify, this]
theorem rowJ_sorted {cs : Array Value} {S : List Rg} (hs : S.length * 2 ≤ cs.size) : RowJ (putCells id 0 (flatK encR 2 S.toArray) cs) [] S 0 := by
  refine ⟨fun j hj => absurd hj (by simp), fun j hj _ => ?_⟩
  have hf := flat_get S.toArray j (by simpa using hj)
  rw [get_bang S j hj] at hf
  have h0 : j * 2 < cs.size := by omega
  have h1 : j * 2 + 1 < cs.size := by omega
  refine ⟨?_, ?_⟩
  · simp only [putCells, Array.getElem?_mapIdx, Array.getElem?_eq_getElem h0, Option.map_some, Nat.zero_add, Nat.sub_zero, size_flatK, List.size_toArray]
    rw [if_pos ⟨Nat.zero_le _, by omega⟩, hf.1]; rfl
  · simp only [putCells, Array.getElem?_mapIdx, Array.getElem?_eq_getElem h1, Option.map_some, Nat.zero_add, Nat.sub_zero, size_flatK, List.size_toArray]
    rw [if_pos ⟨Nat.zero_le _, by omega⟩, hf.2]; rfl
theorem size_putCells' (F cs : Array Value) : (putCells id 0 F cs).size = cs.size := by simp [putCells]
/-- Of a sorted permutation. -/
theorem perm_list {l : List Rg} {d : Array Rg} (h : PermIn 0 l.toArray.size l.toArray d) : d.toList.Perm l := by
  have h3 := h.2.2
  have hsz := h.1
  have e1 : d.extract 0 l.toArray.size = d := by rw [← hsz]; simp
  have e2 : l.toArray.extract 0 l.toArray.size = l.toArray := by simp
  rw [e1, e2] at h3
  simpa using h3
end Go.Proofs.Ytfdmbgaincmefaa
