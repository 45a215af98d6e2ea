/- Words for the law LruMarks: which keys are there and which are marked, as two rows of bools. Conditions: those that each theorem names. -/
import Derived.Test.YtopdfhedifcalaaLrL
import Derived.Test.YtopdfhedifcalaaDoC
namespace Go.Proofs.Ytopdfhedifcalaa
open Go.RowKit
/-! ### Plain -/
/-- The rows say what is there and what is marked; so many items at the most, none pinned. -/
structure MarkS (s : LU) (T M : List Bool) (j : Nat) : Prop where
  ok : s.Ok
  cap : s.cap = 4096
  len : s.items.length ≤ j
  free : PinsLe s 0
  lt : T.length = 30
  lm : M.length = 30
  has : ∀ t, t < 30 → T.getD t false = s.has (t : Int)
  lit : ∀ t, t < 30 → M.getD t false = s.lit (t : Int)
  inn : ∀ a, s.has a = true → ∃ t : Nat, t < 30 ∧ a = (t : Int)
section
variable {s : LU} {T M : List Bool} {j t : Nat}
theorem getD_set (l : List Bool) {t u : Nat} (ht : t < l.length) (b : Bool) : (l.set t b).getD u false = if u = t then b else l.getD u false := by
  rw [List.getD_eq_getElem?_getD, List.getD_eq_getElem?_getD, List.getElem?_set]
  by_cases h : t = u
  · subst h
    rw [if_pos rfl, if_pos ht, if_pos rfl]
    rfl
  · rw [if_neg h, if_neg (fun e => h e.symm)]
theorem int_eq {u t : Nat} : ((u : Int) = (t : Int)) ↔ u = t := Int.ofNat_inj
theorem len_use (k : Int) : (s.use k).1.items.length = s.items.length := by
  unfold LU.use
  cases hg : s.get k with
  | none => rfl
  | some x =>
    have hh : s.has k = true := by rw [LU.has_get, hg]; rfl
    have := LU.len_out hh
    show ((s.out k).items ++ [x]).length = _
    rw [List.length_append, List.length_singleton]
    exact this
theorem len_drop (k : Int) : (s.drop k).1.items.length ≤ s.items.length := by
  unfold LU.drop
  cases hg : s.get k with
  | none => exact Nat.le_refl _
  | some x =>
    have hh : s.has k = true := by rw [LU.has_get, hg]; rfl
    have := LU.len_out hh
    simp only
    split
    · exact Nat.le_refl _
    · show (s.out k).items.length ≤ _
      omega
theorem len_mark (k : Int) (on : Bool) : (s.mark k on).1.items.length = s.items.length := by simp [LU.mark, LU.upd]
theorem MarkS.room (h : MarkS s T M j) (hj : j < 4096) : s.items.length < s.cap := by have := h.len; rw [h.cap]; omega
theorem MarkS.add (h : MarkS s T M j) (hj : j < 4096) (ht : t < 30) : MarkS (s.add (t : Int)).1 (T.set t true) (M.set t (s.lit t && s.has t)) (j + 1) := by
  have hr := h.room hj
  refine ⟨h.ok.add _, (LU.cap_add _ _).trans h.cap, ?_, h.free.add _, by rw [List.length_set]; exact h.lt, by rw [List.length_set]; exact h.lm, fun u hu => ?_, fun u hu => ?_, fun a ha => ?_⟩
  · have := h.len
    rw [LU.add_room hr]
    split
    · show s.items.length ≤ _; omega
    · show (s.items ++ _).length ≤ _
      rw [List.length_append, List.length_singleton]; omega
  · rw [getD_set _ (by rw [h.lt]; exact ht), LU.has_add_room hr, h.has u hu]
    by_cases e : u = t
    · subst e; simp
    · rw [if_neg e, decide_eq_false (fun c => e (int_eq.1 c)), Bool.or_false]
  · rw [getD_set _ (by rw [h.lm]; exact ht), LU.lit_add_room hr, h.lit u hu]
    by_cases e : u = t
    · subst e
      rw [if_pos rfl]
      cases hl : s.lit (u : Int) with
      | false => rfl
      | true => rw [LU.lit_has hl]; rfl
    · rw [if_neg e]
  · rw [LU.has_add_room hr, Bool.or_eq_true] at ha
    rcases ha with ha | ha
    · exact h.inn a ha
    · exact ⟨t, ht, of_decide_eq_true ha⟩
theorem MarkS.addV (h : MarkS s T M j) (hj : j < 4096) : addV s (t : Int) = .tuple #[.int .i64 0, .bool false, .int .i64 (if s.has (t : Int) = true then 1 else 0)] := by
  unfold Go.Proofs.Ytopdfhedifcalaa.addV
  rw [LU.add_room (h.room hj)]
  by_cases hh : s.has (t : Int) = true
  · rw [if_pos hh, if_pos hh]; rfl
  · rw [if_neg hh, if_neg hh]; rfl
theorem drop_says (h : PinsLe s 0) (k : Int) : (s.drop k).2 = s.has k := by
  unfold LU.drop
  rw [LU.has_get]
  cases hg : s.get k with
  | none => rfl
  | some x =>
    have := h x (LU.get_some hg).1
    simp only
    rw [if_neg (by omega)]
    rfl
theorem use_says (k : Int) : (s.use k).2 = s.has k := by
  unfold LU.use
  rw [LU.has_get]
  cases s.get k <;> rfl
theorem MarkS.drop (h : MarkS s T M j) (ht : t < 30) : MarkS (s.drop (t : Int)).1 (T.set t false) (M.set t false) (j + 1) := by
  have hd := drop_says h.free (t : Int)
  refine ⟨h.ok.drop _, (LU.cap_drop _ _).trans h.cap, Nat.le_trans (len_drop _) (Nat.le_succ_of_le h.len), h.free.drop _, by rw [List.length_set]; exact h.lt, by rw [List.length_set]; exact h.lm, fun u hu => ?_, fun u hu => ?_, fun a ha => ?_⟩
  · rw [getD_set _ (by rw [h.lt]; exact ht), LU.has_drop h.ok, hd, h.has u hu]
    by_cases e : u = t
    · subst e
      rw [if_pos rfl]
      cases s.has (u : Int) <;> simp
    · rw [if_neg e, decide_eq_false (fun c => e (int_eq.1 c)), Bool.and_false, Bool.not_false, Bool.and_true]
  · rw [getD_set _ (by rw [h.lm]; exact ht), LU.lit_drop h.ok, hd, h.lit u hu]
    by_cases e : u = t
    · subst e
      rw [if_pos rfl]
      cases hl : s.lit (u : Int) with
      | false => rfl
      | true => rw [LU.lit_has hl]; simp
    · rw [if_neg e, decide_eq_false (fun c => e (int_eq.1 c)), Bool.and_false, Bool.not_false, Bool.and_true]
  · rw [LU.has_drop h.ok, Bool.and_eq_true] at ha
    exact h.inn a ha.1
theorem mark_has (k a : Int) (on : Bool) : (s.mark k on).1.has a = s.has a := LU.has_upd s k a fun _ => rfl
theorem MarkS.mark (h : MarkS s T M j) (ht : t < 30) (on : Bool) : MarkS (s.mark (t : Int) on).1 T (M.set t (s.has t && on)) (j + 1) := by
  refine ⟨h.ok.mark _ _, (LU.cap_mark _ _ _).trans h.cap, by rw [len_mark]; exact Nat.le_succ_of_le h.len, h.free.mark _ _, h.lt, by rw [List.length_set]; exact h.lm, fun u hu => ?_, fun u hu => ?_, fun a ha => ?_⟩
  · rw [mark_has, h.has u hu]
  · rw [getD_set _ (by rw [h.lm]; exact ht), LU.lit_mark, h.lit u hu]
    by_cases e : u = t
    · subst e; rw [if_pos rfl, if_pos rfl]
    · rw [if_neg e, if_neg (fun c => e (int_eq.1 c))]
  · rw [mark_has] at ha
    exact h.inn a ha
theorem MarkS.use (h : MarkS s T M j) (k : Int) : MarkS (s.use k).1 T M (j + 1) := by
  refine ⟨h.ok.use _, (LU.cap_use _ _).trans h.cap, by rw [len_use]; exact Nat.le_succ_of_le h.len, h.free.use _, h.lt, h.lm, fun u hu => ?_, fun u hu => ?_, fun a ha => ?_⟩
  · rw [LU.has_use h.ok, h.has u hu]
  · rw [LU.lit_use h.ok, h.lit u hu]
  · rw [LU.has_use h.ok] at ha
    exact h.inn a ha
theorem mark_start : MarkS ⟨4096, []⟩ (List.replicate 30 false) (List.replicate 30 false) 0 := by
  refine ⟨⟨by simp [LU.keys], by simp⟩, rfl, Nat.le_refl _, fun x hx => (by cases hx), by simp, by simp, fun t ht => ?_, fun t ht => ?_, fun a ha => (by cases ha)⟩
  · rw [List.getD_eq_getElem?_getD, List.getElem?_replicate]
    split <;> rfl
  · rw [List.getD_eq_getElem?_getD, List.getElem?_replicate]
    split <;> rfl
/-- The marked keys, counted up. -/
def upTo (M : List Bool) (k : Nat) : List Int := ((List.range k).filter fun t => M.getD t false).map Int.ofNat
theorem upTo_yes {k : Nat} (h : M.getD k false = true) : upTo M (k + 1) = upTo M k ++ [(k : Int)] := by
  unfold upTo
  rw [List.range_succ, List.filter_append, List.map_append]
  simp only [List.filter_cons, List.filter_nil, h, if_true]
  rfl
theorem upTo_no {k : Nat} (h : M.getD k false = false) : upTo M (k + 1) = upTo M k := by
  unfold upTo
  rw [List.range_succ, List.filter_append, List.map_append]
  simp only [List.filter_cons, List.filter_nil, h, Bool.false_eq_true, if_false]
  simp
theorem upTo_len (M : List Bool) (k : Nat) : (upTo M k).length ≤ k := by
  unfold upTo
  rw [List.length_map]
  exact Nat.le_trans (List.length_filter_le _ _) (by simp)
theorem MarkS.marked (h : MarkS s T M j) : s.marked = upTo M 30 := by
  obtain ⟨h1, h2⟩ := LU.marked_is h.ok
  refine LU.rise_eq h1 ?_ fun a => (h2 a).trans ?_
  · unfold upTo
    rw [List.pairwise_map]
    exact (List.pairwise_lt_range.sublist List.filter_sublist).imp fun e => Int.ofNat_lt.2 e
  · unfold upTo
    rw [List.mem_map]
    constructor
    · intro ha
      obtain ⟨t, ht, rfl⟩ := h.inn a (LU.lit_has ha)
      exact ⟨t, List.mem_filter.2 ⟨List.mem_range.2 ht, by rw [h.lit t ht]; exact ha⟩, rfl⟩
    · rintro ⟨t, ht, rfl⟩
      obtain ⟨h3, h4⟩ := List.mem_filter.1 ht
      have := h.lit t (List.mem_range.1 h3)
      rw [h4] at this
      exact this.symm
end
/-! ### In memory -/
/-- The list, and the two rows beside it. -/
structure MarkM (n : Nat) (w : World) (p : Nat) (F : Nat → Prop) (s : LU) (g1 g2 : Nat) (T M : List Bool) : Prop where
  at_ : LruAt w F p s
  fin : ∀ k, F k → n ≤ k ∧ k < w.heap.size
  o1 : ¬ F g1
  o2 : ¬ F g2
  r1 : Blk w g1 4 (T.map Value.bool).toArray
  r2 : Blk w g2 4 (M.map Value.bool).toArray
  ne : g1 ≠ g2
  n1 : n ≤ g1
  n2 : n ≤ g2
section
variable {n p g1 g2 t : Nat} {w w1 w0 : World} {F : Nat → Prop} {s s' : LU} {T M : List Bool} {v : Value} {e : Ending}
theorem bools_at {g : Nat} {l : List Bool} (h : Blk w g 4 (l.map Value.bool).toArray) (ht : t < l.length) : w.cell? ⟨g, t, none⟩ = some (.bool (l.getD t false)) := by
  rw [h.cell, List.getElem?_toArray, List.getElem?_map, List.getD_eq_getElem?_getD, List.getElem?_eq_getElem ht]
  rfl
theorem bools_set {g : Nat} {l : List Bool} (h : Blk w g 4 (l.map Value.bool).toArray) (b : Bool) : Blk (w.setCell ⟨g, t, none⟩ (.bool b)) g 4 ((l.set t b).map Value.bool).toArray := by
  have h1 := h.set_ t (.bool b)
  rw [List.setIfInBounds_toArray, ← List.map_set] at h1
  exact h1
theorem MarkM.step (h : MarkM n w p F s g1 g2 T M) (hn : n ≤ w.heap.size) (ha : LruAt w1 (Gr F w w1) p s') (ho : Only F w w1) : MarkM n w1 p (Gr F w w1) s' g1 g2 T M :=
  ⟨ha, gr_in h.fin ho.size hn, fun hk => hk.elim h.o1 fun k => by have := h.r1.lt; omega, fun hk => hk.elim h.o2 fun k => by have := h.r2.lt; omega, h.r1.only ho h.o1, h.r2.only ho h.o2, h.ne, h.n1, h.n2⟩
theorem MarkM.bel (h : MarkM n w p F s g1 g2 T M) (hn : n ≤ w.heap.size) (hb : Below n w0 w) (ho : Only F w w1) : Below n w0 w1 := hb.trans (ho.below (fun k hk => (h.fin k hk).1) hn)
theorem MarkM.set1 (h : MarkM n w p F s g1 g2 T M) (t : Nat) (b : Bool) : MarkM n (w.setCell ⟨g1, t, none⟩ (.bool b)) p F s g1 g2 (T.set t b) M := by
  have hO : Only (fun k => k = g1) w (w.setCell ⟨g1, t, none⟩ (.bool b)) := (Only.refl (fun k => k = g1) w).setCell (p := ⟨g1, t, none⟩) (.inl rfl) _
  exact ⟨h.at_.only hO fun k hk e => h.o1 (e ▸ hk), fun k hk => ⟨(h.fin k hk).1, Nat.lt_of_lt_of_le (h.fin k hk).2 hO.size⟩, h.o1, h.o2, bools_set h.r1 b, h.r2.only hO fun e => h.ne e.symm, h.ne, h.n1, h.n2⟩
theorem MarkM.set2 (h : MarkM n w p F s g1 g2 T M) (t : Nat) (b : Bool) : MarkM n (w.setCell ⟨g2, t, none⟩ (.bool b)) p F s g1 g2 T (M.set t b) := by
  have hO : Only (fun k => k = g2) w (w.setCell ⟨g2, t, none⟩ (.bool b)) := (Only.refl (fun k => k = g2) w).setCell (p := ⟨g2, t, none⟩) (.inl rfl) _
  exact ⟨h.at_.only hO fun k hk e => h.o2 (e ▸ hk), fun k hk => ⟨(h.fin k hk).1, Nat.lt_of_lt_of_le (h.fin k hk).2 hO.size⟩, h.o1, h.o2, h.r1.only hO fun e => h.ne e, bools_set h.r2 b, h.ne, h.n1, h.n2⟩
theorem MarkM.below (h : MarkM n w p F s g1 g2 T M) (hb : Below w.heap.size w w1) : MarkM n w1 p F s g1 g2 T M :=
  ⟨h.at_.below hb, fun k hk => ⟨(h.fin k hk).1, Nat.lt_of_lt_of_le (h.fin k hk).2 hb.size⟩, h.o1, h.o2, h.r1.below hb h.r1.lt, h.r2.below hb h.r2.lt, h.ne, h.n1, h.n2⟩
end
theorem bool_info : (Try.prog.info? 4).map (fun i => (i.zero, i.size, i.bytes)) = some (some (.bool false), 1, 1) := by kernel_rfl
end Go.Proofs.Ytopdfhedifcalaa
