/- Plain facts: the list of keys in the order of their use (LU) and its calls, as the document says them. No conditions. -/
import Derived.Test.YtopdfhedifcalaaMath
namespace Go.Proofs.Ytopdfhedifcalaa
set_option linter.unusedVariables false
/-- A key at hand. -/
structure It where
  key : Int
  pins : Nat
  marked : Bool
instance : Inhabited It := ⟨⟨0, 0, false⟩⟩
/-- The list: keys from the one that was used longest ago on. -/
structure LU where
  cap : Nat
  items : List It
namespace LU
def get (s : LU) (k : Int) : Option It := s.items.find? (fun x => x.key == k)
def has (s : LU) (k : Int) : Bool := s.items.any (fun x => x.key == k)
def out (s : LU) (k : Int) : LU := { s with items := s.items.eraseP (fun x => x.key == k) }
def put (s : LU) (x : It) : LU := { s with items := s.items ++ [x] }
def upd (s : LU) (k : Int) (f : It → It) : LU := { s with items := s.items.map fun x => if x.key = k then f x else x }
def keys (s : LU) : List Int := s.items.map It.key
def oldest (s : LU) : Option It := s.items.find? (fun x => x.pins == 0)
def use (s : LU) (k : Int) : LU × Bool := match s.get k with | none => (s, false) | some x => ((s.out k).put x, true)
def add (s : LU) (k : Int) : LU × Int × Bool × Nat :=
  if s.has k then (s, 0, false, 1)
  else if s.items.length = s.cap then
    match s.oldest with
    | none => (s, 0, false, 9)
    | some x => ((s.out x.key).put ⟨k, 0, false⟩, x.key, true, 0)
  else (s.put ⟨k, 0, false⟩, 0, false, 0)
def drop (s : LU) (k : Int) : LU × Bool := match s.get k with | none => (s, false) | some x => if 0 < x.pins then (s, false) else (s.out k, true)
def pin (s : LU) (k : Int) : LU × Bool := (s.upd k fun x => { x with pins := x.pins + 1 }, s.has k)
def unpin (s : LU) (k : Int) : LU × Bool := match s.get k with | none => (s, false) | some x => if 0 < x.pins then (s.upd k fun x => { x with pins := x.pins - 1 }, true) else (s, false)
def mark (s : LU) (k : Int) (on : Bool) : LU × Bool := (s.upd k fun x => { x with marked := on }, s.has k)
/-- Each key once, and no more than the capacity. -/
structure Ok (s : LU) : Prop where
  nodup : s.keys.Nodup
  len : s.items.length ≤ s.cap
theorem has_keys (s : LU) (k : Int) : s.has k = true ↔ k ∈ s.keys := by
  unfold has keys
  simp only [List.any_eq_true, List.mem_map, beq_iff_eq]
theorem has_get (s : LU) (k : Int) : s.has k = (s.get k).isSome := by
  unfold has get
  rw [Bool.eq_iff_iff, List.find?_isSome]
  simp [List.any_eq_true]
theorem get_some {s : LU} {k : Int} {x : It} (h : s.get k = some x) : x ∈ s.items ∧ x.key = k :=
  ⟨List.mem_of_find?_eq_some h, by simpa using List.find?_some h⟩
theorem keys_out (s : LU) (k : Int) : (s.out k).keys = s.keys.erase k := by
  unfold out keys
  simp only
  induction s.items with
  | nil => rfl
  | cons x l ih =>
    rw [List.eraseP_cons, List.map_cons, List.erase_cons]
    cases h : x.key == k
    · simp [ih]
    · simp
theorem keys_put (s : LU) (x : It) : (s.put x).keys = s.keys ++ [x.key] := by simp [put, keys]
theorem keys_upd (s : LU) (k : Int) {f : It → It} (hf : ∀ x, (f x).key = x.key) : (s.upd k f).keys = s.keys := by
  simp only [upd, keys, List.map_map]
  refine List.map_congr_left fun x _ => ?_
  simp only [Function.comp_apply]
  split
  · exact hf x
  · rfl
theorem keys_length (s : LU) : s.keys.length = s.items.length := by simp [keys]
theorem len_out {s : LU} {k : Int} (h : s.has k = true) : (s.out k).items.length + 1 = s.items.length := by
  rw [← keys_length, ← keys_length s, keys_out, List.length_erase_of_mem ((has_keys s k).1 h)]
  have := List.length_pos_of_mem ((has_keys s k).1 h)
  omega
theorem Ok.out {s : LU} (h : Ok s) (k : Int) : Ok (s.out k) :=
  ⟨by rw [keys_out]; exact h.nodup.erase k, Nat.le_trans (by rw [← keys_length, ← keys_length s, keys_out]; exact List.length_erase_le) h.len⟩
theorem Ok.upd {s : LU} (h : Ok s) (k : Int) {f : It → It} (hf : ∀ x, (f x).key = x.key) : Ok (s.upd k f) :=
  ⟨by rw [keys_upd s k hf]; exact h.nodup, by rw [← keys_length, keys_upd s k hf, keys_length]; exact h.len⟩
theorem Ok.put {s : LU} (h : Ok s) {x : It} (hx : x.key ∉ s.keys) (hl : s.items.length < s.cap) : Ok (s.put x) :=
  ⟨by rw [keys_put, List.nodup_append]; exact ⟨h.nodup, by simp, fun a ha b hb => by simp only [List.mem_singleton] at hb; rintro rfl; exact hx (hb ▸ ha)⟩, by simp only [LU.put, List.length_append, List.length_singleton]; omega⟩
theorem Ok.not_out {s : LU} (h : Ok s) (k : Int) : k ∉ (s.out k).keys := by
  rw [keys_out]; exact h.nodup.not_mem_erase
theorem Ok.use {s : LU} (h : Ok s) (k : Int) : Ok (s.use k).1 := by
  unfold LU.use
  cases hg : s.get k with
  | none => exact h
  | some x =>
    obtain ⟨-, hk⟩ := get_some hg
    have hh : s.has k = true := by rw [has_get, hg]; rfl
    have hl := len_out hh
    have hc := h.len
    exact (h.out k).put (by rw [hk]; exact h.not_out k) (by show _ < s.cap; omega)
theorem Ok.add {s : LU} (h : Ok s) (k : Int) : Ok (s.add k).1 := by
  unfold LU.add
  by_cases hh : s.has k = true
  · rw [if_pos hh]; exact h
  rw [if_neg hh]
  have hk : k ∉ s.keys := fun hc => hh ((has_keys s k).2 hc)
  by_cases hl : s.items.length = s.cap
  · rw [if_pos hl]
    cases ho : s.oldest with
    | none => exact h
    | some x =>
      have hx : s.has x.key = true := (has_keys s _).2 (List.mem_map.2 ⟨x, List.mem_of_find?_eq_some ho, rfl⟩)
      have hl2 := len_out hx
      exact (h.out x.key).put (by rw [keys_out]; exact fun hc => hk (List.mem_of_mem_erase hc)) (by show _ < s.cap; omega)
  · rw [if_neg hl]
    have := h.len
    exact h.put hk (by omega)
theorem Ok.drop {s : LU} (h : Ok s) (k : Int) : Ok (s.drop k).1 := by
  unfold LU.drop
  cases s.get k with
  | none => exact h
  | some x =>
    simp only
    split
    · exact h
    · exact h.out k
theorem Ok.pin {s : LU} (h : Ok s) (k : Int) : Ok (s.pin k).1 := h.upd k fun _ => rfl
theorem Ok.mark {s : LU} (h : Ok s) (k : Int) (on : Bool) : Ok (s.mark k on).1 := h.upd k fun _ => rfl
theorem Ok.unpin {s : LU} (h : Ok s) (k : Int) : Ok (s.unpin k).1 := by
  unfold LU.unpin
  cases s.get k with
  | none => exact h
  | some x =>
    simp only
    split
    · exact h.upd k fun _ => rfl
    · exact h
theorem cap_out (s : LU) (k : Int) : (s.out k).cap = s.cap := rfl
theorem cap_use (s : LU) (k : Int) : (s.use k).1.cap = s.cap := by unfold LU.use; cases s.get k <;> rfl
theorem cap_add (s : LU) (k : Int) : (s.add k).1.cap = s.cap := by
  unfold LU.add
  split
  · rfl
  · split
    · cases s.oldest <;> rfl
    · rfl
theorem cap_drop (s : LU) (k : Int) : (s.drop k).1.cap = s.cap := by
  unfold LU.drop
  cases s.get k with
  | none => rfl
  | some x => simp only; split <;> rfl
theorem cap_pin (s : LU) (k : Int) : (s.pin k).1.cap = s.cap := rfl
theorem cap_mark (s : LU) (k : Int) (on : Bool) : (s.mark k on).1.cap = s.cap := rfl
theorem cap_unpin (s : LU) (k : Int) : (s.unpin k).1.cap = s.cap := by
  unfold LU.unpin
  cases s.get k with
  | none => rfl
  | some x => simp only; split <;> rfl
/-- The key is there, and pinned. -/
def Pinned (s : LU) (p : Int) : Prop := ∃ x ∈ s.items, x.key = p ∧ 0 < x.pins
theorem Pinned.has {s : LU} {p : Int} (h : Pinned s p) : s.has p = true := by
  obtain ⟨x, hx, hk, -⟩ := h
  exact (has_keys s p).2 (List.mem_map.2 ⟨x, hx, hk⟩)
theorem one_item {s : LU} (h : Ok s) {x y : It} (hx : x ∈ s.items) (hy : y ∈ s.items) (e : x.key = y.key) : x = y := by
  have hn : s.items.Pairwise (fun a b => a.key ≠ b.key) := List.pairwise_map.1 h.nodup
  generalize s.items = l at *
  induction l with
  | nil => cases hx
  | cons a l ih =>
    rw [List.pairwise_cons] at hn
    rcases List.mem_cons.1 hx with rfl | hx' <;> rcases List.mem_cons.1 hy with rfl | hy'
    · rfl
    · exact absurd e (hn.1 y hy')
    · exact absurd e.symm (hn.1 x hx')
    · exact ih hx' hy' hn.2
theorem mem_out {s : LU} {k : Int} {x : It} (hx : x ∈ s.items) (hk : x.key ≠ k) : x ∈ (s.out k).items :=
  (List.mem_eraseP_of_neg (by simpa using hk)).2 hx
theorem Pinned.out {s : LU} {p k : Int} (h : Pinned s p) (hk : p ≠ k) : Pinned (s.out k) p := by
  obtain ⟨x, hx, rfl, hp⟩ := h
  exact ⟨x, mem_out hx hk, rfl, hp⟩
theorem Pinned.put {s : LU} {p : Int} (h : Pinned s p) (x : It) : Pinned (s.put x) p := by
  obtain ⟨y, hy, rfl, hp⟩ := h
  exact ⟨y, List.mem_append_left _ hy, rfl, hp⟩
theorem Pinned.upd {s : LU} {p k : Int} (h : Pinned s p) {f : It → It} (hf : ∀ x, (f x).key = x.key) (hp : ∀ x, x.key = p → x.key = k → 0 < x.pins → 0 < (f x).pins) : Pinned (s.upd k f) p := by
  obtain ⟨x, hx, hk, hq⟩ := h
  refine ⟨_, List.mem_map.2 ⟨x, hx, rfl⟩, ?_⟩
  split
  · exact ⟨(hf x).trans hk, hp x hk ‹_› hq⟩
  · exact ⟨hk, hq⟩
theorem Pinned.use {s : LU} {p : Int} (h : Pinned s p) (ok : Ok s) (k : Int) : Pinned (s.use k).1 p := by
  unfold LU.use
  cases hg : s.get k with
  | none => exact h
  | some x =>
    obtain ⟨hx, hk⟩ := get_some hg
    by_cases hpk : p = k
    · obtain ⟨y, hy, hyp, hq⟩ := h
      obtain rfl : y = x := one_item ok hy hx (by rw [hyp, hk, hpk])
      exact ⟨y, List.mem_append_right _ (List.mem_singleton.2 rfl), hyp, hq⟩
    · exact (h.out hpk).put x
theorem Pinned.add {s : LU} {p : Int} (h : Pinned s p) (ok : Ok s) (k : Int) : Pinned (s.add k).1 p ∧ ((s.add k).2.2.1 = true → (s.add k).2.1 ≠ p) := by
  unfold LU.add
  split
  · exact ⟨h, fun e => by cases e⟩
  split
  · cases ho : s.oldest with
    | none => exact ⟨h, fun e => by cases e⟩
    | some x =>
      have hx := List.mem_of_find?_eq_some ho
      have hx0 : x.pins = 0 := by simpa using List.find?_some ho
      have hne : p ≠ x.key := by
        obtain ⟨y, hy, rfl, hq⟩ := h
        intro e
        have := one_item ok hy hx e
        subst this
        omega
      exact ⟨(h.out hne).put _, fun _ => hne.symm⟩
  · exact ⟨h.put _, fun e => by cases e⟩
theorem Pinned.drop {s : LU} {p : Int} (h : Pinned s p) (ok : Ok s) (k : Int) : Pinned (s.drop k).1 p ∧ ((s.drop k).2 = true → k ≠ p) := by
  unfold LU.drop
  cases hg : s.get k with
  | none => exact ⟨h, fun e => by cases e⟩
  | some x =>
    obtain ⟨hx, hk⟩ := get_some hg
    simp only
    split
    · exact ⟨h, fun e => by cases e⟩
    · rename_i hq
      have hne : p ≠ k := by
        obtain ⟨y, hy, rfl, hq'⟩ := h
        intro e
        have := one_item ok hy hx (e.trans hk.symm)
        subst this
        exact hq hq'
      exact ⟨h.out hne, fun _ => hne.symm⟩
theorem Pinned.pin {s : LU} {p : Int} (h : Pinned s p) (k : Int) : Pinned (s.pin k).1 p := h.upd (fun _ => rfl) fun _ _ _ _ => Nat.succ_pos _
theorem Pinned.unpin {s : LU} {p : Int} (h : Pinned s p) {k : Int} (hk : k ≠ p) : Pinned (s.unpin k).1 p := by
  unfold LU.unpin
  cases s.get k with
  | none => exact h
  | some x =>
    simp only
    split
    · exact h.upd (fun _ => rfl) fun y h1 h2 _ => absurd (h2.symm.trans h1) hk
    · exact h
/-- Whether a key is there and marked. -/
def lit (s : LU) (k : Int) : Bool := s.items.any fun x => x.key == k && x.marked
theorem lit_iff (s : LU) (k : Int) : s.lit k = true ↔ ∃ x ∈ s.items, x.key = k ∧ x.marked = true := by
  unfold lit
  simp [List.any_eq_true]
theorem lit_has {s : LU} {k : Int} (h : s.lit k = true) : s.has k = true := by
  obtain ⟨x, hx, hk, -⟩ := (lit_iff s k).1 h
  exact (has_keys s k).2 (List.mem_map.2 ⟨x, hx, hk⟩)
theorem has_out {s : LU} (h : Ok s) (k j : Int) : (s.out k).has j = (s.has j && decide (j ≠ k)) := by
  rw [Bool.eq_iff_iff, Bool.and_eq_true, has_keys, has_keys, keys_out, decide_eq_true_eq, h.nodup.mem_erase_iff]
  exact And.comm
theorem has_put (s : LU) (x : It) (j : Int) : (s.put x).has j = (s.has j || decide (j = x.key)) := by
  rw [Bool.eq_iff_iff, Bool.or_eq_true, has_keys, has_keys, keys_put, decide_eq_true_eq]
  simp
theorem has_upd (s : LU) (k j : Int) {f : It → It} (hf : ∀ x, (f x).key = x.key) : (s.upd k f).has j = s.has j := by
  rw [Bool.eq_iff_iff, has_keys, has_keys, keys_upd s k hf]
theorem lit_out {s : LU} (h : Ok s) (k j : Int) : (s.out k).lit j = (s.lit j && decide (j ≠ k)) := by
  rw [Bool.eq_iff_iff, Bool.and_eq_true, lit_iff, lit_iff, decide_eq_true_eq]
  constructor
  · rintro ⟨x, hx, rfl, hm⟩
    refine ⟨⟨x, List.mem_of_mem_eraseP hx, rfl, hm⟩, ?_⟩
    rintro rfl
    exact h.not_out x.key (List.mem_map.2 ⟨x, hx, rfl⟩)
  · rintro ⟨⟨x, hx, rfl, hm⟩, hk⟩
    exact ⟨x, mem_out hx hk, rfl, hm⟩
theorem lit_put (s : LU) (x : It) (j : Int) : (s.put x).lit j = (s.lit j || (decide (j = x.key) && x.marked)) := by
  unfold lit LU.put
  simp only [List.any_append, List.any_cons, List.any_nil, Bool.or_false]
  congr 2
  rw [Bool.eq_iff_iff, decide_eq_true_eq, beq_iff_eq]
  exact eq_comm
theorem lit_get {s : LU} (h : Ok s) {k : Int} {x : It} (hg : s.get k = some x) : s.lit k = x.marked := by
  obtain ⟨hx, hk⟩ := get_some hg
  rw [Bool.eq_iff_iff, lit_iff]
  constructor
  · rintro ⟨y, hy, hyk, hm⟩
    rwa [one_item h hx hy (hk.trans hyk.symm)]
  · exact fun hm => ⟨x, hx, hk, hm⟩
theorem has_use {s : LU} (h : Ok s) (k j : Int) : (s.use k).1.has j = s.has j := by
  unfold LU.use
  cases hg : s.get k with
  | none => rfl
  | some x =>
    have hh : s.has k = true := by rw [has_get, hg]; rfl
    show ((s.out k).put x).has j = s.has j
    rw [has_put, has_out h, (get_some hg).2]
    by_cases e : j = k
    · subst e; simp [hh]
    · simp [e]
theorem lit_use {s : LU} (h : Ok s) (k j : Int) : (s.use k).1.lit j = s.lit j := by
  unfold LU.use
  cases hg : s.get k with
  | none => rfl
  | some x =>
    have hm := lit_get h hg
    show ((s.out k).put x).lit j = s.lit j
    rw [lit_put, lit_out h, (get_some hg).2]
    by_cases e : j = k
    · subst e; simp [hm]
    · simp [e]
theorem has_drop {s : LU} (h : Ok s) (k j : Int) : (s.drop k).1.has j = (s.has j && !((s.drop k).2 && decide (j = k))) := by
  unfold LU.drop
  cases hg : s.get k with
  | none => simp
  | some x =>
    simp only
    split
    · simp
    · show (s.out k).has j = _
      rw [has_out h]; simp
theorem lit_drop {s : LU} (h : Ok s) (k j : Int) : (s.drop k).1.lit j = (s.lit j && !((s.drop k).2 && decide (j = k))) := by
  unfold LU.drop
  cases hg : s.get k with
  | none => simp
  | some x =>
    simp only
    split
    · simp
    · show (s.out k).lit j = _
      rw [lit_out h]; simp
theorem lit_mark {s : LU} (k j : Int) (on : Bool) : (s.mark k on).1.lit j = if j = k then s.has k && on else s.lit j := by
  rw [Bool.eq_iff_iff, lit_iff]
  simp only [LU.mark, LU.upd, List.mem_map]
  constructor
  · rintro ⟨_, ⟨x, hx, rfl⟩, hk, hm⟩
    split at hk <;> split at hm <;> try contradiction
    · rename_i e _
      simp only at hk hm
      rw [if_pos (hk.symm.trans e), hm, Bool.and_true]
      exact (has_keys s k).2 (List.mem_map.2 ⟨x, hx, e⟩)
    · rename_i e _
      rw [if_neg (by rw [← hk]; exact e)]
      exact (lit_iff s j).2 ⟨x, hx, hk, hm⟩
  · intro h
    split at h
    · rename_i e
      rw [Bool.and_eq_true] at h
      obtain ⟨x, hx, hk⟩ := List.mem_map.1 ((has_keys s k).1 h.1)
      exact ⟨_, ⟨x, hx, rfl⟩, by rw [if_pos hk]; exact hk.trans e.symm, by rw [if_pos hk]; exact h.2⟩
    · rename_i e
      obtain ⟨x, hx, hk, hm⟩ := (lit_iff s j).1 h
      have : ¬ x.key = k := fun c => e (hk.symm.trans c)
      exact ⟨_, ⟨x, hx, rfl⟩, by rw [if_neg this]; exact hk, by rw [if_neg this]; exact hm⟩
theorem add_room {s : LU} (h : s.items.length < s.cap) (k : Int) : s.add k = if s.has k then (s, 0, false, 1) else (s.put ⟨k, 0, false⟩, 0, false, 0) := by
  unfold LU.add
  split
  · rfl
  · rw [if_neg (by omega)]
theorem lit_add_room {s : LU} (h : s.items.length < s.cap) (k j : Int) : (s.add k).1.lit j = s.lit j := by
  rw [add_room h]
  split
  · rfl
  · show (s.put ⟨k, 0, false⟩).lit j = _
    rw [lit_put]; simp
theorem has_add_room {s : LU} (h : s.items.length < s.cap) (k j : Int) : (s.add k).1.has j = (s.has j || decide (j = k)) := by
  rw [add_room h]
  split
  · rename_i e
    by_cases hj : j = k
    · subst hj; simp [e]
    · simp [hj]
  · show (s.put ⟨k, 0, false⟩).has j = _
    rw [has_put]
theorem add_says (s : LU) (k : Int) : ((s.add k).2.2.2 = 0 → (s.add k).2.2.1 = decide (s.items.length = s.cap)) ∧ ((s.add k).2.2.2 = 9 → s.items.length = s.cap ∧ s.oldest = none) := by
  unfold LU.add
  split
  · exact ⟨(fun e => by cases e), (fun e => by cases e)⟩
  split
  · rename_i hl
    cases ho : s.oldest with
    | none => exact ⟨(fun e => by cases e), fun _ => ⟨hl, rfl⟩⟩
    | some x => exact ⟨fun _ => (decide_eq_true hl).symm, (fun e => by cases e)⟩
  · rename_i hl
    exact ⟨fun _ => (decide_eq_false hl).symm, (fun e => by cases e)⟩
/-- Into a row that rises. -/
def ins (x : Int) : List Int → List Int
  | [] => [x]
  | y :: l => if x < y then x :: y :: l else y :: ins x l
theorem mem_ins (x a : Int) : ∀ l : List Int, a ∈ ins x l ↔ a = x ∨ a ∈ l
  | [] => by simp [ins]
  | y :: l => by
    unfold ins
    split
    · simp
    · simp only [List.mem_cons, mem_ins x a l]
      exact or_left_comm
theorem rise_ins {x : Int} : ∀ {l : List Int}, l.Pairwise (· < ·) → x ∉ l → (ins x l).Pairwise (· < ·)
  | [], _, _ => by simp [ins]
  | y :: l, h, hx => by
    rw [List.pairwise_cons] at h
    unfold ins
    split
    · rename_i e
      exact List.pairwise_cons.2 ⟨fun a ha => (by rcases List.mem_cons.1 ha with rfl | ha'; exact e; exact Int.lt_trans e (h.1 a ha')), List.pairwise_cons.2 h⟩
    · rename_i e
      rw [List.mem_cons, not_or] at hx
      refine List.pairwise_cons.2 ⟨fun a ha => ?_, rise_ins h.2 hx.2⟩
      rcases (mem_ins x a l).1 ha with rfl | ha'
      · have := hx.1; omega
      · exact h.1 a ha'
def risen (l : List Int) : List Int := l.foldl (fun a x => ins x a) []
theorem risen_snoc (l : List Int) (x : Int) : risen (l ++ [x]) = ins x (risen l) := by simp [risen, List.foldl_append]
theorem risen_is (l : List Int) : l.Nodup → (risen l).Pairwise (· < ·) ∧ ∀ a, a ∈ risen l ↔ a ∈ l := by
  have key : ∀ (l acc : List Int), acc.Pairwise (· < ·) → l.Nodup → (∀ a ∈ l, a ∉ acc) →
      (l.foldl (fun a x => ins x a) acc).Pairwise (· < ·) ∧ ∀ a, a ∈ l.foldl (fun a x => ins x a) acc ↔ a ∈ acc ∨ a ∈ l := by
    intro l
    induction l with
    | nil => intro acc h _ _; exact ⟨h, fun a => by simp⟩
    | cons x l ih =>
      intro acc h hn ha
      rw [List.nodup_cons] at hn
      have hx := ha x List.mem_cons_self
      obtain ⟨h1, h2⟩ := ih (ins x acc) (rise_ins h hx) hn.2 (fun a hal hc => by
        rcases (mem_ins x a acc).1 hc with rfl | hc'
        · exact hn.1 hal
        · exact ha a (List.mem_cons_of_mem _ hal) hc')
      refine ⟨h1, fun a => ?_⟩
      show a ∈ List.foldl _ (ins x acc) l ↔ _
      rw [h2, mem_ins, List.mem_cons]
      constructor
      · rintro ((h | h) | h)
        · exact .inr (.inl h)
        · exact .inl h
        · exact .inr (.inr h)
      · rintro (h | h | h)
        · exact .inl (.inr h)
        · exact .inl (.inl h)
        · exact .inr h
  intro hn
  obtain ⟨h1, h2⟩ := key l [] .nil hn (fun a _ h => by cases h)
  exact ⟨h1, fun a => (h2 a).trans (by simp)⟩
/-- Two rows that rise and hold the same are one. -/
theorem rise_eq : ∀ {l m : List Int}, l.Pairwise (· < ·) → m.Pairwise (· < ·) → (∀ a, a ∈ l ↔ a ∈ m) → l = m
  | [], [], _, _, _ => rfl
  | [], y :: m, _, _, h => absurd ((h y).2 List.mem_cons_self) (by simp)
  | x :: l, [], _, _, h => absurd ((h x).1 List.mem_cons_self) (by simp)
  | x :: l, y :: m, hl, hm, h => by
    rw [List.pairwise_cons] at hl hm
    have hxy : x = y := by
      rcases List.mem_cons.1 ((h x).1 List.mem_cons_self) with e | hx
      · exact e
      rcases List.mem_cons.1 ((h y).2 List.mem_cons_self) with e | hy
      · exact e.symm
      have h1 := hm.1 x hx
      have h2 := hl.1 y hy
      omega
    subst hxy
    rw [rise_eq hl.2 hm.2 fun a => ⟨fun ha => by
      rcases List.mem_cons.1 ((h a).1 (List.mem_cons_of_mem _ ha)) with rfl | h'
      · exact absurd (hl.1 a ha) (Int.lt_irrefl a)
      · exact h', fun ha => by
      rcases List.mem_cons.1 ((h a).2 (List.mem_cons_of_mem _ ha)) with rfl | h'
      · exact absurd (hm.1 a ha) (Int.lt_irrefl a)
      · exact h'⟩]
/-- The marked keys, by rising number. -/
def marked (s : LU) : List Int := risen ((s.items.filter It.marked).map It.key)
theorem marked_is {s : LU} (h : Ok s) : s.marked.Pairwise (· < ·) ∧ ∀ a, a ∈ s.marked ↔ s.lit a = true := by
  obtain ⟨h1, h2⟩ := risen_is ((s.items.filter It.marked).map It.key) (h.nodup.sublist (List.filter_sublist.map _))
  refine ⟨h1, fun a => ?_⟩
  unfold marked
  rw [h2, lit_iff, List.mem_map]
  constructor
  · rintro ⟨x, hx, rfl⟩
    exact ⟨x, (List.mem_filter.1 hx).1, rfl, (List.mem_filter.1 hx).2⟩
  · rintro ⟨x, hx, rfl, hm⟩
    exact ⟨x, List.mem_filter.2 ⟨hx, hm⟩, rfl⟩
end LU
end Go.Proofs.Ytopdfhedifcalaa
