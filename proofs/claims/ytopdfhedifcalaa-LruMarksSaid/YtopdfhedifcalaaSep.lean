/- Words for objects that own memory: what a set of blocks owns stays where only others turn; rows of elements of several cells. Conditions: those that each theorem names. -/
import Derived.Test.YtopdfhedifcalaaWords
import Derived.Test.YtopdfhedifcalaaMath
import Derived.Test.YtopdfhedifcalaaFresh
namespace Go.Proofs.Ytopdfhedifcalaa
open Go.RowKit

/-- Nothing has turned but blocks of F, and new ones. -/
structure Only (F : Nat → Prop) (w w' : World) : Prop where
  os : w'.os = w.os
  tape : w'.tape = w.tape
  output : w'.output = w.output
  size : w.heap.size ≤ w'.heap.size
  block : ∀ k, k < w.heap.size → ¬ F k → w'.heap[k]? = w.heap[k]?
/-- F and the blocks that are new. -/
def Gr (F : Nat → Prop) (w w' : World) (k : Nat) : Prop := F k ∨ (w.heap.size ≤ k ∧ k < w'.heap.size)

section
variable {F G : Nat → Prop} {w w' w'' : World}
theorem Only.refl (F : Nat → Prop) (w : World) : Only F w w := ⟨rfl, rfl, rfl, Nat.le_refl _, fun _ _ _ => rfl⟩
theorem Only.trans (h : Only F w w') (k : Only G w' w'') (hG : ∀ j, j < w.heap.size → G j → F j) : Only F w w'' :=
  ⟨k.os.trans h.os, k.tape.trans h.tape, k.output.trans h.output, Nat.le_trans h.size k.size, fun j hj hn => (k.block j (Nat.lt_of_lt_of_le hj h.size) fun hg => hn (hG j hj hg)).trans (h.block j hj hn)⟩
theorem Only.then_ (h : Only F w w') (k : Only (Gr F w w') w' w'') : Only F w w'' := h.trans k fun j hj hg => hg.elim id fun h => by omega
theorem Only.mono (h : Only F w w') (hF : ∀ k, k < w.heap.size → F k → G k) : Only G w w' := ⟨h.os, h.tape, h.output, h.size, fun k hk hn => h.block k hk fun hf => hn (hF k hk hf)⟩
theorem Only.of_below (h : Below w.heap.size w w') : Only F w w' := ⟨h.os, h.tape, h.output, h.size, fun k hk _ => h.block k hk⟩
theorem Only.below {B : Nat} (h : Only F w w') (hF : ∀ k, F k → B ≤ k) (hB : B ≤ w.heap.size) : Below B w w' := ⟨h.os, h.tape, h.output, h.size, fun k hk => h.block k (by omega) fun hf => by have := hF k hf; omega⟩
theorem Only.toBelow (h : Only (fun _ => False) w w') : Below w.heap.size w w' := ⟨h.os, h.tape, h.output, h.size, fun k hk => h.block k hk id⟩
theorem Only.drewN (h : Only F w w') (n : Nat) : Only F w (w'.drewN n) := ⟨h.os, h.tape, h.output, h.size, h.block⟩
theorem Only.drew (h : Only F w w') : Only F w w'.drew := ⟨h.os, h.tape, h.output, h.size, h.block⟩
theorem Only.alloc (h : Only F w w') (o : Obj) : Only F w (w'.alloc o) := ⟨h.os, h.tape, h.output, Nat.le_trans h.size (by simp), fun k hk hn => (Below.heap_alloc w' o k (Nat.lt_of_lt_of_le hk h.size)).trans (h.block k hk hn)⟩
theorem Only.setCell (h : Only F w w') {p : Addr} (hp : F p.block ∨ w.heap.size ≤ p.block) (u : Value) : Only F w (w'.setCell p u) :=
  ⟨h.os, h.tape, h.output, by simpa [World.setCell] using h.size, fun k hk hn => (Below.heap_setCell w' p u k (by
    rintro rfl
    rcases hp with hp | hp
    · exact hn hp
    · omega)).trans (h.block k hk hn)⟩
theorem Only.grown (h : Only F w w') {row : Option Nat} (hg : w'.grownBy w'' row) (hr : ∀ k, row = some k → F k ∨ w.heap.size ≤ k) : Only F w w'' :=
  ⟨hg.os.trans h.os, hg.tape.trans h.tape, hg.output.trans h.output, Nat.le_trans h.size hg.size, fun k hk hn => (hg.block k (Nat.lt_of_lt_of_le hk h.size) (fun e => by
    rcases hr k e.symm with hp | hp
    · exact hn hp
    · omega)).trans (h.block k hk hn)⟩
theorem Only.cell (h : Only F w w') {p : Addr} (hp : p.block < w.heap.size) (hn : ¬ F p.block) : w'.cell? p = w.cell? p := World.cell?_of_block (h.block _ hp hn)
theorem Only.frozen (h : Only F w w') {p : Addr} (hp : p.block < w.heap.size) (hn : ¬ F p.block) : w'.frozen? p = w.frozen? p := World.frozen?_of_block (h.block _ hp hn)
theorem Blk.only {g : Nat} {t : TypeId} {cs : Array Value} (h : Blk w g t cs) (ho : Only F w w') (hn : ¬ F g) : Blk w' g t cs := (ho.block g h.lt hn).trans h
theorem own_only {base : Nat} {e : TypeId} {size n : Nat} {v : Value} {xs : List Value} (h : w.ownsRow base e size v n xs) (ho : Only F w w') (hn : ∀ k, v.ownBlock = some k → ¬ F k) : w'.ownsRow base e size v n xs := by
  rcases h.2 with ⟨rfl, rfl⟩ | ⟨g, cap, cur, rfl, hb, hh, hr⟩
  · exact ⟨h.1, .inl ⟨rfl, rfl⟩⟩
  · have hk : Blk w g e cur := hh
    exact ⟨h.1, .inr ⟨g, cap, cur, rfl, hb, hk.only ho (hn g rfl), hr⟩⟩
theorem Reads.only {B size n : Nat} {A : Option Addr} {xs : List Value} (h : Reads w B size A n xs) (hB : B ≤ w.heap.size) (ho : Only F w w') (hn : ∀ k, k < B → ¬ F k) : Reads w' B size A n xs :=
  h.keep fun _ hp => ho.cell (Nat.lt_of_lt_of_le hp hB) (hn _ hp)
theorem gr_in {a : Nat} (h : ∀ k, F k → a ≤ k ∧ k < w.heap.size) (hs : w.heap.size ≤ w'.heap.size) (ha : a ≤ w.heap.size) : ∀ k, Gr F w w' k → a ≤ k ∧ k < w'.heap.size := fun k hk => by
  rcases hk with hk | hk
  · have := h k hk; omega
  · omega
end

/-! ### Rows of elements -/
section
variable {α : Type} {enc : α → List Value} {sz : Nat}
def flat (enc : α → List Value) (l : List α) : List Value := l.flatMap enc
theorem flat_length (hk : ∀ x, (enc x).length = sz) (l : List α) : (flat enc l).length = l.length * sz := by
  induction l with
  | nil => simp [flat]
  | cons x l ih =>
    have : flat enc (x :: l) = enc x ++ flat enc l := by simp [flat]
    rw [this, List.length_append, hk, ih, List.length_cons, Nat.add_mul, Nat.one_mul, Nat.add_comm]
theorem flat_append (l m : List α) : flat enc (l ++ m) = flat enc l ++ flat enc m := by simp [flat]
theorem flat_one (x : α) : flat enc [x] = enc x := by simp [flat]
theorem flat_get (hk : ∀ x, (enc x).length = sz) (l : List α) (k : Nat) (h : k < l.length) (j : Nat) (hj : j < sz) : (flat enc l)[k * sz + j]? = (enc l[k])[j]? := by
  induction l generalizing k with
  | nil => simp at h
  | cons x l ih =>
    have e : flat enc (x :: l) = enc x ++ flat enc l := by simp [flat]
    rw [e]
    cases k with
    | zero => rw [Nat.zero_mul, Nat.zero_add, List.getElem?_append_left (by rw [hk]; exact hj)]; rfl
    | succ k =>
      rw [List.getElem?_append_right (by rw [hk, Nat.add_mul]; omega), hk, show (k + 1) * sz + j - sz = k * sz + j from by rw [Nat.add_mul]; omega]
      exact ih k (by simpa using h)
theorem flat_set (hk : ∀ x, (enc x).length = sz) (l : List α) (k : Nat) (h : k < l.length) (j : Nat) (hj : j < sz) (u : Value) (x : α) (hx : enc x = (enc l[k]).set j u) :
    (flat enc l).set (k * sz + j) u = flat enc (l.set k x) := by
  induction l generalizing k with
  | nil => simp at h
  | cons y l ih =>
    have e : ∀ (a : α) (m : List α), flat enc (a :: m) = enc a ++ flat enc m := fun a m => by simp [flat]
    rw [e]
    cases k with
    | zero =>
      rw [Nat.zero_mul, Nat.zero_add, List.set_append_left _ _ (by rw [hk]; exact hj), List.set_cons_zero, e, hx]
      rfl
    | succ k =>
      rw [List.set_append_right _ _ (by rw [hk, Nat.add_mul]; omega), hk, show (k + 1) * sz + j - sz = k * sz + j from by rw [Nat.add_mul]; omega, List.set_cons_succ, e, ih k (by simpa using h) (by simpa using hx)]
theorem flat_take (hk : ∀ x, (enc x).length = sz) (l : List α) (k : Nat) : (flat enc l).take (k * sz) = flat enc (l.take k) := by
  by_cases h : k ≤ l.length
  · have e : flat enc l = flat enc (l.take k) ++ flat enc (l.drop k) := by rw [← flat_append, List.take_append_drop]
    rw [e, List.take_append_of_le_length (by rw [flat_length hk, List.length_take, Nat.min_eq_left h]; exact Nat.le_refl _), List.take_of_length_le (by rw [flat_length hk, List.length_take, Nat.min_eq_left h]; exact Nat.le_refl _)]
  · rw [List.take_of_length_le (l := l) (by omega), List.take_of_length_le (by rw [flat_length hk]; exact Nat.mul_le_mul_right _ (by omega))]
theorem flat_drop (hk : ∀ x, (enc x).length = sz) (l : List α) (k : Nat) : (flat enc l).drop (k * sz) = flat enc (l.drop k) := by
  by_cases h : k ≤ l.length
  · have e : flat enc l = flat enc (l.take k) ++ flat enc (l.drop k) := by rw [← flat_append, List.take_append_drop]
    rw [e, List.drop_append_of_le_length (by rw [flat_length hk, List.length_take, Nat.min_eq_left h]; exact Nat.le_refl _), List.drop_of_length_le (by rw [flat_length hk, List.length_take, Nat.min_eq_left h]; exact Nat.le_refl _)]
    rfl
  · rw [List.drop_of_length_le (l := l) (by omega), List.drop_of_length_le (by rw [flat_length hk]; exact Nat.mul_le_mul_right _ (by omega))]
    rfl
theorem flat_cells' (l : List α) (h1 : ∀ x ∈ l, ∀ u ∈ enc x, u.oneCell' = true) : ∀ u ∈ flat enc l, u.oneCell' = true := by
  intro u hu
  obtain ⟨x, hx, hxu⟩ := List.mem_flatMap.1 hu
  exact h1 x hx u hxu
theorem flat_cells (h1 : ∀ x, ∀ u ∈ enc x, u.oneCell' = true) (l : List α) : ∀ u ∈ flat enc l, u.oneCell' = true := by
  intro u hu
  obtain ⟨x, _, hx⟩ := List.mem_flatMap.1 hu
  exact h1 x u hx

/-- A row that is owned by F. -/
structure Row (w : World) (F : Nat → Prop) (T : TypeId) (sz : Nat) (enc : α → List Value) (v : Value) (l : List α) : Prop where
  own : w.ownsRow 0 T sz v l.length (flat enc l)
  fp : ∀ k, v.ownBlock = some k → F k
variable {w w' : World} {F G : Nat → Prop} {T : TypeId} {v v' : Value} {l : List α}
theorem row_nil (w : World) (F : Nat → Prop) (T : TypeId) (sz : Nat) (enc : α → List Value) : Row w F T sz enc (.slice none 0 0) [] := ⟨own_nil _ _ _ _, fun k h => by simp [Value.ownBlock] at h⟩
theorem Row.only (h : Row w F T sz enc v l) (ho : Only G w w') (hn : ∀ k, F k → ¬ G k) : Row w' F T sz enc v l := ⟨own_only h.own ho fun k hk => hn k (h.fp k hk), h.fp⟩
theorem Row.off (h : Row w F T sz enc v l) (ho : Only G w w') (hn : ∀ k, v.ownBlock = some k → ¬ G k) : Row w' F T sz enc v l := ⟨own_only h.own ho hn, h.fp⟩
theorem Row.mono (h : Row w F T sz enc v l) (hF : ∀ k, F k → G k) : Row w G T sz enc v l := ⟨h.own, fun k hk => hF k (h.fp k hk)⟩
theorem Row.drewN (h : Row w F T sz enc v l) (n : Nat) : Row (w.drewN n) F T sz enc v l := ⟨h.own, h.fp⟩
theorem Row.alloc (h : Row w F T sz enc v l) (o : Obj) : Row (w.alloc o) F T sz enc v l := ⟨h.own.alloc o, h.fp⟩
theorem Row.reads {A : Option Addr} {c : Nat} (h : Row w F T sz enc (.slice A l.length c) l) : Reads w w.heap.size sz A l.length (flat enc l) := Reads.of_own h.own
theorem Row.lt (h : Row w F T sz enc v l) {k : Nat} (hk : v.ownBlock = some k) : k < w.heap.size := (h.own.lt k hk).2
theorem Row.value (h : Row w F T sz enc v l) : ∃ A c, v = .slice A l.length c ∧ l.length ≤ c ∧ c ≤ maxLen ∧ ∀ ad, A = some ad → ad.off = 0 ∧ ad.spot = none ∧ v.ownBlock = some ad.block := by
  rcases h.own.2 with ⟨rfl, h0⟩ | ⟨g, cap, cur, rfl, hb, hh, hc, hm, _⟩
  · exact ⟨none, 0, by rw [h0], by omega, by simp [maxLen], fun ad e => by cases e⟩
  · exact ⟨_, cap, rfl, hc, hm, fun ad e => by injection e with e; subst e; exact ⟨rfl, rfl, rfl⟩⟩
theorem Row.form (h : Row w F T sz enc v l) (hk : ∀ x, (enc x).length = sz) (hn : 0 < l.length) :
    ∃ g cap, v = .slice (some ⟨g, 0, none⟩) l.length cap ∧ F g ∧ g < w.heap.size ∧ l.length ≤ cap ∧ cap ≤ maxLen ∧
      (∀ k (hl : k < l.length) j u, (enc l[k])[j]? = some u → w.cell? ⟨g, k * sz + j, none⟩ = some u) ∧ ∀ i, w.frozen? ⟨g, i, none⟩ = false := by
  rcases h.own.2 with ⟨rfl, h0⟩ | ⟨g, cap, cur, rfl, hb, hh, hc, hm, hs, ht⟩
  · omega
  · have hblk : Blk w g T cur := hh
    refine ⟨g, cap, rfl, h.fp g rfl, hblk.lt, hc, hm, fun k hl j u hu => ?_, fun i => hblk.frozen i⟩
    have hj : j < sz := by
      have := (List.getElem?_eq_some_iff.1 hu).1
      rwa [hk] at this
    rw [hblk.cell]
    have hlt : k * sz + j < l.length * sz := by
      have := Nat.mul_le_mul_right sz (show k + 1 ≤ l.length from hl)
      rw [Nat.add_mul, Nat.one_mul] at this
      omega
    have h1 : (cur.toList.take (l.length * sz))[k * sz + j]? = some u := by rw [ht, flat_get hk l k hl j hj, hu]
    rw [List.getElem?_take_of_lt hlt, Array.getElem?_toList] at h1
    exact h1
/-- One cell of an element is stored. -/
theorem Row.set (h : Row w F T sz enc v l) (hk : ∀ x, (enc x).length = sz) {g : Nat} (hg : v.ownBlock = some g) (k : Nat) (hl : k < l.length) (j : Nat) (hj : j < sz) (u : Value) (x : α) (hx : enc x = (enc l[k]).set j u) :
    Row (w.setCell ⟨g, k * sz + j, none⟩ u) F T sz enc v (l.set k x) := by
  rcases h.own.2 with ⟨rfl, h0⟩ | ⟨g', cap, cur, rfl, hb, hh, hc, hm, hs, ht⟩
  · omega
  · have e : g' = g := by simpa [Value.ownBlock] using hg
    subst e
    have hblk : Blk w g' T cur := hh
    refine ⟨⟨by rw [flat_length hk, List.length_set], .inr ⟨g', cap, _, by rw [List.length_set], hb, hblk.set_ (k * sz + j) u, by rw [List.length_set]; exact hc, hm, by simpa using hs, ?_⟩⟩, fun k hk => h.fp k hk⟩
    rw [List.length_set, ← flat_set hk l k hl j hj u x hx, ← ht]
    rw [Array.toList_setIfInBounds, List.take_set]
/-- Behind an append. -/
theorem Row.push (h : Row w F T sz enc v l) (m : List α) (ho : w'.ownsRow 0 T sz v' (l.length + m.length) (flat enc l ++ flat enc m)) (hat : v'.ownBlock = v.ownBlock ∨ v'.ownBlock = some w.heap.size) :
    Row w' (Gr F w w') T sz enc v' (l ++ m) := ⟨by rw [flat_append, List.length_append]; exact ho, fun k hk => by
  have hlt := (ho.lt k hk).2
  rcases hat with e | e
  · exact .inl (h.fp k (e ▸ hk))
  · rw [hk] at e
    injection e with e
    exact .inr (by omega)⟩
end
theorem reads_newN (w : World) (t : TypeId) (sz : Nat) (xs : List Value) (n : Nat) (hn : xs.length = n * sz) : Reads (w.alloc (.cells xs.toArray t)) (w.heap.size + 1) sz (some ⟨w.heap.size, 0, none⟩) n xs :=
  ⟨hn, fun _ => ⟨_, rfl, by simp, cells_new w t xs⟩⟩
theorem reads_new4 (w : World) (t : TypeId) (xs : List Value) (hn : xs.length = 4) : Reads (w.alloc (.cells xs.toArray t)) (w.heap.size + 1) 4 (some ⟨w.heap.size, 0, none⟩) 1 xs := reads_newN w t 4 xs 1 (by omega)
theorem one_four (a b c d : Value) (h : (a.oneCell' && b.oneCell' && c.oneCell' && d.oneCell') = true) : ∀ u ∈ [a, b, c, d], u.oneCell' = true := by
  simp only [Bool.and_eq_true] at h
  intro u hu
  simp at hu
  rcases hu with rfl | rfl | rfl | rfl
  · exact h.1.1.1
  · exact h.1.1.2
  · exact h.1.2
  · exact h.2
theorem alloc_ge {B : Nat} {w : World} (h : B ≤ w.heap.size) (o : Obj) : B ≤ (w.alloc o).heap.size := by simp; omega
theorem Reads.pre {w : World} {B sz n m : Nat} {A : Option Addr} {xs : List Value} (h : Reads w B sz A m xs) (hn : n ≤ m) : Reads w B sz A n (xs.take (n * sz)) := by
  have hle : n * sz ≤ m * sz := Nat.mul_le_mul_right sz hn
  refine ⟨by rw [List.length_take, h.1]; omega, fun h0 => ?_⟩
  obtain ⟨ad, e, hb, hc⟩ := h.2 (by omega)
  refine ⟨ad, e, hb, fun j u hu => hc j u ?_⟩
  rw [List.getElem?_take] at hu
  split at hu
  · exact hu
  · cases hu
end Go.Proofs.Ytopdfhedifcalaa
