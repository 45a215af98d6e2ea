/- Contracts of the landed list's New, and of every call of a nil list. Conditions: those that each theorem names. -/
import Derived.Test.YtopdfhedifcalaaLrJ
namespace Go.Proofs.Ytopdfhedifcalaa
open Go.RowKit

set_option maxHeartbeats 1000000 in
theorem lru_new_bad (c : Int) (w : World) (hc : c < 1 ∨ 4096 < c) :
    Calls Try.prog 8 #[.int .i64 c] w fun e w' => e = .returned (.tuple #[.pointer none, .int .i64 1]) ∧ w = w' := by
  rcases hc with hc | hc
  · go_enter Try.func8, Try.ntmps8
    go_wp2
    go_ret2
    exact ⟨rfl, rfl⟩
  · have h1 : ¬ c < 1 := by omega
    go_enter Try.func8, Try.ntmps8
    go_wp2
    go_ret2
    exact ⟨rfl, rfl⟩

/-- The world behind New. -/
def newW (w : World) (c : Nat) : World := (w.alloc (.map #[] 0)).alloc (.cells #[.int .i64 (c : Int), .pointer (some ⟨w.heap.size + 1, 1, none⟩), .pointer (some ⟨w.heap.size + 1, 1, none⟩), .int .i64 0, .int .i64 0, .bool false, .map (some w.heap.size)] 57)
/-- Blocks from here on. -/
def From (w w' : World) (k : Nat) : Prop := w.heap.size ≤ k ∧ k < w'.heap.size
theorem new_at (w : World) (c : Nat) (h2 : c ≤ 4096) : LruAt (newW w c).drew (From w (newW w c).drew) (w.heap.size + 1) ⟨c, []⟩ ∧ Below w.heap.size w (newW w c).drew := by
  have hb : Blk (newW w c) (w.heap.size + 1) 57 #[.int .i64 (c : Int), .pointer (some ⟨w.heap.size + 1, 1, none⟩), .pointer (some ⟨w.heap.size + 1, 1, none⟩), .int .i64 0, .int .i64 0, .bool false, .map (some w.heap.size)] := by
    have := Blk.new (w.alloc (.map #[] 0)) 57 #[.int .i64 (c : Int), .pointer (some ⟨w.heap.size + 1, 1, none⟩), .pointer (some ⟨w.heap.size + 1, 1, none⟩), .int .i64 0, .int .i64 0, .bool false, .map (some w.heap.size)]
    rw [World.size_alloc] at this
    exact this
  have hs : (newW w c).heap.size = w.heap.size + 2 := by simp [newW]
  have hm : (newW w c).ownsMap Try.prog 3 ptrR w.heap.size 0 (.map []) := (World.ownsMap_made w Try.prog 3 ptrR).alloc _
  have hbel : Below w.heap.size w (newW w c) := ((Below.refl _ w).alloc (Nat.le_refl _) _).alloc (by simp) _
  have hF : ∀ k, k = w.heap.size ∨ k = w.heap.size + 1 → From w (newW w c).drew k := fun k hk => by
    have : (newW w c).drew.heap.size = w.heap.size + 2 := hs
    unfold From
    omega
  refine ⟨⟨⟨c, w.heap.size, .map [], []⟩, rfl, ⟨⟨_, hb⟩, hF _ (.inr rfl), (hb.cell 0).trans rfl, (hb.cell 6).trans rfl, (fun x hx => by cases hx), ⟨⟨(hb.cell 2).trans rfl, (hb.cell 1).trans rfl⟩, trivial⟩, by simp⟩, ⟨hF _ (.inl rfl), hm, Maps.tidy_empty, rfl, fun k z => rfl⟩, ⟨by simp [LU.keys, LM.st], by simp [LM.st]⟩, h2⟩, ⟨hbel.os, hbel.tape, hbel.output, hbel.size, hbel.block⟩⟩

/-- What New leaves. -/
def MadeL (w : World) (s : LU) (e : Ending) (w' : World) : Prop := ∃ g, e = .returned (.tuple #[.pointer (some ⟨g, 0, none⟩), .int .i64 0]) ∧ LruAt w' (From w w') g s ∧ Below w.heap.size w w' ∧ w.heap.size ≤ g ∧ g < w'.heap.size
set_option maxHeartbeats 1000000 in
theorem lru_new_ok (c : Nat) (w : World) (h1 : 1 ≤ c) (h2 : c ≤ 4096) :
    Calls Try.prog 8 #[.int .i64 (c : Int)] w (MadeL w ⟨c, []⟩) := by
  have h1' : (1 : Int) ≤ (c : Int) := by omega
  have h2' : (c : Int) ≤ 4096 := by omega
  have hmm := @run_makeMap Try.prog
  have HN := Lib.hid (new_at w c h2)
  have HS : Hid (w.heap.size + 1 < (newW w c).drew.heap.size) := Lib.hid (by show _ < (newW w c).heap.size; simp [newW])
  clear h1 h2
  go_enter Try.func8, Try.ntmps8
  go_wp2
  go_region_held3 (fun _ => True) (trivial) (fail)
  all_goals go_wp2
  go_ret2
  exact ⟨_, rfl, HN.out.1, HN.out.2, Nat.le_succ _, HS.out⟩

/-! ### A nil list -/
set_option maxHeartbeats 1000000 in
theorem nil_find (k : Int) (w : World) : Calls Try.prog 29 #[.pointer none, .int .i64 k] w fun e w' => e = .returned (.pointer none) ∧ w = w' := by
  go_enter Try.func29, Try.ntmps29
  go_wp2
  go_ret
  exact ⟨rfl, rfl⟩
set_option maxHeartbeats 1000000 in
theorem nil_has (k : Int) (w : World) : Calls Try.prog 11 #[.pointer none, .int .i64 k] w fun e w' => e = .returned (.bool false) ∧ w = w' := by
  go_enter Try.func11, Try.ntmps11
  go_wp2_with (go_at_call 29; refine (nil_find _ _).mono ?_; rintro e w1 ⟨rfl, rfl⟩)
  go_ret
  exact ⟨rfl, rfl⟩
set_option maxHeartbeats 1000000 in
theorem nil_use (k : Int) (w : World) : Calls Try.prog 18 #[.pointer none, .int .i64 k] w fun e w' => e = .returned (.bool false) ∧ w = w' := by
  go_enter Try.func18, Try.ntmps18
  go_wp2_with (go_at_call 29; refine (nil_find _ _).mono ?_; rintro e w1 ⟨rfl, rfl⟩)
  go_ret
  exact ⟨rfl, rfl⟩
set_option maxHeartbeats 1000000 in
theorem nil_drop (k : Int) (w : World) : Calls Try.prog 22 #[.pointer none, .int .i64 k] w fun e w' => e = .returned (.bool false) ∧ w = w' := by
  go_enter Try.func22, Try.ntmps22
  go_wp2_with (go_at_call 29; refine (nil_find _ _).mono ?_; rintro e w1 ⟨rfl, rfl⟩)
  go_ret
  exact ⟨rfl, rfl⟩
set_option maxHeartbeats 1000000 in
theorem nil_pin (k : Int) (w : World) : Calls Try.prog 20 #[.pointer none, .int .i64 k] w fun e w' => e = .returned (.bool false) ∧ w = w' := by
  go_enter Try.func20, Try.ntmps20
  go_wp2_with (go_at_call 29; refine (nil_find _ _).mono ?_; rintro e w1 ⟨rfl, rfl⟩)
  go_ret
  exact ⟨rfl, rfl⟩
set_option maxHeartbeats 1000000 in
theorem nil_unpin (k : Int) (w : World) : Calls Try.prog 23 #[.pointer none, .int .i64 k] w fun e w' => e = .returned (.bool false) ∧ w = w' := by
  go_enter Try.func23, Try.ntmps23
  go_wp2_with (go_at_call 29; refine (nil_find _ _).mono ?_; rintro e w1 ⟨rfl, rfl⟩)
  go_ret
  exact ⟨rfl, rfl⟩
set_option maxHeartbeats 1000000 in
theorem nil_mark (k : Int) (on : Bool) (w : World) : Calls Try.prog 24 #[.pointer none, .int .i64 k, .bool on] w fun e w' => e = .returned (.bool false) ∧ w = w' := by
  go_enter Try.func24, Try.ntmps24
  go_wp2_with (go_at_call 29; refine (nil_find _ _).mono ?_; rintro e w1 ⟨rfl, rfl⟩)
  go_ret
  exact ⟨rfl, rfl⟩
set_option maxHeartbeats 1000000 in
theorem nil_add (k : Int) (w : World) : Calls Try.prog 19 #[.pointer none, .int .i64 k] w fun e w' => e = .returned (.tuple #[.int .i64 0, .bool false, .int .i64 1]) ∧ w = w' := by
  go_enter Try.func19, Try.ntmps19
  go_wp2
  go_ret3
  exact ⟨rfl, rfl⟩

/-! ### The calls over the abstract list alone -/
section
variable {w : World} {F : Nat → Prop} {p : Nat} {s : LU}
/-- Behind a call: its answer, and the list. -/
def Did (w : World) (F : Nat → Prop) (p : Nat) (v : Value) (s : LU) (e : Ending) (w' : World) : Prop := e = .returned v ∧ LruAt w' (Gr F w w') p s ∧ Only F w w'
theorem did_of {v : Value} {e : Ending} {w' : World} (he : e = .returned v) (ht : Turned w F p s w') : Did w F p v s e w' := ⟨he, ht.1.mono fun _ hj => .inl hj, ht.2⟩
/-- No key is pinned without end. -/
def PinsLe (s : LU) (n : Nat) : Prop := ∀ x ∈ s.items, x.pins ≤ n
theorem pins_fr {L : LM} {n : Nat} (h : PinsLe L.st n) : ∀ x ∈ L.fr, x.pins ≤ n := fun x hx => h x.it (List.mem_map.2 ⟨x, hx, rfl⟩)
theorem at_has (h : LruAt w F p s) (k : Int) (hk : (Lit.int .i64 k).wf = true) : Calls Try.prog 11 #[.pointer (some ⟨p, 0, none⟩), .int .i64 k] w fun e w' => e = .returned (.bool (s.has k)) ∧ w = w' := by
  obtain ⟨L, rfl, hL⟩ := h
  exact lru_has k hk hL
theorem at_use (h : LruAt w F p s) (k : Int) (hk : (Lit.int .i64 k).wf = true) : Calls Try.prog 18 #[.pointer (some ⟨p, 0, none⟩), .int .i64 k] w (Did w F p (.bool (s.use k).2) (s.use k).1) := by
  obtain ⟨L, rfl, hL⟩ := h
  exact (lru_use k hk hL).mono fun e w' ⟨h1, h2⟩ => did_of h1 h2
theorem at_drop (h : LruAt w F p s) (k : Int) (hk : (Lit.int .i64 k).wf = true) : Calls Try.prog 22 #[.pointer (some ⟨p, 0, none⟩), .int .i64 k] w (Did w F p (.bool (s.drop k).2) (s.drop k).1) := by
  obtain ⟨L, rfl, hL⟩ := h
  exact (lru_drop k hk hL).mono fun e w' ⟨h1, h2⟩ => did_of h1 h2
theorem at_pin (h : LruAt w F p s) (hp : PinsLe s 1152921504606846976) (k : Int) (hk : (Lit.int .i64 k).wf = true) : Calls Try.prog 20 #[.pointer (some ⟨p, 0, none⟩), .int .i64 k] w (Did w F p (.bool (s.pin k).2) (s.pin k).1) := by
  obtain ⟨L, rfl, hL⟩ := h
  exact (lru_pin k hk hL (pins_fr hp)).mono fun e w' ⟨h1, h2⟩ => did_of h1 h2
theorem at_unpin (h : LruAt w F p s) (hp : PinsLe s 1152921504606846976) (k : Int) (hk : (Lit.int .i64 k).wf = true) : Calls Try.prog 23 #[.pointer (some ⟨p, 0, none⟩), .int .i64 k] w (Did w F p (.bool (s.unpin k).2) (s.unpin k).1) := by
  obtain ⟨L, rfl, hL⟩ := h
  exact (lru_unpin k hk hL (pins_fr hp)).mono fun e w' ⟨h1, h2⟩ => did_of h1 h2
theorem at_mark (h : LruAt w F p s) (k : Int) (on : Bool) (hk : (Lit.int .i64 k).wf = true) : Calls Try.prog 24 #[.pointer (some ⟨p, 0, none⟩), .int .i64 k, .bool on] w (Did w F p (.bool (s.mark k on).2) (s.mark k on).1) := by
  obtain ⟨L, rfl, hL⟩ := h
  exact (lru_mark k on hk hL).mono fun e w' ⟨h1, h2⟩ => did_of h1 h2
theorem at_add (h : LruAt w F p s) (k : Int) (hk : (Lit.int .i64 k).wf = true) : Calls Try.prog 19 #[.pointer (some ⟨p, 0, none⟩), .int .i64 k] w (Did w F p (addV s k) (s.add k).1) := by
  obtain ⟨L, rfl, hL⟩ := h
  exact (lru_add hk hL).mono fun e w' ⟨h1, h2⟩ => ⟨h1, h2⟩
theorem at_oldest (h : LruAt w F p s) : Calls Try.prog 21 #[.pointer (some ⟨p, 0, none⟩)] w fun e w' => e = .returned (oldV s) ∧ Below w.heap.size w w' := by
  obtain ⟨L, rfl, hL⟩ := h
  exact lru_oldest hL
theorem at_keys (h : LruAt w F p s) : Calls Try.prog 13 #[.pointer (some ⟨p, 0, none⟩)] w fun e w' => ∃ v, e = .returned v ∧ IntRow w' w.heap.size v s.keys ∧ Below w.heap.size w w' := by
  obtain ⟨L, rfl, hL⟩ := h
  exact lru_keys hL
theorem at_marked (h : LruAt w F p s) : Calls Try.prog 16 #[.pointer (some ⟨p, 0, none⟩)] w fun e w' => ∃ v, e = .returned v ∧ IntRow w' w.heap.size v s.marked ∧ Below w.heap.size w w' := by
  obtain ⟨L, rfl, hL⟩ := h
  exact lru_marked hL
theorem LruAt.ok (h : LruAt w F p s) : s.Ok := by
  obtain ⟨L, rfl, hL⟩ := h
  exact hL.ok
theorem LruAt.cap (h : LruAt w F p s) : s.cap ≤ 4096 := by
  obtain ⟨L, rfl, hL⟩ := h
  exact hL.cap
theorem LruAt.lt (h : LruAt w F p s) : p < w.heap.size ∧ F p := by
  obtain ⟨L, rfl, hL⟩ := h
  exact ⟨hL.ring.kp.lt, hL.ring.fp⟩
end
end Go.Proofs.Ytopdfhedifcalaa
