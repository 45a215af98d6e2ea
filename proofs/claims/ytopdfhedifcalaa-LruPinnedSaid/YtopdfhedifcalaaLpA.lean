/- Words for the law LruPinned: the list with a pinned key. Conditions: those that each theorem names. -/
import Derived.Test.YtopdfhedifcalaaLrL
import Derived.Test.YtopdfhedifcalaaDoC
namespace Go.Proofs.Ytopdfhedifcalaa
open Go.RowKit
section
variable {n p m : Nat} {w w1 : World} {s : LU} {pn k : Int}
/-- The list of the call's own, its capacity, its pinned key, how often keys are pinned. -/
structure PinM (n : Nat) (w : World) (p : Nat) (s : LU) (m : Nat) (pn : Int) (j : Nat) : Prop where
  new : NewL n w p s
  cap : s.cap = 1 + m
  pin : s.Pinned pn
  le : PinsLe s j
/-- What a call leaves that keeps it. -/
structure PinS (s' : LU) (m : Nat) (pn : Int) (j : Nat) : Prop where
  cap : s'.cap = 1 + m
  pin : s'.Pinned pn
  le : PinsLe s' j
theorem PinM.below {j : Nat} (h : PinM n w p s m pn j) (hb : Below w.heap.size w w1) : PinM n w1 p s m pn j := ⟨h.new.below hb, h.cap, h.pin, h.le⟩
theorem PinS.of {j : Nat} {s' : LU} (h : PinS s' m pn j) (hn : NewL n w1 p s') : PinM n w1 p s' m pn j := ⟨hn, h.cap, h.pin, h.le⟩
theorem PinM.has {j : Nat} (h : PinM n w p s m pn j) (hp : Num pn) : Calls Try.prog 11 #[.pointer (some ⟨p, 0, none⟩), .int .i64 pn] w fun e w' => e = .returned (.bool true) ∧ w = w' := by
  have := new_has h.new pn hp
  rw [h.pin.has] at this
  exact this
/-- Keys: as many as there are. -/
def KeysN (w : World) (s : LU) (e : Ending) (w' : World) : Prop := ∃ A c, e = .returned (.slice A s.items.length c) ∧ Below w.heap.size w w'
theorem PinM.keys {j : Nat} (h : PinM n w p s m pn j) : Calls Try.prog 13 #[.pointer (some ⟨p, 0, none⟩)] w (KeysN w s) :=
  (new_keys h.new).mono fun e w' ⟨A, c, h1, _, h3⟩ => ⟨A, c, by rw [← LU.keys_length]; exact h1, h3⟩
theorem PinM.few {j : Nat} (h : PinM n w p s m pn j) : (s.items.length : Int) ≤ 1 + (m : Int) := by
  have h1 := h.new.ok.1.len
  rw [h.cap] at h1
  omega
/-- Oldest: whether there is one. -/
theorem oldV_is (s : LU) : ∃ a, oldV s = .tuple #[.int .i64 a, .bool s.oldest.isSome] := by
  unfold oldV
  cases s.oldest with
  | none => exact ⟨0, rfl⟩
  | some x => exact ⟨x.key, rfl⟩
/-- Add's four ways. -/
theorem add_ways (s : LU) (k : Int) : (∃ s', s.add k = (s', 0, false, 1)) ∨ (s.items.length = s.cap ∧ s.oldest = none ∧ ∃ s', s.add k = (s', 0, false, 9)) ∨
    (s.items.length ≠ s.cap ∧ ∃ s', s.add k = (s', 0, false, 0)) ∨ (s.items.length = s.cap ∧ ∃ s' g, s.add k = (s', g, true, 0)) := by
  cases hh : s.has k with
  | true => exact .inl ⟨_, add_has hh⟩
  | false =>
    by_cases hl : s.items.length = s.cap
    · cases ho : s.oldest with
      | none => exact .inr (.inl ⟨hl, rfl, _, add_full hh hl ho⟩)
      | some x => exact .inr (.inr (.inr ⟨hl, _, _, add_gone hh hl ho⟩))
    · exact .inr (.inr (.inl ⟨hl, _, add_free hh hl⟩))
theorem PinM.add {j : Nat} (h : PinM n w p s m pn j) (k : Int) : PinS (s.add k).1 m pn (j + 1) := ⟨(LU.cap_add s k).trans h.cap, (h.pin.add h.new.ok.1 k).1, (h.le.add k).mono (Nat.le_succ j)⟩
theorem PinM.drop {j : Nat} (h : PinM n w p s m pn j) (k : Int) : PinS (s.drop k).1 m pn (j + 1) := ⟨(LU.cap_drop s k).trans h.cap, (h.pin.drop h.new.ok.1 k).1, (h.le.drop k).mono (Nat.le_succ j)⟩
theorem PinM.dropped {j : Nat} (h : PinM n w p s m pn j) (k : Int) (hd : (s.drop k).2 = true) : k ≠ pn := (h.pin.drop h.new.ok.1 k).2 hd
theorem PinM.gone {j : Nat} (h : PinM n w p s m pn j) (k : Int) {s' : LU} {g : Int} (hd : s.add k = (s', g, true, 0)) : g ≠ pn := by
  have := (h.pin.add h.new.ok.1 k).2
  rw [hd] at this
  exact this rfl
theorem PinM.pin_ {j : Nat} (h : PinM n w p s m pn j) (k : Int) : PinS (s.pin k).1 m pn (j + 1) := ⟨(LU.cap_pin s k).trans h.cap, h.pin.pin k, h.le.pin k⟩
theorem PinM.unpin {j : Nat} (h : PinM n w p s m pn j) (k : Int) (hk : k ≠ pn) : PinS (s.unpin k).1 m pn (j + 1) := ⟨(LU.cap_unpin s k).trans h.cap, h.pin.unpin hk, (h.le.unpin k).mono (Nat.le_succ j)⟩
theorem PinM.use {j : Nat} (h : PinM n w p s m pn j) (k : Int) : PinS (s.use k).1 m pn (j + 1) := ⟨(LU.cap_use s k).trans h.cap, h.pin.use h.new.ok.1 k, (h.le.use k).mono (Nat.le_succ j)⟩
theorem PinM.stay {j : Nat} (h : PinM n w p s m pn j) : PinM n w p s m pn (j + 1) := ⟨h.new, h.cap, h.pin, h.le.mono (Nat.le_succ j)⟩
/-- The first key, pinned. -/
theorem first_pin (m : Nat) (pn : Int) : LU.add ⟨1 + m, []⟩ pn = (⟨1 + m, [⟨pn, 0, false⟩]⟩, 0, false, 0) ∧ LU.pin ⟨1 + m, [⟨pn, 0, false⟩]⟩ pn = (⟨1 + m, [⟨pn, 1, false⟩]⟩, true) := by
  refine ⟨?_, ?_⟩
  · have : ¬ 0 = 1 + m := by omega
    simp [LU.add, LU.has, LU.put, this]
  · simp [LU.pin, LU.upd, LU.has]
theorem pin_start (h : NewL n w p ⟨1 + m, [⟨pn, 1, false⟩]⟩) : PinM n w p ⟨1 + m, [⟨pn, 1, false⟩]⟩ m pn 1 :=
  ⟨h, rfl, ⟨_, List.mem_singleton.2 rfl, rfl, Nat.zero_lt_one⟩, fun x hx => by rw [List.mem_singleton.1 hx]; exact Nat.le_refl 1⟩
/-- Drop, and what the call itself laid down since stays. -/
theorem new_drop_keep {w0 : World} (h : NewL n w0 p s) (hb : Below w0.heap.size w0 w) (hn : n ≤ w.heap.size) (hk : Num k) : Calls Try.prog 22 #[.pointer (some ⟨p, 0, none⟩), .int .i64 k] w fun e w' =>
    DidN n w p (.bool (s.drop k).2) (s.drop k).1 e w' ∧ ∀ j o, w0.heap.size ≤ j → j < w.heap.size → w'.cell? ⟨j, o, none⟩ = w.cell? ⟨j, o, none⟩ := by
  obtain ⟨F, h1, h2⟩ := h
  refine (at_drop (h1.below hb) k hk).mono fun e w' hd => ⟨did_new (fun k hk => ⟨(h2 k hk).1, Nat.lt_of_lt_of_le (h2 k hk).2 hb.size⟩) hn hd, fun j o hj hl => ?_⟩
  exact hd.2.2.cell (p := ⟨j, o, none⟩) hl fun hf => by have := (h2 j hf).2; omega
end
end Go.Proofs.Ytopdfhedifcalaa
