/- Plain facts on the abstract disk whose power stays on: there is never more in it than room, and what a refusal for want of room means. Conditions: those that each theorem names. -/
import Derived.Test.YtoihkanneiknkaaDkF
namespace Go.Proofs.Ytoihkanneiknkaa

theorem sum_set (l : List RF) (k : Nat) (f y : RF) (h : l[k]? = some f) : ((l.set k y).map (·.now.length)).sum + f.now.length = (l.map (·.now.length)).sum + y.now.length := by
  induction l generalizing k with
  | nil => simp at h
  | cons x l ih =>
    cases k with
    | zero =>
      simp at h
      subst h
      simp only [List.set_cons_zero, List.map_cons, List.sum_cons]
      omega
    | succ k =>
      have := ih k (by simpa using h)
      simp only [List.set_cons_succ, List.map_cons, List.sum_cons]
      omega
theorem find_file {s : RD} {nm : ByteArray} {k : Nat} (h : s.find nm = some k) : ∃ f, s.files[k]? = some f ∧ f.name = nm ∧ s.had nm = f.now.length := by
  obtain ⟨h1, h2, _⟩ := pos_some.1 h
  have hk : k < s.files.length := by simpa [RD.names] using h1
  refine ⟨s.files[k], List.getElem?_eq_getElem hk, ?_, ?_⟩
  · rw [← h2]
    simp [RD.names]
  · unfold RD.had
    rw [h]
    simp [List.getElem?_eq_getElem hk]
theorem sum_setF {s : RD} {nm : ByteArray} {k : Nat} (h : s.find nm = some k) (g : RF → RF) (n : Nat) (hg : ∀ f, s.files[k]? = some f → (g f).now.length = n) : (s.setF k g).sum + s.had nm = s.sum + n := by
  obtain ⟨f, h1, h2, h3⟩ := find_file h
  unfold RD.setF RD.sum
  rw [h1, h3, ← hg f h1]
  exact sum_set s.files k f (g f) h1

/-- The power is on, no loss is armed, and there is room for what is there. -/
structure Roomy (s : RD) (rm : Int) : Prop where
  down : s.down = false
  armed : s.armed = false
  room : s.room = rm
  sum : (s.sum : Int) ≤ rm
section
variable {s : RD} {room : Int}
theorem Roomy.free (h : Roomy s room) : s.free = room - s.sum := by
  have := h.sum
  unfold RD.free
  rw [h.room]
  omega
theorem Roomy.stops (h : Roomy s room) : s.stops = false := by unfold RD.stops; rw [h.armed]; rfl
theorem roomy_new (room : Int) (h : 0 ≤ room) : Roomy (RD.new room) room := ⟨rfl, rfl, rfl, by simpa [RD.new, RD.sum] using h⟩
/-- What a write that grows a file asks for is there. -/
def Grows (s : RD) (nm : ByteArray) (at' : Int) (n : Nat) : Prop := 0 ≤ at' ∧ at' ≤ s.had nm ∧ 0 < n ∧ (s.had nm : Int) < at' + n
theorem fits_seven {nm : ByteArray} {n : Nat} (h : s.fits nm n = 7) : s.had nm < n ∧ s.room < (s.sum : Int) - s.had nm + n := by
  unfold RD.fits at h
  split at h
  · cases h
  split at h
  · assumption
  · cases h
theorem fits_room {nm : ByteArray} {n : Nat} (h : s.fits nm n = 0) : ¬ (s.had nm < n ∧ s.room < (s.sum : Int) - s.had nm + n) := by
  unfold RD.fits at h
  split at h
  · cases h
  split at h
  · cases h
  · assumption
theorem Roomy.write (h : Roomy s room) (nm : ByteArray) (at' : Int) (b : List UInt8) :
    Roomy (s.write nm at' b).1 room ∧ ((s.write nm at' b).2 = 7 → Grows s nm at' b.length ∧ s.free < at' + b.length - s.had nm ∧ (s.write nm at' b).1 = s) ∧
      ((s.write nm at' b).2 = 0 → Grows s nm at' b.length → at' + b.length - s.had nm ≤ s.free) := by
  unfold RD.write
  split
  · exact ⟨h, (fun e => by cases e), (fun e => by cases e)⟩
  rw [h.down]
  rw [if_neg (by simp)]
  split
  · exact ⟨h, (fun e => by cases e), (fun e => by cases e)⟩
  rename_i hat
  split
  · rename_i hb
    subst hb
    exact ⟨h, (fun e => by cases e), fun _ g => absurd g.2.2.1 (by simp)⟩
  rename_i hb
  have hbl : 0 < b.length := List.length_pos_iff.2 hb
  split
  · rename_i hf
    refine ⟨h, fun e => ?_, fun e => absurd e hf⟩
    have h1 := fits_seven e
    rw [h.free]
    rw [h.room] at h1
    refine ⟨⟨by omega, by omega, hbl, by omega⟩, by omega, rfl⟩
  rename_i hf
  have hf0 : s.fits nm (max (s.had nm) (at'.toNat + b.length)) = 0 := Classical.byContradiction fun e => hf e
  have h1 := fits_room hf0
  rw [h.stops, if_neg (by simp)]
  have hsm := h.sum
  refine ⟨⟨?_, ?_, ?_, ?_⟩, (fun e => by cases e), fun _ g => ?_⟩
  · show (RD.setF (s.ticked.made nm) (s.at_ nm) (fun f => { f with now := layB f.now at'.toNat b })).down = false
    have e1 : (s.ticked.made nm).down = s.down := by unfold RD.made; split <;> rfl
    exact e1.trans h.down
  · show (RD.setF (s.ticked.made nm) (s.at_ nm) (fun f => { f with now := layB f.now at'.toNat b })).armed = false
    have e1 : (s.ticked.made nm).armed = s.armed := by unfold RD.made; split <;> rfl
    exact e1.trans h.armed
  · show (RD.setF (s.ticked.made nm) (s.at_ nm) (fun f => { f with now := layB f.now at'.toNat b })).room = room
    have e1 : (s.ticked.made nm).room = s.room := by unfold RD.made; split <;> rfl
    exact e1.trans h.room
  · have h2 := sum_setF (made_find s.ticked nm) (fun f => { f with now := layB f.now at'.toNat b }) (max (s.had nm) (at'.toNat + b.length)) fun f hf => by
      obtain ⟨f', e1, _, e3⟩ := find_file (made_find s.ticked nm)
      have e4 : s.ticked.at_ nm = s.at_ nm := rfl
      rw [e4] at e1 hf
      rw [e1] at hf
      injection hf with hf
      subst hf
      show (layB _ _ _).length = _
      rw [layB_length, ← e3, had_made]
      rfl
    rw [had_made, made_sum] at h2
    have e1 : s.ticked.had nm = s.had nm := rfl
    have e2 : s.ticked.sum = s.sum := rfl
    have e3 : s.ticked.at_ nm = s.at_ nm := rfl
    rw [e1, e2, e3] at h2
    show ((RD.setF (s.ticked.made nm) (s.at_ nm) (fun f => { f with now := layB f.now at'.toNat b })).sum : Int) ≤ room
    rw [h.room] at h1
    omega
  · have g1 := g.1
    have g2 := g.2.2.2
    rw [h.free]
    rw [h.room] at h1
    omega
theorem Roomy.cut (h : Roomy s room) (nm : ByteArray) (n : Int) : Roomy (s.cut nm n).1 room := by
  unfold RD.cut
  split
  · exact h
  split
  · exact h
  split
  · exact h
  rename_i i hi
  split
  · exact h
  rename_i hn
  rw [h.stops, if_neg (by simp)]
  have h2 := sum_setF (s := s.ticked) (nm := nm) (k := i) hi (fun f => { f with now := f.now.take n.toNat }) (min n.toNat (s.had nm)) fun f hf => by
    obtain ⟨f', e1, _, e3⟩ := find_file (s := s.ticked) (nm := nm) hi
    rw [e1] at hf
    injection hf with hf
    subst hf
    show (List.take _ _).length = _
    rw [List.length_take, ← e3]
    rfl
  have e1 : s.ticked.had nm = s.had nm := rfl
  have e2 : s.ticked.sum = s.sum := rfl
  rw [e1, e2] at h2
  have hsm := h.sum
  refine ⟨h.down, ?_, h.room, ?_⟩
  · exact h.armed
  · show ((RD.setF s.ticked i (fun f => { f with now := f.now.take n.toNat })).sum : Int) ≤ room
    omega
theorem Roomy.sync (h : Roomy s room) (nm : ByteArray) : Roomy (s.sync nm).1 room := by
  unfold RD.sync
  split
  · exact h
  split
  · exact h
  split
  · exact h
  rename_i i hi
  rw [h.stops, if_neg (by simp)]
  have h2 := sum_setF (s := s.ticked) (nm := nm) (k := i) hi (fun f => { f with safe := f.now, sure := true }) (s.had nm) fun f hf => by
    obtain ⟨f', e1, _, e3⟩ := find_file (s := s.ticked) (nm := nm) hi
    rw [e1] at hf
    injection hf with hf
    subst hf
    exact e3.symm
  have e1 : s.ticked.had nm = s.had nm := rfl
  have e2 : s.ticked.sum = s.sum := rfl
  rw [e1, e2] at h2
  have hsm := h.sum
  refine ⟨h.down, h.armed, h.room, ?_⟩
  show ((RD.setF s.ticked i (fun f => { f with safe := f.now, sure := true })).sum : Int) ≤ room
  omega
theorem Roomy.size (h : Roomy s room) (nm : ByteArray) : max 0 (s.size nm) = (s.had nm : Int) := by
  unfold RD.size
  rw [h.down]
  by_cases hf : s.find nm = none
  · rw [if_pos (.inr hf)]
    unfold RD.had
    rw [hf]
    rfl
  · rw [if_neg (by simp [hf])]
    omega
end
end Go.Proofs.Ytoihkanneiknkaa
