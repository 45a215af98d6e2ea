/- Plain facts on the list of keys by places: what a call does at the place of its key. Conditions: the places are in the list. -/
import Derived.Test.YtopdfhedifcalaaLrModel
namespace Go.Proofs.Ytopdfhedifcalaa
namespace LU
theorem pair_ne {s : LU} (h : Ok s) : s.items.Pairwise (fun a b => a.key ≠ b.key) := List.pairwise_map.1 h.nodup
theorem eraseP_at : ∀ {l : List It} (i : Nat) (hi : i < l.length), l.Pairwise (fun a b => a.key ≠ b.key) → l.eraseP (fun x => x.key == l[i].key) = l.eraseIdx i
  | [], _, h, _ => by simp at h
  | a :: l, 0, _, _ => by simp
  | a :: l, i + 1, hi, hn => by
    rw [List.pairwise_cons] at hn
    have hi' : i < l.length := by simpa using hi
    have : ¬ (a.key == l[i].key) = true := by simpa using hn.1 l[i] (List.getElem_mem _)
    rw [List.eraseP_cons_of_neg (by simpa using this), List.eraseIdx_cons_succ]
    congr 1
    exact eraseP_at i hi' hn.2
theorem find_at : ∀ {l : List It} (i : Nat) (hi : i < l.length), l.Pairwise (fun a b => a.key ≠ b.key) → l.find? (fun x => x.key == l[i].key) = some l[i]
  | [], _, h, _ => by simp at h
  | a :: l, 0, _, _ => by simp
  | a :: l, i + 1, hi, hn => by
    rw [List.pairwise_cons] at hn
    have hi' : i < l.length := by simpa using hi
    have : ¬ (a.key == l[i].key) = true := by simpa using hn.1 l[i] (List.getElem_mem _)
    rw [List.find?_cons_of_neg (by simpa using this)]
    exact find_at i hi' hn.2
theorem map_at {f : It → It} : ∀ {l : List It} (i : Nat) (hi : i < l.length), l.Pairwise (fun a b => a.key ≠ b.key) → (l.map fun x => if x.key = l[i].key then f x else x) = l.set i (f l[i])
  | [], _, h, _ => by simp at h
  | a :: l, 0, _, hn => by
    rw [List.pairwise_cons] at hn
    rw [List.map_cons, List.set_cons_zero]
    congr 1
    · exact if_pos rfl
    · refine (List.map_congr_left fun x hx => ?_).trans (List.map_id l)
      exact if_neg (fun e => hn.1 x hx (Eq.symm e))
  | a :: l, i + 1, hi, hn => by
    rw [List.pairwise_cons] at hn
    have hi' : i < l.length := by simpa using hi
    rw [List.map_cons, List.set_cons_succ]
    congr 1
    · exact if_neg (hn.1 l[i] (List.getElem_mem _))
    · exact map_at i hi' hn.2
variable {s : LU}
theorem out_at (h : Ok s) {i : Nat} (hi : i < s.items.length) : s.out s.items[i].key = { s with items := s.items.eraseIdx i } := by
  unfold LU.out; rw [eraseP_at i hi (pair_ne h)]
theorem get_at (h : Ok s) {i : Nat} (hi : i < s.items.length) : s.get s.items[i].key = some s.items[i] := find_at i hi (pair_ne h)
theorem upd_at (h : Ok s) {i : Nat} (hi : i < s.items.length) (f : It → It) : s.upd s.items[i].key f = { s with items := s.items.set i (f s.items[i]) } := by
  unfold LU.upd; rw [map_at i hi (pair_ne h)]
theorem has_at {i : Nat} (hi : i < s.items.length) : s.has s.items[i].key = true := (has_keys s _).2 (List.mem_map.2 ⟨_, List.getElem_mem _, rfl⟩)
/-- Where a key lies; none: no place has it. -/
theorem place (s : LU) (k : Int) : (∃ i, ∃ h : i < s.items.length, s.items[i].key = k) ∨ (s.has k = false ∧ ∀ i (h : i < s.items.length), s.items[i].key ≠ k) := by
  by_cases hh : s.has k = true
  · obtain ⟨x, hx, hk⟩ := List.mem_map.1 ((has_keys s k).1 hh)
    obtain ⟨i, hi, he⟩ := List.getElem_of_mem hx
    exact .inl ⟨i, hi, by rw [he]; exact hk⟩
  · exact .inr ⟨by simpa using hh, fun i h e => hh (by rw [← e]; exact has_at h)⟩
theorem get_none {k : Int} (h : s.has k = false) : s.get k = none := by
  rw [has_get] at h
  cases hg : s.get k with
  | none => rfl
  | some x => rw [hg] at h; cases h
theorem upd_none {k : Int} (h : s.has k = false) (f : It → It) : s.upd k f = s := by
  unfold LU.upd
  have : (s.items.map fun x => if x.key = k then f x else x) = s.items := by
    refine (List.map_congr_left fun x hx => ?_).trans (List.map_id _)
    exact if_neg (fun e => by rw [(has_keys s k).2 (List.mem_map.2 ⟨x, hx, e⟩)] at h; cases h)
  rw [this]
theorem use_at (h : Ok s) {i : Nat} (hi : i < s.items.length) : s.use s.items[i].key = ({ s with items := s.items.eraseIdx i ++ [s.items[i]] }, true) := by
  unfold LU.use; rw [get_at h hi]; simp only [out_at h hi, LU.put]
theorem use_none {k : Int} (h : s.has k = false) : s.use k = (s, false) := by unfold LU.use; rw [get_none h]
theorem drop_at (h : Ok s) {i : Nat} (hi : i < s.items.length) : s.drop s.items[i].key = if 0 < s.items[i].pins then (s, false) else ({ s with items := s.items.eraseIdx i }, true) := by
  unfold LU.drop; rw [get_at h hi]; simp only [out_at h hi]
theorem drop_none {k : Int} (h : s.has k = false) : s.drop k = (s, false) := by unfold LU.drop; rw [get_none h]
theorem unpin_at (h : Ok s) {i : Nat} (hi : i < s.items.length) : s.unpin s.items[i].key = if 0 < s.items[i].pins then ({ s with items := s.items.set i { s.items[i] with pins := s.items[i].pins - 1 } }, true) else (s, false) := by
  unfold LU.unpin; rw [get_at h hi]; simp only [upd_at h hi]
theorem unpin_none {k : Int} (h : s.has k = false) : s.unpin k = (s, false) := by unfold LU.unpin; rw [get_none h]
theorem pin_at (h : Ok s) {i : Nat} (hi : i < s.items.length) : s.pin s.items[i].key = ({ s with items := s.items.set i { s.items[i] with pins := s.items[i].pins + 1 } }, true) := by
  unfold LU.pin; rw [upd_at h hi, has_at hi]
theorem pin_none {k : Int} (h : s.has k = false) : s.pin k = (s, false) := by unfold LU.pin; rw [upd_none h, h]
theorem mark_at (h : Ok s) {i : Nat} (hi : i < s.items.length) (on : Bool) : s.mark s.items[i].key on = ({ s with items := s.items.set i { s.items[i] with marked := on } }, true) := by
  unfold LU.mark; rw [upd_at h hi, has_at hi]
theorem mark_none {k : Int} (h : s.has k = false) (on : Bool) : s.mark k on = (s, false) := by unfold LU.mark; rw [upd_none h, h]
end LU
end Go.Proofs.Ytopdfhedifcalaa
