/- Parts that were lent one behind the other: the same bytes, each with its mark, and what keeps them. No conditions but those that are named. -/
import Derived.Test.YtmnaaffiebighaaLent
import Derived.Test.YtmnaaffiebighaaParts
namespace Go.Proofs.Ytmnaaffiebighaa
open Go.RowKit

def pval (q : Part) : Value := .slice q.1 q.2.1.length q.2.2
theorem LentAt.grown {w w' : World} {base : Nat} {v : Value} {l : List UInt8} {row : Option Nat} (h : LentAt w base v l) (hg : w.grownBy w' row) (hne : v.ownBlock ≠ row) : LentAt w' base v l := by
  obtain ⟨g, cap, cur, rfl, h1, hh, h2⟩ := h
  have hblk : Blk w g 5 cur := hh
  exact ⟨g, cap, cur, rfl, h1, hblk.grown hg (by simpa [Value.ownBlock] using hne), h2⟩
theorem LentAt.base {w : World} {base base' : Nat} {v : Value} {l : List UInt8} (h : LentAt w base v l) (hb : base' ≤ base) : LentAt w base' v l := by
  obtain ⟨g, cap, cur, rfl, h1, h2⟩ := h
  exact ⟨g, cap, cur, rfl, by omega, h2⟩
theorem LentAt.block {w : World} {base : Nat} {v : Value} {l : List UInt8} (h : LentAt w base v l) : ∃ g cur, v.ownBlock = some g ∧ Blk w g 5 cur ∧ base ≤ g := by
  obtain ⟨g, cap, cur, rfl, h1, h2, _⟩ := h
  exact ⟨g, cur, by simp [Value.ownBlock], h2, h1⟩

/-- The parts that were lent so far: the same bytes, each with its mark, apart from the row v. -/
def Lents (w : World) (base : Nat) (v : Value) (ps qs : List Part) (k : Nat) : Prop :=
  qs.length = k ∧ ∀ (j : Nat) (q : Part), qs[j]? = some q → ∃ p, ps[j]? = some p ∧ q.2.1 = p.2.1 ∧ LentAt w base (pval q) p.2.1 ∧ v.ownBlock ≠ (pval q).ownBlock

theorem Lents.call {w w' : World} {base k : Nat} {v : Value} {ps qs : List Part} (h : Lents w base v ps qs k) (hb : Below w.heap.size w w') : Lents w' base v ps qs k :=
  ⟨h.1, fun j q hq => by
    obtain ⟨p, h1, h2, h3, h4⟩ := h.2 j q hq
    exact ⟨p, h1, h2, h3.below hb, h4⟩⟩
theorem Lents.longer {w w' : World} {base k : Nat} {v v' : Value} {ps qs : List Part} (h : Lents w base v ps qs k) (hg : w.grownBy w' v.ownBlock) (hv : v'.ownBlock = v.ownBlock ∨ v'.ownBlock = some w.heap.size) : Lents w' base v' ps qs k :=
  ⟨h.1, fun j q hq => by
    obtain ⟨p, h1, h2, h3, h4⟩ := h.2 j q hq
    obtain ⟨g, cur, hg1, hg2, _⟩ := h3.block
    refine ⟨p, h1, h2, h3.grown hg (fun e => h4 e.symm), ?_⟩
    rcases hv with hv | hv
    · rw [hv]; exact h4
    · rw [hv, hg1]
      intro e
      injection e with e
      have := hg2.lt
      omega⟩
theorem Lents.other {w w' : World} {base k : Nat} {v u : Value} {ps qs : List Part} {base' e size n : Nat} {xs : List Value} (h : Lents w base v ps qs k) (hg : w.grownBy w' u.ownBlock) (hu : w.ownsRow base' e size u n xs) (he : e ≠ 5) : Lents w' base v ps qs k :=
  ⟨h.1, fun j q hq => by
    obtain ⟨p, h1, h2, h3, h4⟩ := h.2 j q hq
    obtain ⟨g, cur, hg1, hg2, _⟩ := h3.block
    exact ⟨p, h1, h2, h3.grown hg (by rw [hg1]; exact fun e' => own_blk_ne hu hg2 he e'.symm), h4⟩⟩
theorem Lents.snoc {w : World} {base k : Nat} {v : Value} {ps qs : List Part} {q p : Part} (h : Lents w base v ps qs k) (hp : ps[k]? = some p) (he : q.2.1 = p.2.1) (hl : LentAt w base (pval q) p.2.1) (hv : v.ownBlock ≠ (pval q).ownBlock) : Lents w base v ps (qs ++ [q]) (k + 1) :=
  ⟨by simp [h.1], fun j q' hq => by
    rcases Nat.lt_or_ge j qs.length with hj | hj
    · rw [List.getElem?_append_left hj] at hq
      exact h.2 j q' hq
    · rw [List.getElem?_append_right hj] at hq
      have hj0 : j - qs.length = 0 := by
        have := (List.getElem?_eq_some_iff.1 hq).1
        simpa using this
      rw [hj0] at hq
      simp at hq
      subst hq
      have : j = k := by have := h.1; omega
      subst this
      exact ⟨p, hp, he, hl, hv⟩⟩
theorem Lents.flat_eq {w : World} {base : Nat} {v : Value} {ps qs : List Part} (h : Lents w base v ps qs ps.length) : flat qs = flat ps := by
  have e : qs.map (fun p => p.2.1) = ps.map (fun p => p.2.1) := by
    apply List.ext_getElem?
    intro j
    rw [List.getElem?_map, List.getElem?_map]
    rcases Nat.lt_or_ge j qs.length with hj | hj
    · obtain ⟨p, h1, h2, _⟩ := h.2 j qs[j] (List.getElem?_eq_getElem hj)
      rw [List.getElem?_eq_getElem hj, h1]
      simp [h2]
    · rw [List.getElem?_eq_none hj, List.getElem?_eq_none (by have := h.1; omega)]
  have f : ∀ l : List Part, flat l = (l.map (fun p => p.2.1)).flatten := fun l => by
    simp [flat, List.flatMap]
  rw [f, f, e]
theorem Lents.parts {w : World} {base k : Nat} {v : Value} {ps qs : List Part} (h : Lents w base v ps qs k) (hb : (flat ps).length ≤ 1048576) : PartsRead w w.heap.size qs := by
  intro j q hq
  obtain ⟨p, h1, h2, h3, _⟩ := h.2 j q hq
  obtain ⟨g, cap, e, hr⟩ := h3.reads
  unfold pval at e
  injection e with e1 e2 e3
  refine ⟨by rw [e1, h2]; exact hr, ?_⟩
  have hj := (List.getElem?_eq_some_iff.1 h1).1
  have hp := (List.getElem?_eq_some_iff.1 h1).2
  have := flat_length_take ps j hj
  rw [hp] at this
  rw [h2]
  omega
end Go.Proofs.Ytmnaaffiebighaa
