/- The library's sort on a row of numbers of the call's own. Conditions: that the row lies in memory. -/
import Derived.Test.YtopdfhedifcalaaLrLaid
import Derived.Test.YtopdfhedifcalaaLrG
import Derived.Lib.SortBridge
namespace Go.Proofs.Ytopdfhedifcalaa
open Go.RowKit Go.Shelf Go.Sort

theorem Blk.setCells {g : Nat} {t : TypeId} : ∀ (vs : List Value) (o : Nat) {w : World} {cs : Array Value}, Blk w g t cs → ∃ cs', Blk (w.setCells g o vs) g t cs' ∧ cs'.size = cs.size ∧ ∀ i, i < cs.size → cs'[i]? = if o ≤ i ∧ i < o + vs.length then vs[i - o]? else cs[i]?
  | [], o, w, cs, h => ⟨cs, h, rfl, fun i hi => by rw [if_neg (by simp)]⟩
  | v :: vs, o, w, cs, h => by
    obtain ⟨cs', h1, h2, h3⟩ := Blk.setCells vs (o + 1) (h.set_ o v)
    refine ⟨cs', h1, by rw [h2]; simp, fun i hi => ?_⟩
    rw [h3 i (by simpa using hi)]
    by_cases h4 : o + 1 ≤ i ∧ i < o + 1 + vs.length
    · rw [if_pos h4, if_pos (by simp; omega), show i - o = (i - (o + 1)) + 1 from by omega, List.getElem?_cons_succ]
    · rw [if_neg h4]
      by_cases h5 : i = o
      · subst h5
        rw [if_pos (by simp), Nat.sub_self]
        simp [hi]
      · rw [if_neg (by simp; omega), Array.getElem?_setIfInBounds_ne (Ne.symm h5)]
theorem setCells_other {g : Nat} : ∀ (vs : List Value) (o : Nat) (w : World) (k : Nat), k ≠ g → (w.setCells g o vs).heap[k]? = w.heap[k]?
  | [], _, _, _, _ => rfl
  | v :: vs, o, w, k, hk => (setCells_other vs (o + 1) _ k hk).trans (Below.heap_setCell w ⟨g, o, none⟩ v k hk)
theorem setCells_rest {g : Nat} : ∀ (vs : List Value) (o : Nat) (w : World), (w.setCells g o vs).os = w.os ∧ (w.setCells g o vs).tape = w.tape ∧ (w.setCells g o vs).output = w.output ∧ (w.setCells g o vs).heap.size = w.heap.size
  | [], _, _ => ⟨rfl, rfl, rfl, rfl⟩
  | v :: vs, o, w => by
    obtain ⟨h1, h2, h3, h4⟩ := setCells_rest vs (o + 1) (w.setCell ⟨g, o, none⟩ v)
    exact ⟨h1, h2, h3, h4.trans (by simp [World.setCell])⟩
theorem grow_block (w : World) (os : Array Obj) (k : Nat) (hk : k < w.heap.size) : (grow w os).heap[k]? = w.heap[k]? := by
  unfold grow
  exact Array.getElem?_append_left hk

/-- Sorted. -/
def sortI (l : List Int) : List Int := l.mergeSort fun x y => decide (x ≤ y)
theorem sortI_len (l : List Int) : (sortI l).length = l.length := List.length_mergeSort l
theorem sortI_rise {l : List Int} (h : l.Nodup) : (sortI l).Pairwise (· < ·) ∧ ∀ a, a ∈ sortI l ↔ a ∈ l := by
  have hp : (sortI l).Perm l := List.mergeSort_perm l _
  have hs : (sortI l).Pairwise (fun a b => decide (a ≤ b) = true) := List.pairwise_mergeSort (fun a b c => by simp; omega) (fun a b => by simp; omega) l
  have hn : (sortI l).Nodup := hp.nodup_iff.2 h
  refine ⟨?_, fun a => hp.mem_iff⟩
  refine List.Pairwise.imp₂ (fun a b h1 h2 => ?_) hs hn
  have h1' : a ≤ b := by simpa using h1
  have h2' : a ≠ b := h2
  omega
theorem sortI_risen {l : List Int} (h : l.Nodup) : sortI l = LU.risen l := by
  obtain ⟨h1, h2⟩ := sortI_rise h
  obtain ⟨h3, h4⟩ := LU.risen_is l h
  exact LU.rise_eq h1 h3 fun a => (h2 a).trans (h4 a).symm

/-- Behind a sort of the row v. -/
def Sorted' (w : World) (base : Nat) (v : Value) (l : List Int) (w' : World) : Prop := IntRow w' base v (sortI l) ∧ w.grownBy w' v.ownBlock
theorem sort_introw {w : World} {base n : Nat} {A : Option Addr} {c : Nat} {l : List Int} (h : IntRow w base (.slice A n c) l) (hn : l.length = n) (hl : n ≤ 4096) :
    Calls Try.prog 31 #[.slice A n c] w fun e w' => e = .returned (.tuple #[]) ∧ Sorted' w base (.slice A n c) l w' := by
  subst hn
  by_cases h0 : l.length = 0
  · have hl0 : l = [] := List.eq_nil_of_length_eq_zero h0
    subst hl0
    refine (AnyM.slices_Sort_int_none isortLaid A c w).mono ?_
    rintro e w' ⟨he, rfl⟩
    exact ⟨he, by rw [show sortI [] = [] from by simp [sortI]]; exact h, World.grownBy.refl _ _⟩
  rcases h.2 with ⟨e, h1⟩ | ⟨g, cap, cur, e, hb, hh, hnc, hcm, hcs, ht⟩
  · exact absurd h1 h0
  injection e with e1 e2 e3
  subst e1 e3
  have hblk : Blk w g 3 cur := hh
  have hcell : ∀ j (hj : j < l.length), cur[j]? = some (.int .i64 (l[j])) := fun j hj => by
    have h1 : (cur.toList.take (l.length * 1))[j]? = (l.map (Value.int .i64))[j]? := by rw [ht]
    rw [List.getElem?_take_of_lt (by omega), Array.getElem?_toList] at h1
    rw [h1]
    simp [hj]
  have hH : Holds (Value.int .i64) w g 0 l.toArray := by
    intro j hj
    have hj' : j < l.length := by simpa using hj
    refine ⟨?_, hblk.frozen _⟩
    rw [Nat.zero_add, hblk.cell, hcell j hj']
    simp [hj']
  refine (AnyM.slices_Sort_int isortLaid g 0 c l w hH hblk.lt (by omega)).mono ?_
  rintro e w' ⟨he, q, os, rfl⟩
  refine ⟨he, ?_⟩
  have hw := Lib.sorted_world (Value.int .i64) w g 0 q l.toArray (sortI l) os hH (by simp [sortI_len])
  rw [show (l.mergeSort fun x y => decide (x ≤ y)).toArray = (sortI l).toArray from rfl, hw]
  have hlen : ((sortI l).map (Value.int .i64)).length = l.length := by simp [sortI_len]
  obtain ⟨cs', k1, k2, k3⟩ := Blk.setCells ((sortI l).map (Value.int .i64)) 0 (hblk.drewN q)
  obtain ⟨m1, m2, m3, m4⟩ := setCells_rest (g := g) ((sortI l).map (Value.int .i64)) 0 (w.drewN q)
  have hsz : l.length ≤ cur.size := by rw [hcs]; omega
  refine ⟨⟨by simp, .inr ⟨g, c, cs', by rw [sortI_len], hb, (grow_block _ os g (by rw [m4]; exact hblk.lt)).trans k1, by rw [sortI_len]; exact hnc, hcm, by rw [k2]; exact hcs, ?_⟩⟩, ?_⟩
  · refine List.ext_getElem? fun j => ?_
    rw [sortI_len, Nat.mul_one]
    by_cases hj : j < l.length
    · rw [List.getElem?_take_of_lt hj, Array.getElem?_toList, k3 j (by omega), if_pos (by rw [hlen]; omega), Nat.sub_zero]
    · rw [List.getElem?_eq_none (by simp; omega), List.getElem?_eq_none (by rw [hlen]; omega)]
  · refine ⟨m1, m2, m3, by unfold grow; simp; rw [m4]; exact Nat.le_add_right _ _, fun k hk hne => ?_⟩
    rw [grow_block _ os k (by rw [m4]; exact hk), setCells_other _ _ _ _ (fun e => hne (by rw [e]; rfl))]
    rfl
end Go.Proofs.Ytopdfhedifcalaa
