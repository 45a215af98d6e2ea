/- Words for the rows of bytes that DiskSectors keeps: one block of twelve slices, each in a block of its own. Conditions: those that each theorem names. -/
import Derived.Test.YtoihkanneiknkaaDkSc
import Derived.Test.YtoihkanneiknkaaDkH
import Derived.Test.YtoihkanneiknkaaSep
import Derived.ArgAppend
import Derived.Deep.RegionLaw
namespace Go.Proofs.Ytoihkanneiknkaa
open Go.RowKit

/-- Where a row lies: its block, its place in it, its room. -/
structure Rw where
  b : Nat
  o : Nat
  c : Nat
def rowV (r : Rw) (n : Nat) : Value := .slice (some ⟨r.b, r.o, none⟩) n r.c
structure RowAt (w : World) (r : Rw) (l : List UInt8) : Prop where
  pos : 1 ≤ l.length
  room : l.length ≤ r.c
  cap : r.c ≤ maxLen
  here : ∃ cur, Blk w r.b 5 cur ∧ r.o + r.c = cur.size ∧ (cur.toList.drop r.o).take l.length = bv l
section
variable {w w' : World} {r : Rw} {l : List UInt8} {F : Nat → Prop}
theorem RowAt.only (h : RowAt w r l) (ho : Only F w w') (hn : ¬ F r.b) : RowAt w' r l := by
  obtain ⟨cur, hb, hs, ht⟩ := h.here
  exact ⟨h.pos, h.room, h.cap, cur, hb.only ho hn, hs, ht⟩
theorem RowAt.lt (h : RowAt w r l) : r.b < w.heap.size := by
  obtain ⟨cur, hb, _, _⟩ := h.here
  exact hb.lt
theorem RowAt.cell (h : RowAt w r l) (j : Nat) (hj : j < l.length) : w.cell? ⟨r.b, r.o + j, none⟩ = some (.int .u8 (l[j].toNat : Int)) := by
  obtain ⟨cur, hb, hs, ht⟩ := h.here
  rw [hb.cell]
  have h1 : ((cur.toList.drop r.o).take l.length)[j]? = (bv l)[j]? := by rw [ht]
  rw [List.getElem?_take_of_lt hj, List.getElem?_drop, bv_get l j hj] at h1
  simpa using h1
theorem RowAt.reads (h : RowAt w r l) : Reads w w.heap.size 1 (some ⟨r.b, r.o, none⟩) l.length (bv l) := by
  refine ⟨by rw [bv_length, Nat.mul_one], fun _ => ⟨_, rfl, h.lt, fun j u hu => ?_⟩⟩
  have hj : j < l.length := by have := (List.getElem?_eq_some_iff.1 hu).1; rwa [bv_length] at this
  have ha : (⟨r.b, r.o, none⟩ : Addr).add j = ⟨r.b, r.o + j, none⟩ := by unfold Addr.add; split <;> simp_all
  rw [ha, h.cell j hj, ← hu, bv_get l j hj]
/-- The last element alone, where it lies. -/
theorem RowAt.last (h : RowAt w r l) : RowAt w ⟨r.b, r.o + (l.length - 1), r.c - (l.length - 1)⟩ (l.drop (l.length - 1)) := by
  obtain ⟨cur, hb, hs, ht⟩ := h.here
  have hp := h.pos
  have hr := h.room
  have hc := h.cap
  have hd : (l.drop (l.length - 1)).length = 1 := by rw [List.length_drop]; omega
  refine ⟨by omega, by rw [hd]; show 1 ≤ r.c - (l.length - 1); omega, by show r.c - (l.length - 1) ≤ maxLen; omega, cur, hb, by show r.o + (l.length - 1) + (r.c - (l.length - 1)) = cur.size; omega, ?_⟩
  show (cur.toList.drop (r.o + (l.length - 1))).take _ = _
  rw [hd, ← List.drop_drop]
  have h1 : bv (l.drop (l.length - 1)) = (bv l).drop (l.length - 1) := by simp only [bv, List.map_drop]
  rw [h1, ← ht, List.drop_take]
  congr 1
  omega
theorem rowAt_new (w : World) (x : UInt8) : RowAt (w.alloc (.cells #[.int .u8 (x.toNat : Int)] 5)) ⟨w.heap.size, 0, 1⟩ [x] :=
  ⟨by simp, by simp, by simp [maxLen], _, Blk.new w _ _, rfl, by simp [bv]⟩
/-- One byte more, in the row's room or in a new block. -/
theorem step_app_row {ops : Array Oper} {o : Oper} {a : Act} {K : Act → World → Prop} {Q : Exit → Act → World → Prop} {E : Prop} (hgd : o.guard = none) (s x : Operand)
    (ho : o.op = .call { callee := .builtin .append, args := #[s, x], argTypes := #[41, 41] })
    (hrow : RowAt w r l) (n : Nat) (hn : l.length = n) (hs : a.eval s = .slice (some ⟨r.b, r.o, none⟩) n r.c) (ad : Addr) (c : Nat) (y : UInt8) (hx : a.eval x = .slice (some ad) 1 c) (hy : w.cell? ad = some (.int .u8 (y.toNat : Int))) (hlen : l.length ≤ 1000)
    (h : ∀ r' w', Hid (RowAt w' r' (l ++ [y]) ∧ Only (fun q => q = r.b) w w' ∧ (r'.b = r.b ∨ w.heap.size ≤ r'.b)) → K (a.put o.dst (.slice (some ⟨r'.b, r'.o, none⟩) (n + 1) r'.c)) w') : if Region.wanted o (yielded ops a.tmps) = true then Oper.wp Try.prog o a w K Q else E := by
  have hw : Region.wanted o (yielded ops a.tmps) = true := by simp [Region.wanted, hgd]
  rw [if_pos hw]
  subst hn
  obtain ⟨i0, hi0, hz0, hz1, hz2⟩ := info_parts u8info
  obtain ⟨cur, hb, hsz, ht⟩ := hrow.here
  have hp := hrow.pos
  have hnews : ∀ j u, [Value.int .u8 (y.toNat : Int)][j]? = some u → w.cell? (ad.add j) = some u := by
    intro j u hu
    rcases j with _ | j
    · have h0 : ad.add 0 = ad := by unfold Addr.add; simp
      rw [h0, hy]
      simpa using hu
    · simp at hu
  have hct : cur.toList.length = cur.size := by simp
  by_cases hr : l.length + 1 ≤ r.c
  · have hcell : (w.cell? ⟨r.b, r.o + l.length, none⟩).isSome = true := by rw [hb.cell, Array.getElem?_eq_getElem (by omega)]; rfl
    have hrun := run_append_room_cells (P := Try.prog) w 41 o.type 5 i0 Try.underlying41 hi0 r.b r.o l.length r.c ad 1 c [.int .u8 (y.toNat : Int)] (by simp [hz1]) hnews (by simp [Value.oneCell']) hr
      (fun j hj => by
        have hj0 : j = 0 := by simpa using hj
        subst hj0
        simpa [hz1] using hcell) (fun j _ => hb.frozen _)
    unfold Oper.wp
    simp only [execOp, ho, resolve, invoke, builtin, hs, hx, hrun, Sem.run_bind, Sem.run_pure, Result.andThen_ok, List.map_toArray, List.map_cons, List.map_nil]
    have he : w.setCells r.b (r.o + l.length * i0.size) [.int .u8 (y.toNat : Int)] = w.setCell ⟨r.b, r.o + l.length, none⟩ (.int .u8 (y.toNat : Int)) := by
      rw [hz1]
      simp [World.setCells]
    rw [he]
    refine h r _ ⟨⟨by rw [List.length_append]; omega, by rw [List.length_append]; exact hr, hrow.cap, _, hb.set_ (r.o + l.length) _, by simp [hsz], ?_⟩, (Only.refl (fun q => q = r.b) w).setCell (p := ⟨r.b, r.o + l.length, none⟩) (.inl rfl) _, .inl rfl⟩
    rw [Array.toList_setIfInBounds, List.length_append, List.length_singleton, bv_append, ← ht, List.drop_set, if_neg (by omega), Nat.add_sub_cancel_left]
    have hdl : (cur.toList.drop r.o).length = r.c := by rw [List.length_drop, hct]; omega
    rw [List.take_succ_eq_append_getElem (show l.length < ((cur.toList.drop r.o).set l.length _).length by rw [List.length_set]; omega), List.take_set_of_le (Nat.le_refl _), List.getElem_set_self]
    rfl
  · obtain ⟨v', w', hrun, r1, r2⟩ := run_append_arg_grows (P := Try.prog) w 41 o.type 5 i0 (.int .u8 0) 1 1 Try.underlying41 hi0 hz0 hz1 hz2 rfl (by decide) ⟨r.b, r.o, none⟩ l.length r.c (bv l) (by rw [bv_length, Nat.mul_one])
      (fun j u hj => by
        have hj' : j < l.length := by have := (List.getElem?_eq_some_iff.1 hj).1; rwa [bv_length] at this
        rw [Addr.add_lit, hrow.cell j hj', ← hj, bv_get l j hj']) ad 1 c [.int .u8 (y.toNat : Int)] rfl hnews (by omega) (by unfold maxLen; omega) (by omega)
    unfold Oper.wp
    simp only [execOp, ho, resolve, invoke, builtin, hs, hx, hrun, Sem.run_bind, Sem.run_pure, Result.andThen_ok, List.map_toArray, List.map_cons, List.map_nil]
    rcases r1.2 with ⟨_, h0⟩ | ⟨g, cap, cur', rfl, hbg, hh, h1, h2, h3, h4⟩
    · omega
    · refine h ⟨g, 0, cap⟩ w' ⟨⟨by rw [List.length_append]; omega, by rw [List.length_append]; exact h1, h2, cur', hh, by show 0 + cap = cur'.size; omega, ?_⟩, ⟨r2.os, r2.tape, r2.output, r2.size, fun k hk _ => r2.block k hk (by simp)⟩, .inr hbg⟩
      show (cur'.toList.drop 0).take _ = _
      rw [List.drop_zero, List.length_append, List.length_singleton, bv_append]
      rw [Nat.mul_one] at h4
      rw [h4]
      rfl
end
/-- The cells of the block of rows: the first i rows lie, the others are nil. -/
def mayCells (i : Nat) (R : Nat → Rw) (M : Nat → List UInt8) : List Value := (List.range 12).map fun k => if k < i then rowV (R k) (M k).length else .slice none 0 0
structure MayAt (w : World) (gm i : Nat) (R : Nat → Rw) (M : Nat → List UInt8) : Prop where
  blk : Blk w gm 41 (mayCells i R M).toArray
  row : ∀ k, k < i → RowAt w (R k) (M k)
  apart : ∀ j k, j < i → k < i → j ≠ k → (R j).b ≠ (R k).b
/-- The blocks of all rows. -/
def MayB (gm i : Nat) (R : Nat → Rw) (q : Nat) : Prop := q = gm ∨ ∃ k, k < i ∧ q = (R k).b
theorem mayCells_length (i : Nat) (R : Nat → Rw) (M : Nat → List UInt8) : (mayCells i R M).length = 12 := by simp [mayCells]
theorem mayCells_get {i k : Nat} (R : Nat → Rw) (M : Nat → List UInt8) (hk : k < 12) : (mayCells i R M)[k]? = some (if k < i then rowV (R k) (M k).length else .slice none 0 0) := by
  simp [mayCells, List.getElem?_range hk]
section
variable {w w' : World} {gm i : Nat} {R : Nat → Rw} {M : Nat → List UInt8} {F : Nat → Prop}
theorem MayAt.only (h : MayAt w gm i R M) (ho : Only F w w') (hn : ∀ q, MayB gm i R q → ¬ F q) : MayAt w' gm i R M :=
  ⟨h.blk.only ho (hn _ (.inl rfl)), fun k hk => (h.row k hk).only ho (hn _ (.inr ⟨k, hk, rfl⟩)), h.apart⟩
theorem MayAt.below (h : MayAt w gm i R M) (hb : Below w.heap.size w w') : MayAt w' gm i R M := h.only (Only.of_below (F := fun _ => False) hb) fun _ _ => id
theorem MayAt.lt (h : MayAt w gm i R M) : ∀ q, MayB gm i R q → q < w.heap.size := fun q hq => by
  rcases hq with rfl | ⟨k, hk, rfl⟩
  · exact h.blk.lt
  · exact (h.row k hk).lt
theorem MayAt.ne (h : MayAt w gm i R M) (k : Nat) (hk : k < i) : (R k).b ≠ gm := by
  obtain ⟨cur, hb, _, _⟩ := (h.row k hk).here
  exact fun e => hb.ne_ h.blk (by decide) e
theorem MayAt.cell (h : MayAt w gm i R M) (k : Nat) (hk : k < i) (h12 : k < 12) : w.cell? ⟨gm, k, none⟩ = some (rowV (R k) (M k).length) := by
  rw [h.blk.cell]
  have := mayCells_get (i := i) R M h12
  rw [if_pos hk] at this
  simpa using this
theorem MayAt.there (h : MayAt w gm i R M) (k : Nat) (h12 : k < 12) : ∃ u, w.cell? ⟨gm, k, none⟩ = some u := by
  rw [h.blk.cell]
  exact ⟨_, by have := mayCells_get (i := i) R M h12; simpa using this⟩
/-- A row k is laid anew: its slice goes into the block of rows. -/
theorem MayAt.lay (h : MayAt w gm i R M) (k : Nat) (hk : k < i) (_h12 : i ≤ 12) (r' : Rw) (l' : List UInt8) (ho : Only (fun q => q = (R k).b) w w') (hr : RowAt w' r' l') (hb : r'.b = (R k).b ∨ w.heap.size ≤ r'.b) :
    MayAt (w'.setCell ⟨gm, k, none⟩ (rowV r' l'.length)) gm i (fun j => if j = k then r' else R j) (fun j => if j = k then l' else M j) := by
  have hkg := h.ne k hk
  have hblk : Blk w' gm 41 (mayCells i R M).toArray := h.blk.only ho (fun e => hkg e.symm)
  have ho2 := (Only.refl (fun q => q = gm) w').setCell (p := ⟨gm, k, none⟩) (.inl rfl) (rowV r' l'.length)
  have hr'g : r'.b ≠ gm := by
    obtain ⟨cur, hb', _, _⟩ := hr.here
    exact fun e => hb'.ne_ hblk (by decide) e
  refine ⟨?_, fun j hj => ?_, fun a b ha hb2 hab => ?_⟩
  · have h1 := hblk.set_ k (rowV r' l'.length)
    have e : (mayCells i (fun j => if j = k then r' else R j) (fun j => if j = k then l' else M j)).toArray = (mayCells i R M).toArray.setIfInBounds k (rowV r' l'.length) := by
      apply Array.ext_getElem?
      intro j
      rw [Array.getElem?_setIfInBounds]
      by_cases hj : j < 12
      · by_cases hjk : k = j
        · subst hjk
          rw [if_pos rfl, if_pos (by simp [mayCells_length]; omega)]
          have := mayCells_get (i := i) (fun j => if j = k then r' else R j) (fun j => if j = k then l' else M j) hj
          rw [if_pos hk] at this
          simpa using this
        · rw [if_neg hjk]
          have h1 := mayCells_get (i := i) (fun j => if j = k then r' else R j) (fun j => if j = k then l' else M j) hj
          have h2 := mayCells_get (i := i) R M hj
          have hjk' : ¬ j = k := fun e => hjk e.symm
          simp only [if_neg hjk'] at h1
          simpa using h1.trans h2.symm
      · have l1 := mayCells_length i (fun j => if j = k then r' else R j) (fun j => if j = k then l' else M j)
        have l2 := mayCells_length i R M
        rw [Array.getElem?_eq_none (by simp [l1]; omega)]
        split
        · split
          · rename_i h1 h2
            simp [l2] at h2
            omega
          · rfl
        · rw [Array.getElem?_eq_none (by simp [l2]; omega)]
    rw [e]
    exact h1
  · try dsimp only
    by_cases hjk : j = k
    · rw [if_pos hjk, if_pos hjk]
      exact hr.only ho2 hr'g
    · rw [if_neg hjk, if_neg hjk]
      exact ((h.row j hj).only ho (h.apart j k hj hk hjk)).only ho2 (h.ne j hj)
  · try dsimp only
    have lta := (h.row a ha).lt
    have ltb := (h.row b hb2).lt
    by_cases hak : a = k
    · rw [if_pos hak, if_neg (fun e => hab (hak.trans e.symm))]
      rcases hb with e | e
      · rw [e]
        exact h.apart k b hk hb2 (fun e => hab (hak.trans e))
      · omega
    · rw [if_neg hak]
      by_cases hbk : b = k
      · rw [if_pos hbk]
        rcases hb with e | e
        · rw [e]
          exact h.apart a k ha hk hak
        · omega
      · rw [if_neg hbk]
        exact h.apart a b ha hb2 hab
/-- The next row is laid. -/
theorem MayAt.next (h : MayAt w gm i R M) (hi : i < 12) (r' : Rw) (ho : Below w.heap.size w w') (hr : RowAt w' r' (M i)) (hb : w.heap.size ≤ r'.b) :
    MayAt (w'.setCell ⟨gm, i, none⟩ (rowV r' (M i).length)) gm (i + 1) (fun j => if j = i then r' else R j) M := by
  have h' := h.below ho
  have hblk := h'.blk
  have ho2 := (Only.refl (fun q => q = gm) w').setCell (p := ⟨gm, i, none⟩) (.inl rfl) (rowV r' (M i).length)
  have hr'g : r'.b ≠ gm := by have := h.blk.lt; omega
  refine ⟨?_, fun j hj => ?_, fun a b ha hb2 hab => ?_⟩
  · have h1 := hblk.set_ i (rowV r' (M i).length)
    have e : (mayCells (i + 1) (fun j => if j = i then r' else R j) M).toArray = (mayCells i R M).toArray.setIfInBounds i (rowV r' (M i).length) := by
      apply Array.ext_getElem?
      intro j
      rw [Array.getElem?_setIfInBounds]
      by_cases hj : j < 12
      · by_cases hjk : i = j
        · subst hjk
          rw [if_pos rfl, if_pos (by simp [mayCells_length]; omega)]
          have := mayCells_get (i := i + 1) (fun j => if j = i then r' else R j) M hj
          rw [if_pos (by omega), if_pos rfl] at this
          simpa using this
        · rw [if_neg hjk]
          have h1 := mayCells_get (i := i + 1) (fun j => if j = i then r' else R j) M hj
          have h2 := mayCells_get (i := i) R M hj
          have hjk' : ¬ j = i := fun e => hjk e.symm
          simp only [if_neg hjk'] at h1
          have e3 : (j < i + 1) = (j < i) := propext ⟨fun h => by omega, fun h => by omega⟩
          simp only [e3] at h1
          simpa using h1.trans h2.symm
      · have l1 := mayCells_length (i + 1) (fun j => if j = i then r' else R j) M
        have l2 := mayCells_length i R M
        rw [Array.getElem?_eq_none (by simp [l1]; omega)]
        split
        · split
          · rename_i h1 h2
            simp [l2] at h2
            omega
          · rfl
        · rw [Array.getElem?_eq_none (by simp [l2]; omega)]
    rw [e]
    exact h1
  · try dsimp only
    by_cases hjk : j = i
    · rw [if_pos hjk, hjk]
      exact hr.only ho2 hr'g
    · rw [if_neg hjk]
      exact (h'.row j (by omega)).only ho2 (h'.ne j (by omega))
  · try dsimp only
    by_cases hak : a = i
    · rw [if_pos hak, if_neg (fun e => hab (hak.trans e.symm))]
      have := (h.row b (by omega)).lt
      omega
    · rw [if_neg hak]
      have := (h.row a (by omega)).lt
      by_cases hbk : b = i
      · rw [if_pos hbk]
        omega
      · rw [if_neg hbk]
        exact h.apart a b (by omega) (by omega) hab
end
theorem last_facts {w : World} {r : Rw} {l : List UInt8} {k : Nat} (h : RowAt w r l) (hl : l.length ≤ k) (hk : k ≤ 50) :
    ∃ t : Nat, l.length = t + 1 ∧ wrap64 (t : Int) = (t : Int) ∧ IntKind.i64.wrap (t : Int) = (t : Int) ∧ (t : Int) ≤ (r.c : Int) ∧ (t : Int) ≤ (t : Int) + 1 ∧ ¬ r.c = t := by
  have h1 := h.pos
  have h2 := h.room
  refine ⟨l.length - 1, by omega, ?_, IntWalk.i64_in _ (by omega), by omega, by omega, by omega⟩
  rw [← IntWalk.i64_left, IntWalk.i64_in _ (by omega)]
/-- M with one byte more in the rows from a on, j of them. -/
def MJ (M : Nat → List UInt8) (a j : Nat) (x : UInt8) : Nat → List UInt8 := fun q => if a ≤ q ∧ q < a + j then M q ++ [x] else M q
theorem MJ_zero (M : Nat → List UInt8) (a : Nat) (x : UInt8) : MJ M a 0 x = M := by
  funext q
  unfold MJ
  rw [if_neg (by omega)]
theorem MJ_at (M : Nat → List UInt8) (a j : Nat) (x : UInt8) : MJ M a j x (a + j) = M (a + j) := by
  unfold MJ
  rw [if_neg (by omega)]
theorem MJ_succ (M : Nat → List UInt8) (a j : Nat) (x : UInt8) : (fun q => if q = a + j then M (a + j) ++ [x] else MJ M a j x q) = MJ M a (j + 1) x := by
  funext q
  unfold MJ
  by_cases h : q = a + j
  · rw [if_pos h, if_pos (by omega), h]
  · rw [if_neg h]
    by_cases h2 : a ≤ q ∧ q < a + j
    · rw [if_pos h2, if_pos (by omega)]
    · rw [if_neg h2, if_neg (by omega)]
/-- M with the last byte alone in the first j rows. -/
def MK (M : Nat → List UInt8) (j : Nat) : Nat → List UInt8 := fun q => if q < j then (M q).drop ((M q).length - 1) else M q
theorem MK_zero (M : Nat → List UInt8) : MK M 0 = M := by
  funext q
  unfold MK
  rw [if_neg (by omega)]
theorem MK_at (M : Nat → List UInt8) (j : Nat) : MK M j j = M j := by
  unfold MK
  rw [if_neg (by omega)]
theorem MK_succ (M : Nat → List UInt8) (j : Nat) : (fun q => if q = j then (M j).drop ((M j).length - 1) else MK M j q) = MK M (j + 1) := by
  funext q
  unfold MK
  by_cases h : q = j
  · rw [if_pos h, if_pos (by omega), h]
  · rw [if_neg h]
    by_cases h2 : q < j
    · rw [if_pos h2, if_pos (by omega)]
    · rw [if_neg h2, if_neg (by omega)]
theorem may_none (R : Nat → Rw) (M : Nat → List UInt8) : mayCells 0 R M = List.replicate 12 (.slice none 0 0) := by
  simp [mayCells, List.map_const']
end Go.Proofs.Ytoihkanneiknkaa
