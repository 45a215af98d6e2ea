/- Words for an array of bytes in a block of its own: it is copied into; whole arrays are compared. Conditions: those that each theorem names. -/
import Derived.Test.YtgpjhcpiemdbcaaSep
import Derived.Test.YtgpjhcpiemdbcaaPgMath
import Derived.Laws.CopyOwn
import Derived.Laws.StructEq
import Derived.Deep.WholeRow
import Derived.Deep.MidRow
import Derived.ChangeKeysEq
import Derived.WalkKit
namespace Go.Proofs.Ytgpjhcpiemdbcaa
open Go.RowKit

theorem only_setRow (w : World) (g : Nat) (cs : Array Value) : Only (fun k => k = g) w (w.setRow g cs) :=
  ⟨rfl, rfl, rfl, by simp [World.setRow], fun k _ hk => setRow_other w g k cs (fun e => hk e)⟩
theorem wpList_copy_blk {P : Program} {w : World} {ops : Array Oper} {rest : List Oper} {o : Oper} {a : Act} {Q : Exit → Act → World → Prop} (hgd : o.guard = none) (d s : Operand) (dT sT : TypeId)
    (ho : o.op = .call { callee := .builtin .copy, args := #[d, s], argTypes := #[dT, sT] }) (elem : TypeId) (hu : P.underlying dT = some (.slice elem)) (hsz : (P.info? elem).map (·.size) = some 1)
    (dp sp : Option Addr) (dLen dCap sLen sCap : Nat) (hd : a.eval d = .slice dp dLen dCap) (hs : a.eval s = .slice sp sLen sCap)
    (g off : Nat) (cur : List Value) (t : TypeId) (hg : Blk w g t cur.toArray) (cs : List Value) (hn : cs.length = Nat.min sLen dLen)
    (hpos : 0 < cs.length → dp = some ⟨g, off, none⟩ ∧ ∃ ad, sp = some ad ∧ ∀ j v, cs[j]? = some v → w.cell? (ad.add j) = some v)
    (hfit : off + cs.length ≤ cur.length) (h1 : ∀ v ∈ cs, v.oneCell' = true)
    (h : ∀ w', Hid (Blk w' g t (splice cur off cs).toArray ∧ Only (fun k => k = g) w w' ∧ w'.heap.size = w.heap.size) → wpList P ops Q rest (a.put o.dst (goInt cs.length)) w') :
    wpList P ops Q (o :: rest) a w := by
  by_cases h0 : cs.length = 0
  · obtain rfl : cs = [] := List.eq_nil_of_length_eq_zero h0
    refine wpList_copy_nothing hgd d s dT sT ho elem hu hsz dp sp dLen dCap sLen sCap hd hs (by simpa using hn.symm) ?_
    exact h w ⟨by simpa [splice] using hg, Only.refl _ _, rfl⟩
  · obtain ⟨rfl, ad, rfl, hsrc⟩ := hpos (by omega)
    refine wpList_copy_own hgd d s dT sT ho elem hu hsz g off dLen dCap ad sLen sCap hd hs cur.toArray t hg cs hn hsrc (by simpa using hfit) h1 ?_
    exact h _ ⟨by simpa [splice, Blk] using setRow_heap w g _ _ t _ hg, only_setRow _ _ _, by simp [World.setRow]⟩
theorem wp_store_blk {P : Program} {w : World} {o : Oper} {a : Act} {K : Act → World → Prop} {Q : Exit → Act → World → Prop} (ty : TypeId) (x y : Operand) (ho : o.op = .store ty x y)
    (g : Nat) (cells : Array Value) (hx : a.eval x = .pointer (some ⟨g, 0, none⟩)) (hy : a.eval y = .agg cells)
    (t : TypeId) (old : Array Value) (hg : Blk w g t old) (hi : (P.info? ty).map (·.size) = some cells.size)
    (hold : old.size = cells.size) (h1 : cells.all (·.oneCell') = true)
    (h : ∀ w', Hid (Blk w' g t cells ∧ Only (fun k => k = g) w w' ∧ w'.heap.size = w.heap.size) → K (a.put o.dst undef) w') : Oper.wp P o a w K Q :=
  wp_store_row ty x y ho g cells hx hy t old hg hi hold h1 (h _ ⟨setRow_heap w g old _ t _ hg, only_setRow _ _ _, by simp [World.setRow]⟩)
theorem wpList_store_blk {P : Program} {w : World} {ops : Array Oper} {rest : List Oper} {o : Oper} {a : Act} {Q : Exit → Act → World → Prop} (hgd : o.guard = none) (ty : TypeId) (x y : Operand) (ho : o.op = .store ty x y)
    (g : Nat) (cells : Array Value) (hx : a.eval x = .pointer (some ⟨g, 0, none⟩)) (hy : a.eval y = .agg cells)
    (t : TypeId) (old : Array Value) (hg : Blk w g t old) (hi : (P.info? ty).map (·.size) = some cells.size)
    (hold : old.size = cells.size) (h1 : cells.all (·.oneCell') = true)
    (h : ∀ w', Hid (Blk w' g t cells ∧ Only (fun k => k = g) w w' ∧ w'.heap.size = w.heap.size) → wpList P ops Q rest (a.put o.dst undef) w') : wpList P ops Q (o :: rest) a w :=
  wpList_plain hgd fun _ hK => wp_store_row ty x y ho g cells hx hy t old hg hi hold h1 (hK _ _ (h _ ⟨setRow_heap w g old _ t _ hg, only_setRow _ _ _, by simp [World.setRow]⟩))
/-- The array of 256 bytes 0. -/
def zeroPage : List UInt8 := List.replicate 256 0
theorem zeroPage_length : zeroPage.length = 256 := by unfold zeroPage; rw [List.length_replicate]
theorem bv_all (l : List UInt8) : (bv l).toArray.all (·.oneCell') = true := all_oneCell_toArray (bv_one l)
theorem bv_size (l : List UInt8) : (bv l).toArray.size = l.length := by simp [bv]
/-! Two arrays of bytes are the same just if the lists are. -/
theorem run_eqItems_bytes {P : Program} (w : World) {e : TypeId} (he : P.plainKey e = true) (hu : P.underlying e = some (.int .u8)) (d : Nat) (l m : List UInt8) :
    ∀ is : List Nat, (∀ i ∈ is, i < l.length ∧ i < m.length) → (Op.eqItems (d + 1) e 1 (bv l).toArray (bv m).toArray is).run P w = .ok (decide (∀ i ∈ is, l[i]? = m[i]?)) w
  | [], _ => by simp [Op.eqItems]
  | i :: is, h => by
    obtain ⟨h1, h2⟩ := h i (by simp)
    have p1 := run_part_plain (P := P) w he (xs := (bv l).toArray) (off := i * 1) (v := .int .u8 (l[i].toNat : Int)) (by simpa using bv_get l i h1)
    have p2 := run_part_plain (P := P) w he (xs := (bv m).toArray) (off := i * 1) (v := .int .u8 (m[i].toNat : Int)) (by simpa using bv_get m i h2)
    have p3 := run_equalIn_int (P := P) w d e .u8 .u8 (l[i].toNat : Int) (m[i].toNat : Int) hu
    have ih := run_eqItems_bytes w he hu d l m is fun j hj => h j (by simp [hj])
    simp only [Op.eqItems, Sem.run_bind, p1, p2, p3, Result.andThen_ok]
    by_cases hx : l[i] = m[i]
    · have e1 : ((l[i].toNat : Int) == (m[i].toNat : Int)) = true := by rw [hx]; simp
      rw [e1]
      simp only [Bool.not_true, Bool.false_eq_true, if_false, ih]
      congr 1
      apply decide_eq_decide.2
      simp [List.getElem?_eq_getElem h1, List.getElem?_eq_getElem h2, hx]
    · have e1 : ((l[i].toNat : Int) == (m[i].toNat : Int)) = false := by
        rw [beq_eq_false_iff_ne]
        intro e
        exact hx (UInt8.toNat_inj.1 (by omega))
      rw [e1]
      simp only [Bool.not_false, if_true, Sem.run_pure]
      congr 1
      symm
      apply decide_eq_false
      intro h3
      have := h3 i (by simp)
      rw [List.getElem?_eq_getElem h1, List.getElem?_eq_getElem h2] at this
      exact hx (by injection this)
theorem run_equal_bytes {P : Program} (w : World) {t e : TypeId} {n : Nat} (he : P.plainKey e = true) (hu : P.underlying e = some (.int .u8)) (hc : P.cellsOf e = 1) (hi : (P.info? e).isSome = true) (ht : P.underlying t = some (.array n e)) (l m : List UInt8)
    (hl : l.length = n) (hm : m.length = n) : (Op.equalIn 10000 t (.agg (bv l).toArray) (.agg (bv m).toArray)).run P w = .ok (decide (l = m)) w := by
  obtain ⟨i, hi⟩ := Option.isSome_iff_exists.1 hi
  have h1 := run_equalIn_array (P := P) w 9999 (bv l).toArray (bv m).toArray ht hi
  have h2 := run_eqItems_bytes (P := P) w he hu 9998 l m (List.range n) fun j hj => by have := List.mem_range.1 hj; omega
  rw [hc] at h1
  have e1 : decide (∀ i ∈ List.range n, l[i]? = m[i]?) = decide (l = m) := decide_eq_decide.2 ⟨fun h => List.ext_getElem? fun j => by
    by_cases hj : j < n
    · exact h j (List.mem_range.2 hj)
    · rw [List.getElem?_eq_none (by omega), List.getElem?_eq_none (by omega)], fun h => by rw [h]; simp⟩
  rw [← e1, ← h2]
  exact h1
end Go.Proofs.Ytgpjhcpiemdbcaa
