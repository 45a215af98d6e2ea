/- Rows of bytes that a call made: words for them, and the append of bytes onto one. Conditions: those that each theorem names. -/
import Derived.Test.YtgpjhcpiemdbcaaProg
import Derived.Test.YtgpjhcpiemdbcaaSep
import Derived.WalkKit
namespace Go.Proofs.Ytgpjhcpiemdbcaa
open Go.RowKit

/-- A row of bytes in a block from base on (or nil). -/
def Own (w : World) (base : Nat) (v : Value) (l : List UInt8) : Prop := w.ownsRow base 5 1 v l.length (bv l)
section
variable {w w' : World} {base : Nat} {v : Value} {l m : List UInt8}
theorem own_of (h : w.ownsRow base 5 1 v l.length (bv l)) : Own w base v l := h
theorem Own.form (h : Own w base v l) : ∃ A c, v = .slice A l.length c ∧ l.length ≤ c ∧ c ≤ maxLen ∧ Reads w w.heap.size 1 A l.length (bv l) ∧ ∀ ad, A = some ad → base ≤ ad.block ∧ ad.block < w.heap.size := own_form h
theorem Own.ge (h : Own w base v l) : ∀ g, v.ownBlock = some g → base ≤ g := own_ge h
theorem Own.lt (h : Own w base v l) : ∀ g, v.ownBlock = some g → g < w.heap.size := by
  rcases h.2 with ⟨rfl, h0⟩ | ⟨g, cap, cur, rfl, hb, hh, hr⟩
  · intro g e; cases e
  · intro g' e
    have : g = g' := by injection e
    subst this
    exact (Array.getElem?_eq_some_iff.1 hh).1
theorem Own.lower (h : Own w base v l) {b : Nat} (hb : b ≤ base) : Own w b v l := own_base h hb
theorem Own.only {F : Nat → Prop} (h : Own w base v l) (ho : Only F w w') (hn : ∀ k, v.ownBlock = some k → ¬ F k) : Own w' base v l := own_only h ho hn
theorem Own.below (h : Own w base v l) (hb : Below w.heap.size w w') : Own w' base v l := own_only h (Only.of_below (F := fun _ => False) hb) fun _ _ => id
theorem Own.under {b : Nat} (h : Own w base v l) (hb : Below b w w') (hl : ∀ g, v.ownBlock = some g → g < b) : Own w' base v l := by
  rcases h.2 with ⟨rfl, h0⟩ | ⟨g, cap, cur, rfl, hb', hh, hr⟩
  · exact ⟨h.1, .inl ⟨rfl, h0⟩⟩
  · have hk : Blk w g 5 cur := hh
    exact ⟨h.1, .inr ⟨g, cap, cur, rfl, hb', hk.below hb (hl g rfl), hr⟩⟩
theorem Own.apart (h : Own w base v l) {row : Option Nat} (hg : w.grownBy w' row) (hn : ∀ g, v.ownBlock = some g → some g ≠ row) : Own w' base v l := by
  rcases h.2 with ⟨rfl, h0⟩ | ⟨g, cap, cur, rfl, hb', hh, hr⟩
  · exact ⟨h.1, .inl ⟨rfl, h0⟩⟩
  · have hk : Blk w g 5 cur := hh
    exact ⟨h.1, .inr ⟨g, cap, cur, rfl, hb', hk.grown hg (hn g rfl), hr⟩⟩
theorem Own.alloc (h : Own w base v l) (o : Obj) : Own (w.alloc o) base v l := h.below ((Below.refl _ _).alloc (Nat.le_refl _) _)
theorem Own.form_n {n : Nat} (h : Own w base v l) (hn : l.length = n) : ∃ A c, v = .slice A n c ∧ n ≤ c ∧ Reads w w.heap.size 1 A l.length (bv l) ∧ ∀ ad, A = some ad → base ≤ ad.block ∧ ad.block < w.heap.size := by
  obtain ⟨A, c, h1, h2, _, h3, h4⟩ := own_form h
  subst hn
  exact ⟨A, c, h1, h2, h3, h4⟩
theorem Own.reads {A : Option Addr} {n c : Nat} (h : Own w base (.slice A n c) l) : Reads w w.heap.size 1 A l.length (bv l) := by
  obtain ⟨A', c', e, _, _, h3, _⟩ := own_form h
  injection e with e1 e2 e3
  subst e1
  exact h3
/-- The row of a slice that has elements. -/
theorem Own.row {A : Option Addr} {n c : Nat} (h : Own w base (.slice A n c) l) (hn : 0 < n) : ∃ g cur, A = some ⟨g, 0, none⟩ ∧ base ≤ g ∧ Blk w g 5 cur ∧ l.length = n ∧ n ≤ c ∧ c ≤ maxLen ∧ cur.size = c ∧ cur.toList.take n = bv l := by
  rcases h.2 with ⟨e, h0⟩ | ⟨g, cap, cur, e, hb, hh, h1, h2, h3, h4⟩
  · injection e with e1 e2 e3
    omega
  · injection e with e1 e2 e3
    subst e1 e2 e3
    exact ⟨g, cur, rfl, hb, hh, rfl, h1, h2, by omega, by rw [Nat.mul_one] at h4; exact h4⟩
theorem Own.at_ {g n c k : Nat} (h : Own w base (.slice (some ⟨g, 0, none⟩) n c) l) (hk : k < n) (hl : l.length = n) : w.cell? ⟨g, k, none⟩ = some (.int .u8 ((l[k]'(by omega)).toNat : Int)) ∧ w.frozen? ⟨g, k, none⟩ = false ∧ g < w.heap.size := by
  obtain ⟨g', cur, e, -, hb, -, -, -, -, ht⟩ := h.row (by omega)
  injection e with e; injection e with e1
  subst e1
  refine ⟨?_, hb.frozen k, hb.lt⟩
  rw [hb.cell k]
  have h1 : (cur.toList.take n)[k]? = (bv l)[k]? := by rw [ht]
  rw [List.getElem?_take_of_lt hk, bv_get l k (by omega)] at h1
  simpa using h1
theorem Own.set {g n c k : Nat} (h : Own w base (.slice (some ⟨g, 0, none⟩) n c) l) (hk : k < n) (hl : l.length = n) (x : UInt8) : Own (w.setCell ⟨g, k, none⟩ (.int .u8 (x.toNat : Int))) base (.slice (some ⟨g, 0, none⟩) n c) (l.set k x) := by
  obtain ⟨g', cur, e, hbg, hb, -, hnc, hcm, hcs, ht⟩ := h.row (by omega)
  injection e with e; injection e with e1
  subst e1
  refine ⟨by simp [bv], .inr ⟨g, c, cur.setIfInBounds k (.int .u8 (x.toNat : Int)), by rw [List.length_set, hl], hbg, hb.set_ k _, by rw [List.length_set]; omega, hcm, by simp [hcs], ?_⟩⟩
  rw [List.length_set, Nat.mul_one, Array.toList_setIfInBounds, List.take_set, hl, ht]
  simp only [bv, List.map_set]
/-- A row that a literal made. -/
theorem own_new (w : World) (l : List UInt8) (hl : l.length ≤ maxLen) : Own (w.alloc (.cells (bv l).toArray 5)) w.heap.size (.slice (some ⟨w.heap.size, 0, none⟩) l.length l.length) l :=
  ⟨by simp [bv], .inr ⟨w.heap.size, l.length, (bv l).toArray, rfl, Nat.le_refl _, heap_alloc_new w _, Nat.le_refl _, hl, by simp [bv], by rw [Nat.mul_one]; exact List.take_of_length_le (by simp [bv])⟩⟩
end
theorem u8infoO : (Try.prog.info? 5).map (fun i => (i.zero, i.size, i.bytes)) = some (some (.int .u8 0), 1, 1) := by kernel_rfl
/-- The append of bytes onto a row of the call's own. -/
theorem wpList_app {w : World} {ops : Array Oper} {rest : List Oper} {o : Oper} {a : Act} {Q : Exit → Act → World → Prop} (hgd : o.guard = none) (s x : Operand)
    (ho : o.op = .call { callee := .builtin .append, args := #[s, x], argTypes := #[22, 22] })
    (base : Nat) (v : Value) (l : List UInt8) (hs : a.eval s = v) (hown : Own w base v l)
    (A : Option Addr) (m : List UInt8) (n c : Nat) (hn : m.length = n) (hx : a.eval x = .slice A n c) (hr : Reads w w.heap.size 1 A m.length (bv m)) (hlen : l.length + m.length ≤ 140737488355328) (hbase : base ≤ w.heap.size)
    (h : ∀ v' w', Hid (Own w' base v' (l ++ m) ∧ w.grownBy w' v.ownBlock ∧ Below base w w' ∧ (v'.ownBlock = v.ownBlock ∨ v'.ownBlock = some w.heap.size)) → wpList Try.prog ops Q rest (a.put o.dst v') w') : wpList Try.prog ops Q (o :: rest) a w := by
  subst hn
  obtain ⟨i0, hi0, hz0, hz1, hz2⟩ := info_parts u8infoO
  refine wpList_append_any w hgd s x 22 ho base 5 i0 (.int .u8 0) 1 1 Try.underlying22 hi0 hz0 hz1 hz2 rfl (by decide) v l.length (bv l) hs hown w.heap.size A m.length c (bv m) hx hr (bv_one m) (by unfold maxLen; omega) (by omega) hbase ?_
  intro v' w' h1 h2 h3
  refine h v' w' ⟨?_, h2, (Below.refl base w).grown h2 hbase (fun g hg => own_ge hown g hg), h3⟩
  unfold Own
  rw [List.length_append, bv_append]
  exact h1
/-- The same as a step of a region that draws its order. -/
theorem step_app {w : World} {ops : Array Oper} {o : Oper} {a : Act} {K : Act → World → Prop} {Q : Exit → Act → World → Prop} {E : Prop} (hgd : o.guard = none) (s x : Operand)
    (ho : o.op = .call { callee := .builtin .append, args := #[s, x], argTypes := #[22, 22] })
    (base : Nat) (v : Value) (l : List UInt8) (hs : a.eval s = v) (hown : Own w base v l)
    (A : Option Addr) (m : List UInt8) (n c : Nat) (hn : m.length = n) (hx : a.eval x = .slice A n c) (hr : Reads w w.heap.size 1 A m.length (bv m)) (hlen : l.length + m.length ≤ 140737488355328) (hbase : base ≤ w.heap.size)
    (h : ∀ v' w', Hid (Own w' base v' (l ++ m) ∧ w.grownBy w' v.ownBlock ∧ Below base w w' ∧ (v'.ownBlock = v.ownBlock ∨ v'.ownBlock = some w.heap.size)) → K (a.put o.dst v') w') : if Region.wanted o (yielded ops a.tmps) = true then Oper.wp Try.prog o a w K Q else E := by
  subst hn
  obtain ⟨i0, hi0, hz0, hz1, hz2⟩ := info_parts u8infoO
  refine step_append_any w hgd s x 22 ho base 5 i0 (.int .u8 0) 1 1 Try.underlying22 hi0 hz0 hz1 hz2 rfl (by decide) v l.length (bv l) hs hown w.heap.size A m.length c (bv m) hx hr (bv_one m) (by unfold maxLen; omega) (by omega) hbase ?_
  intro v' w' h1 h2 h3
  refine h v' w' ⟨?_, h2, (Below.refl base w).grown h2 hbase (fun g hg => own_ge hown g hg), h3⟩
  unfold Own
  rw [List.length_append, bv_append]
  exact h1
end Go.Proofs.Ytgpjhcpiemdbcaa
