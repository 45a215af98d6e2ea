/- An append of one element of two cells onto a slice of a row of the call's own in which there is room: the row itself is written. Conditions: those that are named. -/
import Derived.Test.YtfdmbgaincmefaaWords
import Derived.ArgAppend
namespace Go.Proofs.Ytfdmbgaincmefaa
open Go.RowKit

theorem wpList_append_row {P : Program} (w : World) {ops : Array Oper} {rest : List Oper} {o : Oper} {a : Act} {Q : Exit → Act → World → Prop} (hgd : o.guard = none) (s x : Operand) (t : TypeId)
    (ho : o.op = .call { callee := .builtin .append, args := #[s, x], argTypes := #[t, t] })
    (e : TypeId) (i : TypeInfo) (ht : P.underlying t = some (.slice e)) (hi : P.info? e = some i) (hsize : i.size = 2)
    (g n cap : Nat) (cs : Array Value) (hs : a.eval s = .slice (some ⟨g, 0, none⟩) n cap) (hb : Blk w g e cs) (hroom : n + 1 ≤ cap) (hfit : n * 2 + 2 ≤ cs.size)
    (ad : Addr) (c : Nat) (u v : Value) (hx : a.eval x = .slice (some ad) 1 c) (hc : ∀ j y, [u, v][j]? = some y → w.cell? (ad.add j) = some y) (h1 : ∀ y ∈ [u, v], y.oneCell' = true)
    (h : ∀ w', Blk w' g e ((cs.setIfInBounds (n * 2) u).setIfInBounds (n * 2 + 1) v) → w.grownBy w' (some g) → wpList P ops Q rest (a.put o.dst (.slice (some ⟨g, 0, none⟩) (n + 1) cap)) w') :
    wpList P ops Q (o :: rest) a w := by
  refine wpList_plain hgd fun K hK => ?_
  have hsome : ∀ j, j < 2 → (w.cell? ⟨g, 0 + n * 2 + j, none⟩).isSome = true := fun j hj => by
    rw [hb.cell]
    rw [Array.getElem?_eq_getElem (by omega)]
    rfl
  have hrun := run_append_room_cells (P := P) w t o.type e i ht hi g 0 n cap ad 1 c [u, v] (by simp [hsize]) hc h1 hroom (fun j hj => by rw [hsize]; exact hsome j (by simpa using hj)) (fun j _ => hb.frozen _)
  unfold Oper.wp
  simp only [execOp, ho, resolve, invoke, builtin, hs, hx, hrun, Sem.run_bind, Sem.run_pure, Result.andThen_ok, List.map_toArray, List.map_cons, List.map_nil]
  refine hK _ _ (h _ ?_ ?_)
  · rw [hsize]
    have := (hb.set_ (n * 2) u).set_ (n * 2 + 1) v
    simpa [World.setCells] using this
  · rw [hsize]
    have := only_setCell (only_setCell (World.grownBy.refl w (some g)) (p := ⟨g, n * 2, none⟩) (.inl rfl) u) (p := ⟨g, n * 2 + 1, none⟩) (.inl rfl) v
    simpa [World.setCells] using this
end Go.Proofs.Ytfdmbgaincmefaa
