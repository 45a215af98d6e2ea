/- How an argument that is a slice of ints is opened. No conditions but those that are named. -/
import Derived.Test.YtoihkanneiknkaaOpenD
namespace Go.Proofs.Ytoihkanneiknkaa
open Go.ChangeShapes Go.WideShapes Go.Deep Go.RowKit
theorem open_ints_arg {H : Type} {enc : TypeId × Value → H} {P : Program} {W : World} {base : Nat} {t e : TypeId} {v : Value} {d : DataW H} {p : List MemPlace} (ht : P.underlying t = some (.slice e)) (he : P.underlying e = some (.int .i64)) (hc : P.cellsOf e = 1)
    (hv : Value.okWide P W .any base t v) (h : DataW.Trod enc P W 0 (fun _ => true) true t v d p) :
    ∃ (A : Option Addr) (l : List Int) (c : Nat), v = .slice A l.length c ∧ l.length ≤ 9223372036854775807 ∧ (∀ x ∈ l, -9223372036854775808 ≤ x ∧ x ≤ 9223372036854775807) ∧ Reads W W.heap.size 1 A l.length (pv_ l) := by
  obtain ⟨a0, len0, cap0, rfl⟩ := okWide_slice ht hv
  obtain ⟨fuel, hf⟩ := h
  exact open_picks ht he hc hf
end Go.Proofs.Ytoihkanneiknkaa
