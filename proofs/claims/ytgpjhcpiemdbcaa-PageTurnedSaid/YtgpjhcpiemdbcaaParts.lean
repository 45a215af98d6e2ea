/- Words for a slice of slices of bytes: where each part lies, and what all of them hold. No conditions but those that are named. -/
import Derived.Test.YtgpjhcpiemdbcaaMath
namespace Go.Proofs.Ytgpjhcpiemdbcaa
open Go.RowKit

/-- A part: where it lies, its bytes, its capacity. -/
abbrev Part := Option Addr × List UInt8 × Nat
def pvs (ps : List Part) : List Value := ps.map fun p => .slice p.1 p.2.1.length p.2.2
def joinP (ps : List Part) : List UInt8 := ps.flatMap fun p => p.2.1
/-- Each part reads as its bytes. -/
def PartsRead (w : World) (B : Nat) (ps : List Part) : Prop := ∀ (k : Nat) (p : Part), ps[k]? = some p → Reads w B 1 p.1 p.2.1.length (bv p.2.1) ∧ p.2.1.length ≤ 9223372036854775807

theorem joinP_take (ps : List Part) (k : Nat) (h : k < ps.length) : joinP (ps.take (k + 1)) = joinP (ps.take k) ++ ps[k].2.1 := by
  rw [List.take_succ_eq_append_getElem h, joinP, List.flatMap_append]
  simp [joinP]
theorem pvs_get (ps : List Part) (k : Nat) (h : k < ps.length) : (pvs ps)[k]? = some (.slice ps[k].1 ps[k].2.1.length ps[k].2.2) := by
  simp [pvs, List.getElem?_map, List.getElem?_eq_getElem h]
theorem joinP_length_take (ps : List Part) (k : Nat) (h : k < ps.length) : (joinP (ps.take k)).length + ps[k].2.1.length ≤ (joinP ps).length := by
  have e : joinP ps = joinP (ps.take (k + 1)) ++ joinP (ps.drop (k + 1)) := by
    unfold joinP
    rw [← List.flatMap_append, List.take_append_drop]
  rw [e, joinP_take ps k h]
  simp only [List.length_append]
  omega
end Go.Proofs.Ytgpjhcpiemdbcaa
