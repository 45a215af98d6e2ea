/- How an argument that is a slice of bytes is opened: where it lies, what it reads, how long it is at most. No conditions but those that are named. -/
import Derived.Test.YtopdfhedifcalaaMath
import Derived.WalkKit
import Derived.ProofKit
import Derived.OpenShut
import Derived.SizedLaws
namespace Go.Proofs.Ytopdfhedifcalaa
open Go.ChangeShapes Go.WideShapes Go.ChangeAt Go.RowKit

/-- A number that fits a byte, as a byte. -/
theorem byte_of {n : Int} (h : (Lit.int .u8 n).wf = true) : ((UInt8.ofNat n.toNat).toNat : Int) = n := by
  have := bounds_u8 h
  rw [toNat_ofNat]
  omega

section
variable {H : Type} {enc : TypeId × Value → H} {P : Program} {W : World}

/-- The reading of such an argument is nil, or a slice of so many elements. -/
def LenIs (d : DataW H) (n : Nat) : Prop := n = 0 ∨ ∃ elems sp, d = .slice elems sp ∧ elems.length = n

theorem open_bytes {base : Nat} {t e : TypeId} {v : Value} {d : DataW H} {p : List MemPlace} (ht : P.underlying t = some (.slice e)) (he : P.underlying e = some (.int .u8)) (hc : P.cellsOf e = 1)
    (hv : Value.okWide P W .any base t v) (h : DataW.Trod enc P W 0 (fun _ => true) true t v d p) :
    ∃ A l c, v = .slice A l.length c ∧ l.length ≤ c ∧ c ≤ maxLen ∧ Reads W W.heap.size 1 A l.length (bv l) ∧ LenIs d l.length := by
  obtain ⟨a0, len0, cap0, rfl⟩ := okWide_slice ht hv
  obtain ⟨fuel, hf⟩ := h
  rcases open_ints ht he hc hf with ⟨hcs, _⟩ | ⟨x, len, cap, zs, hcs, _, hl, hm, hz, hd, hcell, hwz⟩
  · simp [Value.cells] at hcs
    obtain ⟨rfl, rfl, rfl⟩ := hcs
    exact ⟨none, [], 0, rfl, Nat.le_refl _, by simp [maxLen], Reads.none_, .inl rfl⟩
  · simp [Value.cells] at hcs
    obtain ⟨rfl, rfl, rfl⟩ := hcs
    have hzl : zs.length = cap0 := by simpa using hz
    have hlen : ((zs.take len0).map fun n => UInt8.ofNat n.toNat).length = len0 := by simp; omega
    refine ⟨some x, (zs.take len0).map fun n => UInt8.ofNat n.toNat, cap0, by rw [hlen], by rw [hlen]; exact hl, hm, ?_, ?_⟩
    · rw [hlen]
      refine (Reads.here (B := x.block + 1) ⟨by simp [bv]; omega, fun _ => ⟨x, rfl, by omega, fun j u hu => ?_⟩⟩)
      have hj : j < len0 := by
        have := (List.getElem?_eq_some_iff.1 hu).1
        simp [bv] at this
        omega
      have hjz : j < zs.length := by omega
      have hg := hcell j hjz
      rw [hg]
      simp only [bv, List.getElem?_map, List.getElem?_take, if_pos hj, List.getElem?_eq_getElem hjz, Option.map_some] at hu
      injection hu with hu
      rw [← hu, byte_of (hwz _ (List.getElem_mem hjz)), List.getD_eq_getElem?_getD, List.getElem?_eq_getElem hjz]
      rfl
    · right
      rw [hlen]
      exact ⟨_, _, (Prod.mk.inj hd).1, by simp [lits]; omega⟩

theorem reach_bytes {ts : List TypeId} {ds : List (DataW H)} (h : (DataW.weightsEach P ts ds).all (· ≤ reachBytes) = true) {j n : Nat} {t e : TypeId} {d : DataW H} (ht : ts[j]? = some t) (hd : ds[j]? = some d)
    (hu : P.underlying t = some (.slice e)) (hb : P.bytesOf e = 1) (hn : LenIs d n) : n ≤ 140737488351232 := by
  rcases hn with rfl | ⟨elems, sp, rfl, rfl⟩
  · omega
  · have := sized_slice h ht hd hu
    rw [hb] at this
    simp only [reachBytes] at this
    omega
end
end Go.Proofs.Ytopdfhedifcalaa
