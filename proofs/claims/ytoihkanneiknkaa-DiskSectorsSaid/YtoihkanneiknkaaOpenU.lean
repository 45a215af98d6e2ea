/- How an argument that is a slice of writes (two ints, a byte, a bool) is opened: each one's cells. No conditions but those that are named. -/
import Derived.Test.YtoihkanneiknkaaOpenD
namespace Go.Proofs.Ytoihkanneiknkaa
open Go.ChangeShapes Go.WideShapes Go.Deep Go.RowKit

/-- A write into the one file. -/
structure Pt where
  at' : Int
  n : Int
  x : UInt8
  sync : Bool
instance : Inhabited Pt := ⟨⟨0, 0, 0, false⟩⟩
/-- The k-th write lies there. -/
def PutIn (W : World) (A : Option Addr) (k : Nat) (p : Pt) : Prop :=
  (∃ b o, A = some ⟨b, o, none⟩ ∧ b < W.heap.size ∧ W.cell? ⟨b, o + k * 4, none⟩ = some (.int .i64 p.at') ∧ W.cell? ⟨b, o + k * 4 + 1, none⟩ = some (.int .i64 p.n) ∧
    W.cell? ⟨b, o + k * 4 + 2, none⟩ = some (.int .u8 (p.x.toNat : Int)) ∧ W.cell? ⟨b, o + k * 4 + 3, none⟩ = some (.bool p.sync)) ∧
  (-9223372036854775808 ≤ p.at' ∧ p.at' ≤ 9223372036854775807) ∧ (-9223372036854775808 ≤ p.n ∧ p.n ≤ 9223372036854775807)
section
variable {H : Type} {enc : TypeId × Value → H} {P : Program} {W : World}
theorem open_puts {base : Nat} {t e : TypeId} {f0 f1 f2 f3 : Field} {v : Value} {d : DataW H} {p : List MemPlace} (ht : P.underlying t = some (.slice e)) (he : P.underlying e = some (.struct #[f0, f1, f2, f3])) (hone : oneCellFields P #[f0, f1, f2, f3] = true)
    (hC : P.cellsOf e = 4) (h0 : P.underlying f0.type = some (.int .i64)) (h1 : P.underlying f1.type = some (.int .i64)) (h2 : P.underlying f2.type = some (.int .u8)) (h3 : P.underlying f3.type = some .bool)
    (hv : Value.okWide P W .any base t v) (h : DataW.Trod enc P W 0 (fun _ => true) true t v d p) :
    ∃ (A : Option Addr) (l : List Pt) (c : Nat), v = .slice A l.length c ∧ l.length ≤ 9223372036854775807 ∧ ∀ k (h : k < l.length), PutIn W A k l[k] := by
  obtain ⟨a0, len0, cap0, rfl⟩ := okWide_slice ht hv
  obtain ⟨fuel, hf⟩ := h
  rcases open_slice_fields ht he hone (by rw [hC]; rfl) hf with ⟨hcs, _⟩ | ⟨x, len, cap, m, D, Pl, hcs, _, hl, hm, hmm, _, hi⟩
  · simp [Value.cells] at hcs
    obtain ⟨rfl, rfl, rfl⟩ := hcs
    exact ⟨none, [], 0, rfl, by simp, fun k hk => by simp at hk⟩
  · simp [Value.cells] at hcs
    obtain ⟨rfl, rfl, rfl⟩ := hcs
    have hmc : m = cap0 := by simpa using hmm
    have each : ∀ i, i < len0 → ∃ y : Pt, PutIn W (some x) i y := by
      intro i hlt
      obtain ⟨ys, n, _, _, _, hfl⟩ := hi i (by omega)
      obtain ⟨v0, y0, c0, _, t0⟩ := hfl 0 f0 rfl
      obtain ⟨v1, y1, c1, _, t1⟩ := hfl 1 f1 rfl
      obtain ⟨v2, y2, c2, _, t2⟩ := hfl 2 f2 rfl
      obtain ⟨v3, y3, c3, _, t3⟩ := hfl 3 f3 rfl
      obtain ⟨a, ea, _, wa⟩ := DataW.trod_int h0 t0
      obtain ⟨b, eb, _, wb⟩ := DataW.trod_int h1 t1
      obtain ⟨z, ez, _, wz⟩ := DataW.trod_int h2 t2
      obtain ⟨s, es, _⟩ := DataW.trod_bool h3 t3
      injection ea with ea
      injection eb with eb
      injection ez with ez
      injection es with es
      subst ea eb ez es
      simp only [List.size_toArray, List.length_cons, List.length_nil, Nat.reduceAdd] at c0 c1 c2 c3
      have hbl : x.block < W.heap.size := by
        have := lt_of_cell c0
        rwa [block_of_add] at this
      obtain ⟨_, _, _, _, _, hfl0⟩ := hi 0 (by omega)
      obtain ⟨_, _, cz, _, _⟩ := hfl0 0 f0 rfl
      obtain ⟨bk, o, sp⟩ := x
      have hsp : sp = none := by simpa [Addr.add] using World.cell?_spot cz
      subst hsp
      refine ⟨⟨a, b, UInt8.ofNat z.toNat, s⟩, ⟨bk, o, rfl, hbl, ?_, ?_, ?_, ?_⟩, bounds_i64 wa, bounds_i64 wb⟩
      · simpa using cell_add c0
      · exact cell_add c1
      · show _ = some (Value.int .u8 ((UInt8.ofNat z.toNat).toNat : Int))
        rw [byte_of wz]
        exact cell_add c2
      · exact cell_add c3
    obtain ⟨F, hF⟩ := choose_lt each
    have hlen : ((List.range len0).map F).length = len0 := by simp
    refine ⟨some x, (List.range len0).map F, cap0, by rw [hlen], ?_, fun k hk => ?_⟩
    · rw [hlen]
      unfold maxLen at hm
      omega
    have e : ((List.range len0).map F)[k] = F k := by simp
    rw [e]
    exact hF k (by omega)
end
end Go.Proofs.Ytoihkanneiknkaa
