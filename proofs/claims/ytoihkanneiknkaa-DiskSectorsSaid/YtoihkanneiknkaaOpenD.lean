/- How an argument that is a slice of calls is opened: each call's cells, and what its picks read. No conditions but those that are named. -/
import Derived.Test.YtoihkanneiknkaaOpenS
import Derived.Test.YtoihkanneiknkaaDkDf
namespace Go.Proofs.Ytoihkanneiknkaa
open Go.ChangeShapes Go.WideShapes Go.Deep Go.RowKit

instance : Inhabited Cl := ⟨⟨0, ByteArray.empty, 0, 0, 0, []⟩⟩
section
variable {H : Type} {enc : TypeId × Value → H} {P : Program} {W : World}
theorem cell_add {b o j : Nat} {u : Value} (h : W.cell? ((⟨b, o, none⟩ : Addr).add j) = some u) : W.cell? ⟨b, o + j, none⟩ = some u := by
  unfold Addr.add at h
  by_cases hj : j = 0
  · subst hj; simpa using h
  · simpa [hj] using h
/-- A slice of ints in a cell. -/
theorem open_picks {t e : TypeId} {fuel : Nat} {v : Value} {y : DataW H × List MemPlace} (ht : P.underlying t = some (.slice e)) (he : P.underlying e = some (.int .i64)) (hc : P.cellsOf e = 1) (h : DataW.trod enc P W 0 (fun _ => true) true fuel t [v] = some y) :
    ∃ (A : Option Addr) (l : List Int) (c : Nat), v = .slice A l.length c ∧ l.length ≤ 9223372036854775807 ∧ (∀ x ∈ l, -9223372036854775808 ≤ x ∧ x ≤ 9223372036854775807) ∧ Reads W W.heap.size 1 A l.length (pv_ l) := by
  rcases open_ints ht he hc h with ⟨hcs, _⟩ | ⟨x, len, cap, zs, hcs, _, hl, hm, hz, hd, hcell, hwz⟩
  · injection hcs with hcs
    subst hcs
    exact ⟨none, [], 0, rfl, by simp, fun x hx => (by cases hx), Reads.none_⟩
  · injection hcs with hcs
    subst hcs
    have hzl : zs.length = cap := by simpa using hz
    have hlen : (zs.take len).length = len := by simp; omega
    refine ⟨some x, zs.take len, cap, by rw [hlen], ?_, fun y hy => bounds_i64 (hwz y (List.mem_of_mem_take hy)), ?_⟩
    · unfold maxLen at hm
      omega
    · rw [hlen]
      refine Reads.here (B := x.block + 1) ⟨by simp [pv_]; omega, fun _ => ⟨x, rfl, by omega, fun j u hu => ?_⟩⟩
      have hj : j < len := by
        have := (List.getElem?_eq_some_iff.1 hu).1
        simp [pv_] at this
        omega
      have hjz : j < zs.length := by omega
      rw [hcell j hjz]
      simp only [pv_, List.getElem?_map, List.getElem?_take, if_pos hj, List.getElem?_eq_getElem hjz, Option.map_some] at hu
      injection hu with hu
      rw [← hu, List.getD_eq_getElem?_getD, List.getElem?_eq_getElem hjz]
      rfl
theorem open_calls {base : Nat} {t e q : TypeId} {f0 f1 f2 f3 f4 f5 : Field} {v : Value} {d : DataW H} {p : List MemPlace} (ht : P.underlying t = some (.slice e)) (he : P.underlying e = some (.struct #[f0, f1, f2, f3, f4, f5])) (hone : oneCellFields P #[f0, f1, f2, f3, f4, f5] = true)
    (hC : P.cellsOf e = 6) (h0 : P.underlying f0.type = some (.int .i64)) (h1 : P.underlying f1.type = some .string) (h2 : P.underlying f2.type = some (.int .i64)) (h3 : P.underlying f3.type = some (.int .i64)) (h4 : P.underlying f4.type = some (.int .u8)) (h5 : P.underlying f5.type = some (.slice q))
    (h6 : P.underlying q = some (.int .i64)) (h7 : P.cellsOf q = 1) (hv : Value.okWide P W .any base t v) (h : DataW.Trod enc P W 0 (fun _ => true) true t v d p) :
    ∃ (A : Option Addr) (l : List (Cl × Option Addr × Nat)) (c : Nat), v = .slice A l.length c ∧ ∀ k (h : k < l.length), CallIn W A k l[k] := by
  obtain ⟨a0, len0, cap0, rfl⟩ := okWide_slice ht hv
  obtain ⟨fuel, hf⟩ := h
  rcases open_slice_fields ht he hone (by rw [hC]; rfl) hf with ⟨hcs, _⟩ | ⟨x, len, cap, m, D, Pl, hcs, _, hl, hm, hmm, _, hi⟩
  · simp [Value.cells] at hcs
    obtain ⟨rfl, rfl, rfl⟩ := hcs
    exact ⟨none, [], 0, rfl, fun k hk => by simp at hk⟩
  · simp [Value.cells] at hcs
    obtain ⟨rfl, rfl, rfl⟩ := hcs
    have hmc : m = cap0 := by simpa using hmm
    have each : ∀ i, i < len0 → ∃ y : Cl × Option Addr × Nat, CallIn W (some x) i y := by
      intro i hlt
      obtain ⟨ys, n, _, _, _, hfl⟩ := hi i (by omega)
      obtain ⟨v0, y0, c0, _, t0⟩ := hfl 0 f0 rfl
      obtain ⟨v1, y1, c1, _, t1⟩ := hfl 1 f1 rfl
      obtain ⟨v2, y2, c2, _, t2⟩ := hfl 2 f2 rfl
      obtain ⟨v3, y3, c3, _, t3⟩ := hfl 3 f3 rfl
      obtain ⟨v4, y4, c4, _, t4⟩ := hfl 4 f4 rfl
      obtain ⟨v5, y5, c5, _, t5⟩ := hfl 5 f5 rfl
      obtain ⟨a, ea, _, wa⟩ := DataW.trod_int h0 t0
      obtain ⟨s, es, _, ws⟩ := DataW.trod_string h1 t1
      obtain ⟨b, eb, _, wb⟩ := DataW.trod_int h2 t2
      obtain ⟨c, ec, _, wc⟩ := DataW.trod_int h3 t3
      obtain ⟨z, ez, _, wz⟩ := DataW.trod_int h4 t4
      obtain ⟨Ap, pl, cp, rfl, hp1, hp2, hp3⟩ := open_picks h5 h6 h7 t5
      injection ea with ea
      injection es with es
      injection eb with eb
      injection ec with ec
      injection ez with ez
      subst ea es eb ec ez
      simp only [List.size_toArray, List.length_cons, List.length_nil, Nat.reduceAdd] at c0 c1 c2 c3 c4 c5
      have hbl : x.block < W.heap.size := by
        have := lt_of_cell c0
        rwa [block_of_add] at this
      obtain ⟨_, _, _, _, _, hfl0⟩ := hi 0 (by omega)
      obtain ⟨_, _, cz, _, _⟩ := hfl0 0 f0 rfl
      obtain ⟨bk, o, sp⟩ := x
      have hsp : sp = none := by simpa [Addr.add] using World.cell?_spot cz
      subst hsp
      refine ⟨(⟨a, s, b, c, UInt8.ofNat z.toNat, pl⟩, Ap, cp), ⟨bk, o, rfl, hbl, ?_, ?_, ?_, ?_, ?_, ?_⟩, ⟨by unfold maxLen at ws; exact ws, bounds_i64 wb, bounds_i64 wc⟩, hp1, hp2, hp3⟩
      · simpa using cell_add c0
      · exact cell_add c1
      · exact cell_add c2
      · exact cell_add c3
      · show _ = some (Value.int .u8 ((UInt8.ofNat z.toNat).toNat : Int))
        rw [byte_of wz]
        exact cell_add c4
      · exact cell_add c5
    obtain ⟨F, hF⟩ := choose_lt each
    have hlen : ((List.range len0).map F).length = len0 := by simp
    refine ⟨some x, (List.range len0).map F, cap0, by rw [hlen], fun k hk => ?_⟩
    have e : ((List.range len0).map F)[k] = F k := by simp
    rw [e]
    exact hF k (by omega)
end
end Go.Proofs.Ytoihkanneiknkaa
