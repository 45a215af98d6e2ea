/- How an argument that is a slice of calls of two numbers, or a slice of numbers, is opened. No conditions but those that are named. -/
import Derived.Test.YtopdfhedifcalaaOpenS
import Derived.Below
namespace Go.Proofs.Ytopdfhedifcalaa
open Go.ChangeShapes Go.WideShapes Go.Deep Go.RowKit

/-- What a slice of calls reads, call by call: kind and key. -/
def CallsIn2 (W : World) (A : Option Addr) (l : List (Int × Int)) : Prop :=
  l ≠ [] → ∃ b o, A = some ⟨b, o, none⟩ ∧ b < W.heap.size ∧ ∀ k (h : k < l.length), W.cell? ⟨b, o + k * 2, none⟩ = some (.int .i64 l[k].1) ∧ W.cell? ⟨b, o + k * 2 + 1, none⟩ = some (.int .i64 l[k].2)
/-- What a slice of numbers reads. -/
def IntsIn (W : World) (A : Option Addr) (l : List Int) : Prop :=
  l ≠ [] → ∃ b o, A = some ⟨b, o, none⟩ ∧ b < W.heap.size ∧ ∀ k (h : k < l.length), W.cell? ⟨b, o + k, none⟩ = some (.int .i64 l[k])
/-- Numbers that are of the language's own. -/
def Num (n : Int) : Prop := (Lit.int .i64 n).wf = true
def Nums2 (l : List (Int × Int)) : Prop := ∀ x ∈ l, Num x.1 ∧ Num x.2
section
variable {H : Type} {enc : TypeId × Value → H} {P : Program} {W : World}
theorem spot_of {b o j : Nat} {sp : Option Nat} {u : Value} (h : W.cell? ((⟨b, o, sp⟩ : Addr).add j) = some u) : j = 0 → sp = none := by
  rintro rfl
  simpa [Addr.add] using World.cell?_spot h
theorem cell_adds {b o j : Nat} {u : Value} (h : W.cell? ((⟨b, o, none⟩ : Addr).add j) = some u) : W.cell? ⟨b, o + j, none⟩ = some u := by
  unfold Addr.add at h
  by_cases hj : j = 0
  · subst hj; simpa using h
  · simpa [hj] using h
theorem open_lcalls {base : Nat} {t e : TypeId} {f0 f1 : Field} {v : Value} {d : DataW H} {p : List MemPlace} (ht : P.underlying t = some (.slice e)) (he : P.underlying e = some (.struct #[f0, f1])) (hone : oneCellFields P #[f0, f1] = true)
    (hC : P.cellsOf e = 2) (h0 : P.underlying f0.type = some (.int .i64)) (h1 : P.underlying f1.type = some (.int .i64))
    (hv : Value.okWide P W .any base t v) (h : DataW.Trod enc P W 0 (fun _ => true) true t v d p) :
    ∃ (A : Option Addr) (l : List (Int × Int)) (c : Nat), v = .slice A l.length c ∧ l.length ≤ 9223372036854775807 ∧ CallsIn2 W A l ∧ Nums2 l := by
  obtain ⟨a0, len0, cap0, rfl⟩ := okWide_slice ht hv
  obtain ⟨fuel, hf⟩ := h
  rcases open_slice_fields ht he hone (by rw [hC]; rfl) hf with ⟨hcs, _⟩ | ⟨x, len, cap, m, D, Pl, hcs, _, hl, hm, hmm, _, hi⟩
  · simp [Value.cells] at hcs
    obtain ⟨rfl, rfl, rfl⟩ := hcs
    exact ⟨none, [], 0, rfl, by simp, fun hne => absurd rfl hne, fun x hx => by cases hx⟩
  · simp [Value.cells] at hcs
    obtain ⟨rfl, rfl, rfl⟩ := hcs
    have hmc : m = cap0 := by simpa using hmm
    have each : ∀ i, i < len0 → ∃ r : Int × Int, (W.cell? (x.add (i * 2)) = some (.int .i64 r.1) ∧ W.cell? (x.add (i * 2 + 1)) = some (.int .i64 r.2)) ∧ Num r.1 ∧ Num r.2 := by
      intro i hlt
      obtain ⟨ys, n, _, _, _, hfl⟩ := hi i (by omega)
      obtain ⟨v0, y0, hc0, _, ht0⟩ := hfl 0 f0 rfl
      obtain ⟨v1, y1, hc1, _, ht1⟩ := hfl 1 f1 rfl
      obtain ⟨a, ea, _, wa⟩ := DataW.trod_int h0 ht0
      obtain ⟨b, eb, _, wb⟩ := DataW.trod_int h1 ht1
      injection ea with ea
      injection eb with eb
      subst ea
      subst eb
      exact ⟨(a, b), ⟨by simpa using hc0, by simpa using hc1⟩, wa, wb⟩
    obtain ⟨F, hF⟩ := choose_lt each
    have hlen : ((List.range len0).map F).length = len0 := by simp
    obtain ⟨bk, o, sp⟩ := x
    refine ⟨some ⟨bk, o, sp⟩, (List.range len0).map F, cap0, by rw [hlen], by rw [hlen]; unfold maxLen at hm; omega, fun hne => ?_, fun r hr => ?_⟩
    · have hpos : 0 < len0 := by
        rcases Nat.eq_zero_or_pos len0 with h0 | h0
        · subst h0
          exact absurd rfl hne
        · exact h0
      have hz := (hF 0 hpos).1.1
      have hsp := spot_of hz (Nat.zero_mul 2)
      subst hsp
      have hb := lt_of_cell hz
      rw [block_of_add] at hb
      refine ⟨bk, o, rfl, hb, fun k hk => ?_⟩
      rw [hlen] at hk
      have he : ((List.range len0).map F)[k] = F k := by simp
      rw [he]
      exact ⟨cell_adds (hF k hk).1.1, by rw [Nat.add_assoc]; exact cell_adds (hF k hk).1.2⟩
    · obtain ⟨i, hi', rfl⟩ := List.mem_map.1 hr
      exact (hF i (List.mem_range.1 hi')).2
theorem open_nums {base : Nat} {t e : TypeId} {v : Value} {d : DataW H} {p : List MemPlace} (ht : P.underlying t = some (.slice e)) (he : P.underlying e = some (.int .i64)) (hc : P.cellsOf e = 1)
    (hv : Value.okWide P W .any base t v) (h : DataW.Trod enc P W 0 (fun _ => true) true t v d p) :
    ∃ (A : Option Addr) (l : List Int) (c : Nat), v = .slice A l.length c ∧ l.length ≤ 9223372036854775807 ∧ IntsIn W A l ∧ ∀ x ∈ l, Num x := by
  obtain ⟨a0, len0, cap0, rfl⟩ := okWide_slice ht hv
  obtain ⟨fuel, hf⟩ := h
  rcases open_ints ht he hc hf with ⟨hcs, _⟩ | ⟨x, len, cap, zs, hcs, _, hl, hm, hz, hd, hcell, hwz⟩
  · simp [Value.cells] at hcs
    obtain ⟨rfl, rfl, rfl⟩ := hcs
    exact ⟨none, [], 0, rfl, by simp, fun hne => absurd rfl hne, fun x hx => by cases hx⟩
  · simp [Value.cells] at hcs
    obtain ⟨rfl, rfl, rfl⟩ := hcs
    have hzl : zs.length = cap0 := by simpa using hz
    have hlen : (zs.take len0).length = len0 := by simp; omega
    obtain ⟨bk, o, sp⟩ := x
    refine ⟨some ⟨bk, o, sp⟩, zs.take len0, cap0, by rw [hlen], by rw [hlen]; unfold maxLen at hm; omega, fun hne => ?_, fun y hy => hwz y (List.mem_of_mem_take hy)⟩
    have hpos : 0 < len0 := by
      rcases Nat.eq_zero_or_pos len0 with h0 | h0
      · subst h0
        exact absurd rfl hne
      · exact h0
    have cell : ∀ k (h : k < len0), W.cell? ((⟨bk, o, sp⟩ : Addr).add k) = some (.int .i64 (zs[k]'(by omega))) := by
      intro k hk
      rw [hcell k (by omega), List.getD_eq_getElem?_getD, List.getElem?_eq_getElem (by omega)]
      rfl
    have hsp := spot_of (cell 0 hpos) rfl
    subst hsp
    have hb := lt_of_cell (cell 0 hpos)
    rw [block_of_add] at hb
    refine ⟨bk, o, rfl, hb, fun k hk => ?_⟩
    rw [hlen] at hk
    rw [List.getElem_take]
    exact cell_adds (cell k hk)
end
theorem CallsIn2.below {W w' : World} {A : Option Addr} {l : List (Int × Int)} (h : CallsIn2 W A l) (hb : Below W.heap.size W w') : CallsIn2 w' A l := by
  intro hne
  obtain ⟨b, o, h1, h2, h3⟩ := h hne
  have hs := hb.size
  refine ⟨b, o, h1, by omega, fun k hk => ?_⟩
  have := h3 k hk
  exact ⟨(hb.cell h2).trans this.1, (hb.cell h2).trans this.2⟩
end Go.Proofs.Ytopdfhedifcalaa
