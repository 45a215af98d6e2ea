/- How an argument that is a slice of structs of one-cell fields is opened: its cells, field by field. No conditions but those that are named. -/
import Derived.Test.YtopdfhedifcalaaOpen
import Derived.Deep.Slices
import Derived.Deep.Fields
import Derived.ChangeSame
namespace Go.Proofs.Ytopdfhedifcalaa
open Go.ChangeShapes Go.WideShapes Go.Deep

section
variable {H : Type} {enc : TypeId × Value → H} {P : Program} {w : World} {base : Nat} {spare : Nat → Bool} {held : Bool}
theorem open_slice_fields {t e : TypeId} {fs : Array Field} {fuel : Nat} {cs : List Value} {x : DataW H × List MemPlace} (ht : P.underlying t = some (.slice e)) (he : P.underlying e = some (.struct fs))
    (hone : oneCellFields P fs = true) (hC : P.cellsOf e = fs.size) (h : DataW.trod enc P w base spare held fuel t cs = some x) :
    (cs = [.slice none 0 0] ∧ x = (.nil, [])) ∨
    ∃ (a : Addr) (len cap m : Nat) (D : Nat → DataW H) (Pl : Nat → List MemPlace), cs = [.slice (some a) len cap] ∧ base ≤ a.block ∧ len ≤ cap ∧ cap ≤ maxLen ∧ m = (if spare a.block then cap else len) ∧
      x = (.slice ((List.range len).map D) ((List.range (m - len)).map fun j => D (len + j)), MemPlace.row a (m * fs.size) ++ (List.range m).flatMap Pl) ∧
      ∀ i, i < m → ∃ (ys : List (DataW H × List MemPlace)) (n : Nat), D i = .agg (ys.map (·.1)) ∧ Pl i = ys.flatMap (·.2) ∧ ys.length = fs.size ∧
        ∀ (j : Nat) (f : Field), fs[j]? = some f → ∃ (v : Value) (y : DataW H × List MemPlace), w.cell? (a.add (i * fs.size + j)) = some v ∧ ys[j]? = some y ∧ DataW.trod enc P w base spare held n f.type [v] = some y := by
  rcases open_slice ht h with h0 | ⟨a, len, cap, m, n, D, Pl, hcs, hb, hl, hm, hmm, hx, hi⟩
  · exact .inl h0
  · refine .inr ⟨a, len, cap, m, D, Pl, hcs, hb, hl, hm, hmm, by rw [hC] at hx; exact hx, fun i him => ?_⟩
    obtain ⟨cs', hc, ht'⟩ := hi i him
    rw [hC] at hc
    obtain ⟨ys, n', hn', hy, hlen, hyl, hf⟩ := DataW.trod_struct he ht'
    obtain ⟨_, hcl, hat⟩ := World.cells?_some hc
    simp only [Prod.mk.injEq] at hy
    refine ⟨ys, n', hy.1, hy.2, hyl, fun j f hj => ?_⟩
    obtain ⟨ho, hk⟩ := hone_of hone j f hj
    have hjl : j < fs.size := (Array.getElem?_eq_some_iff.1 hj).1
    have hcell := hat j hjl
    have hv : cs'[j]? = some (cs'[j]'(by omega)) := List.getElem?_eq_getElem (by omega)
    have h1 := hf j f hj
    rw [ho, hk] at h1
    have hone' : (cs'.drop j).take 1 = [cs'[j]'(by omega)] := by
      rw [List.drop_eq_getElem_cons (by omega)]
      rfl
    rw [hone'] at h1
    have hys : ys[j]? = some (ys[j]'(by omega)) := List.getElem?_eq_getElem (by omega)
    refine ⟨_, _, ?_, hys, h1.trans hys⟩
    rw [← Go.Deep.add_add, hcell, hv]
end

section
open Go.RowKit
variable {H : Type} {enc : TypeId × Value → H} {P : Program} {W : World}

/-- Where a slice that is not empty lies, and its cells, whatever the elements' size. -/
theorem Reads.formN {w : World} {B n size : Nat} {A : Option Addr} {xs : List Value} (h : Reads w B size A n xs) (hn : 0 < n) (hs : 0 < size) :
    ∃ b off, A = some ⟨b, off, none⟩ ∧ b < B ∧ ∀ j u, xs[j]? = some u → w.cell? ⟨b, off + j, none⟩ = some u := by
  obtain ⟨⟨b, off, spot⟩, rfl, hb, hc⟩ := h.2 hn
  have hl := h.1
  have hp : 0 < n * size := Nat.mul_pos hn hs
  have h0 := hc 0 _ (List.getElem?_eq_getElem (show 0 < xs.length by omega))
  have hspot : spot = none := by simpa [Addr.add] using World.cell?_spot h0
  subst hspot
  refine ⟨b, off, rfl, hb, fun j u hu => ?_⟩
  have := hc j u hu
  unfold Addr.add at this
  by_cases hj : j = 0
  · subst hj; simpa using this
  · simpa [hj] using this

/-- A slice of structs of a byte and an int: as cells, two for each. -/
theorem open_byte_int {base : Nat} {t e : TypeId} {f0 f1 : Field} {v : Value} {d : DataW H} {p : List MemPlace} (ht : P.underlying t = some (.slice e)) (he : P.underlying e = some (.struct #[f0, f1])) (hone : oneCellFields P #[f0, f1] = true)
    (hC : P.cellsOf e = 2) (h0 : P.underlying f0.type = some (.int .u8)) (h1 : P.underlying f1.type = some (.int .i64))
    (hv : Value.okWide P W .any base t v) (h : DataW.Trod enc P W 0 (fun _ => true) true t v d p) :
    ∃ A n c xs, v = .slice A n c ∧ n ≤ c ∧ c ≤ maxLen ∧ Reads W W.heap.size 2 A n xs ∧
      ∀ i, i < n → ∃ a b : Int, xs[i * 2]? = some (.int .u8 a) ∧ xs[i * 2 + 1]? = some (.int .i64 b) ∧ (Lit.int .u8 a).wf = true ∧ (Lit.int .i64 b).wf = true := by
  obtain ⟨a0, len0, cap0, rfl⟩ := okWide_slice ht hv
  obtain ⟨fuel, hf⟩ := h
  rcases open_slice_fields ht he hone (by rw [hC]; rfl) hf with ⟨hcs, _⟩ | ⟨x, len, cap, m, D, Pl, hcs, _, hl, hm, hmm, _, hi⟩
  · simp [Value.cells] at hcs
    obtain ⟨rfl, rfl, rfl⟩ := hcs
    exact ⟨none, 0, 0, [], rfl, Nat.le_refl _, by simp [maxLen], Reads.none_, fun i hi => absurd hi (by omega)⟩
  · simp [Value.cells] at hcs
    obtain ⟨rfl, rfl, rfl⟩ := hcs
    have hmc : m = cap0 := by simpa using hmm
    have cell : ∀ i, i < len0 → ∃ a b : Int, W.cell? (x.add (i * 2)) = some (.int .u8 a) ∧ W.cell? (x.add (i * 2 + 1)) = some (.int .i64 b) ∧ (Lit.int .u8 a).wf = true ∧ (Lit.int .i64 b).wf = true := by
      intro i hlt
      obtain ⟨ys, n, _, _, _, hfl⟩ := hi i (by omega)
      obtain ⟨v0, y0, hc0, _, ht0⟩ := hfl 0 f0 rfl
      obtain ⟨v1, y1, hc1, _, ht1⟩ := hfl 1 f1 rfl
      obtain ⟨a, ea, _, wa⟩ := DataW.trod_int h0 ht0
      obtain ⟨b, eb, _, wb⟩ := DataW.trod_int h1 ht1
      injection ea with ea
      injection eb with eb
      subst ea
      subst eb
      exact ⟨a, b, by simpa using hc0, by simpa using hc1, wa, wb⟩
    have hget : ∀ j, j < len0 * 2 → ((List.range (len0 * 2)).map fun j => (W.cell? (x.add j)).getD undef)[j]? = some ((W.cell? (x.add j)).getD undef) := by
      intro j hj
      rw [List.getElem?_map, List.getElem?_range hj]
      rfl
    refine ⟨some x, len0, cap0, (List.range (len0 * 2)).map fun j => (W.cell? (x.add j)).getD undef, rfl, hl, hm, ?_, ?_⟩
    · refine ⟨by simp, fun hn => ⟨x, rfl, ?_, fun j u hu => ?_⟩⟩
      · obtain ⟨a, b, hc, _⟩ := cell 0 hn
        have := lt_of_cell hc
        rwa [block_of_add] at this
      · have hj : j < len0 * 2 := by
          have := (List.getElem?_eq_some_iff.1 hu).1
          simpa using this
        rw [hget j hj] at hu
        injection hu with hu
        obtain ⟨a, b, hca, hcb, _⟩ := cell (j / 2) (by omega)
        rcases Nat.mod_two_eq_zero_or_one j with h2 | h2
        · have e : j = j / 2 * 2 := by omega
          rw [← e] at hca
          rw [← hu, hca]
          rfl
        · have e : j = j / 2 * 2 + 1 := by omega
          rw [← e] at hcb
          rw [← hu, hcb]
          rfl
    · intro i hlt
      obtain ⟨a, b, hca, hcb, wa, wb⟩ := cell i hlt
      exact ⟨a, b, by rw [hget _ (by omega), hca]; rfl, by rw [hget _ (by omega), hcb]; rfl, wa, wb⟩
end
end Go.Proofs.Ytopdfhedifcalaa
