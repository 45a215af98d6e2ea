/- How an argument that is a slice of ranges is opened: where it lies, what it reads, that its numbers fit. No conditions but those that are named. -/
import Derived.Test.YtfdmbgaincmefaaOpen
import Derived.Test.YtfdmbgaincmefaaRngA
import Derived.Test.YtfdmbgaincmefaaRngMore
import Derived.Deep.Slices
import Derived.Deep.Fields
import Derived.ChangeSame
namespace Go.Proofs.Ytfdmbgaincmefaa
open Go.ChangeShapes Go.WideShapes Go.Deep

section
variable {H : Type} {enc : TypeId × Value → H} {P : Program} {w : World} {base : Nat} {spare : Nat → Bool} {held : Bool}
theorem open_fields {t e : TypeId} {fs : Array Field} {fuel : Nat} {cs : List Value} {x : DataW H × List MemPlace} (ht : P.underlying t = some (.slice e)) (he : P.underlying e = some (.struct fs))
    (hone : oneCellFields P fs = true) (hC : P.cellsOf e = fs.size) (h : DataW.trod enc P w base spare held fuel t cs = some x) :
    (cs = [.slice none 0 0] ∧ x = (.nil, [])) ∨
    ∃ (a : Addr) (len cap m : Nat), cs = [.slice (some a) len cap] ∧ base ≤ a.block ∧ len ≤ cap ∧ cap ≤ maxLen ∧ m = (if spare a.block then cap else len) ∧
      ∀ i, i < m → ∀ (j : Nat) (f : Field), fs[j]? = some f → ∃ (v : Value) (y : DataW H × List MemPlace) (n : Nat), w.cell? (a.add (i * fs.size + j)) = some v ∧ DataW.trod enc P w base spare held n f.type [v] = some y := by
  rcases open_slice ht h with h0 | ⟨a, len, cap, m, n, D, Pl, hcs, hb, hl, hm, hmm, hx, hi⟩
  · exact .inl h0
  · refine .inr ⟨a, len, cap, m, hcs, hb, hl, hm, hmm, fun i him => ?_⟩
    obtain ⟨cs', hc, ht'⟩ := hi i him
    rw [hC] at hc
    obtain ⟨ys, n', hn', hy, hlen, hyl, hf⟩ := DataW.trod_struct he ht'
    obtain ⟨_, hcl, hat⟩ := World.cells?_some hc
    intro j f hj
    obtain ⟨ho, hk⟩ := hone_of hone j f hj
    have hjl : j < fs.size := (Array.getElem?_eq_some_iff.1 hj).1
    have hcell := hat j hjl
    have hv : cs'[j]? = some (cs'[j]'(by omega)) := List.getElem?_eq_getElem (by omega)
    have h1 := hf j f hj
    rw [ho, hk] at h1
    have hone' : (cs'.drop j).take 1 = [cs'[j]'(by omega)] := by
      rw [List.drop_eq_getElem_cons (by omega)]
      rfl
    rw [hone'] at h1
    have hys : ys[j]? = some (ys[j]'(by omega)) := List.getElem?_eq_getElem (by omega)
    refine ⟨_, _, _, ?_, h1.trans hys⟩
    rw [← Go.Deep.add_add, hcell, hv]
end

section
open Go.RowKit
variable {H : Type} {enc : TypeId × Value → H} {P : Program} {W : World}
theorem open_ranges {base : Nat} {t e : TypeId} {f0 f1 : Field} {v : Value} {d : DataW H} {p : List MemPlace} (ht : P.underlying t = some (.slice e)) (he : P.underlying e = some (.struct #[f0, f1])) (hone : oneCellFields P #[f0, f1] = true)
    (hC : P.cellsOf e = 2) (h0 : P.underlying f0.type = some (.int .i64)) (h1 : P.underlying f1.type = some (.int .i64))
    (hv : Value.okWide P W .any base t v) (h : DataW.Trod enc P W 0 (fun _ => true) true t v d p) :
    ∃ A l c, v = .slice A l.length c ∧ l.length ≤ c ∧ c ≤ maxLen ∧ Reads W W.heap.size 2 A l.length (rgv l) ∧ Fits64 l := by
  obtain ⟨a0, len0, cap0, rfl⟩ := okWide_slice ht hv
  obtain ⟨fuel, hf⟩ := h
  rcases open_fields ht he hone (by rw [hC]; rfl) hf with ⟨hcs, _⟩ | ⟨x, len, cap, m, hcs, _, hl, hm, hmm, hi⟩
  · simp [Value.cells] at hcs
    obtain ⟨rfl, rfl, rfl⟩ := hcs
    exact ⟨none, [], 0, rfl, Nat.le_refl _, by simp [maxLen], Reads.none_, fun r hr => by cases hr⟩
  · simp [Value.cells] at hcs
    obtain ⟨rfl, rfl, rfl⟩ := hcs
    have hmc : m = cap0 := by simpa using hmm
    have each : ∀ i, i < len0 → ∃ r : Rg, W.cell? (x.add (i * 2)) = some (.int .i64 r.1) ∧ W.cell? (x.add (i * 2 + 1)) = some (.int .i64 r.2) ∧ (Lit.int .i64 r.1).wf = true ∧ (Lit.int .i64 r.2).wf = true := by
      intro i hlt
      obtain ⟨v0, y0, n0, hc0, ht0⟩ := hi i (by omega) 0 f0 rfl
      obtain ⟨v1, y1, n1, hc1, ht1⟩ := hi i (by omega) 1 f1 rfl
      obtain ⟨a, ea, _, wa⟩ := DataW.trod_int h0 ht0
      obtain ⟨b, eb, _, wb⟩ := DataW.trod_int h1 ht1
      injection ea with ea
      injection eb with eb
      subst ea
      subst eb
      exact ⟨(a, b), by simpa using hc0, by simpa using hc1, wa, wb⟩
    obtain ⟨F, hF⟩ := choose_lt each
    have hlen : ((List.range len0).map F).length = len0 := by simp
    have hget : ∀ k (hk : k < ((List.range len0).map F).length), ((List.range len0).map F)[k] = F k := by intro k hk; simp
    refine ⟨some x, (List.range len0).map F, cap0, by rw [hlen], by rw [hlen]; exact hl, hm, ?_, ?_⟩
    · rw [hlen]
      refine Reads.here2 (B := x.block + 1) ⟨by rw [rgv_length, hlen], fun _ => ⟨x, rfl, by omega, fun j u hu => ?_⟩⟩
      have hj : j < len0 * 2 := by
        have := (List.getElem?_eq_some_iff.1 hu).1
        rw [rgv_length, hlen] at this
        exact this
      have hk : j / 2 < ((List.range len0).map F).length := by rw [hlen]; omega
      obtain ⟨c0, c1, _, _⟩ := hF (j / 2) (by omega)
      rcases Nat.mod_two_eq_zero_or_one j with h2 | h2
      · have e : j = 2 * (j / 2) := by omega
        have := rgv_from _ (j / 2) hk
        rw [← e, hu, hget] at this
        injection this with this
        rw [this, ← c0]
        congr 2
        omega
      · have e : j = 2 * (j / 2) + 1 := by omega
        have := rgv_to _ (j / 2) hk
        rw [← e, hu, hget] at this
        injection this with this
        rw [this, ← c1]
        congr 2
        omega
    · intro r hr
      obtain ⟨i, hi', rfl⟩ := List.mem_map.1 hr
      obtain ⟨_, _, w0, w1⟩ := hF i (List.mem_range.1 hi')
      have b0 := bounds_i64 w0
      have b1 := bounds_i64 w1
      exact ⟨b0.1, b0.2, b1.1, b1.2⟩
end
end Go.Proofs.Ytfdmbgaincmefaa
