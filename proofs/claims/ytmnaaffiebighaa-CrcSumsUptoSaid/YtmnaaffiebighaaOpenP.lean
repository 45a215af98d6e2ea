/- How an argument that is a slice of slices of bytes is opened: where its parts lie, what they read, and how much they are together where what comes in is of bounded bulk. No conditions but those that are named. -/
import Derived.Test.YtmnaaffiebighaaRows
import Derived.Test.YtmnaaffiebighaaOpen
import Derived.Test.YtmnaaffiebighaaParts
import Derived.Deep.Matrix
namespace Go.Proofs.Ytmnaaffiebighaa
open Go.ChangeShapes Go.WideShapes Go.ChangeAt Go.RowKit Go.Deep

theorem bulk_ge {H : Type} (d : DataW H) : 1 ≤ Rows.uptoBulk d := by
  cases d with
  | lit l => cases l <;> simp [Rows.uptoBulk]
  | _ => simp [Rows.uptoBulk]
theorem bulk_mem {H : Type} {d : DataW H} {l : List (DataW H)} (h : d ∈ l) : Rows.uptoBulk d ≤ Rows.uptoBulkAll l := by
  induction l with
  | nil => cases h
  | cons a l ih =>
    rw [Rows.uptoBulkAll]
    rcases List.mem_cons.1 h with rfl | h
    · omega
    · have := ih h
      omega
theorem bulk_count {H : Type} (l : List (DataW H)) : l.length ≤ Rows.uptoBulkAll l := by
  induction l with
  | nil => simp
  | cons a l ih =>
    have := bulk_ge a
    simp only [Rows.uptoBulkAll, List.length_cons]
    omega
theorem bulk_row {H : Type} (A : Option Addr) (L : Nat) (zs : List Int) (hL : L ≤ zs.length) (hA : A = none → L = 0) : L + 1 ≤ Rows.uptoBulk (intRow (H := H) .u8 A L zs) := by
  cases A with
  | none => simp [intRow, Rows.uptoBulk, hA rfl]
  | some a =>
    have h := bulk_count (lits (H := H) .u8 (zs.take L))
    simp only [lits, List.length_map, List.length_take] at h
    simp only [intRow, Rows.uptoBulk, lits]
    omega

/-- All bytes of the parts, and their number, count among what is read. -/
def Bulky {H : Type} (d : DataW H) (ps : List Part) : Prop := (flat ps).length + ps.length ≤ Rows.uptoBulk d

theorem bulky_rows {H : Type} (F : Nat → Part) (D : Nat → DataW H) (m : Nat) (h : ∀ r, r < m → (F r).2.1.length + 1 ≤ Rows.uptoBulk (D r)) :
    (flat ((List.range m).map F)).length + m ≤ Rows.uptoBulkAll ((List.range m).map D) := by
  induction m with
  | zero => simp [flat]
  | succ m ih =>
    have h1 := ih fun r hr => h r (by omega)
    have h2 := h m (by omega)
    have happ : ∀ l r : List (DataW H), Rows.uptoBulkAll (l ++ r) = Rows.uptoBulkAll l + Rows.uptoBulkAll r := by
      intro l r
      induction l with
      | nil => simp [Rows.uptoBulkAll]
      | cons a l ih => simp only [List.cons_append, Rows.uptoBulkAll, ih]; omega
    simp only [List.range_succ, List.map_append, List.map_cons, List.map_nil, happ, Rows.uptoBulkAll, flat, List.flatMap_append, List.length_append, List.flatMap_cons, List.flatMap_nil, List.append_nil] at h1 ⊢
    omega

theorem parts_upto {H : Type} {d : DataW H} {l : List (DataW H)} {ps : List Part} (hk : Rows.uptoSmall H l = true) (hm : d ∈ l) (hb : Bulky d ps) : (flat ps).length + ps.length ≤ 1048576 := by
  have h : Rows.uptoBulkAll l ≤ 1048576 := of_decide_eq_true hk
  have := bulk_mem hm
  unfold Bulky at hb
  omega

section
variable {H : Type} {enc : TypeId × Value → H} {P : Program} {W : World}

theorem open_parts {base : Nat} {t e q : TypeId} {v : Value} {d : DataW H} {p : List MemPlace} (ht : P.underlying t = some (.slice e)) (he : P.underlying e = some (.slice q)) (hq : P.underlying q = some (.int .u8)) (ce : P.cellsOf e = 1) (cq : P.cellsOf q = 1)
    (hv : Value.okWide P W .any base t v) (h : DataW.Trod enc P W 0 (fun _ => true) true t v d p) :
    ∃ A ps c, v = .slice A ps.length c ∧ ps.length ≤ c ∧ c ≤ maxLen ∧ Reads W W.heap.size 1 A ps.length (pvs ps) ∧ PartsRead W W.heap.size ps ∧ Bulky d ps := by
  obtain ⟨a0, len0, cap0, rfl⟩ := okWide_slice ht hv
  obtain ⟨fuel, hf⟩ := h
  rcases open_int_rows ht he hq ce cq hf with ⟨hcs, _⟩ | ⟨a, len, cap, A, L, C, Z, hcs, _, hl, hm, hx, hr⟩
  · simp [Value.cells] at hcs
    obtain ⟨rfl, rfl, rfl⟩ := hcs
    exact ⟨none, [], 0, rfl, Nat.le_refl _, by simp [maxLen], Reads.none_, fun k p hk => by simp at hk, by simp [Bulky, flat]⟩
  · simp [Value.cells] at hcs
    obtain ⟨rfl, rfl, rfl⟩ := hcs
    let F : Nat → Part := fun r => (A r, ((Z r).take (L r)).map fun n => UInt8.ofNat n.toNat, C r)
    have hF : ∀ r, r < cap0 → (F r).2.1.length = L r := by
      intro r hrc
      obtain ⟨_, h1, _, h3, _⟩ := hr r hrc
      simp [F]
      omega
    have hget : ∀ k, k < len0 → ((List.range len0).map F)[k]? = some (F k) := fun k hk => by rw [List.getElem?_map, List.getElem?_range hk]; rfl
    refine ⟨some a, (List.range len0).map F, cap0, by simp, by simpa using hl, hm, ?_, ?_, ?_⟩
    · rw [List.length_map, List.length_range]
      refine Reads.here (B := a.block + 1) ⟨by simp [pvs], fun _ => ⟨a, rfl, by omega, fun j u hu => ?_⟩⟩
      have hj : j < len0 := by
        have := (List.getElem?_eq_some_iff.1 hu).1
        simpa [pvs] using this
      obtain ⟨h0, _⟩ := hr j (by omega)
      rw [h0]
      have : (pvs ((List.range len0).map F))[j]? = some (.slice (F j).1 (F j).2.1.length (F j).2.2) := by
        unfold pvs
        rw [List.getElem?_map, hget j hj]
        rfl
      rw [this, hF j (by omega)] at hu
      exact hu
    · intro k p hk
      have hkl : k < len0 := by
        have := (List.getElem?_eq_some_iff.1 hk).1
        simpa using this
      rw [hget k hkl] at hk
      injection hk with hk
      subst hk
      obtain ⟨_, h1, h2, h3, h4, h5, h6⟩ := hr k (by omega)
      have hlen := hF k (by omega)
      unfold maxLen at h2
      refine ⟨?_, by omega⟩
      rw [hlen]
      refine ⟨by rw [bv_length, hlen]; omega, fun hn => ?_⟩
      have hsome : ∃ a', A k = some a' := by
        rcases hA : A k with _ | a'
        · have := h5 hA; omega
        · exact ⟨a', rfl⟩
      obtain ⟨a', hA⟩ := hsome
      obtain ⟨_, hc⟩ := h6 a' hA
      refine ⟨a', hA, ?_, fun j u hu => ?_⟩
      · have := lt_of_cell (hc 0 (by omega))
        rwa [block_of_add] at this
      · have hj : j < L k := by
          have := (List.getElem?_eq_some_iff.1 hu).1
          rw [bv_length, hlen] at this
          exact this
        have hjz : j < (Z k).length := by omega
        rw [hc j (by omega)]
        simp only [F, bv, List.getElem?_map, List.getElem?_take, if_pos hj, List.getElem?_eq_getElem hjz, Option.map_some] at hu
        injection hu with hu
        rw [← hu, byte_of (h4 _ (List.getElem_mem hjz)), List.getD_eq_getElem?_getD, List.getElem?_eq_getElem hjz]
        rfl
    · have hd := (Prod.mk.inj hx).1
      unfold Bulky
      rw [hd, Rows.uptoBulk, List.length_map, List.length_range]
      have := bulky_rows F (fun r => intRow (H := H) .u8 (A r) (L r) (Z r)) len0 (fun r hrl => by
        obtain ⟨_, h1, _, h3, _, h5, _⟩ := hr r (by omega)
        rw [hF r (by omega)]
        exact bulk_row _ _ _ (by omega) (fun hA => by have := h5 hA; omega))
      omega
end
end Go.Proofs.Ytmnaaffiebighaa
