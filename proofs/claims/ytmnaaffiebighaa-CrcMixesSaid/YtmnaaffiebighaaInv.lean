/- A region that draws its order, by an invariant: what holds behind every set of operations that may have been carried out, shown one operation at a time. No conditions but those that are named. -/
import Derived.OrdersHeld
import Derived.RegionTactic
namespace Go.Proofs.Ytmnaaffiebighaa

section
variable {P : Program} {ops : Array Oper} {Q : Exit → Act → World → Prop} {md : Region.Mode}

/-- Every operation waits for earlier ones alone. -/
def backB (ops : Array Oper) : Bool := (List.range ops.size).all fun i => ((ops[i]?).map (·.after.all fun e => decide (e.on < i))).getD true

theorem backB_spec (h : backB ops = true) {i : Nat} {o : Oper} (ho : ops[i]? = some o) : ∀ e ∈ o.after, e.on < i := by
  intro e he
  have hi : i < ops.size := (Array.getElem?_eq_some_iff.1 ho).1
  have h1 := List.all_eq_true.1 h i (List.mem_range.2 hi)
  rw [ho] at h1
  simp only [Option.map_some, Option.getD_some, Array.all_eq_true_iff_forall_mem] at h1
  exact of_decide_eq_true (h1 e he)

theorem all_listed (hb : backB ops = true) {listed : Array Bool} (hs : listed.size = ops.size) (hr : Region.ready md ops listed = []) : ∀ i, i < ops.size → listed.getD i false = true := by
  intro i
  induction i using Nat.strongRecOn with
  | ind i ih =>
    intro hi
    rcases hc : listed.getD i true with _ | _
    · exfalso
      have ho : ops[i]? = some ops[i] := Array.getElem?_eq_getElem hi
      have : i ∈ Region.ready md ops listed := mem_ready.2 ⟨hc, ops[i], ho, fun e he _ => by
        have hlt := backB_spec hb ho e he
        exact ih e.on hlt (by omega)⟩
      rw [hr] at this
      cases this
    · have hil : i < listed.size := by omega
      simp only [Array.getD, hil, dif_pos] at hc ⊢
      exact hc

theorem count_set {l : List Bool} {i : Nat} (h : l[i]? = some false) : (l.set i true).count false + 1 = l.count false := by
  induction l generalizing i with
  | nil => simp at h
  | cons b l ih =>
    cases i with
    | zero =>
      simp at h
      subst h
      simp
    | succ i =>
      simp at h
      have := ih h
      rw [List.set_cons_succ]
      cases b <;> simp <;> omega

theorem wpAny_inv (hb : backB ops = true) (Inv : Array Bool → Act → World → Prop)
    (step : ∀ (i : Nat) (o : Oper) (listed : Array Bool) (a : Act) (w : World), ops[i]? = some o → listed.getD i true = false → (∀ e ∈ o.after, Region.binds md e = true → listed.getD e.on false = true) → Inv listed a w → wpOp P ops Q i (Inv (listed.setIfInBounds i true)) a w)
    (fin : ∀ (listed : Array Bool) (a : Act) (w : World), (∀ i, i < ops.size → listed.getD i false = true) → Inv listed a w → Q .normal a w) :
    ∀ (fuel : Nat) (listed : Array Bool) (a : Act) (w : World), listed.size = ops.size → listed.toList.count false ≤ fuel → Inv listed a w → wpAny P md ops Q fuel listed a w := by
  intro fuel
  induction fuel with
  | zero =>
    intro listed a w hs hc hI
    have hr : Region.ready md ops listed = [] := by
      rcases h : Region.ready md ops listed with _ | ⟨i, r⟩
      · rfl
      · exfalso
        have hi : i ∈ Region.ready md ops listed := by rw [h]; simp
        obtain ⟨h1, _⟩ := mem_ready.1 hi
        have hil : i < listed.size := by
          rcases Nat.lt_or_ge i listed.size with hl | hl
          · exact hl
          · simp [Array.getD, Nat.not_lt.2 hl] at h1
        have hg : listed.toList[i]? = some false := by
          simp only [Array.getD, hil, dif_pos] at h1
          simp [hil]
          exact h1
        have := count_set hg
        omega
    exact ⟨hr, fin listed a w (all_listed hb hs hr) hI⟩
  | succ fuel ih =>
    intro listed a w hs hc hI
    refine ⟨fun hr => fin listed a w (all_listed hb hs hr) hI, fun i hi => ?_⟩
    obtain ⟨h1, o, ho, h2⟩ := mem_ready.1 hi
    have hil : i < listed.size := by
      rcases Nat.lt_or_ge i listed.size with hl | hl
      · exact hl
      · simp [Array.getD, Nat.not_lt.2 hl] at h1
    have hg : listed.toList[i]? = some false := by
      simp only [Array.getD, hil, dif_pos] at h1
      simp [hil]
      exact h1
    have hcs := count_set hg
    refine wpOp_mono (fun a' w' h => ih _ a' w' (by simpa using hs) ?_ h) (step i o listed a w ho h1 h2 hI)
    rw [Array.toList_setIfInBounds]
    omega

/-- A region that draws, by an invariant. -/
theorem wp_region_inv {id : Nat} {a : Act} {w : World} (hm : P.follows .mixedOrders = true) (hb : backB ops = true) (Inv : Array Bool → Act → World → Prop)
    (start : Inv (Array.replicate ops.size false) a w.drew)
    (step : ∀ (i : Nat) (o : Oper) (listed : Array Bool) (a : Act) (w : World), ops[i]? = some o → listed.getD i true = false → (∀ e ∈ o.after, Region.binds .any e = true → listed.getD e.on false = true) → Inv listed a w → wpOp P ops Q i (Inv (listed.setIfInBounds i true)) a w)
    (fin : ∀ (listed : Array Bool) (a : Act) (w : World), (∀ i, i < ops.size → listed.getD i false = true) → Inv listed a w → Q .normal a w) :
    (Code.region id ops true).wp P Q a w :=
  wp_region_any hm (wpAny_inv hb Inv step fin _ _ _ _ (by simp) (by simp) start)
end
end Go.Proofs.Ytmnaaffiebighaa
