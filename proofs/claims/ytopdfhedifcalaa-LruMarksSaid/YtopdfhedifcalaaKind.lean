/- Words: the type of a block of cells; how a pointer to a block reads. No conditions but those that are named. -/
import Derived.Test.YtopdfhedifcalaaSep
import Derived.Maps.OwnSet
import Derived.Maps.Views
import Derived.Lib.Builder
namespace Go.Proofs.Ytopdfhedifcalaa
open Go.RowKit Go.Maps

/-- A block of cells of a type. -/
def Kind (w : World) (T : TypeId) (k : Nat) : Prop := ∃ cs, Blk w k T cs
section
variable {w w' : World} {F G : Nat → Prop}
theorem Kind.ne {T T' : TypeId} {k k' : Nat} (h : Kind w T k) (h' : Kind w T' k') (ht : T ≠ T') : k ≠ k' := by
  obtain ⟨cs, hb⟩ := h
  obtain ⟨cs', hb'⟩ := h'
  exact hb.ne_ hb' ht
theorem Kind.lt {T : TypeId} {k : Nat} (h : Kind w T k) : k < w.heap.size := by
  obtain ⟨cs, hb⟩ := h
  exact hb.lt
theorem Kind.only {T : TypeId} {k : Nat} (h : Kind w T k) (ho : Only G w w') (hn : ¬ G k) : Kind w' T k := by
  obtain ⟨cs, hb⟩ := h
  exact ⟨cs, hb.only ho hn⟩
theorem own_kind {base : Nat} {e : TypeId} {size n : Nat} {v : Value} {xs : List Value} (h : w.ownsRow base e size v n xs) {k : Nat} (hk : v.ownBlock = some k) : Kind w e k := by
  rcases h.2 with ⟨rfl, _⟩ | ⟨g, cap, cur, rfl, _, hh, _⟩
  · simp [Value.ownBlock] at hk
  · have : g = k := by simpa [Value.ownBlock] using hk
    subst this
    exact ⟨cur, hh⟩
theorem Row.kind {α : Type} {enc : α → List Value} {sz : Nat} {T : TypeId} {v : Value} {l : List α} (h : Row w F T sz enc v l) {k : Nat} (hk : v.ownBlock = some k) : Kind w T k := own_kind h.own hk
theorem Kind.drewN {T : TypeId} {k : Nat} (h : Kind w T k) (n : Nat) : Kind (w.drewN n) T k := h
theorem Kind.alloc {T : TypeId} {k : Nat} (h : Kind w T k) (o : Obj) : Kind (w.alloc o) T k := by
  obtain ⟨cs, hb⟩ := h
  exact ⟨cs, hb.alloc o⟩
theorem Kind.set {T : TypeId} {k : Nat} (h : Kind w T k) (b i : Nat) (u : Value) : Kind (w.setCell ⟨b, i, none⟩ u) T k := by
  obtain ⟨cs, hb⟩ := h
  by_cases e : k = b
  · subst e
    exact ⟨_, hb.set_ i u⟩
  · exact ⟨_, hb.far (p := ⟨b, i, none⟩) e u⟩
theorem Kind.frozen {T : TypeId} {k : Nat} (h : Kind w T k) (i : Nat) : w.frozen? ⟨k, i, none⟩ = false := by
  obtain ⟨cs, hb⟩ := h
  exact hb.frozen i
end

theorem cell_far (w : World) {b i b' i' : Nat} (u : Value) (h : b = b' → i ≠ i') : (w.setCell ⟨b, i, none⟩ u).cell? ⟨b', i', none⟩ = w.cell? ⟨b', i', none⟩ :=
  World.cell?_setCell_other w ⟨b, i, none⟩ ⟨b', i', none⟩ u (fun e => by injection e with e1 e2; exact h e1 e2)
theorem cell_at {w : World} {b i : Nat} {v : Value} (u : Value) (h : w.cell? ⟨b, i, none⟩ = some v) : (w.setCell ⟨b, i, none⟩ u).cell? ⟨b, i, none⟩ = some u := World.cell?_setCell_same w ⟨b, i, none⟩ u h
theorem neq_ptr_other {P : Program} {w : World} {tp te : TypeId} {j : TypeInfo} {a b : Addr} {T T' : TypeId} (hp : P.underlying tp = some (.pointer te)) (hte : P.info? te = some j) (hsz : j.size ≠ 0) (hne : a ≠ b) (ha : Kind w T a.block) (hb : Kind w T' b.block) :
    (binOp .neq tp (.pointer (some a)) (.pointer (some b))).run P w = .ok (.bool true) w := by
  obtain ⟨ca, ha⟩ := ha
  obtain ⟨cb, hb⟩ := hb
  unfold Blk at ha hb
  have h : ∀ d : Nat, (Op.equalIn (d + 1) tp (.pointer (some a)) (.pointer (some b))).run P w = .ok false w := fun d => by
    simp [Op.equalIn, run_underlying hp, sizeOf, typeInfo, hte, hsz, run_sameAddr_other w hne ha hb]
  simp only [binOp]
  simp [Op.equal, Op.maxDepth, h 9999]
theorem Kind.below {w w' : World} {B : Nat} {T : TypeId} {k : Nat} (h : Kind w T k) (hb : Below B w w') (hk : k < B) : Kind w' T k := by
  obtain ⟨cs, hc⟩ := h
  exact ⟨cs, hc.below hb hk⟩
/-- How a pointer to a block reads. -/
def ptrR : Value → Option (DataW Unit × List MemPlace)
  | .pointer none => some (.nil, [])
  | .pointer (some ⟨g, 0, none⟩) => some (.lit (.int .i64 (g : Int)), [])
  | _ => none
theorem ptrR_inv {v : Value} {y : DataW Unit × List MemPlace} (h : ptrR v = some y) : (v = .pointer none ∧ y = (.nil, [])) ∨ ∃ g : Nat, v = .pointer (some ⟨g, 0, none⟩) ∧ y = (.lit (.int .i64 (g : Int)), []) := by
  unfold ptrR at h
  split at h
  · injection h with h
    exact .inl ⟨rfl, h.symm⟩
  · rename_i g
    injection h with h
    exact .inr ⟨g, rfl, h.symm⟩
  · cases h
theorem ptrR_at {v : Value} {g : Nat} {ps : List MemPlace} (h : ptrR v = some (.lit (.int .i64 (g : Int)), ps)) : v = .pointer (some ⟨g, 0, none⟩) := by
  rcases ptrR_inv h with ⟨rfl, e⟩ | ⟨g', rfl, e⟩
  · simp at e
  · simp at e
    obtain rfl : g = g' := by omega
    rfl
theorem ptrR_nil {v : Value} {ps : List MemPlace} (h : ptrR v = some (.nil, ps)) : v = .pointer none := by
  rcases ptrR_inv h with ⟨rfl, e⟩ | ⟨g', rfl, e⟩
  · rfl
  · simp at e
/-- A map's row of entries is as long as its datum. -/
theorem owns_size {P : Program} {k : TypeId} {R : Value → Option (DataW Unit × List MemPlace)} {w : World} {b n : Nat} {D : DataW Unit} (hm : w.ownsMap P k R b n D) : w.ownsMap P k R b (Maps.size D) D := by
  obtain ⟨es, clock, h1, h2, h3, h4⟩ := hm
  refine ⟨es, clock, h1, h2, ?_, h4⟩
  rw [h4]
  simp [Maps.size, length_sorted]
theorem owns_only {P : Program} {k : TypeId} {R : Value → Option (DataW Unit × List MemPlace)} {w w' : World} {G : Nat → Prop} {b n : Nat} {D : DataW Unit} (hm : w.ownsMap P k R b n D) (ho : Only G w w') (hn : ¬ G b) : w'.ownsMap P k R b n D := by
  have hlt := hm.lt
  obtain ⟨es, clock, h1, h2⟩ := hm
  exact ⟨es, clock, (ho.block b hlt hn).trans h1, h2⟩
theorem owns_ne {P : Program} {k T : TypeId} {R : Value → Option (DataW Unit × List MemPlace)} {w : World} {b n g : Nat} {D : DataW Unit} (hm : w.ownsMap P k R b n D) (hk : Kind w T g) : b ≠ g := by
  obtain ⟨es, clock, h1, _⟩ := hm
  rintro rfl
  obtain ⟨cs, hc⟩ := hk
  unfold Blk at hc
  rw [hc] at h1
  cases h1
end Go.Proofs.Ytopdfhedifcalaa
