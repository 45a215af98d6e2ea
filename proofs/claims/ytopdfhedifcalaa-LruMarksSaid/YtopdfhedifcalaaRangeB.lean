/- A range over a function whose receiver is bound (a method of an object): what the iterator promises, and the law for the statement. Conditions: those that each theorem names. -/
import Derived.Test.YtopdfhedifcalaaProg
import Derived.Test.YtopdfhedifcalaaWords
import Derived.RangeFuncNested
import Derived.RangeFuncBox
import Derived.RangeFuncBound
import Derived.RangeFuncCalls
import Derived.RangeFuncLeaves
import Derived.Shelf.Abstract
import Derived.Shelf.RegionOpen
import Derived.WalkKit
import Derived.OwnWalkIn
import Derived.TacticsInMore
import Derived.LoopNIn
import Derived.LoopIn
namespace Go.Proofs.Ytopdfhedifcalaa
open Go.RowKit

/-- An iterator with a bound receiver that gives xs one by one, as long as the rounds go on and leave alone what lay below n₀. -/
def Gives {α : Type} (F : Fence) (n : Nat) (P : Program) (g : Nat) (rv : Value) (encs : α → Array Value) (n₀ : Nat) (xs : List α) (w : World) : Prop :=
  ∀ (l : Nat) (J Jx : List α → World → Prop) (W : World), Below n₀ w W →
    (∀ pre x rest W1, xs = pre ++ x :: rest → J pre W1 → YieldAt F (n - 1) P l (encs x) W1 fun e W' =>
      (e = .returned (.bool true) ∧ J (pre ++ [x]) W' ∧ Below n₀ W1 W') ∨ (e = .returned (.bool false) ∧ Jx (pre ++ [x]) W')) →
    J [] W → CallsIn F n P g #[rv, .func (.yield l) #[] #[]] W fun e W' => (∃ v, e = .returned v) ∧ (J xs W' ∨ ∃ pre, pre <+: xs ∧ Jx pre W')

theorem boxed_stay {W W' : World} {row : Option Nat} {B : Nat} {t : TypeId} {v : Value} (h : Boxed W B t v) (hg : W.grownBy W' row) (hr : ∀ r, row = some r → ∃ o : Obj, W.heap[r]? = some o ∧ o.isCells = false) : Boxed W' B t v := boxed_own B t (fun _ : Unit => v) () W W' row h hg hr
section
variable {F : Fence} {n : Nat} {P : Program}
/-- The loop's two blocks: for what is deferred in its rounds (at d), and the loop's own state behind it. -/
def TwoAt (d : Nat) (r : Loop) (W : World) : Prop := W.heap[d + 1]? = some (.loop r) ∧ W.heap[d]? = some (.deferred (some []))
theorem TwoAt.turn {d : Nat} {r : Loop} {W : World} (h : TwoAt d r W) (r' : Loop) : TwoAt d r' (W.putObj (d + 1) (.loop r')) :=
  ⟨World.putObj_heap_same (Array.getElem?_eq_some_iff.1 h.1).1, (World.putObj_heap_other (by omega)).trans h.2⟩
theorem TwoAt.kept {d : Nat} {r : Loop} {W W' : World} (h : TwoAt d r W) (hk : KeepsFrom d W W') : TwoAt d r W' :=
  ⟨hk.same _ _ (by omega) h.1 rfl, hk.same _ _ (Nat.le_refl _) h.2 rfl⟩
theorem below_turn {d n₀ : Nat} {r : Loop} {W : World} (h : TwoAt d r W) (hn : n₀ ≤ d) (o : Obj) : Below n₀ W (W.putObj (d + 1) o) :=
  (Below.refl n₀ W).grown (grownBy_putObj' W (d + 1) o) (by have := (Array.getElem?_eq_some_iff.1 h.2).1; omega) fun k e => by injection e with e; omega

/-- 'for x := range o.All { .. }'. -/
theorem wpIn_range_gives {α : Type} {g : Operand} {ps : Array Tmp} {assign body : Code} {Q : Exit → Act → World → Prop} {a : Act} {w : World}
    (hro : F.round = none) (h1 : 1 ≤ n) {gf : Nat} {rv : Value} (hg : a.eval g = .func (.func gf) #[rv] #[]) (hF : F.fn gf) (eg : ∀ args w, (callFunc gf args).run P w = .ok (.enter gf args) w)
    {encs : α → Array Value} {n₀ : Nat} {xs : List α} (hseq : Gives F (n - 1) P gf rv encs n₀ xs w) (hn₀ : n₀ ≤ w.heap.size) (hps : ∀ x, (encs x).size = ps.size)
    (I : List α → World → Prop) (Ix : Code → List α → World → Prop) (hI : OwnFrom w.heap.size I) (hIx : ∀ c, OwnFrom w.heap.size (Ix c)) (h0 : I [] w) (a₁ : α → Act)
    (hassign : ∀ (l : Nat) (x : α) (W : World) (K : Act → World → Prop), K (a₁ x) W →
      assign.wpIn (F.inRound l) (n - 1 - 1) P (Exit.then K (fun _ _ _ => False)) { tmps := (ps.zip (encs x)).foldl (fun t (p, v) => t.setIfInBounds p v) a.tmps, defers := [] } W)
    (hbody : ∀ (l : Nat) (pre : List α) (x : α) (rest : List α) (W : World), xs = pre ++ x :: rest → I pre W → body.wpIn (F.inRound l) (n - 1 - 1) P (ownPostG w.heap.size (Below n₀) I Ix (pre ++ [x]) W) (a₁ x) W)
    (hdone : ∀ (D : Nat) (W : World), w.heap.size ≤ D → I xs W → W.heap[D]? = some (.deferred (some [])) → Q .normal { a with defers := { target := .collected D, args := #[] } :: a.defers } W)
    (hstop : ∀ (D : Nat) (c : Code) (pre : List α) (W : World), w.heap.size ≤ D → pre <+: xs → Ix c pre W → W.heap[D]? = some (.deferred (some [])) → c.wpIn F n P Q { a with defers := { target := .collected D, args := #[] } :: a.defers } W) :
    (Code.rangeFunc g ps assign body).wpIn F n P Q a w := by
  refine wpIn_rangeFunc fun fn hfn => ?_
  generalize hd : w.heap.size = d at *
  -- the loop's record
  generalize hR : (fun (st : LoopState) (pe : Option Code) => ({ state := st, pending := pe, fn := fn, tmps := a.tmps, params := ps, assign := assign, body := body, defers := d } : Loop)) = R
  have eR : ∀ st pe, R st pe = { state := st, pending := pe, fn := fn, tmps := a.tmps, params := ps, assign := assign, body := body, defers := d } := fun st pe => by rw [← hR]
  have hlaid : TwoAt d (R .ready none) ((w.alloc (.deferred (some []))).alloc (.loop (R .ready none))) := by
    refine ⟨?_, ?_⟩
    · have := World.alloc_heap_new (w.alloc (.deferred (some []))) (.loop (R .ready none))
      rw [World.size_alloc, hd] at this
      exact this
    · have := World.alloc_heap_new w (.deferred (some []))
      rw [hd] at this
      exact (Below.heap_alloc _ _ _ (by simp [hd])).trans this
  have hbel : Below n₀ w ((w.alloc (.deferred (some []))).alloc (.loop (R .ready none))) := ((Below.refl n₀ w).alloc (by omega) _).alloc (by simp; omega) _
  have hI1 : I [] ((w.alloc (.deferred (some []))).alloc (.loop (R .ready none))) := hI.alloc _ (hI.alloc _ h0)
  generalize hW1 : (w.alloc (.deferred (some []))).alloc (.loop (R .ready none)) = W1 at hlaid hbel hI1
  refine ⟨d + 1, [{ target := .collected d, args := #[] }], W1, { target := .fn (.func gf) #[], args := #[rv, .func (.yield (d + 1)) #[] #[]] }, W1, gf, #[rv, .func (.yield (d + 1)) #[] #[]], W1, ?_, ?_, ?_, ?_, fun _ => h1, ?_⟩
  · rw [hro, run_enterLoop_outer, hd, ← hW1, eR]
  · simp only [resolve, hg]
    simp [go_sem]
  · intro f hf
    simp [Target.leads] at hf
    exact hf ▸ hF
  · simp [invoke, go_sem, eg]
  have hone : ∀ pre x rest W, xs = pre ++ x :: rest → (I pre W ∧ TwoAt d (R .ready none) W) → YieldAt F (n - 1 - 1) P (d + 1) (encs x) W fun e W' =>
      (e = .returned (.bool true) ∧ (I (pre ++ [x]) W' ∧ TwoAt d (R .ready none) W') ∧ Below n₀ W W') ∨ (e = .returned (.bool false) ∧ ∃ c, Ix c (pre ++ [x]) W' ∧ TwoAt d (R .done (some c)) W') := by
    rintro pre x rest W hx ⟨hi, ht⟩
    have hy := run_yield (P := P) (args := encs x) ht.1 (by rw [eR]; exact hps x)
    rw [eR] at hy
    refine ⟨fn, _, assign, body, hy, roundIn_of_wpIn hfn (hassign _ x W _ ⟨_, run_beginRound ht.1 (by rw [eR]), ?_⟩)⟩
    have ht2 := ht.turn { R .ready none with state := .busy }
    refine wpIn_mono (hbody _ pre x rest _ hx (hI.putObj _ hi (by omega) ht.1 rfl)) ?_
    intro e a3 W3 hp
    have hend : ∀ jump, KeepsFrom d (W.putObj (d + 1) (.loop { R .ready none with state := .busy })) W3 → (Instr.endRound (d + 1) jump).run P W3 = .ok (.bool jump.isNone) (W3.putObj (d + 1) (.loop (R (if jump.isNone then .ready else .done) jump))) ∧ TwoAt d { R .ready none with state := .busy } W3 := fun jump hk => by
      have h3 := ht2.kept hk
      refine ⟨?_, h3⟩
      have := run_endRound (P := P) jump h3.1
      rw [eR] at this ⊢
      exact this
    have hleft : ∀ c, KeepsFrom d (W.putObj (d + 1) (.loop { R .ready none with state := .busy })) W3 → Ix c (pre ++ [x]) W3 → ∃ v w', (Instr.endRound (d + 1) (some c)).run P W3 = .ok v w' ∧ ((Ending.returned v = .returned (.bool true) ∧ (I (pre ++ [x]) w' ∧ TwoAt d (R .ready none) w') ∧ Below n₀ W w') ∨ (Ending.returned v = .returned (.bool false) ∧ ∃ c, Ix c (pre ++ [x]) w' ∧ TwoAt d (R .done (some c)) w')) := fun c hk hc => by
      obtain ⟨hr, h3⟩ := hend (some c) hk
      exact ⟨_, _, hr, .inr ⟨rfl, c, (hIx c).putObj _ hc (by omega) h3.1 rfl, h3.turn _⟩⟩
    cases e with
    | normal =>
      obtain ⟨hk, hb, hi3⟩ := hp
      obtain ⟨hr, h3⟩ := hend none hk
      exact ⟨_, _, hr, .inl ⟨rfl, ⟨hI.putObj _ hi3 (by omega) h3.1 rfl, h3.turn _⟩, ((below_turn ht hn₀ _).trans hb).trans (below_turn h3 hn₀ _)⟩⟩
    | ret => exact hleft .ret hp.1 hp.2
    | exit id => exact hleft (.exit id) hp.1 hp.2
    | goto t => exact hleft (.goto t) hp.1 hp.2
    | panic ch => exact hp.elim
    | outgrown => exact hp.elim
  refine (hseq (d + 1) (fun pre W => I pre W ∧ TwoAt d (R .ready none) W) (fun pre W => ∃ c, Ix c pre W ∧ TwoAt d (R .done (some c)) W) W1 hbel hone ⟨hI1, hlaid⟩).mono ?_
  rintro e W2 ⟨⟨v, rfl⟩, ⟨hi, ht⟩ | ⟨pre, hpre, c, hi, ht⟩⟩
  · refine ⟨none, W2.putObj (d + 1) (.loop (R .exhausted none)), ?_, hdone d _ (Nat.le_refl _) (hI.putObj _ hi (by omega) ht.1 rfl) ((World.putObj_heap_other (by omega)).trans ht.2)⟩
    have := run_endLoop (P := P) ht.1 (by rw [eR]; simp)
    rw [eR] at this ⊢
    exact this
  · refine ⟨some c, W2.putObj (d + 1) (.loop (R .exhausted (some c))), ?_, hstop d c pre _ (Nat.le_refl _) hpre ((hIx c).putObj _ hi (by omega) ht.1 rfl) ((World.putObj_heap_other (by omega)).trans ht.2)⟩
    have := run_endLoop (P := P) ht.1 (by rw [eR]; simp)
    rw [eR] at this ⊢
    exact this

/-- An append as a step of a region that draws its order, in a round. -/
theorem stepIn_append {w : World} {ops : Array Oper} {o : Oper} {a : Act} {K : Act → World → Prop} {Q : Exit → Act → World → Prop} {E : Prop} (hgd : o.guard = none) (s x : Operand) (t : TypeId)
    (ho : o.op = .call { callee := .builtin .append, args := #[s, x], argTypes := #[t, t] }) (v y v' : Value) (w' : World) (hs : a.eval s = v) (hx : a.eval x = y)
    (hrun : (Builtin.append_ #[t, t] o.type #[v, y]).run P w = .ok v' w') (h : K (a.put o.dst v') w') :
    if Region.wanted o (yielded ops a.tmps) = true then Oper.wpIn F n P o a w K Q else E := by
  have hw : Region.wanted o (yielded ops a.tmps) = true := by simp [Region.wanted, hgd]
  rw [if_pos hw]
  unfold Oper.wpIn
  refine ⟨by simp [Oper.about, ho, resolve, Target.leads, Sem.run_pure], ?_⟩
  rw [Oper.semAt_plain F _ _ (by rw [ho]; intro c hc; cases hc)]
  simp [execOp, ho, resolve, invoke, builtin, hs, hx, hrun, Result.andThen]
  exact h
end
end Go.Proofs.Ytopdfhedifcalaa
