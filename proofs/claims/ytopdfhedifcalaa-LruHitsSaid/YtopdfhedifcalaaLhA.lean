/- The walk of the law LruHits. Plain facts on its row first. Conditions: those that each theorem names. -/
import Derived.Test.YtopdfhedifcalaaLrL
import Derived.Test.YtopdfhedifcalaaOpenL
import Derived.Test.YtopdfhedifcalaaLrHits
import Derived.Test.YtopdfhedifcalaaLrIdx
import Derived.Deep.QuietTactic
import Derived.BigQuiet
import Derived.Deep.DeepCutAuto
namespace Go.Proofs.Ytopdfhedifcalaa
open Go.RowKit
attribute [local go_sem ↓] Go.wp_at_zero Go.wp_at_succ
namespace LU
/-- The law's row when the keys from i - 1 down to q are seen. -/
def lastK (l : List Int) (cap i q : Nat) : List Int := ((l.take i).reverse.take (i - q)).foldl (took cap) []
theorem lastK_start (l : List Int) (cap i : Nat) : lastK l cap i i = [] := by simp [lastK]
theorem lastK_step {l : List Int} {cap i q : Nat} (hq : q < i) (hi : i ≤ l.length) : lastK l cap i q = took cap (lastK l cap i (q + 1)) (l[q]'(by omega)) := by
  unfold lastK
  have hlen : (l.take i).reverse.length = i := by rw [List.length_reverse, List.length_take]; omega
  have h1 : (l.take i).reverse.take (i - q) = (l.take i).reverse.take (i - (q + 1)) ++ [l[q]'(by omega)] := by
    rw [show i - q = (i - (q + 1)) + 1 from by omega, List.take_succ_eq_append_getElem (by omega), List.getElem_reverse]
    congr 2
    rw [List.getElem_take]
    congr 1
    rw [List.length_take]
    omega
  rw [h1, List.foldl_append]
  rfl
theorem lastK_len (l : List Int) (cap i q : Nat) : (lastK l cap i q).length ≤ cap := by
  unfold lastK
  generalize (l.take i).reverse.take (i - q) = m
  have key : ∀ (m acc : List Int), acc.length ≤ cap → (m.foldl (took cap) acc).length ≤ cap := by
    intro m
    induction m with
    | nil => intro acc h; exact h
    | cons x m ih =>
      intro acc h
      refine ih _ ?_
      unfold took
      split
      · rename_i hx
        rw [List.length_append, List.length_singleton]
        omega
      · exact h
  exact key m [] (Nat.zero_le _)
theorem lastK_end (l : List Int) (cap i : Nat) (hi : i ≤ l.length) : lastK l cap i 0 = (recent (l.take i).reverse).take cap := by
  unfold lastK
  rw [Nat.sub_zero, List.take_of_length_le (by rw [List.length_reverse, List.length_take]; omega), took_nil]
theorem lastK_full {l : List Int} {cap i : Nat} (hi : i ≤ l.length) : ∀ q, q ≤ i → (lastK l cap i q).length = cap → lastK l cap i q = (recent (l.take i).reverse).take cap
  | 0, _, _ => lastK_end l cap i hi
  | q + 1, hq, h => by
    have e : lastK l cap i q = lastK l cap i (q + 1) := by
      rw [lastK_step (by omega) hi]
      unfold took
      rw [if_neg (by omega)]
    rw [← e] at h ⊢
    exact lastK_full hi q (by omega) h
theorem hits_new (cap : Nat) : Hits ⟨cap, []⟩ [] := ⟨⟨by simp [keys], by simp⟩, (fun x hx => by cases hx), by simp [keys, recent]⟩
theorem rev_succ {l : List Int} {i : Nat} (h : i < l.length) : (l.take (i + 1)).reverse = l[i] :: (l.take i).reverse := by
  rw [List.take_succ_eq_append_getElem h, List.reverse_append]
  rfl
end LU
/-- The list's state in the law's round. -/
structure HitM (n : Nat) (w : World) (p : Nat) (F : Nat → Prop) (s : LU) (l : List Int) (cap i : Nat) : Prop where
  at_ : LruAt w F p s
  fin : ∀ k, F k → n ≤ k ∧ k < w.heap.size
  hits : LU.Hits s (l.take i).reverse
  cap : s.cap = cap
/-- Behind a call of the list, a row of the call's own stays. -/
theorem row_off {w w1 : World} {F : Nat → Prop} {B : Nat} {v : Value} {l : List Int} (h : IntRow w B v l) (ho : Only F w w1) (hF : ∀ k, F k → k < B) : IntRow w1 B v l :=
  own_only h ho fun k hk hf => by have := own_ge h k hk; have := hF k hf; omega
theorem row_at {w : World} {B m c j : Nat} {A : Option Addr} {l : List Int} (h : IntRow w B (.slice A m c) l) (hm : l.length = m) (hj : j < m) : ∃ g, A = some ⟨g, 0, none⟩ ∧ w.cell? ⟨g, j, none⟩ = some (.int .i64 (l[j]'(by omega))) ∧ m ≤ c ∧ c ≤ maxLen := by
  have hr : w.ownsRow B 3 1 (.slice A m c) m (l.map (Value.int .i64)) := hm ▸ h
  rcases hr.2 with ⟨e, h0⟩ | ⟨g, cap, cur, e, _, _, hc, hmx, _⟩
  · omega
  · injection e with e1 e2 e3
    subst e1
    subst e3
    refine ⟨g, rfl, ?_, hc, hmx⟩
    rw [hr.cellAt j (by omega), List.getElem?_map, List.getElem?_eq_getElem (by omega)]
    rfl
theorem row_below {w w1 : World} {B : Nat} {v : Value} {l : List Int} (h : IntRow w B v l) (hb : Below w.heap.size w w1) : IntRow w1 B v l := own_only h (Only.of_below hb : Only (fun _ => False) w w1) fun _ _ => id
theorem took_in {cap : Nat} {acc : List Int} {x : Int} (h : x ∈ acc) : LU.took cap acc x = acc := by
  unfold LU.took
  rw [if_neg (fun c => c.2 h)]
theorem took_out {cap : Nat} {acc : List Int} {x : Int} (hl : acc.length < cap) (h : x ∉ acc) : LU.took cap acc x = acc ++ [x] := by
  unfold LU.took
  rw [if_pos ⟨hl, h⟩]
/-- Whether a key is among the first ones: one more. -/
theorem met_yes {x : Int} {L : List Int} {t : Nat} {g : Bool} (h : g = decide (x ∈ L.take t)) (hg : g = true) : true = decide (x ∈ L.take (t + 1)) := by
  rw [hg] at h
  exact (decide_eq_true (List.take_subset_take_left _ (Nat.le_succ t) (of_decide_eq_true h.symm))).symm
theorem met_now {x y : Int} {L : List Int} {t : Nat} (ht : t < L.length) (hy : L[t] = y) (e : y = x) : true = decide (x ∈ L.take (t + 1)) := by
  rw [List.take_succ_eq_append_getElem ht, hy, e]
  simp
theorem met_no {x y : Int} {L : List Int} {t : Nat} {g : Bool} (ht : t < L.length) (h : g = decide (x ∈ L.take t)) (hg : g = false) (hy : L[t] = y) (e : y ≠ x) : false = decide (x ∈ L.take (t + 1)) := by
  rw [hg] at h
  have h1 := of_decide_eq_false h.symm
  rw [List.take_succ_eq_append_getElem ht, hy]
  symm
  rw [decide_eq_false_iff_not, List.mem_append, List.mem_singleton]
  rintro (h2 | h2)
  · exact h1 h2
  · exact e h2.symm
/-- What a key does in the law's round. -/
structure HitF (s : LU) (l : List Int) (cap i : Nat) (R : List Int) (x : Int) : Prop where
  has : s.has x = decide (x ∈ R)
  yes : x ∈ R → (s.use x).2 = true ∧ LU.Hits (s.use x).1 (l.take (i + 1)).reverse ∧ (s.use x).1.cap = cap
  no : x ∉ R → s.use x = (s, false) ∧ LU.Hits (s.add x).1 (l.take (i + 1)).reverse ∧ (s.add x).1.cap = cap ∧ (s.add x).2.2.2 = 0 ∧ (s.add x).2.2.1 = decide (R.length = cap) ∧ (R.length = cap → R.getLast? = some (s.add x).2.1)
theorem hit_facts {n : Nat} {w : World} {p : Nat} {F : Nat → Prop} {s : LU} {l : List Int} {cap i : Nat} (h : HitM n w p F s l cap i) (hi : i < l.length) (hc : 0 < cap) : HitF s l cap i ((LU.recent (l.take i).reverse).take cap) (l[i]'hi) := by
  have h1 := h.hits
  have h2 := h.cap
  subst h2
  refine ⟨h1.has _, fun hx => ?_, fun hx => ?_⟩
  · obtain ⟨a, b⟩ := h1.use hx
    exact ⟨a, by rw [LU.rev_succ hi]; exact b, LU.cap_use _ _⟩
  · have hh : s.has l[i] = false := by rw [h1.has]; exact decide_eq_false hx
    obtain ⟨a, b, c, d⟩ := h1.add hc hx
    exact ⟨LU.use_none hh, by rw [LU.rev_succ hi]; exact a, LU.cap_add _ _, b, c, d⟩
theorem HitM.below {n : Nat} {w w1 : World} {p : Nat} {F : Nat → Prop} {s : LU} {l : List Int} {cap i : Nat} (h : HitM n w p F s l cap i) (hb : Below w.heap.size w w1) : HitM n w1 p F s l cap i :=
  ⟨h.at_.below hb, fun k hk => ⟨(h.fin k hk).1, Nat.lt_of_lt_of_le (h.fin k hk).2 hb.size⟩, h.hits, h.cap⟩
theorem HitM.next {n : Nat} {w w1 : World} {p : Nat} {F : Nat → Prop} {s s' : LU} {l : List Int} {cap i : Nat} (h : HitM n w p F s l cap i) (hn : n ≤ w.heap.size) (ha : LruAt w1 (Gr F w w1) p s') (ho : Only F w w1) (h1 : LU.Hits s' (l.take (i + 1)).reverse) (h2 : s'.cap = cap) :
    HitM n w1 p (Gr F w w1) s' l cap (i + 1) := ⟨ha, gr_in h.fin ho.size hn, h1, h2⟩
theorem HitM.same {n : Nat} {w w1 : World} {p : Nat} {F : Nat → Prop} {s : LU} {l : List Int} {cap i : Nat} (h : HitM n w p F s l cap i) (hn : n ≤ w.heap.size) (ha : LruAt w1 (Gr F w w1) p s) (ho : Only F w w1) :
    HitM n w1 p (Gr F w w1) s l cap i := ⟨ha, gr_in h.fin ho.size hn, h.hits, h.cap⟩
theorem HitM.bel {n : Nat} {w0 w w1 : World} {p : Nat} {F : Nat → Prop} {s : LU} {l : List Int} {cap i : Nat} (h : HitM n w p F s l cap i) (hn : n ≤ w.heap.size) (hb : Below n w0 w) (ho : Only F w w1) : Below n w0 w1 :=
  hb.trans (ho.below (fun k hk => (h.fin k hk).1) hn)
theorem last_of {R : List Int} {m : Nat} {x : Int} (hm : R.length = m) (h : R.getLast? = some x) (h0 : m - 1 < R.length) : R[m - 1] = x := by
  rw [List.getLast?_eq_getElem?, hm, List.getElem?_eq_getElem h0] at h
  exact Option.some.inj h
theorem HitF.addV {s : LU} {l : List Int} {cap i : Nat} {R : List Int} {x : Int} (h : HitF s l cap i R x) (hx : x ∉ R) {b : Bool} (hb : decide (R.length = cap) = b) : addV s x = .tuple #[.int .i64 (s.add x).2.1, .bool b, .int .i64 0] := by
  obtain ⟨-, -, -, h1, h2, -⟩ := h.no hx
  unfold Go.Proofs.Ytopdfhedifcalaa.addV
  rw [h1, h2, hb]
  rfl
end Go.Proofs.Ytopdfhedifcalaa
