/- The landed list in memory: the ring of items that begins in the list itself; what leaving and entering it make of it. Contracts of the landed leave and enter over the ring. Conditions: those that each theorem names. -/
import Derived.Test.YtopdfhedifcalaaProg
import Derived.Test.YtopdfhedifcalaaKind
import Derived.Test.YtopdfhedifcalaaLrIdx
import Derived.Test.YtopdfhedifcalaaLrB
namespace Go.Proofs.Ytopdfhedifcalaa
open Go.RowKit

/-- An item in memory: its block, and what it says. -/
structure GI where
  g : Nat
  key : Int
  pins : Nat
  marked : Bool
def GI.it (x : GI) : It := ⟨x.key, x.pins, x.marked⟩
def GI.ad (x : GI) : Addr := ⟨x.g, 0, none⟩
def nxt (x : Addr) : Addr := ⟨x.block, x.off + 1, none⟩
/-- y is behind x in the ring. -/
def Link (w : World) (x y : Addr) : Prop := w.cell? (nxt x) = some (.pointer (some y)) ∧ w.cell? y = some (.pointer (some x))
def Linked (w : World) : List Addr → Prop
  | [] => True
  | [_] => True
  | x :: y :: l => Link w x y ∧ Linked w (y :: l)
def bgn (p : Nat) : Addr := ⟨p, 1, none⟩
def ringOf (p : Nat) (l : List GI) : List Addr := bgn p :: (l.map GI.ad ++ [bgn p])
theorem linked_mid {w : World} {x : Addr} {B : List Addr} : ∀ {A : List Addr}, Linked w (A ++ x :: B) ↔ Linked w (A ++ [x]) ∧ Linked w (x :: B)
  | [] => by simp [Linked]
  | [a] => by simp [Linked]
  | a :: b :: A => by
    have ih := linked_mid (w := w) (x := x) (B := B) (A := b :: A)
    simp only [List.cons_append] at ih ⊢
    simp only [Linked, ih, and_assoc]
theorem linked_frame {w w' : World} : ∀ {R : List Addr}, Linked w R → (∀ x ∈ R.dropLast, w'.cell? (nxt x) = w.cell? (nxt x)) → (∀ y ∈ R.tail, w'.cell? y = w.cell? y) → Linked w' R
  | [], _, _, _ => trivial
  | [_], _, _, _ => trivial
  | x :: y :: l, h, h1, h2 => by
    refine ⟨⟨(h1 x (by simp)).trans h.1.1, (h2 y (by simp)).trans h.1.2⟩, linked_frame h.2 (fun u hu => h1 u ?_) fun v hv => h2 v ?_⟩
    · rw [List.dropLast_cons_of_ne_nil (by simp)]
      exact List.mem_cons_of_mem _ hu
    · simp only [List.tail_cons] at hv ⊢
      exact List.mem_cons_of_mem _ hv

structure ItemIs (w : World) (F : Nat → Prop) (x : GI) : Prop where
  kd : Kind w 55 x.g
  fp : F x.g
  ck : w.cell? ⟨x.g, 2, none⟩ = some (.int .i64 x.key)
  cp : w.cell? ⟨x.g, 3, none⟩ = some (.int .i64 (x.pins : Int))
  cm : w.cell? ⟨x.g, 4, none⟩ = some (.bool x.marked)
  wf : (Lit.int .i64 x.key).wf = true
/-- The ring: the list's own block p, and the items in their order. -/
structure RingM (w : World) (F : Nat → Prop) (p cap mb : Nat) (l : List GI) : Prop where
  kp : Kind w 57 p
  fp : F p
  c0 : w.cell? ⟨p, 0, none⟩ = some (.int .i64 (cap : Int))
  c6 : w.cell? ⟨p, 6, none⟩ = some (.map (some mb))
  item : ∀ x ∈ l, ItemIs w F x
  ring : Linked w (ringOf p l)
  gs : (l.map (·.g)).Nodup
/-- The blocks of the ring. -/
def Nodes (p : Nat) (l : List GI) (k : Nat) : Prop := k = p ∨ ∃ x ∈ l, k = x.g
section
variable {w w' : World} {F G : Nat → Prop} {p cap mb : Nat} {l A B : List GI} {x : GI}
theorem ItemIs.off (h : ItemIs w F x) (ho : Only G w w') (hn : ¬ G x.g) : ItemIs w' F x :=
  ⟨h.kd.only ho hn, h.fp, (ho.cell (p := ⟨x.g, 2, none⟩) h.kd.lt hn).trans h.ck, (ho.cell (p := ⟨x.g, 3, none⟩) h.kd.lt hn).trans h.cp, (ho.cell (p := ⟨x.g, 4, none⟩) h.kd.lt hn).trans h.cm, h.wf⟩
theorem ItemIs.mono (h : ItemIs w F x) (hF : ∀ k, F k → G k) : ItemIs w G x := ⟨h.kd, hF _ h.fp, h.ck, h.cp, h.cm, h.wf⟩
theorem ItemIs.set (h : ItemIs w F x) (b i : Nat) (u : Value) (hi : b = x.g → i ≠ 2 ∧ i ≠ 3 ∧ i ≠ 4) : ItemIs (w.setCell ⟨b, i, none⟩ u) F x :=
  ⟨h.kd.set b i u, h.fp, (cell_far w u fun e => (hi e).1).trans h.ck, (cell_far w u fun e => (hi e).2.1).trans h.cp, (cell_far w u fun e => (hi e).2.2).trans h.cm, h.wf⟩
theorem ItemIs.drewN (h : ItemIs w F x) (n : Nat) : ItemIs (w.drewN n) F x := ⟨h.kd, h.fp, h.ck, h.cp, h.cm, h.wf⟩
theorem RingM.ne (h : RingM w F p cap mb l) (hx : x ∈ l) : x.g ≠ p := (h.item x hx).kd.ne h.kp (by decide)
theorem RingM.nd (_h : RingM w F p cap mb l) : ∀ a ∈ ringOf p l, ∃ b o, a = ⟨b, o, none⟩ ∧ (b = p ∧ o = 1 ∨ o = 0 ∧ ∃ x ∈ l, b = x.g) := by
  intro a ha
  unfold ringOf bgn at ha
  simp only [List.mem_cons, List.mem_append, List.mem_map, List.mem_nil_iff, or_false] at ha
  rcases ha with rfl | ⟨x, hx, rfl⟩ | rfl
  · exact ⟨p, 1, rfl, .inl ⟨rfl, rfl⟩⟩
  · exact ⟨x.g, 0, rfl, .inr ⟨rfl, x, hx, rfl⟩⟩
  · exact ⟨p, 1, rfl, .inl ⟨rfl, rfl⟩⟩
theorem RingM.nodup (h : RingM w F p cap mb l) : (bgn p :: l.map GI.ad).Nodup := by
  rw [List.nodup_cons]
  constructor
  · intro hm
    obtain ⟨x, hx, e⟩ := List.mem_map.1 hm
    have : x.g = p := congrArg Addr.block e
    exact h.ne hx this
  · have e : l.map GI.ad = (l.map (·.g)).map (fun g => (⟨g, 0, none⟩ : Addr)) := by simp [GI.ad, Function.comp_def]
    rw [e]
    exact List.Pairwise.map _ (fun a b hab e => hab (congrArg Addr.block e)) h.gs
theorem RingM.off (h : RingM w F p cap mb l) (ho : Only G w w') (hn : ∀ k, Nodes p l k → ¬ G k) : RingM w' F p cap mb l where
  kp := h.kp.only ho (hn p (.inl rfl))
  fp := h.fp
  c0 := (ho.cell (p := ⟨p, 0, none⟩) h.kp.lt (hn p (.inl rfl))).trans h.c0
  c6 := (ho.cell (p := ⟨p, 6, none⟩) h.kp.lt (hn p (.inl rfl))).trans h.c6
  item := fun x hx => (h.item x hx).off ho (hn x.g (.inr ⟨x, hx, rfl⟩))
  ring := by
    have hall : ∀ a ∈ ringOf p l, a.block < w.heap.size ∧ ¬ G a.block := fun a ha => by
      obtain ⟨b, o, rfl, hb⟩ := h.nd a ha
      rcases hb with ⟨rfl, _⟩ | ⟨_, x, hx, rfl⟩
      · exact ⟨h.kp.lt, hn _ (.inl rfl)⟩
      · exact ⟨(h.item x hx).kd.lt, hn _ (.inr ⟨x, hx, rfl⟩)⟩
    exact linked_frame h.ring (fun a ha => ho.cell (p := nxt a) (hall a (List.dropLast_subset _ ha)).1 (hall a (List.dropLast_subset _ ha)).2) fun a ha => ho.cell (hall a (List.mem_of_mem_tail ha)).1 (hall a (List.mem_of_mem_tail ha)).2
  gs := h.gs
theorem RingM.mono (h : RingM w F p cap mb l) (hF : ∀ k, F k → G k) : RingM w G p cap mb l := ⟨h.kp, hF _ h.fp, h.c0, h.c6, fun x hx => (h.item x hx).mono hF, h.ring, h.gs⟩
theorem RingM.drewN (h : RingM w F p cap mb l) (n : Nat) : RingM (w.drewN n) F p cap mb l := h.off ((Only.refl (fun _ => False) w).drewN n) fun _ _ => id
theorem RingM.nodes (h : RingM w F p cap mb l) {k : Nat} (hk : Nodes p l k) : F k := by
  rcases hk with rfl | ⟨x, hx, rfl⟩
  · exact h.fp
  · exact (h.item x hx).fp

theorem RingM.nlt (h : RingM w F p cap mb l) : ∀ k, Nodes p l k → k < w.heap.size := fun k hk => by
  rcases hk with rfl | ⟨x, hx, rfl⟩
  · exact h.kp.lt
  · exact (h.item x hx).kd.lt
/-- The item's neighbours. -/
theorem around (p : Nat) (A B : List GI) (x : GI) : ∃ P X Y S, ringOf p (A ++ x :: B) = P ++ X :: x.ad :: Y :: S ∧ ringOf p (A ++ B) = P ++ X :: Y :: S := by
  have h1 : bgn p :: A.map GI.ad ≠ [] := by simp
  have h2 : ∃ Y S, B.map GI.ad ++ [bgn p] = Y :: S := by
    cases B with
    | nil => exact ⟨_, _, rfl⟩
    | cons b B => exact ⟨_, _, rfl⟩
  obtain ⟨Y, S, e⟩ := h2
  refine ⟨(bgn p :: A.map GI.ad).dropLast, (bgn p :: A.map GI.ad).getLast h1, Y, S, ?_, ?_⟩
  · have e1 : ringOf p (A ++ x :: B) = (bgn p :: A.map GI.ad) ++ x.ad :: (B.map GI.ad ++ [bgn p]) := by simp [ringOf]
    rw [e1, e]
    conv => lhs; rw [← List.dropLast_concat_getLast h1]
    simp
  · have e1 : ringOf p (A ++ B) = (bgn p :: A.map GI.ad) ++ (B.map GI.ad ++ [bgn p]) := by simp [ringOf]
    rw [e1, e]
    conv => lhs; rw [← List.dropLast_concat_getLast h1]
    simp

/-- What the item's neighbours are, in memory. -/
structure Around (w : World) (p : Nat) (l : List GI) (x : GI) (xb xo yb yo : Nat) : Prop where
  d0 : w.cell? ⟨x.g, 0, none⟩ = some (.pointer (some ⟨xb, xo, none⟩))
  d1 : w.cell? ⟨x.g, 1, none⟩ = some (.pointer (some ⟨yb, yo, none⟩))
  cx : w.cell? ⟨xb, xo + 1, none⟩ = some (.pointer (some x.ad))
  cy : w.cell? ⟨yb, yo, none⟩ = some (.pointer (some x.ad))
  fx : w.frozen? ⟨xb, xo + 1, none⟩ = false
  fy : w.frozen? ⟨yb, yo, none⟩ = false
  hx : xb ≠ x.g
  hy : yb ≠ x.g
  hxy : xb = yb → xo + 1 ≠ yo
  nx : Nodes p l xb
  ny : Nodes p l yb
  ox : xb = p ∧ xo = 1 ∨ xb ≠ p ∧ xo = 0
  oy : yb = p ∧ yo = 1 ∨ yb ≠ p ∧ yo = 0
/-- Behind a leave. -/
def Left (w : World) (xb xo yb yo : Nat) (w' : World) : Prop := ∃ n, w' = ((w.drewN n).setCell ⟨xb, xo + 1, none⟩ (.pointer (some ⟨yb, yo, none⟩))).setCell ⟨yb, yo, none⟩ (.pointer (some ⟨xb, xo, none⟩))
theorem left_of (h : RingM w F p cap mb (A ++ x :: B)) : ∃ xb xo yb yo, Around w p (A ++ B) x xb xo yb yo ∧
    ∀ w', Left w xb xo yb yo w' → RingM w' F p cap mb (A ++ B) ∧ ItemIs w' F x ∧ (w'.cell? ⟨x.g, 0, none⟩).isSome = true ∧ (w'.cell? ⟨x.g, 1, none⟩).isSome = true ∧ Only (Nodes p (A ++ B)) w w' := by
  have hx : x ∈ A ++ x :: B := by simp
  have hsub : ∀ y ∈ A ++ B, y ∈ A ++ x :: B := fun y hy => by
    rcases List.mem_append.1 hy with hy | hy
    · exact List.mem_append_left _ hy
    · exact List.mem_append_right _ (List.mem_cons_of_mem _ hy)
  obtain ⟨P, X, Y, S, e1, e2⟩ := around p A B x
  have hgs := h.gs
  have hne : ∀ y ∈ A ++ B, y.g ≠ x.g := by
    intro y hy e
    rw [List.map_append, List.map_cons, List.nodup_append] at hgs
    rcases List.mem_append.1 hy with hy | hy
    · exact hgs.2.2 y.g (List.mem_map.2 ⟨y, hy, rfl⟩) x.g (by simp) e
    · exact (List.nodup_cons.1 hgs.2.1).1 (e ▸ List.mem_map.2 ⟨y, hy, rfl⟩)
  -- every node behind the leave
  have hnd2 : ∀ a ∈ P ++ X :: Y :: S, ∃ b o, a = ⟨b, o, none⟩ ∧ (b = p ∧ o = 1 ∨ b ≠ p ∧ o = 0) ∧ Nodes p (A ++ B) b ∧ b ≠ x.g := by
    intro a ha
    rw [← e2] at ha
    unfold ringOf bgn at ha
    simp only [List.mem_cons, List.mem_append, List.mem_map, List.mem_nil_iff, or_false] at ha
    rcases ha with rfl | ⟨y, hy, rfl⟩ | rfl
    · exact ⟨p, 1, rfl, .inl ⟨rfl, rfl⟩, .inl rfl, fun e => h.ne hx e.symm⟩
    · exact ⟨y.g, 0, rfl, .inr ⟨h.ne (hsub y (List.mem_append.2 hy)), rfl⟩, .inr ⟨y, List.mem_append.2 hy, rfl⟩, hne y (List.mem_append.2 hy)⟩
    · exact ⟨p, 1, rfl, .inl ⟨rfl, rfl⟩, .inl rfl, fun e => h.ne hx e.symm⟩
  obtain ⟨xb, xo, rfl, ox, nx, hxx⟩ := hnd2 X (by simp)
  obtain ⟨yb, yo, rfl, oy, ny, hyy⟩ := hnd2 Y (by simp)
  have hr := h.ring
  rw [e1] at hr
  obtain ⟨r1, r2⟩ := linked_mid.1 hr
  obtain ⟨⟨k1, k2⟩, r3⟩ := r2
  obtain ⟨⟨k3, k4⟩, r4⟩ := r3
  have hk : ∀ b, Nodes p (A ++ B) b → ∃ T, Kind w T b ∧ (T = 57 ∨ T = 55) := fun b hb => by
    rcases hb with rfl | ⟨y, hy, rfl⟩
    · exact ⟨_, h.kp, .inl rfl⟩
    · exact ⟨_, (h.item y (hsub y hy)).kd, .inr rfl⟩
  obtain ⟨Tx, kx, _⟩ := hk xb nx
  obtain ⟨Ty, ky, _⟩ := hk yb ny
  have hxy : xb = yb → xo + 1 ≠ yo := fun e => by
    rcases ox with ⟨h1, h2⟩ | ⟨h1, h2⟩ <;> rcases oy with ⟨h3, h4⟩ | ⟨h3, h4⟩ <;> omega
  refine ⟨xb, xo, yb, yo, ⟨k2, k3, k1, k4, kx.frozen _, ky.frozen _, hxx, hyy, hxy, nx, ny, ox, oy⟩, ?_⟩
  rintro w' ⟨n, rfl⟩
  have hnodup := h.nodup
  -- firsts and seconds of the ring are all unlike
  have hfirst : (P ++ [(⟨xb, xo, none⟩ : Addr)] ++ x.ad :: ((⟨yb, yo, none⟩ : Addr) :: S).dropLast).Nodup := by
    have e : bgn p :: (A ++ x :: B).map GI.ad = (ringOf p (A ++ x :: B)).dropLast := by
      unfold ringOf
      rw [List.dropLast_cons_of_ne_nil (by simp), List.dropLast_concat]
    rw [e, e1] at hnodup
    rw [List.dropLast_append_of_ne_nil (by simp), List.dropLast_cons_of_ne_nil (by simp), List.dropLast_cons_of_ne_nil (by simp)] at hnodup
    simpa using hnodup
  have hsecond : ((P ++ [(⟨xb, xo, none⟩ : Addr)]).tail ++ x.ad :: (⟨yb, yo, none⟩ : Addr) :: S).Nodup := by
    have e : (A ++ x :: B).map GI.ad ++ [bgn p] = (ringOf p (A ++ x :: B)).tail := rfl
    have hn2 : ((A ++ x :: B).map GI.ad ++ [bgn p]).Nodup := by
      rw [List.nodup_append]
      rw [List.nodup_cons] at hnodup
      exact ⟨hnodup.2, by simp, fun a ha b hb e => hnodup.1 (by rw [List.mem_singleton.1 hb] at e; exact e ▸ ha)⟩
    rw [e, e1] at hn2
    have e3 : P ++ (⟨xb, xo, none⟩ : Addr) :: x.ad :: ⟨yb, yo, none⟩ :: S = (P ++ [(⟨xb, xo, none⟩ : Addr)]) ++ x.ad :: ⟨yb, yo, none⟩ :: S := by simp
    rw [e3, List.tail_append_of_ne_nil (by simp)] at hn2
    exact hn2
  have cn : ∀ (b o : Nat), (xb = b → xo + 1 ≠ o) → (yb = b → yo ≠ o) → (((w.drewN n).setCell ⟨xb, xo + 1, none⟩ (.pointer (some ⟨yb, yo, none⟩))).setCell ⟨yb, yo, none⟩ (.pointer (some ⟨xb, xo, none⟩))).cell? ⟨b, o, none⟩ = w.cell? ⟨b, o, none⟩ := fun b o h1 h2 =>
    ((cell_far _ _ h2).trans (cell_far _ _ h1)).trans rfl
  -- a first's cell and a second's
  have hcF : ∀ a ∈ P ++ [(⟨xb, xo, none⟩ : Addr)] ++ (⟨yb, yo, none⟩ : Addr) :: S, a ≠ ⟨xb, xo, none⟩ → (((w.drewN n).setCell ⟨xb, xo + 1, none⟩ (.pointer (some ⟨yb, yo, none⟩))).setCell ⟨yb, yo, none⟩ (.pointer (some ⟨xb, xo, none⟩))).cell? (nxt a) = w.cell? (nxt a) := fun a ha hax => by
    obtain ⟨b, o, rfl, ho, _, _⟩ := hnd2 a (by simpa using ha)
    refine cn b (o + 1) (fun e e2 => hax (by rw [← e]; congr 1; omega)) fun e e2 => ?_
    rcases ho with ⟨h1, h2⟩ | ⟨h1, h2⟩ <;> rcases oy with ⟨h3, h4⟩ | ⟨h3, h4⟩ <;> omega
  have hcS : ∀ a ∈ P ++ [(⟨xb, xo, none⟩ : Addr)] ++ (⟨yb, yo, none⟩ : Addr) :: S, a ≠ ⟨yb, yo, none⟩ → (((w.drewN n).setCell ⟨xb, xo + 1, none⟩ (.pointer (some ⟨yb, yo, none⟩))).setCell ⟨yb, yo, none⟩ (.pointer (some ⟨xb, xo, none⟩))).cell? a = w.cell? a := fun a ha hay => by
    obtain ⟨b, o, rfl, ho, _, _⟩ := hnd2 a (by simpa using ha)
    refine cn b o (fun e e2 => ?_) fun e e2 => hay (by rw [← e, e2])
    rcases ho with ⟨h1, h2⟩ | ⟨h1, h2⟩ <;> rcases ox with ⟨h3, h4⟩ | ⟨h3, h4⟩ <;> omega
  have hring : Linked (((w.drewN n).setCell ⟨xb, xo + 1, none⟩ (.pointer (some ⟨yb, yo, none⟩))).setCell ⟨yb, yo, none⟩ (.pointer (some ⟨xb, xo, none⟩))) (ringOf p (A ++ B)) := by
    rw [e2]
    refine linked_mid.2 ⟨linked_frame r1 (fun a ha => ?_) (fun a ha => ?_), ⟨?_, ?_⟩, linked_frame r4 (fun a ha => ?_) fun a ha => ?_⟩
    · rw [List.dropLast_concat] at ha
      refine hcF a (by simp [ha]) fun e => ?_
      rw [List.append_assoc, List.nodup_append] at hfirst
      exact hfirst.2.2 a ha ⟨xb, xo, none⟩ (by simp) e
    · refine hcS a (by have := List.mem_of_mem_tail ha; simp at this ⊢; rcases this with h | h <;> simp [h]) fun e => ?_
      rw [List.nodup_append] at hsecond
      exact hsecond.2.2 a ha ⟨yb, yo, none⟩ (by simp) e
    · exact (cell_far _ _ (fun e e2 => hxy e.symm e2.symm)).trans (cell_at _ (v := .pointer (some x.ad)) k1)
    · exact cell_at _ (v := .pointer (some x.ad)) ((cell_far _ _ hxy).trans k4)
    · refine hcF a (List.mem_append_right _ (List.dropLast_subset _ ha)) fun e => ?_
      rw [List.nodup_append] at hfirst
      exact hfirst.2.2 ⟨xb, xo, none⟩ (by simp) a (List.mem_cons_of_mem _ ha) e.symm
    · refine hcS a (List.mem_append_right _ (List.mem_of_mem_tail ha)) fun e => ?_
      rw [List.nodup_append] at hsecond
      have := (List.nodup_cons.1 hsecond.2.1).2
      exact (List.nodup_cons.1 this).1 (e ▸ ha)
  have hitem : ∀ y ∈ A ++ x :: B, ItemIs (((w.drewN n).setCell ⟨xb, xo + 1, none⟩ (.pointer (some ⟨yb, yo, none⟩))).setCell ⟨yb, yo, none⟩ (.pointer (some ⟨xb, xo, none⟩))) F y := fun y hy =>
    (((h.item y hy).drewN n).set xb (xo + 1) _ (fun e => by have := h.ne hy; omega)).set yb yo _ (fun e => by have := h.ne hy; omega)
  have hp0 : ∀ i, i = 0 ∨ i = 6 → (xb = p → xo + 1 ≠ i) ∧ (yb = p → yo ≠ i) := fun i hi => ⟨fun _ => by omega, fun e => by omega⟩
  refine ⟨⟨(h.kp.drewN n).set _ _ _ |>.set _ _ _, h.fp, (cn p 0 (hp0 0 (.inl rfl)).1 (hp0 0 (.inl rfl)).2).trans h.c0, (cn p 6 (hp0 6 (.inr rfl)).1 (hp0 6 (.inr rfl)).2).trans h.c6, fun y hy => hitem y (hsub y hy), hring, ?_⟩, hitem x hx, ?_, ?_, ?_⟩
  · rw [List.map_append, List.map_cons] at hgs
    rw [List.map_append]
    exact hgs.sublist ((List.sublist_cons_self _ _).append_left _)
  · rw [cn x.g 0 (fun e => absurd e hxx) (fun e => absurd e hyy)]; exact (congrArg Option.isSome k2).trans rfl
  · rw [cn x.g 1 (fun e => absurd e hxx) (fun e => absurd e hyy)]; exact (congrArg Option.isSome k3).trans rfl
  · exact (((Only.refl _ w).drewN n).setCell (p := ⟨xb, xo + 1, none⟩) (.inl nx) _).setCell (p := ⟨yb, yo, none⟩) (.inl ny) _

/-- Behind an enter. -/
def Entered (w : World) (p g zb zo : Nat) (w' : World) : Prop := ∃ n m, w' = (((((w.setCell ⟨g, 0, none⟩ (.pointer (some ⟨zb, zo, none⟩))).setCell ⟨g, 1, none⟩ (.pointer (some ⟨p, 1, none⟩))).drewN n).drewN m).setCell ⟨zb, zo + 1, none⟩ (.pointer (some ⟨g, 0, none⟩))).setCell ⟨p, 1, none⟩ (.pointer (some ⟨g, 0, none⟩))
/-- The last of the ring, in memory. -/
structure Last (w : World) (p : Nat) (l : List GI) (g zb zo : Nat) : Prop where
  c : w.cell? ⟨p, 1, none⟩ = some (.pointer (some ⟨zb, zo, none⟩))
  cz : w.cell? ⟨zb, zo + 1, none⟩ = some (.pointer (some (bgn p)))
  fz : w.frozen? ⟨zb, zo + 1, none⟩ = false
  hz : zb ≠ g
  hzp : zb = p → zo = 1
  nz : Nodes p l zb
theorem entered_of (h : RingM w F p cap mb l) (hx : ItemIs w F x) (hg : x.g ∉ l.map (·.g)) (hd0 : (w.cell? ⟨x.g, 0, none⟩).isSome = true) (hd1 : (w.cell? ⟨x.g, 1, none⟩).isSome = true) : ∃ zb zo, Last w p l x.g zb zo ∧
    ∀ w', Entered w p x.g zb zo w' → RingM w' F p cap mb (l ++ [x]) ∧ Only (Nodes p (l ++ [x])) w w' := by
  have hxp : x.g ≠ p := hx.kd.ne h.kp (by decide)
  have hne : ∀ y ∈ l, y.g ≠ x.g := fun y hy e => hg (e ▸ List.mem_map.2 ⟨y, hy, rfl⟩)
  have h1 : bgn p :: l.map GI.ad ≠ [] := by simp
  obtain ⟨P, Z, ePZ⟩ : ∃ P Z, bgn p :: l.map GI.ad = P ++ [Z] := ⟨_, _, (List.dropLast_concat_getLast h1).symm⟩
  have e1 : ringOf p l = P ++ Z :: [bgn p] := by
    have : ringOf p l = (bgn p :: l.map GI.ad) ++ [bgn p] := by simp [ringOf]
    rw [this, ePZ]; simp
  have e2 : ringOf p (l ++ [x]) = P ++ Z :: x.ad :: [bgn p] := by
    have : ringOf p (l ++ [x]) = (bgn p :: l.map GI.ad) ++ x.ad :: [bgn p] := by simp [ringOf]
    rw [this, ePZ]; simp
  have hnd2 : ∀ a ∈ P ++ [Z], ∃ b o, a = ⟨b, o, none⟩ ∧ (b = p ∧ o = 1 ∨ b ≠ p ∧ o = 0) ∧ Nodes p l b ∧ b ≠ x.g := by
    intro a ha
    rw [← ePZ] at ha
    rcases List.mem_cons.1 ha with rfl | ha
    · exact ⟨p, 1, rfl, .inl ⟨rfl, rfl⟩, .inl rfl, fun e => hxp e.symm⟩
    · obtain ⟨y, hy, rfl⟩ := List.mem_map.1 ha
      exact ⟨y.g, 0, rfl, .inr ⟨h.ne hy, rfl⟩, .inr ⟨y, hy, rfl⟩, hne y hy⟩
  obtain ⟨zb, zo, rfl, oz, nz, hzx⟩ := hnd2 Z (by simp)
  have hr := h.ring
  rw [e1] at hr
  obtain ⟨r1, ⟨k1, k2⟩, -⟩ := linked_mid.1 hr
  have hk : ∀ b, Nodes p l b → ∃ T, Kind w T b := fun b hb => by
    rcases hb with rfl | ⟨y, hy, rfl⟩
    · exact ⟨_, h.kp⟩
    · exact ⟨_, (h.item y hy).kd⟩
  obtain ⟨Tz, kz⟩ := hk zb nz
  refine ⟨zb, zo, ⟨k2, k1, kz.frozen _, hzx, fun e => by omega, nz⟩, ?_⟩
  rintro w' ⟨n, m, rfl⟩
  obtain ⟨u0, hu0⟩ := Option.isSome_iff_exists.1 hd0
  obtain ⟨u1, hu1⟩ := Option.isSome_iff_exists.1 hd1
  have hnodup := h.nodup
  have cn : ∀ (b o : Nat), b ≠ x.g → (zb = b → zo + 1 ≠ o) → (p = b → 1 ≠ o) → ((((((w.setCell ⟨x.g, 0, none⟩ (.pointer (some ⟨zb, zo, none⟩))).setCell ⟨x.g, 1, none⟩ (.pointer (some ⟨p, 1, none⟩))).drewN n).drewN m).setCell ⟨zb, zo + 1, none⟩ (.pointer (some ⟨x.g, 0, none⟩))).setCell ⟨p, 1, none⟩ (.pointer (some ⟨x.g, 0, none⟩))).cell? ⟨b, o, none⟩ = w.cell? ⟨b, o, none⟩ := fun b o h1 h2 h3 =>
    (cell_far _ _ h3).trans ((cell_far _ _ h2).trans ((cell_far _ _ fun e => absurd e.symm h1).trans (cell_far _ _ fun e => absurd e.symm h1)))
  have cx : ∀ o, o ≠ 0 → o ≠ 1 → ((((((w.setCell ⟨x.g, 0, none⟩ (.pointer (some ⟨zb, zo, none⟩))).setCell ⟨x.g, 1, none⟩ (.pointer (some ⟨p, 1, none⟩))).drewN n).drewN m).setCell ⟨zb, zo + 1, none⟩ (.pointer (some ⟨x.g, 0, none⟩))).setCell ⟨p, 1, none⟩ (.pointer (some ⟨x.g, 0, none⟩))).cell? ⟨x.g, o, none⟩ = w.cell? ⟨x.g, o, none⟩ := fun o h1 h2 =>
    (cell_far _ _ fun e => absurd e.symm hxp).trans ((cell_far _ _ fun e => absurd e hzx).trans ((cell_far _ _ fun _ => Ne.symm h2).trans (cell_far _ _ fun _ => Ne.symm h1)))
  have hring : Linked ((((((w.setCell ⟨x.g, 0, none⟩ (.pointer (some ⟨zb, zo, none⟩))).setCell ⟨x.g, 1, none⟩ (.pointer (some ⟨p, 1, none⟩))).drewN n).drewN m).setCell ⟨zb, zo + 1, none⟩ (.pointer (some ⟨x.g, 0, none⟩))).setCell ⟨p, 1, none⟩ (.pointer (some ⟨x.g, 0, none⟩))) (ringOf p (l ++ [x])) := by
    rw [e2]
    refine linked_mid.2 ⟨linked_frame r1 (fun a ha => ?_) (fun a ha => ?_), ⟨?_, ?_⟩, ⟨?_, ?_⟩, trivial⟩
    · rw [List.dropLast_concat] at ha
      obtain ⟨b, o, rfl, ho, _, hbx⟩ := hnd2 a (by simp [ha])
      refine cn b (o + 1) hbx (fun e e2 => ?_) fun e e2 => by omega
      rw [ePZ, List.nodup_append] at hnodup
      exact hnodup.2.2 _ ha ⟨zb, zo, none⟩ (by simp) (by rw [← e]; congr 1; omega)
    · have ht : (P ++ [(⟨zb, zo, none⟩ : Addr)]).tail = l.map GI.ad := by rw [← ePZ]; rfl
      rw [ht] at ha
      obtain ⟨y, hy, rfl⟩ := List.mem_map.1 ha
      exact cn y.g 0 (hne y hy) (fun _ => by omega) fun e => absurd e.symm (h.ne hy)
    · exact (cell_far (b := p) (i := 1) (b' := zb) (i' := zo + 1) _ _ (fun e => by omega)).trans (cell_at (v := .pointer (some (bgn p))) _ ((cell_far _ _ fun e => absurd e.symm hzx).trans ((cell_far _ _ fun e => absurd e.symm hzx).trans k1)))
    · exact (cell_far _ _ fun e => absurd e.symm hxp).trans ((cell_far _ _ fun e => absurd e hzx).trans ((cell_far _ _ fun _ => by decide).trans (cell_at _ hu0)))
    · exact (cell_far _ _ fun e => absurd e.symm hxp).trans ((cell_far _ _ fun e => absurd e hzx).trans (cell_at _ ((cell_far _ _ fun _ => by decide).trans hu1)))
    · exact cell_at (v := .pointer (some ⟨zb, zo, none⟩)) _ ((cell_far _ _ (fun e => by omega)).trans ((cell_far _ _ fun e => absurd e hxp).trans ((cell_far _ _ fun e => absurd e hxp).trans k2)))
  have hset : ∀ {T : TypeId} {k : Nat}, Kind w T k → Kind ((((((w.setCell ⟨x.g, 0, none⟩ (.pointer (some ⟨zb, zo, none⟩))).setCell ⟨x.g, 1, none⟩ (.pointer (some ⟨p, 1, none⟩))).drewN n).drewN m).setCell ⟨zb, zo + 1, none⟩ (.pointer (some ⟨x.g, 0, none⟩))).setCell ⟨p, 1, none⟩ (.pointer (some ⟨x.g, 0, none⟩))) T k := fun hk =>
    ((((hk.set _ _ _).set _ _ _).drewN n).drewN m |>.set _ _ _).set _ _ _
  refine ⟨⟨hset h.kp, h.fp, (cn p 0 (Ne.symm hxp) (fun _ => by omega) (fun _ => by decide)).trans h.c0, (cn p 6 (Ne.symm hxp) (fun _ => by omega) (fun _ => by decide)).trans h.c6, fun y hy => ?_, hring, ?_⟩, ?_⟩
  · rcases List.mem_append.1 hy with hy | hy
    · have hi := h.item y hy
      have hyp := h.ne hy
      exact ⟨hset hi.kd, hi.fp, (cn y.g 2 (hne y hy) (fun _ => by omega) (fun e => absurd e.symm hyp)).trans hi.ck, (cn y.g 3 (hne y hy) (fun _ => by omega) (fun e => absurd e.symm hyp)).trans hi.cp, (cn y.g 4 (hne y hy) (fun _ => by omega) (fun e => absurd e.symm hyp)).trans hi.cm, hi.wf⟩
    · obtain rfl := List.mem_singleton.1 hy
      exact ⟨hset hx.kd, hx.fp, (cx 2 (by decide) (by decide)).trans hx.ck, (cx 3 (by decide) (by decide)).trans hx.cp, (cx 4 (by decide) (by decide)).trans hx.cm, hx.wf⟩
  · rw [List.map_append, List.nodup_append]
    exact ⟨h.gs, by simp, fun a ha b hb e => hg (by simp at hb; rw [← hb, ← e]; exact ha)⟩
  · have hin : ∀ k, Nodes p l k → Nodes p (l ++ [x]) k := fun k hk => hk.imp id fun ⟨y, hy, e⟩ => ⟨y, List.mem_append_left _ hy, e⟩
    have hxin : Nodes p (l ++ [x]) x.g := .inr ⟨x, by simp, rfl⟩
    exact (((((Only.refl _ w).setCell (p := ⟨x.g, 0, none⟩) (.inl hxin) _).setCell (p := ⟨x.g, 1, none⟩) (.inl hxin) _).drewN n).drewN m |>.setCell (p := ⟨zb, zo + 1, none⟩) (.inl (hin _ nz)) _).setCell (p := ⟨p, 1, none⟩) (.inl (.inl rfl)) _

/-! ### The calls over the ring -/
/-- Behind a leave of x. -/
def LeftRing (w : World) (F : Nat → Prop) (p cap mb : Nat) (l : List GI) (x : GI) (w' : World) : Prop :=
  RingM w' F p cap mb l ∧ ItemIs w' F x ∧ (w'.cell? ⟨x.g, 0, none⟩).isSome = true ∧ (w'.cell? ⟨x.g, 1, none⟩).isSome = true ∧ Only (Nodes p l) w w'
theorem leave_ring (h : RingM w F p cap mb (A ++ x :: B)) : Calls Try.prog 32 #[.pointer (some ⟨x.g, 0, none⟩)] w fun e w' => e = .returned (.tuple #[]) ∧ LeftRing w F p cap mb (A ++ B) x w' := by
  obtain ⟨xb, xo, yb, yo, ha, hb⟩ := left_of h
  exact (leave_any x.g xb xo yb yo _ _ w ha.d0 ha.d1 ha.cx ha.cy ha.fx ha.fy ha.hx ha.hy ha.hxy).mono fun e w' ⟨h1, h2⟩ => ⟨h1, hb w' h2⟩
theorem enter_ring (h : RingM w F p cap mb l) (hx : ItemIs w F x) (hg : x.g ∉ l.map (·.g)) (hd0 : (w.cell? ⟨x.g, 0, none⟩).isSome = true) (hd1 : (w.cell? ⟨x.g, 1, none⟩).isSome = true) :
    Calls Try.prog 33 #[.pointer (some ⟨p, 0, none⟩), .pointer (some ⟨x.g, 0, none⟩)] w fun e w' => e = .returned (.tuple #[]) ∧ RingM w' F p cap mb (l ++ [x]) ∧ Only (Nodes p (l ++ [x])) w w' := by
  obtain ⟨zb, zo, ha, hb⟩ := entered_of h hx hg hd0 hd1
  obtain ⟨u0, hu0⟩ := Option.isSome_iff_exists.1 hd0
  obtain ⟨u1, hu1⟩ := Option.isSome_iff_exists.1 hd1
  exact (enter_any p x.g zb zo u0 u1 _ w ha.c hu0 hu1 ha.cz (hx.kd.frozen _) (hx.kd.frozen _) ha.fz (h.kp.frozen _) (fun e => hx.kd.ne h.kp (by decide) e.symm) ha.hz ha.hzp).mono fun e w' ⟨h1, h2⟩ => ⟨h1, hb w' h2⟩
end
end Go.Proofs.Ytopdfhedifcalaa
