/- Contract of the landed list's Oldest over the abstract list. Conditions: the list stands in memory. -/
import Derived.Test.YtopdfhedifcalaaLrE
namespace Go.Proofs.Ytopdfhedifcalaa
open Go.RowKit Go.Shelf
attribute [local go_sem] Oper.semAt_some

/-- What Oldest answers. -/
def oldG (l : List GI) : Value := match l.find? (fun x => x.pins == 0) with
  | some x => .tuple #[.int .i64 x.key, .bool true]
  | none => .tuple #[.int .i64 0, .bool false]
theorem oldG_some {l A B : List GI} {x : GI} (hL : l = A ++ x :: B) (hA : ∀ y ∈ A, y.pins ≠ 0) (hx : x.pins = 0) : oldG l = .tuple #[.int .i64 x.key, .bool true] := by
  have : l.find? (fun x => x.pins == 0) = some x := by
    rw [hL, List.find?_append]
    have h1 : A.find? (fun x => x.pins == 0) = none := List.find?_eq_none.2 fun y hy => by simpa using hA y hy
    rw [h1, List.find?_cons_of_pos (by simp [hx])]
    rfl
  unfold oldG
  rw [this]
theorem oldG_none {l : List GI} (h : ∀ y ∈ l, y.pins ≠ 0) : oldG l = .tuple #[.int .i64 0, .bool false] := by
  have : l.find? (fun x => x.pins == 0) = none := List.find?_eq_none.2 fun y hy => by simpa using h y hy
  unfold oldG
  rw [this]
def oldV (s : LU) : Value := match s.oldest with
  | some x => .tuple #[.int .i64 x.key, .bool true]
  | none => .tuple #[.int .i64 0, .bool false]
theorem old_st (L : LM) : oldG L.fr = oldV L.st := by
  have e : L.st.oldest = (L.fr.find? (fun x => x.pins == 0)).map GI.it := by
    unfold LU.oldest LM.st
    simp only
    rw [List.find?_map]
    rfl
  unfold oldG oldV
  rw [e]
  cases L.fr.find? (fun x => x.pins == 0) <;> rfl

section
variable {w : World} {F : Nat → Prop} {p : Nat} {L : LM} {a : Option Addr} {xs : List GI}
set_option maxRecDepth 100000 in
set_option maxHeartbeats 2000000 in
theorem oldest_gen (h : Walks w a xs) :
    Calls Try.prog 21 #[.pointer a] w fun e w' => e = .returned (oldG xs) ∧ Below w.heap.size w w' := by
  refine (callsIn_wide (n := 3)).1 ?_
  refine callsIn_of_wp_marks Try.func21 rfl trivial ?_ rfl
  simp only [Try.ntmps21, List.size_toArray, List.length_cons, List.length_nil, Nat.reduceAdd, Nat.reduceSub, Array.replicate_succ, Array.replicate_zero, List.push_toArray, List.append_toArray, List.nil_append, List.cons_append]
  have HW := Lib.hid h
  clear h
  gi_wp2
  have b0 := Boxed.new w 3 (.int .i64 0)
  have b1 := Boxed.new (w.alloc (.cells #[.int .i64 0] 3)) 4 (.bool false)
  rw [World.size_alloc] at b1
  have hB0 : Below w.heap.size w ((w.alloc (.cells #[.int .i64 0] 3)).alloc (.cells #[.bool false] 4)) := ((Below.refl _ w).alloc (Nat.le_refl _) _).alloc (by simp) _
  refine wpIn_range_gives (α := GI) rfl (by omega) (gf := 30) (rv := .pointer a) rfl trivial (enters_of Try.func30 (by kernel_rfl) rfl)
    (HW.out.gives _ hB0) (by simp; omega) (fun _ => rfl)
    (fun pre W => ((∀ y ∈ pre, y.pins ≠ 0) ∧ Boxed W w.heap.size 3 (.int .i64 0) ∧ Boxed W (w.heap.size + 1) 4 (.bool false)) ∧ Below w.heap.size w W)
    (fun c pre W => (c = .ret ∧ ∃ A x, pre = A ++ [x] ∧ (∀ y ∈ A, y.pins ≠ 0) ∧ x.pins = 0 ∧ Boxed W w.heap.size 3 (.int .i64 x.key) ∧ Boxed W (w.heap.size + 1) 4 (.bool true)) ∧ Below w.heap.size w W)
    ?hI ?hIx ?h0
    (fun x => { tmps := #[.pointer a, undef, .pointer (some ⟨w.heap.size, 0, none⟩), .pointer (some ⟨w.heap.size + 1, 0, none⟩), .pointer (some x.ad), .pointer a, .func (.func 30) #[.pointer a] #[], .pointer (some x.ad), undef, undef, undef, undef, undef, undef, undef, undef, undef], defers := [] }) ?assign ?body ?done ?stop
  case hI =>
    exact OwnFrom.and (Own.from (fun s A B row hs hg hr => ⟨hs.1, boxed_stay hs.2.1 hg hr, boxed_stay hs.2.2 hg hr⟩) _) (ownFrom_below (Nat.le_refl _) (by simp; omega))
  case hIx =>
    intro c
    refine OwnFrom.and (Own.from (fun s A B row hs hg hr => ?_) _) (ownFrom_below (Nat.le_refl _) (by simp; omega))
    obtain ⟨hc, P, x, h1, h2, h3, h4, h5⟩ := hs
    exact ⟨hc, P, x, h1, h2, h3, boxed_stay h4 hg hr, boxed_stay h5 hg hr⟩
  case h0 =>
    exact ⟨⟨by simp, b0.alloc _, b1⟩, hB0⟩
  case assign =>
    intro l x W K hK
    gi_wp2
    exact hK
  case body =>
    rintro l pre x rest W hx ⟨⟨hp, hb0, hb1⟩, hB⟩
    have hxm : x ∈ xs := by rw [hx]; simp
    have hxi := HW.out.item x hxm
    have c2 := (hB.cell (p := ⟨x.g, 2, none⟩) hxi.1).trans hxi.2.1
    have c3 := (hB.cell (p := ⟨x.g, 3, none⟩) hxi.1).trans hxi.2.2.1
    have HX := Lib.hid hx
    clear hx hxi hxm
    rw [show x.ad = ⟨x.g, 0, none⟩ from rfl]
    by_cases h0 : x.pins = 0
    · rw [h0] at c3
      have H0 := Lib.hid h0
      clear h0
      have f0 := hb0.frozen
      have f1 := hb1.frozen
      have d0 := hb0.cell
      have d1 := hb1.cell
      have HB0 := Lib.hid hb0
      have HB1 := Lib.hid hb1
      clear hb0 hb1
      gi_wp2
      have g0 := (HB0.out.set (.int .i64 x.key)).kept (grownBy_setCell' _ (w.heap.size + 1) (.bool true)) (by simp)
      have g1 := (HB1.out.kept (grownBy_setCell' _ w.heap.size (.int .i64 x.key)) (by simp)).set (.bool true)
      exact ⟨((KeepsOthers.setCell _ _ _).trans (KeepsOthers.setCell _ _ _)).from _, ⟨rfl, pre, x, rfl, hp, H0.out, g0, g1⟩, (hB.setCell (p := ⟨w.heap.size, 0, none⟩) (Nat.le_refl _) _).setCell (p := ⟨w.heap.size + 1, 0, none⟩) (by simp) _⟩
    · have hb : ((x.pins : Int) == 0) = false := by rw [beq_eq_false_iff_ne]; omega
      have H0 := Lib.hid h0
      clear h0
      gi_wp2
      exact ⟨KeepsFrom.refl _ _, Below.refl _ _, ⟨fun y hy => (List.mem_append.1 hy).elim (hp y) fun hy => by rw [List.mem_singleton.1 hy]; exact H0.out, hb0, hb1⟩, hB⟩
  case done =>
    rintro D W hD ⟨⟨hp, hb0, hb1⟩, hB⟩ hK
    have HV := Lib.hid (oldG_none hp)
    have f0 := hb0.frozen
    have f1 := hb1.frozen
    have d0 := hb0.cell
    have d1 := hb1.cell
    have g0 := Lib.hid ((hb0.set (.int .i64 0)).kept (grownBy_setCell' _ (w.heap.size + 1) (.bool false)) (by simp))
    have g1 := Lib.hid ((hb1.kept (grownBy_setCell' _ w.heap.size (.int .i64 0)) (by simp)).set (.bool false))
    have HK := Lib.hid (((KeepsOthers.setCell W ⟨w.heap.size, 0, none⟩ (.int .i64 0)).trans (KeepsOthers.setCell _ ⟨w.heap.size + 1, 0, none⟩ (.bool false))).same D _ hK rfl)
    clear hb0 hb1 hK hp
    gi_wp2
    refine ⟨by simp, .inl ⟨_, _, rfl, run_takeDeferred HK.out, ?_⟩⟩
    have e0 := (boxed_stay g0.out (grownBy_putObj' _ D (.deferred none)) (fun r e => by cases e; exact ⟨_, HK.out, rfl⟩)).cell
    have e1 := (boxed_stay g1.out (grownBy_putObj' _ D (.deferred none)) (fun r e => by cases e; exact ⟨_, HK.out, rfl⟩)).cell
    refine ⟨.tuple #[.int .i64 0, .bool false], ?_, by rw [HV.out], ((hB.setCell (p := ⟨w.heap.size, 0, none⟩) (Nat.le_refl _) _).setCell (p := ⟨w.heap.size + 1, 0, none⟩) (by simp) _).trans (belowK_b (w := w) (Nat.le_refl _) _ D _ _ (by simp at hD; omega) HK.out rfl rfl)⟩
    simp [results, Try.f21, go_sem, e0, e1]
  case stop =>
    rintro D c pre W hD hpre ⟨⟨rfl, A, x, rfl, hA, hx, hb0, hb1⟩, hB⟩ hK
    obtain ⟨rest, hrest⟩ := hpre
    have HV := Lib.hid (oldG_some (l := xs) (A := A) (B := rest) (x := x) (by rw [← hrest]; simp) hA hx)
    gi_wp2
    refine ⟨by simp, .inl ⟨_, _, rfl, run_takeDeferred hK, ?_⟩⟩
    have e0 := (boxed_stay hb0 (grownBy_putObj' _ D (.deferred none)) (fun r e => by cases e; exact ⟨_, hK, rfl⟩)).cell
    have e1 := (boxed_stay hb1 (grownBy_putObj' _ D (.deferred none)) (fun r e => by cases e; exact ⟨_, hK, rfl⟩)).cell
    refine ⟨.tuple #[.int .i64 x.key, .bool true], ?_, by rw [HV.out], hB.trans (belowK_b (w := w) (Nat.le_refl _) W D _ _ (by simp at hD; omega) hK rfl rfl)⟩
    simp [results, Try.f21, go_sem, e0, e1]
theorem lru_oldest (h : LruM w F p L) :
    Calls Try.prog 21 #[.pointer (some ⟨p, 0, none⟩)] w fun e w' => e = .returned (oldV L.st) ∧ Below w.heap.size w w' := by
  have := oldest_gen (walks_of h)
  rw [old_st] at this
  exact this
theorem nil_oldest (w : World) : Calls Try.prog 21 #[.pointer none] w fun e w' => e = .returned (.tuple #[.int .i64 0, .bool false]) ∧ Below w.heap.size w w' := oldest_gen (walks_nil w)
end
end Go.Proofs.Ytopdfhedifcalaa
