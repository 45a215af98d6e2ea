/- The landed list's walk over its ring: what the iterator gives, and the contracts of Oldest, Keys. Conditions: those that each theorem names. -/
import Derived.Test.YtopdfhedifcalaaRangeB
import Derived.Test.YtopdfhedifcalaaLrD
import Derived.Maps.AppendAt
namespace Go.Proofs.Ytopdfhedifcalaa
open Go.RowKit Go.Shelf
attribute [local go_sem] Oper.semAt_some

/-- The first item, or the ring's begin. -/
def hd (p : Nat) : List GI → Addr
  | [] => bgn p
  | x :: _ => x.ad
def leftOf (l : List GI) : Value → Nat
  | .pointer (some a) => ((l.map GI.ad).dropWhile fun b => decide (b ≠ a)).length
  | _ => 0
section
variable {w w' : World} {G : Nat → Prop} {p cap mb : Nat} {l A B : List GI} {x : GI}
theorem ring_next (h : RingM w G p cap mb (A ++ x :: B)) : w.cell? ⟨x.g, 1, none⟩ = some (.pointer (some (hd p B))) := by
  have e : ringOf p (A ++ x :: B) = (bgn p :: A.map GI.ad) ++ x.ad :: (B.map GI.ad ++ [bgn p]) := by simp [ringOf]
  have hr := h.ring
  rw [e] at hr
  have h2 := (linked_mid.1 hr).2
  cases B with
  | nil => exact h2.1.1
  | cons y B => exact h2.1.1
theorem ring_first (h : RingM w G p cap mb l) : w.cell? ⟨p, 2, none⟩ = some (.pointer (some (hd p l))) := by
  have hr := h.ring
  cases l with
  | nil => exact hr.1.1
  | cons y B => exact hr.1.1
theorem left_mid (h : RingM w G p cap mb (A ++ B)) : leftOf (A ++ B) (.pointer (some (hd p B))) = B.length := by
  have hn := h.nodup
  have hA : ∀ a ∈ A.map GI.ad, a ≠ hd p B := by
    intro a ha e
    cases B with
    | nil =>
      rw [List.append_nil] at hn
      rw [e] at ha
      exact (List.nodup_cons.1 hn).1 ha
    | cons y B =>
      have h2 := (List.nodup_cons.1 hn).2
      rw [List.map_append, List.nodup_append] at h2
      exact h2.2.2 a ha y.ad (by simp) e
  show ((((A ++ B).map GI.ad).dropWhile fun b => decide (b ≠ hd p B)).length) = B.length
  rw [List.map_append, List.dropWhile_append_of_pos (by intro a ha; simpa using hA a ha)]
  cases B with
  | nil => rfl
  | cons y B => simp [hd]
end

set_option maxRecDepth 100000 in
set_option maxHeartbeats 2000000 in
theorem all_gives (F : Fence) (n : Nat) (hF : F.fn 30) (hro : F.round = none) (hn : 1 ≤ n) {G : Nat → Prop} {p cap mb : Nat} {l : List GI} {w : World} (h : RingM w G p cap mb l) (n₀ : Nat) (hlt : ∀ k, Nodes p l k → k < n₀) :
    Gives F n Try.prog 30 (.pointer (some ⟨p, 0, none⟩)) (fun x : GI => #[.pointer (some x.ad)]) n₀ l w := by
  intro L J Jx W hW hY h0
  have HR := Lib.hid h
  have HB := Lib.hid hW
  have hp : p < n₀ := hlt p (.inl rfl)
  have HLt := Lib.hid hlt
  have c2 := (hW.cell (p := ⟨p, 2, none⟩) hp).trans (ring_first h)
  refine callsIn_of_wp Try.func30 rfl hF ?_ hro
  simp only [Try.ntmps30, List.size_toArray, List.length_cons, List.length_nil, Nat.reduceAdd, Nat.reduceSub, Array.replicate_succ, Array.replicate_zero, List.push_toArray, List.append_toArray, List.nil_append, List.cons_append]
  clear h hW hlt
  obtain ⟨i0, hi0, hz0⟩ : ∃ i, Try.prog.info? 55 = some i ∧ i.size ≠ 0 := by
    have h1 : (Try.prog.info? 55).map (fun i => i.size) = some 5 := by kernel_rfl
    obtain ⟨i, h2, h3⟩ := Option.map_eq_some_iff.1 h1
    exact ⟨i, h2, by omega⟩
  have HZ := Lib.hid hz0
  clear hz0
  gi_wp2
  gi_loopw [4] (fun v wr => ∃ pre rest : List GI, v = .pointer (some (hd p rest)) ∧ l = pre ++ rest ∧ Below n₀ w wr ∧ J pre wr) (fun v _ => leftOf l v)
  case atStart => exact ⟨[], l, rfl, rfl, HB.out, h0⟩
  case round =>
    obtain ⟨pre, rest, rfl, hx, hb, hJs⟩ := hrel
    cases rest with
    | nil =>
      rw [show hd p ([] : List GI) = ⟨p, 1, none⟩ from rfl]
      have hsame := Lib.run_neq_ptr_same (P := Try.prog) wr ⟨p, 1, none⟩ Try.underlying53 hi0
      gi_wp2
      go_end0
      exact ⟨⟨_, rfl⟩, .inl (by rw [List.append_nil] at hx; rw [hx]; exact hJs)⟩
    | cons x rest =>
      obtain ⟨fn, tmps, assign, body, hy, hR⟩ := hY pre x rest wr hx hJs
      have hxm : x ∈ l := by rw [hx]; simp
      have hxp : x.g ≠ p := HR.out.ne hxm
      have hxl : x.g < n₀ := HLt.out x.g (.inr ⟨x, hxm, rfl⟩)
      have HN : Hid (w.cell? ⟨x.g, 1, none⟩ = some (.pointer (some (hd p rest)))) := Lib.hid (ring_next (A := pre) (by rw [← hx]; exact HR.out))
      have HM1 : Hid (leftOf l (.pointer (some (hd p (x :: rest)))) = rest.length + 1) := Lib.hid (by rw [hx]; exact left_mid (B := x :: rest) (by rw [← hx]; exact HR.out))
      have HM2 : Hid (leftOf l (.pointer (some (hd p rest))) = rest.length) := Lib.hid (by
        have := left_mid (A := pre ++ [x]) (B := rest) (by rw [List.append_assoc]; exact (show l = pre ++ ([x] ++ rest) from hx) ▸ HR.out)
        rw [List.append_assoc] at this
        rw [hx]; simpa using this)
      have HX := Lib.hid hx
      have hother := neq_ptr_other (P := Try.prog) (w := wr) (a := ⟨x.g, 0, none⟩) (b := ⟨p, 1, none⟩) Try.underlying53 hi0 HZ.out (by intro c; injection c with c1 c2; exact hxp c1) ((HR.out.item x hxm).kd.below hb hxl) (HR.out.kp.below hb hp)
      clear hx
      rw [show hd p (x :: rest) = ⟨x.g, 0, none⟩ from rfl] at HM1 ⊢
      rw [show x.ad = ⟨x.g, 0, none⟩ from rfl] at hy
      gi_wp2
      refine hR.mono ?_
      rintro e W3 (⟨rfl, hJ3, hk3⟩ | ⟨rfl, hJx3⟩)
      · have hq3 := (hk3.cell (p := ⟨x.g, 1, none⟩) hxl).trans ((hb.cell (p := ⟨x.g, 1, none⟩) hxl).trans HN.out)
        gi_wp2
        go_roundw
        case rel => exact ⟨pre ++ [x], rest, rfl, by rw [HX.out]; simp, hb.trans hk3, hJ3⟩
        case measure => rw [HM1.out, HM2.out]; exact Nat.lt_succ_self _
      · gi_wp2
        refine bodyPost_ret (results_none rfl _ _ _) rfl ?_
        exact ⟨⟨_, rfl⟩, .inr ⟨pre ++ [x], ⟨rest, by rw [HX.out]; simp⟩, hJx3⟩⟩

set_option maxRecDepth 100000 in
set_option maxHeartbeats 2000000 in
theorem all_gives_nil (F : Fence) (n : Nat) (hF : F.fn 30) (hro : F.round = none) (n₀ : Nat) (w : World) :
    Gives F n Try.prog 30 (.pointer none) (fun x : GI => #[.pointer (some x.ad)]) n₀ [] w := by
  intro L J Jx W hW hY h0
  refine callsIn_of_wp Try.func30 rfl hF ?_ hro
  simp only [Try.ntmps30, List.size_toArray, List.length_cons, List.length_nil, Nat.reduceAdd, Nat.reduceSub, Array.replicate_succ, Array.replicate_zero, List.push_toArray, List.append_toArray, List.nil_append, List.cons_append]
  gi_wp2
  refine bodyPost_ret (results_none rfl _ _ _) rfl ?_
  exact ⟨⟨_, rfl⟩, .inl h0⟩
/-- A list that may be walked over: its items, and what the walk gives. -/
structure Walks (w : World) (a : Option Addr) (l : List GI) : Prop where
  gives : ∀ W, Below w.heap.size w W → Gives Fence.wide 2 Try.prog 30 (.pointer a) (fun x : GI => #[.pointer (some x.ad)]) w.heap.size l W
  item : ∀ x ∈ l, x.g < w.heap.size ∧ w.cell? ⟨x.g, 2, none⟩ = some (.int .i64 x.key) ∧ w.cell? ⟨x.g, 3, none⟩ = some (.int .i64 (x.pins : Int)) ∧ w.cell? ⟨x.g, 4, none⟩ = some (.bool x.marked)
  len : l.length ≤ 4096
theorem walks_nil (w : World) : Walks w none [] := ⟨fun W _ => all_gives_nil _ _ trivial rfl _ _, (fun x hx => by cases hx), by simp⟩
theorem walks_of {w : World} {F : Nat → Prop} {p : Nat} {L : LM} (h : LruM w F p L) : Walks w (some ⟨p, 0, none⟩) L.fr :=
  ⟨fun W hW => all_gives Fence.wide 2 trivial rfl (by omega) (h.ring.off (Only.of_below (F := fun _ => False) hW) fun _ _ => id) w.heap.size h.ring.nlt,
   fun x hx => ⟨(h.ring.item x hx).kd.lt, (h.ring.item x hx).ck, (h.ring.item x hx).cp, (h.ring.item x hx).cm⟩,
   by have h1 := h.ok.len; rw [st_len] at h1; exact Nat.le_trans h1 h.cap⟩
end Go.Proofs.Ytopdfhedifcalaa
