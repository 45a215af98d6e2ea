/- Contract of the landed disk's pieces. Conditions: the bytes are read; their number is within bounds. -/
import Derived.Test.YtoihkanneiknkaaDlH
namespace Go.Proofs.Ytoihkanneiknkaa
open Go.RowKit Go.Maps
attribute [local go_sem ↓] Go.wp_at_zero Go.wp_at_succ

theorem lpinfo : (Try.prog.info? 88).map (fun i => (i.zero, i.size, i.bytes)) = some (some (.agg #[.string ByteArray.empty, .int .i64 0, .slice none 0 0, .bool false]), 4, 56) := by kernel_rfl
/-! ### The pieces of a write -/
theorem pieces_step (nm : ByteArray) (a : Nat) (b : List UInt8) (o n : Nat) (l : List RP) (h : piecesTo nm a b o = (o, l)) (ho : o < b.length) (hn : n = min (64 - (a + o) % 64) (b.length - o)) :
    piecesTo nm a b (o + n) = (o + n, l ++ [⟨nm, a + o, (b.drop o).take n, false⟩]) := by
  have h0 : 0 < n := by omega
  have hmid : ∀ j, j < n → piecesTo nm a b (o + j) = (o, l) := by
    intro j
    induction j with
    | zero => intro _; exact h
    | succ j ih =>
      intro hj
      show pstep nm a b (piecesTo nm a b (o + j)) (o + j + 1) = _
      rw [ih (by omega), pstep, if_neg]
      omega
  obtain ⟨m, rfl⟩ : ∃ m, n = m + 1 := ⟨n - 1, by omega⟩
  show pstep nm a b (piecesTo nm a b (o + m)) (o + m + 1) = _
  rw [hmid m (by omega), pstep, if_pos (by omega)]
  have e : o + m + 1 - o = m + 1 := by omega
  simp only [e]
  rfl

section
variable {w w' : World} {F G : Nat → Prop} {q : PR}
/-- Bytes that are read in a block of bytes. -/
def RB (w : World) (base : Nat) (A : Option Addr) (l : List UInt8) (c : Nat) : Prop := l.length ≤ c ∧ Reads w w.heap.size 1 A l.length (bv l) ∧ ∀ ad, A = some ad → base ≤ ad.block ∧ Kind w 5 ad.block
theorem RB.grown {base c : Nat} {A : Option Addr} {l : List UInt8} (h : RB w base A l c) {row : Option Nat} (hg : w.grownBy w' row) (hr : ∀ k, row = some k → ¬ Kind w 5 k) : RB w' base A l c := by
  have hk : ∀ ad, A = some ad → some ad.block ≠ row := fun ad had e => hr _ e.symm (h.2.2 ad had).2
  refine ⟨h.1, ⟨h.2.1.1, fun h0 => ?_⟩, fun ad had => ⟨(h.2.2 ad had).1, ?_⟩⟩
  · obtain ⟨ad, had, hb, hc⟩ := h.2.1.2 h0
    exact ⟨ad, had, Nat.lt_of_lt_of_le hb hg.size, fun j u hu => (World.cell?_of_block (by rw [block_of_add]; exact hg.block ad.block hb (hk ad had))).trans (hc j u hu)⟩
  · obtain ⟨cs, hb⟩ := (h.2.2 ad had).2
    exact ⟨cs, hb.grown hg (hk ad had)⟩
theorem RB.cut {base c : Nat} {A : Option Addr} {l : List UInt8} (h : RB w base A l c) (n : Nat) (hn : n ≤ l.length) : RB w base (if c = n then A else Option.map (fun x => x.add n) A) (l.drop n) (c - n) := by
  refine ⟨by rw [List.length_drop]; have := h.1; omega, ?_, fun ad had => ?_⟩
  · have h1 := h.2.1.cut (k := n) (cap := c) hn h.1
    rw [List.length_drop, bv_drop]
    simpa using h1
  · split at had
    · exact h.2.2 ad had
    · rcases A with _ | a
      · cases had
      · injection had with had
        subst had
        rw [block_of_add]
        exact h.2.2 a rfl
theorem RB.pre {base c : Nat} {A : Option Addr} {l : List UInt8} (h : RB w base A l c) (n : Nat) (hn : n ≤ l.length) : RB w base A (l.take n) c := by
  refine ⟨by rw [List.length_take]; have := h.1; omega, ?_, h.2.2⟩
  have h1 := h.2.1.pre (n := n) hn
  have e : (l.take n).length = n := by rw [List.length_take]; omega
  rw [e, bv_take]
  simpa using h1
theorem RB.pb {base c : Nat} {A : Option Addr} {l : List UInt8} (h : RB w base A l c) (nm : ByteArray) (a : Nat) (cut : Bool) : PB w (fun k => base ≤ k ∧ k < w.heap.size ∧ Kind w 5 k) ⟨nm, a, .slice A l.length c, l, cut⟩ :=
  ⟨A, c, rfl, h.1, h.2.1, fun ad had => ⟨⟨(h.2.2 ad had).1, (h.2.2 ad had).2.lt, (h.2.2 ad had).2⟩, (h.2.2 ad had).2⟩⟩
theorem PB.grown (h : PB w F q) {row : Option Nat} (hg : w.grownBy w' row) (hr : ∀ k, row = some k → ¬ Kind w 5 k) : PB w' F q :=
  h.off ((Only.refl (fun k => row = some k) w).grown hg fun _ hk => .inl hk) fun k hk e => hr k e (h.own hk).1
theorem PB.newer {base : Nat} (h : PB w (fun k => base ≤ k ∧ k < w.heap.size ∧ Kind w 5 k) q) {row : Option Nat} (hg : w.grownBy w' row) (hr : ∀ k, row = some k → ¬ Kind w 5 k) : PB w' (fun k => base ≤ k ∧ k < w'.heap.size ∧ Kind w' 5 k) q :=
  (h.grown hg hr).mono fun k hk => ⟨hk.1, Nat.lt_of_lt_of_le hk.2.1 hg.size, by
    obtain ⟨cs, hb⟩ := hk.2.2
    exact ⟨cs, hb.grown hg fun e => hr k e.symm ⟨cs, hb⟩⟩⟩
end

def PiecesAt (nm : ByteArray) (a : Nat) (b : List UInt8) (w : World) (e : Ending) (w' : World) : Prop :=
  ∃ v prs, e = .returned v ∧ w'.ownsRow w.heap.size 88 4 v prs.length (flat encP prs) ∧ prs.map PR.toP = pieces nm a b ∧ (∀ q ∈ prs, PB w' (fun k => w.heap.size ≤ k ∧ k < w'.heap.size ∧ Kind w' 5 k) q) ∧ Below w.heap.size w w'
theorem encP_one (q : PR) (h : q.bv.oneCell' = true) : ∀ u ∈ encP q, u.oneCell' = true := one_four _ _ _ _ (by rw [h]; rfl)

set_option maxRecDepth 100000 in
set_option maxHeartbeats 1600000 in
theorem pieces_any (nm : ByteArray) (at' : Nat) (b : List UInt8) (A : Option Addr) (c : Nat) (w : World) (hb : at' + b.length ≤ 1099511627776) (hr : Reads w w.heap.size 1 A b.length (bv b)) :
    Calls Try.prog 46 #[.string nm, .int .i64 (at' : Int), .slice A b.length c] w fun e w' => PiecesAt nm at' b w e w' := by
  obtain ⟨i0, hi0, hz0, hz1, hz2⟩ := info_parts lpinfo
  have HC := Lib.hid (clone_any b A c w (by omega) hr)
  clear hr
  go_enter Try.func46, Try.ntmps46
  go_upto_region 3 with (first | (go_at_call 42; refine HC.out.mono ?_; rintro e w1 ⟨v1, rfl, ho1, hb1⟩))
  obtain ⟨A1, c1, rfl⟩ := own_slice ho1
  have HRB1 : Hid (RB w1 w.heap.size A1 (b.drop 0) c1) := Lib.hid (by
    rw [List.drop_zero]
    obtain ⟨_, _, e, h1, _, h2, h3⟩ := own_form ho1
    injection e with e1 e2 e3
    subst e1
    subst e3
    exact ⟨h1, h2, fun ad had => ⟨(h3 ad had).1, own_kind ho1 (by rw [had]; rfl)⟩⟩)
  have HB1 := Lib.hid hb1
  clear ho1 hb1
  go_loopw [1, 2, 7] (fun s1 s2 s7 wr => ∃ (o r a : Nat) (Ao : Option Addr) (co : Nat) (prs : List PR) (v7 : Value), s1 = .int .i64 (a : Int) ∧ s2 = .slice Ao r co ∧ v7 = s7 ∧ Hid (a = at' + o ∧ o + r = b.length ∧ piecesTo nm at' b o = (o, prs.map PR.toP)) ∧
      Hid (RB wr w.heap.size Ao (b.drop o) co) ∧ Hid (wr.ownsRow w.heap.size 88 4 v7 prs.length (flat encP prs)) ∧ Hid (∀ q ∈ prs, PB wr (fun k => w.heap.size ≤ k ∧ k < wr.heap.size ∧ Kind wr 5 k) q) ∧ Hid (Below w.heap.size w wr))
    (fun _ s2 _ _ => match s2 with | .slice _ n _ => n | _ => 0)
  case atStart => exact ⟨0, b.length, at', A1, c1, [], _, rfl, rfl, rfl, Lib.hid ⟨rfl, by omega, rfl⟩, HRB1, Lib.hid (own_nil _ _ _ _), Lib.hid (fun q hq => by cases hq), HB1⟩
  case round =>
    obtain ⟨o, r, a, Ao, co, prs, v7, rfl, rfl, rfl, HI, HRB, HOwn, HPB, HBel⟩ := hrel
    have hol : o ≤ b.length := by have := HI.out.2.1; omega
    have hdl : (b.drop o).length = r := by rw [List.length_drop]; have := HI.out.2.1; omega
    have hrc : r ≤ co := by have := HRB.out.1; omega
    have hab : a + r ≤ 1099511627776 := by have h1 := HI.out.1; have h2 := HI.out.2.1; omega
    have hpl : prs.length ≤ 1099511627776 := by
      have h1 := (piecesTo_le nm at' b o).2
      rw [HI.out.2.2] at h1
      simp only [List.length_map] at h1
      omega
    by_cases h0 : 0 < r
    · obtain ⟨n, hn⟩ : ∃ n, n = min (64 - a % 64) r := ⟨_, rfl⟩
      have HN := Lib.hid hn
      have hn0 : 0 < n := by omega
      have hnr : n ≤ r := by omega
      have hnc : (n : Int) ≤ (co : Int) := by omega
      have hnc2 : n ≤ co := by omega
      have hnr' : (n : Int) ≤ (r : Int) := by omega
      have hmin : min ((64 : Int) - (a : Int) % 64) (r : Int) = (n : Int) := by omega
      have hw1 : IntKind.i64.wrap ((a : Int) + (n : Int)) = (a : Int) + (n : Int) := IntWalk.i64_in _ (by omega)
      have hw2 : (0 : Int) ≤ (a : Int) + (n : Int) := by omega
      have HDl := Lib.hid hdl
      clear hn hdl hol
      go_upto_region 6 with (at_builtin; refine wpList_append_any _ rfl (.tmp 20) (.tmp 27) 64 rfl w.heap.size 88 i0 (.agg #[.string ByteArray.empty, .int .i64 0, .slice none 0 0, .bool false]) 4 56 Try.underlying64 hi0 hz0 hz1 hz2 rfl (by decide) _ prs.length _ rfl (HOwn.out.alloc _) (wr.heap.size + 1) (some ⟨wr.heap.size, 0, none⟩) 1 1 [.string nm, .int .i64 (a : Int), .slice Ao n co, .bool false] rfl (reads_new4 wr 88 [.string nm, .int .i64 (a : Int), .slice Ao n co, .bool false] rfl) (one_four _ _ _ _ rfl) (by unfold maxLen; omega) (by omega) (alloc_ge HBel.out.size _) ?_; intro v5 w5 ho5 hg5 hat5)
      have hrow : ∀ k, v7.ownBlock = some k → ¬ Kind wr 5 k := fun k hk e => (own_kind HOwn.out hk).ne e (by decide) rfl
      have hgA : wr.grownBy w5 v7.ownBlock := (World.grownBy_alloc wr _ _).andThen hg5 fun j hj => .inr hj
      have HRB5 := Lib.hid (HRB.out.grown hgA hrow)
      have HBel5 : Hid (Below w.heap.size w w5) := Lib.hid (HBel.out.grown hgA HBel.out.size (own_ge HOwn.out))
      have HNew : Hid (∀ nq, ∃ prs', w5.ownsRow w.heap.size 88 4 v5 prs'.length (flat encP prs') ∧ (a + n = at' + (o + n) ∧ (o + n) + (r - n) = b.length ∧ piecesTo nm at' b (o + n) = (o + n, prs'.map PR.toP)) ∧ ∀ q ∈ prs', PB (w5.drewN nq) (fun k => w.heap.size ≤ k ∧ k < (w5.drewN nq).heap.size ∧ Kind (w5.drewN nq) 5 k) q) := Lib.hid (fun nq => by
        refine ⟨prs ++ [⟨nm, a, .slice Ao n co, (b.drop o).take n, false⟩], ?_, ⟨by have := HI.out.1; omega, by have := HI.out.2.1; omega, ?_⟩, fun q hq => ?_⟩
        · rw [List.length_append, flat_append, flat_one]
          exact ho5
        · rw [pieces_step nm at' b o n _ HI.out.2.2 (by have := HI.out.2.1; omega) (by have h1 := HI.out.1; have h2 := HI.out.2.1; rw [HN.out, h1]; omega), List.map_append]
          have := HI.out.1
          simp [PR.toP, this]
        · have h1 : PB w5 (fun k => w.heap.size ≤ k ∧ k < w5.heap.size ∧ Kind w5 5 k) q := by
            rcases List.mem_append.1 hq with hq | hq
            · exact (HPB.out q hq).newer hgA hrow
            · simp only [List.mem_singleton] at hq
              subst hq
              have h2 := (HRB5.out.pre n (by rw [HDl.out]; exact hnr)).pb nm a false
              have e : ((b.drop o).take n).length = n := by rw [List.length_take, HDl.out]; omega
              rw [e] at h2
              exact h2
          exact h1)
      clear hrow hgA ho5 hg5 hat5
      go_quiet (fail)
      all_goals
        obtain ⟨prs', n1, n2, n3⟩ := HNew.out nq
        go_wp2_with fail
        go_roundw
        case rel =>
          refine ⟨o + n, r - n, a + n, _, _, prs', _, ?_, rfl, rfl, Lib.hid n2, Lib.hid ?_, Lib.hid n1, Lib.hid n3, Lib.hid (below_drewN HBel5.out _)⟩
          · go_num
          · have h2 := HRB5.out.cut n (by rw [HDl.out]; exact hnr)
            rw [List.drop_drop] at h2
            exact h2
        case measure => show r - n < r; omega
    · obtain rfl : r = 0 := by omega
      have hob : o = b.length := by have := HI.out.2.1; omega
      have HEnd : Hid (PiecesAt nm at' b w (.returned v7) wr) := Lib.hid ⟨v7, prs, rfl, HOwn.out, by unfold pieces; rw [← hob, HI.out.2.2], HPB.out, HBel.out⟩
      clear hdl hol hob h0
      go_wp2_with fail
      go_ret
      exact HEnd.out
end Go.Proofs.Ytoihkanneiknkaa
