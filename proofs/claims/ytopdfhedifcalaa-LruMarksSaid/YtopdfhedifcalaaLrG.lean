/- Contract of the landed list's Keys over the abstract list: a new row of its keys. Conditions: the list stands in memory. -/
import Derived.Test.YtopdfhedifcalaaLrF
namespace Go.Proofs.Ytopdfhedifcalaa
open Go.RowKit Go.Shelf
attribute [local go_sem] Oper.semAt_some

theorem intinfo : (Try.prog.info? 3).map (fun i => (i.zero, i.size, i.bytes)) = some (some (.int .i64 0), 1, 8) := by kernel_rfl
/-- A row of numbers of the call's own. -/
def IntRow (w : World) (base : Nat) (v : Value) (l : List Int) : Prop := w.ownsRow base 3 1 v l.length (l.map (Value.int .i64))
theorem introw_nil (w : World) (base : Nat) : IntRow w base (.slice none 0 0) [] := own_nil _ _ _ _
theorem IntRow.slice {w : World} {base : Nat} {v : Value} {l : List Int} (h : IntRow w base v l) : ∃ A c, v = .slice A l.length c := by
  rcases h.2 with ⟨rfl, h0⟩ | ⟨g, cap, cur, rfl, _⟩
  · exact ⟨none, 0, by rw [h0]⟩
  · exact ⟨_, _, rfl⟩
/-- The append of one number onto such a row, as an equation on the run. -/
theorem introw_append {w : World} {base g n : Nat} {v : Value} {l : List Int} (h : IntRow w base v l) (hg : w.heap.size = g) (hn : l.length = n) (hb : base ≤ w.heap.size) (hl : n ≤ 4096) (x : Int) (ty : TypeId) :
    ∃ A' c' w1, (Builtin.append_ #[37, 37] ty #[v, .slice (some ⟨g, 0, none⟩) 1 1]).run Try.prog (w.alloc (.cells #[.int .i64 x] 3)) = .ok (.slice A' (n + 1) c') w1 ∧
      IntRow w1 base (.slice A' (n + 1) c') (l ++ [x]) ∧ (w.alloc (.cells #[.int .i64 x] 3)).grownBy w1 v.ownBlock := by
  subst hg hn
  obtain ⟨i0, hi0, hz0, hz1, hz2⟩ := info_parts intinfo
  obtain ⟨v', w1, h1, h2, h3, _⟩ := run_append_any (P := Try.prog) (w.alloc (.cells #[.int .i64 x] 3)) base 37 ty 3 i0 (.int .i64 0) 1 8 Try.underlying37 hi0 hz0 hz1 hz2 rfl (by decide) v l.length (l.map (Value.int .i64)) (h.alloc _) (w.heap.size + 1) (some ⟨w.heap.size, 0, none⟩) 1 1 [.int .i64 x] (reads_newN w 3 1 [.int .i64 x] 1 rfl) (by simp [Value.oneCell']) (by unfold maxLen; omega) (by omega) (by simp; omega)
  obtain ⟨A, c, rfl⟩ : ∃ A c, v' = .slice A (l.length + 1) c := by
    rcases h2.2 with ⟨rfl, h0⟩ | ⟨g, cap, cur, rfl, _⟩
    · omega
    · exact ⟨_, _, rfl⟩
  refine ⟨A, c, w1, h1, ?_, h3⟩
  unfold IntRow
  rw [List.length_append, List.map_append]
  exact h2
theorem IntRow.slice_n {w : World} {base n : Nat} {v : Value} {l : List Int} (h : IntRow w base v l) (hn : l.length = n) : ∃ A c, v = .slice A n c := by
  obtain ⟨A, c, e⟩ := h.slice
  exact ⟨A, c, hn ▸ e⟩
theorem mem_len {α : Type} {l pre rest : List α} {x : α} (h : l = pre ++ x :: rest) : pre.length < l.length := by rw [h]; simp

section
variable {w : World} {F : Nat → Prop} {p : Nat} {L : LM} {a : Option Addr} {xs : List GI}
set_option maxRecDepth 100000 in
set_option maxHeartbeats 2000000 in
theorem keys_gen (h : Walks w a xs) :
    Calls Try.prog 13 #[.pointer a] w fun e w' => ∃ v, e = .returned v ∧ IntRow w' w.heap.size v (xs.map (·.key)) ∧ Below w.heap.size w w' := by
  refine (callsIn_wide (n := 3)).1 ?_
  refine callsIn_of_wp_marks Try.func13 rfl trivial ?_ rfl
  simp only [Try.ntmps13, List.size_toArray, List.length_cons, List.length_nil, Nat.reduceAdd, Nat.reduceSub, Array.replicate_succ, Array.replicate_zero, List.push_toArray, List.append_toArray, List.nil_append, List.cons_append]
  have HW := Lib.hid h
  have HLen : Hid (xs.length ≤ 4096) := Lib.hid h.len
  clear h
  gi_wp2
  have b0 := Boxed.new w 37 (.slice none 0 0)
  have hB0 : Below w.heap.size w (w.alloc (.cells #[.slice none 0 0] 37)) := (Below.refl _ w).alloc (Nat.le_refl _) _
  refine wpIn_range_gives (α := GI) rfl (by omega) (gf := 30) (rv := .pointer a) rfl trivial (enters_of Try.func30 (by kernel_rfl) rfl)
    (HW.out.gives _ hB0) (by simp) (fun _ => rfl)
    (fun pre W => (∃ v, Boxed W w.heap.size 37 v ∧ W.ownsRow w.heap.size 3 1 v (pre.map (·.key)).length ((pre.map (·.key)).map (Value.int .i64)) ∧ True) ∧ Below w.heap.size w W)
    (fun _ _ _ => False)
    ?hI ?hIx ?h0
    (fun x => { tmps := #[.pointer a, undef, .slice none 0 0, .pointer (some ⟨w.heap.size, 0, none⟩), .pointer (some x.ad), .pointer a, .func (.func 30) #[.pointer a] #[], .pointer (some x.ad), undef, undef, undef, undef, undef, undef, undef, undef], defers := [] }) ?assign ?body ?done ?stop
  case hI =>
    exact OwnFrom.and (Own.from (holdsRow_own w.heap.size w.heap.size 37 3 1 (fun pre : List GI => (pre.map (·.key)).length) (fun pre => (pre.map (·.key)).map (Value.int .i64)) (fun _ _ => True)) _) (ownFrom_below (Nat.le_refl _) (by simp))
  case hIx =>
    exact fun c _ _ _ _ hs _ _ => hs
  case h0 =>
    exact ⟨⟨_, b0, introw_nil _ _, trivial⟩, hB0⟩
  case assign =>
    intro l x W K hK
    gi_wp2
    exact hK
  case body =>
    rintro l pre x rest W hx ⟨⟨v, hv, hrow, -⟩, hB⟩
    have hxm : x ∈ xs := by rw [hx]; simp
    have hxi := HW.out.item x hxm
    have c2 := (hB.cell (p := ⟨x.g, 2, none⟩) hxi.1).trans hxi.2.1
    have hmx : Try.prog.follows .mixedOrders = true := by kernel_rfl
    have hle : pre.length ≤ 4096 := by
      have := mem_len hx
      have := HLen.out
      omega
    have hrow' : IntRow W.drew w.heap.size v (pre.map (·.key)) := hrow
    obtain ⟨A, c, hA⟩ := hrow'.slice_n (List.length_map _)
    subst hA
    obtain ⟨A', c', w1, hrun, hrow1, hgrow⟩ := introw_append hrow' (g := W.heap.size) rfl (List.length_map _) (by exact hB.size) hle x.key 37
    have hc := hv.cell
    have hf := hv.frozen
    have hbl := hv.lt
    have happ := Boxed.appended (W := W.drew) (tmp := .cells #[.int .i64 x.key] 3) hv (by decide) hrow' (by exact hB.size) (Nat.le_refl _) hrow1 hgrow
    obtain ⟨hv1, hv2, hr2, hk2, hb2⟩ := happ
    replace hk2 := (KeepsOthers.drew W).trans hk2
    replace hb2 : Below w.heap.size W (w1.setCell ⟨w.heap.size, 0, none⟩ (.slice A' (pre.length + 1) c')) := ⟨hb2.os, hb2.tape, hb2.output, hb2.size, hb2.block⟩
    have hc1 := hv1.cell
    have hf1 := hv1.frozen
    clear hx hxm hxi
    rw [show x.ad = ⟨x.g, 0, none⟩ from rfl]
    gi_wp2
    refine wpIn_region_any hmx ?_
    change wpAnyIn _ _ _ _ _ _ _ _ _ (World.drew _)
    have HRun := Lib.hid hrun
    clear hrun
    repeat' (first
      | exact AllReadyIn.nil
      | (refine AllReadyIn.cons rfl (fun K hK => ?_) ?_)
      | (refine wpAnyIn_ready (rs := [0, 1]) (by decide +kernel) (by simp) ?_)
      | (refine wpAnyIn_ready (rs := [0, 2]) (by decide +kernel) (by simp) ?_)
      | (refine wpAnyIn_ready (rs := [0, 3]) (by decide +kernel) (by simp) ?_)
      | (refine wpAnyIn_ready (rs := [0, 4]) (by decide +kernel) (by simp) ?_)
      | (refine wpAnyIn_ready (rs := [0, 5]) (by decide +kernel) (by simp) ?_)
      | (refine wpAnyIn_ready (rs := [0]) (by decide +kernel) (by simp) ?_)
      | (refine wpAnyIn_ready (rs := [1]) (by decide +kernel) (by simp) ?_)
      | (refine wpAnyIn_ready (rs := [2]) (by decide +kernel) (by simp) ?_)
      | (refine wpAnyIn_ready (rs := [3]) (by decide +kernel) (by simp) ?_)
      | (refine wpAnyIn_ready (rs := [4]) (by decide +kernel) (by simp) ?_)
      | (refine wpAnyIn_ready (rs := [5]) (by decide +kernel) (by simp) ?_)
      | (refine wpAnyIn_ready (rs := [6]) (by decide +kernel) (by simp) ?_; refine AllReadyIn.cons rfl (fun K hK => ?_) AllReadyIn.nil; refine stepIn_append (o := ⟨some 14, _, _, _, _, _⟩) rfl (.tmp 8) (.tmp 13) 37 rfl _ _ _ w1 rfl rfl HRun.out ?_; refine hK _ _ ?_; clear hK K)
      | (refine wpAnyIn_ready (rs := [7]) (by decide +kernel) (by simp) ?_)
      | (refine wpAnyIn_done (by decide +kernel) ?_ _)
      | (go_simp; refine hK _ _ ?_; clear hK K))
    all_goals gi_wp2
    all_goals exact ⟨hk2.from _, hb2, ⟨⟨_, hv2, by simpa using hr2, trivial⟩, hB.trans hb2⟩⟩
  case done =>
    rintro D W hD ⟨⟨v, hv, hrow, -⟩, hB⟩ hK
    have hc := hv.cell
    gi_wp2
    refine ⟨by simp, .inl ⟨_, _, rfl, run_takeDeferred hK, ?_⟩⟩
    exact ⟨_, results_tmp rfl _ _ _, v, rfl, ownsRow_putObj hrow _ hK rfl, hB.trans (belowK_b (w := w) (Nat.le_refl _) W D _ _ (by simp at hD; omega) hK rfl rfl)⟩
  case stop =>
    rintro D c pre W _ _ h _
    exact h.elim
theorem lru_keys (h : LruM w F p L) :
    Calls Try.prog 13 #[.pointer (some ⟨p, 0, none⟩)] w fun e w' => ∃ v, e = .returned v ∧ IntRow w' w.heap.size v L.st.keys ∧ Below w.heap.size w w' := by
  rw [st_keys]
  exact keys_gen (walks_of h)
theorem nil_keys (w : World) : Calls Try.prog 13 #[.pointer none] w fun e w' => ∃ v, e = .returned v ∧ IntRow w' w.heap.size v [] ∧ Below w.heap.size w w' := keys_gen (walks_nil w)
end
end Go.Proofs.Ytopdfhedifcalaa
