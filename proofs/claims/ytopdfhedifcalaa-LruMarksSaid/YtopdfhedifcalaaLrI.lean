/- Contract of the landed list's Marked over the abstract list: a new row of the marked keys, by rising number. Conditions: the list stands in memory. -/
import Derived.Test.YtopdfhedifcalaaLrH
namespace Go.Proofs.Ytopdfhedifcalaa
open Go.RowKit Go.Shelf
attribute [local go_sem] Oper.semAt_some

/-- The keys of the marked items. -/
def mk (l : List GI) : List Int := (l.filter (·.marked)).map (·.key)
theorem mk_len (l : List GI) : (mk l).length ≤ l.length := by
  unfold mk
  rw [List.length_map]
  exact List.length_filter_le _ _
theorem mk_no (l : List GI) {x : GI} (h : x.marked = false) : mk (l ++ [x]) = mk l := by simp [mk, h]
theorem mk_yes (l : List GI) {x : GI} (h : x.marked = true) : mk (l ++ [x]) = mk l ++ [x.key] := by simp [mk, h]
theorem marked_st {L : LM} (h : L.st.Ok) : sortI ((L.fr.filter (·.marked)).map (·.key)) = L.st.marked := by
  have e : (L.st.items.filter It.marked).map It.key = (L.fr.filter (·.marked)).map (·.key) := by
    simp [LM.st, List.filter_map, GI.it, Function.comp_def]
  unfold LU.marked
  rw [e, sortI_risen]
  rw [← e]
  exact h.nodup.sublist (List.filter_sublist.map _)

section
variable {w : World} {F : Nat → Prop} {p : Nat} {L : LM} {a : Option Addr} {xs : List GI}
set_option maxRecDepth 100000 in
set_option maxHeartbeats 2000000 in
theorem marked_gen (h : Walks w a xs) :
    Calls Try.prog 16 #[.pointer a] w fun e w' => ∃ v, e = .returned v ∧ IntRow w' w.heap.size v (sortI (mk xs)) ∧ Below w.heap.size w w' := by
  refine (callsIn_wide (n := 3)).1 ?_
  refine callsIn_of_wp_marks Try.func16 rfl trivial ?_ rfl
  simp only [Try.ntmps16, List.size_toArray, List.length_cons, List.length_nil, Nat.reduceAdd, Nat.reduceSub, Array.replicate_succ, Array.replicate_zero, List.push_toArray, List.append_toArray, List.nil_append, List.cons_append]
  have HW := Lib.hid h
  have HLen : Hid (xs.length ≤ 4096) := Lib.hid h.len
  clear h
  gi_wp2
  have b0 := Boxed.new w 37 (.slice none 0 0)
  have hB0 : Below w.heap.size w (w.alloc (.cells #[.slice none 0 0] 37)) := (Below.refl _ w).alloc (Nat.le_refl _) _
  refine wpIn_range_gives (α := GI) rfl (by omega) (gf := 30) (rv := .pointer a) rfl trivial (enters_of Try.func30 (by kernel_rfl) rfl)
    (HW.out.gives _ hB0) (by simp) (fun _ => rfl)
    (fun pre W => (∃ v, Boxed W w.heap.size 37 v ∧ W.ownsRow w.heap.size 3 1 v (mk pre).length ((mk pre).map (Value.int .i64)) ∧ True) ∧ Below w.heap.size w W)
    (fun _ _ _ => False)
    ?hI ?hIx ?h0
    (fun x => { tmps := #[.pointer a, undef, .slice none 0 0, .pointer (some ⟨w.heap.size, 0, none⟩), .pointer (some x.ad), .pointer a, .func (.func 30) #[.pointer a] #[], .pointer (some x.ad), undef, undef, undef, undef, undef, undef, undef, undef, undef, undef, undef, undef, undef, undef], defers := [] }) ?assign ?body ?done ?stop
  case hI =>
    exact OwnFrom.and (Own.from (holdsRow_own w.heap.size w.heap.size 37 3 1 (fun pre : List GI => (mk pre).length) (fun pre => (mk pre).map (Value.int .i64)) (fun _ _ => True)) _) (ownFrom_below (Nat.le_refl _) (by simp))
  case hIx =>
    exact fun c _ _ _ _ hs _ _ => hs
  case h0 =>
    exact ⟨⟨_, b0, introw_nil _ _, trivial⟩, hB0⟩
  case assign =>
    intro l x W K hK
    gi_wp2
    exact hK
  case body =>
    rintro l pre x rest W hx ⟨⟨v, hv, hrow, -⟩, hB⟩
    have hxm : x ∈ xs := by rw [hx]; simp
    have hxi := HW.out.item x hxm
    have c2 := (hB.cell (p := ⟨x.g, 2, none⟩) hxi.1).trans hxi.2.1
    have c4 := (hB.cell (p := ⟨x.g, 4, none⟩) hxi.1).trans hxi.2.2.2
    have hmx : Try.prog.follows .mixedOrders = true := by kernel_rfl
    have hle : (mk pre).length ≤ 4096 := by
      have h1 := mem_len hx
      have h2 := HLen.out
      have h3 := mk_len pre
      omega
    clear hx hxm hxi
    rw [show x.ad = ⟨x.g, 0, none⟩ from rfl]
    rcases hm : x.marked with _ | _
    · rw [hm] at c4
      have HM := Lib.hid (mk_no pre hm)
      clear hm
      gi_wp2
      exact ⟨KeepsFrom.refl _ _, Below.refl _ _, ⟨⟨v, hv, by rw [HM.out]; exact hrow, trivial⟩, hB⟩⟩
    · rw [hm] at c4
      have HM := Lib.hid (mk_yes pre hm)
      clear hm
      obtain ⟨m, hm⟩ : ∃ m, (mk pre).length = m := ⟨_, rfl⟩
      rw [hm] at hle
      have hrow' : IntRow W.drew w.heap.size v (mk pre) := hrow
      obtain ⟨A, c, hA⟩ := hrow'.slice_n hm
      subst hA
      obtain ⟨A', c', w1, hrun, hrow1, hgrow⟩ := introw_append hrow' (g := W.heap.size) rfl hm (by exact hB.size) hle x.key 37
      have hc := hv.cell
      have hf := hv.frozen
      have hbl := hv.lt
      have happ := Boxed.appended (W := W.drew) (tmp := .cells #[.int .i64 x.key] 3) hv (by decide) hrow' (by exact hB.size) (Nat.le_refl _) hrow1 hgrow
      obtain ⟨hv1, hv2, hr2, hk2, hb2⟩ := happ
      replace hk2 := (KeepsOthers.drew W).trans hk2
      replace hb2 : Below w.heap.size W (w1.setCell ⟨w.heap.size, 0, none⟩ (.slice A' (m + 1) c')) := ⟨hb2.os, hb2.tape, hb2.output, hb2.size, hb2.block⟩
      have hc1 := hv1.cell
      have hf1 := hv1.frozen
      have HRun := Lib.hid hrun
      have HMl := Lib.hid hm
      clear hrun hm
      gi_wp2
      refine wpIn_region_any hmx ?_
      change wpAnyIn _ _ _ _ _ _ _ _ _ (World.drew _)
      repeat' (first
        | exact AllReadyIn.nil
        | (refine AllReadyIn.cons rfl (fun K hK => ?_) ?_)
        | (refine wpAnyIn_ready (rs := [0, 1]) (by decide +kernel) (by simp) ?_)
        | (refine wpAnyIn_ready (rs := [0, 2]) (by decide +kernel) (by simp) ?_)
        | (refine wpAnyIn_ready (rs := [0, 3]) (by decide +kernel) (by simp) ?_)
        | (refine wpAnyIn_ready (rs := [0, 4]) (by decide +kernel) (by simp) ?_)
        | (refine wpAnyIn_ready (rs := [0, 5]) (by decide +kernel) (by simp) ?_)
        | (refine wpAnyIn_ready (rs := [0]) (by decide +kernel) (by simp) ?_)
        | (refine wpAnyIn_ready (rs := [1]) (by decide +kernel) (by simp) ?_)
        | (refine wpAnyIn_ready (rs := [2]) (by decide +kernel) (by simp) ?_)
        | (refine wpAnyIn_ready (rs := [3]) (by decide +kernel) (by simp) ?_)
        | (refine wpAnyIn_ready (rs := [4]) (by decide +kernel) (by simp) ?_)
        | (refine wpAnyIn_ready (rs := [5]) (by decide +kernel) (by simp) ?_)
        | (refine wpAnyIn_ready (rs := [6]) (by decide +kernel) (by simp) ?_; refine AllReadyIn.cons rfl (fun K hK => ?_) AllReadyIn.nil; refine stepIn_append (o := ⟨some 18, _, _, _, _, _⟩) rfl (.tmp 12) (.tmp 17) 37 rfl _ _ _ w1 rfl rfl HRun.out ?_; refine hK _ _ ?_; clear hK K)
        | (refine wpAnyIn_ready (rs := [7]) (by decide +kernel) (by simp) ?_)
        | (refine wpAnyIn_done (by decide +kernel) ?_ _)
        | (go_simp; refine hK _ _ ?_; clear hK K))
      all_goals gi_wp2
      all_goals exact ⟨hk2.from _, hb2, ⟨⟨_, hv2, by rw [HM.out]; exact hr2, trivial⟩, hB.trans hb2⟩⟩
  case done =>
    rintro D W hD ⟨⟨v, hv, hrow, -⟩, hB⟩ hK
    have hrow' : IntRow W w.heap.size v (mk xs) := hrow
    obtain ⟨A, c, hA⟩ := IntRow.slice hrow'
    subst hA
    have hle : (mk xs).length ≤ 4096 := Nat.le_trans (mk_len _) HLen.out
    have HS := Lib.hid (sort_introw hrow' rfl hle)
    have hc := hv.cell
    have HV := Lib.hid hv
    have HO := Lib.hid hrow'
    have HK := Lib.hid hK
    clear hv hrow hrow' hle hK
    gi_wp2_with (refine ⟨trivial, ?_⟩; gi_at_call 31; refine (callsIn_wide.2 HS.out).mono ?_; rintro e w1 ⟨rfl, hs1, hg1⟩; have hv1 := HV.out.kept hg1 (HV.out.not_row (by decide) HO.out); have hc1 := hv1.cell)
    have hD1 : w1.heap[D]? = some (.deferred (some [])) := by
      refine (hg1.block D (Array.getElem?_eq_some_iff.1 HK.out).1 ?_).trans HK.out
      rcases HO.out.2 with ⟨e, _⟩ | ⟨g, cap, cur, e, _, hgb, _⟩
      · rw [e]; simp [Value.ownBlock]
      · rw [e]
        intro e2
        have : D = g := by simpa [Value.ownBlock] using e2
        subst this
        rw [HK.out] at hgb
        cases hgb
    have hb1 : Below w.heap.size W w1 := (Below.refl _ W).grown hg1 (by have := hB.size; exact this) (fun k hk => own_ge HO.out k hk)
    refine ⟨by simp, .inl ⟨_, _, rfl, run_takeDeferred hD1, ?_⟩⟩
    refine ⟨_, results_tmp rfl _ _ _, _, rfl, ?_, (hB.trans hb1).trans (belowK_b (w := w) (Nat.le_refl _) w1 D _ _ (by simp at hD; omega) hD1 rfl rfl)⟩
    have hfin : IntRow w1 w.heap.size (.slice A (mk xs).length c) (sortI (mk xs)) := hs1
    exact ownsRow_putObj hfin _ hD1 rfl
  case stop =>
    rintro D c pre W _ _ h _
    exact h.elim
theorem lru_marked (h : LruM w F p L) :
    Calls Try.prog 16 #[.pointer (some ⟨p, 0, none⟩)] w fun e w' => ∃ v, e = .returned v ∧ IntRow w' w.heap.size v L.st.marked ∧ Below w.heap.size w w' := by
  have := marked_gen (walks_of h)
  rw [show sortI (mk L.fr) = L.st.marked from marked_st h.ok] at this
  exact this
theorem nil_marked (w : World) : Calls Try.prog 16 #[.pointer none] w fun e w' => ∃ v, e = .returned v ∧ IntRow w' w.heap.size v [] ∧ Below w.heap.size w w' := by
  have := marked_gen (walks_nil w)
  rw [show sortI (mk []) = [] from by simp [sortI, mk]] at this
  exact this
end
end Go.Proofs.Ytopdfhedifcalaa
