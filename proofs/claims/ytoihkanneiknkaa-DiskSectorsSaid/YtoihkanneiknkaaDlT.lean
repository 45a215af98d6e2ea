/- Contract of the landed disk's Crash: the walk. Conditions: the disk and the picks are in memory as named, and within bounds; each piece that waits is of a file. -/
import Derived.Test.YtoihkanneiknkaaDlS
namespace Go.Proofs.Ytoihkanneiknkaa
open Go.RowKit Go.Maps
attribute [local go_sem ↓] Go.wp_at_zero Go.wp_at_succ

theorem DiskM.offIter {w w' : World} {F : Nat → Prop} {p r : Nat} {L : LMem} (h : DiskM w F p L) (hr : ∀ T, ¬ Kind w T r) (hb : ∀ b, L.mv = some b → b ≠ r) (ho : Only (fun k => k = r) w w') : DiskM w' F p L where
  blk := h.blk.only ho fun e => hr _ (e ▸ h.kind)
  fp := h.fp
  map := h.map.off ho hb
  file := fun f hf => (h.file f hf).off ho (fun e => hr _ (e ▸ (h.file f hf).kind)) fun _ hk e => hr _ (e ▸ ((h.file f hf).own hk).1)
  row := h.row.off ho fun _ hk e => hr _ (e ▸ h.row.kind hk)
  piece := fun q hq => (h.piece q hq).off ho fun _ hk e => hr _ (e ▸ ((h.piece q hq).own hk).1)
  srt := h.srt
  apart := h.apart
  clear := h.clear
theorem ranges_kind {w : World} {R : Value → Option (DataW Unit × List MemPlace)} {b r n cnt : Nat} {D : DataW Unit} {left : Lit → Bool} (h : w.ranges Try.prog 9 R b r n D left cnt) : ∀ T, ¬ Kind w T r := fun T ⟨cs, hb⟩ => by
  obtain ⟨es, clock, since, seen, c0, _, _, _, _, hr, _⟩ := h
  unfold Blk at hb
  rw [hb] at hr
  cases hr
/-- The files that have been met. -/
def metF (left : Lit → Bool) (f : RF) : RF := if left (.string f.name.data.toList) then f else { f with now := f.safe }
theorem metF_step (left : Lit → Bool) (kl : Lit) (x : RF) (nm : ByteArray) (hk : (Lit.string x.name.data.toList).sameKey kl = decide (x.name = nm)) :
    (if (metF left x).name = nm then { (metF left x) with now := (metF left x).safe } else metF left x) = metF (fun z => left z && !z.sameKey kl) x := by
  have e : (fun z : Lit => left z && !z.sameKey kl) (.string x.name.data.toList) = (left (.string x.name.data.toList) && !decide (x.name = nm)) := by
    show (left _ && !(Lit.string x.name.data.toList).sameKey kl) = _
    rw [hk]
  have h2 : metF (fun z => left z && !z.sameKey kl) x = if (left (.string x.name.data.toList) && !decide (x.name = nm)) = true then x else { x with now := x.safe } := by
    unfold metF
    rw [e]
  have h3 : metF left x = if left (.string x.name.data.toList) = true then x else { x with now := x.safe } := rfl
  rw [h2, h3]
  rcases left (.string x.name.data.toList) with _ | _
  · by_cases hn : x.name = nm <;> simp [hn]
  · by_cases hn : x.name = nm <;> simp [hn]
/-- On the way, second part. -/
structure CrashN (F : Nat → Prop) (p : Nat) (L2 : LMem) (w1 wr : World) (left : Lit → Bool) (L3 : LMem) : Prop where
  mem : DiskM wr (Gr F w1 wr) p L3
  st : L3.st = { L2.st with files := L2.st.files.map (metF left) }
  kv : L3.fr.map GF.kv = L2.fr.map GF.kv
  mv : L3.mv = L2.mv
  only : Only F w1 wr
theorem kv_mem {l l' : List GF} (h : l'.map GF.kv = l.map GF.kv) {f : GF} (hf : f ∈ l) : ∃ f' ∈ l', f'.name = f.name ∧ f'.g = f.g := by
  have h1 : f.kv ∈ l'.map GF.kv := by rw [h]; exact List.mem_map.2 ⟨f, hf, rfl⟩
  obtain ⟨f', hf', e⟩ := List.mem_map.1 h1
  refine ⟨f', hf', key_inj (congrArg Prod.fst e), ?_⟩
  have h2 : (DataW.lit (.int .i64 (f'.g : Int)) : DataW Unit) = .lit (.int .i64 (f.g : Int)) := congrArg Prod.snd e
  have h3 : (f'.g : Int) = (f.g : Int) := by
    have := DataW.lit.inj h2
    exact (Lit.int.inj this).2
  omega
theorem filter_st (L : LMem) : ({ L with fr := L.fr.filter (·.sure) } : LMem).st = { L.st with files := L.st.files.filter (·.sure) } := by
  simp only [LMem.st, List.filter_map]
  rfl
theorem lcrashTo_le (f : RF) (picks : List Int) (pend : List RP) (k B : Nat) (hb : f.safe.length ≤ B) (hq : ∀ q ∈ pend, q.at' + q.b.length ≤ B) : (crashTo f picks pend k).1.length ≤ B := by
  induction k with
  | zero => exact hb
  | succ k ih =>
    by_cases hk : k < pend.length
    · rw [crashTo_succ f picks pend k hk]
      by_cases h1 : pend[k].name ≠ f.name ∨ keptB picks k = false
      · rw [crash_skip _ _ _ _ h1]
        exact ih
      · have h2 : pend[k].name = f.name := Classical.byContradiction fun e => h1 (.inl e)
        have h3 : keptB picks k = true := by
          rcases h4 : keptB picks k with _ | _
          · exact absurd (.inr h4) h1
          · rfl
        rw [crash_do _ _ _ _ h2 h3]
        have h5 := hq _ (List.getElem_mem hk)
        split
        · simp only [List.length_take]; omega
        · simp only [layB_length]; omega
    · have e : crashTo f picks pend (k + 1) = crashTo f picks pend k := by
        unfold crashTo
        rw [List.take_of_length_le (by simp; omega), List.take_of_length_le (by simp; omega)]
      rw [e]
      exact ih

set_option maxRecDepth 100000 in
set_option maxHeartbeats 8000000 in
theorem lcrash_any (picks : List Int) (A : Option Addr) (c : Nat) (F : Nat → Prop) (p : Nat) (L : LMem) (w : World) (h : DiskM w F p L) (hFl : ∀ k, F k → k < w.heap.size) (hf : L.Fine) (hpl : L.pr.length ≤ 1000000) (hsafe : ∀ f ∈ L.st.files, f.safe.length ≤ 549755813888) (hq : ∀ q ∈ L.st.pend, q.at' + q.b.length ≤ 549755813888) (hnm : ∀ q ∈ L.pr, q.name.size ≤ 9223372036854775807)
    (hth : ∀ q ∈ L.pr, getF L.fr q.name ≠ none) (hpk : picks.length ≤ 9223372036854775807) (hpi : ∀ x ∈ picks, -9223372036854775808 ≤ x ∧ x ≤ 9223372036854775807) (hr : Reads w w.heap.size 1 A picks.length (pv_ picks)) (hs : 0 < picks.length → ∀ ad, A = some ad → ¬ F ad.block) :
    Calls Try.prog 17 #[.pointer (some ⟨p, 0, none⟩), .slice A picks.length c] w fun e w' => e = .returned (.tuple #[]) ∧ (∃ L', DiskM w' (Gr F w w') p L' ∧ L'.st = L.st.crash picks) ∧ Only F w w' := by
  obtain ⟨Aw, cw, hwv, hlc, hcm, -⟩ := h.row.value
  have d2 := h.cells.2.2.1
  rw [hwv] at d2
  have hp : p < w.heap.size := h.blk.lt
  have HStart : Hid (CrashR F p L picks w w 0 L) := Lib.hid ⟨h.mono fun k hk => .inl hk, (crashA_zero _ _).symm, rfl, rfl, Only.refl _ _⟩
  have HWv := Lib.hid hwv
  have HSafe := Lib.hid hsafe
  have HQ := Lib.hid hq
  have HNm := Lib.hid hnm
  have HTh := Lib.hid hth
  have HPi := Lib.hid hpi
  have HPk : Hid (∀ wr, Only F w wr → Reads wr wr.heap.size 1 A picks.length (pv_ picks)) := Lib.hid (fun wr ho => if h0 : 0 < picks.length then reads_off hr ho (hs h0) else ⟨hr.1, fun hn => absurd hn h0⟩)
  have HD := Lib.hid h
  have HFl := Lib.hid hFl
  have HF := Lib.hid hf
  have hpend : L.st.pend.length = L.pr.length := by simp [LMem.st]
  have HPend := Lib.hid hpend
  unfold maxLen at hcm
  clear h hwv hsafe hq hnm hth hpi hr hs hFl hf hpend
  go_enter Try.func17, Try.ntmps17
  go_wp2
  go_loopw [16] (fun s16 wr => ∃ (k : Nat) (L' : LMem), s16 = .int .i64 (k : Int) ∧ k ≤ L.pr.length ∧ Hid (CrashR F p L picks w wr k L')) (fun s16 _ => L.pr.length - (intOf s16).toNat)
  case atStart => exact ⟨0, L, rfl, Nat.zero_le _, HStart⟩
  case round =>
    obtain ⟨k, L', rfl, hk, HR⟩ := hrel
    by_cases hlt : k < L.pr.length
    · have hi : (k : Int) < (L.pr.length : Int) := by omega
      have hk0 : (0 : Int) ≤ (k : Int) := by omega
      have hrow := HR.out.mem.row
      rw [HR.out.wv, HR.out.pr, HWv.out] at hrow
      obtain ⟨g, cap, hv2, -, hgw, -, -, hcell, -⟩ := lpr_cells hrow (by omega)
      obtain ⟨rfl, rfl⟩ : Aw = some ⟨g, 0, none⟩ ∧ cw = cap := by simpa using hv2
      obtain ⟨x0, x1, x2, x3⟩ := hcell k hlt
      have hqm := List.getElem_mem hlt
      have hpq := HR.out.mem.piece _ (by rw [HR.out.pr]; exact hqm)
      obtain ⟨Aq, cq, hbv⟩ := hpq.value
      rw [hbv] at x2
      have HPq := Lib.hid hpq
      have HBv := Lib.hid hbv
      have hpk : k < L.st.pend.length := by rw [HPend.out]; exact hlt
      have hpe : L.st.pend[k] = L.pr[k].toP := by simp [LMem.st]
      have HSkip : Hid (keptB picks k = false → crashA L.st picks (k + 1) = crashA L.st picks k) := Lib.hid (crashA_skip L.st picks k hpk)
      have HDo : Hid (keptB picks k = true → crashA L.st picks (k + 1) = (crashA L.st picks k).upN L.pr[k].name fun f => { f with safe := L.pr[k].toP.on f.safe, sure := f.sure || !L.pr[k].cut }) := Lib.hid (fun h => by
        have := crashA_do L.st picks k hpk h
        rw [hpe] at this
        exact this)
      have hclr : ∀ x ∈ L'.fr, ∀ j, L.pr[k].bv.ownBlock = some j → ¬ x.Own j := fun x hx j hj => HR.out.mem.clear _ (by rw [HR.out.pr]; exact hqm) j hj x hx
      have HClr := Lib.hid hclr
      have HNmq := HNm.out _ hqm
      have HThq := Lib.hid (HTh.out _ hqm)
      have HQq := Lib.hid (HQ.out L.pr[k].toP (by rw [← hpe]; exact List.getElem_mem hpk))
      have HPc := Lib.hid (HPk.out wr HR.out.only)
      clear hcell hv2 hrow hbv hpq hqm hpe hclr hpk
      generalize L.pr[k] = q at *
      by_cases h2 : picks.length = 0
      · have hkf : keptB picks k = false := by
          obtain rfl : picks = [] := List.length_eq_zero_iff.1 h2
          rfl
        have HE := Lib.hid (HSkip.out hkf)
        have h2b : ((picks.length : Int) == 0) = true := by rw [h2]; rfl
        clear h2 hkf HSkip HDo
        go_wp2
        go_roundw
        case rel =>
          have h1 := HR.out.alloc (.cells #[.string q.name, .int .i64 (q.at' : Int), .slice Aq q.b.length cq, .bool q.cut] 88)
          exact ⟨k + 1, L', by go_num, by omega, Lib.hid ⟨h1.mem, h1.st.trans HE.out.symm, h1.pr, h1.wv, h1.only⟩⟩
        case measure => first | omega | (simp [intOf]; omega)
      · have h2b : ((picks.length : Int) == 0) = false := by rw [beq_eq_false_iff_ne]; omega
        have hpos : 0 < picks.length := by omega
        obtain ⟨x, hx⟩ : ∃ x, x = picks[k % picks.length]'(Nat.mod_lt _ hpos) := ⟨_, rfl⟩
        have HKp : Hid (keptB picks k = decide (x % 2 = 1)) := Lib.hid (by rw [keptB_at _ _ hpos, hx])
        have hmod : Int.tmod (k : Int) (picks.length : Int) = ((k % picks.length : Nat) : Int) := rfl
        have hmod2 : (k : Int) % (picks.length : Int) = ((k % picks.length : Nat) : Int) := rfl
        have hrl := Nat.mod_lt k hpos
        obtain ⟨b2, off2, rfl, hbB, hcb⟩ := HPc.out.form hpos
        have hxc : wr.cell? ⟨b2, off2 + k % picks.length, none⟩ = some (.int .i64 x) := hcb _ _ (by
          unfold pv_
          rw [List.getElem?_map, List.getElem?_eq_getElem hrl, hx]
          rfl)
        obtain ⟨hx1, hx2⟩ := HPi.out x (by rw [hx]; exact List.getElem_mem _)
        clear hx hcb
        generalize k % picks.length = r at *
        have hml : (r : Int) < (picks.length : Int) := by omega
        have hr0 : (0 : Int) ≤ (r : Int) := by omega
        have h2c : (picks.length : Int) ≠ 0 := by omega
        have htm := tmod_two x
        by_cases h3 : x % 2 = 1
        · rw [decide_eq_true h3] at HKp htm
          have HE := Lib.hid (HDo.out HKp.out)
          simp only [Bool.not_true] at htm
          obtain ⟨f, hgf⟩ := crash_file HR.out q.name HThq.out
          have hfm := (getF_some hgf).1
          have hfn := (getF_some hgf).2
          have c1 := HR.out.mem.cells.2.1
          have hpr : p < wr.heap.size := HR.out.mem.blk.lt
          have hBelB : Below wr.heap.size wr (wr.alloc (.cells #[.string q.name, .int .i64 (q.at' : Int), .slice Aq q.b.length cq, .bool q.cut] 88)) := (Below.refl _ _).alloc (Nat.le_refl _) _
          have hlook : ∀ nq, (Instr.lookup 63 (.map L'.mv) (.string q.name) false).run Try.prog ((wr.alloc (.cells #[.string q.name, .int .i64 (q.at' : Int), .slice Aq q.b.length cq, .bool q.cut] 88)).drewN nq) = .ok (.pointer (some ⟨f.g, 0, none⟩)) ((wr.alloc (.cells #[.string q.name, .int .i64 (q.at' : Int), .slice Aq q.b.length cq, .bool q.cut] 88)).drewN nq) := fun nq => by
            have h1 := look_run1 (w := (wr.alloc (.cells #[.string q.name, .int .i64 (q.at' : Int), .slice Aq q.b.length cq, .bool q.cut] 88)).drewN nq) (HR.out.mem.below (below_drewN hBelB nq)).map q.name HNmq
            unfold ptrOf at h1
            rw [hgf] at h1
            exact h1
          clear h3 h2 HKp HSkip HDo hpos
          go_upto_region 5 with fail
          go_quiet (fail)
          obtain ⟨wq, hwq⟩ : ∃ wq, wq = (wr.alloc (.cells #[.string q.name, .int .i64 (q.at' : Int), .slice Aq q.b.length cq, .bool q.cut] 88)).drewN nq := ⟨_, rfl⟩
          rw [← hwq]
          have hBelQ : Below wr.heap.size wr wq := by rw [hwq]; exact below_drewN hBelB nq
          have hbox : Blk wq wr.heap.size 88 #[.string q.name, .int .i64 (q.at' : Int), .slice Aq q.b.length cq, .bool q.cut] := by rw [hwq]; exact Blk.drewN (Blk.new wr _ _) nq
          clear hlook hwq hBelB
          have y0 := hbox.cell 0
          have y1 := hbox.cell 1
          have y2 := hbox.cell 2
          have y3 := hbox.cell 3
          simp only [List.getElem?_toArray, List.getElem?_cons_succ, List.getElem?_cons_zero] at y0 y1 y2 y3
          have hdB := HR.out.mem.below hBelQ
          have hff := HR.out.mem.file f hfm
          have hffB := hdB.file f hfm
          obtain ⟨As, cs, hsv, -, -, -⟩ := hffB.safe.value
          have d1 := hffB.cells.2.1
          have d2f := hffB.cells.2.2
          have hfz := hffB.blk.frozen
          rw [hsv] at d1
          have hgl : f.g < wq.heap.size := hffB.blk.lt
          have hsq := hBelQ.size
          have hsq2 : wr.heap.size < wq.heap.size := hbox.lt
          have hbnd : f.safe.length ≤ 549755813888 := by
            have h1 : f.toF ∈ L'.st.files := by simpa [LMem.st] using ⟨f, hfm, rfl⟩
            rw [HR.out.st] at h1
            obtain ⟨z, hz, hze⟩ := List.mem_map.1 h1
            have h3 : f.safe = f.toF.safe := rfl
            rw [h3, ← hze]
            exact lcrashTo_le z picks L.st.pend k 549755813888 (HSafe.out z hz) HQ.out
          have HOn : Hid (Calls Try.prog 48 #[.agg #[.string q.name, .int .i64 (q.at' : Int), .slice Aq q.b.length cq, .bool q.cut], .slice As f.safe.length cs] wq.drew fun e w' => OnAt (.slice As f.safe.length cs) (q.toP.on f.safe) wq e w') := Lib.hid (by
            have hpb : PB wq.drew (Gr F w wr) q := HPq.out.same (w' := wq.drew) hsq fun j hj => hBelQ.block j (HPq.out.own hj).1.lt
            have hown : wq.drew.ownsRow 0 5 1 f.sv f.safe.length (bv f.safe) := hffB.safe.1
            have hqq : q.at' + q.b.length ≤ 549755813888 := HQq.out
            have h1 := on_gen (w := wq.drew) q f.sv f.safe hown hpb (fun j hj e => HClr.out f hfm j hj (.inr e)) (by omega) (by omega)
            rw [HBv.out, hsv] at h1
            exact h1.mono fun e w' ⟨v', h2, h3, h4, h5⟩ => ⟨v', h2, h3, grown_drew h4, h5⟩)
          have HFin : Hid (∀ (w4 : World) A4 c4 b, b = (f.sure || !q.cut) → w4.ownsRow 0 5 1 (.slice A4 (q.toP.on f.safe).length c4) (q.toP.on f.safe).length (bv (q.toP.on f.safe)) → wq.grownBy w4 (Value.slice As f.safe.length cs).ownBlock → (∀ j, (Value.slice A4 (q.toP.on f.safe).length c4).ownBlock = some j → (Value.slice As f.safe.length cs).ownBlock = some j ∨ wq.heap.size ≤ j) →
              ∃ L5, CrashR F p L picks w ((w4.setCell ⟨f.g, 1, none⟩ (.slice A4 (q.toP.on f.safe).length c4)).setCell ⟨f.g, 2, none⟩ (.bool b)) (k + 1) L5) := Lib.hid (fun w4 A4 c4 b hb ho4 hg4 hat4 => by
            rw [← hsv] at hg4 hat4
            obtain ⟨L5, h1, h2, h3, h4, h5⟩ := hdB.onBoth hfm (q.toP.on f.safe) (.slice A4 (q.toP.on f.safe).length c4) b ho4 hg4 hat4 (fun x => { x with safe := q.toP.on x.safe, sure := x.sure || !q.cut }) (by rw [hb]; rfl)
            have hsz : ((w4.setCell ⟨f.g, 1, none⟩ (.slice A4 (q.toP.on f.safe).length c4)).setCell ⟨f.g, 2, none⟩ (.bool b)).heap.size = w4.heap.size := by simp [World.setCell]
            have hs4 := hg4.size
            have hsr := HR.out.only.size
            have ho5 : Only (Gr F w wr) wr ((w4.setCell ⟨f.g, 1, none⟩ (.slice A4 (q.toP.on f.safe).length c4)).setCell ⟨f.g, 2, none⟩ (.bool b)) := (Only.of_below hBelQ : Only (Gr F w wr) wr wq).trans h2 fun j _ hj => hj
            refine ⟨L5, h1.mono fun j hj => ?_, ?_, h4.trans HR.out.pr, h5.trans HR.out.wv, HR.out.only.then_ ho5⟩
            · rcases hj with (hj | hj) | hj
              · exact .inl hj
              · exact .inr ⟨hj.1, by rw [hsz]; omega⟩
              · exact .inr ⟨by omega, hj.2⟩
            · rw [h3, HE.out, ← HR.out.st, hfn])
          have HFz : Hid (∀ (w4 : World), wq.grownBy w4 (Value.slice As f.safe.length cs).ownBlock → w4.cell? ⟨f.g, 1, none⟩ = some (.slice As f.safe.length cs) ∧ w4.cell? ⟨f.g, 2, none⟩ = some (.bool f.sure) ∧ (∀ i, w4.frozen? ⟨f.g, i, none⟩ = false) ∧ w4.cell? ⟨wr.heap.size, 3, none⟩ = some (.bool q.cut)) := Lib.hid (fun w4 hg4 => by
            have hne : some f.g ≠ (Value.slice As f.safe.length cs).ownBlock := fun e => (hff.own (.inr (by rw [hsv]; exact e.symm))).1.ne hff.kind (by decide) rfl
            have hb := hffB.blk.grown hg4 hne
            have hb2 := hbox.grown hg4 fun e => (hffB.own (.inr (by rw [hsv]; exact e.symm))).1.ne ⟨_, hbox⟩ (by decide) rfl
            exact ⟨by rw [hb.cell]; show some f.sv = _; rw [hsv], by rw [hb.cell]; rfl, hb.frozen, by rw [hb2.cell]; rfl⟩)
          have hgne : f.g ≠ wr.heap.size := fun e => by have := hff.blk.lt; omega
          have hgne2 : wr.heap.size ≠ f.g := fun e => hgne e.symm
          clear hgf hfm hfn hff hffB hsv hbox hdB hBelQ hbnd
          generalize f.safe = sf at *
          generalize f.g = fg at *
          generalize f.sure = sr at *
          generalize q.toP.on sf = sf' at *
          generalize q.cut = xc at *
          rcases sr with _ | _
          all_goals
            rcases xc with _ | _
            all_goals
              go_wp2_with fail
              go_region_with (first
                | (go_at_call 48; refine HOn.out.mono ?_; rintro e w4 ⟨v4, rfl, ho4, hg4, hat4⟩; obtain ⟨z1, z2, z3, z4⟩ := HFz.out w4 hg4; obtain ⟨A4, c4, rfl⟩ := own_slice ho4; have HE4 := Lib.hid (HFin.out w4 A4 c4 _ rfl ho4 hg4 hat4); clear ho4 hg4 hat4))
              all_goals
                go_wp2_with fail
                go_roundw
                case rel =>
                  obtain ⟨L5, h5⟩ := HE4.out
                  exact ⟨k + 1, L5, by go_num, by omega, Lib.hid h5⟩
                case measure => first | omega | (simp [intOf]; omega)
        · rw [decide_eq_false h3] at HKp htm
          have HE := Lib.hid (HSkip.out HKp.out)
          simp only [Bool.not_false] at htm
          clear h3 h2 HKp HSkip HDo hpos
          go_wp2
          go_roundw
          case rel =>
            have h1 := HR.out.alloc (.cells #[.string q.name, .int .i64 (q.at' : Int), .slice Aq q.b.length cq, .bool q.cut] 88)
            exact ⟨k + 1, L', by go_num, by omega, Lib.hid ⟨h1.mem, h1.st.trans HE.out.symm, h1.pr, h1.wv, h1.only⟩⟩
          case measure => first | omega | (simp [intOf]; omega)
    · obtain rfl : k = L.pr.length := by omega
      obtain ⟨wo, rfl⟩ : ∃ wo : World, wo = wr := ⟨_, rfl⟩
      have c1 := HR.out.mem.cells.2.1
      have hpr : p < wo.heap.size := HR.out.mem.blk.lt
      have HDel := Lib.hid (ldel_any (Gr F w wo) p L' wo HR.out.mem L'.mv rfl)
      obtain ⟨L2, hL2⟩ : ∃ L2 : LMem, L2 = { L' with fr := L'.fr.filter (·.sure) } := ⟨_, rfl⟩
      have hst2 : L2.st = { crashA L.st picks L.pr.length with files := (crashA L.st picks L.pr.length).files.filter (·.sure) } := by rw [hL2, filter_st, HR.out.st]
      have hmv2 : L2.mv = L'.mv := by rw [hL2]
      have HFin : Hid (∀ (w1 wx : World) L3, Only (Gr F w wo) wo w1 → CrashN (Gr F w wo) p L2 w1 wx (fun _ => false) L3 → (∃ L5, DiskM (((wx.setCell ⟨p, 2, none⟩ (.slice none 0 0)).setCell ⟨p, 6, none⟩ (.bool false)).setCell ⟨p, 4, none⟩ (.bool false)) (Gr F w (((wx.setCell ⟨p, 2, none⟩ (.slice none 0 0)).setCell ⟨p, 6, none⟩ (.bool false)).setCell ⟨p, 4, none⟩ (.bool false))) p L5 ∧ L5.st = L.st.crash picks) ∧
          Only F w (((wx.setCell ⟨p, 2, none⟩ (.slice none 0 0)).setCell ⟨p, 6, none⟩ (.bool false)).setCell ⟨p, 4, none⟩ (.bool false))) := Lib.hid (fun w1 wx L3 ho1 hC => by
        have h1 := hC.mem.rowTo (l' := []) (w1 := wx) (v := .slice none 0 0) (World.grownBy.refl _ _) (own_nil _ _ _ _) (.inr rfl) fun q hq => by cases hq
        have h2 := h1.1.field 6 (.bool false) { L3 with wv := .slice none 0 0, pr := [], down := false } rfl rfl rfl rfl (by simp [LMem.blkOf])
        have h3 := h2.field 4 (.bool false) { L3 with wv := .slice none 0 0, pr := [], down := false, armed := false } rfl rfl rfl rfl (by simp [LMem.blkOf])
        have hsz : (((wx.setCell ⟨p, 2, none⟩ (.slice none 0 0)).setCell ⟨p, 6, none⟩ (.bool false)).setCell ⟨p, 4, none⟩ (.bool false)).heap.size = wx.heap.size := by simp [World.setCell]
        have s1 := HR.out.only.size
        have s2 := ho1.size
        have s3 := hC.only.size
        have oA : Only F w w1 := HR.out.only.then_ ho1
        have oB : Only F w wx := oA.trans hC.only fun j hj hg => hg.elim id fun h => by omega
        have hFp : F p ∨ w.heap.size ≤ p := .inl HD.out.fp
        refine ⟨⟨_, h3.mono fun j hj => ?_, ?_⟩, ((oB.setCell (p := ⟨p, 2, none⟩) hFp _).setCell (p := ⟨p, 6, none⟩) hFp _).setCell (p := ⟨p, 4, none⟩) hFp _⟩
        · rcases hj with (hj | hj) | hj
          · exact .inl hj
          · exact .inr ⟨hj.1, by rw [hsz]; omega⟩
          · exact .inr ⟨by omega, by rw [hsz]; omega⟩
        · have h4 : ({ L3 with wv := .slice none 0 0, pr := [], down := false, armed := false } : LMem).st = { L3.st with pend := [], down := false, armed := false } := rfl
          have h5 := crash_end L.st picks
          rw [HPend.out] at h5
          rw [h4, hC.st, hst2]
          have h6 : (((crashA L.st picks L.pr.length).files.filter (·.sure)).map (metF fun _ => false)) = ((crashA L.st picks L.pr.length).files.filter (·.sure)).map fun f => { f with now := f.safe } := rfl
          simp only
          rw [h6, h5]
          rfl)
      have HDel2 : Hid (Calls Try.prog 49 #[.map L'.mv, .func (.func 50) #[] #[]] wo fun e w' => e = .returned (.tuple #[]) ∧ DiskM w' (Gr F w wo) p L2 ∧ Only (Gr F w wo) wo w') := Lib.hid (by rw [hL2]; exact HDel.out)
      have HMv2 := Lib.hid hmv2
      have HBnd : Hid (∀ x ∈ L2.st.files, x.safe.length ≤ 549755813888) := Lib.hid (fun x hx => by
        rw [hst2] at hx
        obtain ⟨z, hz, rfl⟩ := List.mem_map.1 (List.mem_filter.1 hx).1
        exact lcrashTo_le z picks L.st.pend _ 549755813888 (HSafe.out z hz) HQ.out)
      clear hL2 hst2 hmv2 HDel hlt hk
      rcases hmv : L'.mv with _ | b
      · rw [hmv] at c1 HDel2 HMv2
        have hrg := fun w1 : World => run_range_nilMap (P := Try.prog) w1 63 _ _ Try.underlying63
        have hnx : ∀ (w1 : World) ty, (Instr.next (.pointer (some ⟨w1.heap.size, 0, none⟩)) false ty).run Try.prog (w1.alloc (.mapIter none 0 #[] 0)) = _ := fun w1 ty => run_next_nilMap w1 ty 0 0 #[]
        have HEnd : Hid (∀ w1, DiskM w1 (Gr F w wo) p L2 → Only (Gr F w wo) wo w1 → ∃ L3, CrashN (Gr F w wo) p L2 w1 w1 (fun _ => false) L3) := Lib.hid (fun w1 hd1 ho1 => by
          have hfr : L2.fr = [] := by
            rcases hd1.map with ⟨_, e⟩ | ⟨b, e, _⟩
            · exact e
            · rw [HMv2.out] at e; cases e
          refine ⟨L2, hd1.mono fun j hj => .inl hj, ?_, rfl, rfl, Only.refl _ w1⟩
          have : L2.st.files = [] := by simp [LMem.st, hfr]
          rw [this]
          show L2.st = { L2.st with files := [] }
          rw [← this])
        have HCells : Hid (∀ w1, DiskM w1 (Gr F w wo) p L2 → w1.cell? ⟨p, 1, none⟩ = some (.map none) ∧ (∃ c2 c4 c6, w1.cell? ⟨p, 2, none⟩ = some c2 ∧ w1.cell? ⟨p, 4, none⟩ = some c4 ∧ w1.cell? ⟨p, 6, none⟩ = some c6) ∧ (∀ i, w1.frozen? ⟨p, i, none⟩ = false) ∧ p < w1.heap.size) := Lib.hid (fun w1 hd1 => by
          obtain ⟨-, e1, e2, -, e4, -, e6⟩ := hd1.cells
          rw [HMv2.out] at e1
          exact ⟨e1, ⟨_, _, _, e2, e4, e6⟩, hd1.blk.frozen, hd1.blk.lt⟩)
        clear hmv
        go_wp2_with (go_at_call 49; refine HDel2.out.mono ?_; rintro e w1 ⟨rfl, hd1, ho1⟩; obtain ⟨e1, ⟨c2, c4, c6, e2, e4, e6⟩, fz1, hp1⟩ := HCells.out w1 hd1; have HN1 := Lib.hid (HEnd.out w1 hd1 ho1); have HO1 := Lib.hid ho1; clear hd1 ho1)
        have hrg1 := hrg w1
        have hnx1 := hnx w1
        clear hrg hnx
        go_wp2
        refine wp_loop_rounds 1 ?_
        rw [rounds_succ]
        go_wp2
        go_end0
        obtain ⟨L3, hC⟩ := HN1.out
        obtain ⟨⟨L5, h5, h6⟩, h7⟩ := HFin.out w1 w1 L3 HO1.out hC
        exact ⟨rfl, ⟨L5, (h5.below ((Below.refl _ _).alloc (Nat.le_refl _) _)).mono fun j hj => hj.elim .inl fun h => .inr ⟨h.1, Nat.lt_of_lt_of_le h.2 (by simp)⟩, h6⟩, h7.alloc _⟩
      · rw [hmv] at c1 HDel2 HMv2
        have HOw : Hid (∀ w1, DiskM w1 (Gr F w wo) p L2 → w1.ownsMap Try.prog 9 ptrR b L2.fr.length (dmap L2.fr)) := Lib.hid (fun w1 hd1 => by
          rcases hd1.map with ⟨e, _⟩ | ⟨b', e, _, hm⟩
          · rw [HMv2.out] at e; cases e
          · rw [HMv2.out] at e
            injection e with e
            subst e
            exact hm)
        have HCells : Hid (∀ w1, DiskM w1 (Gr F w wo) p L2 → w1.cell? ⟨p, 1, none⟩ = some (.map (some b))) := Lib.hid (fun w1 hd1 => by
          have e1 := hd1.cells.2.1
          rw [HMv2.out] at e1
          exact e1)
        clear hmv
        go_wp2_with (first
          | (at_range; refine wpList_range_own _ rfl _ 63 rfl 9 78 strKey Try.underlying63 ptrR b _ _ rfl (HOw.out w1 HD1.out) ?_; intro w0 hrg0 hg0 hs0)
          | (go_at_call 49; refine HDel2.out.mono ?_; rintro e w1 ⟨rfl, hd1, ho1⟩; have e1 := HCells.out w1 hd1; have HD1 := Lib.hid hd1; have HO1 := Lib.hid ho1; clear hd1 ho1)
          | go_in)
        go_frame
        have HStart2 : Hid (CrashN (Gr F w wo) p L2 w1 w0 (has (dmap L2.fr)) L2) := Lib.hid (by
          have hb0 : Below w1.heap.size w1 w0 := ⟨hg0.os, hg0.tape, hg0.output, hg0.size, fun k hk => hg0.block k hk (by simp)⟩
          refine ⟨(HD1.out.below hb0).mono fun j hj => .inl hj, ?_, rfl, rfl, Only.of_below hb0⟩
          have e : L2.st.files.map (metF (has (dmap L2.fr))) = L2.st.files := by
            rw [List.map_congr_left (g := id) fun x hx => by
              obtain ⟨f, hf, rfl⟩ := List.mem_map.1 hx
              exact if_pos (left_start L2.fr f hf)]
            simp
          rw [e])
        have HSz0 : Hid (w1.heap.size < w0.heap.size) := Lib.hid (by omega)
        go_loopw [8] (fun _ wx => ∃ (left : Lit → Bool) (cnt : Nat) (L3 : LMem), wx.ranges Try.prog 9 ptrR b w1.heap.size L2.fr.length (dmap L2.fr) left cnt ∧ Hid (CrashN (Gr F w wo) p L2 w1 wx left L3))
          (fun _ wx => wx.rangeLeft b w1.heap.size)
        case atStart => exact ⟨_, _, L2, hrg0, HStart2⟩
        case round =>
          obtain ⟨left, cnt, L3, hrg, HC⟩ := hrel
          go_wp2_with (first
            | (at_next; refine wpList_next_ranges _ rfl _ rfl 9 strKey ptrR id Value.pointer (fun key _ _ => ⟨key, rfl⟩) (fun v y hv => by rcases ptrR_inv hv with ⟨e, _⟩ | ⟨g, e, _⟩ <;> exact ⟨_, e⟩) b w1.heap.size _ _ _ _ rfl hrg ?_ ?_)
            | go_in)
          · intro _ hl0
            have hle : left = fun _ => false := funext hl0
            have HE : Hid (CrashN (Gr F w wo) p L2 w1 wr (fun _ => false) L3) := Lib.hid (by rw [← hle]; exact HC.out)
            obtain ⟨-, -, q2, -, q4, -, q6⟩ := HC.out.mem.cells
            have fzq := HC.out.mem.blk.frozen
            have hpq := HC.out.mem.blk.lt
            clear hl0 hle
            generalize L3.wv = wv3 at *
            go_wp2
            go_end0
            exact ⟨rfl, HFin.out w1 wr L3 HO1.out HE.out⟩
          · intro x c kl y yp w3 cnt1 hkey hlx hv hat hrg1 hlt hg1 hs1 hen
            obtain ⟨f, hf, hfk, hy⟩ := dmap_meets hat
            obtain rfl : c = some ⟨f.g, 0, none⟩ := by
              have : ptrR (.pointer c) = some (.lit (.int .i64 (f.g : Int)), yp) := by rw [hv, ← hy]
              have := ptrR_at this
              injection this
            obtain ⟨f', hf', hfn, hfg⟩ := kv_mem HC.out.kv hf
            have hbne := hrg.ne
            have hrk := ranges_kind hrg
            have ho13 : Only (fun k => k = w1.heap.size) wr w3 := (Only.refl _ wr).grown hg1 fun k hk => by injection hk with hk; exact .inl hk.symm
            have hd3 : DiskM w3 (Gr (Gr F w wo) w1 wr) p L3 := HC.out.mem.offIter hrk (fun b' hb' => by
              rw [HC.out.mv, HMv2.out] at hb'
              injection hb' with hb'
              subst hb'
              exact fun e => hbne e.symm) ho13
            have hff := hd3.file f' hf'
            obtain ⟨As, cs, hsv, -, -, hrds⟩ := hff.safe.value
            obtain ⟨An, cn, hnv, -, -, -⟩ := hff.now.value
            have d0 := hff.cells.1
            have d1 := hff.cells.2.1
            have hgl := hff.blk.lt
            rw [hnv] at d0
            rw [hsv] at d1
            rw [hfg] at d0 d1 hgl
            have hbnd : f'.safe.length ≤ 549755813888 := by
              have h1 : f'.toF ∈ L3.st.files := by simpa [LMem.st] using ⟨f', hf', rfl⟩
              rw [HC.out.st] at h1
              obtain ⟨z, hz, hze⟩ := List.mem_map.1 h1
              have h2 := HBnd.out z hz
              have h3 : f'.safe = f'.toF.safe := rfl
              rw [h3, ← hze]
              unfold metF
              split <;> exact h2
            have HCl := Lib.hid (clone_any f'.safe As cs w3 (by omega) hrds)
            have HFin2 : Hid (∀ (w4 : World) A4 c4, w4.ownsRow w3.heap.size 5 1 (.slice A4 f'.safe.length c4) f'.safe.length (bv f'.safe) → Below w3.heap.size w3 w4 →
                ∃ L5, (w4.setCell ⟨f.g, 0, none⟩ (.slice A4 f'.safe.length c4)).ranges Try.prog 9 ptrR b w1.heap.size L2.fr.length (dmap L2.fr) (fun z => left z && !z.sameKey kl) cnt1 ∧ CrashN (Gr F w wo) p L2 w1 (w4.setCell ⟨f.g, 0, none⟩ (.slice A4 f'.safe.length c4)) (fun z => left z && !z.sameKey kl) L5) := Lib.hid (fun w4 A4 c4 ho4 hb4 => by
              have h1 := hd3.onNow hf' f'.safe (.slice A4 f'.safe.length c4) (own_base ho4 (Nat.zero_le _)) (only_of_below hb4 _) (fun j hj => .inr (ho4.lt j hj).1) (fun x => { x with now := x.safe }) rfl
              have hsz : (w4.setCell ⟨f'.g, 0, none⟩ (.slice A4 f'.safe.length c4)).heap.size = w4.heap.size := by simp [World.setCell]
              have hs4 := hb4.size
              have hsr := HC.out.only.size
              rw [← hfg]
              have hbg : some b ≠ some f'.g := fun e => by
                injection e with e
                exact hd3.map.ne (b := b) (by rw [HC.out.mv, HMv2.out]) hff.kind e
              have hrg' : some w1.heap.size ≠ some f'.g := fun e => by
                injection e with e
                exact ranges_kind hrg1 _ (e ▸ hff.kind)
              have hgr : w3.grownBy (w4.setCell ⟨f'.g, 0, none⟩ (.slice A4 f'.safe.length c4)) (some f'.g) := only_setCell (only_of_below hb4 (some f'.g)) (p := ⟨f'.g, 0, none⟩) (.inl rfl) _
              refine ⟨_, hrg1.kept hgr hbg hrg', h1.1.mono fun j hj => ?_, ?_, ?_, HC.out.mv, ?_⟩
              · rcases hj with (hj | hj) | hj
                · exact .inl hj
                · exact .inr ⟨hj.1, by rw [hsz]; omega⟩
                · exact .inr ⟨by omega, hj.2⟩
              · rw [h1.2.2, HC.out.st]
                unfold RD.upN
                simp only [List.map_map]
                congr 1
                refine List.map_congr_left fun x hx => ?_
                show (if (metF left x).name = f'.name then { (metF left x) with now := (metF left x).safe } else metF left x) = metF (fun z => left z && !z.sameKey kl) x
                rw [hfn]
                exact metF_step left kl x f.name (by
                  rw [← hfk]
                  exact key_same (⟨x.name, 0, .slice none 0 0, [], .slice none 0 0, [], false⟩ : GF) f.name)
              · have h2 := upd_dmap (f' := { f' with nv := .slice A4 f'.safe.length c4, now := f'.safe }) hd3.srt hf' rfl rfl
                exact (DataW.map.inj h2).trans HC.out.kv
              · exact HC.out.only.trans (((ho13.mono (G := Gr (Gr F w wo) w1 wr) fun j hj e => .inr ⟨by omega, hj⟩)).trans h1.2.1 fun j _ hj => hj) fun j hj hg => by
                  rcases hg with hg | hg
                  · exact hg
                  · omega)
            have HZ : Hid (∀ w4, Below w3.heap.size w3 w4 → w4.cell? ⟨f.g, 0, none⟩ = some (.slice An f'.now.length cn) ∧ (∀ i, w4.frozen? ⟨f.g, i, none⟩ = false) ∧ f.g < w4.heap.size) := Lib.hid (fun w4 hb4 => by
              have hb := hff.blk.below hb4 hff.blk.lt
              rw [← hfg]
              exact ⟨by rw [hb.cell]; show some f'.nv = _; rw [hnv], hb.frozen, hb.lt⟩)
            have HL := Lib.hid hlt
            clear hlt hat hy hv hlx hfk hkey hf hf' hfn hfg hbne hrk ho13 hd3 hff hrds hsv hnv hbnd
            generalize f'.safe = sf at *
            generalize f'.now = nf at *
            generalize f.g = fg at *
            go_wp2_with (go_at_call 42; refine HCl.out.mono ?_; rintro e w4 ⟨v4, rfl, ho4, hb4⟩; obtain ⟨z1, z2, z3⟩ := HZ.out w4 hb4; obtain ⟨A4, c4, rfl⟩ := own_slice ho4; have HE4 := Lib.hid (HFin2.out w4 A4 c4 ho4 hb4); clear ho4 hb4)
            obtain ⟨L5, r5, n5⟩ := HE4.out
            go_roundw
            case rel => exact ⟨_, cnt1, L5, r5, Lib.hid n5⟩
            case measure => rw [r5.left_eq, hrg.left_eq]; exact HL.out
end Go.Proofs.Ytoihkanneiknkaa
