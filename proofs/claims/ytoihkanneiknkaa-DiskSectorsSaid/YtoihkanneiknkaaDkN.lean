/- Contract of octavoref04.Sync. Contract of octavoref04.Load. Contract of octavoref04.Write, all ways. Contract of octavoref04.Crash. The reference's disk as one object: its contracts over the abstract disk within bounds. Conditions: those that each theorem names. -/
import Derived.Test.YtoihkanneiknkaaDkX
import Derived.Test.YtoihkanneiknkaaDkModel
namespace Go.Proofs.Ytoihkanneiknkaa
open Go.RowKit

/-- New bytes are laid as a file's safe ones. -/
theorem RefM.newSafe {w w4 : World} {F : Nat → Prop} {p g : Nat} {R : RMem} (h : RefM w F p R) (hv : R.fv.ownBlock = some g) (k : Nat) (hk : k < R.fr.length) (hb4 : Below w.heap.size w w4) (A9 : Option Addr) (l : List UInt8) (c9 : Nat) (ho4 : w4.ownsRow w.heap.size 5 1 (.slice A9 l.length c9) l.length (bv l)) :
    RefM ((w4.setCell ⟨g, k * 4 + 2, none⟩ (.slice A9 l.length c9)).setCell ⟨g, k * 4 + 3, none⟩ (.bool true)) (Gr F w ((w4.setCell ⟨g, k * 4 + 2, none⟩ (.slice A9 l.length c9)).setCell ⟨g, k * 4 + 3, none⟩ (.bool true))) p { R with fr := R.fr.set k { R.fr[k] with sv := .slice A9 l.length c9, safe := l, sure := true } } ∧
      Only F w ((w4.setCell ⟨g, k * 4 + 2, none⟩ (.slice A9 l.length c9)).setCell ⟨g, k * 4 + 3, none⟩ (.bool true)) := by
  have h4 := h.here (Only.of_below hb4)
  have hb := bown_of_own (F := Gr F w w4) ho4 fun k h1 h2 => .inr ⟨h1, h2⟩
  have hsub : ∀ k, F k → Gr F w w4 k := fun k hk => .inl hk
  have hset := h4.setFile hsub (g := g) hv k hk 2 (by omega) (.slice A9 l.length c9) { R.fr[k] with sv := .slice A9 l.length c9, safe := l } rfl ⟨((h4.fb _ (List.getElem_mem hk)).1.mono hsub), hb⟩
  have hk2 : k < (R.fr.set k { R.fr[k] with sv := .slice A9 l.length c9, safe := l }).length := by simpa using hk
  have hset2 := hset.setFile (fun _ h => h) (g := g) hv k hk2 3 (by omega) (.bool true) { R.fr[k] with sv := .slice A9 l.length c9, safe := l, sure := true } (by simp [encF]) (hset.fb { R.fr[k] with sv := .slice A9 l.length c9, safe := l } (by
    have := List.getElem_mem hk2
    rwa [List.getElem_set_self] at this))
  refine ⟨?_, ((Only.of_below hb4 : Only F w w4).setCell (p := ⟨g, k * 4 + 2, none⟩) (.inl (h.fs.fp g hv)) _).setCell (p := ⟨g, k * 4 + 3, none⟩) (.inl (h.fs.fp g hv)) _⟩
  have e : ({ ({ R with fr := R.fr.set k { R.fr[k] with sv := .slice A9 l.length c9, safe := l } } : RMem) with fr := (R.fr.set k { R.fr[k] with sv := .slice A9 l.length c9, safe := l }).set k { R.fr[k] with sv := .slice A9 l.length c9, safe := l, sure := true } } : RMem) = { R with fr := R.fr.set k { R.fr[k] with sv := .slice A9 l.length c9, safe := l, sure := true } } := by
    simp only [List.set_set]
  rw [e] at hset2
  exact hset2.mono fun k hk => hk.elim .inl fun hk => .inr (by simpa [World.setCell] using hk)

set_option maxRecDepth 100000 in
set_option maxHeartbeats 4000000 in
theorem sync_any (nm : ByteArray) (F : Nat → Prop) (p : Nat) (R : RMem) (w : World) (h : RefM w F p R) (hf : R.Fine) (hn : nm.size ≤ 9223372036854775807) (hpl : R.pr.length ≤ 1000000) :
    Calls Try.prog 32 #[.pointer (some ⟨p, 0, none⟩), .string nm] w fun e w' => OpAt F p (R.st.sync nm).1 (R.st.sync nm).2 w e w' := by
  obtain ⟨i0, hi0, hz0, hz1, hz2⟩ := info_parts prinfo
  have HNm := Lib.hid (named_any nm w hn)
  obtain ⟨c0, c1, c2, c3, c4, c5, c6⟩ := h.cells
  have HR := Lib.hid h
  have HFind := Lib.hid (find_any nm F p R w h)
  have hhad := Nat.le_trans (had_le R nm) hf.sum
  have HSame : Hid (RefAt w (Gr F w w) p R.st ∧ Only F w w) := Lib.hid ⟨⟨R, h.mono fun k hk => .inl hk, rfl⟩, Only.refl _ _⟩
  clear h c0 c1 c2 c3 c6
  rcases hnm : named nm with _ | _
  · have HW : Hid (R.st.sync nm = (R.st, 1)) := Lib.hid (by unfold RD.sync; rw [if_pos hnm])
    rw [hnm] at HNm
    rw [HW.out]
    go_enter Try.func32, Try.ntmps32
    go_wp2_with (go_at_call 55; refine HNm.out.mono ?_; rintro e w' ⟨rfl, rfl⟩)
    go_ret
    exact ⟨rfl, HSame.out⟩
  · rw [hnm] at HNm
    rcases hdn : R.down with _ | _
    · rw [hdn] at c4
      rcases hfd : R.st.find nm with _ | k
      · have HW : Hid (R.st.sync nm = (R.st, 6)) := Lib.hid (by unfold RD.sync; rw [if_neg (by rw [hnm]; simp), if_neg (by show ¬ R.down = true; rw [hdn]; simp), hfd])
        rw [show posI nm R.st.names = -1 from posI_none hfd] at HFind
        clear hfd hdn hnm
        rw [HW.out]
        go_enter Try.func32, Try.ntmps32
        go_wp2_with (first | (go_at_call 55; refine HNm.out.mono ?_; rintro e w' ⟨rfl, rfl⟩) | (go_at_call 56; refine HFind.out.mono ?_; rintro e w' ⟨rfl, rfl⟩))
        go_ret
        exact ⟨rfl, HSame.out⟩
      · have hh := had_some hfd
        have hk := find_lt hfd
        have HW : Hid (R.st.sync nm = if R.st.stops = true then (R.st.off, 8) else ((R.st.ticked.setF k fun f => { f with safe := f.now, sure := true }).settled nm, 0)) := Lib.hid (by
          unfold RD.sync
          rw [if_neg (by rw [hnm]; simp), if_neg (by show ¬ R.down = true; rw [hdn]; simp), hfd])
        rw [show posI nm R.st.names = (k : Int) from posI_some hfd] at HFind
        rw [hh] at hhad
        obtain ⟨g, cap, hv2, -, hgw, -, -, hcell, hfz⟩ := fr_cells HR.out.fs (by omega)
        rw [hv2] at c5
        have HV := Lib.hid hv2
        obtain ⟨-, x1, -, -⟩ := hcell k hk
        obtain ⟨A1, cc1, hn1, hlc1, hcm1, hrd1⟩ := (HR.out.fb _ (List.getElem_mem hk)).1.value
        rw [hn1] at x1
        have HRd := Lib.hid hrd1
        have hki : (k : Int) < (R.fr.length : Int) := by omega
        have hk0 : (0 : Int) ≤ (k : Int) := by omega
        have HChg := Lib.hid (change_any F p R w HR.out hf.chg hf.left)
        have HTick := Lib.hid (tick_st R)
        clear hh hcell hn1 hv2 hdn hnm hrd1
        generalize hnow : R.fr[k].now = now at *
        have HNow := Lib.hid hnow
        clear hnow
        unfold maxLen at hcm1
        rcases hst : R.st.stops with _ | _
        · rw [hst] at HW HTick HChg
          simp only [Bool.false_eq_true, if_false] at HW HTick HChg
          rw [HW.out]
          clear hst
          go_enter Try.func32, Try.ntmps32
          go_upto_region 11 with (first | (go_at_call 55; refine HNm.out.mono ?_; rintro e w' ⟨rfl, rfl⟩) | (go_at_call 56; refine HFind.out.mono ?_; rintro e w' ⟨rfl, rfl⟩) | (go_at_call 58; refine HChg.out.mono ?_; rintro e w2 ⟨rfl, hr2, ho2⟩))
          have HR2 := Lib.hid hr2
          have HO2 := Lib.hid ho2
          have e1 := (tick_find R nm).2.2.1
          have e2 := tick_more R
          have d5 := hr2.cells.2.2.2.2.2.1
          rw [e2.1, HV.out] at d5
          have hp2 : p < w2.heap.size := hr2.blk.lt
          have hk2 : k < R.tick.fr.length := by rw [e1]; exact hk
          have hfrk : R.tick.fr[k] = R.fr[k] := by simp only [e1]
          obtain ⟨g', cap', hv', -, hg2, -, -, hcell2, hfz2⟩ := fr_cells hr2.fs (by omega)
          have hgg : g' = g := by
            rw [e2.1, HV.out] at hv'
            have := hv'.symm
            simp at this
            exact this.1
          subst hgg
          obtain ⟨-, z1, -, -⟩ := hcell2 k hk2
          obtain ⟨A2, cc2, hn2, hlc2, hcm2, hrd2⟩ := (hr2.fb _ (List.getElem_mem hk2)).1.value
          rw [hfrk, HNow.out] at hrd2 hlc2
          rw [hn2, hfrk, HNow.out] at z1
          have hz2 := hfz2 (k * 4 + 2)
          have hz3 := hfz2 (k * 4 + 3)
          obtain ⟨-, -, y2, y3⟩ := hcell2 k hk2
          have HCp : Hid (Calls Try.prog 54 #[.slice A2 now.length cc2] w2.drew fun e w' => ∃ v, e = .returned v ∧ w'.ownsRow w2.heap.size 5 1 v now.length (bv now) ∧ Below w2.heap.size w2 w') := Lib.hid (by
            have h1 := copy_any now A2 w2.heap.size cc2 w2.drew (by omega) hrd2
            exact h1.mono fun e w' ⟨v, h2, h3, h4⟩ => ⟨v, h2, h3, below_of_drew h4⟩)
          have HFin : Hid (∀ w4 A9 c9, Below w2.heap.size w2 w4 → w4.ownsRow w2.heap.size 5 1 (.slice A9 now.length c9) now.length (bv now) → CutC F p (R.st.ticked.setF k fun f => { f with safe := f.now, sure := true }) R.pr w ((w4.setCell ⟨g', k * 4 + 2, none⟩ (.slice A9 now.length c9)).setCell ⟨g', k * 4 + 3, none⟩ (.bool true))) := Lib.hid (fun w4 A9 c9 hb4 ho4 => by
            have hnn := HR2.out.newSafe (g := g') (by rw [e2.1, HV.out]; rfl) k hk2 hb4 A9 now c9 ho4
            refine ⟨_, hnn.1.mono fun q hq => hq.elim .inl fun hq => .inr (by have := HO2.out.size; omega), ?_, (tick_find R nm).2.2.2, HO2.out.trans hnn.2 fun _ _ h => h⟩
            rw [setF_st R.tick k hk2 _ (fun f => { f with safe := f.now, sure := true }) (by simp [FR.toF, hfrk, HNow.out]), HTick.out])
          clear hr2 ho2 hcell2 hfz2 hn2 hrd2 e1 e2 hfrk hv'
          clear hfd
          go_cut [46] (fun s46 wx => CutC F p (R.st.ticked.setF k fun f => { f with safe := f.now, sure := true }) R.pr w wx)
          case first =>
            go_region_with (first
              | (go_at_call 54; refine HCp.out.mono ?_; rintro e w4 ⟨v4, rfl, ho4, hb4⟩; have d5' := (hb4.cell (p := ⟨p, 5, none⟩) hp2).trans d5; have z1' := (hb4.cell (p := ⟨g', k * 4 + 1, none⟩) hg2).trans z1; have y2' := (hb4.cell (p := ⟨g', k * 4 + 2, none⟩) hg2).trans y2; have y3' := (hb4.cell (p := ⟨g', k * 4 + 3, none⟩) hg2).trans y3; have hz2' := (hb4.frozen (p := ⟨g', k * 4 + 2, none⟩) hg2).trans hz2; have hz3' := (hb4.frozen (p := ⟨g', k * 4 + 3, none⟩) hg2).trans hz3; obtain ⟨A9, c9, rfl, hc9, hm9, hr9, hA9⟩ := own_form ho4; have HO4 := Lib.hid ho4; have HBK := Lib.hid hb4; clear ho4 hb4))
            all_goals
              go_wp2_with fail
              go_meet
              exact HFin.out _ _ _ HBK.out HO4.out
          case rest =>
            obtain ⟨R5, hr5, hst5, hpr5, ho5⟩ := hcut
            have HSet := Lib.hid (settled_any nm _ p R5 wc hr5 (by rw [hpr5]; exact hpl))
            have HO5 := Lib.hid ho5
            have HSt5 := Lib.hid hst5
            clear hr5 hst5 hpr5 ho5 HFin HCp z1 hz2 hz3 y2 y3 d5 x1
            go_wp2_with (go_at_call 61; refine HSet.out.mono ?_; rintro e w6 ⟨rfl, v6, hr6, ho6⟩)
            go_ret
            refine ⟨rfl, ⟨_, hr6.mono (gr_mono HO5.out.size ho6.size), ?_⟩, HO5.out.then_ ho6⟩
            have := HSt5.out
            simp only [RMem.st] at this ⊢
            rw [others_st]
            rw [← this]
            rfl
        · rw [hst] at HW HTick HChg
          simp only [if_true] at HW HTick HChg
          rw [HW.out]
          clear hfd hst
          go_enter Try.func32, Try.ntmps32
          go_wp2_with (first | (go_at_call 55; refine HNm.out.mono ?_; rintro e w' ⟨rfl, rfl⟩) | (go_at_call 56; refine HFind.out.mono ?_; rintro e w' ⟨rfl, rfl⟩) | (go_at_call 58; refine HChg.out.mono ?_; rintro e w2 ⟨rfl, hr2, ho2⟩))
          go_ret
          exact ⟨rfl, ⟨R.tick, hr2.mono fun k hk => .inl hk, HTick.out⟩, ho2⟩
    · have HW : Hid (R.st.sync nm = (R.st, 8)) := Lib.hid (by unfold RD.sync; rw [if_neg (by rw [hnm]; simp), if_pos (show R.st.down = true from hdn)])
      rw [hdn] at c4
      clear hnm hdn
      rw [HW.out]
      go_enter Try.func32, Try.ntmps32
      go_wp2_with (go_at_call 55; refine HNm.out.mono ?_; rintro e w' ⟨rfl, rfl⟩)
      go_ret
      exact ⟨rfl, HSame.out⟩
end Go.Proofs.Ytoihkanneiknkaa

namespace Go.Proofs.Ytoihkanneiknkaa
open Go.RowKit

/-- A file is laid anew. -/
theorem RefM.newFile {w5 : World} {F G : Nat → Prop} {p g : Nat} {R : RMem} (h : RefM w5 F p R) (hFG : ∀ k, F k → G k) (hv : R.fv.ownBlock = some g) (k : Nat) (hk : k < R.fr.length) (f : FR) (hb : BOwn w5 G f.nv f.now ∧ BOwn w5 G f.sv f.safe) :
    RefM ((((w5.setCell ⟨g, k * 4, none⟩ (.string f.name)).setCell ⟨g, k * 4 + 1, none⟩ f.nv).setCell ⟨g, k * 4 + 2, none⟩ f.sv).setCell ⟨g, k * 4 + 3, none⟩ (.bool f.sure)) G p { R with fr := R.fr.set k f } := by
  have hm : ∀ {fr' : List FR} {x : FR} {w' : World} {fl : List FR}, fr' = fl.set k x → k < fl.length → (∀ f ∈ fr', BOwn w' G f.nv f.now ∧ BOwn w' G f.sv f.safe) → BOwn w' G x.nv x.now ∧ BOwn w' G x.sv x.safe := fun {fr' x w' fl} e hl hb => hb x (by rw [e]; exact List.mem_iff_getElem.2 ⟨k, by simpa using hl, List.getElem_set_self _⟩)
  have hbo : ∀ (o : Nat) (u : Value) {w' : World} {R' : RMem} {v : Value} {l : List UInt8}, RefM w' G p R' → R'.fv = R.fv → BOwn w' G v l → BOwn (w'.setCell ⟨g, o, none⟩ u) G v l := fun o u {w' R' v l} h' e hb => by
    have hblk : ∃ cur, Blk w' g 75 cur := by
      rcases h'.fs.own.2 with ⟨e', _⟩ | ⟨g', cap, cur, e', _, hh, _⟩
      · rw [e, ] at e'; rw [e'] at hv; simp [Value.ownBlock] at hv
      · rw [e] at e'
        rw [e'] at hv
        have : g' = g := by simpa [Value.ownBlock] using hv
        subst this
        exact ⟨cur, hh⟩
    obtain ⟨cur, hblk⟩ := hblk
    exact hb.off (((Only.refl (fun q => q = g) w').setCell (p := ⟨g, o, none⟩) (.inl rfl) u)) fun q hq e => hb.ne hblk (by decide) q hq e
  have h0 := h.mono hFG
  have h1 := h0.setFile (fun _ h => h) hv k hk 0 (by omega) (.string f.name) { R.fr[k] with name := f.name } rfl (h0.fb R.fr[k] (List.getElem_mem hk))
  have k1 : k < ({ R with fr := R.fr.set k { R.fr[k] with name := f.name } } : RMem).fr.length := by simpa using hk
  have b1 := hbo (k * 4 + 0) (.string f.name) h0 rfl hb.1
  have c1 := hbo (k * 4 + 0) (.string f.name) h0 rfl hb.2
  have h2 := h1.setFile (fun _ h => h) hv k k1 1 (by omega) f.nv { R.fr[k] with name := f.name, nv := f.nv, now := f.now } (by simp [encF]) ⟨b1, (hm rfl hk h1.fb).2⟩
  have c2 := hbo (k * 4 + 1) f.nv h1 rfl c1
  have b2 := hbo (k * 4 + 1) f.nv h1 rfl b1
  have h3 := h2.setFile (fun _ h => h) hv k (by simpa using hk) 2 (by omega) f.sv { R.fr[k] with name := f.name, nv := f.nv, now := f.now, sv := f.sv, safe := f.safe } (by simp [encF]) ⟨b2, c2⟩
  have c3 := hbo (k * 4 + 2) f.sv h2 rfl c2
  have b3 := hbo (k * 4 + 2) f.sv h2 rfl b2
  have h4 := h3.setFile (fun _ h => h) hv k (by simpa using hk) 3 (by omega) (.bool f.sure) f (by simp [encF]) ⟨b3, c3⟩
  simp only [List.set_set] at h4
  exact h4

set_option maxRecDepth 100000 in
set_option maxHeartbeats 4000000 in
theorem load_any (nm : ByteArray) (b : List UInt8) (A : Option Addr) (c : Nat) (F : Nat → Prop) (p : Nat) (R : RMem) (w : World) (h : RefM w F p R) (hf : R.Fine) (hn : nm.size ≤ 9223372036854775807) (hb : b.length ≤ 1073741824)
    (hfl : R.fr.length ≤ 16) (hpl : R.pr.length ≤ 1000000) (hr : Reads w w.heap.size 1 A b.length (bv b)) (hs : ∀ ad, A = some ad → ¬ F ad.block) :
    Calls Try.prog 34 #[.pointer (some ⟨p, 0, none⟩), .string nm, .slice A b.length c] w fun e w' => OpAt F p (R.st.load nm b).1 (R.st.load nm b).2 w e w' := by
  have HNm := Lib.hid (named_any nm w hn)
  have HR := Lib.hid h
  have HRb := Lib.hid hr
  have HFits := Lib.hid (fits_any nm b.length F p R w h hf (by omega))
  have HSame : Hid (∀ w', Only (fun _ => False) w w' → RefAt w' (Gr F w w') p R.st ∧ Only F w w') := Lib.hid (fun w' ho => ⟨⟨R, (h.here ho).mono fun k hk => .inl hk, rfl⟩, ho.mono fun _ _ h => h.elim⟩)
  have HRefl := Lib.hid (Only.refl (fun _ => False) w)
  clear h hr
  rcases hnm : named nm with _ | _
  · have HW : Hid (R.st.load nm b = (R.st, 1)) := Lib.hid (by unfold RD.load; rw [if_pos hnm])
    rw [hnm] at HNm
    rw [HW.out]
    go_enter Try.func34, Try.ntmps34
    go_wp2_with (go_at_call 55; refine HNm.out.mono ?_; rintro e w' ⟨rfl, rfl⟩)
    go_ret
    exact ⟨rfl, HSame.out _ HRefl.out⟩
  · rw [hnm] at HNm
    have HW : Hid (R.st.load nm b = if R.st.fits nm b.length ≠ 0 then (R.st, R.st.fits nm b.length) else (((R.st.settled nm).made nm).setF (R.st.at_ nm) fun _ => ⟨nm, b, b, true⟩, 0)) := Lib.hid (by
      unfold RD.load
      rw [if_neg (by rw [hnm]; simp)])
    clear hnm
    generalize R.st.fits nm b.length = fe at *
    by_cases q4 : fe ≠ 0
    · rw [if_pos q4] at HW
      have q4b : ((fe : Int) != 0) = true := by rw [bne_iff_ne]; omega
      clear q4
      rw [HW.out]
      go_enter Try.func34, Try.ntmps34
      go_wp2_with (first | (go_at_call 55; refine HNm.out.mono ?_; rintro e w' ⟨rfl, rfl⟩) | (go_at_call 57; refine HFits.out.mono ?_; rintro e w1 ⟨rfl, ho1⟩))
      go_ret
      exact ⟨rfl, HSame.out _ ho1⟩
    · rw [if_neg q4] at HW
      obtain rfl : fe = 0 := by omega
      clear q4
      rw [HW.out]
      have HSet : Hid (∀ W, Only (fun _ => False) w W → Calls Try.prog 61 #[.pointer (some ⟨p, 0, none⟩), .string nm] W fun e w' => e = .returned (.tuple #[]) ∧ ∃ v, RefM w' (Gr F W w') p { R with pv := v, pr := others nm R.pr } ∧ Only F W w') :=
        Lib.hid (fun W hW => settled_any nm F p R W (HR.out.here hW) hpl)
      go_enter Try.func34, Try.ntmps34
      go_upto_region 8 with (first | (go_at_call 55; refine HNm.out.mono ?_; rintro e w' ⟨rfl, rfl⟩) | (go_at_call 57; refine HFits.out.mono ?_; rintro e w1 ⟨rfl, ho1⟩) | (go_at_call 61; refine (HSet.out w1 ho1).mono ?_; rintro e w2 ⟨rfl, v2, hr2, ho2⟩) | (go_at_call 59; refine (made_any nm _ p _ w2 hr2 (by show R.fr.length ≤ 1000000; omega)).mono ?_; rintro e w3 ⟨rfl, R3, hr3, hst3, hpr3, hk3, ho3⟩))
      have HO3 : Hid (Only F w w3) := Lib.hid (((ho1.mono fun _ _ h => h.elim).trans ho2 fun _ _ h => h).then_ (ho3.mono fun q _ hq => hq.elim .inl fun hq => .inr (by have := ho1.size; omega)))
      have HR3 : Hid (RefM w3 (Gr F w w3) p R3) := Lib.hid (hr3.mono fun k hk => by
        have := ho1.size
        have := ho2.size
        rcases hk with (hk | hk) | hk
        · exact .inl hk
        · exact .inr (by have := ho3.size; omega)
        · exact .inr (by omega))
      have HB3 := Lib.hid (HRb.out.off HO3.out hs)
      have HSt3 := Lib.hid hst3
      have d5 := HR3.out.cells.2.2.2.2.2.1
      obtain ⟨g3, cap3, hv3, hg3F, hg3, -, -, hcell3, hfz3⟩ := fr_cells HR3.out.fs (by omega)
      obtain ⟨z0, z1, z2, z3⟩ := hcell3 _ hk3
      rw [hv3] at d5
      have f0 := hfz3 (RD.at_ (RMem.st { R with pv := v2, pr := others nm R.pr }) nm * 4)
      have f1 := hfz3 (RD.at_ (RMem.st { R with pv := v2, pr := others nm R.pr }) nm * 4 + 1)
      have f2 := hfz3 (RD.at_ (RMem.st { R with pv := v2, pr := others nm R.pr }) nm * 4 + 2)
      have f3 := hfz3 (RD.at_ (RMem.st { R with pv := v2, pr := others nm R.pr }) nm * 4 + 3)
      have hp3 : p < w3.heap.size := HR3.out.blk.lt
      have HV3 := Lib.hid hv3
      have hki : ((RD.at_ (RMem.st { R with pv := v2, pr := others nm R.pr }) nm : Nat) : Int) < (R3.fr.length : Int) := by omega
      have hk0 : (0 : Int) ≤ ((RD.at_ (RMem.st { R with pv := v2, pr := others nm R.pr }) nm : Nat) : Int) := by omega
      have hst2 : (RMem.st { R with pv := v2, pr := others nm R.pr }) = R.st.settled nm := by
        simp only [RMem.st, RD.settled, others_st]
      have HSt2 := Lib.hid hst2
      have hat2 : RD.at_ (RMem.st { R with pv := v2, pr := others nm R.pr }) nm = R.st.at_ nm := rfl
      have HAt2 := Lib.hid hat2
      clear hr3 hst3 hpr3 ho1 ho2 ho3 hr2 hcell3 hfz3 hv3 hst2 hat2
      generalize RD.at_ (RMem.st { R with pv := v2, pr := others nm R.pr }) nm = ka at *
      generalize hF0 : R3.fr[ka] = fz0 at *
      have HF3 := Lib.hid hF0
      clear hF0
      have HCp : Hid (∀ W, Below w3.heap.size w3 W → Calls Try.prog 54 #[.slice A b.length c] W.drew fun e w' => ∃ v, e = .returned v ∧ w'.ownsRow W.heap.size 5 1 v b.length (bv b) ∧ Below W.heap.size W w') := Lib.hid (fun W hW => by
        have hr : Reads W w3.heap.size 1 A b.length (bv b) := HB3.out.only (Nat.le_refl _) (Only.of_below hW) (fun _ _ => id)
        have h1 := copy_any b A w3.heap.size c W.drew (by omega) hr
        exact h1.mono fun e w' ⟨v, h2, h3, h4⟩ => ⟨v, h2, h3, below_of_drew h4⟩)
      have HCp2 : Hid (∀ W, Below w3.heap.size w3 W → Calls Try.prog 54 #[.slice A b.length c] W fun e w' => ∃ v, e = .returned v ∧ w'.ownsRow W.heap.size 5 1 v b.length (bv b) ∧ Below W.heap.size W w') := Lib.hid (fun W hW => by
        have hr : Reads W w3.heap.size 1 A b.length (bv b) := HB3.out.only (Nat.le_refl _) (Only.of_below hW) (fun _ _ => id)
        exact copy_any b A w3.heap.size c W (by omega) hr)
      have HFin : Hid (∀ w4 w5 A8 c8 A9 c9, Below w3.heap.size w3 w4 → w4.ownsRow w3.heap.size 5 1 (.slice A8 b.length c8) b.length (bv b) → Below w4.heap.size w4 w5 → w5.ownsRow w4.heap.size 5 1 (.slice A9 b.length c9) b.length (bv b) →
          CutC F p (RD.setF ((R.st.settled nm).made nm) (R.st.at_ nm) fun _ => ⟨nm, b, b, true⟩) R3.pr w ((((w5.setCell ⟨g3, ka * 4, none⟩ (.string nm)).setCell ⟨g3, ka * 4 + 1, none⟩ (.slice A8 b.length c8)).setCell ⟨g3, ka * 4 + 2, none⟩ (.slice A9 b.length c9)).setCell ⟨g3, ka * 4 + 3, none⟩ (.bool true))) := Lib.hid (fun w4 w5 A8 c8 A9 c9 hb4 ho4 hb5 ho5 => by
        have hb35 : Below w3.heap.size w3 w5 := hb4.trans (hb5.mono hb4.size)
        have h5 := HR3.out.here (Only.of_below hb35)
        have hsz := HO3.out.size
        have s4 := hb4.size
        have s5 := hb5.size
        have hsub : ∀ k, Gr F w w3 k → Gr F w w5 k := fun k hk => hk.elim .inl fun hk => .inr (by omega)
        have o8 : BOwn w5 (Gr F w w5) (.slice A8 b.length c8) b := (bown_of_own (F := Gr F w w5) ho4 fun k h1 h2 => .inr (by omega)).only (G := fun _ => False) (Only.of_below hb5) fun _ _ => id
        have o9 : BOwn w5 (Gr F w w5) (.slice A9 b.length c9) b := bown_of_own ho5 fun k h1 h2 => .inr (by omega)
        have hset := h5.newFile hsub (g := g3) (by rw [HV3.out]; rfl) ka hk3 ⟨nm, .slice A8 b.length c8, b, .slice A9 b.length c9, b, true⟩ ⟨o8, o9⟩
        refine ⟨_, hset.mono fun k hk => hk.elim .inl fun hk => .inr (by simpa [World.setCell] using hk), ?_, rfl, ?_⟩
        · rw [setF_st R3 ka hk3 _ (fun _ => ⟨nm, b, b, true⟩) rfl, HSt3.out, HSt2.out, HAt2.out]
        · have hg := fun o : Nat => (hg3F.elim .inl fun h => .inr h.1 : F (⟨g3, o, none⟩ : Addr).block ∨ w.heap.size ≤ (⟨g3, o, none⟩ : Addr).block)
          exact ((((HO3.out.then_ (Only.of_below hb35 : Only (Gr F w w3) w3 w5)).setCell (hg _) _).setCell (hg _) _).setCell (hg _) _).setCell (hg _) _)
      have HW3 := Lib.hid (Below.refl w3.heap.size w3)
      clear hfl hpl hb hn hs
      go_cut [37] (fun s37 wx => CutC F p (RD.setF ((R.st.settled nm).made nm) (R.st.at_ nm) fun _ => ⟨nm, b, b, true⟩) R3.pr w wx)
      case first =>
        go_region_with (first
          | (go_at_call 54; refine (HCp2.out w4 HBK.out).mono ?_; rintro e w5 ⟨v5, rfl, ho5, hb5⟩; have d5'' := (hb5.cell (p := ⟨p, 5, none⟩) (Nat.lt_of_lt_of_le hp3 HBK.out.size)).trans d5'; have z0'' := (hb5.cell (p := ⟨g3, ka * 4, none⟩) (Nat.lt_of_lt_of_le hg3 HBK.out.size)).trans z0'; have z1'' := (hb5.cell (p := ⟨g3, ka * 4 + 1, none⟩) (Nat.lt_of_lt_of_le hg3 HBK.out.size)).trans z1'; have z2'' := (hb5.cell (p := ⟨g3, ka * 4 + 2, none⟩) (Nat.lt_of_lt_of_le hg3 HBK.out.size)).trans z2'; have z3'' := (hb5.cell (p := ⟨g3, ka * 4 + 3, none⟩) (Nat.lt_of_lt_of_le hg3 HBK.out.size)).trans z3'; have f0'' := (hb5.frozen (p := ⟨g3, ka * 4, none⟩) (Nat.lt_of_lt_of_le hg3 HBK.out.size)).trans f0'; have f1'' := (hb5.frozen (p := ⟨g3, ka * 4 + 1, none⟩) (Nat.lt_of_lt_of_le hg3 HBK.out.size)).trans f1'; have f2'' := (hb5.frozen (p := ⟨g3, ka * 4 + 2, none⟩) (Nat.lt_of_lt_of_le hg3 HBK.out.size)).trans f2'; have f3'' := (hb5.frozen (p := ⟨g3, ka * 4 + 3, none⟩) (Nat.lt_of_lt_of_le hg3 HBK.out.size)).trans f3'; obtain ⟨A9, c9, rfl⟩ := own_slice ho5; have HO5 := Lib.hid ho5; have HBK5 := Lib.hid hb5; clear ho5 hb5)
          | (go_at_call 54; refine (HCp.out w3 HW3.out).mono ?_; rintro e w4 ⟨v4, rfl, ho4, hb4⟩; have d5' := (hb4.cell (p := ⟨p, 5, none⟩) (Nat.lt_of_lt_of_le hp3 (Nat.le_refl _))).trans d5; have z0' := (hb4.cell (p := ⟨g3, ka * 4, none⟩) (Nat.lt_of_lt_of_le hg3 (Nat.le_refl _))).trans z0; have z1' := (hb4.cell (p := ⟨g3, ka * 4 + 1, none⟩) (Nat.lt_of_lt_of_le hg3 (Nat.le_refl _))).trans z1; have z2' := (hb4.cell (p := ⟨g3, ka * 4 + 2, none⟩) (Nat.lt_of_lt_of_le hg3 (Nat.le_refl _))).trans z2; have z3' := (hb4.cell (p := ⟨g3, ka * 4 + 3, none⟩) (Nat.lt_of_lt_of_le hg3 (Nat.le_refl _))).trans z3; have f0' := (hb4.frozen (p := ⟨g3, ka * 4, none⟩) (Nat.lt_of_lt_of_le hg3 (Nat.le_refl _))).trans f0; have f1' := (hb4.frozen (p := ⟨g3, ka * 4 + 1, none⟩) (Nat.lt_of_lt_of_le hg3 (Nat.le_refl _))).trans f1; have f2' := (hb4.frozen (p := ⟨g3, ka * 4 + 2, none⟩) (Nat.lt_of_lt_of_le hg3 (Nat.le_refl _))).trans f2; have f3' := (hb4.frozen (p := ⟨g3, ka * 4 + 3, none⟩) (Nat.lt_of_lt_of_le hg3 (Nat.le_refl _))).trans f3; obtain ⟨A8, c8, rfl⟩ := own_slice ho4; have HO4 := Lib.hid ho4; have HBK := Lib.hid hb4; clear ho4 hb4))
        all_goals
          go_wp2_with fail
          go_meet
          exact HFin.out _ _ _ _ _ _ HBK.out HO4.out HBK5.out HO5.out
      case rest =>
        obtain ⟨R5, hr5, hst5, -, ho5⟩ := hcut
        have HE := Lib.hid (show RefAt wc (Gr F w wc) p _ ∧ Only F w wc from ⟨⟨R5, hr5, hst5⟩, ho5⟩)
        clear hr5 hst5 ho5
        go_wp2_with fail
        go_ret
        exact ⟨rfl, HE.out⟩
end Go.Proofs.Ytoihkanneiknkaa

namespace Go.Proofs.Ytoihkanneiknkaa
open Go.RowKit

theorem write_any (nm : ByteArray) (at' : Int) (b : List UInt8) (A : Option Addr) (c : Nat) (F : Nat → Prop) (p : Nat) (R : RMem) (w : World) (h : RefM w F p R) (hf : R.Fine) (hn : nm.size ≤ 9223372036854775807) (ha : -9223372036854775808 ≤ at' ∧ at' ≤ 9223372036854775807) (hb : b.length ≤ 1073741824)
    (hfl : R.fr.length ≤ 16) (hpl : R.pr.length ≤ 1000000) (hr : Reads w w.heap.size 1 A b.length (bv b)) (hs : ∀ ad, A = some ad → ¬ F ad.block) (hbc : b.length ≤ c) :
    Calls Try.prog 30 #[.pointer (some ⟨p, 0, none⟩), .string nm, .int .i64 at', .slice A b.length c] w fun e w' => OpAt F p (R.st.write nm at' b).1 (R.st.write nm at' b).2 w e w' := by
  by_cases hno : named nm = false ∨ R.down = true ∨ (at' < 0 ∨ (R.st.had nm : Int) < at') ∨ b = [] ∨ R.st.fits nm (max (R.st.had nm) (at'.toNat + b.length)) ≠ 0 ∨ R.st.stops = true
  · exact write_no nm at' b A c F p R w h hf hn ha hb hno
  · simp only [not_or] at hno
    obtain ⟨h1, h2, ⟨h3, h4⟩, h5, h6, h7⟩ := hno
    obtain ⟨n, rfl⟩ : ∃ n : Nat, at' = n := ⟨at'.toNat, by omega⟩
    have y1 : named nm = true := by simpa using h1
    have y2 : R.down = false := by simpa using h2
    have y6 : R.st.stops = false := by simpa using h7
    have y5 : R.st.fits nm (max (R.st.had nm) (n + b.length)) = 0 := by simpa using h6
    have hz : (R.st.write nm n b).2 = 0 := by
      unfold RD.write
      rw [if_neg (by rw [y1]; simp), if_neg (by show ¬ R.down = true; rw [y2]; simp), if_neg (by omega), if_neg h5, if_neg (by simpa using y5), if_neg (by rw [y6]; simp)]
    rw [hz]
    exact write_yes nm n b A c F p R w h hf hn hb hfl hpl hr hs hbc y1 y2 (by omega) h5 y5 y6
end Go.Proofs.Ytoihkanneiknkaa

namespace Go.Proofs.Ytoihkanneiknkaa
open Go.RowKit

def pv_ (picks : List Int) : List Value := picks.map fun x => .int .i64 x
theorem and_one (x : Int) : bits .and .i64 x 1 = x % 2 := by
  show IntKind.wrap .i64 (((BitVec.ofInt 64 x &&& BitVec.ofInt 64 1).toNat : Nat) : Int) = _
  have : (BitVec.ofInt 64 x &&& BitVec.ofInt 64 1).toNat = (x % 2).toNat := by
    rw [BitVec.toNat_and]
    show (BitVec.ofInt 64 x).toNat &&& 1 = _
    rw [Nat.and_one_is_mod, BitVec.toNat_ofInt]
    omega
  rw [this]
  rcases Int.emod_two_eq x with h | h <;> rw [h] <;> rfl
theorem crashTo_succ (f : RF) (picks : List Int) (pend : List RP) (j : Nat) (h : j < pend.length) : crashTo f picks pend (j + 1) = crashStep f.name picks (crashTo f picks pend j) (pend[j], j) := by
  unfold crashTo
  rw [List.take_succ_eq_append_getElem (by simpa using h), List.foldl_append]
  simp
theorem keptB_at (picks : List Int) (j : Nat) (h : 0 < picks.length) : keptB picks j = decide ((picks[j % picks.length]'(Nat.mod_lt _ h)) % 2 = 1) := by
  unfold keptB
  rw [List.getElem?_eq_getElem (Nat.mod_lt _ h)]
theorem crash_skip (nm : ByteArray) (picks : List Int) (s : List UInt8 × Bool) (p : RP × Nat) (h : p.1.name ≠ nm ∨ keptB picks p.2 = false) : crashStep nm picks s p = s := by
  unfold crashStep
  rw [if_pos h]
theorem crash_do (nm : ByteArray) (picks : List Int) (s : List UInt8 × Bool) (p : RP × Nat) (h1 : p.1.name = nm) (h2 : keptB picks p.2 = true) : crashStep nm picks s p = if p.1.cut then (s.1.take p.1.at', s.2) else (layB s.1 p.1.at' p.1.b, true) := by
  unfold crashStep
  rw [if_neg (by simp [h1, h2])]
/-- The blocks that are new. -/
def New (w wr : World) (q : Nat) : Prop := w.heap.size ≤ q ∧ q < wr.heap.size
/-- The files that are laid so far. -/
def CrLaid (R : RMem) (picks : List Int) (w wr : World) (v : Value) (k : Nat) : Prop :=
  ∃ fs : List FR, fs.map FR.toF = (R.st.files.take k).filterMap (crashFile picks R.st.pend) ∧ fs.length ≤ k ∧ Row wr (New w wr) 75 4 encF v fs ∧
    ∀ f ∈ fs, BOwn wr (New w wr) f.nv f.now ∧ BOwn wr (New w wr) f.sv f.safe
theorem new_mono {w wr wr' : World} (h : wr.heap.size ≤ wr'.heap.size) : ∀ q, New w wr q → New w wr' q := fun _ hq => ⟨hq.1, by have := hq.2; omega⟩
theorem CrLaid.below {R : RMem} {picks : List Int} {w wr wr' : World} {v : Value} {k : Nat} (h : CrLaid R picks w wr v k) (hb : Below wr.heap.size wr wr') : CrLaid R picks w wr' v k := by
  obtain ⟨fs, h1, h2, h3, h4⟩ := h
  have ho : Only (fun _ => False) wr wr' := Only.of_below hb
  exact ⟨fs, h1, h2, (h3.only ho fun _ _ => id).mono (new_mono hb.size), fun f hf => ⟨((h4 f hf).1.only ho fun _ _ => id).mono (new_mono hb.size), ((h4 f hf).2.only ho fun _ _ => id).mono (new_mono hb.size)⟩⟩
theorem files_take (R : RMem) (k : Nat) (hk : k < R.fr.length) : R.st.files.take (k + 1) = R.st.files.take k ++ [R.fr[k].toF] := by
  rw [List.take_succ_eq_append_getElem (by simpa [RMem.st] using hk)]
  simp [RMem.st]
theorem CrLaid.skip {R : RMem} {picks : List Int} {w wr : World} {v : Value} {k : Nat} (h : CrLaid R picks w wr v k) (hk : k < R.fr.length) (hn : crashFile picks R.st.pend R.fr[k].toF = none) : CrLaid R picks w wr v (k + 1) := by
  obtain ⟨fs, h1, h2, h3, h4⟩ := h
  refine ⟨fs, ?_, by omega, h3, h4⟩
  rw [files_take R k hk, List.filterMap_append, ← h1]
  simp [hn]
theorem cr_push {R : RMem} {picks : List Int} {w w4 w5 : World} {v v5 : Value} {k : Nat} {fs : List FR} {lit : Obj} (h1 : fs.map FR.toF = (R.st.files.take k).filterMap (crashFile picks R.st.pend)) (h2 : fs.length ≤ k) (h3 : Row w4 (New w w4) 75 4 encF v fs)
    (h4 : ∀ f ∈ fs, BOwn w4 (New w w4) f.nv f.now ∧ BOwn w4 (New w w4) f.sv f.safe) (hk : k < R.fr.length) (hw : w.heap.size ≤ w4.heap.size) (f' : FR) (hf' : crashFile picks R.st.pend R.fr[k].toF = some f'.toF) (hb : BOwn w4 (New w w4) f'.nv f'.now ∧ BOwn w4 (New w w4) f'.sv f'.safe)
    (hg : (w4.alloc lit).grownBy w5 v.ownBlock) (hat : v5.ownBlock = v.ownBlock ∨ v5.ownBlock = some (w4.alloc lit).heap.size) (ho : w5.ownsRow 0 75 4 v5 (fs.length + 1) (flat encF fs ++ encF f')) (hB : Below w.heap.size w w4) :
    CrLaid R picks w w5 v5 (k + 1) ∧ Below w.heap.size w w5 := by
  have honly : Only (fun q => v.ownBlock = some q) w4 w5 := ((Only.refl _ w4).alloc lit).grown hg fun q hq => .inl hq
  have hsz : w4.heap.size + 1 ≤ w5.heap.size := by have := hg.size; simp at this; omega
  have hpt : ∀ {q : Nat}, v.ownBlock = some q → ∃ cur, Blk w4 q 75 cur := fun {q} hq => by
    rcases h3.own.2 with ⟨e, _⟩ | ⟨g', cap, cur, e, _, hh, _⟩
    · rw [e] at hq; simp [Value.ownBlock] at hq
    · rw [e] at hq
      have : g' = q := by simpa [Value.ownBlock] using hq
      subst this
      exact ⟨cur, hh⟩
  have hkeep : ∀ {u : Value} {m : List UInt8}, BOwn w4 (New w w4) u m → BOwn w5 (New w w5) u m := fun {u m} hu => (hu.off honly fun q hq e => by
    obtain ⟨cur, hc⟩ := hpt e
    exact hu.ne hc (by decide) q hq rfl).mono (new_mono (by omega))
  refine ⟨⟨fs ++ [f'], ?_, by simp; omega, ⟨by rw [List.length_append, flat_append, flat_one]; exact ho, fun q hq => ?_⟩, fun f hf => ?_⟩, ?_⟩
  · rw [files_take R k hk, List.filterMap_append, ← h1]
    simp [hf']
  · rcases hat with e | e
    · exact new_mono (by omega) q (h3.fp q (by rw [← e]; exact hq))
    · rw [hq] at e
      injection e with e
      have := (ho.lt q hq).2
      simp at e
      exact ⟨by omega, this⟩
  · rcases List.mem_append.1 hf with hf | hf
    · exact ⟨hkeep (h4 f hf).1, hkeep (h4 f hf).2⟩
    · simp at hf
      subst hf
      exact ⟨hkeep hb.1, hkeep hb.2⟩
  · exact (hB.alloc hw lit).grown hg (by simp; omega) fun q hq => (h3.fp q hq).1

set_option maxRecDepth 100000 in
set_option maxHeartbeats 4000000 in
theorem crash_any (picks : List Int) (A : Option Addr) (c : Nat) (F : Nat → Prop) (p : Nat) (R : RMem) (w : World) (h : RefM w F p R) (hpk : picks.length ≤ 9223372036854775807) (hpi : ∀ x ∈ picks, -9223372036854775808 ≤ x ∧ x ≤ 9223372036854775807)
    (hr : Reads w w.heap.size 1 A picks.length (pv_ picks)) (hfl : R.fr.length ≤ 1000000) (hpl : R.pr.length ≤ 1000000) (hfs : ∀ f ∈ R.fr, f.safe.length ≤ 549755813888) (hps : ∀ q ∈ R.pr, q.at' + q.b.length ≤ 549755813888) :
    Calls Try.prog 36 #[.pointer (some ⟨p, 0, none⟩), .slice A picks.length c] w fun e w' => e = .returned (.tuple #[]) ∧ RefAt w' (Gr F w w') p (R.st.crash picks) ∧ Only F w w' := by
  obtain ⟨i0, hi0, hz0, hz1, hz2⟩ := info_parts frinfo
  obtain ⟨Af, cf, hfv, hlcf, hcmf, _⟩ := h.fs.value
  obtain ⟨Ap, cp, hpv, hlcp, hcmp, _⟩ := h.ps.value
  have HR := Lib.hid h
  have HPk := Lib.hid hr
  have HFs := Lib.hid hfs
  have HPs := Lib.hid hps
  have HPi := Lib.hid hpi
  unfold maxLen at hcmf hcmp
  have hpw : p < w.heap.size := h.blk.lt
  clear h hr hfs hps hpi
  go_enter Try.func36, Try.ntmps36
  go_wp2
  go_loopw [4, 5] (fun v i wr => ∃ k : Nat, k ≤ R.fr.length ∧ i = .int .i64 k ∧ Hid (CrLaid R picks w wr v k) ∧ Hid (Below w.heap.size w wr)) (fun _ i _ => R.fr.length - (intOf i).toNat)
  case atStart => exact ⟨0, Nat.zero_le _, rfl, ⟨[], rfl, Nat.le_refl _, row_nil _ _ _ _ _, fun f hf => by simp at hf⟩, Below.refl _ _⟩
  case round =>
    obtain ⟨k, hk, rfl, HO, HB⟩ := hrel
    have HRw := Lib.hid (HR.out.here (Only.of_below HB.out))
    have c5 := HRw.out.cells.2.2.2.2.2.1
    have c6 := HRw.out.cells.2.2.2.2.2.2
    rw [hfv] at c5
    rw [hpv] at c6
    have hbs := HB.out.size
    by_cases hlt : k < R.fr.length
    · obtain ⟨g, cap, hv2, _, hgw, _, _, hc, _⟩ := fr_cells HRw.out.fs (by omega)
      rw [hfv] at hv2
      obtain ⟨rfl, rfl⟩ : Af = some ⟨g, 0, none⟩ ∧ cf = cap := by simpa using hv2
      obtain ⟨x0, x1, x2, x3⟩ := hc k hlt
      obtain ⟨A1, cc1, hn1, _, _, _⟩ := (HRw.out.fb _ (List.getElem_mem hlt)).1.value
      obtain ⟨A2, cc2, hn2, hlc2, hcm2, hrd2⟩ := (HRw.out.fb _ (List.getElem_mem hlt)).2.value
      rw [hn1] at x1
      rw [hn2] at x2
      have hi : (k : Int) < (R.fr.length : Int) := by omega
      have hfs2 := HFs.out _ (List.getElem_mem hlt)
      have HRd2 := Lib.hid hrd2
      clear hc hv2 hn1 hn2 hrd2
      generalize hfk : R.fr[k] = f at *
      have HFk := Lib.hid hfk
      clear hfk
      generalize hnm : f.name = fn at *
      have HFn := Lib.hid hnm
      generalize hsu : f.sure = su at *
      have HFu := Lib.hid hsu
      generalize hsa : f.safe = sa at *
      have HFa := Lib.hid hsa
      generalize f.now.length = nl at *
      clear hnm hsu hsa
      go_upto_region 5 with fail
      obtain ⟨wo, hwo⟩ : ∃ wo : World, wo = wr := ⟨_, rfl⟩
      subst hwo
      obtain ⟨wA, hwA⟩ : ∃ wA : World, wA = wo.alloc (.cells #[.string fn, .slice A1 nl cc1, .slice A2 sa.length cc2, .bool su] 75) := ⟨_, rfl⟩
      have HBA : Hid (Below wo.heap.size wo wA) := Lib.hid (by rw [hwA]; exact (Below.refl _ _).alloc (Nat.le_refl _) _)
      have hsA : wA.heap.size = wo.heap.size + 1 := by rw [hwA]; simp
      have hblkA : Blk wA wo.heap.size 75 #[.string fn, .slice A1 nl cc1, .slice A2 sa.length cc2, .bool su] := by rw [hwA]; exact heap_alloc_new _ _
      have a0 : wA.cell? ⟨wo.heap.size, 0, none⟩ = some (.string fn) := by rw [hblkA.cell]; rfl
      have a2 : wA.cell? ⟨wo.heap.size, 2, none⟩ = some (.slice A2 sa.length cc2) := by rw [hblkA.cell]; rfl
      have a3 : wA.cell? ⟨wo.heap.size, 3, none⟩ = some (.bool su) := by rw [hblkA.cell]; rfl
      rw [← hwA]
      have HCp := Lib.hid (copy_any sa A2 wo.heap.size cc2 wA (by omega) (HRd2.out.below HBA.out))
      clear hwA hblkA
      have HBwA := Lib.hid (HB.out.trans (HBA.out.mono hbs))
      generalize hn0 : wo.heap.size = n0 at *
      have HN0 := Lib.hid hn0
      clear hn0
      go_wp2_with (go_at_call 54; refine HCp.out.mono ?_; rintro e w4 ⟨v4, rfl, ho4, hb4⟩; obtain ⟨A8, c8, rfl, hc8, hm8, hr8, hA8⟩ := own_form ho4; have b3 := (hb4.cell (p := ⟨n0, 3, none⟩) (by simp; omega)).trans a3; have HO4 := Lib.hid ho4; have HB4 := Lib.hid hb4; clear ho4 hb4)
      have HB04 := Lib.hid (HBwA.out.trans (HB4.out.mono (by omega)))
      have hs4 := HB4.out.size
      have HSz := Lib.hid (show sa.length ≤ 549755813888 by rw [← HFa.out, ← HFk.out]; exact HFs.out _ (List.getElem_mem hlt))
      have HS0 : Hid (crashTo f.toF picks R.st.pend 0 = (sa, su)) := Lib.hid (by
        unfold crashTo FR.toF
        rw [HFa.out, HFu.out]
        rfl)
      go_loopw [7, 8, 9] (fun v t i wx => ∃ (j : Nat) (A7 : Option Addr) (c7 : Nat) (l : List UInt8) (tb : Bool), j ≤ R.pr.length ∧ i = .int .i64 j ∧ v = .slice A7 l.length c7 ∧ t = .bool tb ∧ Hid (crashTo f.toF picks R.st.pend j = (l, tb)) ∧ l.length ≤ 549755813888 ∧ l.length ≤ c7 ∧ c7 ≤ maxLen ∧ Hid (Reads wx wx.heap.size 1 A7 l.length (bv l)) ∧ Hid (Below w4.heap.size w4 wx)) (fun _ _ i _ => R.pr.length - (intOf i).toNat)
      case atStart => exact ⟨0, A8, c8, sa, su, Nat.zero_le _, rfl, rfl, rfl, HS0.out, HSz.out, hc8, hm8, hr8, Below.refl _ _⟩
      case round =>
        obtain ⟨j, A7, c7, l, tb, hj, rfl, rfl, rfl, HS, hl, hlc7, hc7, HRd, HBx⟩ := hrel
        have HBwx := Lib.hid (HB04.out.trans (HBx.out.mono (by omega)))
        have HRx := Lib.hid (HR.out.here (Only.of_below HBwx.out))
        have e6 := HRx.out.cells.2.2.2.2.2.2
        rw [hpv] at e6
        have hsx := HBx.out.size
        have g0 := (HBx.out.cell (p := ⟨n0, 0, none⟩) (by simp; omega)).trans ((HB4.out.cell (p := ⟨n0, 0, none⟩) (by simp; omega)).trans a0)
        have hn0x : n0 < wr.heap.size := by omega
        have hb4x : Below wo.heap.size wo wr := by
          rw [HN0.out]
          have q1 : Below n0 wo w4 := HBA.out.trans (HB4.out.mono (by omega))
          exact q1.trans (HBx.out.mono (by omega))
        clear c5 c6 x0 x1 x2 x3 a0 a2 a3 b3 HCp
        by_cases hjl : j < R.pr.length
        · obtain ⟨gp, capp, hv3, _, hgp, _, _, hcp, _⟩ := pr_cells HRx.out.ps (by omega)
          rw [hpv] at hv3
          obtain ⟨rfl, rfl⟩ : Ap = some ⟨gp, 0, none⟩ ∧ cp = capp := by simpa using hv3
          obtain ⟨z0, z1, z2, z3⟩ := hcp j hjl
          obtain ⟨A9, cc9, hn9, hlc9, hcm9, hrd9⟩ := (HRx.out.pb _ (List.getElem_mem hjl)).value
          rw [hn9] at z2
          have hji : (j : Int) < (R.pr.length : Int) := by omega
          have hqs := HPs.out _ (List.getElem_mem hjl)
          have hjp : j < R.st.pend.length := by simpa [RMem.st] using hjl
          have hpj : R.st.pend[j] = R.pr[j].toP := by simp [RMem.st]
          have HNx : Hid (crashTo f.toF picks R.st.pend (j + 1) = crashStep fn picks (l, tb) (R.pr[j].toP, j)) := Lib.hid (by
            rw [crashTo_succ _ _ _ _ hjp, HS.out, hpj]
            show crashStep f.name picks (l, tb) _ = _
            rw [HFn.out])
          clear hcp hv3 hn9 hjp hpj HS
          generalize R.pr[j] = q at *
          obtain ⟨qn, qa, qv, qb, qc⟩ := q
          unfold PR.toP at HNx
          simp only at z0 z1 z2 z3 hqs hrd9 hlc9 HNx
          by_cases h1 : qn = fn
          · have h1b := str_yes h1
            by_cases h2 : picks.length = 0
            · have HE : Hid (crashTo f.toF picks R.st.pend (j + 1) = (l, tb)) := Lib.hid (by
                rw [HNx.out, crash_skip]
                right
                obtain rfl : picks = [] := List.length_eq_zero_iff.1 h2
                rfl)
              have h2b : ((picks.length : Int) == 0) = true := by rw [h2]; rfl
              clear h1 HNx h2
              go_wp2
              go_roundw
              case rel => exact ⟨j + 1, A7, c7, l, tb, by omega, by go_num, rfl, rfl, HE, hl, hlc7, hc7, (HRd.out.alloc (Nat.le_refl _) _).more (by simp), HBx.out.alloc hsx _⟩
              case measure => simp [intOf]; omega
            · have h2b : ((picks.length : Int) == 0) = false := by rw [beq_eq_false_iff_ne]; omega
              have hpos : 0 < picks.length := by omega
              obtain ⟨x, hx⟩ : ∃ x, x = picks[j % picks.length]'(Nat.mod_lt _ hpos) := ⟨_, rfl⟩
              have HKp : Hid (keptB picks j = decide (x % 2 = 1)) := Lib.hid (by rw [keptB_at _ _ hpos, hx])
              have hmod : Int.tmod (j : Int) (picks.length : Int) = ((j % picks.length : Nat) : Int) := rfl
              have hrl := Nat.mod_lt j hpos
              obtain ⟨b2, off2, rfl, hbB, hcb⟩ := (HPk.out.over HBwx.out).form hpos
              have hxc : wr.cell? ⟨b2, off2 + j % picks.length, none⟩ = some (.int .i64 x) := hcb _ _ (by
                unfold pv_
                rw [List.getElem?_map, List.getElem?_eq_getElem hrl, hx]
                rfl)
              clear hx hcb hpos
              generalize j % picks.length = r at *
              have hb2 : b2 < wr.heap.size := by have := HBwx.out.size; omega
              have hml : (r : Int) < (picks.length : Int) := by omega
              have hr0 : (0 : Int) ≤ (r : Int) := by omega
              have h2c : (picks.length : Int) ≠ 0 := by omega
              have hand := and_one x
              by_cases h3 : x % 2 = 1
              · rw [h3] at hand
                have hk1 : keptB picks j = true := by rw [HKp.out, decide_eq_true h3]
                have HNy : Hid (crashTo f.toF picks R.st.pend (j + 1) = if qc then (l.take qa, tb) else (layB l qa qb, true)) := Lib.hid (by
                  rw [HNx.out, crash_do _ _ _ _ h1 hk1])
                clear h1 hk1 HNx h2 h3 HKp
                rcases qc with _ | _
                · simp only [Bool.false_eq_true, if_false] at HNy
                  have HLay := Lib.hid (lay_any l qb qa A7 A9 wr.heap.size wr.heap.size c7 cc9 (wr.alloc (.cells #[.string qn, .int .i64 (qa : Int), .slice A9 qb.length cc9, .bool false] 97)) (by omega) (by omega) (HRd.out.alloc (Nat.le_refl _) _) (hrd9.alloc (Nat.le_refl _) _))
                  have HLn := Lib.hid (layB_length l qa qb)
                  have HBP := Lib.hid (HBx.out.alloc hsx (.cells #[.string qn, .int .i64 (qa : Int), .slice A9 qb.length cc9, .bool false] 97))
                  go_wp2_with (go_at_call 60; refine HLay.out.mono ?_; rintro e w6 ⟨v6, rfl, ho6, hb6⟩; obtain ⟨A6, c6, rfl, hc6, hm6, hr6, hA6⟩ := own_form ho6)
                  go_roundw
                  case rel => exact ⟨j + 1, A6, c6, layB l qa qb, true, by omega, by go_num, rfl, rfl, HNy, by rw [HLn.out]; omega, hc6, hm6, hr6, HBP.out.trans (hb6.mono (by simp; omega))⟩
                  case measure => simp [intOf]; omega
                · simp only [if_true] at HNy
                  obtain ⟨m, hm⟩ : ∃ m : Nat, m = min l.length qa := ⟨_, rfl⟩
                  have hmi : min (l.length : Int) (qa : Int) = (m : Int) := by omega
                  have hm1 : (m : Int) ≤ (c7 : Int) := by omega
                  have hm2 : m ≤ c7 := by omega
                  have HM := Lib.hid (show (l.take qa).length = m by simp; omega)
                  have HTk : Hid (Reads wr wr.heap.size 1 A7 (l.take qa).length (bv (l.take qa))) := Lib.hid (by
                    have h1 := HRd.out.pre (n := m) (by omega)
                    rw [HM.out]
                    have e : bv (l.take qa) = (bv l).take (m * 1) := by
                      simp only [bv, List.map_take, Nat.mul_one]
                      rcases Nat.lt_or_ge l.length qa with hh | hh
                      · rw [List.take_of_length_le (by simp; omega), List.take_of_length_le (by simp; omega)]
                      · rw [show m = qa by omega]
                    rw [e]
                    exact h1)
                  clear hm
                  go_wp2
                  go_roundw
                  case rel => exact ⟨j + 1, A7, c7, l.take qa, tb, by omega, by go_num, by rw [HM.out], rfl, HNy, by rw [HM.out]; omega, by rw [HM.out]; omega, hc7, (HTk.out.alloc (Nat.le_refl _) _).more (by simp), HBx.out.alloc hsx _⟩
                  case measure => simp [intOf]; omega
              · have h30 : x % 2 = 0 := by omega
                rw [h30] at hand
                have HE : Hid (crashTo f.toF picks R.st.pend (j + 1) = (l, tb)) := Lib.hid (by
                  rw [HNx.out, crash_skip]
                  exact .inr (by rw [HKp.out, decide_eq_false h3]))
                clear h1 HNx h2 h3 h30 HKp
                go_wp2
                go_roundw
                case rel => exact ⟨j + 1, A7, c7, l, tb, by omega, by go_num, rfl, rfl, HE, hl, hlc7, hc7, (HRd.out.alloc (Nat.le_refl _) _).more (by simp), HBx.out.alloc hsx _⟩
                case measure => simp [intOf]; omega
          · have h1b := str_no h1
            have HE : Hid (crashTo f.toF picks R.st.pend (j + 1) = (l, tb)) := Lib.hid (by
              rw [HNx.out, crash_skip]
              exact .inl h1)
            clear h1 HNx
            go_wp2
            go_roundw
            case rel => exact ⟨j + 1, A7, c7, l, tb, by omega, by go_num, rfl, rfl, HE, hl, hlc7, hc7, (HRd.out.alloc (Nat.le_refl _) _).more (by simp), HBx.out.alloc hsx _⟩
            case measure => simp [intOf]; omega
        · obtain rfl : j = R.pr.length := by omega
          have hcl := HO.out.below (hb4x)
          have hend : crashFile picks R.st.pend R.fr[k].toF = if tb then some ⟨fn, l, l, true⟩ else none := by
            have h1 := HS.out
            have h2 : R.st.pend.length = R.pr.length := by simp [RMem.st]
            unfold crashFile
            rw [HFk.out, h2, h1, ← HFn.out]
            rfl
          rcases tb with _ | _
          · simp only [Bool.false_eq_true, if_false] at hend
            have HCL := Lib.hid (hcl.skip hlt hend)
            clear hcl hend HS
            go_wp2_with fail
            go_roundw
            case rel => exact ⟨k + 1, by omega, by go_num, HCL, HBwx⟩
            case measure => simp [intOf]; omega
          · simp only [if_true] at hend
            obtain ⟨fs, hf1, hf2, hf3, hf4⟩ := hcl
            obtain ⟨A4, c4, rfl, hlc4, hcm4, -⟩ := hf3.value
            have HLd : Hid (∀ W, Below wr.heap.size wr W → W.ownsRow 0 75 4 (.slice A4 fs.length c4) fs.length (flat encF fs)) := Lib.hid (fun W hW => own_only hf3.own (Only.of_below hW : Only (fun _ => False) wr W) fun _ _ => id)
            have HFin : Hid (∀ w5 w6 w7 A9 c9 A10 c10 v7 lit, Below wr.heap.size wr w5 → w5.ownsRow wr.heap.size 5 1 (.slice A9 l.length c9) l.length (bv l) → Below w5.heap.size w5 w6 → w6.ownsRow w5.heap.size 5 1 (.slice A10 l.length c10) l.length (bv l) →
                (w6.alloc lit).grownBy w7 (Value.slice A4 fs.length c4).ownBlock → (v7.ownBlock = (Value.slice A4 fs.length c4).ownBlock ∨ v7.ownBlock = some (w6.alloc lit).heap.size) → w7.ownsRow 0 75 4 v7 (fs.length + 1) (flat encF fs ++ [.string fn, .slice A9 l.length c9, .slice A10 l.length c10, .bool true]) →
                CrLaid R picks w w7 v7 (k + 1) ∧ Below w.heap.size w w7) := Lib.hid (by
              intro w5 w6 w7 A9 c9 A10 c10 v7 lit hb5 ho5 hb6 ho6 hg7 hat7 ho7
              have b2 : Below wr.heap.size wr w6 := hb5.trans (hb6.mono hb5.size)
              have o6 : Only (fun _ => False) wr w6 := Only.of_below b2
              have s5 := hb5.size
              have s6 := hb6.size
              have sx := HBwx.out.size
              have o9 : BOwn w6 (New w w6) (.slice A9 l.length c9) l := ((bown_of_own (F := New w w5) ho5 fun k h1 h2 => ⟨by omega, h2⟩).only (G := fun _ => False) (Only.of_below hb6) fun _ _ => id).mono (new_mono s6)
              have o10 : BOwn w6 (New w w6) (.slice A10 l.length c10) l := bown_of_own ho6 fun k h1 h2 => ⟨by omega, h2⟩
              exact cr_push hf1 hf2 ((hf3.only o6 fun _ _ => id).mono (new_mono b2.size)) (fun f hf => ⟨((hf4 f hf).1.only o6 fun _ _ => id).mono (new_mono b2.size), ((hf4 f hf).2.only o6 fun _ _ => id).mono (new_mono b2.size)⟩) hlt (by omega) ⟨fn, .slice A9 l.length c9, l, .slice A10 l.length c10, l, true⟩ hend ⟨o9, o10⟩ hg7 hat7 ho7 (HBwx.out.trans (b2.mono sx)))
            have HCpA : Hid (Calls Try.prog 54 #[.slice A7 l.length c7] wr.drew fun e w' => ∃ v, e = .returned v ∧ w'.ownsRow wr.heap.size 5 1 v l.length (bv l) ∧ Below wr.heap.size wr w') := Lib.hid ((copy_any l A7 wr.heap.size c7 wr.drew (by omega) HRd.out).mono fun e w' ⟨v, h2, h3, h4⟩ => ⟨v, h2, h3, below_of_drew h4⟩)
            have HCpB : Hid (∀ W, Below wr.heap.size wr W → Calls Try.prog 54 #[.slice A7 l.length c7] W fun e w' => ∃ v, e = .returned v ∧ w'.ownsRow W.heap.size 5 1 v l.length (bv l) ∧ Below W.heap.size W w') := Lib.hid (fun W hW => copy_any l A7 wr.heap.size c7 W (by omega) (HRd.out.below hW))
            have hfl4 : fs.length ≤ 1000000 := by omega
            clear hf1 hf2 hf3 hf4 hend HS
            go_wp2_with fail
            go_region_law (first
              | (refine step_append_any _ (by rfl) (.tmp 85) (.tmp 93) 29 (by rfl) 0 75 i0 (.agg #[.string ByteArray.empty, .slice none 0 0, .slice none 0 0, .bool false]) 4 72 Try.underlying29 hi0 hz0 hz1 hz2 rfl (by decide) (.slice A4 fs.length c4) fs.length _ (by rfl) ((HLd.out w6 BB2).alloc _) (w6.heap.size + 1) (some ⟨w6.heap.size, 0, none⟩) 1 1 [.string fn, .slice A9 l.length c9, .slice A10 l.length c10, .bool true] (by rfl) (reads_new4 w6 75 [.string fn, .slice A9 l.length c9, .slice A10 l.length c10, .bool true] rfl) (one_four _ _ _ _ rfl) (by unfold maxLen; omega) (by omega) (Nat.zero_le _) ?_; intro v7 w7 ho7 hg7 hat7; have hFN := HFin.out w5 w6 w7 A9 c9 A10 c10 v7 _ HBK.out HO5.out HBK6.out HO6.out hg7 hat7 ho7; have HFN := Lib.hid hFN; clear hFN ho7 hg7 hat7)
              | (go_simp; go_at_call 54; refine (HCpB.out w5 HBK.out).mono ?_; rintro e w6 ⟨v6, rfl, ho6, hb6⟩; obtain ⟨A10, c10, rfl⟩ := own_slice ho6; have HO6 := Lib.hid ho6; have HBK6 := Lib.hid hb6; have BB2 : Below wr.heap.size wr w6 := HBK.out.trans (hb6.mono HBK.out.size); have g0'' := (BB2.cell (p := ⟨n0, 0, none⟩) hn0x).trans g0; have hn6 : n0 < w6.heap.size := (Nat.lt_of_lt_of_le hn0x BB2.size); clear ho6 hb6)
              | (go_simp; go_at_call 54; refine HCpA.out.mono ?_; rintro e w5 ⟨v5, rfl, ho5, hb5⟩; obtain ⟨A9, c9, rfl⟩ := own_slice ho5; have HO5 := Lib.hid ho5; have HBK := Lib.hid hb5; have g0' := (hb5.cell (p := ⟨n0, 0, none⟩) hn0x).trans g0; have hn5 : n0 < w5.heap.size := (Nat.lt_of_lt_of_le hn0x hb5.size); clear ho5 hb5))
            all_goals
              go_wp2_with fail
              go_roundw
              case rel => exact ⟨k + 1, by omega, by go_num, HFN.out.1, HFN.out.2⟩
              case measure => simp [intOf]; omega
    · obtain rfl : k = R.fr.length := by omega
      obtain ⟨fs, hf1, hf2, hf3, hf4⟩ := HO.out
      obtain ⟨A4, c4, rfl, hlc4, hcm4, -⟩ := hf3.value
      have fz := HRw.out.blk.frozen
      have c3 := HRw.out.cells.2.2.2.1
      have c4' := HRw.out.cells.2.2.2.2.1
      have hnew : ∀ q, New w wr q → Gr F w wr q := fun q hq => .inr hq
      have hr1 := HRw.out.setFiles (G := Gr F w wr) (fun q hq => .inl hq) (.slice A4 fs.length c4) fs (hf3.mono hnew) fun f hf => ⟨(hf4 f hf).1.mono hnew, (hf4 f hf).2.mono hnew⟩
      have hr2 := hr1.setPend (fun q h => h) (.slice none 0 0) [] (row_nil _ _ _ _ _) fun q hq => by simp at hq
      have hr3 := hr2.field 4 (.bool false) { R with fv := .slice A4 fs.length c4, fr := fs, pv := .slice none 0 0, pr := [], down := false } rfl rfl rfl rfl (by simp [RMem.blkOf])
      have hr4 := hr3.field 3 (.bool false) { R with fv := .slice A4 fs.length c4, fr := fs, pv := .slice none 0 0, pr := [], down := false, armed := false } rfl rfl rfl rfl (by simp [RMem.blkOf])
      have HR4 := Lib.hid hr4
      have hst : ({ R with fv := .slice A4 fs.length c4, fr := fs, pv := .slice none 0 0, pr := [], down := false, armed := false } : RMem).st = R.st.crash picks := by
        have h2 : R.st.files.take R.fr.length = R.st.files := List.take_of_length_le (by simp [RMem.st])
        rw [h2] at hf1
        unfold RD.crash
        rw [← hf1]
        rfl
      have HSt := Lib.hid hst
      have HOn := Lib.hid (((((Only.of_below HB.out : Only F w wr)).setCell (p := ⟨p, 5, none⟩) (.inl HR.out.fp) (.slice A4 fs.length c4)).setCell (p := ⟨p, 6, none⟩) (.inl HR.out.fp) (.slice none 0 0)).setCell (p := ⟨p, 4, none⟩) (.inl HR.out.fp) (.bool false) |>.setCell (p := ⟨p, 3, none⟩) (.inl HR.out.fp) (.bool false))
      clear hf1 hf2 hf3 hf4 hr1 hr2 hr3 hr4 hst HO
      go_wp2
      go_end0
      exact ⟨rfl, ⟨_, HR4.out.mono fun q hq => hq.elim .inl fun hq => .inr (by simpa [World.setCell] using hq), HSt.out⟩, HOn.out⟩
end Go.Proofs.Ytoihkanneiknkaa

namespace Go.Proofs.Ytoihkanneiknkaa
open Go.RowKit

def RD.new (room : Int) : RD := ⟨room, 0, 0, false, false, [], []⟩
theorem new_ok (room : Int) (h : 0 ≤ room ∧ room ≤ 1152921504606846976) : (RD.new room).Ok 0 := ⟨h, ⟨Int.le_refl _, Int.le_refl _⟩, ⟨Int.le_refl _, by show (0 : Int) ≤ 9223372036854775807; decide⟩, Nat.zero_le _, fun f hf => by simp [RD.new] at hf, Nat.le_refl _, fun q hq => by simp [RD.new] at hq⟩
theorem sum_bound {α : Type} (f : α → Nat) (m : Nat) (l : List α) (h : ∀ x ∈ l, f x ≤ m) : (l.map f).sum ≤ l.length * m := by
  induction l with
  | nil => simp
  | cons x l ih =>
    have h1 := h x List.mem_cons_self
    have h2 := ih fun y hy => h y (List.mem_cons_of_mem _ hy)
    simp only [List.map_cons, List.sum_cons, List.length_cons, Nat.succ_mul]
    omega
theorem ok_sum {s : RD} {m : Nat} (h : s.Ok m) : s.sum ≤ 16 * m := by
  have h1 := sum_bound (fun f : RF => f.now.length) m s.files fun f hf => (h.now f hf).1
  have h2 := Nat.mul_le_mul_right m h.files
  unfold RD.sum
  omega
section
variable {w w' : World} {F G : Nat → Prop} {p m : Nat} {s : RD} {R : RMem}
theorem ok_fine (h : R.st.Ok m) (hm : m ≤ 1000000) : R.Fine ∧ R.fr.length ≤ 16 ∧ R.pr.length ≤ 1000000 ∧ (∀ f ∈ R.fr, f.safe.length ≤ 549755813888) ∧ ∀ q ∈ R.pr, q.at' + q.b.length ≤ 549755813888 := by
  have h1 := ok_sum h
  refine ⟨⟨by omega, h.room, ⟨h.chg.1, by have : R.changes ≤ (m : Int) := h.chg.2; omega⟩, h.left⟩, ?_, ?_, fun f hf => ?_, fun q hq => ?_⟩
  · simpa [RMem.st] using h.files
  · have := h.pend
    simp [RMem.st] at this
    omega
  · have : f.safe.length ≤ m := (h.now f.toF (by simpa [RMem.st] using ⟨f, hf, rfl⟩)).2
    omega
  · have : q.at' + q.b.length ≤ m := h.ends q.toP (by simpa [RMem.st] using ⟨q, hq, rfl⟩)
    omega
theorem RefAt.only (h : RefAt w F p s) (ho : Only G w w') (hn : ∀ k, F k → ¬ G k) : RefAt w' F p s := by
  obtain ⟨R, h, rfl⟩ := h
  exact ⟨R, h.only ho hn, rfl⟩
theorem RefAt.mono (h : RefAt w F p s) (hF : ∀ k, F k → G k) : RefAt w G p s := by
  obtain ⟨R, h, rfl⟩ := h
  exact ⟨R, h.mono hF, rfl⟩
theorem ref_new (w : World) (room : Int) : RefAt (w.alloc (.cells #[.int .i64 room, .int .i64 0, .int .i64 0, .bool false, .bool false, .slice none 0 0, .slice none 0 0] 32)) (fun k => k = w.heap.size) w.heap.size (RD.new room) :=
  ⟨⟨room, 0, 0, false, false, .slice none 0 0, .slice none 0 0, [], []⟩, ⟨heap_alloc_new _ _, rfl, row_nil _ _ _ _ _, row_nil _ _ _ _ _, fun f hf => by simp at hf, fun q hq => by simp at hq⟩, rfl⟩
theorem ref_write (nm : ByteArray) (at' : Int) (b : List UInt8) (A : Option Addr) (c : Nat) (h : RefAt w F p s) (ho : s.Ok m) (hm : m ≤ 1000000) (hn : nm.size ≤ 9223372036854775807) (ha : -9223372036854775808 ≤ at' ∧ at' ≤ 9223372036854775807) (hb : b.length ≤ 1073741824)
    (hr : Reads w w.heap.size 1 A b.length (bv b)) (hs : ∀ ad, A = some ad → ¬ F ad.block) (hbc : b.length ≤ c) :
    Calls Try.prog 30 #[.pointer (some ⟨p, 0, none⟩), .string nm, .int .i64 at', .slice A b.length c] w fun e w' => OpAt F p (s.write nm at' b).1 (s.write nm at' b).2 w e w' := by
  obtain ⟨R, h, rfl⟩ := h
  obtain ⟨h1, h2, h3, _, _⟩ := ok_fine ho hm
  exact write_any nm at' b A c F p R w h h1 hn ha hb h2 h3 hr hs hbc
theorem ref_load (nm : ByteArray) (b : List UInt8) (A : Option Addr) (c : Nat) (h : RefAt w F p s) (ho : s.Ok m) (hm : m ≤ 1000000) (hn : nm.size ≤ 9223372036854775807) (hb : b.length ≤ 1073741824)
    (hr : Reads w w.heap.size 1 A b.length (bv b)) (hs : ∀ ad, A = some ad → ¬ F ad.block) :
    Calls Try.prog 34 #[.pointer (some ⟨p, 0, none⟩), .string nm, .slice A b.length c] w fun e w' => OpAt F p (s.load nm b).1 (s.load nm b).2 w e w' := by
  obtain ⟨R, h, rfl⟩ := h
  obtain ⟨h1, h2, h3, _, _⟩ := ok_fine ho hm
  exact load_any nm b A c F p R w h h1 hn hb h2 h3 hr hs
theorem ref_cut (nm : ByteArray) (n : Int) (h : RefAt w F p s) (ho : s.Ok m) (hm : m ≤ 1000000) (hn : nm.size ≤ 9223372036854775807) (hnn : -9223372036854775808 ≤ n ∧ n ≤ 9223372036854775807) :
    Calls Try.prog 31 #[.pointer (some ⟨p, 0, none⟩), .string nm, .int .i64 n] w fun e w' => OpAt F p (s.cut nm n).1 (s.cut nm n).2 w e w' := by
  obtain ⟨R, h, rfl⟩ := h
  obtain ⟨h1, h2, h3, _, _⟩ := ok_fine ho hm
  exact cut_any nm n F p R w h h1 hn hnn h3
theorem ref_sync (nm : ByteArray) (h : RefAt w F p s) (ho : s.Ok m) (hm : m ≤ 1000000) (hn : nm.size ≤ 9223372036854775807) :
    Calls Try.prog 32 #[.pointer (some ⟨p, 0, none⟩), .string nm] w fun e w' => OpAt F p (s.sync nm).1 (s.sync nm).2 w e w' := by
  obtain ⟨R, h, rfl⟩ := h
  obtain ⟨h1, h2, h3, _, _⟩ := ok_fine ho hm
  exact sync_any nm F p R w h h1 hn h3
theorem ref_arm (n : Int) (h : RefAt w F p s) :
    Calls Try.prog 35 #[.pointer (some ⟨p, 0, none⟩), .int .i64 n] w fun e w' => OpAt F p (s.arm n).1 (s.arm n).2 w e w' := by
  obtain ⟨R, h, rfl⟩ := h
  exact arm_any n F p R w h
theorem ref_free (h : RefAt w F p s) (ho : s.Ok m) (hm : m ≤ 1000000) :
    Calls Try.prog 37 #[.pointer (some ⟨p, 0, none⟩)] w fun e w' => e = .returned (.int .i64 s.free) ∧ Only (fun _ => False) w w' := by
  obtain ⟨R, h, rfl⟩ := h
  exact free_any F p R w h (ok_fine ho hm).1
theorem ref_read (nm : ByteArray) (at' n : Int) (h : RefAt w F p s) (ho : s.Ok m) (hm : m ≤ 1000000) (hn : nm.size ≤ 9223372036854775807) (ha : -9223372036854775808 ≤ at' ∧ at' ≤ 9223372036854775807) (hnn : -9223372036854775808 ≤ n ∧ n ≤ 9223372036854775807) :
    Calls Try.prog 33 #[.pointer (some ⟨p, 0, none⟩), .string nm, .int .i64 at', .int .i64 n] w fun e w' => ReadAt (s.read nm at' n).1 (s.read nm at' n).2 w e w' := by
  obtain ⟨R, h, rfl⟩ := h
  exact read_any nm at' n F p R w h (ok_fine ho hm).1 hn ha hnn
theorem ref_crash (picks : List Int) (A : Option Addr) (c : Nat) (h : RefAt w F p s) (ho : s.Ok m) (hm : m ≤ 1000000) (hpk : picks.length ≤ 9223372036854775807) (hpi : ∀ x ∈ picks, -9223372036854775808 ≤ x ∧ x ≤ 9223372036854775807) (hr : Reads w w.heap.size 1 A picks.length (pv_ picks)) :
    Calls Try.prog 36 #[.pointer (some ⟨p, 0, none⟩), .slice A picks.length c] w fun e w' => e = .returned (.tuple #[]) ∧ RefAt w' (Gr F w w') p (s.crash picks) ∧ Only F w w' := by
  obtain ⟨R, h, rfl⟩ := h
  obtain ⟨h1, h2, h3, h4, h5⟩ := ok_fine ho hm
  exact crash_any picks A c F p R w h hpk hpi hr (by omega) h3 h4 h5
end
end Go.Proofs.Ytoihkanneiknkaa
