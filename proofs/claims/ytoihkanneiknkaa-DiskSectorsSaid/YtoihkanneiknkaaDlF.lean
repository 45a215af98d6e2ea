/- Contracts of the landed disk: fits, Size, Free, Changes, Down, Arm, New. Conditions: the disk is in memory as named; its numbers are within bounds. -/
import Derived.Test.YtoihkanneiknkaaDlA
import Derived.Deep.RegionHeld3
import Derived.Deep.DeepCutAuto
import Derived.StillTactics
import Derived.Deep.DrawnRows
namespace Go.Proofs.Ytoihkanneiknkaa
open Go.RowKit Go.Maps
attribute [local go_sem ↓] Go.wp_at_zero Go.wp_at_succ

structure LMem.Fine (L : LMem) : Prop where
  sum : L.st.sum ≤ 549755813888
  room : 0 ≤ L.room ∧ L.room ≤ 1152921504606846976
  chg : 0 ≤ L.changes ∧ L.changes ≤ 1152921504606846976
  left : 0 ≤ L.left ∧ L.left ≤ 9223372036854775807
  few : L.fr.length ≤ 16
section
variable {L : LMem} {nm : ByteArray} {f : GF}
theorem lst_names (L : LMem) : L.st.names = L.fr.map (·.name) := by simp [LMem.st, RD.names, GF.toF, Function.comp_def]
theorem getF_find_none (h : getF L.fr nm = none) : L.st.find nm = none := pos_none.2 fun hm => by
  rw [lst_names] at hm
  obtain ⟨f, hf, e⟩ := List.mem_map.1 hm
  exact getF_none h f hf e
theorem getF_find_some (hs : (L.fr.map (·.name)).Pairwise bLt) (h : getF L.fr nm = some f) : ∃ k, ∃ hk : k < L.fr.length, L.fr[k] = f ∧ L.st.find nm = some k := by
  have hg := getF_some h
  obtain ⟨k, hk, e⟩ := List.getElem_of_mem hg.1
  refine ⟨k, hk, e, pos_some.2 ⟨by rw [lst_names]; simpa using hk, ?_, fun j hj => ?_⟩⟩
  · simp only [lst_names, List.getElem_map]
    rw [e, hg.2]
  · simp only [lst_names, List.getElem_map]
    intro e2
    have e3 := name_inj hs (List.getElem_mem (by omega : j < L.fr.length)) hg.1 (e2.trans hg.2.symm)
    have h1 := List.pairwise_iff_getElem.1 hs j k (by simpa using (by omega : j < L.fr.length)) (by simpa using hk) hj
    simp only [List.getElem_map] at h1
    rw [e3, e] at h1
    exact bLt_irrefl _ h1
theorem getF_had_none (h : getF L.fr nm = none) : L.st.had nm = 0 := by
  unfold RD.had
  rw [getF_find_none h]
theorem getF_had_some (hs : (L.fr.map (·.name)).Pairwise bLt) (h : getF L.fr nm = some f) : L.st.had nm = f.now.length := by
  obtain ⟨k, hk, e, hf⟩ := getF_find_some hs h
  unfold RD.had
  rw [hf]
  have : L.st.files[k]? = some f.toF := by
    simp only [LMem.st, List.getElem?_map, List.getElem?_eq_getElem hk, e, Option.map_some]
  simp only [this, Option.map_some, Option.getD_some]
  rfl
theorem lhad_le (hs : (L.fr.map (·.name)).Pairwise bLt) (nm : ByteArray) : L.st.had nm ≤ L.st.sum := by
  rcases h : getF L.fr nm with _ | f
  · rw [getF_had_none h]; omega
  · rw [getF_had_some hs h, lst_sum]
    have := (getF_some h).1
    obtain ⟨k, hk, e⟩ := List.getElem_of_mem this
    have h2 := List.take_append_drop k L.fr
    rw [← h2, List.drop_eq_getElem_cons hk, e]
    simp only [List.map_append, List.map_cons, List.sum_append, List.sum_cons]
    omega
theorem getF_isNone (L : LMem) (nm : ByteArray) : (L.st.find nm = none) ↔ (getF L.fr nm = none) := by
  constructor
  · intro h
    rcases h2 : getF L.fr nm with _ | f
    · rfl
    · have := getF_some h2
      exact absurd (by rw [lst_names]; exact List.mem_map.2 ⟨f, this.1, this.2⟩) (pos_none.1 h)
  · exact getF_find_none
end

set_option maxRecDepth 100000 in
set_option maxHeartbeats 1600000 in
theorem lfits_any (nm : ByteArray) (size : Nat) (F : Nat → Prop) (p : Nat) (L : LMem) (w : World) (h : DiskM w F p L) (hf : L.Fine) (hn : nm.size ≤ 9223372036854775807) (hsz : size ≤ 36028797018963968) :
    Calls Try.prog 39 #[.pointer (some ⟨p, 0, none⟩), .string nm, .int .i64 (size : Int)] w fun e w' => e = .returned (.int .i64 (L.st.fits nm size : Int)) ∧ Below w.heap.size w w' := by
  obtain ⟨c0, c1, c2, c3, c4, c5, c6⟩ := h.cells
  have hp : p < w.heap.size := h.blk.lt
  have hlook := look_run h.map nm hn
  have hlen := fun ty => len_run h.map ty
  have HU : Hid (∀ W, Below w.heap.size w W → Calls Try.prog 51 #[.pointer (some ⟨p, 0, none⟩)] W fun e w' => e = .returned (.int .i64 (L.st.sum : Int)) ∧ Below W.heap.size W w') := Lib.hid (fun W hb => used_any F p L W (h.below hb) (by have := hf.sum; omega))
  have hsum := hf.sum
  have hroom := hf.room
  have hfew := hf.few
  have hlei := lhad_le h.srt nm
  have HE0 : Hid (L.st.fits nm size = if L.st.find nm = none ∧ L.fr.length = 16 then 11 else if L.st.had nm < size ∧ L.room < (L.st.sum : Int) - L.st.had nm + size then 7 else 0) := Lib.hid (by
    unfold RD.fits
    have : L.st.files.length = L.fr.length := by simp [LMem.st]
    rw [this]
    rfl)
  have HB : Hid (Below w.heap.size w w.drew) := Lib.hid (Below.refl w.heap.size w).drew
  unfold ptrOf at hlook
  have HR := Lib.hid h
  clear hf h c2 c3 c4 c5 c6
  -- what stands behind the look-up
  rcases hg : getF L.fr nm with _ | f
  · have hfd := getF_find_none hg
    have hh := getF_had_none hg
    rw [hg] at hlook
    simp only [Option.map_none, Option.isSome_none] at hlook
    rw [hh] at HE0 hlei
    clear hg hh
    by_cases h16 : L.fr.length = 16
    · rw [if_pos ⟨hfd, h16⟩] at HE0
      rw [h16] at hlen
      clear hfd h16 hlei
      go_enter Try.func39, Try.ntmps39
      go_wp2
      go_ret
      rw [HE0.out]
      exact ⟨rfl, Below.refl _ _⟩
    · rw [if_neg (fun hh => h16 hh.2)] at HE0
      have h16' : (L.fr.length : Int) < 16 := by omega
      generalize L.fr.length = n16 at *
      clear h16 hfd hlei
      generalize L.st.sum = sm at *
      by_cases hz0 : 0 < size
      · have hz1 : decide (0 < size) = true := decide_eq_true hz0
        have hw1 : IntKind.i64.wrap ((sm : Int) + (size : Int)) = (sm : Int) + (size : Int) := IntWalk.i64_in _ (by omega)
        by_cases hrm : L.room < (sm : Int) - (0 : Nat) + size
        · have hrm' : L.room < (sm : Int) + size := by omega
          rw [if_pos ⟨hz0, hrm⟩] at HE0
          clear hz0 hrm
          go_enter Try.func39, Try.ntmps39
          go_upto_region 7 with fail
          go_region_held3 (fun w' => Below w.heap.size w w' ∧ w'.cell? ⟨p, 0, none⟩ = some (.int .i64 L.room))
            (first
              | exact ⟨HB.out, c0⟩
              | exact ⟨b1, (b1.cell (p := ⟨p, 0, none⟩) hp).trans c0⟩
              | go_keep)
            (first
              | (go_at_call 51; refine (HU.out _ HB.out).mono ?_; rintro e w1 ⟨rfl, hb⟩; have b1 := HB.out.trans (hb.mono HB.out.size))
              | fail)
          have HB1 := Lib.hid b1
          clear b1 hb
          go_wp2_with fail
          go_ret
          rw [HE0.out]
          exact ⟨rfl, HB1.out⟩
        · have hrm' : (sm : Int) + size ≤ L.room := by omega
          rw [if_neg (fun hh => hrm hh.2)] at HE0
          clear hz0 hrm
          go_enter Try.func39, Try.ntmps39
          go_upto_region 7 with fail
          go_region_held3 (fun w' => Below w.heap.size w w' ∧ w'.cell? ⟨p, 0, none⟩ = some (.int .i64 L.room))
            (first
              | exact ⟨HB.out, c0⟩
              | exact ⟨b1, (b1.cell (p := ⟨p, 0, none⟩) hp).trans c0⟩
              | go_keep)
            (first
              | (go_at_call 51; refine (HU.out _ HB.out).mono ?_; rintro e w1 ⟨rfl, hb⟩; have b1 := HB.out.trans (hb.mono HB.out.size))
              | fail)
          have HB1 := Lib.hid b1
          clear b1 hb
          go_wp2_with fail
          go_ret
          rw [HE0.out]
          exact ⟨rfl, HB1.out⟩
      · obtain rfl : size = 0 := by omega
        rw [if_neg (fun hh => hz0 hh.1)] at HE0
        have hz1 : decide ((0 : Nat) < 0) = false := by decide
        clear hz0
        go_enter Try.func39, Try.ntmps39
        go_upto_region 7 with fail
        go_quiet (fail)
        go_wp2_with fail
        go_ret
        rw [HE0.out]
        exact ⟨rfl, below_drewN (Below.refl _ _) _⟩
  · have hfd := getF_find_some HR.out.srt hg
    have hh := getF_had_some HR.out.srt hg
    have hfd2 : L.st.find nm ≠ none := fun e => by
      obtain ⟨k, _, _, e2⟩ := hfd
      rw [e] at e2
      cases e2
    rw [if_neg (fun hx => hfd2 hx.1)] at HE0
    rw [hg] at hlook
    simp only [Option.map_some, Option.isSome_some] at hlook
    rw [hh] at HE0 hlei
    have hfm := (getF_some hg).1
    have d0 := (HR.out.file f hfm).cells.1
    obtain ⟨A, cc, hnv, -, -, -⟩ := (HR.out.file f hfm).now.value
    rw [hnv] at d0
    clear hg hh hfd hfd2 hfm hnv hlen
    generalize f.now.length = m at *
    generalize f.g = g at *
    generalize L.st.sum = sm at *
    by_cases hz0 : m < size
    · have hz1 : decide (m < size) = true := decide_eq_true hz0
      have hw1 : IntKind.i64.wrap ((sm : Int) + ((size : Int) - (m : Int))) = (sm : Int) + ((size : Int) - (m : Int)) := IntWalk.i64_in _ (by omega)
      by_cases hrm : L.room < (sm : Int) - m + size
      · have hrm' : L.room < (sm : Int) + ((size : Int) - (m : Int)) := by omega
        rw [if_pos ⟨hz0, hrm⟩] at HE0
        clear hz0 hrm
        go_enter Try.func39, Try.ntmps39
        go_upto_region 7 with fail
        go_region_held3 (fun w' => Below w.heap.size w w' ∧ w'.cell? ⟨p, 0, none⟩ = some (.int .i64 L.room))
          (first
            | exact ⟨HB.out, c0⟩
            | exact ⟨b1, (b1.cell (p := ⟨p, 0, none⟩) hp).trans c0⟩
            | go_keep)
          (first
            | (go_at_call 51; refine (HU.out _ HB.out).mono ?_; rintro e w1 ⟨rfl, hb⟩; have b1 := HB.out.trans (hb.mono HB.out.size))
            | fail)
        have HB1 := Lib.hid b1
        clear b1 hb
        go_wp2_with fail
        go_ret
        rw [HE0.out]
        exact ⟨rfl, HB1.out⟩
      · have hrm' : (sm : Int) + ((size : Int) - (m : Int)) ≤ L.room := by omega
        rw [if_neg (fun hh => hrm hh.2)] at HE0
        clear hz0 hrm
        go_enter Try.func39, Try.ntmps39
        go_upto_region 7 with fail
        go_region_held3 (fun w' => Below w.heap.size w w' ∧ w'.cell? ⟨p, 0, none⟩ = some (.int .i64 L.room))
          (first
            | exact ⟨HB.out, c0⟩
            | exact ⟨b1, (b1.cell (p := ⟨p, 0, none⟩) hp).trans c0⟩
            | go_keep)
          (first
            | (go_at_call 51; refine (HU.out _ HB.out).mono ?_; rintro e w1 ⟨rfl, hb⟩; have b1 := HB.out.trans (hb.mono HB.out.size))
            | fail)
        have HB1 := Lib.hid b1
        clear b1 hb
        go_wp2_with fail
        go_ret
        rw [HE0.out]
        exact ⟨rfl, HB1.out⟩
    · have hz1 : decide (m < size) = false := decide_eq_false hz0
      rw [if_neg (fun hh => hz0 hh.1)] at HE0
      clear hz0
      go_enter Try.func39, Try.ntmps39
      go_upto_region 7 with fail
      go_quiet (fail)
      go_wp2_with fail
      go_ret
      rw [HE0.out]
      exact ⟨rfl, below_drewN (Below.refl _ _) _⟩

/-- The size that is told. -/
def RD.lsize (s : RD) (nm : ByteArray) : Int := if named nm = false ∨ s.down = true ∨ s.find nm = none then -1 else s.had nm
theorem thereN_cases (L : LMem) (nm : ByteArray) : (thereN L nm = 0 ∧ (∃ f, getF L.fr nm = some f ∧ thereV L nm = some ⟨f.g, 0, none⟩) ∧ named nm = true ∧ L.st.down = false) ∨
    (thereN L nm = 6 ∧ thereV L nm = none ∧ getF L.fr nm = none ∧ named nm = true ∧ L.st.down = false) ∨ (thereN L nm = 1 ∧ thereV L nm = none ∧ named nm = false) ∨ (thereN L nm = 8 ∧ thereV L nm = none ∧ named nm = true ∧ L.st.down = true) := by
  unfold thereN thereV askN ptrOf
  rcases hnm : named nm with _ | _
  · exact .inr (.inr (.inl (by simp)))
  · rcases hdn : L.st.down with _ | _
    · rcases hg : getF L.fr nm with _ | f
      · exact .inr (.inl (by simp))
      · exact .inl (by simp)
    · exact .inr (.inr (.inr (by simp)))

set_option maxRecDepth 100000 in
set_option maxHeartbeats 800000 in
theorem size_any (nm : ByteArray) (F : Nat → Prop) (p : Nat) (L : LMem) (w : World) (h : DiskM w F p L) (hn : nm.size ≤ 9223372036854775807) :
    Calls Try.prog 19 #[.pointer (some ⟨p, 0, none⟩), .string nm] w fun e w' => e = .returned (.int .i64 (L.st.lsize nm)) ∧ w = w' := by
  have HT := Lib.hid (there_any nm F p L w h hn)
  have HR := Lib.hid h
  clear h
  rcases thereN_cases L nm with ⟨h1, ⟨f, hg, h2⟩, h3, h4⟩ | ⟨h1, h2, hg, h3, h4⟩ | ⟨h1, h2, h3⟩ | ⟨h1, h2, h3, h4⟩
  all_goals rw [h1, h2] at HT
  · have HS : Hid (L.st.lsize nm = f.now.length) := Lib.hid (by
      unfold RD.lsize
      rw [if_neg (by rw [h3, h4]; intro hx; rcases hx with hx | hx | hx; · cases hx
                     · cases hx
                     · rw [(getF_isNone L nm).1 hx] at hg; cases hg), getF_had_some HR.out.srt hg])
    have hfm := (getF_some hg).1
    have d0 := (HR.out.file f hfm).cells.1
    obtain ⟨A, cc, hnv, -, -, -⟩ := (HR.out.file f hfm).now.value
    rw [hnv] at d0
    clear h1 h2 h3 h4 hg hnv hfm
    go_enter Try.func19, Try.ntmps19
    go_wp2_with (go_at_call 47; refine HT.out.mono ?_; rintro e w' ⟨rfl, rfl⟩)
    go_ret
    rw [HS.out]
    exact ⟨rfl, rfl⟩
  · have HS : Hid (L.st.lsize nm = -1) := Lib.hid (by
      unfold RD.lsize
      rw [if_pos (.inr (.inr (getF_find_none hg)))])
    clear h1 h2 h3 h4 hg
    go_enter Try.func19, Try.ntmps19
    go_wp2_with (go_at_call 47; refine HT.out.mono ?_; rintro e w' ⟨rfl, rfl⟩)
    go_ret
    rw [HS.out]
    exact ⟨rfl, rfl⟩
  · have HS : Hid (L.st.lsize nm = -1) := Lib.hid (by
      unfold RD.lsize
      rw [if_pos (.inl h3)])
    clear h1 h2 h3
    go_enter Try.func19, Try.ntmps19
    go_wp2_with (go_at_call 47; refine HT.out.mono ?_; rintro e w' ⟨rfl, rfl⟩)
    go_ret
    rw [HS.out]
    exact ⟨rfl, rfl⟩
  · have HS : Hid (L.st.lsize nm = -1) := Lib.hid (by
      unfold RD.lsize
      rw [if_pos (.inr (.inl h4))])
    clear h1 h2 h3 h4
    go_enter Try.func19, Try.ntmps19
    go_wp2_with (go_at_call 47; refine HT.out.mono ?_; rintro e w' ⟨rfl, rfl⟩)
    go_ret
    rw [HS.out]
    exact ⟨rfl, rfl⟩

set_option maxRecDepth 100000 in
set_option maxHeartbeats 800000 in
theorem lfree_any (F : Nat → Prop) (p : Nat) (L : LMem) (w : World) (h : DiskM w F p L) (hf : L.Fine) :
    Calls Try.prog 21 #[.pointer (some ⟨p, 0, none⟩)] w fun e w' => e = .returned (.int .i64 L.st.free) ∧ Below w.heap.size w w' := by
  obtain ⟨c0, -, -, -, -, -, -⟩ := h.cells
  have hp : p < w.heap.size := h.blk.lt
  have HU : Hid (∀ W, Below w.heap.size w W → Calls Try.prog 51 #[.pointer (some ⟨p, 0, none⟩)] W fun e w' => e = .returned (.int .i64 (L.st.sum : Int)) ∧ Below W.heap.size W w') := Lib.hid (fun W hb => used_any F p L W (h.below hb) (by have := hf.sum; omega))
  have hsum := hf.sum
  have hroom := hf.room
  have HB : Hid (Below w.heap.size w w.drew) := Lib.hid (Below.refl w.heap.size w).drew
  have HE : Hid (L.st.free = max 0 (L.room - L.st.sum)) := rfl
  clear hf h
  generalize L.st.sum = sm at *
  have hw1 : IntKind.i64.wrap (L.room - (sm : Int)) = L.room - (sm : Int) := IntWalk.i64_in _ (by omega)
  go_enter Try.func21, Try.ntmps21
  go_upto_region 3 with fail
  go_region_held3 (fun w' => Below w.heap.size w w' ∧ w'.cell? ⟨p, 0, none⟩ = some (.int .i64 L.room))
    (first
      | exact ⟨HB.out, c0⟩
      | exact ⟨b1, (b1.cell (p := ⟨p, 0, none⟩) hp).trans c0⟩
      | go_keep)
    (first
      | (go_at_call 51; refine (HU.out _ HB.out).mono ?_; rintro e w1 ⟨rfl, hb⟩; have b1 := HB.out.trans (hb.mono HB.out.size))
      | fail)
  have HB1 := Lib.hid b1
  clear b1 hb
  go_wp2_with fail
  all_goals
    go_ret
    rw [HE.out]
    exact ⟨congrArg (fun x => Ending.returned (.int .i64 x)) (by show _ = _; omega), HB1.out⟩

set_option maxHeartbeats 800000 in
theorem lchanges_any (F : Nat → Prop) (p : Nat) (L : LMem) (w : World) (h : DiskM w F p L) :
    Calls Try.prog 25 #[.pointer (some ⟨p, 0, none⟩)] w fun e w' => e = .returned (.int .i64 L.changes) ∧ w = w' := by
  obtain ⟨-, -, -, c3, -, -, -⟩ := h.cells
  clear h
  go_enter Try.func25, Try.ntmps25
  go_wp2
  go_ret
  exact ⟨rfl, rfl⟩
set_option maxHeartbeats 800000 in
theorem ldown_any (F : Nat → Prop) (p : Nat) (L : LMem) (w : World) (h : DiskM w F p L) :
    Calls Try.prog 27 #[.pointer (some ⟨p, 0, none⟩)] w fun e w' => e = .returned (.bool L.down) ∧ w = w' := by
  obtain ⟨-, -, -, -, -, -, c6⟩ := h.cells
  clear h
  go_enter Try.func27, Try.ntmps27
  go_wp2
  go_ret
  exact ⟨rfl, rfl⟩

/-- A call has answered n, and left s. -/
def LOp (F : Nat → Prop) (p : Nat) (s : RD) (n : Nat) (w : World) (e : Ending) (w' : World) : Prop := e = .returned (.int .i64 (n : Int)) ∧ (∃ L', DiskM w' (Gr F w w') p L' ∧ L'.st = s) ∧ Only F w w'
theorem lop_same {F : Nat → Prop} {p n : Nat} {L : LMem} {w : World} (h : DiskM w F p L) : LOp F p L.st n w (.returned (.int .i64 (n : Int))) w := ⟨rfl, ⟨L, h.mono fun _ hk => .inl hk, rfl⟩, Only.refl _ _⟩
set_option maxHeartbeats 800000 in
theorem larm_any (n : Int) (F : Nat → Prop) (p : Nat) (L : LMem) (w : World) (h : DiskM w F p L) :
    Calls Try.prog 26 #[.pointer (some ⟨p, 0, none⟩), .int .i64 n] w fun e w' => LOp F p (L.st.arm n).1 (L.st.arm n).2 w e w' := by
  have HR := Lib.hid h
  obtain ⟨-, -, -, -, c4, c5, -⟩ := h.cells
  have fz := h.blk.frozen
  by_cases hn : n < 0
  · have HE : Hid (L.st.arm n = (L.st, 1)) := Lib.hid (by unfold RD.arm; rw [if_pos hn])
    rw [HE.out]
    clear h
    go_enter Try.func26, Try.ntmps26
    go_wp2
    go_ret
    exact lop_same HR.out
  · have HE : Hid (L.st.arm n = ({ L.st with armed := true, left := n }, 0)) := Lib.hid (by unfold RD.arm; rw [if_neg hn])
    have hn' : 0 ≤ n := by omega
    have H2 := Lib.hid ((h.field 4 (.bool true) { L with armed := true } rfl rfl rfl rfl (by simp [LMem.blkOf])).field 5 (.int .i64 n) { L with armed := true, left := n } rfl rfl rfl rfl (by simp [LMem.blkOf]))
    rw [HE.out]
    clear h hn
    go_enter Try.func26, Try.ntmps26
    go_wp2
    go_ret
    exact ⟨rfl, ⟨_, H2.out.mono fun _ hk => .inl hk, rfl⟩, ((Only.refl _ _).setCell (.inl HR.out.fp) _).setCell (.inl HR.out.fp) _⟩
end Go.Proofs.Ytoihkanneiknkaa
