/- Contract of octavoref03.Mix: the right list of the numbers that a way says. Conditions: the slices read as the lists that are named and are short. -/
import Derived.Test.YtfdmbgaincmefaaRngD
import Derived.Test.YtfdmbgaincmefaaRngB
import Derived.Deep.DeepCutAuto
import Derived.IntWalk
namespace Go.Proofs.Ytfdmbgaincmefaa
open Go.RowKit

theorem marks_two (a b : List Rg) (A A' : Option Addr) (c c' : Nat) : marksAll [(A, a, c), (A', b, c')] = ends a b := rfl
theorem bnot_iff {x : Bool} {p : Prop} (h : x = true ↔ p) : x = false ↔ ¬ p := by cases x <;> simp_all
/-- Is the number left out? -/
def skipB (way : Int) (x y : Bool) : Bool := (decide (way = 0) && !x && !y) || (decide (way = 1) && !(x && y)) || (decide (way = 2) && !(x && !y))
theorem skip_iff (a b : List Rg) (way n : Int) (hn : 0 ≤ n) : skipB way (hasR a n) (hasR b n) = false ↔ wayP a b way n := by
  have ha := hasR_iff a n
  have hb := hasR_iff b n
  unfold skipB wayP
  rcases hx : hasR a n with _ | _ <;> rcases hy : hasR b n with _ | _ <;> rw [hx] at ha <;> rw [hy] at hb <;> simp at ha hb <;> simp [ha, hb, hn] <;> omega

/-- What is known of all ends of two lists. -/
def EndsOf (a b : List Rg) (way : Int) (m : List Int) : Prop :=
  ∃ h0 : 0 < m.length, m[0] = 0 ∧ (∀ i (hi : i + 1 = m.length), ∀ n, wayP a b way n → n < m[i]'(by omega)) ∧
    ∀ i (hi : i + 1 < m.length), 0 ≤ m[i] ∧ m[i] < m[i + 1] ∧ ∀ n, m[i] ≤ n → n < m[i + 1] → (wayP a b way n ↔ wayP a b way m[i])
theorem ends_of (a b : List Rg) (way : Int) (hway : way = 0 ∨ way = 1 ∨ way = 2) (_hl : (ends a b).length ≤ 4294967297) : EndsOf a b way (ends a b) := by
  obtain ⟨hris, h0m, hpos, hends⟩ := ends_spec a b
  have hm0 : 0 < (ends a b).length := List.length_pos_of_mem h0m
  refine ⟨hm0, rising_first hris h0m hpos hm0, fun i hi n hn => ?_, fun i hi => ?_⟩
  · have hz := rising_last hris i hi
    have hmem : memR (a ++ b) n := by
      rw [memR_append]
      by_cases h1 : memR a n
      · exact .inl h1
      · by_cases h2 : memR b n
        · exact .inr h2
        · exfalso
          rcases hway with rfl | rfl | rfl
          · exact ((way0 a b n).1 hn).elim h1 h2
          · exact h1 ((way1 a b n).1 hn).1
          · exact h1 ((way2 a b n).1 hn).1
    exact none_behind (a ++ b) hends hz hmem
  · have h0 : 0 ≤ (ends a b)[i] := hpos _ (List.getElem_mem _)
    refine ⟨h0, rising_step hris i hi, fun n h1 h2 => ?_⟩
    have hadj := rising_adj hris i hi
    have ea := alike a (fun r hr => hends r (by simp [hr])) h0 hadj h1 h2
    have eb := alike b (fun r hr => hends r (by simp [hr])) h0 hadj h1 h2
    unfold wayP
    rw [ea, eb]
    have : 0 ≤ n := by omega
    simp [this, h0]

theorem snoc_cases {α : Type} (l : List α) : l = [] ∨ ∃ o x, l = o ++ [x] := by
  refine snoc_induct (P := fun l => l = [] ∨ ∃ o x, l = o ++ [x]) (.inl rfl) (fun o x _ => .inr ⟨o, x, rfl⟩) l
/-- Does the last range end here? -/
def touchB (out : List Rg) (p : Int) : Bool := (out.getLast?.map fun r => r.2 == p).getD false
theorem own_formN {w : World} {base size : Nat} {e : TypeId} {v : Value} {n : Nat} {xs : List Value} (h : w.ownsRow base e size v n xs) (_hs : 0 < size) :
    ∃ A c, v = .slice A n c ∧ n ≤ c ∧ c ≤ maxLen ∧ Reads w w.heap.size size A n xs ∧ ∀ ad, A = some ad → base ≤ ad.block ∧ ad.block < w.heap.size ∧ ad.off = 0 ∧ ad.spot = none := by
  rcases h.2 with ⟨rfl, rfl⟩ | ⟨g, cap, cur, rfl, hb, hh, hc, hm, _⟩
  · exact ⟨_, _, rfl, Nat.le_refl _, by simp [maxLen], Reads.of_own h, fun ad e => by cases e⟩
  · refine ⟨_, _, rfl, hc, hm, Reads.of_own h, fun ad e => ?_⟩
    injection e with e
    subst e
    exact ⟨hb, Blk.lt hh, rfl, rfl⟩

theorem touch_yes {out : List Rg} {p : Int} (h : touchB out p = true) : ∃ o x, out = o ++ [(x, p)] := by
  rcases snoc_cases out with rfl | ⟨o, ⟨x, y⟩, rfl⟩
  · simp [touchB] at h
  · simp [touchB] at h
    subst h
    exact ⟨o, x, rfl⟩
theorem right_before {b : Int} {o : List Rg} {z : Rg} (h : rightFrom b (o ++ [z])) : ∀ r ∈ o, r.2 < z.1 := by
  induction o generalizing b with
  | nil => intro r hr; cases hr
  | cons a o ih =>
    intro r hr
    rcases List.mem_cons.1 hr with rfl | hr
    · exact (rightFrom_mem h.2.2 z (by simp)).1
    · exact ih h.2.2 r hr
theorem touch_no {out : List Rg} {p : Int} {P : Int → Prop} (h : touchB out p = false) (hl : LaidTo P out p) : ∀ r ∈ out, r.2 ≠ p := by
  rcases snoc_cases out with rfl | ⟨o, ⟨x, y⟩, rfl⟩
  · intro r hr; cases hr
  · intro r hr
    have hy : y ≠ p := by simpa [touchB] using h
    have hle := hl.2.1 (x, y) (by simp)
    have hxy := (right_pos hl.1 (x, y) (by simp)).2
    simp only at hle hxy
    rcases List.mem_append.1 hr with hr | hr
    · have := right_before hl.1 r hr
      simp only at this
      omega
    · simp at hr
      subst hr
      exact hy
theorem rgv_set (o : List Rg) (x y z : Int) : (rgv (o ++ [(x, y)])).set (o.length * 2 + 1) (.int .i64 z) = rgv (o ++ [(x, z)]) := by
  rw [rgv_append, rgv_append, List.set_append_right _ _ (by rw [rgv_length]; omega), rgv_length]
  simp [rgv]

theorem reads_rg1 (w : World) (t : TypeId) (p q : Int) : Reads (w.alloc (.cells #[.int .i64 p, .int .i64 q] t)) (w.heap.size + 1) 2 (some ⟨w.heap.size, 0, none⟩) 1 [.int .i64 p, .int .i64 q] :=
  ⟨rfl, fun _ => ⟨_, rfl, by simp, cells_new w t [.int .i64 p, .int .i64 q]⟩⟩

theorem marks_pair (a b : List Rg) (A A' : Option Addr) (c c' : Nat) (w : World) (g : Nat) (hg : w.heap.size = g) (ha : a.length ≤ 1073741824) (hb : b.length ≤ 1073741824) (h : Reads w w.heap.size 2 A a.length (rgv a)) (h' : Reads w w.heap.size 2 A' b.length (rgv b)) :
    Calls Try.prog 29 #[.slice (some ⟨g, 0, none⟩) 2 2] (w.alloc (.cells #[.slice A a.length c, .slice A' b.length c'] 22)) fun e w' => ∃ A'' c'', e = .returned (.slice A'' (ends a b).length c'') ∧ Reads w' w'.heap.size 1 A'' (ends a b).length (iv (ends a b)) ∧ Below w.heap.size w w' := by
  subst hg
  have := marks_any [(A, a, c), (A', b, c')] (some ⟨w.heap.size, 0, none⟩) _ 2 (w.alloc (.cells #[.slice A a.length c, .slice A' b.length c'] 22)) (by simp) (reads_vals0 w 22 [.slice A a.length c, .slice A' b.length c'] 2 rfl) (by
    intro k p hk
    rcases k with _ | _ | k
    · simp at hk
      subst hk
      exact ⟨(h.alloc (Nat.le_refl _) _).here2, ha⟩
    · simp at hk
      subst hk
      exact ⟨(h'.alloc (Nat.le_refl _) _).here2, hb⟩
    · simp at hk)
  rw [marks_two] at this
  exact this.mono fun e w' ⟨A'', c'', h1, h2, h3⟩ => ⟨A'', c'', h1, h2, ((Below.refl _ _).alloc (Nat.le_refl _) _).trans (h3.mono (by simp))⟩

set_option maxRecDepth 100000 in
set_option maxHeartbeats 3200000 in
theorem mix_any (a b : List Rg) (way : Int) (hway : way = 0 ∨ way = 1 ∨ way = 2) (A A' : Option Addr) (B B' c c' : Nat) (w : World) (ha : a.length ≤ 1073741824) (hb : b.length ≤ 1073741824) (h : Reads w B 2 A a.length (rgv a)) (h' : Reads w B' 2 A' b.length (rgv b)) :
    Calls Try.prog 16 #[.slice A a.length c, .slice A' b.length c', .int .i64 way] w fun e w' => ∃ v L, e = .returned v ∧ w'.ownsRow w.heap.size 30 2 v L.length (rgv L) ∧ Canon L (wayP a b way) ∧ L.length ≤ 4294967300 ∧ Below w.heap.size w w' := by
  obtain ⟨i0, hi0, hz0, hz1, hz2⟩ := info_parts rginfo
  have HRa := Lib.hid h.here2
  have HRb := Lib.hid h'.here2
  have hml : (ends a b).length ≤ 4294967297 := by
    have h1 := marksOf_len [0] a
    have h2 := marksOf_len (marksOf [0] a) b
    unfold ends
    simp only [List.length_cons, List.length_nil] at h1
    omega
  have hE : EndsOf a b way (ends a b) := ends_of a b way hway hml
  obtain ⟨m, HE⟩ : ∃ m, Hid (ends a b = m) := ⟨_, rfl⟩
  rw [HE.out] at hE hml
  obtain ⟨hm0, hfirst, hlast, hstep⟩ := hE
  have HFirst := Lib.hid hfirst
  have HLastAll := Lib.hid hlast
  have HStep := Lib.hid hstep
  clear hfirst hlast hstep h h'
  go_enter Try.func16, Try.ntmps16
  go_wp2_with fail
  refine (marks_pair a b A A' c c' w _ rfl ha hb HRa.out HRb.out).mono ?_
  rintro e w1 ⟨A7, c7, rfl, hr7, hb7⟩
  rw [HE.out] at hr7
  rw [HE.out]
  have HR7 := Lib.hid hr7
  have HB7 := Lib.hid hb7
  clear hr7 hb7
  go_wp2_with fail
  go_loopw [8, 9] (fun v i wr => ∃ (k : Nat) (out : List Rg) (hk : k < m.length), i = .int .i64 k ∧ out.length ≤ k ∧ wr.ownsRow w1.heap.size 30 2 v out.length (rgv out) ∧ Hid (LaidTo (wayP a b way) out m[k]) ∧ Below w1.heap.size w1 wr) (fun _ i _ => m.length - (intOf i).toNat)
  case atStart =>
    refine ⟨0, [], hm0, rfl, Nat.le_refl _, own_nil _ _ _ _, ?_, Below.refl _ _⟩
    show LaidTo _ _ _
    rw [HFirst.out]
    exact laid_start _ fun n hn => hn.1
  case round =>
    obtain ⟨k, out, hk, rfl, hol, hown, HLa, hb1⟩ := hrel
    have hbel := HB7.out.trans (hb1.mono HB7.out.size)
    by_cases hlt : k + 1 < m.length
    · obtain ⟨b7, off7, rfl, hbB, hc⟩ := (HR7.out.here2.below hb1).form (by omega)
      have hx := hc k _ (iv_get m k hk)
      have hy := hc (k + 1) _ (iv_get m (k + 1) hlt)
      have hi1 : (k : Int) + 1 < (m.length : Int) := by omega
      have hik : (k : Int) < (m.length : Int) := by omega
      have k0 : (0 : Int) ≤ (k : Int) := by omega
      have k1 : (0 : Int) ≤ (k : Int) + 1 := by omega
      have HSt := Lib.hid (HStep.out k hlt)
      have HSk := Lib.hid (skip_iff a b way m[k] HSt.out.1)
      have HRa1 := Lib.hid (HRa.out.below hbel)
      have HRb1 := Lib.hid (HRb.out.below hbel)
      have lx := lt_of_cell hx
      have ly := lt_of_cell hy
      simp only at lx ly
      clear hc
      generalize m[k] = p at *
      generalize hq : m[k + 1] = q at *
      have HQ := Lib.hid hq
      clear hq
      have HO := Lib.hid hown
      have HB1 := Lib.hid hb1
      have HB := Lib.hid hbel
      clear hown hb1 hbel
      go_wp2_with fail
      go_region_held3 (fun w' => w'.cell? ⟨b7, off7 + k, none⟩ = some (.int .i64 p) ∧ wr.drew = w')
        (first
          | exact ⟨hx, rfl⟩
          | go_keep)
        (first
          | (go_at_call 26; (with_reducible refine (refHas_any a p A wr.heap.size c _ (by omega) ?_).mono ?_); (first | exact HRa1.out.here2 | fail); rintro e w2 ⟨rfl, rfl⟩)
          | (go_at_call 26; (with_reducible refine (refHas_any b p A' wr.heap.size c' _ (by omega) ?_).mono ?_); (first | exact HRb1.out.here2 | fail); rintro e w2 ⟨rfl, rfl⟩)
          | fail)
      rename_i hHeld
      clear hHeld
      generalize hasR a p = bx at *
      generalize hasR b p = by' at *
      go_upto_region 7 with fail
      go_cut [67] (fun s7 wx => s7 = .bool (skipB way bx by') ∧ wr.drew = wx)
      case first =>
        clear HStep HLastAll HSt HSk HLa
        rcases hway with rfl | rfl | rfl <;> rcases bx with _ | _ <;> rcases by' with _ | _
        all_goals
          go_wp2_with fail
          go_meet
          exact ⟨rfl, rfl⟩
      case rest =>
        obtain ⟨rfl, rfl⟩ := hcut
        have HS : Hid (∀ n, p ≤ n → n < q → (wayP a b way n ↔ wayP a b way p)) := Lib.hid HSt.out.2.2
        have hpq : p < q := HSt.out.2.1
        have hp0 : 0 ≤ p := HSt.out.1
        rcases hs : skipB way bx by' with _ | _
        · have HW := Lib.hid (HSk.out.1 hs)
          clear hs HSk HSt
          obtain ⟨A8, c8, rfl, hc8, hm8, hr8, hA8⟩ := own_formN HO.out (by omega)
          have HR8 := Lib.hid hr8
          have HA8 := Lib.hid hA8
          unfold maxLen at hm8
          clear hr8 hA8
          go_upto_region 8 with fail
          go_cut [84] (fun s8 wx => s8 = .bool (touchB out p) ∧ wx.ownsRow w1.heap.size 30 2 (.slice A8 out.length c8) out.length (rgv out) ∧ Below wr.heap.size wr wx)
          case first =>
            rcases snoc_cases out with rfl | ⟨o, r, rfl⟩
            · have hg : decide ((([] : List Rg).length : Int) > 0) = false := by simp
              go_wp2_with fail
              go_quiet (fail)
              go_wp2_with fail
              go_meet
              exact ⟨rfl, HO.out, below_drewN (Below.refl _ _).drew _⟩
            · obtain ⟨b8, off8, rfl, hbB8, hc⟩ := HR8.out.rg (by simp)
              obtain ⟨x1, x2⟩ := hc o.length (by simp)
              simp at x1 x2
              have hl8 : (0 : Int) < ((o ++ [r]).length : Int) := by simp
              have hl9 : (((o ++ [r]).length : Nat) : Int) - 1 = (o.length : Int) := by simp
              clear hc
              go_wp2_with fail
              go_quiet (fail)
              go_wp2_with fail
              go_meet
              exact ⟨by simp [touchB], HO.out, below_drewN (Below.refl _ _).drew _⟩
          case rest =>
            obtain ⟨rfl, hown2, hb2⟩ := hcut
            have hx2 := (hb2.cell (p := ⟨b7, off7 + k, none⟩) lx).trans hx
            have hy2 := (hb2.cell (p := ⟨b7, off7 + (k + 1), none⟩) ly).trans hy
            have hs2 := hb2.size
            have hs1 := HB.out.size
            have HB2 := Lib.hid (HB.out.trans (hb2.mono HB.out.size))
            have HB12 := Lib.hid (HB1.out.trans (hb2.mono HB1.out.size))
            have HO2 := Lib.hid hown2
            clear hown2 hb2 hx hy HO HR8 HRa1 HRb1 HB HB1
            rcases ht : touchB out p with _ | _
            · have HL2 : Hid (LaidTo (wayP a b way) (out ++ [(p, q)]) q) := Lib.hid (laid_new HLa.out hp0 hpq HS.out HW.out (touch_no ht HLa.out))
              clear ht HA8
              have ag : (Value.slice A8 out.length c8).ownBlock ≠ some b7 := fun e => by have := own_ge HO2.out _ e; omega
              have hk63 : out.length + 1 ≤ maxLen := by unfold maxLen; omega
              have hk47 : (out.length + 1) * 16 ≤ 140737488355328 := by omega
              have hw1c : w1.heap.size ≤ wc.heap.size := HB12.out.size
              have hb7c : b7 < wc.heap.size := by omega
              have hwr : IntKind.i64.wrap ((k : Int) + 1) = (k : Int) + 1 := IntWalk.i64_in _ (by omega)
              have htn : ((k : Int) + 1).toNat = k + 1 := by omega
              go_wp2_with fail
              go_region_held3 (fun w' => w'.cell? ⟨b7, off7 + k, none⟩ = some (.int .i64 p) ∧ w'.cell? ⟨b7, off7 + (k + 1), none⟩ = some (.int .i64 q))
                (first
                  | go_keep
                  | exact ⟨hx2, hy2⟩
                  | (go_split_ands
                     refine ⟨?_, ?_⟩
                     · (rw [hgrow.cell_far _ (by simp; omega) (Ne.symm ag)]; assumption)
                     · (rw [hgrow.cell_far _ (by simp; omega) (Ne.symm ag)]; assumption)))
                ((refine step_append_any _ (by rfl) _ _ 22 (by rfl) w1.heap.size 30 i0 (.agg #[.int .i64 0, .int .i64 0]) 2 16 Try.underlying22 hi0 hz0 hz1 hz2 rfl (by decide) (.slice A8 out.length c8) out.length _ (by rfl) ((HO2.out.alloc _).drew) (wc.heap.size + 1) (some ⟨wc.heap.size, 0, none⟩) 1 1 [.int .i64 p, .int .i64 q] (by rfl) ((reads_rg1 wc 30 p q).drew) (by simp [Value.oneCell']) hk63 hk47 (by simp; omega) ?_; intro v' w2 hown1 hgrow hat))
              clear hwr htn
              have HO3 := Lib.hid hown1
              have HB3 := Lib.hid (((HB12.out.alloc hw1c (.cells #[.int .i64 p, .int .i64 q] 30)).drew).grown hgrow (by simp; omega) (own_ge HO2.out))
              clear hown1 hgrow hat
              rename_i hHeld
              clear hHeld hx2 hy2
              go_wp2_with fail
              go_roundw
              case rel =>
                refine ⟨k + 1, out ++ [(p, q)], hlt, by go_num, by simp; omega, ?_, ?_, HB3.out⟩
                · rw [List.length_append, rgv_append]
                  exact HO3.out
                · show LaidTo _ _ _
                  rw [HQ.out]
                  exact HL2.out
              case measure => simp [intOf]; omega
            · obtain ⟨o, x0, rfl⟩ := touch_yes ht
              have HL2 : Hid (LaidTo (wayP a b way) (o ++ [(x0, q)]) q) := Lib.hid (laid_more HLa.out hpq HS.out HW.out)
              clear ht
              obtain ⟨ad, rfl, hA⟩ : ∃ ad, A8 = some ad ∧ ad.off = 0 ∧ ad.spot = none ∧ w1.heap.size ≤ ad.block := by
                rcases A8 with _ | ad
                · exfalso
                  obtain ⟨_, _, e, _⟩ := (Reads.of_own HO2.out).rg (by simp)
                  cases e
                · exact ⟨ad, rfl, (HA8.out ad rfl).2.2.1, (HA8.out ad rfl).2.2.2, (HA8.out ad rfl).1⟩
              obtain ⟨g, off, spot⟩ := ad
              simp only at hA
              obtain ⟨rfl, rfl, hgb⟩ := hA
              have hcell := HO2.out.cellAt (o.length * 2 + 1) (by simp; omega)
              have hget := rgv_to (o ++ [(x0, p)]) o.length (by simp)
              rw [Nat.mul_comm] at hget
              rw [hget] at hcell
              have hfr := HO2.out.frozenAt (o.length * 2 + 1)
              have hst := HO2.out.stored (o.length * 2 + 1) (.int .i64 q)
              have hset : (rgv (o ++ [(x0, p)])).set (o.length * 2 + 1) (.int .i64 q) = rgv (o ++ [(x0, q)]) := rgv_set o x0 p q
              rw [hset] at hst
              have hbd1 := (HB12.out).grown hst.2 (by have := HB12.out.size; omega) (fun k hk => by injection hk with hk; subst hk; exact hgb)
              have HBD := Lib.hid hbd1
              clear hbd1
              have HST := Lib.hid hst.1
              have hl9 : (((o ++ [(x0, p)]).length : Nat) : Int) - 1 = (o.length : Int) := by simp
              simp at hcell
              clear hget hst hset
              have hol2 : o.length + 1 ≤ k + 1 := by simp at hol; omega
              clear HA8
              go_wp2_with fail
              go_roundw
              case rel =>
                refine ⟨k + 1, o ++ [(x0, q)], hlt, by go_num, by simp; omega, ?_, ?_, HBD.out⟩
                · have e : (o ++ [(x0, q)]).length = (o ++ [(x0, p)]).length := by simp
                  rw [e]
                  exact HST.out
                · show LaidTo _ _ _
                  rw [HQ.out]
                  exact HL2.out
              case measure => simp [intOf]; omega
        · have hnot : ¬ wayP a b way p := fun hh => by have := HSk.out.2 hh; rw [hs] at this; cases this
          have HL2 : Hid (LaidTo (wayP a b way) out q) := Lib.hid (laid_skip HLa.out hpq HS.out hnot)
          clear hs hnot HSk HSt HRa1 HRb1
          go_wp2_with fail
          go_roundw
          case rel =>
            refine ⟨k + 1, out, hlt, by go_num, by omega, HO.out, ?_, HB1.out.drew⟩
            show LaidTo _ _ _
            rw [HQ.out]
            exact HL2.out
          case measure => simp [intOf]; omega
    · have HCan : Hid (Canon out (wayP a b way)) := Lib.hid (laid_end HLa.out (HLastAll.out k (by omega)))
      have HO := Lib.hid hown
      have HB := Lib.hid hbel
      clear hown hbel hb1 HLa
      go_wp2
      go_ret
      exact ⟨u8, out, rfl, own_base HO.out HB7.out.size, HCan.out, by omega, HB.out⟩
end Go.Proofs.Ytfdmbgaincmefaa
