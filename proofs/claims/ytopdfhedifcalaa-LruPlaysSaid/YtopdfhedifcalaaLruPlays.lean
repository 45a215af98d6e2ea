/- The statement LruPlays: every call answers what the document says. No conditions. -/
import Derived.Test.YtopdfhedifcalaaRows
import Derived.Test.YtopdfhedifcalaaOpen
import Derived.Test.YtopdfhedifcalaaDoC
import Derived.WalkKit
import Derived.ProofKit
import Derived.OpenShut
import Derived.ShutString
import Derived.ChangeOld
import Derived.Below
import Derived.SizedLaws
import Derived.JoinedCond
namespace Go.Proofs.Ytopdfhedifcalaa.lruPlays
open Go.ChangeShapes Go.WideShapes Go.ChangeAt Go.RowKit
open Go.ChangeMaps (open_string shut_string)
set_option linter.unusedVariables false

theorem own : ownKnob Try.prog.godebug = none := by kernel_rfl
theorem laidOut : laidOutB Try.prog = true := by kernel_rfl

/-- Both lists are new. -/
theorem two_new {w w1 w2 : World} {p cp : Nat} (h1 : LruAt w1 (From w w1) p ⟨cp, []⟩) (b1 : Below w.heap.size w w1) (b2 : Below w1.heap.size w1 w2) (hc : cp ≤ 4096) :
    TwoL w.heap.size (w2.alloc (.cells #[.int .i64 (cp : Int), .slice none 0 0] 31)) p w2.heap.size (From w w1) (fun k => k = w2.heap.size) ⟨cp, []⟩ ⟨cp, []⟩ := by
  have s1 := b1.size
  have s2 := b2.size
  have hb : Below w1.heap.size w1 (w2.alloc (.cells #[.int .i64 (cp : Int), .slice none 0 0] 31)) := b2.alloc s2 _
  refine ⟨h1.below hb, ⟨.slice none 0 0, Blk.new w2 _ _, rfl, row_nil _ _ _ _ _, ⟨by simp [LU.keys], by simp⟩, hc⟩, fun k hk e => ?_, fun k hk => ⟨hk.1, ?_⟩, fun k hk => ?_⟩
  · have := hk.2; omega
  · have := hk.2; simp; omega
  · subst hk; simp; omega
theorem num_get {l : List (Int × Int)} (h : Nums2 l) (k : Nat) (hk : k < l.length) : Num l[k].2 := (h _ (List.getElem_mem hk)).2
/-- A row of the call's own, whatever it holds, and what lies below it. -/
def RowS (w1 wr : World) (A : Option Addr) (c m : Nat) : Prop := (∃ l : List Int, l.length = m ∧ wr.ownsRow w1.heap.size 3 1 (.slice A m c) m (l.map (Value.int .i64))) ∧ Below w1.heap.size w1 wr
theorem RowS.start {w1 w2 w3 : World} {A : Option Addr} {c : Nat} {l : List Int} (h : IntRow w2 w1.heap.size (.slice A l.length c) l) (h1 : Below w1.heap.size w1 w2) (h2 : Below w2.heap.size w2 w3) : RowS w1 w3 A c l.length :=
  ⟨⟨l, rfl, own_only h (Only.of_below h2 : Only (fun _ => False) w2 w3) fun _ _ => id⟩, h1.trans (h2.mono h1.size)⟩
theorem RowS.at_ {w1 wr : World} {A : Option Addr} {c m j : Nat} (h : RowS w1 wr A c m) (hj : j < m) : ∃ g, A = some ⟨g, 0, none⟩ ∧ (∃ x, wr.cell? ⟨g, j, none⟩ = some (.int .i64 x)) ∧ wr.frozen? ⟨g, j, none⟩ = false ∧ m ≤ c ∧ c ≤ maxLen := by
  obtain ⟨⟨l, hl, hr⟩, -⟩ := h
  have hr0 := hr
  rcases hr.2 with ⟨e, h0⟩ | ⟨g, cap, cur, e, _, _, hc, hm, _⟩
  · omega
  · injection e with e1 e2 e3
    subst e1
    subst e3
    refine ⟨g, rfl, ⟨l[j]'(by omega), ?_⟩, hr0.frozenAt j, hc, hm⟩
    rw [hr0.cellAt j (by omega), List.getElem?_map, List.getElem?_eq_getElem (by omega)]
    rfl
theorem RowS.store {w1 wr : World} {g c m j : Nat} (h : RowS w1 wr (some ⟨g, 0, none⟩) c m) (x : Int) : RowS w1 (wr.setCell ⟨g, j, none⟩ (.int .i64 x)) (some ⟨g, 0, none⟩) c m := by
  obtain ⟨⟨l, hl, hr⟩, hb⟩ := h
  refine ⟨⟨l.set j x, by rw [List.length_set]; exact hl, ?_⟩, hb.setCell (p := ⟨g, j, none⟩) (own_ge hr g rfl) _⟩
  have h1 := (hr.stored j (.int .i64 x)).1
  rw [← List.map_set] at h1
  exact h1
theorem keys_out {w : World} {F : Nat → Prop} {p : Nat} {s : LU} (h : LruAt w F p s) : Calls Try.prog 13 #[.pointer (some ⟨p, 0, none⟩)] w (RowOut w s.keys) := (at_keys h).mono fun _ _ hd => rowout hd
theorem marked_out {w : World} {F : Nat → Prop} {p : Nat} {s : LU} (h : LruAt w F p s) : Calls Try.prog 16 #[.pointer (some ⟨p, 0, none⟩)] w (RowOut w s.marked) := (at_marked h).mono fun _ _ hd => rowout hd
theorem rkeys_out {w : World} {F : Nat → Prop} {p : Nat} {s : LU} (h : RefAtL w F p s) : Calls Try.prog 15 #[.pointer (some ⟨p, 0, none⟩), .bool false] w (RowOut w s.keys) := (ref_keys h).mono fun _ _ hd => rowout hd
theorem rmarked_out {w : World} {F : Nat → Prop} {p : Nat} {s : LU} (h : RefAtL w F p s) : Calls Try.prog 15 #[.pointer (some ⟨p, 0, none⟩), .bool true] w (RowOut w s.marked) := (ref_marked h).mono fun _ _ hd => rowout hd
theorem ints_same {w w1 : World} {A A' : Option Addr} {a : List Int} (c c' : Nat) {B B' : Nat} (h : IntRow w B (.slice A a.length c) a) (hb : Below w.heap.size w w1) (h' : IntRow w1 B' (.slice A' a.length c') a) (hl : a.length ≤ 4096) :
    Calls Try.prog 14 #[.slice A a.length c, .slice A' a.length c'] w1 fun e w' => e = .returned (.bool true) ∧ ∃ n, w' = w1.drewN n := by
  have h1 : IntsAt w A a := Reads.of_own h
  have := ints_any c c' (h1.below hb) (Reads.of_own h') (by omega) (by omega)
  rw [decide_eq_true rfl] at this
  exact this
theorem marked_len (s : LU) : s.marked.length ≤ s.items.length := by
  have := rise_len s s.items.length
  rwa [rise_all] at this
theorem idx_ge (s : LU) (ok : s.Ok) (k : Int) : decide (s.idx k ≥ 0) = s.has k := by
  rcases idx_place s k with ⟨i, hi, e, hx⟩ | ⟨h1, h2⟩
  · rw [hx ok, ← e, LU.has_at hi]
    simp
  · rw [h1, h2]
    rfl
theorem idx_ge' (s : LU) (ok : s.Ok) (k : Int) : decide (0 ≤ s.idx k) = s.has k := idx_ge s ok k

set_option maxRecDepth 100000 in
set_option maxHeartbeats 8000000 in
theorem walk (cp : Int) (A : Option Addr) (l : List (Int × Int)) (c : Nat) (w : World) (hcp : (Lit.int .i64 cp).wf = true) (hll : l.length ≤ 9223372036854775807) (hcl : CallsIn2 w A l) (hnl : Nums2 l) :
    Calls Try.prog 3 #[.int .i64 cp, .slice A l.length c] w fun e w' => e = .returned (.bool true) ∧ Below w.heap.size w w' := by
  have HAw := Lib.hid awake_any
  clear hcp
  by_cases hbad : cp < 1 ∨ 4096 < cp
  · have HNew := Lib.hid (lru_new_bad cp w hbad)
    clear hcl hnl hll
    rcases hbad with h1 | h1
    · go_enter Try.func3, Try.ntmps3
      go_wp2_with (first
        | (go_at_call 8; refine HNew.out.mono ?_; rintro e w1 ⟨rfl, rfl⟩)
        | (go_at_call 9; refine (HAw.out _).mono ?_; rintro e w2 ⟨rfl, b2⟩))
      go_ret
      exact ⟨rfl, b2⟩
    · have h2 : ¬ cp < 1 := by omega
      go_enter Try.func3, Try.ntmps3
      go_wp2_with (first
        | (go_at_call 8; refine HNew.out.mono ?_; rintro e w1 ⟨rfl, rfl⟩)
        | (go_at_call 9; refine (HAw.out _).mono ?_; rintro e w2 ⟨rfl, b2⟩))
      go_ret
      exact ⟨rfl, b2⟩
  · obtain ⟨n, rfl⟩ : ∃ n : Nat, cp = n := ⟨cp.toNat, by omega⟩
    have h1 : 1 ≤ n := by omega
    have h2 : n ≤ 4096 := by omega
    have h1' : (1 : Int) ≤ (n : Int) := by omega
    have h2' : (n : Int) ≤ 4096 := by omega
    have HNew := Lib.hid (lru_new_ok n w h1 h2)
    have HC := Lib.hid hcl
    have HNl := Lib.hid hnl
    have HLl := Lib.hid hll
    clear hcl hnl hbad hll
    go_enter Try.func3, Try.ntmps3
    go_upto_region 9 with (first
      | (go_at_call 8; refine HNew.out.mono ?_; rintro e w1 ⟨p, rfl, k1, b1, -, -⟩)
      | (go_at_call 9; refine (HAw.out _).mono ?_; rintro e w2 ⟨rfl, b2⟩))
    have HTwo := Lib.hid (two_new k1 b1 b2 h2)
    have HB0 : Hid (Below w.heap.size w (w2.alloc (.cells #[.int .i64 (n : Int), .slice none 0 0] 31))) := Lib.hid ((b1.trans (b2.mono b1.size)).alloc (Nat.le_trans b1.size b2.size) _)
    have HN0 : Hid (w.heap.size ≤ (w2.alloc (.cells #[.int .i64 (n : Int), .slice none 0 0] 31)).heap.size) := Lib.hid HB0.out.size
    clear k1 b1 b2 h1 h2 HNew
    generalize hpw : w2.heap.size = q at *
    go_wp2_with fail
    go_loopw [8, 9, 10] (fun i _ _ wr => ∃ (k : Nat) (s : LU) (F G : Nat → Prop), k ≤ l.length ∧ k ≤ 150 ∧ i = .int .i64 k ∧ Hid (TwoL w.heap.size wr p q F G s s) ∧ Hid (PinsLe s k) ∧ Hid (Below w.heap.size w wr)) (fun i _ _ _ => l.length - (intOf i).toNat)
    case atStart => exact ⟨0, _, _, _, Nat.zero_le _, Nat.zero_le _, rfl, HTwo, Lib.hid (fun x hx => by cases hx), HB0⟩
    case round =>
      obtain ⟨k, s, F, G, hk, hk1, rfl, HT, HP, HB⟩ := hrel
      by_cases hlt : k < l.length
      · by_cases h80 : k < 150
        · have hi : (k : Int) < (l.length : Int) := by omega
          have hi8 : (k : Int) < 150 := by omega
          have hi0 : (0 : Int) ≤ (k : Int) := by omega
          obtain ⟨b, o, rfl, hb, hc⟩ := HC.out (fun e => by rw [e] at hlt; exact absurd hlt (Nat.not_lt_zero _))
          obtain ⟨x0, x1⟩ := hc k hlt
          have HNk := Lib.hid (num_get HNl.out k hlt)
          have y0 := (HB.out.cell (p := ⟨b, o + k * 2, none⟩) hb).trans x0
          have y1 := (HB.out.cell (p := ⟨b, o + k * 2 + 1, none⟩) hb).trans x1
          clear hc x0 x1
          generalize l[k] = cl at *
          obtain ⟨kd, key⟩ := cl
          simp only at y0 y1 HNk
          have HP1 := Lib.hid (HP.out.step kd key)
          have HBw := HB.out
          generalize hs1 : s.step kd key = s1 at *
          have HS1 := Lib.hid hs1
          clear hs1
          have BWd := HBw.drew
          have HDo2 : Hid (Calls Try.prog 10 #[.pointer (some ⟨p, 0, none⟩), .pointer (some ⟨q, 0, none⟩), .agg #[.int .i64 kd, .int .i64 key]] wr.drew (DoesL w.heap.size wr.drew p q s1)) := Lib.hid (HS1.out ▸ does_any (HT.out.below (Below.refl _ wr).drew) HB.out.size (HP.out.mono (by omega)) kd key HNk.out)
          go_upto_region 12 with fail
          go_region_held3 (fun w' => w'.cell? ⟨b, o + k * 2, none⟩ = some (.int .i64 kd) ∧ w'.cell? ⟨b, o + k * 2 + 1, none⟩ = some (.int .i64 key))
            (first
              | exact ⟨y0, y1⟩
              | exact ⟨z0, z1⟩
              | go_keep)
            (first
            | (go_at_call 10; refine HDo2.out.mono ?_; rintro e w3 ⟨rfl, ⟨F1, G1, ht1⟩, hb3, hn3⟩; have hbw3 := BWd.trans hb3; have z1 := (hbw3.cell (p := ⟨b, o + k * 2 + 1, none⟩) hb).trans ((BWd.cell (p := ⟨b, o + k * 2 + 1, none⟩) hb).symm.trans y1); have z0 := (hbw3.cell (p := ⟨b, o + k * 2, none⟩) hb).trans ((BWd.cell (p := ⟨b, o + k * 2, none⟩) hb).symm.trans y0); have HHas := Lib.hid (at_has ht1.new key HNk.out); have HIdx := Lib.hid (ref_at ht1.ref key); have hge := idx_ge' s1 ht1.new.ok key)
            | (go_at_call 11; refine HHas.out.mono ?_; rintro e w4 ⟨rfl, rfl⟩)
            | (go_at_call 12; refine HIdx.out.mono ?_; rintro e w4 ⟨rfl, rfl⟩)
            | fail)
          have HT1 := Lib.hid ht1
          have HB3 := Lib.hid hbw3
          have hok1 := ht1.new.ok
          have hcap1 := ht1.new.cap
          have HKl : Hid (s1.keys.length ≤ 4096) := Lib.hid (by rw [LU.keys_length]; exact Nat.le_trans hok1.len hcap1)
          have HMl : Hid (s1.marked.length ≤ 4096) := Lib.hid (Nat.le_trans (marked_len s1) (Nat.le_trans hok1.len hcap1))
          clear ht1 hb3 hbw3 z0 z1 HHas HIdx hge hok1 hcap1 y0 y1 HBw BWd HDo2
          go_upto_region 17 with (first
            | (go_at_call 13; refine (keys_out HT1.out.new).mono ?_; rintro e w4 ⟨A4, c4, rfl, r4, b4⟩; have HR4 := Lib.hid r4; have HB4 := Lib.hid b4; have HT4 := Lib.hid (HT1.out.below b4); clear r4 b4)
            | (go_at_call 14; refine HI8.out.mono ?_; rintro e w9 ⟨rfl, n9, rfl⟩)
            | (go_at_call 15; refine (rmarked_out HT7.out.ref).mono ?_; rintro e w8 ⟨A8, c8, rfl, r8, b8⟩; have HI8 := Lib.hid (ints_same c7 c8 HR7.out b8 r8 HMl.out); have HB8 := Lib.hid b8; clear r8 b8)
            | (go_at_call 15; refine (rkeys_out HT4.out.ref).mono ?_; rintro e w5 ⟨A5, c5, rfl, r5, b5⟩; have HI5 := Lib.hid (ints_same c4 c5 HR4.out b5 r5 HKl.out); have HT5 := Lib.hid (HT4.out.below b5); have HB5 := Lib.hid b5; clear r5 b5)
            | (go_at_call 14; refine HI5.out.mono ?_; rintro e w6 ⟨rfl, n6, rfl⟩; have HB6 : Hid (Below w4.heap.size w4 (w5.drewN n6)) := Lib.hid (below_drewN HB5.out n6); have HT6 := Lib.hid (HT4.out.below HB6.out))
            | (go_at_call 16; refine (marked_out HT6.out.new).mono ?_; rintro e w7 ⟨A7, c7, rfl, r7, b7⟩; have HR7 := Lib.hid r7; have HB7 := Lib.hid b7; have HT7 := Lib.hid (HT6.out.below b7); clear r7 b7))
          have HBL : Hid (Below w4.heap.size w4 (w8.drewN n9)) := Lib.hid (by
            have e1 := HB6.out.trans (HB7.out.mono HB6.out.size)
            exact below_drewN (e1.trans (HB8.out.mono e1.size)) n9)
          have HRS := Lib.hid (RowS.start HR4.out HB4.out HBL.out)
          generalize hwL : w8.drewN n9 = wL at *
          clear hwL HBL HR4 HB4 HT4 HI5 HT5 HB5 HB6 HT6 HR7 HB7 HT7 HI8 HB8 HMl
          generalize s1.keys.length = m at *
          have hm := HKl.out
          go_upto_region 18 with fail
          go_loopw [10] (fun i wr => ∃ j : Nat, j ≤ m ∧ i = .int .i64 j ∧ Hid (RowS w3 wr A4 c4 m)) (fun i _ => m - (intOf i).toNat)
          case atStart => exact ⟨0, Nat.zero_le _, rfl, HRS⟩
          case round =>
            obtain ⟨j, hj, rfl, HR⟩ := hrel
            by_cases hjm : j < m
            · obtain ⟨g, rfl, ⟨x, z1⟩, z2, hmc, hcm⟩ := HR.out.at_ hjm
              have hij : (j : Int) < (m : Int) := by omega
              have hj0 : (0 : Int) ≤ (j : Int) := by omega
              unfold maxLen at hcm
              have HN := Lib.hid (HR.out.store (j := j) (-5))
              go_wp2_with fail
              go_roundw
              case rel => exact ⟨j + 1, by omega, by go_num, HN⟩
              case measure => simp [intOf]; omega
            · obtain rfl : j = m := by omega
              have HBE := Lib.hid HR.out.2
              go_wp2_with fail
              go_roundw
              case rel => exact ⟨k + 1, s1, F1, G1, by omega, by omega, by go_num, Lib.hid (HT1.out.below HBE.out), HP1, Lib.hid (HB3.out.trans (HBE.out.mono hn3))⟩
              case measure => simp [intOf]; omega
        · have hi8 : (150 : Int) ≤ (k : Int) := by omega
          have hi : (k : Int) < (l.length : Int) := by omega
          clear h80 hlt
          go_wp2_with fail
          go_ret
          exact ⟨rfl, HB.out⟩
      · obtain rfl : k = l.length := by omega
        clear hlt
        go_wp2_with fail
        go_ret
        exact ⟨rfl, HB.out⟩

set_option maxRecDepth 100000 in
theorem lifted (os : Os) (started : os.Started) (H : Type) (enc : TypeId × Value → H) :
    ReturnsInHanded {} Try.checked os 3 .any (Rows.lruPlaysSpec.pre6 enc Try.prog Try.f3 Rows.lruPlaysRow.domain false) (Rows.lruPlaysSpec.post enc Try.prog Try.f3 false true false false) := by
  refine returnsInHanded_of_change_sized (C := Try.checked) own started (by kernel_rfl) Try.func3
    (ChangeSpec.witness6 (enc := enc) (C := Try.checked) false ⟨#[], #[.int .i64 0, .slice none 0 0], []⟩ 8 (by kernel_rfl) (by kernel_rfl) (by kernel_rfl) (by kernel_rfl)) ?_
  intro W base args ds gs before hval0 hW hcnd hsz0 _
  have hsz : (DataW.weightsEach Try.prog (Try.f3.params.toList ++ Rows.lruPlaysSpec.plain.varTypes Try.prog) (ds ++ gs)).all (· ≤ reachBytes) = true := hsz0
  have hval : ∀ (j : Nat) t v, Try.f3.params[j]? = some t → args[j]? = some v → Value.okWide Try.prog W .any base t v := hval0
  have hW' := hW
  obtain ⟨p, q, hA0, hV, rfl, hfz, hnd⟩ := hW
  have hA : DataW.TrodAll enc Try.prog W 0 (fun _ => true) true Try.f3.params.toList args.toList ds p := hA0
  rw [Try.params3] at hA hval hsz
  obtain ⟨v0, vs0, d0, ds0, p0, q0, hargs, rfl, rfl, h0, r0⟩ := trodAll_cons hA
  obtain ⟨v1, vs1, d1, ds1, p1, q1, rfl, rfl, rfl, h1, r1⟩ := trodAll_cons r0
  obtain ⟨rfl, rfl, rfl⟩ := trodAll_nil r1
  obtain rfl : args = #[v0, v1] := by cases args; simp_all
  obtain ⟨rfl, rfl⟩ := trodVars_none hV
  obtain ⟨a0, rfl, rfl, rfl, w0⟩ := open_int Try.underlying3 (hval 0 3 v0 rfl rfl) h0
  have k1 := h1
  have lt1 : ∀ x ∈ p1, x.block < W.heap.size := by obtain ⟨m, hm⟩ := k1; exact DataW.trod_lt m _ _ _ hm
  obtain ⟨A1, l1, c1, rfl, hll1, hcl1, hnl1⟩ := open_lcalls Try.underlying22 Try.underlying34 (by kernel_rfl) (by kernel_rfl) Try.underlying3 Try.underlying3 (hval 1 22 v1 rfl rfl) h1
  clear hA0 hval0 hsz0
  refine (walk a0 A1 l1 c1 W w0 hll1 hcl1 hnl1).mono fun e W' ⟨he, bel⟩ => ?_
  subst he
  exact ⟨_, rfl, _, _, _, [], _, [], hW', trodAll_mk1 (shut_bool Try.underlying4 _), (trodAll_cons_mk (shut_int Try.underlying3 w0) (trodAll_cons_mk (Below.trod laidOut (by kernel_rfl) (of_decide_eq_true (by kernel_rfl)) k1 bel lt1) trodAll_mk0)), rfl, bel.frame _, fun h => by cases h⟩

theorem over : Rows.lruPlaysRow.holds Try.pinned (OpenSpec.ofChange Rows.lruPlaysSpec) :=
  OpenClaim.holds_of_wide 3 Try.f3 rfl rfl rfl rfl rfl rfl rfl ⟨rfl, rfl, rfl, rfl, rfl⟩ rfl rfl rfl rfl rfl (by kernel_rfl) Try.func3 (by kernel_rfl)
    (of_decide_eq_true (by kernel_rfl)) (by unfold Func.isWrapper; first | (rw [if_pos (by decide +kernel)]; kernel_rfl) | (rw [if_neg (by decide +kernel)]; exact ⟨rfl, rfl⟩))
    (fun os started H enc _ => lifted os started H enc)

/-- The statement. -/
theorem proved : Rows.LruPlaysSaid := over
#print axioms proved
end Go.Proofs.Ytopdfhedifcalaa.lruPlays
