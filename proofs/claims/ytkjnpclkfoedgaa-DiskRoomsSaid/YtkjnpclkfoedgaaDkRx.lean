/- The walk of octavolaw04.DiskRooms. Conditions: the calls are in memory as named. -/
import Derived.Test.YtkjnpclkfoedgaaDkRm
import Derived.Test.YtkjnpclkfoedgaaDkDf
import Derived.Deep.CutRange
import Derived.Deep.RegionWith
import Derived.Deep.CutBlock
namespace Go.Proofs.Ytkjnpclkfoedgaa
open Go.RowKit
attribute [local go_sem ↓] Go.wp_at_zero Go.wp_at_succ

def psum (l : List RF) (k : Nat) : Nat := ((l.take k).map (·.now.length)).sum
theorem psum_succ (l : List RF) (k : Nat) (h : k < l.length) : psum l (k + 1) = psum l k + l[k].now.length := by
  unfold psum
  rw [List.take_succ_eq_append_getElem h, List.map_append, List.sum_append]
  simp
theorem psum_all (s : RD) : psum s.files s.files.length = s.sum := by unfold psum; rw [List.take_length]; rfl
theorem psum_le (l : List RF) (k : Nat) : psum l k ≤ (l.map (·.now.length)).sum := by
  unfold psum
  conv => rhs; rw [← List.take_append_drop k l]
  rw [List.map_append, List.sum_append]
  omega
structure RoomR (room : Int) (p : Nat) (w wr : World) (k : Nat) (s : RD) (F : Nat → Prop) : Prop where
  disk : DiskAt wr F p s
  well : Well s (400 * k)
  roomy : Roomy s room
  below : Below w.heap.size w wr
  fr : ∀ q, F q → w.heap.size ≤ q
  lt : ∀ q, F q → q < wr.heap.size
theorem RoomR.quiet {room : Int} {p k : Nat} {w wr w' : World} {s : RD} {F : Nat → Prop} (h : RoomR room p w wr k s F) (hb : Below wr.heap.size wr w') : RoomR room p w w' k s F :=
  ⟨h.disk.only (Only.of_below hb : Only (fun _ => False) wr w') fun _ _ => id, h.well, h.roomy, h.below.trans (hb.mono h.below.size), h.fr, fun q hq => Nat.lt_of_lt_of_le (h.lt q hq) hb.size⟩

theorem RoomR.op {room : Int} {p k n : Nat} {w wr w' : World} {s s' : RD} {F : Nat → Prop} {e : Ending} (h : RoomR room p w wr k s F) (ho : DkOp F p s' n wr e w') (hw : Well s' (400 * (k + 1))) (hr : Roomy s' room) : RoomR room p w w' (k + 1) s' (Gr F wr w') :=
  ⟨ho.2.1, hw, hr, h.below.trans (ho.2.2.below h.fr h.below.size), fun q hq => hq.elim (h.fr q) fun g => Nat.le_trans h.below.size g.1, fun q hq => hq.elim (fun g => Nat.lt_of_lt_of_le (h.lt q g) ho.2.2.size) fun g => g.2⟩
theorem RoomR.more {room : Int} {p k : Nat} {w wr : World} {s : RD} {F : Nat → Prop} (h : RoomR room p w wr k s F) (hk : k < 60) : RoomR room p w wr (k + 1) s F :=
  ⟨h.disk, ⟨h.well.ok.more (by omega), h.well.nice, by omega⟩, h.roomy, h.below, h.fr, h.lt⟩
/-- The six cells of a call. -/
def Six (w : World) (g : Nat) (c : Cl) (pv : Value) : Prop := w.cell? ⟨g, 0, none⟩ = some (.int .i64 c.kind) ∧ w.cell? ⟨g, 1, none⟩ = some (.string c.name) ∧ w.cell? ⟨g, 2, none⟩ = some (.int .i64 c.n) ∧
  w.cell? ⟨g, 3, none⟩ = some (.int .i64 c.len) ∧ w.cell? ⟨g, 4, none⟩ = some (.int .u8 (c.x.toNat : Int)) ∧ w.cell? ⟨g, 5, none⟩ = some pv
theorem Six.below {w w' : World} {g : Nat} {c : Cl} {pv : Value} (h : Six w g c pv) (hb : Below w.heap.size w w') (hg : g < w.heap.size) : Six w' g c pv := by
  obtain ⟨a0, a1, a2, a3, a4, a5⟩ := h
  exact ⟨(hb.cell hg).trans a0, (hb.cell hg).trans a1, (hb.cell hg).trans a2, (hb.cell hg).trans a3, (hb.cell hg).trans a4, (hb.cell hg).trans a5⟩
theorem Six.off {w w' : World} {F : Nat → Prop} {g : Nat} {c : Cl} {pv : Value} (h : Six w g c pv) (ho : Only F w w') (hg : g < w.heap.size) (hf : ¬ F g) : Six w' g c pv := by
  obtain ⟨a0, a1, a2, a3, a4, a5⟩ := h
  exact ⟨(ho.cell hg hf).trans a0, (ho.cell hg hf).trans a1, (ho.cell hg hf).trans a2, (ho.cell hg hf).trans a3, (ho.cell hg hf).trans a4, (ho.cell hg hf).trans a5⟩
theorem Six.one {w : World} {g : Nat} {c : Cl} {pv : Value} (h : Six w g c pv) (hk : c.kind = 1) : w.cell? ⟨g, 0, none⟩ = some (.int .i64 1) ∧ w.cell? ⟨g, 1, none⟩ = some (.string c.name) ∧ w.cell? ⟨g, 2, none⟩ = some (.int .i64 c.n) ∧
    w.cell? ⟨g, 3, none⟩ = some (.int .i64 c.len) ∧ w.cell? ⟨g, 4, none⟩ = some (.int .u8 (c.x.toNat : Int)) ∧ w.cell? ⟨g, 5, none⟩ = some pv := by
  obtain ⟨a0, a⟩ := h
  rw [hk] at a0
  exact ⟨a0, a⟩
theorem six_new (w : World) (c : Cl) (pv : Value) : Six (w.alloc (.cells #[.int .i64 c.kind, .string c.name, .int .i64 c.n, .int .i64 c.len, .int .u8 (c.x.toNat : Int), pv] 36)) w.heap.size c pv := by
  have hblk : Blk (w.alloc (.cells #[.int .i64 c.kind, .string c.name, .int .i64 c.n, .int .i64 c.len, .int .u8 (c.x.toNat : Int), pv] 36)) w.heap.size 36 #[.int .i64 c.kind, .string c.name, .int .i64 c.n, .int .i64 c.len, .int .u8 (c.x.toNat : Int), pv] := heap_alloc_new _ _
  exact ⟨by rw [hblk.cell]; rfl, by rw [hblk.cell]; rfl, by rw [hblk.cell]; rfl, by rw [hblk.cell]; rfl, by rw [hblk.cell]; rfl, by rw [hblk.cell]; rfl⟩

set_option maxRecDepth 100000 in
set_option maxHeartbeats 8000000 in
theorem rooms_any (room0 : Int) (l : List (Cl × Option Addr × Nat)) (A : Option Addr) (c : Nat) (w : World) (hc : ∀ k (h : k < l.length), CallIn w A k l[k]) :
    Calls Try.prog 6 #[.int .i64 room0, .slice A l.length c] w fun e w' => e = .returned (.bool true) ∧ Below w.heap.size w w' := by
  have HPk := Lib.hid (pick_any room0 2000 w (by omega))
  have hr1 : 0 ≤ room0 % 2000 := Int.emod_nonneg _ (by omega)
  have hr2 : room0 % 2000 < 2000 := Int.emod_lt_of_pos _ (by omega)
  generalize room0 % 2000 = room at *
  have HNew := Lib.hid (disk_new room w (by omega))
  have HAw := Lib.hid awake_any
  have HC := Lib.hid hc
  clear hc
  go_enter Try.func6, Try.ntmps6
  go_upto_region 4 with (first
    | (go_at_call 14; refine HPk.out.mono ?_; rintro e w1 ⟨rfl, rfl⟩)
    | (go_at_call 8; refine HNew.out.mono ?_; rintro e w1 (⟨hbad, -, -⟩ | ⟨-, p, F, rfl, hd1, hF1, hb1⟩); · omega)
    | (go_at_call 9; refine (HAw.out w1).mono ?_; rintro e w2 ⟨rfl, hb2⟩))
  have hR0 : RoomR room p w w2 0 (RD.new room) F := ⟨hd1.only (Only.of_below hb2 : Only (fun _ => False) w1 w2) fun _ _ => id, ⟨new_ok room ⟨hr1, by omega⟩, nice_new _ _ _ _ _ _, by omega⟩, roomy_new room hr1, hb1.trans (hb2.mono hb1.size), fun q hq => (hF1 q hq).1, fun q hq => Nat.lt_of_lt_of_le (hF1 q hq).2 hb2.size⟩
  have HR0 := Lib.hid hR0
  clear hR0 hd1 hF1 hb1 hb2
  go_wp2_with fail
  go_loopw [7] (fun i wr => ∃ (k : Nat) (s : RD) (F : Nat → Prop), k ≤ l.length ∧ k ≤ 60 ∧ i = .int .i64 k ∧ Hid (RoomR room p w wr k s F)) (fun i _ => l.length - (intOf i).toNat)
  case atStart => exact ⟨0, RD.new room, F, Nat.zero_le _, Nat.zero_le _, rfl, HR0.out⟩
  case round =>
    obtain ⟨k, s, F, hk, hk60, rfl, HR⟩ := hrel
    by_cases hlt : k < l.length
    · by_cases h60 : k < 60
      · have hi : (k : Int) < (l.length : Int) := by omega
        have hi6 : (k : Int) < 60 := by omega
        have hi0 : (0 : Int) ≤ (k : Int) := by omega
        obtain ⟨⟨b, o, rfl, hb, x0, x1, x2, x3, x4, x5⟩, hfit, hlen, hints, hrd⟩ := HC.out k hlt
        generalize l[k] = cl at *
        obtain ⟨cl, Ap, cp⟩ := cl
        simp only at x0 x1 x2 x3 x4 x5 hfit hlen hints hrd
        have y0 := (HR.out.below.cell (p := ⟨b, o + k * 6, none⟩) hb).trans x0
        have y1 := (HR.out.below.cell (p := ⟨b, o + k * 6 + 1, none⟩) hb).trans x1
        have y2 := (HR.out.below.cell (p := ⟨b, o + k * 6 + 2, none⟩) hb).trans x2
        have y3 := (HR.out.below.cell (p := ⟨b, o + k * 6 + 3, none⟩) hb).trans x3
        have y4 := (HR.out.below.cell (p := ⟨b, o + k * 6 + 4, none⟩) hb).trans x4
        have y5 := (HR.out.below.cell (p := ⟨b, o + k * 6 + 5, none⟩) hb).trans x5
        have HFit := Lib.hid hfit
        clear x0 x1 x2 x3 x4 x5 hlen hints hrd hfit
        have hbl := cl.bytes_length
        have HBy := Lib.hid (fun W => bytes_any cl (.slice Ap cl.picks.length cp) W)
        unfold Cl.enc at HBy
        obtain ⟨wA, hwA⟩ : ∃ wA : World, wA = wr.alloc (.cells #[.int .i64 cl.kind, .string cl.name, .int .i64 cl.n, .int .i64 cl.len, .int .u8 (cl.x.toNat : Int), .slice Ap cl.picks.length cp] 36) := ⟨_, rfl⟩
        have h6 : Six wA wr.heap.size cl (.slice Ap cl.picks.length cp) := by rw [hwA]; exact six_new _ _ _
        have H6 := Lib.hid h6
        have hbA : Below wr.heap.size wr wA := by rw [hwA]; exact (Below.refl _ _).alloc (Nat.le_refl _) _
        have hsz : wA.heap.size = wr.heap.size + 1 := by rw [hwA]; simp
        have hgA : wr.heap.size < wA.heap.size := by omega
        have HRA := Lib.hid (HR.out.quiet hbA)
        have HFr := Lib.hid (fun W (hb : Below wA.heap.size wA W) => disk_free (HRA.out.quiet hb).disk (HRA.out.quiet hb).well)
        have HSz := Lib.hid (fun W (hb : Below wA.heap.size wA W) => disk_size cl.name (HRA.out.quiet hb).disk (HRA.out.quiet hb).well HFit.out.name)
        have BA := Lib.hid ((Below.refl wA.heap.size wA).drew)
        have hmx := HR.out.roomy.size cl.name
        obtain ⟨a0, a1, a2, a3, a4, a5⟩ := h6
        generalize hgz : wr.heap.size = g0 at *
        generalize hszn : s.size cl.name = sz at *
        go_upto_region 9 with fail
        rw [← hwA]
        clear hwA hbA
        go_cut [9, 10, 11] from 30 to 175 (fun s9 s10 s11 wx => s9 = .int .i64 s.free ∧ s10 = .int .i64 (s.had cl.name : Int) ∧ s11 = .int .i64 (cl.bytes.length : Int) ∧ Hid (Below wA.heap.size wA wx))
        case first => as_aux_lemma =>
          go_region_held3 (fun w' => Below wA.heap.size wA w' ∧ w'.cell? ⟨g0, 0, none⟩ = some (.int .i64 cl.kind) ∧ w'.cell? ⟨g0, 1, none⟩ = some (.string cl.name) ∧ w'.cell? ⟨g0, 2, none⟩ = some (.int .i64 cl.n) ∧ w'.cell? ⟨g0, 3, none⟩ = some (.int .i64 cl.len) ∧ w'.cell? ⟨g0, 4, none⟩ = some (.int .u8 (cl.x.toNat : Int)) ∧ w'.cell? ⟨g0, 5, none⟩ = some (.slice Ap cl.picks.length cp))
            (first
              | exact ⟨BA.out, a0, a1, a2, a3, a4, a5⟩
              | exact ⟨b3, H6.out.below b3 hgA⟩
              | exact ⟨b2, H6.out.below b2 hgA⟩
              | exact ⟨b1, H6.out.below b1 hgA⟩
              | go_keep)
            (first
              | (go_at_call 22; refine (HBy.out _).mono ?_; rintro e w3 ⟨v3, rfl, ho3, hb3⟩; obtain ⟨A3, c3, rfl, -, -, -, -⟩ := own_form ho3; have b3 := b2.trans (hb3.mono b2.size))
              | (go_at_call 19; refine (HSz.out _ b1).mono ?_; rintro e w2 ⟨rfl, hb2⟩; have b2 := b1.trans (hb2.mono b1.size))
              | (go_at_call 21; refine (HFr.out _ BA.out).mono ?_; rintro e w1 ⟨rfl, hb1⟩; have b1 := BA.out.trans (hb1.mono BA.out.size))
              | fail)
          all_goals
            go_wp2_with fail
            go_meet
            exact ⟨rfl, rfl, rfl, b3⟩
        case rest =>
          obtain ⟨rfl, rfl, rfl, HB3⟩ := hcut
          have hgc : g0 < wc.heap.size := Nat.lt_of_lt_of_le hgA HB3.out.size
          have h6c := H6.out.below HB3.out hgA
          have H6c := Lib.hid h6c
          have HRc := Lib.hid (HRA.out.quiet HB3.out)
          have hgF : ¬ F g0 := fun hf => by have := HR.out.lt _ hf; omega
          obtain ⟨z0, z1, z2, z3, z4, z5⟩ := h6c
          clear a0 a1 a2 a3 a4 a5 y0 y1 y2 y3 y4 y5 HFr HSz hszn hmx
          go_upto_block 2 with fail
          go_cut [12, 13] from 30 to 175 (fun s12 s13 wx => ∃ (s' : RD) (F' : Nat → Prop), Hid (RoomR room p w wx (k + 1) s' F'))
          case first => as_aux_lemma =>
            by_cases k1 : cl.kind = 1
            · have HWr := Lib.hid (fun W A k (hb : Below wc.heap.size wc W) (hr : Reads W W.heap.size 1 A cl.bytes.length (bv cl.bytes)) (hs : ∀ ad, A = some ad → ¬ F ad.block) (hl : cl.bytes.length ≤ k) => disk_write cl.name cl.n cl.bytes A k (HRc.out.quiet hb).disk (HRc.out.quiet hb).well HFit.out.name HFit.out.n (by omega) hr hs hl)
              have hfacts := HRc.out.roomy.write cl.name cl.n cl.bytes
              have HWl : Hid (Well (s.write cl.name cl.n cl.bytes).1 (400 * (k + 1)) ∧ Roomy (s.write cl.name cl.n cl.bytes).1 room) := Lib.hid ⟨⟨HRc.out.well.ok.write _ _ _ hbl, HRc.out.well.nice.write _ _ _, by omega⟩, hfacts.1⟩
              obtain ⟨-, hf7, hf0⟩ := hfacts
              have hhad := HRc.out.well.ok.had cl.name
              have hmx := HRc.out.roomy.size cl.name
              have HMx := Lib.hid hmx
              clear hmx
              generalize hcode : (s.write cl.name cl.n cl.bytes).2 = code at *
              generalize hs' : (s.write cl.name cl.n cl.bytes).1 = s' at *
              have HBc := Lib.hid ((Below.refl wc.heap.size wc).drew)
              have H6d : Hid (∀ W, Below wc.heap.size wc W → Six W g0 cl (.slice Ap cl.picks.length cp)) := Lib.hid (fun W hb => H6c.out.below hb hgc)
              go_upto_region 12 with fail
              have K1 := Lib.hid k1
              rw [k1] at z0 HBy
              clear k1
              go_cut [12] from 30 to 175 (fun s12 wx => s12 = .int .i64 (code : Int) ∧ ∃ F', Hid (RoomR room p w wx (k + 1) s' F' ∧ Six wx g0 cl (.slice Ap cl.picks.length cp)))
              case first => as_aux_lemma =>
                go_region_held3 (fun w' => w'.cell? ⟨g0, 0, none⟩ = some (.int .i64 1) ∧ w'.cell? ⟨g0, 1, none⟩ = some (.string cl.name) ∧ w'.cell? ⟨g0, 2, none⟩ = some (.int .i64 cl.n) ∧ w'.cell? ⟨g0, 3, none⟩ = some (.int .i64 cl.len) ∧ w'.cell? ⟨g0, 4, none⟩ = some (.int .u8 (cl.x.toNat : Int)) ∧ w'.cell? ⟨g0, 5, none⟩ = some (.slice Ap cl.picks.length cp))
                  (first
                    | exact S5.out
                    | exact S4.out
                    | exact ⟨z0, z1, z2, z3, z4, z5⟩
                    | go_keep)
                  (first
                    | (go_at_call 15; refine (HWr.out _ A4 c4 b4 hr4 (fun ad e hf => by have := HRc.out.lt _ hf; have := (hA4 ad e).1; have := HBc.out.size; omega) hc4).mono ?_; intro e w5 hop5; obtain ⟨rfl, -, -⟩ := id hop5; have H5 := Lib.hid ((HRc.out.quiet b4).op hop5 HWl.out.1 HWl.out.2); have T5 := Lib.hid ((H6d.out _ b4).off hop5.2.2 (Nat.lt_of_lt_of_le hgc b4.size) hgF); have S5 := Lib.hid (T5.out.one K1.out); clear hop5)
                    | (go_at_call 22; refine (HBy.out _).mono ?_; rintro e w4 ⟨v4, rfl, ho4, hb4⟩; obtain ⟨A4, c4, rfl, hc4, hm4, hr4, hA4⟩ := own_form ho4; have b4 := HBc.out.trans (hb4.mono HBc.out.size); have S4 := Lib.hid ((H6d.out _ b4).one K1.out))
                    | fail)
                all_goals
                  go_wp2_with fail
                  go_meet
                  exact ⟨rfl, _, H5.out, T5.out⟩
              case rest =>
                obtain ⟨rfl, F', HR5⟩ := hcut
                have h6r := HR5.out.2
                have hgr : g0 < wc.heap.size := by
                  have hh := h6r.1
                  rw [World.cell?] at hh
                  rcases Nat.lt_or_ge g0 wc.heap.size with h | h
                  · exact h
                  · simp [Array.getElem?_eq_none h] at hh
                have H6r := Lib.hid h6r
                obtain ⟨q0, q1, q2, q3, q4, q5⟩ := h6r
                have HFr := Lib.hid (fun W (hb : Below wc.heap.size wc W) => disk_free (HR5.out.1.quiet hb).disk (HR5.out.1.quiet hb).well)
                have HSz := Lib.hid (fun W (hb : Below wc.heap.size wc W) => disk_size cl.name (HR5.out.1.quiet hb).disk (HR5.out.1.quiet hb).well HFit.out.name)
                have hmx := HMx.out
                unfold Grows at hf7 hf0
                generalize cl.bytes.length = n at *
                generalize s.had cl.name = hd at *
                generalize hfre : s.free = fr at *
                generalize hsze : s.size cl.name = sz at *
                have HFe := Lib.hid (And.intro hfre hsze)
                clear hfre hsze
                go_upto_region 13 with fail
                go_cut [13] from 30 to 175 (fun s13 wx => ∃ g : Bool, s13 = .bool g ∧ Hid (g = decide (0 ≤ cl.n ∧ cl.n ≤ (hd : Int) ∧ 0 < n ∧ (hd : Int) < cl.n + n)) ∧ wx = wc)
                case first => as_aux_lemma =>
                  have five : cl.n < 0 ∨ (0 ≤ cl.n ∧ (hd : Int) < cl.n) ∨ (0 ≤ cl.n ∧ cl.n ≤ hd ∧ (n : Int) ≤ 0) ∨ (0 ≤ cl.n ∧ cl.n ≤ hd ∧ 0 < n) := by omega
                  clear hf7 hf0 HFr HSz hmx
                  rcases five with h1 | ⟨h1, h2⟩ | ⟨h1, h2, h3⟩ | ⟨h1, h2, h3⟩
                  · have hE := Lib.hid (decide_eq_false (p := 0 ≤ cl.n ∧ cl.n ≤ (hd : Int) ∧ 0 < n ∧ (hd : Int) < cl.n + n) (by omega))
                    go_wp2_with fail
                    go_meet
                    exact ⟨false, rfl, hE.out.symm, rfl⟩
                  · have hE := Lib.hid (decide_eq_false (p := 0 ≤ cl.n ∧ cl.n ≤ (hd : Int) ∧ 0 < n ∧ (hd : Int) < cl.n + n) (by omega))
                    go_wp2_with fail
                    go_meet
                    exact ⟨false, rfl, hE.out.symm, rfl⟩
                  · have hE := Lib.hid (decide_eq_false (p := 0 ≤ cl.n ∧ cl.n ≤ (hd : Int) ∧ 0 < n ∧ (hd : Int) < cl.n + n) (by omega))
                    go_wp2_with fail
                    go_meet
                    exact ⟨false, rfl, hE.out.symm, rfl⟩
                  · have hE : Hid (decide (0 ≤ cl.n ∧ cl.n ≤ (hd : Int) ∧ 0 < n ∧ (hd : Int) < cl.n + n) = decide ((hd : Int) < cl.n + n)) := Lib.hid (decide_eq_decide.2 (by omega))
                    go_wp2_with fail
                    go_meet
                    exact ⟨_, rfl, hE.out.symm, rfl⟩
                case rest =>
                  obtain ⟨g, rfl, HG, rfl⟩ := hcut
                  by_cases c7 : code = 7
                  · obtain ⟨⟨g1, g2, g3, g4⟩, g5, g6⟩ := hf7 c7
                    have hc7 : (code : Int) = 7 := by omega
                    obtain rfl : g = true := by rw [HG.out]; exact decide_eq_true ⟨g1, g2, g3, g4⟩
                    rw [g6, HFe.out.1] at HFr
                    rw [g6, HFe.out.2] at HSz
                    clear hf7 hf0 g6 c7
                    go_wp2_with (first
                      | (go_at_call 19; refine (HSz.out w6 hb6).mono ?_; rintro e w7 ⟨rfl, hb7⟩)
                      | (go_at_call 21; refine (HFr.out _ (Below.refl _ _)).mono ?_; rintro e w6 ⟨rfl, hb6⟩; obtain ⟨r0, r1, r2, r3, r4, r5⟩ := H6r.out.below hb6 hgr))
                    go_meet
                    exact ⟨_, _, HR5.out.1.quiet (hb6.trans (hb7.mono hb6.size))⟩
                  · have hn7 : (code : Int) ≠ 7 := by omega
                    have hfin : ∃ (s' : RD) (F' : Nat → Prop), Hid (RoomR room p w wc (k + 1) s' F') := ⟨_, _, HR5.out.1⟩
                    have HFin := Lib.hid hfin
                    clear hfin
                    by_cases c0 : code = 0
                    · have hc0 : (code : Int) = 0 := by omega
                      rcases g with _ | _
                      · clear hf7 hf0 c7 c0 HFr HSz hmx
                        go_wp2_with fail
                        go_meet
                        exact HFin.out
                      · have hg := of_decide_eq_true HG.out.symm
                        have hfit := hf0 c0 hg
                        have hfit2 : cl.n + n - hd ≤ fr := by omega
                        obtain ⟨g1, g2, g3, g4⟩ := hg
                        clear hf7 hf0 c7 c0 HFr HSz hmx hfit
                        go_wp2_with fail
                        go_meet
                        exact HFin.out
                    · have hn0 : (code : Int) ≠ 0 := by omega
                      clear hf7 hf0 c7 c0 HFr HSz hmx
                      go_wp2_with fail
                      go_meet
                      exact HFin.out
            by_cases k2 : cl.kind = 2
            · have HCt := Lib.hid (disk_cut cl.name cl.n HRc.out.disk HRc.out.well HFit.out.name HFit.out.n)
              have HWl : Hid (Well (s.cut cl.name cl.n).1 (400 * (k + 1)) ∧ Roomy (s.cut cl.name cl.n).1 room) := Lib.hid ⟨⟨HRc.out.well.ok.cut _ _, HRc.out.well.nice.cut _ _, by omega⟩, HRc.out.roomy.cut _ _⟩
              go_wp2_with (go_at_call 23; refine HCt.out.mono ?_; intro e w5 hop5; obtain ⟨rfl, -, -⟩ := id hop5; have H5 := Lib.hid (HRc.out.op hop5 HWl.out.1 HWl.out.2); clear hop5)
              go_meet
              exact ⟨_, _, H5⟩
            by_cases k3 : cl.kind = 3
            · have HCt := Lib.hid (disk_sync cl.name HRc.out.disk HRc.out.well HFit.out.name)
              have HWl : Hid (Well (s.sync cl.name).1 (400 * (k + 1)) ∧ Roomy (s.sync cl.name).1 room) := Lib.hid ⟨⟨HRc.out.well.ok.sync _, HRc.out.well.nice.sync _, by omega⟩, HRc.out.roomy.sync _⟩
              go_wp2_with (go_at_call 16; refine HCt.out.mono ?_; intro e w5 hop5; obtain ⟨rfl, -, -⟩ := id hop5; have H5 := Lib.hid (HRc.out.op hop5 HWl.out.1 HWl.out.2); clear hop5)
              go_meet
              exact ⟨_, _, H5⟩
            · have H5 := Lib.hid (HRc.out.more h60)
              go_wp2_with fail
              go_meet
              exact ⟨_, _, H5⟩
          case rest =>
            obtain ⟨s', F', HR'⟩ := hcut
            clear z0 z1 z2 z3 z4 z5
            have hup := HR'.out.roomy.down
            have hsum := HR'.out.roomy.sum
            have hfree := HR'.out.roomy.free
            have hN := disk_names HR'.out.disk HR'.out.well
            have hnl : s'.names.length = s'.files.length := by simp [RD.names]
            unfold NamesAt at hN
            rw [told_up hup, hnl] at hN
            have HN := Lib.hid hN
            have HFr := Lib.hid (fun W (hb : Below wc.heap.size wc W) => disk_free (HR'.out.quiet hb).disk (HR'.out.quiet hb).well)
            have HSz : Hid (∀ (W : World) (j : Nat) (hj : j < s'.files.length), Below wc.heap.size wc W → Calls Try.prog 19 #[.pointer (some ⟨p, 0, none⟩), .string s'.files[j].name] W fun e w' => e = .returned (.int .i64 (s'.files[j].now.length : Int)) ∧ Below W.heap.size W w') := Lib.hid (fun W j hj hb => by
              rw [← size_at HR'.out.well.nice hup j hj]
              exact disk_size _ (HR'.out.quiet hb).disk (HR'.out.quiet hb).well (by have := named_size (HR'.out.well.nice.named _ (List.getElem_mem hj)); omega))
            have HNk : Hid (∀ (j : Nat) (hj : j < s'.files.length), (strs s'.names)[j]? = some (.string s'.files[j].name)) := Lib.hid (fun j hj => by
              rw [strs_get _ j (by omega)]
              simp [RD.names])
            have hf16 := HR'.out.well.ok.files
            have HLe : Hid (∀ (j : Nat) (hj : j < s'.files.length), psum s'.files (j + 1) = psum s'.files j + s'.files[j].now.length ∧ psum s'.files (j + 1) ≤ s'.sum) := Lib.hid (fun j hj => ⟨psum_succ _ _ hj, psum_le _ _⟩)
            have HAll := Lib.hid (psum_all s')
            have HP0 : Hid (psum s'.files 0 = 0) := Lib.hid rfl
            clear hN hup hnl
            go_upto_block 3 with (go_at_call 24; refine HN.out.mono ?_; rintro e w5 ⟨v5, rfl, ho5, hb5⟩; obtain ⟨A5, cc5, rfl, hc5, hm5, hr5, hA5⟩ := own_form ho5)
            have HB5 := Lib.hid hb5
            have HRd5 := Lib.hid hr5
            clear ho5 hb5 hr5 hA5
            go_cut [14, 16] from 30 to 175 (fun s14 s16 wx => s14 = .int .i64 (s'.sum : Int) ∧ Hid (Below w5.heap.size w5 wx))
            case first => as_aux_lemma =>
              go_wp2_with fail
              go_loopw [14, 16] (fun i1 i2 wr2 => ∃ j : Nat, j ≤ s'.files.length ∧ i1 = .int .i64 (psum s'.files j : Int) ∧ i2 = .int .i64 (j : Int) ∧ Hid (Below w5.heap.size w5 wr2)) (fun _ i2 _ => s'.files.length - (intOf i2).toNat)
              case atStart => exact ⟨0, Nat.zero_le _, by rw [HP0.out]; rfl, rfl, Below.refl _ _⟩
              case round =>
                obtain ⟨j, hj, rfl, rfl, HBr⟩ := hrel
                by_cases hlj : j < s'.files.length
                · obtain ⟨bn, on, rfl, hbn, hcn⟩ := (HRd5.out.below HBr.out).form (by omega)
                  have hxn := hcn j _ (HNk.out j hlj)
                  have hij : (j : Int) < (s'.files.length : Int) := by omega
                  have hj0 : (0 : Int) ≤ (j : Int) := by omega
                  have HSk := Lib.hid (HSz.out wr j hlj (HB5.out.trans (HBr.out.mono HB5.out.size)))
                  obtain ⟨e1, e2⟩ := HLe.out j hlj
                  have HE1 := Lib.hid e1
                  clear hcn
                  generalize s'.files[j].name = nm at *
                  generalize s'.files[j].now.length = nl at *
                  generalize psum s'.files j = ps at *
                  go_wp2_with (go_at_call 19; refine HSk.out.mono ?_; rintro e w6 ⟨rfl, hb6⟩)
                  go_roundw
                  case rel => exact ⟨j + 1, by omega, by rw [HE1.out]; go_num, by go_num, HBr.out.trans (hb6.mono HBr.out.size)⟩
                  case measure => simp [intOf]; omega
                · have hjl : j = s'.files.length := by omega
                  have hij : (s'.files.length : Int) ≤ (j : Int) := by omega
                  clear hlj
                  go_wp2_with fail
                  go_meet
                  exact ⟨by rw [hjl, HAll.out], HBr.out⟩
            case rest =>
              obtain ⟨rfl, HBx⟩ := hcut
              have HBz := Lib.hid (HB5.out.trans (HBx.out.mono HB5.out.size))
              go_wp2_with (go_at_call 21; refine (HFr.out _ HBz.out).mono ?_; rintro e w7 ⟨rfl, hb7⟩)
              go_roundw
              case rel => exact ⟨k + 1, s', F', by omega, by omega, by go_num, HR'.out.quiet (HBz.out.trans (hb7.mono HBz.out.size))⟩
              case measure => simp [intOf]; omega
      · have hi6 : (60 : Int) ≤ (k : Int) := by omega
        have hi : (k : Int) < (l.length : Int) := by omega
        clear h60 hlt
        go_wp2_with fail
        go_ret
        exact ⟨rfl, HR.out.below⟩
    · obtain rfl : k = l.length := by omega
      clear hlt
      go_wp2_with fail
      go_ret
      exact ⟨rfl, HR.out.below⟩
end Go.Proofs.Ytkjnpclkfoedgaa
