/- Contract of octavoref04.Write where bytes are written. Contracts of octavoref04: Free, Arm, Read. Contract of octavoref04.Cut. Conditions: those that each theorem names. -/
import Derived.Test.YtoihkanneiknkaaDkE
import Derived.IntWalk
import Derived.RegionTactic
import Derived.Deep.RegionLaw
namespace Go.Proofs.Ytoihkanneiknkaa
open Go.RowKit

theorem Reads.off {w w' : World} {F : Nat → Prop} {sz n : Nat} {A : Option Addr} {xs : List Value} (h : Reads w w.heap.size sz A n xs) (ho : Only F w w') (hs : ∀ ad, A = some ad → ¬ F ad.block) : Reads w' w'.heap.size sz A n xs :=
  ⟨h.1, fun hn => by
    obtain ⟨ad, e, hb, hc⟩ := h.2 hn
    exact ⟨ad, e, Nat.lt_of_lt_of_le hb ho.size, fun j u hu => (ho.cell (by rw [block_of_add]; exact hb) (by rw [block_of_add]; exact hs ad e)).trans (hc j u hu)⟩⟩
theorem gr_of {F : Nat → Prop} {w w' : World} {k : Nat} (h : F k) : Gr F w w' k := .inl h

theorem below_of_drew {w w' : World} (h : Below w.drew.heap.size w.drew w') : Below w.heap.size w w' := ((Below.refl w.heap.size w).drew).trans h
/-- What made does, wherever. -/
def MadeTo (F : Nat → Prop) (p : Nat) (R : RMem) (nm : ByteArray) (w : World) (e : Ending) (w' : World) : Prop :=
  e = .returned (.int .i64 (R.st.at_ nm : Int)) ∧ ∃ R', RefM w' (Gr F w w') p R' ∧ R'.st = R.st.made nm ∧ R'.pr = R.pr ∧ R.st.at_ nm < R'.fr.length ∧ Only F w w'
theorem made_any (nm : ByteArray) (F : Nat → Prop) (p : Nat) (R : RMem) (w : World) (h : RefM w F p R) (hlen : R.fr.length ≤ 1000000) :
    Calls Try.prog 59 #[.pointer (some ⟨p, 0, none⟩), .string nm] w fun e w' => MadeTo F p R nm w e w' := by
  rcases hfd : R.st.find nm with _ | k
  · have ha : R.st.at_ nm = lessN nm R.st.names := by unfold RD.at_; rw [hfd]
    refine (made_new nm F p R w h hlen hfd).mono fun e w' ⟨he, v, hr, ho⟩ => ⟨by rw [ha]; exact he, R.made nm v, hr, made_st R nm v hfd, rfl, ?_, ho⟩
    rw [ha]
    have := lessN_le nm R.st.names
    rw [st_names, List.length_map] at this
    simp [RMem.made, putAt, st_names] at this ⊢
    omega
  · have ha : R.st.at_ nm = k := by unfold RD.at_; rw [hfd]
    have hm : R.st.made nm = R.st := by unfold RD.made; rw [hfd]
    refine (made_old nm k F p R w h hfd).mono fun e w' ⟨he, hw⟩ => ?_
    subst hw
    exact ⟨by rw [ha]; exact he, R, h.mono fun k hk => .inl hk, hm.symm, rfl, by rw [ha]; exact find_lt hfd, Only.refl _ _⟩
theorem tick_find (R : RMem) (nm : ByteArray) : R.tick.st.find nm = R.st.find nm ∧ R.tick.st.names = R.st.names ∧ R.tick.fr = R.fr ∧ R.tick.pr = R.pr := by
  unfold RMem.tick
  split <;> exact ⟨rfl, rfl, rfl, rfl⟩

theorem fr_le_sum (R : RMem) (k : Nat) (hk : k < R.fr.length) : R.fr[k].now.length ≤ R.st.sum := by
  rw [st_sum]
  have h1 := sum_take R.fr k hk
  have h2 := sum_le R.fr (k + 1)
  omega
theorem made_sum (d : RD) (nm : ByteArray) : (d.made nm).sum = d.sum := by
  unfold RD.made
  split
  · rfl
  · unfold RD.sum
    simp only [putAt, List.map_append, List.sum_append, List.map_cons, List.map_nil, List.sum_cons, List.sum_nil, List.length_nil]
    conv => rhs; rw [← List.take_append_drop (lessN nm d.names) d.files, List.map_append, List.sum_append]
    omega
theorem setF_st (R : RMem) (k : Nat) (hk : k < R.fr.length) (f : FR) (g : RF → RF) (hg : g R.fr[k].toF = f.toF) : ({ R with fr := R.fr.set k f } : RMem).st = R.st.setF k g := by
  unfold RD.setF
  have e : R.st.files[k]? = some R.fr[k].toF := by simp [RMem.st, List.getElem?_eq_getElem hk]
  rw [e]
  simp [RMem.st, List.map_set, hg]
/-- A new row of pieces is laid, perhaps in the room of the old one. -/
theorem RefM.pushPend {w w5 : World} {F G : Nat → Prop} {p : Nat} {R : RMem} (h : RefM w F p R) (hFG : ∀ k, F k → G k) (ho : Only (fun q => R.pv.ownBlock = some q) w w5) (v : Value) (l : List PR) (hr : Row w5 G 97 4 encP v l) (hb : ∀ q ∈ l, BOwn w5 G q.bv q.b) :
    RefM (w5.setCell ⟨p, 6, none⟩ v) G p { R with pv := v, pr := l } := by
  have hblk : Blk w5 p 32 R.blkOf := h.blk'.only ho fun e => own_blk_ne h.ps.own h.blk (by decide) e
  have hpt : ∀ {q : Nat}, R.pv.ownBlock = some q → ∃ cur, Blk w q 97 cur := fun {q} hq => by
    rcases h.ps.own.2 with ⟨e, _⟩ | ⟨g', cap, cur, e, _, hh, _⟩
    · rw [e] at hq; simp [Value.ownBlock] at hq
    · rw [e] at hq
      have : g' = q := by simpa [Value.ownBlock] using hq
      subst this
      exact ⟨cur, hh⟩
  have hfs : Row w5 F 75 4 encF R.fv R.fr := h.fs.off ho fun k hk e => by
    obtain ⟨cur, hc⟩ := hpt e
    exact own_blk_ne h.fs.own hc (by decide) hk
  have hby : ∀ {u : Value} {m : List UInt8}, BOwn w F u m → BOwn w5 F u m := fun {u m} hu => hu.off ho fun k hk e => by
    obtain ⟨cur, hc⟩ := hpt e
    exact hu.ne hc (by decide) k hk rfl
  have hon : Only (fun k => k = p) w5 (w5.setCell ⟨p, 6, none⟩ v) := (Only.refl (fun k => k = p) w5).setCell (p := ⟨p, 6, none⟩) (.inl rfl) v
  have hst : ∀ {u : Value} {m : List UInt8} {H : Nat → Prop}, BOwn w5 H u m → BOwn (w5.setCell ⟨p, 6, none⟩ v) H u m := fun {u m H} hu => hu.off hon fun k hk e => hu.ne hblk (by decide) k hk e
  exact ⟨by simpa [RMem.blkOf] using hblk.set_ 6 v, hFG p h.fp, (hfs.off hon fun k hk e => own_blk_ne hfs.own hblk (by decide) (e ▸ hk)).mono hFG, hr.off hon fun k hk e => own_blk_ne hr.own hblk (by decide) (e ▸ hk),
    fun f hf => ⟨(hst (hby (h.fb f hf).1)).mono hFG, (hst (hby (h.fb f hf).2)).mono hFG⟩, fun q hq => hst (hb q hq)⟩
theorem own_slice {w : World} {base : Nat} {e : TypeId} {size n : Nat} {v : Value} {xs : List Value} (h : w.ownsRow base e size v n xs) : ∃ A c, v = .slice A n c := by
  rcases h.2 with ⟨rfl, h0⟩ | ⟨g, cap, cur, rfl, _⟩
  · exact ⟨none, 0, by rw [h0]⟩
  · exact ⟨_, _, rfl⟩
/-- Behind the store of the new bytes. -/
def CutW (F : Nat → Prop) (p : Nat) (s : RD) (pr : List PR) (w wx : World) : Prop := ∃ R, RefM wx (Gr F w wx) p R ∧ R.st = s ∧ R.pr = pr ∧ Only F w wx
/-- Where the loop over the bytes stands. -/
def WrAt (F : Nat → Prop) (p : Nat) (s : RD) (nm : ByteArray) (at' : Nat) (b : List UInt8) (w : World) (k : Nat) (wr : World) : Prop :=
  ∃ R, RefM wr (Gr F w wr) p R ∧ R.st = { s with pend := s.pend ++ (piecesTo nm at' b k).2 } ∧ Only F w wr

set_option maxRecDepth 100000 in
set_option maxHeartbeats 4000000 in
theorem write_yes (nm : ByteArray) (at' : Nat) (b : List UInt8) (A : Option Addr) (c : Nat) (F : Nat → Prop) (p : Nat) (R : RMem) (w : World) (h : RefM w F p R) (hf : R.Fine) (hn : nm.size ≤ 9223372036854775807) (hb : b.length ≤ 1073741824)
    (hfl : R.fr.length ≤ 16) (hpl : R.pr.length ≤ 1000000) (hr : Reads w w.heap.size 1 A b.length (bv b)) (hs : ∀ ad, A = some ad → ¬ F ad.block) (hbc : b.length ≤ c)
    (y1 : named nm = true) (y2 : R.down = false) (y3 : at' ≤ R.st.had nm) (y4 : b ≠ []) (y5 : R.st.fits nm (max (R.st.had nm) (at' + b.length)) = 0) (y6 : R.st.stops = false) :
    Calls Try.prog 30 #[.pointer (some ⟨p, 0, none⟩), .string nm, .int .i64 at', .slice A b.length c] w fun e w' => OpAt F p (R.st.write nm at' b).1 0 w e w' := by
  obtain ⟨i0, hi0, hz0, hz1, hz2⟩ := info_parts prinfo
  have HNm := Lib.hid (named_any nm w hn)
  obtain ⟨c0, c1, c2, c3, c4, c5, c6⟩ := h.cells
  have hhad := Nat.le_trans (had_le R nm) hf.sum
  have HR := Lib.hid h
  have HRb := Lib.hid hr
  have HFind := Lib.hid (find_any nm F p R w h)
  have HFits := Lib.hid (fits_any nm (max (R.st.had nm) (at' + b.length)) F p R w h hf (by omega))
  have HChg : Hid (∀ W, Only (fun _ => False) w W → Calls Try.prog 58 #[.pointer (some ⟨p, 0, none⟩)] W fun e w' => e = .returned (.int .i64 (if R.st.stops then 8 else 0)) ∧ RefM w' F p R.tick ∧ Only F W w') :=
    Lib.hid (fun W hW => change_any F p R W (h.here hW) hf.chg hf.left)
  have HTick := Lib.hid (tick_st R)
  have HSum : Hid (R.tick.st.sum = R.st.sum) := Lib.hid (by rw [st_sum, st_sum, (tick_find R nm).2.2.1])
  have hfs := hf.sum
  have HMade : Hid (∀ W, RefM W F p R.tick → Calls Try.prog 59 #[.pointer (some ⟨p, 0, none⟩), .string nm] W fun e w' => MadeTo F p R.tick nm W e w') :=
    Lib.hid (fun W hW => made_any nm F p R.tick W hW (by rw [(tick_find R nm).2.2.1]; omega))
  have hat : R.tick.st.at_ nm = R.st.at_ nm := by unfold RD.at_; rw [(tick_find R nm).1, (tick_find R nm).2.1]
  rw [y1] at HNm
  rw [y2] at c4
  rw [y5] at HFits
  rw [y6] at HTick HChg
  simp only [Bool.false_eq_true, if_false] at HTick HChg
  have hbp : 1 ≤ b.length := by
    rcases b with _ | ⟨x, b⟩
    · exact absurd rfl y4
    · simp
  have hb0 : ((b.length : Int) == 0) = false := by rw [beq_eq_false_iff_ne]; omega
  obtain ⟨s1, hs1⟩ : ∃ s1, s1 = (R.tick.st.made nm).setF (R.st.at_ nm) (fun f => { f with now := layB f.now at' b }) := ⟨_, rfl⟩
  have HW : Hid ((R.st.write nm at' b).1 = { s1 with pend := s1.pend ++ pieces nm at' b }) := Lib.hid (by
    unfold RD.write
    rw [if_neg (by rw [y1]; simp), if_neg (by show ¬ R.down = true; rw [y2]; simp), if_neg (by omega), if_neg y4, if_neg (by simpa using y5), if_neg (by rw [y6]; simp), hs1, HTick.out]
    simp only [Int.toNat_natCast])
  have hst0 : s1.pend = R.st.pend := by
    rw [hs1]
    have : R.tick.st.pend = R.st.pend := by rw [HTick.out]; rfl
    rw [← this]
    unfold RD.setF RD.made
    split <;> rfl
  have HS1 := Lib.hid hs1
  have HPend := Lib.hid hst0
  have HAt := Lib.hid hat
  have hfd := tick_find R nm
  have HSz := Lib.hid (show R.tick.pr.length ≤ 1000000 by rw [hfd.2.2.2]; exact hpl)
  have hati : (0 : Int) ≤ (at' : Int) := by omega
  have hsum : ((max (R.st.had nm) (at' + b.length) : Nat) : Int) = max (R.st.had nm : Int) ((at' : Int) + (b.length : Int)) := by omega
  rw [hsum] at HFits
  clear h hf hr y4 y5 y6 hs1 hst0 hat hfd hsum c0 c1 c2 c3 c6
  have hcase : ∃ m : Nat, m = R.st.had nm ∧ ((R.st.find nm = none ∧ m = 0) ∨ ∃ k g cap A1 cc1, R.st.find nm = some k ∧ k < R.fr.length ∧ R.fv = .slice (some ⟨g, 0, none⟩) R.fr.length cap ∧ w.cell? ⟨g, k * 4 + 1, none⟩ = some (.slice A1 m cc1)) := by
    refine ⟨_, rfl, ?_⟩
    rcases hfd : R.st.find nm with _ | k
    · exact .inl ⟨rfl, had_none hfd⟩
    · have hk := find_lt hfd
      obtain ⟨g, cap, hv2, -, -, -, -, hcell, -⟩ := fr_cells HR.out.fs (by omega)
      obtain ⟨-, x1, -, -⟩ := hcell k hk
      obtain ⟨A1, cc1, hn1, -, -, -⟩ := (HR.out.fb _ (List.getElem_mem hk)).1.value
      rw [hn1] at x1
      refine .inr ⟨k, g, cap, A1, cc1, rfl, hk, hv2, ?_⟩
      rw [had_some hfd]
      exact x1
  obtain ⟨m, hm, hcase⟩ := hcase
  rw [← hm] at y3 hhad HFits
  clear hm
  obtain ⟨z, hz⟩ : ∃ z, z = posI nm R.st.names := ⟨_, rfl⟩
  have HZ := Lib.hid hz
  rw [← hz] at HFind
  clear hz
  go_enter Try.func30, Try.ntmps30
  go_upto_if 27 with (first | (go_at_call 55; refine HNm.out.mono ?_; rintro e w' ⟨rfl, rfl⟩) | (go_at_call 56; refine HFind.out.mono ?_; rintro e w' ⟨rfl, rfl⟩))
  go_cut [9] (fun s9 wx => s9 = .int .i64 m ∧ w = wx)
  case first =>
    rcases hcase with ⟨hfd, rfl⟩ | ⟨k0, g0, cap0, A1, cc1, hfd, hk0, hv0, x1⟩
    · obtain rfl : z = -1 := HZ.out.trans (posI_none hfd)
      clear hfd
      go_wp2_with fail
      go_meet
      exact ⟨rfl, rfl⟩
    · obtain rfl : z = (k0 : Int) := HZ.out.trans (posI_some hfd)
      rw [hv0] at c5
      have hk0i : (k0 : Int) < (R.fr.length : Int) := by omega
      have hk00 : (0 : Int) ≤ (k0 : Int) := by omega
      clear hfd hv0
      go_wp2_with fail
      go_meet
      exact ⟨rfl, rfl⟩
  case rest =>
    obtain ⟨rfl, rfl⟩ := hcut
    clear hcase
    have y3' : (at' : Int) ≤ (m : Int) := by omega
    go_upto_region 20 with (first | (go_at_call 57; refine HFits.out.mono ?_; rintro e w1 ⟨rfl, ho1⟩) | (go_at_call 58; refine (HChg.out w1 ho1).mono ?_; rintro e w2 ⟨rfl, hr2, ho2⟩) | (go_at_call 59; refine (HMade.out w2 hr2).mono ?_; rintro e w3 ⟨rfl, R3, hr3, hst3, hpr3, hk3, ho3⟩))
    rw [HAt.out] at hk3
    have HO3 : Hid (Only F w w3) := Lib.hid (((ho1.mono fun _ _ h => h.elim).trans ho2 fun _ _ h => h).trans ho3 fun _ _ h => h)
    have hg0 : w.heap.size ≤ w2.heap.size := Nat.le_trans ho1.size ho2.size
    have HR3 : Hid (RefM w3 (Gr F w w3) p R3) := Lib.hid (hr3.mono fun k hk => by
      rcases hk with hk | hk
      · exact .inl hk
      · exact .inr (by omega))
    have HB3 := Lib.hid (HRb.out.off HO3.out hs)
    have HSt3 := Lib.hid hst3
    have HPr3 := Lib.hid hpr3
    have d5 := HR3.out.cells.2.2.2.2.2.1
    obtain ⟨g3, cap3, hv3, hg3F, hg3, -, -, hcell3, hfz3⟩ := fr_cells HR3.out.fs (by omega)
    obtain ⟨-, z1, -, -⟩ := hcell3 _ hk3
    obtain ⟨A4, cc4, hn4, -, -, hrd4⟩ := (HR3.out.fb _ (List.getElem_mem hk3)).1.value
    rw [hn4] at z1
    rw [hv3] at d5
    have hz2 := hfz3 (R.st.at_ nm * 4 + 1)
    have hp3 : p < w3.heap.size := HR3.out.blk.lt
    have HV3 := Lib.hid hv3
    have HN4 := Lib.hid hn4
    have HRd4 := Lib.hid hrd4
    have hm4 : R3.fr[R.st.at_ nm].now.length ≤ 549755813888 := Nat.le_trans (fr_le_sum R3 _ hk3) (by rw [HSt3.out, made_sum, HSum.out]; exact hfs)
    have hki : ((R.st.at_ nm : Nat) : Int) < (R3.fr.length : Int) := by omega
    rw [HAt.out]
    clear hr3 hst3 hpr3 ho1 ho2 ho3 hr2 hcell3 hfz3 hv3 hn4 hrd4
    generalize hka : R.st.at_ nm = ka at *
    have HKa := Lib.hid hka
    clear hka
    generalize hnow : R3.fr[ka].now = now at *
    have HNow := Lib.hid hnow
    clear hnow
    have HFin : Hid (∀ w4 A9 c9, Below w3.heap.size w3 w4 → w4.ownsRow w3.heap.size 5 1 (.slice A9 (layB now at' b).length c9) (layB now at' b).length (bv (layB now at' b)) → CutW F p s1 R.pr w (w4.setCell ⟨g3, ka * 4 + 1, none⟩ (.slice A9 (layB now at' b).length c9))) := Lib.hid (fun w4 A9 c9 hb4 ho4 => by
      have h4 := (HR3.out.here (Only.of_below hb4))
      have hsz := HO3.out.size
      have hb := bown_of_own (F := Gr F w w4) ho4 fun k h1 h2 => .inr ⟨by omega, h2⟩
      have hsub : ∀ k, Gr F w w3 k → Gr F w w4 k := fun k hk => hk.elim .inl fun hk => .inr (by have := hb4.size; omega)
      have hset := h4.setFile hsub (g := g3) (by rw [HV3.out]; rfl) ka hk3 1 (by omega) (.slice A9 (layB now at' b).length c9) { R3.fr[ka] with nv := .slice A9 (layB now at' b).length c9, now := layB now at' b } rfl ⟨hb, ((h4.fb _ (List.getElem_mem hk3)).2.mono hsub)⟩
      refine ⟨_, hset.mono fun k hk => hk.elim .inl fun hk => .inr (by simpa [World.setCell] using hk), ?_, ?_, ?_⟩
      · rw [setF_st R3 ka hk3 _ (fun f => { f with now := layB f.now at' b }) (by simp [FR.toF, HNow.out]), HSt3.out, HS1.out]
      · exact HPr3.out.trans (tick_find R nm).2.2.2
      · exact (HO3.out.then_ ((Only.of_below hb4 : Only (Gr F w w3) w3 w4))).setCell (p := ⟨g3, ka * 4 + 1, none⟩) (hg3F.elim .inl fun h => .inr h.1) _)
    go_cut [84] (fun s84 wx => CutW F p s1 R.pr w wx)
    case first =>
      go_region_with (first
        | (go_at_call 60; refine (lay_any now b at' A4 A w3.heap.size w3.heap.size cc4 c w3.drew (by omega) (by omega) HRd4.out HB3.out).mono ?_; rintro e w4 ⟨v4, rfl, ho4, hb4⟩; have hbK : Below w3.heap.size w3 w4 := below_of_drew hb4; have d5' := (hbK.cell (p := ⟨p, 5, none⟩) hp3).trans d5; have z1' := (hbK.cell (p := ⟨g3, ka * 4 + 1, none⟩) hg3).trans z1; have hz2' := (hbK.frozen (p := ⟨g3, ka * 4 + 1, none⟩) hg3).trans hz2; obtain ⟨A9, c9, rfl, hc9, hm9, hr9, hA9⟩ := own_form ho4; have HO4 := Lib.hid ho4; have HBK := Lib.hid hbK; clear ho4 hb4 hbK))
      all_goals
        go_wp2_with fail
        go_meet
        exact HFin.out _ _ _ HBK.out HO4.out
    case rest =>
      obtain ⟨R5, hr5, hst5, hpr5, ho5⟩ := hcut
      have HW0 : Hid (WrAt F p s1 nm at' b w 0 wc) := Lib.hid ⟨R5, hr5, by rw [hst5]; simp [piecesTo], ho5⟩
      have HPl5 : Hid (s1.pend.length = R.pr.length) := Lib.hid (by rw [HPend.out]; simp [RMem.st])
      clear hr5 hst5 hpr5 ho5 HFin HR3 HSt3 HPr3 HV3 HN4 HRd4 HB3 HO3 HMade HChg HFits HFind z1 hz2 d5
      go_wp2_with fail
      go_loopw [14, 15] (fun fr i wr => ∃ k f0 : Nat, k ≤ b.length ∧ f0 ≤ k ∧ i = .int .i64 ((k + 1 : Nat) : Int) ∧ fr = .int .i64 f0 ∧ Hid (f0 = (piecesTo nm at' b k).1) ∧ Hid (WrAt F p s1 nm at' b w k wr)) (fun _ i _ => b.length + 1 - (intOf i).toNat)
      case atStart => exact ⟨0, 0, Nat.zero_le _, Nat.le_refl _, rfl, rfl, rfl, HW0⟩
      case round =>
        obtain ⟨k, f0, hk, hfk, rfl, rfl, HF0, HWr⟩ := hrel
        by_cases hlt : k < b.length
        · have hi : ((k + 1 : Nat) : Int) ≤ (b.length : Int) := by omega
          have hi2 : (k : Int) + 1 ≤ (b.length : Int) := by omega
          have hmod : (((at' : Int) + ((k : Int) + 1)) % 64 == 0) = decide ((at' + (k + 1)) % 64 = 0) := by
            rw [Bool.eq_iff_iff, beq_iff_eq, decide_eq_true_iff]; omega
          have hend : (((k : Int) + 1) == (b.length : Int)) = decide (k + 1 = b.length) := by
            rw [Bool.eq_iff_iff, beq_iff_eq, decide_eq_true_iff]; omega
          by_cases hcut : k + 1 = b.length ∨ (at' + (k + 1)) % 64 = 0
          · have HN : Hid (piecesTo nm at' b (k + 1) = (k + 1, (piecesTo nm at' b k).2 ++ [⟨nm, at' + f0, (b.drop f0).take (k + 1 - f0), false⟩])) := Lib.hid (by rw [piecesTo, pstep, if_pos hcut, HF0.out])
            obtain ⟨R6, hr6, hst6, ho6⟩ := HWr.out
            have HR6 := Lib.hid hr6
            have HSt6 := Lib.hid hst6
            have HO6 := Lib.hid ho6
            obtain ⟨A6, cc6, hv6, hlc6, hcm6, hA6⟩ := hr6.ps.value
            have d6 := hr6.cells.2.2.2.2.2.2
            rw [hv6] at d6
            have fz6 := hr6.blk.frozen 6
            have hps := hr6.ps.own
            rw [hv6] at hps
            have HPs := Lib.hid hps
            have HV6 := Lib.hid hv6
            have hn6 : R6.pr.length ≤ 1000000 + b.length := by
              have h1 := congrArg (fun s => s.pend.length) hst6
              have h2 := (piecesTo_le nm at' b k).2
              simp [RMem.st] at h1
              have := HPl5.out
              omega
            have hrb := HRb.out.off ho6 hs
            obtain ⟨ba, oa, rfl, hba, hcb⟩ := hrb.form (by omega)
            have HRs : Hid (Reads wr wr.heap.size 1 (some ⟨ba, oa + f0, none⟩) ((b.drop f0).take (k + 1 - f0)).length (bv ((b.drop f0).take (k + 1 - f0)))) := Lib.hid (by
              have h1 := (hrb.cut (k := f0) (cap := c) (by omega) hbc).pre (n := k + 1 - f0) (by omega)
              rw [if_neg (by omega), Option.map_some] at h1
              have e1 : (⟨ba, oa, none⟩ : Addr).add (f0 * 1) = ⟨ba, oa + f0, none⟩ := by
                unfold Addr.add
                by_cases h0 : f0 = 0
                · subst h0; rfl
                · simp [h0]
              have e2 : ((b.drop f0).take (k + 1 - f0)).length = k + 1 - f0 := by simp; omega
              rw [e1] at h1
              rw [e2, bv_take_drop]
              simpa using h1)
            have hls : ((b.drop f0).take (k + 1 - f0)).length = k + 1 - f0 := by simp; omega
            rw [hls] at HRs
            have hp6 : p < wr.heap.size := hr6.blk.lt
            generalize hsl : (b.drop f0).take (k + 1 - f0) = sl at *
            have hkf : f0 < k + 1 := by omega
            have hkc : k + 1 ≤ c := by omega
            clear hr6 hst6 ho6 hv6 hps hrb hcb hsl
            have hc0 : (((k : Int) + 1) == (b.length : Int)) = true ∨ (((k : Int) + 1) == (b.length : Int)) = false ∧ (((at' : Int) + ((k : Int) + 1)) % 64 == 0) = true := by
              rw [hend, hmod]
              by_cases h1 : k + 1 = b.length
              · exact .inl (decide_eq_true h1)
              · exact .inr ⟨decide_eq_false h1, decide_eq_true (hcut.resolve_left h1)⟩
            clear hend hmod hcut
            have HCp : Hid (Calls Try.prog 54 #[.slice (some ⟨ba, oa + f0, none⟩) (k + 1 - f0) (c - f0)] wr.drew fun e w' => ∃ v, e = .returned v ∧ w'.ownsRow wr.heap.size 5 1 v sl.length (bv sl) ∧ Below wr.heap.size wr w') := Lib.hid (by
              have h1 := copy_any sl (some ⟨ba, oa + f0, none⟩) wr.heap.size (c - f0) wr.drew (by omega) (by rw [hls]; exact HRs.out)
              rw [hls] at h1 ⊢
              exact h1.mono fun e w' ⟨v, h2, h3, h4⟩ => ⟨v, h2, h3, below_of_drew h4⟩)
            have HPend4 : Hid (∀ w4, Below wr.heap.size wr w4 → w4.ownsRow 0 97 4 (.slice A6 R6.pr.length cc6) R6.pr.length (flat encP R6.pr)) := Lib.hid (fun w4 hb => own_only HPs.out (Only.of_below hb : Only (fun _ => False) wr w4) fun _ _ => id)
            have hne6 : ∀ q, (Value.slice A6 R6.pr.length cc6).ownBlock = some q → q ≠ p := fun q hq e => by
              have := own_blk_ne HPs.out HR6.out.blk (by decide)
              rw [hq] at this
              exact this (by rw [e])
            have HFin : Hid (∀ w4 w5 A9 c9 v5 lit, Below wr.heap.size wr w4 → w4.ownsRow wr.heap.size 5 1 (.slice A9 sl.length c9) sl.length (bv sl) → (w4.alloc lit).grownBy w5 (Value.slice A6 R6.pr.length cc6).ownBlock → (v5.ownBlock = (Value.slice A6 R6.pr.length cc6).ownBlock ∨ v5.ownBlock = some (w4.alloc lit).heap.size) →
                w5.ownsRow 0 97 4 v5 (R6.pr.length + 1) (flat encP R6.pr ++ [.string nm, .int .i64 ((at' : Int) + (f0 : Int)), .slice A9 sl.length c9, .bool false]) → WrAt F p s1 nm at' b w (k + 1) (w5.setCell ⟨p, 6, none⟩ v5)) := Lib.hid (by
              intro w4 w5 A9 c9 v5 lit hb4 ho4 hg5 hat5 ho5
              have h4 := HR6.out.here (Only.of_below hb4)
              have hsz4 := hb4.size
              have hsz5 : w4.heap.size + 1 ≤ w5.heap.size := by have := hg5.size; simp at this; omega
              have honly : Only (fun q => R6.pv.ownBlock = some q) w4 w5 := ((Only.refl _ w4).alloc lit).grown hg5 fun q hq => .inl (by rw [HV6.out]; exact hq)
              have hsub : ∀ q, Gr F w wr q → Gr F w w5 q := fun q hq => hq.elim .inl fun hq => .inr (by omega)
              have hpv : ∀ q, R6.pv.ownBlock = some q → ∃ cur, Blk w4 q 97 cur := fun q hq => by
                rcases h4.ps.own.2 with ⟨e, _⟩ | ⟨g', cap, cur, e, _, hh, _⟩
                · rw [e] at hq; simp [Value.ownBlock] at hq
                · rw [e] at hq
                  have : g' = q := by simpa [Value.ownBlock] using hq
                  subst this
                  exact ⟨cur, hh⟩
              have hkeep : ∀ {u : Value} {m : List UInt8} {H : Nat → Prop}, BOwn w4 H u m → BOwn w5 H u m := fun {u m H} hu => hu.off honly fun q hq e => by
                obtain ⟨cur, hc⟩ := hpv q e
                exact hu.ne hc (by decide) q hq rfl
              have hbn : BOwn w5 (Gr F w w5) (.slice A9 sl.length c9) sl := hkeep (bown_of_own ho4 fun q h1 h2 => .inr ⟨by have := HO6.out.size; omega, by omega⟩)
              have henc : encP ⟨nm, at' + f0, .slice A9 sl.length c9, sl, false⟩ = [.string nm, .int .i64 ((at' : Int) + (f0 : Int)), .slice A9 sl.length c9, .bool false] := by simp [encP]
              have hrow : Row w5 (Gr F w w5) 97 4 encP v5 (R6.pr ++ [⟨nm, at' + f0, .slice A9 sl.length c9, sl, false⟩]) := ⟨by
                rw [List.length_append, flat_append, flat_one, henc]
                exact ho5, fun q hq => by
                  rcases hat5 with e | e
                  · exact hsub q (HR6.out.ps.fp q (by rw [HV6.out, ← e]; exact hq))
                  · rw [hq] at e
                    injection e with e
                    have := (ho5.lt q hq).2
                    have := HO6.out.size
                    simp at e
                    exact .inr (by omega)⟩
              have hfin := h4.pushPend hsub honly v5 _ hrow fun q hq => by
                rcases List.mem_append.1 hq with hq | hq
                · exact (hkeep (h4.pb q hq)).mono hsub
                · simp at hq
                  subst hq
                  exact hbn
              refine ⟨_, hfin.mono fun q hq => hq.elim .inl fun hq => .inr (by simpa [World.setCell] using hq), ?_, ?_⟩
              · rw [HN.out]
                have := HSt6.out
                simp only [RMem.st] at this ⊢
                rw [List.map_append]
                simp only [RD.mk.injEq] at this ⊢
                obtain ⟨t1, t2, t3, t4, t5, t6, t7⟩ := this
                exact ⟨t1, t2, t3, t4, t5, t6, by rw [t7, List.append_assoc]; rfl⟩
              · refine Only.setCell (p := ⟨p, 6, none⟩) ?_ (.inl HR.out.fp) v5
                refine (HO6.out.then_ ((Only.of_below hb4 : Only (Gr F w wr) wr w4))).trans honly fun q hq hp => ?_
                rcases HR6.out.ps.fp q hp with h1 | h1
                · exact h1
                · omega)
            have hwr1 : IntKind.i64.wrap ((at' : Int) + (f0 : Int)) = (at' : Int) + (f0 : Int) := IntWalk.i64_in _ (by omega)
            have hkk : ((k + 1 : Nat) : Int) ≤ (b.length : Int) := by omega
            have hq1 : (0 : Int) ≤ (k : Int) + 1 := by omega
            have hq2 : (k : Int) + 1 ≤ (c : Int) := by omega
            have hq3 : f0 ≤ k + 1 := by omega
            have hq4 : ¬ c = f0 := by omega
            clear hls
            rcases hc0 with hc1 | ⟨hc1, hc2⟩
            all_goals
              go_wp2_with fail
              go_region_law (first
                | (refine step_append_any _ (by rfl) (.tmp 106) (.tmp 117) 30 (by rfl) 0 97 i0 (.agg #[.string ByteArray.empty, .int .i64 0, .slice none 0 0, .bool false]) 4 56 Try.underlying30 hi0 hz0 hz1 hz2 rfl (by decide) (.slice A6 R6.pr.length cc6) R6.pr.length _ (by rfl) ((HPend4.out w4 HBK.out).alloc _) (w4.heap.size + 1) (some ⟨w4.heap.size, 0, none⟩) 1 1 [.string nm, .int .i64 ((at' : Int) + (f0 : Int)), .slice A9 sl.length c9, .bool false] (by rfl) (reads_new4 w4 97 [.string nm, .int .i64 ((at' : Int) + (f0 : Int)), .slice A9 sl.length c9, .bool false] rfl) (one_four _ _ _ _ rfl) (by unfold maxLen; omega) (by omega) (Nat.zero_le _) ?_; intro v5 w5 ho5 hg5 hat5; have hFN := HFin.out w4 w5 A9 c9 v5 _ HBK.out HO4.out hg5 hat5 ho5; have hgp : Only (fun q => (Value.slice A6 R6.pr.length cc6).ownBlock = some q) w4 w5 := ((Only.refl _ w4).alloc _).grown hg5 (fun q hq => .inl hq); have hp4 : p < w4.heap.size := (Nat.lt_of_lt_of_le hp6 HBK.out.size); have d6'' := (hgp.cell (p := ⟨p, 6, none⟩) hp4 (fun e => hne6 p e rfl)).trans d6'; have fz6'' := (hgp.frozen (p := ⟨p, 6, none⟩) hp4 (fun e => hne6 p e rfl)).trans fz6'; obtain ⟨A5, c5', rfl⟩ := own_slice ho5; have HFN := Lib.hid hFN; clear hFN ho5 hg5 hat5 hgp)
                | (go_simp; go_at_call 54; refine HCp.out.mono ?_; rintro e w4 ⟨v4, rfl, ho4, hb4⟩; obtain ⟨A9, c9, rfl, hc9, hm9, hr9, hA9⟩ := own_form ho4; have HO4 := Lib.hid ho4; have HBK := Lib.hid hb4; have d6' := (hb4.cell (p := ⟨p, 6, none⟩) hp6).trans d6; have fz6' := (hb4.frozen (p := ⟨p, 6, none⟩) hp6).trans fz6; have hplt : p < w4.heap.size := (by have := hb4.size; omega); clear ho4 hb4))
              all_goals
                go_wp2
                go_roundw
                case rel => exact ⟨k + 1, k + 1, by omega, by omega, by go_num, rfl, by show _ = _; rw [HN.out], HFN.out⟩
                case measure => simp [intOf]; omega
          · have HN : Hid (piecesTo nm at' b (k + 1) = piecesTo nm at' b k) := Lib.hid (by rw [piecesTo, pstep, if_neg hcut])
            rw [decide_eq_false (fun e => hcut (.inl e))] at hend
            rw [decide_eq_false (fun e => hcut (.inr e))] at hmod
            clear hcut
            go_wp2
            go_roundw
            case rel => exact ⟨k + 1, f0, by omega, by omega, by go_num, rfl, by show _ = _; rw [HN.out]; exact HF0.out, by unfold WrAt; rw [HN.out]; exact HWr.out⟩
            case measure => simp [intOf]; omega
        · obtain rfl : k = b.length := by omega
          obtain ⟨R7, hr7, hst7, ho7⟩ := HWr.out
          have HR7 := Lib.hid hr7
          have HO7 := Lib.hid ho7
          have HS7 : Hid (R7.st = (R.st.write nm at' b).1) := Lib.hid (by rw [hst7, HW.out]; rfl)
          clear hr7 hst7 ho7
          go_wp2
          go_ret
          exact ⟨rfl, ⟨R7, HR7.out, HS7.out⟩, HO7.out⟩
end Go.Proofs.Ytoihkanneiknkaa

namespace Go.Proofs.Ytoihkanneiknkaa
open Go.RowKit

set_option maxHeartbeats 800000 in
theorem free_any (F : Nat → Prop) (p : Nat) (R : RMem) (w : World) (h : RefM w F p R) (hf : R.Fine) :
    Calls Try.prog 37 #[.pointer (some ⟨p, 0, none⟩)] w fun e w' => e = .returned (.int .i64 R.st.free) ∧ Only (fun _ => False) w w' := by
  obtain ⟨c0, -, -, -, -, -, -⟩ := h.cells
  have HSum : ∀ n, Hid (Calls Try.prog 62 #[.pointer (some ⟨p, 0, none⟩)] (w.drewN n) fun e w' => e = .returned (.int .i64 (R.st.sum : Int)) ∧ w' = w.drewN n) := fun n => Lib.hid ((sum_any F p R (w.drewN n) (h.here ((Only.refl _ w).drewN n)) (Nat.le_trans hf.sum (by decide))).mono fun _ _ ⟨h1, h2⟩ => ⟨h1, h2.symm⟩)
  have HO := Lib.hid (Only.refl (fun _ => False) w)
  have hs := hf.sum
  have hr1 := hf.room.1
  have hr2 := hf.room.2
  have HE : Hid (R.st.free = max 0 (R.room - (R.st.sum : Int))) := rfl
  generalize R.st.sum = sm at *
  have hwr : IntKind.i64.wrap (R.room - (sm : Int)) = R.room - (sm : Int) := IntWalk.i64_in _ (by omega)
  go_enter Try.func37, Try.ntmps37
  go_wp2_with fail
  go_quiet ((go_at_call 62; exact Calls.quiet_of_same (HSum _).out))
  go_wp2_with fail
  go_ret
  rw [HE.out]
  exact ⟨by first | rfl | (congr 2; omega), HO.out.drewN _⟩

set_option maxHeartbeats 800000 in
theorem arm_any (n : Int) (F : Nat → Prop) (p : Nat) (R : RMem) (w : World) (h : RefM w F p R) :
    Calls Try.prog 35 #[.pointer (some ⟨p, 0, none⟩), .int .i64 n] w fun e w' => OpAt F p (R.st.arm n).1 (R.st.arm n).2 w e w' := by
  obtain ⟨c0, c1, c2, c3, c4, c5, c6⟩ := h.cells
  have fz := h.blk.frozen
  by_cases hn : n < 0
  · have HE : Hid (R.st.arm n = (R.st, 1)) := Lib.hid (by unfold RD.arm; rw [if_pos hn])
    have HR := Lib.hid h
    clear h
    rw [HE.out]
    go_enter Try.func35, Try.ntmps35
    go_wp2
    go_ret
    exact ⟨rfl, ⟨R, HR.out.mono fun k hk => .inl hk, rfl⟩, Only.refl _ _⟩
  · have HE : Hid (R.st.arm n = ({ R.st with armed := true, left := n }, 0)) := Lib.hid (by unfold RD.arm; rw [if_neg hn])
    have HR := Lib.hid h
    have H2 := Lib.hid ((h.field 3 (.bool true) { R with armed := true } rfl rfl rfl rfl (by simp [RMem.blkOf])).field 2 (.int .i64 n) { R with armed := true, left := n } rfl rfl rfl rfl (by simp [RMem.blkOf]))
    have hn' : 0 ≤ n := by omega
    clear h hn
    rw [HE.out]
    go_enter Try.func35, Try.ntmps35
    go_wp2
    go_ret
    exact ⟨rfl, ⟨_, H2.out.mono fun k hk => .inl hk, rfl⟩, ((Only.refl _ _).setCell (.inl HR.out.fp) _).setCell (.inl HR.out.fp) _⟩

/-- What Read answers. -/
def ReadAt (l : List UInt8) (n : Nat) (w : World) (e : Ending) (w' : World) : Prop := ∃ v, e = .returned (.tuple #[v, .int .i64 (n : Int)]) ∧ w'.ownsRow w.heap.size 5 1 v l.length (bv l) ∧ Below w.heap.size w w'
theorem readAt_no (n : Nat) (w w' : World) (h : w = w') : ReadAt [] n w (.returned (.tuple #[.slice none 0 0, .int .i64 (n : Int)])) w' := by
  subst h
  exact ⟨_, rfl, own_nil _ _ _ _, Below.refl _ _⟩

set_option maxHeartbeats 1600000 in
theorem read_any (nm : ByteArray) (at' n : Int) (F : Nat → Prop) (p : Nat) (R : RMem) (w : World) (h : RefM w F p R) (hf : R.Fine) (hn : nm.size ≤ 9223372036854775807) (ha : -9223372036854775808 ≤ at' ∧ at' ≤ 9223372036854775807) (hnn : -9223372036854775808 ≤ n ∧ n ≤ 9223372036854775807) :
    Calls Try.prog 33 #[.pointer (some ⟨p, 0, none⟩), .string nm, .int .i64 at', .int .i64 n] w fun e w' => ReadAt (R.st.read nm at' n).1 (R.st.read nm at' n).2 w e w' := by
  have HNm := Lib.hid (named_any nm w hn)
  obtain ⟨c0, c1, c2, c3, c4, c5, c6⟩ := h.cells
  have HR := Lib.hid h
  have HFind := Lib.hid (find_any nm F p R w h)
  have hhad := Nat.le_trans (had_le R nm) hf.sum
  clear h c0 c1 c2 c3 c6
  rcases hnm : named nm with _ | _
  · have HW : Hid (R.st.read nm at' n = ([], 1)) := Lib.hid (by unfold RD.read; rw [if_pos hnm])
    rw [hnm] at HNm
    rw [HW.out]
    go_enter Try.func33, Try.ntmps33
    go_wp2_with (go_at_call 55; refine HNm.out.mono ?_; rintro e w' ⟨rfl, rfl⟩)
    go_ret2
    exact readAt_no 1 _ _ rfl
  · rw [hnm] at HNm
    rcases hdn : R.down with _ | _
    · rw [hdn] at c4
      rcases hfd : R.st.find nm with _ | k
      · have HW : Hid (R.st.read nm at' n = ([], 6)) := Lib.hid (by unfold RD.read; rw [if_neg (by rw [hnm]; simp), if_neg (by show ¬ R.down = true; rw [hdn]; simp), hfd])
        rw [show posI nm R.st.names = -1 from posI_none hfd] at HFind
        clear hfd hdn hnm
        rw [HW.out]
        go_enter Try.func33, Try.ntmps33
        go_wp2_with (first | (go_at_call 55; refine HNm.out.mono ?_; rintro e w' ⟨rfl, rfl⟩) | (go_at_call 56; refine HFind.out.mono ?_; rintro e w' ⟨rfl, rfl⟩))
        go_ret2
        exact readAt_no 6 _ _ rfl
      · have hh := had_some hfd
        have hk := find_lt hfd
        have hget : R.st.files[k]? = some R.fr[k].toF := by simp [RMem.st, List.getElem?_eq_getElem hk]
        have HW : Hid (R.st.read nm at' n = if at' < 0 ∨ n < 0 ∨ (R.fr[k].now.length : Int) < at' ∨ (R.fr[k].now.length : Int) - at' < n then ([], 2) else ((R.fr[k].now.drop at'.toNat).take n.toNat, 0)) := Lib.hid (by
          unfold RD.read
          rw [if_neg (by rw [hnm]; simp), if_neg (by show ¬ R.down = true; rw [hdn]; simp), hfd, hh]
          simp only [hget]
          rfl)
        rw [show posI nm R.st.names = (k : Int) from posI_some hfd] at HFind
        rw [hh] at hhad
        obtain ⟨g, cap, hv2, -, hgw, -, -, hcell, -⟩ := fr_cells HR.out.fs (by omega)
        rw [hv2] at c5
        obtain ⟨-, x1, -, -⟩ := hcell k hk
        obtain ⟨A1, cc1, hn1, hlc1, hcm1, hrd1⟩ := (HR.out.fb _ (List.getElem_mem hk)).1.value
        rw [hn1] at x1
        have HRd := Lib.hid hrd1
        have hki : (k : Int) < (R.fr.length : Int) := by omega
        have hk0 : (0 : Int) ≤ (k : Int) := by omega
        clear hh hcell hn1 hv2 hget hdn hnm hrd1
        generalize R.fr[k].now = now at *
        clear hfd hk
        unfold maxLen at hcm1
        by_cases hbad : at' < 0 ∨ n < 0 ∨ (now.length : Int) < at' ∨ (now.length : Int) - at' < n
        · rw [if_pos hbad] at HW
          have hways : at' < 0 ∨ 0 ≤ at' ∧ n < 0 ∨ 0 ≤ at' ∧ 0 ≤ n ∧ (now.length : Int) < at' ∨ 0 ≤ at' ∧ 0 ≤ n ∧ at' ≤ (now.length : Int) ∧ (now.length : Int) - at' < n := by omega
          clear hbad
          rw [HW.out]
          rcases hways with q1 | ⟨q1, q2⟩ | ⟨q1, q2, q3⟩ | ⟨q1, q2, q3, q4⟩
          all_goals
            go_enter Try.func33, Try.ntmps33
            go_wp2_with (first | (go_at_call 55; refine HNm.out.mono ?_; rintro e w' ⟨rfl, rfl⟩) | (go_at_call 56; refine HFind.out.mono ?_; rintro e w' ⟨rfl, rfl⟩))
            go_ret2
            exact readAt_no 2 _ _ rfl
        · rw [if_neg hbad] at HW
          have hw4 : 0 ≤ at' ∧ 0 ≤ n ∧ at' ≤ (now.length : Int) ∧ n ≤ (now.length : Int) - at' := by omega
          obtain ⟨q1, q2, q3, q4⟩ := hw4
          obtain ⟨a, rfl⟩ : ∃ a : Nat, at' = a := ⟨at'.toNat, by omega⟩
          obtain ⟨m, rfl⟩ : ∃ m : Nat, n = m := ⟨n.toNat, by omega⟩
          simp only [Int.toNat_natCast] at HW
          clear hbad
          have hlen : ((now.drop a).take m).length = m := by simp; omega
          have HCp : Hid (∀ A' c', (0 < m → A' = (if cc1 = a then A1 else A1.map (·.add (a * 1)))) → Calls Try.prog 54 #[.slice A' m c'] w fun e w' => ∃ v, e = .returned v ∧ w'.ownsRow w.heap.size 5 1 v ((now.drop a).take m).length (bv ((now.drop a).take m)) ∧ Below w.heap.size w w') := Lib.hid (fun A' c' hA => by
            have hr : Reads w w.heap.size 1 A' ((now.drop a).take m).length (bv ((now.drop a).take m)) := by
              rw [hlen]
              rcases Nat.eq_zero_or_pos m with rfl | hm
              · exact ⟨by simp [bv], fun h => absurd h (by omega)⟩
              · rw [hA hm, bv_take_drop]
                have h1 := (HRd.out.cut (k := a) (cap := cc1) (by omega) (by omega)).pre (n := m) (by omega)
                simpa using h1
            have h1 := copy_any ((now.drop a).take m) A' w.heap.size c' w (by omega) hr
            rw [hlen] at h1 ⊢
            exact h1)
          have hq5 : (a : Int) ≤ (cc1 : Int) := by omega
          have hq6 : a ≤ a + m := by omega
          have hq7 : a + m ≤ cc1 := by omega
          have hq8 : (a : Int) + (m : Int) ≤ (cc1 : Int) := by omega
          rw [HW.out]
          go_enter Try.func33, Try.ntmps33
          go_wp2_with (first | (go_at_call 55; refine HNm.out.mono ?_; rintro e w' ⟨rfl, rfl⟩) | (go_at_call 56; refine HFind.out.mono ?_; rintro e w' ⟨rfl, rfl⟩) | (go_at_call 54; refine (HCp.out _ _ (fun hm => by first | (exfalso; omega) | (rw [if_neg (by omega)]; simp only [Nat.mul_one]; done) | (rw [if_neg (by omega)]; simp only [Nat.mul_one]; first | rfl | (split <;> first | omega | rfl)))).mono ?_; rintro e w1 ⟨v1, rfl, ho1, hb1⟩))
          all_goals
            go_ret2
            exact ⟨v1, rfl, ho1, hb1⟩
    · have HW : Hid (R.st.read nm at' n = ([], 8)) := Lib.hid (by unfold RD.read; rw [if_neg (by rw [hnm]; simp), if_pos (show R.st.down = true from hdn)])
      rw [hdn] at c4
      clear hnm hdn
      rw [HW.out]
      go_enter Try.func33, Try.ntmps33
      go_wp2_with (go_at_call 55; refine HNm.out.mono ?_; rintro e w' ⟨rfl, rfl⟩)
      go_ret2
      exact readAt_no 8 _ _ rfl
end Go.Proofs.Ytoihkanneiknkaa

namespace Go.Proofs.Ytoihkanneiknkaa
open Go.RowKit

/-- New bytes are laid as a file's. -/
theorem RefM.newNow {w w4 : World} {F : Nat → Prop} {p g : Nat} {R : RMem} (h : RefM w F p R) (hv : R.fv.ownBlock = some g) (k : Nat) (hk : k < R.fr.length) (hb4 : Below w.heap.size w w4) (A9 : Option Addr) (l : List UInt8) (c9 : Nat) (ho4 : w4.ownsRow w.heap.size 5 1 (.slice A9 l.length c9) l.length (bv l)) :
    RefM (w4.setCell ⟨g, k * 4 + 1, none⟩ (.slice A9 l.length c9)) (Gr F w (w4.setCell ⟨g, k * 4 + 1, none⟩ (.slice A9 l.length c9))) p { R with fr := R.fr.set k { R.fr[k] with nv := .slice A9 l.length c9, now := l } } ∧ Only F w (w4.setCell ⟨g, k * 4 + 1, none⟩ (.slice A9 l.length c9)) := by
  have h4 := h.here (Only.of_below hb4)
  have hb := bown_of_own (F := Gr F w w4) ho4 fun k h1 h2 => .inr ⟨h1, h2⟩
  have hsub : ∀ k, F k → Gr F w w4 k := fun k hk => .inl hk
  have hset := h4.setFile hsub (g := g) hv k hk 1 (by omega) (.slice A9 l.length c9) { R.fr[k] with nv := .slice A9 l.length c9, now := l } rfl ⟨hb, ((h4.fb _ (List.getElem_mem hk)).2.mono hsub)⟩
  exact ⟨hset.mono fun k hk => hk.elim .inl fun hk => .inr (by simpa [World.setCell] using hk), (Only.of_below hb4 : Only F w w4).setCell (p := ⟨g, k * 4 + 1, none⟩) (.inl (h.fs.fp g hv)) _⟩
theorem tick_more (R : RMem) : R.tick.fv = R.fv ∧ R.tick.pv = R.pv := by unfold RMem.tick; split <;> exact ⟨rfl, rfl⟩
/-- A piece without bytes is pushed. -/
theorem push_piece {w5 wc : World} {F : Nat → Prop} {p : Nat} {R5 : RMem} {A6 : Option Addr} {cc6 m : Nat} {nm : ByteArray} {v5 : Value} {lit : Obj} (h : RefM wc F p R5) (hv : R5.pv = .slice A6 R5.pr.length cc6) (hg5 : (wc.alloc lit).grownBy w5 (Value.slice A6 R5.pr.length cc6).ownBlock)
    (hat5 : v5.ownBlock = (Value.slice A6 R5.pr.length cc6).ownBlock ∨ v5.ownBlock = some (wc.alloc lit).heap.size) (ho5 : w5.ownsRow 0 97 4 v5 (R5.pr.length + 1) (flat encP R5.pr ++ [.string nm, .int .i64 (m : Int), .slice none 0 0, .bool true])) :
    RefM (w5.setCell ⟨p, 6, none⟩ v5) (Gr F wc (w5.setCell ⟨p, 6, none⟩ v5)) p { R5 with pv := v5, pr := R5.pr ++ [⟨nm, m, .slice none 0 0, [], true⟩] } ∧ Only F wc (w5.setCell ⟨p, 6, none⟩ v5) := by
  have honly : Only (fun q => R5.pv.ownBlock = some q) wc w5 := ((Only.refl _ wc).alloc lit).grown hg5 fun q hq => .inl (by rw [hv]; exact hq)
  have hsz : wc.heap.size + 1 ≤ w5.heap.size := by have := hg5.size; simp at this; omega
  have hrow : Row w5 (Gr F wc w5) 97 4 encP v5 (R5.pr ++ [⟨nm, m, .slice none 0 0, [], true⟩]) := ⟨by
    rw [List.length_append, flat_append, flat_one]
    exact ho5, fun q hq => by
      rcases hat5 with e | e
      · exact .inl (h.ps.fp q (by rw [hv, ← e]; exact hq))
      · rw [hq] at e
        injection e with e
        have := (ho5.lt q hq).2
        simp at e
        exact .inr (by omega)⟩
  have hpt : ∀ {q : Nat}, R5.pv.ownBlock = some q → ∃ cur, Blk wc q 97 cur := fun {q} hq => by
    rcases h.ps.own.2 with ⟨e, _⟩ | ⟨g', cap, cur, e, _, hh, _⟩
    · rw [e] at hq; simp [Value.ownBlock] at hq
    · rw [e] at hq
      have : g' = q := by simpa [Value.ownBlock] using hq
      subst this
      exact ⟨cur, hh⟩
  have hfin := h.pushPend (G := Gr F wc w5) (fun k hk => .inl hk) honly v5 _ hrow fun q hq => by
    rcases List.mem_append.1 hq with hq | hq
    · exact ((h.pb q hq).off honly fun k hk e => by
        obtain ⟨cur, hc⟩ := hpt e
        exact (h.pb q hq).ne hc (by decide) k hk rfl).mono fun k hk => .inl hk
    · simp at hq
      subst hq
      exact bown_nil _ _
  exact ⟨hfin.mono fun q hq => hq.elim .inl fun hq => .inr (by simpa [World.setCell] using hq), Only.setCell (p := ⟨p, 6, none⟩) (honly.mono fun q _ hq => h.ps.fp q hq) (.inl h.fp) v5⟩
/-- Behind the cut bytes are stored. -/
def CutC (F : Nat → Prop) (p : Nat) (s : RD) (pr : List PR) (w wx : World) : Prop := ∃ R, RefM wx (Gr F w wx) p R ∧ R.st = s ∧ R.pr = pr ∧ Only F w wx

set_option maxRecDepth 100000 in
set_option maxHeartbeats 4000000 in
theorem cut_any (nm : ByteArray) (n : Int) (F : Nat → Prop) (p : Nat) (R : RMem) (w : World) (h : RefM w F p R) (hf : R.Fine) (hn : nm.size ≤ 9223372036854775807) (hnn : -9223372036854775808 ≤ n ∧ n ≤ 9223372036854775807) (hpl : R.pr.length ≤ 1000000) :
    Calls Try.prog 31 #[.pointer (some ⟨p, 0, none⟩), .string nm, .int .i64 n] w fun e w' => OpAt F p (R.st.cut nm n).1 (R.st.cut nm n).2 w e w' := by
  obtain ⟨i0, hi0, hz0, hz1, hz2⟩ := info_parts prinfo
  have HNm := Lib.hid (named_any nm w hn)
  obtain ⟨c0, c1, c2, c3, c4, c5, c6⟩ := h.cells
  have HR := Lib.hid h
  have HFind := Lib.hid (find_any nm F p R w h)
  have hhad := Nat.le_trans (had_le R nm) hf.sum
  have HSame : Hid (RefAt w (Gr F w w) p R.st ∧ Only F w w) := Lib.hid ⟨⟨R, h.mono fun k hk => .inl hk, rfl⟩, Only.refl _ _⟩
  clear h c0 c1 c2 c3 c6
  rcases hnm : named nm with _ | _
  · have HW : Hid (R.st.cut nm n = (R.st, 1)) := Lib.hid (by unfold RD.cut; rw [if_pos hnm])
    rw [hnm] at HNm
    rw [HW.out]
    go_enter Try.func31, Try.ntmps31
    go_wp2_with (go_at_call 55; refine HNm.out.mono ?_; rintro e w' ⟨rfl, rfl⟩)
    go_ret
    exact ⟨rfl, HSame.out⟩
  · rw [hnm] at HNm
    rcases hdn : R.down with _ | _
    · rw [hdn] at c4
      rcases hfd : R.st.find nm with _ | k
      · have HW : Hid (R.st.cut nm n = (R.st, 6)) := Lib.hid (by unfold RD.cut; rw [if_neg (by rw [hnm]; simp), if_neg (by show ¬ R.down = true; rw [hdn]; simp), hfd])
        rw [show posI nm R.st.names = -1 from posI_none hfd] at HFind
        clear hfd hdn hnm
        rw [HW.out]
        go_enter Try.func31, Try.ntmps31
        go_wp2_with (first | (go_at_call 55; refine HNm.out.mono ?_; rintro e w' ⟨rfl, rfl⟩) | (go_at_call 56; refine HFind.out.mono ?_; rintro e w' ⟨rfl, rfl⟩))
        go_ret
        exact ⟨rfl, HSame.out⟩
      · have hh := had_some hfd
        have hk := find_lt hfd
        have HW : Hid (R.st.cut nm n = if n < 0 ∨ (R.fr[k].now.length : Int) < n then (R.st, 2) else if R.st.stops = true then (R.st.off, 8) else
            ({ (R.st.ticked.setF k fun f => { f with now := f.now.take n.toNat }) with pend := (R.st.ticked.setF k fun f => { f with now := f.now.take n.toNat }).pend ++ [⟨nm, n.toNat, [], true⟩] }, 0)) := Lib.hid (by
          unfold RD.cut
          rw [if_neg (by rw [hnm]; simp), if_neg (by show ¬ R.down = true; rw [hdn]; simp), hfd, hh])
        rw [show posI nm R.st.names = (k : Int) from posI_some hfd] at HFind
        rw [hh] at hhad
        obtain ⟨g, cap, hv2, -, hgw, -, -, hcell, hfz⟩ := fr_cells HR.out.fs (by omega)
        rw [hv2] at c5
        have HV := Lib.hid hv2
        obtain ⟨-, x1, -, -⟩ := hcell k hk
        obtain ⟨A1, cc1, hn1, hlc1, hcm1, hrd1⟩ := (HR.out.fb _ (List.getElem_mem hk)).1.value
        rw [hn1] at x1
        have HRd := Lib.hid hrd1
        have hki : (k : Int) < (R.fr.length : Int) := by omega
        have hk0 : (0 : Int) ≤ (k : Int) := by omega
        have HChg := Lib.hid (change_any F p R w HR.out hf.chg hf.left)
        have HTick := Lib.hid (tick_st R)
        clear hh hcell hn1 hv2 hdn hnm hrd1
        generalize hnow : R.fr[k].now = now at *
        have HNow := Lib.hid hnow
        clear hnow
        unfold maxLen at hcm1
        by_cases q1 : n < 0
        · rw [if_pos (.inl q1)] at HW
          rw [HW.out]
          clear HTick HChg hfd
          go_enter Try.func31, Try.ntmps31
          go_wp2_with (first | (go_at_call 55; refine HNm.out.mono ?_; rintro e w' ⟨rfl, rfl⟩) | (go_at_call 56; refine HFind.out.mono ?_; rintro e w' ⟨rfl, rfl⟩))
          go_ret
          exact ⟨rfl, HSame.out⟩
        · have q1' : 0 ≤ n := by omega
          by_cases q2 : (now.length : Int) < n
          · rw [if_pos (.inr q2)] at HW
            rw [HW.out]
            clear HTick HChg hfd q1
            go_enter Try.func31, Try.ntmps31
            go_wp2_with (first | (go_at_call 55; refine HNm.out.mono ?_; rintro e w' ⟨rfl, rfl⟩) | (go_at_call 56; refine HFind.out.mono ?_; rintro e w' ⟨rfl, rfl⟩))
            go_ret
            exact ⟨rfl, HSame.out⟩
          · have q2' : n ≤ (now.length : Int) := by omega
            rw [if_neg (fun hh => hh.elim q1 q2)] at HW
            clear q1 q2
            obtain ⟨m, rfl⟩ : ∃ m : Nat, n = m := ⟨n.toNat, by omega⟩
            simp only [Int.toNat_natCast] at HW
            rcases hst : R.st.stops with _ | _
            · rw [hst] at HW HTick HChg
              simp only [Bool.false_eq_true, if_false] at HW HTick HChg
              rw [HW.out]
              clear hst
              have hm0 : (0 : Int) ≤ (m : Int) := by omega
              have hm1 : (m : Int) ≤ (cc1 : Int) := by omega
              have hm2 : m ≤ cc1 := by omega
              go_enter Try.func31, Try.ntmps31
              go_upto_region 13 with (first | (go_at_call 55; refine HNm.out.mono ?_; rintro e w' ⟨rfl, rfl⟩) | (go_at_call 56; refine HFind.out.mono ?_; rintro e w' ⟨rfl, rfl⟩) | (go_at_call 58; refine HChg.out.mono ?_; rintro e w2 ⟨rfl, hr2, ho2⟩))
              have HR2 := Lib.hid hr2
              have HO2 := Lib.hid ho2
              have e1 := (tick_find R nm).2.2.1
              have e2 := tick_more R
              have d5 := hr2.cells.2.2.2.2.2.1
              rw [e2.1, HV.out] at d5
              have hp2 : p < w2.heap.size := hr2.blk.lt
              have hk2 : k < R.tick.fr.length := by rw [e1]; exact hk
              have hfrk : R.tick.fr[k] = R.fr[k] := by simp only [e1]
              obtain ⟨g', cap', hv', -, hg2, -, -, hcell2, hfz2⟩ := fr_cells hr2.fs (by omega)
              have hgg : g' = g := by
                rw [e2.1, HV.out] at hv'
                have := hv'.symm
                simp at this
                exact this.1
              subst hgg
              obtain ⟨-, z1, -, -⟩ := hcell2 k hk2
              obtain ⟨A2, cc2, hn2, hlc2, hcm2, hrd2⟩ := (hr2.fb _ (List.getElem_mem hk2)).1.value
              rw [hfrk, HNow.out] at hrd2 hlc2
              rw [hn2, hfrk, HNow.out] at z1
              have hz2 := hfz2 (k * 4 + 1)
              have hl2 : (now.take m).length = m := by simp; omega
              have hm3 : (m : Int) ≤ (cc2 : Int) := by omega
              have HCp : Hid (Calls Try.prog 54 #[.slice A2 m cc2] w2.drew fun e w' => ∃ v, e = .returned v ∧ w'.ownsRow w2.heap.size 5 1 v (now.take m).length (bv (now.take m)) ∧ Below w2.heap.size w2 w') := Lib.hid (by
                have hr : Reads w2 w2.heap.size 1 A2 (now.take m).length (bv (now.take m)) := by
                  have h1 := hrd2.pre (n := m) (by omega)
                  rw [hl2]
                  have e : bv (now.take m) = (bv now).take (m * 1) := by simp [bv, List.map_take]
                  rw [e]
                  exact h1
                have h1 := copy_any (now.take m) A2 w2.heap.size cc2 w2.drew (by omega) hr
                rw [hl2] at h1 ⊢
                exact h1.mono fun e w' ⟨v, h2, h3, h4⟩ => ⟨v, h2, h3, below_of_drew h4⟩)
              have HFin : Hid (∀ w4 A9 c9, Below w2.heap.size w2 w4 → w4.ownsRow w2.heap.size 5 1 (.slice A9 (now.take m).length c9) (now.take m).length (bv (now.take m)) → CutC F p (R.st.ticked.setF k fun f => { f with now := f.now.take m }) R.pr w (w4.setCell ⟨g', k * 4 + 1, none⟩ (.slice A9 (now.take m).length c9))) := Lib.hid (fun w4 A9 c9 hb4 ho4 => by
                have hnn := HR2.out.newNow (g := g') (by rw [e2.1, HV.out]; rfl) k hk2 hb4 A9 (now.take m) c9 ho4
                refine ⟨_, hnn.1.mono fun q hq => hq.elim .inl fun hq => .inr (by have := HO2.out.size; omega), ?_, (tick_find R nm).2.2.2, HO2.out.trans hnn.2 fun _ _ h => h⟩
                rw [setF_st R.tick k hk2 _ (fun f => { f with now := f.now.take m }) (by simp [FR.toF, hfrk, HNow.out]), HTick.out])
              clear hr2 ho2 hcell2 hfz2 hn2 hrd2 e1 e2 hfrk hv'
              clear hfd
              generalize hsl : now.take m = sl at *
              clear hsl
              go_cut [58] (fun s58 wx => CutC F p (R.st.ticked.setF k fun f => { f with now := f.now.take m }) R.pr w wx)
              case first =>
                clear hl2
                go_region_with (first
                  | (go_at_call 54; refine HCp.out.mono ?_; rintro e w4 ⟨v4, rfl, ho4, hb4⟩; have d5' := (hb4.cell (p := ⟨p, 5, none⟩) hp2).trans d5; have z1' := (hb4.cell (p := ⟨g', k * 4 + 1, none⟩) hg2).trans z1; have hz2' := (hb4.frozen (p := ⟨g', k * 4 + 1, none⟩) hg2).trans hz2; obtain ⟨A9, c9, rfl, hc9, hm9, hr9, hA9⟩ := own_form ho4; have HO4 := Lib.hid ho4; have HBK := Lib.hid hb4; clear ho4 hb4))
                all_goals
                  go_wp2_with fail
                  go_meet
                  exact HFin.out _ _ _ HBK.out HO4.out
              case rest =>
                obtain ⟨R5, hr5, hst5, hpr5, ho5⟩ := hcut
                have HR5 := Lib.hid hr5
                have HO5 := Lib.hid ho5
                have HSt5 := Lib.hid hst5
                obtain ⟨A6, cc6, hv6, hlc6, hcm6, hA6⟩ := hr5.ps.value
                have d6 := hr5.cells.2.2.2.2.2.2
                rw [hv6] at d6
                have hps := hr5.ps.own
                rw [hv6] at hps
                have HPs := Lib.hid hps
                have HV6 := Lib.hid hv6
                have hn6 : R5.pr.length ≤ 1000000 := by rw [hpr5]; exact hpl
                have hp5 : p < wc.heap.size := hr5.blk.lt
                clear hr5 hst5 hpr5 ho5 hv6 hps HFin HCp z1 hz2 d5 x1
                go_wp2_with (at_builtin; refine wpList_append_any _ rfl (.tmp 63) (.tmp 67) 30 rfl 0 97 i0 (.agg #[.string ByteArray.empty, .int .i64 0, .slice none 0 0, .bool false]) 4 56 Try.underlying30 hi0 hz0 hz1 hz2 rfl (by decide) (.slice A6 R5.pr.length cc6) R5.pr.length _ rfl (HPs.out.alloc _) (wc.heap.size + 1) (some ⟨wc.heap.size, 0, none⟩) 1 1 [.string nm, .int .i64 (m : Int), .slice none 0 0, .bool true] rfl (reads_new4 wc 97 [.string nm, .int .i64 (m : Int), .slice none 0 0, .bool true] rfl) (one_four _ _ _ _ rfl) (by unfold maxLen; omega) (by omega) (Nat.zero_le _) ?_; intro v5 w5 ho5 hg5 hat5; have hFN := push_piece HR5.out HV6.out hg5 hat5 ho5; have hgp : Only (fun q => (Value.slice A6 R5.pr.length cc6).ownBlock = some q) wc w5 := ((Only.refl _ wc).alloc _).grown hg5 (fun q hq => .inl hq); have hne6 : (Value.slice A6 R5.pr.length cc6).ownBlock ≠ some p := own_blk_ne HPs.out HR5.out.blk (by decide); have d6'' := (hgp.cell (p := ⟨p, 6, none⟩) hp5 hne6).trans d6; have fz6'' := (hgp.frozen (p := ⟨p, 6, none⟩) hp5 hne6).trans (HR5.out.blk.frozen 6); obtain ⟨A5, c5', rfl⟩ := own_slice ho5; have HFN := Lib.hid hFN; clear hFN ho5 hg5 hat5 hgp hne6)
                go_ret
                refine ⟨rfl, ⟨_, HFN.out.1.mono (fun q hq => ?_), ?_⟩, HO5.out.trans HFN.out.2 fun q hq h => h.elim id fun h => by omega⟩
                · rcases hq with (hq | hq) | hq
                  · exact .inl hq
                  · exact .inr ⟨hq.1, by have := HFN.out.2.size; omega⟩
                  · exact .inr ⟨by have := HO5.out.size; omega, hq.2⟩
                · have := HSt5.out
                  simp only [RMem.st] at this ⊢
                  rw [List.map_append]
                  rw [← this]
                  rfl
            · rw [hst] at HW HTick HChg
              simp only [if_true] at HW HTick HChg
              rw [HW.out]
              clear hfd hst
              go_enter Try.func31, Try.ntmps31
              go_wp2_with (first | (go_at_call 55; refine HNm.out.mono ?_; rintro e w' ⟨rfl, rfl⟩) | (go_at_call 56; refine HFind.out.mono ?_; rintro e w' ⟨rfl, rfl⟩) | (go_at_call 58; refine HChg.out.mono ?_; rintro e w2 ⟨rfl, hr2, ho2⟩))
              go_ret
              exact ⟨rfl, ⟨R.tick, hr2.mono fun k hk => .inl hk, HTick.out⟩, ho2⟩
    · have HW : Hid (R.st.cut nm n = (R.st, 8)) := Lib.hid (by unfold RD.cut; rw [if_neg (by rw [hnm]; simp), if_pos (show R.st.down = true from hdn)])
      rw [hdn] at c4
      clear hnm hdn
      rw [HW.out]
      go_enter Try.func31, Try.ntmps31
      go_wp2_with (go_at_call 55; refine HNm.out.mono ?_; rintro e w' ⟨rfl, rfl⟩)
      go_ret
      exact ⟨rfl, HSame.out⟩
end Go.Proofs.Ytoihkanneiknkaa
