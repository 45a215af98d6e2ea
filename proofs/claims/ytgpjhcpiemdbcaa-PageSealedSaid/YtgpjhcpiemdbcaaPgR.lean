/- Contract of octavoref05.Pack: for every number, kind and body the page that the document says, or its refusal. Conditions: the body reads as the list that is named. -/
import Derived.Test.YtgpjhcpiemdbcaaPgMath
import Derived.Test.YtgpjhcpiemdbcaaOwn
import Derived.Test.YtgpjhcpiemdbcaaLeB
import Derived.Test.YtgpjhcpiemdbcaaCrcB
import Derived.Test.YtgpjhcpiemdbcaaCopy
import Derived.Outline
import Derived.Deep.DrawnRows
import Derived.Deep.CutRange
import Derived.Deep.CutBlock
namespace Go.Proofs.Ytgpjhcpiemdbcaa
open Go.RowKit

def RefPackAt (no kind : Int) (body : List UInt8) (w : World) (e : Ending) (w' : World) : Prop :=
  ∃ v, e = .returned (.tuple #[v, .int .i64 ((mPack no kind body).2 : Int)]) ∧ Own w' w.heap.size v (mPack no kind body).1 ∧ Below w.heap.size w w'
theorem own_none (w : World) (base : Nat) : Own w base (.slice none 0 0) [] := own_nil _ _ _ _
theorem refpack_bad {no kind : Int} {body : List UInt8} {w w' : World} {n : Nat} (h : mPack no kind body = ([], n)) (hb : Below w.heap.size w w') : RefPackAt no kind body w (.returned (.tuple #[.slice none 0 0, .int .i64 (n : Int)])) w' := by
  refine ⟨.slice none 0 0, ?_, ?_, hb⟩
  · rw [h]
  · rw [h]; exact own_none _ _
theorem refpack_good {no kind : Int} {body l : List UInt8} {w w' : World} {v : Value} (h : mPack no kind body = (l, 0)) (ho : Own w' w.heap.size v l) (hb : Below w.heap.size w w') : RefPackAt no kind body w (.returned (.tuple #[v, .int .i64 0])) w' := by
  refine ⟨v, ?_, ?_, hb⟩
  · rw [h]; rfl
  · rw [h]; exact ho
def padTo (body : List UInt8) (n : Nat) : List UInt8 := body ++ List.replicate (n - body.length) 0
theorem padTo_length (body : List UInt8) (n : Nat) (h : body.length ≤ n) : (padTo body n).length = n := by unfold padTo; rw [List.length_append, List.length_replicate]; omega
theorem padTo_self (body : List UInt8) : padTo body body.length = body := by simp [padTo]
theorem padTo_succ (body : List UInt8) (n : Nat) (h : body.length ≤ n) : padTo body (n + 1) = padTo body n ++ [0] := by
  unfold padTo
  have e : n + 1 - body.length = (n - body.length) + 1 := by omega
  rw [e, List.replicate_succ', ← List.append_assoc]
theorem refBytes_digs (n k : Nat) (K : Int) (w : World) (hK : K = (k : Int)) (hk1 : 1 ≤ k) (hk8 : k ≤ 8) (hn : n ≤ 9223372036854775807) (hlt : n < 256 ^ k) :
    Calls Try.prog 17 #[.int .i64 (n : Int), .int .i64 K] w fun e w' => ∃ A c, e = .returned (.tuple #[.slice A k c, .int .i64 0]) ∧ Own w' w.heap.size (.slice A k c) (digs n k) ∧ Reads w' w'.heap.size 1 A (digs n k).length (bv (digs n k)) ∧ k ≤ c ∧ Below w.heap.size w w' := by
  subst hK
  have h := refBytes_any (n : Int) (k : Int) w (by omega)
  rw [mBytes_is' (M := (k : Int)) rfl hk1 hk8 (by omega) (by simpa using hlt), Int.toNat_natCast] at h
  refine h.mono fun e w' ⟨v, he, ho, hb⟩ => ?_
  obtain ⟨A, c, rfl, hc, -, hr, -⟩ := own_form ho
  rw [digs_length] at he ho hc
  have ho' : Own w' w.heap.size (.slice A k c) (digs n k) := by unfold Own; rw [digs_length]; exact ho
  exact ⟨A, c, he, ho', hr, hc, hb⟩

/-- What is there when the front was laid. -/
structure FrontM (w w2 w3 : World) (kk : Nat) (A1 A2 : Option Addr) (D2 D4 : List UInt8) : Prop where
  own : Own w3 w2.heap.size (.slice (some ⟨w2.heap.size, 0, none⟩) 2 2) [UInt8.ofNat kk, 0]
  r1 : Reads w3 w3.heap.size 1 A1 D2.length (bv D2)
  r2 : ∀ {W : World}, Below w2.heap.size w3 W → Reads W W.heap.size 1 A2 D4.length (bv D4)
  lt : w2.heap.size ≤ w3.heap.size
  below : Below w.heap.size w w3
theorem front_made {w w1 w2 : World} {kind : Int} {kk : Nat} {A1 A2 : Option Addr} {D2 D4 : List UInt8} (hk : kind = ((UInt8.ofNat kk).toNat : Int)) (hb1 : Below w.heap.size w w1) (hb2 : Below w1.heap.size w1 w2)
    (hr1 : Reads w1 w1.heap.size 1 A1 D2.length (bv D2)) (hr2 : Reads w2 w2.heap.size 1 A2 D4.length (bv D4)) :
    FrontM w w2 (w2.alloc (.cells #[.int .u8 kind, .int .u8 0] 5)) kk A1 A2 D2 D4 := by
  have hA : (.cells #[.int .u8 kind, .int .u8 0] 5 : Obj) = .cells (bv [UInt8.ofNat kk, 0]).toArray 5 := by rw [hk]; rfl
  have hs1 := hb1.size
  have hs2 := hb2.size
  rw [hA]
  have hb3 : Below w2.heap.size w2 (w2.alloc (.cells (bv [UInt8.ofNat kk, 0]).toArray 5)) := (Below.refl _ _).alloc (Nat.le_refl _) _
  exact ⟨own_new w2 [UInt8.ofNat kk, 0] (by simp [maxLen]), (hr1.over (hb2.trans (hb3.mono hs2))).more (Nat.le_trans hs2 hb3.size),
    fun hb => (hr2.over (hb3.trans hb)).more (Nat.le_trans hb3.size hb.size), hb3.size, (hb1.trans (hb2.mono hs1)).trans (hb3.mono (Nat.le_trans hs1 hs2))⟩

theorem front_bare (nn kk : Nat) (body : List UInt8) (_h : body.length ≤ 244) : bare (laidL nn kk body) = ([UInt8.ofNat kk, 0] ++ digs body.length 2 ++ digs nn 4) ++ padTo body 244 := by
  have e : laidL nn kk body = (([UInt8.ofNat kk, 0] ++ digs body.length 2 ++ digs nn 4) ++ [0, 0, 0, 0]) ++ padTo body 244 := by simp [laidL, padTo, digs]
  have h8 : ([UInt8.ofNat kk, 0] ++ digs body.length 2 ++ digs nn 4).length = 8 := by simp [digs_length]
  generalize hF : ([UInt8.ofNat kk, 0] ++ digs body.length 2 ++ digs nn 4) = F at *
  rw [e]
  unfold bare
  have e1 : ((F ++ [0, 0, 0, 0]) ++ padTo body 244).take 8 = F := by rw [List.append_assoc, ← h8, List.take_left]
  have h12 : (F ++ [(0 : UInt8), 0, 0, 0]).length = 12 := by simp [h8]
  have e2 : ((F ++ [0, 0, 0, 0]) ++ padTo body 244).drop 12 = padTo body 244 := by rw [← h12, List.drop_left]
  rw [e1, e2]
theorem front_form (nn kk : Nat) (body : List UInt8) (h : body.length ≤ 244) :
    digs kk 1 ++ [0] ++ digs body.length 2 ++ digs nn 4 ++ digs (pgSum (laidL nn kk body)) 4 ++ body ++ List.replicate (244 - body.length) 0 =
    ([UInt8.ofNat kk, 0] ++ digs body.length 2 ++ digs nn 4) ++ digs (sumOf (([UInt8.ofNat kk, 0] ++ digs body.length 2 ++ digs nn 4) ++ padTo body 244)) 4 ++ padTo body 244 := by
  unfold pgSum
  rw [front_bare nn kk body h]
  simp [padTo, digs]
def sliceLen : Value → Nat
  | .slice _ n _ => n
  | _ => 0
theorem reads_zero (w : World) (t : TypeId) : Reads (w.alloc (.cells #[.int .u8 0] t)) (w.alloc (.cells #[.int .u8 0] t)).heap.size 1 (some ⟨w.heap.size, 0, none⟩) ([0] : List UInt8).length (bv [0]) :=
  (reads_new w t [0] 1 rfl).more (by simp)
set_option maxRecDepth 100000 in
set_option maxHeartbeats 1600000 in
theorem refPack_any (no kind : Int) (body : List UInt8) (A : Option Addr) (B c : Nat) (w : World) (hno : -9223372036854775808 ≤ no ∧ no ≤ 9223372036854775807) (hr : Reads w B 1 A body.length (bv body)) :
    Calls Try.prog 10 #[.int .i64 no, .int .i64 kind, .slice A body.length c] w fun e w' => RefPackAt no kind body w e w' := by
  by_cases h0 : 0 ≤ no
  · by_cases h1 : no < 1048576
    · by_cases h2 : 1 ≤ kind
      · by_cases h3 : kind ≤ 9
        · by_cases h4 : body.length ≤ 244
          · have hp : mPack no kind body = (pgBytes no.toNat kind.toNat body, 0) := by
              unfold mPack
              rw [if_neg (by simp [pgNo, pgKind, *]), if_neg (by omega)]
            rw [pgBytes_form no.toNat kind.toNat body h4, front_form no.toNat kind.toNat body h4] at hp
            have hbl : (body.length : Int) ≤ 244 := by omega
            have HP := Lib.hid hp
            have HB2 := Lib.hid (fun W => refBytes_digs body.length 2 2 W rfl (by omega) (by omega) (by omega) (by omega))
            have hb4 := fun W => refBytes_digs no.toNat 4 4 W rfl (by omega) (by omega) (by omega) (by omega)
            rw [Int.toNat_of_nonneg h0] at hb4
            have HB4 := Lib.hid hb4
            have HW : Hid (kind = ((UInt8.ofNat kind.toNat).toNat : Int)) := Lib.hid (by rw [toNat_ofNat]; omega)
            have HD2 := Lib.hid (digs_length body.length 2)
            have HD4 := Lib.hid (digs_length no.toNat 4)
            generalize kind.toNat = kk at *
            generalize hnn : no.toNat = nn at *
            clear hnn hb4
            clear hp
            generalize digs body.length 2 = D2 at *
            generalize digs nn 4 = D4 at *
            obtain ⟨FR, hFR⟩ : ∃ FR, FR = [UInt8.ofNat kk, 0] ++ D2 ++ D4 := ⟨_, rfl⟩
            have hFL : FR.length = 8 := by rw [hFR, List.length_append, List.length_append, HD2.out, HD4.out]; rfl
            rw [← hFR] at HP
            have HFR := Lib.hid hFR
            have HFL := Lib.hid hFL
            have HBl := Lib.hid h4
            have HR := Lib.hid hr
            clear hFR hFL hr h4
            go_enter Try.func10, Try.ntmps10
            go_wp2_with (first
              | (go_at_call 17; have hm := hb1; refine (HB4.out _).mono ?_; rintro e w2 ⟨A2, c2, rfl, ho2, hr2, hc2, hb2⟩; have HF := Lib.hid (front_made HW.out hb1 hb2 hr1 hr2); have HS12 := Lib.hid (Nat.le_trans hb1.size hb2.size); clear hm hb1 hb2 hr1 hr2 ho1 ho2)
              | (go_at_call 17; refine (HB2.out _).mono ?_; rintro e w1 ⟨A1, c1, rfl, ho1, hr1, hc1, hb1⟩)
              | (go_at_call 16; refine (copy_any body A w.heap.size c w5 (by have := HBl.out; omega) (HR.out.over HB5.out)).mono ?_; rintro e w6 ⟨v6, rfl, ho6, hb6⟩)
              | (at_builtin; have hm := h4'; refine wpList_app rfl (.tmp 51) (.tmp 52) rfl w2.heap.size v4 ([UInt8.ofNat kk, 0] ++ D2) rfl h4'.out.1 A2 D4 4 c2 HD4.out rfl (HF.out.r2 h4'.out.2.2.1) (by rw [List.length_append, HD2.out, HD4.out]; simp) (Nat.le_trans HF.out.lt h4'.out.2.2.1.size) ?_; intro v5 w5 h5; have h5a := h5.out.1; rw [← HFR.out] at h5a; obtain ⟨A5, c5, hv5, -, -, -⟩ := h5a.form_n HFL.out; subst hv5; have HO5 := Lib.hid h5a; have HB5 := Lib.hid (HF.out.below.trans ((h4'.out.2.2.1.trans h5.out.2.2.1).mono HS12.out)); have HS5 := Lib.hid (Nat.le_trans HF.out.lt (Nat.le_trans h4'.out.2.2.1.size h5.out.2.2.1.size)); clear h5a h5 hm h4')
              | (at_builtin; refine wpList_app rfl (.tmp 48) (.tmp 49) rfl w2.heap.size (.slice (some ⟨w2.heap.size, 0, none⟩) 2 2) [UInt8.ofNat kk, 0] rfl HF.out.own A1 D2 2 c1 HD2.out rfl HF.out.r1 (by rw [HD2.out]; simp) HF.out.lt ?_; intro v4 w4 h4')
              | fail)
            go_loopw [13] (fun s13 wr => ∃ (n : Nat) (Ab : Option Addr) (cb : Nat), body.length ≤ n ∧ n ≤ 244 ∧ s13 = .slice Ab n cb ∧ Hid (Own wr w5.heap.size (.slice Ab n cb) (padTo body n)) ∧ Hid (Below w5.heap.size w5 wr)) (fun s13 _ => 244 - sliceLen s13)
            case atStart =>
              obtain ⟨A6, c6, hv6, -, -, -⟩ := Own.form_n (l := body) ho6 rfl
              subst hv6
              exact ⟨body.length, A6, c6, Nat.le_refl _, HBl.out, rfl, by rw [padTo_self]; exact ho6, hb6⟩
            case round =>
              obtain ⟨n, Ab, cb, hn, hn2, rfl, HO, HB⟩ := hrel
              by_cases hlt : n < 244
              · have hi : (n : Int) < 244 := by omega
                have hpl := padTo_length body n hn
                have HPl := Lib.hid hpl
                clear hpl
                go_wp2_with (first
                  | (at_builtin; refine wpList_app rfl (.tmp 59) (.tmp 60) rfl w5.heap.size (.slice Ab n cb) (padTo body n) rfl (HO.out.alloc _) (some ⟨wr.heap.size, 0, none⟩) [0] 1 1 rfl rfl (reads_zero wr _) (by rw [HPl.out]; simp; omega) (by have := HB.out.size; simp; omega) ?_; intro v7 w7 h7)
                  | fail)
                have h8 := h7.out.1
                rw [← padTo_succ body n hn] at h8
                obtain ⟨A8, c8, hv8, -, -, -⟩ := h8.form_n (padTo_length body (n + 1) (by omega))
                subst hv8
                have H8 := Lib.hid h8
                have HB8 : Hid (Below w5.heap.size w5 w7) := Lib.hid ((HB.out.alloc HB.out.size _).trans h7.out.2.2.1)
                clear h8 h7
                go_roundw
                case rel => exact ⟨n + 1, A8, c8, by omega, by omega, rfl, H8.out, HB8.out⟩
                case measure => simp [sliceLen]; omega
              · obtain rfl : n = 244 := by omega
                have hpl := padTo_length body 244 hn
                have hS5 := HS5.out
                have hwS : w5.heap.size ≤ wr.heap.size := HB.out.size
                have hof : Own wr w2.heap.size (.slice A5 8 c5) FR := HO5.out.under HB.out fun g e => HO5.out.lt g e
                have hap : ∀ g, (Value.slice Ab 244 cb).ownBlock = some g → some g ≠ (Value.slice A5 8 c5).ownBlock := fun g e e2 => by
                  have a1 := HO.out.ge g e
                  have a2 := HO5.out.lt g e2.symm
                  omega
                have hcp := copy_any FR A5 wr.heap.size c5 wr (by rw [HFL.out]; omega) hof.reads
                rw [HFL.out] at hcp
                have HCp := Lib.hid hcp
                have HAp := Lib.hid hap
                have HOf := Lib.hid hof
                have HPl := Lib.hid hpl
                have HBw : Hid (Below w.heap.size w wr) := Lib.hid (HB5.out.trans (HB.out.mono HB5.out.size))
                have hL2 : (FR ++ padTo body 244).length = 252 := by rw [List.length_append, HFL.out, hpl]
                have HL2 := Lib.hid hL2
                have hof2 : ∀ (W : World) A c, Own W wr.heap.size (.slice A 252 c) (FR ++ padTo body 244) → Calls Try.prog 18 #[.slice A 252 c] W fun e w' => e = .returned (.int .u32 (sumOf (FR ++ padTo body 244))) ∧ W = w' := fun W A c ho => by
                  have := refOf_any (FR ++ padTo body 244) A W.heap.size c W (by rw [hL2]; omega) ho.reads
                  rw [hL2] at this
                  exact this
                have HO2 := Lib.hid hof2
                have hsl := sumOf_lt (FR ++ padTo body 244)
                have hbs := fun W => refBytes_digs (sumOf (FR ++ padTo body 244)) 4 4 W rfl (by omega) (by omega) (by omega) (by omega)
                have HBs := Lib.hid hbs
                have HDS := Lib.hid (digs_length (sumOf (FR ++ padTo body 244)) 4)
                generalize hsm : sumOf (FR ++ padTo body 244) = sm at *
                generalize hds : digs sm 4 = DS at *
                generalize hbh : padTo body 244 = BH at *
                have hw64 : (sm : Int) < 4294967296 := by omega
                clear hcp hap hof hpl hL2 hof2 hbs hsm hds hbh hsl
                go_wp2_with (first
                  | (go_at_call 16; refine HCp.out.mono ?_; rintro e w7 ⟨v7, rfl, ho7, hb7⟩; have H7 : Hid (Own w7 wr.heap.size v7 FR) := Lib.hid (by unfold Own; rw [HFL.out]; exact ho7); have HB7 := Lib.hid hb7; clear ho7 hb7)
                  | (go_at_call 18; refine (HO2.out _ _ _ H8.out).mono ?_; rintro e w8' ⟨rfl, rfl⟩)
                  | (go_at_call 17; refine (HBs.out _).mono ?_; rintro e w9 ⟨A9, c9, rfl, ho9, hr9, hc9, hb9⟩; have HR9 := Lib.hid hr9; have HB9 := Lib.hid (HB78.out.trans (hb9.mono HB78.out.size)); have HF9 := Lib.hid (HOf.out.below HB9.out); have HH9 := Lib.hid (HO.out.below HB9.out); clear ho9 hr9 hb9)
                  | (at_builtin; have hm := H10; refine wpList_app rfl (.tmp 76) (.tmp 77) rfl w2.heap.size v10 (FR ++ DS) rfl H10.out Ab BH 244 cb HPl.out rfl HH10.out.reads (by rw [List.length_append, HFL.out, HDS.out, HPl.out]; decide) HS10.out ?_; intro v11 w11 h11)
                  | (at_builtin; have hm := HR9; refine wpList_app rfl (.tmp 73) (.tmp 74) rfl w2.heap.size (.slice A5 8 c5) FR rfl HF9.out A9 DS 4 c9 HDS.out rfl HR9.out (by rw [HFL.out, HDS.out]; decide) (Nat.le_trans hS5 (Nat.le_trans hwS HB9.out.size)) ?_; intro v10 w10 h10; have H10 := Lib.hid h10.out.1; have HH10 := Lib.hid (HH9.out.apart h10.out.2.1 HAp.out); have HS10 := Lib.hid (Nat.le_trans (Nat.le_trans hS5 (Nat.le_trans hwS HB9.out.size)) h10.out.2.2.1.size); have HB10 := Lib.hid ((HBw.out.trans (HB9.out.mono HBw.out.size)).trans (h10.out.2.2.1.mono HS12.out)); clear h10 hm)
                  | (at_builtin; refine wpList_app rfl (.tmp 63) (.tmp 64) rfl wr.heap.size v7 FR rfl H7.out Ab BH 244 cb HPl.out rfl (HO.out.below HB7.out).reads (by rw [HFL.out, HPl.out]; decide) HB7.out.size ?_; intro v8 w8 h8; obtain ⟨A8, c8, hv8, -, -, -⟩ := h8.out.1.form_n HL2.out; subst hv8; have H8 := Lib.hid h8.out.1; have HB78 := Lib.hid (HB7.out.trans h8.out.2.2.1); clear h8)
                  | fail)
                go_ret2
                exact refpack_good HP.out (h11.out.1.lower HS12.out) (HB10.out.trans (h11.out.2.2.1.mono HS12.out))
          · have hp : mPack no kind body = ([], 10) := by unfold mPack; rw [if_neg (by simp [pgNo, pgKind, *]), if_pos (by omega)]
            have HP := Lib.hid hp
            have hbl : (244 : Int) < (body.length : Int) := by omega
            clear hp hr h4
            go_enter Try.func10, Try.ntmps10
            go_wp2_with fail
            go_ret2
            exact refpack_bad HP.out (Below.refl _ _)
        · have hp : mPack no kind body = ([], 1) := by unfold mPack; rw [if_pos (by simp [pgNo, pgKind]; omega)]
          have HP := Lib.hid hp
          clear hp hr
          go_enter Try.func10, Try.ntmps10
          go_wp2_with fail
          go_ret2
          exact refpack_bad HP.out (Below.refl _ _)
      · have hp : mPack no kind body = ([], 1) := by unfold mPack; rw [if_pos (by simp [pgNo, pgKind]; omega)]
        have HP := Lib.hid hp
        clear hp hr
        go_enter Try.func10, Try.ntmps10
        go_wp2_with fail
        go_ret2
        exact refpack_bad HP.out (Below.refl _ _)
    · have hp : mPack no kind body = ([], 1) := by unfold mPack; rw [if_pos (by simp [pgNo, pgKind]; omega)]
      have HP := Lib.hid hp
      clear hp hr
      go_enter Try.func10, Try.ntmps10
      go_wp2_with fail
      go_ret2
      exact refpack_bad HP.out (Below.refl _ _)
  · have hp : mPack no kind body = ([], 1) := by unfold mPack; rw [if_pos (by simp [pgNo, pgKind]; omega)]
    have HP := Lib.hid hp
    clear hp hr
    go_enter Try.func10, Try.ntmps10
    go_wp2_with fail
    go_ret2
    exact refpack_bad HP.out (Below.refl _ _)
end Go.Proofs.Ytgpjhcpiemdbcaa
