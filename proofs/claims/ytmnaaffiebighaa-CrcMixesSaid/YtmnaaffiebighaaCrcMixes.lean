/- The statement CrcMixes: of three texts of one length the sums, their bits turned in one another, are the sum of the three texts, their bits turned in one another. No conditions. -/
import Derived.Test.YtmnaaffiebighaaRows
import Derived.Test.YtmnaaffiebighaaOpen
import Derived.Test.YtmnaaffiebighaaCrcC
import Derived.Test.YtmnaaffiebighaaCopy
import Derived.Test.YtmnaaffiebighaaInv
import Derived.WalkKit
import Derived.StillTactics
import Derived.Deep.DeepCutAuto
import Derived.WalkLawsBesides
import Derived.Deep.RegionHeld3
import Derived.ProofKit
import Derived.OpenShut
import Derived.ShutString
import Derived.ChangeOld
import Derived.Below
import Derived.SizedLaws
import Derived.JoinedCond
namespace Go.Proofs.Ytmnaaffiebighaa.crcMixes
open Go.ChangeShapes Go.WideShapes Go.ChangeAt Go.RowKit
open Go.ChangeMaps (open_string shut_string)
set_option linter.unusedVariables false

theorem own : ownKnob Try.prog.godebug = none := by kernel_rfl
theorem laidOut : laidOutB Try.prog = true := by kernel_rfl
theorem bytes_u8 : Try.prog.bytesOf 5 = 1 := by kernel_rfl

theorem xor3_val (x y z : UInt8) : bits .xor .u8 (bits .xor .u8 (x.toNat : Int) (y.toNat : Int)) (z.toNat : Int) = ((x ^^^ y ^^^ z).toNat : Int) := by
  rw [u8_xor_nat _ _ x.toNat_lt y.toNat_lt, u8_xor_nat _ _ (Nat.xor_lt_two_pow (n := 8) x.toNat_lt y.toNat_lt) z.toNat_lt, UInt8.toNat_xor, UInt8.toNat_xor]
theorem mix3_length (x y z : List UInt8) (n : Nat) (hx : x.length = n) (hy : y.length = n) (hz : z.length = n) : (mix3 x y z).length = n := by
  simp [mix3, hx, hy, hz]
theorem mix3_take (x y z : List UInt8) (k : Nat) (hx : k < x.length) (hy : k < y.length) (hz : k < z.length) :
    mix3 (x.take (k + 1)) (y.take (k + 1)) (z.take (k + 1)) = mix3 (x.take k) (y.take k) (z.take k) ++ [x[k] ^^^ y[k] ^^^ z[k]] := by
  rw [List.take_succ_eq_append_getElem hx, List.take_succ_eq_append_getElem hy, List.take_succ_eq_append_getElem hz]
  unfold mix3
  rw [List.zip_append (by simp; omega), List.zip_append (by simp; omega), List.map_append]
  rfl

theorem bv_take (l : List UInt8) (k : Nat) : bv (l.take k) = (bv l).take k := by simp [bv, List.map_take]
/-- All that was there is as it was. -/
def Und (w w' : World) : Prop := Below w.heap.size w w'
theorem und_refl (w : World) : Und w w := Below.refl _ _
theorem und_drew {w w' : World} (h : Und w w') : Und w w'.drew := Below.drew h
theorem und_alloc {w w' : World} (h : Und w w') (o : Obj) : Und w (w'.alloc o) := Below.alloc h (Below.size h) o
theorem und_call {w w' w'' : World} (h : Und w w') (hb : Below w'.heap.size w' w'') : Und w w'' := Below.trans h (hb.mono (Below.size h))
theorem reads_cut {w w' : World} {A : Option Addr} {l : List UInt8} {k : Nat} (h : Reads w w.heap.size 1 A l.length (bv l)) (hb : Below w.heap.size w w') (hk : k ≤ l.length) : Reads w' w'.heap.size 1 A k (bv (l.take k)) := by
  have := ((h.below hb).take hk).here
  rwa [← bv_take] at this
theorem of_cell (l : List UInt8) (n : Nat) (A : Option Addr) (c g : Nat) (w W : World) (hu : Und w W) (hc : W.cell? ⟨g, 0, none⟩ = some (.slice A n c)) (h : Reads w w.heap.size 1 A n (bv l)) (hl : l.length = n) (hn : n ≤ 9223372036854775807) :
    Calls Try.prog 12 #[.slice (some ⟨g, 0, none⟩) 1 1] W fun e w' => e = .returned (.int .u32 (sumOf l)) ∧ W = w' := by
  subst hl
  have := of_any [(A, l, c)] (some ⟨g, 0, none⟩) W.heap.size 1 W (by simp) ⟨by simp [pvs], fun _ => ⟨_, rfl, lt_of_cell hc, fun j u hj => by
    rcases j with _ | j
    · simp [pvs] at hj
      subst hj
      exact hc
    · simp [pvs] at hj⟩⟩ (by
    intro k p hk
    rcases k with _ | k
    · simp at hk
      subst hk
      exact ⟨(h.below hu).here, hn⟩
    · simp at hk)
  rw [flat_one] at this
  exact this
theorem cell_new (w : World) (v : Value) (t : TypeId) (g : Nat) (hg : w.heap.size = g) : (w.alloc (.cells #[v] t)).cell? ⟨g, 0, none⟩ = some v := by
  subst hg
  rw [(Blk.new w t #[v]).cell 0]
  rfl
theorem cell_old {w : World} {v : Value} {p : Addr} (h : w.cell? p = some v) (o : Obj) : (w.alloc o).cell? p = some v := (World.cell?_alloc_lt w o p (lt_of_cell h)).trans h

/-- Where an operation of the last region lays its value. -/
def slotOf (j : Nat) : Nat := if j = 24 then 6 else 39 + j
theorem slotOf_ne {i j : Nat} (h : i ≠ j) : slotOf i ≠ slotOf j := by
  unfold slotOf
  split <;> split <;> omega
structure Mix where
  A : Option Addr
  A' : Option Addr
  A'' : Option Addr
  A4 : Option Addr
  lx : Nat
  ly : Nat
  lz : Nat
  c : Nat
  c' : Nat
  c'' : Nat
  c4 : Nat
  k : Nat
  sx : Nat
  sy : Nat
  sz : Nat
  sm : Nat
/-- A row of one part that was just made. -/
def OneRow (A : Option Addr) (k c : Nat) (v : Value) (w : World) : Prop := ∃ g, v = .slice (some ⟨g, 0, none⟩) 1 1 ∧ w.cell? ⟨g, 0, none⟩ = some (.slice A k c)
/-- What each operation of the last region leaves, whatever came between. -/
def MixFact (m : Mix) (w : World) (v : Value) : Nat → Prop
  | 0 => v = .bool true
  | 1 => v = .bool true
  | 2 => v = .slice m.A m.lx m.c
  | 3 => v = .int .i64 m.k
  | 4 => v = .slice m.A m.k m.c
  | 5 => OneRow m.A m.k m.c v w
  | 6 => v = .int .u32 m.sx
  | 7 => v = .slice m.A' m.ly m.c'
  | 8 => v = .int .i64 m.k
  | 9 => v = .slice m.A' m.k m.c'
  | 10 => OneRow m.A' m.k m.c' v w
  | 11 => v = .int .u32 m.sy
  | 12 => v = .int .u32 (bits .xor .u32 m.sx m.sy)
  | 13 => v = .slice m.A'' m.lz m.c''
  | 14 => v = .int .i64 m.k
  | 15 => v = .slice m.A'' m.k m.c''
  | 16 => OneRow m.A'' m.k m.c'' v w
  | 17 => v = .int .u32 m.sz
  | 18 => v = .int .u32 (bits .xor .u32 (bits .xor .u32 m.sx m.sy) m.sz)
  | 19 => v = .slice m.A4 m.k m.c4
  | 20 => OneRow m.A4 m.k m.c4 v w
  | 21 => v = .int .u32 m.sm
  | _ => v = .bool true
theorem MixFact.mono {m : Mix} {w w' : World} {v : Value} {j : Nat} (h : MixFact m w v j) (hw : ∀ p u, w.cell? p = some u → w'.cell? p = some u) : MixFact m w' v j := by
  revert h
  unfold MixFact
  split <;> intro h <;> first | exact h | (obtain ⟨g, h1, h2⟩ := h; exact ⟨g, h1, hw _ _ h2⟩)
/-- What holds behind any set L of the last region's operations. -/
structure MixInv (m : Mix) (wr : World) (L : Array Bool) (a : Act) (w : World) : Prop where
  listed : L.size = 25
  size : a.tmps.size = 63
  defers : a.defers = []
  t0 : a.tmps[0]? = some (.slice m.A m.lx m.c)
  t1 : a.tmps[1]? = some (.slice m.A' m.ly m.c')
  t2 : a.tmps[2]? = some (.slice m.A'' m.lz m.c'')
  t7 : a.tmps[7]? = some (.int .i64 m.k)
  t8 : a.tmps[8]? = some (.slice m.A4 m.k m.c4)
  und : Und wr w
  facts : ∀ j, L[j]?.getD false = true → ∃ v, a.tmps[slotOf j]? = some v ∧ MixFact m w v j
theorem MixInv.put {m : Mix} {wr w w' : World} {L : Array Bool} {a : Act} (h : MixInv m wr L a w) (i s : Nat) (v : Value) (hs : slotOf i = s) (hi : i < 25) (hv : MixFact m w' v i) (hu : Und wr w') (hw : ∀ p u, w.cell? p = some u → w'.cell? p = some u) : MixInv m wr (L.setIfInBounds i true) (a.put (some s) v) w' := by
  subst hs
  have h6 : slotOf i = 6 ∨ 39 ≤ slotOf i := by unfold slotOf; split <;> omega
  have hsz : slotOf i < a.tmps.size := by rw [h.size]; unfold slotOf; split <;> omega
  have old : ∀ t, t ≠ slotOf i → (a.put (some (slotOf i)) v).tmps[t]? = a.tmps[t]? := fun t ht => by
    show (a.tmps.setIfInBounds (slotOf i) v)[t]? = _
    rw [Array.getElem?_setIfInBounds, if_neg (fun e => ht e.symm)]
  refine ⟨by simp [h.listed], ?_, h.defers, ?_, ?_, ?_, ?_, ?_, hu, fun j hj => ?_⟩
  · show (a.tmps.setIfInBounds (slotOf i) v).size = 63
    simp [h.size]
  · rw [old _ (by omega)]; exact h.t0
  · rw [old _ (by omega)]; exact h.t1
  · rw [old _ (by omega)]; exact h.t2
  · rw [old _ (by omega)]; exact h.t7
  · rw [old _ (by omega)]; exact h.t8
  · by_cases hji : j = i
    · subst hji
      refine ⟨v, ?_, hv⟩
      show (a.tmps.setIfInBounds (slotOf j) v)[slotOf j]? = _
      rw [Array.getElem?_setIfInBounds, if_pos rfl, if_pos hsz]
    · have hL : L[j]?.getD false = true := by
        rwa [Array.getElem?_setIfInBounds, if_neg (fun e => hji e.symm)] at hj
      obtain ⟨u, h1, h2⟩ := h.facts j hL
      exact ⟨u, by rw [old _ (slotOf_ne hji)]; exact h1, h2.mono hw⟩
theorem getD_of {a : Array Value} {t : Nat} {v : Value} (h : a[t]? = some v) : a.getD t undef = v := by
  obtain ⟨hl, hv⟩ := Array.getElem?_eq_some_iff.1 h
  simp [Array.getD, hl, hv]

set_option maxHeartbeats 800000 in
theorem walk_at (A : Option Addr) (x : List UInt8) (c : Nat) (A' : Option Addr) (y : List UInt8) (c' : Nat) (A'' : Option Addr) (z : List UInt8) (c'' : Nat) (n : Nat) (w : World)
    (hr : Reads w w.heap.size 1 A x.length (bv x)) (hr' : Reads w w.heap.size 1 A' y.length (bv y)) (hr'' : Reads w w.heap.size 1 A'' z.length (bv z))
    (hre : x.length ≤ 140737488351232) (hre' : y.length ≤ 140737488351232) (hre'' : z.length ≤ 140737488351232) (hc : x.length ≤ c) (hc' : y.length ≤ c') (hc'' : z.length ≤ c'')
    (hcm : c ≤ maxLen) (hcm' : c' ≤ maxLen) (hcm'' : c'' ≤ maxLen) (hn : n = min (min x.length y.length) z.length) :
    Calls Try.prog 8 #[.slice A x.length c, .slice A' y.length c', .slice A'' z.length c''] w fun e w' => e = .returned (.bool true) ∧ Below w.heap.size w w' := by
  obtain ⟨i0, hi0, hz0, hz1, hz2⟩ := info_parts u8info
  have hnx : n ≤ x.length := by omega
  have hny : n ≤ y.length := by omega
  have hnz : n ≤ z.length := by omega
  have HR := Lib.hid hr
  have HR' := Lib.hid hr'
  have HR'' := Lib.hid hr''
  have HN := Lib.hid hn
  clear hr hr' hr'' hn
  unfold maxLen at hcm hcm' hcm''
  go_enter Try.func8, Try.ntmps8
  go_upto_region 1 with fail
  go_cut [7] (fun s7 wx => s7 = .int .i64 n ∧ w = wx)
  case first =>
    go_wp2_with fail
    all_goals (go_meet; refine ⟨congrArg (Value.int .i64) ?_, rfl⟩; have hn' := HN.out; omega)
  obtain ⟨rfl, rfl⟩ := hcut
  go_wp2
  go_loopw [8, 9] (fun v i wr => ∃ k : Nat, k ≤ n ∧ i = .int .i64 k ∧ wr.ownsRow w.heap.size 5 1 v k (bv (mix3 (x.take k) (y.take k) (z.take k))) ∧ Below w.heap.size w wr) (fun _ i _ => n - (intOf i).toNat)
  case atStart => exact ⟨0, Nat.zero_le _, rfl, own_nil _ _ _ _, Below.refl _ _⟩
  case round =>
    obtain ⟨k, hk, rfl, hown, hbel⟩ := hrel
    by_cases hlt : k < n
    · have hlx : k < x.length := by omega
      have hly : k < y.length := by omega
      have hlz : k < z.length := by omega
      obtain ⟨b, off, rfl, hbB, hcl⟩ := (HR.out.over hbel).form (by omega)
      obtain ⟨b', off', rfl, hbB', hcl'⟩ := (HR'.out.over hbel).form (by omega)
      obtain ⟨b'', off'', rfl, hbB'', hcl''⟩ := (HR''.out.over hbel).form (by omega)
      have e1 := hcl k _ (bv_get x k hlx)
      have e2 := hcl' k _ (bv_get y k hly)
      have e3 := hcl'' k _ (bv_get z k hlz)
      have i1 : (k : Int) < (x.length : Int) := by omega
      have i2 : (k : Int) < (y.length : Int) := by omega
      have i3 : (k : Int) < (z.length : Int) := by omega
      have hbs := hbel.size
      have HM := Lib.hid (mix3_take x y z k hlx hly hlz)
      have HV := Lib.hid (xor3_val x[k] y[k] z[k])
      have ag1 : u8.ownBlock ≠ some b := fun e => by have := own_ge hown _ e; omega
      have ag2 : u8.ownBlock ≠ some b' := fun e => by have := own_ge hown _ e; omega
      have ag3 : u8.ownBlock ≠ some b'' := fun e => by have := own_ge hown _ e; omega
      have k0 : (0 : Int) ≤ (k : Int) := by omega
      have hk63 : k + 1 ≤ maxLen := by unfold maxLen; omega
      have hk47 : (k + 1) * 1 ≤ 140737488355328 := by omega
      go_wp2_with fail
      go_region_held3 (fun w' => w'.cell? ⟨b, off + k, none⟩ = some (.int .u8 (x[k].toNat : Int)) ∧ w'.cell? ⟨b', off' + k, none⟩ = some (.int .u8 (y[k].toNat : Int)) ∧ w'.cell? ⟨b'', off'' + k, none⟩ = some (.int .u8 (z[k].toNat : Int)))
        (first
          | go_keep
          | (go_split_ands
             refine ⟨?_, ?_, ?_⟩
             · (rw [hgrow.cell_far _ (by simp; omega) (Ne.symm ag1)]; assumption)
             · (rw [hgrow.cell_far _ (by simp; omega) (Ne.symm ag2)]; assumption)
             · (rw [hgrow.cell_far _ (by simp; omega) (Ne.symm ag3)]; assumption)))
        ((refine step_append_any _ (by rfl) _ _ 23 (by rfl) w.heap.size 5 i0 (.int .u8 0) 1 1 Try.underlying23 hi0 hz0 hz1 hz2 rfl (by decide) u8 k _ (by rfl) ((hown.alloc _).drew) (wr.heap.size + 1) (some ⟨wr.heap.size, 0, none⟩) 1 1 [.int .u8 (bits .xor .u8 (bits .xor .u8 (x[k].toNat : Int) (y[k].toNat : Int)) (z[k].toNat : Int))] (by rfl) ((reads_vals wr 5 [_] 1 rfl).drew) (by simp [Value.oneCell']) hk63 hk47 (by simp; omega) ?_; intro v' w1 hown1 hgrow hat))
      have HO := Lib.hid hown1
      have HG := Lib.hid hgrow
      clear hown1 hgrow hat hcl hcl' hcl''
      rename_i hHeld
      clear hHeld e1 e2 e3
      go_wp2
      go_roundw
      case rel =>
        refine ⟨k + 1, by omega, by go_num, ?_, ((hbel.alloc (by omega) _).drew).grown HG.out (by simp; omega) (own_ge hown)⟩
        have ho := HO.out
        rw [HV.out] at ho
        rw [HM.out, bv_append]
        exact ho
      case measure => simp [intOf]; omega
    · obtain rfl : k = n := by omega
      have hml := mix3_length (x.take k) (y.take k) (z.take k) k (by simp; omega) (by simp; omega) (by simp; omega)
      have HS := Lib.hid (sumOf_mix (x.take k) (y.take k) (z.take k) (by simp; omega) (by simp; omega))
      have h1 := sumOf_lt (x.take k)
      have h2 := sumOf_lt (y.take k)
      have h3 := sumOf_lt (z.take k)
      obtain ⟨A4, c4, rfl, hkc, hcm4, hr4, _⟩ := own_form hown
      have HX := Lib.hid (reads_cut HR.out hbel hnx)
      have HY := Lib.hid (reads_cut HR'.out hbel hny)
      have HZ := Lib.hid (reads_cut HR''.out hbel hnz)
      have H4 := Lib.hid hr4
      have HB := Lib.hid hbel
      have hlx : (x.take k).length = k := by simp; omega
      have hly : (y.take k).length = k := by simp; omega
      have hlz : (z.take k).length = k := by simp; omega
      generalize x.take k = x1 at *
      generalize y.take k = y1 at *
      generalize z.take k = z1 at *
      have HLX := Lib.hid hlx
      have HLY := Lib.hid hly
      have HLZ := Lib.hid hlz
      have HLM := Lib.hid hml
      clear hlx hly hlz hml hr4 hbel hown
      have kc1 : (k : Int) ≤ (c : Int) := by omega
      have kc2 : (k : Int) ≤ (c' : Int) := by omega
      have kc3 : (k : Int) ≤ (c'' : Int) := by omega
      have k0 : 0 ≤ (k : Int) := by omega
      have hk63 : k ≤ 9223372036854775807 := by omega
      clear hnx hny hnz
      go_wp2_with fail
      have heq : (bits .xor .u32 (bits .xor .u32 (sumOf x1 : Int) (sumOf y1 : Int)) (sumOf z1 : Int) == (sumOf (mix3 x1 y1 z1) : Int)) = true := by
        rw [u32_xor_nat _ _ h1 h2, u32_xor_nat _ _ (xor_lt h1 h2) h3, HS.out, beq_iff_eq]
      clear h1 h2 h3 HS
      refine wp_region_inv (by kernel_rfl) (by kernel_rfl) (MixInv ⟨A, A', A'', A4, x.length, y.length, z.length, c, c', c'', c4, k, sumOf x1, sumOf y1, sumOf z1, sumOf (mix3 x1 y1 z1)⟩ wr) ?start ?step ?fin
      case start =>
        exact ⟨by simp, rfl, rfl, rfl, rfl, rfl, rfl, rfl, und_drew (und_refl _), fun j hj => by
          exfalso
          rw [Array.getElem?_replicate] at hj
          split at hj <;> simp at hj⟩
      case step =>
        intro i o L a w' ho hL hdep hI
        have hi : i < 25 := by have := (Array.getElem?_eq_some_iff.1 ho).1; simpa using this
        have cs : i = 0 ∨ i = 1 ∨ i = 2 ∨ i = 3 ∨ i = 4 ∨ i = 5 ∨ i = 6 ∨ i = 7 ∨ i = 8 ∨ i = 9 ∨ i = 10 ∨ i = 11 ∨ i = 12 ∨ i = 13 ∨ i = 14 ∨ i = 15 ∨ i = 16 ∨ i = 17 ∨ i = 18 ∨ i = 19 ∨ i = 20 ∨ i = 21 ∨ i = 22 ∨ i = 23 ∨ i = 24 := by omega
        clear hi
        rcases cs with rfl | rfl | rfl | rfl | rfl | rfl | rfl | rfl | rfl | rfl | rfl | rfl | rfl | rfl | rfl | rfl | rfl | rfl | rfl | rfl | rfl | rfl | rfl | rfl | rfl
        · simp at ho
          subst ho
          clear hdep
          refine wpOp_step rfl (fun K hK => ?_)
          rw [if_pos (by simp [Region.wanted])]
          go_simp
          refine (awake_any _).mono ?_
          rintro e w2 ⟨rfl, hb2⟩
          exact hK _ _ (hI.put 0 39 (.bool true) rfl (by omega) rfl (und_call hI.und hb2) (fun p u hp => (hb2.cell (lt_of_cell hp)).trans hp))
        · simp at ho
          subst ho
          simp [Region.binds] at hdep
          obtain ⟨va, ea, fa⟩ := hI.facts 0 hdep
          simp only [MixFact] at fa
          simp [slotOf] at ea
          subst fa
          have ga := getD_of ea
          refine wpOp_step rfl (fun K hK => ?_)
          rw [if_pos (by simp [Region.wanted])]
          go_simp
          exact hK _ _ (hI.put 1 40 (.bool true) rfl (by omega) rfl hI.und (fun _ _ hp => hp))
        · simp at ho
          subst ho
          simp [Region.binds] at hdep
          obtain ⟨vg, eg, fg⟩ := hI.facts 1 hdep
          simp only [MixFact] at fg
          simp [slotOf] at eg
          subst fg
          have ga := getD_of hI.t0
          refine wpOp_step rfl (fun K hK => ?_)
          rw [if_pos (by simp [Region.wanted, yielded, eg])]
          go_simp
          exact hK _ _ (hI.put 2 41 (.slice A x.length c) rfl (by omega) rfl hI.und (fun _ _ hp => hp))
        · simp at ho
          subst ho
          simp [Region.binds] at hdep
          obtain ⟨vg, eg, fg⟩ := hI.facts 1 hdep
          simp only [MixFact] at fg
          simp [slotOf] at eg
          subst fg
          have ga := getD_of hI.t7
          refine wpOp_step rfl (fun K hK => ?_)
          rw [if_pos (by simp [Region.wanted, yielded, eg])]
          go_simp
          exact hK _ _ (hI.put 3 42 (.int .i64 k) rfl (by omega) rfl hI.und (fun _ _ hp => hp))
        · simp at ho
          subst ho
          simp [Region.binds] at hdep
          obtain ⟨va, ea, fa⟩ := hI.facts 2 hdep.1
          simp only [MixFact] at fa
          simp [slotOf] at ea
          obtain ⟨vb, eb, fb⟩ := hI.facts 3 hdep.2.1
          simp only [MixFact] at fb
          simp [slotOf] at eb
          obtain ⟨vg, eg, fg⟩ := hI.facts 1 hdep.2.2
          simp only [MixFact] at fg
          simp [slotOf] at eg
          subst fa fb fg
          have ga := getD_of ea
          have gb := getD_of eb
          refine wpOp_step rfl (fun K hK => ?_)
          rw [if_pos (by simp [Region.wanted, yielded, eg])]
          go_simp
          exact hK _ _ (hI.put 4 43 (.slice A k c) rfl (by omega) rfl hI.und (fun _ _ hp => hp))
        · simp at ho
          subst ho
          simp [Region.binds] at hdep
          obtain ⟨va, ea, fa⟩ := hI.facts 4 hdep.1
          simp only [MixFact] at fa
          simp [slotOf] at ea
          obtain ⟨vg, eg, fg⟩ := hI.facts 1 hdep.2
          simp only [MixFact] at fg
          simp [slotOf] at eg
          subst fa fg
          have ga := getD_of ea
          refine wpOp_step rfl (fun K hK => ?_)
          rw [if_pos (by simp [Region.wanted, yielded, eg])]
          go_simp
          exact hK _ _ (hI.put 5 44 (.slice (some ⟨w'.heap.size, 0, none⟩) 1 1) rfl (by omega) ⟨_, rfl, cell_new _ _ _ _ rfl⟩ (und_alloc hI.und _) (fun _ _ hp => cell_old hp _))
        · simp at ho
          subst ho
          simp [Region.binds] at hdep
          obtain ⟨va, ea, fa⟩ := hI.facts 5 hdep.1
          simp only [MixFact] at fa
          simp [slotOf] at ea
          obtain ⟨vg, eg, fg⟩ := hI.facts 1 hdep.2
          simp only [MixFact] at fg
          simp [slotOf] at eg
          obtain ⟨ga, rfl, ca⟩ := fa
          subst fg
          have gg := getD_of ea
          refine wpOp_step rfl (fun K hK => ?_)
          rw [if_pos (by simp [Region.wanted, yielded, eg])]
          go_simp
          refine (of_cell x1 k A c _ wr _ hI.und ca HX.out HLX.out hk63).mono ?_
          rintro e w2 ⟨rfl, rfl⟩
          exact hK _ _ (hI.put 6 45 (.int .u32 (sumOf x1)) rfl (by omega) rfl hI.und (fun _ _ hp => hp))
        · simp at ho
          subst ho
          simp [Region.binds] at hdep
          obtain ⟨vg, eg, fg⟩ := hI.facts 1 hdep
          simp only [MixFact] at fg
          simp [slotOf] at eg
          subst fg
          have ga := getD_of hI.t1
          refine wpOp_step rfl (fun K hK => ?_)
          rw [if_pos (by simp [Region.wanted, yielded, eg])]
          go_simp
          exact hK _ _ (hI.put 7 46 (.slice A' y.length c') rfl (by omega) rfl hI.und (fun _ _ hp => hp))
        · simp at ho
          subst ho
          simp [Region.binds] at hdep
          obtain ⟨vg, eg, fg⟩ := hI.facts 1 hdep
          simp only [MixFact] at fg
          simp [slotOf] at eg
          subst fg
          have ga := getD_of hI.t7
          refine wpOp_step rfl (fun K hK => ?_)
          rw [if_pos (by simp [Region.wanted, yielded, eg])]
          go_simp
          exact hK _ _ (hI.put 8 47 (.int .i64 k) rfl (by omega) rfl hI.und (fun _ _ hp => hp))
        · simp at ho
          subst ho
          simp [Region.binds] at hdep
          obtain ⟨va, ea, fa⟩ := hI.facts 7 hdep.1
          simp only [MixFact] at fa
          simp [slotOf] at ea
          obtain ⟨vb, eb, fb⟩ := hI.facts 8 hdep.2.1
          simp only [MixFact] at fb
          simp [slotOf] at eb
          obtain ⟨vg, eg, fg⟩ := hI.facts 1 hdep.2.2
          simp only [MixFact] at fg
          simp [slotOf] at eg
          subst fa fb fg
          have ga := getD_of ea
          have gb := getD_of eb
          refine wpOp_step rfl (fun K hK => ?_)
          rw [if_pos (by simp [Region.wanted, yielded, eg])]
          go_simp
          exact hK _ _ (hI.put 9 48 (.slice A' k c') rfl (by omega) rfl hI.und (fun _ _ hp => hp))
        · simp at ho
          subst ho
          simp [Region.binds] at hdep
          obtain ⟨va, ea, fa⟩ := hI.facts 9 hdep.1
          simp only [MixFact] at fa
          simp [slotOf] at ea
          obtain ⟨vg, eg, fg⟩ := hI.facts 1 hdep.2
          simp only [MixFact] at fg
          simp [slotOf] at eg
          subst fa fg
          have ga := getD_of ea
          refine wpOp_step rfl (fun K hK => ?_)
          rw [if_pos (by simp [Region.wanted, yielded, eg])]
          go_simp
          exact hK _ _ (hI.put 10 49 (.slice (some ⟨w'.heap.size, 0, none⟩) 1 1) rfl (by omega) ⟨_, rfl, cell_new _ _ _ _ rfl⟩ (und_alloc hI.und _) (fun _ _ hp => cell_old hp _))
        · simp at ho
          subst ho
          simp [Region.binds] at hdep
          obtain ⟨va, ea, fa⟩ := hI.facts 10 hdep.1
          simp only [MixFact] at fa
          simp [slotOf] at ea
          obtain ⟨vg, eg, fg⟩ := hI.facts 1 hdep.2.2
          simp only [MixFact] at fg
          simp [slotOf] at eg
          obtain ⟨ga, rfl, ca⟩ := fa
          subst fg
          have gg := getD_of ea
          refine wpOp_step rfl (fun K hK => ?_)
          rw [if_pos (by simp [Region.wanted, yielded, eg])]
          go_simp
          refine (of_cell y1 k A' c' _ wr _ hI.und ca HY.out HLY.out hk63).mono ?_
          rintro e w2 ⟨rfl, rfl⟩
          exact hK _ _ (hI.put 11 50 (.int .u32 (sumOf y1)) rfl (by omega) rfl hI.und (fun _ _ hp => hp))
        · simp at ho
          subst ho
          simp [Region.binds] at hdep
          obtain ⟨va, ea, fa⟩ := hI.facts 6 hdep.1
          simp only [MixFact] at fa
          simp [slotOf] at ea
          obtain ⟨vb, eb, fb⟩ := hI.facts 11 hdep.2.1
          simp only [MixFact] at fb
          simp [slotOf] at eb
          obtain ⟨vg, eg, fg⟩ := hI.facts 1 hdep.2.2
          simp only [MixFact] at fg
          simp [slotOf] at eg
          subst fa fb fg
          have ga := getD_of ea
          have gb := getD_of eb
          refine wpOp_step rfl (fun K hK => ?_)
          rw [if_pos (by simp [Region.wanted, yielded, eg])]
          go_simp
          exact hK _ _ (hI.put 12 51 (.int .u32 (bits .xor .u32 (sumOf x1) (sumOf y1))) rfl (by omega) rfl hI.und (fun _ _ hp => hp))
        · simp at ho
          subst ho
          simp [Region.binds] at hdep
          obtain ⟨vg, eg, fg⟩ := hI.facts 1 hdep
          simp only [MixFact] at fg
          simp [slotOf] at eg
          subst fg
          have ga := getD_of hI.t2
          refine wpOp_step rfl (fun K hK => ?_)
          rw [if_pos (by simp [Region.wanted, yielded, eg])]
          go_simp
          exact hK _ _ (hI.put 13 52 (.slice A'' z.length c'') rfl (by omega) rfl hI.und (fun _ _ hp => hp))
        · simp at ho
          subst ho
          simp [Region.binds] at hdep
          obtain ⟨vg, eg, fg⟩ := hI.facts 1 hdep
          simp only [MixFact] at fg
          simp [slotOf] at eg
          subst fg
          have ga := getD_of hI.t7
          refine wpOp_step rfl (fun K hK => ?_)
          rw [if_pos (by simp [Region.wanted, yielded, eg])]
          go_simp
          exact hK _ _ (hI.put 14 53 (.int .i64 k) rfl (by omega) rfl hI.und (fun _ _ hp => hp))
        · simp at ho
          subst ho
          simp [Region.binds] at hdep
          obtain ⟨va, ea, fa⟩ := hI.facts 13 hdep.1
          simp only [MixFact] at fa
          simp [slotOf] at ea
          obtain ⟨vb, eb, fb⟩ := hI.facts 14 hdep.2.1
          simp only [MixFact] at fb
          simp [slotOf] at eb
          obtain ⟨vg, eg, fg⟩ := hI.facts 1 hdep.2.2
          simp only [MixFact] at fg
          simp [slotOf] at eg
          subst fa fb fg
          have ga := getD_of ea
          have gb := getD_of eb
          refine wpOp_step rfl (fun K hK => ?_)
          rw [if_pos (by simp [Region.wanted, yielded, eg])]
          go_simp
          exact hK _ _ (hI.put 15 54 (.slice A'' k c'') rfl (by omega) rfl hI.und (fun _ _ hp => hp))
        · simp at ho
          subst ho
          simp [Region.binds] at hdep
          obtain ⟨va, ea, fa⟩ := hI.facts 15 hdep.1
          simp only [MixFact] at fa
          simp [slotOf] at ea
          obtain ⟨vg, eg, fg⟩ := hI.facts 1 hdep.2
          simp only [MixFact] at fg
          simp [slotOf] at eg
          subst fa fg
          have ga := getD_of ea
          refine wpOp_step rfl (fun K hK => ?_)
          rw [if_pos (by simp [Region.wanted, yielded, eg])]
          go_simp
          exact hK _ _ (hI.put 16 55 (.slice (some ⟨w'.heap.size, 0, none⟩) 1 1) rfl (by omega) ⟨_, rfl, cell_new _ _ _ _ rfl⟩ (und_alloc hI.und _) (fun _ _ hp => cell_old hp _))
        · simp at ho
          subst ho
          simp [Region.binds] at hdep
          obtain ⟨va, ea, fa⟩ := hI.facts 16 hdep.1
          simp only [MixFact] at fa
          simp [slotOf] at ea
          obtain ⟨vg, eg, fg⟩ := hI.facts 1 hdep.2.2
          simp only [MixFact] at fg
          simp [slotOf] at eg
          obtain ⟨ga, rfl, ca⟩ := fa
          subst fg
          have gg := getD_of ea
          refine wpOp_step rfl (fun K hK => ?_)
          rw [if_pos (by simp [Region.wanted, yielded, eg])]
          go_simp
          refine (of_cell z1 k A'' c'' _ wr _ hI.und ca HZ.out HLZ.out hk63).mono ?_
          rintro e w2 ⟨rfl, rfl⟩
          exact hK _ _ (hI.put 17 56 (.int .u32 (sumOf z1)) rfl (by omega) rfl hI.und (fun _ _ hp => hp))
        · simp at ho
          subst ho
          simp [Region.binds] at hdep
          obtain ⟨va, ea, fa⟩ := hI.facts 12 hdep.1
          simp only [MixFact] at fa
          simp [slotOf] at ea
          obtain ⟨vb, eb, fb⟩ := hI.facts 17 hdep.2.1
          simp only [MixFact] at fb
          simp [slotOf] at eb
          obtain ⟨vg, eg, fg⟩ := hI.facts 1 hdep.2.2
          simp only [MixFact] at fg
          simp [slotOf] at eg
          subst fa fb fg
          have ga := getD_of ea
          have gb := getD_of eb
          refine wpOp_step rfl (fun K hK => ?_)
          rw [if_pos (by simp [Region.wanted, yielded, eg])]
          go_simp
          exact hK _ _ (hI.put 18 57 (.int .u32 (bits .xor .u32 (bits .xor .u32 (sumOf x1) (sumOf y1)) (sumOf z1))) rfl (by omega) rfl hI.und (fun _ _ hp => hp))
        · simp at ho
          subst ho
          simp [Region.binds] at hdep
          obtain ⟨vg, eg, fg⟩ := hI.facts 1 hdep
          simp only [MixFact] at fg
          simp [slotOf] at eg
          subst fg
          have ga := getD_of hI.t8
          refine wpOp_step rfl (fun K hK => ?_)
          rw [if_pos (by simp [Region.wanted, yielded, eg])]
          go_simp
          exact hK _ _ (hI.put 19 58 (.slice A4 k c4) rfl (by omega) rfl hI.und (fun _ _ hp => hp))
        · simp at ho
          subst ho
          simp [Region.binds] at hdep
          obtain ⟨va, ea, fa⟩ := hI.facts 19 hdep.1
          simp only [MixFact] at fa
          simp [slotOf] at ea
          obtain ⟨vg, eg, fg⟩ := hI.facts 1 hdep.2
          simp only [MixFact] at fg
          simp [slotOf] at eg
          subst fa fg
          have ga := getD_of ea
          refine wpOp_step rfl (fun K hK => ?_)
          rw [if_pos (by simp [Region.wanted, yielded, eg])]
          go_simp
          exact hK _ _ (hI.put 20 59 (.slice (some ⟨w'.heap.size, 0, none⟩) 1 1) rfl (by omega) ⟨_, rfl, cell_new _ _ _ _ rfl⟩ (und_alloc hI.und _) (fun _ _ hp => cell_old hp _))
        · simp at ho
          subst ho
          simp [Region.binds] at hdep
          obtain ⟨va, ea, fa⟩ := hI.facts 20 hdep.1
          simp only [MixFact] at fa
          simp [slotOf] at ea
          obtain ⟨vg, eg, fg⟩ := hI.facts 1 hdep.2.2
          simp only [MixFact] at fg
          simp [slotOf] at eg
          obtain ⟨ga, rfl, ca⟩ := fa
          subst fg
          have gg := getD_of ea
          refine wpOp_step rfl (fun K hK => ?_)
          rw [if_pos (by simp [Region.wanted, yielded, eg])]
          go_simp
          refine (of_cell (mix3 x1 y1 z1) k A4 c4 _ wr _ hI.und ca H4.out HLM.out hk63).mono ?_
          rintro e w2 ⟨rfl, rfl⟩
          exact hK _ _ (hI.put 21 60 (.int .u32 (sumOf (mix3 x1 y1 z1))) rfl (by omega) rfl hI.und (fun _ _ hp => hp))
        · simp at ho
          subst ho
          simp [Region.binds] at hdep
          obtain ⟨va, ea, fa⟩ := hI.facts 18 hdep.1
          simp only [MixFact] at fa
          simp [slotOf] at ea
          obtain ⟨vb, eb, fb⟩ := hI.facts 21 hdep.2.1
          simp only [MixFact] at fb
          simp [slotOf] at eb
          obtain ⟨vg, eg, fg⟩ := hI.facts 1 hdep.2.2
          simp only [MixFact] at fg
          simp [slotOf] at eg
          subst fa fb fg
          have ga := getD_of ea
          have gb := getD_of eb
          refine wpOp_step rfl (fun K hK => ?_)
          rw [if_pos (by simp [Region.wanted, yielded, eg])]
          go_simp
          exact hK _ _ (hI.put 22 61 (.bool true) rfl (by omega) rfl hI.und (fun _ _ hp => hp))
        · simp at ho
          subst ho
          simp [Region.binds] at hdep
          obtain ⟨va, ea, fa⟩ := hI.facts 1 hdep.1
          simp only [MixFact] at fa
          simp [slotOf] at ea
          obtain ⟨vb, eb, fb⟩ := hI.facts 22 hdep.2
          simp only [MixFact] at fb
          simp [slotOf] at eb
          subst fa fb
          have ga := getD_of ea
          have gb := getD_of eb
          refine wpOp_step rfl (fun K hK => ?_)
          rw [if_pos (by simp [Region.wanted])]
          go_simp
          exact hK _ _ (hI.put 23 62 (.bool true) rfl (by omega) rfl hI.und (fun _ _ hp => hp))
        · simp at ho
          subst ho
          simp [Region.binds] at hdep
          obtain ⟨va, ea, fa⟩ := hI.facts 23 hdep.1
          simp only [MixFact] at fa
          simp [slotOf] at ea
          subst fa
          have ga := getD_of ea
          refine wpOp_step rfl (fun K hK => ?_)
          rw [if_pos (by simp [Region.wanted])]
          go_simp
          exact hK _ _ (hI.put 24 6 (.bool true) rfl (by omega) rfl hI.und (fun _ _ hp => hp))
      case fin =>
        intro L a w' hall hI
        have h24 := hall 24 (by simp)
        rw [Array.getD_eq_getD_getElem?] at h24
        obtain ⟨v, e1, f1⟩ := hI.facts 24 h24
        simp only [MixFact] at f1
        simp [slotOf] at e1
        subst f1
        have g6 := getD_of e1
        rename_i hk
        refine hk _ _ ?_
        clear hall hk
        have hu := hI.und
        have hd := hI.defers
        clear hI
        go_wp2
        refine bodyPost_ret (results_tmp rfl _ _ _) hd ?_
        rw [g6]
        exact ⟨rfl, HB.out.trans (Below.mono hu HB.out.size)⟩

theorem walk (A : Option Addr) (x : List UInt8) (c : Nat) (A' : Option Addr) (y : List UInt8) (c' : Nat) (A'' : Option Addr) (z : List UInt8) (c'' : Nat) (w : World)
    (hc : x.length ≤ c) (hcm : c ≤ maxLen) (hr : Reads w w.heap.size 1 A x.length (bv x)) (hre : x.length ≤ 140737488351232)
    (hc' : y.length ≤ c') (hcm' : c' ≤ maxLen) (hr' : Reads w w.heap.size 1 A' y.length (bv y)) (hre' : y.length ≤ 140737488351232)
    (hc'' : z.length ≤ c'') (hcm'' : c'' ≤ maxLen) (hr'' : Reads w w.heap.size 1 A'' z.length (bv z)) (hre'' : z.length ≤ 140737488351232) :
    Calls Try.prog 8 #[.slice A x.length c, .slice A' y.length c', .slice A'' z.length c''] w fun e w' => e = .returned (.bool true) ∧ Below w.heap.size w w' :=
  walk_at A x c A' y c' A'' z c'' _ w hr hr' hr'' hre hre' hre'' hc hc' hc'' hcm hcm' hcm'' rfl

set_option maxRecDepth 100000 in
theorem lifted (os : Os) (started : os.Started) (H : Type) (enc : TypeId × Value → H) :
    ReturnsInHanded {} Try.checked os 8 .any (Rows.crcMixesSpec.pre6 enc Try.prog Try.f8 Rows.crcMixesRow.domain false) (Rows.crcMixesSpec.post enc Try.prog Try.f8 false true false false) := by
  refine returnsInHanded_of_change_sized (C := Try.checked) own started (by kernel_rfl) Try.func8
    (ChangeSpec.witness6 (enc := enc) (C := Try.checked) false ⟨#[], #[.slice none 0 0, .slice none 0 0, .slice none 0 0], []⟩ 8 (by kernel_rfl) (by kernel_rfl) (by kernel_rfl) (by kernel_rfl)) ?_
  intro W base args ds gs before hval0 hW hcnd hsz0 _
  have hsz : (DataW.weightsEach Try.prog (Try.f8.params.toList ++ Rows.crcMixesSpec.plain.varTypes Try.prog) (ds ++ gs)).all (· ≤ reachBytes) = true := hsz0
  have hval : ∀ (j : Nat) t v, Try.f8.params[j]? = some t → args[j]? = some v → Value.okWide Try.prog W .any base t v := hval0
  have hW' := hW
  obtain ⟨p, q, hA0, hV, rfl, hfz, hnd⟩ := hW
  have hA : DataW.TrodAll enc Try.prog W 0 (fun _ => true) true Try.f8.params.toList args.toList ds p := hA0
  rw [Try.params8] at hA hval hsz
  obtain ⟨v0, vs0, d0, ds0, p0, q0, hargs, rfl, rfl, h0, r0⟩ := trodAll_cons hA
  obtain ⟨v1, vs1, d1, ds1, p1, q1, rfl, rfl, rfl, h1, r1⟩ := trodAll_cons r0
  obtain ⟨v2, vs2, d2, ds2, p2, q2, rfl, rfl, rfl, h2, r2⟩ := trodAll_cons r1
  obtain ⟨rfl, rfl, rfl⟩ := trodAll_nil r2
  obtain rfl : args = #[v0, v1, v2] := by cases args; simp_all
  obtain ⟨rfl, rfl⟩ := trodVars_none hV
  have k0 := h0
  have lt0 : ∀ x ∈ p0, x.block < W.heap.size := by obtain ⟨m, hm⟩ := k0; exact DataW.trod_lt m _ _ _ hm
  obtain ⟨A0, l0, c0, rfl, hlc0, hcm0, hr0, hln0⟩ := open_bytes Try.underlying23 Try.underlying5 (by kernel_rfl) (hval 0 23 v0 rfl rfl) h0
  have hre0 := reach_bytes hsz (j := 0) rfl rfl Try.underlying23 bytes_u8 hln0
  have k1 := h1
  have lt1 : ∀ x ∈ p1, x.block < W.heap.size := by obtain ⟨m, hm⟩ := k1; exact DataW.trod_lt m _ _ _ hm
  obtain ⟨A1, l1, c1, rfl, hlc1, hcm1, hr1, hln1⟩ := open_bytes Try.underlying23 Try.underlying5 (by kernel_rfl) (hval 1 23 v1 rfl rfl) h1
  have hre1 := reach_bytes hsz (j := 1) rfl rfl Try.underlying23 bytes_u8 hln1
  have k2 := h2
  have lt2 : ∀ x ∈ p2, x.block < W.heap.size := by obtain ⟨m, hm⟩ := k2; exact DataW.trod_lt m _ _ _ hm
  obtain ⟨A2, l2, c2, rfl, hlc2, hcm2, hr2, hln2⟩ := open_bytes Try.underlying23 Try.underlying5 (by kernel_rfl) (hval 2 23 v2 rfl rfl) h2
  have hre2 := reach_bytes hsz (j := 2) rfl rfl Try.underlying23 bytes_u8 hln2
  clear hA0 hval0 hsz0
  refine (walk A0 l0 c0 A1 l1 c1 A2 l2 c2 W hlc0 hcm0 hr0 hre0 hlc1 hcm1 hr1 hre1 hlc2 hcm2 hr2 hre2).mono fun e W' ⟨he, bel⟩ => ?_
  subst he
  exact ⟨_, rfl, _, _, _, [], _, [], hW', trodAll_mk1 (shut_bool Try.underlying4 _), (trodAll_cons_mk (Below.trod laidOut (by kernel_rfl) (of_decide_eq_true (by kernel_rfl)) k0 bel lt0) (trodAll_cons_mk (Below.trod laidOut (by kernel_rfl) (of_decide_eq_true (by kernel_rfl)) k1 bel lt1) (trodAll_cons_mk (Below.trod laidOut (by kernel_rfl) (of_decide_eq_true (by kernel_rfl)) k2 bel lt2) trodAll_mk0))), rfl, bel.frame _, fun h => by cases h⟩

theorem over : Rows.crcMixesRow.holds Try.pinned (OpenSpec.ofChange Rows.crcMixesSpec) :=
  OpenClaim.holds_of_wide 8 Try.f8 rfl rfl rfl rfl rfl rfl rfl ⟨rfl, rfl, rfl, rfl, rfl⟩ rfl rfl rfl rfl rfl (by kernel_rfl) Try.func8 (by kernel_rfl)
    (of_decide_eq_true (by kernel_rfl)) (by unfold Func.isWrapper; first | (rw [if_pos (by decide +kernel)]; kernel_rfl) | (rw [if_neg (by decide +kernel)]; exact ⟨rfl, rfl⟩))
    (fun os started H enc _ => lifted os started H enc)

/-- The statement. -/
theorem proved : Rows.CrcMixesSaid := over
#print axioms proved
end Go.Proofs.Ytmnaaffiebighaa.crcMixes
