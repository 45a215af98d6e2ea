/- Contracts of octavoref03.put and marks: all ends of two lists, rising. Conditions: the slices read as the lists that are named and are short. -/
import Derived.Test.YtfdmbgaincmefaaRngA
import Derived.Test.YtfdmbgaincmefaaRngMix
import Derived.Test.YtfdmbgaincmefaaFresh
import Derived.Deep.LoopGhost
import Derived.Laws.MakeOwn
import Derived.Deep.RegionHeld3
import Derived.StillTactics
namespace Go.Proofs.Ytfdmbgaincmefaa
open Go.RowKit

/-- Numbers as cells. -/
def iv (l : List Int) : List Value := l.map fun n => .int .i64 n
theorem iv_length (l : List Int) : (iv l).length = l.length := by simp [iv]
theorem iv_append (l m : List Int) : iv (l ++ m) = iv l ++ iv m := by simp [iv]
theorem iv_get (l : List Int) (k : Nat) (h : k < l.length) : (iv l)[k]? = some (.int .i64 l[k]) := by
  simp [iv, List.getElem?_map, List.getElem?_eq_getElem h]
theorem intinfo : (Try.prog.info? 3).map (fun i => (i.zero, i.size, i.bytes)) = some (some (.int .i64 0), 1, 8) := by kernel_rfl

theorem one_int (x : Int) : ∀ u ∈ [Value.int .i64 x], u.oneCell' = true := by intro u hu; simp at hu; subst hu; rfl
theorem room_63 {n : Nat} (h : n ≤ 1099511627780) : n + 1 ≤ maxLen := by unfold maxLen; omega
theorem room_47 {n : Nat} (h : n ≤ 1099511627780) : (n + 1) * 8 ≤ 140737488355328 := by omega
theorem alloc_le {B : Nat} {w : World} (h : B ≤ w.heap.size) (o : Obj) : B ≤ (w.alloc o).heap.size := by simp; omega

theorem putTo_take (n : Int) (l : List Int) (k : Nat) (h : k < l.length) : putTo n (l.take (k + 1)) = putStep n (putTo n (l.take k)) l[k] := by
  rw [List.take_succ_eq_append_getElem h, putTo_snoc]
theorem putTo_len (n : Int) (l : List Int) : (putTo n l).1.length ≤ l.length + 1 ∧ ((putTo n l).2 = false → (putTo n l).1.length = l.length) := by
  refine snoc_induct (P := fun l => (putTo n l).1.length ≤ l.length + 1 ∧ ((putTo n l).2 = false → (putTo n l).1.length = l.length)) ?_ ?_ l
  · exact ⟨by simp [putTo], fun _ => rfl⟩
  · intro l x ⟨i1, i2⟩
    rw [putTo_snoc]
    unfold putStep
    split
    · rename_i h
      refine ⟨?_, fun h => (by simp at h)⟩
      have := i2 h.2
      simp only [List.length_append, List.length_cons, List.length_nil]
      omega
    · exact ⟨by simp only [List.length_append, List.length_cons, List.length_nil]; omega, fun h => by have := i2 h; simp only [List.length_append, List.length_cons, List.length_nil]; omega⟩
theorem putL_len (l : List Int) (n : Int) : (putL l n).length ≤ l.length + 1 := by
  unfold putL
  have h := putTo_len n l
  split
  · omega
  · split
    · exact h.1
    · rename_i hd
      have := h.2 (by simpa using hd)
      simp only [List.length_append, List.length_cons, List.length_nil]
      omega

/-- What put answers: a slice that reads as the list with the number in it. -/
def PutAt (w : World) (l : List Int) (n : Int) (e : Ending) (w' : World) : Prop :=
  ∃ A c, e = .returned (.slice A (putL l n).length c) ∧ Reads w' w'.heap.size 1 A (putL l n).length (iv (putL l n)) ∧ Below w.heap.size w w'

set_option maxHeartbeats 1600000 in
theorem put_any (l : List Int) (n : Int) (A : Option Addr) (B c : Nat) (w : World) (hl : l.length ≤ 1099511627776) (h : Reads w B 1 A l.length (iv l)) :
    Calls Try.prog 36 #[.slice A l.length c, .int .i64 n] w fun e w' => PutAt w l n e w' := by
  obtain ⟨i0, hi0, hz0, hz1, hz2⟩ := info_parts intinfo
  by_cases hn0 : n < 0
  · have HP : Hid (putL l n = l) := by show _ = _; unfold putL; rw [if_pos (.inl hn0)]
    have HR := Lib.hid h
    clear h
    go_enter Try.func36, Try.ntmps36
    go_wp2
    go_ret
    unfold PutAt
    rw [HP.out]
    exact ⟨A, c, rfl, HR.out.here2, Below.refl _ _⟩
  · go_enter Try.func36, Try.ntmps36
    go_wp2
    go_loopw [5, 6, 7] (fun v d i wr => ∃ (k m : Nat) (db : Bool), k ≤ l.length ∧ m ≤ k + 1 ∧ i = .int .i64 k ∧ d = .bool db ∧ Hid (db = (putTo n (l.take k)).2) ∧ Hid (m = (putTo n (l.take k)).1.length) ∧ Hid (n ∉ l.take k) ∧
        wr.ownsRow w.heap.size 3 1 v m (iv (putTo n (l.take k)).1) ∧ Below w.heap.size w wr) (fun _ _ i _ => l.length - (intOf i).toNat)
    case atStart => exact ⟨0, 0, false, Nat.zero_le _, by omega, rfl, rfl, rfl, rfl, by simp [Hid], own_nil _ _ _ _, Below.refl _ _⟩
    case round =>
      obtain ⟨k, m, db, hk, hm, rfl, rfl, HD, HM, HN, hown, hbel⟩ := hrel
      by_cases hlt : k < l.length
      · obtain ⟨b, off, rfl, hbB, hc⟩ := (h.here2.below hbel).form (by omega)
        have hx := hc k _ (iv_get l k hlt)
        have hi : (k : Int) < (l.length : Int) := by omega
        have hbs := hbel.size
        have HT := Lib.hid (putTo_take n l k hlt)
        have HMem : Hid (l[k] = n → n ∈ l) := Lib.hid (fun e => e ▸ List.getElem_mem hlt)
        have HN1 : Hid (l[k] ≠ n → n ∉ l.take (k + 1)) := Lib.hid (fun e => by
          rw [List.take_succ_eq_append_getElem hlt]
          simp only [List.mem_append, List.mem_singleton, not_or]
          exact ⟨HN.out, fun e' => e e'.symm⟩)
        have hlen := putTo_len n (l.take (k + 1))
        rw [List.length_take, Nat.min_eq_left (by omega)] at hlen
        have HLen := Lib.hid hlen.1
        have HML : Hid (db = false → m = k) := Lib.hid (fun e => by
          have h2 := (putTo_len n (l.take k)).2 (by rw [← HD.out]; exact e)
          rw [List.length_take, Nat.min_eq_left hk] at h2
          rw [HM.out]; exact h2)
        clear hc hlen
        generalize hxx : l[k] = x at *
        have HX := Lib.hid hxx
        clear hxx
        by_cases hxn : x = n
        · have HP : Hid (putL l n = l) := by show _ = _; unfold putL; rw [if_pos (.inr (HMem.out hxn))]
          have HR := Lib.hid h
          have HB := Lib.hid hbel
          have hb : (x == n) = true := by rw [beq_iff_eq]; exact hxn
          clear h hbel hown hxn
          go_wp2
          go_ret
          unfold PutAt
          rw [HP.out]
          exact ⟨_, c, rfl, (HR.out.here2.below HB.out).here2, HB.out⟩
        · have hb : (x == n) = false := by rw [beq_eq_false_iff_ne]; exact hxn
          have HN2 := Lib.hid (HN1.out hxn)
          clear hxn HN1 HMem
          by_cases hgt : n < x ∧ db = false
          · obtain ⟨hgt, rfl⟩ := hgt
            have HS : Hid (putTo n (l.take (k + 1)) = ((putTo n (l.take k)).1 ++ [n] ++ [x], true)) := by
              show _ = _
              rw [HT.out, putStep, if_pos ⟨hgt, HD.out.symm⟩]
            have HR := Lib.hid h
            have HB := Lib.hid hbel
            have HO := Lib.hid hown
            clear h hbel hown HT
            go_wp2_with (at_builtin; refine wpList_append_own _ rfl (.tmp 34) (.tmp 36) 38 rfl w.heap.size 3 i0 (.int .i64 0) 1 8 Try.underlying38 hi0 hz0 hz1 hz2 rfl (by decide) u5 m _ rfl (HO.out.alloc _) ⟨wr.heap.size, 0, none⟩ 1 1 [.int .i64 n] rfl rfl (cells_new _ _ _) (one_int n) (room_63 (by omega)) (room_47 (by omega)) (alloc_le hbs _) ?_)
            intro v1 w1 hown1 hg1 _
            have hb1 := (HB.out.alloc hbs (.cells #[.int .i64 n] 3)).grown hg1 (by simp; omega) (own_ge HO.out)
            obtain ⟨b1, off1, e1, hbB1, hc1⟩ := (HR.out.here2.below hb1).form (by omega)
            obtain ⟨rfl, rfl⟩ : b1 = b ∧ off1 = off := by simpa using e1.symm
            have hx1 := hc1 k _ (iv_get l k hlt)
            rw [HX.out] at hx1
            have HO1 := Lib.hid hown1
            have HB1 := Lib.hid hb1
            have hbs1 := hb1.size
            clear hown1 hb1 hg1 e1 hc1 hx HO HB
            go_wp2_with (at_builtin; refine wpList_append_own _ rfl (.tmp 38) (.tmp 43) 38 rfl w.heap.size 3 i0 (.int .i64 0) 1 8 Try.underlying38 hi0 hz0 hz1 hz2 rfl (by decide) v1 (m + 1) _ rfl (HO1.out.alloc _) ⟨w1.heap.size, 0, none⟩ 1 1 [.int .i64 x] rfl rfl (cells_new _ _ _) (one_int x) (room_63 (by omega)) (room_47 (by omega)) (alloc_le hbs1 _) ?_)
            intro v2 w2 hown2 hg2 _
            have HO2 := Lib.hid hown2
            have HB2 := Lib.hid ((HB1.out.alloc hbs1 (.cells #[.int .i64 x] 3)).grown hg2 (by simp; omega) (own_ge HO1.out))
            clear hown2 hg2 HO1 HB1 hx1
            go_wp2
            go_roundw
            case rel =>
              refine ⟨k + 1, m + 1 + 1, true, by omega, by have := HML.out (by first | rfl | trivial); omega, by go_num, rfl, ?_, ?_, HN2, ?_, HB2.out⟩
              · show _ = _; rw [HS.out]
              · show _ = _; rw [HS.out]; simp [HM.out]
              · rw [HS.out, iv_append, iv_append, List.append_assoc]; exact HO2.out
            case measure => simp [intOf]; omega
          · have HS : Hid (putTo n (l.take (k + 1)) = ((putTo n (l.take k)).1 ++ [x], (putTo n (l.take k)).2)) := by
              show _ = _
              rw [HT.out, putStep, if_neg (by rw [← HD.out]; exact hgt)]
            have hdec : n < x ∧ db = true ∨ x ≤ n := by
              rcases Int.lt_or_le n x with h1 | h1
              · left
                refine ⟨h1, ?_⟩
                rcases db with _ | _
                · exact absurd ⟨h1, rfl⟩ hgt
                · rfl
              · exact .inr h1
            have HR := Lib.hid h
            have HB := Lib.hid hbel
            have HO := Lib.hid hown
            clear h hbel hown HT hgt
            rcases hdec with ⟨hgt, rfl⟩ | hle
            all_goals
              go_wp2_with (at_builtin; refine wpList_append_own _ rfl (.tmp 38) (.tmp 43) 38 rfl w.heap.size 3 i0 (.int .i64 0) 1 8 Try.underlying38 hi0 hz0 hz1 hz2 rfl (by decide) u5 m _ rfl (HO.out.alloc _) ⟨wr.heap.size, 0, none⟩ 1 1 [.int .i64 x] rfl rfl (cells_new _ _ _) (one_int x) (room_63 (by omega)) (room_47 (by omega)) (alloc_le hbs _) ?_)
              intro v1 w1 hown1 hg1 _
              have HO1 := Lib.hid hown1
              have HB1 := Lib.hid ((HB.out.alloc hbs (.cells #[.int .i64 x] 3)).grown hg1 (by simp; omega) (own_ge HO.out))
              clear hown1 hg1 HO HB hx
              go_wp2
              go_roundw
              case rel =>
                refine ⟨k + 1, m + 1, _, by omega, by omega, by go_num, rfl, ?_, ?_, HN2, ?_, HB1.out⟩
                · show _ = _; rw [HS.out]; exact HD.out
                · show _ = _; rw [HS.out]; simp [HM.out]
                · rw [HS.out, iv_append]; exact HO1.out
              case measure => simp [intOf]; omega
      · obtain rfl : k = l.length := by omega
        have hn := HN.out
        have hd := HD.out
        have hmm := HM.out
        rw [List.take_length] at hown hn hd hmm
        have hcond : ¬ (n < 0 ∨ n ∈ l) := fun hh => hh.elim (fun h1 => by omega) hn
        have hbs := hbel.size
        have HB := Lib.hid hbel
        have HO := Lib.hid hown
        have HMM := Lib.hid hmm
        rcases db with _ | _
        · have HP : Hid (putL l n = (putTo n l).1 ++ [n]) := by
            show _ = _
            unfold putL
            rw [if_neg hcond, if_neg (by rw [← hd]; simp)]
          clear hcond hn hd hmm hbel hown HN HD HM
          go_wp2_with (at_builtin; refine wpList_append_own _ rfl (.tmp 47) (.tmp 49) 38 rfl w.heap.size 3 i0 (.int .i64 0) 1 8 Try.underlying38 hi0 hz0 hz1 hz2 rfl (by decide) u5 m _ rfl (HO.out.alloc _) ⟨wr.heap.size, 0, none⟩ 1 1 [.int .i64 n] rfl rfl (cells_new _ _ _) (one_int n) (room_63 (by omega)) (room_47 (by omega)) (alloc_le hbs _) ?_)
          intro v1 w1 hown1 hg1 _
          have hb1 := (HB.out.alloc hbs (.cells #[.int .i64 n] 3)).grown hg1 (by simp; omega) (own_ge HO.out)
          obtain ⟨A1, c1, rfl, _, _, hr1, _⟩ := own_form hown1
          have HR1 := Lib.hid hr1
          have HB1 := Lib.hid hb1
          clear hown1 hb1 hg1 hr1
          go_wp2
          go_ret
          unfold PutAt
          rw [HP.out, iv_append, List.length_append, ← HMM.out]
          exact ⟨A1, c1, rfl, HR1.out, HB1.out⟩
        · have HP : Hid (putL l n = (putTo n l).1) := by
            show _ = _
            unfold putL
            rw [if_neg hcond, if_pos hd.symm]
          obtain ⟨A1, c1, rfl, _, _, hr1, _⟩ := own_form HO.out
          have HR1 := Lib.hid hr1
          clear hcond hn hd hmm hbel hown HN HD HM hr1 HO
          go_wp2
          go_ret
          unfold PutAt
          rw [HP.out, ← HMM.out]
          exact ⟨A1, c1, rfl, HR1.out, HB.out⟩
end Go.Proofs.Ytfdmbgaincmefaa
