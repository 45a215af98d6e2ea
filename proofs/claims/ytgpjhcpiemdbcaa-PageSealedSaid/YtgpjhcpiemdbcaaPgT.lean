/- Contract of octavolaw05.awake: the document's example holds; and what page.Pack and page.Open answer, one case at a time. No conditions but those that each theorem names. -/
import Derived.Test.YtgpjhcpiemdbcaaPgC
import Derived.Test.YtgpjhcpiemdbcaaPgS
namespace Go.Proofs.Ytgpjhcpiemdbcaa
open Go.RowKit

theorem pack_yes {no kind : Int} {body : List UInt8} {n : Nat} (h : (mPack no kind body).2 = 0) (W : World) (B : Nat) (A : Option Addr) (c : Nat) (hbn : body.length = n) (hl : n ≤ 9223372036854775807) (hr : Reads W B 1 A body.length (bv body)) :
    Calls Try.prog 9 #[.int .i64 no, .int .i64 kind, .slice A n c] W fun e w' => ∃ g, e = .returned (.tuple #[.slice (some ⟨g, 0, none⟩) 256 256, .int .i64 0]) ∧ W.heap.size ≤ g ∧ Blk w' g 46 (bv (mPack no kind body).1).toArray ∧ Below W.heap.size W w' := by
  subst hbn
  refine Calls.mono (pack_any no kind body A B c W hl hr) ?_
  rintro e w' ⟨⟨h1, -⟩ | ⟨-, g, rfl, hg, hb⟩, hbel⟩
  · exact absurd h h1
  · exact ⟨g, rfl, hg, hb, hbel⟩
theorem pack_not {no kind : Int} {body : List UInt8} {n : Nat} (h : (mPack no kind body).2 ≠ 0) (W : World) (B : Nat) (A : Option Addr) (c : Nat) (hbn : body.length = n) (hl : n ≤ 9223372036854775807) (hr : Reads W B 1 A body.length (bv body)) :
    Calls Try.prog 9 #[.int .i64 no, .int .i64 kind, .slice A n c] W fun e w' => e = .returned (.tuple #[.slice none 0 0, .int .i64 ((mPack no kind body).2 : Int)]) ∧ Below W.heap.size W w' := by
  subst hbn
  refine Calls.mono (pack_any no kind body A B c W hl hr) ?_
  rintro e w' ⟨⟨-, h1⟩ | ⟨h0, -⟩, hbel⟩
  · exact ⟨h1, hbel⟩
  · exact absurd h0 h
theorem mPack_ok {no kind : Int} {body : List UInt8} (h : (mPack no kind body).2 = 0) : pgNo no ∧ pgKind kind ∧ body.length ≤ 244 ∧ mPack no kind body = (pgBytes no.toNat kind.toNat body, 0) := by
  unfold mPack at *
  split at h
  · cases h
  · rename_i h1
    rw [if_neg h1]
    split at h
    · cases h
    · rename_i h2
      rw [if_neg h2]
      rw [not_or] at h1
      exact ⟨Decidable.not_not.1 h1.1, Decidable.not_not.1 h1.2, by omega, rfl⟩
theorem open_yes {no k : Int} {l b : List UInt8} {m n : Nat} (h : mOpen no l = (k, b, 0)) (hb : b.length = m) (W : World) (B : Nat) (A : Option Addr) (c : Nat) (hln : l.length = n) (hl : n ≤ 9223372036854775807) (hr : Reads W B 1 A l.length (bv l)) :
    Calls Try.prog 14 #[.int .i64 no, .slice A n c] W fun e w' => ∃ A' c', e = .returned (.tuple #[.int .i64 k, .slice A' m c', .int .i64 0]) ∧ Own w' W.heap.size (.slice A' m c') b ∧ m ≤ c' ∧ Below W.heap.size W w' := by
  subst hln
  refine Calls.mono (open_any no l A B c W hl hr) ?_
  rintro e w' ⟨⟨h1, -⟩ | ⟨-, v, rfl, ho⟩, hbel⟩
  · rw [h] at h1; exact absurd rfl h1
  · rw [h] at ho ⊢
    have ho' : Own w' W.heap.size v b := ho
    obtain ⟨A', c', rfl, hc, -, -⟩ := ho'.form_n hb
    exact ⟨A', c', rfl, ho', hc, hbel⟩
theorem open_not {no : Int} {l : List UInt8} {n : Nat} (h : (mOpen no l).2.2 ≠ 0) (W : World) (B : Nat) (A : Option Addr) (c : Nat) (hln : l.length = n) (hl : n ≤ 9223372036854775807) (hr : Reads W B 1 A l.length (bv l)) :
    Calls Try.prog 14 #[.int .i64 no, .slice A n c] W fun e w' => e = .returned (.tuple #[.int .i64 0, .slice none 0 0, .int .i64 ((mOpen no l).2.2 : Int)]) ∧ Below W.heap.size W w' := by
  subst hln
  refine Calls.mono (open_any no l A B c W hl hr) ?_
  rintro e w' ⟨⟨-, h1⟩ | ⟨h0, -⟩, hbel⟩
  · exact ⟨h1, hbel⟩
  · exact absurd h0 h
theorem same_n {w : World} {l m : List UInt8} {A A' : Option Addr} (B B' c c' n k : Nat) (hl : l.length = n) (hm : m.length = k) (hln : n ≤ maxLen) (hmk : k ≤ maxLen) (h : Reads w B 1 A l.length (bv l)) (h' : Reads w B' 1 A' m.length (bv m)) :
    Calls Try.prog 12 #[.slice A n c, .slice A' k c'] w fun e w' => e = .returned (.bool (decide (l = m))) ∧ Below w.heap.size w w' := by
  subst hl hm
  exact same_any l m A A' B B' c c' w hln hmk h h'

theorem ex_head : seg (pgBytes 3 2 [7]) 0 8 = [2, 0, 1, 0, 3, 0, 0, 0] := by
  rw [pgBytes_form 3 2 [7] (by decide)]
  generalize pgSum (laidL 3 2 [7]) = s
  have e : digs 2 1 ++ [0] ++ digs ([7] : List UInt8).length 2 ++ digs 3 4 ++ digs s 4 ++ [7] ++ List.replicate (244 - ([7] : List UInt8).length) 0 = [] ++ [2, 0, 1, 0, 3, 0, 0, 0] ++ (digs s 4 ++ [7] ++ List.replicate (244 - ([7] : List UInt8).length) 0) := by
    have e1 : digs 2 1 ++ [0] ++ digs ([7] : List UInt8).length 2 ++ digs 3 4 = [2, 0, 1, 0, 3, 0, 0, 0] := by decide
    rw [e1]
    simp
  rw [e, seg_at _ _ _ 0 8 rfl rfl]
theorem ex_at : (pgBytes 3 2 [7])[12]? = some 7 := by
  rw [pgBytes_form 3 2 [7] (by decide)]
  generalize pgSum (laidL 3 2 [7]) = s
  have h : (digs 2 1 ++ [0] ++ digs ([7] : List UInt8).length 2 ++ digs 3 4 ++ digs s 4).length = 12 := by simp [digs_length]
  rw [List.append_assoc, List.getElem?_append_right (by omega), h]
  rfl
theorem ex_pack : mPack 3 2 [7] = (pgBytes 3 2 [7], 0) := by unfold mPack; rw [if_neg (by decide), if_neg (by decide)]; rfl
theorem ex_open : mOpen 3 (pgBytes 3 2 [7]) = (2, [7], 0) := open_packed 3 2 [7] (by decide) (by decide) (by decide)
theorem ex_other : (mOpen 4 (pgBytes 3 2 [7])).2.2 = 4 := by
  have hl := pgBytes_length 3 2 [7] (by decide)
  have hs := pgBytes_sum 3 2 [7] (by decide)
  have hk := pgBytes_kind 3 2 [7] (by decide) (by decide)
  have hn := pgBytes_len 3 2 [7] (by decide)
  have ho := open_other 3 4 2 [7] (by decide) (by decide) (by decide) (by decide) (by decide)
  unfold mOpen
  rw [if_neg (by decide), if_neg (by rw [hl]; simp), if_neg (by rw [hs]; simp), if_neg (by rw [hk, hn]; decide), if_pos]
  exact ho

theorem reads_7p (w : World) (t : TypeId) : Reads (w.alloc (.cells #[.int .u8 7] t)) (w.alloc (.cells #[.int .u8 7] t)).heap.size 1 (some ⟨w.heap.size, 0, none⟩) ([7] : List UInt8).length (bv [7]) :=
  (reads_new w t [7] 1 rfl).more (by simp)
theorem reads_8p (w : World) (t : TypeId) : Reads (w.alloc (.cells #[.int .u8 2, .int .u8 0, .int .u8 1, .int .u8 0, .int .u8 3, .int .u8 0, .int .u8 0, .int .u8 0] t)) (w.alloc (.cells #[.int .u8 2, .int .u8 0, .int .u8 1, .int .u8 0, .int .u8 3, .int .u8 0, .int .u8 0, .int .u8 0] t)).heap.size 1 (some ⟨w.heap.size, 0, none⟩) ([2, 0, 1, 0, 3, 0, 0, 0] : List UInt8).length (bv [2, 0, 1, 0, 3, 0, 0, 0]) :=
  (reads_new w t [2, 0, 1, 0, 3, 0, 0, 0] 8 rfl).more (by simp)

theorem blk_all {w : World} {g : Nat} {t : TypeId} {l : List UInt8} (hb : Blk w g t (bv l).toArray) : Reads w w.heap.size 1 (some ⟨g, 0, none⟩) l.length (bv l) := by
  have h := blk_part hb 0 l.length (by omega)
  have e : seg l 0 l.length = l := by unfold seg; rw [List.drop_zero, List.take_length]
  rw [e] at h
  exact h
theorem ex_same1 {w1 : World} {g : Nat} {P : List UInt8} (hb : Blk w1 g 46 (bv P).toArray) (hl : P.length = 256) (hh : seg P 0 8 = [2, 0, 1, 0, 3, 0, 0, 0]) :
    Calls Try.prog 12 #[.slice (some ⟨g, 0, none⟩) 8 256, .slice (some ⟨w1.heap.size, 0, none⟩) 8 8] (w1.alloc (.cells #[.int .u8 2, .int .u8 0, .int .u8 1, .int .u8 0, .int .u8 3, .int .u8 0, .int .u8 0, .int .u8 0] 5))
      fun e w' => e = .returned (.bool true) ∧ Below w1.heap.size w1 w' ∧ w'.cell? ⟨g, 12, none⟩ = (bv P)[12]? ∧ Blk w' g 46 (bv P).toArray := by
  have hb2 := hb.alloc (.cells #[.int .u8 2, .int .u8 0, .int .u8 1, .int .u8 0, .int .u8 3, .int .u8 0, .int .u8 0, .int .u8 0] 5)
  refine Calls.mono (same_n (l := seg P 0 8) (m := [2, 0, 1, 0, 3, 0, 0, 0]) _ _ 256 8 8 8 (seg_length P 0 8 (by omega)) rfl (by decide) (by decide) (blk_part hb2 0 8 (by omega)) (reads_8p w1 5)) ?_
  rintro e w' ⟨h1, h2⟩
  rw [decide_eq_true hh] at h1
  have hb3 := hb2.below h2 hb2.lt
  exact ⟨h1, ((Below.refl _ _).alloc (Nat.le_refl _) _).trans (h2.mono (by simp)), by rw [hb3.cell]; simp, hb3⟩
theorem ex_same2 {w3 w4 : World} {base : Nat} {A : Option Addr} {c : Nat} (ho : Own w3 base (.slice A 1 c) [7]) (hb : Below w3.heap.size w3 w4) :
    Calls Try.prog 12 #[.slice A 1 c, .slice (some ⟨w4.heap.size, 0, none⟩) 1 1] (w4.alloc (.cells #[.int .u8 7] 5)) fun e w' => e = .returned (.bool true) ∧ Below w4.heap.size w4 w' := by
  refine Calls.mono (same_n (l := [7]) (m := [7]) _ _ c 1 1 1 rfl rfl (by decide) (by decide) ((ho.below hb).alloc _).reads (reads_7p w4 5)) ?_
  rintro e w' ⟨h1, h2⟩
  rw [decide_eq_true rfl] at h1
  exact ⟨h1, ((Below.refl _ _).alloc (Nat.le_refl _) _).trans (h2.mono (by simp))⟩
set_option maxRecDepth 100000 in
set_option maxHeartbeats 800000 in
theorem awake_any (w : World) : Calls Try.prog 11 #[] w fun e w' => e = .returned (.bool true) ∧ Below w.heap.size w w' := by
  have hp := pack_yes (n := 1) (by rw [ex_pack] : (mPack 3 2 [7]).2 = 0) (w.alloc (.cells #[.int .u8 7] 5)) _ _ 1 rfl (by omega) (reads_7p w 5)
  rw [ex_pack] at hp
  have HP := Lib.hid hp
  have HL := Lib.hid (pgBytes_length 3 2 [7] (by decide))
  have HHead := Lib.hid ex_head
  have HAt : Hid ((bv (pgBytes 3 2 [7]))[12]? = some (.int .u8 7)) := Lib.hid (by simp only [bv, List.getElem?_map, ex_at]; rfl)
  have HO3 := Lib.hid (fun W B c hr => open_yes ex_open (m := 1) rfl W B (A := some c) 256 HL.out (by omega) hr)
  have ho4 := fun W B c hr => open_not (by rw [ex_other]; decide) W B (A := some c) 256 HL.out (by omega) hr
  rw [ex_other, show ((4 : Nat) : Int) = 4 from rfl] at ho4
  have HO4 := Lib.hid ho4
  generalize pgBytes 3 2 [7] = P at *
  clear hp ho4
  go_enter Try.func11, Try.ntmps11
  go_wp2_with (first
    | (go_at_call 9; refine HP.out.mono ?_; rintro e w1 ⟨g, rfl, hg1, hb1, hbel1⟩; have HB1 := Lib.hid hb1; have HBe1 := Lib.hid (((Below.refl w.heap.size w).alloc (Nat.le_refl _) _).trans (hbel1.mono (by simp))); clear hb1 hbel1)
    | (go_at_call 14; have m0 := m1; refine (HO4.out w3 w3.heap.size ⟨g, 0, none⟩ (blk_all HB3.out)).mono ?_; rintro e w4 ⟨rfl, hb4⟩)
    | (go_at_call 14; refine (HO3.out w2 w2.heap.size ⟨g, 0, none⟩ (blk_all HB2.out)).mono ?_; rintro e w3 ⟨A3, c3, rfl, ho3, hc3, hb3⟩; have m1 := trivial; have HB3 := Lib.hid (HB2.out.below hb3 HB2.out.lt); have H3 := Lib.hid ho3; have HBe3 := Lib.hid (HBe2.out.trans (hb3.mono HBe2.out.size)); clear ho3 hb3 hcell)
    | (go_at_call 12; have m0 := m1; refine (ex_same2 H3.out hb4).mono ?_; rintro e w5 ⟨rfl, hb5⟩)
    | (go_at_call 12; refine (ex_same1 HB1.out HL.out HHead.out).mono ?_; rintro e w2 ⟨rfl, hb2, hcell, hblk⟩; rw [HAt.out] at hcell; have HB2 := Lib.hid hblk; have HBe2 := Lib.hid (HBe1.out.trans (hb2.mono HBe1.out.size)); clear hb2 hblk)
    | fail)
  go_ret
  exact ⟨rfl, (HBe3.out.trans (hb4.mono HBe3.out.size)).trans (hb5.mono (Nat.le_trans HBe3.out.size hb4.size))⟩
/-! What Pack answers, either way, as a slice that reads. -/
theorem pack_read (no kind : Int) (body : List UInt8) (W : World) (B : Nat) (A : Option Addr) (c : Nat) (hl : body.length ≤ 9223372036854775807) (hr : Reads W B 1 A body.length (bv body)) :
    Calls Try.prog 9 #[.int .i64 no, .int .i64 kind, .slice A body.length c] W fun e w' => ∃ A' c', e = .returned (.tuple #[.slice A' (mPack no kind body).1.length c', .int .i64 ((mPack no kind body).2 : Int)]) ∧
      Reads w' w'.heap.size 1 A' (mPack no kind body).1.length (bv (mPack no kind body).1) ∧ Below W.heap.size W w' := by
  by_cases h : (mPack no kind body).2 = 0
  · refine Calls.mono (pack_yes h W B A c rfl hl hr) ?_
    rintro e w' ⟨g, rfl, hg, hb, hbel⟩
    obtain ⟨h1, h2, h3, h4⟩ := mPack_ok h
    have hlen : (mPack no kind body).1.length = 256 := by rw [h4]; exact pgBytes_length _ _ _ h3
    refine ⟨some ⟨g, 0, none⟩, 256, ?_, blk_all hb, hbel⟩
    rw [hlen, h]
    rfl
  · have h1 : (mPack no kind body).1 = [] := by
      unfold mPack at *
      split
      · rfl
      · split
        · rfl
        · rename_i h2 h3
          rw [if_neg h2, if_neg h3] at h
          exact absurd rfl h
    refine Calls.mono (pack_not h W B A c rfl hl hr) ?_
    rintro e w' ⟨rfl, hbel⟩
    rw [h1]
    exact ⟨none, 0, rfl, Reads.none_, hbel⟩
theorem refPack_read (no kind : Int) (body : List UInt8) (W : World) (B : Nat) (A : Option Addr) (c : Nat) (hno : -9223372036854775808 ≤ no ∧ no ≤ 9223372036854775807) (hr : Reads W B 1 A body.length (bv body)) :
    Calls Try.prog 10 #[.int .i64 no, .int .i64 kind, .slice A body.length c] W fun e w' => ∃ A' c', e = .returned (.tuple #[.slice A' (mPack no kind body).1.length c', .int .i64 ((mPack no kind body).2 : Int)]) ∧
      Reads w' w'.heap.size 1 A' (mPack no kind body).1.length (bv (mPack no kind body).1) ∧ Below W.heap.size W w' := by
  refine Calls.mono (refPack_any no kind body A B c W hno hr) ?_
  rintro e w' ⟨v, rfl, ho, hb⟩
  obtain ⟨A', c', rfl, -, -, hr', -⟩ := ho.form
  exact ⟨A', c', rfl, hr', hb⟩
theorem mPack_len (no kind : Int) (body : List UInt8) : (mPack no kind body).1.length ≤ 256 := by
  unfold mPack
  split
  · simp
  · split
    · simp
    · rw [pgBytes_length _ _ _ (by omega)]
      omega
theorem open_read (no : Int) (l : List UInt8) (W : World) (B : Nat) (A : Option Addr) (c : Nat) (hl : l.length ≤ 9223372036854775807) (hr : Reads W B 1 A l.length (bv l)) :
    Calls Try.prog 14 #[.int .i64 no, .slice A l.length c] W fun e w' => ∃ A' c', e = .returned (.tuple #[.int .i64 (mOpen no l).1, .slice A' (mOpen no l).2.1.length c', .int .i64 ((mOpen no l).2.2 : Int)]) ∧
      Own w' W.heap.size (.slice A' (mOpen no l).2.1.length c') (mOpen no l).2.1 ∧ Below W.heap.size W w' := by
  refine Calls.mono (open_any no l A B c W hl hr) ?_
  rintro e w' ⟨⟨h1, rfl⟩ | ⟨h0, v, rfl, ho⟩, hbel⟩
  · obtain ⟨h2, h3⟩ := mOpen_zero h1
    rw [h2, h3]
    exact ⟨none, 0, rfl, own_none _ _, hbel⟩
  · have ho' : Own w' W.heap.size v (mOpen no l).2.1 := ho
    obtain ⟨A', c', rfl, -, -, -, -⟩ := ho'.form
    rw [h0]
    exact ⟨A', c', rfl, ho', hbel⟩
theorem refOpen_read (no : Int) (l : List UInt8) (W : World) (B : Nat) (A : Option Addr) (c : Nat) (hno : -9223372036854775808 ≤ no ∧ no ≤ 9223372036854775807) (hlc : l.length ≤ c) (hr : Reads W B 1 A l.length (bv l)) :
    Calls Try.prog 15 #[.int .i64 no, .slice A l.length c] W fun e w' => ∃ A' c', e = .returned (.tuple #[.int .i64 (mOpen no l).1, .slice A' (mOpen no l).2.1.length c', .int .i64 ((mOpen no l).2.2 : Int)]) ∧
      Own w' W.heap.size (.slice A' (mOpen no l).2.1.length c') (mOpen no l).2.1 ∧ Below W.heap.size W w' := by
  refine Calls.mono (refOpen_any no l A B c W hno hlc hr) ?_
  rintro e w' ⟨v, rfl, ho, hb⟩
  obtain ⟨A', c', rfl, -, -, -, -⟩ := ho.form
  exact ⟨A', c', rfl, ho, hb⟩
theorem mOpen_len (no : Int) (l : List UInt8) : (mOpen no l).2.1.length ≤ 244 := by
  by_cases h : (mOpen no l).2.2 = 0
  · obtain ⟨_, h1, _, _, h2, _, h3⟩ := mOpen_ok h
    rw [h3]
    show (pgBody l).length ≤ 244
    rw [pgBody_length h1 h2]
    exact h2
  · rw [(mOpen_zero h).2]
    simp
end Go.Proofs.Ytgpjhcpiemdbcaa
