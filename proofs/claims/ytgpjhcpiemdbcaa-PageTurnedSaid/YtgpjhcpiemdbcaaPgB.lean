/- Contract of page.Pack: for every number, kind and body the page that the document says, or its refusal. Conditions: the body reads as the list that is named. -/
import Derived.Test.YtgpjhcpiemdbcaaPgA
namespace Go.Proofs.Ytgpjhcpiemdbcaa
open Go.RowKit
attribute [local go_sem ↓] Go.wp_at_zero Go.wp_at_succ

def PackAt (no kind : Int) (body : List UInt8) (w : World) (e : Ending) (w' : World) : Prop :=
  ((mPack no kind body).2 ≠ 0 ∧ e = .returned (.tuple #[.slice none 0 0, .int .i64 ((mPack no kind body).2 : Int)]) ∨
   (mPack no kind body).2 = 0 ∧ ∃ g, e = .returned (.tuple #[.slice (some ⟨g, 0, none⟩) 256 256, .int .i64 0]) ∧ w.heap.size ≤ g ∧ Blk w' g 46 (bv (mPack no kind body).1).toArray) ∧ Below w.heap.size w w'
theorem pack_bad {no kind : Int} {body : List UInt8} {w w' : World} {n : Nat} (h : mPack no kind body = ([], n)) (hn : n ≠ 0) (hb : Below w.heap.size w w') : PackAt no kind body w (.returned (.tuple #[.slice none 0 0, .int .i64 (n : Int)])) w' := by
  refine ⟨.inl ⟨?_, ?_⟩, hb⟩
  · rw [h]; exact hn
  · rw [h]
theorem pack_good {no kind : Int} {body : List UInt8} {w w' : World} {g : Nat} {l : List UInt8} (h : mPack no kind body = (l, 0)) (hg : w.heap.size ≤ g) (hk : Blk w' g 46 (bv l).toArray) (hb : Below w.heap.size w w') : PackAt no kind body w (.returned (.tuple #[.slice (some ⟨g, 0, none⟩) 256 256, .int .i64 0])) w' := by
  refine ⟨.inr ⟨?_, g, rfl, hg, ?_⟩, hb⟩
  · rw [h]
  · rw [h]; exact hk

set_option maxRecDepth 100000 in
set_option maxHeartbeats 800000 in
theorem pack_any (no kind : Int) (body : List UInt8) (A : Option Addr) (B c : Nat) (w : World) (hl : body.length ≤ 9223372036854775807) (hr : Reads w B 1 A body.length (bv body)) :
    Calls Try.prog 9 #[.int .i64 no, .int .i64 kind, .slice A body.length c] w fun e w' => PackAt no kind body w e w' := by
  have HN := Lib.hid (fun W => isNumber_any no W)
  have HK := Lib.hid (fun W => isKind_any kind W)
  by_cases hn : pgNo no
  · rw [decide_eq_true hn] at HN
    by_cases hk : pgKind kind
    · rw [decide_eq_true hk] at HK
      by_cases hb : body.length ≤ 244
      · have hp : mPack no kind body = (pgBytes no.toNat kind.toNat body, 0) := by unfold mPack; rw [if_neg (by simp [hn, hk]), if_neg (by omega)]
        obtain ⟨hz, hz2⟩ := zero_of_info zero_page
        have hla := laid_any no.toNat kind.toNat body A B c w (by have := hn.2; omega) (by have := hk.2; omega) hb hr
        rw [Int.toNat_of_nonneg hn.1, Int.toNat_of_nonneg (by have := hk.1; omega)] at hla
        have HLa := Lib.hid hla
        have hL := laidL_length no.toNat kind.toNat body hb
        unfold pgBytes at hp
        generalize laidL no.toNat kind.toNat body = L at *
        have hsum := pgSum_lt L
        have HSum := Lib.hid (fun g W hW => sum_any g 46 L W hW hL)
        have HSet := Lib.hid (fun g W hW => setInt_at 8 12 g 8 12 (pgSum L) 46 L W rfl rfl hW hL (by omega) (by omega) (by omega) (by omega) (by omega))
        generalize pgSum L = s at *
        have HP := Lib.hid hp
        have hbl : (body.length : Int) ≤ 244 := by omega
        have hsc : ∀ W : World, (storeCells ⟨W.heap.size, 0, none⟩ (bv L) 0).run Try.prog (W.alloc (.cells (bv zeroPage).toArray 46)) = .ok () (W.alloc (.cells (bv L).toArray 46)) := fun W => by
          have := run_storeCells_new (P := Try.prog) W 46 (bv zeroPage).toArray (bv L).toArray (by rw [bv_size, hL]; exact hz2) (by rw [bv_size, bv_size, hL]; rfl) (bv_all _)
          simpa using this
        have hbL : (bv L).length = 256 := by rw [bv_length, hL]
        clear hn hk hb hla hz2 hp hL
        go_enter Try.func9, Try.ntmps9
        go_wp2_with (first
          | (go_at_call 20; refine (HN.out _).mono ?_; rintro e w1 ⟨rfl, rfl⟩)
          | (go_at_call 21; refine (HK.out _).mono ?_; rintro e w1 ⟨rfl, rfl⟩)
          | (go_at_call 22; refine HLa.out.mono ?_; rintro e w2 ⟨rfl, hb2⟩)
          | (go_at_call 23; refine (HSet.out _ _ ((Blk.new w2 _ _).below hb3 (by simp))).mono ?_; rintro e w4 ⟨rfl, hb4, ho4⟩)
          | (go_at_call 24; refine (HSum.out _ _ (Blk.new w2 _ _)).mono ?_; rintro e w3 ⟨rfl, hb3⟩)
          | fail)
        go_ret2
        have hs2 := hb2.size
        have h3 : Below w.heap.size w w3 := (hb2.alloc hs2 _).trans (hb3.mono (by simp; omega))
        exact pack_good HP.out hs2 hb4 (h3.trans (ho4.below (fun k hk => by omega) h3.size))
      · have hp : mPack no kind body = ([], 10) := by unfold mPack; rw [if_neg (by simp [hn, hk]), if_pos (by omega)]
        have HP := Lib.hid hp
        have hbl : (244 : Int) < (body.length : Int) := by omega
        clear hn hk hb hp
        go_enter Try.func9, Try.ntmps9
        go_wp2_with (first
          | (go_at_call 20; refine (HN.out _).mono ?_; rintro e w1 ⟨rfl, rfl⟩)
          | (go_at_call 21; refine (HK.out _).mono ?_; rintro e w1 ⟨rfl, rfl⟩)
          | fail)
        go_ret2
        exact pack_bad HP.out (by decide) (Below.refl _ _)
    · have hp : mPack no kind body = ([], 1) := by unfold mPack; rw [if_pos (by simp [hk])]
      have HP := Lib.hid hp
      rw [decide_eq_false hk] at HK
      clear hn hk hp
      go_enter Try.func9, Try.ntmps9
      go_wp2_with (first
        | (go_at_call 20; refine (HN.out _).mono ?_; rintro e w1 ⟨rfl, rfl⟩)
        | (go_at_call 21; refine (HK.out _).mono ?_; rintro e w1 ⟨rfl, rfl⟩)
        | fail)
      go_ret2
      exact pack_bad HP.out (by decide) (Below.refl _ _)
  · have hp : mPack no kind body = ([], 1) := by unfold mPack; rw [if_pos (by simp [hn])]
    have HP := Lib.hid hp
    rw [decide_eq_false hn] at HN
    clear hn hp
    go_enter Try.func9, Try.ntmps9
    go_wp2_with (first
      | (go_at_call 20; refine (HN.out _).mono ?_; rintro e w1 ⟨rfl, rfl⟩)
      | fail)
    go_ret2
    exact pack_bad HP.out (by decide) (Below.refl _ _)
end Go.Proofs.Ytgpjhcpiemdbcaa
