/- Contracts of octavoref01.Pick, octavolaw04's full and bytes. Conditions: bounds. -/
import Derived.Test.YtoihkanneiknkaaCopy
import Derived.Deep.LoopGhost
import Derived.Lib.Hide
import Derived.IntWalk
namespace Go.Proofs.Ytoihkanneiknkaa
open Go.RowKit

set_option maxHeartbeats 800000 in
theorem pick_any (x n : Int) (w : World) (hn : 1 ≤ n ∧ n ≤ 1152921504606846976) :
    Calls Try.prog 14 #[.int .i64 x, .int .i64 n] w fun e w' => e = .returned (.int .i64 (x % n)) ∧ w = w' := by
  have ht : Int.tmod x n = x % n ∨ Int.tmod x n = x % n - n ∧ 0 < x % n := by
    rw [Int.tmod_eq_emod]
    split
    · left; omega
    · rename_i h
      right
      have h1 := Int.emod_nonneg x (show n ≠ 0 by omega)
      have h2 : x % n ≠ 0 := fun e => h (.inr (Int.dvd_of_emod_eq_zero e))
      omega
  have h1 := Int.emod_nonneg x (show n ≠ 0 by omega)
  have h2 := Int.emod_lt_of_pos x (show 0 < n by omega)
  obtain ⟨hn1, hn2⟩ := hn
  generalize hr : x % n = r at *
  clear hr
  have hn0 : n ≠ 0 := by omega
  rcases ht with ht | ⟨ht, hp⟩
  · have h3 : (0 : Int) ≤ r := h1
    go_enter Try.func14, Try.ntmps14
    go_wp2
    go_ret
    exact ⟨rfl, rfl⟩
  · have h3 : r - n < 0 := by omega
    have h4 : r - n + n = r := by omega
    go_enter Try.func14, Try.ntmps14
    go_wp2
    go_ret
    exact ⟨rfl, rfl⟩

theorem rep_succ (x : UInt8) (k : Nat) : bv (List.replicate (k + 1) x) = bv (List.replicate k x) ++ [.int .u8 (x.toNat : Int)] := by
  rw [List.replicate_succ']
  simp [bv]
set_option maxHeartbeats 800000 in
theorem full_any (n : Nat) (x : UInt8) (w : World) (hn : n ≤ 140737488355328) :
    Calls Try.prog 13 #[.int .i64 n, .int .u8 (x.toNat : Int)] w fun e w' => ∃ v, e = .returned v ∧ w'.ownsRow w.heap.size 5 1 v n (bv (List.replicate n x)) ∧ Below w.heap.size w w' := by
  obtain ⟨i0, hi0, hz0, hz1, hz2⟩ := info_parts u8info
  have HX := Lib.hid (rep_succ x)
  generalize hx : x.toNat = y at *
  clear hx
  go_enter Try.func13, Try.ntmps13
  go_wp2
  go_loopw [5, 6] (fun v i wr => ∃ k : Nat, k ≤ n ∧ i = .int .i64 k ∧ wr.ownsRow w.heap.size 5 1 v k (bv (List.replicate k x)) ∧ Below w.heap.size w wr) (fun _ i _ => n - (intOf i).toNat)
  case atStart => exact ⟨0, Nat.zero_le _, rfl, own_nil _ _ _ _, Below.refl _ _⟩
  case round =>
    obtain ⟨k, hk, rfl, hown, hbel⟩ := hrel
    by_cases hlt : k < n
    · have hi : (k : Int) < (n : Int) := by omega
      have hbs := hbel.size
      go_wp2_with (at_builtin; refine wpList_append_own _ rfl _ _ 41 rfl w.heap.size 5 i0 (.int .u8 0) 1 1 Try.underlying41 hi0 hz0 hz1 hz2 rfl (by decide) _ _ _ rfl (hown.alloc _) ⟨wr.heap.size, 0, none⟩ 1 1 [.int .u8 y] rfl rfl ?c1 ?c2 ?c3 ?c4 ?c5 ?_)
      case c1 => exact cell_one_new _ _ _
      case c2 => intro u hu; simp at hu; subst hu; rfl
      case c3 => unfold maxLen; omega
      case c4 => omega
      case c5 => simp; omega
      intro v' w1 hown' hgrow _
      go_wp2
      go_roundw
      case rel =>
        refine ⟨k + 1, by omega, by go_num, ?_, (hbel.alloc (by omega) _).grown hgrow (by simp; omega) (own_ge hown)⟩
        rw [HX.out]
        exact hown'
      case measure => simp [intOf]; omega
    · obtain rfl : k = n := by omega
      clear hlt
      go_wp2
      go_ret
      exact ⟨_, rfl, hown, hbel⟩
/-- A call, as the law has it. -/
structure Cl where
  kind : Int
  name : ByteArray
  n : Int
  len : Int
  x : UInt8
  picks : List Int
def Cl.enc (c : Cl) (pv : Value) : Value := .agg #[.int .i64 c.kind, .string c.name, .int .i64 c.n, .int .i64 c.len, .int .u8 (c.x.toNat : Int), pv]
/-- The first k bytes of a call. -/
def Cl.upTo (c : Cl) (k : Nat) : List UInt8 := (List.range k).map fun i => c.x + UInt8.ofNat (i / 64)
def Cl.bytes (c : Cl) : List UInt8 := c.upTo (c.len % 400).toNat
theorem Cl.upTo_length (c : Cl) (k : Nat) : (c.upTo k).length = k := by simp [Cl.upTo]
theorem Cl.bytes_length (c : Cl) : c.bytes.length ≤ 399 := by
  unfold Cl.bytes
  rw [c.upTo_length]
  omega
theorem Cl.upTo_succ (c : Cl) (k : Nat) : bv (c.upTo (k + 1)) = bv (c.upTo k) ++ [.int .u8 ((c.x + UInt8.ofNat (k / 64)).toNat : Int)] := by
  simp [Cl.upTo, bv, List.range_succ]

set_option maxRecDepth 100000 in
set_option maxHeartbeats 800000 in
theorem bytes_any (cl : Cl) (pv : Value) (w : World) :
    Calls Try.prog 22 #[cl.enc pv] w fun e w' => ∃ v, e = .returned v ∧ w'.ownsRow (w.heap.size + 1) 5 1 v cl.bytes.length (bv cl.bytes) ∧ Below w.heap.size w w' := by
  obtain ⟨i0, hi0, hz0, hz1, hz2⟩ := info_parts u8info
  have HX := Lib.hid cl.upTo_succ
  obtain ⟨n, hn⟩ : ∃ n : Nat, n = (cl.len % 400).toNat := ⟨_, rfl⟩
  have hn4 : n < 400 := by omega
  have hni : cl.len % 400 = (n : Int) := by omega
  have HB : Hid (cl.bytes = cl.upTo n) := Lib.hid (by rw [hn]; rfl)
  have HBl : Hid (cl.bytes.length = n) := Lib.hid (by rw [HB.out, cl.upTo_length])
  have HV : Hid (∀ k : Nat, k < 400 → IntKind.u8.wrap ((cl.x.toNat : Int) + ((k / 64 : Nat) : Int)) = ((cl.x + UInt8.ofNat (k / 64)).toNat : Int)) := Lib.hid (fun k hk => by
    have h1 : k / 64 < 256 := by omega
    rw [UInt8.toNat_add, UInt8.toNat_ofNat']
    have h2 := cl.x.toNat_lt
    show ((cl.x.toNat : Int) + ((k / 64 : Nat) : Int)) % 256 = _
    omega)
  have HPk := Lib.hid (fun W => pick_any cl.len 400 W (by omega))
  rw [hni] at HPk
  unfold Cl.enc
  clear hn hni
  generalize hxx : cl.x.toNat = xx at *
  clear hxx
  go_enter Try.func22, Try.ntmps22
  go_wp2
  obtain ⟨wA, hwA⟩ : ∃ wA : World, wA = w.alloc (.cells #[.int .i64 cl.kind, .string cl.name, .int .i64 cl.n, .int .i64 cl.len, .int .u8 (xx : Int), pv] 36) := ⟨_, rfl⟩
  have hblk : Blk wA w.heap.size 36 #[.int .i64 cl.kind, .string cl.name, .int .i64 cl.n, .int .i64 cl.len, .int .u8 (xx : Int), pv] := by rw [hwA]; exact heap_alloc_new _ _
  have hsz : wA.heap.size = w.heap.size + 1 := by rw [hwA]; simp
  have HBA : Hid (Below w.heap.size w wA) := Lib.hid (by rw [hwA]; exact (Below.refl _ _).alloc (Nat.le_refl _) _)
  have a3 : wA.cell? ⟨w.heap.size, 3, none⟩ = some (.int .i64 cl.len) := by rw [hblk.cell]; rfl
  have a4 : wA.cell? ⟨w.heap.size, 4, none⟩ = some (.int .u8 (xx : Int)) := by rw [hblk.cell]; rfl
  rw [← hwA]
  clear hwA hblk
  go_loopw [3, 4] (fun v i wr => ∃ k : Nat, k ≤ n ∧ i = .int .i64 k ∧ wr.ownsRow wA.heap.size 5 1 v k (bv (cl.upTo k)) ∧ Below wA.heap.size wA wr) (fun _ i _ => n - (intOf i).toNat)
  case atStart => exact ⟨0, Nat.zero_le _, rfl, own_nil _ _ _ _, Below.refl _ _⟩
  case round =>
    obtain ⟨k, hk, rfl, hown, hbel⟩ := hrel
    have b3 := (hbel.cell (p := ⟨w.heap.size, 3, none⟩) (by simp; omega)).trans a3
    have b4 := (hbel.cell (p := ⟨w.heap.size, 4, none⟩) (by simp; omega)).trans a4
    have hbs := hbel.size
    have hw0 : w.heap.size < wr.heap.size := by omega
    clear a3 a4
    by_cases hlt : k < n
    · have hi : (k : Int) < (n : Int) := by omega
      have HY : Hid (bv (cl.upTo (k + 1)) = bv (cl.upTo k) ++ [.int .u8 (((xx : Int) + (k : Int) / 64) % 256)]) := Lib.hid (by
        have hx := HV.out k (by omega)
        rw [IntKind.wrap_u8] at hx
        rw [HX.out, ← hx]
        rfl)
      go_wp2_with (first | (go_at_call 14; refine (HPk.out _).mono ?_; rintro e w1 ⟨rfl, rfl⟩) | (at_builtin; refine wpList_append_own _ rfl _ _ 41 rfl wA.heap.size 5 i0 (.int .u8 0) 1 1 Try.underlying41 hi0 hz0 hz1 hz2 rfl (by decide) _ _ _ rfl (hown.alloc _) ⟨wr.heap.size, 0, none⟩ 1 1 [.int .u8 (((xx : Int) + (k : Int) / 64) % 256)] rfl rfl (cell_one_new _ _ _) (fun u hu => by simp at hu; subst hu; rfl) (by unfold maxLen; omega) (by omega) (by simp; omega) ?_; intro v' w1 hown' hgrow _))
      go_roundw
      case rel =>
        refine ⟨k + 1, by omega, by go_num, ?_, (hbel.alloc (by omega) _).grown hgrow (by simp; omega) (own_ge hown)⟩
        rw [HY.out]
        exact hown'
      case measure => simp [intOf]; omega
    · obtain rfl : k = n := by omega
      rw [← HB.out] at hown
      have HO := Lib.hid hown
      clear hlt hown
      go_wp2_with (go_at_call 14; refine (HPk.out _).mono ?_; rintro e w1 ⟨rfl, rfl⟩)
      go_ret
      rw [HBl.out]
      exact ⟨_, rfl, by rw [← hsz]; exact HO.out, HBA.out.trans (hbel.mono (by omega))⟩
end Go.Proofs.Ytoihkanneiknkaa
