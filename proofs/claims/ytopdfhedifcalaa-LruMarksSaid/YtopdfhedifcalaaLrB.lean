/- Contracts of the landed list's leave and enter: which cells they turn. Conditions: those that each theorem names. -/
import Derived.Test.YtopdfhedifcalaaProg
import Derived.Test.YtopdfhedifcalaaKind
import Derived.WalkKit
import Derived.Deep.RegionHeld3
import Derived.Lib.Hide
namespace Go.Proofs.Ytopdfhedifcalaa
open Go.RowKit

set_option maxHeartbeats 2000000 in
theorem leave_any (g xb xo yb yo : Nat) (u v : Value) (w : World) (c0 : w.cell? ⟨g, 0, none⟩ = some (.pointer (some ⟨xb, xo, none⟩))) (c1 : w.cell? ⟨g, 1, none⟩ = some (.pointer (some ⟨yb, yo, none⟩)))
    (cx : w.cell? ⟨xb, xo + 1, none⟩ = some u) (cy : w.cell? ⟨yb, yo, none⟩ = some v) (fx : w.frozen? ⟨xb, xo + 1, none⟩ = false) (fy : w.frozen? ⟨yb, yo, none⟩ = false) (hx : xb ≠ g) (hy : yb ≠ g) (hxy : xb = yb → xo + 1 ≠ yo) :
    Calls Try.prog 32 #[.pointer (some ⟨g, 0, none⟩)] w fun e w' => e = .returned (.tuple #[]) ∧ ∃ n, w' = ((w.drewN n).setCell ⟨xb, xo + 1, none⟩ (.pointer (some ⟨yb, yo, none⟩))).setCell ⟨yb, yo, none⟩ (.pointer (some ⟨xb, xo, none⟩)) := by
  by_cases hb : xb = yb
  · subst hb
    have h1 : xo + 1 ≠ yo := hxy rfl
    have h2 : yo ≠ xo + 1 := Ne.symm h1
    clear hxy hy
    go_enter Try.func32, Try.ntmps32
    go_region_held3 (fun w' => w'.cell? ⟨g, 0, none⟩ = some (.pointer (some ⟨xb, xo, none⟩)) ∧ w'.cell? ⟨g, 1, none⟩ = some (.pointer (some ⟨xb, yo, none⟩))) (go_keep) (fail)
    all_goals go_wp2
    go_end0
    exact ⟨rfl, _, rfl⟩
  · have h2 : yb ≠ xb := fun e => hb e.symm
    clear hxy
    go_enter Try.func32, Try.ntmps32
    go_region_held3 (fun w' => w'.cell? ⟨g, 0, none⟩ = some (.pointer (some ⟨xb, xo, none⟩)) ∧ w'.cell? ⟨g, 1, none⟩ = some (.pointer (some ⟨yb, yo, none⟩))) (go_keep) (fail)
    all_goals go_wp2
    go_end0
    exact ⟨rfl, _, rfl⟩

set_option maxHeartbeats 2000000 in
theorem enter_any (p g zb zo : Nat) (u0 u1 v : Value) (w : World) (c : w.cell? ⟨p, 1, none⟩ = some (.pointer (some ⟨zb, zo, none⟩))) (d0 : w.cell? ⟨g, 0, none⟩ = some u0) (d1 : w.cell? ⟨g, 1, none⟩ = some u1)
    (cz : w.cell? ⟨zb, zo + 1, none⟩ = some v) (f0 : w.frozen? ⟨g, 0, none⟩ = false) (f1 : w.frozen? ⟨g, 1, none⟩ = false) (fz : w.frozen? ⟨zb, zo + 1, none⟩ = false) (fp : w.frozen? ⟨p, 1, none⟩ = false) (hp : p ≠ g) (hz : zb ≠ g) (hzp : zb = p → zo = 1) :
    Calls Try.prog 33 #[.pointer (some ⟨p, 0, none⟩), .pointer (some ⟨g, 0, none⟩)] w fun e w' => e = .returned (.tuple #[]) ∧ ∃ n m, w' = (((((w.setCell ⟨g, 0, none⟩ (.pointer (some ⟨zb, zo, none⟩))).setCell ⟨g, 1, none⟩ (.pointer (some ⟨p, 1, none⟩))).drewN n).drewN m).setCell ⟨zb, zo + 1, none⟩ (.pointer (some ⟨g, 0, none⟩))).setCell ⟨p, 1, none⟩ (.pointer (some ⟨g, 0, none⟩)) := by
  have hg : g ≠ p := fun e => hp e.symm
  have hg2 : g ≠ zb := fun e => hz e.symm
  by_cases hb : zb = p
  · obtain rfl := hzp hb
    subst hb
    clear hzp
    rw [show (1 : Nat) + 1 = 2 from rfl] at cz fz ⊢
    have a1 : Hid (((w.setCell ⟨g, 0, none⟩ (.pointer (some ⟨zb, 1, none⟩))).setCell ⟨g, 1, none⟩ (.pointer (some ⟨zb, 1, none⟩))).drew.cell? ⟨g, 1, none⟩ = some (.pointer (some ⟨zb, 1, none⟩))) := Lib.hid (cell_at _ ((cell_far _ _ (fun _ => by decide)).trans d1))
    have a0 : Hid (((w.setCell ⟨g, 0, none⟩ (.pointer (some ⟨zb, 1, none⟩))).setCell ⟨g, 1, none⟩ (.pointer (some ⟨zb, 1, none⟩))).drew.cell? ⟨g, 0, none⟩ = some (.pointer (some ⟨zb, 1, none⟩))) := Lib.hid ((cell_far _ _ (fun _ => by decide)).trans (cell_at _ d0))
    have az : Hid (((w.setCell ⟨g, 0, none⟩ (.pointer (some ⟨zb, 1, none⟩))).setCell ⟨g, 1, none⟩ (.pointer (some ⟨zb, 1, none⟩))).drew.cell? ⟨zb, 2, none⟩ = some v) := Lib.hid (((cell_far _ _ (fun e => absurd e hg2)).trans (cell_far _ _ (fun e => absurd e hg2))).trans cz)
    have ap : Hid (((w.setCell ⟨g, 0, none⟩ (.pointer (some ⟨zb, 1, none⟩))).setCell ⟨g, 1, none⟩ (.pointer (some ⟨zb, 1, none⟩))).drew.cell? ⟨zb, 1, none⟩ = some (.pointer (some ⟨zb, 1, none⟩))) := Lib.hid (((cell_far _ _ (fun e => absurd e hg)).trans (cell_far _ _ (fun e => absurd e hg))).trans c)
    have bz : Hid (((w.setCell ⟨g, 0, none⟩ (.pointer (some ⟨zb, 1, none⟩))).setCell ⟨g, 1, none⟩ (.pointer (some ⟨zb, 1, none⟩))).drew.frozen? ⟨zb, 2, none⟩ = false) := Lib.hid (by simpa using fz)
    have bp : Hid (((w.setCell ⟨g, 0, none⟩ (.pointer (some ⟨zb, 1, none⟩))).setCell ⟨g, 1, none⟩ (.pointer (some ⟨zb, 1, none⟩))).drew.frozen? ⟨zb, 1, none⟩ = false) := Lib.hid (by simpa using fp)
    go_enter Try.func33, Try.ntmps33
    go_wp2
    go_region_held3 (fun w' => w'.cell? ⟨zb, 1, none⟩ = some (.pointer (some ⟨zb, 1, none⟩))) (go_keep) (fail)
    all_goals go_wp2
    generalize hW : ((w.setCell ⟨g, 0, none⟩ (.pointer (some ⟨zb, 1, none⟩))).setCell ⟨g, 1, none⟩ (.pointer (some ⟨zb, 1, none⟩))).drew = w1 at *
    rename_i hHeld
    clear hHeld c d0 d1 cz f0 f1 fz fp
    have HW := Lib.hid hW
    clear hW
    have e1 := a1.out
    have e0 := a0.out
    have ez := az.out
    have ep := ap.out
    have gz := bz.out
    have gp := bp.out
    clear a1 a0 az ap bz bp
    go_region_held3 (fun w' => w'.cell? ⟨g, 0, none⟩ = some (.pointer (some ⟨zb, 1, none⟩)) ∧ w'.cell? ⟨g, 1, none⟩ = some (.pointer (some ⟨zb, 1, none⟩))) (go_keep) (fail)
    all_goals go_wp2
    go_end0
    rw [← HW.out]
    exact ⟨rfl, 1, 1, rfl⟩
  · have h2 : p ≠ zb := fun e => hb e.symm
    clear hzp
    have a1 : Hid (((w.setCell ⟨g, 0, none⟩ (.pointer (some ⟨zb, zo, none⟩))).setCell ⟨g, 1, none⟩ (.pointer (some ⟨p, 1, none⟩))).drew.cell? ⟨g, 1, none⟩ = some (.pointer (some ⟨p, 1, none⟩))) := Lib.hid (cell_at _ ((cell_far _ _ (fun _ => by decide)).trans d1))
    have a0 : Hid (((w.setCell ⟨g, 0, none⟩ (.pointer (some ⟨zb, zo, none⟩))).setCell ⟨g, 1, none⟩ (.pointer (some ⟨p, 1, none⟩))).drew.cell? ⟨g, 0, none⟩ = some (.pointer (some ⟨zb, zo, none⟩))) := Lib.hid ((cell_far _ _ (fun _ => by decide)).trans (cell_at _ d0))
    have az : Hid (((w.setCell ⟨g, 0, none⟩ (.pointer (some ⟨zb, zo, none⟩))).setCell ⟨g, 1, none⟩ (.pointer (some ⟨p, 1, none⟩))).drew.cell? ⟨zb, zo + 1, none⟩ = some v) := Lib.hid (((cell_far _ _ (fun e => absurd e hg2)).trans (cell_far _ _ (fun e => absurd e hg2))).trans cz)
    have ap : Hid (((w.setCell ⟨g, 0, none⟩ (.pointer (some ⟨zb, zo, none⟩))).setCell ⟨g, 1, none⟩ (.pointer (some ⟨p, 1, none⟩))).drew.cell? ⟨p, 1, none⟩ = some (.pointer (some ⟨zb, zo, none⟩))) := Lib.hid (((cell_far _ _ (fun e => absurd e hg)).trans (cell_far _ _ (fun e => absurd e hg))).trans c)
    have bz : Hid (((w.setCell ⟨g, 0, none⟩ (.pointer (some ⟨zb, zo, none⟩))).setCell ⟨g, 1, none⟩ (.pointer (some ⟨p, 1, none⟩))).drew.frozen? ⟨zb, zo + 1, none⟩ = false) := Lib.hid (by simpa using fz)
    have bp : Hid (((w.setCell ⟨g, 0, none⟩ (.pointer (some ⟨zb, zo, none⟩))).setCell ⟨g, 1, none⟩ (.pointer (some ⟨p, 1, none⟩))).drew.frozen? ⟨p, 1, none⟩ = false) := Lib.hid (by simpa using fp)
    go_enter Try.func33, Try.ntmps33
    go_wp2
    go_region_held3 (fun w' => w'.cell? ⟨p, 1, none⟩ = some (.pointer (some ⟨zb, zo, none⟩))) (go_keep) (fail)
    all_goals go_wp2
    generalize hW : ((w.setCell ⟨g, 0, none⟩ (.pointer (some ⟨zb, zo, none⟩))).setCell ⟨g, 1, none⟩ (.pointer (some ⟨p, 1, none⟩))).drew = w1 at *
    rename_i hHeld
    clear hHeld c d0 d1 cz f0 f1 fz fp
    have HW := Lib.hid hW
    clear hW
    have e1 := a1.out
    have e0 := a0.out
    have ez := az.out
    have ep := ap.out
    have gz := bz.out
    have gp := bp.out
    clear a1 a0 az ap bz bp
    go_region_held3 (fun w' => w'.cell? ⟨g, 0, none⟩ = some (.pointer (some ⟨zb, zo, none⟩)) ∧ w'.cell? ⟨g, 1, none⟩ = some (.pointer (some ⟨p, 1, none⟩))) (go_keep) (fail)
    all_goals go_wp2
    go_end0
    rw [← HW.out]
    exact ⟨rfl, 1, 1, rfl⟩
end Go.Proofs.Ytopdfhedifcalaa
