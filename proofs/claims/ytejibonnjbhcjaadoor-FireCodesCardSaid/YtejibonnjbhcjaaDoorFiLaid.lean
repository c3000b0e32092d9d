/- What the condition on the codes' variable gives: the table lies in memory; and that the door's own heap meets it. -/
import Derived.Test.YtejibonnjbhcjaaDoorFiTab
import Derived.Test.YtejibonnjbhcjaaDoorRows
import Derived.ProofKit
import Derived.Deep.SlicePairs
import Derived.LaidMore
import Derived.OpenShut
import Derived.Stop.Joined
namespace Go.Proofs.YtejibonnjbhcjaaDoor.Fi
open Go.ChangeShapes Go.WideShapes Go.ChangeAt Go.RowKit

/-- The listed variable. -/
def laid : List (String × DataW Unit) := [("hayward/fire.codes", Rows.laid_hayward_fire_codes)]
theorem of_laid {W : World} (h : laidMetH Tryd.prog laid W) : Tab W := by
  rw [MakeChecks.laidMetH_plain _ _ _ (by kernel_rfl)] at h
  obtain ⟨ps, ⟨g, t, cs, fuel, p, q, hg, ht, hv, hd, _, _⟩, _, _⟩ := h
  obtain rfl := Option.some.inj ((show Tryd.prog.globalNamed "hayward/fire.codes" = some 0 by kernel_rfl).symm.trans hg)
  obtain rfl := Option.some.inj ((show (Tryd.prog.globals[0]?).map (·.type) = some 41 by kernel_rfl).symm.trans ht)
  rcases open_ints Tryd.underlying41 Tryd.underlying5 (by kernel_rfl) hd with ⟨_, hx⟩ | ⟨a, len, cap, zs, hcs, _, hl, hm, hlen, hx, hc, _⟩
  · simp [Rows.laid_hayward_fire_codes] at hx
  · have e1 := (Prod.mk.inj hx).1
    simp only [Rows.laid_hayward_fire_codes, DataW.slice.injEq] at e1
    obtain ⟨e1, e2⟩ := e1
    have ez : lits (H := Unit) .u8 zs = [.lit (.int .u8 85), .lit (.int .u8 51), .lit (.int .u8 15), .lit (.int .u8 102), .lit (.int .u8 90), .lit (.int .u8 60), .lit (.int .u8 105), .lit (.int .u8 150)] := by
      rw [← List.take_append_drop len zs, lits, List.map_append]
      show lits .u8 (zs.take len) ++ lits .u8 (zs.drop len) = _
      rw [← e1, ← e2]; rfl
    have zz : zs = [85, 51, 15, 102, 90, 60, 105, 150] := by
      match zs, ez with
      | [a, b, c, d, e, f, g, h], ez => simpa [lits] using ez
    have h8 : len = 8 := by
      have l1 : (lits (H := Unit) .u8 (zs.take len)).length = 8 := by rw [← e1]; rfl
      have l2 : zs.length = 8 := by rw [zz]; rfl
      simp only [lits, List.length_map, List.length_take] at l1
      split at hlen <;> omega
    subst h8
    obtain ⟨b, off, spot⟩ := a
    have c0 := hc 0 (by rw [zz]; decide)
    have hs : spot = none := by simpa [Addr.add] using World.cell?_spot c0
    subst hs
    have v0 : W.cell? ⟨0, 0, none⟩ = some (.slice (some ⟨b, off, none⟩) 8 cap) := by rw [World.var?_cell hg hv 0, Array.eq_one_of_toList hcs]; rfl
    refine ⟨b, off, cap, v0, hl, hm, fun i hi => ?_⟩
    have ci := hc i (by rw [zz]; exact hi)
    rw [add_plain] at ci
    rw [ci, zz]
    rfl
/-- The door's own heap meets the condition. -/
theorem door_met (os : Os) (args : Array Value) : laidMetH Tryd.prog laid ((World.doorLaid Tryd.prog 400 os).forCall (fun _ _ => 0) ⟨#[], args, []⟩).memory :=
  laidMetH_of_parts3 (fuel := 8) (laidMet_of_run' 8 (by kernel_rfl) (by kernel_rfl)) (by kernel_rfl) (by kernel_rfl)

end Go.Proofs.YtejibonnjbhcjaaDoor.Fi
