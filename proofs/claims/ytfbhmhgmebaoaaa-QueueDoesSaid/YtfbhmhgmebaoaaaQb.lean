/- Regions that draw their order, whose own operations only read, and whose callees may make memory but leave all that was there as it was: walked once, in the order of the text, with contracts that say 'Below'. -/
import Derived.WalkKit
import Derived.Test.YtfbhmhgmebaoaaaAb
import Derived.Deep.QuietTactic
import Derived.BigQuiet
namespace Go.Proofs.Ytfbhmhgmebaoaaa.Qb
open Go.RowKit

/-- A world that is w but for what is new. -/
structure By (w : World) where
  world : World
  below : Below w.heap.size w world
instance (w : World) : Nonempty (By w) := ⟨⟨w, Below.refl _ _⟩⟩

theorem below_drew {B : Nat} {a w : World} (h : Below B a w) : Below B a { w with drawn := w.drawn + 1 } := ⟨h.os, h.tape, h.output, h.size, h.block⟩

theorem wp_region_by {P : Program} {id : Nat} {Q : Exit → Act → World → Prop} {a : Act} {w : World} {l : List Oper} (hm : P.follows .mixedOrders = true) (hB : Region.lexB .any l.toArray = true)
    (h : wpQuiet P l.toArray (fun w' => ∃ p : By w, w' = p.world) (fun a' => ∀ w', (∃ p : By w, w' = p.world) → Q .normal a' w') l a) : (Code.region id l.toArray true).wp P Q a w :=
  wp_region_quiet (C := fun w' => ∃ p : By w, w' = p.world) hm hB ⟨⟨_, below_drew (Below.refl _ _)⟩, rfl⟩ (by simpa using h)

/-- A callee's contract, met in a world of the class. -/
theorem of_below {P : Program} {f : FuncId} {args : Array Value} {w : World} {p : By w} {v : Value}
    (h : Calls P f args p.world fun e w' => e = .returned v ∧ Below p.world.heap.size p.world w') : Calls P f args p.world fun e w'' => e = .returned v ∧ ∃ q : By w, w'' = q.world :=
  h.mono fun _ w' ⟨he, hb⟩ => ⟨he, ⟨w', p.below.trans (hb.mono p.below.size)⟩, rfl⟩
/-- .. of a callee that only computes. -/
theorem of_same {P : Program} {f : FuncId} {args : Array Value} {w : World} {p : By w} {v : Value}
    (h : Calls P f args p.world fun e w' => e = .returned v ∧ p.world = w') : Calls P f args p.world fun e w'' => e = .returned v ∧ ∃ q : By w, w'' = q.world :=
  h.mono fun _ _ ⟨he, hb⟩ => ⟨he, p, hb.symm⟩

/-- A cell that was there, in every world of the class. -/
theorem cell_by {w : World} {a : Addr} {v : Value} (h : w.cell? a = some v) (p : By w) : p.world.cell? a = some v := bCe p.below h

end Go.Proofs.Ytfbhmhgmebaoaaa.Qb
