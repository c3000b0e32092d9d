/- As XSd, with a class of worlds that the prover names: what the light operations read lies there; a store may turn what they don't read. -/
import Derived.Test.YtfbhmhgmebaoaaaSd
namespace Go.Proofs.Ytfbhmhgmebaoaaa.Sc
open Go.RowKit

structure In (C : World → Prop) where
  world : World
  ok : C world
def Cl (C : World → Prop) (w' : World) : Prop := ∃ p : In C, w' = p.world
theorem Cl.of {C : World → Prop} {w' : World} (h : C w') : ∃ p : In C, w' = p.world := ⟨⟨w', h⟩, rfl⟩
theorem cell_in {C : World → Prop} {a : Addr} {v : Value} (h : ∀ w', C w' → w'.cell? a = some v) (p : In C) : p.world.cell? a = some v := h _ p.ok

theorem start {P : Program} {id : Nat} {l : List Oper} {Q : Exit → Act → World → Prop} {a : Act} {w : World} (C : World → Prop) (sc : List (Bool × Nat)) (hm : P.follows .mixedOrders = true) (hs : Region.noSelect l.toArray = true)
    (hg : Sd.good l.toArray sc (Array.replicate l.toArray.size false) l.toArray.size = true) (h0 : C w.drew) (h : Sd.wpSd P l.toArray (fun w' => ∃ p : In C, w' = p.world) (NoPanic Q) (Sd.picks l sc) a w.drew) : (Code.region id l.toArray true).wp P Q a w :=
  wp_region_noPanic (wp_region_held_drew (S := fun w' => ∃ p : In C, w' = p.world) hm (Cl.of h0) fun _ => Sd.sound hs (fun _ _ _ _ _ h => h) sc _ _ a _ hg (Cl.of h0) h)

end Go.Proofs.Ytfbhmhgmebaoaaa.Sc
