/- The document's own Spans of layer 4: the plain list that is low just where a low bit is. -/
import Derived.Test.YtfoaneckegkhcaaSeMath
import Derived.Test.YtfoaneckegkhcaaTkGlob
import Derived.Test.YtfoaneckegkhcaaUaRef
import Derived.Test.YtfoaneckegkhcaaWiJoin
namespace Go.Proofs.Ytfoaneckegkhcaa.Se
open Go.RowKit Go.Proofs.Ytfoaneckegkhcaa.Tk Go.Proofs.Ytfoaneckegkhcaa.Sp
open Go.Proofs.Ytfoaneckegkhcaa.Wi (PlainOf Made rjoin_any push_step own_low)
open Go.Proofs.Ytfoaneckegkhcaa.Ua (arr Row load_frame)

/-- What holds at the head of the loop over a frame's bits. -/
structure LRel (w : World) (g : Int → Int) (F : Nat → Bool) (m : Int) (v : Value) (k : Nat) (wr : World) : Prop where
  own : Own wr w.heap.size 45 v (lows g F m k)
  bel : Below w.heap.size w wr
theorem LRel.hi {w wr : World} {g : Int → Int} {F : Nat → Bool} {m : Int} {v : Value} {k : Nat} (h : LRel w g F m v k wr) (e : F k = true) : LRel w g F m v (k + 1) wr := ⟨by rw [lows_hi e]; exact h.own, h.bel⟩
theorem LRel.lo {w wr : World} {g : Int → Int} {F : Nat → Bool} {m : Int} {v : Value} {k : Nat} (e : F k = false) (ho : Own wr w.heap.size 45 v (lows g F m k ++ [(g (m + 16 * k), g (m + 16 * k + 16))])) (hb : Below w.heap.size w wr) : LRel w g F m v (k + 1) wr := ⟨by rw [lows_lo e]; exact ho, hb⟩

end Go.Proofs.Ytfoaneckegkhcaa.Se
