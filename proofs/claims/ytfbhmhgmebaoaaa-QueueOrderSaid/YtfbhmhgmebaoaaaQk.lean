/- Operations that a guard passes over, in a quiet walk, at once. -/
import Derived.Test.YtfbhmhgmebaoaaaSd
import Derived.Test.YtfbhmhgmebaoaaaQb
namespace Go.Proofs.Ytfbhmhgmebaoaaa.Qk
open Go.RowKit

/-- .. whose slot holds nothing yet. -/
theorem skip {P : Program} {ops : Array Oper} {C : World → Prop} {Q : Act → Prop} {a : Act} {o : Oper} {rest : List Oper} (hw : Region.wanted o (yielded ops a.tmps) = false) (ha : a.put o.dst undef = a) (h : wpQuiet P ops C Q rest a) : wpQuiet P ops C Q (o :: rest) a := by
  unfold wpQuiet
  rw [if_neg (by rw [hw]; exact Bool.false_ne_true), ha]
  exact h
/-- A call that is passed over, whose slot holds nothing yet. -/
theorem past {P : Program} {ops : Array Oper} {C : World → Prop} {Q : Exit → Act → World → Prop} {a : Act} {w : World} {o : Oper} {r : List (Bool × Oper)} (hw : Region.wanted o (yielded ops a.tmps) = false) (ha : a.put o.dst undef = a) (h : Sd.wpSd P ops C Q r a w) : Sd.wpSd P ops C Q ((true, o) :: r) a w :=
  Sd.past hw (by rw [ha]; exact h)

end Go.Proofs.Ytfbhmhgmebaoaaa.Qk
