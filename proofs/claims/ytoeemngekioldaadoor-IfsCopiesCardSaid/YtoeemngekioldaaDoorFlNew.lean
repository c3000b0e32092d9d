/- file.New. -/
import Derived.Test.YtoeemngekioldaaDoorFlBase
import Derived.OwnWalk
import Derived.Test.YtoeemngekioldaaDoorSc
namespace Go.Proofs.YtoeemngekioldaaDoor.Fl
open Go.RowKit
open Go.Proofs.YtoeemngekioldaaDoor.Rw (Rd Ow At)
attribute [local irreducible] Sd.wpSd wpQuiet

theorem results_new {fn : Func} {p r : Tmp} (h : fn.results = #[.cell p 35, .tmp r]) (tmps : Array Value) (w : World) (g1 : Nat) (k : Int) (u : Value) (e : Int)
    (hp : tmps.getD p undef = .pointer (some ⟨g1, 0, none⟩)) (hr : tmps.getD r undef = .int .i64 e)
    (h1 : w.heap[g1]? = some (.cells #[.int .i64 k, u] 35 (0, 0))) :
    (results fn tmps).run Tryd.prog w = .ok (.tuple #[file k u, .int .i64 e]) w := by
  have e1 := run_loadVar_row (P := Tryd.prog) w g1 35 35 #[.int .i64 k, u] (0, 0) _ h1 Tryd.underlying35 rfl (by show _ = some 2; kernel_rfl)
  have hp' : tmps[p]?.getD undef = .pointer (some ⟨g1, 0, none⟩) := by simpa using hp
  have hr' : tmps[r]?.getD undef = .int .i64 e := by simpa using hr
  simp only [results, h]
  simp [Result.andThen, hp', hr', asAddr, e1, file]

theorem set_zero (h : R4) (n : Nat) : (List.replicate (n + 1) z4).set 0 h = h :: List.replicate n z4 := by rw [List.replicate_succ]; rfl

end Go.Proofs.YtoeemngekioldaaDoor.Fl
