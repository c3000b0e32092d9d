/- Arguments of layer 10: deeds, and lists of deeds; the variable of package errors. -/
import Derived.Test.YtoeemngekioldaaDoorFsNob
import Derived.Test.YtoeemngekioldaaDoorFlArgs
import Derived.Test.YtoeemngekioldaaDoorRows
import Derived.LaidHandle
import Derived.LaidLaws
import Derived.LaidMore
import Derived.Stop.Joined
namespace Go.Proofs.YtoeemngekioldaaDoor.Fs
set_option maxRecDepth 100000
open Go.ChangeShapes Go.WideShapes Go.ChangeAt Go.RowKit Go.Deep
open Go.Proofs.YtoeemngekioldaaDoor.Rw (Rd Ow At)
open Go.Proofs.YtoeemngekioldaaDoor.Fl (R4 z4 K4 rec4 okR okL rec_cells recs_of)

section
variable {H : Type} {enc : TypeId × Value → H} {W : World} {base fuel : Nat} {sp : Nat → Bool} {held : Bool} {cs : List Value} {x : DataW H × List MemPlace}
theorem addr_cells (h : DataW.trod enc Tryd.prog W base sp held fuel 30 cs = some x) : ∃ o f r : Int, cs = [.int .i64 o, .int .i64 f, .int .i64 r] ∧ Wf f := by
  have c3 : Tryd.prog.cellsOf 30 = 3 := by kernel_rfl
  have c1 : Tryd.prog.cellsOf 3 = 1 := by kernel_rfl
  obtain ⟨xs, m, _, _, hs, hx, hi⟩ := DataW.trod_struct Tryd.underlying30 h
  rw [c3] at hs
  match cs, hs, xs, hx, hi with
  | [u0, u1, u2], _, [x0, x1, x2], _, hi =>
    have e0 : DataW.trod enc Tryd.prog W base sp held m 3 (([u0, u1, u2].drop 0).take (Tryd.prog.cellsOf 3)) = some x0 := hi 0 _ rfl
    have e1 : DataW.trod enc Tryd.prog W base sp held m 3 (([u0, u1, u2].drop 1).take (Tryd.prog.cellsOf 3)) = some x1 := hi 1 _ rfl
    have e2 : DataW.trod enc Tryd.prog W base sp held m 3 (([u0, u1, u2].drop 2).take (Tryd.prog.cellsOf 3)) = some x2 := hi 2 _ rfl
    rw [c1] at e0 e1 e2
    obtain ⟨a, ha, _, wa⟩ := DataW.trod_int Tryd.underlying3 (x := x0) e0
    obtain ⟨b, hb, _, wb⟩ := DataW.trod_int Tryd.underlying3 (x := x1) e1
    obtain ⟨c, hc, _, wc⟩ := DataW.trod_int Tryd.underlying3 (x := x2) e2
    simp at ha hb hc
    subst ha hb hc
    exact ⟨a, b, c, rfl, wb⟩
theorem file_cells (h : DataW.trod enc Tryd.prog W base sp held fuel 35 cs = some x) : ∃ q u l, cs = [.int .i64 q, u] ∧ Rd K4 W u l ∧ okL l := by
  have c2 : Tryd.prog.cellsOf 35 = 2 := by kernel_rfl
  have c1 : Tryd.prog.cellsOf 3 = 1 := by kernel_rfl
  have c3 : Tryd.prog.cellsOf 33 = 1 := by kernel_rfl
  obtain ⟨xs, m, _, _, hs, hx, hi⟩ := DataW.trod_struct Tryd.underlying35 h
  rw [c2] at hs
  match cs, hs, xs, hx, hi with
  | [u, v], _, [x0, x1], _, hi =>
    have e0 : DataW.trod enc Tryd.prog W base sp held m 3 (([u, v].drop 0).take (Tryd.prog.cellsOf 3)) = some x0 := hi 0 _ rfl
    have e1 : DataW.trod enc Tryd.prog W base sp held m 33 (([u, v].drop 1).take (Tryd.prog.cellsOf 33)) = some x1 := hi 1 _ rfl
    rw [c1] at e0
    rw [c3] at e1
    obtain ⟨a, ha, _⟩ := DataW.trod_int Tryd.underlying3 (x := x0) e0
    simp at ha
    subst ha
    obtain ⟨l, R, ok⟩ := recs_of (u := v) e1
    exact ⟨a, v, l, rfl, R, ok⟩
theorem deed_cells (h : DataW.trod enc Tryd.prog W base sp held fuel 37 cs = some x) : ∃ D : De, cs = D.cells ∧ D.Ok W := by
  have c10 : Tryd.prog.cellsOf 37 = 10 := by kernel_rfl
  have c1 : Tryd.prog.cellsOf 5 = 1 := by kernel_rfl
  have c3 : Tryd.prog.cellsOf 30 = 3 := by kernel_rfl
  have c4 : Tryd.prog.cellsOf 32 = 4 := by kernel_rfl
  have c2 : Tryd.prog.cellsOf 35 = 2 := by kernel_rfl
  obtain ⟨xs, m, _, _, hs, hx, hi⟩ := DataW.trod_struct Tryd.underlying37 h
  rw [c10] at hs
  match cs, hs, xs, hx, hi with
  | [u0, u1, u2, u3, u4, u5, u6, u7, u8, u9], _, [x0, x1, x2, x3], _, hi =>
    have e0 : DataW.trod enc Tryd.prog W base sp held m 5 (([u0, u1, u2, u3, u4, u5, u6, u7, u8, u9].drop 0).take (Tryd.prog.cellsOf 5)) = some x0 := hi 0 _ rfl
    have e1 : DataW.trod enc Tryd.prog W base sp held m 30 (([u0, u1, u2, u3, u4, u5, u6, u7, u8, u9].drop 1).take (Tryd.prog.cellsOf 30)) = some x1 := hi 1 _ rfl
    have e2 : DataW.trod enc Tryd.prog W base sp held m 32 (([u0, u1, u2, u3, u4, u5, u6, u7, u8, u9].drop 4).take (Tryd.prog.cellsOf 32)) = some x2 := hi 2 _ rfl
    have e3 : DataW.trod enc Tryd.prog W base sp held m 35 (([u0, u1, u2, u3, u4, u5, u6, u7, u8, u9].drop 8).take (Tryd.prog.cellsOf 35)) = some x3 := hi 3 _ rfl
    rw [c1] at e0
    rw [c3] at e1
    rw [c4] at e2
    rw [c2] at e3
    obtain ⟨k, hk, _, wk⟩ := DataW.trod_int Tryd.underlying5 (x := x0) e0
    obtain ⟨o, f, r, h1, wf⟩ := addr_cells e1
    obtain ⟨y, h2, ok⟩ := rec_cells e2
    obtain ⟨p, u, l, h3, R, okl⟩ := file_cells e3
    obtain ⟨a, cap, rfl, _⟩ := R.slice
    have k' : [u0] = [.int .u8 k] := hk
    have h1' : [u1, u2, u3] = [.int .i64 o, .int .i64 f, .int .i64 r] := h1
    have h2' : [u4, u5, u6, u7] = [.int .u8 y.1, .int .u8 y.2.1, .int .u8 y.2.2.1, .int .u8 y.2.2.2] := h2
    have h3' : [u8, u9] = [.int .i64 p, .slice a l.length cap] := h3
    simp only [List.cons.injEq, and_true] at k' h1' h2' h3'
    obtain rfl := k'
    obtain ⟨rfl, rfl, rfl⟩ := h1'
    obtain ⟨rfl, rfl, rfl, rfl⟩ := h2'
    obtain ⟨rfl, rfl⟩ := h3'
    exact ⟨⟨k, o, f, r, y, p, a, cap, l⟩, rfl, ⟨bounds_u8 wk, wf, ok, R, okl⟩⟩
theorem deed_of {v : Value} {d : DataW H} {p : List MemPlace} {r : Reach} {b0 : Nat} (hv : Value.okWide Tryd.prog W r b0 37 v) (h : DataW.Trod enc Tryd.prog W base sp held 37 v d p) : ∃ D : De, v = .agg D.cells.toArray ∧ D.Ok W := by
  obtain ⟨⟨l⟩, rfl, hs⟩ := WideShapes.okWide_struct Tryd.underlying37 hv
  obtain ⟨fuel, hf⟩ := h
  obtain ⟨D, e, ok⟩ := deed_cells hf
  have e' : l = D.cells := e
  subst e'
  exact ⟨D, rfl, ok⟩
end

/-! ### the variable of package errors -/
def laid : List (String × DataW Unit) := [("errors.errorType", Rows.laid_errors_errorType)]
theorem et : Tryd.prog.globalNamed "errors.errorType" = some 0 := by kernel_rfl
theorem rt : (Tryd.prog.cutTypes.find? (·.1 == "internal/reflectlite.rtype")).map (·.2) = some 102 := by kernel_rfl
theorem oneRow : ((List.range 184).filter fun t => Tryd.prog.rowNamed t [101, 114, 114, 111, 114]) = [67] := by kernel_rfl
theorem tsize : Tryd.prog.types.size = 184 := by kernel_rfl
theorem glob_of {W : World} (h : laidMetH Tryd.prog laid W) : Glob W := by
  have h' : laidMet Tryd.prog [] W ∧ handlesMet Tryd.prog laid W := h
  obtain ⟨name, u, ty, e1, e2, e3, e4, e5⟩ := h'.2 _ (List.mem_singleton.2 rfl)
  have en : name = [101, 114, 114, 111, 114] := (Option.some.inj e1).symm
  subst en
  obtain rfl := Option.some.inj (rt.symm.trans e2)
  have hm : ty ∈ (List.range 184).filter fun t => Tryd.prog.rowNamed t [101, 114, 114, 111, 114] := List.mem_filter.2 ⟨List.mem_range.2 (by rw [← tsize]; exact e3), e4⟩
  rw [oneRow] at hm
  obtain rfl := List.mem_singleton.1 hm
  have hh : typeHandle Tryd.prog 67 = .pointer (some ⟨1, 67, none⟩) := by kernel_rfl
  rw [hh] at e5
  have := World.var?_cell et e5 0
  unfold Glob
  simpa using this
/-- A world that meets the condition: the settled one, the variable's cell laid. -/
noncomputable def laidWorld (os : Os) : World :=
  let w0 := World.holding Tryd.prog os ⟨#[], #[], []⟩
  { w0 with heap := w0.heap.modify 0 fun
      | .cells _ t frozen => .cells #[.iface 102 (.agg #[.pointer (some ⟨1, 67, none⟩)])] t frozen
      | o => o }
theorem laidWorld_met (os : Os) (args : Array Value) : laidMetH Tryd.prog laid ((laidWorld os).forCall (fun _ _ => 0) ⟨#[], args, []⟩).memory :=
  laidMetH_of_parts (laidMet_nil _ _) (by kernel_rfl)

end Go.Proofs.YtoeemngekioldaaDoor.Fs
