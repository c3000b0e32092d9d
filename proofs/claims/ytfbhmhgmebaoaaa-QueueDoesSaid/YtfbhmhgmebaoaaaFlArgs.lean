/- Arguments of layer 9: what reads as a record, as a file. -/
import Derived.Test.YtfbhmhgmebaoaaaFlSmall
import Derived.ProofKit
import Derived.OpenShut
import Derived.ChangeOld
import Derived.Deep.Slices
import Derived.WideShapes
namespace Go.Proofs.Ytfbhmhgmebaoaaa.Fl
set_option maxRecDepth 100000
open Go.ChangeShapes Go.WideShapes Go.ChangeAt Go.RowKit Go.Deep
open Go.Proofs.Ytfbhmhgmebaoaaa.Rw (Rd Ow At)

theorem okWide_array {P : Program} {w : World} {r : Reach} {base n : Nat} {t e : TypeId} {v : Value} (ht : P.underlying t = some (.array n e)) (h : Value.okWide P w r base t v) : ∃ cs, v = .agg cs ∧ cs.size = P.cellsOf t := by
  simp only [Value.okWide, ht] at h
  obtain ⟨cs, h1, h2, _⟩ := h
  exact ⟨cs, h1, h2⟩
theorem rec_cells {H : Type} {enc : TypeId × Value → H} {W : World} {base fuel : Nat} {sp : Nat → Bool} {held : Bool} {cs : List Value} {x : DataW H × List MemPlace}
    (h : DataW.trod enc Try.prog W base sp held fuel 31 cs = some x) : ∃ r : R4, cs = K4.enc r ∧ okR r := by
  have c4 : Try.prog.cellsOf 31 = 4 := by kernel_rfl
  have c1 : Try.prog.cellsOf 5 = 1 := by kernel_rfl
  obtain ⟨xs, m, _, _, hs, hx, hi⟩ := DataW.trod_array Try.underlying31 h
  rw [c4] at hs
  match cs, hs, xs, hx, hi with
  | [u0, u1, u2, u3], _, [x0, x1, x2, x3], _, hi =>
    have e0 := hi 0 (by omega)
    have e1 := hi 1 (by omega)
    have e2 := hi 2 (by omega)
    have e3 := hi 3 (by omega)
    rw [c1] at e0 e1 e2 e3
    obtain ⟨a, ha, _, wa⟩ := DataW.trod_int Try.underlying5 (x := x0) e0
    obtain ⟨b, hb, _, wb⟩ := DataW.trod_int Try.underlying5 (x := x1) e1
    obtain ⟨c, hc, _, wc⟩ := DataW.trod_int Try.underlying5 (x := x2) e2
    obtain ⟨d, hd, _, wd⟩ := DataW.trod_int Try.underlying5 (x := x3) e3
    simp at ha hb hc hd
    subst ha hb hc hd
    exact ⟨(a, b, c, d), rfl, bounds_u8 wa, bounds_u8 wb, bounds_u8 wc, bounds_u8 wd⟩
theorem rec_of {H : Type} {enc : TypeId × Value → H} {W : World} {v : Value} {base : Nat} {sp : Nat → Bool} {held : Bool} {d : DataW H} {p : List MemPlace} {r : Reach} {b0 : Nat}
    (hv : Value.okWide Try.prog W r b0 31 v) (h : DataW.Trod enc Try.prog W base sp held 31 v d p) : ∃ x : R4, v = rec4 x ∧ okR x := by
  obtain ⟨⟨l⟩, rfl, hs⟩ := okWide_array Try.underlying31 hv
  obtain ⟨fuel, hf⟩ := h
  obtain ⟨x, e, ok⟩ := rec_cells hf
  have e' := e
  subst e'
  exact ⟨x, rfl, ok⟩
end Go.Proofs.Ytfbhmhgmebaoaaa.Fl
