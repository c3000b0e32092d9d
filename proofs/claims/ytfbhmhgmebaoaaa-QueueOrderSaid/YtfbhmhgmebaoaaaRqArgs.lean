/- Arguments of layer 21: what reads as a slice of bytes, as a request, as a reply. -/
import Derived.Test.YtfbhmhgmebaoaaaRqVal
import Derived.Test.YtfbhmhgmebaoaaaFlArgs
import Derived.Test.YtfbhmhgmebaoaaaOpn
namespace Go.Proofs.Ytfbhmhgmebaoaaa.Rq
set_option maxRecDepth 100000
open Go.ChangeShapes Go.WideShapes Go.ChangeAt Go.RowKit Go.Deep
open Go.Proofs.Ytfbhmhgmebaoaaa.Rw (Rd Ow At)
open Go.Proofs.Ytfbhmhgmebaoaaa.Fl (R4 z4 K4 rec_cells)
open Go.Proofs.Ytfbhmhgmebaoaaa.Pa (open_rd)

section
variable {H : Type} {enc : TypeId × Value → H} {W : World} {v : Value} {base : Nat} {sp : Nat → Bool} {held : Bool} {d : DataW H} {p : List MemPlace} {r : Reach} {b0 : Nat}
theorem okV_of {x : R4} (h : Fl.okR x) : okV x := by
  unfold Fl.okR at h
  unfold okV
  omega
theorem req_cells {fuel : Nat} {cs : List Value} {x : DataW H × List MemPlace} (h : DataW.trod enc Try.prog W base sp held fuel 33 cs = some x) : ∃ q, cs = (qA q).toList ∧ okV q.v := by
  have cq : Try.prog.cellsOf 33 = 10 := by kernel_rfl
  have c1 : Try.prog.cellsOf 3 = 1 := by kernel_rfl
  have c4 : Try.prog.cellsOf 31 = 4 := by kernel_rfl
  obtain ⟨xs, m, _, _, hs, hx, hi⟩ := DataW.trod_struct Try.underlying33 h
  rw [cq] at hs
  match cs, hs, xs, hx, hi with
  | [u0, u1, u2, u3, u4, u5, u6, u7, u8, u9], _, [x0, x1, x2, x3, x4, x5, x6], _, hi =>
    have e0 : DataW.trod enc Try.prog W base sp held m 3 (([u0, u1, u2, u3, u4, u5, u6, u7, u8, u9].drop 0).take (Try.prog.cellsOf 3)) = some x0 := hi 0 _ rfl
    have e1 : DataW.trod enc Try.prog W base sp held m 3 (([u0, u1, u2, u3, u4, u5, u6, u7, u8, u9].drop 1).take (Try.prog.cellsOf 3)) = some x1 := hi 1 _ rfl
    have e2 : DataW.trod enc Try.prog W base sp held m 3 (([u0, u1, u2, u3, u4, u5, u6, u7, u8, u9].drop 2).take (Try.prog.cellsOf 3)) = some x2 := hi 2 _ rfl
    have e3 : DataW.trod enc Try.prog W base sp held m 3 (([u0, u1, u2, u3, u4, u5, u6, u7, u8, u9].drop 3).take (Try.prog.cellsOf 3)) = some x3 := hi 3 _ rfl
    have e4 : DataW.trod enc Try.prog W base sp held m 3 (([u0, u1, u2, u3, u4, u5, u6, u7, u8, u9].drop 4).take (Try.prog.cellsOf 3)) = some x4 := hi 4 _ rfl
    have e5 : DataW.trod enc Try.prog W base sp held m 31 (([u0, u1, u2, u3, u4, u5, u6, u7, u8, u9].drop 5).take (Try.prog.cellsOf 31)) = some x5 := hi 5 _ rfl
    have e6 : DataW.trod enc Try.prog W base sp held m 3 (([u0, u1, u2, u3, u4, u5, u6, u7, u8, u9].drop 9).take (Try.prog.cellsOf 3)) = some x6 := hi 6 _ rfl
    rw [c1] at e0 e1 e2 e3 e4 e6
    rw [c4] at e5
    obtain ⟨a0, h0, _⟩ := DataW.trod_int Try.underlying3 (x := x0) e0
    obtain ⟨a1, h1, _⟩ := DataW.trod_int Try.underlying3 (x := x1) e1
    obtain ⟨a2, h2, _⟩ := DataW.trod_int Try.underlying3 (x := x2) e2
    obtain ⟨a3, h3, _⟩ := DataW.trod_int Try.underlying3 (x := x3) e3
    obtain ⟨a4, h4, _⟩ := DataW.trod_int Try.underlying3 (x := x4) e4
    obtain ⟨q, h5, ok⟩ := rec_cells e5
    obtain ⟨a6, h6, _⟩ := DataW.trod_int Try.underlying3 (x := x6) e6
    simp [K4] at h0 h1 h2 h3 h4 h5 h6
    obtain ⟨rfl, rfl, rfl, rfl⟩ := h5
    subst h0 h1 h2 h3 h4 h6
    exact ⟨⟨a0, a1, a2, a3, a4, q, a6⟩, rfl, okV_of ok⟩
theorem req_of (hv : Value.okWide Try.prog W r b0 33 v) (h : DataW.Trod enc Try.prog W base sp held 33 v d p) : ∃ x, v = qV x ∧ okV x.v := by
  obtain ⟨⟨l⟩, rfl, hs⟩ := WideShapes.okWide_struct Try.underlying33 hv
  obtain ⟨fuel, hf⟩ := h
  obtain ⟨q, e, ok⟩ := req_cells hf
  exact ⟨q, by show Value.agg _ = Value.agg (qA q); congr 1; exact Array.toList_inj.1 e, ok⟩
end

end Go.Proofs.Ytfbhmhgmebaoaaa.Rq
