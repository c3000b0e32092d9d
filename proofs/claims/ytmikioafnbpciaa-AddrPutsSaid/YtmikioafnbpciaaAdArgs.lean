/- Arguments of layer 8: what reads as an address, as a pair of bytes. -/
import Derived.Test.YtmikioafnbpciaaAdRef
import Derived.ProofKit
import Derived.OpenShut
import Derived.ChangeOld
import Derived.Deep.SlicePairs
import Derived.WideShapes
namespace Go.Proofs.Ytmikioafnbpciaa.Ad
open Go.ChangeShapes Go.WideShapes Go.ChangeAt Go.RowKit Go.Deep

theorem okWide_array {P : Program} {w : World} {r : Reach} {base n : Nat} {t e : TypeId} {v : Value} (ht : P.underlying t = some (.array n e)) (h : Value.okWide P w r base t v) : ∃ cs, v = .agg cs ∧ cs.size = P.cellsOf t := by
  simp only [Value.okWide, ht] at h
  obtain ⟨cs, h1, h2, _⟩ := h
  exact ⟨cs, h1, h2⟩
theorem addr_of {H : Type} {enc : TypeId × Value → H} {W : World} {v : Value} {base : Nat} {sp : Nat → Bool} {held : Bool} {d : DataW H} {p : List MemPlace} {r : Reach} {b0 : Nat}
    (hv : Value.okWide Try.prog W r b0 23 v) (h : DataW.Trod enc Try.prog W base sp held 23 v d p) : ∃ o f r, v = addr o f r := by
  obtain ⟨⟨l⟩, rfl, hs⟩ := WideShapes.okWide_struct Try.underlying23 hv
  have c3 : Try.prog.cellsOf 23 = 3 := by kernel_rfl
  have c1 : Try.prog.cellsOf 3 = 1 := by kernel_rfl
  rw [c3] at hs
  obtain ⟨fuel, hf⟩ := h
  obtain ⟨xs, m, _, _, _, hx, hi⟩ := DataW.trod_struct Try.underlying23 hf
  match l, hs, xs, hx, hi with
  | [u, v, w], _, [x0, x1, x2], _, hi =>
    have e0 : DataW.trod enc Try.prog W base sp held m 3 (([u, v, w].drop 0).take (Try.prog.cellsOf 3)) = some x0 := hi 0 _ rfl
    have e1 : DataW.trod enc Try.prog W base sp held m 3 (([u, v, w].drop 1).take (Try.prog.cellsOf 3)) = some x1 := hi 1 _ rfl
    have e2 : DataW.trod enc Try.prog W base sp held m 3 (([u, v, w].drop 2).take (Try.prog.cellsOf 3)) = some x2 := hi 2 _ rfl
    rw [c1] at e0 e1 e2
    obtain ⟨a, ha, _⟩ := DataW.trod_int Try.underlying3 (x := x0) e0
    obtain ⟨b, hb, _⟩ := DataW.trod_int Try.underlying3 (x := x1) e1
    obtain ⟨c, hc, _⟩ := DataW.trod_int Try.underlying3 (x := x2) e2
    simp at ha hb hc
    subst ha hb hc
    exact ⟨a, b, c, rfl⟩
theorem pair_of {H : Type} {enc : TypeId × Value → H} {W : World} {v : Value} {base : Nat} {sp : Nat → Bool} {held : Bool} {d : DataW H} {p : List MemPlace} {r : Reach} {b0 : Nat}
    (hv : Value.okWide Try.prog W r b0 24 v) (h : DataW.Trod enc Try.prog W base sp held 24 v d p) : ∃ a b, v = pair a b ∧ (0 ≤ a ∧ a ≤ 255) ∧ (0 ≤ b ∧ b ≤ 255) := by
  obtain ⟨⟨l⟩, rfl, hs⟩ := okWide_array Try.underlying24 hv
  have c2 : Try.prog.cellsOf 24 = 2 := by kernel_rfl
  have c1 : Try.prog.cellsOf 5 = 1 := by kernel_rfl
  rw [c2] at hs
  obtain ⟨fuel, hf⟩ := h
  obtain ⟨xs, m, _, _, _, hx, hi⟩ := DataW.trod_array Try.underlying24 hf
  match l, hs, xs, hx, hi with
  | [u, v], _, [x0, x1], _, hi =>
    have e0 := hi 0 (by omega)
    have e1 := hi 1 (by omega)
    rw [c1] at e0 e1
    obtain ⟨a, ha, _, wa⟩ := DataW.trod_int Try.underlying5 (x := x0) e0
    obtain ⟨b, hb, _, wb⟩ := DataW.trod_int Try.underlying5 (x := x1) e1
    simp [Value.cells] at ha hb
    subst ha hb
    exact ⟨a, b, rfl, bounds_u8 wa, bounds_u8 wb⟩

end Go.Proofs.Ytmikioafnbpciaa.Ad
