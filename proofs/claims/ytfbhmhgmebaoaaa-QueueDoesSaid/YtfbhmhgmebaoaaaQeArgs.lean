/- Arguments of layer 22: what reads as a slice of deeds. -/
import Derived.Test.YtfbhmhgmebaoaaaQeAwake
import Derived.Test.YtfbhmhgmebaoaaaRqArgs
namespace Go.Proofs.Ytfbhmhgmebaoaaa.Qe
set_option maxRecDepth 100000
open Go.ChangeShapes Go.WideShapes Go.ChangeAt Go.RowKit Go.Deep
open Go.Proofs.Ytfbhmhgmebaoaaa.Rw (Rd Ow At)
open Go.Proofs.Ytfbhmhgmebaoaaa.Rq (req_cells)
open Go.Proofs.Ytfbhmhgmebaoaaa.Pa (open_rd)

section
variable {H : Type} {enc : TypeId × Value → H} {W : World} {v : Value} {base : Nat} {sp : Nat → Bool} {held : Bool} {d : DataW H} {p : List MemPlace} {r : Reach} {b0 : Nat}
theorem deed_cells {fuel : Nat} {cs : List Value} {x : DataW H × List MemPlace} (h : DataW.trod enc Try.prog W base sp held fuel 35 cs = some x) : ∃ c : Dd, cs = KD.enc c ∧ 0 ≤ c.k ∧ c.k ≤ 255 := by
  have cq : Try.prog.cellsOf 35 = 11 := by kernel_rfl
  have c1 : Try.prog.cellsOf 5 = 1 := by kernel_rfl
  have c2 : Try.prog.cellsOf 33 = 10 := by kernel_rfl
  obtain ⟨xs, m, _, _, hs, hx, hi⟩ := DataW.trod_struct Try.underlying35 h
  rw [cq] at hs
  match cs, hs, xs, hx, hi with
  | u0 :: us, hs, [x0, x1], _, hi =>
    have e0 : DataW.trod enc Try.prog W base sp held m 5 (((u0 :: us).drop 0).take (Try.prog.cellsOf 5)) = some x0 := hi 0 _ rfl
    have e1 : DataW.trod enc Try.prog W base sp held m 33 (((u0 :: us).drop 1).take (Try.prog.cellsOf 33)) = some x1 := hi 1 _ rfl
    rw [c1] at e0
    rw [c2] at e1
    obtain ⟨a, ha, _, wa⟩ := DataW.trod_int Try.underlying5 (x := x0) e0
    obtain ⟨q, hq, _⟩ := req_cells e1
    have hl : us.length = 10 := by simpa using hs
    simp at ha
    subst ha
    have hq' : us = (Rq.qA q).toList := by rw [← hq]; show us = us.take 10; rw [← hl, List.take_length]
    exact ⟨⟨a, q⟩, by rw [hq']; rfl, bounds_u8 wa⟩
theorem deeds_of (hv : Value.okWide Try.prog W r b0 22 v) (h : DataW.Trod enc Try.prog W base sp held 22 v d p) : ∃ l, Rd KD W v l ∧ ∀ i, i < l.length → 0 ≤ (dd l i).k ∧ (dd l i).k ≤ 255 := by
  obtain ⟨a, len, cap, rfl⟩ := okWide_slice Try.underlying22 hv
  obtain ⟨fuel, hf⟩ := h
  obtain ⟨l, R, hb⟩ := open_rd (K := KD) (fun c => 0 ≤ c.k ∧ c.k ≤ 255) Try.underlying22 (by kernel_rfl) (fun h => deed_cells h) (u := .slice a len cap) hf
  exact ⟨l, R, fun i hi => hb _ (by unfold dd; rw [List.getD_eq_getElem?_getD, List.getElem?_eq_getElem hi]; exact List.getElem_mem hi)⟩
end

end Go.Proofs.Ytfbhmhgmebaoaaa.Qe
