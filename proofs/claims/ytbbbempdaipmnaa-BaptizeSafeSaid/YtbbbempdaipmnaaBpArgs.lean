/- Arguments of layer 18: what reads as a slice of bools; a number of 64 bits without a sign. -/
import Derived.Test.YtbbbempdaipmnaaNmArgs
import Derived.Test.YtbbbempdaipmnaaBpRef
namespace Go.Proofs.Ytbbbempdaipmnaa.Bp
set_option maxRecDepth 100000
open Go.ChangeShapes Go.WideShapes Go.ChangeAt Go.RowKit Go.Deep
open Go.Proofs.Ytbbbempdaipmnaa.Rw (Rd Ow At)

theorem bool_cell {H : Type} {enc : TypeId × Value → H} {W : World} {base fuel : Nat} {sp : Nat → Bool} {held : Bool} {cs : List Value} {x : DataW H × List MemPlace}
    (h : DataW.trod enc Try.prog W base sp held fuel 4 cs = some x) : ∃ r : Bool, cs = KG.enc r ∧ True := by
  obtain ⟨a, ha, _⟩ := DataW.trod_bool Try.underlying4 (x := x) h
  exact ⟨a, ha, trivial⟩
theorem bools_of {H : Type} {enc : TypeId × Value → H} {W : World} {v : Value} {base : Nat} {sp : Nat → Bool} {held : Bool} {d : DataW H} {p : List MemPlace} {r : Reach} {b0 : Nat}
    (hv : Value.okWide Try.prog W r b0 23 v) (h : DataW.Trod enc Try.prog W base sp held 23 v d p) : ∃ l, Rd KG W v l := by
  obtain ⟨a0, len0, cap0, rfl⟩ := okWide_slice Try.underlying23 hv
  obtain ⟨fuel, hf⟩ := h
  obtain ⟨l, R, _⟩ := Nm.open_rd (K := KG) (fun _ => True) Try.underlying23 (by kernel_rfl) (fun h => bool_cell h) (by simpa [Value.cells] using hf)
  exact ⟨l, R⟩
theorem bounds_u64 {a : Int} (h : (Lit.int .u64 a).wf = true) : 0 ≤ a ∧ a ≤ 18446744073709551615 := by
  simp only [Lit.wf, Bool.and_eq_true, decide_eq_true_eq] at h
  have h1 := h.1
  have h2 := h.2
  simp [IntKind.min, IntKind.max, IntKind.signed, IntKind.bits] at h1 h2
  omega

end Go.Proofs.Ytbbbempdaipmnaa.Bp
