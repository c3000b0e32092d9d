/- The two statements of layer 1, proved: TickCounts and TickRound return true for every input that can be read, and every argument reads as it did. No condition. -/
import Derived.Test.YtkhgaacokbebiaaRows
import Derived.Test.YtkhgaacokbebiaaTkLaws
import Derived.ProofKit
import Derived.OpenShut
import Derived.ChangeOld
import Derived.Deep.SlicePairs
namespace Go.Proofs.Ytkhgaacokbebiaa.Tk
open Go.ChangeShapes Go.WideShapes Go.ChangeAt Go.RowKit Go.Deep

theorem own : ownKnob Try.prog.godebug = none := by kernel_rfl
theorem laidOut : laidOutB Try.prog = true := by kernel_rfl

/-- What reads as a slice of steps lies in memory as one. -/
theorem steps_of {H : Type} {enc : TypeId × Value → H} {W : World} {v : Value} {base : Nat} {sp : Nat → Bool} {held : Bool} {d : DataW H} {p : List MemPlace} {r : Reach} {b0 : Nat}
    (hv : Value.okWide Try.prog W r b0 22 v) (h : DataW.Trod enc Try.prog W base sp held 22 v d p) : ∃ n A R, Steps W v n A R := by
  obtain ⟨a, len, cap, rfl⟩ := okWide_slice Try.underlying22 hv
  obtain ⟨fuel, hf⟩ := h
  rcases open_slice_pairs Try.underlying22 Try.underlying40 (by kernel_rfl) rfl rfl (by kernel_rfl) (by kernel_rfl) hf with ⟨hcs, _⟩ | ⟨x, l, c, m, n, V0, V1, D0, D1, P0, P1, hcs, _, hl, hm, hmm, _, hi⟩
  · simp [Value.cells] at hcs
    obtain ⟨rfl, rfl, rfl⟩ := hcs
    exact ⟨0, fun _ => 0, fun _ => 0, .inl ⟨_, _, rfl, Nat.zero_le _, rfl⟩⟩
  · simp [Value.cells] at hcs
    obtain ⟨rfl, rfl, rfl⟩ := hcs
    have hlm : len ≤ m := by rw [hmm]; split <;> omega
    by_cases h0 : len = 0
    · subst h0
      exact ⟨0, fun _ => 0, fun _ => 0, .inl ⟨_, _, rfl, hm, rfl⟩⟩
    · obtain ⟨b, off, spot⟩ := x
      have c0 := (hi 0 (by omega)).1
      have hs : spot = none := by simpa [Addr.add] using World.cell?_spot c0
      subst hs
      refine ⟨len, fun i => intOf (V0 i), fun i => intOf (V1 i), .inr ⟨b, off, cap, rfl, hl, hm, fun i hlt => ?_⟩⟩
      obtain ⟨c1, c2, t1, t2⟩ := hi i (by omega)
      obtain ⟨x1, e1, _, _⟩ := DataW.trod_int Try.underlying3 t1
      obtain ⟨x2, e2, _, _⟩ := DataW.trod_int Try.underlying3 t2
      simp only [List.cons.injEq, and_true] at e1 e2
      rw [e1] at c1
      rw [e2] at c2
      show W.cell? _ = some (.int .i64 (intOf (V0 i))) ∧ W.cell? _ = some (.int .i64 (intOf (V1 i)))
      rw [e1, e2]
      rw [add_plain] at c1 c2
      exact ⟨c1, by rw [Nat.add_assoc]; exact c2⟩

end Go.Proofs.Ytkhgaacokbebiaa.Tk
