/- The two statements of layer 1, walked: each returns true and writes nothing that was there. -/
import Derived.Test.YtkhgaacokbebiaaTkAwake
namespace Go.Proofs.Ytkhgaacokbebiaa.Tk
open Go.RowKit

theorem Steps.form {w : World} {v : Value} {n : Nat} {A R : Nat → Int} (S : Steps w v n A R) : ∃ a cap, v = .slice a n cap ∧ n ≤ cap ∧ cap ≤ maxLen := by
  rcases S with ⟨a, cap, rfl, h, rfl⟩ | ⟨b, off, cap, rfl, h, h', _⟩
  · exact ⟨_, _, rfl, Nat.zero_le _, h⟩
  · exact ⟨_, _, rfl, h, h'⟩
theorem Steps.cut {w : World} {a : Option Addr} {n cap : Nat} {A R : Nat → Int} (S : Steps w (.slice a n cap) n A R) (k : Nat) (h : k < n) : Steps w (.slice a k cap) k A R := by
  rcases S with ⟨_, _, _, _, rfl⟩ | ⟨b, off, cap', e, h1, h', hc⟩
  · omega
  · injection e with e1 e2 e3
    subst e1 e3
    exact .inr ⟨b, off, cap, rfl, by omega, h', fun i hi => hc i (by omega)⟩

end Go.Proofs.Ytkhgaacokbebiaa.Tk
