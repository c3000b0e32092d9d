/- What is asked of the code's queue. -/
import Derived.Test.YtfbhmhgmebaoaaaQeVain
namespace Go.Proofs.Ytfbhmhgmebaoaaa.Qe
open Go.RowKit
open Go.Proofs.Ytfbhmhgmebaoaaa.Rq (Q zQ qA qV)

theorem len_any {w : World} {g : Nat} {s : Qs} (h : Cq w g s) (_ : ok s) : Calls Try.prog 13 #[.pointer (some ⟨g, 0, none⟩)] w fun e w' => e = .returned (.int .i64 s.L.length) ∧ Below w.heap.size w w' := len_of h
theorem first_any {w : World} {g : Nat} {s : Qs} (h : Cq w g s) (_ : ok s) : Calls Try.prog 12 #[.pointer (some ⟨g, 0, none⟩)] w fun e w' => e = .returned (.tuple #[qV (fst s), .bool (has s)]) ∧ Below w.heap.size w w' := first_of h

end Go.Proofs.Ytfbhmhgmebaoaaa.Qe
