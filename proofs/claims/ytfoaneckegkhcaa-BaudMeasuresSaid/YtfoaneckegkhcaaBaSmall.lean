/- baud.Fits, and what baud.Falls searches by. -/
import Derived.Test.YtfoaneckegkhcaaSrch
import Derived.BigQuiet
import Derived.Deep.QuietTactic
namespace Go.Proofs.Ytfoaneckegkhcaa.Ba
open Go.RowKit Go.Proofs.Ytfoaneckegkhcaa.Sp
open Go.Proofs.Ytfoaneckegkhcaa.Srch (PredN Found FoundPost search_any)

def fitsB (n : Int) : Bool := decide (124 ≤ n) && decide (n ≤ 132)
theorem fits_any (w : World) (n : Int) : Calls Try.prog 12 #[.int .i64 n] w fun e w' => e = .returned (.bool (fitsB n)) ∧ Below w.heap.size w w' := by
  by_cases h1 : 124 ≤ n
  · by_cases h2 : n ≤ 132
    · have e : fitsB n = true := by simp [fitsB, h1, h2]
      rw [e]
      clear e
      go_enter Try.func12, Try.ntmps12
      go_wp2
      go_ret
      exact ⟨rfl, Below.refl _ _⟩
    · have e : fitsB n = false := by simp [fitsB, h2]
      rw [e]
      clear e
      go_enter Try.func12, Try.ntmps12
      go_wp2
      go_ret
      exact ⟨rfl, Below.refl _ _⟩
  · have e : fitsB n = false := by simp [fitsB, h1]
    rw [e]
    clear e
    go_enter Try.func12, Try.ntmps12
    go_wp2
    go_ret
    exact ⟨rfl, Below.refl _ _⟩

/-- Does the span at a place begin from f on? -/
def fromF (x : List S2) (f : Int) (i : Int) : Bool := decide (f ≤ fr x i.toNat)
set_option maxHeartbeats 1000000 in
theorem bclos_any (w : World) (bp bf : Nat) (f : Int) (v : Value) (x : List S2) (hf : w.cell? ⟨bf, 0, none⟩ = some (.int .i64 f)) (hv : w.cell? ⟨bp, 0, none⟩ = some v) (h : Sp w v x) :
    PredN 20 #[.pointer (some ⟨bp, 0, none⟩), .pointer (some ⟨bf, 0, none⟩)] (fromF x f) x.length w := fun W i i0 i1 hb => by
  obtain ⟨k, rfl⟩ := Int.eq_ofNat_of_zero_le i0
  have d1 := (hb.cell (World.block_lt_of_cell? _ _ hf)).trans hf
  have d2 := (hb.cell (World.block_lt_of_cell? _ _ hv)).trans hv
  have hk : k < x.length := by omega
  obtain ⟨a1, cap, rfl, q1, q2, hA0⟩ := h.below hb
  obtain ⟨b, off, rfl, hA⟩ := hA0 (by omega)
  have HA0 := Lib.hid hA0
  clear hA0
  have c1 := (hA k hk).1
  have HA := Lib.hid hA
  have HB := Lib.hid hb
  clear hf hv h hA hb i0
  unfold maxLen at q2
  have e : fromF x f (k : Int) = decide (f ≤ fr x k) := rfl
  rw [e]
  clear e
  generalize hn : x.length = n at *
  clear hn
  show Calls Try.prog 20 #[.int .i64 k, .pointer (some ⟨bp, 0, none⟩), .pointer (some ⟨bf, 0, none⟩)] W _
  go_enter Try.func20, Try.ntmps20
  go_wp2
  go_quiet (fail)
  go_wp2
  go_ret
  exact ⟨rfl, below_drewN HB.out _⟩

end Go.Proofs.Ytfoaneckegkhcaa.Ba
