/- A slice opened, its elements of any kind. -/
import Derived.Test.YtfbhmhgmebaoaaaRw
import Derived.Test.YtfbhmhgmebaoaaaChecked
import Derived.ProofKit
import Derived.OpenShut
import Derived.ChangeOld
import Derived.Deep.Slices
import Derived.WideShapes
namespace Go.Proofs.Ytfbhmhgmebaoaaa.Pa
set_option maxRecDepth 100000
open Go.ChangeShapes Go.WideShapes Go.ChangeAt Go.RowKit Go.Deep
open Go.Proofs.Ytfbhmhgmebaoaaa.Rw (Rd Ow At)

/-- A slice opened, its elements of any kind. -/
theorem open_rd {α : Type} {K : Rw.Kind α} (Q : α → Prop) {H : Type} {enc : TypeId × Value → H} {W : World} {u : Value} {base fuel : Nat} {sp : Nat → Bool} {held : Bool} {x : DataW H × List MemPlace} {T E : TypeId}
    (hu : Try.prog.underlying T = some (.slice E)) (hc : Try.prog.cellsOf E = K.n) (el : ∀ {n : Nat} {cs : List Value} {y : DataW H × List MemPlace}, DataW.trod enc Try.prog W base sp held n E cs = some y → ∃ r : α, cs = K.enc r ∧ Q r)
    (h : DataW.trod enc Try.prog W base sp held fuel T [u] = some x) : ∃ l, Rd K W u l ∧ ∀ r ∈ l, Q r := by
  rcases open_slice hu h with ⟨e, _⟩ | ⟨a, len, cap, m, n, D, Pl, e, _, hl, hm, hmm, _, hx⟩
  · simp at e
    subst e
    exact ⟨[], Rw.Rd.nil _, fun r hr => by cases hr⟩
  · simp at e
    subst e
    have hlm : len ≤ m := by rw [hmm]; split <;> omega
    have each : ∀ i, i < m → ∃ r : α, Q r ∧ ∀ j u, (K.enc r)[j]? = some u → W.cell? (a.add (i * K.n + j)) = some u := fun i hi => by
      obtain ⟨cs', h1, h2⟩ := hx i hi
      rw [hc] at h1
      obtain ⟨_, hlen, hcell⟩ := World.cells?_some h1
      obtain ⟨r, rfl, ok⟩ := el h2
      refine ⟨r, ok, fun j u hu => ?_⟩
      have hj : j < K.n := by have := (List.getElem?_eq_some_iff.1 hu).1; rw [hlen] at this; exact this
      have e := hcell j hj
      rw [add_add] at e
      exact e.trans hu
    haveI : Inhabited α := ⟨K.dft⟩
    obtain ⟨q, hq⟩ := choose_lt each
    have hlen : ((List.range len).map q).length = len := by simp
    have get : ∀ i, i < len → ((List.range len).map q).getD i K.dft = q i := fun i hi => by simp [List.getD, hi]
    refine ⟨(List.range len).map q, ⟨some a, cap, by rw [hlen], ⟨by rw [hlen]; exact hl, nofun⟩, hm, fun h0 => ?_⟩, fun r hr => ?_⟩
    · rw [hlen] at h0
      obtain ⟨b, off, spot⟩ := a
      have hp : 0 < (K.enc (q 0)).length := by rw [K.len]; exact K.pos
      have c0 := (hq 0 (by omega)).2 0 _ (List.getElem?_eq_getElem hp)
      have hs : spot = none := by simpa [Addr.add] using World.cell?_spot c0
      subst hs
      refine ⟨b, off, rfl, fun i hi j u hu => ?_⟩
      rw [hlen] at hi
      have hu' : (K.enc (q i))[j]? = some u := by rw [← get i hi]; exact hu
      have c := (hq i (by omega)).2 j u hu'
      rw [add_plain] at c
      show W.cell? ⟨b, off + i * K.n + j, none⟩ = some u
      rw [Nat.add_assoc]
      exact c
    · obtain ⟨i, hi, rfl⟩ := List.mem_map.1 hr
      exact (hq i (by have := List.mem_range.1 hi; omega)).1

end Go.Proofs.Ytfbhmhgmebaoaaa.Pa
