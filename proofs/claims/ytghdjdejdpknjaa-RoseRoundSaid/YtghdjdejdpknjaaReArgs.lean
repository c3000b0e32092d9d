/- Arguments of layer 13: what reads as a slice of numbers. -/
import Derived.Test.YtghdjdejdpknjaaReMem
import Derived.Test.YtghdjdejdpknjaaFlArgs
import Derived.ProofKit
import Derived.OpenShut
import Derived.ChangeOld
import Derived.Deep.Slices
import Derived.WideShapes
namespace Go.Proofs.Ytghdjdejdpknjaa.Re
set_option maxRecDepth 100000
open Go.ChangeShapes Go.WideShapes Go.ChangeAt Go.RowKit Go.Deep
open Go.Proofs.Ytghdjdejdpknjaa.Rw (Rd Ow At)

theorem int_cell {H : Type} {enc : TypeId × Value → H} {W : World} {base fuel : Nat} {sp : Nat → Bool} {held : Bool} {cs : List Value} {x : DataW H × List MemPlace}
    (h : DataW.trod enc Try.prog W base sp held fuel 3 cs = some x) : ∃ r : Int, cs = KI.enc r := by
  obtain ⟨a, ha, _⟩ := DataW.trod_int Try.underlying3 (x := x) h
  exact ⟨a, ha⟩
theorem ints_of {H : Type} {enc : TypeId × Value → H} {W : World} {v : Value} {base : Nat} {sp : Nat → Bool} {held : Bool} {d : DataW H} {p : List MemPlace} {r : Reach} {b0 : Nat}
    (hv : Value.okWide Try.prog W r b0 22 v) (h : DataW.Trod enc Try.prog W base sp held 22 v d p) : ∃ l, Rd KI W v l := by
  have c5 : Try.prog.cellsOf 3 = 1 := by kernel_rfl
  obtain ⟨a0, len0, cap0, rfl⟩ := okWide_slice Try.underlying22 hv
  obtain ⟨fuel, hf⟩ := h
  rcases open_slice Try.underlying22 hf with ⟨e, _⟩ | ⟨a, len, cap, m, n, D, Pl, e, _, hl, hm, hmm, _, hx⟩
  · simp [Value.cells] at e
    obtain ⟨rfl, rfl, rfl⟩ := e
    exact ⟨[], Rw.Rd.nil _⟩
  · simp [Value.cells] at e
    obtain ⟨rfl, rfl, rfl⟩ := e
    have hlm : len0 ≤ m := by rw [hmm]; split <;> omega
    have each : ∀ i, i < m → ∃ r : Int, ∀ j u, (KI.enc r)[j]? = some u → W.cell? (a.add (i * 1 + j)) = some u := fun i hi => by
      obtain ⟨cs', h1, h2⟩ := hx i hi
      rw [c5] at h1
      obtain ⟨_, hlen, hcell⟩ := World.cells?_some h1
      obtain ⟨r, rfl⟩ := int_cell h2
      refine ⟨r, fun j u hu => ?_⟩
      have hj : j < 1 := by have := (List.getElem?_eq_some_iff.1 hu).1; rw [hlen] at this; exact this
      have e := hcell j hj
      rw [add_add] at e
      exact e.trans hu
    obtain ⟨q, hq⟩ := choose_lt each
    have hlen : ((List.range len0).map q).length = len0 := by simp
    have get : ∀ i, i < len0 → ((List.range len0).map q).getD i 0 = q i := fun i hi => by simp [List.getD, hi]
    refine ⟨(List.range len0).map q, ⟨some a, cap0, by rw [hlen], ⟨by rw [hlen]; exact hl, nofun⟩, hm, fun h0 => ?_⟩⟩
    rw [hlen] at h0
    obtain ⟨b, off, spot⟩ := a
    have c0 := (hq 0 (by omega)) 0 _ rfl
    have hs : spot = none := by simpa [Addr.add] using World.cell?_spot c0
    subst hs
    refine ⟨b, off, rfl, fun i hi j u hu => ?_⟩
    rw [hlen] at hi
    have hu' : (KI.enc (q i))[j]? = some u := by rw [← get i hi]; exact hu
    have c := (hq i (by omega)) j u hu'
    rw [add_plain] at c
    show W.cell? ⟨b, off + i * 1 + j, none⟩ = some u
    rw [Nat.add_assoc]
    exact c

end Go.Proofs.Ytghdjdejdpknjaa.Re
