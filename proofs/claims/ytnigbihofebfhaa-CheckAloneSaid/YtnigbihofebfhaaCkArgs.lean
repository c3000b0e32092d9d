/- Arguments of layer 12: what reads as a slice of slices of entries. -/
import Derived.Test.YtnigbihofebfhaaCkMem
import Derived.Test.YtnigbihofebfhaaRoArgs
namespace Go.Proofs.Ytnigbihofebfhaa.Ck
set_option maxRecDepth 100000
open Go.ChangeShapes Go.WideShapes Go.ChangeAt Go.RowKit Go.Deep
open Go.Proofs.Ytnigbihofebfhaa.Ro (E5 K5 ent_cells z5)
open Go.Proofs.Ytnigbihofebfhaa.Rw (Rd Ow At)

theorem head_cells {H : Type} {enc : TypeId × Value → H} {W : World} {base fuel : Nat} {sp : Nat → Bool} {held : Bool} {cs : List Value} {x : DataW H × List MemPlace}
    (_ : cs.length = 1) (h : DataW.trod enc Try.prog W base sp held fuel 35 cs = some x) : ∃ (u : Value) (l : List E5), cs = [u] ∧ Rd K5 W u l := by
  have c5 : Try.prog.cellsOf 30 = 5 := by kernel_rfl
  rcases open_slice Try.underlying35 h with ⟨e, _⟩ | ⟨a, len, cap, m, n, D, Pl, e, _, hl, hm, hmm, _, hx⟩
  · exact ⟨_, [], e, Rw.Rd.nil _⟩
  · subst e
    have hlm : len ≤ m := by rw [hmm]; split <;> omega
    have each : ∀ i, i < m → ∃ r : E5, ∀ j u, (K5.enc r)[j]? = some u → W.cell? (a.add (i * 5 + j)) = some u := fun i hi => by
      obtain ⟨cs', h1, h2⟩ := hx i hi
      rw [c5] at h1
      obtain ⟨_, hlen, hcell⟩ := World.cells?_some h1
      obtain ⟨r, rfl⟩ := ent_cells h2
      refine ⟨r, fun j u hu => ?_⟩
      have hj : j < 5 := by have := (List.getElem?_eq_some_iff.1 hu).1; rw [hlen] at this; exact this
      have e := hcell j hj
      rw [add_add] at e
      exact e.trans hu
    obtain ⟨q, hq⟩ := choose_lt each
    have hlen : ((List.range len).map q).length = len := by simp
    have get : ∀ i, i < len → ((List.range len).map q).getD i z5 = q i := fun i hi => by simp [List.getD, hi]
    refine ⟨_, (List.range len).map q, rfl, some a, cap, by rw [hlen], ⟨by rw [hlen]; exact hl, nofun⟩, hm, fun h0 => ?_⟩
    rw [hlen] at h0
    obtain ⟨b, off, spot⟩ := a
    have c0 := (hq 0 (by omega)) 0 _ rfl
    have hs : spot = none := by simpa [Addr.add] using World.cell?_spot c0
    subst hs
    refine ⟨b, off, rfl, fun i hi j u hu => ?_⟩
    rw [hlen] at hi
    have hu' : (K5.enc (q i))[j]? = some u := by rw [← get i hi]; exact hu
    have c := (hq i (by omega)) j u hu'
    rw [add_plain] at c
    show W.cell? ⟨b, off + i * 5 + j, none⟩ = some u
    rw [Nat.add_assoc]
    exact c
theorem lists_of {H : Type} {enc : TypeId × Value → H} {W : World} {v : Value} {base : Nat} {sp : Nat → Bool} {held : Bool} {d : DataW H} {p : List MemPlace} {r : Reach} {b0 : Nat}
    (hv : Value.okWide Try.prog W r b0 22 v) (h : DataW.Trod enc Try.prog W base sp held 22 v d p) : ∃ L, RdL W v L := by
  have c1 : Try.prog.cellsOf 35 = 1 := by kernel_rfl
  obtain ⟨a0, len0, cap0, rfl⟩ := okWide_slice Try.underlying22 hv
  obtain ⟨fuel, hf⟩ := h
  rcases open_slice Try.underlying22 hf with ⟨e, _⟩ | ⟨a, len, cap, m, n, D, Pl, e, _, hl, hm, hmm, _, hx⟩
  · simp [Value.cells] at e
    obtain ⟨rfl, rfl, rfl⟩ := e
    exact ⟨[], none, 0, rfl, ⟨Nat.le_refl _, fun _ => rfl⟩, by unfold maxLen; omega, fun h => by cases h⟩
  · simp [Value.cells] at e
    obtain ⟨rfl, rfl, rfl⟩ := e
    have hlm : len0 ≤ m := by rw [hmm]; split <;> omega
    have each : ∀ i, i < m → ∃ z : Value × List E5, W.cell? (a.add i) = some z.1 ∧ Rd K5 W z.1 z.2 := fun i hi => by
      obtain ⟨cs', h1, h2⟩ := hx i hi
      rw [c1, Nat.mul_one] at h1
      obtain ⟨_, hlen, hcell⟩ := World.cells?_some h1
      obtain ⟨u, l, rfl, ru⟩ := head_cells hlen h2
      have e := hcell 0 (by omega)
      rw [add_add, Nat.add_zero] at e
      exact ⟨(u, l), e, ru⟩
    obtain ⟨q, hq⟩ := choose_lt each
    have hlen : ((List.range len0).map fun i => (q i).2).length = len0 := by simp
    have get : ∀ i, i < len0 → lat ((List.range len0).map fun i => (q i).2) i = (q i).2 := fun i hi => by simp [lat, List.getD, hi]
    refine ⟨(List.range len0).map fun i => (q i).2, some a, cap0, by rw [hlen], ⟨by rw [hlen]; exact hl, nofun⟩, hm, fun h0 => ?_⟩
    rw [hlen] at h0
    obtain ⟨b, off, spot⟩ := a
    have c0 := (hq 0 (by omega)).1
    have hs : spot = none := by simpa [Addr.add] using World.cell?_spot c0
    subst hs
    refine ⟨b, off, rfl, fun i hi => ?_⟩
    rw [hlen] at hi
    obtain ⟨e1, e2⟩ := hq i (by omega)
    rw [add_plain] at e1
    exact ⟨(q i).1, e1, by rw [get i hi]; exact e2⟩

end Go.Proofs.Ytnigbihofebfhaa.Ck
