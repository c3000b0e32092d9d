/- Arguments of layer 10: lists of deeds. -/
import Derived.Test.YtoeemngekioldaaDoorFsArgs
import Derived.Test.YtoeemngekioldaaDoorFsDeeds
namespace Go.Proofs.YtoeemngekioldaaDoor.Fs
set_option maxRecDepth 100000
open Go.ChangeShapes Go.WideShapes Go.ChangeAt Go.RowKit Go.Deep
open Go.Proofs.YtoeemngekioldaaDoor.Rw (Rd Ow At)
open Go.Proofs.YtoeemngekioldaaDoor.Fl (R4 z4 K4 rec4 okR okL rec_cells recs_of)

instance : Inhabited De := ⟨KD.dft⟩
theorem deedl_of {H : Type} {enc : TypeId × Value → H} {W : World} {u : Value} {base fuel : Nat} {sp : Nat → Bool} {held : Bool} {x : DataW H × List MemPlace}
    (h : DataW.trod enc Tryd.prog W base sp held fuel 22 [u] = some x) : ∃ l, Rd KD W u l ∧ ∀ D ∈ l, D.Ok W := by
  have c10 : Tryd.prog.cellsOf 37 = 10 := by kernel_rfl
  rcases open_slice Tryd.underlying22 h with ⟨e, _⟩ | ⟨a, len, cap, m, n, D, Pl, e, _, hl, hm, hmm, _, hx⟩
  · simp at e
    subst e
    exact ⟨[], Rw.Rd.nil _, fun r hr => by cases hr⟩
  · simp at e
    subst e
    have hlm : len ≤ m := by rw [hmm]; split <;> omega
    have each : ∀ i, i < m → ∃ r : De, r.Ok W ∧ ∀ j u, (KD.enc r)[j]? = some u → W.cell? (a.add (i * 10 + j)) = some u := fun i hi => by
      obtain ⟨cs', h1, h2⟩ := hx i hi
      rw [c10] at h1
      obtain ⟨_, hlen, hcell⟩ := World.cells?_some h1
      obtain ⟨r, rfl, ok⟩ := deed_cells h2
      refine ⟨r, ok, fun j u hu => ?_⟩
      have hj : j < 10 := by have := (List.getElem?_eq_some_iff.1 hu).1; rw [show (KD.enc r).length = 10 from rfl] at this; exact this
      have e := hcell j hj
      rw [add_add] at e
      exact e.trans hu
    obtain ⟨q, hq⟩ := choose_lt each
    have hlen : ((List.range len).map q).length = len := by simp
    have get : ∀ i, i < len → ((List.range len).map q).getD i KD.dft = q i := fun i hi => by simp [List.getD, hi]
    refine ⟨(List.range len).map q, ⟨some a, cap, by rw [hlen], ⟨by rw [hlen]; exact hl, nofun⟩, hm, fun h0 => ?_⟩, fun r hr => ?_⟩
    · rw [hlen] at h0
      obtain ⟨b, off, spot⟩ := a
      have c0 := (hq 0 (by omega)).2 0 _ rfl
      have hs : spot = none := by simpa [Addr.add] using World.cell?_spot c0
      subst hs
      refine ⟨b, off, rfl, fun i hi j u hu => ?_⟩
      rw [hlen] at hi
      have hu' : (KD.enc (q i))[j]? = some u := by rw [← get i hi]; exact hu
      have c := (hq i (by omega)).2 j u hu'
      rw [add_plain] at c
      show W.cell? ⟨b, off + i * 10 + j, none⟩ = some u
      rw [Nat.add_assoc]
      exact c
    · obtain ⟨i, hi, rfl⟩ := List.mem_map.1 hr
      exact (hq i (by have := List.mem_range.1 hi; omega)).1
theorem deeds_of {H : Type} {enc : TypeId × Value → H} {W : World} {v : Value} {base : Nat} {sp : Nat → Bool} {held : Bool} {d : DataW H} {p : List MemPlace} {r : Reach} {b0 : Nat}
    (hv : Value.okWide Tryd.prog W r b0 22 v) (h : DataW.Trod enc Tryd.prog W base sp held 22 v d p) : ∃ l, Rd KD W v l ∧ ∀ D ∈ l, D.Ok W := by
  obtain ⟨a, len, cap, rfl⟩ := okWide_slice Tryd.underlying22 hv
  obtain ⟨fuel, hf⟩ := h
  exact deedl_of (u := .slice a len cap) hf

end Go.Proofs.YtoeemngekioldaaDoor.Fs
