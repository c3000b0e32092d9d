/- Arguments of layer 11: what reads as an entry, as a slice of entries. -/
import Derived.Test.YtnigbihofebfhaaRoMem
import Derived.Test.YtnigbihofebfhaaFlArgs
import Derived.ProofKit
import Derived.OpenShut
import Derived.ChangeOld
import Derived.Deep.Slices
import Derived.WideShapes
namespace Go.Proofs.Ytnigbihofebfhaa.Ro
set_option maxRecDepth 100000
open Go.ChangeShapes Go.WideShapes Go.ChangeAt Go.RowKit Go.Deep
open Go.Proofs.Ytnigbihofebfhaa.Rw (Rd Ow At)

theorem ent_cells {H : Type} {enc : TypeId × Value → H} {W : World} {base fuel : Nat} {sp : Nat → Bool} {held : Bool} {cs : List Value} {x : DataW H × List MemPlace}
    (h : DataW.trod enc Try.prog W base sp held fuel 30 cs = some x) : ∃ r : E5, cs = K5.enc r := by
  have c5 : Try.prog.cellsOf 30 = 5 := by kernel_rfl
  have c1 : Try.prog.cellsOf 3 = 1 := by kernel_rfl
  obtain ⟨xs, m, _, _, hs, hx, hi⟩ := DataW.trod_struct Try.underlying30 h
  rw [c5] at hs
  match cs, hs, xs, hx, hi with
  | [u0, u1, u2, u3, u4], _, [x0, x1, x2, x3, x4], _, hi =>
    have e0 : DataW.trod enc Try.prog W base sp held m 3 (([u0, u1, u2, u3, u4].drop 0).take (Try.prog.cellsOf 3)) = some x0 := hi 0 _ rfl
    have e1 : DataW.trod enc Try.prog W base sp held m 3 (([u0, u1, u2, u3, u4].drop 1).take (Try.prog.cellsOf 3)) = some x1 := hi 1 _ rfl
    have e2 : DataW.trod enc Try.prog W base sp held m 3 (([u0, u1, u2, u3, u4].drop 2).take (Try.prog.cellsOf 3)) = some x2 := hi 2 _ rfl
    have e3 : DataW.trod enc Try.prog W base sp held m 3 (([u0, u1, u2, u3, u4].drop 3).take (Try.prog.cellsOf 3)) = some x3 := hi 3 _ rfl
    have e4 : DataW.trod enc Try.prog W base sp held m 3 (([u0, u1, u2, u3, u4].drop 4).take (Try.prog.cellsOf 3)) = some x4 := hi 4 _ rfl
    rw [c1] at e0 e1 e2 e3 e4
    obtain ⟨a, ha, _⟩ := DataW.trod_int Try.underlying3 (x := x0) e0
    obtain ⟨b, hb, _⟩ := DataW.trod_int Try.underlying3 (x := x1) e1
    obtain ⟨c, hc, _⟩ := DataW.trod_int Try.underlying3 (x := x2) e2
    obtain ⟨d, hd, _⟩ := DataW.trod_int Try.underlying3 (x := x3) e3
    obtain ⟨e, he, _⟩ := DataW.trod_int Try.underlying3 (x := x4) e4
    simp at ha hb hc hd he
    subst ha hb hc hd he
    exact ⟨(a, b, c, d, e), rfl⟩
theorem ent_of {H : Type} {enc : TypeId × Value → H} {W : World} {v : Value} {base : Nat} {sp : Nat → Bool} {held : Bool} {d : DataW H} {p : List MemPlace} {r : Reach} {b0 : Nat}
    (hv : Value.okWide Try.prog W r b0 30 v) (h : DataW.Trod enc Try.prog W base sp held 30 v d p) : ∃ x : E5, v = ent x := by
  obtain ⟨⟨l⟩, rfl, hs⟩ := WideShapes.okWide_struct Try.underlying30 hv
  obtain ⟨fuel, hf⟩ := h
  obtain ⟨x, e⟩ := ent_cells hf
  have e' : l = K5.enc x := e
  subst e'
  exact ⟨x, rfl⟩
theorem ents_of {H : Type} {enc : TypeId × Value → H} {W : World} {v : Value} {base : Nat} {sp : Nat → Bool} {held : Bool} {d : DataW H} {p : List MemPlace} {r : Reach} {b0 : Nat}
    (hv : Value.okWide Try.prog W r b0 35 v) (h : DataW.Trod enc Try.prog W base sp held 35 v d p) : ∃ l, Rd K5 W v l := by
  have c5 : Try.prog.cellsOf 30 = 5 := by kernel_rfl
  obtain ⟨a0, len0, cap0, rfl⟩ := okWide_slice Try.underlying35 hv
  obtain ⟨fuel, hf⟩ := h
  rcases open_slice Try.underlying35 hf with ⟨e, _⟩ | ⟨a, len, cap, m, n, D, Pl, e, _, hl, hm, hmm, _, hx⟩
  · simp [Value.cells] at e
    obtain ⟨rfl, rfl, rfl⟩ := e
    exact ⟨[], Rw.Rd.nil _⟩
  · simp [Value.cells] at e
    obtain ⟨rfl, rfl, rfl⟩ := e
    have hlm : len0 ≤ m := by rw [hmm]; split <;> omega
    have each : ∀ i, i < m → ∃ r : E5, ∀ j u, (K5.enc r)[j]? = some u → W.cell? (a.add (i * 5 + j)) = some u := fun i hi => by
      obtain ⟨cs', h1, h2⟩ := hx i hi
      rw [c5] at h1
      obtain ⟨_, hlen, hcell⟩ := World.cells?_some h1
      obtain ⟨r, rfl⟩ := ent_cells h2
      refine ⟨r, fun j u hu => ?_⟩
      have hj : j < 5 := by have := (List.getElem?_eq_some_iff.1 hu).1; rw [hlen] at this; exact this
      have e := hcell j hj
      rw [add_add] at e
      exact e.trans hu
    obtain ⟨q, hq⟩ := choose_lt each
    have hlen : ((List.range len0).map q).length = len0 := by simp
    have get : ∀ i, i < len0 → ((List.range len0).map q).getD i z5 = q i := fun i hi => by simp [List.getD, hi]
    refine ⟨(List.range len0).map q, ⟨some a, cap0, by rw [hlen], ⟨by rw [hlen]; exact hl, nofun⟩, hm, fun h0 => ?_⟩⟩
    rw [hlen] at h0
    obtain ⟨b, off, spot⟩ := a
    have c0 := (hq 0 (by omega)) 0 _ rfl
    have hs : spot = none := by simpa [Addr.add] using World.cell?_spot c0
    subst hs
    refine ⟨b, off, rfl, fun i hi j u hu => ?_⟩
    rw [hlen] at hi
    have hu' : (K5.enc (q i))[j]? = some u := by rw [← get i hi]; exact hu
    have c := (hq i (by omega)) j u hu'
    rw [add_plain] at c
    show W.cell? ⟨b, off + i * 5 + j, none⟩ = some u
    rw [Nat.add_assoc]
    exact c

end Go.Proofs.Ytnigbihofebfhaa.Ro
