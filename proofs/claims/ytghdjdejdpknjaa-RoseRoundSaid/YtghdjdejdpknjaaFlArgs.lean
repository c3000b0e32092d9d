/- Arguments of layer 9: what reads as a record, as a file. -/
import Derived.Test.YtghdjdejdpknjaaFlSmall
import Derived.ProofKit
import Derived.OpenShut
import Derived.ChangeOld
import Derived.Deep.Slices
import Derived.WideShapes
namespace Go.Proofs.Ytghdjdejdpknjaa.Fl
set_option maxRecDepth 100000
open Go.ChangeShapes Go.WideShapes Go.ChangeAt Go.RowKit Go.Deep
open Go.Proofs.Ytghdjdejdpknjaa.Rw (Rd Ow At)

theorem okWide_array {P : Program} {w : World} {r : Reach} {base n : Nat} {t e : TypeId} {v : Value} (ht : P.underlying t = some (.array n e)) (h : Value.okWide P w r base t v) : ∃ cs, v = .agg cs ∧ cs.size = P.cellsOf t := by
  simp only [Value.okWide, ht] at h
  obtain ⟨cs, h1, h2, _⟩ := h
  exact ⟨cs, h1, h2⟩
theorem rec_cells {H : Type} {enc : TypeId × Value → H} {W : World} {base fuel : Nat} {sp : Nat → Bool} {held : Bool} {cs : List Value} {x : DataW H × List MemPlace}
    (h : DataW.trod enc Try.prog W base sp held fuel 47 cs = some x) : ∃ r : R4, cs = K4.enc r ∧ okR r := by
  have c4 : Try.prog.cellsOf 47 = 4 := by kernel_rfl
  have c1 : Try.prog.cellsOf 5 = 1 := by kernel_rfl
  obtain ⟨xs, m, _, _, hs, hx, hi⟩ := DataW.trod_array Try.underlying47 h
  rw [c4] at hs
  match cs, hs, xs, hx, hi with
  | [u0, u1, u2, u3], _, [x0, x1, x2, x3], _, hi =>
    have e0 := hi 0 (by omega)
    have e1 := hi 1 (by omega)
    have e2 := hi 2 (by omega)
    have e3 := hi 3 (by omega)
    rw [c1] at e0 e1 e2 e3
    obtain ⟨a, ha, _, wa⟩ := DataW.trod_int Try.underlying5 (x := x0) e0
    obtain ⟨b, hb, _, wb⟩ := DataW.trod_int Try.underlying5 (x := x1) e1
    obtain ⟨c, hc, _, wc⟩ := DataW.trod_int Try.underlying5 (x := x2) e2
    obtain ⟨d, hd, _, wd⟩ := DataW.trod_int Try.underlying5 (x := x3) e3
    simp at ha hb hc hd
    subst ha hb hc hd
    exact ⟨(a, b, c, d), rfl, bounds_u8 wa, bounds_u8 wb, bounds_u8 wc, bounds_u8 wd⟩
theorem rec_of {H : Type} {enc : TypeId × Value → H} {W : World} {v : Value} {base : Nat} {sp : Nat → Bool} {held : Bool} {d : DataW H} {p : List MemPlace} {r : Reach} {b0 : Nat}
    (hv : Value.okWide Try.prog W r b0 47 v) (h : DataW.Trod enc Try.prog W base sp held 47 v d p) : ∃ x : R4, v = rec4 x ∧ okR x := by
  obtain ⟨⟨l⟩, rfl, hs⟩ := okWide_array Try.underlying47 hv
  obtain ⟨fuel, hf⟩ := h
  obtain ⟨x, e, ok⟩ := rec_cells hf
  have e' : l = K4.enc x := e
  subst e'
  exact ⟨x, rfl, ok⟩
theorem recs_of {H : Type} {enc : TypeId × Value → H} {W : World} {u : Value} {base fuel : Nat} {sp : Nat → Bool} {held : Bool} {x : DataW H × List MemPlace}
    (h : DataW.trod enc Try.prog W base sp held fuel 23 [u] = some x) : ∃ l, Rd K4 W u l ∧ okL l := by
  have c4 : Try.prog.cellsOf 47 = 4 := by kernel_rfl
  rcases open_slice Try.underlying23 h with ⟨e, _⟩ | ⟨a, len, cap, m, n, D, Pl, e, _, hl, hm, hmm, _, hx⟩
  · simp at e
    subst e
    exact ⟨[], Rw.Rd.nil _, fun r hr => by cases hr⟩
  · simp at e
    subst e
    have hlm : len ≤ m := by rw [hmm]; split <;> omega
    have each : ∀ i, i < m → ∃ r : R4, okR r ∧ ∀ j u, (K4.enc r)[j]? = some u → W.cell? (a.add (i * 4 + j)) = some u := fun i hi => by
      obtain ⟨cs', h1, h2⟩ := hx i hi
      rw [c4] at h1
      obtain ⟨_, hlen, hcell⟩ := World.cells?_some h1
      obtain ⟨r, rfl, ok⟩ := rec_cells h2
      refine ⟨r, ok, fun j u hu => ?_⟩
      have hj : j < 4 := by have := (List.getElem?_eq_some_iff.1 hu).1; rw [hlen] at this; exact this
      have e := hcell j hj
      rw [add_add] at e
      exact e.trans hu
    obtain ⟨q, hq⟩ := choose_lt each
    have hlen : ((List.range len).map q).length = len := by simp
    have get : ∀ i, i < len → ((List.range len).map q).getD i z4 = q i := fun i hi => by simp [List.getD, hi]
    refine ⟨(List.range len).map q, ⟨some a, cap, by rw [hlen], ⟨by rw [hlen]; exact hl, nofun⟩, hm, fun h0 => ?_⟩, fun r hr => ?_⟩
    · rw [hlen] at h0
      obtain ⟨b, off, spot⟩ := a
      have c0 := (hq 0 (by omega)).2 0 _ rfl
      have hs : spot = none := by simpa [Addr.add] using World.cell?_spot c0
      subst hs
      refine ⟨b, off, rfl, fun i hi j u hu => ?_⟩
      rw [hlen] at hi
      have hu' : (K4.enc (q i))[j]? = some u := by rw [← get i hi]; exact hu
      have c := (hq i (by omega)).2 j u hu'
      rw [add_plain] at c
      show W.cell? ⟨b, off + i * 4 + j, none⟩ = some u
      rw [Nat.add_assoc]
      exact c
    · obtain ⟨i, hi, rfl⟩ := List.mem_map.1 hr
      exact (hq i (by have := List.mem_range.1 hi; omega)).1
theorem file_of {H : Type} {enc : TypeId × Value → H} {W : World} {v : Value} {base : Nat} {sp : Nat → Bool} {held : Bool} {d : DataW H} {p : List MemPlace} {r : Reach} {b0 : Nat}
    (hv : Value.okWide Try.prog W r b0 25 v) (h : DataW.Trod enc Try.prog W base sp held 25 v d p) : ∃ q u l, v = file q u ∧ Rd K4 W u l ∧ okL l := by
  obtain ⟨⟨l⟩, rfl, hs⟩ := WideShapes.okWide_struct Try.underlying25 hv
  have c2 : Try.prog.cellsOf 25 = 2 := by kernel_rfl
  have c1 : Try.prog.cellsOf 3 = 1 := by kernel_rfl
  have c3 : Try.prog.cellsOf 23 = 1 := by kernel_rfl
  rw [c2] at hs
  obtain ⟨fuel, hf⟩ := h
  obtain ⟨xs, m, _, _, _, hx, hi⟩ := DataW.trod_struct Try.underlying25 hf
  match l, hs, xs, hx, hi with
  | [u, v], _, [x0, x1], _, hi =>
    have e0 : DataW.trod enc Try.prog W base sp held m 3 (([u, v].drop 0).take (Try.prog.cellsOf 3)) = some x0 := hi 0 _ rfl
    have e1 : DataW.trod enc Try.prog W base sp held m 23 (([u, v].drop 1).take (Try.prog.cellsOf 23)) = some x1 := hi 1 _ rfl
    rw [c1] at e0
    rw [c3] at e1
    obtain ⟨a, ha, _⟩ := DataW.trod_int Try.underlying3 (x := x0) e0
    simp at ha
    subst ha
    obtain ⟨l, R, ok⟩ := recs_of (u := v) e1
    exact ⟨a, v, l, rfl, R, ok⟩

end Go.Proofs.Ytghdjdejdpknjaa.Fl
