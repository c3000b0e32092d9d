/- Arguments of layer 19: what reads as a slice of deeds. -/
import Derived.Test.YtabhpafmppmigaaWtDoes
import Derived.Test.YtabhpafmppmigaaFlArgs
import Derived.ProofKit
import Derived.OpenShut
import Derived.ChangeOld
import Derived.Deep.Slices
import Derived.WideShapes
namespace Go.Proofs.Ytabhpafmppmigaa.Wt
set_option maxRecDepth 100000
open Go.ChangeShapes Go.WideShapes Go.ChangeAt Go.RowKit Go.Deep
open Go.Proofs.Ytabhpafmppmigaa.Rw (Rd Ow At)

def Fd1 (x : D2) : Prop := 0 ≤ x.1 ∧ x.1 ≤ 255
theorem deed_cells {H : Type} {enc : TypeId × Value → H} {W : World} {base fuel : Nat} {sp : Nat → Bool} {held : Bool} {cs : List Value} {x : DataW H × List MemPlace}
    (h : DataW.trod enc Try.prog W base sp held fuel 28 cs = some x) : ∃ c : D2, cs = KW.enc c ∧ Fd1 c := by
  have c3 : Try.prog.cellsOf 28 = 2 := by kernel_rfl
  have c1 : Try.prog.cellsOf 3 = 1 := by kernel_rfl
  have c2 : Try.prog.cellsOf 5 = 1 := by kernel_rfl
  obtain ⟨xs, m, _, _, hs, hx, hi⟩ := DataW.trod_struct Try.underlying28 h
  rw [c3] at hs
  match cs, hs, xs, hx, hi with
  | [u0, u1], _, [x0, x1], _, hi =>
    have e0 : DataW.trod enc Try.prog W base sp held m 5 (([u0, u1].drop 0).take (Try.prog.cellsOf 5)) = some x0 := hi 0 _ rfl
    have e1 : DataW.trod enc Try.prog W base sp held m 3 (([u0, u1].drop 1).take (Try.prog.cellsOf 3)) = some x1 := hi 1 _ rfl
    rw [c2] at e0
    rw [c1] at e1
    obtain ⟨p, hp, _, wp⟩ := DataW.trod_int Try.underlying5 (x := x0) e0
    obtain ⟨k, hk, _, wk⟩ := DataW.trod_int Try.underlying3 (x := x1) e1
    have p' : [u0] = [.int .u8 p] := hp
    have k' : [u1] = [.int .i64 k] := hk
    simp only [List.cons.injEq, and_true] at p' k'
    obtain rfl := p'
    obtain rfl := k'
    refine ⟨(p, k), rfl, ?_⟩
    simp only [Lit.wf, Bool.and_eq_true, decide_eq_true_eq] at wp
    unfold Fd1
    simp only
    have a1 := wp.1
    have a2 := wp.2
    simp [IntKind.min, IntKind.max, IntKind.signed, IntKind.bits] at a1 a2
    omega
/-- A slice opened, its elements of any kind. -/
theorem open_rd {α : Type} {K : Rw.Kind α} (Q : α → Prop) {H : Type} {enc : TypeId × Value → H} {W : World} {u : Value} {base fuel : Nat} {sp : Nat → Bool} {held : Bool} {x : DataW H × List MemPlace} {T E : TypeId}
    (hu : Try.prog.underlying T = some (.slice E)) (hc : Try.prog.cellsOf E = K.n) (el : ∀ {n : Nat} {cs : List Value} {y : DataW H × List MemPlace}, DataW.trod enc Try.prog W base sp held n E cs = some y → ∃ r : α, cs = K.enc r ∧ Q r)
    (h : DataW.trod enc Try.prog W base sp held fuel T [u] = some x) : ∃ l, Rd K W u l ∧ ∀ r ∈ l, Q r := by
  rcases open_slice hu h with ⟨e, _⟩ | ⟨a, len, cap, m, n, D, Pl, e, _, hl, hm, hmm, _, hx⟩
  · simp at e
    subst e
    exact ⟨[], Rw.Rd.nil _, fun r hr => by cases hr⟩
  · simp at e
    subst e
    have hlm : len ≤ m := by rw [hmm]; split <;> omega
    have each : ∀ i, i < m → ∃ r : α, Q r ∧ ∀ j u, (K.enc r)[j]? = some u → W.cell? (a.add (i * K.n + j)) = some u := fun i hi => by
      obtain ⟨cs', h1, h2⟩ := hx i hi
      rw [hc] at h1
      obtain ⟨_, hlen, hcell⟩ := World.cells?_some h1
      obtain ⟨r, rfl, ok⟩ := el h2
      refine ⟨r, ok, fun j u hu => ?_⟩
      have hj : j < K.n := by have := (List.getElem?_eq_some_iff.1 hu).1; rw [hlen] at this; exact this
      have e := hcell j hj
      rw [add_add] at e
      exact e.trans hu
    haveI : Inhabited α := ⟨K.dft⟩
    obtain ⟨q, hq⟩ := choose_lt each
    have hlen : ((List.range len).map q).length = len := by simp
    have get : ∀ i, i < len → ((List.range len).map q).getD i K.dft = q i := fun i hi => by simp [List.getD, hi]
    refine ⟨(List.range len).map q, ⟨some a, cap, by rw [hlen], ⟨by rw [hlen]; exact hl, nofun⟩, hm, fun h0 => ?_⟩, fun r hr => ?_⟩
    · rw [hlen] at h0
      obtain ⟨b, off, spot⟩ := a
      have hp : 0 < (K.enc (q 0)).length := by rw [K.len]; exact K.pos
      have c0 := (hq 0 (by omega)).2 0 _ (List.getElem?_eq_getElem hp)
      have hs : spot = none := by simpa [Addr.add] using World.cell?_spot c0
      subst hs
      refine ⟨b, off, rfl, fun i hi j u hu => ?_⟩
      rw [hlen] at hi
      have hu' : (K.enc (q i))[j]? = some u := by rw [← get i hi]; exact hu
      have c := (hq i (by omega)).2 j u hu'
      rw [add_plain] at c
      show W.cell? ⟨b, off + i * K.n + j, none⟩ = some u
      rw [Nat.add_assoc]
      exact c
    · obtain ⟨i, hi, rfl⟩ := List.mem_map.1 hr
      exact (hq i (by have := List.mem_range.1 hi; omega)).1
theorem deeds_of {H : Type} {enc : TypeId × Value → H} {W : World} {v : Value} {base : Nat} {sp : Nat → Bool} {held : Bool} {d : DataW H} {p : List MemPlace} {r : Reach} {b0 : Nat}
    (hv : Value.okWide Try.prog W r b0 22 v) (h : DataW.Trod enc Try.prog W base sp held 22 v d p) : ∃ l, Rd KW W v l ∧ Fd l := by
  obtain ⟨a0, len0, cap0, rfl⟩ := okWide_slice Try.underlying22 hv
  obtain ⟨fuel, hf⟩ := h
  obtain ⟨l, R, F⟩ := open_rd (K := KW) Fd1 Try.underlying22 (by kernel_rfl) (fun h => deed_cells h) (by simpa [Value.cells] using hf)
  refine ⟨l, R, fun i hi => F _ ?_⟩
  unfold da
  rw [List.getD_eq_getElem?_getD, List.getElem?_eq_getElem hi]
  exact List.getElem_mem hi

end Go.Proofs.Ytabhpafmppmigaa.Wt
