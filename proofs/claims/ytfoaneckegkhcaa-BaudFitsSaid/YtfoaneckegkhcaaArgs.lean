/- Arguments in memory: what reads as a slice of steps, as one of spans, as a frame. -/
import Derived.Test.YtfoaneckegkhcaaTkMem
import Derived.Test.YtfoaneckegkhcaaUaMem
import Derived.Test.YtfoaneckegkhcaaWiBase
import Derived.ProofKit
import Derived.OpenShut
import Derived.ChangeOld
import Derived.Deep.SlicePairs
namespace Go.Proofs.Ytfoaneckegkhcaa.Tk
open Go.ChangeShapes Go.WideShapes Go.ChangeAt Go.RowKit Go.Deep

theorem own : ownKnob Try.prog.godebug = none := by kernel_rfl
theorem laidOut : laidOutB Try.prog = true := by kernel_rfl

/-- What reads as a slice of steps lies in memory as one. -/
theorem steps_of {H : Type} {enc : TypeId × Value → H} {W : World} {v : Value} {base : Nat} {sp : Nat → Bool} {held : Bool} {d : DataW H} {p : List MemPlace} {r : Reach} {b0 : Nat}
    (hv : Value.okWide Try.prog W r b0 23 v) (h : DataW.Trod enc Try.prog W base sp held 23 v d p) : ∃ n A R, Steps W v n A R := by
  obtain ⟨a, len, cap, rfl⟩ := okWide_slice Try.underlying23 hv
  obtain ⟨fuel, hf⟩ := h
  rcases open_slice_pairs Try.underlying23 Try.underlying38 (by kernel_rfl) rfl rfl (by kernel_rfl) (by kernel_rfl) hf with ⟨hcs, _⟩ | ⟨x, l, c, m, n, V0, V1, D0, D1, P0, P1, hcs, _, hl, hm, hmm, _, hi⟩
  · simp [Value.cells] at hcs
    obtain ⟨rfl, rfl, rfl⟩ := hcs
    exact ⟨0, fun _ => 0, fun _ => 0, .inl ⟨_, _, rfl, Nat.zero_le _, rfl⟩⟩
  · simp [Value.cells] at hcs
    obtain ⟨rfl, rfl, rfl⟩ := hcs
    have hlm : len ≤ m := by rw [hmm]; split <;> omega
    by_cases h0 : len = 0
    · subst h0
      exact ⟨0, fun _ => 0, fun _ => 0, .inl ⟨_, _, rfl, hm, rfl⟩⟩
    · obtain ⟨b, off, spot⟩ := x
      have c0 := (hi 0 (by omega)).1
      have hs : spot = none := by simpa [Addr.add] using World.cell?_spot c0
      subst hs
      refine ⟨len, fun i => intOf (V0 i), fun i => intOf (V1 i), .inr ⟨b, off, cap, rfl, hl, hm, fun i hlt => ?_⟩⟩
      obtain ⟨c1, c2, t1, t2⟩ := hi i (by omega)
      obtain ⟨x1, e1, _, _⟩ := DataW.trod_int Try.underlying3 t1
      obtain ⟨x2, e2, _, _⟩ := DataW.trod_int Try.underlying3 t2
      simp only [List.cons.injEq, and_true] at e1 e2
      rw [e1] at c1
      rw [e2] at c2
      show W.cell? _ = some (.int .i64 (intOf (V0 i))) ∧ W.cell? _ = some (.int .i64 (intOf (V1 i)))
      rw [e1, e2]
      rw [add_plain] at c1 c2
      exact ⟨c1, by rw [Nat.add_assoc]; exact c2⟩

end Go.Proofs.Ytfoaneckegkhcaa.Tk
namespace Go.Proofs.Ytfoaneckegkhcaa.Ua
open Go.ChangeShapes Go.WideShapes Go.ChangeAt Go.RowKit Go.Deep

theorem okWide_array {P : Program} {w : World} {r : Reach} {base n : Nat} {t e : TypeId} {v : Value} (ht : P.underlying t = some (.array n e)) (h : Value.okWide P w r base t v) : ∃ cs, v = .agg cs ∧ cs.size = P.cellsOf t := by
  simp only [Value.okWide, ht] at h
  obtain ⟨cs, h1, h2, _⟩ := h
  exact ⟨cs, h1, h2⟩

/-- What reads as a frame is one. -/
theorem frame_of {H : Type} {enc : TypeId × Value → H} {W : World} {v : Value} {base : Nat} {sp : Nat → Bool} {held : Bool} {d : DataW H} {p : List MemPlace} {r : Reach} {b0 : Nat}
    (hv : Value.okWide Try.prog W r b0 41 v) (h : DataW.Trod enc Try.prog W base sp held 41 v d p) : ∃ F, v = .agg (arr F) := by
  obtain ⟨cs, rfl, hs⟩ := okWide_array Try.underlying41 hv
  have c11 : Try.prog.cellsOf 41 = 11 := by kernel_rfl
  have c1 : Try.prog.cellsOf 4 = 1 := by kernel_rfl
  rw [c11] at hs
  obtain ⟨fuel, hf⟩ := h
  obtain ⟨xs, m, _, _, _, hx, hi⟩ := DataW.trod_array Try.underlying41 hf
  have get : ∀ i (hi' : i < 11), ∃ b, cs[i]'(by omega) = .bool b := fun i hi' => by
    have e := hi i hi'
    have hl : i < xs.length := by omega
    rw [c1, List.getElem?_eq_getElem hl, Nat.mul_one] at e
    obtain ⟨b, hb, _⟩ := DataW.trod_bool Try.underlying4 e
    have hlt : i < cs.toList.length := by simpa using (show i < cs.size by omega)
    have hd : ((Value.agg cs).cells.toList.drop i).take 1 = [cs[i]'(by omega)] := by
      show (cs.toList.drop i).take 1 = _
      rw [List.drop_eq_getElem_cons hlt]
      simp
    rw [hd] at hb
    exact ⟨b, by simpa using hb⟩
  refine ⟨fun i => if h : i < 11 then (get i h).choose else false, ?_⟩
  congr 1
  apply Array.ext
  · exact hs
  · intro i h1 h2
    have hi' : i < 11 := by omega
    have e := arr_get (fun i => if h : i < 11 then (get i h).choose else false) i hi'
    rw [Array.getElem?_eq_getElem h2] at e
    injection e with e
    rw [e, (get i hi').choose_spec]
    simp only [hi', dif_pos]

end Go.Proofs.Ytfoaneckegkhcaa.Ua
namespace Go.Proofs.Ytfoaneckegkhcaa.Wi
open Go.ChangeShapes Go.WideShapes Go.ChangeAt Go.RowKit Go.Deep
open Go.Proofs.Ytfoaneckegkhcaa.Sp

/-- What reads as a slice of spans lies in memory as one. -/
theorem spans_of {H : Type} {enc : TypeId × Value → H} {W : World} {v : Value} {base : Nat} {sp : Nat → Bool} {held : Bool} {d : DataW H} {p : List MemPlace} {r : Reach} {b0 : Nat}
    (hv : Value.okWide Try.prog W r b0 22 v) (h : DataW.Trod enc Try.prog W base sp held 22 v d p) : ∃ l, Sp W v l := by
  obtain ⟨a, len, cap, rfl⟩ := okWide_slice Try.underlying22 hv
  obtain ⟨fuel, hf⟩ := h
  rcases open_slice_pairs Try.underlying22 Try.underlying45 (by kernel_rfl) rfl rfl (by kernel_rfl) (by kernel_rfl) hf with ⟨hcs, _⟩ | ⟨x, l, c, m, n, V0, V1, D0, D1, P0, P1, hcs, _, hl, hm, hmm, _, hi⟩
  · simp [Value.cells] at hcs
    obtain ⟨rfl, rfl, rfl⟩ := hcs
    exact ⟨[], none, 0, rfl, Nat.le_refl _, by unfold maxLen; omega, fun h => by simp at h⟩
  · simp [Value.cells] at hcs
    obtain ⟨rfl, rfl, rfl⟩ := hcs
    have hlm : len ≤ m := by rw [hmm]; split <;> omega
    have hL : ((List.range len).map fun i => ((intOf (V0 i), intOf (V1 i)) : S2)).length = len := by simp
    refine ⟨(List.range len).map fun i => (intOf (V0 i), intOf (V1 i)), some x, cap, by rw [hL], by rw [hL]; exact hl, hm, fun h0 => ?_⟩
    rw [hL] at h0
    obtain ⟨b, off, spot⟩ := x
    have c0 := (hi 0 (by omega)).1
    have hs : spot = none := by simpa [Addr.add] using World.cell?_spot c0
    subst hs
    refine ⟨b, off, rfl, fun i hlt => ?_⟩
    rw [hL] at hlt
    obtain ⟨c1, c2, t1, t2⟩ := hi i (by omega)
    obtain ⟨x1, e1, _, _⟩ := DataW.trod_int Try.underlying3 t1
    obtain ⟨x2, e2, _, _⟩ := DataW.trod_int Try.underlying3 t2
    simp only [List.cons.injEq, and_true] at e1 e2
    have f1 : fr ((List.range len).map fun i => ((intOf (V0 i), intOf (V1 i)) : S2)) i = intOf (V0 i) := by simp [fr, hlt]
    have f2 : tp ((List.range len).map fun i => ((intOf (V0 i), intOf (V1 i)) : S2)) i = intOf (V1 i) := by simp [tp, hlt]
    rw [f1, f2]
    rw [e1] at c1
    rw [e2] at c2
    rw [e1, e2]
    rw [add_plain] at c1 c2
    exact ⟨c1, by rw [Nat.add_assoc]; exact c2⟩

end Go.Proofs.Ytfoaneckegkhcaa.Wi
