/- Arguments in memory: what reads as a slice of steps, as one of spans, as a frame. -/
import Derived.Test.YtejibonnjbhcjaaDoorTkMem
import Derived.Test.YtejibonnjbhcjaaDoorUaMem
import Derived.Test.YtejibonnjbhcjaaDoorWiBase
import Derived.ProofKit
import Derived.OpenShut
import Derived.ChangeOld
import Derived.Deep.SlicePairs
namespace Go.Proofs.YtejibonnjbhcjaaDoor.Tk
open Go.ChangeShapes Go.WideShapes Go.ChangeAt Go.RowKit Go.Deep

theorem own : ownKnob Tryd.prog.godebug = none := by kernel_rfl
theorem laidOut : laidOutB Tryd.prog = true := by kernel_rfl

end Go.Proofs.YtejibonnjbhcjaaDoor.Tk
namespace Go.Proofs.YtejibonnjbhcjaaDoor.Ua
open Go.ChangeShapes Go.WideShapes Go.ChangeAt Go.RowKit Go.Deep

theorem okWide_array {P : Program} {w : World} {r : Reach} {base n : Nat} {t e : TypeId} {v : Value} (ht : P.underlying t = some (.array n e)) (h : Value.okWide P w r base t v) : ∃ cs, v = .agg cs ∧ cs.size = P.cellsOf t := by
  simp only [Value.okWide, ht] at h
  obtain ⟨cs, h1, h2, _⟩ := h
  exact ⟨cs, h1, h2⟩

/-- What reads as a frame is one. -/
theorem frame_of {H : Type} {enc : TypeId × Value → H} {W : World} {v : Value} {base : Nat} {sp : Nat → Bool} {held : Bool} {d : DataW H} {p : List MemPlace} {r : Reach} {b0 : Nat}
    (hv : Value.okWide Tryd.prog W r b0 23 v) (h : DataW.Trod enc Tryd.prog W base sp held 23 v d p) : ∃ F, v = .agg (arr F) := by
  obtain ⟨cs, rfl, hs⟩ := okWide_array Tryd.underlying23 hv
  have c11 : Tryd.prog.cellsOf 23 = 11 := by kernel_rfl
  have c1 : Tryd.prog.cellsOf 4 = 1 := by kernel_rfl
  rw [c11] at hs
  obtain ⟨fuel, hf⟩ := h
  obtain ⟨xs, m, _, _, _, hx, hi⟩ := DataW.trod_array Tryd.underlying23 hf
  have get : ∀ i (hi' : i < 11), ∃ b, cs[i]'(by omega) = .bool b := fun i hi' => by
    have e := hi i hi'
    have hl : i < xs.length := by omega
    rw [c1, List.getElem?_eq_getElem hl, Nat.mul_one] at e
    obtain ⟨b, hb, _⟩ := DataW.trod_bool Tryd.underlying4 e
    have hlt : i < cs.toList.length := by simpa using (show i < cs.size by omega)
    have hd : ((Value.agg cs).cells.toList.drop i).take 1 = [cs[i]'(by omega)] := by
      show (cs.toList.drop i).take 1 = _
      rw [List.drop_eq_getElem_cons hlt]
      simp
    rw [hd] at hb
    exact ⟨b, by simpa using hb⟩
  refine ⟨fun i => if h : i < 11 then (get i h).choose else false, ?_⟩
  congr 1
  apply Array.ext
  · exact hs
  · intro i h1 h2
    have hi' : i < 11 := by omega
    have e := arr_get (fun i => if h : i < 11 then (get i h).choose else false) i hi'
    rw [Array.getElem?_eq_getElem h2] at e
    injection e with e
    rw [e, (get i hi').choose_spec]
    simp only [hi', dif_pos]

end Go.Proofs.YtejibonnjbhcjaaDoor.Ua
namespace Go.Proofs.YtejibonnjbhcjaaDoor.Wi
open Go.ChangeShapes Go.WideShapes Go.ChangeAt Go.RowKit Go.Deep
open Go.Proofs.YtejibonnjbhcjaaDoor.Sp

end Go.Proofs.YtejibonnjbhcjaaDoor.Wi
