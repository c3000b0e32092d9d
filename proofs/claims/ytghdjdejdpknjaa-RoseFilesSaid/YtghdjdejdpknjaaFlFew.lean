/- A file with at most 260 records. -/
import Derived.Test.YtghdjdejdpknjaaFlSmall
namespace Go.Proofs.Ytghdjdejdpknjaa.Fl
open Go.RowKit
open Go.Proofs.Ytghdjdejdpknjaa.Rw (Rd Ow At)

/-- At most 260 records. -/
def FewPost (w : World) (p : Int) (l : List R4) (e : Ending) (w' : World) : Prop := ∃ u, e = .returned (file p u) ∧ Rd K4 w' u (l.take 260) ∧ Below w.heap.size w w'
theorem rd_take {w : World} {v : Value} {l : List R4} {a : Option Addr} {n cap k : Nat} (R : Rd K4 w v l) (e : v = .slice a n cap) (hk : k ≤ l.length) (h0 : 0 < k) : Rd K4 w (.slice a k cap) (l.take k) := by
  obtain ⟨a', cap', e', ⟨h1, h2⟩, h3, h4⟩ := R
  rw [e] at e'
  injection e' with e1 e2 e3
  subst e1 e3
  have hl : (l.take k).length = k := by rw [List.length_take]; omega
  refine ⟨a, cap, by rw [hl], ⟨by rw [hl]; omega, h2⟩, h3, fun _ => ?_⟩
  obtain ⟨b, off, rfl, hA⟩ := h4 (by omega)
  refine ⟨b, off, rfl, fun i hi j u hu => ?_⟩
  rw [hl] at hi
  refine hA i (by omega) j u ?_
  rw [← hu, List.getD, List.getD, List.getElem?_take, if_pos hi]

theorem results_file {fn : Func} {p : Tmp} (h : fn.results = #[.cell p 25]) (tmps : Array Value) (w : World) (g : Nat) (q : Int) (v : Value) (hp : tmps.getD p undef = .pointer (some ⟨g, 0, none⟩)) (hrow : w.heap[g]? = some (.cells #[.int .i64 q, v] 25 (0, 0))) :
    (results fn tmps).run Try.prog w = .ok (file q v) w := results_cell_row h tmps w g _ #[.int .i64 q, v] _ _ hp hrow Try.underlying25 rfl (by show _ = some 2; kernel_rfl)

theorem okL_take {l : List R4} (h : okL l) (k : Nat) : okL (l.take k) := fun r hr => h r (List.mem_of_mem_take hr)
def zFile : Array Value := #[.int .i64 0, .slice none 0 0]
def zRec : Array Value := #[.int .u8 0, .int .u8 0, .int .u8 0, .int .u8 0]

end Go.Proofs.Ytghdjdejdpknjaa.Fl
