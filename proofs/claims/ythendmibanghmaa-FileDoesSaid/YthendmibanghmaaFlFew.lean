/- A file with at most 260 records. -/
import Derived.Test.YthendmibanghmaaFlSmall
namespace Go.Proofs.Ythendmibanghmaa.Fl
open Go.RowKit
open Go.Proofs.Ythendmibanghmaa.Rw (Rd Ow At)

/-- At most 260 records. -/
def FewPost (w : World) (p : Int) (l : List R4) (e : Ending) (w' : World) : Prop := ∃ u, e = .returned (file p u) ∧ Rd K4 w' u (l.take 260) ∧ Below w.heap.size w w'
theorem rd_take {w : World} {v : Value} {l : List R4} {a : Option Addr} {n cap k : Nat} (R : Rd K4 w v l) (e : v = .slice a n cap) (hk : k ≤ l.length) (h0 : 0 < k) : Rd K4 w (.slice a k cap) (l.take k) := by
  obtain ⟨a', cap', e', ⟨h1, h2⟩, h3, h4⟩ := R
  rw [e] at e'
  injection e' with e1 e2 e3
  subst e1 e3
  have hl : (l.take k).length = k := by rw [List.length_take]; omega
  refine ⟨a, cap, by rw [hl], ⟨by rw [hl]; omega, h2⟩, h3, fun _ => ?_⟩
  obtain ⟨b, off, rfl, hA⟩ := h4 (by omega)
  refine ⟨b, off, rfl, fun i hi j u hu => ?_⟩
  rw [hl] at hi
  refine hA i (by omega) j u ?_
  rw [← hu, List.getD, List.getD, List.getElem?_take, if_pos hi]

theorem results_file {fn : Func} {p : Tmp} (h : fn.results = #[.cell p 24]) (tmps : Array Value) (w : World) (g : Nat) (q : Int) (v : Value) (hp : tmps.getD p undef = .pointer (some ⟨g, 0, none⟩)) (hrow : w.heap[g]? = some (.cells #[.int .i64 q, v] 24 (0, 0))) :
    (results fn tmps).run Try.prog w = .ok (file q v) w := results_cell_row h tmps w g _ #[.int .i64 q, v] _ _ hp hrow Try.underlying24 rfl (by show _ = some 2; kernel_rfl)

set_option maxHeartbeats 400000 in
theorem few_any (w : World) (p : Int) (v : Value) (l : List R4) (R : Rd K4 w v l) : Calls Try.prog 7 #[file p v] w (FewPost w p l) := by
  have R0 := Lib.hid R
  obtain ⟨a, cap, rfl, ⟨h1, h1'⟩, hm, hA⟩ := R
  have HA := Lib.hid hA
  unfold maxLen at hm
  clear hA
  have hz : ∀ o, (w.alloc o).heap.size = w.heap.size + 1 := fun o => by simp
  have rw_ : ∀ o o', ((w.alloc o).alloc o').heap[w.heap.size + 1]? = some o' := fun o o' => by have := heap_alloc_new (w.alloc o) o'; rw [hz] at this; exact this
  have bb : ∀ o o', Below w.heap.size w ((w.alloc o).alloc o') := fun o o' => ((Below.refl w.heap.size w).alloc (Nat.le_refl _) o).alloc (by simp) o'
  have RW := Lib.hid rw_
  have BB := Lib.hid bb
  clear hz rw_ bb
  unfold file
  by_cases h : 260 < l.length
  · obtain ⟨b, off, rfl, _⟩ := HA.out (by omega)
    have E : Hid (∀ w', Below w.heap.size w w' → FewPost w p l (.returned (.agg #[.int .i64 p, .slice (some ⟨b, off, none⟩) 260 cap])) w') := fun w' hb => ⟨_, rfl, (rd_take R0.out rfl (by omega) (by omega)).below hb, hb⟩
    clear R0 HA
    generalize l.length = n at *
    go_enter Try.func7, Try.ntmps7
    go_wp2
    (try simp only [Exit.inBlock, Exit.then])
    exact bodyPost_ret (results_file (p := 2) rfl _ _ (w.heap.size + 1) p _ rfl (RW.out _ _)) rfl (E.out _ (BB.out _ _))
  · have ht : l.take 260 = l := List.take_of_length_le (by omega)
    have E : Hid (∀ w', Below w.heap.size w w' → FewPost w p l (.returned (.agg #[.int .i64 p, .slice a l.length cap])) w') := fun w' hb => ⟨_, rfl, by rw [ht]; exact R0.out.below hb, hb⟩
    clear R0 HA
    generalize l.length = n at *
    go_enter Try.func7, Try.ntmps7
    go_wp2
    (try simp only [Exit.inBlock, Exit.then])
    exact bodyPost_ret (results_file (p := 2) rfl _ _ (w.heap.size + 1) p _ rfl (RW.out _ _)) rfl (E.out _ (BB.out _ _))

theorem okL_take {l : List R4} (h : okL l) (k : Nat) : okL (l.take k) := fun r hr => h r (List.mem_of_mem_take hr)
def zFile : Array Value := #[.int .i64 0, .slice none 0 0]
def zRec : Array Value := #[.int .u8 0, .int .u8 0, .int .u8 0, .int .u8 0]

end Go.Proofs.Ythendmibanghmaa.Fl
