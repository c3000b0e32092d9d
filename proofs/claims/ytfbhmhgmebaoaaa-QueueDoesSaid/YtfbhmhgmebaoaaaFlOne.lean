/- file.oneMore: a range over slices.Backward, over a record's own bytes. -/
import Derived.Test.YtfbhmhgmebaoaaaFlSmall
import Derived.Test.YtfbhmhgmebaoaaaAb
import Derived.RangeFuncNested
import Derived.RangeFuncBound
import Derived.RangeFuncCalls
import Derived.RangeFuncLeaves
import Derived.RangeFuncWrites
import Derived.Shelf.Abstract
import Derived.Shelf.RegionOpen
import Derived.WalkKit
import Derived.OwnWalkIn
import Derived.TacticsInMore
import Derived.LoopNIn
import Derived.LoopIn
namespace Go.Proofs.Ytfbhmhgmebaoaaa.Fl
open Go.RowKit Go.Shelf
attribute [local go_sem] Oper.semAt_some

def byt (r : R4) : Nat → Int
  | 0 => r.1
  | 1 => r.2.1
  | 2 => r.2.2.1
  | _ => r.2.2.2
def bump (r : R4) : Nat → R4
  | 0 => (IntKind.u8.wrap (r.1 + 1), r.2.1, r.2.2.1, r.2.2.2)
  | 1 => (r.1, IntKind.u8.wrap (r.2.1 + 1), r.2.2.1, r.2.2.2)
  | 2 => (r.1, r.2.1, IntKind.u8.wrap (r.2.2.1 + 1), r.2.2.2)
  | _ => (r.1, r.2.1, r.2.2.1, IntKind.u8.wrap (r.2.2.2 + 1))
def over (r : R4) (l : List Nat) : R4 := l.foldl bump r
/-- Each byte was full. -/
def zs : R4 → List Nat → Prop
  | _, [] => True
  | r, i :: t => byt (bump r i) i = 0 ∧ zs (bump r i) t
theorem over_snoc (r : R4) (l : List Nat) (i : Nat) : over r (l ++ [i]) = bump (over r l) i := by simp [over]
theorem zs_snoc : ∀ (l : List Nat) (r : R4) (i : Nat), zs r l → byt (over r (l ++ [i])) i = 0 → zs r (l ++ [i])
  | [], _, _, _, h => ⟨h, trivial⟩
  | j :: l, r, i, h, hb => ⟨h.1, zs_snoc l (bump r j) i h.2 hb⟩
theorem wrap8 (x : Int) : IntKind.u8.wrap x = x % 256 := by simp [IntKind.wrap, IntKind.signed, IntKind.bits]
/-- Which bytes come, and in which order. -/
def dn : List Nat := [3, 2, 1, 0]

theorem inc_of {r q : R4} (hq : okR q) (h : num r + 1 = num q ∨ num r + 1 = num q + 4294967296) : q = inc r := by
  obtain ⟨⟨a0, a1⟩, ⟨b0, b1⟩, ⟨c0, c1⟩, d0, d1⟩ := hq
  have e : (num r + 1) % 4294967296 = num q := by unfold num at *; omega
  unfold inc
  rw [e]
  unfold bytes num
  refine Prod.ext ?_ (Prod.ext ?_ (Prod.ext ?_ ?_)) <;> simp only <;> omega
theorem over_all {r : R4} (hr : okR r) (h : zs r dn) : over r dn = inc r := by
  obtain ⟨⟨a0, a1⟩, ⟨b0, b1⟩, ⟨c0, c1⟩, d0, d1⟩ := hr
  obtain ⟨h3, h2, h1, h0, _⟩ := h
  simp only [byt, bump, wrap8] at h0 h1 h2 h3
  refine inc_of ?_ ?_
  · simp only [over, dn, List.foldl_cons, List.foldl_nil, bump, wrap8, okR]
    refine ⟨⟨?_, ?_⟩, ⟨?_, ?_⟩, ⟨?_, ?_⟩, ?_, ?_⟩ <;> omega
  · simp only [over, dn, List.foldl_cons, List.foldl_nil, bump, wrap8, num]
    omega
theorem over_stop {r : R4} (hr : okR r) {ini : List Nat} {i k : Nat} (hk : k < 4) (e : ini ++ [i] = dn.take (k + 1)) (h : zs r ini) (hb : byt (over r (ini ++ [i])) i ≠ 0) : over r (ini ++ [i]) = inc r := by
  obtain ⟨⟨a0, a1⟩, ⟨b0, b1⟩, ⟨c0, c1⟩, d0, d1⟩ := hr
  rcases (by omega : k = 0 ∨ k = 1 ∨ k = 2 ∨ k = 3) with rfl | rfl | rfl | rfl
  all_goals
    simp only [dn, List.take_succ_cons, List.take_zero] at e
  · obtain ⟨rfl, e2⟩ := List.append_inj' (show ini ++ [i] = [] ++ [3] from e) rfl
    obtain rfl : i = 3 := by simpa using e2
    simp only [over, List.nil_append, List.foldl_cons, List.foldl_nil, byt, bump, wrap8] at hb
    refine inc_of ?_ ?_
    · simp only [over, List.nil_append, List.foldl_cons, List.foldl_nil, bump, wrap8, okR]
      refine ⟨⟨?_, ?_⟩, ⟨?_, ?_⟩, ⟨?_, ?_⟩, ?_, ?_⟩ <;> omega
    · simp only [over, List.nil_append, List.foldl_cons, List.foldl_nil, bump, wrap8, num]
      omega
  · obtain ⟨rfl, e2⟩ := List.append_inj' (show ini ++ [i] = [3] ++ [2] from e) rfl
    obtain rfl : i = 2 := by simpa using e2
    obtain ⟨h3, _⟩ := h
    simp only [over, List.nil_append, List.cons_append, List.foldl_cons, List.foldl_nil, byt, bump, wrap8] at hb h3
    refine inc_of ?_ ?_
    · simp only [over, List.nil_append, List.cons_append, List.foldl_cons, List.foldl_nil, bump, wrap8, okR]
      refine ⟨⟨?_, ?_⟩, ⟨?_, ?_⟩, ⟨?_, ?_⟩, ?_, ?_⟩ <;> omega
    · simp only [over, List.nil_append, List.cons_append, List.foldl_cons, List.foldl_nil, bump, wrap8, num]
      omega
  · obtain ⟨rfl, e2⟩ := List.append_inj' (show ini ++ [i] = [3, 2] ++ [1] from e) rfl
    obtain rfl : i = 1 := by simpa using e2
    obtain ⟨h3, h2, _⟩ := h
    simp only [over, List.nil_append, List.cons_append, List.foldl_cons, List.foldl_nil, byt, bump, wrap8] at hb h3 h2
    refine inc_of ?_ ?_
    · simp only [over, List.nil_append, List.cons_append, List.foldl_cons, List.foldl_nil, bump, wrap8, okR]
      refine ⟨⟨?_, ?_⟩, ⟨?_, ?_⟩, ⟨?_, ?_⟩, ?_, ?_⟩ <;> omega
    · simp only [over, List.nil_append, List.cons_append, List.foldl_cons, List.foldl_nil, bump, wrap8, num]
      omega
  · obtain ⟨rfl, e2⟩ := List.append_inj' (show ini ++ [i] = [3, 2, 1] ++ [0] from e) rfl
    obtain rfl : i = 0 := by simpa using e2
    obtain ⟨h3, h2, h1, _⟩ := h
    simp only [over, List.nil_append, List.cons_append, List.foldl_cons, List.foldl_nil, byt, bump, wrap8] at hb h3 h2 h1
    refine inc_of ?_ ?_
    · simp only [over, List.nil_append, List.cons_append, List.foldl_cons, List.foldl_nil, bump, wrap8, okR]
      refine ⟨⟨?_, ?_⟩, ⟨?_, ?_⟩, ⟨?_, ?_⟩, ?_, ?_⟩ <;> omega
    · simp only [over, List.nil_append, List.cons_append, List.foldl_cons, List.foldl_nil, bump, wrap8, num]
      omega

/-- A row of a record's bytes. -/
def arr (r : R4) : Array Value := #[.int .u8 r.1, .int .u8 r.2.1, .int .u8 r.2.2.1, .int .u8 r.2.2.2]
def RowAt (W : World) (b : Nat) (r : R4) : Prop := W.heap[b]? = some (.cells (arr r) 31 (0, 0))
theorem row_cellN {W : World} {b : Nat} {r : R4} (h : RowAt W b r) {m : Nat} (hm : m < 4) : W.cell? ⟨b, m, none⟩ = some (.int .u8 (byt r m)) := by
  rw [cell_of_row W b m (arr r) _ (0, 0) h]
  rcases (by omega : m = 0 ∨ m = 1 ∨ m = 2 ∨ m = 3) with rfl | rfl | rfl | rfl <;> rfl
abbrev Rnd := Fin 4 × Int
def ixs (l : List Rnd) : List Nat := l.map (·.1.val)

end Go.Proofs.Ytfbhmhgmebaoaaa.Fl
