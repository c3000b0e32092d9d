/- file.oneMore: a range over slices.Backward, over a record's own bytes. -/
import Derived.Test.YtoeemngekioldaaDoorFlSmall
import Derived.RangeFuncNested
import Derived.RangeFuncBound
import Derived.RangeFuncCalls
import Derived.RangeFuncLeaves
import Derived.RangeFuncWrites
import Derived.Shelf.Abstract
import Derived.Shelf.RegionOpen
import Derived.WalkKit
import Derived.OwnWalkIn
import Derived.TacticsInMore
import Derived.LoopNIn
import Derived.LoopIn
namespace Go.Proofs.YtoeemngekioldaaDoor.Fl
open Go.RowKit Go.Shelf
attribute [local go_sem] Oper.semAt_some

def byt (r : R4) : Nat → Int
  | 0 => r.1
  | 1 => r.2.1
  | 2 => r.2.2.1
  | _ => r.2.2.2
def bump (r : R4) : Nat → R4
  | 0 => (IntKind.u8.wrap (r.1 + 1), r.2.1, r.2.2.1, r.2.2.2)
  | 1 => (r.1, IntKind.u8.wrap (r.2.1 + 1), r.2.2.1, r.2.2.2)
  | 2 => (r.1, r.2.1, IntKind.u8.wrap (r.2.2.1 + 1), r.2.2.2)
  | _ => (r.1, r.2.1, r.2.2.1, IntKind.u8.wrap (r.2.2.2 + 1))
def over (r : R4) (l : List Nat) : R4 := l.foldl bump r
/-- Each byte was full. -/
def zs : R4 → List Nat → Prop
  | _, [] => True
  | r, i :: t => byt (bump r i) i = 0 ∧ zs (bump r i) t
theorem over_snoc (r : R4) (l : List Nat) (i : Nat) : over r (l ++ [i]) = bump (over r l) i := by simp [over]
theorem zs_snoc : ∀ (l : List Nat) (r : R4) (i : Nat), zs r l → byt (over r (l ++ [i])) i = 0 → zs r (l ++ [i])
  | [], _, _, _, h => ⟨h, trivial⟩
  | j :: l, r, i, h, hb => ⟨h.1, zs_snoc l (bump r j) i h.2 hb⟩
theorem wrap8 (x : Int) : IntKind.u8.wrap x = x % 256 := by simp [IntKind.wrap, IntKind.signed, IntKind.bits]
/-- Which bytes come, and in which order. -/
def dn : List Nat := [3, 2, 1, 0]

theorem inc_of {r q : R4} (hq : okR q) (h : num r + 1 = num q ∨ num r + 1 = num q + 4294967296) : q = inc r := by
  obtain ⟨⟨a0, a1⟩, ⟨b0, b1⟩, ⟨c0, c1⟩, d0, d1⟩ := hq
  have e : (num r + 1) % 4294967296 = num q := by unfold num at *; omega
  unfold inc
  rw [e]
  unfold bytes num
  refine Prod.ext ?_ (Prod.ext ?_ (Prod.ext ?_ ?_)) <;> simp only <;> omega
theorem over_all {r : R4} (hr : okR r) (h : zs r dn) : over r dn = inc r := by
  obtain ⟨⟨a0, a1⟩, ⟨b0, b1⟩, ⟨c0, c1⟩, d0, d1⟩ := hr
  obtain ⟨h3, h2, h1, h0, _⟩ := h
  simp only [byt, bump, wrap8] at h0 h1 h2 h3
  refine inc_of ?_ ?_
  · simp only [over, dn, List.foldl_cons, List.foldl_nil, bump, wrap8, okR]
    refine ⟨⟨?_, ?_⟩, ⟨?_, ?_⟩, ⟨?_, ?_⟩, ?_, ?_⟩ <;> omega
  · simp only [over, dn, List.foldl_cons, List.foldl_nil, bump, wrap8, num]
    omega
theorem over_stop {r : R4} (hr : okR r) {ini : List Nat} {i k : Nat} (hk : k < 4) (e : ini ++ [i] = dn.take (k + 1)) (h : zs r ini) (hb : byt (over r (ini ++ [i])) i ≠ 0) : over r (ini ++ [i]) = inc r := by
  obtain ⟨⟨a0, a1⟩, ⟨b0, b1⟩, ⟨c0, c1⟩, d0, d1⟩ := hr
  rcases (by omega : k = 0 ∨ k = 1 ∨ k = 2 ∨ k = 3) with rfl | rfl | rfl | rfl
  all_goals
    simp only [dn, List.take_succ_cons, List.take_zero] at e
  · obtain ⟨rfl, e2⟩ := List.append_inj' (show ini ++ [i] = [] ++ [3] from e) rfl
    obtain rfl : i = 3 := by simpa using e2
    simp only [over, List.nil_append, List.foldl_cons, List.foldl_nil, byt, bump, wrap8] at hb
    refine inc_of ?_ ?_
    · simp only [over, List.nil_append, List.foldl_cons, List.foldl_nil, bump, wrap8, okR]
      refine ⟨⟨?_, ?_⟩, ⟨?_, ?_⟩, ⟨?_, ?_⟩, ?_, ?_⟩ <;> omega
    · simp only [over, List.nil_append, List.foldl_cons, List.foldl_nil, bump, wrap8, num]
      omega
  · obtain ⟨rfl, e2⟩ := List.append_inj' (show ini ++ [i] = [3] ++ [2] from e) rfl
    obtain rfl : i = 2 := by simpa using e2
    obtain ⟨h3, _⟩ := h
    simp only [over, List.nil_append, List.cons_append, List.foldl_cons, List.foldl_nil, byt, bump, wrap8] at hb h3
    refine inc_of ?_ ?_
    · simp only [over, List.nil_append, List.cons_append, List.foldl_cons, List.foldl_nil, bump, wrap8, okR]
      refine ⟨⟨?_, ?_⟩, ⟨?_, ?_⟩, ⟨?_, ?_⟩, ?_, ?_⟩ <;> omega
    · simp only [over, List.nil_append, List.cons_append, List.foldl_cons, List.foldl_nil, bump, wrap8, num]
      omega
  · obtain ⟨rfl, e2⟩ := List.append_inj' (show ini ++ [i] = [3, 2] ++ [1] from e) rfl
    obtain rfl : i = 1 := by simpa using e2
    obtain ⟨h3, h2, _⟩ := h
    simp only [over, List.nil_append, List.cons_append, List.foldl_cons, List.foldl_nil, byt, bump, wrap8] at hb h3 h2
    refine inc_of ?_ ?_
    · simp only [over, List.nil_append, List.cons_append, List.foldl_cons, List.foldl_nil, bump, wrap8, okR]
      refine ⟨⟨?_, ?_⟩, ⟨?_, ?_⟩, ⟨?_, ?_⟩, ?_, ?_⟩ <;> omega
    · simp only [over, List.nil_append, List.cons_append, List.foldl_cons, List.foldl_nil, bump, wrap8, num]
      omega
  · obtain ⟨rfl, e2⟩ := List.append_inj' (show ini ++ [i] = [3, 2, 1] ++ [0] from e) rfl
    obtain rfl : i = 0 := by simpa using e2
    obtain ⟨h3, h2, h1, _⟩ := h
    simp only [over, List.nil_append, List.cons_append, List.foldl_cons, List.foldl_nil, byt, bump, wrap8] at hb h3 h2 h1
    refine inc_of ?_ ?_
    · simp only [over, List.nil_append, List.cons_append, List.foldl_cons, List.foldl_nil, bump, wrap8, okR]
      refine ⟨⟨?_, ?_⟩, ⟨?_, ?_⟩, ⟨?_, ?_⟩, ?_, ?_⟩ <;> omega
    · simp only [over, List.nil_append, List.cons_append, List.foldl_cons, List.foldl_nil, bump, wrap8, num]
      omega

/-- A row of a record's bytes. -/
def arr (r : R4) : Array Value := #[.int .u8 r.1, .int .u8 r.2.1, .int .u8 r.2.2.1, .int .u8 r.2.2.2]
def RowAt (W : World) (b : Nat) (r : R4) : Prop := W.heap[b]? = some (.cells (arr r) 32 (0, 0))
def BoxAt (W : World) (Bs b : Nat) : Prop := W.heap[Bs]? = some (.cells #[.slice (some ⟨b, 0, none⟩) 4 4] 130 (0, 0))
/-- What a round that goes on keeps. -/
def Kp (Bs b : Nat) (W W' : World) : Prop := (BoxAt W Bs b → BoxAt W' Bs b) ∧ ((∃ r, RowAt W b r) → ∃ r, RowAt W' b r)
theorem Kp.refl (Bs b : Nat) (W : World) : Kp Bs b W W := ⟨id, id⟩
theorem Kp.trans {Bs b : Nat} {A B C : World} (h : Kp Bs b A B) (k : Kp Bs b B C) : Kp Bs b A C := ⟨fun x => k.1 (h.1 x), fun x => k.2 (h.2 x)⟩
theorem row_cellN {W : World} {b : Nat} {r : R4} (h : RowAt W b r) {m : Nat} (hm : m < 4) : W.cell? ⟨b, m, none⟩ = some (.int .u8 (byt r m)) := by
  rw [cell_of_row W b m (arr r) _ (0, 0) h]
  rcases (by omega : m = 0 ∨ m = 1 ∨ m = 2 ∨ m = 3) with rfl | rfl | rfl | rfl <;> rfl
theorem Kp.put {Bs b : Nat} {w : World} (hBs : Bs < w.heap.size) (hb : b < w.heap.size) (W : World) (l : Nat) (o o' : Obj) (hl : w.heap.size ≤ l) (_ : W.heap[l]? = some o) (_ : o.isCells = false) (_ : o.isWalk = false) : Kp Bs b W (W.putObj l o') :=
  ⟨fun h => (World.putObj_heap_other (by omega)).trans h, fun ⟨r, h⟩ => ⟨r, (World.putObj_heap_other (by omega)).trans h⟩⟩
abbrev Rnd := Fin 4 × Int
def ixs (l : List Rnd) : List Nat := l.map (·.1.val)

set_option maxRecDepth 100000 in
set_option maxHeartbeats 2000000 in
theorem back1_in (F : Fence) (n : Nat) (hf : F.fn 73) (hro : F.round = none) (hn : 1 ≤ n) (l Bs b : Nat) (J Jx : List Rnd → World → Prop)
    (hY : ∀ pre x W, J pre W → pre.length < 4 → YieldAt F (n - 1) Tryd.prog l #[.int .i64 (x.1.val : Int), .int .u8 x.2] W fun e W' =>
      (e = .returned (.bool true) ∧ J (pre ++ [x]) W' ∧ Kp Bs b W W') ∨ (e = .returned (.bool false) ∧ Jx (pre ++ [x]) W'))
    (W : World) (hBs : BoxAt W Bs b) (hb : ∃ r, RowAt W b r) (h0 : J [] W) :
    CallsIn F n Tryd.prog 73 #[.func (.yield l) #[] #[], .pointer (some ⟨Bs, 0, none⟩)] W fun e W' => (∃ v, e = .returned v) ∧
      ((∃ ys, ixs ys = dn ∧ J ys W') ∨ (∃ pre, (∃ k, k < 4 ∧ ixs pre = dn.take (k + 1)) ∧ Jx pre W')) := by
  refine callsIn_of_wp Tryd.func73 rfl hf ?_ hro
  have c0 : W.cell? ⟨Bs, 0, none⟩ = some (.slice (some ⟨b, 0, none⟩) 4 4) := row_cell hBs 0
  simp only [Tryd.ntmps73, List.size_toArray, List.length_cons, List.length_nil, Nat.reduceAdd, Nat.reduceSub, Array.replicate_succ, Array.replicate_zero, List.push_toArray, List.append_toArray, List.nil_append, List.cons_append]
  gi_wp2
  gi_loopw [3] (fun i wr => ∃ (m : Nat) (pre : List Rnd), pre.length + m = 4 ∧ i = .int .i64 ((m : Int) - 1) ∧ ixs pre = dn.take (4 - m) ∧ J pre wr ∧ Kp Bs b W wr)
    (fun i _ => (intOf i + 1).toNat)
  case atStart => exact ⟨4, [], rfl, rfl, rfl, h0, Kp.refl _ _ _⟩
  case round =>
    obtain ⟨m, pre, hl, rfl, hp, hJs, hK⟩ := hrel
    have b0 : wr.cell? ⟨Bs, 0, none⟩ = some (.slice (some ⟨b, 0, none⟩) 4 4) := row_cell (hK.1 hBs) 0
    obtain ⟨r, hr⟩ := hK.2 hb
    rcases m with _ | m
    · rw [show ((0 : Nat) : Int) - 1 = -1 from rfl]
      gi_wp2
      go_end0
      exact ⟨⟨_, rfl⟩, .inl ⟨_, hp, hJs⟩⟩
    · have hm : m < 4 := by omega
      rw [show ((m + 1 : Nat) : Int) - 1 = m by omega]
      have hc := row_cellN hr hm
      obtain ⟨fn, tmps, assign, body, hy, hR⟩ := hY pre (⟨m, hm⟩, byt r m) wr hJs (by omega)
      dsimp only at hy
      have hpp : ixs (pre ++ [((⟨m, hm⟩, byt r m) : Rnd)]) = dn.take (4 - m) := by
        unfold ixs at *
        rw [List.map_append, hp]
        rcases (by omega : m = 0 ∨ m = 1 ∨ m = 2 ∨ m = 3) with rfl | rfl | rfl | rfl <;> rfl
      gi_wp2
      refine hR.mono ?_
      rintro e W3 (⟨rfl, hJ3, hk3⟩ | ⟨rfl, hJx3⟩)
      · gi_wp2
        go_roundw
        case rel => exact ⟨m, _, by rw [List.length_append]; simp only [List.length_cons, List.length_nil]; omega, by first | rfl | go_num, hpp, hJ3, hK.trans hk3⟩
        case measure => simp [intOf] <;> omega
      · gi_wp2
        refine bodyPost_ret (results_none rfl _ _ _) rfl ?_
        exact ⟨⟨_, rfl⟩, .inr ⟨_, ⟨3 - m, by omega, by rw [hpp]; congr 1; omega⟩, hJx3⟩⟩

set_option maxHeartbeats 400000 in
theorem back_in (F : Fence) (n : Nat) (hf : F.fn 59) (hro : F.round = none) (a : Option Addr) (len cap : Nat) (w : World) :
    CallsIn F n Tryd.prog 59 #[.slice a len cap] w fun e w' => e = .returned (.func (.func 73) #[] #[.pointer (some ⟨w.heap.size, 0, none⟩)]) ∧ w' = w.alloc (.cells #[.slice a len cap] 130) := by
  refine callsIn_of_wp Tryd.func59 rfl hf ?_ hro
  simp only [Tryd.ntmps59, List.size_toArray, List.length_cons, List.length_nil, Nat.reduceAdd, Nat.reduceSub, Array.replicate_succ, Array.replicate_zero, List.push_toArray, List.append_toArray, List.nil_append, List.cons_append]
  gi_wp2
  go_ret
  exact ⟨rfl, rfl⟩

theorem back_stops (F : Fence) (n : Nat) (hf : F.fn 73) (hro : F.round = none) (hn : 1 ≤ n) (Bs b : Nat) (w : World) (hBs : BoxAt w Bs b) (hb : ∃ r, RowAt w b r) :
    SeqStopsK F n Tryd.prog 73 #[.pointer (some ⟨Bs, 0, none⟩)] (fun x : Rnd => #[Value.int .i64 (x.1.val : Int), Value.int .u8 x.2]) (Kp Bs b) (fun ys => ixs ys = dn) (fun pre => ∃ k, k < 4 ∧ ixs pre = dn.take (k + 1)) 4 w := fun l J Jx W hW _ _ hY h0 =>
  back1_in F n hf hro hn l Bs b J Jx hY W ((hW.block _ (lt_of_block hBs)).trans hBs) (by obtain ⟨r, h⟩ := hb; exact ⟨r, (hW.block _ (lt_of_block h)).trans h⟩) h0

end Go.Proofs.YtoeemngekioldaaDoor.Fl
