/- The code's queue: New, Len, First. -/
import Derived.Test.YtfbhmhgmebaoaaaQeRing
import Derived.Test.YtfbhmhgmebaoaaaRqVal
import Derived.Test.YtfbhmhgmebaoaaaSc
import Derived.LoopTactic
import Derived.Outline
import Derived.Deep.Cut
namespace Go.Proofs.Ytfbhmhgmebaoaaa.Qe
open Go.RowKit
open Go.Proofs.Ytfbhmhgmebaoaaa.Rq (Q zQ qA qV results_request)
open Go.Proofs.Ytfbhmhgmebaoaaa.Fl (R4 z4)
open Go.Proofs.Ytfbhmhgmebaoaaa.Fs (Only Fx)
set_option maxRecDepth 100000
attribute [local irreducible] Sd.wpSd wpQuiet

theorem len_nil (w : World) : Calls Try.prog 13 #[.pointer none] w fun e w' => e = .returned (.int .i64 0) ∧ Below w.heap.size w w' := by
  go_enter Try.func13, Try.ntmps13
  go_wp2
  go_ret
  exact ⟨rfl, Below.refl _ _⟩
theorem len_of {w : World} {g : Nat} {s : Qs} (h : Cq w g s) : Calls Try.prog 13 #[.pointer (some ⟨g, 0, none⟩)] w fun e w' => e = .returned (.int .i64 s.L.length) ∧ Below w.heap.size w w' := by
  obtain ⟨cs, a, hr, hv⟩ := h
  have c1 := (cell_of_row w g 89 cs _ (0, 0) hr).trans hv.cn
  clear hv hr
  go_enter Try.func13, Try.ntmps13
  go_wp2
  go_ret
  exact ⟨rfl, Below.refl _ _⟩

def zcs : Array Value := ((List.replicate 8 (eA zQ 0).toList).flatten ++ ([.int .i64 0, .int .i64 0] : List Value)).toArray
theorem zero_queue (w : World) : (zeroValue 48).run Try.prog w = .ok (.agg zcs) w := by kernel_rfl
theorem zcs_size : zcs.size = 90 := by kernel_rfl
theorem zcs_a : zcs[88]? = some (.int .i64 0) := by kernel_rfl
theorem zcs_n : zcs[89]? = some (.int .i64 0) := by kernel_rfl
set_option maxHeartbeats 4000000 in
theorem new_any (w : World) : Calls Try.prog 5 #[] w fun e w' => ∃ g, e = .returned (.pointer (some ⟨g, 0, none⟩)) ∧ Cq w' g q0 ∧ w.heap.size ≤ g ∧ Below w.heap.size w w' := by
  have FIN : Hid (∀ cs : Array Value, cs.size = 90 → cs[88]? = some (.int .i64 0) → cs[89]? = some (.int .i64 0) → ∃ g, Ending.returned (.pointer (some ⟨w.heap.size, 0, none⟩)) = .returned (.pointer (some ⟨g, 0, none⟩)) ∧ Cq (w.alloc (.cells cs 48)) g q0 ∧ w.heap.size ≤ g ∧ Below w.heap.size w (w.alloc (.cells cs 48))) := Lib.hid fun cs h1 h2 h3 =>
    ⟨w.heap.size, rfl, ⟨cs, 0, heap_alloc_new w _, ⟨h1, h2, h3, by decide, fun k hk => absurd hk (Nat.not_lt_zero _)⟩⟩, Nat.le_refl _, (Below.refl _ _).alloc (Nat.le_refl _) _⟩
  go_enter Try.func5, Try.ntmps5
  have hz := zero_queue
  have F := Lib.hid (FIN.out _ zcs_size zcs_a zcs_n)
  clear FIN
  generalize zcs = cs at *
  go_wp2
  go_ret
  exact F.out

set_option maxHeartbeats 4000000 in
theorem first_none {w : World} {g : Nat} {s : Qs} (h : Cq w g s) (hs : s.L = []) : Calls Try.prog 12 #[.pointer (some ⟨g, 0, none⟩)] w fun e w' => e = .returned (.tuple #[qV (fst s), .bool (has s)]) ∧ Below w.heap.size w w' := by
  have e1 : fst s = zQ := by unfold fst; rw [hs]; rfl
  have e2 : has s = false := by unfold has; rw [hs]; rfl
  have e3 : (s.L.length : Int) = 0 := by rw [hs]; rfl
  rw [e1, e2]
  have B0 := (Below.refl w.heap.size w).alloc (Nat.le_refl _) (.cells (qA zQ) 33)
  have R0 := Lib.hid (heap_alloc_new w (.cells (qA zQ) 33))
  have LN := Lib.hid (len_of (h.below B0))
  rw [e3] at LN
  have B0 := Lib.hid B0
  clear e1 e2 e3 hs h
  unfold qV qA zQ z4 at *
  dsimp only at B0 R0 LN ⊢
  go_enter Try.func12, Try.ntmps12
  go_wp2_with fail
  generalize w.alloc (.cells #[.int .i64 0, .int .i64 0, .int .i64 0, .int .i64 0, .int .i64 0, .int .u8 0, .int .u8 0, .int .u8 0, .int .u8 0, .int .i64 0] 33) = W at *
  refine (LN.out).mono ?_
  rintro e w1 ⟨rfl, b1⟩
  have lw := lt_of_block R0.out
  have R1 := Lib.hid ((b1.block _ lw).trans R0.out)
  have B1 := Lib.hid (bTr B0.out b1)
  clear b1 LN R0 B0 lw
  go_wp2_with ((with_reducible refine wpList_store_row (o := ⟨none, _, _, _, _, _⟩) rfl 33 _ _ rfl w.heap.size #[.int .i64 0, .int .i64 0, .int .i64 0, .int .i64 0, .int .i64 0, .int .u8 0, .int .u8 0, .int .u8 0, .int .u8 0, .int .i64 0] rfl rfl _ _ R1.out (by kernel_rfl) rfl (by simp [Value.oneCell']) ?_))
  exact bodyPost_ret (results_request (p := 2) (r := 3) rfl _ _ w.heap.size _ rfl rfl (setRow_heap w1 w.heap.size _ _ _ _ R1.out) rfl) rfl ⟨rfl, below_setRow B1.out (Nat.le_refl _) _⟩

def Cr (g : Nat) (cs : Array Value) (w : World) : Prop := w.heap[g]? = some (.cells cs 48 (0, 0))
set_option maxHeartbeats 4000000 in
theorem first_some {w : World} {g : Nat} {s : Qs} (h : Cq w g s) (h0 : 0 < s.L.length) : Calls Try.prog 12 #[.pointer (some ⟨g, 0, none⟩)] w fun e w' => e = .returned (.tuple #[qV (fst s), .bool (has s)]) ∧ Below w.heap.size w w' := by
  have e2 : has s = true := by unfold has; exact decide_eq_true h0
  have B0 := (Below.refl w.heap.size w).alloc (Nat.le_refl _) (.cells (qA zQ) 33)
  have R0 := Lib.hid (heap_alloc_new w (.cells (qA zQ) 33))
  have LN := Lib.hid (len_of (h.below B0))
  obtain ⟨cs, a, hr, hv⟩ := h
  have hr1 := Lib.hid (bBl B0 hr)
  have D0 := Lib.hid hr
  have ha := hv.lt
  have EL : ∀ j, j < 11 → cs[a * 11 + j]? = (eA (fst s) s.t)[j]? := fun j hj => by
    have := hv.el 0 h0 j hj
    rw [show (a + 0) % 8 = a by omega] at this
    rw [this]
    show (eA (s.L.getD 0 zQ) s.t)[j]? = (eA (s.L.headD zQ) s.t)[j]?
    cases s.L <;> rfl
  have CA := Lib.hid hv.ca
  have B0 := Lib.hid B0
  rw [e2]
  clear e2 hr hv
  have hn : ¬ ((s.L.length : Nat) : Int) = 0 := by omega
  generalize fst s = x at *
  generalize s.L.length = m at *
  obtain ⟨xi, xk, xn, xf, xr, ⟨v0, v1, v2, v3⟩, xy⟩ := x
  have EL := Lib.hid EL
  unfold qV qA zQ z4 at *
  dsimp only at B0 R0 LN EL ⊢
  go_enter Try.func12, Try.ntmps12
  go_wp2_with fail
  generalize w.alloc (.cells #[.int .i64 0, .int .i64 0, .int .i64 0, .int .i64 0, .int .i64 0, .int .u8 0, .int .u8 0, .int .u8 0, .int .u8 0, .int .i64 0] 33) = W at *
  refine (LN.out).mono ?_
  rintro e w1 ⟨rfl, b1⟩
  have R1 := Lib.hid ((b1.block _ (lt_of_block R0.out)).trans R0.out)
  have D1 := Lib.hid ((b1.block _ (lt_of_block hr1.out)).trans hr1.out)
  have B1 := Lib.hid (bTr B0.out b1)
  clear b1 LN R0 B0 hr1
  go_upto_region 3 with fail
  have a8 : (a : Int) < 8 := by omega
  have a0 : 0 ≤ (a : Int) := by omega
  have C0 : Cr g cs w1 := D1.out
  have c88 := Sc.cell_in (C := Cr g cs) (a := ⟨g, 88, none⟩) (v := .int .i64 a) (fun W' h => (cell_of_row W' g 88 cs _ (0, 0) h).trans CA.out)
  have x0 := Sc.cell_in (C := Cr g cs) (a := ⟨g, a * 11, none⟩) (v := .int .i64 xi) (fun W' h => (cell_of_row W' g _ cs _ (0, 0) h).trans (EL.out 0 (by decide)))
  have x1 := Sc.cell_in (C := Cr g cs) (a := ⟨g, a * 11 + 1, none⟩) (v := .int .i64 xk) (fun W' h => (cell_of_row W' g _ cs _ (0, 0) h).trans (EL.out 1 (by decide)))
  have x2 := Sc.cell_in (C := Cr g cs) (a := ⟨g, a * 11 + 2, none⟩) (v := .int .i64 xn) (fun W' h => (cell_of_row W' g _ cs _ (0, 0) h).trans (EL.out 2 (by decide)))
  have x3 := Sc.cell_in (C := Cr g cs) (a := ⟨g, a * 11 + 3, none⟩) (v := .int .i64 xf) (fun W' h => (cell_of_row W' g _ cs _ (0, 0) h).trans (EL.out 3 (by decide)))
  have x4 := Sc.cell_in (C := Cr g cs) (a := ⟨g, a * 11 + 4, none⟩) (v := .int .i64 xr) (fun W' h => (cell_of_row W' g _ cs _ (0, 0) h).trans (EL.out 4 (by decide)))
  have x5 := Sc.cell_in (C := Cr g cs) (a := ⟨g, a * 11 + 5, none⟩) (v := .int .u8 v0) (fun W' h => (cell_of_row W' g _ cs _ (0, 0) h).trans (EL.out 5 (by decide)))
  have x6 := Sc.cell_in (C := Cr g cs) (a := ⟨g, a * 11 + 6, none⟩) (v := .int .u8 v1) (fun W' h => (cell_of_row W' g _ cs _ (0, 0) h).trans (EL.out 6 (by decide)))
  have x7 := Sc.cell_in (C := Cr g cs) (a := ⟨g, a * 11 + 7, none⟩) (v := .int .u8 v2) (fun W' h => (cell_of_row W' g _ cs _ (0, 0) h).trans (EL.out 7 (by decide)))
  have x8 := Sc.cell_in (C := Cr g cs) (a := ⟨g, a * 11 + 8, none⟩) (v := .int .u8 v3) (fun W' h => (cell_of_row W' g _ cs _ (0, 0) h).trans (EL.out 8 (by decide)))
  have x9 := Sc.cell_in (C := Cr g cs) (a := ⟨g, a * 11 + 9, none⟩) (v := .int .i64 xy) (fun W' h => (cell_of_row W' g _ cs _ (0, 0) h).trans (EL.out 9 (by decide)))
  have ne : Nonempty (Sc.In (Cr g cs)) := ⟨⟨_, C0⟩⟩
  refine Sc.start (Cr g cs) [(false, 0), (false, 1), (false, 2), (false, 3), (false, 4), (false, 5), (false, 6), (false, 7), (false, 8), (false, 9), (true, 10), (false, 11)] (by kernel_rfl) (by kernel_rfl) (by kernel_rfl) C0 ?_
  dsimp only [Sd.picks, List.getElem?_cons_succ, List.getElem?_cons_zero]
  repeat (refine Sd.lit ?_; quiet_step (fail); refine wpQuiet_nil ?_)
  refine Sd.call (by rfl) (fun K hK => ?_)
  have R2 : w1.drew.heap[w.heap.size]? = some (.cells #[.int .i64 0, .int .i64 0, .int .i64 0, .int .i64 0, .int .i64 0, .int .u8 0, .int .u8 0, .int .u8 0, .int .u8 0, .int .i64 0] 33 (0, 0)) := R1.out
  refine wp_store_row 33 _ _ rfl w.heap.size #[.int .i64 xi, .int .i64 xk, .int .i64 xn, .int .i64 xf, .int .i64 xr, .int .u8 v0, .int .u8 v1, .int .u8 v2, .int .u8 v3, .int .i64 xy] rfl rfl 33 _ R2 (by kernel_rfl) rfl (by simp [Value.oneCell']) ?_
  have RA := Lib.hid (setRow_heap w1.drew w.heap.size _ #[.int .i64 xi, .int .i64 xk, .int .i64 xn, .int .i64 xf, .int .i64 xr, .int .u8 v0, .int .u8 v1, .int .u8 v2, .int .u8 v3, .int .i64 xy] _ _ R2)
  have BA := Lib.hid (below_setRow B1.out.drew (Nat.le_refl _) #[.int .i64 xi, .int .i64 xk, .int .i64 xn, .int .i64 xf, .int .i64 xr, .int .u8 v0, .int .u8 v1, .int .u8 v2, .int .u8 v3, .int .i64 xy])
  have ng : w.heap.size ≠ g := by have := lt_of_block D0.out; omega
  have DA : Cr g cs (w1.drew.setRow w.heap.size #[.int .i64 xi, .int .i64 xk, .int .i64 xn, .int .i64 xf, .int .i64 xr, .int .u8 v0, .int .u8 v1, .int .u8 v2, .int .u8 v3, .int .i64 xy]) := (setRow_other w1.drew w.heap.size g #[.int .i64 xi, .int .i64 xk, .int .i64 xn, .int .i64 xf, .int .i64 xr, .int .u8 v0, .int .u8 v1, .int .u8 v2, .int .u8 v3, .int .i64 xy] (fun e => ng e.symm)).trans C0
  refine hK _ _ (Sc.Cl.of DA) ?_
  clear hK K B1 R1 R2 D1 C0 DA D0 ng
  generalize w1.drew.setRow w.heap.size #[.int .i64 xi, .int .i64 xk, .int .i64 xn, .int .i64 xf, .int .i64 xr, .int .u8 v0, .int .u8 v1, .int .u8 v2, .int .u8 v3, .int .i64 xy] = wA at *
  repeat (refine Sd.lit ?_; quiet_step (fail); refine wpQuiet_nil ?_)
  refine Sd.done ?_
  go_wp2
  exact bodyPost_ret (results_request (p := 2) (r := 3) rfl _ _ w.heap.size _ rfl rfl RA.out rfl) rfl ⟨rfl, BA.out⟩

theorem first_of {w : World} {g : Nat} {s : Qs} (h : Cq w g s) : Calls Try.prog 12 #[.pointer (some ⟨g, 0, none⟩)] w fun e w' => e = .returned (.tuple #[qV (fst s), .bool (has s)]) ∧ Below w.heap.size w w' := by
  by_cases h0 : 0 < s.L.length
  · exact first_some h h0
  · exact first_none h (List.length_eq_zero_iff.1 (by omega))
set_option maxHeartbeats 4000000 in
theorem first_nil (w : World) : Calls Try.prog 12 #[.pointer none] w fun e w' => e = .returned (.tuple #[qV zQ, .bool false]) ∧ Below w.heap.size w w' := by
  have B0 := (Below.refl w.heap.size w).alloc (Nat.le_refl _) (.cells (qA zQ) 33)
  have R0 := Lib.hid (heap_alloc_new w (.cells (qA zQ) 33))
  have LN := Lib.hid (len_nil (w.alloc (.cells (qA zQ) 33)))
  have B0 := Lib.hid B0
  unfold qV qA zQ z4 at *
  dsimp only at B0 R0 LN ⊢
  go_enter Try.func12, Try.ntmps12
  go_wp2_with fail
  generalize w.alloc (.cells #[.int .i64 0, .int .i64 0, .int .i64 0, .int .i64 0, .int .i64 0, .int .u8 0, .int .u8 0, .int .u8 0, .int .u8 0, .int .i64 0] 33) = W at *
  refine (LN.out).mono ?_
  rintro e w1 ⟨rfl, b1⟩
  have lw := lt_of_block R0.out
  have R1 := Lib.hid ((b1.block _ lw).trans R0.out)
  have B1 := Lib.hid (bTr B0.out b1)
  clear b1 LN R0 B0 lw
  go_wp2_with ((with_reducible refine wpList_store_row (o := ⟨none, _, _, _, _, _⟩) rfl 33 _ _ rfl w.heap.size #[.int .i64 0, .int .i64 0, .int .i64 0, .int .i64 0, .int .i64 0, .int .u8 0, .int .u8 0, .int .u8 0, .int .u8 0, .int .i64 0] rfl rfl _ _ R1.out (by kernel_rfl) rfl (by simp [Value.oneCell']) ?_))
  exact bodyPost_ret (results_request (p := 2) (r := 3) rfl _ _ w.heap.size _ rfl rfl (setRow_heap w1 w.heap.size _ _ _ _ R1.out) rfl) rfl ⟨rfl, below_setRow B1.out (Nat.le_refl _) _⟩

end Go.Proofs.Ytfbhmhgmebaoaaa.Qe
