/- The code's queue: Pop. -/
import Derived.Test.YtfbhmhgmebaoaaaQePut
namespace Go.Proofs.Ytfbhmhgmebaoaaa.Qe
open Go.RowKit
open Go.Proofs.Ytfbhmhgmebaoaaa.Rq (Q zQ qA qV results_request)
open Go.Proofs.Ytfbhmhgmebaoaaa.Fl (R4 z4)
open Go.Proofs.Ytfbhmhgmebaoaaa.Fs (Only Fx)
set_option maxRecDepth 100000
attribute [local irreducible] Sd.wpSd wpQuiet

/-- Pop where First answers nothing. -/
theorem pop_of {w : World} {p : Option Addr} (LN : ∀ W, Below w.heap.size w W → Calls Try.prog 12 #[.pointer p] W fun e w' => e = .returned (.tuple #[qV zQ, .bool false]) ∧ Below W.heap.size W w') : Calls Try.prog 6 #[.pointer p] w fun e w' => e = .returned (.tuple #[qV zQ, .bool false]) ∧ Below w.heap.size w w' := by
  have B0 := (Below.refl w.heap.size w).alloc (Nat.le_refl _) (.cells (qA zQ) 33)
  have R0 := Lib.hid (heap_alloc_new w (.cells (qA zQ) 33))
  have LN := Lib.hid (LN _ B0)
  have B0 := Lib.hid B0
  unfold qV qA zQ z4 at *
  dsimp only at B0 R0 LN ⊢
  go_enter Try.func6, Try.ntmps6
  go_wp2_with fail
  generalize w.alloc (.cells #[.int .i64 0, .int .i64 0, .int .i64 0, .int .i64 0, .int .i64 0, .int .u8 0, .int .u8 0, .int .u8 0, .int .u8 0, .int .i64 0] 33) = W at *
  refine (LN.out).mono ?_
  rintro e w1 ⟨rfl, b1⟩
  have R1 := Lib.hid ((b1.block _ (lt_of_block R0.out)).trans R0.out)
  have B1 := Lib.hid (bTr B0.out b1)
  clear b1 LN R0 B0
  go_upto_region 3 with fail
  have bb := (Below.refl w1.heap.size w1).alloc (Nat.le_refl _) (.cells #[.int .i64 0, .int .i64 0, .int .i64 0, .int .i64 0, .int .i64 0, .int .u8 0, .int .u8 0, .int .u8 0, .int .u8 0, .int .i64 0] 33)
  have R2 := Lib.hid (bBl bb R1.out)
  have B2 := Lib.hid (bTr B1.out bb)
  clear bb R1 B1
  generalize w1.alloc (.cells #[.int .i64 0, .int .i64 0, .int .i64 0, .int .i64 0, .int .i64 0, .int .u8 0, .int .u8 0, .int .u8 0, .int .u8 0, .int .i64 0] 33) = W2 at *
  go_wp2_with ((with_reducible refine wpList_store_row (o := ⟨none, _, _, _, _, _⟩) rfl 33 _ _ rfl w.heap.size #[.int .i64 0, .int .i64 0, .int .i64 0, .int .i64 0, .int .i64 0, .int .u8 0, .int .u8 0, .int .u8 0, .int .u8 0, .int .i64 0] rfl rfl _ _ R2.out (by kernel_rfl) rfl (by simp [Value.oneCell']) ?_))
  exact bodyPost_ret (results_request (p := 2) (r := 3) rfl _ _ w.heap.size _ rfl rfl (setRow_heap W2 w.heap.size _ _ _ _ R2.out) rfl) rfl ⟨rfl, below_setRow B2.out (Nat.le_refl _) _⟩
theorem pop_nil (w : World) : Calls Try.prog 6 #[.pointer none] w fun e w' => e = .returned (.tuple #[qV zQ, .bool false]) ∧ Below w.heap.size w w' := pop_of fun W _ => first_nil W

def C88 (g a : Nat) (W : World) : Prop := W.cell? ⟨g, 88, none⟩ = some (.int .i64 a)
set_option maxHeartbeats 8000000 in
theorem pop_some {w : World} {g : Nat} {s : Qs} (h : Cq w g s) (h8 : s.L.length ≤ 8) (h0 : 0 < s.L.length) : Calls Try.prog 6 #[.pointer (some ⟨g, 0, none⟩)] w fun e w' => e = .returned (.tuple #[qV (fst s), .bool true]) ∧ Cq w' g (poS s) ∧ Only (At1 g) w w' := by
  have B0 := (Below.refl w.heap.size w).alloc (Nat.le_refl _) (.cells (qA zQ) 33)
  have R0 := Lib.hid (heap_alloc_new w (.cells (qA zQ) 33))
  have LN := first_of (h.below B0)
  rw [show has s = true from decide_eq_true h0] at LN
  have LN := Lib.hid LN
  obtain ⟨cs, a, hr, hv⟩ := h
  have D0 := Lib.hid (bBl B0 hr)
  have B0 := Lib.hid B0
  have gl := lt_of_block hr
  have ha := hv.lt
  have hz := hv.sz
  have CA := Lib.hid hv.ca
  have CN := Lib.hid hv.cn
  have GET := Lib.hid (ring_get hz ha zQ 0)
  have Q1 := Lib.hid (eA_one zQ 0)
  have FIN : Hid (∀ w' X, Below w.heap.size w w' → w'.heap[g]? = some (.cells cs 48 (0, 0)) → Cq ((((w'.setRow g (splice cs.toList (a * 11) (eA zQ 0).toList).toArray).setCell ⟨g, 88, none⟩ (.int .i64 ((a + 1) % 8 : Nat))).setCell ⟨g, 89, none⟩ (.int .i64 (s.L.length - 1))).setRow w.heap.size X) g (poS s) ∧ Only (At1 g) w ((((w'.setRow g (splice cs.toList (a * 11) (eA zQ 0).toList).toArray).setCell ⟨g, 88, none⟩ (.int .i64 ((a + 1) % 8 : Nat))).setCell ⟨g, 89, none⟩ (.int .i64 (s.L.length - 1))).setRow w.heap.size X)) := Lib.hid fun w' X b hr' => by
    have hr2 := setRow_heap w' g _ (splice cs.toList (a * 11) (eA zQ 0).toList).toArray _ _ hr'
    have hr3 := Rw.heap_setCell_same (j := 88) hr2 (.int .i64 ((a + 1) % 8 : Nat))
    have hr4 := Rw.heap_setCell_same (j := 89) hr3 (.int .i64 (s.L.length - 1))
    have c4 : Cq _ g (poS s) := ⟨_, _, hr4, hv.pop h8 h0⟩
    have o4 := (Only.of_below (G := At1 g) b).trans ((only_row (splice cs.toList (a * 11) (eA zQ 0).toList).toArray).trans ((Only.set (At1 g) _ (a := ⟨g, 88, none⟩) rfl (.int .i64 ((a + 1) % 8 : Nat))).trans (Only.set (At1 g) _ (a := ⟨g, 89, none⟩) rfl (.int .i64 (s.L.length - 1))) fun _ _ e => e) fun _ _ e => e) fun _ _ e => e
    have o5 := only_row (w := (((w'.setRow g (splice cs.toList (a * 11) (eA zQ 0).toList).toArray).setCell ⟨g, 88, none⟩ (.int .i64 ((a + 1) % 8 : Nat))).setCell ⟨g, 89, none⟩ (.int .i64 (s.L.length - 1)))) (g := w.heap.size) X
    exact ⟨c4.only (show ¬ g = w.heap.size by omega) o5, o4.trans o5 fun k hk e => absurd e (show ¬ k = w.heap.size by omega)⟩
  have e1 : IntKind.i64.wrap ((a : Int) + 1) = (a : Int) + 1 := IntWalk.i64_in _ (by omega)
  have e2 : Int.tmod ((a : Int) + 1) 8 = (((a + 1) % 8 : Nat) : Int) := by rw [Int.tmod_eq_emod_of_nonneg (by omega)]; omega
  have e3 : IntKind.i64.wrap (((a + 1) % 8 : Nat) : Int) = (((a + 1) % 8 : Nat) : Int) := IntWalk.i64_in _ (by omega)
  have e4 : IntKind.i64.wrap ((s.L.length : Int) - 1) = (s.L.length : Int) - 1 := IntWalk.i64_in _ (by omega)
  have SZ := Lib.hid hz
  clear hv hr hz h0
  generalize (a + 1) % 8 = p at *
  generalize fst s = x at *
  generalize poS s = s' at *
  generalize s.L.length = m at *
  obtain ⟨xi, xk, xn, xf, xr, ⟨v0, v1, v2, v3⟩, xy⟩ := x
  unfold qV
  unfold qV at LN
  unfold qA eA zQ z4 at *
  dsimp only at B0 R0 LN FIN GET Q1 ⊢
  go_enter Try.func6, Try.ntmps6
  go_wp2_with fail
  generalize w.alloc (.cells #[.int .i64 0, .int .i64 0, .int .i64 0, .int .i64 0, .int .i64 0, .int .u8 0, .int .u8 0, .int .u8 0, .int .u8 0, .int .i64 0] 33) = W at *
  refine (LN.out).mono ?_
  rintro e w1 ⟨rfl, b1⟩
  have R1 := Lib.hid (bBl b1 R0.out)
  have D1 := Lib.hid (bBl b1 D0.out)
  have B1 := Lib.hid (bTr B0.out b1)
  clear b1 LN R0 B0 D0
  go_upto_region 4 with fail
  have bb := (Below.refl w1.heap.size w1).alloc (Nat.le_refl _) (.cells #[.int .i64 xi, .int .i64 xk, .int .i64 xn, .int .i64 xf, .int .i64 xr, .int .u8 v0, .int .u8 v1, .int .u8 v2, .int .u8 v3, .int .i64 xy] 33)
  have X2 := Lib.hid (heap_alloc_new w1 (.cells #[.int .i64 xi, .int .i64 xk, .int .i64 xn, .int .i64 xf, .int .i64 xr, .int .u8 v0, .int .u8 v1, .int .u8 v2, .int .u8 v3, .int .i64 xy] 33))
  have R2 := Lib.hid (bBl bb R1.out)
  have D2 := Lib.hid (bBl bb D1.out)
  have B2 := Lib.hid (bTr B1.out bb)
  have nx : w1.heap.size ≠ g := by have := lt_of_block D1.out; omega
  clear bb R1 B1 D1
  generalize w1.alloc (.cells #[.int .i64 xi, .int .i64 xk, .int .i64 xn, .int .i64 xf, .int .i64 xr, .int .u8 v0, .int .u8 v1, .int .u8 v2, .int .u8 v3, .int .i64 xy] 33) = W2 at *
  generalize w1.heap.size = g4 at *
  have C0 : C88 g a W2 := (cell_of_row _ g 88 cs _ (0, 0) D2.out).trans CA.out
  have c0 := Sc.cell_in (C := C88 g a) (a := ⟨g, 88, none⟩) (v := .int .i64 a) (fun W' h => h)
  have ne : Nonempty (Sc.In (C88 g a)) := ⟨⟨_, C0⟩⟩
  have a8 : (a : Int) < 8 := by omega
  have a0 : 0 ≤ (a : Int) := by omega
  refine Sc.start (C88 g a) [(false, 0), (false, 1), (false, 2), (false, 3), (false, 4), (false, 5), (false, 6), (false, 7), (false, 8), (true, 9)] (by kernel_rfl) (by kernel_rfl) (by kernel_rfl) C0 ?_
  dsimp only [Sd.picks, List.getElem?_cons_succ, List.getElem?_cons_zero]
  repeat (refine Sd.lit ?_; quiet_step (fail); refine wpQuiet_nil ?_)
  refine Sd.call (by rfl) (fun K hK => ?_)
  have D6 : W2.drew.heap[g]? = some (.cells cs 48 (0, 0)) := D2.out
  have F := Lib.hid (FIN.out W2.drew #[.int .i64 xi, .int .i64 xk, .int .i64 xn, .int .i64 xf, .int .i64 xr, .int .u8 v0, .int .u8 v1, .int .u8 v2, .int .u8 v3, .int .i64 xy] B2.out.drew D6)
  refine Seg.wp_store _ _ _ rfl g (a * 11) #[.int .i64 0, .int .i64 0, .int .i64 0, .int .i64 0, .int .i64 0, .int .u8 0, .int .u8 0, .int .u8 0, .int .u8 0, .int .i64 0, .int .i64 0] rfl rfl 48 cs D6 infoW (by rw [SZ.out]; show a * 11 + 11 ≤ 90; omega) Q1.out ?_
  have D7 := setRow_heap W2.drew g _ (splice cs.toList (a * 11) #[.int .i64 0, .int .i64 0, .int .i64 0, .int .i64 0, .int .i64 0, .int .u8 0, .int .u8 0, .int .u8 0, .int .u8 0, .int .i64 0, .int .i64 0].toList).toArray _ _ D6
  have z0 := (cell_of_row _ g 88 _ _ (0, 0) D7).trans ((GET.out 88).trans ((if_neg (by omega)).trans CA.out))
  have z1 := (cell_of_row _ g 89 _ _ (0, 0) D7).trans ((GET.out 89).trans ((if_neg (by omega)).trans CN.out))
  have y0 := frozen_of_row _ g 88 _ _ D7
  have y1 := frozen_of_row _ g 89 _ _ D7
  have X7 : (W2.drew.setRow g (splice cs.toList (a * 11) #[.int .i64 0, .int .i64 0, .int .i64 0, .int .i64 0, .int .i64 0, .int .u8 0, .int .u8 0, .int .u8 0, .int .u8 0, .int .i64 0, .int .i64 0].toList).toArray).heap[g4]? = some (.cells #[.int .i64 xi, .int .i64 xk, .int .i64 xn, .int .i64 xf, .int .i64 xr, .int .u8 v0, .int .u8 v1, .int .u8 v2, .int .u8 v3, .int .i64 xy] 33 (0, 0)) := (setRow_other W2.drew g g4 _ nx).trans X2.out
  have R7 : (W2.drew.setRow g (splice cs.toList (a * 11) #[.int .i64 0, .int .i64 0, .int .i64 0, .int .i64 0, .int .i64 0, .int .u8 0, .int .u8 0, .int .u8 0, .int .u8 0, .int .i64 0, .int .i64 0].toList).toArray).heap[w.heap.size]? = some (.cells #[.int .i64 0, .int .i64 0, .int .i64 0, .int .i64 0, .int .i64 0, .int .u8 0, .int .u8 0, .int .u8 0, .int .u8 0, .int .i64 0] 33 (0, 0)) := (setRow_other W2.drew g w.heap.size _ (by omega)).trans R2.out
  have X7 := Lib.hid X7
  have R7 := Lib.hid R7
  refine hK _ _ (Sc.Cl.of (show C88 g a _ from z0)) ?_
  clear hK K c0 ne FIN D6 D7 C0 GET X2 R2 D2 B2 CA CN Q1 SZ
  generalize W2.drew.setRow g (splice cs.toList (a * 11) #[.int .i64 0, .int .i64 0, .int .i64 0, .int .i64 0, .int .i64 0, .int .u8 0, .int .u8 0, .int .u8 0, .int .u8 0, .int .i64 0, .int .i64 0].toList).toArray = W7 at *
  refine Sd.done ?_
  go_upto_region 7 with fail
  have nr : w.heap.size ≠ g := by omega
  have X8 := Lib.hid ((Below.heap_setCell (W7.setCell ⟨g, 88, none⟩ (.int .i64 p)) ⟨g, 89, none⟩ (.int .i64 (m - 1)) g4 nx).trans ((Below.heap_setCell W7 ⟨g, 88, none⟩ (.int .i64 p) g4 nx).trans X7.out))
  have R8 := Lib.hid ((Below.heap_setCell (W7.setCell ⟨g, 88, none⟩ (.int .i64 p)) ⟨g, 89, none⟩ (.int .i64 (m - 1)) w.heap.size nr).trans ((Below.heap_setCell W7 ⟨g, 88, none⟩ (.int .i64 p) w.heap.size nr).trans R7.out))
  clear X7 R7 z0 z1 y0 y1
  generalize (W7.setCell ⟨g, 88, none⟩ (.int .i64 p)).setCell ⟨g, 89, none⟩ (.int .i64 (m - 1)) = W8 at *
  have k0 := rc1 X8.out 0
  have k1 := rc1 X8.out 1
  have k2 := rc1 X8.out 2
  have k3 := rc1 X8.out 3
  have k4 := rc1 X8.out 4
  have k5 := rc1 X8.out 5
  have k6 := rc1 X8.out 6
  have k7 := rc1 X8.out 7
  have k8 := rc1 X8.out 8
  have k9 := rc1 X8.out 9
  go_wp2_with ((with_reducible refine wpList_store_row (o := ⟨none, _, _, _, _, _⟩) rfl 33 _ _ rfl w.heap.size #[.int .i64 xi, .int .i64 xk, .int .i64 xn, .int .i64 xf, .int .i64 xr, .int .u8 v0, .int .u8 v1, .int .u8 v2, .int .u8 v3, .int .i64 xy] rfl rfl _ _ R8.out (by kernel_rfl) rfl (by simp [Value.oneCell']) ?_))
  exact bodyPost_ret (results_request (p := 2) (r := 3) rfl _ _ w.heap.size _ rfl rfl (setRow_heap W8 w.heap.size _ _ _ _ R8.out) rfl) rfl ⟨rfl, F.out⟩
theorem fst_none {s : Qs} (h : ¬ 0 < s.L.length) : fst s = zQ := by
  unfold fst
  rw [List.length_eq_zero_iff.1 (show s.L.length = 0 by omega)]
  rfl
theorem pop_any {w : World} {g : Nat} {s : Qs} (h : Cq w g s) (hk : ok s) : Calls Try.prog 6 #[.pointer (some ⟨g, 0, none⟩)] w fun e w' => e = .returned (.tuple #[qV (fst s), .bool (has s)]) ∧ Cq w' g (poS s) ∧ Only (At1 g) w w' := by
  by_cases h0 : 0 < s.L.length
  · rw [show has s = true from decide_eq_true h0]
    exact pop_some h hk.1 h0
  · rw [show has s = false from decide_eq_false h0, fst_none h0, pop_empty hk (List.length_eq_zero_iff.1 (by omega))]
    refine (pop_of (w := w) fun W b => ?_).mono ?_
    · have := first_of (h.below b)
      rw [show has s = false from decide_eq_false h0, fst_none h0] at this
      exact this
    · rintro e w' ⟨rfl, b⟩
      exact ⟨rfl, h.below b, Only.of_below b⟩

end Go.Proofs.Ytfbhmhgmebaoaaa.Qe
