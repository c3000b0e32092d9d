/- The code's queue: Push. -/
import Derived.Test.YtfbhmhgmebaoaaaQeFirst
namespace Go.Proofs.Ytfbhmhgmebaoaaa.Qe
open Go.RowKit
open Go.Proofs.Ytfbhmhgmebaoaaa.Rq (Q zQ qA qV results_request)
open Go.Proofs.Ytfbhmhgmebaoaaa.Fl (R4 z4)
open Go.Proofs.Ytfbhmhgmebaoaaa.Fs (Only Fx)
set_option maxRecDepth 100000
attribute [local irreducible] Sd.wpSd wpQuiet

theorem infoW : (Try.prog.info? 45).map (·.size) = some 11 := by kernel_rfl
set_option maxHeartbeats 4000000 in
theorem push_nil (w : World) (x : Q) : Calls Try.prog 10 #[.pointer none, qV x] w fun e w' => e = .returned (.int .i64 1) ∧ Below w.heap.size w w' := by
  have B0 := Lib.hid ((Below.refl w.heap.size w).alloc (Nat.le_refl _) (.cells (qA x) 33))
  obtain ⟨xi, xk, xn, xf, xr, ⟨v0, v1, v2, v3⟩, xy⟩ := x
  unfold qV qA at *
  dsimp only at B0 ⊢
  go_enter Try.func10, Try.ntmps10
  go_wp2
  go_ret
  exact ⟨rfl, B0.out⟩
set_option maxHeartbeats 4000000 in
theorem push_full {w : World} {g : Nat} {s : Qs} (h : Cq w g s) (x : Q) (h8 : s.L.length = 8) : Calls Try.prog 10 #[.pointer (some ⟨g, 0, none⟩), qV x] w fun e w' => e = .returned (.int .i64 12) ∧ Below w.heap.size w w' := by
  have B0 := (Below.refl w.heap.size w).alloc (Nat.le_refl _) (.cells (qA x) 33)
  obtain ⟨cs, a, hr, hv⟩ := h
  have cn := (cell_of_row _ g 89 cs _ (0, 0) (bBl B0 hr)).trans hv.cn
  have B0 := Lib.hid B0
  clear hr hv
  generalize s.L.length = m at *
  have hm : (m : Int) = 8 := by omega
  obtain ⟨xi, xk, xn, xf, xr, ⟨v0, v1, v2, v3⟩, xy⟩ := x
  unfold qV qA at *
  dsimp only at B0 cn ⊢
  go_enter Try.func10, Try.ntmps10
  go_wp2
  go_ret
  exact ⟨rfl, B0.out⟩

/-- What Push's store reads. -/
structure Cp (g a m b : Nat) (X : Array Value) (W : World) : Prop where
  c1 : W.cell? ⟨g, 88, none⟩ = some (.int .i64 a)
  c2 : W.cell? ⟨g, 89, none⟩ = some (.int .i64 m)
  row : W.heap[b]? = some (.cells X 33 (0, 0))
theorem only_row {w : World} {g : Nat} (cs : Array Value) : Only (At1 g) w (w.setRow g cs) := ⟨rfl, rfl, rfl, by simp [World.setRow], fun k _ hn => setRow_other w g k cs (fun e => hn e)⟩
set_option maxHeartbeats 8000000 in
theorem push_room {w : World} {g : Nat} {s : Qs} (h : Cq w g s) (hk : ok s) (x : Q) (h8 : s.L.length < 8) : Calls Try.prog 10 #[.pointer (some ⟨g, 0, none⟩), qV x] w fun e w' => e = .returned (.int .i64 0) ∧ Cq w' g ⟨s.L ++ [x], s.t⟩ ∧ Only (At1 g) w w' := by
  obtain ⟨cs, a, hr, hv⟩ := h
  have B0 := Lib.hid ((Below.refl w.heap.size w).alloc (Nat.le_refl _) (.cells (qA x) 33))
  have R0 := Lib.hid (bBl B0.out hr)
  have X0 := Lib.hid (heap_alloc_new w (.cells (qA x) 33))
  have gl := lt_of_block hr
  have FIN : Hid (∀ w', Below w.heap.size w w' → w'.heap[g]? = some (.cells cs 48 (0, 0)) → Cq ((w'.setRow g (splice cs.toList ((a + s.L.length) % 8 * 11) (eA x 0).toList).toArray).setCell ⟨g, 89, none⟩ (.int .i64 (s.L.length + 1))) g ⟨s.L ++ [x], s.t⟩ ∧ Only (At1 g) w ((w'.setRow g (splice cs.toList ((a + s.L.length) % 8 * 11) (eA x 0).toList).toArray).setCell ⟨g, 89, none⟩ (.int .i64 (s.L.length + 1)))) := Lib.hid fun w' b hr' => by
    have hr2 := setRow_heap w' g _ (splice cs.toList ((a + s.L.length) % 8 * 11) (eA x 0).toList).toArray _ _ hr'
    have hr3 := Rw.heap_setCell_same (j := 89) hr2 (.int .i64 (s.L.length + 1))
    exact ⟨⟨_, a, hr3, hv.push hk h8 x⟩, (Only.of_below (G := At1 g) b).trans ((only_row _).trans (Only.set (At1 g) _ (a := ⟨g, 89, none⟩) rfl _) fun _ _ e => e) fun _ _ e => e⟩
  have ca := (cell_of_row _ g 88 cs _ (0, 0) R0.out).trans hv.ca
  have cn := (cell_of_row _ g 89 cs _ (0, 0) R0.out).trans hv.cn
  have lp : (a + s.L.length) % 8 < 8 := Nat.mod_lt _ (by decide)
  have GET := Lib.hid (ring_get hv.sz lp x 0)
  have SZ := Lib.hid hv.sz
  have CA := Lib.hid hv.ca
  have CN := Lib.hid hv.cn
  have ha := hv.lt
  have e1 : IntKind.i64.wrap ((a : Int) + s.L.length) = (a : Int) + s.L.length := IntWalk.i64_in _ (by omega)
  have e2 : Int.tmod ((a : Int) + s.L.length) 8 = (((a + s.L.length) % 8 : Nat) : Int) := by rw [Int.tmod_eq_emod_of_nonneg (by omega)]; omega
  have e3 : IntKind.i64.wrap (((a + s.L.length) % 8 : Nat) : Int) = (((a + s.L.length) % 8 : Nat) : Int) := IntWalk.i64_in _ (by omega)
  have h9 : ¬ (s.L.length : Int) = 8 := by omega
  have e4 : IntKind.i64.wrap ((s.L.length : Int) + 1) = (s.L.length : Int) + 1 := IntWalk.i64_in _ (by omega)
  have Q1 := Lib.hid (eA_one x 0)
  clear hv hr h8 hk
  generalize (a + s.L.length) % 8 = p at *
  generalize s.L.length = m at *
  obtain ⟨xi, xk, xn, xf, xr, ⟨v0, v1, v2, v3⟩, xy⟩ := x
  unfold qV
  unfold qA eA at *
  dsimp only at B0 R0 X0 FIN ca cn Q1 GET ⊢
  go_enter Try.func10, Try.ntmps10
  go_upto_region 5 with fail
  generalize w.alloc (.cells #[.int .i64 xi, .int .i64 xk, .int .i64 xn, .int .i64 xf, .int .i64 xr, .int .u8 v0, .int .u8 v1, .int .u8 v2, .int .u8 v3, .int .i64 xy] 33) = W at *
  have C0 : Cp g a m w.heap.size #[.int .i64 xi, .int .i64 xk, .int .i64 xn, .int .i64 xf, .int .i64 xr, .int .u8 v0, .int .u8 v1, .int .u8 v2, .int .u8 v3, .int .i64 xy] W := ⟨ca, cn, X0.out⟩
  have c0 := Sc.cell_in (C := Cp g a m w.heap.size #[.int .i64 xi, .int .i64 xk, .int .i64 xn, .int .i64 xf, .int .i64 xr, .int .u8 v0, .int .u8 v1, .int .u8 v2, .int .u8 v3, .int .i64 xy]) (a := ⟨g, 88, none⟩) (fun W' h => h.c1)
  have c1 := Sc.cell_in (C := Cp g a m w.heap.size #[.int .i64 xi, .int .i64 xk, .int .i64 xn, .int .i64 xf, .int .i64 xr, .int .u8 v0, .int .u8 v1, .int .u8 v2, .int .u8 v3, .int .i64 xy]) (a := ⟨g, 89, none⟩) (fun W' h => h.c2)
  have x0 := Sc.cell_in (C := Cp g a m w.heap.size #[.int .i64 xi, .int .i64 xk, .int .i64 xn, .int .i64 xf, .int .i64 xr, .int .u8 v0, .int .u8 v1, .int .u8 v2, .int .u8 v3, .int .i64 xy]) (a := ⟨w.heap.size, 0, none⟩) (fun W' h => rc1 h.row 0)
  have x1 := Sc.cell_in (C := Cp g a m w.heap.size #[.int .i64 xi, .int .i64 xk, .int .i64 xn, .int .i64 xf, .int .i64 xr, .int .u8 v0, .int .u8 v1, .int .u8 v2, .int .u8 v3, .int .i64 xy]) (a := ⟨w.heap.size, 1, none⟩) (fun W' h => rc1 h.row 1)
  have x2 := Sc.cell_in (C := Cp g a m w.heap.size #[.int .i64 xi, .int .i64 xk, .int .i64 xn, .int .i64 xf, .int .i64 xr, .int .u8 v0, .int .u8 v1, .int .u8 v2, .int .u8 v3, .int .i64 xy]) (a := ⟨w.heap.size, 2, none⟩) (fun W' h => rc1 h.row 2)
  have x3 := Sc.cell_in (C := Cp g a m w.heap.size #[.int .i64 xi, .int .i64 xk, .int .i64 xn, .int .i64 xf, .int .i64 xr, .int .u8 v0, .int .u8 v1, .int .u8 v2, .int .u8 v3, .int .i64 xy]) (a := ⟨w.heap.size, 3, none⟩) (fun W' h => rc1 h.row 3)
  have x4 := Sc.cell_in (C := Cp g a m w.heap.size #[.int .i64 xi, .int .i64 xk, .int .i64 xn, .int .i64 xf, .int .i64 xr, .int .u8 v0, .int .u8 v1, .int .u8 v2, .int .u8 v3, .int .i64 xy]) (a := ⟨w.heap.size, 4, none⟩) (fun W' h => rc1 h.row 4)
  have x5 := Sc.cell_in (C := Cp g a m w.heap.size #[.int .i64 xi, .int .i64 xk, .int .i64 xn, .int .i64 xf, .int .i64 xr, .int .u8 v0, .int .u8 v1, .int .u8 v2, .int .u8 v3, .int .i64 xy]) (a := ⟨w.heap.size, 5, none⟩) (fun W' h => rc1 h.row 5)
  have x6 := Sc.cell_in (C := Cp g a m w.heap.size #[.int .i64 xi, .int .i64 xk, .int .i64 xn, .int .i64 xf, .int .i64 xr, .int .u8 v0, .int .u8 v1, .int .u8 v2, .int .u8 v3, .int .i64 xy]) (a := ⟨w.heap.size, 6, none⟩) (fun W' h => rc1 h.row 6)
  have x7 := Sc.cell_in (C := Cp g a m w.heap.size #[.int .i64 xi, .int .i64 xk, .int .i64 xn, .int .i64 xf, .int .i64 xr, .int .u8 v0, .int .u8 v1, .int .u8 v2, .int .u8 v3, .int .i64 xy]) (a := ⟨w.heap.size, 7, none⟩) (fun W' h => rc1 h.row 7)
  have x8 := Sc.cell_in (C := Cp g a m w.heap.size #[.int .i64 xi, .int .i64 xk, .int .i64 xn, .int .i64 xf, .int .i64 xr, .int .u8 v0, .int .u8 v1, .int .u8 v2, .int .u8 v3, .int .i64 xy]) (a := ⟨w.heap.size, 8, none⟩) (fun W' h => rc1 h.row 8)
  have x9 := Sc.cell_in (C := Cp g a m w.heap.size #[.int .i64 xi, .int .i64 xk, .int .i64 xn, .int .i64 xf, .int .i64 xr, .int .u8 v0, .int .u8 v1, .int .u8 v2, .int .u8 v3, .int .i64 xy]) (a := ⟨w.heap.size, 9, none⟩) (fun W' h => rc1 h.row 9)
  have ne : Nonempty (Sc.In (Cp g a m w.heap.size #[.int .i64 xi, .int .i64 xk, .int .i64 xn, .int .i64 xf, .int .i64 xr, .int .u8 v0, .int .u8 v1, .int .u8 v2, .int .u8 v3, .int .i64 xy])) := ⟨⟨_, C0⟩⟩
  have p8 : (p : Int) < 8 := by omega
  have p0 : 0 ≤ (p : Int) := by omega
  refine Sc.start (Cp g a m w.heap.size #[.int .i64 xi, .int .i64 xk, .int .i64 xn, .int .i64 xf, .int .i64 xr, .int .u8 v0, .int .u8 v1, .int .u8 v2, .int .u8 v3, .int .i64 xy]) [(false, 0), (false, 1), (false, 2), (false, 3), (false, 4), (false, 5), (false, 6), (false, 7), (false, 8), (false, 9), (false, 10), (false, 11), (false, 12), (false, 13), (false, 14), (false, 15), (true, 16)] (by kernel_rfl) (by kernel_rfl) (by kernel_rfl) ⟨C0.c1, C0.c2, C0.row⟩ ?_
  dsimp only [Sd.picks, List.getElem?_cons_succ, List.getElem?_cons_zero]
  repeat (refine Sd.lit ?_; quiet_step (fail); refine wpQuiet_nil ?_)
  refine Sd.call (by rfl) (fun K hK => ?_)
  have R6 : W.drew.heap[g]? = some (.cells cs 48 (0, 0)) := R0.out
  have F := Lib.hid (FIN.out W.drew B0.out.drew R6)
  refine Seg.wp_store _ _ _ rfl g (p * 11) #[.int .i64 xi, .int .i64 xk, .int .i64 xn, .int .i64 xf, .int .i64 xr, .int .u8 v0, .int .u8 v1, .int .u8 v2, .int .u8 v3, .int .i64 xy, .int .i64 0] rfl rfl 48 cs R6 infoW (by rw [SZ.out]; show p * 11 + 11 ≤ 90; omega) Q1.out ?_
  have D6 := setRow_heap W.drew g _ (splice cs.toList (p * 11) #[.int .i64 xi, .int .i64 xk, .int .i64 xn, .int .i64 xf, .int .i64 xr, .int .u8 v0, .int .u8 v1, .int .u8 v2, .int .u8 v3, .int .i64 xy, .int .i64 0].toList).toArray _ _ R6
  have z1 := (cell_of_row _ g 89 _ _ (0, 0) D6).trans ((GET.out 89).trans ((if_neg (by omega)).trans CN.out))
  have z0 := (cell_of_row _ g 88 _ _ (0, 0) D6).trans ((GET.out 88).trans ((if_neg (by omega)).trans CA.out))
  have y1 := frozen_of_row _ g 89 _ _ D6
  have ng : w.heap.size ≠ g := by omega
  have CE : Cp g a m w.heap.size #[.int .i64 xi, .int .i64 xk, .int .i64 xn, .int .i64 xf, .int .i64 xr, .int .u8 v0, .int .u8 v1, .int .u8 v2, .int .u8 v3, .int .i64 xy] (W.drew.setRow g (splice cs.toList (p * 11) #[.int .i64 xi, .int .i64 xk, .int .i64 xn, .int .i64 xf, .int .i64 xr, .int .u8 v0, .int .u8 v1, .int .u8 v2, .int .u8 v3, .int .i64 xy, .int .i64 0].toList).toArray) := ⟨z0, z1, (setRow_other W.drew g w.heap.size _ ng).trans X0.out⟩
  refine hK _ _ (Sc.Cl.of CE) ?_
  clear hK K c0 c1 x0 x1 x2 x3 x4 x5 x6 x7 x8 x9 ne FIN R6 D6 z0 ng CE C0 GET R0 X0 B0 ca cn CA CN
  generalize W.drew.setRow g (splice cs.toList (p * 11) #[.int .i64 xi, .int .i64 xk, .int .i64 xn, .int .i64 xf, .int .i64 xr, .int .u8 v0, .int .u8 v1, .int .u8 v2, .int .u8 v3, .int .i64 xy, .int .i64 0].toList).toArray = W7 at *
  refine Sd.done ?_
  go_wp2
  go_ret
  exact ⟨rfl, F.out⟩

theorem push_any {w : World} {g : Nat} {s : Qs} (h : Cq w g s) (hk : ok s) (x : Q) : Calls Try.prog 10 #[.pointer (some ⟨g, 0, none⟩), qV x] w fun e w' => e = .returned (.int .i64 (puE s)) ∧ Cq w' g (puS s x) ∧ Only (At1 g) w w' := by
  unfold puE puS
  by_cases h8 : 8 ≤ s.L.length
  · rw [if_pos h8, if_pos h8]
    refine (push_full h x (by have := hk.1; omega)).mono ?_
    rintro e w' ⟨rfl, b⟩
    exact ⟨rfl, h.below b, Only.of_below b⟩
  · rw [if_neg h8, if_neg h8]
    exact push_room h hk x (by omega)

end Go.Proofs.Ytfbhmhgmebaoaaa.Qe
