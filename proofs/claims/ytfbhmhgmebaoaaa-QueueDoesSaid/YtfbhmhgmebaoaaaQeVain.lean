/- The code's queue: Fail. -/
import Derived.Test.YtfbhmhgmebaoaaaQePop
import Derived.Test.YtfbhmhgmebaoaaaSga
namespace Go.Proofs.Ytfbhmhgmebaoaaa.Qe
open Go.RowKit
open Go.Proofs.Ytfbhmhgmebaoaaa.Rq (Q zQ qA qV results_request)
open Go.Proofs.Ytfbhmhgmebaoaaa.Fl (R4 z4)
open Go.Proofs.Ytfbhmhgmebaoaaa.Fs (Only Fx)
set_option maxRecDepth 100000
attribute [local irreducible] Sd.wpSd wpQuiet Sg.wpSg

/-- Fail where Len answers 0. -/
theorem fail_of {w : World} {p : Option Addr} (LN : ∀ W, Below w.heap.size w W → Calls Try.prog 13 #[.pointer p] W fun e w' => e = .returned (.int .i64 0) ∧ Below W.heap.size W w') : Calls Try.prog 8 #[.pointer p] w fun e w' => e = .returned (.tuple #[qV zQ, .bool false]) ∧ Below w.heap.size w w' := by
  have B0 := (Below.refl w.heap.size w).alloc (Nat.le_refl _) (.cells (qA zQ) 33)
  have R0 := Lib.hid (heap_alloc_new w (.cells (qA zQ) 33))
  have LN := Lib.hid (LN _ B0)
  have B0 := Lib.hid B0
  unfold qV qA zQ z4 at *
  dsimp only at B0 R0 LN ⊢
  go_enter Try.func8, Try.ntmps8
  go_wp2_with fail
  generalize w.alloc (.cells #[.int .i64 0, .int .i64 0, .int .i64 0, .int .i64 0, .int .i64 0, .int .u8 0, .int .u8 0, .int .u8 0, .int .u8 0, .int .i64 0] 33) = W at *
  refine (LN.out).mono ?_
  rintro e w1 ⟨rfl, b1⟩
  have R1 := Lib.hid (bBl b1 R0.out)
  have B1 := Lib.hid (bTr B0.out b1)
  clear b1 LN R0 B0
  go_wp2_with ((with_reducible refine wpList_store_row (o := ⟨none, _, _, _, _, _⟩) rfl 33 _ _ rfl w.heap.size #[.int .i64 0, .int .i64 0, .int .i64 0, .int .i64 0, .int .i64 0, .int .u8 0, .int .u8 0, .int .u8 0, .int .u8 0, .int .i64 0] rfl rfl _ _ R1.out (by kernel_rfl) rfl (by simp [Value.oneCell']) ?_))
  exact bodyPost_ret (results_request (p := 2) (r := 3) rfl _ _ w.heap.size _ rfl rfl (setRow_heap w1 w.heap.size _ _ _ _ R1.out) rfl) rfl ⟨rfl, below_setRow B1.out (Nat.le_refl _) _⟩
theorem fail_nil (w : World) : Calls Try.prog 8 #[.pointer none] w fun e w' => e = .returned (.tuple #[qV zQ, .bool false]) ∧ Below w.heap.size w w' := fail_of fun W _ => len_nil W

/-- What counting reads. -/
structure Ct (g a : Nat) (t : Int) (W : World) : Prop where
  c1 : W.cell? ⟨g, 88, none⟩ = some (.int .i64 a)
  c2 : W.cell? ⟨g, a * 11 + 10, none⟩ = some (.int .i64 t)
theorem CqV.tries {cs : Array Value} {s : Qs} {a : Nat} (h : CqV cs s a) (h0 : 0 < s.L.length) : cs[a * 11 + 10]? = some (.int .i64 s.t) := by
  have ha := h.lt
  have := h.el 0 h0 10 (by decide)
  rw [show (a + 0) % 8 = a by omega] at this
  rw [this]
  rfl
set_option maxHeartbeats 8000000 in
theorem fail_some {w : World} {g : Nat} {s : Qs} (h : Cq w g s) (h8 : s.L.length ≤ 8) (h0 : 0 < s.L.length) (ht : 0 ≤ s.t ∧ s.t ≤ 2) : Calls Try.prog 8 #[.pointer (some ⟨g, 0, none⟩)] w fun e w' => e = .returned (.tuple #[qV (if s.t = 2 then fst s else zQ), .bool (decide (s.t = 2))]) ∧ Cq w' g (if s.t = 2 then poS s else ⟨s.L, s.t + 1⟩) ∧ Only (At1 g) w w' := by
  have B0 := (Below.refl w.heap.size w).alloc (Nat.le_refl _) (.cells (qA zQ) 33)
  have R0 := Lib.hid (heap_alloc_new w (.cells (qA zQ) 33))
  have LN := Lib.hid (len_of (h.below B0))
  obtain ⟨cs, a, hr, hv⟩ := h
  have gl := lt_of_block hr
  have ha := hv.lt
  have hn : ¬ ((s.L.length : Nat) : Int) = 0 := by omega
  have D0 := Lib.hid (bBl B0 hr)
  have B0 := Lib.hid B0
  have FIN : Hid (∀ w', Below w.heap.size w w' → w'.heap[g]? = some (.cells cs 48 (0, 0)) → Cq (w'.setCell ⟨g, a * 11 + 10, none⟩ (.int .i64 (s.t + 1))) g ⟨s.L, s.t + 1⟩ ∧ Only (At1 g) w (w'.setCell ⟨g, a * 11 + 10, none⟩ (.int .i64 (s.t + 1))) ∧ Ct g a (s.t + 1) (w'.setCell ⟨g, a * 11 + 10, none⟩ (.int .i64 (s.t + 1)))) := Lib.hid fun w' b hr' => by
    have hr3 := Rw.heap_setCell_same (j := a * 11 + 10) hr' (.int .i64 (s.t + 1))
    have hf := hv.fail h8 (s.t + 1)
    exact ⟨⟨_, a, hr3, hf⟩, (Only.of_below (G := At1 g) b).trans (Only.set (At1 g) _ (a := ⟨g, a * 11 + 10, none⟩) rfl _) fun _ _ e => e, (cell_of_row _ g 88 _ _ (0, 0) hr3).trans hf.ca, (cell_of_row _ g _ _ _ (0, 0) hr3).trans (hf.tries h0)⟩
  have PP : Hid (∀ W c, Cq W g ⟨s.L, c⟩ → Calls Try.prog 6 #[.pointer (some ⟨g, 0, none⟩)] W fun e w' => e = .returned (.tuple #[qV (fst s), .bool true]) ∧ Cq w' g (poS s) ∧ Only (At1 g) W w') := Lib.hid fun W c hc => pop_some (s := ⟨s.L, c⟩) hc h8 h0
  have CA := Lib.hid hv.ca
  have CT := Lib.hid (hv.tries h0)
  have e1 : IntKind.i64.wrap (s.t + 1) = s.t + 1 := IntWalk.i64_in _ (by omega)
  clear hv hr h0 h8
  generalize fst s = x at *
  generalize poS s = s' at *
  obtain ⟨L, t⟩ := s
  dsimp only at *
  generalize L.length = m at *
  obtain ⟨V, b, s2, eV, eb, es, HV⟩ : ∃ (V : Value) (b : Bool) (s2 : Qs), qV (if t = 2 then x else zQ) = V ∧ decide (t = 2) = b ∧ (if t = 2 then s' else ⟨L, t + 1⟩) = s2 ∧ Hid ((t = 2 ∧ V = qV x ∧ b = true ∧ s2 = s') ∨ (t + 1 < 3 ∧ V = qV zQ ∧ b = false ∧ s2 = ⟨L, t + 1⟩)) := ⟨_, _, _, rfl, rfl, rfl, Lib.hid (by
    by_cases h2 : t = 2
    · exact .inl ⟨h2, by rw [if_pos h2], decide_eq_true h2, if_pos h2⟩
    · exact .inr ⟨by omega, by rw [if_neg h2], decide_eq_false h2, if_neg h2⟩)⟩
  rw [eV, eb, es]
  clear eV eb es ht
  obtain ⟨xi, xk, xn, xf, xr, ⟨v0, v1, v2, v3⟩, xy⟩ := x
  unfold qV at HV PP
  unfold qA zQ z4 at *
  dsimp only at B0 R0 LN FIN PP HV
  have a8 : (a : Int) < 8 := by omega
  have a0 : 0 ≤ (a : Int) := by omega
  go_enter Try.func8, Try.ntmps8
  go_wp2_with fail
  generalize w.alloc (.cells #[.int .i64 0, .int .i64 0, .int .i64 0, .int .i64 0, .int .i64 0, .int .u8 0, .int .u8 0, .int .u8 0, .int .u8 0, .int .i64 0] 33) = W at *
  refine (LN.out).mono ?_
  rintro e w1 ⟨rfl, b1⟩
  have R1 := Lib.hid (bBl b1 R0.out)
  have D1 := Lib.hid (bBl b1 D0.out)
  have B1 := Lib.hid (bTr B0.out b1)
  clear b1 LN R0 B0 D0
  go_upto_region 3 with fail
  have LW := lt_of_block D1.out
  have d0 := (cell_of_row _ g 88 cs _ (0, 0) D1.out).trans CA.out
  have d1 := (cell_of_row _ g (a * 11 + 10) cs _ (0, 0) D1.out).trans CT.out
  have f1 := frozen_of_row _ g (a * 11 + 10) _ _ D1.out
  have c0 := Sc.cell_in (C := Below w1.heap.size w1) (a := ⟨g, 88, none⟩) (v := .int .i64 a) (fun W' h => (h.cell LW).trans d0)
  have c1 := Sc.cell_in (C := Below w1.heap.size w1) (a := ⟨g, a * 11 + 10, none⟩) (v := .int .i64 t) (fun W' h => (h.cell LW).trans d1)
  have ne : Nonempty (Sc.In (Below w1.heap.size w1)) := ⟨⟨_, Below.refl _ _⟩⟩
  have ne2 : Nonempty (Sc.In (fun _ : World => True)) := ⟨⟨w1, trivial⟩⟩
  refine Sg.startV (Below w1.heap.size w1) [0, 1, 2, 3, 5, 6, 11, 12] [4, 7, 8, 9, 10] [13, 14] [] [15] [] (by kernel_rfl) (by kernel_rfl) (by kernel_rfl) (by kernel_rfl) (by kernel_rfl) (by kernel_rfl) (by rfl) (by decide) (fun f hf => by cases hf) (fun f hf => by cases hf) (fun f hf => by cases hf) ((Below.refl _ _).drew) (fun W' h => h.size) (fun W' o h => h.alloc h.size o) ?_
  dsimp only [Sg.picksL, List.getElem?_cons_succ, List.getElem?_cons_zero]
  repeat (refine Pa.lit1 ?_; quiet_step (fail); refine wpQuiet_nil ?_)
  refine Pa.end1 ⟨(fun f hf => by cases hf), ?_⟩
  refine Sg.doneT (fun w6 hb hc => ?_)
  have B6 : Below w1.heap.size w1 w6 := by obtain ⟨p, rfl⟩ := hc; exact p.ok
  have F := FIN.out w6 (bTr B1.out B6) (bBl B6 D1.out)
  have R6 := bBl B6 R1.out
  have z1 := (B6.cell LW).trans d1
  have y1 := (B6.frozen LW).trans f1
  have nr : w.heap.size ≠ g := by omega
  have RS := Lib.hid ((Below.heap_setCell w6 ⟨g, a * 11 + 10, none⟩ (.int .i64 (t + 1)) w.heap.size nr).trans R6)
  clear hb hc c0 c1 ne ne2 d0 d1 f1 B6 R6 R1 D1 B1 LW FIN CA CT
  refine Sg.lastT (fun K hK => ?_)
  go_simp
  refine hK _ _ ?_
  clear hK K z1 y1
  have C4 := Lib.hid F.1
  have O4 := Lib.hid F.2.1
  have d0 := F.2.2.c1
  have d1 := F.2.2.c2
  clear F
  generalize w6.setCell ⟨g, a * 11 + 10, none⟩ (.int .i64 (t + 1)) = W4 at *
  refine Sg.endT ?_
  have CW : Ct g a (t + 1) W4 := ⟨d0, d1⟩
  have c0 := Sc.cell_in (C := Ct g a (t + 1)) (a := ⟨g, 88, none⟩) (v := .int .i64 a) (fun W' h => h.c1)
  have c1 := Sc.cell_in (C := Ct g a (t + 1)) (a := ⟨g, a * 11 + 10, none⟩) (v := .int .i64 (t + 1)) (fun W' h => h.c2)
  have ne : Nonempty (Sc.In (Ct g a (t + 1))) := ⟨⟨_, CW⟩⟩
  clear d0 d1
  go_upto_region 4 with fail
  refine Sc.start (Ct g a (t + 1)) [(false, 0), (false, 1), (false, 2), (false, 3), (false, 4), (false, 5), (false, 6), (false, 7), (false, 8), (false, 9), (false, 10)] (by kernel_rfl) (by kernel_rfl) (by kernel_rfl) ⟨CW.c1, CW.c2⟩ ?_
  dsimp only [Sd.picks, List.getElem?_cons_succ, List.getElem?_cons_zero]
  repeat (refine Sd.lit ?_; quiet_step (fail); refine wpQuiet_nil ?_)
  refine Sd.done ?_
  clear c0 c1 ne CW
  have bd : Below W4.heap.size W4 W4.drew := (Below.refl _ _).drew
  have RS := Lib.hid (bBl bd RS.out)
  have O4 := Lib.hid (O4.out.trans (Only.of_below (G := At1 g) bd) fun _ _ e => e)
  have C4 := Lib.hid (C4.out.below bd)
  clear bd
  generalize W4.drew = W4 at *
  have LS := lt_of_block RS.out
  have zr : ∀ X, Hid (Cq (W4.setRow w.heap.size X) g ⟨L, t + 1⟩ ∧ Only (At1 g) w (W4.setRow w.heap.size X)) := fun X => Lib.hid
    ⟨C4.out.only (show ¬ g = w.heap.size by omega) (only_row X), O4.out.trans (only_row X) fun k hk e => absurd e (show ¬ k = w.heap.size by omega)⟩
  have ZR := Lib.hid zr
  clear zr
  have PC := Lib.hid (PP.out W4 (t + 1) C4.out)
  clear PP C4
  rcases HV.out with ⟨h2, hV, hb, hs⟩ | ⟨h3, hV, hb, hs⟩
  all_goals
    clear HV
    subst hV hb hs
  · subst h2
    clear ZR
    go_wp2_with fail
    refine (PC.out).mono ?_
    rintro e w5 ⟨rfl, C5, o5⟩
    have R5 := Lib.hid ((o5.block w.heap.size (lt_of_block RS.out) (show ¬ w.heap.size = g from nr)).trans RS.out)
    have F := Lib.hid (show Cq (w5.setRow w.heap.size #[.int .i64 xi, .int .i64 xk, .int .i64 xn, .int .i64 xf, .int .i64 xr, .int .u8 v0, .int .u8 v1, .int .u8 v2, .int .u8 v3, .int .i64 xy]) g s2 ∧ Only (At1 g) w (w5.setRow w.heap.size #[.int .i64 xi, .int .i64 xk, .int .i64 xn, .int .i64 xf, .int .i64 xr, .int .u8 v0, .int .u8 v1, .int .u8 v2, .int .u8 v3, .int .i64 xy]) from
      ⟨C5.only (show ¬ g = w.heap.size by omega) (only_row _), (O4.out.trans o5 fun _ _ e => e).trans (only_row _) fun k hk e => absurd e (show ¬ k = w.heap.size by omega)⟩)
    clear C5 o5 RS O4 PC
    go_wp2_with ((with_reducible refine wpList_store_row (o := ⟨none, _, _, _, _, _⟩) rfl 33 _ _ rfl w.heap.size #[.int .i64 xi, .int .i64 xk, .int .i64 xn, .int .i64 xf, .int .i64 xr, .int .u8 v0, .int .u8 v1, .int .u8 v2, .int .u8 v3, .int .i64 xy] rfl rfl _ _ R5.out (by kernel_rfl) rfl (by simp [Value.oneCell']) ?_))
    exact bodyPost_ret (results_request (p := 2) (r := 3) rfl _ _ w.heap.size _ rfl rfl (setRow_heap w5 w.heap.size _ _ _ _ R5.out) rfl) rfl ⟨rfl, F.out⟩
  · clear PC
    have F := ZR.out #[.int .i64 0, .int .i64 0, .int .i64 0, .int .i64 0, .int .i64 0, .int .u8 0, .int .u8 0, .int .u8 0, .int .u8 0, .int .i64 0]
    clear ZR
    go_wp2_with ((with_reducible refine wpList_store_row (o := ⟨none, _, _, _, _, _⟩) rfl 33 _ _ rfl w.heap.size #[.int .i64 0, .int .i64 0, .int .i64 0, .int .i64 0, .int .i64 0, .int .u8 0, .int .u8 0, .int .u8 0, .int .u8 0, .int .i64 0] rfl rfl _ _ RS.out (by kernel_rfl) rfl (by simp [Value.oneCell']) ?_))
    exact bodyPost_ret (results_request (p := 2) (r := 3) rfl _ _ w.heap.size _ rfl rfl (setRow_heap W4 w.heap.size _ _ _ _ RS.out) rfl) rfl ⟨rfl, F.out⟩

theorem fail_any {w : World} {g : Nat} {s : Qs} (h : Cq w g s) (hk : ok s) : Calls Try.prog 8 #[.pointer (some ⟨g, 0, none⟩)] w fun e w' => e = .returned (.tuple #[qV (faV s), .bool (faB s)]) ∧ Cq w' g (faS s) ∧ Only (At1 g) w w' := by
  unfold faV faB faS
  by_cases h0 : 0 < s.L.length
  · have e1 : (0 < s.L.length ∧ s.t = 2) = (s.t = 2) := by simp [h0]
    simp only [e1]
    rw [if_pos h0]
    exact fail_some h hk.1 h0 hk.2.1
  · have e1 : ¬ (0 < s.L.length ∧ s.t = 2) := fun h => h0 h.1
    rw [if_neg e1, if_neg h0, decide_eq_false e1]
    refine (fail_of (w := w) fun W b => ?_).mono ?_
    · have := len_of (h.below b)
      rw [show s.L.length = 0 by omega] at this
      exact this
    · rintro e w' ⟨rfl, b⟩
      exact ⟨rfl, h.below b, Only.of_below b⟩

end Go.Proofs.Ytfbhmhgmebaoaaa.Qe
