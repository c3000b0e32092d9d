/- RodlRound, walked. -/
import Derived.Test.YtchbccaokoiodaaRoAwake
import Derived.Deep.Cut
namespace Go.Proofs.Ytchbccaokoiodaa.Ro
open Go.RowKit
open Go.Proofs.Ytchbccaokoiodaa.Rw (Rd Ow At)
open Go.Proofs.Ytchbccaokoiodaa.Fl (R4 z4 rec4 K4 okR okL okL_take hdr rat file ret_bool at_bool row_cell row_frozen eq_rec FewPost)

/-- What stays as it is through the whole law. -/
structure Hold (w : World) (x : E5) (v : R4) (p : Int) (fv u : Value) (l : List R4) (m : List E5) (W : World) : Prop where
  bel : Below w.heap.size w W
  rx : W.heap[w.heap.size]? = some (.cells #[.int .i64 x.1, .int .i64 x.2.1, .int .i64 x.2.2.1, .int .i64 x.2.2.2.1, .int .i64 x.2.2.2.2] 23 (0, 0))
  rv : W.heap[w.heap.size + 1]? = some (.cells #[.int .u8 v.1, .int .u8 v.2.1, .int .u8 v.2.2.1, .int .u8 v.2.2.2] 25 (0, 0))
  rf : W.heap[w.heap.size + 2]? = some (.cells #[.int .i64 p, fv] 40 (0, 0))
  q : Rd K5 W u m
  r : Rd K4 W fv l
theorem Hold.mono {w : World} {x : E5} {v : R4} {p : Int} {fv u : Value} {l : List R4} {m : List E5} {W W' : World} (h : Hold w x v p fv u l m W) (b : Below W.heap.size W W') : Hold w x v p fv u l m W' :=
  ⟨h.bel.trans (b.mono h.bel.size), (b.block _ (lt_of_block h.rx)).trans h.rx, (b.block _ (lt_of_block h.rv)).trans h.rv, (b.block _ (lt_of_block h.rf)).trans h.rf, h.q.below b, h.r.below b⟩
theorem Hold.start {w : World} (x : E5) (v : R4) (p : Int) {fv u : Value} {l : List R4} {m : List E5} (q : Rd K5 w u m) (r : Rd K4 w fv l) :
    Hold w x v p fv u l m (((w.alloc (.cells #[.int .i64 x.1, .int .i64 x.2.1, .int .i64 x.2.2.1, .int .i64 x.2.2.2.1, .int .i64 x.2.2.2.2] 23)).alloc (.cells #[.int .u8 v.1, .int .u8 v.2.1, .int .u8 v.2.2.1, .int .u8 v.2.2.2] 25)).alloc (.cells #[.int .i64 p, fv] 40)) := by
  have z1 : ∀ a, (w.alloc a).heap.size = w.heap.size + 1 := fun a => by simp
  have z2 : ∀ a b, ((w.alloc a).alloc b).heap.size = w.heap.size + 2 := fun a b => by simp
  have b : ∀ a b c, Below w.heap.size w (((w.alloc a).alloc b).alloc c) := fun a b c => (((Below.refl w.heap.size w).alloc (Nat.le_refl _) a).alloc (by simp) b).alloc (by simp; omega) c
  refine ⟨b _ _ _, ?_, ?_, ?_, q.below (b _ _ _), r.below (b _ _ _)⟩
  · exact (Below.heap_alloc _ _ _ (by rw [z2]; omega)).trans ((Below.heap_alloc _ _ _ (by rw [z1]; omega)).trans (heap_alloc_new w _))
  · have := heap_alloc_new (w.alloc (.cells #[.int .i64 x.1, .int .i64 x.2.1, .int .i64 x.2.2.1, .int .i64 x.2.2.2.1, .int .i64 x.2.2.2.2] 23)) (.cells #[.int .u8 v.1, .int .u8 v.2.1, .int .u8 v.2.2.1, .int .u8 v.2.2.2] 25)
    rw [z1] at this
    exact (Below.heap_alloc _ _ _ (by rw [z2]; omega)).trans this
  · have := heap_alloc_new ((w.alloc (.cells #[.int .i64 x.1, .int .i64 x.2.1, .int .i64 x.2.2.1, .int .i64 x.2.2.2.1, .int .i64 x.2.2.2.2] 23)).alloc (.cells #[.int .u8 v.1, .int .u8 v.2.1, .int .u8 v.2.2.1, .int .u8 v.2.2.2] 25)) (.cells #[.int .i64 p, fv] 40)
    rw [z2] at this
    exact this

set_option maxHeartbeats 20000000 in
theorem round_law (w : World) (x : E5) (v : R4) (u : Value) (m : List E5) (p : Int) (fv : Value) (l : List R4) (hv : okR v) (Q : Rd K5 w u m) (R : Rd K4 w fv l) (ok : okL l) :
    Calls Try.prog 5 #[ent x, rec4 v, u, file p fv] w fun e w' => e = .returned (.bool true) ∧ Below w.heap.size w w' := by
  have H0 := Lib.hid (Hold.start x v p Q R)
  have BL : Hid (∀ (W W' : World) o, Below W.heap.size W W' → Below W.heap.size W (W'.alloc o)) := Lib.hid (fun W W' o b => b.alloc b.size o)
  have FE := Lib.hid (fun w v R => few_any w p v l R)
  have SO := Lib.hid (fun w v R => some_any w v m R)
  have TA := Lib.hid (fun w v R => table_any w p v (l.take 260) R (okL_take ok 260))
  unfold FewPost at FE
  unfold SomePost at SO
  unfold TabPost at TA
  have TM := Lib.hid (tab_may p (l.take 260))
  have TZ : Hid (tabN p (l.take 260) = 0 ∨ tabN p (l.take 260) = 2 ∧ tabL p (l.take 260) = []) := Lib.hid (by
    by_cases h : tabN p (l.take 260) = 0
    · exact .inl h
    · exact .inr ⟨by unfold tabN at h ⊢; split <;> simp_all, tab_none h⟩)
  generalize tabL p (l.take 260) = tl at *
  generalize tabN p (l.take 260) = tn at *
  generalize l.take 260 = l2 at *
  have F1 := Lib.hid (fun w v R => file_any w v (m.take 70) R)
  unfold FilePost at F1
  have T3 : Hid (mayP (m.take 70) → ∀ w v, Rd K4 w v (fileL (m.take 70)) → Calls Try.prog 13 #[.agg #[.int .i64 3, v]] w fun e w' => ∃ u, e = .returned (.tuple #[u, .int .i64 0]) ∧ Rd K5 w' u (m.take 70) ∧ Below w.heap.size w w') := Lib.hid (fun hm w v R => (table_any w 3 v (fileL (m.take 70)) R (by have := @ok_file (m.take 70); unfold fL at this; rw [if_pos hm] at this; exact this)).mono fun e w' ⟨u, he, hu, hb⟩ => ⟨u, by rw [he, (tab_file hm).2], by rw [(tab_file hm).1] at hu; exact hu, hb⟩)
  have FZ : Hid (mayP (m.take 70) → fL (m.take 70) = fileL (m.take 70) ∧ fP (m.take 70) = 3 ∧ fN (m.take 70) = 0) := Lib.hid (fun h => ⟨if_pos h, if_pos h, if_pos h⟩)
  have FW : Hid (¬ mayP (m.take 70) → fN (m.take 70) = 1) := Lib.hid (fun h => if_neg h)
  generalize m.take 70 = m2 at *
  have SA := Lib.hid (fun w v u R R' => at_bool (show sameB m2 m2 = true from decide_eq_true rfl) (rsame_any w v u m2 m2 R R'))
  have P1 := Lib.hid (fun w => put_any w x)
  have T1 := Lib.hid (fun w => take_any w (putR x) (putR_ok x))
  have Z1 : Hid (okE x → putN x = 0 ∧ takeE (putR x) = x ∧ takeN (putR x) = 0) := Lib.hid (fun h => ⟨if_pos h, by unfold takeE; rw [take_put h, if_pos h], by unfold takeN; rw [take_put h, if_pos h]⟩)
  have Z2 : Hid (¬ okE x → putN x = 1) := Lib.hid (fun h => if_neg h)
  have T2 := Lib.hid (fun w => take_any w v hv)
  have P2 := Lib.hid (fun w => put_any w (takeX v))
  have Y1 : Hid (okE (takeX v) → takeE v = takeX v ∧ takeN v = 0 ∧ putR (takeX v) = v ∧ putN (takeX v) = 0) := Lib.hid (fun h => ⟨if_pos h, if_pos h, put_take hv h, if_pos h⟩)
  have Y2 : Hid (¬ okE (takeX v) → takeN v = 2) := Lib.hid (fun h => if_neg h)
  clear Q R ok hv
  obtain ⟨a, n, cap, rfl⟩ : ∃ a n c, fv = .slice a n c := by obtain ⟨a, c, e, _⟩ := H0.out.r; exact ⟨a, _, c, e⟩
  obtain ⟨a', n', cap', rfl⟩ : ∃ a n c, u = .slice a n c := by obtain ⟨a, c, e, _⟩ := H0.out.q; exact ⟨a, _, c, e⟩
  unfold file ent rec4 at *
  go_enter Try.func5, Try.ntmps5
  go_upto_region 1 with fail
  generalize (((w.alloc (.cells #[.int .i64 x.1, .int .i64 x.2.1, .int .i64 x.2.2.1, .int .i64 x.2.2.2.1, .int .i64 x.2.2.2.2] 23)).alloc (.cells #[.int .u8 v.1, .int .u8 v.2.1, .int .u8 v.2.2.1, .int .u8 v.2.2.2] 25)).alloc (.cells #[.int .i64 p, .slice a n cap] 40)) = W0 at *
  have c0 : W0.cell? ⟨w.heap.size, 0, none⟩ = some (.int .i64 x.1) := row_cell H0.out.rx 0
  have c1 : W0.cell? ⟨w.heap.size, 1, none⟩ = some (.int .i64 x.2.1) := row_cell H0.out.rx 1
  have c2 : W0.cell? ⟨w.heap.size, 2, none⟩ = some (.int .i64 x.2.2.1) := row_cell H0.out.rx 2
  have c3 : W0.cell? ⟨w.heap.size, 3, none⟩ = some (.int .i64 x.2.2.2.1) := row_cell H0.out.rx 3
  have c4 : W0.cell? ⟨w.heap.size, 4, none⟩ = some (.int .i64 x.2.2.2.2) := row_cell H0.out.rx 4
  go_wp2_with fail
  refine (P1.out _).mono ?_
  rintro e w1 ⟨rfl, b1⟩
  clear c0 c1 c2 c3 c4 P1
  go_upto_region 2 with fail
  have b1' := BL.out _ _ (.cells #[.int .u8 (putR x).1, .int .u8 (putR x).2.1, .int .u8 (putR x).2.2.1, .int .u8 (putR x).2.2.2] 25) b1
  have H1 := Lib.hid (H0.out.mono b1')
  have K1 := heap_alloc_new w1 (.cells #[.int .u8 (putR x).1, .int .u8 (putR x).2.1, .int .u8 (putR x).2.2.1, .int .u8 (putR x).2.2.2] 25)
  clear b1 b1' H0
  generalize w1.alloc (.cells #[.int .u8 (putR x).1, .int .u8 (putR x).2.1, .int .u8 (putR x).2.2.1, .int .u8 (putR x).2.2.2] 25) = W1 at *
  generalize w1.heap.size = g1 at *
  by_cases hx : okE x
  case' pos =>
    obtain ⟨z1, z2, z3⟩ := Z1.out hx
    rw [z2, z3] at T1
    rw [z1]
    clear z1 z2 z3 Z1 Z2 hx
    generalize putR x = ra at *
    have d0 : W1.cell? ⟨g1, 0, none⟩ = some (.int .u8 ra.1) := row_cell K1 0
    have d1 : W1.cell? ⟨g1, 1, none⟩ = some (.int .u8 ra.2.1) := row_cell K1 1
    have d2 : W1.cell? ⟨g1, 2, none⟩ = some (.int .u8 ra.2.2.1) := row_cell K1 2
    have d3 : W1.cell? ⟨g1, 3, none⟩ = some (.int .u8 ra.2.2.2) := row_cell K1 3
    go_wp2_with fail
    refine (T1.out _).mono ?_
    rintro e w2 ⟨rfl, b2⟩
    clear d0 d1 d2 d3 K1 T1
    go_upto_region 4 with fail
    have b2' := BL.out _ _ (.cells #[.int .i64 x.1, .int .i64 x.2.1, .int .i64 x.2.2.1, .int .i64 x.2.2.2.1, .int .i64 x.2.2.2.2] 23) b2
    have H := Lib.hid (H1.out.mono b2')
    have K2 := heap_alloc_new w2 (.cells #[.int .i64 x.1, .int .i64 x.2.1, .int .i64 x.2.2.1, .int .i64 x.2.2.2.1, .int .i64 x.2.2.2.2] 23)
    clear b2 b2' H1
    generalize w2.alloc (.cells #[.int .i64 x.1, .int .i64 x.2.1, .int .i64 x.2.2.1, .int .i64 x.2.2.2.1, .int .i64 x.2.2.2.2] 23) = W at *
    generalize w2.heap.size = g2 at *
    have c0 : W.cell? ⟨w.heap.size, 0, none⟩ = some (.int .i64 x.1) := row_cell H.out.rx 0
    have c1 : W.cell? ⟨w.heap.size, 1, none⟩ = some (.int .i64 x.2.1) := row_cell H.out.rx 1
    have c2 : W.cell? ⟨w.heap.size, 2, none⟩ = some (.int .i64 x.2.2.1) := row_cell H.out.rx 2
    have c3 : W.cell? ⟨w.heap.size, 3, none⟩ = some (.int .i64 x.2.2.2.1) := row_cell H.out.rx 3
    have c4 : W.cell? ⟨w.heap.size, 4, none⟩ = some (.int .i64 x.2.2.2.2) := row_cell H.out.rx 4
    have d0 : W.cell? ⟨g2, 0, none⟩ = some (.int .i64 x.1) := row_cell K2 0
    have d1 : W.cell? ⟨g2, 1, none⟩ = some (.int .i64 x.2.1) := row_cell K2 1
    have d2 : W.cell? ⟨g2, 2, none⟩ = some (.int .i64 x.2.2.1) := row_cell K2 2
    have d3 : W.cell? ⟨g2, 3, none⟩ = some (.int .i64 x.2.2.2.1) := row_cell K2 3
    have d4 : W.cell? ⟨g2, 4, none⟩ = some (.int .i64 x.2.2.2.2) := row_cell K2 4
    have E2 : ∀ w, (Op.equalIn 10000 23 (.agg #[.int .i64 x.1, .int .i64 x.2.1, .int .i64 x.2.2.1, .int .i64 x.2.2.2.1, .int .i64 x.2.2.2.2]) (.agg #[.int .i64 x.1, .int .i64 x.2.1, .int .i64 x.2.2.1, .int .i64 x.2.2.2.1, .int .i64 x.2.2.2.2])).run Try.prog w = .ok true w := fun w => by rw [eq_ent x x w, decide_eq_true rfl]
    go_upto_region 6 with fail
    clear c0 c1 c2 c3 c4 d0 d1 d2 d3 d4 E2 K2
  case' neg =>
    rw [Z2.out hx]
    clear Z1 Z2 hx T1 K1
    have H := H1
    clear H1
    go_upto_region 6 with fail
    generalize W1 = W at *
  all_goals
    have d0 : W.cell? ⟨w.heap.size + 1, 0, none⟩ = some (.int .u8 v.1) := row_cell H.out.rv 0
    have d1 : W.cell? ⟨w.heap.size + 1, 1, none⟩ = some (.int .u8 v.2.1) := row_cell H.out.rv 1
    have d2 : W.cell? ⟨w.heap.size + 1, 2, none⟩ = some (.int .u8 v.2.2.1) := row_cell H.out.rv 2
    have d3 : W.cell? ⟨w.heap.size + 1, 3, none⟩ = some (.int .u8 v.2.2.2) := row_cell H.out.rv 3
    go_wp2_with fail
    refine (T2.out _).mono ?_
    rintro e w3 ⟨rfl, b3⟩
    clear d0 d1 d2 d3 T2
    go_upto_region 7 with fail
    have b3' := BL.out _ _ (.cells #[.int .i64 (takeE v).1, .int .i64 (takeE v).2.1, .int .i64 (takeE v).2.2.1, .int .i64 (takeE v).2.2.2.1, .int .i64 (takeE v).2.2.2.2] 23) b3
    have H1 := Lib.hid (H.out.mono b3')
    have K1 := heap_alloc_new w3 (.cells #[.int .i64 (takeE v).1, .int .i64 (takeE v).2.1, .int .i64 (takeE v).2.2.1, .int .i64 (takeE v).2.2.2.1, .int .i64 (takeE v).2.2.2.2] 23)
    clear b3 b3' H
    generalize w3.alloc (.cells #[.int .i64 (takeE v).1, .int .i64 (takeE v).2.1, .int .i64 (takeE v).2.2.1, .int .i64 (takeE v).2.2.2.1, .int .i64 (takeE v).2.2.2.2] 23) = W1 at *
    generalize w3.heap.size = g1 at *
    by_cases hx : okE (takeX v)
    case' pos =>
      obtain ⟨z1, z2, z3, z4⟩ := Y1.out hx
      rw [z3, z4] at P2
      rw [z1] at K1
      rw [z1, z2]
      clear z1 z2 z3 z4 Y1 Y2 hx
      generalize takeX v = y at *
      have c0 : W1.cell? ⟨g1, 0, none⟩ = some (.int .i64 y.1) := row_cell K1 0
      have c1 : W1.cell? ⟨g1, 1, none⟩ = some (.int .i64 y.2.1) := row_cell K1 1
      have c2 : W1.cell? ⟨g1, 2, none⟩ = some (.int .i64 y.2.2.1) := row_cell K1 2
      have c3 : W1.cell? ⟨g1, 3, none⟩ = some (.int .i64 y.2.2.2.1) := row_cell K1 3
      have c4 : W1.cell? ⟨g1, 4, none⟩ = some (.int .i64 y.2.2.2.2) := row_cell K1 4
      go_wp2_with fail
      refine (P2.out _).mono ?_
      rintro e w4 ⟨rfl, b4⟩
      clear c0 c1 c2 c3 c4 K1 P2
      go_upto_region 9 with fail
      have b4' := BL.out _ _ (.cells #[.int .u8 v.1, .int .u8 v.2.1, .int .u8 v.2.2.1, .int .u8 v.2.2.2] 25) b4
      have H := Lib.hid (H1.out.mono b4')
      have K2 := heap_alloc_new w4 (.cells #[.int .u8 v.1, .int .u8 v.2.1, .int .u8 v.2.2.1, .int .u8 v.2.2.2] 25)
      clear b4 b4' H1
      generalize w4.alloc (.cells #[.int .u8 v.1, .int .u8 v.2.1, .int .u8 v.2.2.1, .int .u8 v.2.2.2] 25) = W at *
      generalize w4.heap.size = g2 at *
      have d0 : W.cell? ⟨w.heap.size + 1, 0, none⟩ = some (.int .u8 v.1) := row_cell H.out.rv 0
      have d1 : W.cell? ⟨w.heap.size + 1, 1, none⟩ = some (.int .u8 v.2.1) := row_cell H.out.rv 1
      have d2 : W.cell? ⟨w.heap.size + 1, 2, none⟩ = some (.int .u8 v.2.2.1) := row_cell H.out.rv 2
      have d3 : W.cell? ⟨w.heap.size + 1, 3, none⟩ = some (.int .u8 v.2.2.2) := row_cell H.out.rv 3
      have e0 : W.cell? ⟨g2, 0, none⟩ = some (.int .u8 v.1) := row_cell K2 0
      have e1 : W.cell? ⟨g2, 1, none⟩ = some (.int .u8 v.2.1) := row_cell K2 1
      have e2 : W.cell? ⟨g2, 2, none⟩ = some (.int .u8 v.2.2.1) := row_cell K2 2
      have e3 : W.cell? ⟨g2, 3, none⟩ = some (.int .u8 v.2.2.2) := row_cell K2 3
      have E1 : ∀ w, (Op.equalIn 10000 25 (.agg #[.int .u8 v.1, .int .u8 v.2.1, .int .u8 v.2.2.1, .int .u8 v.2.2.2]) (.agg #[.int .u8 v.1, .int .u8 v.2.1, .int .u8 v.2.2.1, .int .u8 v.2.2.2])).run Try.prog w = .ok true w := fun w => by rw [eq_rec v v w, decide_eq_true rfl]
      go_upto_region 11 with fail
      clear d0 d1 d2 d3 e0 e1 e2 e3 E1 K2
    case' neg =>
      rw [Y2.out hx]
      clear Y1 Y2 hx P2 K1
      have H := H1
      clear H1
      go_upto_region 11 with fail
      generalize W1 = W at *
    all_goals
      go_wp2_with fail
      refine (SO.out _ _ H.out.q).mono ?_
      rintro e w5 ⟨u5, rfl, r5, b5⟩
      obtain ⟨a5, n5, k5, rfl⟩ : ∃ a n c, u5 = .slice a n c := by obtain ⟨a, c, e, _⟩ := r5; exact ⟨a, _, c, e⟩
      go_wp2_with fail
      refine (F1.out _ _ r5).mono ?_
      rintro e w6 ⟨u6, rfl, r6, b6⟩
      obtain ⟨a6, n6, k6, rfl⟩ : ∃ a n c, u6 = .slice a n c := by obtain ⟨a, c, e, _⟩ := r6; exact ⟨a, _, c, e⟩
      have b6' := BL.out _ _ (.cells #[.int .i64 (fP m2), .slice a6 n6 k6] 40) (b5.trans (b6.mono b5.size))
      have H1 := Lib.hid (H.out.mono b6')
      have K1 := heap_alloc_new w6 (.cells #[.int .i64 (fP m2), .slice a6 n6 k6] 40)
      have R6 := Lib.hid (r6.below (BL.out w6 w6 (.cells #[.int .i64 (fP m2), .slice a6 n6 k6] 40) (Below.refl _ _)))
      clear b5 b6 b6' r5 r6 H F1
      go_upto_region 12 with fail
      generalize w6.alloc (.cells #[.int .i64 (fP m2), .slice a6 n6 k6] 40) = W1 at *
      generalize w6.heap.size = g1 at *
      by_cases hx : mayP m2
      case' pos =>
        obtain ⟨z1, z2, z3⟩ := FZ.out hx
        have T4 := Lib.hid (T3.out hx)
        rw [z1] at R6
        rw [z2] at K1
        rw [z2, z3]
        clear z1 z2 z3 FZ FW T3 hx
        have c0 : W1.cell? ⟨g1, 0, none⟩ = some (.int .i64 3) := row_cell K1 0
        have c1 : W1.cell? ⟨g1, 1, none⟩ = some (.slice a6 n6 k6) := row_cell K1 1
        go_wp2_with fail
        refine (T4.out _ _ R6.out).mono ?_
        rintro e w7 ⟨u7, rfl, r7, b7⟩
        obtain ⟨a7, n7, k7, rfl⟩ : ∃ a n c, u7 = .slice a n c := by obtain ⟨a, c, e, _⟩ := r7; exact ⟨a, _, c, e⟩
        have H2 := Lib.hid (H1.out.mono b7)
        clear c0 c1 K1 T4 R6 H1 b7
        go_wp2_with fail
        refine (SO.out _ _ H2.out.q).mono ?_
        rintro e w8 ⟨u8, rfl, r8, b8⟩
        obtain ⟨a8, n8, k8, rfl⟩ : ∃ a n c, u8 = .slice a n c := by obtain ⟨a, c, e, _⟩ := r8; exact ⟨a, _, c, e⟩
        go_wp2_with fail
        refine (SA.out _ _ _ (r7.below b8) r8).mono ?_
        rintro e w9 ⟨rfl, b9⟩
        have H := Lib.hid (H2.out.mono (b8.trans (b9.mono b8.size)))
        clear H2 r7 r8 b8 b9
        go_upto_region 16 with fail
        generalize w9 = W at *
      case' neg =>
        rw [FW.out hx]
        clear FZ FW T3 hx K1 R6
        have H := H1
        clear H1
        go_upto_region 16 with fail
        generalize W1 = W at *
      all_goals
        have c0 : W.cell? ⟨w.heap.size + 2, 0, none⟩ = some (.int .i64 p) := row_cell H.out.rf 0
        have c1 : W.cell? ⟨w.heap.size + 2, 1, none⟩ = some (.slice a n cap) := row_cell H.out.rf 1
        go_wp2_with fail
        refine (FE.out _ _ H.out.r).mono ?_
        rintro e wA ⟨uA, rfl, rA, bA⟩
        clear c0 c1
        go_wp2_with fail
        refine (TA.out _ _ rA).mono ?_
        rintro e wB ⟨uB, rfl, rB, bB⟩
        have BB := Lib.hid (H.out.bel.trans ((bA.trans (bB.mono bA.size)).mono H.out.bel.size))
        obtain ⟨aB, kB, rfl, ⟨hcB, _⟩, hmB, hAB⟩ := rB
        have AB := Lib.hid hAB
        clear H rA bA bB hAB FE TA SO SA BL
        have hl16 := may_len TM.out
        unfold maxLen at hmB
        generalize hnB : tl.length = nB at *
        have HNB := Lib.hid hnB
        clear hnB
        have H16 := Lib.hid hl16
        clear hl16
        go_wp2
        go_loopw [23] (fun i wr => ∃ k : Nat, 1 ≤ k ∧ k ≤ nB + 1 ∧ i = .int .i64 k ∧ Hid (Below wB.heap.size wB wr)) (fun i _ => nB + 1 - (intOf i).toNat)
        case atStart => exact ⟨1, Nat.le_refl _, by omega, rfl, Lib.hid (Below.refl _ _)⟩
        case round =>
          obtain ⟨k, hk1, hk, rfl, bw⟩ := hrel
          by_cases hlt : k < nB
          · obtain ⟨b, off, rfl, A⟩ := AB.out (by omega)
            obtain ⟨j, hj⟩ : ∃ j, k = j + 1 := ⟨k - 1, by omega⟩
            have hjn : j < nB := by omega
            obtain ⟨_, c1, _, _, _⟩ := at5 (A.below bw.out) k (by rw [HNB.out]; exact hlt)
            obtain ⟨_, d1, _, _, _⟩ := at5 (A.below bw.out) j (by rw [HNB.out]; exact hjn)
            rw [show tl.getD k z5 = eat tl k from rfl] at c1
            rw [show tl.getD j z5 = eat tl j from rfl] at d1
            have hs := (TM.out k (by rw [HNB.out]; exact hlt)).2
            rw [show prevS tl k = (eat tl j).2.1 by rw [hj, prev_next]] at hs
            have W0 : IntKind.i64.wrap ((k : Int) - 1) = (j : Int) := by rw [IntWalk.i64_in _ (by omega)]; omega
            have h3' : decide ((eat tl k).2.1 ≤ (eat tl j).2.1) = false := decide_eq_false (by omega)
            have AA := Lib.hid A
            clear A hs hj
            generalize eat tl k = x at *
            generalize eat tl j = y at *
            go_wp2
            go_quiet (fail)
            go_wp2
            go_roundw
            case rel => exact ⟨k + 1, by omega, by omega, by go_num, below_drewN bw.out _⟩
            case measure => simp [intOf]; omega
          · have h16 : (nB : Int) ≤ 16 := by have := H16.out; omega
            have h16n : nB ≤ 16 := H16.out
            go_wp2_with fail
            refine (awake_any _).mono ?_
            rintro e wC ⟨rfl, bC⟩
            have BC := Lib.hid (BB.out.trans ((bw.out.trans (bC.mono bw.out.size)).mono BB.out.size))
            clear bC bw BB
            rcases TZ.out with rfl | ⟨rfl, e⟩
            · go_wp2
              go_ret
              exact ⟨ret_bool (by first | rfl | (simp; omega)), BC.out⟩
            · obtain rfl : nB = 0 := by rw [← HNB.out, e]; rfl
              clear e
              go_wp2
              go_ret
              exact ⟨ret_bool (by first | rfl | simp), BC.out⟩

end Go.Proofs.Ytchbccaokoiodaa.Ro
