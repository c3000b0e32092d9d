/- QueueDoes: both queues side by side, by any deeds. -/
import Derived.Test.YtfbhmhgmebaoaaaQeAwake
import Derived.Test.YtfbhmhgmebaoaaaQeRpush
import Derived.Test.YtfbhmhgmebaoaaaQeRfail
import Derived.Test.YtfbhmhgmebaoaaaQk
import Derived.Deep.CutRange
import Derived.Deep.CutBlock
import Derived.LoopTactic
namespace Go.Proofs.Ytfbhmhgmebaoaaa.Qe
open Go.RowKit
open Go.Proofs.Ytfbhmhgmebaoaaa.Rw (Rd Ow At)
open Go.Proofs.Ytfbhmhgmebaoaaa.Rq (Q zQ qA qV ret_bool same_q)
open Go.Proofs.Ytfbhmhgmebaoaaa.Fl (R4 z4)
open Go.Proofs.Ytfbhmhgmebaoaaa.Fs (Only Fx)
set_option maxRecDepth 100000
attribute [local irreducible] Sd.wpSd wpQuiet Sg.wpSg

/-- Both queues: the code's at g, the document's at r, in blocks of F. -/
structure Bo (w : World) (g r : Nat) (F : Nat → Prop) (s s' : Qs) (wr : World) : Prop where
  cq : Cq wr g s
  rq : Rq wr r F s'
  nf : ¬ F g
  lo : ∀ k, F k → w.heap.size ≤ k
  gl : w.heap.size ≤ g
  bl : Below w.heap.size w wr
section
variable {w wr w' : World} {g r : Nat} {F : Nat → Prop} {s s' s1 : Qs}
theorem Bo.below (h : Bo w g r F s s' wr) (b : Below wr.heap.size wr w') : Bo w g r F s s' w' := ⟨h.cq.below b, h.rq.below b, h.nf, h.lo, h.gl, bTr h.bl b⟩
theorem Bo.code (h : Bo w g r F s s' wr) (c : Cq w' g s1) (o : Only (At1 g) wr w') : Bo w g r F s1 s' w' := ⟨c, h.rq.only (G := At1 g) (fun k f (e : k = g) => h.nf (e ▸ f)) o, h.nf, h.lo, h.gl, low1 h.bl o h.gl⟩
theorem Bo.ref (h : Bo w g r F s s' wr) (c : Rq w' r F s1) (o : Only F wr w') : Bo w g r F s s1 w' := ⟨h.cq.only h.nf o, c, h.nf, h.lo, h.gl, h.bl.trans (o.below h.bl.size h.lo)⟩
theorem Bo.push (h : Bo w g r F s s' wr) (c : Rq w' r (Fx F wr w') s1) (o : Only F wr w') : Bo w g r (Fx F wr w') s s1 w' := ⟨h.cq.only h.nf o, c, Fx.not h.nf h.cq.lt, fun k f => f.elim (h.lo k) fun f => Nat.le_trans h.bl.size f.1, h.gl, h.bl.trans (o.below h.bl.size h.lo)⟩
theorem Bo.new (h : Bo w g r F s s' wr) : ¬ F wr.heap.size := fun f => Nat.lt_irrefl _ (h.rq.low _ f)
end

set_option maxHeartbeats 8000000 in
theorem does_law (w : World) (v : Value) (l : List Dd) (R : Rd KD w v l) (hb : ∀ i, i < l.length → 0 ≤ (dd l i).k ∧ (dd l i).k ≤ 255) : Calls Try.prog 3 #[v] w fun e w' => e = .returned (.bool true) ∧ Below w.heap.size w w' := by
  have HB := Lib.hid hb
  have N1 := Lib.hid (new_any w)
  obtain ⟨a, cap, rfl, _, hm, hA⟩ := R
  have HA := Lib.hid hA
  unfold maxLen at hm
  clear hA hb
  generalize hn : l.length = n at *
  have HN := Lib.hid hn
  clear hn
  go_enter Try.func3, Try.ntmps3
  go_wp2_with fail
  refine N1.out.mono ?_
  rintro e w1 ⟨g, rfl, q1, hg, b1⟩
  go_upto_region 2 with fail
  have bb := (Below.refl w1.heap.size w1).alloc (Nat.le_refl _) (.cells #[.slice none 0 0, .slice none 0 0] 29)
  have Q2 := q1.below bb
  have P2 : Hid (Bo w g w1.heap.size (fun k => k = w1.heap.size) q0 q0 (w1.alloc (.cells #[.slice none 0 0, .slice none 0 0] 29))) := Lib.hid ⟨Q2, ⟨_, _, heap_alloc_new w1 _, Rw.Rd.nil _, Rw.Rd.nil _, (fun k e => by cases e), (fun k e => by cases e), rfl, (fun k e => by rw [e]; exact lt_of_block (heap_alloc_new w1 _))⟩, (fun e => by have := q1.lt; omega), (fun k e => by rw [e]; exact b1.size), hg, bTr b1 bb⟩
  clear q1 hg b1 bb Q2 N1
  generalize w1.alloc (.cells #[.slice none 0 0, .slice none 0 0] 29) = W0 at *
  generalize w1.heap.size = r at *
  go_wp2
  go_loopw [5] (fun i wr => ∃ (k : Nat) (s : Qs) (F : Nat → Prop), k ≤ n ∧ k ≤ 100 ∧ i = .int .i64 k ∧ Hid (ok s) ∧ Hid (Bo w g r F s s wr)) (fun i _ => n - (intOf i).toNat)
  case atStart => exact ⟨0, q0, _, Nat.zero_le _, Nat.zero_le _, rfl, ok_0, P2⟩
  case round =>
    clear P2
    obtain ⟨k, s, F, hk, hk2, rfl, OK, PP⟩ := hrel
    by_cases hlt : k < n ∧ k < 100
    · obtain ⟨hkn, hk100⟩ := hlt
      obtain ⟨b, off, rfl, A⟩ := HA.out (by omega)
      have A1 := dd_at A (i := k) (by rw [HN.out]; exact hkn)
      have d0 := PP.out.bl.cell (World.block_lt_of_cell? _ _ A1.1) |>.trans A1.1
      have XR := Lib.hid A1.2
      obtain ⟨x0, x255⟩ := HB.out k hkn
      clear A A1
      generalize dd l k = d at *
      obtain ⟨dk, x⟩ := d
      dsimp only at x0 x255 d0 XR
      have hmod : Int.tmod dk 4 = dk % 4 := Int.tmod_eq_emod_of_nonneg x0
      have wmod : IntKind.u8.wrap (dk % 4) = dk % 4 := IntWalk.u8_in _ (by omega)
      have hm0 : 0 ≤ dk % 4 ∧ dk % 4 ≤ 3 := by omega
      go_upto_block 2 with fail
      generalize dk % 4 = md at *
      clear hmod wmod d0
      go_cut [6, 7, 8, 9, 10, 11, 12, 13] from 19 to 125 (fun _ _ _ _ _ _ _ _ wx => ∃ (s1 : Qs) (F1 : Nat → Prop), Hid (ok s1) ∧ Hid (Bo w g r F1 s1 s1 wx))
      case first =>
        by_cases m0 : md = 0
        · subst m0
          clear hm0 XR
          have CP : Hid (∀ W, Cq W g s → Calls Try.prog 6 #[.pointer (some ⟨g, 0, none⟩)] W fun e w' => e = .returned (.tuple #[qV (fst s), .bool (has s)]) ∧ Cq w' g (poS s) ∧ Only (At1 g) W w') := Lib.hid fun W h => pop_any h OK.out
          have DP : Hid (∀ W, Rq W r F s → Calls Try.prog 7 #[.pointer (some ⟨r, 0, none⟩)] W fun e w' => e = .returned (.tuple #[qV (fst s), .bool (has s)]) ∧ Rq w' r F (poS s) ∧ Only F W w') := Lib.hid fun W h => rpop_any h (fun e => OK.out.2.2 e)
          have O1 := Lib.hid (ok_pop OK.out)
          have es := same_q (fst s)
          generalize poS s = s1 at *
          generalize fst s = fx at *
          generalize has s = hx at *
          obtain ⟨fi, fk, fn, ff, fr, ⟨f0, f1, f2, f3⟩, fy⟩ := fx
          unfold qV qA at CP DP
          unfold qA at es
          dsimp only at CP DP es
          go_wp2_with fail
          refine (CP.out _ PP.out.cq).mono ?_
          rintro e w4 ⟨rfl, q4, o4⟩
          go_upto_region 10 with fail
          have P4 := PP.out.code q4 o4
          have bb := (Below.refl w4.heap.size w4).alloc (Nat.le_refl _) (.cells #[.int .i64 fi, .int .i64 fk, .int .i64 fn, .int .i64 ff, .int .i64 fr, .int .u8 f0, .int .u8 f1, .int .u8 f2, .int .u8 f3, .int .i64 fy] 33)
          have P5 := Lib.hid (P4.below bb)
          have NG := Lib.hid P4.new
          have X5 := Lib.hid (heap_alloc_new w4 (.cells #[.int .i64 fi, .int .i64 fk, .int .i64 fn, .int .i64 ff, .int .i64 fr, .int .u8 f0, .int .u8 f1, .int .u8 f2, .int .u8 f3, .int .i64 fy] 33))
          clear bb P4 PP q4 o4 CP
          generalize w4.alloc (.cells #[.int .i64 fi, .int .i64 fk, .int .i64 fn, .int .i64 ff, .int .i64 fr, .int .u8 f0, .int .u8 f1, .int .u8 f2, .int .u8 f3, .int .i64 fy] 33) = W5 at *
          generalize w4.heap.size = g5 at *
          go_wp2_with fail
          refine (DP.out _ P5.out.rq).mono ?_
          rintro e w6 ⟨rfl, q6, o6⟩
          go_upto_region 11 with fail
          have P6 := P5.out.ref q6 o6
          have X6 := (o6.block g5 (lt_of_block X5.out) NG.out).trans X5.out
          have bb := (Below.refl w6.heap.size w6).alloc (Nat.le_refl _) (.cells #[.int .i64 fi, .int .i64 fk, .int .i64 fn, .int .i64 ff, .int .i64 fr, .int .u8 f0, .int .u8 f1, .int .u8 f2, .int .u8 f3, .int .i64 fy] 33)
          have P7 := Lib.hid (P6.below bb)
          have X7 := Lib.hid (bBl bb X6)
          have Y7 := Lib.hid (heap_alloc_new w6 (.cells #[.int .i64 fi, .int .i64 fk, .int .i64 fn, .int .i64 ff, .int .i64 fr, .int .u8 f0, .int .u8 f1, .int .u8 f2, .int .u8 f3, .int .i64 fy] 33))
          clear bb P6 P5 X6 X5 NG q6 o6 DP
          generalize w6.alloc (.cells #[.int .i64 fi, .int .i64 fk, .int .i64 fn, .int .i64 ff, .int .i64 fr, .int .u8 f0, .int .u8 f1, .int .u8 f2, .int .u8 f3, .int .i64 fy] 33) = W7 at *
          generalize w6.heap.size = g7 at *
          have p0 := rc1 X7.out 0
          have p1 := rc1 X7.out 1
          have p2 := rc1 X7.out 2
          have p3 := rc1 X7.out 3
          have p4 := rc1 X7.out 4
          have p5 := rc1 X7.out 5
          have p6 := rc1 X7.out 6
          have p7 := rc1 X7.out 7
          have p8 := rc1 X7.out 8
          have p9 := rc1 X7.out 9
          have q0 := rc1 Y7.out 0
          have q1 := rc1 Y7.out 1
          have q2 := rc1 Y7.out 2
          have q3 := rc1 Y7.out 3
          have q4 := rc1 Y7.out 4
          have q5 := rc1 Y7.out 5
          have q6 := rc1 Y7.out 6
          have q7 := rc1 Y7.out 7
          have q8 := rc1 Y7.out 8
          have q9 := rc1 Y7.out 9
          go_wp2
          go_meet
          exact ⟨_, _, O1, P7⟩
        · by_cases m1 : md = 1
          · subst m1
            clear hm0 m0 XR
            have CP : Hid (∀ W, Cq W g s → Calls Try.prog 8 #[.pointer (some ⟨g, 0, none⟩)] W fun e w' => e = .returned (.tuple #[qV (faV s), .bool (faB s)]) ∧ Cq w' g (faS s) ∧ Only (At1 g) W w') := Lib.hid fun W h => fail_any h OK.out
            have DP : Hid (∀ W, Rq W r F s → Calls Try.prog 9 #[.pointer (some ⟨r, 0, none⟩)] W fun e w' => e = .returned (.tuple #[qV (faV s), .bool (faB s)]) ∧ Rq w' r F (faS s) ∧ Only F W w') := Lib.hid fun W h => rfail_any h OK.out.2.1
            have O1 := Lib.hid (ok_fail OK.out)
            have es := same_q (faV s)
            generalize faS s = s1 at *
            generalize faV s = fx at *
            generalize faB s = hx at *
            obtain ⟨fi, fk, fn, ff, fr, ⟨f0, f1, f2, f3⟩, fy⟩ := fx
            unfold qV qA at CP DP
            unfold qA at es
            dsimp only at CP DP es
            go_wp2_with fail
            refine (CP.out _ PP.out.cq).mono ?_
            rintro e w4 ⟨rfl, q4, o4⟩
            go_upto_region 15 with fail
            have P4 := PP.out.code q4 o4
            have bb := (Below.refl w4.heap.size w4).alloc (Nat.le_refl _) (.cells #[.int .i64 fi, .int .i64 fk, .int .i64 fn, .int .i64 ff, .int .i64 fr, .int .u8 f0, .int .u8 f1, .int .u8 f2, .int .u8 f3, .int .i64 fy] 33)
            have P5 := Lib.hid (P4.below bb)
            have NG := Lib.hid P4.new
            have X5 := Lib.hid (heap_alloc_new w4 (.cells #[.int .i64 fi, .int .i64 fk, .int .i64 fn, .int .i64 ff, .int .i64 fr, .int .u8 f0, .int .u8 f1, .int .u8 f2, .int .u8 f3, .int .i64 fy] 33))
            clear bb P4 PP q4 o4 CP
            generalize w4.alloc (.cells #[.int .i64 fi, .int .i64 fk, .int .i64 fn, .int .i64 ff, .int .i64 fr, .int .u8 f0, .int .u8 f1, .int .u8 f2, .int .u8 f3, .int .i64 fy] 33) = W5 at *
            generalize w4.heap.size = g5 at *
            go_wp2_with fail
            refine (DP.out _ P5.out.rq).mono ?_
            rintro e w6 ⟨rfl, q6, o6⟩
            go_upto_region 16 with fail
            have P6 := P5.out.ref q6 o6
            have X6 := (o6.block g5 (lt_of_block X5.out) NG.out).trans X5.out
            have bb := (Below.refl w6.heap.size w6).alloc (Nat.le_refl _) (.cells #[.int .i64 fi, .int .i64 fk, .int .i64 fn, .int .i64 ff, .int .i64 fr, .int .u8 f0, .int .u8 f1, .int .u8 f2, .int .u8 f3, .int .i64 fy] 33)
            have P7 := Lib.hid (P6.below bb)
            have X7 := Lib.hid (bBl bb X6)
            have Y7 := Lib.hid (heap_alloc_new w6 (.cells #[.int .i64 fi, .int .i64 fk, .int .i64 fn, .int .i64 ff, .int .i64 fr, .int .u8 f0, .int .u8 f1, .int .u8 f2, .int .u8 f3, .int .i64 fy] 33))
            clear bb P6 P5 X6 X5 NG q6 o6 DP
            generalize w6.alloc (.cells #[.int .i64 fi, .int .i64 fk, .int .i64 fn, .int .i64 ff, .int .i64 fr, .int .u8 f0, .int .u8 f1, .int .u8 f2, .int .u8 f3, .int .i64 fy] 33) = W7 at *
            generalize w6.heap.size = g7 at *
            have p0 := rc1 X7.out 0
            have p1 := rc1 X7.out 1
            have p2 := rc1 X7.out 2
            have p3 := rc1 X7.out 3
            have p4 := rc1 X7.out 4
            have p5 := rc1 X7.out 5
            have p6 := rc1 X7.out 6
            have p7 := rc1 X7.out 7
            have p8 := rc1 X7.out 8
            have p9 := rc1 X7.out 9
            have q0 := rc1 Y7.out 0
            have q1 := rc1 Y7.out 1
            have q2 := rc1 Y7.out 2
            have q3 := rc1 Y7.out 3
            have q4 := rc1 Y7.out 4
            have q5 := rc1 Y7.out 5
            have q6 := rc1 Y7.out 6
            have q7 := rc1 Y7.out 7
            have q8 := rc1 Y7.out 8
            have q9 := rc1 Y7.out 9
            go_wp2
            go_meet
            exact ⟨_, _, O1, P7⟩
          · have CP : Hid (∀ W, Cq W g s → Calls Try.prog 10 #[.pointer (some ⟨g, 0, none⟩), qV x] W fun e w' => e = .returned (.int .i64 (puE s)) ∧ Cq w' g (puS s x) ∧ Only (At1 g) W w') := Lib.hid fun W h => push_any h OK.out x
            have DP : Hid (∀ W, Rq W r F s → Calls Try.prog 11 #[.pointer (some ⟨r, 0, none⟩), qV x] W fun e w' => e = .returned (.int .i64 (puE s)) ∧ Rq w' r (Fx F W w') (puS s x) ∧ Only F W w') := Lib.hid fun W h => rpush_any h OK.out x
            have O1 := Lib.hid (ok_push OK.out x)
            generalize puE s = pe at *
            generalize puS s x = s1 at *
            have nz : (pe != pe) = false := by simp
            obtain ⟨xi, xk, xn, xf, xr, ⟨v0, v1, v2, v3⟩, xy⟩ := x
            unfold qV qA at CP DP
            dsimp only at CP DP
            go_upto_region 6 with fail
            have x0 := Sc.cell_in (C := Below w.heap.size w) (a := ⟨b, off + k * 11 + 1, none⟩) (fun W' h => (h.cell (World.block_lt_of_cell? _ _ (XR.out 0 _ rfl))).trans (XR.out 0 _ rfl))
            have x1 := Sc.cell_in (C := Below w.heap.size w) (a := ⟨b, off + k * 11 + 1 + 1, none⟩) (fun W' h => (h.cell (World.block_lt_of_cell? _ _ (XR.out 1 _ rfl))).trans (XR.out 1 _ rfl))
            have x2 := Sc.cell_in (C := Below w.heap.size w) (a := ⟨b, off + k * 11 + 1 + 2, none⟩) (fun W' h => (h.cell (World.block_lt_of_cell? _ _ (XR.out 2 _ rfl))).trans (XR.out 2 _ rfl))
            have x3 := Sc.cell_in (C := Below w.heap.size w) (a := ⟨b, off + k * 11 + 1 + 3, none⟩) (fun W' h => (h.cell (World.block_lt_of_cell? _ _ (XR.out 3 _ rfl))).trans (XR.out 3 _ rfl))
            have x4 := Sc.cell_in (C := Below w.heap.size w) (a := ⟨b, off + k * 11 + 1 + 4, none⟩) (fun W' h => (h.cell (World.block_lt_of_cell? _ _ (XR.out 4 _ rfl))).trans (XR.out 4 _ rfl))
            have x5 := Sc.cell_in (C := Below w.heap.size w) (a := ⟨b, off + k * 11 + 1 + 5, none⟩) (fun W' h => (h.cell (World.block_lt_of_cell? _ _ (XR.out 5 _ rfl))).trans (XR.out 5 _ rfl))
            have x6 := Sc.cell_in (C := Below w.heap.size w) (a := ⟨b, off + k * 11 + 1 + 6, none⟩) (fun W' h => (h.cell (World.block_lt_of_cell? _ _ (XR.out 6 _ rfl))).trans (XR.out 6 _ rfl))
            have x7 := Sc.cell_in (C := Below w.heap.size w) (a := ⟨b, off + k * 11 + 1 + 7, none⟩) (fun W' h => (h.cell (World.block_lt_of_cell? _ _ (XR.out 7 _ rfl))).trans (XR.out 7 _ rfl))
            have x8 := Sc.cell_in (C := Below w.heap.size w) (a := ⟨b, off + k * 11 + 1 + 8, none⟩) (fun W' h => (h.cell (World.block_lt_of_cell? _ _ (XR.out 8 _ rfl))).trans (XR.out 8 _ rfl))
            have x9 := Sc.cell_in (C := Below w.heap.size w) (a := ⟨b, off + k * 11 + 1 + 9, none⟩) (fun W' h => (h.cell (World.block_lt_of_cell? _ _ (XR.out 9 _ rfl))).trans (XR.out 9 _ rfl))
            clear XR
            have ne : Nonempty (Sc.In (Below w.heap.size w)) := ⟨⟨_, Below.refl _ _⟩⟩
            have BD := PP.out.bl.drew
            refine Sc.start (Below w.heap.size w) [(false, 0), (false, 1), (false, 2), (false, 3), (false, 4), (false, 5), (false, 7), (false, 8), (false, 9), (false, 10), (false, 11), (false, 12), (true, 6), (true, 13), (false, 14)] (by kernel_rfl) (by kernel_rfl) (by kernel_rfl) BD ?_
            dsimp only [Sd.picks, List.getElem?_cons_succ, List.getElem?_cons_zero]
            repeat (refine Sd.lit ?_; quiet_step (fail); refine wpQuiet_nil ?_)
            have PD := Lib.hid (PP.out.below (Below.refl wr.heap.size wr).drew)
            clear PP BD x0 x1 x2 x3 x4 x5 x6 x7 x8 x9
            generalize wr.drew = W1 at *
            refine Sd.call (by rfl) (fun K hK => ?_)
            go_simp
            refine (CP.out _ PD.out.cq).mono ?_
            rintro e w4 ⟨rfl, q4, o4⟩
            have P4 := Lib.hid (PD.out.code q4 o4)
            refine hK _ _ (Sc.Cl.of P4.out.bl) ?_
            clear hK K q4 o4 PD CP
            go_simp
            refine Sd.call (by rfl) (fun K hK => ?_)
            go_simp
            refine (DP.out _ P4.out.rq).mono ?_
            rintro e w6 ⟨rfl, q6, o6⟩
            have P6 := Lib.hid (P4.out.push q6 o6)
            refine hK _ _ (Sc.Cl.of P6.out.bl) ?_
            clear hK K q6 o6 P4 DP
            go_simp
            repeat (refine Sd.lit ?_; quiet_step (fail); refine wpQuiet_nil ?_)
            refine Sd.done ?_
            clear ne
            go_wp2
            go_meet
            exact ⟨_, _, O1, P6⟩
      case rest =>
        obtain ⟨s1, F1, O1, P1⟩ := hcut
        clear PP OK XR hm0
        obtain ⟨u1, u2', hq⟩ := P1.out.rq
        obtain ⟨L1, t1⟩ := s1
        cases L1 with
        | nil =>
          have ro := hq.rl.slice
          obtain ⟨a1, cap1, rfl, _⟩ := ro
          have D := Lib.hid hq.row
          clear hq
          obtain ⟨m, hm⟩ : ∃ m : Nat, m = ([] : List Q).length := ⟨_, rfl⟩
          have HM := Lib.hid hm.symm
          rw [← hm] at D
          have mz : (m : Int) = 0 := by rw [hm]; rfl
          have mz' : m = 0 := hm
          clear hm
          subst mz'
          clear mz
          have FP : Hid (∀ W, Cq W g ⟨[], t1⟩ → Calls Try.prog 12 #[.pointer (some ⟨g, 0, none⟩)] W fun e w' => e = .returned (.tuple #[.agg #[.int .i64 0, .int .i64 0, .int .i64 0, .int .i64 0, .int .i64 0, .int .u8 0, .int .u8 0, .int .u8 0, .int .u8 0, .int .i64 0], .bool false]) ∧ Below W.heap.size W w') := Lib.hid fun W h => first_any h O1.out
          have LP : Hid (∀ W, Cq W g ⟨[], t1⟩ → Calls Try.prog 13 #[.pointer (some ⟨g, 0, none⟩)] W fun e w' => e = .returned (.int .i64 0) ∧ Below W.heap.size W w') := Lib.hid fun W h => len_any h O1.out
          go_wp2_with fail
          refine (FP.out _ P1.out.cq).mono ?_
          rintro e w4 ⟨rfl, b4⟩
          go_upto_region 19 with fail
          have bb := b4.alloc b4.size (.cells #[.int .i64 0, .int .i64 0, .int .i64 0, .int .i64 0, .int .i64 0, .int .u8 0, .int .u8 0, .int .u8 0, .int .u8 0, .int .i64 0] 33)
          have P4 := Lib.hid (P1.out.below bb)
          have X4 := Lib.hid (heap_alloc_new w4 (.cells #[.int .i64 0, .int .i64 0, .int .i64 0, .int .i64 0, .int .i64 0, .int .u8 0, .int .u8 0, .int .u8 0, .int .u8 0, .int .i64 0] 33))
          have D4 := Lib.hid (bBl bb D.out)
          clear bb b4 P1 FP D
          generalize w4.alloc (.cells #[.int .i64 0, .int .i64 0, .int .i64 0, .int .i64 0, .int .i64 0, .int .u8 0, .int .u8 0, .int .u8 0, .int .u8 0, .int .i64 0] 33) = W at *
          generalize w4.heap.size = g4 at *
          have d0 := Sd.cell_by (rc1 D4.out 0)
          refine Sd.start [(false, 0), (false, 2), (false, 3), (false, 4), (false, 5), (false, 6), (true, 1), (false, 7), (false, 8), (false, 9), (false, 10), (false, 11), (false, 12), (false, 13), (false, 14), (false, 15), (false, 16), (false, 17), (false, 18), (false, 19), (false, 20), (false, 21), (false, 22), (false, 23), (false, 24), (false, 25), (false, 26), (false, 27), (false, 28), (false, 29), (false, 30)] (by kernel_rfl) (by kernel_rfl) (by kernel_rfl) ?_
          dsimp only [Sd.picks, List.getElem?_cons_succ, List.getElem?_cons_zero]
          iterate 6 (refine Sd.lit ?_; quiet_step (fail); refine wpQuiet_nil ?_)
          refine Sd.call (by rfl) (fun K hK => ?_)
          go_simp
          refine (LP.out _ (P4.out.cq.below (Below.refl W.heap.size W).drew)).mono ?_
          rintro e w5 ⟨rfl, b5⟩
          have C5 := Lib.hid (Below.trans ((Below.refl W.heap.size W).drew) b5)
          refine hK _ _ (Sd.Cl.of C5.out) ?_
          clear hK K b5 LP
          repeat (refine Sd.lit ?_; (first | (refine Qk.skip (by rfl) (by rfl) ?_) | quiet_step (fail)); refine wpQuiet_nil ?_)
          refine Sd.done ?_
          have P5 := Lib.hid (P4.out.below C5.out)
          clear P4 C5 X4 D4
          go_wp2
          go_roundw
          case rel => exact ⟨k + 1, ⟨[], t1⟩, F1, by omega, by omega, by go_num, O1, P5⟩
          case measure => simp [intOf]; omega
        | cons x1 l1 =>
          have rl := hq.rl
          have D := Lib.hid hq.row
          clear hq
          obtain ⟨a1, cap1, rfl, _, _, h2⟩ := rl
          obtain ⟨b1', off1, rfl, hA1⟩ := h2 (Nat.succ_pos _)
          have XX := Lib.hid (at_req hA1)
          clear hA1 h2
          generalize hm : (x1 :: l1).length = m at *
          have HM := Lib.hid hm
          have mp : 0 < m := by rw [← hm]; exact Nat.succ_pos _
          have mp' : (0 : Int) < m := by omega
          clear hm
          have es := same_q x1
          obtain ⟨fi, fk, fn, ff, fr, ⟨f0, f1, f2, f3⟩, fy⟩ := x1
          unfold qA at es
          dsimp only at es
          have mz : ((m : Int) != m) = false := by simp
          have FP : Hid (∀ W, Cq W g ⟨⟨fi, fk, fn, ff, fr, (f0, f1, f2, f3), fy⟩ :: l1, t1⟩ → Calls Try.prog 12 #[.pointer (some ⟨g, 0, none⟩)] W fun e w' => e = .returned (.tuple #[.agg #[.int .i64 fi, .int .i64 fk, .int .i64 fn, .int .i64 ff, .int .i64 fr, .int .u8 f0, .int .u8 f1, .int .u8 f2, .int .u8 f3, .int .i64 fy], .bool true]) ∧ Below W.heap.size W w') := Lib.hid fun W h => first_any h O1.out
          have LP : Hid (∀ W, Cq W g ⟨⟨fi, fk, fn, ff, fr, (f0, f1, f2, f3), fy⟩ :: l1, t1⟩ → Calls Try.prog 13 #[.pointer (some ⟨g, 0, none⟩)] W fun e w' => e = .returned (.int .i64 m) ∧ Below W.heap.size W w') := Lib.hid fun W h => by rw [← HM.out]; exact len_any h O1.out
          go_wp2_with fail
          refine (FP.out _ P1.out.cq).mono ?_
          rintro e w4 ⟨rfl, b4⟩
          go_upto_region 19 with fail
          have bb := b4.alloc b4.size (.cells #[.int .i64 fi, .int .i64 fk, .int .i64 fn, .int .i64 ff, .int .i64 fr, .int .u8 f0, .int .u8 f1, .int .u8 f2, .int .u8 f3, .int .i64 fy] 33)
          have P4 := Lib.hid (P1.out.below bb)
          have X4 := Lib.hid (heap_alloc_new w4 (.cells #[.int .i64 fi, .int .i64 fk, .int .i64 fn, .int .i64 ff, .int .i64 fr, .int .u8 f0, .int .u8 f1, .int .u8 f2, .int .u8 f3, .int .i64 fy] 33))
          have D4 := Lib.hid (bBl bb D.out)
          have j0 := bCe bb (XX.out 0 _ rfl)
          have j1 := bCe bb (XX.out 1 _ rfl)
          have j2 := bCe bb (XX.out 2 _ rfl)
          have j3 := bCe bb (XX.out 3 _ rfl)
          have j4 := bCe bb (XX.out 4 _ rfl)
          have j5 := bCe bb (XX.out 5 _ rfl)
          have j6 := bCe bb (XX.out 6 _ rfl)
          have j7 := bCe bb (XX.out 7 _ rfl)
          have j8 := bCe bb (XX.out 8 _ rfl)
          have j9 := bCe bb (XX.out 9 _ rfl)
          rw [Nat.add_zero] at j0
          clear XX
          clear bb b4 P1 FP D
          generalize w4.alloc (.cells #[.int .i64 fi, .int .i64 fk, .int .i64 fn, .int .i64 ff, .int .i64 fr, .int .u8 f0, .int .u8 f1, .int .u8 f2, .int .u8 f3, .int .i64 fy] 33) = W at *
          generalize w4.heap.size = g4 at *
          have d0 := Sd.cell_by (rc1 D4.out 0)
          have y0 := Sd.cell_by (rc1 X4.out 0)
          have y1 := Sd.cell_by (rc1 X4.out 1)
          have y2 := Sd.cell_by (rc1 X4.out 2)
          have y3 := Sd.cell_by (rc1 X4.out 3)
          have y4 := Sd.cell_by (rc1 X4.out 4)
          have y5 := Sd.cell_by (rc1 X4.out 5)
          have y6 := Sd.cell_by (rc1 X4.out 6)
          have y7 := Sd.cell_by (rc1 X4.out 7)
          have y8 := Sd.cell_by (rc1 X4.out 8)
          have y9 := Sd.cell_by (rc1 X4.out 9)
          have z0 := Sd.cell_by j0
          have z1 := Sd.cell_by j1
          have z2 := Sd.cell_by j2
          have z3 := Sd.cell_by j3
          have z4 := Sd.cell_by j4
          have z5 := Sd.cell_by j5
          have z6 := Sd.cell_by j6
          have z7 := Sd.cell_by j7
          have z8 := Sd.cell_by j8
          have z9 := Sd.cell_by j9
          refine Sd.start [(false, 0), (false, 2), (false, 3), (false, 4), (false, 5), (false, 6), (true, 1), (false, 7), (false, 8), (false, 9), (false, 10), (false, 11), (false, 12), (false, 13), (false, 14), (false, 15), (false, 16), (false, 17), (false, 18), (false, 19), (false, 20), (false, 21), (false, 22), (false, 23), (false, 24), (false, 25), (false, 26), (false, 27), (false, 28), (false, 29), (false, 30)] (by kernel_rfl) (by kernel_rfl) (by kernel_rfl) ?_
          dsimp only [Sd.picks, List.getElem?_cons_succ, List.getElem?_cons_zero]
          iterate 6 (refine Sd.lit ?_; quiet_step (fail); refine wpQuiet_nil ?_)
          refine Sd.call (by rfl) (fun K hK => ?_)
          go_simp
          refine (LP.out _ (P4.out.cq.below (Below.refl W.heap.size W).drew)).mono ?_
          rintro e w5 ⟨rfl, b5⟩
          have C5 := Lib.hid (Below.trans ((Below.refl W.heap.size W).drew) b5)
          refine hK _ _ (Sd.Cl.of C5.out) ?_
          clear hK K b5 LP
          repeat (refine Sd.lit ?_; (first | (refine Qk.skip (by rfl) (by rfl) ?_) | quiet_step (fail)); refine wpQuiet_nil ?_)
          refine Sd.done ?_
          have P5 := Lib.hid (P4.out.below C5.out)
          clear P4 C5 X4 D4
          go_wp2
          go_roundw
          case rel => exact ⟨k + 1, ⟨⟨fi, fk, fn, ff, fr, (f0, f1, f2, f3), fy⟩ :: l1, t1⟩, F1, by omega, by omega, by go_num, O1, P5⟩
          case measure => simp [intOf]; omega
    · have C4 := Lib.hid (awake_any wr)
      have hcase : ¬ k < n ∨ (k < n ∧ ¬ k < 100) := by omega
      have BB := Lib.hid PP.out.bl
      clear hlt PP OK
      rcases hcase with h | ⟨h, h'⟩
      all_goals
        go_wp2_with fail
        refine C4.out.mono ?_
        rintro e w4 ⟨rfl, b4⟩
        have B4 := bTr BB.out b4
        clear b4 C4 BB
        go_wp2
        go_ret
        exact ⟨rfl, B4.out⟩

end Go.Proofs.Ytfbhmhgmebaoaaa.Qe
