/- QueueOrder: what is taken out is what was put in, in order. -/
import Derived.Test.YtfbhmhgmebaoaaaQeAwake
import Derived.Test.YtfbhmhgmebaoaaaSga
import Derived.Deep.CutRange
import Derived.Deep.CutBlock
import Derived.LoopTactic
namespace Go.Proofs.Ytfbhmhgmebaoaaa.Qe
open Go.RowKit
open Go.Proofs.Ytfbhmhgmebaoaaa.Rw (Rd Ow At)
open Go.Proofs.Ytfbhmhgmebaoaaa.Rq (Q zQ qA qV ret_bool same_q)
open Go.Proofs.Ytfbhmhgmebaoaaa.Fl (R4 z4)
open Go.Proofs.Ytfbhmhgmebaoaaa.Fs (Only Fx ow_only)
set_option maxRecDepth 100000
attribute [local irreducible] Sd.wpSd wpQuiet

/-- The queue, what was put in, and what was taken out. -/
structure Qo (w : World) (g : Nat) (s : Qs) (I O : List Q) (vi vo : Value) (wr : World) : Prop where
  cq : Cq wr g s
  oi : Ow KQ wr w.heap.size 33 vi I
  oo : Ow KQ wr w.heap.size 33 vo O
  ni : vi.ownBlock ≠ some g
  no : vo.ownBlock ≠ some g
  ap : ∀ k, vi.ownBlock = some k → vo.ownBlock ≠ some k
  gl : w.heap.size ≤ g
  bl : Below w.heap.size w wr
theorem only_grown {w w' : World} {b : Option Nat} (h : w.grownBy w' b) : Only (fun k => b = some k) w w' := ⟨h.os, h.tape, h.output, h.size, fun k hk hn => h.block k hk fun e => hn e.symm⟩
section
variable {w wr w' : World} {g : Nat} {s s1 : Qs} {I O J : List Q} {vi vo u : Value}
theorem Qo.below (h : Qo w g s I O vi vo wr) (b : Below wr.heap.size wr w') : Qo w g s I O vi vo w' := ⟨h.cq.below b, h.oi.keep b, h.oo.keep b, h.ni, h.no, h.ap, h.gl, bTr h.bl b⟩
theorem Qo.code (h : Qo w g s I O vi vo wr) (c : Cq w' g s1) (o : Only (At1 g) wr w') : Qo w g s1 I O vi vo w' := ⟨c, ow_only (G := At1 g) h.oi (fun k e (f : k = g) => h.ni (f ▸ e)) o, ow_only (G := At1 g) h.oo (fun k e (f : k = g) => h.no (f ▸ e)) o, h.ni, h.no, h.ap, h.gl, low1 h.bl o h.gl⟩
theorem Qo.pusho (h : Qo w g s I O vi vo wr) (o : Ow KQ w' w.heap.size 33 u J) (gr : wr.grownBy w' vo.ownBlock) (hq : u.ownBlock = vo.ownBlock ∨ ∃ b, u.ownBlock = some b ∧ wr.heap.size ≤ b) : Qo w g s I J vi u w' :=
  ⟨h.cq.only h.no (only_grown gr), ow_only h.oi (fun k e f => h.ap k e f) (only_grown gr), o, h.ni, (by
    rcases hq with e | ⟨b, e, hb⟩
    · rw [e]; exact h.no
    · rw [e]; intro f; injection f with f; have := h.cq.lt; omega), (fun k e => by
    rcases hq with f | ⟨b, f, hb⟩
    · rw [f]; exact h.ap k e
    · rw [f]; intro f; injection f with f; have := (World.ownsRow.lt h.oi k e).2; omega), h.gl, h.bl.grown gr h.bl.size fun k e => (World.ownsRow.lt h.oo k e).1⟩
theorem Qo.pushi (h : Qo w g s I O vi vo wr) (o : Ow KQ w' w.heap.size 33 u J) (gr : wr.grownBy w' vi.ownBlock) (hq : u.ownBlock = vi.ownBlock ∨ ∃ b, u.ownBlock = some b ∧ wr.heap.size ≤ b) : Qo w g s J O u vo w' :=
  ⟨h.cq.only h.ni (only_grown gr), o, ow_only h.oo (fun k e f => h.ap k f e) (only_grown gr), (by
    rcases hq with e | ⟨b, e, hb⟩
    · rw [e]; exact h.ni
    · rw [e]; intro f; injection f with f; have := h.cq.lt; omega), h.no, (fun k e f => by
    rcases hq with c | ⟨b, c, hb⟩
    · exact h.ap k (c ▸ e) f
    · rw [c] at e; injection e with e; have := (World.ownsRow.lt h.oo k f).2; omega), h.gl, h.bl.grown gr h.bl.size fun k e => (World.ownsRow.lt h.oi k e).1⟩
end
theorem pop_facts {s : Qs} (_ : ok s) : (has s = true → s.L = fst s :: (poS s).L) ∧ (has s = false → (poS s).L = s.L) := by
  obtain ⟨L, t⟩ := s
  cases L <;> simp [has, fst, poS]
theorem fail_facts {s : Qs} (_ : ok s) : (faB s = true → s.L = faV s :: (faS s).L) ∧ (faB s = false → (faS s).L = s.L) := by
  obtain ⟨L, t⟩ := s
  cases L with
  | nil => simp [faB, faS]
  | cons x l =>
    by_cases h : t = 2
    · simp [faB, faV, faS, fst, poS, h]
    · simp [faB, faS, h]

set_option maxHeartbeats 16000000 in
theorem order_law (w : World) (v : Value) (l : List Dd) (R : Rd KD w v l) (hb : ∀ i, i < l.length → 0 ≤ (dd l i).k ∧ (dd l i).k ≤ 255) : Calls Try.prog 4 #[v] w fun e w' => e = .returned (.bool true) ∧ Below w.heap.size w w' := by
  have HB := Lib.hid hb
  have N1 := Lib.hid (new_any w)
  obtain ⟨a, cap, rfl, _, hm, hA⟩ := R
  have HA := Lib.hid hA
  unfold maxLen at hm
  clear hA hb
  generalize hn : l.length = n at *
  have HN := Lib.hid hn
  clear hn
  go_enter Try.func4, Try.ntmps4
  go_wp2_with fail
  refine N1.out.mono ?_
  rintro e w1 ⟨g, rfl, q1, hg, b1⟩
  go_upto_region 3 with fail
  have e1 : Below w1.heap.size w1 (w1.alloc (.cells #[] 33)) := (Below.refl w1.heap.size w1).alloc (Nat.le_refl _) _
  have e2 : Below (w1.alloc (.cells #[] 33)).heap.size (w1.alloc (.cells #[] 33)) ((w1.alloc (.cells #[] 33)).alloc (.cells #[] 33)) := (Below.refl _ _).alloc (Nat.le_refl _) _
  have z1 : (w1.alloc (.cells #[] 33)).heap.size = w1.heap.size + 1 := by simp
  have P2 : Hid (Qo w g q0 [] [] (.slice (some ⟨w1.heap.size, 0, none⟩) 0 0) (.slice (some ⟨w1.heap.size + 1, 0, none⟩) 0 0) ((w1.alloc (.cells #[] 33)).alloc (.cells #[] 33))) := Lib.hid ⟨(q1.below e1).below e2, (Rw.Ow.made w1 w.heap.size 33 b1.size).alloc _, by rw [← z1]; exact Rw.Ow.made _ w.heap.size 33 (bTr b1 e1).size, by have := q1.lt; simp [Value.ownBlock]; omega, by have := q1.lt; simp [Value.ownBlock]; omega, by simp [Value.ownBlock], hg, bTr (bTr b1 e1) e2⟩
  clear q1 hg b1 e1 e2 z1 N1
  generalize (w1.alloc (.cells #[] 33)).alloc (.cells #[] 33) = W0 at *
  generalize w1.heap.size + 1 = ho at *
  generalize w1.heap.size = hi at *
  go_wp2
  go_loopw [4, 5, 6] (fun vi vo i wr => ∃ (k : Nat) (s : Qs) (I O : List Q), k ≤ n ∧ k ≤ 100 ∧ i = .int .i64 k ∧ Hid (ok s) ∧ Hid (I = O ++ s.L) ∧ I.length ≤ k ∧ Hid (Qo w g s I O vi vo wr)) (fun _ _ i _ => n - (intOf i).toNat)
  case atStart => exact ⟨0, q0, [], [], Nat.zero_le _, Nat.zero_le _, rfl, ok_0, rfl, Nat.zero_le _, P2⟩
  case round =>
    clear P2
    obtain ⟨k, s, I, O, hk, hk2, rfl, OK, EQ, hI, PP⟩ := hrel
    obtain ⟨ai, ci, rfl, _⟩ := PP.out.oi.slice
    obtain ⟨ao, co, rfl, _⟩ := PP.out.oo.slice
    have LEN : Hid (I.length ≤ k ∧ I.length = O.length + s.L.length ∧ I.length ≤ 100 ∧ O.length ≤ 100) := Lib.hid (by have h := congrArg List.length EQ.out; rw [List.length_append] at h; omega)
    obtain ⟨ni, hni⟩ : ∃ m, I.length = m := ⟨_, rfl⟩
    obtain ⟨no, hno⟩ : ∃ m, O.length = m := ⟨_, rfl⟩
    have HNI := Lib.hid hni
    have HNO := Lib.hid hno
    rw [hni] at hI LEN PP
    rw [hno] at LEN PP
    rw [hni, hno]
    clear hni hno
    by_cases hlt : k < n ∧ k < 100
    · obtain ⟨hkn, hk100⟩ := hlt
      obtain ⟨b, off, rfl, A⟩ := HA.out (by omega)
      have A1 := dd_at A (i := k) (by rw [HN.out]; exact hkn)
      have d0 := PP.out.bl.cell (World.block_lt_of_cell? _ _ A1.1) |>.trans A1.1
      have XR : Hid (∀ j v, (qA (dd l k).x).toList[j]? = some v → wr.cell? ⟨b, off + k * 11 + 1 + j, none⟩ = some v) := Lib.hid fun j v e => (PP.out.bl.cell (World.block_lt_of_cell? _ _ (A1.2 j v e))).trans (A1.2 j v e)
      obtain ⟨x0, x255⟩ := HB.out k hkn
      clear A A1
      generalize dd l k = d at *
      obtain ⟨dk, x⟩ := d
      dsimp only at x0 x255 d0 XR
      obtain ⟨xi, xk, xn, xf, xr, ⟨v0, v1, v2, v3⟩, xy⟩ := x
      have c0 := XR.out 0 _ rfl
      have c1 := XR.out 1 _ rfl
      have c2 := XR.out 2 _ rfl
      have c3 := XR.out 3 _ rfl
      have c4 := XR.out 4 _ rfl
      have c5 := XR.out 5 _ rfl
      have c6 := XR.out 6 _ rfl
      have c7 := XR.out 7 _ rfl
      have c8 := XR.out 8 _ rfl
      have c9 := XR.out 9 _ rfl
      rw [Nat.add_zero] at c0
      have hmod : Int.tmod dk 4 = dk % 4 := Int.tmod_eq_emod_of_nonneg x0
      have wmod : IntKind.u8.wrap (dk % 4) = dk % 4 := IntWalk.u8_in _ (by omega)
      have hm0 : 0 ≤ dk % 4 ∧ dk % 4 ≤ 3 := by omega
      go_upto_region 7 with fail
      have bb := (Below.refl wr.heap.size wr).alloc (Nat.le_refl _) (.cells #[.int .i64 xi, .int .i64 xk, .int .i64 xn, .int .i64 xf, .int .i64 xr, .int .u8 v0, .int .u8 v1, .int .u8 v2, .int .u8 v3, .int .i64 xy] 33)
      have PP' := Lib.hid (PP.out.below bb)
      have XX := Lib.hid (heap_alloc_new wr (.cells #[.int .i64 xi, .int .i64 xk, .int .i64 xn, .int .i64 xf, .int .i64 xr, .int .u8 v0, .int .u8 v1, .int .u8 v2, .int .u8 v3, .int .i64 xy] 33))
      have NE : Hid (wr.heap.size ≠ g) := Lib.hid (by have := PP.out.cq.lt; omega)
      have d1 := bCe bb d0
      clear bb PP c0 c1 c2 c3 c4 c5 c6 c7 c8 c9 d0 XR
      generalize wr.alloc (.cells #[.int .i64 xi, .int .i64 xk, .int .i64 xn, .int .i64 xf, .int .i64 xr, .int .u8 v0, .int .u8 v1, .int .u8 v2, .int .u8 v3, .int .i64 xy] 33) = W at *
      generalize wr.heap.size = gx at *
      have PP := PP'
      clear PP'
      go_upto_block 2 with fail
      generalize dk % 4 = md at *
      clear hmod wmod d1
      go_cut [4, 5, 8, 9, 10, 11, 12] from 24 to 94 (fun ui uo _ _ _ _ _ wx => ∃ (s1 : Qs) (I1 O1 : List Q), Hid (ok s1) ∧ Hid (I1 = O1 ++ s1.L) ∧ I1.length ≤ k + 1 ∧ Hid (Qo w g s1 I1 O1 ui uo wx))
      case first =>
        by_cases m0 : md = 0
        · subst m0
          clear hm0 XX NE
          have CP : Hid (∀ W, Cq W g s → Calls Try.prog 6 #[.pointer (some ⟨g, 0, none⟩)] W fun e w' => e = .returned (.tuple #[qV (fst s), .bool (has s)]) ∧ Cq w' g (poS s) ∧ Only (At1 g) W w') := Lib.hid fun W h => pop_any h OK.out
          have O1 := Lib.hid (ok_pop OK.out)
          have FF := Lib.hid (pop_facts OK.out)
          generalize poS s = s1 at *
          generalize fst s = fx at *
          generalize has s = hx at *
          go_upto_region 14 with fail
          obtain ⟨fi, fk, fn, ff, fr, ⟨f0, f1, f2, f3⟩, fy⟩ := fx
          unfold qV qA at CP
          dsimp only at CP
          go_wp2_with fail
          refine (CP.out _ PP.out.cq).mono ?_
          rintro e w4 ⟨rfl, q4, o4⟩
          go_upto_region 15 with fail
          have P3 := PP.out.code q4 o4
          have bb := (Below.refl w4.heap.size w4).alloc (Nat.le_refl _) (.cells #[.int .i64 fi, .int .i64 fk, .int .i64 fn, .int .i64 ff, .int .i64 fr, .int .u8 f0, .int .u8 f1, .int .u8 f2, .int .u8 f3, .int .i64 fy] 33)
          have P4 := Lib.hid (P3.below bb)
          have Y4 := Lib.hid (heap_alloc_new w4 (.cells #[.int .i64 fi, .int .i64 fk, .int .i64 fn, .int .i64 ff, .int .i64 fr, .int .u8 f0, .int .u8 f1, .int .u8 f2, .int .u8 f3, .int .i64 fy] 33))
          clear bb P3 PP q4 o4 CP
          generalize w4.alloc (.cells #[.int .i64 fi, .int .i64 fk, .int .i64 fn, .int .i64 ff, .int .i64 fr, .int .u8 f0, .int .u8 f1, .int .u8 f2, .int .u8 f3, .int .i64 fy] 33) = W4 at *
          generalize w4.heap.size = g4 at *
          cases hx with
          | false =>
            have F1 := FF.out.2 rfl
            go_wp2
            go_meet
            exact ⟨s1, I, O, O1, Lib.hid (by rw [F1]; exact EQ.out), by have := HNI.out; have := LEN.out; omega, P4⟩
          | true =>
            have F1 := FF.out.1 rfl
            go_upto_region 16 with fail
            have bb := (Below.refl W4.heap.size W4).alloc (Nat.le_refl _) (.cells #[.int .i64 fi, .int .i64 fk, .int .i64 fn, .int .i64 ff, .int .i64 fr, .int .u8 f0, .int .u8 f1, .int .u8 f2, .int .u8 f3, .int .i64 fy] 33)
            have P5 := Lib.hid (P4.out.below bb)
            have Y5 := Lib.hid (heap_alloc_new W4 (.cells #[.int .i64 fi, .int .i64 fk, .int .i64 fn, .int .i64 ff, .int .i64 fr, .int .u8 f0, .int .u8 f1, .int .u8 f2, .int .u8 f3, .int .i64 fy] 33))
            clear bb P4
            have y0 := rc1 Y4.out 0
            have y1 := rc1 Y4.out 1
            have y2 := rc1 Y4.out 2
            have y3 := rc1 Y4.out 3
            have y4 := rc1 Y4.out 4
            have y5 := rc1 Y4.out 5
            have y6 := rc1 Y4.out 6
            have y7 := rc1 Y4.out 7
            have y8 := rc1 Y4.out 8
            have y9 := rc1 Y4.out 9
            go_wp2_with (at_builtin; refine Pa.push_at (K := KQ) Try.underlying26 infoQ rfl (by omega) rfl _ _ rfl w.heap.size _ O rfl P5.out.oo ⟨W4.heap.size, 0, none⟩ (⟨fi, fk, fn, ff, fr, (f0, f1, f2, f3), fy⟩ : Q) rfl ?c1 ?c2 P5.out.bl.size ?_)
            case c1 =>
              intro j u hu
              exact hu
            case c2 => have := LEN.out; have := HNO.out; omega
            intro v6 w6 o6 g6 h6
            have P6 := Lib.hid (P5.out.pusho o6 g6 (h6.imp id fun ⟨b, e, hl⟩ => ⟨b, e, by simpa using hl⟩))
            clear o6 g6 h6 P5 Y5
            go_wp2
            go_meet
            exact ⟨s1, I, O ++ [(⟨fi, fk, fn, ff, fr, (f0, f1, f2, f3), fy⟩ : Q)], O1, Lib.hid (by rw [EQ.out, F1]; simp), by have := HNI.out; have := LEN.out; omega, P6⟩
        · by_cases m1 : md = 1
          · subst m1
            clear hm0 m0 XX NE
            have CP : Hid (∀ W, Cq W g s → Calls Try.prog 8 #[.pointer (some ⟨g, 0, none⟩)] W fun e w' => e = .returned (.tuple #[qV (faV s), .bool (faB s)]) ∧ Cq w' g (faS s) ∧ Only (At1 g) W w') := Lib.hid fun W h => fail_any h OK.out
            have O1 := Lib.hid (ok_fail OK.out)
            have FF := Lib.hid (fail_facts OK.out)
            generalize faS s = s1 at *
            generalize faV s = fx at *
            generalize faB s = hx at *
            go_upto_region 18 with fail
            obtain ⟨fi, fk, fn, ff, fr, ⟨f0, f1, f2, f3⟩, fy⟩ := fx
            unfold qV qA at CP
            dsimp only at CP
            go_wp2_with fail
            refine (CP.out _ PP.out.cq).mono ?_
            rintro e w4 ⟨rfl, q4, o4⟩
            go_upto_region 19 with fail
            have P3 := PP.out.code q4 o4
            have bb := (Below.refl w4.heap.size w4).alloc (Nat.le_refl _) (.cells #[.int .i64 fi, .int .i64 fk, .int .i64 fn, .int .i64 ff, .int .i64 fr, .int .u8 f0, .int .u8 f1, .int .u8 f2, .int .u8 f3, .int .i64 fy] 33)
            have P4 := Lib.hid (P3.below bb)
            have Y4 := Lib.hid (heap_alloc_new w4 (.cells #[.int .i64 fi, .int .i64 fk, .int .i64 fn, .int .i64 ff, .int .i64 fr, .int .u8 f0, .int .u8 f1, .int .u8 f2, .int .u8 f3, .int .i64 fy] 33))
            clear bb P3 PP q4 o4 CP
            generalize w4.alloc (.cells #[.int .i64 fi, .int .i64 fk, .int .i64 fn, .int .i64 ff, .int .i64 fr, .int .u8 f0, .int .u8 f1, .int .u8 f2, .int .u8 f3, .int .i64 fy] 33) = W4 at *
            generalize w4.heap.size = g4 at *
            cases hx with
            | false =>
              have F1 := FF.out.2 rfl
              go_wp2
              go_meet
              exact ⟨s1, I, O, O1, Lib.hid (by rw [F1]; exact EQ.out), by have := HNI.out; have := LEN.out; omega, P4⟩
            | true =>
              have F1 := FF.out.1 rfl
              go_upto_region 20 with fail
              have bb := (Below.refl W4.heap.size W4).alloc (Nat.le_refl _) (.cells #[.int .i64 fi, .int .i64 fk, .int .i64 fn, .int .i64 ff, .int .i64 fr, .int .u8 f0, .int .u8 f1, .int .u8 f2, .int .u8 f3, .int .i64 fy] 33)
              have P5 := Lib.hid (P4.out.below bb)
              have Y5 := Lib.hid (heap_alloc_new W4 (.cells #[.int .i64 fi, .int .i64 fk, .int .i64 fn, .int .i64 ff, .int .i64 fr, .int .u8 f0, .int .u8 f1, .int .u8 f2, .int .u8 f3, .int .i64 fy] 33))
              clear bb P4
              have y0 := rc1 Y4.out 0
              have y1 := rc1 Y4.out 1
              have y2 := rc1 Y4.out 2
              have y3 := rc1 Y4.out 3
              have y4 := rc1 Y4.out 4
              have y5 := rc1 Y4.out 5
              have y6 := rc1 Y4.out 6
              have y7 := rc1 Y4.out 7
              have y8 := rc1 Y4.out 8
              have y9 := rc1 Y4.out 9
              go_wp2_with (at_builtin; refine Pa.push_at (K := KQ) Try.underlying26 infoQ rfl (by omega) rfl _ _ rfl w.heap.size _ O rfl P5.out.oo ⟨W4.heap.size, 0, none⟩ (⟨fi, fk, fn, ff, fr, (f0, f1, f2, f3), fy⟩ : Q) rfl ?c1 ?c2 P5.out.bl.size ?_)
              case c1 =>
                intro j u hu
                exact hu
              case c2 => have := LEN.out; have := HNO.out; omega
              intro v6 w6 o6 g6 h6
              have P6 := Lib.hid (P5.out.pusho o6 g6 (h6.imp id fun ⟨b, e, hl⟩ => ⟨b, e, by simpa using hl⟩))
              clear o6 g6 h6 P5 Y5
              go_wp2
              go_meet
              exact ⟨s1, I, O ++ [(⟨fi, fk, fn, ff, fr, (f0, f1, f2, f3), fy⟩ : Q)], O1, Lib.hid (by rw [EQ.out, F1]; simp), by have := HNI.out; have := LEN.out; omega, P6⟩
          · have e1 : IntKind.i64.wrap ((ni : Int) - no) = s.L.length := by
              have h : (ni : Int) - no = s.L.length := by have := LEN.out; omega
              rw [h]
              exact IntWalk.i64_in _ (by have := OK.out.1; omega)
            have CP : Hid (∀ W, Cq W g s → Calls Try.prog 10 #[.pointer (some ⟨g, 0, none⟩), qV (⟨xi, xk, xn, xf, xr, (v0, v1, v2, v3), xy⟩ : Q)] W fun e w' => e = .returned (.int .i64 (puE s)) ∧ Cq w' g (puS s (⟨xi, xk, xn, xf, xr, (v0, v1, v2, v3), xy⟩ : Q)) ∧ Only (At1 g) W w') := Lib.hid fun W h => push_any h OK.out _
            have O1 := Lib.hid (ok_push OK.out (⟨xi, xk, xn, xf, xr, (v0, v1, v2, v3), xy⟩ : Q))
            unfold qV qA at CP
            dsimp only at CP
            have c0 := rc1 XX.out 0
            have c1 := rc1 XX.out 1
            have c2 := rc1 XX.out 2
            have c3 := rc1 XX.out 3
            have c4 := rc1 XX.out 4
            have c5 := rc1 XX.out 5
            have c6 := rc1 XX.out 6
            have c7 := rc1 XX.out 7
            have c8 := rc1 XX.out 8
            have c9 := rc1 XX.out 9
            by_cases h8 : 8 ≤ s.L.length
            · have E1 : puE s = 12 := if_pos h8
              have E2 : puS s (⟨xi, xk, xn, xf, xr, (v0, v1, v2, v3), xy⟩ : Q) = s := if_pos h8
              rw [E1, E2] at CP
              clear E1 E2 O1
              generalize s.L.length = nl at *
              have h8' : ¬ (nl : Int) < 8 := by omega
              go_wp2_with fail
              refine (CP.out _ PP.out.cq).mono ?_
              rintro e w4 ⟨rfl, q4, o4⟩
              have P4 := Lib.hid (PP.out.code q4 o4)
              clear q4 o4 PP CP XX NE c0 c1 c2 c3 c4 c5 c6 c7 c8 c9
              go_wp2
              go_meet
              exact ⟨s, I, O, OK, EQ, by have := HNI.out; have := LEN.out; omega, P4⟩
            · have E1 : puE s = 0 := if_neg h8
              have E2 : puS s (⟨xi, xk, xn, xf, xr, (v0, v1, v2, v3), xy⟩ : Q) = ⟨s.L ++ [(⟨xi, xk, xn, xf, xr, (v0, v1, v2, v3), xy⟩ : Q)], s.t⟩ := if_neg h8
              have E3 : Hid ((puS s (⟨xi, xk, xn, xf, xr, (v0, v1, v2, v3), xy⟩ : Q)).L = s.L ++ [(⟨xi, xk, xn, xf, xr, (v0, v1, v2, v3), xy⟩ : Q)]) := Lib.hid (by rw [E2])
              rw [E1] at CP
              clear E1 E2
              generalize puS s (⟨xi, xk, xn, xf, xr, (v0, v1, v2, v3), xy⟩ : Q) = s1 at *
              have SL : Hid (I = O ++ s.L) := EQ
              generalize s.L.length = nl at *
              have h8' : (nl : Int) < 8 := by omega
              go_wp2_with fail
              refine (CP.out _ PP.out.cq).mono ?_
              rintro e W4 ⟨rfl, q4, o4⟩
              have P4 := Lib.hid (PP.out.code q4 o4)
              have Y4 := Lib.hid ((o4.block gx (lt_of_block XX.out) NE.out).trans XX.out)
              clear q4 o4 PP CP XX NE c0 c1 c2 c3 c4 c5 c6 c7 c8 c9
              go_upto_region 12 with fail
              have bb := (Below.refl W4.heap.size W4).alloc (Nat.le_refl _) (.cells #[.int .i64 xi, .int .i64 xk, .int .i64 xn, .int .i64 xf, .int .i64 xr, .int .u8 v0, .int .u8 v1, .int .u8 v2, .int .u8 v3, .int .i64 xy] 33)
              have P5 := Lib.hid (P4.out.below bb)
              have Y5 := Lib.hid (heap_alloc_new W4 (.cells #[.int .i64 xi, .int .i64 xk, .int .i64 xn, .int .i64 xf, .int .i64 xr, .int .u8 v0, .int .u8 v1, .int .u8 v2, .int .u8 v3, .int .i64 xy] 33))
              clear bb P4
              have y0 := rc1 Y4.out 0
              have y1 := rc1 Y4.out 1
              have y2 := rc1 Y4.out 2
              have y3 := rc1 Y4.out 3
              have y4 := rc1 Y4.out 4
              have y5 := rc1 Y4.out 5
              have y6 := rc1 Y4.out 6
              have y7 := rc1 Y4.out 7
              have y8 := rc1 Y4.out 8
              have y9 := rc1 Y4.out 9
              go_wp2_with (at_builtin; refine Pa.push_at (K := KQ) Try.underlying26 infoQ rfl (by omega) rfl _ _ rfl w.heap.size _ I rfl P5.out.oi ⟨W4.heap.size, 0, none⟩ (⟨xi, xk, xn, xf, xr, (v0, v1, v2, v3), xy⟩ : Q) rfl ?c1 ?c2 P5.out.bl.size ?_)
              case c1 =>
                intro j u hu
                have c := cell_of_row _ W4.heap.size j #[.int .i64 xi, .int .i64 xk, .int .i64 xn, .int .i64 xf, .int .i64 xr, .int .u8 v0, .int .u8 v1, .int .u8 v2, .int .u8 v3, .int .i64 xy] _ (0, 0) Y5.out
                have e : ∀ o : Nat, (⟨W4.heap.size, o, none⟩ : Addr).add j = ⟨W4.heap.size, o + j, none⟩ := fun o => by simp [Addr.add]
                rw [e 0, Nat.zero_add]
                exact c.trans (by rw [← Array.getElem?_toList]; exact hu)
              case c2 => have := LEN.out; have := HNI.out; omega
              intro v6 w6 o6 g6 h6
              have P6 := Lib.hid (P5.out.pushi o6 g6 (h6.imp id fun ⟨b, e, hl⟩ => ⟨b, e, by simpa using hl⟩))
              clear o6 g6 h6 P5 Y4 Y5
              go_wp2
              go_meet
              exact ⟨s1, I ++ [(⟨xi, xk, xn, xf, xr, (v0, v1, v2, v3), xy⟩ : Q)], O, O1, Lib.hid (by rw [E3.out, SL.out]; simp), by have := HNI.out; have := LEN.out; rw [List.length_append, List.length_singleton]; omega, P6⟩
      case rest =>
        obtain ⟨s1, I1, O1, OK1, EQ1, hI1, P1⟩ := hcut
        clear PP OK EQ XX NE LEN HNI HNO hm0
        obtain ⟨ai', ci', rfl, _⟩ := P1.out.oi.slice
        obtain ⟨ao', co', rfl, _⟩ := P1.out.oo.slice
        have e1 : IntKind.i64.wrap ((I1.length : Int) - O1.length) = s1.L.length := by
          have h : (I1.length : Int) - O1.length = s1.L.length := by have h := congrArg List.length EQ1.out; rw [List.length_append] at h; omega
          rw [h]
          exact IntWalk.i64_in _ (by have := OK1.out.1; omega)
        have LP : Hid (∀ W, Cq W g s1 → Calls Try.prog 13 #[.pointer (some ⟨g, 0, none⟩)] W fun e w' => e = .returned (.int .i64 s1.L.length) ∧ Below W.heap.size W w') := Lib.hid fun W h => len_any h OK1.out
        have HI1 := Lib.hid hI1
        clear hI1
        generalize I1.length = ni' at P1 e1 ⊢
        generalize O1.length = no' at P1 e1 ⊢
        generalize s1.L.length = nl at e1 LP ⊢
        have nz : ((nl : Int) != nl) = false := by simp
        go_wp2_with fail
        refine (LP.out _ P1.out.cq).mono ?_
        rintro e w4 ⟨rfl, b4⟩
        have P4 := Lib.hid (P1.out.below b4)
        clear b4 P1 LP
        go_wp2
        go_roundw
        case rel => exact ⟨k + 1, s1, I1, O1, by omega, by omega, by go_num, OK1, EQ1, HI1, P4⟩
        case measure => simp [intOf]; omega
    · have hcase : ¬ k < n ∨ (k < n ∧ ¬ k < 100) := by omega
      obtain ⟨wo, hwo⟩ : ∃ x, x = wr := ⟨_, rfl⟩
      subst hwo
      have SAME : Hid (∀ j, j < no → I.getD j zQ = O.getD j zQ) := Lib.hid fun j hj => by
        have h : j < O.length := by rw [HNO.out]; exact hj
        rw [EQ.out, List.getD_eq_getElem?_getD, List.getD_eq_getElem?_getD, List.getElem?_append_left h]
      have NN : Hid (no ≤ ni ∧ ni ≤ 100) := Lib.hid (by have := LEN.out; omega)
      clear hlt OK EQ LEN hI
      rcases hcase with h | ⟨h, h'⟩
      all_goals
        go_wp2
        go_loopw [13] (fun j wx => ∃ kk : Nat, kk ≤ no ∧ j = .int .i64 kk ∧ Hid (Qo w g s I O (.slice ai ni ci) (.slice ao no co) wx)) (fun j _ => no - (intOf j).toNat)
        case atStart => exact ⟨0, Nat.zero_le _, rfl, PP⟩
        case round =>
          clear PP
          obtain ⟨kk, hkk, rfl, P⟩ := hrel
          by_cases hj : kk < no
          · obtain ⟨bo, cb, eo, _, _, _, _, _, AO⟩ := P.out.oo.form (by rw [HNO.out]; omega)
            obtain ⟨bi, cc, ei, _, _, _, _, _, AI⟩ := P.out.oi.form (by rw [HNI.out]; have := NN.out; omega)
            injection eo with eo1 eo2 eo3
            injection ei with ei1 ei2 ei3
            subst eo1 ei1
            have ZO : Hid (∀ j u, (qA (O.getD kk zQ)).toList[j]? = some u → wr.cell? ⟨bo, kk * 10 + j, none⟩ = some u) := Lib.hid fun j u e => by
              have := AO kk (by rw [HNO.out]; exact hj) j u e
              rwa [show 0 + kk * KQ.n + j = kk * 10 + j by show 0 + kk * 10 + j = _; omega] at this
            have ZI : Hid (∀ j u, (qA (O.getD kk zQ)).toList[j]? = some u → wr.cell? ⟨bi, kk * 10 + j, none⟩ = some u) := Lib.hid fun j u e => by
              have := AI kk (by rw [HNI.out]; have := NN.out; omega) j u (by rw [show KQ.dft = zQ from rfl, SAME.out kk hj]; exact e)
              rwa [show 0 + kk * KQ.n + j = kk * 10 + j by show 0 + kk * 10 + j = _; omega] at this
            clear AO AI eo2 eo3 ei2 ei3
            generalize O.getD kk zQ = y at *
            have es := same_q y
            obtain ⟨yi, yk, yn, yf, yr, ⟨v0, v1, v2, v3⟩, yy⟩ := y
            unfold qA at es
            dsimp only at es
            have h1 : kk < ni := by have := NN.out; omega
            have hb : no ≤ 100 := by have := NN.out; omega
            have h2 : (kk : Int) < no := by omega
            have h3 : (kk : Int) < ni := by omega
            go_upto_region 26 with fail
            have z1 := Sd.cell_by (ZO.out 1 _ rfl)
            have z2 := Sd.cell_by (ZO.out 2 _ rfl)
            have z3 := Sd.cell_by (ZO.out 3 _ rfl)
            have z4 := Sd.cell_by (ZO.out 4 _ rfl)
            have z5 := Sd.cell_by (ZO.out 5 _ rfl)
            have z6 := Sd.cell_by (ZO.out 6 _ rfl)
            have z7 := Sd.cell_by (ZO.out 7 _ rfl)
            have z8 := Sd.cell_by (ZO.out 8 _ rfl)
            have z9 := Sd.cell_by (ZO.out 9 _ rfl)
            have z0 := Sd.cell_by (by have := ZO.out 0 _ rfl; rwa [Nat.add_zero] at this)
            have y1 := Sd.cell_by (ZI.out 1 _ rfl)
            have y2 := Sd.cell_by (ZI.out 2 _ rfl)
            have y3 := Sd.cell_by (ZI.out 3 _ rfl)
            have y4 := Sd.cell_by (ZI.out 4 _ rfl)
            have y5 := Sd.cell_by (ZI.out 5 _ rfl)
            have y6 := Sd.cell_by (ZI.out 6 _ rfl)
            have y7 := Sd.cell_by (ZI.out 7 _ rfl)
            have y8 := Sd.cell_by (ZI.out 8 _ rfl)
            have y9 := Sd.cell_by (ZI.out 9 _ rfl)
            have y0 := Sd.cell_by (by have := ZI.out 0 _ rfl; rwa [Nat.add_zero] at this)
            clear ZO ZI
            refine Sd.start [(false, 0), (false, 1), (false, 2), (false, 3), (false, 4), (false, 5), (false, 6), (false, 7), (false, 8)] (by kernel_rfl) (by kernel_rfl) (by kernel_rfl) ?_
            dsimp only [Sd.picks, List.getElem?_cons_succ, List.getElem?_cons_zero]
            repeat (refine Sd.lit ?_; quiet_step (fail); refine wpQuiet_nil ?_)
            refine Sd.done ?_
            have P4 := Lib.hid (P.out.below (Below.refl wr.heap.size wr).drew)
            clear P z0 z1 z2 z3 z4 z5 z6 z7 z8 z9 y0 y1 y2 y3 y4 y5 y6 y7 y8 y9
            generalize wr.drew = wD at *
            go_wp2
            go_roundw
            case rel => exact ⟨kk + 1, by omega, by go_num, P4⟩
            case measure => simp [intOf]; omega
          · have BB := Lib.hid P.out.bl
            have C1 : Hid (∀ W, Calls Try.prog 6 #[.pointer none] W fun e w' => e = .returned (.tuple #[.agg #[.int .i64 0, .int .i64 0, .int .i64 0, .int .i64 0, .int .i64 0, .int .u8 0, .int .u8 0, .int .u8 0, .int .u8 0, .int .i64 0], .bool false]) ∧ Below W.heap.size W w') := Lib.hid fun W => pop_nil W
            have C2 : Hid (∀ W, Calls Try.prog 8 #[.pointer none] W fun e w' => e = .returned (.tuple #[.agg #[.int .i64 0, .int .i64 0, .int .i64 0, .int .i64 0, .int .i64 0, .int .u8 0, .int .u8 0, .int .u8 0, .int .u8 0, .int .i64 0], .bool false]) ∧ Below W.heap.size W w') := Lib.hid fun W => fail_nil W
            have C3 : Hid (∀ W, Calls Try.prog 12 #[.pointer none] W fun e w' => e = .returned (.tuple #[.agg #[.int .i64 0, .int .i64 0, .int .i64 0, .int .i64 0, .int .i64 0, .int .u8 0, .int .u8 0, .int .u8 0, .int .u8 0, .int .i64 0], .bool false]) ∧ Below W.heap.size W w') := Lib.hid fun W => first_nil W
            have C4 : Hid (∀ W, Calls Try.prog 10 #[.pointer none, .agg #[.int .i64 0, .int .i64 0, .int .i64 0, .int .i64 0, .int .i64 0, .int .u8 0, .int .u8 0, .int .u8 0, .int .u8 0, .int .i64 0]] W fun e w' => e = .returned (.int .i64 1) ∧ Below W.heap.size W w') := Lib.hid fun W => push_nil W zQ
            clear P SAME NN HNI HNO
            go_wp2_with fail
            refine (C1.out _).mono ?_
            rintro e w4 ⟨rfl, b4⟩
            go_upto_region 30 with fail
            have B4 := bTr BB.out (b4.alloc b4.size (.cells #[.int .i64 0, .int .i64 0, .int .i64 0, .int .i64 0, .int .i64 0, .int .u8 0, .int .u8 0, .int .u8 0, .int .u8 0, .int .i64 0] 33))
            clear BB b4 C1
            generalize w4.alloc (.cells #[.int .i64 0, .int .i64 0, .int .i64 0, .int .i64 0, .int .i64 0, .int .u8 0, .int .u8 0, .int .u8 0, .int .u8 0, .int .i64 0] 33) = W4 at *
            generalize w4.heap.size = g4 at *
            go_wp2_with fail
            refine (C2.out _).mono ?_
            rintro e w5 ⟨rfl, b5⟩
            go_upto_region 31 with fail
            have B5 := bTr B4.out (b5.alloc b5.size (.cells #[.int .i64 0, .int .i64 0, .int .i64 0, .int .i64 0, .int .i64 0, .int .u8 0, .int .u8 0, .int .u8 0, .int .u8 0, .int .i64 0] 33))
            clear B4 b5 C2
            generalize w5.alloc (.cells #[.int .i64 0, .int .i64 0, .int .i64 0, .int .i64 0, .int .i64 0, .int .u8 0, .int .u8 0, .int .u8 0, .int .u8 0, .int .i64 0] 33) = W5 at *
            generalize w5.heap.size = g5 at *
            go_wp2_with fail
            refine (C3.out _).mono ?_
            rintro e w6 ⟨rfl, b6⟩
            go_upto_region 32 with fail
            have B6 := bTr B5.out (b6.alloc b6.size (.cells #[.int .i64 0, .int .i64 0, .int .i64 0, .int .i64 0, .int .i64 0, .int .u8 0, .int .u8 0, .int .u8 0, .int .u8 0, .int .i64 0] 33))
            clear B5 b6 C3
            generalize w6.alloc (.cells #[.int .i64 0, .int .i64 0, .int .i64 0, .int .i64 0, .int .i64 0, .int .u8 0, .int .u8 0, .int .u8 0, .int .u8 0, .int .i64 0] 33) = W6 at *
            generalize w6.heap.size = g6 at *
            go_wp2_with fail
            refine (awake_any _).mono ?_
            rintro e w7 ⟨rfl, b7⟩
            have B7 := bTr B6.out b7
            clear B6 b7
            go_wp2_with fail
            refine (C4.out _).mono ?_
            rintro e w8 ⟨rfl, b8⟩
            have B8 := bTr B7.out b8
            clear B7 b8 C4
            go_wp2_with fail
            refine (len_nil _).mono ?_
            rintro e w9 ⟨rfl, b9⟩
            have B9 := bTr B8.out b9
            clear B8 b9
            go_wp2
            go_ret
            exact ⟨rfl, B9.out⟩

end Go.Proofs.Ytfbhmhgmebaoaaa.Qe
