/- PartRounds, walked. -/
import Derived.Test.YtilacdjekdngkaaGreatDoorMg9
import Derived.Test.YtilacdjekdngkaaGreatDoorMg12
namespace Go.Proofs.YtilacdjekdngkaaGreatDoor.Pa
open Go.RowKit Go.Maps
open Go.Proofs.YtilacdjekdngkaaGreatDoor.Fs (Abs St Rs Rst Only Fx Wf Glob OkA Ls files_any FilesPost same_is denied_st)
open Go.Proofs.YtilacdjekdngkaaGreatDoor.Rw (Rd Ow At)
open Go.Proofs.YtilacdjekdngkaaGreatDoor.Ro (E5 z5 K5 ent okE)
open Go.Proofs.YtilacdjekdngkaaGreatDoor.Ck (LL lat RdL)
open Go.Proofs.YtilacdjekdngkaaGreatDoor.Ua (arr Row store_new load_frame)
open Go.Proofs.YtilacdjekdngkaaGreatDoor.Fl (row_cell row_frozen ret_bool)
set_option maxRecDepth 100000
attribute [local irreducible] Sd.wpSd wpQuiet

/-- What stays through the law: the nodes on both sides, and what both rounds answered. -/
structure Hp (W : World) (vs vr vt vl vp va vb : Value) (S S' : Sts) (T : LL) (V : List Bool) (P : List S2) : Prop where
  st : Stl W vs S
  rf : Rfl W vr S
  tb : RdL W vt T
  lv : Rd KB W vl V
  sp : Rd K2 W vp P
  a : Stl W va S'
  b : Rfl W vb S'
theorem Hp.below {W W' : World} {vs vr vt vl vp va vb : Value} {S S' : Sts} {T : LL} {V : List Bool} {P : List S2} (h : Hp W vs vr vt vl vp va vb S S' T V P) (b : Below W.heap.size W W') : Hp W' vs vr vt vl vp va vb S S' T V P :=
  ⟨h.st.below b, h.rf.below b, h.tb.below b, h.lv.below b, h.sp.below b, h.a.below b, h.b.below b⟩
theorem Hp.zero {W : World} {vs vr vt vl vp : Value} {S : Sts} {T : LL} {V : List Bool} {P : List S2} (st : Stl W vs S) (rf : Rfl W vr S) (tb : RdL W vt T) (lv : Rd KB W vl V) (sp : Rd K2 W vp P) : Hp W vs vr vt vl vp (.slice none 0 0) (.slice none 0 0) S [] T V P := ⟨st, rf, tb, lv, sp, stl_nil W, rfl_nil W⟩

theorem hr_out {T : LL} (ok : Ck.tE T = 0) (V : List Bool) (S : Sts) (P : List S2) {s : Int} (h : s < 1 ∨ 16 < s) : hrV S T V P s = 0 ∧ hrB S T V P s = false := by
  have hB : hrB S T V P s = false := by
    unfold hrB
    have : snB S T V s = false := by
      unfold snB
      by_cases h0 : 0 ≤ Ck.sN s T
      · obtain ⟨n, _, _, _, k4, k5, k6⟩ := sender_is ok h0
        unfold Ro.okE Ro.place at k4
        rw [k5, k6] at k4
        omega
      · rw [decide_eq_false h0]; rfl
    rw [this]; rfl
  exact ⟨by unfold hrV; rw [hB]; rfl, hB⟩
theorem hr_at (S : Sts) (T : LL) (V : List Bool) (P : List S2) {s : Int} (h1 : 1 ≤ s) (h2 : s ≤ 16) : (hr S T V P s).getD 0 = hrV S T V P s ∧ (hr S T V P s).isSome = hrB S T V P s := by
  unfold hr
  cases hB : hrB S T V P s with
  | true => rw [if_pos ⟨h1, h2, rfl⟩]; exact ⟨rfl, rfl⟩
  | false =>
    rw [if_neg fun g => by cases g.2.2]
    refine ⟨?_, rfl⟩
    unfold hrV
    rw [hB]
    rfl
/-- What was heard below slot k. -/
def lowH (h : Hr) (k : Nat) : Hr := fun n => if 1 ≤ n ∧ n < (k : Int) then h n else none
theorem low_one (h : Hr) : lowH h 1 = fun _ => none := funext fun n => by unfold lowH; rw [if_neg (by omega)]
theorem low_yes {h : Hr} {k : Nat} (h1 : 1 ≤ k) {y : Int} (e : h k = some y) : hput (lowH h k) k y = lowH h (k + 1) := funext fun n => by
  unfold hput lowH
  by_cases g : n = k
  · subst g; rw [if_pos rfl, if_pos (by omega), e]
  · rw [if_neg g]
    by_cases q : 1 ≤ n ∧ n < (k : Int)
    · rw [if_pos q, if_pos (by omega)]
    · rw [if_neg q, if_neg (by omega)]
theorem low_no {h : Hr} {k : Nat} (e : h k = none) : lowH h k = lowH h (k + 1) := funext fun n => by
  unfold lowH
  by_cases g : n = k
  · subst g; rw [if_neg (by omega), e, ite_self]
  · by_cases q : 1 ≤ n ∧ n < (k : Int)
    · rw [if_pos q, if_pos (by omega)]
    · rw [if_neg q, if_neg (by omega)]
theorem low_end {h : Hr} (o : ∀ n : Int, (n < 1 ∨ 16 < n) → h n = none) : lowH h 17 = h := funext fun n => by
  unfold lowH
  split
  · rfl
  · exact (o n (by omega)).symm
/-- What stays from the second half on: both frames' boxes, and the box of what was heard. -/
structure Kp (W9 : World) (g7 g9 gy : Nat) (ff : Nat → Bool) (h : Hr) (W : World) : Prop where
  x : Row W g7 ff
  y : Row W g9 ff
  z : RowY W gy (hb h) (hq h)
  bel : Below W9.heap.size W9 W
theorem Kp.below {W9 W W' : World} {g7 g9 gy : Nat} {ff : Nat → Bool} {h : Hr} (K : Kp W9 g7 g9 gy ff h W) (b : Below W.heap.size W W') : Kp W9 g7 g9 gy ff h W' :=
  ⟨K.x.below b K.x.lt, K.y.below b K.y.lt, K.z.below b K.z.lt, K.bel.trans (b.mono K.bel.size)⟩
/-- The whole of what was heard, loaded where the order is drawn. -/
theorem lit_by {ops : Array Oper} {w0 w : World} {Q : Exit → Act → World → Prop} {a : Act} {o : Oper} {r : List (Bool × Oper)} (hgd : o.guard = none) (x : Operand) (ho : o.op = .load 55 x) (g : Nat) (b : Nat → Int) (q : Nat → Bool) (hx : a.eval x = .pointer (some ⟨g, 0, none⟩)) (hrow : RowY w0 g b q)
    (h : Sd.wpSd Tryz.prog ops (fun w' => ∃ p : Sd.By w0, w' = p.world) Q r (a.put o.dst (.agg (bys b q))) w) : Sd.wpSd Tryz.prog ops (fun w' => ∃ p : Sd.By w0, w' = p.world) Q ((false, o) :: r) a w := by
  refine Sd.lit ?_
  unfold wpQuiet
  rw [if_pos (by unfold Region.wanted; rw [hgd])]
  refine ⟨.agg (bys b q), fun w' hw' => ?_, wpQuiet_nil h⟩
  obtain ⟨p, rfl⟩ := hw'
  have hr : p.world.heap[g]? = some (.cells (bys b q) 55 (0, 0)) := hrow.below p.below hrow.lt
  unfold Oper.quietAt execOp
  simp only [ho, hx, Instr.loadAt, Instr.sureAddr, Sem.run_bind, Sem.run_pure, Result.andThen_ok, run_loadVar_row _ g _ _ _ _ _ hr Tryz.underlying55 rfl (infoY _ _)]
  exact ⟨rfl, rfl⟩
/-- A frame, loaded behind '&&'. -/
theorem load_frame_g {ops : Array Oper} {rest : List Oper} {o : Oper} {a : Act} {w : World} {Q : Exit → Act → World → Prop} (hgd : Region.wanted o (yielded ops a.tmps) = true) (x : Operand) (ho : o.op = .load 46 x)
    (g : Nat) (F : Nat → Bool) (hx : a.eval x = .pointer (some ⟨g, 0, none⟩)) (hrow : Row w g F) (h : wpList Tryz.prog ops Q rest (a.put o.dst (.agg (arr F))) w) : wpList Tryz.prog ops Q (o :: rest) a w :=
  BigFrame.wpList_want hgd fun _ hK' => wp_load_row _ x ho g hx _ _ _ _ hrow Tryz.underlying46 rfl (Ua.info_of _) (hK' _ _ h)

set_option maxHeartbeats 4000000 in
theorem rounds_law {w : World} (hg : Glob w) {v vp : Value} {L : List Cel} {P : List S2} (H : Cls w v L) (RP : Rd K2 w vp P) (s : Int) (hs : Wf s) : Calls Tryz.prog 3 #[v, vp, .int .i64 s] w fun e w' => e = .returned (.bool true) ∧ Below w.heap.size w w' := by
  have HG := Lib.hid hg
  have BD := Lib.hid (build_any H)
  unfold BldPost at BD
  have FW := Lib.hid (fun W u l (R : Rd K2 W u l) => few_any W u l R)
  unfold FewPost at FW
  have RP0 := Lib.hid RP
  obtain ⟨a0, cap0, rfl, _⟩ := H.rd
  obtain ⟨ap, cp, rfl, _⟩ := RP.slice
  clear H RP hg
  generalize L.length = n0 at *
  go_enter Tryz.func3, Tryz.ntmps3
  go_wp2_with fail
  refine BD.out.mono ?_
  rintro e w1 ⟨vs, vr, vt, vl, S, T, V, n, rfl, B, b1⟩
  have B1 := Lib.hid b1
  have SL := Lib.hid B.s
  have DEN := Lib.hid B.den
  have H1 := Lib.hid (Hp.zero B.st B.rf B.tb B.lv (RP0.out.below b1))
  have OKT := Lib.hid B.ok
  have FEW := Lib.hid B.few
  have TL := Lib.hid B.t
  have VL := Lib.hid B.v
  clear B b1 BD
  go_wp2_with fail
  refine (FW.out _ _ _ H1.out.sp).mono ?_
  rintro e w2 ⟨u2, rfl, r2, b2⟩
  have B2 := Lib.hid (B1.out.trans (b2.mono B1.out.size))
  have H2 := Lib.hid (H1.out.below b2)
  have R2 := Lib.hid r2
  clear b2 B1 H1 r2
  go_wp2_with fail
  have RO := round_any (w := w2) H2.out.st H2.out.tb H2.out.lv R2.out (HG.out.below B2.out) (fun i hi => by
    have := DEN.out i (by rw [← SL.out]; exact hi)
    rw [this]
    exact ⟨by decide, by decide⟩)
  unfold RoundPost at RO
  refine RO.mono ?_
  rintro e w3 ⟨va, rfl, sa, b3⟩
  have B3 := Lib.hid (B2.out.trans (b3.mono B2.out.size))
  have H3 := Lib.hid (H2.out.below b3)
  have SA := Lib.hid sa
  clear RO b3 B2 H2 sa R2
  go_wp2_with fail
  refine (FW.out _ _ _ H3.out.sp).mono ?_
  rintro e w4 ⟨u4, rfl, r4, b4⟩
  have B4 := Lib.hid (B3.out.trans (b4.mono B3.out.size))
  have H4 := Lib.hid (H3.out.below b4)
  have SA4 := Lib.hid (SA.out.below b4)
  have R4 := Lib.hid r4
  clear b4 B3 H3 r4 SA
  go_wp2_with fail
  have RO := rround_any (w := w4) H4.out.rf H4.out.tb H4.out.lv R4.out (fun i hi => by
    have := DEN.out i (by rw [← SL.out]; exact hi)
    rw [this]
    exact ⟨by decide, by decide⟩)
  unfold RroundPost at RO
  refine RO.mono ?_
  rintro e w5 ⟨vb, rfl, rb, b5⟩
  have B5 := Lib.hid (B4.out.trans (b5.mono B4.out.size))
  have H5' := H4.out.below b5
  have SA5 := SA4.out.below b5
  have LE : Hid (rdE S T V ≠ 0 → rdL S T V (P.take 30) = []) := Lib.hid (fun h => if_neg h)
  have LN : Hid (rdE S T V = 0 → (rdL S T V (P.take 30)).length = n) := Lib.hid (fun h => by rw [show rdL S T V (P.take 30) = rdS S T V (hr S T V (P.take 30)) from if_pos h, rdS_len, SL.out])
  generalize rdL S T V (P.take 30) = S' at *
  have H5 : Hid (Hp w5 vs vr vt vl _ va vb S S' T V P) := Lib.hid ⟨H5'.st, H5'.rf, H5'.tb, H5'.lv, H5'.sp, SA5, rb⟩
  clear RO b5 B4 H4 rb H5' SA5 SA4 R4
  have IN : Hid (∀ i, i < S'.length → i < n) := Lib.hid (fun i hi => by
    by_cases h : rdE S T V = 0
    · rw [LN.out h] at hi; exact hi
    · rw [LE.out h] at hi; cases hi)
  have EA : Hid (∀ i, i < S'.length → OkA (sat S' i).1) := Lib.hid (fun i hi => by
    obtain ⟨ps, _, _, e⟩ := H5.out.a
    exact (e i hi).okA)
  have EB : Hid (∀ i, i < S.length → OkA (sat S i).1) := Lib.hid (fun i hi => by
    obtain ⟨ps, _, _, e⟩ := H5.out.st
    exact (e i hi).okA)
  obtain ⟨aa, ac, rfl, am⟩ := H5.out.a.slice
  obtain ⟨ba, bc, rfl, bm⟩ := H5.out.b.slice
  unfold maxLen at am bm
  generalize hn' : S'.length = n' at *
  have HN' := Lib.hid hn'
  clear hn'
  go_upto_region 7 with fail
  go_loopw [15] (fun i wr => ∃ k : Nat, k ≤ n' ∧ i = .int .i64 k ∧ Hid (Below w5.heap.size w5 wr)) (fun i _ => n' - (intOf i).toNat)
  case atStart => exact ⟨0, Nat.zero_le _, rfl, Lib.hid (Below.refl _ _)⟩
  case round =>
    obtain ⟨k, hk, rfl, I⟩ := hrel
    have H6 := Lib.hid (H5.out.below I.out)
    by_cases hlt : k < n'
    · obtain ⟨b1, o1, c1, p1, e1, x1, g1⟩ := H6.out.a.one (k := k) (by have := HN'.out; omega)
      obtain ⟨b2, o2, c2, p2, e2, x2, g2⟩ := H6.out.b.one (k := k) (by have := HN'.out; omega)
      obtain ⟨b3, o3, c3, p3, e3, x3, g3⟩ := H6.out.st.one (k := k) (by have := SL.out; have := IN.out k hlt; omega)
      obtain ⟨b4, o4, c4, p4, e4, x4, g4⟩ := H6.out.rf.one (k := k) (by have := SL.out; have := IN.out k hlt; omega)
      have hkn := IN.out k hlt
      have HK1 : Hid (k + 1 ≤ n') := Lib.hid hlt
      have LA := Lib.hid (EA.out k (by have := HN'.out; omega)).len
      have LB := Lib.hid (EB.out k (by have := SL.out; omega)).len
      rw [HN'.out] at e1 e2
      rw [SL.out] at e3 e4
      injection e1 with e1 _ e1'
      injection e2 with e2 _ e2'
      subst e1 e1' e2 e2' e3 e4
      generalize sat S' (k : Int) = xa at *
      generalize sat S (k : Int) = xb at *
      obtain ⟨A, d⟩ := xa
      obtain ⟨A', d'⟩ := xb
      obtain ⟨F1, G1⟩ := g1
      obtain ⟨F3, G3⟩ := g3
      obtain ⟨l2, L2, Q2, q2⟩ := g2
      obtain ⟨l4, L4, Q4, q4⟩ := g4
      obtain ⟨m2, n2, rfl, _⟩ := Q2.list.rd.slice
      obtain ⟨m4, n4, rfl, _⟩ := Q4.list.rd.slice
      simp only at G1 G3 Q2 q2 Q4 q4 LA LB
      have GA := Lib.hid G1
      have GB := Lib.hid G3
      have WA : Hid (Ls (fun k => False ∨ k = p2) wr (.slice m2 L2.length n2) A) := Lib.hid ⟨L2, Q2.list, q2⟩
      have WB : Hid (Ls (fun k => False ∨ k = p4) wr (.slice m4 L4.length n4) A') := Lib.hid ⟨L4, Q4.list, q4⟩
      unfold ptr at x1 x2 x3 x4
      have X1 := Sd.cell_by x1
      have X2 := Sd.cell_by x2
      have X3 := Sd.cell_by x3
      have X4 := Sd.cell_by x4
      have Y2 := Sd.cell_by (show wr.cell? ⟨p2, 0, none⟩ = some (.slice m2 L2.length n2) from row_cell Q2.row 0)
      have Z2 := Sd.cell_by (show wr.cell? ⟨p2, 1, none⟩ = some (.int .i64 d) from row_cell Q2.row 1)
      have Y4 := Sd.cell_by (show wr.cell? ⟨p4, 0, none⟩ = some (.slice m4 L4.length n4) from row_cell Q4.row 0)
      clear x1 x2 x3 x4 Q2 Q4 q2 q4 G1 G3
      generalize L2.length = N2 at *
      generalize L4.length = N4 at *
      go_upto_region 9 with fail
      refine Sd.start [(false, 0), (false, 1), (false, 2), (false, 3), (false, 5), (false, 6), (false, 7), (false, 8), (false, 9), (false, 10), (false, 11), (true, 4), (true, 12), (false, 13), (false, 14), (false, 15), (false, 16), (false, 17), (false, 18), (false, 20), (false, 21), (false, 22), (false, 23), (false, 24), (false, 25), (false, 26), (true, 19), (false, 27), (false, 28), (false, 29), (false, 30), (false, 31), (false, 32), (false, 33), (false, 35), (false, 36), (false, 37), (false, 38), (false, 39), (false, 40), (false, 41), (true, 34), (true, 42), (false, 43), (false, 44)] (by kernel_rfl) (by kernel_rfl) (by kernel_rfl) ?_
      dsimp only [Sd.picks, List.getElem?_cons_succ, List.getElem?_cons_zero]
      repeat (refine Sd.lit ?_; quiet_step (fail); refine wpQuiet_nil ?_)
      have D0 := Lib.hid ((Below.refl wr.heap.size wr).drew)
      have GA0 := Lib.hid (GA.out.below D0.out)
      generalize wr.drew = W0 at *
      refine Sd.call (by rfl) (fun K hK => ?_)
      go_simp
      refine (files_any GA0.out).mono ?_
      rintro e v1 ⟨u1, rfl, ls1, b1⟩
      have D1 := Lib.hid (D0.out.trans (b1.mono D0.out.size))
      have LS := Lib.hid (ls1 (fun _ => False) nofun)
      refine hK _ _ (Sd.Cl.of D1.out) ?_
      clear hK K b1 ls1
      repeat (refine Sd.lit ?_; quiet_step (fail); refine wpQuiet_nil ?_)
      refine Sd.call (by rfl) (fun K hK => ?_)
      go_simp
      refine (same_is LS.out (WA.out.below D1.out) LA.out).mono ?_
      rintro e v2 ⟨rfl, b2⟩
      have D2 := Lib.hid (D1.out.trans (b2.mono D1.out.size))
      refine hK _ _ (Sd.Cl.of D2.out) ?_
      clear hK K b2 LS
      repeat (refine Sd.lit ?_; quiet_step (fail); refine wpQuiet_nil ?_)
      have GA2 := Lib.hid (GA.out.below D2.out)
      refine Sd.call (by rfl) (fun K hK => ?_)
      go_simp
      refine (denied_st GA2.out).mono ?_
      rintro e v3 ⟨rfl, b3⟩
      have D3 := Lib.hid (D2.out.trans (b3.mono D2.out.size))
      refine hK _ _ (Sd.Cl.of D3.out) ?_
      clear hK K b3
      repeat (refine Sd.lit ?_; quiet_step (fail); refine wpQuiet_nil ?_)
      have GB3 := Lib.hid (GB.out.below D3.out)
      refine Sd.call (by rfl) (fun K hK => ?_)
      go_simp
      refine (files_any GB3.out).mono ?_
      rintro e v4 ⟨u4, rfl, ls4, b4⟩
      have D4 := Lib.hid (D3.out.trans (b4.mono D3.out.size))
      have LS := Lib.hid (ls4 (fun _ => False) nofun)
      refine hK _ _ (Sd.Cl.of D4.out) ?_
      clear hK K b4 ls4
      repeat (refine Sd.lit ?_; quiet_step (fail); refine wpQuiet_nil ?_)
      refine Sd.call (by rfl) (fun K hK => ?_)
      go_simp
      refine (same_is LS.out (WB.out.below D4.out) LB.out).mono ?_
      rintro e v5 ⟨rfl, b5⟩
      have D5 := Lib.hid (D4.out.trans (b5.mono D4.out.size))
      refine hK _ _ (Sd.Cl.of D5.out) ?_
      clear hK K b5 LS X1 X2 X3 X4 Y2 Z2 Y4
      repeat (refine Sd.lit ?_; quiet_step (fail); refine wpQuiet_nil ?_)
      refine Sd.done ?_
      have J := Lib.hid (I.out.trans (D5.out.mono I.out.size))
      have h8 := FEW.out
      have hk1 := HK1.out
      go_wp2
      go_roundw
      case rel => exact ⟨k + 1, HK1.out, by go_num, J⟩
      case measure => have := HK1.out; have := FEW.out; simp [intOf]; omega
    · obtain rfl : k = n' := by omega
      by_cases hE : rdE S T V = 0
      · have H7 := Lib.hid (H6.out)
        have J := Lib.hid (B5.out.trans (I.out.mono B5.out.size))
        have tE0 : Ck.tE T = 0 := by
          unfold rdE at hE
          split at hE
          · exact hE
          · omega
        have NS := Lib.hid (show Ns wr vs vt vl S T V from ⟨H7.out.st, H7.out.tb, H7.out.lv, by rw [TL.out, SL.out], by rw [VL.out, SL.out], tE0⟩)
        have NR := Lib.hid (show Nr wr vr vt vl S T V from ⟨H7.out.rf, H7.out.tb, H7.out.lv, by rw [TL.out, SL.out], by rw [VL.out, SL.out], tE0⟩)
        have SP := Lib.hid H7.out.sp
        clear H5 H6 H7 I EA LE LN tE0
        rw [hE]
        clear hE
        go_wp2_with fail
        refine (FW.out _ _ _ SP.out).mono ?_
        rintro e w6 ⟨u6, rfl, r6, b6⟩
        have R6 := Lib.hid r6
        have NS6 := Lib.hid (NS.out.below b6)
        have NR6 := Lib.hid (NR.out.below b6)
        have SP6 := Lib.hid (SP.out.below b6)
        have J6 := Lib.hid (J.out.trans (b6.mono J.out.size))
        clear NS NR SP J r6 b6
        have FA := Lib.hid (frame_any NS6.out R6.out s)
        unfold FramePost at FA
        obtain ⟨fn, hfn⟩ : ∃ x, sbN S T V s = x := ⟨_, rfl⟩
        obtain ⟨ff, hff⟩ : ∃ x, frF S T V (P.take 30) s = x := ⟨_, rfl⟩
        obtain ⟨fb, hfb⟩ : ∃ x, snB S T V s = x := ⟨_, rfl⟩
        rw [hfn, hff, hfb] at FA
        have FN := Lib.hid hfn
        have FF := Lib.hid hff
        have FB := Lib.hid hfb
        clear hfn hff hfb
        go_wp2_with fail
        refine FA.out.mono ?_
        rintro e w7 ⟨rfl, b7⟩
        have bn := b7.alloc b7.size (.cells (arr ff) 46)
        have X7 := Lib.hid (Row.new w7 ff)
        have NS7 := Lib.hid (NS6.out.below bn)
        have NR7 := Lib.hid (NR6.out.below bn)
        have SP7 := Lib.hid (SP6.out.below bn)
        have J7 := Lib.hid (J6.out.trans (bn.mono J6.out.size))
        clear FA NS6 NR6 SP6 J6 R6 b7 bn
        go_upto_region 14 with ((with_reducible refine store_new (o := ⟨none, _, _, _, _, _⟩) rfl _ _ rfl ff ?_ ?_ ?_); (exact rfl); (exact rfl))
        generalize (w7.alloc (.cells (arr ff) 46)) = W7 at *
        generalize w7.heap.size = g7 at *
        go_wp2_with fail
        refine (FW.out _ _ _ SP7.out).mono ?_
        rintro e w8 ⟨u8, rfl, r8, b8⟩
        have R8 := Lib.hid r8
        have NR8 := Lib.hid (NR7.out.below b8)
        have FA := Lib.hid (rframe_any NR8.out R8.out s)
        unfold FramePost at FA
        have e1 : sbN S T V s = fn := FN.out
        have e2 : frF S T V (P.take 30) s = ff := FF.out
        have e3 : snB S T V s = fb := FB.out
        rw [e1, e2, e3] at FA
        have NS8 := Lib.hid (NS7.out.below b8)
        have SP8 := Lib.hid (SP7.out.below b8)
        have X8 := Lib.hid (X7.out.below b8 X7.out.lt)
        have J8 := Lib.hid (J7.out.trans (b8.mono J7.out.size))
        clear NS7 NR7 SP7 X7 J7 r8 b8 e1 e2 e3 FN FF FB
        go_wp2_with fail
        refine FA.out.mono ?_
        rintro e w9 ⟨rfl, b9⟩
        have bm := b9.alloc b9.size (.cells (arr ff) 46)
        have X9 := Lib.hid (X8.out.below bm X8.out.lt)
        have Y9 := Lib.hid (Row.new w9 ff)
        have NS9 := Lib.hid (NS8.out.below bm)
        have NR9 := Lib.hid (NR8.out.below bm)
        have SP9 := Lib.hid (SP8.out.below bm)
        have J9 := Lib.hid (J8.out.trans (bm.mono J8.out.size))
        clear FA NS8 NR8 SP8 J8 X8 R8 b9 bm
        go_upto_region 15 with ((with_reducible refine store_new (o := ⟨none, _, _, _, _, _⟩) rfl _ _ rfl ff ?_ ?_ ?_); (exact rfl); (exact rfl))
        generalize (w9.alloc (.cells (arr ff) 46)) = W9 at *
        generalize w9.heap.size = g9 at *
        have HA := Lib.hid (fun W u (b : Below W9.heap.size W9 W) (R : Rd K2 W u (P.take 30)) => heard_any (NS9.out.below b) R s)
        have HB := Lib.hid (fun W u (b : Below W9.heap.size W9 W) (R : Rd K2 W u (P.take 30)) => rheard_any (NR9.out.below b) R)
        unfold HrdPost at HA
        unfold RhdPost at HB
        have HW : Hid (∀ k : Nat, s = k → 1 ≤ k → k ≤ 16 → hb (hr S T V (P.take 30)) k = hrV S T V (P.take 30) s ∧ hq (hr S T V (P.take 30)) k = hrB S T V (P.take 30) s) := Lib.hid (fun k e h1 h2 => by rw [e]; exact hr_at S T V (P.take 30) (by omega) (by omega))
        have HO : Hid (s < 1 ∨ 16 < s → hrV S T V (P.take 30) s = 0 ∧ hrB S T V (P.take 30) s = false) := Lib.hid (fun h => hr_out NS9.out.ok V S (P.take 30) h)
        have OH := Lib.hid (hr_ok S T V (P.take 30))
        have OO : Hid (∀ n : Int, (n < 1 ∨ 16 < n) → hr S T V (P.take 30) n = none) := Lib.hid (fun n h => by unfold hr; rw [if_neg (by omega)])
        generalize hrV S T V (P.take 30) s = hv at *
        generalize hrB S T V (P.take 30) s = hbb at *
        generalize hr S T V (P.take 30) = h at *
        go_wp2_with fail
        refine (FW.out _ _ _ SP9.out).mono ?_
        rintro e w10 ⟨u10, rfl, r10, b10⟩
        have BA10 := Lib.hid b10
        have R10 := Lib.hid r10
        clear r10 b10
        go_wp2_with fail
        refine (HA.out _ _ BA10.out R10.out).mono ?_
        rintro e w11 ⟨rfl, b11⟩
        have BA11 := Lib.hid (BA10.out.trans (b11.mono BA10.out.size))
        have SP11 := Lib.hid (SP9.out.below BA11.out)
        clear HA b11 BA10 R10
        go_wp2_with fail
        refine (FW.out _ _ _ SP11.out).mono ?_
        rintro e w12 ⟨u12, rfl, r12, b12⟩
        have BA12 := Lib.hid (BA11.out.trans (b12.mono BA11.out.size))
        have R12 := Lib.hid r12
        clear r12 b12 BA11 SP11
        go_wp2_with fail
        refine (HB.out _ _ BA12.out R12.out).mono ?_
        rintro e w13 ⟨rfl, b13⟩
        have b13' := BA12.out.trans (b13.mono BA12.out.size)
        have bm := b13'.alloc b13'.size (.cells (bys (hb h) (hq h)) 55)
        have KP : Hid (Kp W9 g7 g9 w13.heap.size ff h (w13.alloc (.cells (bys (hb h) (hq h)) 55))) := Lib.hid ⟨X9.out.below bm X9.out.lt, Y9.out.below bm Y9.out.lt, RowY.new w13 (hb h) (hq h), bm⟩
        clear HB b13 b13' bm BA12 R12 X9 Y9 FW
        go_upto_region 17 with ((with_reducible refine store_by_new (o := ⟨none, _, _, _, _, _⟩) rfl _ _ rfl (hb h) (hq h) ?_ ?_ ?_); (exact rfl); (exact rfl))
        generalize (w13.alloc (.cells (bys (hb h) (hq h)) 55)) = WB at *
        generalize w13.heap.size = gy at *
        have hmm := @run_makeMap Tryz.prog
        have M0 : Hid (H1 WB WB.heap.size 1 (lowH h 1) (WB.alloc (.map #[] 0))) := Lib.hid ⟨⟨0, by rw [low_one]; exact hbl_new WB, by omega⟩, Nat.le_refl _, (Below.refl WB.heap.size WB).alloc (Nat.le_refl _) _⟩
        go_wp2
        clear hmm
        generalize (WB.alloc (.map #[] 0)) = W0 at *
        generalize hbm : WB.heap.size = bm at M0 ⊢
        go_loopw [26] (fun i wr => ∃ k : Nat, 1 ≤ k ∧ k ≤ 17 ∧ i = .int .i64 k ∧ Hid (H1 WB bm k (lowH h k) wr)) (fun i _ => 17 - (intOf i).toNat)
        case atStart => exact ⟨1, by omega, by omega, rfl, M0⟩
        case round =>
          obtain ⟨k, hk1, hk, rfl, I⟩ := hrel
          clear M0
          by_cases hlt : k < 17
          · have ZR := KP.out.z.below I.out.bel KP.out.z.lt
            have q0 : wr.cell? ⟨gy, 17 + k, none⟩ = some (.bool (h k).isSome) := ZR.cq hlt
            have q1 : wr.cell? ⟨gy, k, none⟩ = some (.int .u8 ((h k).getD 0)) := ZR.cb hlt
            have iq := ix_q gy k hlt
            have ib := ix_b gy k hlt
            have WK := Lib.hid (wf_of (n := (k : Int)) ⟨by omega, by omega⟩)
            clear ZR
            cases hh : h k with
            | none =>
              rw [hh] at q0 q1
              have EQ := Lib.hid (low_no hh)
              have I3 : Hid (H1 WB bm (k + 1) (lowH h (k + 1)) wr) := Lib.hid ⟨by obtain ⟨N, m, h⟩ := I.out.mp; exact ⟨N, by rw [← EQ.out]; exact m, by omega⟩, I.out.lo, I.out.bel⟩
              clear EQ I hh
              go_wp2
              go_roundw
              case rel => exact ⟨k + 1, by omega, by omega, by go_num, I3⟩
              case measure => simp [intOf]; omega
            | some y =>
              rw [hh] at q0 q1
              have EQ := Lib.hid (low_yes hk1 hh)
              obtain ⟨N, m, hN⟩ := I.out.mp
              have M2 := Lib.hid m
              have LO := Lib.hid I.out.lo
              have BE := Lib.hid I.out.bel
              clear hh m I
              go_wp2_with (first
                | (at_mapUpdate; refine at_hput rfl _ _ _ rfl rfl M2.out (by unfold maxLen; omega) (k : Int) y rfl rfl WK.out ?_; intro w4 m4 g4)
                | fail)
              have I3 : Hid (H1 WB bm (k + 1) (lowH h (k + 1)) w4) := Lib.hid ⟨⟨N + 1, by rw [← EQ.out]; exact m4, by omega⟩, LO.out, BE.out.grown g4 BE.out.size (fun j e => by injection e with e; have := LO.out; omega)⟩
              clear m4 g4 M2 EQ BE LO
              go_wp2
              go_roundw
              case rel => exact ⟨k + 1, by omega, by omega, by go_num, I3⟩
              case measure => simp [intOf]; omega
          · have e17 : k = 17 := by omega
            rw [e17, low_end OO.out] at I
            clear e17
            have HM : Hid (∀ W, Below wr.heap.size wr W → HMap W (.map (some bm)) h) := Lib.hid (fun W hb => by obtain ⟨⟨N, m, _⟩, _, _⟩ := I.out; exact ⟨bm, N, rfl, m.below hb⟩)
            have K2' := Lib.hid (KP.out.below I.out.bel)
            clear I KP OO
            obtain ⟨sa, cs, rfl, ms⟩ := NS9.out.st.slice
            obtain ⟨ra, cr, rfl, mr⟩ := NR9.out.st.slice
            obtain ⟨ta, ct, rfl, mt⟩ := NS9.out.tb.slice
            have sl := SL.out
            have tl := TL.out
            unfold maxLen at ms mr mt
            rw [sl] at NS9 NR9 ⊢
            rw [tl] at NS9 NR9 ⊢
            clear sl tl mr mt
            go_wp2
            clear hk1 hk hlt
            generalize (k : Int) = kk at *
            rename World => wA
            go_loopw [27] (fun i wr => ∃ k : Nat, k ≤ n ∧ i = .int .i64 k ∧ Hid (Below wA.heap.size wA wr)) (fun i _ => n - (intOf i).toNat)
            case atStart => exact ⟨0, Nat.zero_le _, rfl, Lib.hid (Below.refl _ _)⟩
            case round =>
              obtain ⟨k, hk, rfl, I⟩ := hrel
              have KQ := Lib.hid (K2'.out.below I.out)
              have JA := Lib.hid (J9.out.trans (KQ.out.bel.mono J9.out.size))
              by_cases hlt : k < n
              · have N1 := Lib.hid (NS9.out.below KQ.out.bel)
                have N2 := Lib.hid (NR9.out.below KQ.out.bel)
                obtain ⟨b1, o1, c1, s1, e1, x1, g1⟩ := N1.out.st.one (k := k) (by have := SL.out; omega)
                obtain ⟨b2, o2, c2, p2, e2, x2, g2⟩ := N2.out.st.one (k := k) (by have := SL.out; omega)
                obtain ⟨b3, o3, c3, a3, n3, e3, x3, _, _⟩ := N1.out.tb.one (k := k) (by have := TL.out; omega)
                have RT := Lib.hid (N1.out.tb.rd (k := k) (by have := TL.out; omega) e3 x3)
                rw [SL.out] at e1 e2
                rw [TL.out] at e3
                injection e1 with e1 _ e1'
                injection e2 with e2 _ e2'
                injection e3 with e3 _ e3'
                subst e1 e1' e2 e2' e3 e3'
                have OKT := Lib.hid (tab_each N1.out.ok (k := k) (by have := TL.out; omega))
                have ML := Lib.hid (Ro.may_len (Ck.may_all (not_bad N1.out.ok) k (by have := TL.out; omega)))
                have D0 : Hid ((sat S k).2 = 0) := Lib.hid (DEN.out k hlt)
                have HK1 : Hid (k + 1 ≤ n) := Lib.hid hlt
                have GA := Lib.hid g1
                have GB := Lib.hid g2
                have AP := Lib.hid (fun W (b : Below wr.heap.size wr W) => apply_any (w := W) (GA.out.below b) (HG.out.below (JA.out.trans (b.mono JA.out.size))) (by rw [D0.out]; exact ⟨by decide, by decide⟩) (RT.out.below b) (fun y hy => (OKT.out y hy).1) (by have := ML.out; omega) (HM.out W (I.out.trans (b.mono I.out.size))) OH.out)
                have RP' := Lib.hid (fun W (b : Below wr.heap.size wr W) => rapply_any (w := W) (r0 := p2) (F := fun _ => False) (x := sat S k) (Fs.Rs.below GB.out b) (fun _ h => h.elim) (by rw [D0.out]; exact ⟨by decide, by decide⟩) (RT.out.below b) (fun y hy => (OKT.out y hy).1) (by have := ML.out; omega) OH.out)
                unfold ApPost at AP
                unfold RapPost at RP'
                generalize apS h (lat T k) (sat S k) = xa at *
                generalize (lat T k).length = lk at *
                unfold ptr at x1 x2
                have X1 := Sd.cell_by x1
                have X2 := Sd.cell_by x2
                have X3 := Sd.cell_by x3
                clear x1 x2 x3 g1 g2 N1 N2
                go_upto_region 26 with fail
                refine Sd.start [(false, 0), (false, 1), (false, 2), (false, 3), (false, 4), (false, 5), (false, 6), (false, 7), (false, 8), (false, 11), (false, 12), (false, 13), (false, 14), (false, 15), (false, 16), (false, 17), (false, 18), (false, 19), (true, 9), (true, 10), (true, 20), (false, 21), (false, 22), (true, 23), (true, 24), (false, 25)] (by kernel_rfl) (by kernel_rfl) (by kernel_rfl) ?_
                dsimp only [Sd.picks, List.getElem?_cons_succ, List.getElem?_cons_zero]
                iterate 17 (refine Sd.lit ?_; quiet_step (fail); refine wpQuiet_nil ?_)
                refine lit_by rfl _ rfl gy (hb h) (hq h) rfl KQ.out.z ?_
                have E0 := Lib.hid ((Below.refl wr.heap.size wr).drew)
                generalize wr.drew = V0 at *
                refine Sd.call (by rfl) (fun K hK => ?_)
                go_simp
                refine (AP.out _ E0.out).mono ?_
                rintro e v1 ⟨q1, F1, rfl, st1, _, b1⟩
                have E1 := Lib.hid (E0.out.trans (b1.mono E0.out.size))
                refine hK _ _ (Sd.Cl.of E1.out) ?_
                clear hK K b1
                unfold ptr
                have ST := Lib.hid st1
                clear st1
                refine Sd.call (by rfl) (fun K hK => ?_)
                go_simp
                refine (files_any ST.out).mono ?_
                rintro e v2 ⟨u2, rfl, ls2, b2⟩
                have E2 := Lib.hid (E1.out.trans (b2.mono E1.out.size))
                have LS := Lib.hid (ls2 (fun _ => False) nofun)
                refine hK _ _ (Sd.Cl.of E2.out) ?_
                clear hK K b2 ls2 ST
                refine Sd.call (by rfl) (fun K hK => ?_)
                go_simp
                refine (RP'.out _ E2.out).mono ?_
                rintro e v3 ⟨r3, rfl, rs3, _, b3⟩
                have E3 := Lib.hid (E2.out.trans (b3.mono E2.out.size))
                have LS3 := Lib.hid (LS.out.below b3)
                have LE := Lib.hid (rs_okA rs3).len
                refine hK _ _ (Sd.Cl.of E3.out) ?_
                clear hK K b3 LS
                unfold ptr
                iterate 2 (refine Sd.lit ?_; quiet_step (fail); refine wpQuiet_nil ?_)
                obtain ⟨l4, L4, Q4, q4⟩ := rs3
                obtain ⟨m4, n4, rfl, _⟩ := Q4.list.rd.slice
                have Y4 : v3.cell? ⟨r3, 0, none⟩ = some (.slice m4 L4.length n4) := row_cell Q4.row 0
                have WB' : Hid (Ls (fun k => False ∨ k = r3) v3 (.slice m4 L4.length n4) xa.1) := Lib.hid ⟨L4, Q4.list, q4⟩
                clear Q4 q4
                generalize L4.length = N4 at *
                refine Sd.call (by rfl) (fun K hK => ?_)
                go_simp
                refine hK _ _ (Sd.Cl.of E3.out) ?_
                clear hK K Y4
                refine Sd.call (by rfl) (fun K hK => ?_)
                go_simp
                refine (same_is LS3.out WB'.out LE.out).mono ?_
                rintro e v4 ⟨rfl, b4⟩
                have E4 := Lib.hid (E3.out.trans (b4.mono E3.out.size))
                refine hK _ _ (Sd.Cl.of E4.out) ?_
                clear hK K b4 LS3 WB' X1 X2 X3
                iterate 1 (refine Sd.lit ?_; quiet_step (fail); refine wpQuiet_nil ?_)
                refine Sd.done ?_
                have I2 := Lib.hid (I.out.trans (E4.out.mono I.out.size))
                have h8 := FEW.out
                have hk1 := HK1.out
                go_wp2
                go_roundw
                case rel => exact ⟨k + 1, HK1.out, by go_num, I2⟩
                case measure => have := HK1.out; have := FEW.out; simp [intOf]; omega
              · obtain rfl : k = n := by omega
                have AW := Lib.hid (awake_any wr (HG.out.below JA.out))
                have es := fun w => Ua.eq_same ff w
                clear NS9 NR9 DEN OKT TL VL SL HM OH K2'
                by_cases hs1 : 1 ≤ s
                · by_cases hs2 : s ≤ 16
                  · obtain ⟨m, rfl⟩ : ∃ m : Nat, s = m := ⟨s.toNat, by omega⟩
                    obtain ⟨e1, e2⟩ := HW.out m rfl (by omega) (by omega)
                    have q0 : wr.cell? ⟨gy, 17 + m, none⟩ = some (.bool hbb) := by rw [← e2]; exact KQ.out.z.cq (by omega)
                    have q1 : wr.cell? ⟨gy, m, none⟩ = some (.int .u8 hv) := by rw [← e1]; exact KQ.out.z.cb (by omega)
                    have iq := ix_q gy m (by omega)
                    have ib := ix_b gy m (by omega)
                    clear e1 e2 HW HO
                    go_upto_region 30 with fail
                    go_region
                    clear q0 q1 iq ib AW
                    have dr := (Below.refl wr.heap.size wr).drew
                    have KQ := Lib.hid (KQ.out.below dr)
                    have JA := Lib.hid (JA.out.trans (dr.mono JA.out.size))
                    have AW := Lib.hid (awake_any _ (HG.out.below JA.out))
                    clear dr
                    generalize wr.drew = wd at *
                    go_wp2_with fail
                    refine AW.out.mono ?_
                    rintro e wz ⟨rfl, bz⟩
                    have ZX := Lib.hid (KQ.out.x.below bz KQ.out.x.lt)
                    have ZY := Lib.hid (KQ.out.y.below bz KQ.out.y.lt)
                    have ZZ := Lib.hid (JA.out.trans (bz.mono JA.out.size))
                    clear AW bz KQ JA
                    go_wp2_with (first
                      | (refine load_frame_g (o := ⟨some 225, _, _, _, _, _⟩) (by rfl) _ rfl g7 ff rfl ZX.out ?_)
                      | (refine load_frame_g (o := ⟨some 226, _, _, _, _, _⟩) (by rfl) _ rfl g9 ff rfl ZY.out ?_))
                    go_ret
                    exact ⟨rfl, ZZ.out⟩
                  · obtain ⟨e1, e2⟩ := HO.out (by omega)
                    subst e1 e2
                    clear HW HO
                    go_upto_region 31 with fail
                    go_wp2_with fail
                    refine AW.out.mono ?_
                    rintro e wz ⟨rfl, bz⟩
                    have ZX := Lib.hid (KQ.out.x.below bz KQ.out.x.lt)
                    have ZY := Lib.hid (KQ.out.y.below bz KQ.out.y.lt)
                    have ZZ := Lib.hid (JA.out.trans (bz.mono JA.out.size))
                    clear AW bz KQ JA
                    go_wp2_with (first
                      | (refine load_frame_g (o := ⟨some 225, _, _, _, _, _⟩) (by rfl) _ rfl g7 ff rfl ZX.out ?_)
                      | (refine load_frame_g (o := ⟨some 226, _, _, _, _, _⟩) (by rfl) _ rfl g9 ff rfl ZY.out ?_))
                    go_ret
                    exact ⟨rfl, ZZ.out⟩
                · obtain ⟨e1, e2⟩ := HO.out (by omega)
                  subst e1 e2
                  clear HW HO
                  go_upto_region 31 with fail
                  go_wp2_with fail
                  refine AW.out.mono ?_
                  rintro e wz ⟨rfl, bz⟩
                  have ZX := Lib.hid (KQ.out.x.below bz KQ.out.x.lt)
                  have ZY := Lib.hid (KQ.out.y.below bz KQ.out.y.lt)
                  have ZZ := Lib.hid (JA.out.trans (bz.mono JA.out.size))
                  clear AW bz KQ JA
                  go_wp2_with (first
                    | (refine load_frame_g (o := ⟨some 225, _, _, _, _, _⟩) (by rfl) _ rfl g7 ff rfl ZX.out ?_)
                    | (refine load_frame_g (o := ⟨some 226, _, _, _, _, _⟩) (by rfl) _ rfl g9 ff rfl ZY.out ?_))
                  go_ret
                  exact ⟨rfl, ZZ.out⟩
      · have AW := Lib.hid (fun W b => awake_any W (HG.out.below b))
        have hne : (rdE S T V != 0) = true := by simpa using hE
        have J := Lib.hid (B5.out.trans (I.out.mono B5.out.size))
        generalize rdE S T V = E at *
        go_wp2_with fail
        refine (AW.out _ J.out).mono ?_
        rintro e v6 ⟨rfl, b6⟩
        have Z := Lib.hid (J.out.trans (b6.mono J.out.size))
        go_wp2
        go_ret
        exact ⟨rfl, Z.out⟩

end Go.Proofs.YtilacdjekdngkaaGreatDoor.Pa
