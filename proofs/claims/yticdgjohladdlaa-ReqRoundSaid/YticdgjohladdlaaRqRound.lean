/- Layer 21: ReqRound walked. -/
import Derived.Test.YticdgjohladdlaaRqAwake
import Derived.Deep.CutRange
namespace Go.Proofs.Yticdgjohladdlaa.Rq
open Go.RowKit
open Go.Proofs.Yticdgjohladdlaa.Rw (Rd Ow At)
open Go.Proofs.Yticdgjohladdlaa.Fl (R4 z4)
set_option maxRecDepth 100000

theorem qof_qb {x : Q} (hg : good x) : qof (qb x) = x := by
  obtain ⟨id, k, n, f, r, ⟨v0, v1, v2, v3⟩, key⟩ := x
  unfold good at hg
  dsimp only at hg
  unfold qb qof
  dsimp only
  by_cases h : k = 2
  · simp [h]
    omega
  · obtain ⟨_, _, _, _, _, _, _, h'⟩ := hg
    obtain ⟨rfl, rfl, rfl, rfl⟩ := h'.resolve_left h
    simp [h, z4]
    omega
theorem isQ_qb {x : Q} (hg : good x) : isQ (qb x) := ⟨qb_len x, by rw [qof_qb hg]; exact hg, by rw [qof_qb hg]⟩
theorem yof_yb {y : Y} (hg : may y) : yof (yb y) = y := by
  obtain ⟨id, e, ⟨v0, v1, v2, v3⟩⟩ := y
  unfold may at hg
  dsimp only at hg
  unfold yb yof
  simp
  omega
theorem isY_yb {y : Y} (hg : may y) : isY (yb y) := ⟨rfl, by rw [yof_yb hg]; exact hg, by rw [yof_yb hg]⟩

set_option maxHeartbeats 8000000 in
theorem round_any (w : World) (x : Q) (y : Y) (u : Value) (l : List Int) (hx : okV x.v) (hy : okV y.v) (hb : ∀ y ∈ l, 0 ≤ y ∧ y < 256) (R : Rd KU w u l) : Calls Try.prog 5 #[qV x, yV y, u] w fun e w' => e = .returned (.bool true) ∧ Below w.heap.size w w' := by
  have bb := (Below.refl w.heap.size w).alloc (Nat.le_refl _) (.cells (qA x) 25)
  have bc := (Below.refl (w.alloc (.cells (qA x) 25)).heap.size (w.alloc (.cells (qA x) 25))).alloc (Nat.le_refl _) (.cells (yA y) 40)
  have B0 := bTr bb bc
  have X0 := Lib.hid (bBl bc (heap_alloc_new w (.cells (qA x) 25)))
  have Y0 : Hid (((w.alloc (.cells (qA x) 25)).alloc (.cells (yA y) 40)).heap[w.heap.size + 1]? = some (.cells (yA y) 40 (0, 0))) := Lib.hid (by
    have := heap_alloc_new (w.alloc (.cells (qA x) 25)) (.cells (yA y) 40)
    rwa [show (w.alloc (.cells (qA x) 25)).heap.size = w.heap.size + 1 by simp] at this)
  have R0 := Lib.hid (R.below B0.out)
  clear bb bc
  have P1 : Hid (∀ W, Calls Try.prog 6 #[qV x] W (PutPost W x)) := fun W => put_any W x
  have A1 : Hid (∀ W, Calls Try.prog 13 #[yV y] W (AnsPost W y)) := fun W => answer_any W y
  have T1 : Hid (good x → ∀ W v, Rd KU W v (qb x) → Calls Try.prog 8 #[v] W fun e w' => e = .returned (.tuple #[qV x, .int .i64 0]) ∧ Below W.heap.size W w') := fun hg W v h => by
    have := take_any W v (qb x) (qb_byte hg hx) h
    unfold TakePost at this
    rw [if_pos (isQ_qb hg), if_pos (isQ_qb hg), qof_qb hg] at this
    exact this
  have D1 : Hid (may y → ∀ W v, Rd KU W v (yb y) → Calls Try.prog 15 #[v] W fun e w' => e = .returned (.tuple #[yV y, .int .i64 0]) ∧ Below W.heap.size W w') := fun hg W v h => by
    have := read_any W v (yb y) (yb_byte hg hy) h
    unfold ReadPost at this
    rw [if_pos (isY_yb hg), if_pos (isY_yb hg), yof_yb hg] at this
    exact this
  have T2 : Hid (∀ W, Rd KU W u l → Calls Try.prog 8 #[u] W (TakePost W l)) := fun W h => take_any W u l hb h
  have D2 : Hid (∀ W, Rd KU W u l → Calls Try.prog 15 #[u] W (ReadPost W l)) := fun W h => read_any W u l hb h
  have P2 : Hid (isQ l → ∀ W, Calls Try.prog 6 #[qV (if isQ l then qof l else zQ)] W fun e w' => ∃ v, e = .returned (.tuple #[v, .int .i64 0]) ∧ Ow KU w' W.heap.size 5 v l ∧ Below W.heap.size W w') := fun h W => by
    have := put_any W (qof l)
    unfold PutPost at this
    rw [if_pos h.2.1, if_pos h.2.1, h.2.2] at this
    rw [if_pos h]
    exact this
  have A2 : Hid (isY l → ∀ W, Calls Try.prog 13 #[yV (if isY l then yof l else zY)] W fun e w' => ∃ v, e = .returned (.tuple #[v, .int .i64 0]) ∧ Ow KU w' W.heap.size 5 v l ∧ Below W.heap.size W w') := fun h W => by
    have := answer_any W (yof l)
    unfold AnsPost at this
    rw [if_pos h.2.1, if_pos h.2.1, h.2.2] at this
    rw [if_pos h]
    exact this
  have G1 := Lib.hid (fun W => good_any W x)
  unfold PutPost at P1
  unfold AnsPost at A1
  unfold TakePost at T2
  unfold ReadPost at D2
  have GX : Hid (good x ∧ (if good x then qb x else []) = qb x ∧ (if good x then (0 : Int) else 1) = 0 ∧ goodB x = true ∨ ¬ good x ∧ (if good x then (0 : Int) else 1) = 1 ∧ goodB x = false) := Lib.hid (by
    by_cases h : good x
    · exact .inl ⟨h, if_pos h, if_pos h, decide_eq_true h⟩
    · exact .inr ⟨h, if_neg h, decide_eq_false h⟩)
  have GY : Hid (may y ∧ (if may y then yb y else []) = yb y ∧ (if may y then (0 : Int) else 1) = 0 ∨ ¬ may y ∧ (if may y then (0 : Int) else 1) = 1) := Lib.hid (by
    by_cases h : may y
    · exact .inl ⟨h, if_pos h, if_pos h⟩
    · exact .inr ⟨h, if_neg h⟩)
  have GQ : Hid (isQ l ∧ (if isQ l then (0 : Int) else 2) = 0 ∧ 0 < l.length ∨ ¬ isQ l ∧ (if isQ l then (0 : Int) else 2) = 2) := Lib.hid (by
    by_cases h : isQ l
    · exact .inl ⟨h, if_pos h, by have := h.1; omega⟩
    · exact .inr ⟨h, if_neg h⟩)
  have GZ : Hid (isY l ∧ (if isY l then (0 : Int) else 2) = 0 ∨ ¬ isY l ∧ (if isY l then (0 : Int) else 2) = 2) := Lib.hid (by
    by_cases h : isY l
    · exact .inl ⟨h, if_pos h⟩
    · exact .inr ⟨h, if_neg h⟩)
  generalize (if good x then qb x else []) = L at *
  generalize (if good x then (0 : Int) else 1) = ge at *
  generalize goodB x = gb at *
  generalize (if may y then yb y else []) = M at *
  generalize (if may y then (0 : Int) else 1) = gm at *
  generalize (if isQ l then (0 : Int) else 2) = gf at *
  generalize (if isY l then (0 : Int) else 2) = gh at *
  generalize (if isQ l then qof l else zQ) = z at *
  generalize (if isY l then yof l else zY) = t at *
  have ex := same_q x
  have ey := same_y y
  generalize good x = gx at *
  generalize may y = gy at *
  generalize qb x = qx at *
  generalize yb y = yx at *
  obtain ⟨a, cap, rfl, hlen⟩ := R.slice
  clear hlen hx hy hb R
  obtain ⟨id, k, n, f, r, ⟨v0, v1, v2, v3⟩, key⟩ := x
  obtain ⟨yi, ye, ⟨w0, w1, w2, w3⟩⟩ := y
  obtain ⟨zi, zk, zn, zf, zr, ⟨z0, z1, z2, z3⟩, zy⟩ := z
  obtain ⟨ti, te, ⟨t0, t1, t2, t3⟩⟩ := t
  have QL : Hid (isQ l ↔ isQ l) := Lib.hid Iff.rfl
  unfold qV qA yV yA at *
  dsimp only at B0 X0 Y0 R0 P1 A1 T1 D1 T2 D2 P2 A2 G1 ex ey ⊢
  generalize hn : l.length = m at *
  clear hn
  go_enter Try.func5, Try.ntmps5
  go_wp2_with fail
  refine (P1.out _).mono ?_
  rintro e W1 ⟨u1, rfl, o1, b1⟩
  have B1 := bTr B0.out b1
  have X1 := Lib.hid (bBl b1 X0.out)
  have Y1 := Lib.hid (bBl b1 Y0.out)
  have R1 := Lib.hid (R0.out.below b1)
  have U1 := Lib.hid o1.rd
  clear b1 o1 B0 X0 Y0 R0 P1
  go_upto_if 29 with fail
  go_cut [9, 10] from 30 to 41 (fun _ _ wx => Hid (Below W1.heap.size W1 wx))
  case first =>
    rcases GX.out with ⟨hg, rfl, rfl, _⟩ | ⟨hg, rfl, _⟩
    · go_wp2_with fail
      refine (T1.out hg _ _ U1.out).mono ?_
      rintro e W2 ⟨rfl, b2⟩
      go_upto_region 4 with fail
      have bb := Lib.hid (b2.alloc b2.size (.cells #[.int .i64 id, .int .i64 k, .int .i64 n, .int .i64 f, .int .i64 r, .int .u8 v0, .int .u8 v1, .int .u8 v2, .int .u8 v3, .int .i64 key] 25))
      have Z := Lib.hid (heap_alloc_new W2 (.cells #[.int .i64 id, .int .i64 k, .int .i64 n, .int .i64 f, .int .i64 r, .int .u8 v0, .int .u8 v1, .int .u8 v2, .int .u8 v3, .int .i64 key] 25))
      have X2 := Lib.hid (bBl bb.out X1.out)
      clear b2
      generalize W2.alloc (.cells #[.int .i64 id, .int .i64 k, .int .i64 n, .int .i64 f, .int .i64 r, .int .u8 v0, .int .u8 v1, .int .u8 v2, .int .u8 v3, .int .i64 key] 25) = W3 at *
      generalize W2.heap.size = g2 at *
      have c0 := rc1 Z.out 0
      have c1 := rc1 Z.out 1
      have c2 := rc1 Z.out 2
      have c3 := rc1 Z.out 3
      have c4 := rc1 Z.out 4
      have c5 := rc1 Z.out 5
      have c6 := rc1 Z.out 6
      have c7 := rc1 Z.out 7
      have c8 := rc1 Z.out 8
      have c9 := rc1 Z.out 9
      have d0 := rc1 X2.out 0
      have d1 := rc1 X2.out 1
      have d2 := rc1 X2.out 2
      have d3 := rc1 X2.out 3
      have d4 := rc1 X2.out 4
      have d5 := rc1 X2.out 5
      have d6 := rc1 X2.out 6
      have d7 := rc1 X2.out 7
      have d8 := rc1 X2.out 8
      have d9 := rc1 X2.out 9
      go_wp2
      go_meet
      exact bb
    · go_wp2
      go_meet
      exact Below.refl _ _
  case rest =>
    have B2 := bTr B1.out hcut
    have X2 := Lib.hid (bBl hcut X1.out)
    have Y2 := Lib.hid (bBl hcut Y1.out)
    have R2 := Lib.hid (R1.out.below hcut)
    clear hcut B1 X1 Y1 R1 U1 T1
    have c0 := rc1 Y2.out 0
    have c1 := rc1 Y2.out 1
    have c2 := rc1 Y2.out 2
    have c3 := rc1 Y2.out 3
    have c4 := rc1 Y2.out 4
    have c5 := rc1 Y2.out 5
    go_wp2_with fail
    refine (A1.out _).mono ?_
    rintro e W4 ⟨u4, rfl, o4, b4⟩
    have B4 := bTr B2.out b4
    have X4 := Lib.hid (bBl b4 X2.out)
    have Y4 := Lib.hid (bBl b4 Y2.out)
    have R4 := Lib.hid (R2.out.below b4)
    have U4 := Lib.hid o4.rd
    clear b4 o4 B2 X2 Y2 R2 A1 c0 c1 c2 c3 c4 c5
    go_upto_if 48 with fail
    go_cut [13, 14] from 49 to 60 (fun _ _ wx => Hid (Below W4.heap.size W4 wx))
    case first =>
      rcases GY.out with ⟨hg, rfl, rfl⟩ | ⟨hg, rfl⟩
      · go_wp2_with fail
        refine (D1.out hg _ _ U4.out).mono ?_
        rintro e W5 ⟨rfl, b5⟩
        go_upto_region 9 with fail
        have bb := Lib.hid (b5.alloc b5.size (.cells #[.int .i64 yi, .int .i64 ye, .int .u8 w0, .int .u8 w1, .int .u8 w2, .int .u8 w3] 40))
        have Z := Lib.hid (heap_alloc_new W5 (.cells #[.int .i64 yi, .int .i64 ye, .int .u8 w0, .int .u8 w1, .int .u8 w2, .int .u8 w3] 40))
        have Y5 := Lib.hid (bBl bb.out Y4.out)
        clear b5
        generalize W5.alloc (.cells #[.int .i64 yi, .int .i64 ye, .int .u8 w0, .int .u8 w1, .int .u8 w2, .int .u8 w3] 40) = W6 at *
        generalize W5.heap.size = g5 at *
        have c0 := rc1 Z.out 0
        have c1 := rc1 Z.out 1
        have c2 := rc1 Z.out 2
        have c3 := rc1 Z.out 3
        have c4 := rc1 Z.out 4
        have c5 := rc1 Z.out 5
        have d0 := rc1 Y5.out 0
        have d1 := rc1 Y5.out 1
        have d2 := rc1 Y5.out 2
        have d3 := rc1 Y5.out 3
        have d4 := rc1 Y5.out 4
        have d5 := rc1 Y5.out 5
        go_wp2
        go_meet
        exact bb
      · go_wp2
        go_meet
        exact Below.refl _ _
    case rest =>
      have B5 := bTr B4.out hcut
      have X5 := Lib.hid (bBl hcut X4.out)
      have R5 := Lib.hid (R4.out.below hcut)
      clear hcut B4 X4 Y4 R4 U4 D1
      go_wp2_with fail
      refine (T2.out _ R5.out).mono ?_
      rintro e W6 ⟨rfl, b6⟩
      go_upto_region 12 with fail
      have bb := b6.alloc b6.size (.cells #[.int .i64 zi, .int .i64 zk, .int .i64 zn, .int .i64 zf, .int .i64 zr, .int .u8 z0, .int .u8 z1, .int .u8 z2, .int .u8 z3, .int .i64 zy] 25)
      have B7 := bTr B5.out bb
      have X7 := Lib.hid (bBl bb X5.out)
      have R7 := Lib.hid (R5.out.below bb)
      have Z7 := Lib.hid (heap_alloc_new W6 (.cells #[.int .i64 zi, .int .i64 zk, .int .i64 zn, .int .i64 zf, .int .i64 zr, .int .u8 z0, .int .u8 z1, .int .u8 z2, .int .u8 z3, .int .i64 zy] 25))
      clear bb b6 B5 X5 R5 T2
      generalize W6.alloc (.cells #[.int .i64 zi, .int .i64 zk, .int .i64 zn, .int .i64 zf, .int .i64 zr, .int .u8 z0, .int .u8 z1, .int .u8 z2, .int .u8 z3, .int .i64 zy] 25) = W7 at *
      generalize W6.heap.size = g6 at *
      go_wp2_with fail
      refine (D2.out _ R7.out).mono ?_
      rintro e W8 ⟨rfl, b8⟩
      go_upto_if 72 with fail
      have bb := b8.alloc b8.size (.cells #[.int .i64 ti, .int .i64 te, .int .u8 t0, .int .u8 t1, .int .u8 t2, .int .u8 t3] 40)
      have B9 := bTr B7.out bb
      have X9 := Lib.hid (bBl bb X7.out)
      have R9 := Lib.hid (R7.out.below bb)
      have Z9 := Lib.hid (bBl bb Z7.out)
      have V9 := Lib.hid (heap_alloc_new W8 (.cells #[.int .i64 ti, .int .i64 te, .int .u8 t0, .int .u8 t1, .int .u8 t2, .int .u8 t3] 40))
      clear bb b8 B7 X7 R7 Z7 D2
      generalize W8.alloc (.cells #[.int .i64 ti, .int .i64 te, .int .u8 t0, .int .u8 t1, .int .u8 t2, .int .u8 t3] 40) = W9 at *
      generalize W8.heap.size = g8 at *
      go_cut [19, 20] from 73 to 86 (fun _ _ wx => Hid (Below W9.heap.size W9 wx))
      case first =>
        rcases GQ.out with ⟨hg, rfl, _⟩ | ⟨hg, rfl⟩
        · have PP := Lib.hid (P2.out hg)
          have c0 := rc1 Z9.out 0
          have c1 := rc1 Z9.out 1
          have c2 := rc1 Z9.out 2
          have c3 := rc1 Z9.out 3
          have c4 := rc1 Z9.out 4
          have c5 := rc1 Z9.out 5
          have c6 := rc1 Z9.out 6
          have c7 := rc1 Z9.out 7
          have c8 := rc1 Z9.out 8
          have c9 := rc1 Z9.out 9
          go_wp2_with fail
          refine (PP.out _).mono ?_
          rintro e W10 ⟨u10, rfl, o10, b10⟩
          have s1 := conv_any o10.rd
          have s2 := conv_any (R9.out.below b10)
          have bb := Lib.hid b10
          clear b10 o10
          generalize strOfNums l = sl at *
          go_wp2
          go_meet
          exact bb
        · go_wp2
          go_meet
          exact Below.refl _ _
      case rest =>
        have B10 := bTr B9.out hcut
        have X10 := Lib.hid (bBl hcut X9.out)
        have R10 := Lib.hid (R9.out.below hcut)
        have V10 := Lib.hid (bBl hcut V9.out)
        clear hcut B9 X9 R9 Z9 V9 P2
        go_upto_if 88 with fail
        go_cut [21, 22] from 89 to 102 (fun _ _ wx => Hid (Below wc.heap.size wc wx))
        case first =>
          rcases GZ.out with ⟨hg, rfl⟩ | ⟨hg, rfl⟩
          · have PP := Lib.hid (A2.out hg)
            have c0 := rc1 V10.out 0
            have c1 := rc1 V10.out 1
            have c2 := rc1 V10.out 2
            have c3 := rc1 V10.out 3
            have c4 := rc1 V10.out 4
            have c5 := rc1 V10.out 5
            go_wp2_with fail
            refine (PP.out _).mono ?_
            rintro e W11 ⟨u11, rfl, o11, b11⟩
            have s1 := conv_any o11.rd
            have s2 := conv_any (R10.out.below b11)
            have bb := Lib.hid b11
            clear b11 o11
            generalize strOfNums l = sl at *
            go_wp2
            go_meet
            exact bb
          · go_wp2
            go_meet
            exact Below.refl _ _
        case rest =>
          have B11 := bTr B10.out hcut
          have X11 := Lib.hid (bBl hcut X10.out)
          clear hcut B10 X10 R10 V10 A2
          go_wp2_with fail
          refine (awake_any _).mono ?_
          rintro e W12 ⟨rfl, b12⟩
          have B12 := bTr B11.out b12
          have X12 := Lib.hid (bBl b12 X11.out)
          clear b12 B11 X11
          have c0 := rc1 X12.out 0
          have c1 := rc1 X12.out 1
          have c2 := rc1 X12.out 2
          have c3 := rc1 X12.out 3
          have c4 := rc1 X12.out 4
          have c5 := rc1 X12.out 5
          have c6 := rc1 X12.out 6
          have c7 := rc1 X12.out 7
          have c8 := rc1 X12.out 8
          have c9 := rc1 X12.out 9
          go_wp2_with fail
          refine (G1.out _).mono ?_
          rintro e W13 ⟨rfl, b13⟩
          have B13 := bTr B12.out b13
          clear b13 B12 X12
          rcases GX.out with ⟨_, _, rfl, rfl⟩ | ⟨_, rfl, rfl⟩
          all_goals
            rcases GQ.out with ⟨_, rfl, hm⟩ | ⟨_, rfl⟩
            · have hm' : (0 : Int) < m := by omega
              go_wp2
              go_ret
              exact ⟨rfl, B13.out⟩
            · by_cases hm : 0 < m
              · have hm' : (0 : Int) < m := by omega
                go_wp2
                go_ret
                exact ⟨rfl, B13.out⟩
              · have hm' : ¬ (0 : Int) < m := by omega
                go_wp2
                go_ret
                exact ⟨rfl, B13.out⟩

end Go.Proofs.Yticdgjohladdlaa.Rq
