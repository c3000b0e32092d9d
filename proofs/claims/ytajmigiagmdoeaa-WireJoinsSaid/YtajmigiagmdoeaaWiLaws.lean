/- The three statements of layer 2, walked: each returns true and writes nothing that was there. -/
import Derived.Test.YtajmigiagmdoeaaWiAwake
namespace Go.Proofs.Ytajmigiagmdoeaa.Wi
open Go.RowKit Go.Proofs.Ytajmigiagmdoeaa.Sp

/-- 'list = append(list, other...)', of a list that is the call's own, and another one that it made. -/
theorem all_step {w : World} {ops : Array Oper} {rest : List Oper} {o : Oper} {a : Act} {Q : Exit → Act → World → Prop} (hgd : Region.wanted o (yielded ops a.tmps) = true) (s x : Operand)
    (ho : o.op = .call { callee := .builtin .append, args := #[s, x], argTypes := #[22, 22] }) (B : Nat) (v : Value) (l : List S2) (hs : a.eval s = v) (hown : Own w B 33 v l)
    (B' : Nat) (u : Value) (y : List S2) (hx : a.eval x = u) (hu : Own w B' 33 u y) (hlen : l.length + y.length < 4398046511104) (hB : B ≤ w.heap.size)
    (h : ∀ v' w', Own w' B 33 v' (l ++ y) → Below B w w' → wpList Try.prog ops Q rest (a.put o.dst v') w') : wpList Try.prog ops Q (o :: rest) a w := by
  obtain ⟨i0, hi, hz0, hz1, hz2⟩ := info_parts infoS
  have hcells := fun g hg j u => World.ownsRow.cells hu (g := g) hg j u
  obtain ⟨hul, hu2⟩ := hu
  rcases hu2 with ⟨rfl, h0⟩ | ⟨g, cap, cur, rfl, _, _, _, _, _, _⟩
  · have ey : y = [] := List.length_eq_zero_iff.1 h0
    refine BigFrame.wpList_want hgd fun K hK => ?_
    have hrun := run_append_owned_none (P := Try.prog) (w := w) B 22 o.type 33 i0 2 Try.underlying22 hi v l.length (flat l) hown
    unfold Oper.wp
    have hk := hK _ _ (h v w (by rw [ey, List.append_nil]; exact hown) (Below.refl _ _))
    simp [execOp, ho, resolve, invoke, builtin, hs, hx, hrun, Result.andThen]
    exact hk
  · refine BigFrame.wpList_want hgd fun K hK => ?_
    refine wp_append_own _ s x 22 ho B 33 i0 (.agg #[.int .i64 0, .int .i64 0]) 2 16 Try.underlying22 hi hz0 hz1 hz2 rfl (by decide) v l.length (flat l) hs hown ⟨g, 0, none⟩ y.length cap (flat y) hx (flat_length y) ?_ (flat_one y) ?_ ?_ hB ?_
    · exact fun j u hj => hcells g rfl j u hj
    · unfold maxLen; omega
    · omega
    · intro v' w' h2 h3 _
      refine hK _ _ (h v' w' ?_ ((Below.refl B w).grown h3 hB fun k hk => (World.ownsRow.lt hown k hk).1))
      show w'.ownsRow B 33 2 v' (l ++ y).length (flat (l ++ y))
      rw [flat_append, List.length_append]
      exact h2

theorem same_of {x a b : List S2} (ha : PlainOf x a) (hb : PlainOf x b) : sameB a b = true := by rw [ha.one hb]; simp [sameB]
theorem near_append {x y : List S2} (hx : Near x) (hy : Near y) : Near (x ++ y) := by
  have e : ∀ i, i < (x ++ y).length → (i < x.length ∧ fr (x ++ y) i = fr x i ∧ tp (x ++ y) i = tp x i) ∨ (i - x.length < y.length ∧ fr (x ++ y) i = fr y (i - x.length) ∧ tp (x ++ y) i = tp y (i - x.length)) := fun i hi => by
    by_cases c : i < x.length
    · exact .inl ⟨c, by simp [fr, List.getD, List.getElem?_append_left c], by simp [tp, List.getD, List.getElem?_append_left c]⟩
    · have c' : x.length ≤ i := by omega
      exact .inr ⟨by simp at hi; omega, by simp [fr, List.getD, List.getElem?_append_right c'], by simp [tp, List.getD, List.getElem?_append_right c']⟩
  refine ⟨fun i hi => ?_, fun i hi => ?_, fun i hi => ?_, fun i hi => ?_⟩
  · rcases e i hi with ⟨c, e1, e2⟩ | ⟨c, e1, e2⟩
    · rw [e1]; exact hx.f0 _ c
    · rw [e1]; exact hy.f0 _ c
  · rcases e i hi with ⟨c, e1, e2⟩ | ⟨c, e1, e2⟩
    · rw [e1]; exact hx.f1 _ c
    · rw [e1]; exact hy.f1 _ c
  · rcases e i hi with ⟨c, e1, e2⟩ | ⟨c, e1, e2⟩
    · rw [e2]; exact hx.t0 _ c
    · rw [e2]; exact hy.t0 _ c
  · rcases e i hi with ⟨c, e1, e2⟩ | ⟨c, e1, e2⟩
    · rw [e2]; exact hx.t1 _ c
    · rw [e2]; exact hy.t1 _ c

set_option maxHeartbeats 2000000 in
theorem joins_any (w : World) (v0 u0 : Value) (l0 m0 : List S2) (h1 : Sp w v0 l0) (h2 : Sp w u0 m0) :
    Calls Try.prog 3 #[v0, u0] w fun e w' => e = .returned (.bool true) ∧ Below w.heap.size w w' := by
  have S1 := Lib.hid h1
  have S2' := Lib.hid h2
  clear h1 h2
  go_enter Try.func3, Try.ntmps3
  go_wp2_with fail
  refine (few_any _ _ _ S1.out).mono ?_
  rintro e w1 ⟨v, x, rfl, ox, ⟨lx, nx⟩, b1⟩
  have B1 := Lib.hid b1
  have OX1 := Lib.hid ox
  have NX := Lib.hid nx
  have T1 := Lib.hid (S2'.out.below b1)
  clear ox nx b1 S1 S2'
  go_wp2_with fail
  refine (few_any _ _ _ T1.out).mono ?_
  rintro e w2 ⟨u, y, rfl, oy, ⟨ly, ny⟩, b2⟩
  have B2 := Lib.hid (B1.out.trans (b2.mono B1.out.size))
  have OX2 := Lib.hid (OX1.out.keep b2)
  have OY2 := Lib.hid oy
  have NY := Lib.hid ny
  clear oy ny b2 T1 OX1
  go_wp2_with fail
  refine (awake_any _).mono ?_
  rintro e w3 ⟨rfl, b3⟩
  have B3 := Lib.hid (B2.out.trans (b3.mono B2.out.size))
  have OX3 := Lib.hid (OX2.out.keep b3)
  have OY3 := Lib.hid (OY2.out.keep b3)
  clear b3 OX2 OY2
  obtain ⟨a1, c1, rfl, _, _⟩ := OX3.out.slice
  obtain ⟨a2, c2, rfl, _, _⟩ := OY3.out.slice
  have J := Lib.hid (join_any _ _ _ (rows_two OX3.out.sp OY3.out.sp) (by show 0 + x.length + y.length < _; omega))
  have z3 := B3.out.size
  go_wp2_with fail
  refine J.out.mono ?_
  rintro e w4 ⟨v4, l1, rfl, o4, hj, b4⟩
  have PO := Lib.hid (plain_two_of hj)
  have S4 := Lib.hid o4.sp
  have B4 := Lib.hid ((B3.out.alloc z3 (.cells #[.slice a1 x.length c1, .slice a2 y.length c2] 22)).trans (b4.mono (by simp; omega)))
  have OX4 := Lib.hid ((OX3.out.alloc (.cells #[.slice a1 x.length c1, .slice a2 y.length c2] 22)).keep b4)
  have OY4 := Lib.hid ((OY3.out.alloc (.cells #[.slice a1 x.length c1, .slice a2 y.length c2] 22)).keep b4)
  clear o4 hj b4 OX3 OY3 J
  have z4 := B4.out.size
  go_wp2_with (at_builtin; refine all_step rfl _ _ rfl w4.heap.size _ _ rfl (Own.made w4 w4.heap.size 33 (Nat.le_refl _)) _ _ _ rfl (OX4.out.alloc _) ?c1 ?c2 ?_)
  case c1 => show 0 + x.length < _; omega
  case c2 => simp
  intro v5 w5 o5 b5
  have H5 := (Below.refl w4.heap.size w4).alloc (Nat.le_refl _) (.cells #[] 33) |>.trans b5
  have O5 := Lib.hid o5
  have OY5 := Lib.hid (OY4.out.keep H5)
  have H5' := Lib.hid H5
  have z5 := H5.size
  clear o5 b5 H5
  go_wp2_with (at_builtin; refine all_step rfl _ _ rfl w4.heap.size _ _ rfl O5.out _ _ _ rfl OY5.out ?c1 ?c2 ?_)
  case c1 => omega
  case c2 => exact z5
  intro v6 w6 o6 b6
  have H6 := H5'.out.trans b6
  have S6 := Lib.hid (S4.out.below H6)
  have SX6 := Lib.hid (OX4.out.keep H6).sp
  have SY6 := Lib.hid (OY4.out.keep H6).sp
  have B6 := Lib.hid (B4.out.trans (H6.mono z4))
  have RJ := Lib.hid (rjoin_any _ _ _ o6.sp (near_append NX.out NY.out))
  obtain ⟨a6, c6, rfl, _, _⟩ := o6.slice
  simp only [List.length_append] at RJ
  clear o6 b6 H6 S4 OX4 OY4 H5' O5 OY5
  go_wp2_with fail
  refine RJ.out.mono ?_
  rintro e w7 ⟨v7, l2, rfl, o7, hp, b7⟩
  have PO2 := Lib.hid hp
  have T7 := Lib.hid o7.sp
  have S7 := Lib.hid (S6.out.below b7)
  have SX7 := Lib.hid (SX6.out.below b7)
  have SY7 := Lib.hid (SY6.out.below b7)
  have B7 := Lib.hid (B6.out.trans (b7.mono B6.out.size))
  obtain ⟨a7, c7, rfl, _⟩ := o7.sp.slice
  clear o7 hp b7 S6 SX6 SY6 RJ
  go_wp2_with fail
  refine (at_bool (same_of PO.out PO2.out) (same_any _ _ _ _ _ S7.out T7.out)).mono ?_
  rintro e w8 ⟨rfl, b8⟩
  have SX8 := Lib.hid (SX7.out.below b8)
  have SY8 := Lib.hid (SY7.out.below b8)
  have B8 := Lib.hid (B7.out.trans (b8.mono B7.out.size))
  clear b8 SX7 SY7 S7 T7
  go_wp2_with fail
  refine (meet_any _ _ _ _ _ SX8.out SY8.out (by omega)).mono ?_
  rintro e w9 ⟨rfl, b9⟩
  have SX9 := Lib.hid (SX8.out.below b9)
  have SY9 := Lib.hid (SY8.out.below b9)
  have B9 := Lib.hid (B8.out.trans (b9.mono B8.out.size))
  clear b9 SX8 SY8
  go_wp2_with fail
  refine (rmeet_any _ _ _ _ _ SX9.out SY9.out).mono ?_
  rintro e w10 ⟨rfl, b10⟩
  have B10 := Lib.hid (B9.out.trans (b10.mono B9.out.size))
  clear b10 SX9 SY9
  generalize meetB x y = r
  go_wp2
  go_ret
  exact ⟨ret_bool (by simp), B10.out⟩

theorem near_any (w : World) (t : Int) : Calls Try.prog 14 #[.int .i64 t] w fun e w' => e = .returned (.int .i64 (if -1099511627776 ≤ t ∧ t ≤ 1099511627776 then t else 0)) ∧ w = w' := by
  by_cases h1 : t < -1099511627776
  · rw [if_neg (by omega)]
    go_enter Try.func14, Try.ntmps14
    go_wp2
    go_ret
    exact ⟨rfl, rfl⟩
  · by_cases h2 : 1099511627776 < t
    · rw [if_neg (by omega)]
      go_enter Try.func14, Try.ntmps14
      go_wp2
      go_ret
      exact ⟨rfl, rfl⟩
    · rw [if_pos (by omega)]
      go_enter Try.func14, Try.ntmps14
      go_wp2
      go_ret
      exact ⟨rfl, rfl⟩

theorem fall_one {w : World} {l : List S2} {f t : Int} {x : List S2} (hx : PlainOf l x) {e : Ending} {w' : World} (h : FallPost w l f t e w') : e = .returned (.tuple #[.int .i64 (FallV x f t).1, .bool (FallV x f t).2]) ∧ Below w.heap.size w w' := by
  obtain ⟨y, hy, he, hb⟩ := h
  have : y = x := hy.one hx
  subst this
  exact ⟨he, hb⟩

set_option maxHeartbeats 2000000 in
theorem falls_any (w : World) (v0 : Value) (l0 : List S2) (h1 : Sp w v0 l0) (f t : Int) :
    Calls Try.prog 4 #[v0, .int .i64 f, .int .i64 t] w fun e w' => e = .returned (.bool true) ∧ Below w.heap.size w w' := by
  have S1 := Lib.hid h1
  clear h1
  generalize hnf : (if -1099511627776 ≤ f ∧ f ≤ 1099511627776 then f else 0) = f'
  generalize hnt : (if -1099511627776 ≤ t ∧ t ≤ 1099511627776 then t else 0) = t'
  have NF : Hid (∀ W, Calls Try.prog 14 #[.int .i64 f] W fun e w' => e = .returned (.int .i64 f') ∧ W = w') := fun W => hnf ▸ near_any W f
  have NT : Hid (∀ W, Calls Try.prog 14 #[.int .i64 t] W fun e w' => e = .returned (.int .i64 t') ∧ W = w') := fun W => hnt ▸ near_any W t
  clear hnf hnt
  go_enter Try.func4, Try.ntmps4
  go_wp2_with fail
  refine (few_any _ _ _ S1.out).mono ?_
  rintro e w1 ⟨v, x, rfl, ox, ⟨lx, nx⟩, b1⟩
  have B1 := Lib.hid b1
  have SX1 := Lib.hid ox.sp
  have NX := Lib.hid nx
  obtain ⟨a1, c1, rfl, _, _⟩ := ox.slice
  clear ox nx b1 S1
  go_wp2_with fail
  refine (NF.out _).mono ?_
  rintro e w' ⟨rfl, rfl⟩
  go_wp2_with fail
  refine (NT.out _).mono ?_
  rintro e w' ⟨rfl, rfl⟩
  go_wp2_with fail
  refine (fall_any _ _ _ SX1.out (by omega) _ _).mono ?_
  rintro e w2 ⟨p, hp, rfl, b2⟩
  have PO := Lib.hid hp
  have SX2 := Lib.hid (SX1.out.below b2)
  have B2 := Lib.hid (B1.out.trans (b2.mono B1.out.size))
  clear hp b2 SX1
  go_wp2_with fail
  refine (NF.out _).mono ?_
  rintro e w' ⟨rfl, rfl⟩
  go_wp2_with fail
  refine (NT.out _).mono ?_
  rintro e w' ⟨rfl, rfl⟩
  go_wp2_with fail
  refine (rfall_any _ _ _ SX2.out NX.out _ _).mono ?_
  rintro e w3 hf
  obtain ⟨rfl, b3⟩ := fall_one PO.out hf
  have SX3 := Lib.hid (SX2.out.below b3)
  have B3 := Lib.hid (B2.out.trans (b3.mono B2.out.size))
  clear hf b3 SX2
  generalize FallV p f' t' = q
  go_wp2_with fail
  refine (awake_any _).mono ?_
  rintro e w4 ⟨rfl, b4⟩
  have SX4 := Lib.hid (SX3.out.below b4)
  have B4 := Lib.hid (B3.out.trans (b4.mono B3.out.size))
  clear b4 SX3
  go_wp2_with fail
  refine (high_any _ _ _ SX4.out _).mono ?_
  rintro e w5 ⟨rfl, b5⟩
  have SX5 := Lib.hid (SX4.out.below b5)
  have B5 := Lib.hid (B4.out.trans (b5.mono B4.out.size))
  clear b5 SX4
  go_wp2_with fail
  refine (rlow_any _ _ _ SX5.out _).mono ?_
  rintro e w6 ⟨rfl, rfl⟩
  generalize lowB x f = r
  go_wp2
  go_ret
  exact ⟨ret_bool (by cases r <;> simp), B5.out⟩

theorem low_or {x y l : List S2} (h : PlainOf (x ++ y) l) (t : Int) : lowB l t = (lowB x t || lowB y t) := by
  rw [Bool.eq_iff_iff, Bool.or_eq_true, lowB_iff, lowB_iff, lowB_iff, h.2, low_append]
theorem plain_self {l : List S2} (h : Plain l) : PlainOf l l := ⟨h, fun _ => Iff.rfl⟩
theorem same_self {x l m : List S2} (h : PlainOf x l) (hm : PlainOf l m) : sameB m l = true := by rw [hm.one (plain_self h.1)]; simp [sameB]
theorem same_swap {x y l m : List S2} (h : PlainOf (x ++ y) l) (hm : PlainOf (y ++ x) m) : sameB m l = true := by
  have : PlainOf (x ++ y) m := ⟨hm.1, fun t => by rw [hm.2, low_append, low_append]; exact Or.comm⟩
  rw [this.one h]; simp [sameB]
theorem meet_swap (x y : List S2) : meetB y x = meetB x y := by
  by_cases h : Meets x y
  · rw [meetB_true h, meetB_true (meets_comm.1 h)]
  · rw [meetB_false h, meetB_false fun k => h (meets_comm.1 k)]

set_option maxHeartbeats 8000000 in
theorem pulls_any (w : World) (v0 u0 : Value) (l0 m0 : List S2) (h1 : Sp w v0 l0) (h2 : Sp w u0 m0) (t : Int) :
    Calls Try.prog 5 #[v0, u0, .int .i64 t] w fun e w' => e = .returned (.bool true) ∧ Below w.heap.size w w' := by
  have S1 := Lib.hid h1
  have S2' := Lib.hid h2
  clear h1 h2
  go_enter Try.func5, Try.ntmps5
  go_wp2_with fail
  refine (few_any _ _ _ S1.out).mono ?_
  rintro e w1 ⟨v, x, rfl, ox, ⟨lx, nx⟩, b1⟩
  have B1 := Lib.hid b1
  have SX1 := Lib.hid ox.sp
  have T1 := Lib.hid (S2'.out.below b1)
  obtain ⟨a1, c1, rfl, _, _⟩ := ox.slice
  clear ox nx b1 S1 S2'
  go_wp2_with fail
  refine (few_any _ _ _ T1.out).mono ?_
  rintro e w2 ⟨u, y, rfl, oy, ⟨ly, ny⟩, b2⟩
  have B2 := Lib.hid (B1.out.trans (b2.mono B1.out.size))
  have SX2 := Lib.hid (SX1.out.below b2)
  have SY2 := Lib.hid oy.sp
  obtain ⟨a2, c2, rfl, _, _⟩ := oy.slice
  clear oy ny b2 T1 SX1
  have J := Lib.hid (join_any _ _ _ (rows_two SX2.out SY2.out) (by show 0 + x.length + y.length < _; omega))
  have z2 := B2.out.size
  go_wp2_with fail
  refine J.out.mono ?_
  rintro e w3 ⟨v3, l, rfl, o3, hj, b3⟩
  have PO := Lib.hid (plain_two_of hj)
  have LL : l.length ≤ 40 := by have := hj.len; have e : tot [x, y] [x, y].length = 0 + x.length + y.length := rfl; omega
  have SL3 := Lib.hid o3.sp
  have H3 := ((Below.refl w2.heap.size w2).alloc (Nat.le_refl _) (.cells #[.slice a1 x.length c1, .slice a2 y.length c2] 22)).trans (b3.mono (by simp))
  have B3 := Lib.hid (B2.out.trans (H3.mono z2))
  have SX3 := Lib.hid (SX2.out.below H3)
  have SY3 := Lib.hid (SY2.out.below H3)
  obtain ⟨a3, c3, rfl, _⟩ := o3.sp.slice
  clear o3 hj b3 SX2 SY2 J H3
  have HOR := Lib.hid (low_or PO.out t)
  have HME : Hid (lowB x t = true → lowB y t = true → meetB x y = true) := fun h1 h2 => meetB_true ⟨t, lowB_iff.1 h1, lowB_iff.1 h2⟩
  go_wp2_with fail
  refine (high_any _ _ _ SL3.out _).mono ?_
  rintro e w4 ⟨rfl, b4⟩
  have SX4 := Lib.hid (SX3.out.below b4)
  have SY4 := Lib.hid (SY3.out.below b4)
  have SL4 := Lib.hid (SL3.out.below b4)
  have B4 := Lib.hid (B3.out.trans (b4.mono B3.out.size))
  clear b4 SX3 SY3 SL3
  rw [HOR.out]
  cases p : lowB x t <;> cases q : lowB y t
  all_goals
    have P := Lib.hid (congrArg not p)
    have Q := Lib.hid (congrArg not q)
  case' false.false =>
    clear p q
    go_wp2_with fail
    refine (at_bool P.out (high_any _ _ _ SX4.out _)).mono ?_
    rintro e w5 ⟨rfl, b5⟩
    have SX5 := Lib.hid (SX4.out.below b5)
    have SY5 := Lib.hid (SY4.out.below b5)
    have SL5 := Lib.hid (SL4.out.below b5)
    have B5 := Lib.hid (B4.out.trans (b5.mono B4.out.size))
    clear b5 SX4 SY4 SL4
    go_wp2_with fail
    refine (at_bool Q.out (high_any _ _ _ SY5.out _)).mono ?_
    rintro e w6 ⟨rfl, b6⟩
    have SX6 := Lib.hid (SX5.out.below b6)
    have SY6 := Lib.hid (SY5.out.below b6)
    have SL6 := Lib.hid (SL5.out.below b6)
    have B6 := Lib.hid (B5.out.trans (b6.mono B5.out.size))
    clear b6 SX5 SY5 SL5
    go_wp2_with fail
    refine (at_bool P.out (high_any _ _ _ SX6.out _)).mono ?_
    rintro e w7 ⟨rfl, b7⟩
    have SX7 := Lib.hid (SX6.out.below b7)
    have SY7 := Lib.hid (SY6.out.below b7)
    have SL7 := Lib.hid (SL6.out.below b7)
    have B7 := Lib.hid (B6.out.trans (b7.mono B6.out.size))
    clear b7 SX6 SY6 SL6
    have SX := SX7
    have SY := SY7
    have SL := SL7
    have BB := B7
    clear SX7 SY7 SL7
    obtain ⟨we, rfl⟩ : ∃ we : World, we = w7 := ⟨_, rfl⟩
  case' false.true =>
    clear p q
    go_wp2_with fail
    refine (at_bool P.out (high_any _ _ _ SX4.out _)).mono ?_
    rintro e w5 ⟨rfl, b5⟩
    have SX5 := Lib.hid (SX4.out.below b5)
    have SY5 := Lib.hid (SY4.out.below b5)
    have SL5 := Lib.hid (SL4.out.below b5)
    have B5 := Lib.hid (B4.out.trans (b5.mono B4.out.size))
    clear b5 SX4 SY4 SL4
    go_wp2_with fail
    refine (at_bool Q.out (high_any _ _ _ SY5.out _)).mono ?_
    rintro e w6 ⟨rfl, b6⟩
    have SX6 := Lib.hid (SX5.out.below b6)
    have SY6 := Lib.hid (SY5.out.below b6)
    have SL6 := Lib.hid (SL5.out.below b6)
    have B6 := Lib.hid (B5.out.trans (b6.mono B5.out.size))
    clear b6 SX5 SY5 SL5
    go_wp2_with fail
    refine (at_bool P.out (high_any _ _ _ SX6.out _)).mono ?_
    rintro e w7 ⟨rfl, b7⟩
    have SX7 := Lib.hid (SX6.out.below b7)
    have SY7 := Lib.hid (SY6.out.below b7)
    have SL7 := Lib.hid (SL6.out.below b7)
    have B7 := Lib.hid (B6.out.trans (b7.mono B6.out.size))
    clear b7 SX6 SY6 SL6
    have SX := SX7
    have SY := SY7
    have SL := SL7
    have BB := B7
    clear SX7 SY7 SL7
    obtain ⟨we, rfl⟩ : ∃ we : World, we = w7 := ⟨_, rfl⟩
  case' true.false =>
    clear p q
    go_wp2_with fail
    refine (at_bool P.out (high_any _ _ _ SX4.out _)).mono ?_
    rintro e w5 ⟨rfl, b5⟩
    have SX5 := Lib.hid (SX4.out.below b5)
    have SY5 := Lib.hid (SY4.out.below b5)
    have SL5 := Lib.hid (SL4.out.below b5)
    have B5 := Lib.hid (B4.out.trans (b5.mono B4.out.size))
    clear b5 SX4 SY4 SL4
    go_wp2_with fail
    refine (at_bool P.out (high_any _ _ _ SX5.out _)).mono ?_
    rintro e w6 ⟨rfl, b6⟩
    have SX6 := Lib.hid (SX5.out.below b6)
    have SY6 := Lib.hid (SY5.out.below b6)
    have SL6 := Lib.hid (SL5.out.below b6)
    have B6 := Lib.hid (B5.out.trans (b6.mono B5.out.size))
    clear b6 SX5 SY5 SL5
    go_wp2_with fail
    refine (at_bool Q.out (high_any _ _ _ SY6.out _)).mono ?_
    rintro e w7 ⟨rfl, b7⟩
    have SX7 := Lib.hid (SX6.out.below b7)
    have SY7 := Lib.hid (SY6.out.below b7)
    have SL7 := Lib.hid (SL6.out.below b7)
    have B7 := Lib.hid (B6.out.trans (b7.mono B6.out.size))
    clear b7 SX6 SY6 SL6
    have SX := SX7
    have SY := SY7
    have SL := SL7
    have BB := B7
    clear SX7 SY7 SL7
    obtain ⟨we, rfl⟩ : ∃ we : World, we = w7 := ⟨_, rfl⟩
  case' true.true =>
    have HM := Lib.hid (HME.out p q)
    clear p q
    go_wp2_with fail
    refine (at_bool P.out (high_any _ _ _ SX4.out _)).mono ?_
    rintro e w5 ⟨rfl, b5⟩
    have SX5 := Lib.hid (SX4.out.below b5)
    have SY5 := Lib.hid (SY4.out.below b5)
    have SL5 := Lib.hid (SL4.out.below b5)
    have B5 := Lib.hid (B4.out.trans (b5.mono B4.out.size))
    clear b5 SX4 SY4 SL4
    go_wp2_with fail
    refine (at_bool P.out (high_any _ _ _ SX5.out _)).mono ?_
    rintro e w6 ⟨rfl, b6⟩
    have SX6 := Lib.hid (SX5.out.below b6)
    have SY6 := Lib.hid (SY5.out.below b6)
    have SL6 := Lib.hid (SL5.out.below b6)
    have B6 := Lib.hid (B5.out.trans (b6.mono B5.out.size))
    clear b6 SX5 SY5 SL5
    go_wp2_with fail
    refine (at_bool Q.out (high_any _ _ _ SY6.out _)).mono ?_
    rintro e w7 ⟨rfl, b7⟩
    have SX7 := Lib.hid (SX6.out.below b7)
    have SY7 := Lib.hid (SY6.out.below b7)
    have SL7 := Lib.hid (SL6.out.below b7)
    have B7 := Lib.hid (B6.out.trans (b7.mono B6.out.size))
    clear b7 SX6 SY6 SL6
    go_wp2_with fail
    refine (at_bool HM.out (meet_any _ _ _ _ _ SX7.out SY7.out (by omega))).mono ?_
    rintro e w8 ⟨rfl, b8⟩
    have SX8 := Lib.hid (SX7.out.below b8)
    have SY8 := Lib.hid (SY7.out.below b8)
    have SL8 := Lib.hid (SL7.out.below b8)
    have B8 := Lib.hid (B7.out.trans (b8.mono B7.out.size))
    clear b8 SX7 SY7 SL7
    have SX := SX8
    have SY := SY8
    have SL := SL8
    have BB := B8
    clear SX8 SY8 SL8
    obtain ⟨we, rfl⟩ : ∃ we : World, we = w8 := ⟨_, rfl⟩
  all_goals
    have HPL := Lib.hid PO.out.1
    obtain ⟨a4, c4, ea, q1, q2, hAt⟩ := SL.out
    injection ea with ea1 _ ea2
    subst ea1 ea2
    have HAt := Lib.hid hAt
    clear hAt
    unfold maxLen at q2
    generalize hn : l.length = n at *
    have HN := Lib.hid hn
    clear hn
    go_wp2
    go_loopw [10] (fun i wr => ∃ k : Nat, 1 ≤ k ∧ k ≤ n + 1 ∧ i = .int .i64 k ∧ Below we.heap.size we wr) (fun i _ => n + 1 - (intOf i).toNat)
    case atStart => exact ⟨1, by omega, by omega, rfl, Below.refl _ _⟩
    case round =>
      obtain ⟨k, k1, kn, rfl, hb⟩ := hrel
      obtain ⟨m, rfl⟩ : ∃ m, k = m + 1 := ⟨k - 1, by omega⟩
      by_cases hlt : m + 1 < n
      · obtain ⟨b, off, rfl, hA⟩ := HAt.out (by omega)
        have c1 := (hA (m + 1) (by have := HN.out; omega)).1
        have c2 := (hA m (by have := HN.out; omega)).2
        have d1 := (hb.cell (World.block_lt_of_cell? _ _ c1)).trans c1
        have d2 := (hb.cell (World.block_lt_of_cell? _ _ c2)).trans c2
        have HA := Lib.hid hA
        have ap := plain_apart HPL.out (show m < m + 1 by omega) (by have := HN.out; omega)
        clear c1 c2 hA
        generalize fr l (m + 1) = p1 at *
        generalize tp l m = p2 at *
        have hlti : (m : Int) + 1 < (n : Int) := by omega
        go_wp2
        go_quiet (fail)
        go_wp2
        go_roundw
        case rel => exact ⟨m + 1 + 1, by omega, by omega, by go_num, below_drewN hb _⟩
        case measure => simp [intOf]; omega
      · have SX8 := Lib.hid (SX.out.below hb)
        have SY8 := Lib.hid (SY.out.below hb)
        have SL8 := Lib.hid (SL.out.below hb)
        have B8 := Lib.hid (BB.out.trans (hb.mono BB.out.size))
        clear hb
        go_wp2_with fail
        refine (awake_any _).mono ?_
        rintro e w9 ⟨rfl, b9⟩
        have SX9 := Lib.hid (SX8.out.below b9)
        have SY9 := Lib.hid (SY8.out.below b9)
        have SL9 := Lib.hid (SL8.out.below b9)
        have B9 := Lib.hid (B8.out.trans (b9.mono B8.out.size))
        clear b9 SX8 SY8 SL8
        have z9 := B9.out.size
        have J := Lib.hid (join_any _ _ _ (rows_one SL9.out) (by show 0 + l.length < _; have := HN.out; omega))
        go_wp2_with fail
        refine J.out.mono ?_
        rintro e w10 ⟨v10, j1, rfl, o10, hj, b10⟩
        have PJ := Lib.hid (plain_one_of hj)
        have H10 := ((Below.refl w9.heap.size w9).alloc (Nat.le_refl _) (.cells #[.slice a3 n c3] 22)).trans (b10.mono (by simp))
        have SX10 := Lib.hid (SX9.out.below H10)
        have SY10 := Lib.hid (SY9.out.below H10)
        have SL10 := Lib.hid (SL9.out.below H10)
        have B10 := Lib.hid (B9.out.trans (H10.mono z9))
        have SJ := Lib.hid o10.sp
        clear o10 hj b10 H10 SX9 SY9 SL9 J
        go_wp2_with fail
        refine (at_bool (same_self PO.out PJ.out) (same_any _ _ _ _ _ SJ.out SL10.out)).mono ?_
        rintro e w11 ⟨rfl, b11⟩
        have SX11 := Lib.hid (SX10.out.below b11)
        have SY11 := Lib.hid (SY10.out.below b11)
        have SL11 := Lib.hid (SL10.out.below b11)
        have B11 := Lib.hid (B10.out.trans (b11.mono B10.out.size))
        clear b11 SX10 SY10 SL10 SJ PJ
        have z11 := B11.out.size
        have J := Lib.hid (join_any _ _ _ (rows_two SY11.out SX11.out) (by show 0 + y.length + x.length < _; omega))
        go_wp2_with fail
        refine J.out.mono ?_
        rintro e w12 ⟨v12, j2, rfl, o12, hj, b12⟩
        have PJ := Lib.hid (plain_two_of hj)
        have H12 := ((Below.refl w11.heap.size w11).alloc (Nat.le_refl _) (.cells #[.slice a2 y.length c2, .slice a1 x.length c1] 22)).trans (b12.mono (by simp))
        have SX12 := Lib.hid (SX11.out.below H12)
        have SY12 := Lib.hid (SY11.out.below H12)
        have SL12 := Lib.hid (SL11.out.below H12)
        have B12 := Lib.hid (B11.out.trans (H12.mono z11))
        have SJ := Lib.hid o12.sp
        clear o12 hj b12 H12 SX11 SY11 SL11 J
        go_wp2_with fail
        refine (at_bool (same_swap PO.out PJ.out) (same_any _ _ _ _ _ SJ.out SL12.out)).mono ?_
        rintro e w13 ⟨rfl, b13⟩
        have SX13 := Lib.hid (SX12.out.below b13)
        have SY13 := Lib.hid (SY12.out.below b13)
        have B13 := Lib.hid (B12.out.trans (b13.mono B12.out.size))
        clear b13 SX12 SY12 SL12 SJ PJ
        go_wp2_with fail
        refine (meet_any _ _ _ _ _ SX13.out SY13.out (by omega)).mono ?_
        rintro e w14 ⟨rfl, b14⟩
        have SX14 := Lib.hid (SX13.out.below b14)
        have SY14 := Lib.hid (SY13.out.below b14)
        have B14 := Lib.hid (B13.out.trans (b14.mono B13.out.size))
        clear b14 SX13 SY13
        go_wp2_with fail
        refine (at_bool (meet_swap x y) (meet_any _ _ _ _ _ SY14.out SX14.out (by omega))).mono ?_
        rintro e w15 ⟨rfl, b15⟩
        have B15 := Lib.hid (B14.out.trans (b15.mono B14.out.size))
        clear b15 SX14 SY14
        generalize meetB x y = r
        go_wp2
        go_ret
        exact ⟨ret_bool (by simp), B15.out⟩

end Go.Proofs.Ytajmigiagmdoeaa.Wi
