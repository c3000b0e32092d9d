/- The fixed fact of layer 5: that it is true; and where a line falls first. -/
import Derived.Test.YtcphjeibanedhaaSaHear
import Derived.Test.YtcphjeibanedhaaSeSpans
namespace Go.Proofs.Ytcphjeibanedhaa.Sa
open Go.RowKit Go.Proofs.Ytcphjeibanedhaa.Sp
open Go.Proofs.Ytcphjeibanedhaa.Tk (GoodP Glo)
open Go.Proofs.Ytcphjeibanedhaa.Wi (PlainOf Plain Low lowB lowB_false FallV fall_hit fall_miss idx_hit idx_miss fallP mem_fr mem_iff low_one low_nil sp_one)
open Go.Proofs.Ytcphjeibanedhaa.Se (lows lows_mem lows_in Glo_lt Glo_mono Glo_in Glo0 Loc0 good0 spans_any)
open Go.Proofs.Ytcphjeibanedhaa.Ua (arr Row frm bad tb tp te val_congr par_congr of_bad tb_frm tp_frm te_frm rput_any load_frame store_new)

/-- Of a plain list each span begins behind the one ahead of it. -/
theorem plain_before {l : List S2} (h : Plain l) {i j : Nat} (hij : i < j) (hj : j < l.length) : tp l i < fr l j := by
  have p := List.pairwise_iff_getElem.1 h.2 i j (by omega) hj hij
  simpa [Sp.tp, fr, List.getD, List.getElem?_eq_getElem hj, List.getElem?_eq_getElem (show i < l.length by omega)] using p
theorem plain_span {l : List S2} (h : Plain l) {i : Nat} (hi : i < l.length) : fr l i < tp l i := h.1 _ (mem_fr hi)
theorem plain_len {l : List S2} (h : Plain l) (b : ∀ i, i < l.length → 0 ≤ fr l i ∧ fr l i ≤ 4294967296) : l.length < 1099511627776 := by
  have up : ∀ i : Nat, i < l.length → (i : Int) ≤ fr l i := by
    intro i
    induction i with
    | zero => exact fun hi => (b 0 hi).1
    | succ i ih =>
      intro hi
      have a := ih (by omega)
      have c := plain_before h (show i < i + 1 by omega) hi
      have d := plain_span h (show i < l.length by omega)
      omega
  by_cases h0 : 0 < l.length
  · have a := up (l.length - 1) (by omega)
    have c := (b (l.length - 1) (by omega)).2
    omega
  · omega
theorem lows_short {n : Nat} {A R : Nat → Int} {F : Nat → Bool} {m : Int} {l : List S2} (h : PlainOf (lows (Glo A R n) F m 11) l) : l.length < 1099511627776 :=
  plain_len h.1 fun i hi => by
    have a := lows_in h (Int.le_refl m) (Int.le_refl (m + 176)) i hi
    have c := Glo_in A R n m
    have d := Glo_in A R n (m + 176)
    have e := plain_span h.1 hi
    omega

/-- The line falls first where it is low first. -/
theorem fall_first {L x : List S2} {f t T : Int} (hx : PlainOf L x) (h : Low L T) (hn : ∀ u, u < T → ¬ Low L u) (h0 : f ≤ T) (h1 : T < t) : FallV x f t = (T, true) := by
  obtain ⟨s, hs, a, b⟩ := (hx.2 T).2 h
  have at_ : ∀ i, i < x.length → T ≤ fr x i := fun i hi => by
    rcases Wi.ltge (fr x i) T with c | c
    · exact absurd ((hx.2 _).1 ⟨_, mem_fr hi, Int.le_refl _, plain_span hx.1 hi⟩) (hn _ c)
    · exact c
  obtain ⟨i, hi, e1, e2⟩ := mem_iff.1 hs
  have e : fr x i = T := by have := at_ i hi; omega
  have hit := fall_hit (x := x) (f := f) (t := t) (i := i) (idx_hit hi (by simp [fallP, e, h0, h1]) fun j hj => by
    have c := plain_before hx.1 hj hi
    have d := plain_span hx.1 (show j < x.length by omega)
    have k := at_ j (by omega)
    omega)
  rw [hit, e]
theorem fall_none {L x : List S2} {f t : Int} (hx : PlainOf L x) (h : ∀ u, ¬ Low L u) : FallV x f t = (0, false) :=
  fall_miss (idx_miss fun _ hj => absurd ((hx.2 _).1 ⟨_, mem_fr hj, Int.le_refl _, plain_span hx.1 hj⟩) (h _))

theorem three_congr {F G : Nat → Bool} (h : ∀ i, i < 11 → F i = G i) : (tb F, tp F, te F) = (tb G, tp G, te G) := by
  have hb : bad F = bad G := by unfold bad; rw [h 0 (by omega), h 10 (by omega)]
  unfold tb Ua.tp te
  rw [hb, val_congr 8 fun i _ c => h i (by omega), par_congr 9 fun i _ c => h i (by omega)]

/-- A frame whose first bit is low is heard from its beginning on. -/
theorem hear_lows {n n' : Nat} {A R A' R' : Nat → Int} (g : Calm n A R 10000) (g' : Calm n' A' R' 10000) {m : Int} (m0 : 0 ≤ m) (m1 : m ≤ 1073741824) {F : Nat → Bool} (hF : F 0 = false) {l x : List S2} (h : PlainOf (lows (Glo A R n) F m 11) l) (hx : PlainOf l x) {f t : Int} (h0 : f ≤ Glo A R n m) (h1 : Glo A R n m < t) :
    HearV x l A' R' n' f t = (tb F, tp F, te F) := by
  have hx' : PlainOf (lows (Glo A R n) F m 11) x := ⟨hx.1, fun t => (hx.2 t).trans (h.2 t)⟩
  have z : m + 16 * ((0 : Nat) : Int) = m := by omega
  have f := fall_first (f := f) (t := t) hx' (T := Glo A R n m) ⟨_, lows_mem.2 ⟨0, by omega, hF, rfl⟩, by rw [z]; exact Int.le_refl _, by rw [z]; exact Glo_lt g.good m0 (by omega) (by omega)⟩ (fun u hu ⟨s, hs, a, _⟩ => by
    obtain ⟨i, _, _, rfl⟩ := lows_mem.1 hs
    have := Glo_mono (A := A) (R := R) (n := n) (show m ≤ m + 16 * (i : Int) by omega)
    simp only at a
    omega) h0 h1
  unfold HearV
  rw [f]
  exact three_congr fun i hi => heard_true g g' m0 m1 h i hi

theorem steps_nil (w : World) (A R : Nat → Int) : Tk.Steps w (.slice none 0 0) 0 A R := .inl ⟨none, 0, rfl, by unfold maxLen; omega, rfl⟩
def one (x : Int) (_ : Nat) : Int := x
theorem steps_one (W : World) (a b : Int) : Tk.Steps (W.alloc (.cells #[.int .i64 a, .int .i64 b] 41)) (.slice (some ⟨W.heap.size, 0, none⟩) 1 1) 1 (one a) (one b) := by
  refine .inr ⟨_, _, _, rfl, by omega, by unfold maxLen; omega, fun i hi => ?_⟩
  obtain rfl : i = 0 := by omega
  exact ⟨by go_simp; rfl, by go_simp; rfl⟩
theorem calm_one (r : Int) (h : -10000 ≤ r ∧ r ≤ 10000) : Calm 1 (one 0) (one r) 10000 := by
  refine ⟨⟨by omega, fun i hi => ?_, fun i hi => ?_, fun i hi => by omega⟩, by omega, fun i hi => h⟩
  · simp [one]
  · simp only [one]; omega
theorem glo_500 : Glo (one 0) (one 9000) 1 500 < 2000 := by
  have g := calm_one 9000 (by omega)
  have b := PP_span g (show (0 : Int) ≤ 600 by omega)
  rw [Tk.PP_zero g.good] at b
  have := Glo_le (A := one 0) (R := one 9000) (n := 1) (a := 500) (u := 600) (by omega) (by omega)
  omega
theorem sp_nil (w : World) : Sp w (.slice none 0 0) [] := ⟨none, 0, rfl, Nat.le_refl _, by unfold maxLen; omega, fun h => by simp at h⟩

theorem hear_none {A R : Nat → Int} {n : Nat} {x : List S2} {f t : Int} (hx : PlainOf [] x) : HearV x [] A R n f t = (0, false, 3) := by
  unfold HearV; rw [fall_none hx fun _ => low_nil]; rfl
theorem hear_short {A R : Nat → Int} {x : List S2} (hx : PlainOf [(5, 6)] x) : HearV x [(5, 6)] A R 0 0 2000 = (0, false, 2) := by
  have f := fall_first (f := 0) (t := 2000) hx (T := 5) (low_one.2 (by simp)) (fun u hu h => by have := low_one.1 h; simp at this; omega) (by omega) (by omega)
  unfold HearV
  rw [f]
  have hb : bad (heard (lowB [(5, 6)]) (Glo A R 0) (Tk.Loc A R 0 5)) = true := by
    have e : heard (lowB [(5, 6)]) (Glo A R 0) (Tk.Loc A R 0 5) 0 = true := by
      unfold heard
      rw [Loc0 _ _ 5 (by omega) (by omega), Glo0 _ _ _ (by omega) (by omega), Glo0 _ _ _ (by omega) (by omega), Glo0 _ _ _ (by omega) (by omega)]
      decide
    unfold bad; rw [e]; rfl
  obtain ⟨e1, e2, e3⟩ := of_bad hb
  simp only [if_true]
  rw [← e1, ← e2, ← e3]

theorem at_hear {w : World} {l : List S2} {A R : Nat → Int} {n : Nat} {f t a c : Int} {b : Bool} (h : ∀ x, PlainOf l x → HearV x l A R n f t = (a, b, c)) {e : Ending} {w' : World} (p : HearPost w l A R n f t e w') : e = .returned (.tuple #[.int .u8 a, .bool b, .int .i64 c]) ∧ Below w.heap.size w w' := by
  obtain ⟨x, hx, he, hb⟩ := p
  rw [h x hx] at he
  exact ⟨he, hb⟩

set_option maxHeartbeats 1000000 in
theorem awake_any (w : World) : Calls Try.prog 6 #[] w fun e w' => e = .returned (.bool true) ∧ Below w.heap.size w w' := by
  have G1 := Lib.hid (calm_one 9000 (by omega))
  have G2 := Lib.hid (calm_one (-9000) (by omega))
  have T0 : Hid (tb (frm 90 true) = 90 ∧ tp (frm 90 true) = true ∧ te (frm 90 true) = 0) := ⟨tb_frm 90 true (by omega) (by omega), tp_frm 90 true, te_frm 90 true⟩
  have F0 : Hid (frm 90 true 0 = false) := Ua.frm_0 90 true
  go_enter Try.func6, Try.ntmps6
  go_wp2_with fail
  refine (rput_any _ 90 true (by omega) (by omega)).mono ?_
  rintro e w1 ⟨rfl, b1⟩
  have B1 := Lib.hid (b1.alloc b1.size (.cells (arr (frm 90 true)) 34))
  have R1 := Lib.hid (Row.new w1 (frm 90 true))
  clear b1
  generalize frm 90 true = F at *
  have s1 := steps_one (w1.alloc (.cells (arr F) 34)) 0 9000
  have bb := (Below.refl _ _).alloc (Nat.le_refl _) (.cells #[.int .i64 0, .int .i64 9000] 41) (B := (w1.alloc (.cells (arr F) 34)).heap.size) (w := (w1.alloc (.cells (arr F) 34)))
  have B2 := Lib.hid (B1.out.trans (bb.mono B1.out.size))
  have R2 := Lib.hid (R1.out.below bb R1.out.lt)
  rw [show (w1.alloc (.cells (arr F) 34)).heap.size = w1.heap.size + 1 by simp] at s1
  have S1 := Lib.hid s1
  clear s1 bb B1 R1
  go_wp2_with (first
    | ((with_reducible refine store_new (o := ⟨none, _, _, _, _, _⟩) rfl _ _ rfl F ?_ ?_ ?_); (exact rfl); (exact rfl))
    | ((with_reducible refine load_frame (o := ⟨some 15, _, _, _, _, _⟩) rfl _ rfl _ _ ?_ R2.out ?_); (exact rfl)))
  refine (spans_any _ _ 1 (one 0) (one 9000) S1.out G1.out.good 500 (by omega) (by omega) F).mono ?_
  rintro e w2 ⟨v1, l, rfl, o2, p2, b2⟩
  have B3 := Lib.hid (B2.out.trans (b2.mono B2.out.size))
  have HL := Lib.hid (lows_short p2)
  have P2 := Lib.hid p2
  have Q2 := Lib.hid (o2.sp.below ((Below.refl _ _).alloc (Nat.le_refl _) (.cells #[.int .i64 0, .int .i64 (-9000)] 41)))
  clear o2 p2 b2 S1 R2 B2
  have S2 := Lib.hid (steps_one w2 0 (-9000))
  have z3 := B3.out.size
  go_wp2_with fail
  refine (hear_any _ _ _ l Q2.out HL.out 1 (one 0) (one (-9000)) S2.out G2.out.good 0 2000).mono ?_
  intro e w3 hp
  obtain ⟨rfl, b3⟩ := at_hear (fun x hx => by rw [hear_lows G1.out G2.out (by omega) (by omega) F0.out P2.out hx (Glo_in _ _ _ _).1 glo_500, T0.out.1, T0.out.2.1, T0.out.2.2]) hp
  have B4 := Lib.hid ((B3.out.alloc z3 (.cells #[.int .i64 0, .int .i64 (-9000)] 41)).trans (b3.mono (by simp; omega)))
  clear hp b3 S2 Q2 P2 B3
  go_wp2_with fail
  refine (hear_any _ _ _ [] (sp_nil _) (by decide) 0 (one 0) (one 0) (steps_nil _ _ _) (good0 _ _) 0 2000).mono ?_
  intro e w4 hp
  obtain ⟨rfl, b4⟩ := at_hear (fun x hx => hear_none hx) hp
  have B5 := Lib.hid (B4.out.trans (b4.mono B4.out.size))
  clear hp b4 B4
  have z5 := B5.out.size
  go_wp2_with fail
  refine (hear_any _ _ _ [(5, 6)] (sp_one w4 5 6) (by decide) 0 (one 0) (one 0) (steps_nil _ _ _) (good0 _ _) 0 2000).mono ?_
  intro e w5 hp
  obtain ⟨rfl, b5⟩ := at_hear (fun x hx => hear_short hx) hp
  have B6 := Lib.hid ((B5.out.alloc z5 (.cells #[.int .i64 5, .int .i64 6] 44)).trans (b5.mono (by simp; omega)))
  clear hp b5 B5
  go_wp2
  go_ret
  exact ⟨rfl, B6.out⟩

end Go.Proofs.Ytcphjeibanedhaa.Sa
