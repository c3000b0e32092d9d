/- The fixed fact of layer 2, that it is true; and the small words of its statements. -/
import Derived.Test.YtajmigiagmdoeaaWiMeet
import Derived.Laws.AppendOwnNone
namespace Go.Proofs.Ytajmigiagmdoeaa.Wi
open Go.RowKit Go.Proofs.Ytajmigiagmdoeaa.Sp

theorem sp_one (W : World) (a b : Int) : Sp (W.alloc (.cells #[.int .i64 a, .int .i64 b] 33)) (.slice (some ⟨W.heap.size, 0, none⟩) 1 1) [(a, b)] :=
  ⟨_, 1, rfl, Nat.le_refl _, by unfold maxLen; omega, fun _ => ⟨_, _, rfl, fun i hi => by
    have : i = 0 := by simp at hi; omega
    subst this
    exact ⟨by go_simp; rfl, by go_simp; rfl⟩⟩⟩
theorem sp_two (W : World) (a b c d : Int) : Sp (W.alloc (.cells #[.int .i64 a, .int .i64 b, .int .i64 c, .int .i64 d] 33)) (.slice (some ⟨W.heap.size, 0, none⟩) 2 2) [(a, b), (c, d)] :=
  ⟨_, 2, rfl, Nat.le_refl _, by unfold maxLen; omega, fun _ => ⟨_, _, rfl, fun i hi => by
    rcases (by simp at hi; omega : i = 0 ∨ i = 1) with rfl | rfl
    · exact ⟨by go_simp; rfl, by go_simp; rfl⟩
    · exact ⟨by go_simp; rfl, by go_simp; rfl⟩⟩⟩
theorem rows_two {W : World} {v u : Value} {x y : List S2} (hx : Sp W v x) (hy : Sp W u y) : Rows (W.alloc (.cells #[v, u] 22)) (.slice (some ⟨W.heap.size, 0, none⟩) 2 2) [x, y] :=
  ⟨_, 2, rfl, Nat.le_refl _, by unfold maxLen; omega, fun _ => ⟨_, _, rfl, fun i hi => by
    have hb : Below W.heap.size W (W.alloc (.cells #[v, u] 22)) := (Below.refl _ _).alloc (Nat.le_refl _) _
    rcases (by simp at hi; omega : i = 0 ∨ i = 1) with rfl | rfl
    · exact ⟨v, by go_simp, hx.below hb⟩
    · exact ⟨u, by go_simp, hy.below hb⟩⟩⟩
theorem plain_two_of {x y l : List S2} (h : JoinOf [x, y] l) : PlainOf (x ++ y) l := ⟨h.plain, fun t => by
  rw [h.low, low_append]
  constructor
  · rintro ⟨i, hi, c⟩
    rcases (by simp at hi; omega : i = 0 ∨ i = 1) with rfl | rfl
    · exact .inl c
    · exact .inr c
  · rintro (c | c)
    · exact ⟨0, by simp, c⟩
    · exact ⟨1, by simp, c⟩⟩
theorem PlainOf.one {x a b : List S2} (ha : PlainOf x a) (hb : PlainOf x b) : a = b := plain_one ha.1 hb.1 fun t => (ha.2 t).trans (hb.2 t).symm

def L8 : List S2 := [(0, 8)]
theorem plain8 : Plain L8 := ⟨fun s h => by simp [L8] at h; subst h; decide, List.pairwise_singleton _ _⟩
theorem low8 (t : Int) : Low L8 t ↔ 0 ≤ t ∧ t < 8 := low_one
theorem plainOf8 : PlainOf L8 L8 := ⟨plain8, fun _ => Iff.rfl⟩
theorem join8 {l : List S2} (h : JoinOf [[(0, 5), (9, 9)], [(5, 8)]] l) : l = L8 := by
  have p := plain_two_of h
  refine plain_one p.1 plain8 fun t => ?_
  rw [p.2, low8]
  show Low ((0, 5) :: (9, 9) :: (5, 8) :: []) t ↔ _
  rw [low_cons, low_cons, low_one]
  simp only
  omega
theorem fall8a : FallV L8 (-1) 5 = (0, true) := fall_hit (i := 0) (idx_hit (by decide) (by decide) (fun j hj => by omega))
theorem fall8b : FallV L8 1 9 = (0, false) := fall_miss (idx_miss fun j hj => by
  have : j = 0 := by simp [L8] at hj; omega
  subst this; decide)
theorem fall_at {w : World} {f t : Int} {v : Int × Bool} {e : Ending} {w' : World} (hv : FallV L8 f t = v) (h : FallPost w L8 f t e w') : e = .returned (.tuple #[.int .i64 v.1, .bool v.2]) ∧ Below w.heap.size w w' := by
  obtain ⟨x, hx, he, hb⟩ := h
  have : x = L8 := hx.one plainOf8
  subst this
  rw [hv] at he
  exact ⟨he, hb⟩
theorem same8 : sameB L8 [(0, 8)] = true := by simp [sameB, L8]
theorem high7 : (!lowB L8 7) = false := by simp [lowB, inB, L8]
theorem high8 : (!lowB L8 8) = true := by simp [lowB, inB, L8]
theorem meet7 : meetB L8 [(7, 9)] = true := meetB_true ⟨7, (low8 7).2 (by omega), low_one.2 (by simp)⟩
theorem meet8 : meetB L8 [(8, 9)] = false := meetB_false fun ⟨t, h1, h2⟩ => by
  have a := (low8 t).1 h1
  have b := low_one.1 h2
  simp at b
  omega

set_option maxHeartbeats 2000000 in
theorem awake_any (w : World) : Calls Try.prog 7 #[] w fun e w' => e = .returned (.bool true) ∧ Below w.heap.size w w' := by
  have hb1 : Below w.heap.size w (w.alloc (.cells #[.int .i64 0, .int .i64 5, .int .i64 9, .int .i64 9] 33)) := (Below.refl _ _).alloc (Nat.le_refl _) _
  have hs1 := sp_two w 0 5 9 9
  have hs2 := sp_one (w.alloc (.cells #[.int .i64 0, .int .i64 5, .int .i64 9, .int .i64 9] 33)) 5 8
  have j := join_any _ _ _ (rows_two (hs1.below ((Below.refl _ _).alloc (Nat.le_refl _) (.cells #[.int .i64 5, .int .i64 8] 33))) hs2) (by decide)
  have ez : (w.alloc (.cells #[.int .i64 0, .int .i64 5, .int .i64 9, .int .i64 9] 33)).heap.size = w.heap.size + 1 := by simp
  have ez2 : ((w.alloc (.cells #[.int .i64 0, .int .i64 5, .int .i64 9, .int .i64 9] 33)).alloc (.cells #[.int .i64 5, .int .i64 8] 33)).heap.size = w.heap.size + 1 + 1 := by simp
  rw [ez2, ez] at j
  have J := Lib.hid j
  have HB1 := Lib.hid hb1
  clear j hs1 hs2 ez ez2 hb1
  go_enter Try.func7, Try.ntmps7
  go_wp2_with fail
  refine J.out.mono ?_
  rintro e w1 ⟨v1, l, rfl, hown, hj, b1⟩
  have e8 := join8 hj
  subst e8
  have S1 := Lib.hid hown.sp
  have B1 : Hid (Below w.heap.size w w1) := ((HB1.out.alloc (by simp) _).alloc (by simp; omega) _).trans (b1.mono (by simp; omega))
  obtain ⟨a1, c1, rfl, _⟩ := hown.sp.slice
  clear hown hj b1
  go_wp2_with fail
  refine (fall_any _ _ _ S1.out (by decide) _ _).mono ?_
  rintro e w2 hf
  obtain ⟨rfl, b2⟩ := fall_at fall8a hf
  have S2 := Lib.hid (S1.out.below b2)
  have B2 := Lib.hid (B1.out.trans (b2.mono B1.out.size))
  clear hf b2
  go_wp2_with fail
  refine (fall_any _ _ _ S2.out (by decide) _ _).mono ?_
  rintro e w3 hf
  obtain ⟨rfl, b3⟩ := fall_at fall8b hf
  have S3 := Lib.hid (S2.out.below b3)
  have B3 := Lib.hid (B2.out.trans (b3.mono B2.out.size))
  clear hf b3
  have T4 := Lib.hid (S3.out.below ((Below.refl _ _).alloc (Nat.le_refl _) (.cells #[.int .i64 0, .int .i64 8] 33)))
  have z3 := B3.out.size
  go_wp2_with fail
  refine (at_bool same8 (same_any _ _ _ _ _ T4.out (sp_one w3 0 8))).mono ?_
  rintro e w4 ⟨rfl, b4⟩
  have S4 := Lib.hid (T4.out.below b4)
  have B4 := Lib.hid ((B3.out.alloc z3 _).trans (b4.mono (by simp; omega)))
  clear b4
  go_wp2_with fail
  refine (at_bool high7 (high_any _ _ _ S4.out _)).mono ?_
  rintro e w5 ⟨rfl, b5⟩
  have S5 := Lib.hid (S4.out.below b5)
  have B5 := Lib.hid (B4.out.trans (b5.mono B4.out.size))
  clear b5
  go_wp2_with fail
  refine (at_bool high8 (high_any _ _ _ S5.out _)).mono ?_
  rintro e w6 ⟨rfl, b6⟩
  have S6 := Lib.hid (S5.out.below b6)
  have B6 := Lib.hid (B5.out.trans (b6.mono B5.out.size))
  clear b6
  have T7 := Lib.hid (S6.out.below ((Below.refl _ _).alloc (Nat.le_refl _) (.cells #[.int .i64 7, .int .i64 9] 33)))
  have z6 := B6.out.size
  go_wp2_with fail
  refine (at_bool meet7 (meet_any _ _ _ _ _ T7.out (sp_one w6 7 9) (by decide))).mono ?_
  rintro e w7 ⟨rfl, b7⟩
  have S7 := Lib.hid (T7.out.below b7)
  have B7 := Lib.hid ((B6.out.alloc z6 _).trans (b7.mono (by simp; omega)))
  clear b7
  have T8 := Lib.hid (S7.out.below ((Below.refl _ _).alloc (Nat.le_refl _) (.cells #[.int .i64 8, .int .i64 9] 33)))
  have z7 := B7.out.size
  go_wp2_with fail
  refine (at_bool meet8 (meet_any _ _ _ _ _ T8.out (sp_one w7 8 9) (by decide))).mono ?_
  rintro e w8 ⟨rfl, b8⟩
  have B8 := Lib.hid ((B7.out.alloc z7 _).trans (b8.mono (by simp; omega)))
  clear b8
  go_wp2
  go_ret
  exact ⟨rfl, B8.out⟩

end Go.Proofs.Ytajmigiagmdoeaa.Wi
