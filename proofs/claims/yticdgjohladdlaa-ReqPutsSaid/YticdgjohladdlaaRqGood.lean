/- Layer 21: the code's isID, isPlace and Good: which requests may be. -/
import Derived.Test.YticdgjohladdlaaRqVal
import Derived.Test.YticdgjohladdlaaAb
namespace Go.Proofs.Yticdgjohladdlaa.Rq
open Go.RowKit
open Go.Proofs.Yticdgjohladdlaa.Fl (R4 z4)
set_option maxRecDepth 100000

theorem isid_is (w : World) (n : Int) (b : Bool) (h : decide (0 ≤ n ∧ n ≤ 65535) = b) : Calls Try.prog 20 #[.int .i64 n] w fun e w' => e = .returned (.bool b) ∧ w = w' := by
  have H := Lib.hid h
  clear h
  rcases (by omega : n < 0 ∨ 0 ≤ n ∧ n ≤ 65535 ∨ 0 ≤ n ∧ 65535 < n) with h | ⟨h, h'⟩ | ⟨h, h'⟩
  all_goals
    go_enter Try.func20, Try.ntmps20
    go_wp2
    go_ret
    exact ⟨ret_bool (by rw [← H.out]; first | exact (decide_eq_true (by omega)).symm | exact (decide_eq_false (by omega)).symm | exact decide_eq_decide.2 (by omega)), rfl⟩

/-- There may be such a node, such a file and such a record. -/
def plB (x : Q) : Bool := decide ((0 ≤ x.n ∧ x.n ≤ 31) ∧ (0 ≤ x.f ∧ x.f ≤ 63) ∧ 0 ≤ x.r ∧ x.r ≤ 255)
set_option maxHeartbeats 4000000 in
theorem isplace_is (w : World) (x : Q) (b : Bool) (h : plB x = b) : Calls Try.prog 21 #[qV x] w fun e w' => e = .returned (.bool b) ∧ Below w.heap.size w w' := by
  have H := Lib.hid h
  clear h
  have B0 := Lib.hid ((Below.refl w.heap.size w).alloc (Nat.le_refl _) (.cells (qA x) 25))
  obtain ⟨id, k, n, f, r, ⟨v0, v1, v2, v3⟩, key⟩ := x
  unfold qV qA
  unfold qA at B0
  unfold plB at H
  dsimp only at B0 H ⊢
  rcases (by omega : n < 0 ∨ 0 ≤ n ∧ 32 ≤ n ∨ (0 ≤ n ∧ n < 32) ∧ (f < 0 ∨ 0 ≤ f ∧ 64 ≤ f ∨ (0 ≤ f ∧ f < 64) ∧ (r < 0 ∨ 0 ≤ r ∧ 256 ≤ r ∨ 0 ≤ r ∧ r < 256))) with h | ⟨h1, h⟩ | ⟨⟨h1, h2⟩, h | ⟨h3, h⟩ | ⟨⟨h3, h4⟩, h | ⟨h5, h⟩ | ⟨h5, h⟩⟩⟩
  all_goals
    go_enter Try.func21, Try.ntmps21
    go_wp2
    go_ret
    exact ⟨ret_bool (by rw [← H.out]; first | exact (decide_eq_true (by omega)).symm | exact (decide_eq_false (by omega)).symm | exact decide_eq_decide.2 (by omega)), B0.out⟩

instance (v : R4) : Decidable (bare v) := by unfold bare; infer_instance
/-- Nothing in its record; how the code sees it. -/
theorem rec_is (v0 v1 v2 v3 : Int) (b : Bool) (h : decide (bare (v0, v1, v2, v3)) = b) (w : World) : (Op.equalIn 10000 23 (.agg #[.int .u8 v0, .int .u8 v1, .int .u8 v2, .int .u8 v3]) (.agg #[.int .u8 0, .int .u8 0, .int .u8 0, .int .u8 0])).run Try.prog w = .ok b w := by
  have := Fl.eq_rec (v0, v1, v2, v3) z4 w
  rw [← h]
  rw [show decide (bare (v0, v1, v2, v3)) = decide ((v0, v1, v2, v3) = z4) from by
    rw [decide_eq_decide]
    unfold bare z4
    simp only [Prod.mk.injEq]]
  exact this

set_option maxHeartbeats 8000000 in
theorem good_kind (w : World) (x : Q) (hk : x.k < 1 ∨ 4 < x.k ∨ x.k = 4 ∧ x.f ≠ 0 ∨ x.k = 4 ∧ x.f = 0 ∧ x.r ≠ 0) : Calls Try.prog 11 #[qV x] w fun e w' => e = .returned (.bool false) ∧ Below w.heap.size w w' := by
  have B0 := Lib.hid ((Below.refl w.heap.size w).alloc (Nat.le_refl _) (.cells (qA x) 25))
  obtain ⟨id, k, n, f, r, ⟨v0, v1, v2, v3⟩, key⟩ := x
  unfold qV qA
  unfold qA at B0
  dsimp only at B0 hk ⊢
  rcases hk with h | h | ⟨rfl, h⟩ | ⟨rfl, rfl, h⟩
  case' inl | inr.inl =>
    have n1 : ¬ k = 1 := by omega
    have n2 : ¬ k = 2 := by omega
    have n3 : ¬ k = 3 := by omega
    have n4 : ¬ k = 4 := by omega
    clear h
  all_goals
    go_enter Try.func11, Try.ntmps11
    go_wp2
    go_ret
    exact ⟨ret_bool rfl, B0.out⟩

set_option maxHeartbeats 8000000 in
theorem good_full (w : World) (x : Q) (hv : ¬ bare x.v) (hk : x.k = 4 ∧ x.f = 0 ∧ x.r = 0 ∨ x.k = 1 ∨ x.k = 3) : Calls Try.prog 11 #[qV x] w fun e w' => e = .returned (.bool false) ∧ Below w.heap.size w w' := by
  have B0 := Lib.hid ((Below.refl w.heap.size w).alloc (Nat.le_refl _) (.cells (qA x) 25))
  obtain ⟨id, k, n, f, r, ⟨v0, v1, v2, v3⟩, key⟩ := x
  have es := rec_is v0 v1 v2 v3 false (decide_eq_false hv)
  unfold qV qA
  unfold qA at B0
  clear hv
  dsimp only at B0 hk ⊢
  rcases hk with ⟨rfl, rfl, rfl⟩ | rfl | rfl
  all_goals
    go_enter Try.func11, Try.ntmps11
    go_wp2
    go_ret
    exact ⟨ret_bool rfl, B0.out⟩

/-- Its kind is one, and its record is as its kind asks. -/
def kd (x : Q) : Prop := x.k = 4 ∧ x.f = 0 ∧ x.r = 0 ∧ bare x.v ∨ x.k = 1 ∧ bare x.v ∨ x.k = 3 ∧ bare x.v ∨ x.k = 2

set_option maxHeartbeats 8000000 in
theorem good_id (w : World) (x : Q) (hk : kd x) (hi : ¬ (0 ≤ x.id ∧ x.id ≤ 65535)) : Calls Try.prog 11 #[qV x] w fun e w' => e = .returned (.bool false) ∧ Below w.heap.size w w' := by
  have B0 := Lib.hid ((Below.refl w.heap.size w).alloc (Nat.le_refl _) (.cells (qA x) 25))
  obtain ⟨id, k, n, f, r, ⟨v0, v1, v2, v3⟩, key⟩ := x
  have I := fun w => Lib.hid (isid_is w id false (decide_eq_false hi))
  unfold qV qA
  unfold qA at B0
  unfold kd at hk
  clear hi
  dsimp only at B0 hk ⊢
  rcases hk with ⟨rfl, rfl, rfl, hv⟩ | ⟨rfl, hv⟩ | ⟨rfl, hv⟩ | rfl
  case' inl | inr.inl | inr.inr.inl =>
    have es := rec_is v0 v1 v2 v3 true (decide_eq_true hv)
    clear hv
  all_goals
    go_enter Try.func11, Try.ntmps11
    go_wp2_with fail
    refine (I _).out.mono ?_
    rintro e w1 ⟨rfl, rfl⟩
    go_wp2
    go_ret
    exact ⟨ret_bool rfl, B0.out⟩

set_option maxHeartbeats 8000000 in
theorem good_place (w : World) (x : Q) (hk : kd x) (hi : 0 ≤ x.id ∧ x.id ≤ 65535) (b c : Bool) (hp : plB x = b) (hc : (b && decide (0 ≤ x.key ∧ x.key ≤ 255)) = c) : Calls Try.prog 11 #[qV x] w fun e w' => e = .returned (.bool c) ∧ Below w.heap.size w w' := by
  have B0 := Lib.hid ((Below.refl w.heap.size w).alloc (Nat.le_refl _) (.cells (qA x) 25))
  have R0 := Lib.hid (heap_alloc_new w (.cells (qA x) 25))
  have PL := fun w => Lib.hid (isplace_is w x b hp)
  clear hp
  obtain ⟨id, k, n, f, r, ⟨v0, v1, v2, v3⟩, key⟩ := x
  have I := fun w => Lib.hid (isid_is w id true (decide_eq_true hi))
  unfold qV qA at *
  unfold kd at hk
  clear hi
  dsimp only at B0 R0 PL hk hc ⊢
  have HC := Lib.hid hc
  clear hc
  rcases hk with ⟨rfl, rfl, rfl, hv⟩ | ⟨rfl, hv⟩ | ⟨rfl, hv⟩ | rfl
  case' inl | inr.inl | inr.inr.inl =>
    have es := rec_is v0 v1 v2 v3 true (decide_eq_true hv)
    clear hv
  all_goals
    go_enter Try.func11, Try.ntmps11
    go_wp2_with fail
    refine (I _).out.mono ?_
    rintro e w1 ⟨rfl, rfl⟩
    go_wp2_with fail
    refine (PL _).out.mono ?_
    rintro e w2 ⟨rfl, b2⟩
    have B2 := bTr B0.out b2
    have c9 := rc1 (bBl b2 R0.out) 9
    clear b2 B0 R0
    cases b
    · go_wp2
      go_ret
      exact ⟨ret_bool HC.out, B2.out⟩
    · rcases (by omega : key < 0 ∨ 0 ≤ key ∧ key ≤ 255 ∨ 0 ≤ key ∧ 255 < key) with h | ⟨h, h'⟩ | ⟨h, h'⟩
      all_goals
        go_wp2
        go_ret
        exact ⟨ret_bool (by rw [← HC.out]; first | exact (decide_eq_true (by omega)).symm | exact (decide_eq_false (by omega)).symm | exact decide_eq_decide.2 (by omega)), B2.out⟩

theorem good_any (w : World) (x : Q) : Calls Try.prog 11 #[qV x] w fun e w' => e = .returned (.bool (goodB x)) ∧ Below w.heap.size w w' := by
  have no : ∀ {c : Bool}, (c = goodB x) → (Calls Try.prog 11 #[qV x] w fun e w' => e = .returned (.bool c) ∧ Below w.heap.size w w') → Calls Try.prog 11 #[qV x] w fun e w' => e = .returned (.bool (goodB x)) ∧ Below w.heap.size w w' := fun h c => h ▸ c
  have fl : ∀ {p : Prop}, ¬ good x → false = goodB x := fun h => (decide_eq_false h).symm
  by_cases h1 : x.k < 1 ∨ 4 < x.k ∨ x.k = 4 ∧ x.f ≠ 0 ∨ x.k = 4 ∧ x.f = 0 ∧ x.r ≠ 0
  · exact no (fl (p := True) (by unfold good; omega)) (good_kind w x h1)
  · by_cases h2 : bare x.v ∨ x.k = 2
    · have hk : kd x := by
        rcases h2 with hb | hb
        · rcases (by omega : x.k = 4 ∧ x.f = 0 ∧ x.r = 0 ∨ x.k = 1 ∨ x.k = 3 ∨ x.k = 2) with ⟨a, b, c⟩ | a | a | a
          · exact .inl ⟨a, b, c, hb⟩
          · exact .inr (.inl ⟨a, hb⟩)
          · exact .inr (.inr (.inl ⟨a, hb⟩))
          · exact .inr (.inr (.inr a))
        · exact .inr (.inr (.inr hb))
      by_cases h3 : 0 ≤ x.id ∧ x.id ≤ 65535
      · refine no ?_ (good_place w x hk h3 _ _ rfl rfl)
        unfold plB goodB
        rw [← Bool.decide_and, decide_eq_decide]
        unfold good
        unfold kd bare at hk
        omega
      · exact no (fl (p := True) (by unfold good; omega)) (good_id w x hk h3)
    · have h4 : ¬ x.k = 2 := fun h => h2 (.inr h)
      refine no (fl (p := True) ?_) (good_full w x (fun h => h2 (.inl h)) (by omega))
      unfold good
      unfold bare at h2
      omega

end Go.Proofs.Yticdgjohladdlaa.Rq
