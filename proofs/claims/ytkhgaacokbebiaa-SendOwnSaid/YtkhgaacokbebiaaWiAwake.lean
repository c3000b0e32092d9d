/- The fixed fact of layer 2, that it is true; and the small words of its statements. -/
import Derived.Test.YtkhgaacokbebiaaWiMeet
import Derived.Laws.AppendOwnNone
namespace Go.Proofs.Ytkhgaacokbebiaa.Wi
open Go.RowKit Go.Proofs.Ytkhgaacokbebiaa.Sp

theorem sp_one (W : World) (a b : Int) : Sp (W.alloc (.cells #[.int .i64 a, .int .i64 b] 37)) (.slice (some ⟨W.heap.size, 0, none⟩) 1 1) [(a, b)] :=
  ⟨_, 1, rfl, Nat.le_refl _, by unfold maxLen; omega, fun _ => ⟨_, _, rfl, fun i hi => by
    have : i = 0 := by simp at hi; omega
    subst this
    exact ⟨by go_simp; rfl, by go_simp; rfl⟩⟩⟩
theorem sp_two (W : World) (a b c d : Int) : Sp (W.alloc (.cells #[.int .i64 a, .int .i64 b, .int .i64 c, .int .i64 d] 37)) (.slice (some ⟨W.heap.size, 0, none⟩) 2 2) [(a, b), (c, d)] :=
  ⟨_, 2, rfl, Nat.le_refl _, by unfold maxLen; omega, fun _ => ⟨_, _, rfl, fun i hi => by
    rcases (by simp at hi; omega : i = 0 ∨ i = 1) with rfl | rfl
    · exact ⟨by go_simp; rfl, by go_simp; rfl⟩
    · exact ⟨by go_simp; rfl, by go_simp; rfl⟩⟩⟩
theorem rows_two {W : World} {v u : Value} {x y : List S2} (hx : Sp W v x) (hy : Sp W u y) : Rows (W.alloc (.cells #[v, u] 32)) (.slice (some ⟨W.heap.size, 0, none⟩) 2 2) [x, y] :=
  ⟨_, 2, rfl, Nat.le_refl _, by unfold maxLen; omega, fun _ => ⟨_, _, rfl, fun i hi => by
    have hb : Below W.heap.size W (W.alloc (.cells #[v, u] 32)) := (Below.refl _ _).alloc (Nat.le_refl _) _
    rcases (by simp at hi; omega : i = 0 ∨ i = 1) with rfl | rfl
    · exact ⟨v, by go_simp, hx.below hb⟩
    · exact ⟨u, by go_simp, hy.below hb⟩⟩⟩
theorem plain_two_of {x y l : List S2} (h : JoinOf [x, y] l) : PlainOf (x ++ y) l := ⟨h.plain, fun t => by
  rw [h.low, low_append]
  constructor
  · rintro ⟨i, hi, c⟩
    rcases (by simp at hi; omega : i = 0 ∨ i = 1) with rfl | rfl
    · exact .inl c
    · exact .inr c
  · rintro (c | c)
    · exact ⟨0, by simp, c⟩
    · exact ⟨1, by simp, c⟩⟩
theorem PlainOf.one {x a b : List S2} (ha : PlainOf x a) (hb : PlainOf x b) : a = b := plain_one ha.1 hb.1 fun t => (ha.2 t).trans (hb.2 t).symm

def L8 : List S2 := [(0, 8)]
theorem plain8 : Plain L8 := ⟨fun s h => by simp [L8] at h; subst h; decide, List.pairwise_singleton _ _⟩
theorem low8 (t : Int) : Low L8 t ↔ 0 ≤ t ∧ t < 8 := low_one
theorem plainOf8 : PlainOf L8 L8 := ⟨plain8, fun _ => Iff.rfl⟩
theorem join8 {l : List S2} (h : JoinOf [[(0, 5), (9, 9)], [(5, 8)]] l) : l = L8 := by
  have p := plain_two_of h
  refine plain_one p.1 plain8 fun t => ?_
  rw [p.2, low8]
  show Low ((0, 5) :: (9, 9) :: (5, 8) :: []) t ↔ _
  rw [low_cons, low_cons, low_one]
  simp only
  omega
theorem fall8a : FallV L8 (-1) 5 = (0, true) := fall_hit (i := 0) (idx_hit (by decide) (by decide) (fun j hj => by omega))
theorem fall8b : FallV L8 1 9 = (0, false) := fall_miss (idx_miss fun j hj => by
  have : j = 0 := by simp [L8] at hj; omega
  subst this; decide)
theorem fall_at {w : World} {f t : Int} {v : Int × Bool} {e : Ending} {w' : World} (hv : FallV L8 f t = v) (h : FallPost w L8 f t e w') : e = .returned (.tuple #[.int .i64 v.1, .bool v.2]) ∧ Below w.heap.size w w' := by
  obtain ⟨x, hx, he, hb⟩ := h
  have : x = L8 := hx.one plainOf8
  subst this
  rw [hv] at he
  exact ⟨he, hb⟩
theorem same8 : sameB L8 [(0, 8)] = true := by simp [sameB, L8]
theorem high7 : (!lowB L8 7) = false := by simp [lowB, inB, L8]
theorem high8 : (!lowB L8 8) = true := by simp [lowB, inB, L8]
theorem meet7 : meetB L8 [(7, 9)] = true := meetB_true ⟨7, (low8 7).2 (by omega), low_one.2 (by simp)⟩
theorem meet8 : meetB L8 [(8, 9)] = false := meetB_false fun ⟨t, h1, h2⟩ => by
  have a := (low8 t).1 h1
  have b := low_one.1 h2
  simp at b
  omega

end Go.Proofs.Ytkhgaacokbebiaa.Wi
