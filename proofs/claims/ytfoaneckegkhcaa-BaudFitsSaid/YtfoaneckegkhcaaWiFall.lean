/- wire.Fall, and the document's own Fall. -/
import Derived.Test.YtfoaneckegkhcaaWiCalls
namespace Go.Proofs.Ytfoaneckegkhcaa.Wi
open Go.RowKit Go.Proofs.Ytfoaneckegkhcaa.Sp

def fallP (f t : Int) (s : S2) : Bool := decide (f ≤ s.1) && decide (s.1 < t)
def FallV (x : List S2) (f t : Int) : Int × Bool := if 0 ≤ idx (fallP f t) x then (fr x (idx (fallP f t) x).toNat, true) else (0, false)
theorem fall_hit {x : List S2} {f t : Int} {i : Nat} (e : idx (fallP f t) x = i) : FallV x f t = (fr x i, true) := by
  unfold FallV
  rw [e, if_pos (by omega)]
  simp
theorem fall_miss {x : List S2} {f t : Int} (e : idx (fallP f t) x = -1) : FallV x f t = (0, false) := by
  unfold FallV
  rw [e, if_neg (by omega)]
theorem ret_pair {v : Int × Bool} {a : Int} {b : Bool} (h : v = (a, b)) : Ending.returned (.tuple #[.int .i64 a, .bool b]) = .returned (.tuple #[.int .i64 v.1, .bool v.2]) := by subst h; rfl
/-- What a Fall hands back: of the one plain list. -/
def FallPost (w : World) (l : List S2) (f t : Int) (e : Ending) (w' : World) : Prop := ∃ x, PlainOf l x ∧ e = .returned (.tuple #[.int .i64 (FallV x f t).1, .bool (FallV x f t).2]) ∧ Below w.heap.size w w'

theorem rows_one {W : World} {v : Value} {l : List S2} (h : Sp W v l) : Rows (W.alloc (.cells #[v] 22)) (.slice (some ⟨W.heap.size, 0, none⟩) 1 1) [l] :=
  ⟨_, 1, rfl, Nat.le_refl _, by unfold maxLen; omega, fun _ => ⟨_, _, rfl, fun i hi => by
    have : i = 0 := by simp at hi; omega
    subst this
    exact ⟨v, by go_simp, h.below ((Below.refl _ _).alloc (Nat.le_refl _) _)⟩⟩⟩
theorem plain_one_of {l x : List S2} (h : JoinOf [l] x) : PlainOf l x := ⟨h.plain, fun t => by
  rw [h.low]
  constructor
  · rintro ⟨i, hi, c⟩
    have : i = 0 := by simp at hi; omega
    subst this
    exact c
  · exact fun c => ⟨0, by simp, c⟩⟩

set_option maxHeartbeats 1000000 in
theorem rfall_any (w : World) (v : Value) (l : List S2) (h : Sp w v l) (hN : Near l) (f t : Int) : Calls Try.prog 16 #[v, .int .i64 f, .int .i64 t] w (FallPost w l f t) := by
  have J := Lib.hid (rjoin_any w v l h hN)
  obtain ⟨a, cap, rfl, _⟩ := h.slice
  clear h hN
  go_enter Try.func16, Try.ntmps16
  go_wp2_with fail
  refine J.out.mono ?_
  rintro e w1 ⟨v1, x, rfl, hown, hpo, b1⟩
  have PO := Lib.hid hpo
  obtain ⟨a1, cap1, rfl, q1, q2, hAt⟩ := hown.sp
  have HAt := Lib.hid hAt
  have B1 := Lib.hid b1
  have hhit : ∀ i, i < x.length → fallP f t (fr x i, tp x i) = true → (∀ j, j < i → fallP f t (fr x j, tp x j) = false) → FallV x f t = (fr x i, true) := fun i a b c => fall_hit (idx_hit a b c)
  have hmiss : (∀ j, j < x.length → fallP f t (fr x j, tp x j) = false) → FallV x f t = (0, false) := fun a => fall_miss (idx_miss a)
  have HH := Lib.hid hhit
  have HM := Lib.hid hmiss
  clear hown hpo b1 hAt hhit hmiss
  unfold maxLen at q2
  generalize hn : x.length = n at *
  have HN := Lib.hid hn
  clear hn
  go_wp2
  go_loop [9] (fun i => ∃ k : Nat, k ≤ n ∧ i = .int .i64 k ∧ Hid (∀ j, j < k → fallP f t (fr x j, tp x j) = false)) (fun i => n - (intOf i).toNat)
  case atStart => exact ⟨0, Nat.zero_le _, rfl, fun j hj => by omega⟩
  case round =>
    obtain ⟨k, hk, rfl, hs⟩ := hrel
    by_cases hlt : k < n
    · obtain ⟨b', off', rfl, hA⟩ := HAt.out (by omega)
      have c1 := (hA k (by have := HN.out; omega)).1
      have HA := Lib.hid hA
      clear hA
      by_cases p1 : f ≤ fr x k
      · by_cases p2 : fr x k < t
        · have FV := Lib.hid (HH.out k hlt (by simp [fallP, p1, p2]) hs.out)
          go_wp2
          go_ret2
          exact ⟨x, PO.out, ret_pair FV.out, B1.out⟩
        · have ST : Hid (∀ j, j < k + 1 → fallP f t (fr x j, tp x j) = false) := fun j hj => by
            by_cases e : j = k
            · rw [e]; simp [fallP, p2]
            · exact hs.out j (by omega)
          go_wp2
          go_round
          case rel => exact ⟨k + 1, by omega, by go_num, ST⟩
          case measure => simp [intOf]; omega
      · have ST : Hid (∀ j, j < k + 1 → fallP f t (fr x j, tp x j) = false) := fun j hj => by
          by_cases e : j = k
          · rw [e]; simp [fallP, p1]
          · exact hs.out j (by omega)
        go_wp2
        go_round
        case rel => exact ⟨k + 1, by omega, by go_num, ST⟩
        case measure => simp [intOf]; omega
    · obtain rfl : k = n := by omega
      have FV := Lib.hid (HM.out hs.out)
      go_wp2
      go_ret2
      exact ⟨x, PO.out, ret_pair FV.out, B1.out⟩
theorem rows_two {W : World} {v u : Value} {x y : List S2} (hx : Sp W v x) (hy : Sp W u y) : Rows (W.alloc (.cells #[v, u] 22)) (.slice (some ⟨W.heap.size, 0, none⟩) 2 2) [x, y] :=
  ⟨_, 2, rfl, Nat.le_refl _, by unfold maxLen; omega, fun _ => ⟨_, _, rfl, fun i hi => by
    have hb : Below W.heap.size W (W.alloc (.cells #[v, u] 22)) := (Below.refl _ _).alloc (Nat.le_refl _) _
    rcases (by simp at hi; omega : i = 0 ∨ i = 1) with rfl | rfl
    · exact ⟨v, by go_simp, hx.below hb⟩
    · exact ⟨u, by go_simp, hy.below hb⟩⟩⟩
theorem plain_two_of {x y l : List S2} (h : JoinOf [x, y] l) : PlainOf (x ++ y) l := ⟨h.plain, fun t => by
  rw [h.low, low_append]
  constructor
  · rintro ⟨i, hi, c⟩
    rcases (by simp at hi; omega : i = 0 ∨ i = 1) with rfl | rfl
    · exact .inl c
    · exact .inr c
  · rintro (c | c)
    · exact ⟨0, by simp, c⟩
    · exact ⟨1, by simp, c⟩⟩

end Go.Proofs.Ytfoaneckegkhcaa.Wi
