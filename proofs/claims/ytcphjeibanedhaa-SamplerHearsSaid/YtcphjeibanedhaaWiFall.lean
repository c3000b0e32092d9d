/- wire.Fall, and the document's own Fall. -/
import Derived.Test.YtcphjeibanedhaaWiCalls
namespace Go.Proofs.Ytcphjeibanedhaa.Wi
open Go.RowKit Go.Proofs.Ytcphjeibanedhaa.Sp

def fallP (f t : Int) (s : S2) : Bool := decide (f ≤ s.1) && decide (s.1 < t)
def FallV (x : List S2) (f t : Int) : Int × Bool := if 0 ≤ idx (fallP f t) x then (fr x (idx (fallP f t) x).toNat, true) else (0, false)
theorem fall_hit {x : List S2} {f t : Int} {i : Nat} (e : idx (fallP f t) x = i) : FallV x f t = (fr x i, true) := by
  unfold FallV
  rw [e, if_pos (by omega)]
  simp
theorem fall_miss {x : List S2} {f t : Int} (e : idx (fallP f t) x = -1) : FallV x f t = (0, false) := by
  unfold FallV
  rw [e, if_neg (by omega)]
theorem ret_pair {v : Int × Bool} {a : Int} {b : Bool} (h : v = (a, b)) : Ending.returned (.tuple #[.int .i64 a, .bool b]) = .returned (.tuple #[.int .i64 v.1, .bool v.2]) := by subst h; rfl
/-- What a Fall hands back: of the one plain list. -/
def FallPost (w : World) (l : List S2) (f t : Int) (e : Ending) (w' : World) : Prop := ∃ x, PlainOf l x ∧ e = .returned (.tuple #[.int .i64 (FallV x f t).1, .bool (FallV x f t).2]) ∧ Below w.heap.size w w'

theorem fclos_any (w : World) (B C : Nat) (f t : Int) (hf : w.cell? ⟨B, 0, none⟩ = some (.int .i64 f)) (ht : w.cell? ⟨C, 0, none⟩ = some (.int .i64 t)) : PredS 30 #[.pointer (some ⟨B, 0, none⟩), .pointer (some ⟨C, 0, none⟩)] (fallP f t) w := fun W a b hb => by
  have hltB := World.block_lt_of_cell? _ _ hf
  have hltC := World.block_lt_of_cell? _ _ ht
  have d := (hb.cell hltB).trans hf
  have d' := (hb.cell hltC).trans ht
  have hz := hb.size
  have hBW : B < W.heap.size := Nat.lt_of_lt_of_le hltB hz
  have hCW : C < W.heap.size := Nat.lt_of_lt_of_le hltC hz
  have HB := Lib.hid (hb.alloc hz (.cells #[.int .i64 a, .int .i64 b] 44))
  clear hf ht hltB hltC hb
  show Calls Try.prog 30 #[.agg #[.int .i64 a, .int .i64 b], .pointer (some ⟨B, 0, none⟩), .pointer (some ⟨C, 0, none⟩)] W _
  by_cases h1 : f ≤ a
  · by_cases h2 : a < t
    · have e : fallP f t (a, b) = true := by simp [fallP, h1, h2]
      rw [e]
      clear e
      go_enter Try.func30, Try.ntmps30
      go_wp2
      go_ret
      exact ⟨rfl, HB.out⟩
    · have e : fallP f t (a, b) = false := by simp [fallP, h2]
      rw [e]
      clear e
      go_enter Try.func30, Try.ntmps30
      go_wp2
      go_ret
      exact ⟨rfl, HB.out⟩
  · have e : fallP f t (a, b) = false := by simp [fallP, h1]
    rw [e]
    clear e
    go_enter Try.func30, Try.ntmps30
    go_wp2
    go_ret
    exact ⟨rfl, HB.out⟩

theorem rows_one {W : World} {v : Value} {l : List S2} (h : Sp W v l) : Rows (W.alloc (.cells #[v] 22)) (.slice (some ⟨W.heap.size, 0, none⟩) 1 1) [l] :=
  ⟨_, 1, rfl, Nat.le_refl _, by unfold maxLen; omega, fun _ => ⟨_, _, rfl, fun i hi => by
    have : i = 0 := by simp at hi; omega
    subst this
    exact ⟨v, by go_simp, h.below ((Below.refl _ _).alloc (Nat.le_refl _) _)⟩⟩⟩
theorem plain_one_of {l x : List S2} (h : JoinOf [l] x) : PlainOf l x := ⟨h.plain, fun t => by
  rw [h.low]
  constructor
  · rintro ⟨i, hi, c⟩
    have : i = 0 := by simp at hi; omega
    subst this
    exact c
  · exact fun c => ⟨0, by simp, c⟩⟩

set_option maxHeartbeats 1000000 in
theorem fall_any (w : World) (v : Value) (l : List S2) (h : Sp w v l) (hlen : l.length < 1099511627776) (f t : Int) : Calls Try.prog 16 #[v, .int .i64 f, .int .i64 t] w (FallPost w l f t) := by
  have eg : ∀ args w, (callFunc 30 args).run Try.prog w = .ok (.enter 30 args) w := enters_of Try.func30 (by kernel_rfl) rfl
  have hb2 : Below w.heap.size w ((w.alloc (.cells #[.int .i64 f] 3)).alloc (.cells #[.int .i64 t] 3)) := ((Below.refl _ _).alloc (Nat.le_refl _) _).alloc (by simp) _
  have j := join_any (((w.alloc (.cells #[.int .i64 f] 3)).alloc (.cells #[.int .i64 t] 3)).alloc (.cells #[v] 22)) _ [l] (rows_one (h.below hb2)) (by show 0 + l.length < _; omega)
  have ez : ((w.alloc (.cells #[.int .i64 f] 3)).alloc (.cells #[.int .i64 t] 3)).heap.size = w.heap.size + 1 + 1 := by simp
  rw [ez] at j
  clear ez
  have J := Lib.hid j
  have HB2 := Lib.hid hb2
  have EG := Lib.hid eg
  obtain ⟨a, cap, rfl, _⟩ := h.slice
  clear j hb2 eg h
  have hmf : ∀ (fn : Fn) (first cap : Array Value) (w : World), (Instr.makeFunc fn first cap).run Try.prog w = .ok (.func fn first cap) w := fun _ _ _ _ => rfl
  go_enter Try.func16, Try.ntmps16
  go_wp2_with fail
  refine J.out.mono ?_
  rintro e w1 ⟨v1, x, rfl, hown, hj, b1⟩
  have PO := Lib.hid (plain_one_of hj)
  have SP1 := Lib.hid hown.sp
  have B1 : Hid (Below w.heap.size w w1) := (HB2.out.alloc (by first | (simp; done) | (simp; omega)) _).trans (b1.mono (by first | (simp; done) | (simp; omega)))
  have f1 : w1.cell? ⟨w.heap.size, 0, none⟩ = some (.int .i64 f) := (b1.cell (by first | (simp; done) | (simp; omega))).trans (by go_simp)
  have f2 : w1.cell? ⟨w.heap.size + 1, 0, none⟩ = some (.int .i64 t) := (b1.cell (by first | (simp; done) | (simp; omega))).trans (by go_simp)
  have IC := Lib.hid (index_any w1 v1 x 30 _ _ EG.out SP1.out (fclos_any _ _ _ f t f1 f2))
  clear hown hj b1 f1 f2
  rcases idx_cases (fallP f t) x with ⟨i, hi, _, _, e⟩ | ⟨_, e⟩
  · have FV := Lib.hid (fall_hit e)
    rw [e] at IC
    clear e
    go_wp2_with fail
    refine IC.out.mono ?_
    rintro e w2 ⟨rfl, b2⟩
    have SP2 := Lib.hid (SP1.out.below b2)
    obtain ⟨a1, cap1, rfl, q1, q2, hAt⟩ := SP2.out
    obtain ⟨b', off', rfl, hA⟩ := hAt (by omega)
    have c1 := (hA i hi).1
    have HA := Lib.hid hA
    have HAt := Lib.hid hAt
    have B2 := Lib.hid (B1.out.trans (b2.mono B1.out.size))
    clear hA hAt b2
    unfold maxLen at q2
    generalize hn : x.length = n at *
    clear hn
    go_wp2
    go_ret2
    exact ⟨x, PO.out, ret_pair FV.out, B2.out⟩
  · have FV := Lib.hid (fall_miss e)
    rw [e] at IC
    clear e
    go_wp2_with fail
    refine IC.out.mono ?_
    rintro e w2 ⟨rfl, b2⟩
    have B2 := Lib.hid (B1.out.trans (b2.mono B1.out.size))
    clear b2
    go_wp2
    go_ret2
    exact ⟨x, PO.out, ret_pair FV.out, B2.out⟩

set_option maxHeartbeats 1000000 in
theorem rfall_any (w : World) (v : Value) (l : List S2) (h : Sp w v l) (hN : Near l) (f t : Int) : Calls Try.prog 18 #[v, .int .i64 f, .int .i64 t] w (FallPost w l f t) := by
  have J := Lib.hid (rjoin_any w v l h hN)
  obtain ⟨a, cap, rfl, _⟩ := h.slice
  clear h hN
  go_enter Try.func18, Try.ntmps18
  go_wp2_with fail
  refine J.out.mono ?_
  rintro e w1 ⟨v1, x, rfl, hown, hpo, b1⟩
  have PO := Lib.hid hpo
  obtain ⟨a1, cap1, rfl, q1, q2, hAt⟩ := hown.sp
  have HAt := Lib.hid hAt
  have B1 := Lib.hid b1
  have hhit : ∀ i, i < x.length → fallP f t (fr x i, tp x i) = true → (∀ j, j < i → fallP f t (fr x j, tp x j) = false) → FallV x f t = (fr x i, true) := fun i a b c => fall_hit (idx_hit a b c)
  have hmiss : (∀ j, j < x.length → fallP f t (fr x j, tp x j) = false) → FallV x f t = (0, false) := fun a => fall_miss (idx_miss a)
  have HH := Lib.hid hhit
  have HM := Lib.hid hmiss
  clear hown hpo b1 hAt hhit hmiss
  unfold maxLen at q2
  generalize hn : x.length = n at *
  have HN := Lib.hid hn
  clear hn
  go_wp2
  go_loop [9] (fun i => ∃ k : Nat, k ≤ n ∧ i = .int .i64 k ∧ Hid (∀ j, j < k → fallP f t (fr x j, tp x j) = false)) (fun i => n - (intOf i).toNat)
  case atStart => exact ⟨0, Nat.zero_le _, rfl, fun j hj => by omega⟩
  case round =>
    obtain ⟨k, hk, rfl, hs⟩ := hrel
    by_cases hlt : k < n
    · obtain ⟨b', off', rfl, hA⟩ := HAt.out (by omega)
      have c1 := (hA k (by have := HN.out; omega)).1
      have HA := Lib.hid hA
      clear hA
      by_cases p1 : f ≤ fr x k
      · by_cases p2 : fr x k < t
        · have FV := Lib.hid (HH.out k hlt (by simp [fallP, p1, p2]) hs.out)
          go_wp2
          go_ret2
          exact ⟨x, PO.out, ret_pair FV.out, B1.out⟩
        · have ST : Hid (∀ j, j < k + 1 → fallP f t (fr x j, tp x j) = false) := fun j hj => by
            by_cases e : j = k
            · rw [e]; simp [fallP, p2]
            · exact hs.out j (by omega)
          go_wp2
          go_round
          case rel => exact ⟨k + 1, by omega, by go_num, ST⟩
          case measure => simp [intOf]; omega
      · have ST : Hid (∀ j, j < k + 1 → fallP f t (fr x j, tp x j) = false) := fun j hj => by
          by_cases e : j = k
          · rw [e]; simp [fallP, p1]
          · exact hs.out j (by omega)
        go_wp2
        go_round
        case rel => exact ⟨k + 1, by omega, by go_num, ST⟩
        case measure => simp [intOf]; omega
    · obtain rfl : k = n := by omega
      have FV := Lib.hid (HM.out hs.out)
      go_wp2
      go_ret2
      exact ⟨x, PO.out, ret_pair FV.out, B1.out⟩
theorem rows_two {W : World} {v u : Value} {x y : List S2} (hx : Sp W v x) (hy : Sp W u y) : Rows (W.alloc (.cells #[v, u] 22)) (.slice (some ⟨W.heap.size, 0, none⟩) 2 2) [x, y] :=
  ⟨_, 2, rfl, Nat.le_refl _, by unfold maxLen; omega, fun _ => ⟨_, _, rfl, fun i hi => by
    have hb : Below W.heap.size W (W.alloc (.cells #[v, u] 22)) := (Below.refl _ _).alloc (Nat.le_refl _) _
    rcases (by simp at hi; omega : i = 0 ∨ i = 1) with rfl | rfl
    · exact ⟨v, by go_simp, hx.below hb⟩
    · exact ⟨u, by go_simp, hy.below hb⟩⟩⟩
theorem plain_two_of {x y l : List S2} (h : JoinOf [x, y] l) : PlainOf (x ++ y) l := ⟨h.plain, fun t => by
  rw [h.low, low_append]
  constructor
  · rintro ⟨i, hi, c⟩
    rcases (by simp at hi; omega : i = 0 ∨ i = 1) with rfl | rfl
    · exact .inl c
    · exact .inr c
  · rintro (c | c)
    · exact ⟨0, by simp, c⟩
    · exact ⟨1, by simp, c⟩⟩

end Go.Proofs.Ytcphjeibanedhaa.Wi
